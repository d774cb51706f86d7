import PyProof.Rows.All
import Wide.All
import OpenK.AllK
import Wide.FinOn
import Lean
import PyProof.EqAt
import PyProof.EqKinds
import PyProof.TupleCall
import PyProof.NeKinds
import PyProof.CompUse
import PyProof.NsDelKeeps
import KE.KTryMore
import KE.RegKTryMore
import PyProof.SetNew
import PyProof.TupleKey
import PyProof.Rows.SetFrom
import PyProof.WalksMore
import PyProof.CollectWalk
import PyProof.FactsAll.set
import PyProof.FactsAll.set_1
import PyProof.FactsAll.set_2
import KE.KSortTup
import PyProof.ListRange
import PyProof.DictRoadsH
import PyProof.WalksEnum
import PyProof.EnumMake
import PyProof.Rows.EnumRows
import KE.KRevIter
import PyProof.DictWalks
import PyProof.ZipIter
import PyProof.Draws
import PyProof.WalkInts
import PyProof.FactsAll.dict_1
import PyProof.FactsAll.tuple_2
import PyProof.ConsumeS
import PySem.Challenge.RW_edgemoss_k07_whole_shapes_as_sets
set_option Elab.async false
set_option linter.all false
set_option maxRecDepth 100000
set_option maxHeartbeats 4000000
namespace L2
open PySem PySem.Spec PyProof.Rows
noncomputable abbrev Kg:=Sum Int Str
noncomputable def acM:Kg->Value->Bool
 | .inl k,v=>Value.isInt k v
 | .inr x,v=>Value.isStrOf x v
noncomputable def aik (w:World):Kg->Int
 | .inl k=>hashInt k
 | .inr x=>hashStr w x
theorem cV:∀ {k:Kg} {v:Value},acM k v=true->(∃ i t,k=Sum.inl i/\v=Value.int i t)∨(∃ x t,k=Sum.inr x/\v=Value.str x t)
 | .inl i,v,h=>by
  obtain ⟨t,e⟩:=Value.isInt_shape (k:=i) (v:=v) h
  exact .inl ⟨i,t,rfl,e⟩
 | .inr x,v,h=>by
  obtain ⟨t,e⟩:=Value.isStrOf_shape (x:=x) (v:=v) h
  exact .inr ⟨x,t,rfl,e⟩
theorem adB (a b:Int):decide ((Sum.inl a:Kg)=Sum.inl b)=(a == b):=by
 by_cases e:a=b
 ·subst e;simp
 ·have h:¬ (Sum.inl a:Kg)=Sum.inl b:=fun q=>e (Sum.inl.inj q)
  rw [decide_eq_false h]
  exact (beq_eq_false_iff_ne.mpr e).symm
theorem adC (a b:Str):decide ((Sum.inr a:Kg)=Sum.inr b)=decide (a=b):=by
 by_cases e:a=b
 ·subst e;simp
 ·have h:¬ (Sum.inr a:Kg)=Sum.inr b:=fun q=>e (Sum.inr.inj q)
  rw [decide_eq_false h,decide_eq_false e]
theorem adD (a:Int) (b:Str):decide ((Sum.inl a:Kg)=Sum.inr b)=false:=decide_eq_false (fun q=>nomatch q)
theorem adE (a:Str) (b:Int):decide ((Sum.inr a:Kg)=Sum.inl b)=false:=decide_eq_false (fun q=>nomatch q)
noncomputable def Qx (prog:Program) (w:World):PySem.KeyKind prog w Kg where
  is:=acM
  hash:=aik w
  inj:=fun v a b ha hb=>by
    rcases cV ha with ⟨i,t,rfl,rfl⟩|⟨x,t,rfl,rfl⟩
    . rcases cV hb with ⟨j,u,rfl,e⟩|⟨y,u,rfl,e⟩
      . injection e with e1 _;rw [e1]
      . exact nomatch e
    . rcases cV hb with ⟨j,u,rfl,e⟩|⟨y,u,rfl,e⟩
      . exact nomatch e
      . injection e with e1 _;rw [e1]
  byValue := fun k v h => by
    rcases cV h with ⟨i,t,rfl,rfl⟩|⟨x,t,rfl,rfl⟩ <;> rfl
  pyHash:=fun hv h=>by
    rcases cV hv with ⟨i,t,rfl,rfl⟩|⟨x,t,rfl,rfl⟩
    . exact wpAny_pyHash_int h
    . exact wpAny_pyHash_str h
  eqBool:=fun hu hv h=>by
    rcases cV hu with ⟨i,t,rfl,rfl⟩|⟨x,t,rfl,rfl⟩
    . rcases cV hv with ⟨j,u,rfl,rfl⟩|⟨y,u,rfl,rfl⟩
      . rw [adB] at h;exact wpAny_eqBool_int h
      . rw [adD] at h;exact SeqAt.EqAt.int_str i t y u _ _ _ _ h
    . rcases cV hv with ⟨j,u,rfl,rfl⟩|⟨y,u,rfl,rfl⟩
      . rw [adE] at h;exact SeqAt.EqAt.str_int x t j u _ _ _ _ h
      . rw [adC] at h;exact wpAny_eqBool_str h
  «strs»:=fun k x t v h=>by
    rcases cV h with ⟨i,u,rfl,e⟩|⟨y,u,rfl,e⟩
    . exact nomatch e
    . injection e with e1 _
      subst e1
      cases v <;> rfl
end L2
namespace L2
open PySem PySem.Spec PyProof.Rows
inductive V where
 | non|bl (b:Bool)|int (i:Int)|str (x:Str)|byt (b:Array UInt8)|flt (b:UInt64)|ref (a:Addr)|ty (n:String)
 deriving DecidableEq
noncomputable def RelV:V->Value->Prop
 | .non,u=>u=Value.none
 | .bl b,u=>u=Value.bool b
 | .int i,u=>∃ t,u=Value.int i t
 | .str x,u=>∃ t,u=Value.str x t
 | .byt b,u=>∃ t,u=Value.bytes b t
 | .flt b,u=>∃ t,u=Value.float b t
 | .ref a,u=>u=Value.ref a
 | .ty n,u=>u=Value.type n
noncomputable abbrev Vals:List V->List Value->Prop:=Paired RelV
theorem Vals.length {xs:List V} {us:List Value} (r:Vals xs us):xs.length=us.length:=Paired.length r
theorem Vals.get:∀ {xs:List V} {us:List Value} {i:Nat} {x:V},Vals xs us->xs[i]?=some x->∃ u,us[i]?=some u/\RelV x u
 | _,_,_,_,.nil,e=>by simp at e
 | _,_,0,_,.cons r _,e=>by simp at e;subst e;exact ⟨_,rfl,r⟩
 | _,_,i + 1,x,.cons _ t,e=>by
  obtain ⟨u,h1,h2⟩:=Vals.get (i:=i) (x:=x) t (by simpa using e)
  exact ⟨u,by simpa using h1,h2⟩
theorem Vals.append:∀ {xs ys:List V} {us ws:List Value},Vals xs us->Vals ys ws->Vals (xs++ys) (us++ws)
 | _,_,_,_,.nil,s=>s
 | _,_,_,_,.cons r t,s=>.cons r (Vals.append t s)
theorem Vals.take:∀ {xs:List V} {us:List Value} (n:Nat),Vals xs us->Vals (xs.take n) (us.take n)
 | _,_,0,_=>.nil
 | _,_,_ + 1,.nil=>.nil
 | _,_,n + 1,.cons r t=>.cons r (Vals.take n t)
theorem Vals.drop:∀ {xs:List V} {us:List Value} (n:Nat),Vals xs us->Vals (xs.drop n) (us.drop n)
 | _,_,0,r=>r
 | _,_,_ + 1,.nil=>.nil
 | _,_,n + 1,.cons _ t=>Vals.drop n t
theorem Vals.none_of:∀ {xs:List V} {us:List Value} {i:Nat},Vals xs us->xs[i]?=none->us[i]?=none:=fun {xs us i} r e=>by
 have h1:=r.length
 have h2:xs.length<=i:=List.getElem?_eq_none_iff.mp e
 exact List.getElem?_eq_none_iff.mpr (by omega)
noncomputable def afX:Option V->Option Value->Prop
 | some v,some u=>RelV v u
 | none,none=>True
 | _,_=>False
noncomputable def KV {κ:Type}:List (κ×V)->List (κ×Value)->Prop:=Paired fun (p:κ×V) (q:κ×Value)=>p.1=q.1/\RelV p.2 q.2
noncomputable def kV:Kg->V
 | .inl i=>.int i
 | .inr x=>.str x
inductive HO where
 /-- a list -/
 | lst (xs:List V)
 /-- a tuple (never changes) -/
 | tup (xs:List V)
 /-- a dict whose keys are ints and texts;one whose keys are tuples of ints and texts (the empty one is both) -/
 | dK (kvs:List (Kg×V))|dT (kvs:List (List Kg×V))
 /-- a set of ints: its members,its size -/
 | set (S:Int->Bool) (n:Nat)
 /-- an instance of the class at C,its dict at dx,its attributes -/
 | ins (C dx:Addr) (fs:List (Str×V))
 /-- the dict of the instance at x -/
 | own (x:Addr)
 /-- the dict of an exception -/
 | xd (fs:List (Str×V))
 /-- a bound method,f of x -/
 | met (f x:Addr)
 /-- a range object lo,lo + 1,.. below hi -/
 | rng (lo hi:Int)
 /-- a thing that is known to the object (the script;a dict while a loop afY it): read,never written while it is so -/
 | Cj (o:Obj) (u:HO)
 /-- a code object's table -/
 | tbl (ps:Array Value)
 /-- any other thing,by what is true of its one object (a def of one's own: yG a S n:=HO.ext fun h=>..) -/
 | ext (φ:Heap->Prop)
noncomputable abbrev Hp:=Addr->Option HO
noncomputable def gC (H:Hp) (a:Addr) (o:HO):Hp:=fun b=>if b=a then some o else H b
theorem aY {H:Hp} {a:Addr} {o:HO}:gC H a o a=some o:=by unfold gC;rw [if_pos rfl]
theorem bf {H:Hp} {a b:Addr} {o:HO} (h:b≠a):gC H a o b=H b:=by unfold gC;rw [if_neg h]
theorem bh {H:Hp} {a b:Addr} {o:HO} (h:H a=some o) (h':H b=none):a≠b:=by
 intro e;subst e;rw [h] at h';cases h'
section
variable (P:Program) (w:World)
noncomputable def gn (H:Hp) (h:Heap) (a:Addr):HO->Prop
 | .lst xs=>xs.length<=sizeLine/\∃ (its:List Value) (n:Nat),Vals xs its/\h.get? a=some { cls:=.type "list",data:=.seq its.toArray n }
 | .tup xs=>xs.length<=sizeLine/\∃ its:List Value,Vals xs its/\IsTup h a its.toArray
 | .dK kvs=>kvs.length<=sizeLine/\(a == sysModules)=false/\∃ vs,KV kvs vs/\h.DictOf (Qx P w) a vs
 | .dT kvs=>kvs.length<=sizeLine/\(a == sysModules)=false/\∃ xs:List (List Kg×Addr×Value),
   Paired (fun (p:List Kg×V) (q:List Kg×Addr×Value)=>p.1=q.1/\H q.2.1=some (.tup (p.1.map kV))/\RelV p.2 q.2.2) kvs xs /\
   ∃ o es ep,h.get? a=some o/\o.ExactDict/\o.data=.dict es ep/\es.toList=xs.map (entryOfKey (tupleKind (Qx P w)))/\(xs.map (·.1)).Nodup
 | .set S n=>h.SetOf (intKind P w) a S n
 | .ins C dx fs=>H dx=some (.own a)/\fs.length<=1000/\dx≠a/\h.get? a=some (PySem.W.instObj C dx) /\
   ∃ mA,h.Ns1 dx mA/\(∀ f,afX (fs.lookup f) (mA f))/\PySem.Within mA (fs.map (·.1))
 | .own _=>∃ o,h.get? a=some o
 | .xd fs=>∃ mA,h.Ns1 a mA/\∀ f,afX (fs.lookup f) (mA f)
 | .rng lo hi=>∃ t u v,h.get? a=some { cls:=.type "range",data:=.fields #[.int lo t,.int hi u,.int 1 v] }
 | .Cj o u=>h.get? a=some o/\gn H h a u
 | .tbl ps=>h.get? a=some { cls:=.none,data:=.fields ps }
 | .met f x=>h.get? a=some (PySem.W.methodObj (.ref f) (.ref x))
 | .ext φ=>φ h/\(∃ o,h.get? a=some o)/\∀ h1 h2:Heap,φ h1->(∀ o,h1.get? a=some o->h2.get? a=some o)->φ h2
noncomputable def yr (H:Hp) (h:Heap):Prop:=∀ a o,H a=some o->gn P w H h a o
end
section
variable {P:Program} {w:World} {H H':Hp} {h h':Heap} {a:Addr} {o:HO}
theorem gn.lt (x:gn P w H h a o):a < h.objs.size:=by
 cases o with
 | lst xs=>obtain ⟨_,_,_,_,e⟩:=x;exact Heap.lt_size e
 | tup xs=>obtain ⟨_,_,_,p⟩:=x;exact p.lt
 | dK kvs=>obtain ⟨_,_,_,_,o,_,_,e,_⟩:=x;exact Heap.lt_size e
 | dT kvs=>obtain ⟨_,_,_,_,o,_,_,e,_⟩:=x;exact Heap.lt_size e
 | set S n=>obtain ⟨o,_,_,_,e,_⟩:=x;exact Heap.lt_size e
 | ins C dx fs=>obtain ⟨_,_,_,e,_⟩:=x;exact Heap.lt_size e
 | own y=>obtain ⟨_,e⟩:=x;exact Heap.lt_size e
 | xd fs=>obtain ⟨_,⟨_,_,_,e,_⟩,_⟩:=x;exact Heap.lt_size e
 | rng lo hi=>obtain ⟨_,_,_,e⟩:=x;exact Heap.lt_size e
 | Cj ob u=>obtain ⟨e,_⟩:=x;exact Heap.lt_size e
 | tbl ps=>exact Heap.lt_size (show h.get? a=some _ from x)
 | met f y=>exact Heap.lt_size (show h.get? a=some _ from x)
 | ext φ=>obtain ⟨_,⟨_,e⟩,_⟩:=x;exact Heap.lt_size e
theorem Paired.afZ {α β:Type} {F G:α->β->Prop}:∀ {l₁:List α} {l₂:List β},Paired F l₁ l₂->(∀ a b,F a b->G a b)->Paired G l₁ l₂
 | _,_,.nil,_=>.nil
 | _,_,.cons r t,f=>.cons (f _ _ r) (Paired.afZ t f)
theorem gn.stay (x:gn P w H h a o) (k:∀ b u,(b=a∨H b=some (.own a))->h.get? b=some u->h'.get? b=some u)
  (ho:∀ b,H b=some (.own a)->H' b=some (.own a)) (ht:∀ b xs,H b=some (.tup xs)->H' b=some (.tup xs)):gn P w H' h' a o:=by
 induction o with
 | lst xs=>obtain ⟨z,its,n,r,e⟩:=x;exact ⟨z,its,n,r,k _ _ (.inl rfl) e⟩
 | tup xs=>obtain ⟨z,its,r,ob,e,c⟩:=x;exact ⟨z,its,r,ob,k _ _ (.inl rfl) e,c⟩
 | dK kvs=>obtain ⟨z,y,vs,r,ob,es,ep,e,c⟩:=x;exact ⟨z,y,vs,r,ob,es,ep,k _ _ (.inl rfl) e,c⟩
 | dT kvs =>
  obtain ⟨z,y,xs,r,ob,es,ep,e,c⟩:=x
  exact ⟨z,y,xs,Paired.afZ r fun p q z=>⟨z.1,ht _ _ z.2.1,z.2.2⟩,ob,es,ep,k _ _ (.inl rfl) e,c⟩
 | set S n=>obtain ⟨ob,es,ep,t,e,c⟩:=x;exact ⟨ob,es,ep,t,k _ _ (.inl rfl) e,c⟩
 | ins C dx fs =>
  obtain ⟨d,z,ne,e,mA,⟨od,es,ep,e2,c⟩,r⟩:=x
  exact ⟨ho _ d,z,ne,k _ _ (.inl rfl) e,mA,⟨od,es,ep,k _ _ (.inr d) e2,c⟩,r⟩
 | own y=>obtain ⟨ob,e⟩:=x;exact ⟨ob,k _ _ (.inl rfl) e⟩
 | xd fs=>obtain ⟨mA,⟨od,es,ep,e,c⟩,r⟩:=x;exact ⟨mA,⟨od,es,ep,k _ _ (.inl rfl) e,c⟩,r⟩
 | rng lo hi=>obtain ⟨t,u,v,e⟩:=x;exact ⟨t,u,v,k _ _ (.inl rfl) e⟩
 | Cj ob u ih=>obtain ⟨e,q⟩:=x;exact ⟨k _ _ (.inl rfl) e,ih q⟩
 | tbl ps =>
  have e:h.get? a=some { cls:=.none,data:=.fields ps }:=x
  show h'.get? a=some { cls:=.none,data:=.fields ps }
  exact k a _ (.inl rfl) e
 | met f y =>
  have e:h.get? a=some (PySem.W.methodObj (.ref f) (.ref y)):=x
  show h'.get? a=some (PySem.W.methodObj (.ref f) (.ref y))
  exact k a _ (.inl rfl) e
 | ext φ=>obtain ⟨p,⟨o,e⟩,st⟩:=x;exact ⟨st _ _ p fun o q=>k _ _ (.inl rfl) q,⟨o,k _ _ (.inl rfl) e⟩,st⟩
theorem yr.lt (x:yr P w H h) (e:H a=some o):a < h.objs.size:=(x a o e).lt
theorem yr.fresh (x:yr P w H h) (e:h.objs.size<=a):H a=none:=by
 cases q:H a with
 | none=>rfl
 | some u=>exact absurd (Nat.lt_of_lt_of_le (x.lt q) e) (Nat.lt_irrefl _)
theorem yr.kept (x:yr P w H h) (k:∀ b u,h.get? b=some u->h'.get? b=some u):yr P w H h':=fun a o e =>
 (x a o e).stay (fun b u _ q=>k b u q) (fun _ q=>q) fun _ _ q=>q
theorem yr.laid (x:yr P w H h) (k:∀ b u,h.get? b=some u->h'.get? b=some u) (hp:h.objs.size<=a) (new:gn P w (gC H a o) h' a o):yr P w (gC H a o) h':=fun b u e=>by
 have hn:=x.fresh hp
 by_cases hb:b=a
 ·subst hb;rw [aY] at e;cases e;exact new
 ·rw [bf hb] at e
  exact (x b u e).stay (fun c v _ q=>k c v q) (fun c q=>by rw [bf (bh q hn)];exact q) fun c xs q=>by rw [bf (bh q hn)];exact q
end
noncomputable def Rd (H:Hp) (a:Addr) (u:HO):Prop:=H a=some u∨∃ o,H a=some (.Cj o u)
theorem Rd.ok {P:Program} {w:World} {H:Hp} {h:Heap} {a:Addr} {u:HO} (r:Rd H a u) (x:yr P w H h):gn P w H h a u:=by
 rcases r with r|⟨o,r⟩
 ·exact x a u r
 ·obtain ⟨_,q⟩:=x a _ r
  exact q
noncomputable def Mut:Option HO->Prop
 | some (.lst _)=>True
 | some (.dK _)=>True
 | some (.dT _)=>True
 | some (.set _ _)=>True
 | some (.ins _ _ _)=>True
 | some (.ext _)=>True
 | _=>False
section
variable {P:Program} {w:World} {H:Hp} {h h':Heap} {x e:Addr} {o':HO}
theorem yr.write (ok:yr P w H h) (mu:Mut (H x)) (he:e=x∨H e=some (.own x)) (k:∀ b u,b≠e->h.get? b=some u->h'.get? b=some u) (heo:∃ u,h'.get? e=some u)
  (new:gn P w (gC H x o') h' x o'):yr P w (gC H x o') h':=fun b u q=>by
 have aga:∀ c y,H c=some (.own y)->c≠x:=fun c y r z=>by subst z;rw [r] at mu;exact mu
 have ain:∀ c xs,H c=some (.tup xs)->c≠x:=fun c xs r z=>by subst z;rw [r] at mu;exact mu
 by_cases hb:b=x
 ·subst hb;rw [aY] at q;cases q;exact new
 ·rw [bf hb] at q
  by_cases hbe:b=e
  ·have q':H b=some (.own x):=by
    rcases he with z|z
    ·exact absurd (hbe.trans z) hb
    ·rw [hbe];exact z
   rw [q] at q';cases q'
   obtain ⟨v,hv⟩:=heo
   exact ⟨v,by rw [hbe];exact hv⟩
  ·refine (ok b u q).stay (fun c v hc r=>k c v ?_ r) (fun c r=>by rw [bf (aga c b r)];exact r) fun c xs r=>by rw [bf (ain c xs r)];exact r
   rcases hc with rfl|hc
   ·exact hbe
   ·rintro rfl
    rcases he with z|z
    ·exact aga c b hc z
    ·rw [hc] at z;cases z;exact hb rfl
end
structure Un (fs ex:List Addr) (H H':Hp) (h h':Heap):Prop where
 keep:∀ b o,h.get? b=some o->H b=none->b∉fs->b∉ex->h'.get? b=some o
 slot:∀ b o,h.get? b=some o->H b=none->b∈fs->b∉ex->∃ sl,h'.get? b=some { o with slots:=sl }
 free:∀ b o,h.get? b=some o->H b=none->b∉ex->H' b=none
 there:∀ b o,h.get? b=some o->b∉ex->∃ o',h'.get? b=some o'
 tups:∀ b xs,H b=some (.tup xs)->H' b=some (.tup xs)
 yH:∀ b o u,H b=some (.Cj o u)->H' b=some (.Cj o u)
 Ck:∀ b ps,H b=some (.tbl ps)->∃ more,H' b=some (.tbl (ps++more))
section
variable {fs fs' ex ex':List Addr} {H H1 H2:Hp} {h h1 h2 h':Heap} {a x e:Addr} {o:HO}
theorem Un.any (u:Un fs ex H H1 h h1) {b:Addr} {ob:Obj} (q:h.get? b=some ob) (n:H b=none) (hx:b∉ex):∃ sl,h1.get? b=some { ob with slots:=sl }:=by
 by_cases hb:b∈fs
 ·exact u.slot b ob q n hb hx
 ·exact ⟨ob.slots,u.keep b ob q n hb hx⟩
theorem Un.kept (k:∀ b u,h.get? b=some u->h'.get? b=some u):Un fs ex H H h h' :=
 ⟨fun b ob q _ _ _=>k b ob q,fun b ob q _ _ _=>⟨ob.slots,k b ob q⟩,fun _ _ _ n _=>n,fun b ob q _=>⟨ob,k b ob q⟩,fun _ _ q=>q,fun _ _ _ q=>q,fun _ ps q=>⟨#[],by rw [q];simp⟩⟩
theorem Un.refl:Un fs ex H H h h:=Un.kept fun _ _ q=>q
theorem Un.laid (k:∀ b u,h.get? b=some u->h'.get? b=some u) (hp:h.objs.size<=a) (hn:H a=none):Un fs ex H (gC H a o) h h' where
 keep:=fun b u q _ _ _=>k b u q
 slot:=fun b u q _ _ _=>⟨u.slots,k b u q⟩
 free:=fun b u q n _=>by rw [bf (Nat.ne_of_lt (Nat.lt_of_lt_of_le (Heap.lt_size q) hp))];exact n
 there:=fun b u q _=>⟨u,k b u q⟩
 tups:=fun b xs q=>by rw [bf (bh q hn)];exact q
 yH:=fun b u xs q=>by rw [bf (bh q hn)];exact q
 Ck:=fun b ps q=>⟨#[],by rw [bf (bh q hn),q];simp⟩
theorem Un.write (mu:Mut (H x)) (he:e=x∨H e=some (.own x)) (k:∀ b u,b≠e->h.get? b=some u->h'.get? b=some u) (heo:∃ u,h'.get? e=some u):Un fs ex H (gC H x o) h h':=by
 have hx:∀ b,H b=none->b≠x:=fun b n z=>by subst z;rw [n] at mu;exact mu
 have hb:∀ b,H b=none->b≠e:=fun b n z=>by
  subst z
  rcases he with r|r
  ·exact hx b n r
  ·rw [n] at r;cases r
 have hm:∀ b u,H b=some u->¬ Mut (some u)->b≠x:=fun b u q nm z=>by subst z;rw [q] at mu;exact nm mu
 refine ⟨fun b u q n _ _=>k b u (hb b n) q,fun b u q n _ _=>⟨u.slots,k b u (hb b n) q⟩,fun b u q n _=>by rw [bf (hx b n)];exact n,fun b u q _=>?_,
  fun b xs q=>by rw [bf (hm b _ q fun z=>z)];exact q,fun b u xs q=>by rw [bf (hm b _ q fun z=>z)];exact q,fun b ps q=>⟨#[],by rw [bf (hm b _ q fun z=>z),q];simp⟩⟩
 by_cases hbe:b=e
 ·subst hbe;exact heo
 ·exact ⟨u,k b u hbe q⟩
end
noncomputable def trk (h:Heap) (H:Hp):List Addr:=(List.range h.objs.size).filter fun a=>(H a).isSome
noncomputable def GC (h:Heap) (H:Hp):Heap:=PySem.W.hideAll h (trk h H)
theorem Sq (h:Heap) (H:Hp):(GC h H).objs.size=h.objs.size:=PySem.W.hideAll_size _ _
theorem Wg {h:Heap} {H:Hp} {b:Addr} {o:Obj} (e:h.get? b=some o) (n:H b=none):(GC h H).get? b=some o :=
 PySem.W.hideAll_get _ e fun hm=>by
  have q:(H b).isSome=true:=(List.mem_filter.mp hm).2
  rw [n] at q;simp at q
theorem aaE {h:Heap} {H:Hp} {b:Addr} {o:Obj} (e:(GC h H).get? b=some o):h.get? b=some o/\H b=none:=by
 have e':h.get? b=some o:=PySem.W.of_hideAll (trk h H) e
 refine ⟨e',?_⟩
 cases q:H b with
 | none=>rfl
 | some x =>
  have hm:b∈trk h H:=List.mem_filter.mpr ⟨List.mem_range.mpr (Heap.lt_size e'),by simp [q]⟩
  have z:(GC h H).get? b=none:=PySem.W.hideAll_none (trk h H) hm
  rw [z] at e;cases e
noncomputable def Qy (g h:Heap) (L:Addr):List (Addr×Obj):=(List.range h.objs.size).filterMap fun a=>if a=L∨(g.get? a).isSome=true then none else (h.get? a).map fun o=>(a,o)
theorem Km {g h:Heap} {L a:Addr} {o:Obj} (h1:a≠L) (h2:g.get? a=none) (h3:h.get? a=some o):(a,o)∈Qy g h L :=
 List.mem_filterMap.mpr ⟨a,List.mem_range.mpr (Heap.lt_size h3),by simp [h1,h2,h3]⟩
noncomputable def rest (g h:Heap) (L d:Addr):List (Addr×Obj):=(Qy g h L).filter fun p=>decide (p.1≠d)
theorem yI {g h:Heap} {L d a:Addr} {o:Obj} (h1:a≠L) (h2:g.get? a=none) (h3:h.get? a=some o) (h4:a≠d):(a,o)∈rest g h L d :=
 List.mem_filter.mpr ⟨Km h1 h2 h3,decide_eq_true h4⟩
end L2
namespace L2
open PySem PySem.Spec PyProof.Rows
structure Mod (K:PySem.W.Frag) (mg:Str->Option Value) (base:Heap):Prop where
 kin:K.In base
 glob:base.Ns mainGlobals mg
 blt:∃ mb,base.Ns builtinsNs mb/\∀ x:Str,x≠"__name__"->mb x=bootBuiltins x
 nolimit:base.NoLimit
structure Cx where
 prog:Program
 w:World
 K:PySem.W.Frag
 mg:Str->Option Value
 base:Heap
 A:Around
 N:List Str
 s₀:Shared
 H₀:Hp
 env:Env
 outer:List Env
 stack:List Env
 ex:List Addr
 fn:Str->Bool
 calm:Bool
 pn:List (Addr×Obj)
 xe:Value->Shared->Prop
noncomputable def uK (l:List Env):List Addr:=l.filterMap (·.frame)
noncomputable abbrev Cx.fs (X:Cx):List Addr:=uK X.outer
noncomputable def Vis (sc:Scope) (x:Str):Prop:=sc.names.lookup x=some .local∨sc.names.lookup x=some .cell∨sc.names.lookup x=some .free
noncomputable def Loc (sc:Scope) (x:Str):Prop:=sc.names.lookup x=some .local∨sc.names.lookup x=some .cell
noncomputable def aio (env:Env) (h:Heap) (m:Str->Option Value) (x:Str) (u:Value):Prop :=
 (env.kindOf x=some .local/\m x=some u)∨((env.kindOf x=some .cell∨env.kindOf x=some .free)/\∃ c,env.cells.lookup x=some c/\h.IsCell c (some u))
structure Cx.Ok (X:Cx):Prop where
 mod:Mod X.K X.mg X.base
 kind:X.env.scope.kind=.function
 glob:X.env.globals=mainGlobals
 blt:X.env.builtins=builtinsNs
 above:X.s₀.heap.objs.size<=X.env.locals
 inj:∀ x y c,X.env.cells.lookup x=some c->X.env.cells.lookup y=some c->x=y
 has:∀ x,(X.env.kindOf x=some .cell∨X.env.kindOf x=some .free)->∃ c,X.env.cells.lookup x=some c
 cab:∀ x c,X.fn x=true->X.env.cells.lookup x=some c->X.s₀.heap.objs.size<=c
 hd:X.calm=true->X.A.handled=none
 frames:X.A.frames=some X.stack
 stk:X.stack=X.outer∨(X.stack=X.env::X.outer/\X.env.frame=some X.env.locals)
 exf:∀ b∈X.ex,b≠X.env.locals/\∀ x c,X.env.cells.lookup x=some c->c≠b
 bs:∀ b o,X.base.get? b=some o->X.s₀.heap.get? b=some o/\X.H₀ b=none
 bsz:X.base.objs.size<=X.s₀.heap.objs.size
 Ss:∀ b o,X.base.get? b=some o->b∉X.ex
 aaF:∀ b∈X.ex,b∉X.fs
 yJ:X.s₀.heap.FunFrames X.base X.outer
 frf:∀ b∈X.fs,X.H₀ b=none
structure Inv (X:Cx) (pins:List (Addr×Obj)) (σ:List (Option V)) (H:Hp) (s:Shared):Prop where
 ok:X.Ok
 os:s.os=X.s₀.os
 bare:AllBare s.gens
 base:Un X.fs X.ex X.H₀ H X.s₀.heap s.heap
 loc:∃ m,s.heap.Ns X.env.locals m/\∀ (i:Nat) (x:Str) (v:V),X.N[i]?=some x->σ[i]?=some (some v)->Vis X.env.scope x->∃ u,RelV v u/\aio X.env s.heap m x u
 cell:∀ x c,X.env.cells.lookup x=some c->∃ v,s.heap.IsCell c v
 free:H X.env.locals=none
 pJ:∀ x c,X.env.cells.lookup x=some c->H c=none
 pin:∀ p∈X.pn++pins,s.heap.get? p.1=some p.2/\H p.1=none/\p.1≠X.env.locals/\p.1∉X.fs/\∀ v,p.2.data≠.cell v
 hok:yr X.prog X.w H s.heap
 len:σ.length=X.N.length
section
variable {X:Cx} {pins:List (Addr×Obj)} {σ:List (Option V)} {H H':Hp} {s:Shared} {h':Heap}
theorem Cx.Ok.aip (ok:X.Ok) {b:Addr} {o:Obj} (e:X.base.get? b=some o):b∉X.fs:=fun hb=>by
 have:=(ok.yJ.mem hb).1
 rw [e] at this;cases this
theorem Inv.bs (I:Inv X pins σ H s):∀ b o,X.base.get? b=some o->s.heap.get? b=some o/\H b=none:=fun b o e =>
 ⟨I.base.keep b o (I.ok.bs b o e).1 (I.ok.bs b o e).2 (I.ok.aip e) (I.ok.Ss b o e),I.base.free b o (I.ok.bs b o e).1 (I.ok.bs b o e).2 (I.ok.Ss b o e)⟩
theorem Inv.bk (I:Inv X pins σ H s):∀ b o,X.base.get? b=some o->s.heap.get? b=some o:=fun b o e=>(I.bs b o e).1
theorem Inv.mod (I:Inv X pins σ H s):Mod X.K X.mg X.base:=I.ok.mod
theorem Inv.VL (I:Inv X pins σ H s):X.K.In s.heap:=I.ok.mod.kin.keeps I.bk
theorem Inv.lt (I:Inv X pins σ H s):X.env.locals < s.heap.objs.size:=let ⟨_,hn,_⟩:=I.loc;hn.lt
theorem Inv.sz (I:Inv X pins σ H s):X.s₀.heap.objs.size<=s.heap.objs.size:=Nat.le_trans I.ok.above (Nat.le_of_lt I.lt)
theorem Inv.aiq (I:Inv X pins σ H s) {a:Addr} (h:s.heap.objs.size<=a):a∉X.fs:=fun hb=>by
 obtain ⟨_,o,ho,_⟩:=I.ok.yJ.mem hb
 exact absurd (Nat.lt_of_lt_of_le (Heap.lt_size ho) (Nat.le_trans I.sz h)) (Nat.lt_irrefl _)
theorem Inv.cne (I:Inv X pins σ H s):∀ x c,X.env.cells.lookup x=some c->c≠X.env.locals:=fun x c e z=>by
 obtain ⟨v,o,ho,hd⟩:=I.cell x c e
 obtain ⟨m,⟨o',es,ep,ho',hd',_⟩,_⟩:=I.loc
 rw [z,ho'] at ho;cases ho;rw [hd'] at hd;cases hd
theorem Inv.yJ (I:Inv X pins σ H s):s.heap.FunFrames X.base X.outer:=by
 have all:∀ (l:List Env),(∀ b∈uK l,b∈X.fs)->X.s₀.heap.FunFrames X.base l->s.heap.FunFrames X.base l:=by
  intro l
  induction l with
  | nil=>intro _ _;trivial
  | cons env r ih =>
   intro hs hl
   obtain ⟨hk,⟨L,o,hf,hn,ho,hd⟩,hr⟩:=hl
   have hL:L∈X.fs:=hs L (by unfold uK;rw [List.filterMap_cons,hf];exact List.mem_cons_self)
   obtain ⟨sl,e⟩:=I.base.slot L o ho (I.ok.frf L hL) hL fun z=>I.ok.aaF L z hL
   exact ⟨hk,⟨L,_,hf,hn,e,hd⟩,ih (fun b hb=>hs b (by unfold uK;rw [List.filterMap_cons,hf];exact List.mem_cons_of_mem _ hb)) hr⟩
 exact all X.outer (fun _ hb=>hb) I.ok.yJ
theorem Inv.stack (I:Inv X pins σ H s):s.heap.FunFrames X.base X.stack:=by
 rcases I.ok.stk with e|⟨e,hf⟩
 ·rw [e];exact I.yJ
 ·rw [e]
  obtain ⟨m,hn,_⟩:=I.loc
  refine .cons (by rw [I.ok.kind];decide) hf hn ?_ I.yJ
  exact Heap.get?_none_of_le (Nat.le_trans I.ok.bsz I.ok.above)
theorem Inv.yK (I:Inv X pins σ H s):∀ b∈uK X.stack,b∈X.env.locals::X.fs:=fun b hb=>by
 rcases I.ok.stk with e|⟨e,hf⟩
 ·rw [e] at hb;exact List.mem_cons_of_mem _ hb
 ·rw [e] at hb
  unfold uK at hb
  rw [List.filterMap_cons,hf] at hb
  exact hb
theorem Inv.GD (I:Inv X pins σ H s):∀ b∈uK X.stack,H b=none:=fun b hb=>by
 rcases List.mem_cons.mp (I.yK b hb) with e|hb
 ·rw [e];exact I.free
 ·obtain ⟨_,o,ho,_⟩:=I.ok.yJ.mem hb
  exact I.base.free b o ho (I.ok.frf b hb) fun z=>I.ok.aaF b z hb
theorem Inv.step {g':Array GenState} {t':Nat} {d':Drawn} {ch:List Addr} (I:Inv X pins σ H s)
  (hch:∀ b∈ch,(b∈X.ex∨X.s₀.heap.objs.size<=b)/\b≠X.env.locals/\(∀ x c,X.env.cells.lookup x=some c->c≠b)/\∀ p∈X.pn++pins,p.1≠b)
  (keep:∀ b o,b≠X.env.locals->b∉X.fs->b∉ch->s.heap.get? b=some o->H b=none->h'.get? b=some o)
  (slot:∀ b o,b≠X.env.locals->b∈X.fs->b∉ch->s.heap.get? b=some o->H b=none->∃ sl,h'.get? b=some { o with slots:=sl }) (free:∀ b o,b∉ch->s.heap.get? b=some o->H b=none->H' b=none)
  (there:∀ b o,b∉ch->s.heap.get? b=some o->∃ o',h'.get? b=some o')
  (tups:∀ b xs,H b=some (.tup xs)->H' b=some (.tup xs)) (yH:∀ b o u,H b=some (.Cj o u)->H' b=some (.Cj o u)) (Ck:∀ b ps,H b=some (.tbl ps)->∃ more,H' b=some (.tbl (ps++more)))
  (ns:∀ m,s.heap.Ns X.env.locals m->h'.Ns X.env.locals m) (hok:yr X.prog X.w H' h') (hg:AllBare g') :
  Inv X pins σ H' { s with heap:=h',gens:=g',drawn:=d',toks:=t' }:=by
 have neL:∀ b o,X.s₀.heap.get? b=some o->b≠X.env.locals:=fun b o e=>Nat.ne_of_lt (Nat.lt_of_lt_of_le (Heap.lt_size e) I.ok.above)
 have neC:∀ b o,X.s₀.heap.get? b=some o->b∉X.ex->b∉ch:=fun b o e hx hb=>by
  rcases (hch b hb).1 with z|z
  ·exact hx z
  ·exact absurd (Nat.lt_of_lt_of_le (Heap.lt_size e) z) (Nat.lt_irrefl _)
 have cellK:∀ x c,X.env.cells.lookup x=some c->∀ v,s.heap.IsCell c v->h'.IsCell c v:=fun x c e v ⟨o,ho,hd⟩=>by
  have nch:c∉ch:=fun z=>(hch c z).2.2.1 x c e rfl
  by_cases hc:c∈X.fs
  ·obtain ⟨sl,q⟩:=slot c o (I.cne x c e) hc nch ho (I.pJ x c e)
   exact ⟨_,q,hd⟩
  ·exact ⟨o,keep c o (I.cne x c e) hc nch ho (I.pJ x c e),hd⟩
 refine ⟨I.ok,I.os,hg,⟨fun b o e n hb hx=>?_,fun b o e n hb hx=>?_,fun b o e n hx=>?_,fun b o e hx=>?_,fun b xs e=>tups b xs (I.base.tups b xs e),fun b o xs e=>yH b o xs (I.base.yH b o xs e),fun b ps e=>?_⟩,?_,fun x c e=>?_,?_,fun x c e=>?_,fun p hp=>?_,hok,I.len⟩
 ·exact keep b o (neL b o e) hb (neC b o e hx) (I.base.keep b o e n hb hx) (I.base.free b o e n hx)
 ·obtain ⟨sl,e1⟩:=I.base.slot b o e n hb hx
  obtain ⟨sl',e2⟩:=slot b _ (neL b o e) hb (neC b o e hx) e1 (I.base.free b o e n hx)
  exact ⟨sl',e2⟩
 ·obtain ⟨o',e1⟩:=I.base.there b o e hx
  exact free b o' (neC b o e hx) e1 (I.base.free b o e n hx)
 ·obtain ⟨o',e1⟩:=I.base.there b o e hx
  exact there b o' (neC b o e hx) e1
 ·obtain ⟨m1,e1⟩:=I.base.Ck b ps e
  obtain ⟨m2,e2⟩:=Ck b _ e1
  exact ⟨m1++m2,by rw [e2,Array.append_assoc]⟩
 ·obtain ⟨m,hn,hl⟩:=I.loc
  refine ⟨m,ns m hn,fun i x v e1 e2 e3=>?_⟩
  obtain ⟨u,r,l⟩:=hl i x v e1 e2 e3
  refine ⟨u,r,?_⟩
  rcases l with l|⟨k,c,e,z⟩
  ·exact .inl l
  ·exact .inr ⟨k,c,e,cellK x c e _ z⟩
 ·obtain ⟨v,z⟩:=I.cell x c e
  exact ⟨v,cellK x c e v z⟩
 ·obtain ⟨m,⟨o,_,_,ho,_⟩,_⟩:=I.loc
  exact free _ o (fun z=>(hch _ z).2.1 rfl) ho I.free
 ·obtain ⟨v,o,ho,hd⟩:=I.cell x c e
  exact free c o (fun z=>(hch c z).2.2.1 x c e rfl) ho (I.pJ x c e)
 ·obtain ⟨e,n,ne,nf,d⟩:=I.pin p hp
  have nch:p.1∉ch:=fun z=>(hch p.1 z).2.2.2 p hp rfl
  exact ⟨keep p.1 p.2 ne nf nch e n,free p.1 p.2 nch e n,ne,nf,d⟩
theorem Inv.un {t':Nat} (I:Inv X pins σ H s) (u:Un X.fs [] H H' s.heap h') (hok:yr X.prog X.w H' h'):Inv X pins σ H' { s with heap:=h',toks:=t' }:=by
 obtain ⟨m,⟨o,es,ep,ho,r⟩,_⟩:=id I.loc
 obtain ⟨sl,hL⟩:=u.any ho I.free (by simp)
 exact I.step (g':=s.gens) (d':=s.drawn) (ch:=[]) (fun _ z=>nomatch z) (fun b o _ hb _ e n=>u.keep b o e n hb (by simp)) (fun b o _ hb _ e n=>u.slot b o e n hb (by simp)) (fun b o _ e n=>u.free b o e n (by simp)) (fun b o _ e=>u.there b o e (by simp)) u.tups u.yH u.Ck (fun m' hm=>by
  obtain ⟨o',es',ep',ho',r'⟩:=hm
  rw [ho] at ho';cases ho'
  exact ⟨_,es',ep',hL,r'⟩) hok I.bare
theorem Inv.call {g':Array GenState} {t':Nat} {d':Drawn} {ch:List Addr} (I:Inv X pins σ H s) (u:Un (uK X.stack) ch H H' s.heap h') (hok:yr X.prog X.w H' h') (hg:AllBare g')
  (hch:∀ b∈ch,(b∈X.ex∨X.s₀.heap.objs.size<=b)/\b≠X.env.locals/\(∀ x c,X.env.cells.lookup x=some c->c≠b)/\∀ p∈X.pn++pins,p.1≠b) :
  Inv X pins σ H' { s with heap:=h',gens:=g',drawn:=d',toks:=t' }:=by
 obtain ⟨m,⟨o,es,ep,ho,r⟩,_⟩:=id I.loc
 obtain ⟨sl,hL⟩:=u.any ho I.free fun z=>(hch _ z).2.1 rfl
 exact I.step (ch:=ch) hch (fun b o hL hb hc e n=>u.keep b o e n (fun z=>(List.mem_cons.mp (I.yK b z)).elim hL hb) hc) (fun b o _ _ hc e n=>u.any e n hc) (fun b o hc e n=>u.free b o e n hc) (fun b o hc e=>u.there b o e hc) u.tups u.yH u.Ck (fun m' hm=>by
  obtain ⟨o',es',ep',ho',r'⟩:=hm
  rw [ho] at ho';cases ho'
  exact ⟨_,es',ep',hL,r'⟩) hok hg
theorem Inv.turned {t':Nat} {it:Addr} (I:Inv X pins σ H s) (k:∀ b o,b≠it->s.heap.get? b=some o->h'.get? b=some o) (hn:H it=none) (hL:it≠X.env.locals)
  (h1:it∈X.ex∨X.s₀.heap.objs.size<=it) (h2:∀ x c,X.env.cells.lookup x=some c->c≠it) (h3:∀ p∈X.pn++pins,p.1≠it):Inv X pins σ H { s with heap:=h',toks:=t' }:=by
 have nit:∀ b u,H b=some u->b≠it:=fun b u e z=>by rw [z,hn] at e;cases e
 refine I.step (g':=s.gens) (d':=s.drawn) (ch:=[it]) (fun b hb=>?_) (fun b o _ _ hc e _=>k b o (fun z=>hc (by simp [z])) e) (fun b o _ _ hc e _=>⟨o.slots,k b o (fun z=>hc (by simp [z])) e⟩) (fun _ _ _ _ n=>n)
  (fun b o hc e=>⟨o,k b o (fun z=>hc (by simp [z])) e⟩) (fun _ _ e=>e) (fun _ _ _ e=>e) (fun b ps e=>⟨#[],by rw [e];simp⟩) (fun m hm=>?_) (fun b u e=>?_) I.bare
 ·have e:b=it:=by simpa using hb
  subst e
  exact ⟨h1,hL,h2,h3⟩
 ·obtain ⟨o,es,ep,ho,r⟩:=hm
  exact ⟨o,es,ep,k _ o (Ne.symm hL) ho,r⟩
 ·refine (I.hok b u e).stay (fun c v hc q=>k c v ?_ q) (fun _ q=>q) fun _ _ q=>q
  rcases hc with z|z
  ·rw [z];exact nit b u e
  ·exact nit c _ z
theorem Inv.tok (I:Inv X pins σ H s) (t:Nat):Inv X pins σ H { s with toks:=t }:=I.un (h':=s.heap) (t':=t) Un.refl I.hok
theorem Inv.kept {t':Nat} (I:Inv X pins σ H s) (k:∀ b u,s.heap.get? b=some u->h'.get? b=some u):Inv X pins σ H { s with heap:=h',toks:=t' }:=I.un (Un.kept k) (I.hok.kept k)
theorem Inv.laid {a:Addr} {o:HO} {t':Nat} (I:Inv X pins σ H s) (k:∀ b u,s.heap.get? b=some u->h'.get? b=some u) (hp:s.heap.objs.size<=a) (new:gn X.prog X.w (gC H a o) h' a o) :
  Inv X pins σ (gC H a o) { s with heap:=h',toks:=t' }:=I.un (Un.laid k hp (I.hok.fresh hp)) (I.hok.laid k hp new)
theorem Inv.write {x e:Addr} {o:HO} {t':Nat} (I:Inv X pins σ H s) (mu:Mut (H x)) (he:e=x∨H e=some (.own x)) (k:∀ b u,b≠e->s.heap.get? b=some u->h'.get? b=some u) (heo:∃ u,h'.get? e=some u)
  (new:gn X.prog X.w (gC H x o) h' x o):Inv X pins σ (gC H x o) { s with heap:=h',toks:=t' }:=I.un (Un.write mu he k heo) (I.hok.write mu he k heo new)
theorem Inv.Qz {acQ:List (Addr×Obj)} (I:Inv X pins σ H s) (h:∀ p∈acQ,s.heap.get? p.1=some p.2/\H p.1=none/\p.1≠X.env.locals/\p.1∉X.fs/\∀ v,p.2.data≠.cell v):Inv X acQ σ H s :=
 ⟨I.ok,I.os,I.bare,I.base,I.loc,I.cell,I.free,I.pJ,fun p hp=>(List.mem_append.mp hp).elim (fun z=>I.pin p (List.mem_append_left _ z)) (h p),I.hok,I.len⟩
theorem Ko {N:List Str} (hN:N.Nodup) {i j:Nat} {x:Str} (a:N[i]?=some x) (b:N[j]?=some x):i=j:=by
 obtain ⟨h1,e1⟩:=List.getElem?_eq_some_iff.mp a
 obtain ⟨h2,e2⟩:=List.getElem?_eq_some_iff.mp b
 exact (List.getElem_inj hN).mp (e1.trans e2.symm)
theorem Sv {M:Model} {A:Around} {E:Value->Shared->Prop} {i:Nat} {x:Str} {v:V} {u:Value} {Q:Unit->Shared->Prop} (I:Inv X pins σ H s) (hN:X.N.Nodup) (hi:X.N[i]?=some x) (hx:Loc X.env.scope x) (r:RelV v u)
  (h:∀ s',Inv X pins (σ.set i (some v)) H s'->(∃ a,Heap.SameBut a s.heap s'.heap/\(a=X.env.locals∨X.env.cells.lookup x=some a))->Q () s') (hf:X.fn x=true∨X.env.scope.names.lookup x=some .local:=by first|exact .inl rfl|exact .inr rfl|assumption):wpAny M A (storeName X.env x u) Q E s:=by
 obtain ⟨m,hn,hl⟩:=id I.loc
 have hcls:(X.env.scope.kind == .class || (X.env.scope.kind == .module && X.env.locals != X.env.globals))=false:=by rw [I.ok.kind];rfl
 have hiσ:i < σ.length:=by rw [I.len];exact (List.getElem?_eq_some_iff.mp hi).1
 have cne:=I.cne
 have tracked:∀ {a:Addr} {h':Heap},(∃ o,s.heap.get? a=some o/\H a=none)->Heap.SameBut a s.heap h'->yr X.prog X.w H h':=fun {a h'} ha hs b ob e=>by
  obtain ⟨_,_,hfree⟩:=ha
  refine (I.hok b ob e).stay (fun c w' hc q=>(hs.2 c ?_).trans q) (fun _ q=>q) fun _ _ q=>q
  rintro rfl
  rcases hc with rfl|hc
  ·rw [hfree] at e;cases e
  ·rw [hfree] at hc;cases hc
 rcases hx with hk|hk
 ·refine wpAny_storeName_local hk hn (fun h' hn' hs=>?_) hcls
  obtain ⟨oL,_,_,hoL,_⟩:=id hn
  refine h _ ⟨I.ok,I.os,I.bare,⟨fun b o e n hb hx=>?_,fun b o e n hb hx=>?_,I.base.free,fun b o e hx=>?_,I.base.tups,I.base.yH,I.base.Ck⟩,⟨_,hn',fun j y v' e1 e2 e3=>?_⟩,fun y c e=>?_,I.free,I.pJ,fun p hp=>?_,tracked ⟨oL,hoL,I.free⟩ hs,by simpa using I.len⟩ ⟨_,hs,.inl rfl⟩
  ·exact (hs.2 b (Nat.ne_of_lt (Nat.lt_of_lt_of_le (Heap.lt_size e) I.ok.above))).trans (I.base.keep b o e n hb hx)
  ·obtain ⟨sl,e1⟩:=I.base.slot b o e n hb hx
   exact ⟨sl,(hs.2 b (Nat.ne_of_lt (Nat.lt_of_lt_of_le (Heap.lt_size e) I.ok.above))).trans e1⟩
  ·obtain ⟨o',e1⟩:=I.base.there b o e hx
   exact ⟨o',(hs.2 b (Nat.ne_of_lt (Nat.lt_of_lt_of_le (Heap.lt_size e) I.ok.above))).trans e1⟩
  ·by_cases hj:j=i
   ·subst hj
    rw [hi] at e1;cases e1
    rw [List.getElem?_set_self hiσ] at e2
    cases e2
    exact ⟨u,r,.inl ⟨hk,by simp⟩⟩
   ·rw [List.getElem?_set_ne (Ne.symm hj)] at e2
    obtain ⟨u',r',q⟩:=hl j y v' e1 e2 e3
    refine ⟨u',r',?_⟩
    rcases q with ⟨k,e⟩|⟨k,c,e,z⟩
    ·refine .inl ⟨k,?_⟩
     have:y≠x:=fun e=>hj (Ko hN e1 (e▸hi))
     simp [this,e]
    ·exact .inr ⟨k,c,e,z.sameBut hs (cne y c e)⟩
  ·obtain ⟨w',z⟩:=I.cell y c e
   exact ⟨w',z.sameBut hs (cne y c e)⟩
  ·obtain ⟨e,n,ne,nf,d⟩:=I.pin p hp
   exact ⟨(hs.2 p.1 ne).trans e,n,ne,nf,d⟩
 ·have hfn:X.fn x=true:=by
   rcases hf with z|z
   ·exact z
   ·rw [z] at hk;cases hk
  obtain ⟨c,hc⟩:=I.ok.has x (.inl hk)
  obtain ⟨w',z⟩:=I.cell x c hc
  refine wpAny_storeName_cell I.ok.kind hk hc z (fun h' hc' hs=>?_)
  obtain ⟨oc,hoc,air⟩:=id z
  refine h { s with heap:=h' } ⟨I.ok,I.os,I.bare,⟨fun b o e n hb hx=>?_,fun b o e n hb hx=>?_,I.base.free,fun b o e hx=>?_,I.base.tups,I.base.yH,I.base.Ck⟩,⟨m,hn.sameBut hs (Ne.symm (cne x c hc)),fun j y v' e1 e2 e3=>?_⟩,fun y c' e=>?_,I.free,I.pJ,fun p hp=>?_,tracked ⟨oc,hoc,I.pJ x c hc⟩ hs,by simpa using I.len⟩ ⟨c,hs,.inr hc⟩
  ·exact (hs.2 b (Nat.ne_of_lt (Nat.lt_of_lt_of_le (Heap.lt_size e) (I.ok.cab x c hfn hc)))).trans (I.base.keep b o e n hb hx)
  ·obtain ⟨sl,e1⟩:=I.base.slot b o e n hb hx
   exact ⟨sl,(hs.2 b (Nat.ne_of_lt (Nat.lt_of_lt_of_le (Heap.lt_size e) (I.ok.cab x c hfn hc)))).trans e1⟩
  ·obtain ⟨o',e1⟩:=I.base.there b o e hx
   exact ⟨o',(hs.2 b (Nat.ne_of_lt (Nat.lt_of_lt_of_le (Heap.lt_size e) (I.ok.cab x c hfn hc)))).trans e1⟩
  ·by_cases hj:j=i
   ·subst hj
    rw [hi] at e1;cases e1
    rw [List.getElem?_set_self hiσ] at e2
    cases e2
    exact ⟨u,r,.inr ⟨.inl hk,c,hc,hc'⟩⟩
   ·rw [List.getElem?_set_ne (Ne.symm hj)] at e2
    obtain ⟨u',r',q⟩:=hl j y v' e1 e2 e3
    refine ⟨u',r',?_⟩
    rcases q with q|⟨k,c',e,z'⟩
    ·exact .inl q
    ·refine .inr ⟨k,c',e,z'.sameBut hs ?_⟩
     rintro rfl
     exact hj (Ko hN e1 (I.ok.inj _ _ _ e hc▸hi))
  ·by_cases hcc:c'=c
   ·subst hcc;exact ⟨_,hc'⟩
   ·obtain ⟨w2,z2⟩:=I.cell y c' e
    exact ⟨w2,z2.sameBut hs hcc⟩
  ·obtain ⟨e,n,ne,nf,d⟩:=I.pin p hp
   refine ⟨(hs.2 p.1 ?_).trans e,n,ne,nf,d⟩
   intro q
   rw [q,hoc] at e
   have q':oc=p.2:=Option.some.inj e
   exact d w' (by rw [<- q'];exact air)
theorem uL {M:Model} {A:Around} {E:Value->Shared->Prop} {i:Nat} {x:Str} {v:V} {u:Value} {Q:Unit->Shared->Prop} (I:Inv X pins σ H s) (hN:X.N.Nodup) (hi:X.N[i]?=some x) (hx:Loc X.env.scope x) (r:RelV v u)
  (h:∀ s',Inv X pins (σ.set i (some v)) H s'->Q () s') (hf:X.fn x=true∨X.env.scope.names.lookup x=some .local:=by first|exact .inl rfl|exact .inr rfl|assumption):wpAny M A (storeName X.env x u) Q E s :=
 Sv I hN hi hx r (fun s' I' _=>h s' I') hf
theorem Inv.call' {s':Shared} {ch:List Addr} (I:Inv X pins σ H s) (ho:s'.os=s.os) (u:Un (uK X.stack) ch H H' s.heap s'.heap) (hok:yr X.prog X.w H' s'.heap) (hg:AllBare s'.gens)
  (hch:∀ b∈ch,(b∈X.ex∨X.s₀.heap.objs.size<=b)/\b≠X.env.locals/\(∀ x c,X.env.cells.lookup x=some c->c≠b)/\∀ p∈X.pn++pins,p.1≠b):Inv X pins σ H' s':=by
 obtain ⟨h',g',d',t',o'⟩:=s'
 have e:o'=s.os:=ho
 subst e
 exact I.call (g':=g') (t':=t') (d':=d') u hok hg hch
end
noncomputable abbrev XK:=Value->Option Addr->Hp->Prop
noncomputable abbrev St:=List (Option V)
noncomputable abbrev VK:=V->Hp->Prop
noncomputable abbrev TE:=St->Hp->VK->Prop
noncomputable abbrev TT:=St->Hp->(Bool->Hp->Prop)->Prop
noncomputable abbrev TA:=St->Hp->(List V->Hp->Prop)->Prop
structure Ends where
 nx:St->Hp->Prop
 rt:VK
 bk:St->Hp->Prop:=fun _ _=>False
 ct:St->Hp->Prop:=fun _ _=>False
noncomputable abbrev TS:=Ends->St->Hp->Prop
noncomputable def EP (X:Cx) (pins:List (Addr×Obj)) (σ:St) (Q:VK) (u:Value) (s':Shared):Prop:=∃ v H',Inv X pins σ H' s'/\RelV v u/\Q v H'
noncomputable def TP (X:Cx) (pins:List (Addr×Obj)) (σ:St) (Q:Bool->Hp->Prop) (b:Bool) (s':Shared):Prop:=∃ H',Inv X pins σ H' s'/\Q b H'
noncomputable def AP (X:Cx) (pins:List (Addr×Obj)) (σ:St) (Q:List V->Hp->Prop) (us:List Value) (s':Shared):Prop:=∃ vs H',Inv X pins σ H' s'/\Vals vs us/\Q vs H'
noncomputable def SP (X:Cx) (pins:List (Addr×Obj)) (D:Ends) (f:Flow) (s':Shared):Prop :=
 match f with
 | .next=>∃ σ' H',Inv X pins σ' H' s'/\D.nx σ' H'
 | .brk=>∃ σ' H',Inv X pins σ' H' s'/\D.bk σ' H'
 | .cont=>∃ σ' H',Inv X pins σ' H' s'/\D.ct σ' H'
 | .ret u=>∃ v σ' H',Inv X pins σ' H' s'/\RelV v u/\D.rt v H'
noncomputable def PE (X:Cx) (e:Expr) (t:TE):Prop :=
 ∀ (pins:List (Addr×Obj)) (s:Shared) (σ:St) (H:Hp) (Q:VK),Inv X pins σ H s->t σ H Q->wpAny (model X.prog X.w) X.A (eval e X.env) (EP X pins σ Q) X.xe s
noncomputable def PT (X:Cx) (e:Expr) (t:TT):Prop :=
 ∀ (pins:List (Addr×Obj)) (s:Shared) (σ:St) (H:Hp) (Q:Bool->Hp->Prop),Inv X pins σ H s->t σ H Q->wpAny (model X.prog X.w) X.A (isTrue e X.env (eval e X.env)) (TP X pins σ Q) X.xe s
noncomputable def PW (X:Cx) (e:Expr) (t:TT):Prop :=
 ∀ (whole:Sem Value) (pins:List (Addr×Obj)) (s:Shared) (σ:St) (H:Hp) (Q:Bool->Hp->Prop),Inv X pins σ H s->t σ H Q->wpAny (model X.prog X.w) X.A (isTrue e X.env whole) (TP X pins σ Q) X.xe s
theorem PW.pt {X:Cx} {e:Expr} {t:TT} (h:PW X e t):PT X e t:=h _
noncomputable def PA (X:Cx) (es:List Expr) (t:TA):Prop :=
 ∀ (pos:Pos) (pins:List (Addr×Obj)) (s:Shared) (σ:St) (H:Hp) (Q:List V->Hp->Prop),Inv X pins σ H s->t σ H Q->wpAny (model X.prog X.w) X.A (spliced (backTo pos (starEach es X.env))) (AP X pins σ Q) X.xe s
noncomputable def PS (X:Cx) (st:Stmt) (t:TS):Prop :=
 ∀ (pins:List (Addr×Obj)) (s:Shared) (σ:St) (H:Hp) (D:Ends),Inv X pins σ H s->t D σ H->wpAny (model X.prog X.w) X.A (exec st X.env) (SP X pins D) X.xe s
noncomputable def Kq (X:Cx) (st:List Stmt) (t:TS):Prop :=
 ∀ (pins:List (Addr×Obj)) (s:Shared) (σ:St) (H:Hp) (D:Ends),Inv X pins σ H s->t D σ H->wpAny (model X.prog X.w) X.A (execs st X.env) (SP X pins D) X.xe s
theorem iT {α:Type} {t:Sem α} {Q Q':α->Shared->Prop} {M:Model} {A:Around} {E:Value->Shared->Prop} {s:Shared} (h:wpAny M A t Q E s) (hQ:∀ a s,Q a s->Q' a s):wpAny M A t Q' E s:=wpAny_mono h hQ fun _ _ x=>x
end L2
namespace L2
open PySem PySem.Spec PyProof.Rows
section
variable {X:Cx}
noncomputable def aaG (i:Nat):TE:=fun σ H Q=>∃ v,σ[i]?=some (some v)/\Q v H
noncomputable def tC (v:V):TE:=fun _ H Q=>Q v H
theorem GF {i:Nat} {x:Str} {pos:Pos} (hN:X.N[i]?=some x) (hv:Vis X.env.scope x) (hd:(x == ("__debug__":Str))=false:=by decide) (hcd:(x == ("__classdict__":Str))=false:=by decide):PE X (.Name x pos) (aaG i):=by
 intro pins s σ H Q I h
 obtain ⟨v,e,h⟩:=h
 obtain ⟨m,hn,hl⟩:=I.loc
 obtain ⟨u,r,l⟩:=hl i x v hN e hv
 have dH:EP X pins σ Q u s:=⟨v,H,I,r,h⟩
 rcases l with ⟨hk,hm⟩|⟨hk,c,hc,hcell⟩
 ·exact wpAny_Name (wpAny_loadName_local I.ok.kind hk hn hm dH) hd
 ·rcases hk with hk|hk
  ·exact wpAny_Name (wpAny_loadName_cell I.ok.kind hk hc hcell dH) hd
  ·exact wpAny_Name (wpAny_loadName_free I.ok.kind hk hc hcell dH hcd) hd
theorem adG {i j pos}:PE X (.Constant (.int i) j pos) (tC (.int i)):=fun _ _ _ H _ I h=>wpAny_Constant_int ⟨.int i,H,I.tok _,⟨_,rfl⟩,h⟩
theorem agc {b j pos}:PE X (.Constant (.bool b) j pos) (tC (.bl b)):=fun _ _ _ H _ I h=>Constant_bool ⟨.bl b,H,I,rfl,h⟩
theorem adH {x j pos}:PE X (.Constant (.str x) j pos) (tC (.str x)):=fun _ _ _ H _ I h=>Calls.Constant_str ⟨.str x,H,I.tok _,⟨_,rfl⟩,h⟩
noncomputable def Gl (X:Cx) (x:Str):Prop:=X.env.kindOf x=some .globalImplicit
theorem QB {E:Value->Shared->Prop} {pins:List (Addr×Obj)} {s:Shared} {σ:St} {H:Hp} {x:Str} {u:Value} {pos:Pos} {Q:Value->Shared->Prop} (I:Inv X pins σ H s) (hg:Gl X x) (hm:X.mg x=some u) (h:Q u s)
  (hd:(x == ("__debug__":Str))=false:=by decide):wpAny (model X.prog X.w) X.A (eval (.Name x pos) X.env) Q E s :=
 Calls.Name_function_global I.ok.kind hg (Calls.loadGlobal_global (by rw [I.ok.glob];exact I.mod.glob.keeps I.bk) hm h) hd
theorem GJ {E:Value->Shared->Prop} {pins:List (Addr×Obj)} {s:Shared} {σ:St} {H:Hp} {x:Str} {u:Value} {pos:Pos} {Q:Value->Shared->Prop} (I:Inv X pins σ H s) (hg:Gl X x) (hm:X.mg x=none) (hv:bootBuiltins x=some u) (h:Q u s)
  (hn:x≠"__name__":=by decide) (hd:(x == ("__debug__":Str))=false:=by decide):wpAny (model X.prog X.w) X.A (eval (.Name x pos) X.env) Q E s:=by
 obtain ⟨mb,h1,h2⟩:=I.mod.blt
 exact Calls.Name_function_global I.ok.kind hg (Calls.loadGlobal_builtin (by rw [I.ok.glob];exact I.mod.glob.keeps I.bk) hm (by rw [I.ok.blt];exact h1.keeps I.bk) ((h2 x hn).trans hv) h) hd
theorem aaH {x:Str} {v:V} {u:Value} {pos:Pos} (hg:Gl X x) (hm:X.mg x=none) (hv:bootBuiltins x=some u) (r:RelV v u) (hn:x≠"__name__":=by decide) (hd:(x == ("__debug__":Str))=false:=by decide):PE X (.Name x pos) (tC v) :=
 fun _ _ _ H _ I h=>GJ I hg hm hv ⟨v,H,I,r,h⟩ hn hd
variable {a b:Expr} {ta tb:TE} {pos:Pos}
noncomputable def tB (t:TE):TT:=fun σ H Q=>t σ H fun x H1=>∃ c,x=.bl c/\Q c H1
theorem adI {e:Expr} {t:TE} (h:PE X e t) (he:∀ whole,isTrue e X.env whole=(do let v <- whole;standAt e.pos;holding [v] (truthy v)):=by intro _;rfl):PT X e (tB t):=by
 intro pins s σ H Q I hw
 refine isTrue_plain (iT (h pins s σ H _ I hw) fun v s1 ⟨x,H1,I1,r1,q1⟩=>?_) (he _)
 obtain ⟨d,rfl,q⟩:=q1
 cases r1
 exact wpAny_truthy_bool ⟨H1,I1,q⟩
variable {tA tB':TT} {rest:List Expr}
noncomputable def ais (t u:TT):TT:=fun σ H Q=>t σ H fun c H1=>if c=true then u σ H1 Q else Q false H1
noncomputable def tOr (t u:TT):TT:=fun σ H Q=>t σ H fun c H1=>if c=true then Q true H1 else u σ H1 Q
noncomputable def ait (t:TT):TT:=fun σ H Q=>t σ H fun c H1=>Q (!c) H1
theorem aaI (ha:PT X a tA):PW X (.BoolOp .And [a] pos) tA:=by
 intro wh pins s σ H Q I h
 refine isTrue_and (iT (ha pins s σ H Q I h) fun c s1 e=>?_)
 cases c with
 | true=>exact isTrue_and_nil e
 | false=>exact e
theorem adJ (ha:PT X a tA):PW X (.BoolOp .Or [a] pos) tA:=by
 intro wh pins s σ H Q I h
 refine isTrue_or (iT (ha pins s σ H Q I h) fun c s1 e=>?_)
 cases c with
 | false=>exact isTrue_or_nil e
 | true=>exact e
theorem adK (ha:PT X a tA) (hb:PW X (.BoolOp .And (b::rest) pos) tB'):PW X (.BoolOp .And (a::b::rest) pos) (ais tA tB'):=by
 intro wh pins s σ H Q I h
 refine isTrue_and (iT (ha pins s σ H _ I h) fun c s1 ⟨H1,I1,q1⟩=>?_)
 cases c with
 | true=>exact hb wh pins s1 σ H1 Q I1 q1
 | false=>exact ⟨H1,I1,q1⟩
theorem agd (ha:PT X a tA) (hb:PW X (.BoolOp .Or (b::rest) pos) tB'):PW X (.BoolOp .Or (a::b::rest) pos) (tOr tA tB'):=by
 intro wh pins s σ H Q I h
 refine isTrue_or (iT (ha pins s σ H _ I h) fun c s1 ⟨H1,I1,q1⟩=>?_)
 cases c with
 | true=>exact ⟨H1,I1,q1⟩
 | false=>exact hb wh pins s1 σ H1 Q I1 q1
theorem adL (ha:PT X a tA):PT X (.UnaryOp .Not a pos) (ait tA):=by
 intro pins s σ H Q I h
 exact isTrue_not (ha pins s σ H (fun c H1=>Q (!c) H1) I h)
noncomputable def agf (ta tb:TE):TE:=fun σ H Q=>ta σ H fun x H1=>∃ c,x=.bl c/\if c=true then tb σ H1 Q else Q (.bl false) H1
noncomputable def aiu (ta tb:TE):TE:=fun σ H Q=>ta σ H fun x H1=>∃ c,x=.bl c/\if c=true then Q (.bl true) H1 else tb σ H1 Q
noncomputable def agg (ta:TE):TE:=fun σ H Q=>ta σ H fun x H1=>∃ c,x=.bl c/\Q (.bl (!c)) H1
theorem adM {op} {t:TE} (h:PE X a t):PE X (.BoolOp op [a] pos) t:=fun pins s σ H Q I hw=>BoolOp_one (h pins s σ H Q I hw)
theorem adN (ha:PE X a ta) (hb:PE X (.BoolOp .And (b::rest) pos) tb):PE X (.BoolOp .And (a::b::rest) pos) (agf ta tb):=by
 intro pins s σ H Q I h
 refine BoolOp_and (iT (ha pins s σ H _ I h) fun v s1 ⟨x,H1,I1,r1,q1⟩=>?_)
 obtain ⟨c,rfl,q1⟩:=q1
 cases r1
 refine wpAny_truthy_bool ?_
 cases c with
 | true=>exact hb pins s1 σ H1 Q I1 q1
 | false=>exact ⟨.bl false,H1,I1,rfl,q1⟩
theorem agh (ha:PE X a ta) (hb:PE X (.BoolOp .Or (b::rest) pos) tb):PE X (.BoolOp .Or (a::b::rest) pos) (aiu ta tb):=by
 intro pins s σ H Q I h
 refine BoolOp_or (iT (ha pins s σ H _ I h) fun v s1 ⟨x,H1,I1,r1,q1⟩=>?_)
 obtain ⟨c,rfl,q1⟩:=q1
 cases r1
 refine wpAny_truthy_bool ?_
 cases c with
 | false=>exact hb pins s1 σ H1 Q I1 q1
 | true=>exact ⟨.bl true,H1,I1,rfl,q1⟩
theorem adO (ha:PE X a ta):PE X (.UnaryOp .Not a pos) (agg ta):=by
 intro pins s σ H Q I h
 refine UnaryOp_ (iT (ha pins s σ H _ I h) fun v s1 ⟨x,H1,I1,r1,q1⟩=>?_)
 obtain ⟨c,rfl,q1⟩:=q1
 cases r1
 exact not_of (wpAny_truthy_bool ⟨.bl (!c),H1,I1,rfl,q1⟩)
end
end L2
namespace L2
open PySem PySem.Spec PyProof.Rows
noncomputable def pC (K:PySem.W.Frag) (H:Hp) (a:Addr) (xs:List V):Prop :=
 Rd H a (.lst xs) ∨
  ∃ (o:Obj) (its:Array Value) (n:Nat),K.lookup a=some o/\o.cls=.type "list"/\o.dict=none/\o.data=.seq its n/\its.size<=sizeLine/\Vals xs its.toList
noncomputable def mj (K:PySem.W.Frag) (H:Hp) (a:Addr) (xs:List V):Prop :=
 Rd H a (.tup xs) ∨
  ∃ (o:Obj) (its:Array Value) (n:Nat),K.lookup a=some o/\o.cls=.type "tuple"/\o.data=.seq its n/\its.size<=sizeLine/\Vals xs its.toList
noncomputable def aiv:Value->Option V
 | .none=>some .non
 | .bool b=>some (.bl b)
 | .int i _=>some (.int i)
 | .str x _=>some (.str x)
 | .bytes b _=>some (.byt b)
 | .float b _=>some (.flt b)
 | .ref a=>some (.ref a)
 | .type n=>some (.ty n)
 | _=>none
theorem RelV.abs {x:V} {u:Value} (r:RelV x u):aiv u=some x:=by
 cases x with
 | non=>cases r;rfl
 | bl _=>cases r;rfl
 | int _=>obtain ⟨t,rfl⟩:=r;rfl
 | str _=>obtain ⟨t,rfl⟩:=r;rfl
 | byt _=>obtain ⟨t,rfl⟩:=r;rfl
 | flt _=>obtain ⟨t,rfl⟩:=r;rfl
 | ref _=>cases r;rfl
 | ty _=>cases r;rfl
theorem RelV.inj {x y:V} {u:Value} (r:RelV x u) (q:RelV y u):x=y:=Option.some.inj (r.abs.symm.trans q.abs)
theorem Vals.inj:∀ {xs ys:List V} {us:List Value},Vals xs us->Vals ys us->xs=ys
 | _,_,_,.nil,.nil=>rfl
 | _,_,_,.cons r t,.cons r' t'=>by rw [r.inj r',Vals.inj t t']
section
variable {X:Cx} {pins:List (Addr×Obj)} {σ:St} {H:Hp} {s:Shared} {a:Addr} {xs ys:List V}
theorem pC.of {K:PySem.W.Frag} (h:H a=some (.lst xs)):pC K H a xs:=.inl (.inl h)
theorem mj.of {K:PySem.W.Frag} (h:H a=some (.tup xs)):mj K H a xs:=.inl (.inl h)
theorem Inv.list (I:Inv X pins σ H s) (h:pC X.K H a xs):∃ its:List Value,Vals xs its/\PlainL s.heap a its.toArray/\xs.length<=sizeLine:=by
 rcases h with h|⟨o,its,n,hk,hc,hd,hs,hz,r⟩
 ·obtain ⟨z,its,n,r,e⟩:=h.ok I.hok
  exact ⟨its,r,⟨_,n,e,rfl,rfl,rfl⟩,z⟩
 ·refine ⟨its.toList,r,⟨o,n,I.VL a o hk,hc,hd,by simpa using hs⟩,?_⟩
  have e:=r.length
  simp only [Array.length_toList] at e
  omega
theorem Inv.tuple (I:Inv X pins σ H s) (h:mj X.K H a xs):∃ its:List Value,Vals xs its/\IsTup s.heap a its.toArray/\xs.length<=sizeLine:=by
 rcases h with h|⟨o,its,n,hk,hc,hs,hz,r⟩
 ·obtain ⟨z,its,r,p⟩:=h.ok I.hok
  exact ⟨its,r,p,z⟩
 ·refine ⟨its.toList,r,⟨o,I.VL a o hk,hc,n,by simpa using hs⟩,?_⟩
  have e:=r.length
  simp only [Array.length_toList] at e
  omega
theorem Inv.Kr (I:Inv X pins σ H s) (h:pC X.K H a xs) (h':pC X.K H a ys):xs=ys:=by
 obtain ⟨its,r,⟨o,n,e,_,_,d⟩,_⟩:=I.list h
 obtain ⟨its',r',⟨o',n',e',_,_,d'⟩,_⟩:=I.list h'
 rw [e] at e';cases e'
 rw [d] at d'
 injection d' with d1 _
 have:its=its':=by simpa using congrArg Array.toList d1
 subst this
 exact r.inj r'
theorem Inv.Et (I:Inv X pins σ H s) (h:mj X.K H a xs) (h':mj X.K H a ys):xs=ys:=by
 obtain ⟨its,r,⟨o,e,_,n,d⟩,_⟩:=I.tuple h
 obtain ⟨its',r',⟨o',e',_,n',d'⟩,_⟩:=I.tuple h'
 rw [e] at e';cases e'
 rw [d] at d'
 injection d' with d1 _
 have:its=its':=by simpa using congrArg Array.toList d1
 subst this
 exact r.inj r'
end
noncomputable abbrev Cx.wish (X:Cx) (E:Value->Shared->Prop):Cx:={ X with xe:=E }
noncomputable abbrev Cx.nox (X:Cx):Cx:=X.wish fun _ _=>False
theorem Cx.Ok.wish {X:Cx} (ok:X.Ok) (E:Value->Shared->Prop):(X.wish E).Ok :=
 ⟨ok.mod,ok.kind,ok.glob,ok.blt,ok.above,ok.inj,ok.has,ok.cab,ok.hd,ok.frames,ok.stk,ok.exf,ok.bs,ok.bsz,ok.Ss,ok.aaF,ok.yJ,ok.frf⟩
theorem Cx.Ok.pK {X:Cx} {E:Value->Shared->Prop} (ok:(X.wish E).Ok):X.Ok :=
 ⟨ok.mod,ok.kind,ok.glob,ok.blt,ok.above,ok.inj,ok.has,ok.cab,ok.hd,ok.frames,ok.stk,ok.exf,ok.bs,ok.bsz,ok.Ss,ok.aaF,ok.yJ,ok.frf⟩
section
variable {X:Cx} {pins:List (Addr×Obj)} {σ:St} {H:Hp} {s:Shared} {E:Value->Shared->Prop}
theorem Inv.wish (I:Inv X pins σ H s) (E:Value->Shared->Prop):Inv (X.wish E) pins σ H s:=⟨I.ok.wish E,I.os,I.bare,I.base,I.loc,I.cell,I.free,I.pJ,I.pin,I.hok,I.len⟩
theorem Inv.pK (I:Inv (X.wish E) pins σ H s):Inv X pins σ H s:=⟨I.ok.pK,I.os,I.bare,I.base,I.loc,I.cell,I.free,I.pJ,I.pin,I.hok,I.len⟩
theorem SP.pK {D:Ends} {f:Flow} {s':Shared} (h:SP (X.wish E) pins D f s'):SP X pins D f s':=by
 cases f with
 | next=>obtain ⟨σ',H',I,q⟩:=h;exact ⟨σ',H',I.pK,q⟩
 | brk=>obtain ⟨σ',H',I,q⟩:=h;exact ⟨σ',H',I.pK,q⟩
 | cont=>obtain ⟨σ',H',I,q⟩:=h;exact ⟨σ',H',I.pK,q⟩
 | ret u=>obtain ⟨v,σ',H',I,r,q⟩:=h;exact ⟨v,σ',H',I.pK,r,q⟩
end
section
variable {X:Cx} {st:Stmt} {rest:List Stmt} {t u:TS} {e:Expr} {te:TE} {pos:Pos}
noncomputable def agj:TS:=fun D σ H=>D.nx σ H
noncomputable def aiw (t u:TS):TS:=fun D σ H=>t { D with nx:=u D } σ H
theorem aaJ:Kq X [] agj:=fun _ _ σ H _ I h=>wpAny_execs_nil ⟨σ,H,I,h⟩
theorem Wh (h1:PS X st t) (h2:Kq X rest u):Kq X (st::rest) (aiw t u):=by
 intro pins s σ H D I h
 refine wpAny_execs_cons (iT (h1 pins s σ H { D with nx:=u D } I h) fun f s1 q=>?_)
 cases f with
 | next =>
  obtain ⟨σ',H',I',q⟩:=q
  exact h2 pins s1 σ' H' D I' q
 | ret v=>exact q
 | brk=>exact q
 | cont=>exact q
theorem aaK (h1:PS X st t):Kq X [st] t:=by
 intro pins s σ H D I h
 refine wpAny_execs_cons (iT (h1 pins s σ H D I h) fun f s1 q=>?_)
 cases f with
 | next=>exact wpAny_execs_nil q
 | ret v=>exact q
 | brk=>exact q
 | cont=>exact q
theorem Inv.quiet {pins:List (Addr×Obj)} {σ:St} {H:Hp} {s:Shared} (I:Inv X pins σ H s):interactive X.env=false:=by simp [interactive,I.ok.kind]
noncomputable def agk (te:TE):TS:=fun D σ H=>te σ H fun _ H1=>D.nx σ H1
theorem QC (he:PE X e te) (hs:swapsWith e none pos.line X.env=pure false:=by rfl):PS X (.Expr e pos) (agk te):=by
 intro pins s σ H D I h
 exact wpAny_Expr_any (iT (he pins s σ H _ I h) fun v s1 ⟨x,H1,I1,r1,q1⟩=>⟨σ,H1,I1,q1⟩) I.quiet hs
noncomputable def aix (te:TE):TS:=fun D σ H=>te σ H D.rt
theorem adP (he:PE X e te):PS X (.Return (some e) pos) (aix te):=by
 intro pins s σ H D I h
 exact wpAny_Return_some (iT (he pins s σ H _ I h) fun v s1 ⟨x,H1,I1,r1,q1⟩=>⟨x,σ,H1,I1,r1,q1⟩)
noncomputable def aiy (c:TT) (t u:TS):TS:=fun D σ H=>c σ H fun b H1=>if b=true then t D σ H1 else u D σ H1
theorem agl {c:Expr} {a b:List Stmt} {tc:TT} (hc:PT X c tc) (ha:Kq X a t) (hb:Kq X b u):PS X (.If c a b pos) (aiy tc t u):=by
 intro pins s σ H D I h
 refine wpAny_If (iT (hc pins s σ H _ I h) fun d s1 ⟨H1,I1,q1⟩=>?_)
 cases d with
 | true=>exact ha pins s1 σ H1 D I1 q1
 | false=>exact hb pins s1 σ H1 D I1 q1
noncomputable def adQ:TS:=fun _ _ _=>False
theorem Sw {sts:List Stmt}:Kq X sts adQ:=fun _ _ _ _ _ _ h=>h.elim
end
noncomputable abbrev TG:=V->St->Hp->(St->Hp->Prop)->Prop
noncomputable abbrev TGs:=List V->St->Hp->(St->Hp->Prop)->Prop
noncomputable def PG (X:Cx) (target:Expr) (t:TG):Prop :=
 ∀ (pins:List (Addr×Obj)) (s:Shared) (σ:St) (H:Hp) (v:V) (u:Value) (Q:St->Hp->Prop),Inv X pins σ H s->RelV v u->t v σ H Q ->
  wpAny (model X.prog X.w) X.A (assign target X.env u) (fun _ s'=>∃ σ' H',Inv X pins σ' H' s'/\Q σ' H') X.xe s
noncomputable def PGs (X:Cx) (ts:List Expr) (t:TGs):Prop :=
 ∀ (pins:List (Addr×Obj)) (s:Shared) (σ:St) (H:Hp) (vs:List V) (us:List Value) (Q:St->Hp->Prop),Inv X pins σ H s->Vals vs us->t vs σ H Q ->
  wpAny (model X.prog X.w) X.A (assignInOrder ((assignEach ts X.env).map (·.2)) us) (fun _ s'=>∃ σ' H',Inv X pins σ' H' s'/\Q σ' H') X.xe s
noncomputable abbrev aiz:=V->V->V->Hp->(Hp->Prop)->Prop
section
variable {X:Cx} {pos:Pos}
noncomputable def acR (i:Nat):TG:=fun v σ H Q=>Q (σ.set i (some v)) H
theorem aaM {i:Nat} {x:Str} (hN:X.N.Nodup) (hi:X.N[i]?=some x) (hx:Loc X.env.scope x) (hf:X.fn x=true∨X.env.scope.names.lookup x=some .local:=by first|exact .inl rfl|exact .inr rfl|assumption):PG X (.Name x pos) (acR i):=by
 intro pins s σ H v u Q I r h
 exact wpAny_assign_Name (uL I hN hi hx r (fun s' I'=>⟨_,H,I',h⟩) hf)
noncomputable def aiA:TGs:=fun vs σ H Q=>vs=[]/\Q σ H
noncomputable def agm (t:TG) (u:TGs):TGs:=fun vs σ H Q=>∃ v r,vs=v::r/\t v σ H fun σ' H'=>u r σ' H' Q
theorem aaN:PGs X [] aiA:=by
 intro pins s σ H vs us Q I r h
 obtain ⟨e,h⟩:=h
 subst e
 cases r
 exact assignInOrder_nil ⟨σ,H,I,h⟩
theorem Wj {e:Expr} {es:List Expr} {t:TG} {u:TGs} (h1:PG X e t) (h2:PGs X es u)
  (hs:(assignEach (e::es) X.env).map (·.2)=assign e X.env::(assignEach es X.env).map (·.2):=by rfl):PGs X (e::es) (agm t u):=by
 intro pins s σ H vs us Q I r h
 obtain ⟨v,vr,e1,h⟩:=h
 subst e1
 cases r with
 | cons r rr =>
  rw [hs]
  refine assignInOrder_cons (iT (h1 pins s σ H _ _ _ I r h) fun _ s1 ⟨σ1,H1,I1,q1⟩=>?_)
  exact h2 pins s1 σ1 H1 _ _ Q I1 rr q1
noncomputable def dI (K:PySem.W.Frag) (n:Nat) (t:TGs):TG:=fun v σ H Q=>∃ a xs,v=.ref a/\mj K H a xs/\xs.length=n/\t xs σ H Q
theorem adR {es:List Expr} {k:Nat} {t:TGs} {n:Nat} (hc:X.calm=true) (h:PGs X es t)
  (hn:(assignEach es X.env).length=n:=by rfl) (hst:(assignEach es X.env).findIdx? (·.1)=none:=by rfl):PG X (.Tuple es k pos) (dI X.K n t):=by
 intro pins s σ H v u Q I r hw
 obtain ⟨a,xs,e1,hq,hl,hw⟩:=hw
 subst e1
 cases r
 obtain ⟨its,rv,ht,hz⟩:=I.tuple hq
 refine assign_Tuple_tuple (I.ok.hd hc) ht (by simp [hn,<- hl,rv.length]) hst fun h' hx=>?_
 have I1:Inv X pins σ H { s with heap:=h' }:=I.kept (t':=s.toks) fun b o e=>hx b o (Nat.ne_of_lt (Heap.lt_size e)) e
 exact h pins _ σ H xs _ Q I1 (by simpa using rv) hw
noncomputable def pD (to ti:TE) (t:aiz):TG:=fun v σ H Q=>to σ H fun o H1=>ti σ H1 fun i H2=>t o i v H2 fun H3=>Q σ H3
noncomputable def agn (te:TE) (g:TG):TS:=fun D σ H=>te σ H fun x H1=>g x σ H1 D.nx
theorem adS {tg e:Expr} {te:TE} {g:TG} (he:PE X e te) (hg:PG X tg g) (hs:swapsWithSole [tg] e pos.line X.env=pure false:=by rfl) (hw:swappedStores [tg] e X.env=pure none:=by rfl)
  (h1:(assignEach [tg] X.env).map (·.2)=[assign tg X.env]:=by rfl):PS X (.Assign [tg] e pos) (agn te g):=by
 intro pins s σ H D I h
 refine wpAny_Assign_stores (iT (he pins s σ H _ I h) fun v s1 ⟨x,H1,I1,r1,q1⟩=>?_) hs hw
 rw [h1]
 exact iT (hg pins s1 σ H1 x v _ I1 r1 q1) fun _ s2 q=>q
theorem Wk {i:Nat} {x:Str} {e:Expr} {te:TE} {pos':Pos} (hN:X.N.Nodup) (hi:X.N[i]?=some x) (hx:Loc X.env.scope x) (he:PE X e te) (hs:swapsWith e (some (.Name x pos')) pos.line X.env=pure false:=by rfl) (hf:X.fn x=true∨X.env.scope.names.lookup x=some .local:=by first|exact .inl rfl|exact .inr rfl|assumption) :
  PS X (.Assign [.Name x pos'] e pos) (agn te (acR i)):=by
 intro pins s σ H D I h
 refine wpAny_Assign_Name (iT (he pins s σ H _ I h) fun v s1 ⟨y,H1,I1,r1,q1⟩=>?_) hs
 exact uL I1 hN hi hx r1 (fun s2 I2=>⟨_,H1,I2,q1⟩) hf
noncomputable def aiB (i j:Nat) (ta:TA):TS:=fun D σ H=>ta σ H fun vs H1=>∃ v w,vs=[v,w]/\D.nx ((σ.set i (some v)).set j (some w)) H1
theorem adT {i j:Nat} {x y:Str} {a b:Expr} {ta:TA} {px py pt:Pos} {kt k2 pt2} (hc:X.calm=true) (hN:X.N.Nodup) (hi:X.N[i]?=some x) (hj:X.N[j]?=some y) (hij:i≠j)
  (hx:X.env.scope.names.lookup x=some .local) (hy:X.env.scope.names.lookup y=some .local) (ha:PA X [a,b] ta)
  (hw:swappedStores [.Tuple [.Name x px,.Name y py] kt pt] (.Tuple [a,b] k2 pt2) X.env=pure (some [x,y]))
  (hs:swapsWithSole [.Tuple [.Name x px,.Name y py] kt pt] (.Tuple [a,b] k2 pt2) pos.line X.env=pure false:=by rfl) :
  PS X (.Assign [.Tuple [.Name x px,.Name y py] kt pt] (.Tuple [a,b] k2 pt2) pos) (aiB i j ta):=by
 intro pins s σ H D I h
 rw [exec_Assign_arm]
 refine wpAny_bind (wpAny_standAt ?_)
 rw [hs]
 refine wpAny_bind (wpAny_pure ?_)
 rw [if_neg (by decide)]
 refine wpAny_bind (Tuple_ (iT (ha _ pins s σ H _ I h) fun us s1 ⟨vs,H1,I1,r1,q1⟩=>?_))
 obtain ⟨v,w,e1,q1⟩:=q1
 subst e1
 obtain ⟨u1,u2,rfl,rv,rw'⟩:∃ u1 u2,us=[u1,u2]/\RelV v u1/\RelV w u2:=by
  cases r1 with
  | cons p q =>
   cases q with
   | cons p' q' =>
    cases q'
    exact ⟨_,_,rfl,p,p'⟩
 refine wpAny_newObj_type ?_ (by show 2<=sizeLine;decide)
 have I2:Inv X pins σ H1 { s1 with heap:=s1.heap.push { cls:=.type "tuple",data:=.seq [u1,u2].toArray } }:=I1.kept (t':=s1.toks) fun b o e=>Heap.get?_push_of_some _ e
 rw [hw]
 refine wpAny_bind (wpAny_pure ?_)
 show wpAny (model X.prog X.w) X.A (do rule "assign.swapped-stores";let items <- unpackItems (.ref s1.heap.objs.size) 2 none;assignInOrder [fun v=>bindName X.env y v,fun v=>bindName X.env x v] items.reverse;pure Flow.next) _ _ _
 refine wpAny_bind (wpAny_rule (wpAny_bind (unpackItems_tuple (items:=#[u1,u2]) (I.ok.hd hc) (IsTup.new s1.heap _) fun h' hx'=>?_)))
 have I3:=I2.kept (h':=h') (t':=s1.toks) fun b o e=>hx' b o (Nat.ne_of_lt (Heap.lt_size e)) e
 show wpAny _ _ (assignInOrder [fun v=>bindName X.env y v,fun v=>bindName X.env x v] [u2,u1] >>= fun _=>pure Flow.next) _ _ _
 refine wpAny_bind (assignInOrder_cons (wpAny_bindName (uL I3 hN hj (.inl hy) rw' (fun s2 I4=>?_) (.inr hy))))
 refine assignInOrder_cons (wpAny_bindName (uL I4 hN hi (.inl hx) rv (fun s3 I5=>assignInOrder_nil (wpAny_pure ?_)) (.inr hx)))
 rw [List.set_comm _ _ (Ne.symm hij)] at I5
 exact ⟨_,H1,I5,q1⟩
end
section
variable {X:Cx} {pos:Pos}
end
structure It where
 go:Nat->Hp->Prop
 yld:Nat->Hp->V->Hp->Prop
 stop:Nat->Hp->Prop
noncomputable def yc (X:Cx) (pins:List (Addr×Obj)) (H:Hp) (b:Addr):Prop :=
 H b=none/\b≠X.env.locals/\b∉X.fs/\(b∈X.ex∨X.s₀.heap.objs.size<=b)/\(∀ x c,X.env.cells.lookup x=some c->c≠b)/\∀ p∈X.pn++pins,p.1≠b
theorem Inv.aaP {X:Cx} {pins:List (Addr×Obj)} {σ:St} {H H':Hp} {s:Shared} {b:Addr} (I:Inv X pins σ H s) (hb:s.heap.objs.size<=b) (hn:H' b=none):yc X pins H' b:=by
 refine ⟨hn,Nat.ne_of_gt (Nat.lt_of_lt_of_le I.lt hb),I.aiq hb,.inr (Nat.le_trans I.sz hb),fun x c e z=>?_,fun p hp z=>?_⟩
 ·obtain ⟨v,q⟩:=I.cell x c e
  exact absurd (Nat.lt_of_lt_of_le q.lt (by rw [z];exact hb)) (Nat.lt_irrefl _)
 ·exact absurd (Nat.lt_of_lt_of_le (Heap.lt_size (I.pin p hp).1) (by rw [z];exact hb)) (Nat.lt_irrefl _)
structure Turn (P:Program) (w:World) (K:PySem.W.Frag) (tg:Expr) (J:It) (fp:List Addr) (it:Addr) (tn:Nat->Heap->Prop):Prop where
  mem:it∈fp
  obj:∀ i h,tn i h->∀ b∈fp,∃ o,h.get? b=some o/\∀ v,o.data≠.cell v
  keep:∀ i h h',tn i h->(∀ b∈fp,∀ o,h.get? b=some o->h'.get? b=some o)->tn i h'
  item:∀ (X:Cx),X.prog=P->X.w=w->X.K=K->X.calm=true->∀ (i:Nat) (pins:List (Addr×Obj)) (s:Shared) (σ:St) (H:Hp) (E:Value->Shared->Prop),Inv X pins σ H s->(∀ b∈fp,yc X pins H b)->tn i s.heap->J.go i H ->
    wpAny (model P w) X.A (pyNext (.ref it)) (fun r s1=>∃ u,r=some u /\
      wpAny (model P w) X.A (letOwnedTupleGo tg (.ref it) u) (fun _ s2=>∃ x H',Inv X pins σ H' s2/\RelV x u/\J.yld i H x H'/\tn (i + 1) s2.heap/\∀ b∈fp,H' b=none) E s1) E s
  done : ∀ (X : Cx), X.prog = P -> X.w = w -> X.K = K -> X.calm = true -> ∀ (i : Nat) (pins : List (Addr × Obj)) (s : Shared) (σ : St) (H : Hp) (E : Value -> Shared -> Prop), Inv X pins σ H s -> (∀ b ∈ fp, yc X pins H b) -> tn i s.heap -> J.stop i H ->
    wpAny (model P w) X.A (pyNext (.ref it)) (fun r s1=>r=none/\Inv X pins σ H s1) E s
  self:∀ (A:Around) (i:Nat) (s:Shared) (Q:Value->Shared->Prop) (E:Value->Shared->Prop),tn i s.heap->Q (.ref it) s->wpAny (model P w) A (pyIter (.ref it)) Q E s
noncomputable abbrev TI:=St->Hp->(It->Hp->Prop)->Prop
noncomputable def PIE (X:Cx) (pins:List (Addr×Obj)) (σ:St) (tg:Expr) (R:It->Hp->Prop) (itv:Value) (s2:Shared):Prop :=
 ∃ (it:Addr) (fp:List Addr) (tn:Nat->Heap->Prop) (J:It) (H':Hp),itv=.ref it/\Inv X pins σ H' s2/\Turn X.prog X.w X.K tg J fp it tn/\tn 0 s2.heap/\(∀ b∈fp,yc X pins H' b)/\R J H'
noncomputable def PI (X:Cx) (tg iter:Expr) (wi:TI):Prop :=
 ∀ (pins:List (Addr×Obj)) (s:Shared) (σ:St) (H:Hp) (R:It->Hp->Prop),Inv X pins σ H s->wi σ H R ->
  wpAny (model X.prog X.w) X.A (eval iter X.env) (fun v s1=>wpAny (model X.prog X.w) X.A (pyIter v) (PIE X pins σ tg R) X.xe s1) X.xe s
theorem Wm {M:Model} {A:Around} {E:Value->Shared->Prop} {s:Shared} {tg:Expr} {it:Addr} {u:Value} {o:Obj} {n:String} {vs:Array Value} {Q:Unit->Shared->Prop} (ho:s.heap.get? it=some o) (hc:o.cls=.type n) (hd:o.data=.fields vs)
    (hn:["enumerate","zip","dict_itemiterator","dict_reverseitemiterator","odict_iterator","itertools.zip_longest","itertools.pairwise"].contains n=false) (hQ:Q () s):wpAny M A (letOwnedTupleGo tg (.ref it) u) Q E s:=by
  unfold letOwnedTupleGo
  cases tg <;> first
    | exact wpAny_pure hQ
    | (cases u <;> first
        | exact wpAny_pure hQ
        | (refine wpAny_bind (wpAny_load ho ?_)
           rw [hc,hd]
           show wpAny M A (if (["enumerate","zip","dict_itemiterator","dict_reverseitemiterator","odict_iterator","itertools.zip_longest","itertools.pairwise"].contains n && vs[0]? == some (rawInt _))=true then _ else _) Q E s
           rw [if_neg (by intro h;rw [hn,Bool.false_and] at h;cases h)]
           exact wpAny_pure hQ))
noncomputable def Itl (K:PySem.W.Frag) (a:Addr):It :=
 ⟨fun i H=>∃ xs x,pC K H a xs/\xs[i]?=some x,fun i H x H'=>H'=H/\∀ xs,pC K H a xs->xs[i]?=some x,fun i H=>∃ xs,pC K H a xs/\xs.length<=i⟩
noncomputable def Itt (K:PySem.W.Frag) (a:Addr):It :=
 ⟨fun i H=>∃ xs x,mj K H a xs/\xs[i]?=some x,fun i H x H'=>H'=H/\∀ xs,mj K H a xs->xs[i]?=some x,fun i H=>∃ xs,mj K H a xs/\xs.length<=i⟩
noncomputable def Itr (lo:Int) (n:Nat):It:=⟨fun i _=>i < n,fun i H x H'=>H'=H/\x=.int (lo + i),fun i _=>n<=i⟩
theorem Sx {P:Program} {w:World} {K:PySem.W.Frag} {tg:Expr} (a it:Addr):Turn P w K tg (Itl K a) [it] it (fun i h=>h.IsListIter it a i) where
  mem:=by simp
  obj:=fun i h st b hb=>by
    have e:b=it:=by simpa using hb
    subst e
    obtain ⟨o,e,c,d⟩:=st
    exact ⟨o,e,fun v z=>by rw [d] at z;cases z⟩
  keep:=fun i h h' st k=>st.at fun o e=>k it (by simp) o e
  item:=by
    intro X hP hw hK hc i pins s σ H E I hf st hg
    subst hP hw hK
    obtain ⟨xs,x,hq,hx⟩:=hg
    obtain ⟨its,rv,p,hz⟩:=I.list hq
    obtain ⟨u,hu,ru⟩:=rv.get hx
    obtain ⟨f0,f1,f2,f3,f4,f5⟩:=hf it (by simp)
    refine wpAny_pyNext_list_item st p.isList (x:=u) (by simpa using hu) fun h' st' sb=>?_
    have I1:Inv X pins σ H { s with heap:=h' }:=I.turned (t':=s.toks) (fun b o hb e=>(sb.2 b hb).trans e) f0 f1 f3 f4 f5
    obtain ⟨o,e,c,d⟩:=id st'
    exact ⟨u,rfl,Wm (s:={ s with heap:=h' }) e c d (by decide) ⟨x,H,I1,ru,⟨rfl,fun ys hy=>by rw [I.Kr hy hq];exact hx⟩,st',fun b hb=>(hf b hb).1⟩⟩
  done := by
    intro X hP hw hK hc i pins s σ H E I hf st hg
    subst hP hw hK
    obtain ⟨xs,hq,hx⟩:=hg
    obtain ⟨its,rv,p,hz⟩:=I.list hq
    obtain ⟨f0,f1,f2,f3,f4,f5⟩:=hf it (by simp)
    have hl:=rv.length
    exact wpAny_pyNext_list_end (I.ok.hd hc) st p.isList (by simp;omega) fun h' eb=>⟨rfl,I.turned (t':=s.toks) (fun b o hb e=>eb b o hb e) f0 f1 f3 f4 f5⟩
  self:=fun _ _ _ _ _ st h=>wpAny_pyIter_listiter st h
theorem Oc {P:Program} {w:World} {K:PySem.W.Frag} {tg:Expr} (a it:Addr):Turn P w K tg (Itt K a) [it] it (fun i h=>h.IsTupleIter it a i) where
  mem:=by simp
  obj:=fun i h st b hb=>by
    have e:b=it:=by simpa using hb
    subst e
    obtain ⟨o,e,c,d⟩:=st
    exact ⟨o,e,fun v z=>by rw [d] at z;cases z⟩
  keep:=fun i h h' st k=>st.at fun o e=>k it (by simp) o e
  item:=by
    intro X hP hw hK hc i pins s σ H E I hf st hg
    subst hP hw hK
    obtain ⟨xs,x,hq,hx⟩:=hg
    obtain ⟨its,rv,p,hz⟩:=I.tuple hq
    obtain ⟨u,hu,ru⟩:=rv.get hx
    obtain ⟨f0,f1,f2,f3,f4,f5⟩:=hf it (by simp)
    refine wpAny_pyNext_tuple_item st (show s.heap.IsTuple a its.toArray from p) (x:=u) (by simpa using hu) fun h' st' sb=>?_
    have I1:Inv X pins σ H { s with heap:=h' }:=I.turned (t':=s.toks) (fun b o hb e=>(sb.2 b hb).trans e) f0 f1 f3 f4 f5
    obtain ⟨o,e,c,d⟩:=id st'
    exact ⟨u,rfl,Wm (s:={ s with heap:=h' }) e c d (by decide) ⟨x,H,I1,ru,⟨rfl,fun ys hy=>by rw [I.Et hy hq];exact hx⟩,st',fun b hb=>(hf b hb).1⟩⟩
  done := by
    intro X hP hw hK hc i pins s σ H E I hf st hg
    subst hP hw hK
    obtain ⟨xs,hq,hx⟩:=hg
    obtain ⟨its,rv,p,hz⟩:=I.tuple hq
    obtain ⟨f0,f1,f2,f3,f4,f5⟩:=hf it (by simp)
    have hl:=rv.length
    exact wpAny_pyNext_tuple_end (I.ok.hd hc) st (show s.heap.IsTuple a its.toArray from p) (by simp;omega) fun h' eb=>⟨rfl,I.turned (t':=s.toks) (fun b o hb e=>eb b o hb e) f0 f1 f3 f4 f5⟩
  self:=fun _ _ _ _ _ st h=>wpAny_pyIter_tupleiter st h
theorem Od {P:Program} {w:World} {K:PySem.W.Frag} {tg:Expr} (it:Addr) (lo:Int) (n:Nat):Turn P w K tg (Itr lo n) [it] it (fun i h=>IsRangeIter h it (lo + (i:Nat) * 1) ((n:Int) - (i:Nat)) 1) where
  mem:=by simp
  obj:=fun i h st b hb=>by
    have e:b=it:=by simpa using hb
    subst e
    exact ⟨_,st,fun v z=>by
      have z':Data.fields _=Data.cell v:=z
      cases z'⟩
  keep:=fun i h h' st k=>k it (by simp) _ st
  item:=by
    intro X hP hw hK hc i pins s σ H E I hf st hg
    subst hP hw hK
    obtain ⟨f0,f1,f2,f3,f4,f5⟩:=hf it (by simp)
    have W:=Walks.range (prog:=X.prog) (w:=X.w) (I.ok.hd hc) it lo 1 n
    refine W.item i s _ _ hg st fun v h' tk hv st' kk=>?_
    obtain ⟨t,rfl⟩:=hv
    have I1:Inv X pins σ H { s with heap:=h',toks:=tk }:=I.turned (fun b o hb e=>kk b o (by simpa using hb) e) f0 f1 f3 f4 f5
    refine ⟨_,rfl,Wm (s:={ s with heap:=h',toks:=tk }) (n:="range_iterator") st' rfl rfl (by decide) ⟨.int (lo + i),H,I1,⟨t,?_⟩,⟨rfl,rfl⟩,st',fun b hb=>(hf b hb).1⟩⟩
    rw [Int.mul_one]
  done := by
    intro X hP hw hK hc i pins s σ H E I hf st hg
    subst hP hw hK
    obtain ⟨f0,f1,f2,f3,f4,f5⟩:=hf it (by simp)
    exact wpAny_pyNext_range_end (I.ok.hd hc) st (by have:n<=i:=hg;omega) fun h' eb=>⟨rfl,I.turned (t':=s.toks) (fun b o hb e=>eb b o hb e) f0 f1 f3 f4 f5⟩
  self:=fun _ _ _ _ _ st h=>wpAny_pyIter_rangeiter st h
end L2
namespace L2
open PySem PySem.Spec PyProof.Rows
section
variable {X:Cx} {tg:Expr}
noncomputable def agp (K:PySem.W.Frag) (tl:TE):TI:=fun σ H R=>tl σ H fun x H1=>∃ a,x=.ref a/\(∃ xs,pC K H1 a xs)/\R (Itl K a) H1
noncomputable def aiD (K:PySem.W.Frag) (tl:TE):TI:=fun σ H R=>tl σ H fun x H1=>∃ a,x=.ref a/\(∃ xs,mj K H1 a xs)/\R (Itt K a) H1
theorem QD {l:Expr} {tl:TE} (hl:PE X l tl):PI X tg l (agp X.K tl):=by
 intro pins s σ H R I h
 refine iT (hl pins s σ H _ I h) fun v s1 ⟨x,H1,I1,r1,q1⟩=>?_
 obtain ⟨a,e,⟨xs,hq⟩,q⟩:=q1
 subst e
 cases r1
 obtain ⟨its,rv,p,hz⟩:=I1.list hq
 refine wpAny_pyIter_list p.isList ?_
 refine ⟨s1.heap.objs.size,[s1.heap.objs.size],_,_,H1,rfl,I1.kept (t':=s1.toks) fun b o e=>Heap.get?_push_of_some _ e,Sx a _,⟨_,Heap.get?_push_size _ rfl,rfl,rfl⟩,fun b hb=>?_,q⟩
 have e:b=s1.heap.objs.size:=by simpa using hb
 subst e
 exact I1.aaP (Nat.le_refl _) (I1.hok.fresh (Nat.le_refl _))
theorem adV {l:Expr} {tl:TE} (hl:PE X l tl):PI X tg l (aiD X.K tl):=by
 intro pins s σ H R I h
 refine iT (hl pins s σ H _ I h) fun v s1 ⟨x,H1,I1,r1,q1⟩=>?_
 obtain ⟨a,e,⟨xs,hq⟩,q⟩:=q1
 subst e
 cases r1
 obtain ⟨its,rv,p,hz⟩:=I1.tuple hq
 refine wpAny_pyIter_tuple (show s1.heap.IsTuple a its.toArray from p) ?_
 refine ⟨s1.heap.objs.size,[s1.heap.objs.size],_,_,H1,rfl,I1.kept (t':=s1.toks) fun b o e=>Heap.get?_push_of_some _ e,Oc a _,⟨_,Heap.get?_push_size _ rfl,rfl,rfl⟩,fun b hb=>?_,q⟩
 have e:b=s1.heap.objs.size:=by simpa using hb
 subst e
 exact I1.aaP (Nat.le_refl _) (I1.hok.fresh (Nat.le_refl _))
theorem Wn {pins:List (Addr×Obj)} {σ:St} {H:Hp} {s:Shared} {R:It->Hp->Prop} {E:Value->Shared->Prop} {lo hi:Int} {t u v:Tok} {tk:Nat} (I:Inv X pins σ H s) (h1:-(2 ^ 62)<=lo) (h2:lo < 2 ^ 62) (h3:-(2 ^ 62)<=hi) (h4:hi < 2 ^ 62)
  (q:R (Itr lo (hi - lo).toNat) H):wpAny (model X.prog X.w) X.A (pyIter (.ref s.heap.objs.size)) (PIE X pins σ tg R) E { s with heap:=s.heap.push { cls:=.type "range",data:=.fields #[.int lo t,.int hi u,.int 1 v] },toks:=tk }:=by
 refine wpAny_pyIter_range (IsRange.new ..) (small_one h1 h2 h3 h4) ?_
 have I1:Inv X pins σ H { s with heap:=s.heap.push { cls:=.type "range",data:=.fields #[.int lo t,.int hi u,.int 1 v] },toks:=tk }:=I.kept fun b o e=>Heap.get?_push_of_some _ e
 refine ⟨(s.heap.push { cls:=.type "range",data:=.fields #[.int lo t,.int hi u,.int 1 v] }).objs.size,[(s.heap.push { cls:=.type "range",data:=.fields #[.int lo t,.int hi u,.int 1 v] }).objs.size],_,_,H,rfl,
  I1.kept (t':=tk) fun b o e=>Heap.get?_push_of_some _ e,Od _ lo (hi - lo).toNat,?_,fun b hb=>?_,q⟩
 ·have e1:lo + ((0:Nat):Int) * 1=lo:=by simp
  have e2:(((hi - lo).toNat:Nat):Int) - ((0:Nat):Int)=Builtin.Range.rangeSize lo hi 1:=by rw [rangeSize_one];split <;> omega
  show IsRangeIter _ _ (lo + ((0:Nat):Int) * 1) ((((hi - lo).toNat:Nat):Int) - ((0:Nat):Int)) 1
  rw [e1,e2]
  exact Heap.get?_push_size _ rfl
 ·have e:b=(s.heap.push { cls:=.type "range",data:=.fields #[.int lo t,.int hi u,.int 1 v] }).objs.size:=by simpa using hb
  subst e
  exact I1.aaP (Nat.le_refl _) (I1.hok.fresh (Nat.le_refl _))
noncomputable def agq (ta:TA):TI:=fun σ H R=>ta σ H fun vs H1=>∃ j:Int,vs=[.int j]/\-(2 ^ 62)<=j/\j < 2 ^ 62/\R (Itr 0 j.toNat) H1
theorem Sy {a:Expr} {ta:TA} {p pos:Pos} (hg:Gl X "range") (hm:X.mg "range"=none) (ha:PA X [a] ta) (hs:starEach [a] X.env=[(false,eval a X.env)]:=by rfl):PI X tg (.Call (.Name "range" p) [a] [] pos) (agq ta):=by
 intro pins s σ H R I h
 refine Call_ (GJ I hg hm boot_range (PyProof.Rows.callWith_type1 (iT (ha pos pins s σ H _ I h) fun us s1 ⟨vs,H1,I1,r1,q1⟩=>?_) hs rfl))
 obtain ⟨j,e,q1,q2,q⟩:=q1
 subst e
 cases r1 with
 | cons r rr =>
  cases rr
  obtain ⟨t,rfl⟩:=r
  exact call_range_1 (Wn I1 (by omega) (by omega) q1 q2 (by simpa using q))
noncomputable def aiE (wi:TI) (g:TG) (tb:TS):TS:=fun D σ H=>wi σ H fun J H1=>∃ W:Nat->Nat->St->Hp->Prop,(∃ m,W 0 m σ H1)/\∀ i m σ H,W i m σ H ->
 (J.stop i H/\D.nx σ H)∨(J.go i H/\∃ N:St->Hp->Prop,(∀ σ' H',N σ' H'->∃ m',m' < m/\W (i + 1) m' σ' H')/\∀ x H',J.yld i H x H'->g x σ H' fun σ2 H2=>tb { D with nx:=N,ct:=N,bk:=D.nx } σ2 H2)
noncomputable def vQ (fp:List Addr) (h:Heap):List (Addr×Obj):=fp.filterMap fun b=>(h.get? b).map fun o=>(b,o)
theorem mQ {fp:List Addr} {h:Heap} {b:Addr} {o:Obj} (hb:b∈fp) (e:h.get? b=some o):(b,o)∈vQ fp h:=List.mem_filterMap.mpr ⟨b,hb,by rw [e];rfl⟩
theorem SJ {fp:List Addr} {h:Heap} {p:Addr×Obj} (hp:p∈vQ fp h):p.1∈fp/\h.get? p.1=some p.2:=by
 obtain ⟨b,hb,e⟩:=List.mem_filterMap.mp hp
 cases q:h.get? b with
 | none=>rw [q] at e;cases e
 | some o =>
  rw [q] at e
  have e':(b,o)=p:=Option.some.inj e
  subst e'
  exact ⟨hb,q⟩
theorem Inv.pinned {pins:List (Addr×Obj)} {σ:St} {H:Hp} {s:Shared} {fp:List Addr} (I:Inv X pins σ H s) (hf:∀ b∈fp,yc X pins H b) (ho:∀ b∈fp,∃ o,s.heap.get? b=some o/\∀ v,o.data≠.cell v):Inv X (pins++vQ fp s.heap) σ H s :=
 I.Qz fun p hp=>(List.mem_append.mp hp).elim (fun z=>I.pin p (List.mem_append_right _ z)) fun z=>by
  obtain ⟨hb,e⟩:=SJ z
  obtain ⟨f0,f1,f2,_⟩:=hf p.1 hb
  obtain ⟨o,e',d⟩:=ho p.1 hb
  rw [e] at e';cases e'
  exact ⟨e,f0,f1,f2,d⟩
theorem Inv.uM {pins pl:List (Addr×Obj)} {σ:St} {H:Hp} {s:Shared} (I:Inv X (pins++pl) σ H s):Inv X pins σ H s:=I.Qz fun p hp=>I.pin p (List.mem_append_right _ (List.mem_append_left _ hp))
theorem Wo {iter:Expr} {body:List Stmt} {wi:TI} {g:TG} {tb:TS} {pos:Pos} (hp:PassesOwn (model X.prog X.w) X.A X.env X.xe) (hc:X.calm=true) (hi:PI X tg iter wi) (hg:PG X tg g) (hb:Kq X body tb)
  (hs:∀ x,foldedSetIterable iter X.env x=pure x:=by intro _;rfl):PS X (.For tg iter body [] pos) (aiE wi g tb):=by
 intro pins s σ H D I h
 refine wpAny_For (iT (hi pins s σ H _ I h) fun v s1 h1=>iT h1 fun itv s2 h2=>?_) hs
 obtain ⟨it,fp,tn,J,H2,e,I2,T,st2,f2,W,⟨m0,w0⟩,turn⟩:=h2
 subst e
 have stat:∀ {H':Hp},(∀ b∈fp,H' b=none)->∀ b∈fp,yc X pins H' b:=fun hn b hb=>⟨hn b hb,(f2 b hb).2⟩
 refine codeAny_forLoop_any (fun n s'=>∃ i σ' H',Inv X pins σ' H' s'/\tn i s'.heap/\(∀ b∈fp,H' b=none)/\W i n σ' H') ?_ m0 ⟨0,σ,H2,I2,st2,fun b hb=>(f2 b hb).1,w0⟩
 rintro n s3 ⟨i,σ3,H3,I3,st3,fr3,w3⟩
 rcases turn i n σ3 H3 w3 with ⟨stop,qn⟩|⟨go,N,hN,step⟩
 ·refine wpAny_passesOwn hp (iT (T.done X rfl rfl rfl hc i pins s3 σ3 H3 X.xe I3 (stat fr3) st3 stop) fun r s4 ⟨hr,I4⟩=>?_)
  subst hr
  exact wpAny_execs_nil ⟨σ3,H3,I4,qn⟩
 ·refine wpAny_passesOwn hp (iT (T.item X rfl rfl rfl hc i pins s3 σ3 H3 X.xe I3 (stat fr3) st3 go) fun r s4 ⟨u,hr,h4⟩=>?_)
  subst hr
  refine wpAny_passesOwn hp (iT h4 fun _ s5 ⟨x,H5,I5,r5,y5,st5,fr5⟩=>?_)
  have I5':=I5.pinned (stat fr5) (T.obj _ _ st5)
  refine wpAny_passesOwn hp (iT (hg _ s5 σ3 H5 x u _ I5' r5 (step x H5 y5)) fun _ s6 ⟨σ6,H6,I6,q6⟩=>?_)
  refine wpAny_passesOwn hp (iT (hb _ s6 σ6 H6 _ I6 q6) fun f s7 q7=>?_)
  have again:∀ {σ7:St} {H7:Hp},Inv X (pins++vQ fp s5.heap) σ7 H7 s7->N σ7 H7->∃ m,m < n/\∃ i σ' H',Inv X pins σ' H' s7/\tn i s7.heap/\(∀ b∈fp,H' b=none)/\W i m σ' H':=fun {σ7 H7} I7 n7=>by
   obtain ⟨m',hm,w7⟩:=hN σ7 H7 n7
   refine ⟨m',hm,i + 1,σ7,H7,I7.uM,T.keep _ _ _ st5 fun b hb o e=>(I7.pin (b,o) (List.mem_append_right _ (List.mem_append_right _ (mQ hb e)))).1,fun b hb=>?_,w7⟩
   obtain ⟨o,e,d⟩:=T.obj _ _ st5 b hb
   exact (I7.pin (b,o) (List.mem_append_right _ (List.mem_append_right _ (mQ hb e)))).2.1
  cases f with
  | next=>obtain ⟨σ7,H7,I7,n7⟩:=q7;exact again I7 n7
  | cont=>obtain ⟨σ7,H7,I7,n7⟩:=q7;exact again I7 n7
  | brk=>obtain ⟨σ7,H7,I7,q7⟩:=q7;exact ⟨σ7,H7,I7.uM,q7⟩
  | ret v=>obtain ⟨x7,σ7,H7,I7,r7,q7⟩:=q7;exact ⟨x7,σ7,H7,I7.uM,r7,q7⟩
end
theorem Wq {K:PySem.W.Frag} {a:Addr} {xs:List V} {g:TG} {tb:TS} {D:Ends} {σ:St} {H:Hp} (Pv:Nat->St->Hp->Prop) (h0:Pv 0 σ H) (hl:∀ i σ H,i<=xs.length->Pv i σ H->pC K H a xs)
  (hs:∀ i x σ H,xs[i]?=some x->Pv i σ H->g x σ H fun σ2 H2=>tb { D with nx:=Pv (i + 1),ct:=Pv (i + 1),bk:=D.nx } σ2 H2) (hd:∀ σ H,Pv xs.length σ H->D.nx σ H) :
  ∃ W:Nat->Nat->St->Hp->Prop,(∃ m,W 0 m σ H)/\∀ i m σ H,W i m σ H ->
   ((Itl K a).stop i H/\D.nx σ H)∨((Itl K a).go i H/\∃ N:St->Hp->Prop,(∀ σ' H',N σ' H'->∃ m',m' < m/\W (i + 1) m' σ' H')/\∀ x H',(Itl K a).yld i H x H'->g x σ H' fun σ2 H2=>tb { D with nx:=N,ct:=N,bk:=D.nx } σ2 H2):=by
 refine ⟨fun i m σ H=>m=xs.length - i/\i<=xs.length/\Pv i σ H,⟨xs.length,by simp,Nat.zero_le _,h0⟩,?_⟩
 rintro i m σ H ⟨rfl,hi,p⟩
 have q:=hl i σ H hi p
 by_cases hlt:i < xs.length
 ·refine .inr ⟨⟨xs,xs[i],q,by simp [hlt]⟩,Pv (i + 1),fun σ' H' p'=>⟨xs.length - (i + 1),by omega,rfl,hlt,p'⟩,fun x H' y=>?_⟩
  obtain ⟨e,y⟩:=y
  subst e
  exact hs i x σ _ (y xs q) p
 ·have e:i=xs.length:=by omega
  subst e
  exact .inl ⟨⟨xs,q,Nat.le_refl _⟩,hd σ H p⟩
theorem SM {lo:Int} {n:Nat} {g:TG} {tb:TS} {D:Ends} {σ:St} {H:Hp} (Pv:Nat->St->Hp->Prop) (h0:Pv 0 σ H)
  (hs:∀ i σ H,i < n->Pv i σ H->g (.int (lo + i)) σ H fun σ2 H2=>tb { D with nx:=Pv (i + 1),ct:=Pv (i + 1),bk:=D.nx } σ2 H2) (hd:∀ σ H,Pv n σ H->D.nx σ H) :
  ∃ W:Nat->Nat->St->Hp->Prop,(∃ m,W 0 m σ H)/\∀ i m σ H,W i m σ H ->
   ((Itr lo n).stop i H/\D.nx σ H)∨((Itr lo n).go i H/\∃ N:St->Hp->Prop,(∀ σ' H',N σ' H'->∃ m',m' < m/\W (i + 1) m' σ' H')/\∀ x H',(Itr lo n).yld i H x H'->g x σ H' fun σ2 H2=>tb { D with nx:=N,ct:=N,bk:=D.nx } σ2 H2):=by
 refine ⟨fun i m σ H=>m=n - i/\i<=n/\Pv i σ H,⟨n,by simp,Nat.zero_le _,h0⟩,?_⟩
 rintro i m σ H ⟨rfl,hi,p⟩
 by_cases hlt:i < n
 ·refine .inr ⟨hlt,Pv (i + 1),fun σ' H' p'=>⟨n - (i + 1),by omega,rfl,hlt,p'⟩,fun x H' y=>?_⟩
  obtain ⟨e,y⟩:=y
  subst e y
  exact hs i σ _ hlt p
 ·have e:i=n:=by omega
  subst e
  exact .inl ⟨Nat.le_refl _,hd σ H p⟩
end L2
namespace L2
open PySem PySem.Spec PyProof.Rows
noncomputable abbrev R2:=V->V->Hp->VK->Prop
noncomputable def rW (X:Cx) (f:Value->Value->Sem Value) (r:R2):Prop :=
 ∀ (pins:List (Addr×Obj)) (s:Shared) (σ:St) (H:Hp) (x y:V) (v u:Value) (Q:VK),Inv X pins σ H s->RelV x v->RelV y u->r x y H Q ->
  wpAny (model X.prog X.w) X.A (f v u) (EP X pins σ Q) X.xe s
noncomputable def UnR (X:Cx) (f:Value->Sem Value) (r:V->Hp->VK->Prop):Prop :=
 ∀ (pins:List (Addr×Obj)) (s:Shared) (σ:St) (H:Hp) (x:V) (v:Value) (Q:VK),Inv X pins σ H s->RelV x v->r x H Q ->
  wpAny (model X.prog X.w) X.A (f v) (EP X pins σ Q) X.xe s
noncomputable def gD (X:Cx) (f:Value) (r:List V->Hp->VK->Prop):Prop :=
 ∀ (pins:List (Addr×Obj)) (s:Shared) (σ:St) (H:Hp) (xs:List V) (us:List Value) (Q:VK),Inv X pins σ H s->Vals xs us->r xs H Q ->
  wpAny (model X.prog X.w) X.A (call f us) (EP X pins σ Q) X.xe s
noncomputable def tOp (r:R2) (ta tb:TE):TE:=fun σ H Q=>ta σ H fun x H1=>tb σ H1 fun y H2=>r x y H2 Q
noncomputable def tUn (r:V->Hp->VK->Prop) (ta:TE):TE:=fun σ H Q=>ta σ H fun x H1=>r x H1 Q
noncomputable def rI (C:Int->Int->Prop) (g:Int->Int->V):R2:=fun x y H Q=>∃ i j,x=.int i/\y=.int j/\C i j/\Q (g i j) H
noncomputable def rI0 (g:Int->Int->V):R2:=fun x y H Q=>∃ i j,x=.int i/\y=.int j/\Q (g i j) H
noncomputable def rU (g:Int->V):V->Hp->VK->Prop:=fun x H Q=>∃ i,x=.int i/\Q (g i) H
section
variable {X:Cx} {a b c:Expr} {ta tb tc:TE} {pos:Pos}
theorem adW (ha:PE X a ta) (hb:PE X b tb) {pins:List (Addr×Obj)} {s:Shared} {σ:St} {H:Hp} {R:V->V->Hp->Prop} (I:Inv X pins σ H s)
  (h:ta σ H fun x H1=>tb σ H1 fun y H2=>R x y H2) {Q:Value->Shared->Prop} {f:Value->Value->Sem Value}
  (hf:∀ v u s2 x y H2,Inv X pins σ H2 s2->RelV x v->RelV y u->R x y H2->wpAny (model X.prog X.w) X.A (f v u) Q X.xe s2) :
  wpAny (model X.prog X.w) X.A (eval a X.env) (fun v s₁=>wpAny (model X.prog X.w) X.A (eval b X.env) (fun u s₂=>wpAny (model X.prog X.w) X.A (f v u) Q X.xe s₂) X.xe s₁) X.xe s:=by
 refine iT (ha pins s σ H _ I h) fun v s1 ⟨x,H1,I1,r1,q1⟩=>?_
 refine iT (hb pins s1 σ H1 _ I1 q1) fun u s2 ⟨y,H2,I2,r2,q2⟩=>?_
 exact hf v u s2 x y H2 I2 r1 r2 q2
theorem Wr {op:Operator} {r:R2} (ho:rW X (binaryOp op) r) (ha:PE X a ta) (hb:PE X b tb):PE X (.BinOp a op b pos) (tOp r ta tb):=by
 intro pins s σ H Q I h
 exact wpAny_BinOp (adW ha hb I h fun v u s2 x y H2 I2 rx ry q=>ho pins s2 σ H2 x y v u Q I2 rx ry q)
theorem ags {op:UnaryOp} {r:V->Hp->VK->Prop} (ho:UnR X (unaryOp op) r) (ha:PE X a ta):PE X (.UnaryOp op a pos) (tUn r ta):=by
 intro pins s σ H Q I h
 exact UnaryOp_ (iT (ha pins s σ H _ I h) fun v s1 ⟨x,H1,I1,r1,q1⟩=>ho pins s1 σ H1 x v Q I1 r1 q1)
theorem opI {f:Value->Value->Sem Value} {C:Int->Int->Prop} {g:Int->Int->Int}
  (rule:∀ (i j:Int) (t u:Tok) (s:Shared) (Q:Value->Shared->Prop) (E:Value->Shared->Prop),C i j->Q (.int (g i j) s.toks) { s with toks:=s.toks + 1 }->wpAny (model X.prog X.w) X.A (f (.int i t) (.int j u)) Q E s) :
  rW X f (rI C fun i j=>.int (g i j)):=by
 intro pins s σ H x y v u Q I rx ry h
 obtain ⟨i,j,rfl,rfl,hc,q⟩:=h
 obtain ⟨t,rfl⟩:=rx
 obtain ⟨t',rfl⟩:=ry
 exact rule i j t t' s _ _ hc ⟨.int (g i j),H,I.tok _,⟨_,rfl⟩,q⟩
theorem agt {f:Value->Value->Sem Value} {g:Int->Int->Int}
  (rule:∀ (i j:Int) (t u:Tok) (s:Shared) (Q:Value->Shared->Prop) (E:Value->Shared->Prop),Q (.int (g i j) s.toks) { s with toks:=s.toks + 1 }->wpAny (model X.prog X.w) X.A (f (.int i t) (.int j u)) Q E s) :
  rW X f (rI0 fun i j=>.int (g i j)):=by
 intro pins s σ H x y v u Q I rx ry h
 obtain ⟨i,j,rfl,rfl,q⟩:=h
 obtain ⟨t,rfl⟩:=rx
 obtain ⟨t',rfl⟩:=ry
 exact rule i j t t' s _ _ ⟨.int (g i j),H,I.tok _,⟨_,rfl⟩,q⟩
theorem adX {f:Value->Value->Sem Value} {g:Int->Int->Bool}
  (rule:∀ (i j:Int) (t u:Tok) (s:Shared) (Q:Value->Shared->Prop) (E:Value->Shared->Prop),Q (.bool (g i j)) s->wpAny (model X.prog X.w) X.A (f (.int i t) (.int j u)) Q E s) :
  rW X f (rI0 fun i j=>.bl (g i j)):=by
 intro pins s σ H x y v u Q I rx ry h
 obtain ⟨i,j,rfl,rfl,q⟩:=h
 obtain ⟨t,rfl⟩:=rx
 obtain ⟨t',rfl⟩:=ry
 exact rule i j t t' s _ _ ⟨.bl (g i j),H,I,rfl,q⟩
noncomputable def Ws (i j:Int):Prop:=0<=j/\j<=1000000/\i.natAbs < 2 ^ 64
noncomputable def Oe (i j:Int):Prop:=(-(2 ^ 64) < i/\i < 2 ^ 64)∨(-(2 ^ 64) < j/\j < 2 ^ 64)
theorem Oe.ok {i j:Int} (h:Oe i j):IntMulOk i j:=by
 rcases h with ⟨h1,h2⟩|⟨h1,h2⟩
 ·exact .of_left (intBits_le_64 h1 h2)
 ·exact .of_right (intBits_le_64 h1 h2)
theorem adY:rW X (binaryOp .Add) (rI0 fun i j=>.int (i + j)):=agt fun _ _ _ _ _ _ _ q=>add_int q
theorem adZ:rW X (binaryOp .Sub) (rI0 fun i j=>.int (i - j)):=agt fun _ _ _ _ _ _ _ q=>sub_int q
theorem aea:rW X (binaryOp .Mult) (rI Oe fun i j=>.int (i * j)):=opI fun _ _ _ _ _ _ _ hc q=>mul_int q hc.ok
theorem aeb:rW X (binaryOp .Mod) (rI (fun _ j=>0 < j) fun i j=>.int (i % j)):=opI fun i j _ _ _ _ _ hc q=>by
 have h1:(0:Int) < j:=hc
 exact mod_int' (by omega) (by rw [Int.fmod_eq_emod_of_nonneg i (by omega)];exact q)
theorem aec:rW X (binaryOp .Pow) (rI Ws fun i j=>.int (i ^ j.toNat)):=opI fun _ _ _ _ _ _ _ hc q=>pow_int_small hc.1 hc.2.1 hc.2.2 q
theorem unI {f:Value->Sem Value} {g:Int->Int}
  (rule:∀ (i:Int) (t:Tok) (s:Shared) (Q:Value->Shared->Prop) (E:Value->Shared->Prop),Q (.int (g i) s.toks) { s with toks:=s.toks + 1 }->wpAny (model X.prog X.w) X.A (f (.int i t)) Q E s) :
  UnR X f (rU fun i=>.int (g i)):=by
 intro pins s σ H x v Q I rx h
 obtain ⟨i,rfl,q⟩:=h
 obtain ⟨t,rfl⟩:=rx
 exact rule i t s _ _ ⟨.int (g i),H,I.tok _,⟨_,rfl⟩,q⟩
theorem aed:UnR X (unaryOp .USub) (rU fun i=>.int (-i)):=unI fun _ _ _ _ _ q=>neg_int q
end
section
variable {X:Cx} {a b c:Expr} {ta tb tc:TE} {pos:Pos}
theorem acS:rW X (compareOp .Lt) (rI0 fun i j=>.bl (decide (i < j))):=adX fun _ _ _ _ _ _ _ q=>lt_int q
theorem agu:rW X (compareOp .Gt) (rI0 fun i j=>.bl (decide (j < i))):=adX fun _ _ _ _ _ _ _ q=>gt_int q
theorem agv:rW X (compareOp .GtE) (rI0 fun i j=>.bl (decide (j<=i))):=adX fun _ _ _ _ _ _ _ q=>ge_int q
theorem rW.or {f:Value->Value->Sem Value} {r r':R2} (h:rW X f r) (h':rW X f r'):rW X f (fun x y H Q=>r x y H Q∨r' x y H Q):=by
 intro pins s σ H x y v u Q I rx ry q
 rcases q with q|q
 ·exact h pins s σ H x y v u Q I rx ry q
 ·exact h' pins s σ H x y v u Q I rx ry q
theorem pL (b:Expr) {op:CmpOp} (h:op≠.In:=by decide) (h2:op≠.NotIn:=by decide):behindInMarks op b=false:=by
 have e1:(op == CmpOp.In)=false:=by cases op <;> first|rfl|exact absurd rfl h
 have e2:(op == CmpOp.NotIn)=false:=by cases op <;> first|rfl|exact absurd rfl h2
 cases b <;> simp [behindInMarks,e1,e2]
theorem aaR {op:CmpOp} {r:R2} (ho:rW X (compareOp op) r) (ha:PE X a ta) (hb:PE X b tb) (hm:behindInMarks op b=false):PE X (.Compare a [op] [b] pos) (tOp r ta tb):=by
 intro pins s σ H Q I h
 exact wpAny_Compare1 (adW ha hb I h fun v u s2 x y H2 I2 rx ry q=>ho pins s2 σ H2 x y v u Q I2 rx ry q) hm
noncomputable def agw (t:TE):TT:=fun σ H Q=>t σ H fun x H'=>∃ k,x=.bl k/\Q k H'
theorem aaS {op:CmpOp} {r:R2} (ho:rW X (compareOp op) r) (ha:PE X a ta) (hb:PE X b tb) (hm:behindInMarks op b=false):PT X (.Compare a [op] [b] pos) (agw (tOp r ta tb)):=by
 intro pins s σ H Q I h
 refine wpAny_isTrue_Compare1 (iT (ha pins s σ H _ I h) fun v s1 ⟨x,H1,I1,r1,q1⟩=>iT (hb pins s1 σ H1 _ I1 q1) fun u s2 ⟨y,H2,I2,r2,q2⟩ =>
  iT (ho pins s2 σ H2 x y v u _ I2 r1 r2 q2) fun c s3 ⟨z,H3,I3,r3,k,e,q3⟩=>?_) hm
 subst e
 cases r3
 exact wpAny_truthy_bool ⟨H3,I3,q3⟩
theorem GK:(sizeLine:Nat) < 2 ^ 63:=by rw [sizeLine_eq];decide
theorem Ks {x:V} {us:List Value} (r:Vals [x] us):∃ u,us=[u]/\RelV x u:=by
 cases r with
 | cons r1 r2=>cases r2;exact ⟨_,rfl,r1⟩
theorem agx {x y:V} {us:List Value} (r:Vals [x,y] us):∃ u w',us=[u,w']/\RelV x u/\RelV y w':=by
 cases r with
 | cons r1 r2 =>
  cases r2 with
  | cons r3 r4=>cases r4;exact ⟨_,_,rfl,r1,r3⟩
theorem SN:gD X (.type "int") (fun xs H Q=>(∃ i,xs=[.int i]/\Q (.int i) H)∨∃ k,xs=[.bl k]/\Q (.int (if k then 1 else 0)) H):=by
 intro pins s σ H xs us Q I r h
 rcases h with ⟨i,rfl,q⟩|⟨k,rfl,q⟩
 ·obtain ⟨u,rfl,t,rfl⟩:=Ks r
  exact call_int_int ⟨.int i,H,I,⟨_,rfl⟩,q⟩
 ·obtain ⟨u,rfl,r1⟩:=Ks r
  cases r1
  exact call_int_bool ⟨.int (if k then 1 else 0),H,I.tok _,⟨_,rfl⟩,q⟩
end
end L2
namespace L2
open PySem PySem.Spec PyProof.Rows
structure akt (h:Heap) (x dx C:Addr) (mA:Str->Option Value):Prop where
 obj:h.get? x=some (PySem.W.instObj C dx)
 ns:h.Ns1 dx mA
 ne:dx≠x
section
variable {prog:Program} {w:World} {A:Around} {E:Value->Shared->Prop} {s:Shared} {K:PySem.W.Frag} {x dx C f:Addr} {mA:Str->Option Value} {name:Str} {v:Value}
end
section
variable {P:Program} {w:World} {H H':Hp} {h h':Heap} {a C dx:Addr} {fs fs':List (Str×V)}
end
structure Cls (K:PySem.W.Frag) (C:Addr):Prop where
 pg:PySem.W.plainGet K C Str.empty=true
 hd:PySem.W.hasDictIn K C=true
 po:PySem.W.plainOver K C=true
 sa:PySem.W.findIn K (.ref C) "__setattr__"=some (some (.builtin "object.__setattr__"))
structure Con (K:PySem.W.Frag) (C:Addr) (f:Str) (v:V) (u:Value):Prop where
 at_:PySem.W.findIn K (.ref C) f=some (some u)
 rel:RelV v u
 get:PySem.W.specialIn K u "__get__"=some none
 cp:PySem.W.copiedNames.contains f=false
structure Meth (K:PySem.W.Frag) (C:Addr) (m:Str) (f:Addr):Prop where
 at_:PySem.W.findIn K (.ref C) m=some (some (.ref f))
 fn:PySem.W.isFn K (.ref f)=true
 kp:PySem.W.keepIn K (.ref f)=true
section
variable {X:Cx} {pins:List (Addr×Obj)} {σ:St} {H:Hp} {s:Shared} {a C dx:Addr} {fs:List (Str×V)} {f:Str} {v:V} {A:Around} {E:Value->Shared->Prop}
end
section
variable {X:Cx} {o e value:Expr} {f:Str} {pos pos' tpos:Pos} {ta tv:TE}
end
section
variable {X:Cx} {pins:List (Addr×Obj)} {σ:St} {H:Hp} {s:Shared} {A:Around} {E:Value->Shared->Prop} {Q:Value->Shared->Prop} {c:Value} {b:Bool}
inductive yL (K:PySem.W.Frag) (H:Hp):V->Value->Prop where
 | non:yL K H .non (.type "NoneType")
 | bl (x:Bool):yL K H (.bl x) (.type "bool")
 | int (i:Int):yL K H (.int i) (.type "int")
 | str (x:Str):yL K H (.str x) (.type "str")
 | flt (x:UInt64):yL K H (.flt x) (.type "float")
 | lst {a:Addr} {xs:List V} (e:H a=some (.lst xs)):yL K H (.ref a) (.type "list")
 | Cj {a:Addr} {o:Obj} {xs:List V} (e:H a=some (.Cj o (.lst xs))):yL K H (.ref a) (.type "list")
 | tup {a:Addr} {xs:List V} (e:H a=some (.tup xs)):yL K H (.ref a) (.type "tuple")
 | dK {a:Addr} {kvs:List (Kg×V)} (e:H a=some (.dK kvs)):yL K H (.ref a) (.type "dict")
 | dT {a:Addr} {kvs:List (List Kg×V)} (e:H a=some (.dT kvs)):yL K H (.ref a) (.type "dict")
 | ins {a C dx:Addr} {fs:List (Str×V)} (e:H a=some (.ins C dx fs)) (cl:Cls K C) (ha:PySem.W.findIn K (.ref C) "__class__"=some (some (.builtin "object.__class__")))
   (hn:PySem.W.specialIn K (.builtin "object.__class__") "__get__"=some (some (.builtin "getset_descriptor.__get__"))) (htk:PySem.W.takesIn K (.builtin "object.__class__")=some true)
   (hm:PySem.W.mroIn K C (.type "object")=some true):yL K H (.ref a) (.ref C)
end
end L2
namespace L2
open PySem PySem.Spec PyProof.Rows
structure mR (k:Nat) (A:Around):Prop where
 hd:A.handled=none
 dp:A.depth + 3 * k + 5 < recursionLimit
 un:A.units + 16 * k + 200 < cLine
theorem mR.mono {j k:Nat} {A:Around} (r:mR k A) (h:j<=k):mR j A:=⟨r.hd,by have:=r.dp;omega,by have:=r.un;omega⟩
theorem mR.deeper {k:Nat} {A:Around} (r:mR (k + 1) A) (env:Env):mR k (A.deeper env) :=
 ⟨r.hd,by have:=r.dp;show A.depth + 1 + 3 * k + 5 < _;omega,by have:=r.un;show A.units + 3 + 16 * k + 200 < _;omega⟩
theorem mR.depth {k:Nat} {A:Around} (r:mR k A):A.depth < recursionLimit:=by have:=r.dp;omega
noncomputable def agy:TA:=fun _ H Q=>Q [] H
noncomputable def acT (ta:TE) (tr:TA):TA:=fun σ H Q=>ta σ H fun x H1=>tr σ H1 fun xs H2=>Q (x::xs) H2
section
variable {X:Cx} {e:Expr} {es:List Expr} {te:TE} {t:TA} {pos:Pos}
theorem pN:PA X [] agy:=fun _ _ _ _ H Q I h=>Calls.spliced_nil ⟨[],H,I,.nil,h⟩
theorem jB (ha:PE X e te) (hr:PA X es t) (hs:starEach (e::es) X.env=(false,eval e X.env)::starEach es X.env:=by rfl):PA X (e::es) (acT te t):=by
 intro pos pins s σ H Q I h
 rw [hs]
 show wpAny _ _ (spliced ((false,eval e X.env)::backTo pos (starEach es X.env))) _ _ s
 refine Calls.spliced_cons (iT (ha pins s σ H _ I h) fun u s1 ⟨x,H1,I1,r1,q1⟩=>?_)
 exact iT (hr pos pins s1 σ H1 _ I1 q1) fun us s2 ⟨xs,H2,I2,r2,q2⟩=>⟨x::xs,H2,I2,.cons r1 r2,q2⟩
noncomputable def aiH (t:TA):TE:=fun σ H Q=>t σ H fun xs H1=>xs.length<=sizeLine/\∀ p,H1 p=none->Q (.ref p) (gC H1 p (.tup xs))
noncomputable def aiI (t:TA):TE:=fun σ H Q=>t σ H fun xs H1=>xs.length<=sizeLine/\∀ p,H1 p=none->Q (.ref p) (gC H1 p (.lst xs))
theorem aee {x1} (h:PA X es t):PE X (.Tuple es x1 pos) (aiH t):=by
 intro pins s σ H Q I hq
 refine wpAny_Tuple_spliced (iT (h pos pins s σ H _ I hq) fun us s1 ⟨xs,H1,I1,r,z,q⟩=>⟨by rw [<- r.length];exact z,?_⟩)
 have hf:H1 s1.heap.objs.size=none:=I1.hok.fresh (Nat.le_refl _)
 refine ⟨.ref s1.heap.objs.size,gC H1 s1.heap.objs.size (.tup xs),I1.laid (t':=s1.toks) (fun b u e=>Heap.get?_push_of_some _ e) (Nat.le_refl _) ?_,rfl,q _ hf⟩
 exact ⟨z,us,r,⟨_,Heap.get?_push_size _ rfl,rfl,_,rfl⟩⟩
theorem Wt (h:PA X es t):PE X (.List es pos) (aiI t):=by
 intro pins s σ H Q I hq
 refine wpAny_List_spliced (iT (h pos pins s σ H _ I hq) fun us s1 ⟨xs,H1,I1,r,z,q⟩=>⟨by rw [<- r.length];exact z,?_⟩)
 have hf:H1 s1.heap.objs.size=none:=I1.hok.fresh (Nat.le_refl _)
 refine ⟨.ref s1.heap.objs.size,gC H1 s1.heap.objs.size (.lst xs),I1.laid (t':=s1.toks) (fun b u e=>Heap.get?_push_of_some _ e) (Nat.le_refl _) ?_,rfl,q _ hf⟩
 exact ⟨z,us,0,r,Heap.get?_push_size _ rfl⟩
end
noncomputable abbrev Sp:=List V->Hp->VK->XK->Prop
noncomputable abbrev CXT:=List Env->Hp->Shared->XK->Value->Shared->Prop
structure aaT (P:Program) (w:World) (K:PySem.W.Frag) (mg:Str->Option Value) (base:Heap) (A:Around) (outer:List Env) (s:Shared) (H:Hp):Prop where
 frames:A.frames=some outer
 mod:Mod K mg base
 bs:∀ b o,base.get? b=some o->s.heap.get? b=some o/\H b=none
 bsz:base.objs.size<=s.heap.objs.size
 yJ:s.heap.FunFrames base outer
 frf:∀ b∈uK outer,H b=none
 hok:yr P w H s.heap
 bare:AllBare s.gens
noncomputable def CE (outer:List Env) (P:Program) (w:World) (H:Hp) (s:Shared) (Q:VK) (u:Value) (s':Shared):Prop :=
 ∃ v H',s'.os=s.os/\AllBare s'.gens/\Un (uK outer) [] H H' s.heap s'.heap/\yr P w H' s'.heap/\RelV v u/\Q v H'
noncomputable def CR (CX:CXT) (outer:List Env) (P:Program) (w:World) (H:Hp) (s:Shared) (Q:VK) (E:XK) (r:Result) (s':Shared):Prop :=
 match r with
 | .ok (.ret u)=>CE outer P w H s Q u s'
 | .ok _=>False
 | .error e=>CX outer H s E e s'
structure Ku (P:Program) (w:World) (K:PySem.W.Frag) (mg:Str->Option Value) (base:Heap) (CX:CXT) (k:Nat) (f:Addr) (fd:FuncData) (ps:List Str) (sp:Sp):Prop where
 len:∀ vs H Q E,sp vs H Q E->vs.length=ps.length
 run:∀ (A:Around) (outer:List Env) (s:Shared) (H:Hp) (args:Args) (us:List Value) (vs:List V) (Q:VK) (E:XK),mR k A->aaT P w K mg base A outer s H->BindsTo s fd args (ps.zip us)->Vals vs us->sp vs H Q E ->
  codeAny (model P w) A (.call (.ref f) args) (CR CX outer P w H s Q E) s
section
variable {X:Cx} {pins:List (Addr×Obj)} {σ:St} {H:Hp} {s s':Shared}
theorem Inv.env0 (I:Inv X pins σ H s):aaT X.prog X.w X.K X.mg X.base X.A X.stack s H :=
 ⟨I.ok.frames,I.ok.mod,I.bs,Nat.le_trans I.ok.bsz I.sz,I.stack,I.GD,I.hok,I.bare⟩
theorem Inv.after {Q:VK} {u:Value} (I:Inv X pins σ H s) (h:CE X.stack X.prog X.w H s Q u s'):EP X pins σ Q u s':=by
 obtain ⟨v,H',os,bare,un,hok,r,q⟩:=h
 obtain ⟨hh,g,d,t,os'⟩:=s'
 obtain rfl:os'=s.os:=os
 exact ⟨v,H',I.call (h':=hh) (g':=g) (d':=d) (t':=t) (ch:=[]) un hok bare (fun b z=>absurd z (by simp)),r,q⟩
end
noncomputable def Binds (K:PySem.W.Frag) (fd:FuncData) (ps:List Str) (ds:List Value):Prop :=
 ∀ (s:Shared) (us:List Value),K.In s.heap->(us++ds).length=ps.length->BindsTo s fd ⟨us,[]⟩ (ps.zip (us++ds))
theorem Binds.all {K:PySem.W.Frag} {fd:FuncData} {ps:List Str} (h:∀ us:List Value,us.length=ps.length->bindArgs fd ⟨us,[]⟩=pure (ps.zip us)):Binds K fd ps []:=fun s us _ hl=>by
 rw [List.append_nil] at hl ⊢
 exact .of_eq (h us hl)
section
variable {X:Cx} {CX:CXT} {k:Nat} {f C:Addr} {fd:FuncData} {ps:List Str} {sp:Sp} {dvs:List V} {ds:List Value} {E:XK} {x m:Str} {p pos apos:Pos} {e o:Expr} {es:List Expr} {ta:TE} {t:TA}
structure Mk (K:PySem.W.Frag) (C f:Addr):Prop where
 makes:PySem.W.makesIn K C=true
 init:PySem.W.findIn K (.ref C) "__init__"=some (some (.ref f))
 fn:PySem.W.isFn K (.ref f)=true
 kp:PySem.W.keepIn K (.ref C)=true
end
section
variable {X:Cx} {CX:CXT} {k:Nat} {f C:Addr} {fd:FuncData} {ps ks:List Str} {sp:Sp} {E:XK} {x m:Str} {p pos apos kpos:Pos} {e o:Expr} {es:List Expr} {kws:List Keyword} {te ta:TE} {t tk:TA} {nm:Option Str}
structure aiJ (K:PySem.W.Frag) (fd:FuncData) (ps ks:List Str) (g:List Value->List Value->List Value) (gV:List V->List V->List V):Prop where
 to:∀ (s:Shared) (us ws:List Value),K.In s.heap->(g us ws).length=ps.length->BindsTo s fd ⟨us,ks.zip ws⟩ (ps.zip (g us ws))
 rel:∀ {vs:List V} {us:List Value} {zs:List V} {ws:List Value},Vals vs us->Vals zs ws->Vals (gV vs zs) (g us ws)
variable {g:List Value->List Value->List Value} {gV:List V->List V->List V}
end
structure bY (N P:List Str) (sc:Scope):Prop where
 kind:sc.kind=.function
 co:sc.isCoroutine=false
 gen:sc.isGenerator=false
 nd:N.Nodup
 pre:N.take P.length=P
 par:∀ x∈P,sc.names.lookup x=some .local∨sc.names.lookup x=some .cell
 aef:∀ y∈sc.names,y.2≠.free
theorem Eu {kindOf:Str->Option NameKind} {x:Str}:∀ {binds:List (Str×Value)} {m:Str->Option Value},(∀ v,(x,v)∉binds)->bindL kindOf binds m x=m x
 | [],_,_=>rfl
 | (n,v)::r,m,h=>by
  unfold bindL
  rw [Eu fun w hw=>h w (List.mem_cons_of_mem _ hw)]
  split
  ·have:x≠n:=by rintro rfl;exact h v List.mem_cons_self
   simp [this]
  ·rfl
theorem Ew {kindOf:Str->Option NameKind} {x:Str}:∀ {binds:List (Str×Value)} {m:Str->Option Value},(∀ v,(x,v)∉binds)->bindC kindOf binds m x=m x
 | [],_,_=>rfl
 | (n,v)::r,m,h=>by
  unfold bindC
  rw [Ew fun w hw=>h w (List.mem_cons_of_mem _ hw)]
  split
  ·rfl
  ·have:x≠n:=by rintro rfl;exact h v List.mem_cons_self
   simp [this]
theorem Ey {kindOf:Str->Option NameKind} {x:Str} {v:Value}:∀ {P:List Str} {vs:List Value} {i:Nat} {m:Str->Option Value},P.Nodup->P[i]?=some x->vs[i]?=some v->kindOf x=some .local ->
  bindL kindOf (P.zip vs) m x=some v
 | [],_,_,_,_,h,_,_=>by simp at h
 | _::_,[],_,_,_,_,h,_=>by simp at h
 | p::P,w::vs,0,m,nd,h1,h2,hk=>by
  simp at h1 h2;subst h1;subst h2
  show bindL kindOf ((p,w)::P.zip vs) m p=_
  unfold bindL
  rw [Eu fun v hv=>(List.nodup_cons.mp nd).1 (List.of_mem_zip hv).1,if_pos hk]
  simp
 | p::P,w::vs,i + 1,m,nd,h1,h2,hk=>by
  show bindL kindOf ((p,w)::P.zip vs) m x=_
  unfold bindL
  exact Ey (i:=i) (List.nodup_cons.mp nd).2 (by simpa using h1) (by simpa using h2) hk
theorem Ez {kindOf:Str->Option NameKind} {x:Str} {v:Value}:∀ {P:List Str} {vs:List Value} {i:Nat} {m:Str->Option Value},P.Nodup->P[i]?=some x->vs[i]?=some v->kindOf x≠some .local ->
  bindC kindOf (P.zip vs) m x=some v
 | [],_,_,_,_,h,_,_=>by simp at h
 | _::_,[],_,_,_,_,h,_=>by simp at h
 | p::P,w::vs,0,m,nd,h1,h2,hk=>by
  simp at h1 h2;subst h1;subst h2
  show bindC kindOf ((p,w)::P.zip vs) m p=_
  unfold bindC
  rw [Ew fun v hv=>(List.nodup_cons.mp nd).1 (List.of_mem_zip hv).1,if_neg hk]
  simp
 | p::P,w::vs,i + 1,m,nd,h1,h2,hk=>by
  show bindC kindOf ((p,w)::P.zip vs) m x=_
  unfold bindC
  exact Ez (i:=i) (List.nodup_cons.mp nd).2 (by simpa using h1) (by simpa using h2) hk
noncomputable def start (N:List Str) (vs:List V):St:=vs.map some++List.replicate (N.length - vs.length) none
noncomputable def yM (CX:CXT) (P:Program) (w:World) (K:PySem.W.Frag) (mg:Str->Option Value) (base:Heap) (N:List Str) (qual:Str) (scope:Scope) (f:Addr) (cd:Value) (A:Around) (outer:List Env) (s:Shared) (H:Hp) (E:XK):Cx where
 prog:=P
 w:=w
 K:=K
 mg:=mg
 base:=base
 A:=A.deeper (envOfC qual scope s.heap.objs.size f cd)
 N:=N
 s₀:=s
 H₀:=H
 env:=envOfC qual scope s.heap.objs.size f cd
 outer:=outer
 stack:=envOfC qual scope s.heap.objs.size f cd::outer
 ex:=[]
 calm:=true
 fn:=fun _=>true
 pn:=[]
 xe:=fun e s'=>wpAny (model P w) (A.deeper (envOfC qual scope s.heap.objs.size f cd)) (leaving (envOfC qual scope s.heap.objs.size f cd) e) (fun _ s''=>CX outer H s E e s'') (fun e' s''=>CX outer H s E e' s'') s'
theorem Kv {sc:Scope} {n:Nat} {x:Str} (h:sc.names.lookup x=some .cell):∃ c,(cellsFrom n sc.names []).lookup x=some c:=by
 have q:=PySem.W.cellsFrom_some sc.names n [] (.inl h)
 exact Option.isSome_iff_exists.mp q
theorem SQ {CX:CXT} {P:Program} {w:World} {K:PySem.W.Frag} {mg:Str->Option Value} {base:Heap} {N ps:List Str} {qual:Str} {scope:Scope} {f:Addr} {cd:Value} {A:Around} {outer:List Env} {s s1:Shared} {H:Hp} {E:XK} {us:List Value} {vs:List V}
  (S:bY N ps scope) (hd:A.handled=none) (e0:aaT P w K mg base A outer s H) (hl:vs.length=ps.length) (r:Vals vs us)
  (x:InCallC s s.heap.objs.size (bindL (envOfC qual scope s.heap.objs.size f cd).kindOf (ps.zip us) fun _=>none) (cellsFrom (s.heap.objs.size + 1) scope.names []) (bindC (envOfC qual scope s.heap.objs.size f cd).kindOf (ps.zip us) fun _=>none) s1) :
  Inv (yM CX P w K mg base N qual scope f cd A outer s H E) [] (start N vs) H s1:=by
 have hpl:ps.length<=N.length:=by have:=congrArg List.length S.pre;rw [List.length_take] at this;omega
 obtain ⟨h1,tk,rfl,hk⟩:=x.done
 have noA:∀ b:Addr,b∉(yM CX P w K mg base N qual scope f cd A outer s H E).ex:=fun b z=>absurd (show b∈([]:List Addr) from z) (by simp)
 refine ⟨⟨e0.mod,S.kind,rfl,rfl,Nat.le_refl _,fun y z c h1 h2=>?_,fun y hy=>?_,fun y c _ h=>?_,fun _=>hd,Around.frames_deeper e0.frames,.inr ⟨rfl,rfl⟩,fun b z=>absurd z (noA b),e0.bs,e0.bsz,fun b _ _=>noA b,fun b z=>absurd z (noA b),e0.yJ,e0.frf⟩,
  rfl,e0.bare,Un.kept hk,⟨_,x.toInCall.ns,fun i y v h1 h2 h3=>?_⟩,fun y c h=>⟨_,x.cell y c h⟩,e0.hok.fresh (Nat.le_refl _),fun y c h=>?_,fun p hp=>absurd (show p∈([]:List (Addr×Obj)) from hp) (by simp),e0.hok.kept hk,?_⟩
 ·exact name_of_addr x.apart (PySem.mem_of_lookup h1) (PySem.mem_of_lookup h2)
 ·have hy:scope.names.lookup y=some .cell∨scope.names.lookup y=some .free:=hy
  rcases hy with hy|hy
  ·exact Kv hy
  ·exact absurd rfl (S.aef _ (PySem.mem_of_lookup hy))
 ·exact Nat.le_of_lt (x.above y c (PySem.mem_of_lookup h))
 ·have hi:i < vs.length:=by
   unfold start at h2
   by_cases hi:i < vs.length
   ·exact hi
   ·rw [List.getElem?_append_right (by simpa using hi)] at h2
    rw [List.getElem?_replicate] at h2
    split at h2 <;> cases h2
  have ha:vs[i]?=some v:=by
   unfold start at h2
   rw [List.getElem?_append_left (by simpa using hi),List.getElem?_map] at h2
   cases e:vs[i]? with
   | none=>rw [e] at h2;cases h2
   | some a=>rw [e] at h2;cases h2;rfl
  obtain ⟨u,hu,rv⟩:=r.get ha
  have hp:ps[i]?=some y:=by
   rw [<- S.pre,List.getElem?_take_of_lt (by omega)];exact h1
  have ndP:ps.Nodup:=by rw [<- S.pre];exact S.nd.sublist (List.take_sublist _ _)
  refine ⟨u,rv,?_⟩
  rcases S.par y (List.mem_of_getElem? hp) with k|k
  ·exact .inl ⟨k,Ey ndP hp hu k⟩
  ·obtain ⟨c,e⟩:=Kv (n:=s.heap.objs.size + 1) k
   refine .inr ⟨.inl k,c,e,?_⟩
   have q:=x.cell y c e
   rw [Ez ndP hp hu (by show scope.names.lookup y≠_;rw [k];decide)] at q
   exact q
 ·exact e0.hok.fresh (Nat.le_of_lt (x.above y c (PySem.mem_of_lookup h)))
 ·unfold start
  show _=N.length
  rw [List.length_append,List.length_map,List.length_replicate]
  omega
theorem agz {CX:CXT} {P:Program} {w:World} {K:PySem.W.Frag} {mg:Str->Option Value} {base:Heap} {k:Nat} {f:Addr} {name qual:Str} {params:Arguments} {body:List Stmt} {scope:Scope} {dV kV doc pm cdv ct oc:Value} {an od:Option Addr}
  {osl:Array (Option Value)} {N ps:List Str} {sp:Sp} (lk:K.lookup f=some ⟨oc,od,.func (PySem.W.fnOf name qual params body scope dV kV doc pm an cdv ct),osl⟩) (hcd:PySem.W.codeIn K cdv qual=true) (S:bY N ps scope)
  (len:∀ vs H Q E,sp vs H Q E->vs.length=ps.length)
  (hbody:∀ (A:Around) (outer:List Env) (s:Shared) (H:Hp) (vs:List V) (Q:VK) (E:XK),mR k (A.deeper (envOfC qual scope s.heap.objs.size f cdv))->sp vs H Q E ->
   ∃ t,Kq (yM CX P w K mg base N qual scope f cdv A outer s H E) body t/\t { nx:=fun _ H'=>Q .non H',rt:=Q } (start N vs) H) :
  Ku P w K mg base CX (k + 1) f (PySem.W.fnOf name qual params body scope dV kV doc pm an cdv ct) ps sp:=by
 refine ⟨len,fun A outer s H args us vs Q E hr e0 hb r hsp=>?_⟩
 have hl:=len _ _ _ _ hsp
 have KX:K.In s.heap:=e0.mod.kin.keeps fun b o e=>(e0.bs b o e).1
 have lim:s.heap.NoLimit:=e0.mod.nolimit.keeps fun b o e=>(e0.bs b o e).1
 have hkind:∀ y∈ps.zip us,scope.names.lookup y.1=some .local∨(scope.names.lookup y.1=some .cell/\((cellsFrom (s.heap.objs.size + 1) scope.names []).lookup y.1).isSome=true):=fun ⟨n,v⟩ hy=>by
  rcases S.par n (List.of_mem_zip hy).1 with q|q
  ·exact .inl q
  ·exact .inr ⟨q,PySem.W.cellsFrom_some _ _ _ (.inl q)⟩
 refine codeAny_call_function hr.depth (KX _ _ lk) rfl S.co S.gen rfl (PySem.W.codeRec_of KX hcd) (hb _ _ _ _ ?_)
 refine wpAny_newFunctionEnv_cells S.kind hkind fun env he s1 x=>?_
 subst he
 refine ⟨lim.keeps x.toInCall.keep,codeAny_func ?_⟩
 obtain ⟨t,ht,hq⟩:=hbody A outer s H vs Q E (hr.deeper _) hsp
 have I:Inv (yM CX P w K mg base N qual scope f cdv A outer s H E) [] (start N vs) H s1:=SQ S hr.hd e0 hl r x
 refine wpAny_mono (ht [] s1 (start N vs) H _ I hq) (fun fl s' hs=>?_) fun e s' hs=>hs
 have dH:∀ {σ':St} {H':Hp} {v:V} {u:Value},Inv (yM CX P w K mg base N qual scope f cdv A outer s H E) [] σ' H' s'->RelV v u->Q v H'->CE outer P w H s Q u s' :=
  fun {σ' H' v u} J rv q=>⟨v,H',J.os,J.bare,J.base,J.hok,rv,q⟩
 cases fl with
 | ret u =>
  obtain ⟨v,σ',H',J,rv,q⟩:=hs
  exact dH J rv q
 | next =>
  obtain ⟨σ',H',J,q⟩:=hs
  exact dH (v:=V.non) (u:=Value.none) J rfl q
 | brk =>
  obtain ⟨_,_,_,q⟩:=hs
  exact False.elim q
 | cont =>
  obtain ⟨_,_,_,q⟩:=hs
  exact False.elim q
end L2
namespace L2
open PySem PySem.Spec PyProof.Rows
section
variable {X:Cx} {x:Str} {p pos:Pos} {e:Expr} {es:List Expr} {t:TA} {id T:String} {r:List V->Hp->VK->Prop}
noncomputable def tCB (r:List V->Hp->VK->Prop) (t:TA):TE:=fun σ H Q=>t σ H fun vs H1=>r vs H1 Q
theorem pO (hc:gD X (.builtin id) r) (hg:Gl X x) (hm:X.mg x=none) (hv:bootBuiltins x=some (.builtin id)) (ha:PA X (e::es) t) (hn:x≠"__name__":=by decide) (hdb:(x == ("__debug__":Str))=false:=by decide)
  (he:starEach (e::es) X.env=(false,eval e X.env)::starEach es X.env:=by rfl) (hpl:(backTo pos (starEach es X.env)).any (·.1)=false:=by rfl):PE X (.Call (.Name x p) (e::es) [] pos) (tCB r t):=by
 intro pins s σ H Q I h
 refine wpAny_Call_Name_kw (GJ I hg hm hv ?_ hn hdb)
 exact PyProof.Rows.callWith_builtin1 (iT (ha pos pins s σ H _ I h) fun us s1 ⟨vs,H1,I1,r1,q1⟩=>hc pins s1 σ H1 vs us Q I1 r1 q1) he hpl
theorem EY (hc:gD X (.type T) r) (hg:Gl X x) (hm:X.mg x=none) (hv:bootBuiltins x=some (.type T)) (ha:PA X (e::es) t) (hn:x≠"__name__":=by decide) (hdb:(x == ("__debug__":Str))=false:=by decide)
  (he:starEach (e::es) X.env=(false,eval e X.env)::starEach es X.env:=by rfl) (hpl:(backTo pos (starEach es X.env)).any (·.1)=false:=by rfl):PE X (.Call (.Name x p) (e::es) [] pos) (tCB r t):=by
 intro pins s σ H Q I h
 refine wpAny_Call_Name_kw (GJ I hg hm hv ?_ hn hdb)
 exact PyProof.Rows.callWith_type1 (iT (ha pos pins s σ H _ I h) fun us s1 ⟨vs,H1,I1,r1,q1⟩=>hc pins s1 σ H1 vs us Q I1 r1 q1) he hpl
end
end L2
namespace HT
open PySem PyProof.Rows
section
open PySem.SeqAt
open PySem.AutoSeq1 (wpAny_loadPart')
open PySem.MeetsSeq PySem.MeetsSeq2 PySem.MeetsSeq3
end
section
variable {prog:Program} {w:World} {A:Around} {E:Value->Shared->Prop} {s:Shared}
theorem aaU {t b:Addr} {vs ws:List Value} {Q:Value->Shared->Prop} (ht:IsTup s.heap t vs.toArray) (hb:IsTup s.heap b ws.toArray) (hv:vs≠[])
  (h1:ws=[]->Q (.ref t) s) (h2:ws≠[]->Q (.ref s.heap.objs.size) { s with heap:=s.heap.push { cls:=.type "tuple",data:=.seq (vs++ws).toArray } })
  (hsz:vs.length + ws.length<=sizeLine):wpAny (model prog w) A (binaryOp .Add (.ref t) (.ref b)) Q E s:=by
 obtain ⟨⟨cls,dd,data,sl⟩,ho,hc,n,hd⟩:=id ht
 obtain ⟨⟨cls2,dd2,data2,sl2⟩,ho2,hc2,n2,hd2⟩:=id hb
 simp only at hc hd hc2 hd2
 subst hc hd hc2 hd2
 have e:vs.toArray++ws.toArray=(vs++ws).toArray:=by simp
 by_cases hw:ws=[]
 ·exact concat_meets ⟨_,ho,rfl⟩ ⟨_,ho2,rfl⟩ noFill_tuple_add seq_tuple_add PySem.F.slot_tuple_add PySem.F.entry_tuple_add (PySem.F.args_tuple_add_2 _ _)
   (tuple_addW1 t b vs.toArray ws.toArray n n2 dd dd2 sl sl2 (by simpa using hv) (by simp [hw])) ⟨ho,ho2,h1 hw⟩
 ·refine concat_meets ⟨_,ho,rfl⟩ ⟨_,ho2,rfl⟩ noFill_tuple_add seq_tuple_add PySem.F.slot_tuple_add PySem.F.entry_tuple_add (PySem.F.args_tuple_add_2 _ _)
   (tuple_addW2 t b vs.toArray ws.toArray n n2 dd dd2 sl sl2 (by simpa using hv) (by simpa using hw) (by rw [List.size_toArray,List.size_toArray];exact hsz)) ⟨ho,ho2,?_⟩
  rw [e]
  exact h2 hw
noncomputable def iU (n d:Nat):Option Int->Nat
 | none=>d
 | some v=>if v < 0 then (v + (n:Int)).toNat else min v.toNat n
theorem aeg (n d:Nat) (hd:d<=n) (o:Option Int):iU n d o<=n:=by
 cases o with
 | none=>exact hd
 | some v =>
  show (if v < 0 then (v + (n:Int)).toNat else min v.toNat n)<=n
  by_cases hv:v < 0
  ·rw [if_pos hv];omega
  ·rw [if_neg hv];exact Nat.min_le_right _ _
theorem QF (v:Int) (n d:Nat):(if v < 0 then max (v + (n:Int)) 0 else min v (n:Int))=((iU n d (some v):Nat):Int):=by
 show (if v < 0 then max (v + (n:Int)) 0 else min v (n:Int))=(((if v < 0 then (v + (n:Int)).toNat else min v.toNat n):Nat):Int)
 by_cases hv:v < 0
 ·simp only [if_pos hv];omega
 ·simp only [if_neg hv];omega
theorem Og (lo hi:Option Int) (n:Nat):Builtin.Slice.sliceAdjust lo hi 1 (n:Int)=(((iU n 0 lo:Nat):Int),((iU n n hi:Nat):Int)):=by
 have h1:¬ ((1:Int) < 0):=by omega
 unfold Builtin.Slice.sliceAdjust
 simp only [h1,if_false]
 refine Prod.ext ?_ ?_
 ·cases lo with
  | none=>rfl
  | some v=>exact QF v n 0
 ·cases hi with
  | none=>rfl
  | some v=>exact QF v n n
theorem Oh (i j:Nat):Builtin.Slice.slicePlaces (i:Int) (j:Int) 1=j - i:=by
 unfold Builtin.Slice.slicePlaces
 have h1:(1:Int) > 0:=by omega
 simp only [h1,if_true,Int.ediv_one]
 split <;> omega
theorem yN {v:Value} {o:Option Int} {Q:Option Int->Shared->Prop} (p:IsPart v o) (h:Q o s):wpAny (model prog w) A (Builtin.Slice.slicePartIndex v) Q E s:=by
 cases p with
 | none=>exact slicePart_none h
 | int i t=>exact slicePart_int h
theorem mq {sl:Addr} {vl vu:Value} {lo hi:Option Int} {n:Nat} {Q:Int×Int×Nat->Shared->Prop} (hs:s.heap.IsSliceOf sl vl vu .none) (pl:IsPart vl lo) (pu:IsPart vu hi)
  (h:Q (((iU n 0 lo:Nat):Int),1,iU n n hi - iU n 0 lo) s):wpAny (model prog w) A (Builtin.Slice.sliceApplied (.ref sl) (pure (n:Int))) Q E s:=by
 obtain ⟨os,hos,hcs,hds⟩:=id hs
 unfold Builtin.Slice.sliceApplied Builtin.Slice.sliceFields
 refine wpAny_bind (wpAny_bind (wpAny_field hos hds (x:=vl) rfl (wpAny_bind (wpAny_field hos hds (x:=vu) rfl (wpAny_bind (wpAny_field hos hds (x:=.none) rfl (wpAny_pure ?_)))))))
 refine wpAny_bind (slicePart_none ?_)
 show wpAny _ _ (if ((1:Int) == 0)=true then _ else _) _ _ s
 rw [if_neg (by decide)]
 refine wpAny_bind (yN pl (wpAny_bind (yN pu (wpAny_bind (wpAny_pure ?_)))))
 show wpAny _ _ (match Builtin.Slice.sliceAdjust lo hi 1 (n:Int) with|(lo,hi)=>pure (lo,(1:Int),Builtin.Slice.slicePlaces lo hi 1)) _ _ s
 rw [Og lo hi n]
 show wpAny _ _ (pure (((iU n 0 lo:Nat):Int),(1:Int),Builtin.Slice.slicePlaces ((iU n 0 lo:Nat):Int) ((iU n n hi:Nat):Int) 1)) _ _ s
 rw [Oh]
 exact wpAny_pure h
theorem Wu (xs:Array Value) (i k:Nat):((List.range k).filterMap fun (m:Nat)=>xs[((i:Int) + (m:Int) * 1).toNat]?).toArray=((xs.toList.drop i).take k).toArray:=by
 have e:(fun (m:Nat)=>xs[((i:Int) + (m:Int) * 1).toNat]?)=fun m=>xs[i + m]?:=by
  funext m
  have:((i:Int) + (m:Int) * 1).toNat=i + m:=by omega
  rw [this]
 rw [e]
 have:=pick_run xs i k
 rw [List.filterMap_map] at this
 have e2:((fun x=>xs[x]?) ∘ fun x=>i + x)=fun m=>xs[i + m]?:=rfl
 rw [e2] at this
 rw [this]
theorem uN {t sl:Addr} {items:Array Value} {vl vu:Value} {lo hi:Option Int} {Q:Value->Shared->Prop} (ht:IsTup s.heap t items) (hs:s.heap.IsSliceOf sl vl vu .none) (pl:IsPart vl lo) (pu:IsPart vu hi)
  (hw:¬ (iU items.size 0 lo=0/\iU items.size items.size hi=items.size))
  (h:Q (.ref s.heap.objs.size) { s with heap:=s.heap.push { cls:=.type "tuple",data:=.seq ((items.toList.drop (iU items.size 0 lo)).take (iU items.size items.size hi - iU items.size 0 lo)).toArray } })
  (hsz:items.size<=sizeLine):wpAny (model prog w) A (getItem (.ref t) (.ref sl)) Q E s:=by
 have QG:sizeOk (.seq ((items.toList.drop (iU items.size 0 lo)).take (iU items.size items.size hi - iU items.size 0 lo)).toArray):=by
  show ((items.toList.drop (iU items.size 0 lo)).take (iU items.size items.size hi - iU items.size 0 lo)).toArray.size<=sizeLine
  rw [List.size_toArray,List.length_take,List.length_drop,Array.length_toList]
  omega
 have hj:iU items.size items.size hi<=items.size:=aeg _ _ (Nat.le_refl _) hi
 obtain ⟨os,hos,hcs,hds⟩:=id hs
 have hTs:s.TypeIs (.ref sl) "slice":=⟨os,hos,hcs⟩
 unfold getItem
 try with_reducible refine wpAny_holding ?_
 first|refine wpAny_bind (wpAny_pure ?_)|skip
 refine wpAny_bind (wpAny_sequenceKey ht.typeIs (by decide) ?_)
 refine wpAny_bind (wpAny_callSpecial?_slot (name:=Str.ofString "__getitem__") ht.typeIs PyProof.Rows.slot_tuple_getitem
  (wpAny_call_entry PyProof.Rows.slot_tuple_getitem ht.typeIs entry_tuple_getitem ?_ (args_tuple_getitem _ _)))
 show wpAny _ _ (Builtin.Tuple.tupleItemsOf (.ref t) >>= _) _ _ s
 refine wpAny_bind (tupleItemsOf_ ht ?_)
 refine wpAny_bind (wpAny_typeOf hTs ?_)
 rw [if_pos (by decide)]
 refine wpAny_bind (mq hs pl pu ?_)
 have hno:¬ ((((iU items.size 0 lo:Nat):Int) == 0 && (1:Int) == 1 && (iU items.size items.size hi - iU items.size 0 lo) == items.size)=true):=by
  intro q
  rw [Bool.and_eq_true,Bool.and_eq_true] at q
  have q1:((iU items.size 0 lo:Nat):Int)=0:=eq_of_beq q.1.1
  have q2:iU items.size items.size hi - iU items.size 0 lo=items.size:=eq_of_beq q.2
  exact hw ⟨by omega,by omega⟩
 show wpAny _ _ (if (((iU items.size 0 lo:Nat):Int) == 0 && (1:Int) == 1 && (iU items.size items.size hi - iU items.size 0 lo) == items.size)=true then _ else _) _ _ s
 rw [if_neg hno,Wu]
 first
  | exact wpAny_bind (m:=Builtin.Tuple.tupleExact _) (wpAny_newObj_type (wpAny_pure ⟨_,rfl,wpAny_pure h⟩) QG)
  | exact wpAny_bind (m:=Builtin.Tuple.tupleExact _) (wpAny_newObj_type (wpAny_bind (wpAny_pure (wpAny_pure ⟨_,rfl,wpAny_pure h⟩))) QG)
  | exact wpAny_bind (wpAny_bind (m:=Builtin.Tuple.tupleExact _) (wpAny_newObj_type (wpAny_pure (wpAny_pure ⟨_,rfl,wpAny_pure h⟩)) QG))
  | exact wpAny_bind (wpAny_bind (m:=Builtin.Tuple.tupleExact _) (wpAny_newObj_type (wpAny_pure ⟨_,rfl,wpAny_pure h⟩) QG))
end
end HT
namespace L2
open PySem PySem.Spec PyProof.Rows
noncomputable abbrev TO:=St->Hp->(Option Int->Hp->Prop)->Prop
noncomputable def PO (X:Cx) (e:Option Expr) (t:TO):Prop :=
 ∀ (pins:List (Addr×Obj)) (s:Shared) (σ:St) (H:Hp) (Q:Option Int->Hp->Prop),Inv X pins σ H s->t σ H Q ->
  wpAny (model X.prog X.w) X.A (evalPart e X.env) (fun u s'=>∃ o H',Inv X pins σ H' s'/\IsPart u o/\Q o H') X.xe s
noncomputable def aaV:TO:=fun _ H Q=>Q none H
noncomputable def agA (t:TE):TO:=fun σ H Q=>t σ H fun x H1=>∃ i,x=.int i/\Q (some i) H1
theorem Oi {ns:List Int}:∀ {us:List Value},Vals (ns.map V.int) us->IntsAre us ns:=by
 induction ns with
 | nil=>intro us r;rw [List.map_nil] at r;cases r;exact .nil
 | cons n ns ih =>
  intro us r
  rw [List.map_cons] at r
  cases r with
  | cons r1 r2 =>
   obtain ⟨t,e⟩:=r1
   subst e
   exact .cons n t (ih r2)
section
variable {X:Cx} {e:Expr} {te:TE} {lo hi:Option Expr} {tl th:TO} {pos p2:Pos}
theorem aaW:PO X none aaV:=by
 intro pins s σ H Q I h
 rw [evalPart_none]
 exact wpAny_pure ⟨none,H,I,.none,h⟩
theorem aaX (h:PE X e te):PO X (some e) (agA te):=by
 intro pins s σ H Q I hw
 rw [evalPart_some]
 refine iT (h pins s σ H _ I hw) fun u s1 ⟨x,H1,I1,r1,q1⟩=>?_
 obtain ⟨i,rfl,q⟩:=q1
 obtain ⟨t,rfl⟩:=r1
 exact ⟨some i,H1,I1,.int i t,q⟩
noncomputable def SlR (X:Cx) (r:V->Option Int->Option Int->Hp->VK->Prop):Prop :=
 ∀ (pins:List (Addr×Obj)) (s:Shared) (σ:St) (H:Hp) (x:V) (v vl vu:Value) (lo hi:Option Int) (sl:Addr) (Q:VK),Inv X pins σ H s->RelV x v->s.heap.IsSliceOf sl vl vu .none->IsPart vl lo->IsPart vu hi->r x lo hi H Q ->
  ∃ T id,typeLookup (.type T) "__getitem__"=pure (some (.builtin id))/\s.TypeIs v T/\wpAny (model X.prog X.w) X.A (getItem v (.ref sl)) (EP X pins σ Q) X.xe s
theorem SlR.or {r r':V->Option Int->Option Int->Hp->VK->Prop} (h:SlR X r) (h':SlR X r'):SlR X (fun x lo hi H Q=>r x lo hi H Q∨r' x lo hi H Q):=by
 intro pins s σ H x v vl vu lo hi sl Q I rx hs pl pu q
 rcases q with q|q
 ·exact h pins s σ H x v vl vu lo hi sl Q I rx hs pl pu q
 ·exact h' pins s σ H x v vl vu lo hi sl Q I rx hs pl pu q
noncomputable def tSl (r:V->Option Int->Option Int->Hp->VK->Prop) (te:TE) (tl th:TO):TE:=fun σ H Q=>te σ H fun x H1=>tl σ H1 fun l H2=>th σ H2 fun u H3=>r x l u H3 Q
theorem Wv {r:V->Option Int->Option Int->Hp->VK->Prop} (hr:SlR X r) (he:PE X e te) (hl:PO X lo tl) (hu:PO X hi th):PE X (.Subscript e (.Slice lo hi none p2) pos) (tSl r te tl th):=by
 intro pins s σ H Q I h
 refine Subscript_ (iT (he pins s σ H _ I h) fun v s1 ⟨x,H1,I1,r1,q1⟩=>?_)
 refine wpAny_Slice (iT (hl pins s1 σ H1 _ I1 q1) fun vl s2 ⟨l,H2,I2,pl,q2⟩=>iT (hu pins s2 σ H2 _ I2 q2) fun vu s3 ⟨u,H3,I3,pu,q3⟩=>?_)
 rw [evalPart_none]
 refine wpAny_pure ?_
 have I4:Inv X pins σ H3 { s3 with heap:=s3.heap.push { cls:=.type "slice",data:=.fields #[vl,vu,.none] } }:=I3.kept (t':=s3.toks) fun b ob q=>Heap.get?_push_of_some _ q
 obtain ⟨T,id,hT,ht,hg⟩:=hr pins { s3 with heap:=s3.heap.push { cls:=.type "slice",data:=.fields #[vl,vu,.none] } } σ H3 x v vl vu l u s3.heap.objs.size Q I4 r1 (Heap.IsSliceOf.new ..) pl pu q3
 show wpAny (model X.prog X.w) X.A (subscriptTail e (.Slice lo hi none p2) v (.ref s3.heap.objs.size)) (EP X pins σ Q) X.xe { s3 with heap:=s3.heap.push { cls:=.type "slice",data:=.fields #[vl,vu,.none] } }
 exact tail_any (ops:=[.ref s3.heap.objs.size,v]) ht hT hg (by with_unfolding_all rfl)
noncomputable def Oj (xs:List V) (lo hi:Option Int):List V:=(xs.drop (HT.iU xs.length 0 lo)).take (HT.iU xs.length xs.length hi - HT.iU xs.length 0 lo)
theorem Kw (xs:List V) (lo hi:Option Int):(Oj xs lo hi).length<=xs.length:=by
 unfold Oj
 rw [List.length_take,List.length_drop]
 omega
noncomputable def agB (K:PySem.W.Frag):V->Option Int->Option Int->Hp->VK->Prop:=fun x lo hi H Q=>∃ a xs,x=.ref a/\mj K H a xs /\
 ¬ (HT.iU xs.length 0 lo=0/\HT.iU xs.length xs.length hi=xs.length)/\∀ p,H p=none->Q (.ref p) (gC H p (.tup (Oj xs lo hi)))
theorem aeh:SlR X (agB X.K):=by
 intro pins s σ H x v vl vu lo hi sl Q I rx hs pl pu h
 obtain ⟨a,xs,rfl,hx,hw,q⟩:=h
 cases rx
 obtain ⟨its,r,ht,hz⟩:=I.tuple hx
 have hlen:its.toArray.size=xs.length:=by rw [List.size_toArray];exact r.length.symm
 refine ⟨"tuple",_,PyProof.Rows.slot_tuple_getitem.lookup,ht.typeIs,?_⟩
 refine HT.uN ht hs pl pu (by rw [hlen];exact hw) ?_ (by rw [hlen];exact hz)
 rw [hlen]
 refine ⟨.ref s.heap.objs.size,_,I.laid (t':=s.toks) (o:=.tup (Oj xs lo hi)) (fun b ob q=>Heap.get?_push_of_some _ q) (Nat.le_refl _) ?_,rfl,q _ (I.hok.fresh (Nat.le_refl _))⟩
 exact ⟨Nat.le_trans (Kw xs lo hi) hz,_,(r.drop (HT.iU xs.length 0 lo)).take (HT.iU xs.length xs.length hi - HT.iU xs.length 0 lo),IsTup.new _ _⟩
noncomputable def acV (K:PySem.W.Frag):R2:=fun x y H Q=>∃ a b xs ys,x=.ref a/\y=.ref b/\mj K H a xs/\mj K H b ys/\xs≠[]/\xs.length + ys.length<=sizeLine /\
 (ys=[]->Q (.ref a) H)/\(ys≠[]->∀ p,H p=none->Q (.ref p) (gC H p (.tup (xs++ys))))
theorem Vals.GP {xs:List V} {us:List Value} (r:Vals xs us):us=[]↔xs=[]:=by
 cases r with
 | nil=>simp
 | cons _ _=>simp
theorem aaY:rW X (binaryOp .Add) (acV X.K):=by
 intro pins s σ H x y v u Q I rx ry h
 obtain ⟨a,b,xs,ys,rfl,rfl,ha,hb,hx,hz,q1,q2⟩:=h
 cases rx
 cases ry
 obtain ⟨its,r1,p1,_⟩:=I.tuple ha
 obtain ⟨its2,r2,p2,_⟩:=I.tuple hb
 refine HT.aaU p1 p2 (fun z=>hx (r1.GP.mp z)) (fun z=>⟨.ref a,H,I,rfl,q1 (r2.GP.mp z)⟩) (fun z=>?_) (by rw [<- r1.length,<- r2.length];exact hz)
 refine ⟨.ref s.heap.objs.size,_,I.laid (t':=s.toks) (o:=.tup (xs++ys)) (fun b ob q=>Heap.get?_push_of_some _ q) (Nat.le_refl _) ?_,rfl,q2 (fun w=>z (r2.GP.mpr w)) _ (I.hok.fresh (Nat.le_refl _))⟩
 exact ⟨by rw [List.length_append];exact hz,_,r1.append r2,IsTup.new _ _⟩
end
end L2
namespace L2
open PySem PySem.Spec PyProof.Rows
noncomputable def ixN (n:Nat) (i:Int):Option Nat:=if 0<=i then (if i < n then some i.toNat else none) else if -(n:Int)<=i then some (i + n).toNat else none
noncomputable def Fb {α:Type} (xs:List α) (i:Int):Option α:=(ixN xs.length i).bind fun j=>xs[j]?
theorem aaZ {n:Nat} {i:Int} {j:Nat} (h:ixN n i=some j):seqIndex? i n=some j/\j < n/\-(n:Int)<=i/\i < n:=by
 unfold ixN at h
 by_cases h0:0<=i
 ·rw [if_pos h0] at h
  by_cases h1:i < n
  ·rw [if_pos h1] at h
   have e:i.toNat=j:=Option.some.inj h
   exact ⟨by rw [seqIndex_of h0 h1,e],by omega,by omega,h1⟩
  ·rw [if_neg h1] at h;cases h
 ·rw [if_neg h0] at h
  by_cases h1:-(n:Int)<=i
  ·rw [if_pos h1] at h
   have e:(i + n).toNat=j:=Option.some.inj h
   exact ⟨by rw [seqIndex_neg (by omega) h1,e],by omega,h1,by omega⟩
  ·rw [if_neg h1] at h;cases h
theorem GQ {α:Type} {xs:List α} {i:Int} {v:α} (h:Fb xs i=some v):∃ j,seqIndex? i xs.length=some j/\xs[j]?=some v/\j < xs.length/\-(xs.length:Int)<=i/\i < xs.length:=by
 unfold Fb at h
 cases e:ixN xs.length i with
 | none=>rw [e] at h;cases h
 | some j =>
  rw [e] at h
  obtain ⟨h1,h2,h3,h4⟩:=aaZ e
  exact ⟨j,h1,h,h2,h3,h4⟩
noncomputable def QH (b:Expr):Prop:=∀ o i,subscripted b false o i=operate [o,i] (getItem o i)
noncomputable def IxR (X:Cx) (r:R2):Prop :=
 ∀ (value slice:Expr) (pins:List (Addr×Obj)) (s:Shared) (σ:St) (H:Hp) (x y:V) (v u:Value) (Q:VK),Inv X pins σ H s->RelV x v->RelV y u->r x y H Q ->
  subscripted slice false v u=operate [v,u] (getItem v u)->wpAny (model X.prog X.w) X.A (subscriptTail value slice v u) (EP X pins σ Q) X.xe s
noncomputable def MtR (X:Cx) (id:String) (r:V->List V->Hp->VK->Prop):Prop :=
 ∀ (pins:List (Addr×Obj)) (s:Shared) (σ:St) (H:Hp) (x:V) (xs:List V) (v:Value) (us:List Value) (Q:VK),Inv X pins σ H s->RelV x v->Vals xs us->r x xs H Q ->
  wpAny (model X.prog X.w) X.A (call (.builtin id) (v::us)) (EP X pins σ Q) X.xe s
section
variable {X:Cx} {a b:Expr} {ta tb:TE} {pos:Pos}
theorem IxR.or {r r':R2} (h:IxR X r) (h':IxR X r'):IxR X (fun x y H Q=>r x y H Q∨r' x y H Q):=by
 intro value slice pins s σ H x y v u Q I rx ry q hs
 rcases q with q|q
 ·exact h value slice pins s σ H x y v u Q I rx ry q hs
 ·exact h' value slice pins s σ H x y v u Q I rx ry q hs
theorem agC {r:R2} (hr:IxR X r) (ha:PE X a ta) (hb:PE X b tb) (hs:QH b):PE X (.Subscript a b pos) (tOp r ta tb):=by
 intro pins s σ H Q I h
 exact Subscript_ (adW ha hb I h fun v u s2 x y H2 I2 rx ry q=>hr a b pins s2 σ H2 x y v u Q I2 rx ry q (hs _ _))
noncomputable def agD (K:PySem.W.Frag):R2:=fun x y H Q=>∃ p xs i v,x=.ref p/\y=.int i/\pC K H p xs/\Fb xs i=some v/\Q v H
noncomputable def agE (K:PySem.W.Frag):R2:=fun x y H Q=>∃ p xs i v,x=.ref p/\y=.int i/\mj K H p xs/\Fb xs i=some v/\Q v H
noncomputable def agF:R2:=fun x y H Q=>∃ z i c,x=.str z/\y=.int i/\z.length<=sizeLine/\Fb z.cps.toList i=some c/\Q (.str ⟨#[c]⟩) H
theorem abd:IxR X (agD X.K):=by
 intro value slice pins s σ H x y v u Q I rx ry h hs
 obtain ⟨p,xs,i,z,rfl,rfl,hq,he,q⟩:=h
 cases rx
 obtain ⟨t,rfl⟩:=ry
 obtain ⟨its,r,pl,hz⟩:=I.list hq
 obtain ⟨j,h1,h2,h3,h4,h5⟩:=GQ he
 obtain ⟨w,ew,rw'⟩:=r.get h2
 have hl:=r.length
 have hn:=GK
 have dH:EP X pins σ Q w s:=⟨z,H,I,rw',q⟩
 by_cases h0:0<=i
 ·have hj:i.toNat=j:=by
   rw [seqIndex_of h0 h5] at h1
   exact Option.some.inj h1
  exact item_listR pl.isList h0 (by omega) (by rw [hj];simpa using ew) dH hs
 ·have hj:(i + (its.toArray.size:Int)).toNat=j:=by
   rw [seqIndex_neg (by omega) h4] at h1
   rw [List.size_toArray,<- hl]
   exact Option.some.inj h1
  exact subscriptTail_builtinR (x:=w) pl.isList.typeIs slot_list_getitem.lookup
   (wpAny_getItem_list_neg (Q:=fun r s'=>r=w/\EP X pins σ Q r s') pl.isList (by omega) (by rw [List.size_toArray] <;> omega) (by omega) (by rw [hj];simpa using ew) ⟨rfl,dH⟩) hs
theorem aei:IxR X (agE X.K):=by
 intro value slice pins s σ H x y v u Q I rx ry h hs
 obtain ⟨p,xs,i,z,rfl,rfl,hq,he,q⟩:=h
 cases rx
 obtain ⟨t,rfl⟩:=ry
 obtain ⟨its,r,pl,hz⟩:=I.tuple hq
 obtain ⟨j,h1,h2,h3,h4,h5⟩:=GQ he
 obtain ⟨w,ew,rw'⟩:=r.get h2
 have hl:=r.length
 have hn:=GK
 have dH:EP X pins σ Q w s:=⟨z,H,I,rw',q⟩
 exact subscriptTail_builtinR (x:=w) pl.typeIs slot_tuple_getitem.lookup
  (getItem_tuple (j:=j) (Q:=fun r s'=>r=w/\EP X pins σ Q r s') pl (by omega) (by omega) (by rw [List.size_toArray,<- hl];exact h1) (by simpa using ew) ⟨rfl,dH⟩) hs
theorem aej:IxR X agF:=by
 intro value slice pins s σ H x y v u Q I rx ry h hs
 obtain ⟨z,i,c,rfl,rfl,hz,he,q⟩:=h
 obtain ⟨t,rfl⟩:=rx
 obtain ⟨t',rfl⟩:=ry
 obtain ⟨j,h1,h2,h3,h4,h5⟩:=GQ he
 have hl:z.cps.toList.length=z.length:=by simp [Str.length]
 rw [hl] at h1 h4 h5
 have hn:=GK
 exact tail_any (typeIs_str s z t) slot_str_getitem.lookup (getItem_str (c:=c) (by
  have e1:decide (i < -(2 ^ 63:Int))=false:=decide_eq_false (by omega)
  have e2:decide (i ≥ 2 ^ 63)=false:=decide_eq_false (by omega)
  rw [e1,e2,Bool.or_false]) (by rw [h1];simpa using h2) ⟨.str ⟨#[c]⟩,H,I.tok _,⟨_,rfl⟩,q⟩) hs
noncomputable def rIx (K:PySem.W.Frag):R2:=fun x y H Q=>agD K x y H Q∨agE K x y H Q∨agF x y H Q
theorem aek:IxR X (rIx X.K):=abd.or (aei.or aej)
theorem uO:gD X (.builtin "len") (fun xs H Q=>∃ p ys,xs=[.ref p]/\(pC X.K H p ys∨mj X.K H p ys)/\Q (.int ys.length) H):=by
 intro pins s σ H xs us Q I r h
 obtain ⟨p,ys,rfl,hq,q⟩:=h
 obtain ⟨u,rfl,rx⟩:=Ks r
 cases rx
 have hn:=GK
 rcases hq with hq|hq
 ·obtain ⟨its,r',pl,hz⟩:=I.list hq
  have hlen:=r'.length
  exact Calls.call_len_list pl.isList (by simp only [List.size_toArray] <;> omega) ⟨.int ys.length,H,I.tok _,⟨s.toks + 1,by rw [List.size_toArray,hlen]⟩,q⟩
 ·obtain ⟨its,r',pl,hz⟩:=I.tuple hq
  have hlen:=r'.length
  exact len_tuple pl (by simp only [List.size_toArray] <;> omega) ⟨.int ys.length,H,I.tok _,⟨s.toks + 1,by rw [List.size_toArray,hlen]⟩,q⟩
theorem GR:gD X (.type "list") (fun xs H Q=>∃ p ys,xs=[.ref p]/\(pC X.K H p ys∨mj X.K H p ys)/\∀ l,H l=none->Q (.ref l) (gC H l (.lst ys))):=by
 intro pins s σ H xs us Q I r h
 obtain ⟨p,ys,rfl,hq,q⟩:=h
 obtain ⟨u,rfl,rx⟩:=Ks r
 cases rx
 have dH:∀ (its:List Value),Vals ys its->ys.length<=sizeLine->∀ (h':Heap) (c':Nat),(∀ b o',s.heap.get? b=some o'->h'.get? b=some o') ->
   h'.get? s.heap.objs.size=some { cls:=.type "list",dict:=none,data:=.seq its.toArray c',slots:=#[] }->EP X pins σ Q (.ref s.heap.objs.size) { s with heap:=h' }:=fun its r' hz h' c' kp e =>
  ⟨.ref s.heap.objs.size,_,I.laid (t':=s.toks) kp (Nat.le_refl _) (show gn X.prog X.w _ h' _ (.lst ys) from ⟨hz,its,c',r',e⟩),rfl,q _ (I.hok.fresh (Nat.le_refl _))⟩
 rcases hq with hq|hq
 ·obtain ⟨its,r',pl,hz⟩:=I.list hq
  have hlen:=r'.length
  obtain ⟨o,ho,hc,n,hd⟩:=pl.isList
  exact call_list_seq p (.inl rfl) ho hc hd (fun h' c' kp e=>dH its r' hz h' c' kp e) (by simp only [List.size_toArray] <;> omega)
 ·obtain ⟨its,r',pl,hz⟩:=I.tuple hq
  have hlen:=r'.length
  obtain ⟨o,ho,hc,n,hd⟩:=pl
  exact call_list_seq p (.inr rfl) ho hc hd (fun h' c' kp e=>dH its r' hz h' c' kp e) (by simp only [List.size_toArray] <;> omega)
theorem Cm:gD X (.type "tuple") (fun xs H Q=>∃ p ys,xs=[.ref p]/\((pC X.K H p ys/\∀ l,H l=none->Q (.ref l) (gC H l (.tup ys)))∨(mj X.K H p ys/\Q (.ref p) H))):=by
 intro pins s σ H xs us Q I r h
 obtain ⟨p,ys,rfl,h⟩:=h
 obtain ⟨u,rfl,rx⟩:=Ks r
 cases rx
 rcases h with ⟨hq,q⟩|⟨hq,q⟩
 ·obtain ⟨its,r',pl,hz⟩:=I.list hq
  have hlen:=r'.length
  refine call_tuple_list pl.isList (fun h' kp=>?_) (by simp only [List.size_toArray] <;> omega)
  have I1:Inv X pins σ H { s with heap:=h' }:=I.kept (t':=s.toks) kp
  have I2:Inv X pins σ (gC H h'.objs.size (.tup ys)) { s with heap:=h'.push { cls:=.type "tuple",data:=.seq its.toArray } } :=
   I1.laid (t':=s.toks) (fun b o e=>Heap.get?_push_of_some _ e) (Nat.le_refl _) (show gn X.prog X.w _ _ _ (.tup ys) from ⟨hz,its,r',IsTup.new _ _⟩)
  exact ⟨.ref h'.objs.size,_,I2,rfl,q _ (I1.hok.fresh (Nat.le_refl _))⟩
 ·obtain ⟨its,r',pl,hz⟩:=I.tuple hq
  exact call_tuple_same pl ⟨.ref p,H,I,rfl,q⟩
noncomputable def tyV (K:PySem.W.Frag) (T:String) (x:V) (H:Hp):Prop:=match x with
 | .str _=>T="str"
 | .int _=>T="int"
 | .ref p=>(T="list"/\∃ xs,pC K H p xs)∨(T="tuple"/\∃ o,K.lookup p=some o/\o.cls=.type "tuple"/\o.dict=none) ∨
   (T="dict"/\((∃ kvs,H p=some (.dK kvs))∨∃ kvs,H p=some (.dT kvs)))∨(T="set"/\∃ S n,H p=some (.set S n))
 | _=>False
theorem ael {pins:List (Addr×Obj)} {σ:St} {H:Hp} {s:Shared} {T:String} {x:V} {v:Value} (I:Inv X pins σ H s) (r:RelV x v) (ty:tyV X.K T x H) :
  s.TypeIs v T/\∀ a,v=.ref a->∃ ob,s.heap.get? a=some ob/\ob.dict=none:=by
 cases x with
 | str z =>
  obtain ⟨t,rfl⟩:=r
  cases (show T="str" from ty)
  exact ⟨typeIs_str s z t,fun _ e=>nomatch e⟩
 | int i =>
  obtain ⟨t,rfl⟩:=r
  cases (show T="int" from ty)
  exact ⟨typeIs_int s i t,fun _ e=>nomatch e⟩
 | ref p =>
  cases r
  rcases ty with ⟨rfl,xs,hq⟩|⟨rfl,o,hk,hc,hd⟩|⟨rfl,hk⟩|⟨rfl,S,n,hk⟩
  ·obtain ⟨its,_,pl,_⟩:=I.list hq
   refine ⟨pl.isList.typeIs,fun a e=>?_⟩
   cases e
   obtain ⟨o,n,e,c,hd,_⟩:=pl
   exact ⟨o,e,hd⟩
  ·refine ⟨⟨o,I.VL p o hk,hc⟩,fun a e=>?_⟩
   cases e
   exact ⟨o,I.VL _ o hk,hd⟩
  ·have z:∃ o,s.heap.get? p=some o/\o.ExactDict:=by
    rcases hk with ⟨kvs,hk⟩|⟨kvs,hk⟩
    ·obtain ⟨_,_,_,_,o,_,_,e,ex,_⟩:=I.hok p _ hk
     exact ⟨o,e,ex⟩
    ·obtain ⟨_,_,_,_,o,_,_,e,ex,_⟩:=I.hok p _ hk
     exact ⟨o,e,ex⟩
   obtain ⟨o,e,ex⟩:=z
   refine ⟨⟨o,e,ex.1⟩,fun a e2=>?_⟩
   cases e2
   exact ⟨o,e,ex.2.1⟩
  ·obtain ⟨o,_,_,_,e,ex,_⟩:=I.hok p _ hk
   refine ⟨⟨o,e,ex.1⟩,fun a e2=>?_⟩
   cases e2
   exact ⟨o,e,ex.2.1⟩
 | _=>exact False.elim ty
noncomputable def tBM (K:PySem.W.Frag) (T:String) (r:V->List V->Hp->VK->Prop) (to:TE) (t:TA):TE:=fun σ H Q=>to σ H fun x H1=>tyV K T x H1/\t σ H1 fun xs H2=>r x xs H2 Q
variable {o e:Expr} {es:List Expr} {to:TE} {t:TA} {name:Str} {apos cpos:Pos} {T id:String} {r:V->List V->Hp->VK->Prop}
theorem agG (pa:PlainAttrs T) (slot:Slot T name id) (hty:typeOf (.builtin id)=pure (.type "method_descriptor")) (hm:MtR X id r) (ho:PE X o to) (ha:PA X (e::es) t)
  (hbase:attributeBase o name X.env (eval o X.env)=eval o X.env:=by rfl)
  (hfew:((backTo cpos (starEach (e::es) X.env)).all (fun x=>!x.1) && (backToKw cpos (keywordEach [] X.env)).all (fun x=>x.1.isSome)
   && decide ((e::es).length + ([]:List Keyword).length + (if ([]:List Keyword).isEmpty then 0 else 1) < 30))=true:=by rfl)
  (hline:(apos.endLine == cpos.line)=true:=by rfl) (hs:starEach (e::es) X.env=(false,eval e X.env)::starEach es X.env:=by rfl) (hplain:(backTo cpos (starEach es X.env)).any (·.1)=false:=by rfl) :
  PE X (.Call (.Attribute o name apos) (e::es) [] cpos) (tBM X.K T r to t):=by
 intro pins s σ H Q I h
 refine wpAny_Call_method_late hbase hfew hline rfl (iT (ho pins s σ H _ I h) fun v s1 ⟨x,H1,I1,r1,ty,q1⟩=>?_)
 obtain ⟨h1,h2⟩:=ael I1 r1 ty
 refine ⟨T,id,pa,slot,hty,h1,h2,?_⟩
 have hA:=ha cpos pins s1 σ H1 _ I1 q1
 rw [hs] at hA ⊢
 refine Calls.callWith_builtin (by show (false || (backTo cpos (starEach es X.env)).any (·.1))=false;rw [hplain] <;> rfl) (Calls.evalArgs_plain ?_)
 exact iT hA fun us s2 ⟨vs,H2,I2,r2,q2⟩=>hm pins s2 σ H2 x vs v us Q I2 r1 r2 q2
end
end L2
namespace L2
open PySem PySem.Spec PyProof.Rows
noncomputable def MtM (X:Cx) (id:String) (r:V->List V->Hp->VK->Prop):Prop :=
 ∀ (pins:List (Addr×Obj)) (s:Shared) (σ:St) (H:Hp) (x:V) (xs:List V) (v:Value) (us:List Value) (Q:VK),Inv X pins σ H s->RelV x v->Vals xs us->r x xs H Q ->
  wpAny (model X.prog X.w) X.A (call (.builtin id) (v::us)) (EP X pins σ Q) X.xe s
theorem Vals.one:∀ {x:V} {us:List Value},Vals [x] us->∃ u,us=[u]/\RelV x u
 | _,_,.cons r .nil=>⟨_,rfl,r⟩
section
variable {X:Cx} {pins:List (Addr×Obj)} {σ:St} {H:Hp} {s:Shared} {l b:Addr} {xs ys zs:List V}
theorem Inv.aiK {its its':List Value} {n:Nat} {f:Array Value->Array Value} {t':Nat} (I:Inv X pins σ H s) (hH:H l=some (.lst xs))
  (e:s.heap.get? l=some { cls:=.type "list",data:=.seq its.toArray n }) (hf:f its.toArray=its'.toArray) (hv:Vals ys its') (hz:ys.length<=sizeLine) :
  Inv X pins σ (gC H l (.lst ys)) { s with heap:=s.heap.update l (Obj.mapSeq f),toks:=t' }:=by
 have q:=PySem.IsL.update e f
 rw [hf] at q
 refine I.write (x:=l) (e:=l) (by rw [hH];exact trivial) (.inl rfl) (fun b' u hb hu=>(Heap.get?_update_other s.heap (Obj.mapSeq f) (Ne.symm hb)).trans hu) ⟨_,q⟩ ?_
 exact ⟨hz,its',_,hv,q⟩
theorem Inv.agH {its:List Value} {t':Nat} (I:Inv X pins σ H s) (hv:Vals ys its) (hz:ys.length<=sizeLine) :
  Inv X pins σ (gC H s.heap.objs.size (.lst ys)) { s with heap:=s.heap.push { cls:=.type "list",data:=.seq its.toArray },toks:=t' } :=
 I.laid (fun _ _ q=>Heap.get?_push_of_some _ q) (Nat.le_refl _) ⟨hz,its,0,hv,Heap.get?_push_size _ rfl⟩
theorem Inv.fresh (I:Inv X pins σ H s):H s.heap.objs.size=none:=I.hok.fresh (Nat.le_refl _)
theorem Inv.aiL (I:Inv X pins σ H s) (hH:H l=some (.lst xs)):xs.length<=sizeLine/\∃ (its:List Value) (n:Nat),Vals xs its/\xs.length=its.length/\s.heap.get? l=some { cls:=.type "list",data:=.seq its.toArray n }:=by
 obtain ⟨z,its,n,r,e⟩:=I.hok l _ hH
 exact ⟨z,its,n,r,r.length,e⟩
end
section
variable {X:Cx}
noncomputable def QJ:V->List V->Hp->VK->Prop:=fun x vs H Q=>∃ l xs y,x=.ref l/\vs=[y]/\H l=some (.lst xs)/\xs.length < sizeLine/\Q .non (gC H l (.lst (xs++[y])))
theorem Fd:MtM X "list.append" QJ:=by
 intro pins s σ H x vs v us Q I rx rv h
 obtain ⟨l,xs,y,rfl,rfl,hH,hz,q⟩:=h
 cases rx
 obtain ⟨u,rfl,ru⟩:=rv.one
 obtain ⟨z,its,n,r,hl,e⟩:=I.aiL hH
 refine call_meets F.slot_list_append ⟨_,e,rfl⟩ F.entry_list_append (F.args_list_append_2 _ _) (PySem.list_append l its.toArray n u (by rw [List.size_toArray];omega)) ⟨e,?_⟩
 refine ⟨.non,_,I.aiK (its':=its++[u]) hH e (by simp) (r.append (.cons ru .nil)) ?_,rfl,q⟩
 rw [List.length_append,List.length_singleton]
 omega
end
section
variable {prog:Program} {w:World} {A:Around} {E:Value->Shared->Prop} {s:Shared}
end
section
variable {X:Cx}
end
end L2
namespace Att
open PySem PySem.W PySem.Calls PyProof.Rows
theorem yd {P:Params} {h:Heap}:∀ (ns:List Int) (vs:List Value),WellAll P h vs (ns.map WData.int)->IntsAre vs ns:=by
 intro ns
 induction ns with
 | nil =>
  intro vs w
  rw [List.map_nil] at w
  cases w
  exact .nil
 | cons n ns ih =>
  intro vs w
  rw [List.map_cons] at w
  cases w with
  | cons a b =>
   cases a
   exact .cons _ _ (ih _ b)
theorem SX {l:OpenLaw} {n:Nat} (hn:l.most=some n) {P:Params} {h:Heap} {args:List WData} {vals:List Value}
  (hpre:l.row.toRowW.claim.pre args=true) (hwl:WellAll P h vals args) :
  ∃ a vs ns,vals=[Value.ref a]/\args=[WData.list (ns.map WData.int)]/\h.get? a=some { cls:=.type "list",data:=.seq vs.toArray }/\IntsAre vs ns/\ns.length<=n:=by
 have hsh:WShape.hasAll [] args [.list .int]=true:=(pre_splitW hpre).1
 have hc:l.pre.holds [] { args:=args }=true:=(pre_splitW hpre).2
 obtain ⟨d,r,rfl,h1,h2⟩:=hasAllW_cons hsh
 obtain rfl:=hasAllW_nil h2
 obtain ⟨xs,rfl,h3⟩:=hasW_list h1
 obtain ⟨ns,rfl⟩:=items_int h3
 have hlen:ns.length<=n:=by
  unfold OpenLaw.pre at hc
  have h4:(WTm.not (.lt (.lit (.int (n:Int))) (.len (.arg 0)))).holds [] { args:=[.list (ns.map .int)] }=true:=by
   have h4:=(holds_andW hc).1
   rw [hn] at h4
   exact h4
  have h5:=condW_of h4 (w_not (w_lt w_lit (w_len_list (w_arg rfl))))
  rw [List.length_map] at h5
  refine Nat.le_of_not_lt fun q=>?_
  have q':(n:Int) < ((ns.length:Nat):Int):=by omega
  first
   | (rw [decide_eq_true q'] at h5;exact absurd h5 (by decide))
   | (simp at h5;omega)
 cases hwl with
 | cons w1 w2 =>
  cases w2
  cases w1 with
  | list ho hall=>exact ⟨_,_,ns,rfl,rfl,ho,yd ns _ hall,hlen⟩
theorem Tc (l:OpenLaw) (args:List WData):l.row.toRowW.claim.post args (.bool true) args=true :=
 postW_of (r:=l.row.toRowW) (X:=(true == true))
  (show WShape.has [] (.bool true) .bool=true by first|rfl|decide|simp [WShape.has,WShape.arms,WShape.armsAll])
  (show (WTm.eq .res (.lit (.bool true))).value [] { args:=args,res:=some (.bool true),after:=args }=some (.bool (true == true)) from w_eq_bool (w_res rfl) w_lit) rfl
theorem Ky {l:OpenLaw} {n:Nat} {q:Program} {loose:List Str} {XP:(Str->Option Value)->Heap->Prop} {YP:World->Heap->Prop} {d:DefRec}
  (hn:l.most=some n) (hdf:d.params.defaults=[])
  (call:∀ (w:World) (s₀ s₁:Shared) (mg mb:Str->Option Value) (fa:Addr) (o:Obj) (pm cd doc:Value) (a:Addr) (vs:List Value) (ns:List Int),
   Ground q loose [] XP w s₀ mg mb s₁.heap->YP w s₁.heap ->
   s₁.heap.get? fa=some o->o.data=.func (docDef d.name d.params d.body d.scope pm cd doc)->s₁.heap.CodeRec cd d.name->mg d.name=some (.ref fa) ->
   s₁.heap.get? a=some { cls:=.type "list",data:=.seq vs.toArray }->IntsAre vs ns->ns.length<=n->s₁.gens=#[] ->
   codeAny (model l.prog w) callerA (.call (.ref fa) ⟨[.ref a],[]⟩) (fun r s'=>r=.ok (.ret (.bool true))/\OldK s₁.heap s'.heap/\s'.os=s₁.os/\AllBare s'.gens) s₁) :
  WalkO q loose XP YP l.row.toRowW d [] (fun f vs=>PySem.call f vs):=by
 intro w s₀ s₁ mg mb G Y fa o pm cd doc dV kV ho hd hcd hD hmg hg args vals as hpre hlay hrd hwl hlo
 obtain rfl:dV=.none:=Dflts.none hD hdf
 obtain rfl:kV=.none:=Dflts.noKw hD
 obtain ⟨a,vs,ns,rfl,rfl,hobj,hints,hlen⟩:=SX hn hpre hwl
 refine enter_call (codeAny_mono (call w s₀ s₁ mg mb fa o pm cd doc a vs ns G Y ho (fd_plain hd) hcd hmg hobj hints hlen hg) fun r s' hq=>?_)
 obtain ⟨rfl,h2,h3,h4⟩:=hq
 exact ⟨.inl ⟨.bool true,.bool true,[],rfl,fun _=>rfl,.bool true,Tc l _,fun _=>⟨List.Pairwise.nil,fun _ hm=>(nomatch hm)⟩⟩,h2,h3,h4⟩
section
variable {prog:Program} {w:World} {A:Around} {E:Value->Shared->Prop} {s:Shared} {K:Frag}
noncomputable def aiM (h:Heap) (L d:Addr):List (Addr×Obj):=(List.range h.objs.size).filterMap fun a=>if a=L∨a=d then none else (h.get? a).map fun o=>(a,o)
end
end Att
namespace L2
open PySem PySem.Spec PyProof.Rows
theorem rD:∀ {vs:List Value} {ns:List Int},IntsAre vs ns->Vals (ns.map V.int) vs
 | _,_,.nil=>.nil
 | _,_,.cons n t h=>.cons ⟨t,rfl⟩ (rD h)
noncomputable def aem (H:Hp):Prop:=∀ b,H b=none∨∃ o xs,H b=some (.Cj o (.lst xs))
theorem Ww {P:Program} {w:World} {K:PySem.W.Frag} {mg mb:Str->Option Value} {CX:CXT} {k:Nat} {fa a:Addr} {fd:FuncData} {x:Str} {sp:Sp} {s₁:Shared} {vs:List Value} {ns:List Int}
  (KX:K.In s₁.heap) (hns:s₁.heap.Ns mainGlobals mg) (hb:s₁.heap.Ns builtinsNs mb) (hbb:∀ x:Str,x≠"__name__"->mb x=bootBuiltins x) (hlim:s₁.heap.NoLimit) (hg:s₁.gens=#[])
  (ha:s₁.heap.get? a=some { cls:=.type "list",data:=.seq vs.toArray }) (hi:IntsAre vs ns) (hl:ns.length<=sizeLine) (hr:mR k callerA)
  (F:∀ base:Heap,K.In base->base.Ns mainGlobals mg->Ku P w K mg base CX k fa fd [x] sp) (hbind:∀ (s:Shared) (u:Value),BindsTo s fd ⟨[u],[]⟩ [(x,u)])
  (hsp:∀ H:Hp,aem H->pC K H a (ns.map V.int)->sp [.ref a] H (fun v _=>v=.bl true) fun _ _ _=>False)
  (hCX:∀ H e s',CX [] H s₁ (fun _ _ _=>False) e s'->False) :
  codeAny (model P w) callerA (.call (.ref fa) ⟨[.ref a],[]⟩) (fun r s'=>r=.ok (.ret (.bool true))/\OldK s₁.heap s'.heap/\s'.os=s₁.os/\AllBare s'.gens) s₁:=by
 have rv:=rD hi
 have lenV:=hi.length
 have core:∀ H:Hp,aem H->pC K H a (ns.map V.int)->yr P w H s₁.heap->(∀ b,H b≠none->b=a)->(H a≠none->K.lookup a=none) ->
   codeAny (model P w) callerA (.call (.ref fa) ⟨[.ref a],[]⟩) (fun r s'=>r=.ok (.ret (.bool true))/\OldK s₁.heap s'.heap/\s'.os=s₁.os/\AllBare s'.gens) s₁:=by
  intro H hO hS hok hA hK
  have QK:∀ {b:Addr} {o:Obj},s₁.heap.get? b=some o->H b=none->(GC s₁.heap H).get? b=some o:=fun e n=>Wg e n
  have noA:∀ {b:Addr} {o:Obj} {es:Array DictEntry} {ep:Nat},s₁.heap.get? b=some o->o.data=.dict es ep->H b=none:=fun {b o es ep} e d=>by
   cases q:H b with
   | none=>rfl
   | some u =>
    have e':b=a:=hA b (by rw [q];simp)
    subst e'
    rw [ha] at e;cases e
    have d':Data.seq vs.toArray _=Data.dict es ep:=d
    cases d'
  have nsK:∀ {b:Addr} {m:Str->Option Value},s₁.heap.Ns b m->(GC s₁.heap H).Ns b m:=fun {b m} ⟨o,es,ep,e,d,r⟩=>⟨o,es,ep,QK e (noA e d),d,r⟩
  have hKb:K.In (GC s₁.heap H):=fun b o e=>QK (KX b o e) (by
   cases q:H b with
   | none=>rfl
   | some u =>
    have e':b=a:=hA b (by rw [q];simp)
    subst e'
    rw [hK (by rw [q];simp)] at e;cases e)
  have hM:Mod K mg (GC s₁.heap H):=⟨hKb,nsK hns,⟨mb,nsK hb,hbb⟩,let ⟨mc,h1,h2⟩:=hlim;⟨mc,nsK h1,h2⟩⟩
  have e0:aaT P w K mg (GC s₁.heap H) callerA [] s₁ H:=⟨rfl,hM,fun b o e=>aaE e,Nat.le_of_eq (Sq _ _),trivial,fun b hb=>absurd (show b∈([]:List Addr) from hb) (by simp),hok,.of_eq hg⟩
  refine codeAny_mono ((F _ hKb (nsK hns)).run callerA [] s₁ H ⟨[.ref a],[]⟩ [.ref a] [.ref a] _ _ hr e0 (hbind s₁ (.ref a)) (.cons rfl .nil) (hsp H hO hS)) fun r s' h=>?_
  cases r with
  | error e=>exact (hCX H e s' h).elim
  | ok fl =>
   cases fl with
   | next=>exact False.elim h
   | brk=>exact False.elim h
   | cont=>exact False.elim h
   | ret u =>
    obtain ⟨v,H',os,bare,un,hok',r',q⟩:=h
    have q':v=.bl true:=q
    subst q'
    obtain rfl:u=Value.bool true:=r'
    refine ⟨rfl,OldK.of_keep fun b o e=>?_,os,bare⟩
    cases q:H b with
    | none=>exact un.keep b o e q (by intro z;exact absurd (show b∈([]:List Addr) from z) (by simp)) (by simp)
    | some u =>
     rcases hO b with z|⟨ob,xs,z⟩
     ·rw [q] at z;cases z
     ·have z2:=un.yH b ob _ z
      obtain ⟨e1,_⟩:=hok b _ z
      obtain ⟨e2,_⟩:=hok' b _ z2
      rw [e] at e1;cases e1
      exact e2
 cases hk:K.lookup a with
 | some o =>
  have e:=KX a o hk
  rw [ha] at e
  cases e
  refine core (fun _=>none) (fun _=>.inl rfl) (.inr ⟨_,vs.toArray,_,hk,rfl,rfl,rfl,by rw [List.size_toArray,lenV];exact hl,by simpa using rv⟩) (fun b u z=>by have z':(none:Option HO)=some u:=z;cases z') (fun b z=>absurd rfl z) fun z=>absurd rfl z
 | none =>
  refine core (fun b=>if b=a then some (.Cj { cls:=.type "list",data:=.seq vs.toArray } (.lst (ns.map V.int))) else none) (fun b=>?_) (.inl (.inr ⟨{ cls:=.type "list",data:=.seq vs.toArray },if_pos rfl⟩)) (fun b u z=>?_) (fun b z=>?_) fun _=>hk
  ·by_cases hb:b=a
   ·exact .inr ⟨_,_,if_pos hb⟩
   ·exact .inl (if_neg hb)
  ·by_cases hb:b=a
   ·have z':=(if_pos hb).symm.trans z
    cases z'
    subst hb
    exact ⟨ha,by rw [List.length_map];exact hl,vs,_,rv,ha⟩
   ·have z':=(if_neg hb).symm.trans z
    cases z'
  ·by_cases hb:b=a
   ·exact hb
   ·exact absurd (if_neg hb) z
end L2
namespace L2
open PySem PySem.Spec PyProof.Rows
noncomputable abbrev KOf {K:PySem.W.Frag} {h:Heap} (_:K.In h):PySem.W.Frag:=K
theorem abe {l:PySem.W.OpenLaw} {n k:Nat} {q:Program} {loose:List Str} {XP:(Str->Option Value)->Heap->Prop} {YP:World->Heap->Prop} {d:DefRec} {K:Params->PySem.W.Frag} {CX:World->CXT} {sp:World->Sp} {x:Str}
  (hn:l.most=some n) (hn2:n<=sizeLine) (hdf:d.params.defaults=[]) (hr:mR k callerA)
  (hY:∀ (w:World) (h:Heap),YP w h->(K w.params).In h)
  (F:∀ (w:World) (mg:Str->Option Value) (fa:Addr) (h:Heap),(K w.params).In h->h.Ns mainGlobals mg->mg d.name=some (.ref fa) ->
   ∃ fd:FuncData,(∀ (s:Shared) (u:Value),BindsTo s fd ⟨[u],[]⟩ [(x,u)]) /\
    ∀ base:Heap,(K w.params).In base->base.Ns mainGlobals mg->Ku l.prog w (K w.params) mg base (CX w) k fa fd [x] (sp w))
  (hsp:∀ (w:World) (H:Hp) (a:Addr) (ns:List Int),ns.length<=n->aem H->pC (K w.params) H a (ns.map V.int)->sp w [.ref a] H (fun v _=>v=.bl true) fun _ _ _=>False)
  (hCX:∀ (w:World) (H:Hp) (s:Shared) (e:Value) (s':Shared),CX w [] H s (fun _ _ _=>False) e s'->False) :
  PySem.W.WalkO q loose XP YP l.row.toRowW d [] (fun f vs=>PySem.call f vs):=by
 refine Att.Ky hn hdf fun w s₀ s₁ mg mb fa o pm cd doc a vs ns G Y ho hd hcd hmg hobj hints hlen hg=>?_
 have KX:=hY w _ Y
 obtain ⟨fd,hb,hF⟩:=F w mg fa _ KX G.T.g hmg
 exact Ww KX G.T.g G.T.b G.T.builtins G.T.nolimit hg hobj hints (Nat.le_trans hlen hn2) hr hF hb (fun H hO hS=>hsp w H a ns hlen hO hS) fun H e s'=>hCX w H s₁ e s'
end L2
namespace L2
open PySem PySem.Spec PyProof.Rows
noncomputable def bR (s:Stmt):Arguments:=match s with
 | .FunctionDef _ a _ _ _ _ _ _ _ _=>a
 | _=>{ posonlyargs:=[],args:=[],vararg:=none,kwonlyargs:=[],kw_defaults:=[],kwarg:=none,defaults:=[] }
noncomputable def bJ (s:Stmt):List Stmt:=match s with
 | .FunctionDef _ _ b _ _ _ _ _ _ _=>b
 | _=>[]
noncomputable def aG (s:Stmt):Scope:=match s with
 | .FunctionDef _ _ _ _ _ _ sc _ _ _=>sc
 | _=>{ kind:=.function,names:=[],isGenerator:=false,isCoroutine:=false }
structure vR (K:PySem.W.Frag) (x qual:Str) (st:Stmt) (f:Addr) (fd:FuncData):Prop where
 ex:∃ (oc:Value) (od:Option Addr) (kV doc pm:Value) (an:Option Addr) (cdv ct:Value) (osl:Array (Option Value)),
  fd=PySem.W.fnOf x qual (bR st) (bJ st) (aG st) .none kV doc pm an cdv ct/\K.lookup f=some ⟨oc,od,.func fd,osl⟩/\PySem.W.codeIn K cdv qual=true
 kp:PySem.W.keepIn K (.ref f)=true
section
variable {P:Program} {w:World} {K:PySem.W.Frag} {mg:Str->Option Value} {base:Heap}
theorem vR.binds {x qual:Str} {st:Stmt} {f:Addr} {fd:FuncData} {ps:List Str} (F:vR K x qual st f fd)
  (h:∀ (kV doc pm:Value) (an:Option Addr) (cdv ct:Value) (us:List Value),us.length=ps.length->bindArgs (PySem.W.fnOf x qual (bR st) (bJ st) (aG st) .none kV doc pm an cdv ct) ⟨us,[]⟩=pure (ps.zip us)):Binds K fd ps []:=by
 obtain ⟨oc,od,kV,doc,pm,an,cdv,ct,osl,rfl,lk,hcd⟩:=F.ex
 exact .all (h kV doc pm an cdv ct)
theorem cX {x qual:Str} {st:Stmt} {f:Addr} {oc:Value} {od an:Option Addr} {osl:Array (Option Value)} {kV doc pm cdv ct:Value} (l:K.lookup f=some ⟨oc,od,.func (PySem.W.fnOf x qual (bR st) (bJ st) (aG st) .none kV doc pm an cdv ct),osl⟩)
  (c:PySem.W.codeIn K cdv qual=true) (k:PySem.W.keepIn K (.ref f)=true):vR K x qual st f (PySem.W.fnOf x qual (bR st) (bJ st) (aG st) .none kV doc pm an cdv ct):=⟨⟨oc,od,kV,doc,pm,an,cdv,ct,osl,rfl,l,c⟩,k⟩
end
theorem Td {n:Nat} (h:n<=1000):n < sizeLine:=Nat.lt_of_le_of_lt h (by decide)
section
variable {X:Cx}
end
noncomputable def Same (H H':Hp):Prop:=∀ b o,H b=some o->H' b=some o
theorem Same.refl (H:Hp):Same H H:=fun _ _ h=>h
theorem Same.trans {H H1 H2:Hp} (a:Same H H1) (b:Same H1 H2):Same H H2:=fun c o h=>b c o (a c o h)
theorem Same.free {H H':Hp} (e:Same H H') {l:Addr} (h:H' l=Option.none):H l=Option.none:=by
 cases q:H l with
 | none=>rfl
 | some o =>
  rw [e l o q] at h
  cases h
theorem Same.seq {K:PySem.W.Frag} {H H':Hp} {a:Addr} {xs:List V} (e:Same H H') (h:pC K H a xs):pC K H' a xs:=by
 rcases h with (h|⟨o,h⟩)|h
 ·exact .inl (.inl (e _ _ h))
 ·exact .inl (.inr ⟨o,e _ _ h⟩)
 ·exact .inr h
end L2
namespace Vl
open PySem PySem.Spec L2
inductive D where
 | non|bl (b:Bool)|int (i:Int)|str (x:Str)|tup (xs:List D)|lst (xs:List D)|kh (c:Str) (n:Int)
noncomputable def acW (a C:Addr) (n:Int):Heap->Prop:=fun h=>∃ o vs,h.get? a=some o/\o.cls=.ref C/\o.data=.fields vs/\n=0
mutual
noncomputable def Rep (K:PySem.W.Frag) (G:Hp):D->V->Prop
 | .non,v=>v=.non
 | .bl b,v=>v=.bl b
 | .int i,v=>v=.int i
 | .str x,v=>v=.str x
 | .tup ds,v=>∃ a vs,v=.ref a/\mj K G a vs/\bQ K G ds vs
 | .lst ds,v=>∃ a vs,v=.ref a/\pC K G a vs/\bQ K G ds vs
 | .kh c n,v=>∃ a C,v=.ref a/\PySem.W.nsIn K mainGlobals c=some (some (.ref C))/\G a=some (.ext (acW a C n))
noncomputable def bQ (K:PySem.W.Frag) (G:Hp):List D->List V->Prop
 | [],vs=>vs=[]
 | d::ds,vs=>∃ v vs',vs=v::vs'/\Rep K G d v/\bQ K G ds vs'
end
theorem Same.ji {K:PySem.W.Frag} {H H':Hp} {a:Addr} {xs:List V} (e:Same H H') (h:mj K H a xs):mj K H' a xs:=by
 rcases h with (h|⟨o,h⟩)|h
 ·exact .inl (.inl (e _ _ h))
 ·exact .inl (.inr ⟨o,e _ _ h⟩)
 ·exact .inr h
mutual
theorem Rep.mono {K:PySem.W.Frag} {G G':Hp} (e:Same G G'):∀ {d:D} {v:V},Rep K G d v->Rep K G' d v
 | .non,_,h=>by simp only [Rep] at h ⊢;exact h
 | .bl _,_,h=>by simp only [Rep] at h ⊢;exact h
 | .int _,_,h=>by simp only [Rep] at h ⊢;exact h
 | .str _,_,h=>by simp only [Rep] at h ⊢;exact h
 | .tup ds,_,h=>by
  simp only [Rep] at h ⊢
  obtain ⟨a,vs,e1,h1,h2⟩:=h
  exact ⟨a,vs,e1,Same.ji e h1,bQ.mono e h2⟩
 | .lst ds,_,h=>by
  simp only [Rep] at h ⊢
  obtain ⟨a,vs,e1,h1,h2⟩:=h
  exact ⟨a,vs,e1,e.seq h1,bQ.mono e h2⟩
 | .kh c n,_,h=>by
  simp only [Rep] at h ⊢
  obtain ⟨a,C,e1,h1,h2⟩:=h
  exact ⟨a,C,e1,h1,e _ _ h2⟩
theorem bQ.mono {K:PySem.W.Frag} {G G':Hp} (e:Same G G'):∀ {ds:List D} {vs:List V},bQ K G ds vs->bQ K G' ds vs
 | [],_,h=>by simp only [bQ] at h ⊢;exact h
 | d::ds,_,h=>by
  simp only [bQ] at h ⊢
  obtain ⟨v,vs',e1,h1,h2⟩:=h
  exact ⟨v,vs',e1,Rep.mono e h1,bQ.mono e h2⟩
end
section
variable {K:PySem.W.Frag} {G:Hp}
theorem aL {i:Int} {v:V}:Rep K G (.int i) v↔v=.int i:=by simp only [Rep]
theorem bw {i:Bool} {v:V}:Rep K G (.bl i) v↔v=.bl i:=by simp only [Rep]
theorem bM {v:V}:Rep K G .non v↔v=.non:=by simp only [Rep]
theorem bN {x:Str} {v:V}:Rep K G (.str x) v↔v=.str x:=by simp only [Rep]
theorem aO {ds:List D} {v:V}:Rep K G (.tup ds) v↔∃ a vs,v=.ref a/\mj K G a vs/\bQ K G ds vs:=by simp only [Rep]
theorem aN {ds:List D} {v:V}:Rep K G (.lst ds) v↔∃ a vs,v=.ref a/\pC K G a vs/\bQ K G ds vs:=by simp only [Rep]
theorem QL {c:Str} {n:Int} {v:V}:Rep K G (.kh c n) v↔∃ a C,v=.ref a/\PySem.W.nsIn K mainGlobals c=some (some (.ref C))/\G a=some (.ext (acW a C n)):=by simp only [Rep]
theorem bx {vs:List V}:bQ K G [] vs↔vs=[]:=by simp only [bQ]
theorem aR {d:D} {ds:List D} {vs:List V}:bQ K G (d::ds) vs↔∃ v vs',vs=v::vs'/\Rep K G d v/\bQ K G ds vs':=by simp only [bQ]
theorem bQ.length:∀ {ds:List D} {vs:List V},bQ K G ds vs->ds.length=vs.length
 | [],_,h=>by rw [bx.mp h];rfl
 | d::ds,_,h=>by
  obtain ⟨v,vs',rfl,_,h2⟩:=aR.mp h
  simp [bQ.length h2]
theorem bQ.get:∀ {ds:List D} {vs:List V} {i:Nat} {d:D},bQ K G ds vs->ds[i]?=some d->∃ v,vs[i]?=some v/\Rep K G d v
 | [],_,_,_,h,e=>by simp at e
 | d::ds,_,i,x,h,e=>by
  obtain ⟨v,vs',rfl,h1,h2⟩:=aR.mp h
  cases i with
  | zero=>simp at e;subst e;exact ⟨v,by simp,h1⟩
  | succ i=>obtain ⟨u,q1,q2⟩:=bQ.get (i:=i) h2 (by simpa using e);exact ⟨u,by simpa using q1,q2⟩
theorem bQ.get':∀ {ds:List D} {vs:List V} {i:Nat} {v:V},bQ K G ds vs->vs[i]?=some v->∃ d,ds[i]?=some d/\Rep K G d v
 | [],_,_,_,h,e=>by rw [bx.mp h] at e;simp at e
 | d::ds,_,i,x,h,e=>by
  obtain ⟨v,vs',rfl,h1,h2⟩:=aR.mp h
  cases i with
  | zero=>simp at e;subst e;exact ⟨d,by simp,h1⟩
  | succ i=>obtain ⟨u,q1,q2⟩:=bQ.get' (i:=i) h2 (by simpa using e);exact ⟨u,by simpa using q1,q2⟩
theorem bQ.append:∀ {ds es:List D} {vs us:List V},bQ K G ds vs->bQ K G es us->bQ K G (ds++es) (vs++us)
 | [],_,_,_,h,h'=>by rw [bx.mp h];exact h'
 | d::ds,_,_,_,h,h'=>by
  obtain ⟨v,vs',rfl,h1,h2⟩:=aR.mp h
  exact aR.mpr ⟨v,_,rfl,h1,bQ.append h2 h'⟩
theorem bQ.one {d:D} {v:V} (h:Rep K G d v):bQ K G [d] [v]:=aR.mpr ⟨v,[],rfl,h,bx.mpr rfl⟩
theorem bQ.drop:∀ {ds:List D} {vs:List V} (n:Nat),bQ K G ds vs->bQ K G (ds.drop n) (vs.drop n)
 | ds,vs,0,h=>by simpa using h
 | [],_,n + 1,h=>by rw [bx.mp h];simpa using bx.mpr rfl
 | d::ds,_,n + 1,h=>by
  obtain ⟨v,vs',rfl,h1,h2⟩:=aR.mp h
  simpa using bQ.drop n h2
theorem bQ.take:∀ {ds:List D} {vs:List V} (n:Nat),bQ K G ds vs->bQ K G (ds.take n) (vs.take n)
 | ds,vs,0,h=>by simpa using bx.mpr rfl
 | [],_,n + 1,h=>by rw [bx.mp h];simpa using bx.mpr rfl
 | d::ds,_,n + 1,h=>by
  obtain ⟨v,vs',rfl,h1,h2⟩:=aR.mp h
  simpa using aR.mpr ⟨v,_,rfl,h1,bQ.take n h2⟩
theorem vU (ns:List Int):bQ K G (ns.map D.int) (ns.map V.int):=by
 induction ns with
 | nil=>exact bx.mpr rfl
 | cons n ns ih=>exact aR.mpr ⟨_,_,rfl,aL.mpr rfl,ih⟩
end
inductive Rs (α:Type) where
 | ok (a:α)|ex (c:Str) (n:Int)|no
noncomputable def Rs.bind {α β:Type}:Rs α->(α->Rs β)->Rs β
 | .ok a,k=>k a
 | .ex c n,_=>.ex c n
 | .no,_=>.no
inductive Sl where
 | no|fz (d:D)|ow (ds:List D)|od (kvs:List (List Int×D))
noncomputable def Sl.own:Sl->Bool
 | .ow _=>true
 | .od _=>true
 | _=>false
noncomputable def UG (K:PySem.W.Frag) (G:Hp):Addr->List Int->Prop:=fun b ks=>mj K G b (ks.map V.int)
noncomputable def abf (ks:List Int):Int:=reduceHash (Builtin.Tuple.tupleHashOf (ks.map hashInt))
noncomputable def aiO (U:Addr->List Int->Prop) (a:Addr) (kvs:List (List Int×V)):Heap->Prop:=fun h=>∃ (o:Obj) (es:Array DictEntry) (ep:Nat) (xs:List (List Int×Addr×Value)),h.get? a=some o/\o.ExactDict/\o.data=.dict es ep/\(a == sysModules)=false /\
 es.toList=xs.map (fun x=>⟨abf x.1,.ref x.2.1,x.2.2⟩)/\(xs.map (·.1)).Nodup/\Paired (fun (p:List Int×V) (q:List Int×Addr×Value)=>p.1=q.1/\U q.2.1 q.1/\RelV p.2 q.2.2) kvs xs
inductive yO (K:PySem.W.Frag) (G:Hp):List (List Int×D)->List (List Int×V)->Prop
 | nil:yO K G [] []
 | cons {k:List Int} {d:D} {v:V} {kvs:List (List Int×D)} {Wx:List (List Int×V)}:Rep K G d v->yO K G kvs Wx->yO K G ((k,d)::kvs) ((k,v)::Wx)
theorem yO.mono {K:PySem.W.Frag} {G G':Hp} (e:Same G G') {kvs:List (List Int×D)} {Wx:List (List Int×V)} (h:yO K G kvs Wx):yO K G' kvs Wx:=by
 induction h with
 | nil=>exact .nil
 | cons r _ ih=>exact .cons (r.mono e) ih
noncomputable def xU (K:PySem.W.Frag) (G:Hp) (a:Addr):Sl->HO->Prop
 | .ow ds,o=>∃ vs,o=.lst vs/\bQ K G ds vs
 | .od kvs,o=>∃ U Wx,o=.ext (aiO U a Wx)/\(∀ b ks,U b ks->UG K G b ks)/\yO K G kvs Wx
 | _,_=>False
theorem xU.mono {K:PySem.W.Frag} {G G':Hp} (e:Same G G') {a:Addr} {z:Sl} {o:HO} (h:xU K G a z o):xU K G' a z o:=by
 cases z with
 | ow ds=>obtain ⟨vs,h1,h2⟩:=h;exact ⟨vs,h1,h2.mono e⟩
 | od kvs=>obtain ⟨U,Wx,h1,h2,h3⟩:=h;exact ⟨U,Wx,h1,fun b ks q=>Same.ji e (h2 b ks q),h3.mono e⟩
 | _=>exact h.elim
theorem xU.tup {K:PySem.W.Frag} {G:Hp} {a:Addr} {z:Sl} {xs:List V} (h:xU K G a z (.tup xs)):False:=by
 cases z with
 | ow ds=>obtain ⟨vs,h1,h2⟩:=h;cases h1
 | od kvs=>obtain ⟨U,Wx,h1,h2,h3⟩:=h;cases h1
 | _=>exact h
noncomputable abbrev aJ:=List Sl
noncomputable abbrev Wi:=Str->Int->St->Hp->Prop
structure Ext (G H G' H':Hp):Prop where
 gg:Same G G'
 hh:Same H H'
 gh:Same G' H'
 tp:∀ a xs,H' a=some (.tup xs)->G' a=some (.tup xs)
 nw:∀ b o,H b=some o->G b=none->G' b=none
theorem Ext.trans {G H G1 H1 G2 H2:Hp} (a:Ext G H G1 H1) (b:Ext G1 H1 G2 H2):Ext G H G2 H2 :=
 ⟨a.gg.trans b.gg,a.hh.trans b.hh,b.gh,b.tp,fun c o h n=>b.nw c o (a.hh c o h) (a.nw c o h n)⟩
theorem Ext.refl {G H:Hp} (gh:Same G H) (tp:∀ a xs,H a=some (.tup xs)->G a=some (.tup xs)):Ext G H G H:=⟨.refl _,.refl _,gh,tp,fun _ _ _ n=>n⟩
structure SR (K:PySem.W.Frag) (B:Hp×Hp) (σ:St) (H:Hp) (ρ:aJ) (G:Hp):Prop where
 en:Ext B.1 B.2 G H
 len:ρ.length=σ.length
 fz:∀ (i:Nat) (d:D),ρ[i]?=some (.fz d)->∃ v,σ[i]?=some (some v)/\Rep K G d v
 own:∀ (i:Nat) (z:Sl),ρ[i]?=some z->z.own=true->∃ a o,σ[i]?=some (some (.ref a))/\H a=some o/\G a=none/\B.2 a=none/\xU K G a z o
 ap:∀ (i j:Nat) (z z':Sl) (a:Addr),ρ[i]?=some z->z.own=true->ρ[j]?=some z'->z'.own=true->σ[i]?=some (some (.ref a))->σ[j]?=some (some (.ref a))->i=j
section
variable {K:PySem.W.Frag} {B:Hp×Hp} {σ:St} {H H' G G':Hp} {ρ:aJ}
theorem SR.Cp (h:SR K B σ H ρ G):Ext G H G H:=.refl h.en.gh h.en.tp
theorem SR.ext (h:SR K B σ H ρ G) (e:Ext G H G' H'):SR K B σ H' ρ G' where
 en:=h.en.trans e
 len:=h.len
 fz:=fun i d q=>let ⟨v,h1,h2⟩:=h.fz i d q;⟨v,h1,h2.mono e.gg⟩
 own:=fun i z q w=>let ⟨a,o,h1,h2,h3,h4,h5⟩:=h.own i z q w;⟨a,o,h1,e.hh _ _ h2,e.nw _ _ h2 h3,h4,h5.mono e.gg⟩
 ap:=h.ap
theorem SR.set (h:SR K B σ H ρ G) {i:Nat} {d:D} {v:V} (r:Rep K G d v):SR K B (σ.set i (some v)) H (ρ.set i (.fz d)) G where
 en:=h.en
 len:=by simp [h.len]
 fz:=fun j d' q=>by
  by_cases e:i=j
  ·subst e
   have hl:i < ρ.length:=by
    have:=(List.getElem?_eq_some_iff.mp q).1;simpa using this
   rw [List.getElem?_set_self hl] at q
   cases q
   exact ⟨v,List.getElem?_set_self (by rw [<- h.len];exact hl),r⟩
  ·rw [List.getElem?_set_ne e] at q
   rw [List.getElem?_set_ne e]
   exact h.fz j d' q
 own:=fun j z q w=>by
  by_cases e:i=j
  ·subst e
   have hl:i < ρ.length:=by
    have:=(List.getElem?_eq_some_iff.mp q).1;simpa using this
   rw [List.getElem?_set_self hl] at q
   cases q;cases w
  ·rw [List.getElem?_set_ne e] at q
   rw [List.getElem?_set_ne e]
   exact h.own j z q w
 ap:=fun j k z z' a q1 w1 q2 w2 q3 q4=>by
  have ne:∀ (l:Nat) (z:Sl),(ρ.set i (.fz d))[l]?=some z->z.own=true->i≠l:=fun l z q w e=>by
   subst e
   have hl:i < ρ.length:=by
    have:=(List.getElem?_eq_some_iff.mp q).1;simpa using this
   rw [List.getElem?_set_self hl] at q
   cases q;cases w
  have n1:=ne j z q1 w1
  have n2:=ne k z' q2 w2
  rw [List.getElem?_set_ne n1] at q1 q3
  rw [List.getElem?_set_ne n2] at q2 q4
  exact h.ap j k z z' a q1 w1 q2 w2 q3 q4
theorem SR.ow (h:SR K B σ H ρ G) (i:Nat) (ds:List D) (q:ρ[i]?=some (.ow ds)):∃ a vs,σ[i]?=some (some (.ref a))/\H a=some (.lst vs)/\G a=none/\B.2 a=none/\bQ K G ds vs:=by
 obtain ⟨a,o,h1,h2,h3,h4,vs,rfl,h5⟩:=h.own i _ q rfl
 exact ⟨a,vs,h1,h2,h3,h4,h5⟩
theorem uP (gh:Same G H) (tp:∀ a xs,H a=some (.tup xs)->G a=some (.tup xs)) {p:Addr} {xs:List V} (hp:H p=none):Ext G H (gC G p (.tup xs)) (gC H p (.tup xs)) where
 gg:=fun b o e=>by rw [bf (bh (gh _ _ e) hp)];exact e
 hh:=fun b o e=>by rw [bf (bh e hp)];exact e
 gh:=fun b o e=>by
  by_cases q:b=p
  ·subst q;rw [aY] at e ⊢;exact e
  ·rw [bf q] at e ⊢;exact gh _ _ e
 tp:=fun b ys e=>by
  by_cases q:b=p
  ·subst q;rw [aY] at e ⊢;exact e
  ·rw [bf q] at e ⊢;exact tp _ _ e
 nw:=fun b o e n=>by rw [bf (bh e hp)];exact n
theorem kE (gh:Same G H) (tp:∀ a xs,H a=some (.tup xs)->G a=some (.tup xs)) {p:Addr} {xs:List V} (hp:H p=none):Ext G H (gC G p (.lst xs)) (gC H p (.lst xs)) where
 gg:=fun b o e=>by rw [bf (bh (gh _ _ e) hp)];exact e
 hh:=fun b o e=>by rw [bf (bh e hp)];exact e
 gh:=fun b o e=>by
  by_cases q:b=p
  ·subst q;rw [aY] at e ⊢;exact e
  ·rw [bf q] at e ⊢;exact gh _ _ e
 tp:=fun b ys e=>by
  by_cases q:b=p
  ·subst q;rw [aY] at e;cases e
  ·rw [bf q] at e ⊢;exact tp _ _ e
 nw:=fun b o e n=>by rw [bf (bh e hp)];exact n
theorem abg (gh:Same G H) (tp:∀ a xs,H a=some (.tup xs)->G a=some (.tup xs)) {p:Addr} {o:HO} (ho:∀ xs,o≠.tup xs) (hp:H p=none):Ext G H G (gC H p o) where
 gg:=.refl _
 hh:=fun b o e=>by rw [bf (bh e hp)];exact e
 gh:=fun b o e=>by rw [bf (bh (gh _ _ e) hp)];exact gh _ _ e
 tp:=fun b ys e=>by
  by_cases q:b=p
  ·subst q;rw [aY] at e;cases e;exact absurd rfl (ho ys)
  ·rw [bf q] at e;exact tp _ _ e
 nw:=fun b o e n=>n
theorem abh (gh:Same G H) (tp:∀ a xs,H a=some (.tup xs)->G a=some (.tup xs)) {p:Addr} {xs:List V} (hp:H p=none):Ext G H G (gC H p (.lst xs)) where
 gg:=.refl _
 hh:=fun b o e=>by rw [bf (bh e hp)];exact e
 gh:=fun b o e=>by rw [bf (bh (gh _ _ e) hp)];exact gh _ _ e
 tp:=fun b ys e=>by
  by_cases q:b=p
  ·subst q;rw [aY] at e;cases e
  ·rw [bf q] at e;exact tp _ _ e
 nw:=fun b o e n=>n
end
noncomputable def Post (K:PySem.W.Frag) (W:Wi) (σ:St) (G H:Hp) (r:Rs D) (Q:VK):Prop :=
 match r with
 | .ok d=>∀ v H' G',Ext G H G' H'->Rep K G' d v->Q v H'
 | .ex c n=>∀ H' G',Ext G H G' H'->W c n σ H'
 | .no=>False
noncomputable def tF (K:PySem.W.Frag) (B:Hp×Hp) (W:Wi) (f:aJ->Rs D):TE:=fun σ H Q=>∃ ρ G,SR K B σ H ρ G/\Post K W σ G H (f ρ) Q
noncomputable def SE (X:Cx) (B:Hp×Hp) (W:Wi) (e:Expr) (f:aJ->Rs D):Prop:=PE X e (tF X.K B W f)
theorem PE.imp {X:Cx} {e:Expr} {t t':TE} (h:PE X e t) (i:∀ σ H Q,t' σ H Q->t σ H Q):PE X e t':=fun pins s σ H Q I q=>h pins s σ H Q I (i σ H Q q)
theorem PT.imp {X:Cx} {e:Expr} {t t':TT} (h:PT X e t) (i:∀ σ H Q,t' σ H Q->t σ H Q):PT X e t':=fun pins s σ H Q I q=>h pins s σ H Q I (i σ H Q q)
theorem PA.imp {X:Cx} {e:List Expr} {t t':TA} (h:PA X e t) (i:∀ σ H Q,t' σ H Q->t σ H Q):PA X e t':=fun pos pins s σ H Q I q=>h pos pins s σ H Q I (i σ H Q q)
theorem PS.imp {X:Cx} {e:Stmt} {t t':TS} (h:PS X e t) (i:∀ De σ H,t' De σ H->t De σ H):PS X e t':=fun pins s σ H De I q=>h pins s σ H De I (i De σ H q)
theorem Kq.imp {X:Cx} {e:List Stmt} {t t':TS} (h:Kq X e t) (i:∀ De σ H,t' De σ H->t De σ H):Kq X e t':=fun pins s σ H De I q=>h pins s σ H De I (i De σ H q)
section
variable {X:Cx} {K:PySem.W.Frag} {B:Hp×Hp} {W:Wi} {σ:St} {G H:Hp} {ρ:aJ} {Q Q':VK}
theorem Post.mono {r:Rs D} (h:Post K W σ G H r Q) (i:∀ v H',Q v H'->Q' v H'):Post K W σ G H r Q':=by
 cases r with
 | ok d=>exact fun v H' G' e r=>i _ _ (h v H' G' e r)
 | ex c n=>exact h
 | no=>exact h
theorem Post.ext {r:Rs D} {G' H':Hp} (e:Ext G H G' H') (h:Post K W σ G H r Q):Post K W σ G' H' r Q:=by
 cases r with
 | ok d=>exact fun v VN G'' e' r=>h v VN G'' (e.trans e') r
 | ex c n=>exact fun VN G'' e'=>h VN G'' (e.trans e')
 | no=>exact h
theorem Post.bind {r:Rs D} {k:D->Rs D} (h:Post K W σ G H (r.bind k) Q) :
  Post K W σ G H r fun v H1=>∃ G1 d,Ext G H G1 H1/\Rep K G1 d v/\Post K W σ G1 H1 (k d) Q:=by
 cases r with
 | ok d=>exact fun v H' G' e r=>⟨G',d,e,r,Post.ext e h⟩
 | ex c n=>exact h
 | no=>exact h
theorem Post.ok {d:D} {v:V} (s:SR K B σ H ρ G) (h:Post K W σ G H (.ok d) Q) (r:Rep K G d v):Q v H:=h v H G s.Cp r
theorem mU {f:aJ->Rs D} {k:aJ->D->Rs D} (h:tF K B W (fun ρ=>(f ρ).bind (k ρ)) σ H Q) :
  tF K B W f σ H fun v H1=>∃ ρ G1 d,SR K B σ H1 ρ G1/\Rep K G1 d v/\Post K W σ G1 H1 (k ρ d) Q:=by
 obtain ⟨ρ,G,s,p⟩:=h
 exact ⟨ρ,G,s,p.bind.mono fun v H1 ⟨G1,d,e,r,q⟩=>⟨ρ,G1,d,s.ext e,r,q⟩⟩
theorem Wy {f:aJ->Rs D} {k:D->D->Rs D} {v:V} (h:∃ ρ G1 d,SR K B σ H ρ G1/\Rep K G1 d v/\Post K W σ G1 H ((f ρ).bind (k d)) Q) :
  tF K B W f σ H fun u H1=>∃ ρ G1 d d',SR K B σ H1 ρ G1/\Rep K G1 d v/\Rep K G1 d' u/\Post K W σ G1 H1 (k d d') Q:=by
 obtain ⟨ρ,G,d,s,r,p⟩:=h
 exact ⟨ρ,G,s,p.bind.mono fun u H1 ⟨G1,d',e,r',q⟩=>⟨ρ,G1,d,d',s.ext e,r.mono e.gg,r',q⟩⟩
noncomputable def aD (i:Nat):aJ->Rs D:=fun ρ=>match ρ[i]? with|some (.fz d)=>.ok d|_=>.no
noncomputable def fC (d:D):aJ->Rs D:=fun _=>.ok d
theorem aen {e:Expr} {i:Nat} (h:PE X e (aaG i)):SE X B W e (aD i):=PE.imp h fun σ H Q ⟨ρ,G,s,p⟩=>by
 unfold aD at p
 cases q:ρ[i]? with
 | none=>rw [q] at p;exact p.elim
 | some x =>
  rw [q] at p
  cases x with
  | no=>exact p.elim
  | ow _=>exact p.elim
  | od _=>exact p.elim
  | fz d =>
   obtain ⟨v,h1,h2⟩:=s.fz i d q
   exact ⟨v,h1,Post.ok s p h2⟩
theorem sv (i:Nat) {x:Str} {pos:Pos} (hN:X.N[i]?=some x:=by rfl) (hv:Vis X.env.scope x:=by first|exact Or.inl rfl|exact Or.inr (Or.inl rfl)|exact Or.inr (Or.inr rfl)) (hd:(x == ("__debug__":Str))=false:=by decide)
  (hcd:(x == ("__classdict__":Str))=false:=by decide):SE X B W (.Name x pos) (aD i):=aen (GF hN hv hd hcd)
theorem aeo {e:Expr} {v:V} {d:D} (h:PE X e (tC v)) (r:∀ G,Rep X.K G d v):SE X B W e (fC d):=PE.imp h fun σ H Q ⟨ρ,G,s,p⟩=>Post.ok s p (r G)
theorem au {i:Int} {j pos}:SE X B W (.Constant (.int i) j pos) (fC (.int i)):=aeo adG fun _=>aL.mpr rfl
theorem sI {b:Bool} {j pos}:SE X B W (.Constant (.bool b) j pos) (fC (.bl b)):=aeo agc fun _=>bw.mpr rfl
theorem aep {x j pos}:SE X B W (.Constant (.str x) j pos) (fC (.str x)):=aeo adH fun _=>bN.mpr rfl
noncomputable def bD (g:D->D->Rs D) (fa fb:aJ->Rs D):aJ->Rs D:=fun ρ=>(fa ρ).bind fun x=>(fb ρ).bind fun y=>g x y
noncomputable def VP (K:PySem.W.Frag) (r:R2) (g:D->D->Rs D):Prop :=
 ∀ (B:Hp×Hp) (W:Wi) (σ:St) (ρ:aJ) (G H:Hp) (x y:D) (v u:V) (Q:VK),SR K B σ H ρ G->Rep K G x v->Rep K G y u->Post K W σ G H (g x y) Q->r v u H Q
theorem GX {r:R2} {g:D->D->Rs D} {fa fb:aJ->Rs D} (ho:VP K r g) (h:tF K B W (bD g fa fb) σ H Q):tOp r (tF K B W fa) (tF K B W fb) σ H Q:=by
 obtain ⟨ρ,G,s,p⟩:=mU (k:=fun ρ x=>(fb ρ).bind fun y=>g x y) h
 refine ⟨ρ,G,s,p.mono fun v H1 h1=>?_⟩
 obtain ⟨ρ,G,s,p⟩:=Wy (k:=g) h1
 exact ⟨ρ,G,s,p.mono fun u H2 ⟨ρ2,G2,d,d',s2,r1,r2,p2⟩=>ho B W σ ρ2 G2 H2 d d' v u Q s2 r1 r2 p2⟩
theorem yP {a b:Expr} {op:Operator} {pos:Pos} {r:R2} {g:D->D->Rs D} {fa fb:aJ->Rs D} (ho:rW X (binaryOp op) r) (hg:VP X.K r g) (ha:SE X B W a fa) (hb:SE X B W b fb):SE X B W (.BinOp a op b pos) (bD g fa fb) :=
 PE.imp (Wr ho ha hb) fun _ _ _ h=>GX hg h
noncomputable def gI (C:Int->Int->Prop) [∀ i j,Decidable (C i j)] (g:Int->Int->D):D->D->Rs D
 | .int i,.int j=>if C i j then .ok (g i j) else .no
 | _,_=>.no
theorem QM {C:Int->Int->Prop} [∀ i j,Decidable (C i j)] {gv:Int->Int->V} {g:Int->Int->D} (hg:∀ G i j,Rep K G (g i j) (gv i j)):VP K (rI C gv) (gI C g):=by
 intro B W σ ρ G H x y v u Q s rx ry p
 cases x <;> first|exact p.elim|skip
 rename_i i
 cases y <;> first|exact p.elim|skip
 rename_i j
 simp only [gI] at p
 by_cases c:C i j
 ·rw [if_pos c] at p
  exact ⟨i,j,aL.mp rx,aL.mp ry,c,Post.ok s p (hg G i j)⟩
 ·rw [if_neg c] at p;exact p.elim
noncomputable def gI0 (g:Int->Int->D):D->D->Rs D
 | .int i,.int j=>.ok (g i j)
 | _,_=>.no
theorem yQ {gv:Int->Int->V} {g:Int->Int->D} (hg:∀ G i j,Rep K G (g i j) (gv i j)):VP K (rI0 gv) (gI0 g):=by
 intro B W σ ρ G H x y v u Q s rx ry p
 cases x <;> first|exact p.elim|skip
 rename_i i
 cases y <;> first|exact p.elim|skip
 rename_i j
 exact ⟨i,j,aL.mp rx,aL.mp ry,Post.ok s p (hg G i j)⟩
end
end Vl
namespace Vl
open PySem PySem.Spec L2
mutual
noncomputable def rE:D->D->Bool
 | .tup a,.tup b=>vV a b
 | .lst a,.lst b=>vV a b
 | .non,.non=>true
 | .bl a,.bl b=>a == b
 | .bl a,.int b=>(if a then 1 else 0) == b
 | .int a,.bl b=>a == (if b then 1 else 0)
 | .int a,.int b=>a == b
 | .str a,.str b=>a == b
 | .kh a b,.kh c d=>a == c && b == d
 | _,_=>false
noncomputable def vV:List D->List D->Bool
 | [],[]=>true
 | a::as,b::bs=>rE a b && vV as bs
 | _,_=>false
end
mutual
noncomputable def cT:D->Nat
 | .tup a=>eU a + 1
 | .lst a=>eU a + 1
 | .kh _ _=>cLine
 | _=>0
noncomputable def eU:List D->Nat
 | []=>0
 | a::as=>Nat.max (cT a) (eU as)
end
mutual
theorem uQ:∀ d:D,rE d d=true
 | .non=>by simp [rE]
 | .bl _=>by simp [rE]
 | .int _=>by simp [rE]
 | .str _=>by simp [rE]
 | .tup a=>by simp [rE,vW a]
 | .lst a=>by simp [rE,vW a]
 | .kh _ _=>by simp [rE]
theorem vW:∀ d:List D,vV d d=true
 | []=>by simp [vV]
 | a::as=>by simp [vV,uQ a,vW as]
end
theorem cZ:∀ (a b:List D),((List.range (min a.length b.length)).all (fun j=>rE (a.getD j .non) (b.getD j .non)) && a.length == b.length)=vV a b
 | [],[]=>by simp [vV]
 | [],b::bs=>by simp [vV]
 | a::as,[]=>by simp [vV]
 | a::as,b::bs=>by
  have ih:=cZ as bs
  rw [vV,<- ih]
  rw [show min (a::as).length (b::bs).length=min as.length bs.length + 1 by simp]
  rw [List.range_succ_eq_map,List.all_cons,List.all_map]
  simp [Function.comp_def,Bool.and_assoc]
theorem uR {d:D}:∀ {ds:List D},d∈ds->cT d<=eU ds
 | [],h=>by cases h
 | x::xs,h=>by
  rw [eU]
  rcases List.mem_cons.mp h with rfl|h
  ·exact Nat.le_max_left _ _
  ·exact Nat.le_trans (uR h) (Nat.le_max_right _ _)
section
variable {X:Cx} {pins:List (Addr×Obj)} {σ:St} {H:Hp} {s:Shared}
theorem Kz (I:Inv X pins σ H s) {a:Addr} {xs ys:List V} (h:pC X.K H a xs) (h':mj X.K H a ys):False:=by
 obtain ⟨_,_,⟨o,n,e,c,_,_⟩,_⟩:=I.list h
 obtain ⟨_,_,⟨o',e',c',_⟩,_⟩:=I.tuple h'
 rw [e] at e';cases e'
 rw [c] at c';exact absurd c' (by decide)
theorem Wz (I:Inv X pins σ H s) {a:Addr} {xs:List V} {φ:Heap->Prop} (h:mj X.K H a xs) (h':H a=some (.ext φ)):False:=by
 rcases h with (h|⟨o,h⟩)|⟨o,its,n,hk,_⟩
 ·rw [h'] at h;cases h
 ·rw [h'] at h;cases h
 ·have:=(I.bs a o (I.mod.kin a o hk)).2
  rw [h'] at this;cases this
theorem WD (I:Inv X pins σ H s) {a:Addr} {xs:List V} {φ:Heap->Prop} (h:pC X.K H a xs) (h':H a=some (.ext φ)):False:=by
 rcases h with (h|⟨o,h⟩)|⟨o,its,n,hk,_⟩
 ·rw [h'] at h;cases h
 ·rw [h'] at h;cases h
 ·have:=(I.bs a o (I.mod.kin a o hk)).2
  rw [h'] at this;cases this
mutual
theorem Rep.inj (I:Inv X pins σ H s):∀ {d d':D} {v:V},cT d < cLine->Rep X.K H d v->Rep X.K H d' v->d=d'
 | .non,d',v,_,h,h'=>by
  rw [bM.mp h] at h'
  cases d' <;> simp only [Rep] at h' <;> first|rfl|(obtain ⟨a,vs,e,_⟩:=h';cases e;done)|(cases h';rfl)|cases h'
 | .bl _,d',v,_,h,h'=>by
  rw [bw.mp h] at h'
  cases d' <;> simp only [Rep] at h' <;> first|rfl|(obtain ⟨a,vs,e,_⟩:=h';cases e;done)|(cases h';rfl)|cases h'
 | .int _,d',v,_,h,h'=>by
  rw [aL.mp h] at h'
  cases d' <;> simp only [Rep] at h' <;> first|rfl|(obtain ⟨a,vs,e,_⟩:=h';cases e;done)|(cases h';rfl)|cases h'
 | .str _,d',v,_,h,h'=>by
  rw [bN.mp h] at h'
  cases d' <;> simp only [Rep] at h' <;> first|rfl|(obtain ⟨a,vs,e,_⟩:=h';cases e;done)|(cases h';rfl)|cases h'
 | .tup ds,d',v,hd,h,h'=>by
  obtain ⟨a,vs,rfl,q,r⟩:=aO.mp h
  cases d' with
  | tup es =>
   obtain ⟨b,us,e,q',r'⟩:=aO.mp h'
   cases e
   rw [I.Et q' q] at r'
   rw [bQ.inj I (by simp only [cT] at hd;omega) r r']
  | lst es =>
   obtain ⟨b,us,e,q',r'⟩:=aN.mp h'
   cases e
   exact (Kz I q' q).elim
  | kh c n =>
   obtain ⟨b,C,e,_,q'⟩:=QL.mp h'
   cases e
   exact (Wz I q q').elim
  | _=>simp only [Rep] at h';cases h'
 | .lst ds,d',v,hd,h,h'=>by
  obtain ⟨a,vs,rfl,q,r⟩:=aN.mp h
  cases d' with
  | lst es =>
   obtain ⟨b,us,e,q',r'⟩:=aN.mp h'
   cases e
   rw [I.Kr q' q] at r'
   rw [bQ.inj I (by simp only [cT] at hd;omega) r r']
  | tup es =>
   obtain ⟨b,us,e,q',r'⟩:=aO.mp h'
   cases e
   exact (Kz I q q').elim
  | kh c n =>
   obtain ⟨b,C,e,_,q'⟩:=QL.mp h'
   cases e
   exact (WD I q q').elim
  | _=>simp only [Rep] at h';cases h'
 | .kh _ _,d',v,hd,h,h'=>by simp only [cT] at hd;exact absurd hd (Nat.lt_irrefl _)
theorem bQ.inj (I:Inv X pins σ H s):∀ {ds es:List D} {vs:List V},eU ds < cLine->bQ X.K H ds vs->bQ X.K H es vs->ds=es
 | [],es,vs,_,h,h'=>by
  rw [bx.mp h] at h'
  cases es with
  | nil=>rfl
  | cons e es=>obtain ⟨v,vs',e1,_⟩:=aR.mp h';cases e1
 | d::ds,es,vs,hd,h,h'=>by
  obtain ⟨v,vs',rfl,r1,r2⟩:=aR.mp h
  simp only [eU] at hd
  cases es with
  | nil=>have:=bx.mp h';cases this
  | cons e es =>
   obtain ⟨v',vs'',e1,r1',r2'⟩:=aR.mp h'
   cases e1
   rw [Rep.inj I (Nat.lt_of_le_of_lt (Nat.le_max_left _ _) hd) r1 r1',bQ.inj I (Nat.lt_of_le_of_lt (Nat.le_max_right _ _) hd) r2 r2']
end
theorem yR (I:Inv X pins σ H s) {m:Nat} {A:Around} {ds es:List D} {vs us:List V} {its its2:List Value}
  (ih:∀ {d d':D} {v v':V} {u u':Value} {A:Around},cT d<=m->cT d'<=m->A.units + m < cLine->Rep X.K H d v->Rep X.K H d' v'->RelV v u->RelV v' u'->SeqAt.EqAt A s u u' (rE d d'))
  (hn:eU ds<=m) (hn':eU es<=m) (hu:A.in1.units + m < cLine) (r1:bQ X.K H ds vs) (r2:bQ X.K H es us) (a1:Vals vs its) (a2:Vals us its2) :
  ∀ j (h1:j < its.toArray.size) (h2:j < its2.toArray.size),SeqAt.EqAt A.in1 s its.toArray[j] its2.toArray[j] (rE (ds.getD j .non) (es.getD j .non)):=by
 intro j h1 h2
 have l1:j < ds.length:=by rw [r1.length,a1.length];simpa using h1
 have l2:j < es.length:=by rw [r2.length,a2.length];simpa using h2
 obtain ⟨x,hx,rx⟩:=r1.get (i:=j) (d:=ds[j]) (by simp [l1])
 obtain ⟨y,hy,ry⟩:=r2.get (i:=j) (d:=es[j]) (by simp [l2])
 obtain ⟨p,hp,rp⟩:=a1.get hx
 obtain ⟨q,hq,rq⟩:=a2.get hy
 have e1:its.toArray[j]=p:=by
  have:=(List.getElem?_eq_some_iff.mp hp).2;simpa using this
 have e2:its2.toArray[j]=q:=by
  have:=(List.getElem?_eq_some_iff.mp hq).2;simpa using this
 rw [e1,e2,List.getD_eq_getElem?_getD,List.getD_eq_getElem?_getD,List.getElem?_eq_getElem l1,List.getElem?_eq_getElem l2]
 exact ih (Nat.le_trans (uR (List.getElem_mem l1)) hn) (Nat.le_trans (uR (List.getElem_mem l2)) hn') hu rx ry rp rq
open SeqAt in
theorem WK (I:Inv X pins σ H s):∀ (n:Nat) {d d':D} {v v':V} {u u':Value} {A:Around},cT d<=n->cT d'<=n->A.units + n < cLine->Rep X.K H d v->Rep X.K H d' v'->RelV v u->RelV v' u'->EqAt A s u u' (rE d d'):=by
 intro n
 induction n with
 | zero =>
  intro d d' v v' u u' A hd hd' hu r r' e e'
  have hu0:A.units < cLine:=by omega
  cases d with
  | non =>
   rw [bM.mp r] at e;cases e
   cases d' with
   | non =>
    rw [bM.mp r'] at e';cases e'
    exact EqAt.same _
   | bl b =>
    rw [bw.mp r'] at e';cases e'
    exact EqAt.none_bool b
   | int b =>
    rw [aL.mp r'] at e';obtain ⟨t',rfl⟩:=e'
    exact EqAt.none_int b t'
   | str b =>
    rw [bN.mp r'] at e';obtain ⟨t',rfl⟩:=e'
    exact EqAt.none_str b t'
   | tup es =>
    obtain ⟨b,us,rfl,q',rr'⟩:=aO.mp r'
    cases e'
    obtain ⟨its2,gP,t2,_⟩:=I.tuple q'
    exact EqAt.none_tuple t2 hu0
   | lst es =>
    obtain ⟨b,us,rfl,q',rr'⟩:=aN.mp r'
    cases e'
    obtain ⟨its2,gP,t3,_⟩:=I.list q'
    have t2:=t3.isList
    exact EqAt.none_list t2 hu0
   | kh c m =>
    simp only [cT] at hd';exact absurd hu (by omega)
  | bl x =>
   rw [bw.mp r] at e;cases e
   cases d' with
   | non =>
    rw [bM.mp r'] at e';cases e'
    exact EqAt.bool_none x
   | bl b =>
    rw [bw.mp r'] at e';cases e'
    exact EqAt.bool_bool x b
   | int b =>
    rw [aL.mp r'] at e';obtain ⟨t',rfl⟩:=e'
    exact EqAt.bool_int x b t'
   | str b =>
    rw [bN.mp r'] at e';obtain ⟨t',rfl⟩:=e'
    exact EqAt.bool_str x b t'
   | tup es =>
    obtain ⟨b,us,rfl,q',rr'⟩:=aO.mp r'
    cases e'
    obtain ⟨its2,gP,t2,_⟩:=I.tuple q'
    exact EqAt.bool_tuple x t2 hu0
   | lst es =>
    obtain ⟨b,us,rfl,q',rr'⟩:=aN.mp r'
    cases e'
    obtain ⟨its2,gP,t3,_⟩:=I.list q'
    have t2:=t3.isList
    exact EqAt.bool_list x t2 hu0
   | kh c m =>
    simp only [cT] at hd';exact absurd hu (by omega)
  | int x =>
   rw [aL.mp r] at e;obtain ⟨t0,rfl⟩:=e
   cases d' with
   | non =>
    rw [bM.mp r'] at e';cases e'
    exact EqAt.int_none x t0
   | bl b =>
    rw [bw.mp r'] at e';cases e'
    exact EqAt.int_bool x t0 b
   | int b =>
    rw [aL.mp r'] at e';obtain ⟨t',rfl⟩:=e'
    exact EqAt.int_int x t0 b t'
   | str b =>
    rw [bN.mp r'] at e';obtain ⟨t',rfl⟩:=e'
    exact EqAt.int_str x t0 b t'
   | tup es =>
    obtain ⟨b,us,rfl,q',rr'⟩:=aO.mp r'
    cases e'
    obtain ⟨its2,gP,t2,_⟩:=I.tuple q'
    exact EqAt.int_tuple x t0 t2 hu0
   | lst es =>
    obtain ⟨b,us,rfl,q',rr'⟩:=aN.mp r'
    cases e'
    obtain ⟨its2,gP,t3,_⟩:=I.list q'
    have t2:=t3.isList
    exact EqAt.int_list x t0 t2 hu0
   | kh c m =>
    simp only [cT] at hd';exact absurd hu (by omega)
  | str x =>
   rw [bN.mp r] at e;obtain ⟨t0,rfl⟩:=e
   cases d' with
   | non =>
    rw [bM.mp r'] at e';cases e'
    exact EqAt.str_none x t0
   | bl b =>
    rw [bw.mp r'] at e';cases e'
    exact EqAt.str_bool x t0 b
   | int b =>
    rw [aL.mp r'] at e';obtain ⟨t',rfl⟩:=e'
    exact EqAt.str_int x t0 b t'
   | str b =>
    rw [bN.mp r'] at e';obtain ⟨t',rfl⟩:=e'
    exact EqAt.str_str x t0 b t'
   | tup es =>
    obtain ⟨b,us,rfl,q',rr'⟩:=aO.mp r'
    cases e'
    obtain ⟨its2,gP,t2,_⟩:=I.tuple q'
    exact EqAt.str_tuple x t0 t2 hu0
   | lst es =>
    obtain ⟨b,us,rfl,q',rr'⟩:=aN.mp r'
    cases e'
    obtain ⟨its2,gP,t3,_⟩:=I.list q'
    have t2:=t3.isList
    exact EqAt.str_list x t0 t2 hu0
   | kh c m =>
    simp only [cT] at hd';exact absurd hu (by omega)
  | tup ds =>
   obtain ⟨a,vs,rfl,q,rr⟩:=aO.mp r
   cases e
   obtain ⟨its,av,t,_⟩:=I.tuple q
   cases d' with
   | non =>
    rw [bM.mp r'] at e';cases e'
    exact EqAt.tuple_none t hu0
   | bl b =>
    rw [bw.mp r'] at e';cases e'
    exact EqAt.tuple_bool b t hu0
   | int b =>
    rw [aL.mp r'] at e';obtain ⟨t',rfl⟩:=e'
    exact EqAt.tuple_int b t' t hu0
   | str b =>
    rw [bN.mp r'] at e';obtain ⟨t',rfl⟩:=e'
    exact EqAt.tuple_str b t' t hu0
   | tup es =>
    obtain ⟨b,us,rfl,q',rr'⟩:=aO.mp r'
    cases e'
    obtain ⟨its2,gP,t2,_⟩:=I.tuple q'
    simp only [cT] at hd;omega
   | lst es =>
    obtain ⟨b,us,rfl,q',rr'⟩:=aN.mp r'
    cases e'
    obtain ⟨its2,gP,t3,_⟩:=I.list q'
    have t2:=t3.isList
    exact EqAt.tuple_list t t2 hu0
   | kh c m =>
    simp only [cT] at hd';exact absurd hu (by omega)
  | lst ds =>
   obtain ⟨a,vs,rfl,q,rr⟩:=aN.mp r
   cases e
   obtain ⟨its,av,t1,_⟩:=I.list q
   have t:=t1.isList
   cases d' with
   | non =>
    rw [bM.mp r'] at e';cases e'
    exact EqAt.list_none t hu0
   | bl b =>
    rw [bw.mp r'] at e';cases e'
    exact EqAt.list_bool b t hu0
   | int b =>
    rw [aL.mp r'] at e';obtain ⟨t',rfl⟩:=e'
    exact EqAt.list_int b t' t hu0
   | str b =>
    rw [bN.mp r'] at e';obtain ⟨t',rfl⟩:=e'
    exact EqAt.list_str b t' t hu0
   | tup es =>
    obtain ⟨b,us,rfl,q',rr'⟩:=aO.mp r'
    cases e'
    obtain ⟨its2,gP,t2,_⟩:=I.tuple q'
    exact EqAt.list_tuple t t2 hu0
   | lst es =>
    obtain ⟨b,us,rfl,q',rr'⟩:=aN.mp r'
    cases e'
    obtain ⟨its2,gP,t3,_⟩:=I.list q'
    have t2:=t3.isList
    simp only [cT] at hd;omega
   | kh c m =>
    simp only [cT] at hd';exact absurd hu (by omega)
  | kh c m =>
   simp only [cT] at hd;exact absurd hu (by omega)
 | succ m ih =>
  intro d d' v v' u u' A hd hd' hu r r' e e'
  have hu0:A.units < cLine:=by omega
  cases d with
  | non =>
   rw [bM.mp r] at e;cases e
   cases d' with
   | non =>
    rw [bM.mp r'] at e';cases e'
    exact EqAt.same _
   | bl b =>
    rw [bw.mp r'] at e';cases e'
    exact EqAt.none_bool b
   | int b =>
    rw [aL.mp r'] at e';obtain ⟨t',rfl⟩:=e'
    exact EqAt.none_int b t'
   | str b =>
    rw [bN.mp r'] at e';obtain ⟨t',rfl⟩:=e'
    exact EqAt.none_str b t'
   | tup es =>
    obtain ⟨b,us,rfl,q',rr'⟩:=aO.mp r'
    cases e'
    obtain ⟨its2,gP,t2,_⟩:=I.tuple q'
    exact EqAt.none_tuple t2 hu0
   | lst es =>
    obtain ⟨b,us,rfl,q',rr'⟩:=aN.mp r'
    cases e'
    obtain ⟨its2,gP,t3,_⟩:=I.list q'
    have t2:=t3.isList
    exact EqAt.none_list t2 hu0
   | kh c m =>
    simp only [cT] at hd';exact absurd hu (by omega)
  | bl x =>
   rw [bw.mp r] at e;cases e
   cases d' with
   | non =>
    rw [bM.mp r'] at e';cases e'
    exact EqAt.bool_none x
   | bl b =>
    rw [bw.mp r'] at e';cases e'
    exact EqAt.bool_bool x b
   | int b =>
    rw [aL.mp r'] at e';obtain ⟨t',rfl⟩:=e'
    exact EqAt.bool_int x b t'
   | str b =>
    rw [bN.mp r'] at e';obtain ⟨t',rfl⟩:=e'
    exact EqAt.bool_str x b t'
   | tup es =>
    obtain ⟨b,us,rfl,q',rr'⟩:=aO.mp r'
    cases e'
    obtain ⟨its2,gP,t2,_⟩:=I.tuple q'
    exact EqAt.bool_tuple x t2 hu0
   | lst es =>
    obtain ⟨b,us,rfl,q',rr'⟩:=aN.mp r'
    cases e'
    obtain ⟨its2,gP,t3,_⟩:=I.list q'
    have t2:=t3.isList
    exact EqAt.bool_list x t2 hu0
   | kh c m =>
    simp only [cT] at hd';exact absurd hu (by omega)
  | int x =>
   rw [aL.mp r] at e;obtain ⟨t0,rfl⟩:=e
   cases d' with
   | non =>
    rw [bM.mp r'] at e';cases e'
    exact EqAt.int_none x t0
   | bl b =>
    rw [bw.mp r'] at e';cases e'
    exact EqAt.int_bool x t0 b
   | int b =>
    rw [aL.mp r'] at e';obtain ⟨t',rfl⟩:=e'
    exact EqAt.int_int x t0 b t'
   | str b =>
    rw [bN.mp r'] at e';obtain ⟨t',rfl⟩:=e'
    exact EqAt.int_str x t0 b t'
   | tup es =>
    obtain ⟨b,us,rfl,q',rr'⟩:=aO.mp r'
    cases e'
    obtain ⟨its2,gP,t2,_⟩:=I.tuple q'
    exact EqAt.int_tuple x t0 t2 hu0
   | lst es =>
    obtain ⟨b,us,rfl,q',rr'⟩:=aN.mp r'
    cases e'
    obtain ⟨its2,gP,t3,_⟩:=I.list q'
    have t2:=t3.isList
    exact EqAt.int_list x t0 t2 hu0
   | kh c m =>
    simp only [cT] at hd';exact absurd hu (by omega)
  | str x =>
   rw [bN.mp r] at e;obtain ⟨t0,rfl⟩:=e
   cases d' with
   | non =>
    rw [bM.mp r'] at e';cases e'
    exact EqAt.str_none x t0
   | bl b =>
    rw [bw.mp r'] at e';cases e'
    exact EqAt.str_bool x t0 b
   | int b =>
    rw [aL.mp r'] at e';obtain ⟨t',rfl⟩:=e'
    exact EqAt.str_int x t0 b t'
   | str b =>
    rw [bN.mp r'] at e';obtain ⟨t',rfl⟩:=e'
    exact EqAt.str_str x t0 b t'
   | tup es =>
    obtain ⟨b,us,rfl,q',rr'⟩:=aO.mp r'
    cases e'
    obtain ⟨its2,gP,t2,_⟩:=I.tuple q'
    exact EqAt.str_tuple x t0 t2 hu0
   | lst es =>
    obtain ⟨b,us,rfl,q',rr'⟩:=aN.mp r'
    cases e'
    obtain ⟨its2,gP,t3,_⟩:=I.list q'
    have t2:=t3.isList
    exact EqAt.str_list x t0 t2 hu0
   | kh c m =>
    simp only [cT] at hd';exact absurd hu (by omega)
  | tup ds =>
   obtain ⟨a,vs,rfl,q,rr⟩:=aO.mp r
   cases e
   obtain ⟨its,av,t,_⟩:=I.tuple q
   cases d' with
   | non =>
    rw [bM.mp r'] at e';cases e'
    exact EqAt.tuple_none t hu0
   | bl b =>
    rw [bw.mp r'] at e';cases e'
    exact EqAt.tuple_bool b t hu0
   | int b =>
    rw [aL.mp r'] at e';obtain ⟨t',rfl⟩:=e'
    exact EqAt.tuple_int b t' t hu0
   | str b =>
    rw [bN.mp r'] at e';obtain ⟨t',rfl⟩:=e'
    exact EqAt.tuple_str b t' t hu0
   | tup es =>
    obtain ⟨b,us,rfl,q',rr'⟩:=aO.mp r'
    cases e'
    obtain ⟨its2,gP,t2,_⟩:=I.tuple q'
    have hn:eU ds<=m:=by simp only [cT] at hd;omega
    have hn':eU es<=m:=by simp only [cT] at hd';omega
    by_cases hab:a=b
    ·subst hab
     rw [Rep.inj I (by omega) r r',uQ]
     exact EqAt.same _
    have items:=yR I ih hn hn' (show A.in1.units + m < cLine by show A.units + 1 + m < _;omega) rr rr' av gP
    have h:=RcAt.tuples (A:=A) t t2 hu0 items
    rw [List.size_toArray,List.size_toArray,<- av.length,<- gP.length,<- rr.length,<- rr'.length,cZ] at h
    exact EqAt.of_refs hab h
   | lst es =>
    obtain ⟨b,us,rfl,q',rr'⟩:=aN.mp r'
    cases e'
    obtain ⟨its2,gP,t3,_⟩:=I.list q'
    have t2:=t3.isList
    exact EqAt.tuple_list t t2 hu0
   | kh c m =>
    simp only [cT] at hd';exact absurd hu (by omega)
  | lst ds =>
   obtain ⟨a,vs,rfl,q,rr⟩:=aN.mp r
   cases e
   obtain ⟨its,av,t1,_⟩:=I.list q
   have t:=t1.isList
   cases d' with
   | non =>
    rw [bM.mp r'] at e';cases e'
    exact EqAt.list_none t hu0
   | bl b =>
    rw [bw.mp r'] at e';cases e'
    exact EqAt.list_bool b t hu0
   | int b =>
    rw [aL.mp r'] at e';obtain ⟨t',rfl⟩:=e'
    exact EqAt.list_int b t' t hu0
   | str b =>
    rw [bN.mp r'] at e';obtain ⟨t',rfl⟩:=e'
    exact EqAt.list_str b t' t hu0
   | tup es =>
    obtain ⟨b,us,rfl,q',rr'⟩:=aO.mp r'
    cases e'
    obtain ⟨its2,gP,t2,_⟩:=I.tuple q'
    exact EqAt.list_tuple t t2 hu0
   | lst es =>
    obtain ⟨b,us,rfl,q',rr'⟩:=aN.mp r'
    cases e'
    obtain ⟨its2,gP,t3,_⟩:=I.list q'
    have t2:=t3.isList
    have hn:eU ds<=m:=by simp only [cT] at hd;omega
    have hn':eU es<=m:=by simp only [cT] at hd';omega
    by_cases hab:a=b
    ·subst hab
     rw [Rep.inj I (by omega) r r',uQ]
     exact EqAt.same _
    have items:=yR I ih hn hn' (show A.in1.units + m < cLine by show A.units + 1 + m < _;omega) rr rr' av gP
    by_cases hl:its.toArray.size=its2.toArray.size
    ·have h:=RcAt.lists (A:=A) t t2 hl hu0 items
     rw [List.size_toArray,<- av.length,<- rr.length] at h
     have hl':ds.length=es.length:=by rw [rr.length,rr'.length,av.length,gP.length];simpa using hl
     have e1:=cZ ds es
     rw [hl',Nat.min_self] at e1
     simp only [beq_self_eq_true,Bool.and_true] at e1
     rw [hl',e1] at h
     exact EqAt.of_refs hab h
    ·have h:=RcAt.lists_lengths (A:=A) t t2 (by simpa using hl) hu0
     have hl':ds.length≠es.length:=by rw [rr.length,rr'.length,av.length,gP.length];simpa using hl
     have e1:=cZ ds es
     rw [show (ds.length == es.length)=false by simpa using hl',Bool.and_false] at e1
     rw [show rE (.lst ds) (.lst es)=false by rw [rE,<- e1]]
     exact EqAt.of_refs hab h
   | kh c m =>
    simp only [cT] at hd';exact absurd hu (by omega)
  | kh c m =>
   simp only [cT] at hd;exact absurd hu (by omega)
end
end Vl
namespace Vl
open PySem PySem.Spec L2
section
variable {X:Cx} {pins:List (Addr×Obj)} {σ:St} {H:Hp} {s:Shared}
theorem uT (I:Inv X pins σ H s) {m:Nat} {A:Around} {ds es:List D} {vs us:List V} {its its2:List Value} (hn:eU ds<=m) (hn':eU es<=m) (hu:A.in1.units + m < cLine) (r1:bQ X.K H ds vs) (r2:bQ X.K H es us) (a1:Vals vs its) (a2:Vals us its2) :
  ∀ j (h1:j < its.toArray.size) (h2:j < its2.toArray.size),SeqAt.EqAt A.in1 s its.toArray[j] its2.toArray[j] (rE (ds.getD j .non) (es.getD j .non)) :=
 yR I (fun a b c d e f g=>WK I m a b c d e f g) hn hn' hu r1 r2 a1 a2
open SeqAt in
theorem aer (I:Inv X pins σ H s) {n:Nat} {d d':D} {v v':V} {u u':Value} {A:Around} (hd:cT d<=n) (hd':cT d'<=n) (hu:A.units + n < cLine) (r:Rep X.K H d v) (r':Rep X.K H d' v') (e:RelV v u) (e':RelV v' u'):RcAt A s u u' (rE d d'):=by
 have hu0:A.units < cLine:=by omega
 cases d with
 | non =>
  rw [bM.mp r] at e;cases e
  cases d' with
  | non =>
   rw [bM.mp r'] at e';cases e'
   exact RcAt.none_none
  | bl b =>
   rw [bw.mp r'] at e';cases e'
   exact RcAt.none_bool b
  | int b =>
   rw [aL.mp r'] at e';obtain ⟨t',rfl⟩:=e'
   exact RcAt.none_int b t'
  | str b =>
   rw [bN.mp r'] at e';obtain ⟨t',rfl⟩:=e'
   exact RcAt.none_str b t'
  | tup es =>
   obtain ⟨b,us,rfl,q',rr'⟩:=aO.mp r'
   cases e'
   obtain ⟨its2,gP,t2,_⟩:=I.tuple q'
   exact RcAt.none_tuple t2 hu0
  | lst es =>
   obtain ⟨b,us,rfl,q',rr'⟩:=aN.mp r'
   cases e'
   obtain ⟨its2,gP,t3,_⟩:=I.list q'
   have t2:=t3.isList
   exact RcAt.none_list t2 hu0
  | kh c m =>
   simp only [cT] at hd';exact absurd hu (by omega)
 | bl x =>
  rw [bw.mp r] at e;cases e
  cases d' with
  | non =>
   rw [bM.mp r'] at e';cases e'
   exact RcAt.bool_none x
  | bl b =>
   rw [bw.mp r'] at e';cases e'
   exact RcAt.bool_bool x b
  | int b =>
   rw [aL.mp r'] at e';obtain ⟨t',rfl⟩:=e'
   exact RcAt.bool_int x b t'
  | str b =>
   rw [bN.mp r'] at e';obtain ⟨t',rfl⟩:=e'
   exact RcAt.bool_str x b t'
  | tup es =>
   obtain ⟨b,us,rfl,q',rr'⟩:=aO.mp r'
   cases e'
   obtain ⟨its2,gP,t2,_⟩:=I.tuple q'
   exact RcAt.bool_tuple x t2 hu0
  | lst es =>
   obtain ⟨b,us,rfl,q',rr'⟩:=aN.mp r'
   cases e'
   obtain ⟨its2,gP,t3,_⟩:=I.list q'
   have t2:=t3.isList
   exact RcAt.bool_list x t2 hu0
  | kh c m =>
   simp only [cT] at hd';exact absurd hu (by omega)
 | int x =>
  rw [aL.mp r] at e;obtain ⟨t0,rfl⟩:=e
  cases d' with
  | non =>
   rw [bM.mp r'] at e';cases e'
   exact RcAt.int_none x t0
  | bl b =>
   rw [bw.mp r'] at e';cases e'
   exact RcAt.int_bool x t0 b
  | int b =>
   rw [aL.mp r'] at e';obtain ⟨t',rfl⟩:=e'
   exact RcAt.int_int x t0 b t'
  | str b =>
   rw [bN.mp r'] at e';obtain ⟨t',rfl⟩:=e'
   exact RcAt.int_str x t0 b t'
  | tup es =>
   obtain ⟨b,us,rfl,q',rr'⟩:=aO.mp r'
   cases e'
   obtain ⟨its2,gP,t2,_⟩:=I.tuple q'
   exact RcAt.int_tuple x t0 t2 hu0
  | lst es =>
   obtain ⟨b,us,rfl,q',rr'⟩:=aN.mp r'
   cases e'
   obtain ⟨its2,gP,t3,_⟩:=I.list q'
   have t2:=t3.isList
   exact RcAt.int_list x t0 t2 hu0
  | kh c m =>
   simp only [cT] at hd';exact absurd hu (by omega)
 | str x =>
  rw [bN.mp r] at e;obtain ⟨t0,rfl⟩:=e
  cases d' with
  | non =>
   rw [bM.mp r'] at e';cases e'
   exact RcAt.str_none x t0
  | bl b =>
   rw [bw.mp r'] at e';cases e'
   exact RcAt.str_bool x t0 b
  | int b =>
   rw [aL.mp r'] at e';obtain ⟨t',rfl⟩:=e'
   exact RcAt.str_int x t0 b t'
  | str b =>
   rw [bN.mp r'] at e';obtain ⟨t',rfl⟩:=e'
   exact RcAt.str_str x t0 b t'
  | tup es =>
   obtain ⟨b,us,rfl,q',rr'⟩:=aO.mp r'
   cases e'
   obtain ⟨its2,gP,t2,_⟩:=I.tuple q'
   exact RcAt.str_tuple x t0 t2 hu0
  | lst es =>
   obtain ⟨b,us,rfl,q',rr'⟩:=aN.mp r'
   cases e'
   obtain ⟨its2,gP,t3,_⟩:=I.list q'
   have t2:=t3.isList
   exact RcAt.str_list x t0 t2 hu0
  | kh c m =>
   simp only [cT] at hd';exact absurd hu (by omega)
 | tup ds =>
  obtain ⟨a,vs,rfl,q,rr⟩:=aO.mp r
  cases e
  obtain ⟨its,av,t,_⟩:=I.tuple q
  cases d' with
  | non =>
   rw [bM.mp r'] at e';cases e'
   exact RcAt.tuple_none t hu0
  | bl b =>
   rw [bw.mp r'] at e';cases e'
   exact RcAt.tuple_bool b t hu0
  | int b =>
   rw [aL.mp r'] at e';obtain ⟨t',rfl⟩:=e'
   exact RcAt.tuple_int b t' t hu0
  | str b =>
   rw [bN.mp r'] at e';obtain ⟨t',rfl⟩:=e'
   exact RcAt.tuple_str b t' t hu0
  | tup es =>
   obtain ⟨b,us,rfl,q',rr'⟩:=aO.mp r'
   cases e'
   obtain ⟨its2,gP,t2,_⟩:=I.tuple q'
   obtain ⟨m,rfl⟩:∃ m,n=m + 1:=⟨n - 1,by simp only [cT] at hd;omega⟩
   have hn:eU ds<=m:=by simp only [cT] at hd;omega
   have hn':eU es<=m:=by simp only [cT] at hd';omega
   have items:=uT I hn hn' (show A.in1.units + m < cLine by show A.units + 1 + m < _;omega) rr rr' av gP
   have h:=RcAt.tuples (A:=A) t t2 hu0 items
   rw [List.size_toArray,List.size_toArray,<- av.length,<- gP.length,<- rr.length,<- rr'.length,cZ] at h
   exact h
  | lst es =>
   obtain ⟨b,us,rfl,q',rr'⟩:=aN.mp r'
   cases e'
   obtain ⟨its2,gP,t3,_⟩:=I.list q'
   have t2:=t3.isList
   exact RcAt.tuple_list t t2 hu0
  | kh c m =>
   simp only [cT] at hd';exact absurd hu (by omega)
 | lst ds =>
  obtain ⟨a,vs,rfl,q,rr⟩:=aN.mp r
  cases e
  obtain ⟨its,av,t1,_⟩:=I.list q
  have t:=t1.isList
  cases d' with
  | non =>
   rw [bM.mp r'] at e';cases e'
   exact RcAt.list_none t hu0
  | bl b =>
   rw [bw.mp r'] at e';cases e'
   exact RcAt.list_bool b t hu0
  | int b =>
   rw [aL.mp r'] at e';obtain ⟨t',rfl⟩:=e'
   exact RcAt.list_int b t' t hu0
  | str b =>
   rw [bN.mp r'] at e';obtain ⟨t',rfl⟩:=e'
   exact RcAt.list_str b t' t hu0
  | tup es =>
   obtain ⟨b,us,rfl,q',rr'⟩:=aO.mp r'
   cases e'
   obtain ⟨its2,gP,t2,_⟩:=I.tuple q'
   exact RcAt.list_tuple t t2 hu0
  | lst es =>
   obtain ⟨b,us,rfl,q',rr'⟩:=aN.mp r'
   cases e'
   obtain ⟨its2,gP,t3,_⟩:=I.list q'
   have t2:=t3.isList
   obtain ⟨m,rfl⟩:∃ m,n=m + 1:=⟨n - 1,by simp only [cT] at hd;omega⟩
   have hn:eU ds<=m:=by simp only [cT] at hd;omega
   have hn':eU es<=m:=by simp only [cT] at hd';omega
   have items:=uT I hn hn' (show A.in1.units + m < cLine by show A.units + 1 + m < _;omega) rr rr' av gP
   by_cases hl:its.toArray.size=its2.toArray.size
   ·have h:=RcAt.lists (A:=A) t t2 hl hu0 items
    rw [List.size_toArray,<- av.length,<- rr.length] at h
    have hl':ds.length=es.length:=by rw [rr.length,rr'.length,av.length,gP.length];simpa using hl
    have e1:=cZ ds es
    rw [hl',Nat.min_self] at e1
    simp only [beq_self_eq_true,Bool.and_true] at e1
    rw [hl',e1] at h
    exact h
   ·have h:=RcAt.lists_lengths (A:=A) t t2 (by simpa using hl) hu0
    have hl':ds.length≠es.length:=by rw [rr.length,rr'.length,av.length,gP.length];simpa using hl
    have e1:=cZ ds es
    rw [show (ds.length == es.length)=false by simpa using hl',Bool.and_false] at e1
    rw [show rE (.lst ds) (.lst es)=false by rw [rE,<- e1]]
    exact h
  | kh c m =>
   simp only [cT] at hd';exact absurd hu (by omega)
 | kh c m =>
  simp only [cT] at hd;exact absurd hu (by omega)
open SeqAt in
theorem WL (I:Inv X pins σ H s) {n:Nat} {d d':D} {v v':V} {u u':Value} {A:Around} (hd:cT d<=n) (hd':cT d'<=n) (hu:A.units + n < cLine) (r:Rep X.K H d v) (r':Rep X.K H d' v') (e:RelV v u) (e':RelV v' u'):RcNeAt A s u u' (!rE d d'):=by
 have hu0:A.units < cLine:=by omega
 cases d with
 | non =>
  rw [bM.mp r] at e;cases e
  cases d' with
  | non =>
   rw [bM.mp r'] at e';cases e'
   exact RcNeAt.none_none
  | bl b =>
   rw [bw.mp r'] at e';cases e'
   exact RcNeAt.none_bool b
  | int b =>
   rw [aL.mp r'] at e';obtain ⟨t',rfl⟩:=e'
   exact RcNeAt.none_int b t'
  | str b =>
   rw [bN.mp r'] at e';obtain ⟨t',rfl⟩:=e'
   exact RcNeAt.none_str b t'
  | tup es =>
   obtain ⟨b,us,rfl,q',rr'⟩:=aO.mp r'
   cases e'
   obtain ⟨its2,gP,t2,_⟩:=I.tuple q'
   exact RcNeAt.none_tuple t2 hu0
  | lst es =>
   obtain ⟨b,us,rfl,q',rr'⟩:=aN.mp r'
   cases e'
   obtain ⟨its2,gP,t3,_⟩:=I.list q'
   have t2:=t3.isList
   exact RcNeAt.none_list t2 hu0
  | kh c m =>
   simp only [cT] at hd';exact absurd hu (by omega)
 | bl x =>
  rw [bw.mp r] at e;cases e
  cases d' with
  | non =>
   rw [bM.mp r'] at e';cases e'
   exact RcNeAt.bool_none x
  | bl b =>
   rw [bw.mp r'] at e';cases e'
   exact RcNeAt.bool_bool x b
  | int b =>
   rw [aL.mp r'] at e';obtain ⟨t',rfl⟩:=e'
   exact RcNeAt.bool_int x b t'
  | str b =>
   rw [bN.mp r'] at e';obtain ⟨t',rfl⟩:=e'
   exact RcNeAt.bool_str x b t'
  | tup es =>
   obtain ⟨b,us,rfl,q',rr'⟩:=aO.mp r'
   cases e'
   obtain ⟨its2,gP,t2,_⟩:=I.tuple q'
   exact RcNeAt.bool_tuple x t2 hu0
  | lst es =>
   obtain ⟨b,us,rfl,q',rr'⟩:=aN.mp r'
   cases e'
   obtain ⟨its2,gP,t3,_⟩:=I.list q'
   have t2:=t3.isList
   exact RcNeAt.bool_list x t2 hu0
  | kh c m =>
   simp only [cT] at hd';exact absurd hu (by omega)
 | int x =>
  rw [aL.mp r] at e;obtain ⟨t0,rfl⟩:=e
  cases d' with
  | non =>
   rw [bM.mp r'] at e';cases e'
   exact RcNeAt.int_none x t0
  | bl b =>
   rw [bw.mp r'] at e';cases e'
   exact RcNeAt.int_bool x t0 b
  | int b =>
   rw [aL.mp r'] at e';obtain ⟨t',rfl⟩:=e'
   exact RcNeAt.int_int x t0 b t'
  | str b =>
   rw [bN.mp r'] at e';obtain ⟨t',rfl⟩:=e'
   exact RcNeAt.int_str x t0 b t'
  | tup es =>
   obtain ⟨b,us,rfl,q',rr'⟩:=aO.mp r'
   cases e'
   obtain ⟨its2,gP,t2,_⟩:=I.tuple q'
   exact RcNeAt.int_tuple x t0 t2 hu0
  | lst es =>
   obtain ⟨b,us,rfl,q',rr'⟩:=aN.mp r'
   cases e'
   obtain ⟨its2,gP,t3,_⟩:=I.list q'
   have t2:=t3.isList
   exact RcNeAt.int_list x t0 t2 hu0
  | kh c m =>
   simp only [cT] at hd';exact absurd hu (by omega)
 | str x =>
  rw [bN.mp r] at e;obtain ⟨t0,rfl⟩:=e
  cases d' with
  | non =>
   rw [bM.mp r'] at e';cases e'
   exact RcNeAt.str_none x t0
  | bl b =>
   rw [bw.mp r'] at e';cases e'
   exact RcNeAt.str_bool x t0 b
  | int b =>
   rw [aL.mp r'] at e';obtain ⟨t',rfl⟩:=e'
   exact RcNeAt.str_int x t0 b t'
  | str b =>
   rw [bN.mp r'] at e';obtain ⟨t',rfl⟩:=e'
   exact RcNeAt.str_str x t0 b t'
  | tup es =>
   obtain ⟨b,us,rfl,q',rr'⟩:=aO.mp r'
   cases e'
   obtain ⟨its2,gP,t2,_⟩:=I.tuple q'
   exact RcNeAt.str_tuple x t0 t2 hu0
  | lst es =>
   obtain ⟨b,us,rfl,q',rr'⟩:=aN.mp r'
   cases e'
   obtain ⟨its2,gP,t3,_⟩:=I.list q'
   have t2:=t3.isList
   exact RcNeAt.str_list x t0 t2 hu0
  | kh c m =>
   simp only [cT] at hd';exact absurd hu (by omega)
 | tup ds =>
  obtain ⟨a,vs,rfl,q,rr⟩:=aO.mp r
  cases e
  obtain ⟨its,av,t,_⟩:=I.tuple q
  cases d' with
  | non =>
   rw [bM.mp r'] at e';cases e'
   exact RcNeAt.tuple_none t hu0
  | bl b =>
   rw [bw.mp r'] at e';cases e'
   exact RcNeAt.tuple_bool b t hu0
  | int b =>
   rw [aL.mp r'] at e';obtain ⟨t',rfl⟩:=e'
   exact RcNeAt.tuple_int b t' t hu0
  | str b =>
   rw [bN.mp r'] at e';obtain ⟨t',rfl⟩:=e'
   exact RcNeAt.tuple_str b t' t hu0
  | tup es =>
   obtain ⟨b,us,rfl,q',rr'⟩:=aO.mp r'
   cases e'
   obtain ⟨its2,gP,t2,_⟩:=I.tuple q'
   obtain ⟨m,rfl⟩:∃ m,n=m + 1:=⟨n - 1,by simp only [cT] at hd;omega⟩
   have hn:eU ds<=m:=by simp only [cT] at hd;omega
   have hn':eU es<=m:=by simp only [cT] at hd';omega
   have items:=uT I hn hn' (show A.in1.units + m < cLine by show A.units + 1 + m < _;omega) rr rr' av gP
   have h:=RcNeAt.tuples (A:=A) t t2 hu0 items
   rw [List.size_toArray,List.size_toArray,<- av.length,<- gP.length,<- rr.length,<- rr'.length,cZ] at h
   exact h
  | lst es =>
   obtain ⟨b,us,rfl,q',rr'⟩:=aN.mp r'
   cases e'
   obtain ⟨its2,gP,t3,_⟩:=I.list q'
   have t2:=t3.isList
   exact RcNeAt.tuple_list t t2 hu0
  | kh c m =>
   simp only [cT] at hd';exact absurd hu (by omega)
 | lst ds =>
  obtain ⟨a,vs,rfl,q,rr⟩:=aN.mp r
  cases e
  obtain ⟨its,av,t1,_⟩:=I.list q
  have t:=t1.isList
  cases d' with
  | non =>
   rw [bM.mp r'] at e';cases e'
   exact RcNeAt.list_none t hu0
  | bl b =>
   rw [bw.mp r'] at e';cases e'
   exact RcNeAt.list_bool b t hu0
  | int b =>
   rw [aL.mp r'] at e';obtain ⟨t',rfl⟩:=e'
   exact RcNeAt.list_int b t' t hu0
  | str b =>
   rw [bN.mp r'] at e';obtain ⟨t',rfl⟩:=e'
   exact RcNeAt.list_str b t' t hu0
  | tup es =>
   obtain ⟨b,us,rfl,q',rr'⟩:=aO.mp r'
   cases e'
   obtain ⟨its2,gP,t2,_⟩:=I.tuple q'
   exact RcNeAt.list_tuple t t2 hu0
  | lst es =>
   obtain ⟨b,us,rfl,q',rr'⟩:=aN.mp r'
   cases e'
   obtain ⟨its2,gP,t3,_⟩:=I.list q'
   have t2:=t3.isList
   obtain ⟨m,rfl⟩:∃ m,n=m + 1:=⟨n - 1,by simp only [cT] at hd;omega⟩
   have hn:eU ds<=m:=by simp only [cT] at hd;omega
   have hn':eU es<=m:=by simp only [cT] at hd';omega
   have items:=uT I hn hn' (show A.in1.units + m < cLine by show A.units + 1 + m < _;omega) rr rr' av gP
   by_cases hl:its.toArray.size=its2.toArray.size
   ·have h:=RcNeAt.lists (A:=A) t t2 hl hu0 items
    rw [List.size_toArray,<- av.length,<- rr.length] at h
    have hl':ds.length=es.length:=by rw [rr.length,rr'.length,av.length,gP.length];simpa using hl
    have e1:=cZ ds es
    rw [hl',Nat.min_self] at e1
    simp only [beq_self_eq_true,Bool.and_true] at e1
    rw [hl',e1] at h
    exact h
   ·have h:=RcNeAt.lists_lengths (A:=A) t t2 (by simpa using hl) hu0
    have hl':ds.length≠es.length:=by rw [rr.length,rr'.length,av.length,gP.length];simpa using hl
    have e1:=cZ ds es
    rw [show (ds.length == es.length)=false by simpa using hl',Bool.and_false] at e1
    rw [show rE (.lst ds) (.lst es)=false by rw [rE,<- e1]]
    exact h
  | kh c m =>
   simp only [cT] at hd';exact absurd hu (by omega)
 | kh c m =>
  simp only [cT] at hd;exact absurd hu (by omega)
end
end Vl
namespace Vl
open PySem PySem.Spec L2
noncomputable def sJ (W:Wi) (σ:St) (G H:Hp) (r:Rs Bool) (Q:Bool->Hp->Prop):Prop :=
 match r with
 | .ok b=>∀ H' G',Ext G H G' H'->Q b H'
 | .ex c n=>∀ H' G',Ext G H G' H'->W c n σ H'
 | .no=>False
noncomputable def tT (K:PySem.W.Frag) (B:Hp×Hp) (W:Wi) (f:aJ->Rs Bool):TT:=fun σ H Q=>∃ ρ G,SR K B σ H ρ G/\sJ W σ G H (f ρ) Q
noncomputable def ST (X:Cx) (B:Hp×Hp) (W:Wi) (e:Expr) (f:aJ->Rs Bool):Prop:=PT X e (tT X.K B W f)
noncomputable def SW (X:Cx) (B:Hp×Hp) (W:Wi) (e:Expr) (f:aJ->Rs Bool):Prop:=PW X e (tT X.K B W f)
noncomputable def acX (K:PySem.W.Frag) (W:Wi) (σ:St) (G H:Hp) (r:Rs (List D)) (Q:List V->Hp->Prop):Prop :=
 match r with
 | .ok ds=>∀ vs H' G',Ext G H G' H'->bQ K G' ds vs->Q vs H'
 | .ex c n=>∀ H' G',Ext G H G' H'->W c n σ H'
 | .no=>False
noncomputable def tAF (K:PySem.W.Frag) (B:Hp×Hp) (W:Wi) (f:aJ->Rs (List D)):TA:=fun σ H Q=>∃ ρ G,SR K B σ H ρ G/\acX K W σ G H (f ρ) Q
noncomputable def SA (X:Cx) (B:Hp×Hp) (W:Wi) (es:List Expr) (f:aJ->Rs (List D)):Prop:=PA X es (tAF X.K B W f)
theorem PW.imp {X:Cx} {e:Expr} {t t':TT} (h:PW X e t) (i:∀ σ H Q,t' σ H Q->t σ H Q):PW X e t':=fun wh pins s σ H Q I q=>h wh pins s σ H Q I (i σ H Q q)
noncomputable def Te:D->Rs Bool
 | .bl b=>.ok b
 | _=>.no
noncomputable def fT (f:aJ->Rs D):aJ->Rs Bool:=fun ρ=>(f ρ).bind Te
noncomputable def uU (a b:aJ->Rs Bool):aJ->Rs Bool:=fun ρ=>(a ρ).bind fun x=>if x=true then b ρ else .ok false
noncomputable def VR (a b:aJ->Rs Bool):aJ->Rs Bool:=fun ρ=>(a ρ).bind fun x=>if x=true then .ok true else b ρ
noncomputable def uV (a:aJ->Rs Bool):aJ->Rs Bool:=fun ρ=>(a ρ).bind fun x=>.ok (!x)
noncomputable def aj (a:aJ->Rs D) (r:aJ->Rs (List D)):aJ->Rs (List D):=fun ρ=>(a ρ).bind fun x=>(r ρ).bind fun xs=>.ok (x::xs)
noncomputable def aQ:aJ->Rs (List D):=fun _=>.ok []
noncomputable def fA (a:aJ->Rs (List D)) (g:List D->Rs D):aJ->Rs D:=fun ρ=>(a ρ).bind g
section
variable {X:Cx} {K:PySem.W.Frag} {B:Hp×Hp} {W:Wi} {σ:St} {G H:Hp} {ρ:aJ}
theorem sJ.ext {r:Rs Bool} {Q:Bool->Hp->Prop} {G' H':Hp} (e:Ext G H G' H') (h:sJ W σ G H r Q):sJ W σ G' H' r Q:=by
 cases r with
 | ok d=>exact fun VN G'' e'=>h VN G'' (e.trans e')
 | ex c n=>exact fun VN G'' e'=>h VN G'' (e.trans e')
 | no=>exact h
theorem acY {f:aJ->Rs D} {Q:Bool->Hp->Prop} (h:tT K B W (fT f) σ H Q):tF K B W f σ H fun x H1=>∃ c,x=.bl c/\Q c H1:=by
 obtain ⟨ρ,G,s,p⟩:=h
 refine ⟨ρ,G,s,?_⟩
 unfold fT at p
 cases e:f ρ with
 | ok d =>
  rw [e] at p
  cases d with
  | bl b=>exact fun v H' G' e r=>⟨b,bw.mp r,p H' G' e⟩
  | _=>exact p.elim
 | ex c n=>rw [e] at p;exact p
 | no=>rw [e] at p;exact p
theorem pP {e:Expr} {f:aJ->Rs D} (h:SE X B W e f) (he:∀ whole,isTrue e X.env whole=(do let v <- whole;standAt e.pos;holding [v] (truthy v)):=by intro _;rfl):ST X B W e (fT f) :=
 PT.imp (adI h he) fun _ _ _ h=>acY h
theorem yS {a b:Expr} {op:CmpOp} {pos:Pos} {r:R2} {g:D->D->Rs D} {fa fb:aJ->Rs D} (ho:rW X (compareOp op) r) (hg:VP X.K r g) (ha:SE X B W a fa) (hb:SE X B W b fb) (hm:behindInMarks op b=false) :
  ST X B W (.Compare a [op] [b] pos) (fT (bD g fa fb)):=by
 refine PT.imp (aaS ho ha hb hm) fun σ H Q h=>?_
 exact GX hg (acY h)
theorem GZ {a b:Expr} {op:CmpOp} {pos:Pos} {r:R2} {g:D->D->Rs D} {fa fb:aJ->Rs D} (ho:rW X (compareOp op) r) (hg:VP X.K r g) (ha:SE X B W a fa) (hb:SE X B W b fb) (hm:behindInMarks op b=false) :
  SE X B W (.Compare a [op] [b] pos) (bD g fa fb):=PE.imp (aaR ho ha hb hm) fun _ _ _ h=>GX hg h
theorem QS {a:Expr} {pos:Pos} {fa:aJ->Rs Bool} (ha:ST X B W a fa):SW X B W (.BoolOp .And [a] pos) fa:=aaI ha
theorem Ol {a:Expr} {pos:Pos} {fa:aJ->Rs Bool} (ha:ST X B W a fa):SW X B W (.BoolOp .Or [a] pos) fa:=adJ ha
theorem WM {a b:Expr} {rest:List Expr} {pos:Pos} {fa fb:aJ->Rs Bool} (ha:ST X B W a fa) (hb:SW X B W (.BoolOp .And (b::rest) pos) fb):SW X B W (.BoolOp .And (a::b::rest) pos) (uU fa fb):=by
 refine PW.imp (adK ha hb) fun σ H Q ⟨ρ,G,s,p⟩=>⟨ρ,G,s,?_⟩
 unfold uU at p
 cases e:fa ρ with
 | ok x =>
  rw [e] at p
  intro H' G' ee
  cases x with
  | true=>rw [if_pos rfl];exact ⟨ρ,G',s.ext ee,sJ.ext ee (show sJ W σ G H (fb ρ) Q from p)⟩
  | false=>rw [if_neg (by simp)];exact (show sJ W σ G H (.ok false) Q from p) H' G' ee
 | ex c n=>rw [e] at p;exact p
 | no=>rw [e] at p;exact p
theorem QT {a b:Expr} {rest:List Expr} {pos:Pos} {fa fb:aJ->Rs Bool} (ha:ST X B W a fa) (hb:SW X B W (.BoolOp .Or (b::rest) pos) fb):SW X B W (.BoolOp .Or (a::b::rest) pos) (VR fa fb):=by
 refine PW.imp (agd ha hb) fun σ H Q ⟨ρ,G,s,p⟩=>⟨ρ,G,s,?_⟩
 unfold VR at p
 cases e:fa ρ with
 | ok x =>
  rw [e] at p
  intro H' G' ee
  cases x with
  | true=>rw [if_pos rfl];exact (show sJ W σ G H (.ok true) Q from p) H' G' ee
  | false=>rw [if_neg (by simp)];exact ⟨ρ,G',s.ext ee,sJ.ext ee (show sJ W σ G H (fb ρ) Q from p)⟩
 | ex c n=>rw [e] at p;exact p
 | no=>rw [e] at p;exact p
theorem WQ {e:Expr} {f:aJ->Rs Bool} (h:SW X B W e f):ST X B W e f:=PW.pt h
theorem Hf {a:Expr} {pos:Pos} {fa:aJ->Rs Bool} (ha:ST X B W a fa):ST X B W (.UnaryOp .Not a pos) (uV fa):=by
 refine PT.imp (adL ha) fun σ H Q ⟨ρ,G,s,p⟩=>⟨ρ,G,s,?_⟩
 unfold uV at p
 cases e:fa ρ with
 | ok x=>rw [e] at p;exact p
 | ex c n=>rw [e] at p;exact p
 | no=>rw [e] at p;exact p
noncomputable def iz (a b:aJ->Rs D):aJ->Rs D:=fun ρ=>(a ρ).bind fun x=>(Te x).bind fun c=>if c=true then b ρ else .ok (.bl false)
noncomputable def rY (a b:aJ->Rs D):aJ->Rs D:=fun ρ=>(a ρ).bind fun x=>(Te x).bind fun c=>if c=true then .ok (.bl true) else b ρ
noncomputable def pq (a:aJ->Rs D):aJ->Rs D:=fun ρ=>(a ρ).bind fun x=>(Te x).bind fun c=>.ok (.bl !c)
theorem pQ {op} {a:Expr} {pos:Pos} {fa:aJ->Rs D} (ha:SE X B W a fa):SE X B W (.BoolOp op [a] pos) fa:=adM ha
theorem vX {a b:Expr} {rest:List Expr} {pos:Pos} {fa fb:aJ->Rs D} (ha:SE X B W a fa) (hb:SE X B W (.BoolOp .And (b::rest) pos) fb):SE X B W (.BoolOp .And (a::b::rest) pos) (iz fa fb):=by
 refine PE.imp (adN ha hb) fun σ H Q h=>?_
 obtain ⟨ρ,G,s,p⟩:=mU (k:=fun ρ x=>(Te x).bind fun c=>if c=true then fb ρ else .ok (.bl false)) h
 refine ⟨ρ,G,s,p.mono fun v H1 ⟨ρ1,G1,d,s1,r,q⟩=>?_⟩
 cases d with
 | bl c =>
  refine ⟨c,bw.mp r,?_⟩
  cases c with
  | true=>rw [if_pos rfl];exact ⟨ρ1,G1,s1,q⟩
  | false=>rw [if_neg (by simp)];exact Post.ok s1 q (bw.mpr rfl)
 | _=>exact q.elim
theorem WR {a b:Expr} {rest:List Expr} {pos:Pos} {fa fb:aJ->Rs D} (ha:SE X B W a fa) (hb:SE X B W (.BoolOp .Or (b::rest) pos) fb):SE X B W (.BoolOp .Or (a::b::rest) pos) (rY fa fb):=by
 refine PE.imp (agh ha hb) fun σ H Q h=>?_
 obtain ⟨ρ,G,s,p⟩:=mU (k:=fun ρ x=>(Te x).bind fun c=>if c=true then .ok (.bl true) else fb ρ) h
 refine ⟨ρ,G,s,p.mono fun v H1 ⟨ρ1,G1,d,s1,r,q⟩=>?_⟩
 cases d with
 | bl c =>
  refine ⟨c,bw.mp r,?_⟩
  cases c with
  | true=>rw [if_pos rfl];exact Post.ok s1 q (bw.mpr rfl)
  | false=>rw [if_neg (by simp)];exact ⟨ρ1,G1,s1,q⟩
 | _=>exact q.elim
theorem Hg {a:Expr} {pos:Pos} {fa:aJ->Rs D} (ha:SE X B W a fa):SE X B W (.UnaryOp .Not a pos) (pq fa):=by
 refine PE.imp (adO ha) fun σ H Q h=>?_
 obtain ⟨ρ,G,s,p⟩:=mU (k:=fun ρ x=>(Te x).bind fun c=>.ok (.bl !c)) h
 refine ⟨ρ,G,s,p.mono fun v H1 ⟨ρ1,G1,d,s1,r,q⟩=>?_⟩
 cases d with
 | bl c=>exact ⟨c,bw.mp r,Post.ok s1 q (bw.mpr rfl)⟩
 | _=>exact q.elim
theorem aK:SA X B W [] aQ:=PA.imp pN fun σ H Q ⟨ρ,G,s,p⟩=>p [] H G s.Cp (bx.mpr rfl)
theorem ak {e:Expr} {es:List Expr} {fe:aJ->Rs D} {fs:aJ->Rs (List D)} (ha:SE X B W e fe) (hr:SA X B W es fs) (hs:starEach (e::es) X.env=(false,eval e X.env)::starEach es X.env:=by rfl):SA X B W (e::es) (aj fe fs):=by
 refine PA.imp (jB ha hr hs) fun σ H Q ⟨ρ,G,s,p⟩=>⟨ρ,G,s,?_⟩
 unfold aj at p
 cases e1:fe ρ with
 | ok d =>
  rw [e1] at p
  intro v H1 G1 x1 r1
  refine ⟨ρ,G1,s.ext x1,?_⟩
  have p':acX X.K W σ G H ((fs ρ).bind fun xs=>.ok (d::xs)) Q:=p
  cases e2:fs ρ with
  | ok ds =>
   rw [e2] at p'
   intro vs H2 G2 x2 r2
   exact p' (v::vs) H2 G2 (x1.trans x2) (aR.mpr ⟨v,vs,rfl,r1.mono x2.gg,r2⟩)
  | ex c n=>rw [e2] at p';exact fun H2 G2 x2=>p' H2 G2 (x1.trans x2)
  | no=>rw [e2] at p';exact p'
 | ex c n=>rw [e1] at p;exact p
 | no=>rw [e1] at p;exact p
noncomputable def sS (K:PySem.W.Frag) (r:List V->Hp->VK->Prop) (g:List D->Rs D):Prop :=
 ∀ (B:Hp×Hp) (W:Wi) (σ:St) (ρ:aJ) (G H:Hp) (ds:List D) (vs:List V) (Q:VK),SR K B σ H ρ G->bQ K G ds vs->Post K W σ G H (g ds) Q->r vs H Q
theorem QV {t:aJ->Rs (List D)} {g:List D->Rs D} {r:List V->Hp->VK->Prop} {Q:VK} (hg:sS K r g) (h:tF K B W (fA t g) σ H Q):tAF K B W t σ H fun vs H1=>r vs H1 Q:=by
 obtain ⟨ρ,G,s,p⟩:=h
 refine ⟨ρ,G,s,?_⟩
 unfold fA at p
 cases e:t ρ with
 | ok ds=>rw [e] at p;exact fun vs H1 G1 x r=>hg B W σ ρ G1 H1 ds vs Q (s.ext x) r (Post.ext x p)
 | ex c n=>rw [e] at p;exact p
 | no=>rw [e] at p;exact p
noncomputable def dI:List D->Rs D:=fun ds=>if ds.length<=1000 then .ok (.tup ds) else .no
noncomputable def pF:List D->Rs D:=fun ds=>if ds.length<=1000 then .ok (.lst ds) else .no
theorem Hh {n:Nat} (h:n<=1000):n<=sizeLine:=Nat.le_of_lt (Td h)
theorem cB {es:List Expr} {x1} {pos:Pos} {f:aJ->Rs (List D)} (h:SA X B W es f):SE X B W (.Tuple es x1 pos) (fA f dI):=by
 refine PE.imp (aee h) fun σ H Q q=>QV (r:=fun xs H1 Q=>xs.length<=sizeLine/\∀ p,H1 p=none->Q (.ref p) (gC H1 p (.tup xs))) ?_ q
 intro B W σ ρ G H ds vs Q s r p
 unfold dI at p
 by_cases hl:ds.length<=1000
 ·rw [if_pos hl] at p
  refine ⟨by rw [<- r.length];exact Hh hl,fun a ha=>?_⟩
  have x:=uP (xs:=vs) s.en.gh s.en.tp ha
  exact p _ _ _ x (aO.mpr ⟨a,vs,rfl,.of aY,r.mono x.gg⟩)
 ·rw [if_neg hl] at p;exact p.elim
theorem vY {es:List Expr} {pos:Pos} {f:aJ->Rs (List D)} (h:SA X B W es f):SE X B W (.List es pos) (fA f pF):=by
 refine PE.imp (Wt h) fun σ H Q q=>QV (r:=fun xs H1 Q=>xs.length<=sizeLine/\∀ p,H1 p=none->Q (.ref p) (gC H1 p (.lst xs))) ?_ q
 intro B W σ ρ G H ds vs Q s r p
 unfold pF at p
 by_cases hl:ds.length<=1000
 ·rw [if_pos hl] at p
  refine ⟨by rw [<- r.length];exact Hh hl,fun a ha=>?_⟩
  have x:=kE (xs:=vs) s.en.gh s.en.tp ha
  exact p _ _ _ x (aN.mpr ⟨a,vs,rfl,.of aY,r.mono x.gg⟩)
 ·rw [if_neg hl] at p;exact p.elim
noncomputable def dB:D->D->Rs D
 | .tup ds,.int i=>match Fb ds i with|some d=>.ok d|none=>.no
 | .lst ds,.int i=>match Fb ds i with|some d=>.ok d|none=>.no
 | _,_=>.no
theorem KC {ds:List D} {vs:List V} {i:Int} {d:D} (r:bQ K G ds vs) (h:Fb ds i=some d):∃ v,Fb vs i=some v/\Rep K G d v:=by
 unfold Fb at h ⊢
 rw [<- r.length]
 cases e:ixN ds.length i with
 | none=>rw [e] at h;cases h
 | some j=>rw [e] at h;exact r.get (i:=j) h
theorem aes:VP K (rIx K) dB:=by
 intro B W σ ρ G H x y v u Q s rx ry p
 cases y <;> first|(cases x <;> exact p.elim)|skip
 rename_i i
 cases x with
 | tup ds =>
  simp only [dB] at p
  obtain ⟨a,vs,rfl,q,rr⟩:=aO.mp rx
  cases e:Fb ds i with
  | none=>rw [e] at p;exact p.elim
  | some d =>
   rw [e] at p
   obtain ⟨w,e2,rw'⟩:=KC rr e
   exact .inr (.inl ⟨a,vs,i,w,rfl,aL.mp ry,Same.ji s.en.gh q,e2,Post.ok s p rw'⟩)
 | lst ds =>
  simp only [dB] at p
  obtain ⟨a,vs,rfl,q,rr⟩:=aN.mp rx
  cases e:Fb ds i with
  | none=>rw [e] at p;exact p.elim
  | some d =>
   rw [e] at p
   obtain ⟨w,e2,rw'⟩:=KC rr e
   exact .inl ⟨a,vs,i,w,rfl,aL.mp ry,s.en.gh.seq q,e2,Post.ok s p rw'⟩
 | _=>exact p.elim
theorem bF {a b:Expr} {pos:Pos} {fa fb:aJ->Rs D} (ha:SE X B W a fa) (hb:SE X B W b fb) (hs:QH b:=by intro _ _;rfl):SE X B W (.Subscript a b pos) (bD dB fa fb) :=
 PE.imp (agC aek ha hb hs) fun _ _ _ h=>GX aes h
instance (i j:Int):Decidable (Oe i j):=by unfold Oe;exact inferInstance
instance (i j:Int):Decidable (Ws i j):=by unfold Ws;exact inferInstance
noncomputable def CDB (i j:Int):Prop:=0 < j/\j < 2 ^ 200
instance (i j:Int):Decidable (CDB i j):=by unfold CDB;exact inferInstance
theorem CDB.py {i j:Int} (h:CDB i j):Builtin.divisionGoesByPylong i j=false:=by
 refine PyProof.noPylong_of_log2 ?_
 have h1:j.natAbs < 2 ^ 200:=by
  have:=h.1;have:=h.2
  omega
 have h2:j.natAbs.log2 < 200:=(Nat.log2_lt (by have:=h.1;omega)).mpr h1
 omega
theorem WT:rW X (binaryOp .FloorDiv) (rI CDB fun i j=>.int (i / j)):=opI fun i j _ _ _ _ _ hc q=>by
 have h1:=hc.1
 rw [<- Int.fdiv_eq_ediv_of_nonneg i (by omega)] at q
 exact PyProof.Rows.floordiv_int (by omega) q (.inl hc.py)
noncomputable def pD:=gI0 fun i j=>D.int (i - j)
noncomputable def tX:=gI Oe fun i j=>D.int (i * j)
noncomputable def KD:=gI CDB fun i j=>D.int (i / j)
instance (i j:Int):Decidable ((fun (_:Int) (j:Int)=>0 < j) i j):=inferInstanceAs (Decidable (0 < j))
noncomputable def rZ:=gI (fun _ j=>0 < j) fun i j=>D.int (i % j)
noncomputable def Cq:=gI Ws fun i j=>D.int (i ^ j.toNat)
variable {a b:Expr} {pos:Pos} {fa fb:aJ->Rs D}
theorem iK (ha:SE X B W a fa) (hb:SE X B W b fb):SE X B W (.BinOp a .Sub b pos) (bD pD fa fb):=yP adZ (yQ fun _ _ _=>aL.mpr rfl) ha hb
theorem yU (ha:SE X B W a fa) (hb:SE X B W b fb):SE X B W (.BinOp a .Mult b pos) (bD tX fa fb):=yP aea (QM fun _ _ _=>aL.mpr rfl) ha hb
theorem Hi (ha:SE X B W a fa) (hb:SE X B W b fb):SE X B W (.BinOp a .FloorDiv b pos) (bD KD fa fb):=yP WT (QM fun _ _ _=>aL.mpr rfl) ha hb
theorem pR (ha:SE X B W a fa) (hb:SE X B W b fb):SE X B W (.BinOp a .Mod b pos) (bD rZ fa fb):=yP aeb (QM fun _ _ _=>aL.mpr rfl) ha hb
theorem Om (ha:SE X B W a fa) (hb:SE X B W b fb):SE X B W (.BinOp a .Pow b pos) (bD Cq fa fb):=yP aec (QM fun _ _ _=>aL.mpr rfl) ha hb
noncomputable def abj:D->Rs D
 | .int i=>.ok (.int (-i))
 | _=>.no
theorem aeu (ha:SE X B W a fa):SE X B W (.UnaryOp .USub a pos) (fun ρ=>(fa ρ).bind abj):=by
 refine PE.imp (ags aed ha) fun σ H Q h=>?_
 obtain ⟨ρ,G,s,p⟩:=mU (k:=fun _=>abj) h
 refine ⟨ρ,G,s,p.mono fun v H1 ⟨ρ1,G1,d,s1,r,q⟩=>?_⟩
 cases d with
 | int i=>exact ⟨i,aL.mp r,Post.ok s1 q (aL.mpr rfl)⟩
 | _=>exact q.elim
noncomputable def iB:D->D->Rs D
 | .int i,.int j=>.ok (.int (i + j))
 | .lst a,.lst b=>if a.length + b.length<=1000000 then .ok (.lst (a++b)) else .no
 | _,_=>.no
theorem sz6 {n:Nat} (h:n<=1000000):n<=sizeLine:=Nat.le_trans h (by rw [sizeLine_eq];decide)
end
end Vl
namespace Vl
open PySem PySem.Spec L2
section
variable {X:Cx} {K:PySem.W.Frag} {B:Hp×Hp} {W:Wi} {σ:St} {G H:Hp} {ρ:aJ} {a b:Expr} {pos:Pos} {fa fb:aJ->Rs D}
noncomputable def WW (K:PySem.W.Frag):R2:=fun x y H Q=>∃ l b xs zs,x=.ref l/\y=.ref b/\pC K H l xs/\pC K H b zs/\xs.length + zs.length<=sizeLine/\∀ p,H p=none->Q (.ref p) (gC H p (.lst (xs++zs)))
open PyProof.Rows in
theorem abk:rW X (binaryOp .Add) (WW X.K):=by
 intro pins s σ H x y v u Q I rx ry h
 obtain ⟨l,b,xs,zs,rfl,rfl,hH,hB,hz,q⟩:=h
 cases rx
 cases ry
 obtain ⟨vs,r,pl,_⟩:=I.list hH
 obtain ⟨ws,r2,pl2,_⟩:=I.list hB
 obtain ⟨⟨cls,dd,data,sl⟩,ho,hc,n,hd⟩:=pl.isList
 obtain ⟨⟨cls2,dd2,data2,sl2⟩,ho2,hc2,n2,hd2⟩:=pl2.isList
 simp only at hc hd hc2 hd2
 subst hc hd hc2 hd2
 have e:vs.toArray++ws.toArray=(vs++ws).toArray:=by simp
 have l1:=r.length
 have l2:=r2.length
 refine concat_meets ⟨_,ho,rfl⟩ ⟨_,ho2,rfl⟩ noFill_list_add seq_list_add PySem.F.slot_list_add PySem.F.entry_list_add (PySem.F.args_list_add_2 _ _) (list_addW l b vs.toArray ws.toArray n n2 dd dd2 sl sl2 (by simp only [List.size_toArray];omega)) ⟨ho,ho2,?_⟩
 rw [e]
 exact ⟨.ref _,_,I.agH (t':=s.toks) (r.append r2) (by rw [List.length_append];omega),rfl,q _ I.fresh⟩
theorem abl:rW X (binaryOp .Add) (fun x y H Q=>rI0 (fun i j=>V.int (i + j)) x y H Q∨WW X.K x y H Q):=adY.or abk
theorem WX:VP K (fun x y H Q=>rI0 (fun i j=>V.int (i + j)) x y H Q∨WW K x y H Q) iB:=by
 intro B W σ ρ G H x y v u Q s rx ry p
 cases x with
 | int i =>
  cases y with
  | int j=>exact .inl ⟨i,j,aL.mp rx,aL.mp ry,Post.ok s p (aL.mpr rfl)⟩
  | _=>exact p.elim
 | lst ds =>
  cases y with
  | lst es =>
   simp only [iB] at p
   by_cases hl:ds.length + es.length<=1000000
   ·rw [if_pos hl] at p
    obtain ⟨a,vs,rfl,q,r⟩:=aN.mp rx
    obtain ⟨b,us,rfl,q',r'⟩:=aN.mp ry
    refine .inr ⟨a,b,vs,us,rfl,rfl,s.en.gh.seq q,s.en.gh.seq q',by rw [<- r.length,<- r'.length];exact sz6 hl,fun c hc=>?_⟩
    have x:=kE (xs:=vs++us) s.en.gh s.en.tp hc
    exact p _ _ _ x (aN.mpr ⟨c,vs++us,rfl,.of aY,(r.append r').mono x.gg⟩)
   ·rw [if_neg hl] at p;exact p.elim
  | _=>exact p.elim
 | _=>cases y <;> exact p.elim
theorem jM (ha:SE X B W a fa) (hb:SE X B W b fb):SE X B W (.BinOp a .Add b pos) (bD iB fa fb):=yP abl WX ha hb
noncomputable def toI:D->Rs Int
 | .int i=>.ok i
 | _=>.no
noncomputable def yV (xs:List D) (lo hi:Option Int):List D:=(xs.drop (HT.iU xs.length 0 lo)).take (HT.iU xs.length xs.length hi - HT.iU xs.length 0 lo)
theorem WY {ds:List D} {vs:List V} {lo hi:Option Int} (r:bQ K G ds vs):bQ K G (yV ds lo hi) (Oj vs lo hi):=by
 unfold yV Oj
 rw [r.length]
 exact (r.drop _).take _
noncomputable def gSl (lo hi:Option Int):D->Rs D
 | .lst ds=>.ok (.lst (yV ds lo hi))
 | _=>.no
noncomputable def agI (W:Wi) (σ:St) (G H:Hp) (r:Rs (Option Int)) (Q:Option Int->Hp->Prop):Prop :=
 match r with
 | .ok b=>∀ H' G',Ext G H G' H'->Q b H'
 | .ex c n=>∀ H' G',Ext G H G' H'->W c n σ H'
 | .no=>False
noncomputable def tO (K:PySem.W.Frag) (B:Hp×Hp) (W:Wi) (f:aJ->Rs (Option Int)):TO:=fun σ H Q=>∃ ρ G,SR K B σ H ρ G/\agI W σ G H (f ρ) Q
noncomputable def SO (X:Cx) (B:Hp×Hp) (W:Wi) (e:Option Expr) (f:aJ->Rs (Option Int)):Prop:=PO X e (tO X.K B W f)
noncomputable def Cr:aJ->Rs (Option Int):=fun _=>.ok none
noncomputable def fP (f:aJ->Rs D):aJ->Rs (Option Int):=fun ρ=>(f ρ).bind fun d=>(toI d).bind fun i=>.ok (some i)
theorem PO.imp {e:Option Expr} {t t':TO} (h:PO X e t) (i:∀ σ H Q,t' σ H Q->t σ H Q):PO X e t':=fun pins s σ H Q I q=>h pins s σ H Q I (i σ H Q q)
theorem abm:SO X B W none Cr:=PO.imp aaW fun σ H Q ⟨ρ,G,s,p⟩=>p H G s.Cp
theorem abn {e:Expr} {f:aJ->Rs D} (h:SE X B W e f):SO X B W (some e) (fP f):=by
 refine PO.imp (aaX h) fun σ H Q ⟨ρ,G,s,p⟩=>⟨ρ,G,s,?_⟩
 unfold fP at p
 cases e1:f ρ with
 | ok d =>
  rw [e1] at p
  cases d with
  | int i=>exact fun w H' G' e r'=>⟨i,aL.mp r',p H' G' e⟩
  | _=>exact p.elim
 | ex c n=>rw [e1] at p;exact p
 | no=>rw [e1] at p;exact p
noncomputable def fSl (fe:aJ->Rs D) (fl fh:aJ->Rs (Option Int)):aJ->Rs D:=fun ρ=>(fe ρ).bind fun x=>(fl ρ).bind fun l=>(fh ρ).bind fun h=>gSl l h x
variable {x:Str} {p:Pos} {e:Expr} {es:List Expr} {id T:String} {r:List V->Hp->VK->Prop} {g:List D->Rs D} {fs:aJ->Rs (List D)}
theorem uW (hc:gD X (.builtin id) r) (hd:sS X.K r g) (hg:Gl X x) (hm:X.mg x=none) (hv:bootBuiltins x=some (.builtin id)) (ha:SA X B W (e::es) fs) (hn:x≠"__name__":=by decide) (hdb:(x == ("__debug__":Str))=false:=by decide)
  (he:starEach (e::es) X.env=(false,eval e X.env)::starEach es X.env:=by rfl) (hpl:(backTo pos (starEach es X.env)).any (·.1)=false:=by rfl):SE X B W (.Call (.Name x p) (e::es) [] pos) (fA fs g) :=
 PE.imp (pO hc hg hm hv ha hn hdb he hpl) fun _ _ _ h=>QV hd h
theorem vZ (hc:gD X (.type T) r) (hd:sS X.K r g) (hg:Gl X x) (hm:X.mg x=none) (hv:bootBuiltins x=some (.type T)) (ha:SA X B W (e::es) fs) (hn:x≠"__name__":=by decide) (hdb:(x == ("__debug__":Str))=false:=by decide)
  (he:starEach (e::es) X.env=(false,eval e X.env)::starEach es X.env:=by rfl) (hpl:(backTo pos (starEach es X.env)).any (·.1)=false:=by rfl):SE X B W (.Call (.Name x p) (e::es) [] pos) (fA fs g) :=
 PE.imp (EY hc hg hm hv ha hn hdb he hpl) fun _ _ _ h=>QV hd h
noncomputable def yW:List D->Rs D
 | [.lst ds]=>.ok (.int ds.length)
 | [.tup ds]=>.ok (.int ds.length)
 | _=>.no
theorem aew:sS K (fun xs H Q=>∃ p ys,xs=[.ref p]/\(pC K H p ys∨mj K H p ys)/\Q (.int ys.length) H) yW:=by
 intro B W σ ρ G H ds vs Q s r p
 match ds,p with
 | [.lst ds],p =>
  obtain ⟨v,vs',rfl,r1,r2⟩:=aR.mp r
  obtain ⟨a,us,rfl,q,rr⟩:=aN.mp r1
  rw [bx.mp r2]
  refine ⟨a,us,rfl,.inl (s.en.gh.seq q),Post.ok s p ?_⟩
  rw [<- rr.length];exact aL.mpr rfl
 | [.tup ds],p =>
  obtain ⟨v,vs',rfl,r1,r2⟩:=aR.mp r
  obtain ⟨a,us,rfl,q,rr⟩:=aO.mp r1
  rw [bx.mp r2]
  refine ⟨a,us,rfl,.inr (Same.ji s.en.gh q),Post.ok s p ?_⟩
  rw [<- rr.length];exact aL.mpr rfl
 | [],p=>exact p.elim
 | [.non],p=>exact p.elim
 | [.bl _],p=>exact p.elim
 | [.int _],p=>exact p.elim
 | [.str _],p=>exact p.elim
 | [.kh _ _],p=>exact p.elim
 | _::_::_,p=>exact (by simp only [yW] at p;exact p.elim)
theorem Oo (hm:X.mg "len"=none) (ha:SE X B W e fa) (hg:Gl X "len":=by rfl) (he:starEach [e] X.env=[(false,eval e X.env)]:=by rfl):SE X B W (.Call (.Name "len" p) [e] [] pos) (fA (aj fa aQ) yW) :=
 uW uO aew hg hm PySem.boot_len (ak ha aK he)  (by decide) (by decide) he rfl
noncomputable def gw:List D->Rs D
 | [.lst ds]=>.ok (.tup ds)
 | [.tup ds]=>.ok (.tup ds)
 | _=>.no
theorem Xa:sS K (fun xs H Q=>∃ p ys,xs=[.ref p]/\((pC K H p ys/\∀ l,H l=none->Q (.ref l) (gC H l (.tup ys)))∨(mj K H p ys/\Q (.ref p) H))) gw:=by
 intro B W σ ρ G H ds vs Q s r p
 match ds,p with
 | [.lst ds],p =>
  obtain ⟨v,vs',rfl,r1,r2⟩:=aR.mp r
  obtain ⟨a,us,rfl,q,rr⟩:=aN.mp r1
  rw [bx.mp r2]
  refine ⟨a,us,rfl,.inl ⟨s.en.gh.seq q,fun c hc=>?_⟩⟩
  have x:=uP (xs:=us) s.en.gh s.en.tp hc
  exact p _ _ _ x (aO.mpr ⟨c,us,rfl,.of aY,rr.mono x.gg⟩)
 | [.tup ds],p =>
  obtain ⟨v,vs',rfl,r1,r2⟩:=aR.mp r
  obtain ⟨a,us,rfl,q,rr⟩:=aO.mp r1
  rw [bx.mp r2]
  exact ⟨a,us,rfl,.inr ⟨Same.ji s.en.gh q,Post.ok s p r1⟩⟩
 | [],p=>exact p.elim
 | [.non],p=>exact p.elim
 | [.bl _],p=>exact p.elim
 | [.int _],p=>exact p.elim
 | [.str _],p=>exact p.elim
 | [.kh _ _],p=>exact p.elim
 | _::_::_,p=>exact (by simp only [gw] at p;exact p.elim)
open PyProof.Rows in
theorem Hj:gD X (.builtin "divmod") (fun xs H Q=>∃ i j,xs=[.int i,.int j]/\CDB i j/\∀ p,H p=none->Q (.ref p) (gC H p (.tup [.int (i / j),.int (i % j)]))):=by
 intro pins s σ H xs us Q I r h
 obtain ⟨i,j,rfl,hc,q⟩:=h
 have h1:=hc.1
 obtain ⟨u,w',rfl,⟨t,rfl⟩,⟨t',rfl⟩⟩:=agx r
 refine divmod_int (by omega) ?_ (.inl hc.py)
 rw [Int.fdiv_eq_ediv_of_nonneg i (by omega),Int.fmod_eq_emod_of_nonneg i (by omega)]
 have hn:H s.heap.objs.size=none:=I.hok.fresh (Nat.le_refl _)
 refine ⟨.ref s.heap.objs.size,_,?_,rfl,q _ hn⟩
 refine I.laid (fun b o e=>Heap.get?_push_of_some _ e) (Nat.le_refl _) ⟨by simp only [List.length_cons,List.length_nil];rw [sizeLine_eq];decide,[.int (i / j) s.toks,.int (i % j) (s.toks + 1)],.cons ⟨_,rfl⟩ (.cons ⟨_,rfl⟩ .nil),?_⟩
 exact ⟨_,Heap.get?_push_size s.heap rfl,rfl,0,rfl⟩
noncomputable def Xb:List D->Rs D
 | [.int i,.int j]=>if CDB i j then .ok (.tup [.int (i / j),.int (i % j)]) else .no
 | _=>.no
theorem agJ:sS K (fun xs H Q=>∃ i j,xs=[.int i,.int j]/\CDB i j/\∀ p,H p=none->Q (.ref p) (gC H p (.tup [.int (i / j),.int (i % j)]))) Xb:=by
 intro B W σ ρ G H ds vs Q s r p
 unfold Xb at p
 split at p
 ·rename_i i j
  obtain ⟨v,vs',rfl,r1,r2⟩:=aR.mp r
  obtain ⟨v2,vs'',rfl,r3,r4⟩:=aR.mp r2
  rw [aL.mp r1,aL.mp r3,bx.mp r4]
  by_cases hc:CDB i j
  ·rw [if_pos hc] at p
   refine ⟨i,j,rfl,hc,fun c hc=>?_⟩
   have x:=uP (xs:=[.int (i / j),.int (i % j)]) s.en.gh s.en.tp hc
   exact p _ _ _ x (aO.mpr ⟨c,_,rfl,.of aY,aR.mpr ⟨_,_,rfl,aL.mpr rfl,.one (aL.mpr rfl)⟩⟩)
  ·rw [if_neg hc] at p;exact p.elim
 ·exact p.elim
end
end Vl
namespace Vl
open PySem PySem.Spec L2
inductive Ou where
 | nx (ρ:aJ)|rt (d:D)|bk (ρ:aJ)|ct (ρ:aJ)|ex (c:Str) (n:Int) (ρ:aJ)|no
noncomputable def gq (K:PySem.W.Frag) (B:Hp×Hp) (W:Wi) (G:Hp) (o:Ou) (De:Ends):Prop :=
 match o with
 | .nx ρ'=>∀ σ' H' G',SR K B σ' H' ρ' G'->Same G G'->De.nx σ' H'
 | .bk ρ'=>∀ σ' H' G',SR K B σ' H' ρ' G'->Same G G'->De.bk σ' H'
 | .ct ρ'=>∀ σ' H' G',SR K B σ' H' ρ' G'->Same G G'->De.ct σ' H'
 | .rt d=>∀ v H' G',Ext B.1 B.2 G' H'->Same G G'->Rep K G' d v->De.rt v H'
 | .ex c n ρ'=>∀ σ' H' G',SR K B σ' H' ρ' G'->Same G G'->W c n σ' H'
 | .no=>False
noncomputable def tS (K:PySem.W.Frag) (B:Hp×Hp) (W:Wi) (g:aJ->Ou):TS:=fun De σ H=>∃ ρ G,SR K B σ H ρ G/\gq K B W G (g ρ) De
noncomputable def SS (X:Cx) (B:Hp×Hp) (W:Wi) (st:Stmt) (g:aJ->Ou):Prop:=PS X st (tS X.K B W g)
noncomputable def Cg (X:Cx) (B:Hp×Hp) (W:Wi) (st:List Stmt) (g:aJ->Ou):Prop:=Kq X st (tS X.K B W g)
noncomputable def Xc (o:Ou) (k:aJ->Ou):Ou:=match o with
 | .nx ρ=>k ρ
 | o=>o
noncomputable def oR {α:Type} (r:Rs α) (ρ:aJ) (k:α->Ou):Ou:=match r with
 | .ok a=>k a
 | .ex c n=>.ex c n ρ
 | .no=>.no
section
variable {X:Cx} {K:PySem.W.Frag} {B:Hp×Hp} {W:Wi} {σ:St} {G G' H:Hp} {ρ:aJ} {De De':Ends}
theorem gq.same {o:Ou} (h:gq K B W G o De) (e:Same G G'):gq K B W G' o De:=by
 cases o with
 | nx ρ'=>exact fun σ' H' G'' s q=>h σ' H' G'' s (e.trans q)
 | bk ρ'=>exact fun σ' H' G'' s q=>h σ' H' G'' s (e.trans q)
 | ct ρ'=>exact fun σ' H' G'' s q=>h σ' H' G'' s (e.trans q)
 | rt d=>exact fun v H' G'' x q=>h v H' G'' x (e.trans q)
 | ex c n ρ'=>exact fun σ' H' G'' s q=>h σ' H' G'' s (e.trans q)
 | no=>exact h
theorem mV {r:Rs D} {k:D->Ou} {Q:VK} (s:SR K B σ H ρ G) (p:gq K B W G (oR r ρ k) De) (h:∀ d v H' G',r=.ok d->Ext G H G' H'->Rep K G' d v->gq K B W G' (k d) De->Q v H'):Post K W σ G H r Q:=by
 cases r with
 | ok d=>exact fun v H' G' e r=>h d v H' G' rfl e r (gq.same p e.gg)
 | ex c n=>exact fun H' G' e=>p σ H' G' (s.ext e) e.gg
 | no=>exact p
theorem aex:Cg X B W [] .nx:=Kq.imp aaJ fun De σ H ⟨ρ,G,s,p⟩=>p σ H G s (.refl _)
theorem abo {st:Stmt} {rest:List Stmt} {g k:aJ->Ou} (h1:SS X B W st g) (h2:Cg X B W rest k):Cg X B W (st::rest) (fun ρ=>Xc (g ρ) k):=by
 refine Kq.imp (Wh h1 h2) fun De σ H ⟨ρ,G,s,p⟩=>⟨ρ,G,s,?_⟩
 dsimp only at p
 cases e:g ρ with
 | nx ρ'=>rw [e] at p;exact fun σ' H' G' s' q=>⟨ρ',G',s',gq.same (show gq X.K B W G (k ρ') De from p) q⟩
 | bk ρ'=>rw [e] at p;exact p
 | ct ρ'=>rw [e] at p;exact p
 | rt d=>rw [e] at p;exact p
 | ex c n ρ'=>rw [e] at p;exact p
 | no=>rw [e] at p;exact p
theorem aey {st:Stmt} {g:aJ->Ou} (h1:SS X B W st g):Cg X B W [st] g:=aaK h1
theorem Tf {st:List Stmt}:Cg X B W st (fun _=>.no):=Kq.imp Sw fun De σ H ⟨ρ,G,s,p⟩=>p
theorem aez {e:Expr} {pos} {f:aJ->Rs D} (h:SE X B W e f):SS X B W (.Return (some e) pos) (fun ρ=>oR (f ρ) ρ .rt) :=
 PS.imp (adP h) fun De σ H ⟨ρ,G,s,p⟩=>⟨ρ,G,s,mV s p fun d v H' G' _ e r q=>q v H' G' (s.en.trans e) (.refl _) r⟩
theorem abp {e:Expr} {pos:Pos} {f:aJ->Rs D} (h:SE X B W e f) (hs:swapsWith e none pos.line X.env=pure false:=by rfl):SS X B W (.Expr e pos) (fun ρ=>oR (f ρ) ρ fun _=>.nx ρ) :=
 PS.imp (QC h hs) fun De σ H ⟨ρ,G,s,p⟩=>⟨ρ,G,s,mV s p fun d v H' G' _ e r q=>q σ H' G' (s.ext e) (.refl _)⟩
theorem agK {c:Expr} {a b:List Stmt} {pos:Pos} {fc:aJ->Rs Bool} {ga gb:aJ->Ou} (hc:ST X B W c fc) (ha:Cg X B W a ga) (hb:Cg X B W b gb):SS X B W (.If c a b pos) (fun ρ=>oR (fc ρ) ρ fun x=>if x=true then ga ρ else gb ρ):=by
 refine PS.imp (agl hc ha hb) fun De σ H ⟨ρ,G,s,p⟩=>⟨ρ,G,s,?_⟩
 dsimp only at p
 cases e:fc ρ with
 | ok x =>
  rw [e] at p
  intro H' G' ee
  have p':gq X.K B W G (if x=true then ga ρ else gb ρ) De:=p
  cases x with
  | true=>rw [if_pos rfl] at p' ⊢;exact ⟨ρ,G',s.ext ee,p'.same ee.gg⟩
  | false=>rw [if_neg (by simp)] at p' ⊢;exact ⟨ρ,G',s.ext ee,p'.same ee.gg⟩
 | ex c n=>rw [e] at p;exact fun H' G' ee=>p σ H' G' (s.ext ee) ee.gg
 | no=>rw [e] at p;exact p
noncomputable abbrev Tg:=D->aJ->Option aJ
noncomputable def tG (K:PySem.W.Frag) (B:Hp×Hp) (h:Tg):TG:=fun v σ H Q=>∃ ρ G d,SR K B σ H ρ G/\Rep K G d v/\∃ ρ',h d ρ=some ρ'/\∀ σ',SR K B σ' H ρ' G->Q σ' H
noncomputable def tGs (K:PySem.W.Frag) (B:Hp×Hp) (h:List D->aJ->Option aJ):TGs:=fun vs σ H Q=>∃ ρ G ds,SR K B σ H ρ G/\bQ K G ds vs/\∃ ρ',h ds ρ=some ρ'/\∀ σ',SR K B σ' H ρ' G->Q σ' H
noncomputable def SG (X:Cx) (B:Hp×Hp) (tg:Expr) (h:Tg):Prop:=PG X tg (tG X.K B h)
noncomputable def SGs (X:Cx) (B:Hp×Hp) (tg:List Expr) (h:List D->aJ->Option aJ):Prop:=PGs X tg (tGs X.K B h)
theorem PG.imp {e:Expr} {t t':TG} (h:PG X e t) (i:∀ v σ H Q,t' v σ H Q->t v σ H Q):PG X e t':=fun pins s σ H v u Q I r q=>h pins s σ H v u Q I r (i v σ H Q q)
theorem PGs.imp {e:List Expr} {t t':TGs} (h:PGs X e t) (i:∀ v σ H Q,t' v σ H Q->t v σ H Q):PGs X e t':=fun pins s σ H v u Q I r q=>h pins s σ H v u Q I r (i v σ H Q q)
noncomputable def aP (i:Nat):Tg:=fun d ρ=>some (ρ.set i (.fz d))
noncomputable def jC:List D->aJ->Option aJ:=fun ds ρ=>match ds with|[]=>some ρ|_=>none
noncomputable def bT (h:Tg) (k:List D->aJ->Option aJ):List D->aJ->Option aJ:=fun ds ρ=>match ds with|d::ds=>(h d ρ).bind (k ds)|[]=>none
noncomputable def jj (n:Nat) (k:List D->aJ->Option aJ):Tg:=fun d ρ=>match d with|.tup ds=>if ds.length=n then k ds ρ else none|_=>none
theorem abq {i:Nat} {x:Str} {pos:Pos} (hN:X.N.Nodup) (hi:X.N[i]?=some x) (hx:Loc X.env.scope x) (hf:X.fn x=true∨X.env.scope.names.lookup x=some .local:=by first|exact .inl rfl|exact .inr rfl|assumption):SG X B (.Name x pos) (aP i) :=
 PG.imp (aaM hN hi hx hf) fun v σ H Q ⟨ρ,G,d,s,r,ρ',e,q⟩=>by
  cases e
  exact q _ (s.set r)
theorem dO:SGs X B [] jC:=PGs.imp aaN fun v σ H Q ⟨ρ,G,ds,s,r,ρ',e,q⟩=>by
 cases ds with
 | nil=>cases e;exact ⟨bx.mp r,q _ s⟩
 | cons d ds=>cases e
theorem aX {e:Expr} {es:List Expr} {h:Tg} {k:List D->aJ->Option aJ} (h1:SG X B e h) (h2:SGs X B es k) (hs:(assignEach (e::es) X.env).map (·.2)=assign e X.env::(assignEach es X.env).map (·.2):=by rfl):SGs X B (e::es) (bT h k) :=
 PGs.imp (Wj h1 h2 hs) fun v σ H Q ⟨ρ,G,ds,s,r,ρ',e,q⟩=>by
  cases ds with
  | nil=>cases e
  | cons d ds =>
   obtain ⟨w,ws,rfl,r1,r2⟩:=aR.mp r
   unfold bT at e
   dsimp only at e
   cases e1:h d ρ with
   | none=>rw [e1] at e;cases e
   | some ρ1 =>
    rw [e1] at e
    exact ⟨w,ws,rfl,ρ,G,d,s,r1,ρ1,e1,fun σ1 s1=>⟨ρ1,G,ds,s1,r2,ρ',e,q⟩⟩
theorem gJ {es:List Expr} {k:Nat} {pos:Pos} {n:Nat} {h:List D->aJ->Option aJ} (hc:X.calm=true) (hh:SGs X B es h)
  (hn:(assignEach es X.env).length=n:=by rfl) (hst:(assignEach es X.env).findIdx? (·.1)=none:=by rfl):SG X B (.Tuple es k pos) (jj n h) :=
 PG.imp (adR hc hh hn hst) fun v σ H Q ⟨ρ,G,d,s,r,ρ',e,q⟩=>by
  cases d with
  | tup ds =>
   unfold jj at e
   dsimp only at e
   by_cases hl:ds.length=n
   ·simp only [if_pos hl] at e
    obtain ⟨a,vs,rfl,q1,rr⟩:=aO.mp r
    exact ⟨a,vs,rfl,Same.ji s.en.gh q1,by rw [<- rr.length];exact hl,ρ,G,ds,s,rr,ρ',e,q⟩
   ·simp only [if_neg hl] at e;cases e
  | _=>cases e
noncomputable def oO (o:Option aJ):Ou:=match o with|some ρ=>.nx ρ|none=>.no
theorem aeA {tg e:Expr} {pos:Pos} {f:aJ->Rs D} {h:Tg} (he:SE X B W e f) (hg:SG X B tg h) (hs:swapsWithSole [tg] e pos.line X.env=pure false:=by rfl) (hw:swappedStores [tg] e X.env=pure none:=by rfl)
  (h1:(assignEach [tg] X.env).map (·.2)=[assign tg X.env]:=by rfl):SS X B W (.Assign [tg] e pos) (fun ρ=>oR (f ρ) ρ fun d=>oO (h d ρ)) :=
 PS.imp (adS he hg hs hw h1) fun De σ H ⟨ρ,G,s,p⟩=>⟨ρ,G,s,mV s p fun d v H' G' _ e r q=>by
  cases e1:h d ρ with
  | none=>rw [e1] at q;exact q.elim
  | some ρ'=>rw [e1] at q;exact ⟨ρ,G',d,s.ext e,r,ρ',e1,fun σ' s'=>q σ' H' G' s' (.refl _)⟩⟩
theorem aeB {i:Nat} {x:Str} {e:Expr} {pos pos':Pos} {f:aJ->Rs D} (hN:X.N.Nodup) (hi:X.N[i]?=some x) (hx:Loc X.env.scope x) (he:SE X B W e f) (hs:swapsWith e (some (.Name x pos')) pos.line X.env=pure false:=by rfl) (hf:X.fn x=true∨X.env.scope.names.lookup x=some .local:=by first|exact .inl rfl|exact .inr rfl|assumption) :
  SS X B W (.Assign [.Name x pos'] e pos) (fun ρ=>oR (f ρ) ρ fun d=>.nx (ρ.set i (.fz d))) :=
 PS.imp (Wk hN hi hx he hs hf) fun De σ H ⟨ρ,G,s,p⟩=>⟨ρ,G,s,mV s p fun d v H' G' _ e r q=>q _ H' G' ((s.ext e).set r) (.refl _)⟩
theorem SR.aeC (h:SR K B σ H ρ G) {i:Nat} {z:Sl} {o:HO} {p:Addr} (w:z.own=true) (r:xU K G p z o) (hp:H p=none):SR K B (σ.set i (some (.ref p))) (gC H p o) (ρ.set i z) G:=by
 have x:=abg (o:=o) h.en.gh h.en.tp (fun xs e=>by subst e;exact r.tup) hp
 have h':=h.ext x
 have Cu:∀ {j:Nat} {y:Sl},(ρ.set i z)[j]?=some y->(i=j/\y=z/\i < ρ.length)∨(i≠j/\ρ[j]?=some y):=fun {j y} q=>by
  by_cases e:i=j
  ·subst e
   have hl:i < ρ.length:=by
    have:=(List.getElem?_eq_some_iff.mp q).1;simpa using this
   rw [List.getElem?_set_self hl] at q
   cases q
   exact .inl ⟨rfl,rfl,hl⟩
  ·rw [List.getElem?_set_ne e] at q
   exact .inr ⟨e,q⟩
 refine ⟨h'.en,by simp [h.len],fun j d q=>?_,fun j y q wy=>?_,fun j k y y' a q1 w1 q2 w2 q3 q4=>?_⟩
 ·rcases Cu q with ⟨_,e,_⟩|⟨e,q⟩
  ·rw [<- e] at w;cases w
  ·rw [List.getElem?_set_ne e];exact h'.fz j d q
 ·rcases Cu q with ⟨e,e2,hl⟩|⟨e,q⟩
  ·subst e;subst e2
   exact ⟨p,o,List.getElem?_set_self (by rw [<- h.len];exact hl),aY,h.en.gh.free hp,h.en.hh.free hp,r⟩
  ·rw [List.getElem?_set_ne e];exact h'.own j y q wy
 ·have fresh:∀ {l:Nat} {y:Sl},ρ[l]?=some y->y.own=true->σ[l]?≠some (some (.ref p)):=fun {l y} q wy z=>by
   obtain ⟨a,vs',h1,h2,_⟩:=h.own l y q wy
   rw [h1] at z
   have:a=p:=by injection z with z;injection z with z;injection z
   rw [this,hp] at h2;cases h2
  rcases Cu q1 with ⟨e1,_,l1⟩|⟨n1,z1⟩
  ·rcases Cu q2 with ⟨e2,_⟩|⟨n2,z2⟩
   ·exact e1.symm.trans e2
   ·subst e1
    rw [List.getElem?_set_self (by rw [<- h.len];exact l1)] at q3
    have:a=p:=by injection q3 with z;injection z with z;injection z with z;exact z.symm
    subst this
    rw [List.getElem?_set_ne n2] at q4
    exact (fresh z2 w2 q4).elim
  ·rcases Cu q2 with ⟨e2,_,l2⟩|⟨n2,z2⟩
   ·subst e2
    rw [List.getElem?_set_self (by rw [<- h.len];exact l2)] at q4
    have:a=p:=by injection q4 with z;injection z with z;injection z with z;exact z.symm
    subst this
    rw [List.getElem?_set_ne n1] at q3
    exact (fresh z1 w1 q3).elim
   ·rw [List.getElem?_set_ne n1] at q3
    rw [List.getElem?_set_ne n2] at q4
    exact h.ap j k y y' a z1 w1 z2 w2 q3 q4
theorem SR.agL (h:SR K B σ H ρ G) {i:Nat} {ds:List D} {vs:List V} {p:Addr} (r:bQ K G ds vs) (hp:H p=none):SR K B (σ.set i (some (.ref p))) (gC H p (.lst vs)) (ρ.set i (.ow ds)) G:=h.aeC rfl ⟨vs,rfl,r⟩ hp
theorem SR.Xd (h:SR K B σ H ρ G) {i:Nat} {y z:Sl} {o:HO} {a:Addr} (q:ρ[i]?=some y) (wy:y.own=true) (ha:σ[i]?=some (some (.ref a))) (wz:z.own=true) (r:xU K G a z o):SR K B σ (gC H a o) (ρ.set i z) G:=by
 obtain ⟨a',o0,e1,h2,h3,h4,h5⟩:=h.own i y q wy
 have ea:a'=a:=by rw [e1] at ha;injection ha with z;injection z with z;injection z
 subst ea
 have hl:i < ρ.length:=(List.getElem?_eq_some_iff.mp q).1
 have Cu:∀ {j:Nat} {x:Sl},(ρ.set i z)[j]?=some x->(i=j/\x=z)∨(i≠j/\ρ[j]?=some x):=fun {j x} q=>by
  by_cases e:i=j
  ·subst e
   rw [List.getElem?_set_self hl] at q
   cases q
   exact .inl ⟨rfl,rfl⟩
  ·rw [List.getElem?_set_ne e] at q
   exact .inr ⟨e,q⟩
 have ne:∀ b o,G b=some o->b≠a':=fun b o z w=>by rw [w,h3] at z;cases z
 refine ⟨⟨h.en.gg,fun b o z=>?_,fun b o z=>?_,fun b xs z=>?_,h.en.nw⟩,by simp [h.len],fun j d z'=>?_,fun j x z' wx=>?_,fun j k x x' c z1 w1 z2 w2 z3 z4=>?_⟩
 ·rw [bf (bh z h4)];exact h.en.hh b o z
 ·rw [bf (ne b o z)];exact h.en.gh b o z
 ·by_cases w:b=a'
  ·subst w;rw [aY] at z;cases z;exact r.tup.elim
  ·rw [bf w] at z;exact h.en.tp b xs z
 ·rcases Cu z' with ⟨_,e⟩|⟨_,z'⟩
  ·rw [<- e] at wz;cases wz
  ·exact h.fz j d z'
 ·rcases Cu z' with ⟨e,e2⟩|⟨e,z'⟩
  ·subst e;subst e2
   exact ⟨a',o,ha,aY,h3,h4,r⟩
  ·obtain ⟨b,us,w1,w2,w3,w4,w5⟩:=h.own j x z' wx
   have hne:b≠a':=fun w=>by subst w;exact e (h.ap i j y x b q wy z' wx ha w1)
   exact ⟨b,us,w1,by rw [bf hne];exact w2,w3,w4,w5⟩
 ·rcases Cu z1 with ⟨e1,_⟩|⟨_,z1⟩ <;> rcases Cu z2 with ⟨e2,_⟩|⟨_,z2⟩
  ·exact e1.symm.trans e2
  ·subst e1;exact h.ap i k y x' c q wy z2 w2 z3 z4
  ·subst e2;exact h.ap j i x y c z1 w1 q wy z3 z4
  ·exact h.ap j k x x' c z1 w1 z2 w2 z3 z4
theorem SR.write (h:SR K B σ H ρ G) {i:Nat} {ds es:List D} {vs:List V} {a:Addr} (q:ρ[i]?=some (.ow ds)) (ha:σ[i]?=some (some (.ref a))) (r:bQ K G es vs):SR K B σ (gC H a (.lst vs)) (ρ.set i (.ow es)) G:=h.Xd q rfl ha rfl ⟨vs,rfl,r⟩
noncomputable def Cj (i:Nat) (ρ:aJ):aJ:=match ρ[i]? with|some (.ow ds)=>ρ.set i (.fz (.lst ds))|_=>ρ
theorem SR.Cj (h:SR K B σ H ρ G) (i:Nat):∃ G',Same G G'/\SR K B σ H (Cj i ρ) G':=by
 unfold Vl.Cj
 split
 ·rename_i ds q
  obtain ⟨a,vs,e1,h2,h3,h4,h5⟩:=h.ow i ds q
  have hl:i < ρ.length:=(List.getElem?_eq_some_iff.mp q).1
  have gg:Same G (gC G a (.lst vs)):=fun b o z=>by rw [bf (bh z h3)];exact z
  refine ⟨gC G a (.lst vs),gg,⟨h.en.gg.trans gg,h.en.hh,fun b o z=>?_,fun b xs z=>?_,fun b o z w=>?_⟩,by simp [h.len],fun j d z=>?_,fun j fs z wz=>?_,fun j k fs gs c z1 w1 z2 w2 z3 z4=>?_⟩
  ·by_cases w:b=a
   ·subst w;rw [aY] at z;cases z;exact h2
   ·rw [bf w] at z;exact h.en.gh b o z
  ·by_cases w:b=a
   ·subst w;rw [h2] at z;cases z
   ·rw [bf w];exact h.en.tp b xs z
  ·rw [bf (bh z h4)];exact h.en.nw b o z w
  ·by_cases e:i=j
   ·subst e
    rw [List.getElem?_set_self hl] at z
    cases z
    exact ⟨_,e1,aN.mpr ⟨a,vs,rfl,.of aY,h5.mono gg⟩⟩
   ·rw [List.getElem?_set_ne e] at z
    obtain ⟨v,w1,w2⟩:=h.fz j d z
    exact ⟨v,w1,w2.mono gg⟩
  ·by_cases e:i=j
   ·subst e;rw [List.getElem?_set_self hl] at z;cases z;cases wz
   ·rw [List.getElem?_set_ne e] at z
    obtain ⟨b,us,w1,w2,w3,w4,w5⟩:=h.own j fs z wz
    have hne:b≠a:=fun w=>by subst w;exact e (h.ap i j _ fs b q rfl z wz e1 w1)
    exact ⟨b,us,w1,w2,by rw [bf hne];exact w3,w4,w5.mono gg⟩
  ·have nj:i≠j:=fun e=>by subst e;rw [List.getElem?_set_self hl] at z1;cases z1;cases w1
   have nk:i≠k:=fun e=>by subst e;rw [List.getElem?_set_self hl] at z2;cases z2;cases w2
   rw [List.getElem?_set_ne nj] at z1
   rw [List.getElem?_set_ne nk] at z2
   exact h.ap j k fs gs c z1 w1 z2 w2 z3 z4
 ·exact ⟨G,.refl _,h⟩
theorem abr {st:List Stmt} {g:aJ->Ou} (i:Nat) (h:Cg X B W st g):Cg X B W st (fun ρ=>g (Cj i ρ)) :=
 Kq.imp h fun De σ H ⟨ρ,G,s,p⟩=>let ⟨G',gg,s'⟩:=s.Cj i;⟨_,G',s',gq.same p gg⟩
theorem aeD {i:Nat} {x:Str} {es:List Expr} {pos pos' lp:Pos} {f:aJ->Rs (List D)} (hN:X.N.Nodup) (hi:X.N[i]?=some x) (hx:Loc X.env.scope x) (he:SA X B W es f) (hs:swapsWith (.List es lp) (some (.Name x pos')) pos.line X.env=pure false:=by rfl) (hf:X.fn x=true∨X.env.scope.names.lookup x=some .local:=by first|exact .inl rfl|exact .inr rfl|assumption) :
  SS X B W (.Assign [.Name x pos'] (.List es lp) pos) (fun ρ=>oR (f ρ) ρ fun ds=>if ds.length<=1000 then .nx (ρ.set i (.ow ds)) else .no):=by
 refine PS.imp (Wk hN hi hx (Wt he) hs hf) fun De σ H ⟨ρ,G,s,p⟩=>⟨ρ,G,s,?_⟩
 dsimp only at p
 cases e:f ρ with
 | ok ds =>
  rw [e] at p
  have p':gq X.K B W G (if ds.length<=1000 then .nx (ρ.set i (.ow ds)) else .no) De:=p
  by_cases hl:ds.length<=1000
  ·rw [if_pos hl] at p'
   exact fun vs H' G' x r=>⟨by rw [<- r.length];exact Hh hl,fun c hc=>p' _ _ G' ((s.ext x).agL r hc) x.gg⟩
  ·rw [if_neg hl] at p';exact p'.elim
 | ex c n=>rw [e] at p;exact fun H' G' x=>p σ H' G' (s.ext x) x.gg
 | no=>rw [e] at p;exact p
theorem Ti {i:Nat} {x:Str} {e:Expr} {pos p1 p2 cp:Pos} {f:aJ->Rs D} (hv:PE X (.Name x p1) (aaG i)) (he:SE X B W e f)
  (hst:starEach [e] X.env=[(false,eval e X.env)]) {pe:PE X (.Call (.Attribute (.Name x p1) "append" p2) [e] [] cp) (tBM X.K "list" QJ (aaG i) (acT (tF X.K B W f) agy))}
  (hs:swapsWith (.Call (.Attribute (.Name x p1) "append" p2) [e] [] cp) none pos.line X.env=pure false:=by rfl) :
  SS X B W (.Expr (.Call (.Attribute (.Name x p1) "append" p2) [e] [] cp) pos) (fun ρ=>match ρ[i]? with|some (.ow ds)=>oR (f ρ) ρ fun d=>if ds.length < 1000000 then .nx (ρ.set i (.ow (ds++[d]))) else .no|_=>.no):=by
 refine PS.imp (QC pe hs) fun De σ H ⟨ρ,G,s,p⟩=>?_
 dsimp only at p
 cases q:ρ[i]? with
 | none=>rw [q] at p;exact p.elim
 | some z =>
  rw [q] at p
  cases z with
  | no=>exact p.elim
  | fz d=>exact p.elim
  | od _=>exact p.elim
  | ow ds =>
   obtain ⟨a,vs,e1,h2,h3,h4,h5⟩:=s.ow i ds q
   refine ⟨_,e1,.inl ⟨rfl,vs,.of h2⟩,ρ,G,s,mV s p fun d v H' G' _ x r p'=>?_⟩
   by_cases hl:ds.length < 1000000
   ·rw [if_pos hl] at p'
    have s':=s.ext x
    refine ⟨a,vs,v,rfl,rfl,x.hh _ _ h2,by rw [<- h5.length];exact Nat.lt_of_lt_of_le hl (by rw [sizeLine_eq];decide),?_⟩
    exact p' σ _ G' (s'.write q e1 ((h5.mono x.gg).append (.one r))) (.refl _)
   ·rw [if_neg hl] at p';exact p'.elim
end
end Vl
namespace Vl
open PySem PySem.Spec L2
noncomputable def kj (h:Tg) (gb:aJ->Ou):List D->aJ->Ou
 | [],ρ=>.nx ρ
 | d::ds,ρ=>match h d ρ with
  | none=>.no
  | some ρ1=>match gb ρ1 with
   | .nx ρ2=>kj h gb ds ρ2
   | .ct ρ2=>kj h gb ds ρ2
   | .bk ρ2=>.nx ρ2
   | o=>o
noncomputable def WF:Wi:=fun _ _ _ _=>False
section
variable {X:Cx} {K:PySem.W.Frag} {B:Hp×Hp} {W:Wi} {σ:St} {G G' H:Hp} {ρ:aJ} {De De':Ends}
theorem KH {h:Tg} {gb:aJ->Ou} {d:D} {ds:List D} {v:V} {Pv:St->Hp->Prop} (s:SR K B σ H ρ G) (r:Rep K G d v) (p:gq K B W G (kj h gb (d::ds) ρ) De)
  (hP:∀ σ' H' ρ' G',SR K B σ' H' ρ' G'->Same G G'->gq K B W G' (kj h gb ds ρ') De->Pv σ' H') :
  tG K B h v σ H fun σ2 H2=>tS K B W gb { De with nx:=Pv,ct:=Pv,bk:=De.nx } σ2 H2:=by
 unfold kj at p
 cases e:h d ρ with
 | none=>rw [e] at p;exact p.elim
 | some ρ1 =>
  rw [e] at p
  refine ⟨ρ,G,d,s,r,ρ1,e,fun σ1 s1=>⟨ρ1,G,s1,?_⟩⟩
  dsimp only at p
  cases e2:gb ρ1 with
  | nx ρ2=>rw [e2] at p;exact fun σ' H' G' s' q=>hP σ' H' ρ2 G' s' q (gq.same p q)
  | ct ρ2=>rw [e2] at p;exact fun σ' H' G' s' q=>hP σ' H' ρ2 G' s' q (gq.same p q)
  | bk ρ2=>rw [e2] at p;exact p
  | rt d=>rw [e2] at p;exact p
  | ex c n ρ2=>rw [e2] at p;exact p
  | no=>rw [e2] at p;exact p
noncomputable def Fe (h:Tg) (gb:aJ->Ou) (f:aJ->Rs D):aJ->Ou:=fun ρ=>oR (f ρ) ρ fun d=>match d with|.lst ds=>kj h gb ds ρ|_=>.no
noncomputable def uX (h:Tg) (gb:aJ->Ou) (f:aJ->Rs D):aJ->Ou:=fun ρ=>oR (f ρ) ρ fun d=>match d with|.int n=>if -(2 ^ 62)<=n/\n < 2 ^ 62 then kj h gb ((List.range n.toNat).map fun (i:Nat)=>.int i) ρ else .no|_=>.no
theorem Hl {tg iter:Expr} {body:List Stmt} {pos:Pos} {f:aJ->Rs D} {h:Tg} {gb:aJ->Ou} (hp:PassesOwn (model X.prog X.w) X.A X.env X.xe) (hc:X.calm=true) (hi:SE X B W iter f) (hg:SG X B tg h) (hb:Cg X B W body gb)
  (hs:∀ x,foldedSetIterable iter X.env x=pure x:=by intro _;rfl):SS X B W (.For tg iter body [] pos) (Fe h gb f):=by
 refine PS.imp (Wo hp hc (QD hi) hg hb hs) fun De σ H ⟨ρ,G,s,p⟩=>?_
 refine ⟨ρ,G,s,mV s p fun d v H1 G1 _ e r p1=>?_⟩
 cases d with
 | lst ds =>
  obtain ⟨a,vs,rfl,q,rr⟩:=aN.mp r
  refine ⟨a,rfl,⟨vs,e.gh.seq q⟩,Wq (fun i σ H=>∃ ρ G,SR X.K B σ H ρ G/\pC X.K G a vs/\bQ X.K G ds vs/\gq X.K B W G (kj h gb (ds.drop i) ρ) De) ⟨ρ,G1,s.ext e,q,rr,by simpa using p1⟩ (fun i σ H _ ⟨ρ,G,s,q,_⟩=>s.en.gh.seq q) ?_ ?_⟩
  ·rintro i x σ2 H2 hx ⟨ρ2,G2,s2,q2,r2,p2⟩
   obtain ⟨d,hd,rd⟩:=r2.get' hx
   have hl:=(List.getElem?_eq_some_iff.mp hd).1
   rw [List.drop_eq_getElem_cons hl,(List.getElem?_eq_some_iff.mp hd).2] at p2
   exact KH s2 rd p2 fun σ' H' ρ' G' s' q' p'=>⟨ρ',G',s',q'.seq q2,r2.mono q',p'⟩
  ·rintro σ2 H2 ⟨ρ2,G2,s2,q2,r2,p2⟩
   rw [<- r2.length,List.drop_length] at p2
   exact p2 σ2 H2 G2 s2 (.refl _)
 | _=>exact p1.elim
theorem Oq {h:Tg} {gb:aJ->Ou} {lo:Int} {n:Nat} (s:SR K B σ H ρ G) (p:gq K B W G (kj h gb ((List.range n).map fun (i:Nat)=>.int (lo + i)) ρ) De) :
  ∃ W0:Nat->Nat->St->Hp->Prop,(∃ m,W0 0 m σ H)/\∀ i m σ H,W0 i m σ H ->
   ((Itr lo n).stop i H/\De.nx σ H)∨((Itr lo n).go i H/\∃ N:St->Hp->Prop,(∀ σ' H',N σ' H'->∃ m',m' < m/\W0 (i + 1) m' σ' H')/\∀ x H',(Itr lo n).yld i H x H'->tG K B h x σ H' fun σ2 H2=>tS K B W gb { De with nx:=N,ct:=N,bk:=De.nx } σ2 H2):=by
 refine SM (fun i σ H=>∃ ρ G,SR K B σ H ρ G/\gq K B W G (kj h gb (((List.range n).map fun (i:Nat)=>D.int (lo + i)).drop i) ρ) De) ⟨ρ,G,s,by simpa using p⟩ ?_ ?_
 ·rintro i σ2 H2 hi ⟨ρ2,G2,s2,p2⟩
  have hl:i < ((List.range n).map fun (i:Nat)=>D.int (lo + i)).length:=by simpa using hi
  rw [List.drop_eq_getElem_cons hl] at p2
  rw [show ((List.range n).map fun (i:Nat)=>D.int (lo + i))[i]=D.int (lo + i) by simp] at p2
  exact KH s2 (aL.mpr rfl) p2 fun σ' H' ρ' G' s' q' p'=>⟨ρ',G',s',p'⟩
 ·rintro σ2 H2 ⟨ρ2,G2,s2,p2⟩
  rw [List.drop_eq_nil_of_le (by simp)] at p2
  exact p2 σ2 H2 G2 s2 (.refl _)
theorem yt {tg e:Expr} {body:List Stmt} {pos p1 p2:Pos} {f:aJ->Rs D} {h:Tg} {gb:aJ->Ou} (hp:PassesOwn (model X.prog X.w) X.A X.env X.xe) (hc:X.calm=true) (hm:X.mg "range"=none) (hi:SE X B W e f) (hg:SG X B tg h) (hb:Cg X B W body gb)
  (hgl:Gl X "range":=by rfl) (hst:starEach [e] X.env=[(false,eval e X.env)]:=by rfl)
  (hs:∀ x,foldedSetIterable (.Call (.Name "range" p1) [e] [] p2) X.env x=pure x:=by intro _;rfl):SS X B W (.For tg (.Call (.Name "range" p1) [e] [] p2) body [] pos) (uX h gb f):=by
 refine PS.imp (Wo hp hc (Sy hgl hm (jB hi pN (by rw [hst];rfl)) hst) hg hb hs) fun De σ H ⟨ρ,G,s,p⟩=>?_
 refine ⟨ρ,G,s,mV s p fun d v H1 G1 _ e r p1=>?_⟩
 cases d with
 | int n =>
  dsimp only at p1
  by_cases c:-(2 ^ 62)<=n/\n < 2 ^ 62
  ·rw [if_pos c] at p1
   refine ⟨n,by rw [aL.mp r],c.1,c.2,Oq (s.ext e) ?_⟩
   simpa using p1
  ·rw [if_neg c] at p1;exact p1.elim
 | _=>exact p1.elim
noncomputable def Xe:Ou->Ou
 | .ex _ _ _=>.no
 | o=>o
theorem Tj {o:Ou} (p:gq K B W G (Xe o) De):gq K B WF G o De:=by
 cases o with
 | ex c n ρ=>exact p.elim
 | _=>exact p
theorem PS.nox {st:Stmt} {t:TS} (h:PS X.nox st t):PS X st t:=fun pins s σ H D I hw =>
 wpAny_mono (h pins s σ H D (I.wish _) hw) (fun _ _ q=>q.pK) fun _ _ z=>False.elim z
theorem aeE {st:Stmt} {g:aJ->Ou} (h:SS X.nox B WF st g):SS X B W st (fun ρ=>Xe (g ρ)) :=
 PS.imp (PS.nox h) fun De σ H ⟨ρ,G,s,p⟩=>⟨ρ,G,s,Tj p⟩
noncomputable def zig (n:Int):Nat:=if 0<=n then 2 * n.toNat else 2 * (-n).toNat + 1
noncomputable def Kh (c:Str) (n:Int):Value:=.str c (zig n)
noncomputable def RP (K:PySem.W.Frag) (G H:Hp) (Q:VK) (E:XK) (r:Rs D):Prop:=match r with
 | .ok d=>∀ v H' G',Ext G H G' H'->Rep K G' d v->Q v H'
 | .ex c n=>∀ H' G',Ext G H G' H'->E (Kh c n) none H'
 | .no=>False
noncomputable def spV (K:PySem.W.Frag) (k:Nat) (g:List D->Rs D):Sp:=fun vs H Q E=>vs.length=k/\∃ G ds,Ext G H G H/\bQ K G ds vs/\RP K G H Q E (g ds)
noncomputable def dH:Ou->Rs D
 | .nx _=>.ok .non
 | .rt d=>.ok d
 | .ex c n _=>.ex c n
 | _=>.no
noncomputable def yX {α:Type}:Rs α->Rs α
 | .ex _ _=>.no
 | o=>o
noncomputable def bB (N:List Str) (ds:List D):aJ:=ds.map .fz++List.replicate (N.length - ds.length) .no
theorem Xf {N:List Str} {ds:List D} {vs:List V} (e:Ext G H G H) (r:bQ K G ds vs):SR K (G,H) (L2.start N vs) H (bB N ds) G:=by
 have acZ:∀ (i:Nat) (z:Sl),(bB N ds)[i]?=some z->z.own=true->False:=fun i z q w=>by
  unfold bB at q
  by_cases hi:i < (ds.map Sl.fz).length
  ·rw [List.getElem?_append_left hi,List.getElem?_map] at q
   cases e1:ds[i]? with
   | none=>rw [e1] at q;cases q
   | some d=>rw [e1] at q;cases q;cases w
  ·rw [List.getElem?_append_right (by omega),List.getElem?_replicate] at q
   split at q <;> cases q
   cases w
 refine ⟨e,?_,fun i d q=>?_,fun i z q w=>(acZ i z q w).elim,fun i j z z' a q w=>(acZ i z q w).elim⟩
 ·unfold bB L2.start
  simp [r.length]
 ·unfold bB at q
  unfold L2.start
  by_cases hi:i < (ds.map Sl.fz).length
  ·rw [List.getElem?_append_left hi,List.getElem?_map] at q
   cases e1:ds[i]? with
   | none=>rw [e1] at q;cases q
   | some d' =>
    rw [e1] at q
    cases q
    obtain ⟨v,h1,h2⟩:=r.get e1
    refine ⟨v,?_,h2⟩
    rw [List.getElem?_append_left (by rw [List.length_map,<- r.length];simpa using hi),List.getElem?_map,h1]
    rfl
  ·rw [List.getElem?_append_right (by omega),List.getElem?_replicate] at q
   split at q <;> cases q
theorem Xg {o:Ou} {Q:VK} {E:XK} (h:RP K B.1 B.2 Q E (dH o)):gq K B (fun c n _ H'=>E (Kh c n) none H') G o { nx:=fun _ H'=>Q .non H',rt:=Q }:=by
 cases o with
 | nx ρ'=>exact fun σ' H' G' s q=>h .non H' G' s.en (bM.mpr rfl)
 | rt d=>exact fun v H' G' x q r=>h v H' G' x r
 | ex c n ρ'=>exact fun σ' H' G' s q=>h H' G' s.en
 | bk _=>exact h.elim
 | ct _=>exact h.elim
 | no=>exact h.elim
section
variable {P:Program} {w:World} {mg:Str->Option Value} {base:Heap} {x qual:Str} {st:Stmt} {f:Addr} {fd:FuncData} {N ps:List Str} {k:Nat}
end
end
end Vl
namespace Vl
open PySem PySem.Spec L2
theorem Ho {prog:Program} {w:World} {A:Around} {s:Shared} {R:Result->Shared->Prop} {elt target iter:Expr} {ifs:List Expr} {scope:Scope} {pos:Pos} {it acc:Value} {env:Env} (J:Nat->Shared->Prop)
  (turn:∀ k t,J k t->wpAny (model prog w) A (pyNext it) (fun o t1=>match o with
   | none=>R (.ok .next) t1
   | some x=>wpAny (model prog w) A (letOwnedTupleGo target it x) (fun _ t2=>wpAny (model prog w) A (assign target env x) (fun _ t3 =>
     wpAny (model prog w) A (forIn ifs true fun c go=>if go=true then do { let y <- isTrue c env (eval c env);pure (ForInStep.yield y) } else pure (ForInStep.yield go)) (fun yes t4 =>
      if yes=true then wpAny (model prog w) A (eval elt env) (fun y t5 =>
       wpAny (model prog w) A (call (.builtin "list.append") [acc,y]) (fun _ t6=>∃ j,j < k/\J j t6) (fun _ _=>False) t5) (fun _ _=>False) t4
      else ∃ j,j < k/\J j t4) (fun _ _=>False) t3) (fun _ _=>False) t2) (fun _ _=>False) t1) (fun _ _=>False) t)
  (n:Nat) (h:J n s):codeAny (model prog w) A (.compLoop (.ListComp elt [⟨target,iter,ifs,0⟩] scope pos) 0 it acc env) R s:=by
 refine codeAny_loop rfl J (fun k t hJ=>?_) n h
 show wpAny _ A (Sem.onRaise (compTurn (.ListComp elt [⟨target,iter,ifs,0⟩] scope pos) 0 it acc env) (fun x=>do noteFrame x env;theTreesLotGoes x)) _ _ t
 refine wpAny_noted ?_
 rw [compTurn_list]
 refine wpAny_bind (wpAny_standAt (wpAny_bind (wpAny_mono (turn k t hJ) (fun o t1 g1=>?_) fun _ _ z=>z.elim)))
 cases o with
 | none=>exact wpAny_pure g1
 | some x =>
  refine wpAny_bind (wpAny_mono g1 (fun _ t2 g2=>?_) fun _ _ z=>z.elim)
  refine wpAny_bind (wpAny_mono g2 (fun _ t3 g3=>wpAny_bind (wpAny_mono g3 (fun yes t4 g4=>?_) fun _ _ z=>z.elim)) fun _ _ z=>z.elim)
  cases yes with
  | true=>exact wpAny_bind (wpAny_bind (wpAny_mono g4 (fun y t5 g5=>wpAny_bind (wpAny_mono g5 (fun _ t6 g6=>wpAny_pure (wpAny_pure ⟨rfl,g6⟩)) fun _ _ z=>z.elim)) fun _ _ z=>z.elim))
  | false=>exact wpAny_pure ⟨rfl,g4⟩
noncomputable abbrev pU (X:Cx) (N:List Str) (s₀:Shared) (H₀:Hp) (sc:Scope) (cl:List (Str×Addr)) (C:Addr) (ex:List Addr) (pins:List (Addr×Obj)):Cx where
 prog:=X.prog
 w:=X.w
 K:=X.K
 mg:=X.mg
 base:=X.base
 A:=X.A
 N:=N
 s₀:=s₀
 H₀:=H₀
 env:=compEnvC sc cl C X.env
 outer:=X.stack
 stack:=X.stack
 ex:=ex
 fn:=fun _=>false
 calm:=X.calm
 pn:=X.pn++pins
 xe:=fun _ _=>False
noncomputable def mW (sc:Scope) (env:Env):List (Str×Addr):=sc.names.foldl (fun cs y=>if y.2 == .free then (y.1,(env.cells.lookup y.1).getD 0)::cs else cs) []
theorem yg {sc:Scope} {env:Env} (h:∀ y∈sc.names,y.2=.free->∃ c,env.cells.lookup y.1=some c):closureFor sc env=pure (mW sc env):=by
 unfold closureFor mW
 have key:∀ (l:List (Str×NameKind)) (cs:List (Str×Addr)),(∀ y∈l,y.2=.free->∃ c,env.cells.lookup y.1=some c) ->
   (forIn l cs (fun (x:Str×NameKind) (r:List (Str×Addr))=>if (x.2 == NameKind.free)=true then do let a <- cellOf env x.1;pure (ForInStep.yield ((x.1,a)::r)) else pure (ForInStep.yield r)):Sem (List (Str×Addr))) =
    pure (l.foldl (fun cs y=>if y.2 == .free then (y.1,(env.cells.lookup y.1).getD 0)::cs else cs) cs):=by
  intro l
  induction l with
  | nil=>intro cs _;rfl
  | cons y l ih =>
   intro cs hl
   rw [List.forIn_cons,List.foldl_cons]
   by_cases hk:(y.2 == NameKind.free)=true
   ·obtain ⟨c,hc⟩:=hl y List.mem_cons_self (by simpa using hk)
    rw [if_pos hk,if_pos hk]
    unfold cellOf
    rw [hc]
    exact ih _ fun z hz=>hl z (List.mem_cons_of_mem _ hz)
   ·rw [if_neg hk,if_neg hk]
    exact ih _ fun z hz=>hl z (List.mem_cons_of_mem _ hz)
 have:=key sc.names [] h
 simp only [] at this ⊢
 rw [this]
 rfl
theorem Xh {sc:Scope} {env:Env}:∀ y∈mW sc env,(∃ k∈sc.names,k.1=y.1/\k.2=.free)/\y.2=(env.cells.lookup y.1).getD 0:=by
 unfold mW
 have key:∀ (l:List (Str×NameKind)) (cs:List (Str×Addr)) (y:Str×Addr),y∈l.foldl (fun cs y=>if y.2 == .free then (y.1,(env.cells.lookup y.1).getD 0)::cs else cs) cs ->
   y∈cs∨((∃ k∈l,k.1=y.1/\k.2=.free)/\y.2=(env.cells.lookup y.1).getD 0):=by
  intro l
  induction l with
  | nil=>intro cs y h;exact .inl h
  | cons z l ih =>
   intro cs y h
   rw [List.foldl_cons] at h
   rcases ih _ y h with h|⟨⟨k,hk,e⟩,e2⟩
   ·by_cases hz:(z.2 == NameKind.free)=true
    ·rw [if_pos hz] at h
     rcases List.mem_cons.mp h with e|h
     ·subst e
      exact .inr ⟨⟨z,List.mem_cons_self,rfl,by simpa using hz⟩,rfl⟩
     ·exact .inl h
    ·rw [if_neg hz] at h;exact .inl h
   ·exact .inr ⟨⟨k,List.mem_cons_of_mem _ hk,e⟩,e2⟩
 intro y hy
 rcases key sc.names [] y hy with h|h
 ·cases h
 ·exact h
theorem KJ {sc:Scope} {env:Env} {n:Str} (h:(n,NameKind.free)∈sc.names):∃ c,(mW sc env).lookup n=some c:=by
 have key:∀ (l:List (Str×NameKind)) (cs:List (Str×Addr)),((n,NameKind.free)∈l∨∃ c,cs.lookup n=some c)->∃ c,(l.foldl (fun cs y=>if y.2 == .free then (y.1,(env.cells.lookup y.1).getD 0)::cs else cs) cs).lookup n=some c:=by
  intro l
  induction l with
  | nil =>
   intro cs h
   rcases h with h|h
   ·cases h
   ·exact h
  | cons z l ih =>
   intro cs h
   rw [List.foldl_cons]
   refine ih _ ?_
   rcases h with h|⟨c,hc⟩
   ·rcases List.mem_cons.mp h with e|h
    ·subst e
     refine .inr ⟨(env.cells.lookup n).getD 0,?_⟩
     rw [if_pos (by rfl),List.lookup_cons_self]
    ·exact .inl h
   ·right
    by_cases hz:(z.2 == NameKind.free)=true
    ·rw [if_pos hz]
     by_cases e:n=z.1
     ·subst e;exact ⟨_,List.lookup_cons_self⟩
     ·exact ⟨c,by rw [List.lookup_cons,show (n == z.1)=false by simpa using e];exact hc⟩
    ·rw [if_neg hz];exact ⟨c,hc⟩
 exact key sc.names [] (.inl h)
section
variable {X:Cx} {pins:List (Addr×Obj)} {σ:St} {H:Hp} {s:Shared}
theorem jN {sc:Scope} {env:Env} {x:Str} {k:NameKind} (h:(relabel sc env).names.lookup x=some k):(∃ k',sc.names.lookup x=some k'/\(k'=k∨(k'=.free/\k=.cell))):=by
 have key:∀ l:List (Str×NameKind),List.lookup x (l.map fun (n,k)=>if (k == .free && env.scope.kind == .function && env.kindOf n == some .cell) then (n,NameKind.cell) else (n,k))=some k ->
   ∃ k',l.lookup x=some k'/\(k'=k∨(k'=.free/\k=.cell)):=by
  intro l
  induction l with
  | nil=>intro h;cases h
  | cons y l ih =>
   intro h
   obtain ⟨n,kk⟩:=y
   rw [List.map_cons] at h
   by_cases e:(x == n)=true
   ·refine ⟨kk,by rw [List.lookup_cons,e],?_⟩
    dsimp only at h
    split at h
    ·rename_i hc
     rw [List.lookup_cons,e] at h
     have h':NameKind.cell=k:=Option.some.inj h
     exact .inr ⟨by simp only [Bool.and_eq_true,beq_iff_eq] at hc;exact hc.1.1,h'.symm⟩
    ·rw [List.lookup_cons,e] at h
     exact .inl (Option.some.inj h)
   ·have e':(x == n)=false:=by simpa using e
    obtain ⟨k',a,b⟩:=ih (by
     dsimp only at h
     split at h <;> (rw [List.lookup_cons,e'] at h;exact h))
    exact ⟨k',by rw [List.lookup_cons,e'];exact a,b⟩
 exact key sc.names h
structure Hq (X:Cx) (sc:Scope) (N:List Str) (nt:Nat) (caps:List Nat):Prop where
 kind:sc.kind=.function
 Xi:∀ y∈sc.names,y.2≠.cell
 fr:∀ y∈sc.names,y.2=.free->X.env.kindOf y.1=some .cell∨X.env.kindOf y.1=some .free
 len:N.length=nt + caps.length
 cap:∀ (j i:Nat) (x:Str),caps[j]?=some i->N[nt + j]?=some x->X.N[i]?=some x/\sc.names.lookup x=some .free
theorem Hq.cells {sc:Scope} {N:List Str} {nt:Nat} {caps:List Nat} (c:Hq X sc N nt caps) (I:Inv X pins σ H s):∀ y∈sc.names,y.2=.free->∃ a,X.env.cells.lookup y.1=some a :=
 fun y hy hf=>I.ok.has y.1 (c.fr y hy hf)
theorem Hq.cl {sc:Scope} {N:List Str} {nt:Nat} {caps:List Nat} (c:Hq X sc N nt caps) (I:Inv X pins σ H s) {x:Str} {a:Addr} (h:(mW sc X.env).lookup x=some a):X.env.cells.lookup x=some a:=by
 have hm:=PySem.mem_of_lookup h
 obtain ⟨⟨k,hk,e1,e2⟩,e3⟩:=Xh _ hm
 obtain ⟨b,hb⟩:=c.cells I k hk e2
 rw [e1] at hb
 dsimp only at e3 hb
 rw [hb] at e3
 rw [hb,e3];rfl
noncomputable def pW (nt:Nat) (caps:List Nat) (σ:St):St:=List.replicate nt none++caps.map fun i=>(σ[i]?).getD none
theorem Ot {sc:Scope} {N:List Str} {nt:Nat} {caps:List Nat} {fp:List Addr} {h':Heap} {tk:Nat} (c:Hq X sc N nt caps) (I:Inv X pins σ H s) (hfp:∀ b∈fp,yc X pins H b/\b < s.heap.objs.size)
  (hn:h'.Ns s.heap.objs.size fun _=>none) (hk:∀ b o,s.heap.get? b=some o->h'.get? b=some o) :
  Inv (pU X N s H sc (mW sc X.env) s.heap.objs.size fp pins) [] (pW nt caps σ) H { s with heap:=h',toks:=tk }:=by
 have clX:∀ {x:Str} {a:Addr},(mW sc X.env).lookup x=some a->X.env.cells.lookup x=some a:=fun h=>c.cl I h
 have stk:∀ b,b≠X.env.locals->b∉X.fs->b∉uK X.stack:=fun b h1 h2 h3=>(List.mem_cons.mp (I.yK b h3)).elim h1 h2
 refine ⟨⟨I.ok.mod,c.kind,I.ok.glob,I.ok.blt,Nat.le_refl _,fun x y a h1 h2=>I.ok.inj x y a (clX h1) (clX h2),fun x hx=>?_,fun x a hf=>absurd (show false=true from hf) Bool.false_ne_true,I.ok.hd,I.ok.frames,.inl rfl,fun b hb=>⟨Nat.ne_of_lt (hfp b hb).2,fun x a ha=>(hfp b hb).1.2.2.2.2.1 x a (clX ha)⟩,
  fun b o e=>I.bs b o e,Nat.le_trans I.ok.bsz I.sz,fun b o e hb=>?_,fun b hb=>stk b (hfp b hb).1.2.1 (hfp b hb).1.2.2.1,I.stack,I.GD⟩,
  rfl,I.bare,Un.kept hk,⟨_,hn,fun i x v h1 h2 h3=>?_⟩,fun x a ha=>?_,I.hok.fresh (Nat.le_refl _),fun x a ha=>I.pJ x a (clX ha),fun p hp=>?_,I.hok.kept hk,?_⟩
 ·-- has
  have hx':(relabel sc X.env).names.lookup x=some .cell∨(relabel sc X.env).names.lookup x=some .free:=hx
  have:sc.names.lookup x=some .free:=by
   rcases hx' with hx'|hx'
   ·obtain ⟨k',h1,h2⟩:=jN hx'
    rcases h2 with h2|⟨h2,_⟩
    ·subst h2;exact (c.Xi _ (PySem.mem_of_lookup h1) rfl).elim
    ·rw [h1,h2]
   ·obtain ⟨k',h1,h2⟩:=jN hx'
    rcases h2 with h2|⟨h2,e⟩
    ·rw [h1,h2]
    ·cases e
  exact KJ (PySem.mem_of_lookup this)
 ·-- Ss
  obtain ⟨_,_,_,h4,_⟩:=(hfp b hb).1
  rcases h4 with h4|h4
  ·exact I.ok.Ss b o e h4
  ·exact absurd (Nat.lt_of_lt_of_le (Heap.lt_size e) (Nat.le_trans I.ok.bsz h4)) (Nat.lt_irrefl _)
 ·-- loc
  unfold pW at h2
  by_cases hi:i < (List.replicate nt (none:Option V)).length
  ·rw [List.getElem?_append_left hi,List.getElem?_replicate] at h2
   split at h2 <;> cases h2
  ·rw [List.getElem?_append_right (by omega),List.getElem?_map] at h2
   rw [List.length_replicate] at h2 hi
   cases e:caps[i - nt]? with
   | none=>rw [e] at h2;cases h2
   | some k =>
    rw [e] at h2
    have h2':(σ[k]?).getD none=some v:=Option.some.inj h2
    have hs:σ[k]?=some (some v):=by
     cases e3:σ[k]? with
     | none=>rw [e3] at h2';cases h2'
     | some z=>rw [e3] at h2';exact congrArg some h2'
    obtain ⟨hX,hl0⟩:=c.cap (i - nt) k x e (by rw [show nt + (i - nt)=i by omega];exact h1)
    have hf:(x,NameKind.free)∈sc.names:=PySem.mem_of_lookup hl0
    obtain ⟨m,_,hl⟩:=I.loc
    have hkind:=c.fr _ hf rfl
    obtain ⟨u,r,l⟩:=hl k x v hX hs (by rcases hkind with q|q;exact .inr (.inl q);exact .inr (.inr q))
    refine ⟨u,r,.inr ⟨?_,?_⟩⟩
    ·have h3':(relabel sc X.env).names.lookup x=some .local∨(relabel sc X.env).names.lookup x=some .cell∨(relabel sc X.env).names.lookup x=some .free:=h3
     rcases h3' with q|q|q
     ·obtain ⟨k',a1,a2⟩:=jN q
      exfalso
      rw [hl0] at a1
      cases a1
      rcases a2 with a2|⟨_,a2⟩ <;> cases a2
     ·exact .inl q
     ·exact .inr q
    ·obtain ⟨cc,hcc⟩:=KJ (env:=X.env) hf
     refine ⟨cc,hcc,?_⟩
     rcases l with ⟨q,_⟩|⟨_,c2,hc2,z⟩
     ·rcases hkind with q'|q' <;> (rw [q] at q';cases q')
     ·rw [clX hcc] at hc2
      cases hc2
      obtain ⟨o,ho,hd⟩:=z
      exact ⟨o,hk _ _ ho,hd⟩
 ·obtain ⟨v,o,ho,hd⟩:=I.cell x a (clX ha)
  exact ⟨v,o,hk _ _ ho,hd⟩
 ·rw [List.append_nil] at hp
  obtain ⟨e,n,ne,nf,d⟩:=I.pin p hp
  exact ⟨hk _ _ e,n,Nat.ne_of_lt (Heap.lt_size e),stk _ ne nf,d⟩
 ·unfold pW
  rw [List.length_append,List.length_replicate,List.length_map]
  exact c.len.symm
end
end Vl
namespace Vl
open PySem PySem.Spec L2
noncomputable def Yl (K:PySem.W.Frag) (J:It) (ds:List D) (G:Hp):Prop:=∀ (i:Nat) (G1 H1:Hp),Same G G1->Ext G1 H1 G1 H1 ->
 (∀ d,ds[i]?=some d->J.go i H1/\∀ x H2,J.yld i H1 x H2->∃ G2,Ext G1 H1 G2 H2/\Rep K G2 d x)/\(ds.length<=i->J.stop i H1)
noncomputable def Xj (K:PySem.W.Frag) (W:Wi) (σ:St) (G H:Hp) (r:Rs (List D)) (R:It->Hp->Prop):Prop :=
 match r with
 | .ok ds=>∀ J H' G',Ext G H G' H'->Yl K J ds G'->R J H'
 | .ex c n=>∀ H' G',Ext G H G' H'->W c n σ H'
 | .no=>False
noncomputable def tI (K:PySem.W.Frag) (B:Hp×Hp) (W:Wi) (f:aJ->Rs (List D)):TI:=fun σ H R=>∃ ρ G,SR K B σ H ρ G/\Xj K W σ G H (f ρ) R
noncomputable def SI (X:Cx) (B:Hp×Hp) (W:Wi) (tg iter:Expr) (f:aJ->Rs (List D)):Prop:=PI X tg iter (tI X.K B W f)
noncomputable def asL:D->Rs (List D)
 | .lst ds=>.ok ds
 | _=>.no
noncomputable def Wa:D->Rs (List D)
 | .tup ds=>.ok ds
 | _=>.no
section
variable {X:Cx} {K:PySem.W.Frag} {B:Hp×Hp} {W:Wi} {σ:St} {G H:Hp} {ρ:aJ} {tg iter:Expr} {f:aJ->Rs D}
theorem PI.imp {t t':TI} (h:PI X tg iter t) (i:∀ σ H R,t' σ H R->t σ H R):PI X tg iter t':=fun pins s σ H R I q=>h pins s σ H R I (i σ H R q)
theorem aeG {a:Addr} {ds:List D} {vs:List V} (q:mj K G a vs) (r:bQ K G ds vs):Yl K (Itt K a) ds G:=by
 intro i G1 H1 gg e
 have q1:=Same.ji e.gh (Same.ji gg q)
 refine ⟨fun d hd=>?_,fun hl=>⟨vs,q1,by rw [<- r.length];exact hl⟩⟩
 obtain ⟨v,hv,rv⟩:=r.get hd
 refine ⟨⟨vs,v,q1,hv⟩,fun x H2 y=>?_⟩
 obtain ⟨e2,y⟩:=y
 subst e2
 have:=y vs q1
 rw [hv] at this
 cases this
 exact ⟨G1,e,rv.mono gg⟩
theorem QW {as:D->Rs (List D)} {r:Rs D} {R:It->Hp->Prop} {Q:VK} (p:Xj K W σ G H (r.bind as) R) (h:∀ d v H' G' ds,as d=.ok ds->Ext G H G' H'->Rep K G' d v->(∀ J VN G'',Ext G' H' G'' VN->Yl K J ds G''->R J VN)->Q v H') (hn:∀ d c n,as d≠.ex c n):Post K W σ G H r Q:=by
 cases r with
 | ok d =>
  intro v H' G' e rv
  have p':Xj K W σ G H (as d) R:=p
  cases e1:as d with
  | ok ds=>rw [e1] at p';exact h d v H' G' ds e1 e rv fun J VN G'' e' y=>p' J VN G'' (e.trans e') y
  | ex c n=>exact (hn d c n e1).elim
  | no=>rw [e1] at p';exact p'.elim
 | ex c n=>exact p
 | no=>exact p
theorem abt (hi:SE X B W iter f):SI X B W tg iter (fun ρ=>(f ρ).bind asL):=by
 refine PI.imp (QD hi) fun σ H R ⟨ρ,G,s,p⟩=>⟨ρ,G,s,QW p (fun d v H' G' ds e1 e rv k=>?_) (fun d c n z=>by cases d <;> cases z)⟩
 cases d with
 | lst es =>
  cases e1
  obtain ⟨a,vs,rfl,q,rr⟩:=aN.mp rv
  refine ⟨a,rfl,⟨vs,e.gh.seq q⟩,k _ H' G' (.refl e.gh e.tp) ?_⟩
  intro i G1 H1 gg e'
  have q1:=e'.gh.seq (gg.seq q)
  refine ⟨fun d hd=>?_,fun hl=>⟨vs,q1,by rw [<- rr.length];exact hl⟩⟩
  obtain ⟨v,hv,rv⟩:=rr.get hd
  refine ⟨⟨vs,v,q1,hv⟩,fun x H2 y=>?_⟩
  obtain ⟨e2,y⟩:=y
  subst e2
  have:=y vs q1
  rw [hv] at this
  cases this
  exact ⟨G1,e',rv.mono gg⟩
 | _=>cases e1
theorem aeH (hi:SE X B W iter f):SI X B W tg iter (fun ρ=>(f ρ).bind Wa):=by
 refine PI.imp (adV hi) fun σ H R ⟨ρ,G,s,p⟩=>⟨ρ,G,s,QW p (fun d v H' G' ds e1 e rv k=>?_) (fun d c n z=>by cases d <;> cases z)⟩
 cases d with
 | tup es =>
  cases e1
  obtain ⟨a,vs,rfl,q,rr⟩:=aO.mp rv
  exact ⟨a,rfl,⟨vs,Same.ji e.gh q⟩,k _ H' G' (.refl e.gh e.tp) (aeG q rr)⟩
 | _=>cases e1
noncomputable def Xk (ρ:aJ):Prop:=∀ (i:Nat) (z:Sl),ρ[i]?=some z->z.own=true->False
noncomputable def Hr (h:Tg):Prop:=∀ d ρ ρ',Xk ρ->h d ρ=some ρ'->Xk ρ'
noncomputable def gF (nt:Nat) (caps:List Nat) (ρ:aJ):aJ:=List.replicate nt .no++caps.map fun i=>match ρ[i]? with|some (.fz d)=>.fz d|_=>.no
noncomputable def eV (h:Tg) (ft:aJ->Rs Bool) (fe:aJ->Rs D):List D->aJ->Rs (List D)
 | [],_=>.ok []
 | d::ds,ρ=>match h d ρ with
  | none=>.no
  | some ρ1=>(ft ρ1).bind fun b=>if b=true then (fe ρ1).bind fun y=>(eV h ft fe ds ρ1).bind fun ys=>.ok (y::ys) else eV h ft fe ds ρ1
theorem tY {nt:Nat} {caps:List Nat} {ρ:aJ}:Xk (gF nt caps ρ):=fun i z q w=>by
 unfold gF at q
 by_cases hi:i < (List.replicate nt Sl.no).length
 ·rw [List.getElem?_append_left hi,List.getElem?_replicate] at q
  split at q <;> cases q
  cases w
 ·rw [List.getElem?_append_right (by omega),List.getElem?_map] at q
  cases e:caps[i - (List.replicate nt Sl.no).length]? with
  | none=>rw [e] at q;cases q
  | some k =>
   rw [e] at q
   have q':(match ρ[k]? with|some (.fz d)=>Sl.fz d|_=>.no)=z:=Option.some.inj q
   split at q' <;> (subst q';cases w)
theorem abu {nt:Nat} {caps:List Nat} {p:Addr} (s:SR K B σ H ρ G) (hp:H p=none):SR K (G,H) (pW nt caps σ) (gC H p (.lst [])) (gF nt caps ρ) G:=by
 refine ⟨abh s.en.gh s.en.tp hp,by simp [pW,gF],fun i d q=>?_,fun i z q w=>(tY i z q w).elim,fun i j z z' a q w=>(tY i z q w).elim⟩
 unfold gF at q
 unfold pW
 by_cases hi:i < nt
 ·rw [List.getElem?_append_left (by simpa using hi),List.getElem?_replicate] at q
  split at q <;> cases q
 ·rw [List.getElem?_append_right (by simpa using hi),List.getElem?_map,List.length_replicate] at q
  rw [List.getElem?_append_right (by simpa using hi),List.getElem?_map,List.length_replicate]
  cases e:caps[i - nt]? with
  | none=>rw [e] at q;cases q
  | some k =>
   rw [e] at q
   have q':(match ρ[k]? with|some (.fz d)=>Sl.fz d|_=>.no)=.fz d:=Option.some.inj q
   cases e2:ρ[k]? with
   | none=>rw [e2] at q';cases q'
   | some z =>
    rw [e2] at q'
    cases z with
    | fz d' =>
     cases q'
     obtain ⟨v,h1,h2⟩:=s.fz k _ e2
     exact ⟨v,by simp [h1],h2⟩
    | no=>cases q'
    | ow _=>cases q'
    | od _=>cases q'
theorem SR.off {p:Addr} {vs us:List V} (s:SR K B σ H ρ G) (hn:Xk ρ) (hp:H p=some (.lst vs)) (g:G p=none) (b:B.2 p=none):SR K B σ (gC H p (.lst us)) ρ G:=by
 refine ⟨⟨s.en.gg,fun c o z=>?_,fun c o z=>?_,fun c xs z=>?_,s.en.nw⟩,s.len,s.fz,fun i z q w=>(hn i z q w).elim,fun i j z z' a q w=>(hn i z q w).elim⟩
 ·rw [bf (bh z b)];exact s.en.hh c o z
 ·rw [bf (bh z g)];exact s.en.gh c o z
 ·by_cases w:c=p
  ·subst w;rw [aY] at z;cases z
  ·rw [bf w] at z;exact s.en.tp c xs z
noncomputable def jy (h:Tg) (ft:aJ->Rs Bool) (fe:aJ->Rs D) (nt:Nat) (caps:List Nat) (f:aJ->Rs (List D)):aJ->Rs D:=fun ρ =>
 (f ρ).bind fun ds=>yX ((eV h ft fe ds (gF nt caps ρ)).bind fun ys=>if ys.length<=1000000 then .ok (.lst ys) else .no)
theorem Hs {prog:Program} {w:World} {A:Around} {E:Value->Shared->Prop} {s:Shared} {env:Env} {Q:Bool->Shared->Prop} (h:Q true s) :
  wpAny (model prog w) A (forIn ([]:List Expr) true fun c r=>if r=true then do let ok <- isTrue c env (eval c env);pure (ForInStep.yield ok) else pure (ForInStep.yield r)) Q E s:=by
 simp only [List.forIn_nil]
 exact wpAny_pure h
set_option maxHeartbeats 8000000 in
theorem Tn {elt:Expr} {ifs:List Expr} {sc:Scope} {pos:Pos} {N:List Str} {nt:Nat} {caps:List Nat} {h:Tg} {ft:aJ->Rs Bool} {fe:aJ->Rs D} {fi:aJ->Rs (List D)}
  (c:Hq X sc N nt caps) (hc:X.calm=true) (hnames:∀ y∈sc.names,y.2=.local->sc.names.lookup y.1=some .local) (hi:SI X B W tg iter fi) (hno:Hr h)
  (ht:∀ s₀ H₀ C ex pins B',SG (pU X N s₀ H₀ sc (mW sc X.env) C ex pins) B' tg h)
  (hif:(ifs=[]/\ft=fun _=>.ok true)∨∃ c,ifs=[c]/\∀ s₀ H₀ C ex pins B',ST (pU X N s₀ H₀ sc (mW sc X.env) C ex pins) B' WF c ft)
  (he:∀ s₀ H₀ C ex pins B',SE (pU X N s₀ H₀ sc (mW sc X.env) C ex pins) B' WF elt fe)
  (hs:∀ x,foldedSetIterable iter X.env x=pure x)
  {use:Option (Value->Sem Unit)} {QQ:Value->Shared->Prop} {pins:List (Addr×Obj)} {s:Shared} {σ:St} {H G:Hp} {ρ:aJ} (I:Inv X pins σ H s) (sr:SR X.K B σ H ρ G)
  (p:match jy h ft fe nt caps fi ρ with
   | .ok d=>∀ (D' C:Addr) (H' G':Hp) (s5:Shared) (fl:Flow),Ext G H G' H'->Rep X.K G' d (.ref D')->(∃ m,s5.heap.Ns C m)->yc X pins H' C->(∀ h',Heap.SameBut C s5.heap h'->Inv X pins σ H' { s5 with heap:=h' })->compPost (model X.prog X.w) X.A X.xe use QQ (.ref D') C (.ok fl) s5
   | .ex c n=>∀ H' G',Ext G H G' H'->W c n σ H'
   | .no=>False) :
  wpAny (model X.prog X.w) X.A (comprehension (.ListComp elt [⟨tg,iter,ifs,0⟩] sc pos) sc X.env (firstIterPos [⟨tg,iter,ifs,0⟩] pos) (newList []) (firstAsync [⟨tg,iter,ifs,0⟩]) (firstIter [⟨tg,iter,ifs,0⟩] X.env) use) QQ X.xe s:=by
 refine wpAny_comprehension_free (use:=use) (cl:=mW sc X.env) rfl hs (yg (c.cells I)) c.kind hnames ?_
 show wpAny (model X.prog X.w) X.A (eval iter X.env) _ X.xe s
 refine wpAny_mono (hi pins s σ H (fun J H2=>∃ G2 ds,Ext G H G2 H2/\Yl X.K J ds G2/\∃ YS,eV h ft fe ds (gF nt caps ρ)=.ok YS/\YS.length<=1000000/\∀ (D' C:Addr) (H' G':Hp) (s5:Shared) (fl:Flow),Ext G H G' H'->Rep X.K G' (.lst YS) (.ref D')->(∃ m,s5.heap.Ns C m)->yc X pins H' C->(∀ h',Heap.SameBut C s5.heap h'->Inv X pins σ H' { s5 with heap:=h' })->compPost (model X.prog X.w) X.A X.xe use QQ (.ref D') C (.ok fl) s5) I ⟨ρ,G,sr,?_⟩) (fun v s1 h1=>wpAny_mono h1 (fun itv s2 h2=>?_) fun _ _ z=>z) fun _ _ z=>z
 ·unfold jy at p
  cases e:fi ρ with
  | ok ds =>
   rw [e] at p
   have p2:match yX ((eV h ft fe ds (gF nt caps ρ)).bind fun ys=>if ys.length<=1000000 then .ok (.lst ys) else .no) with
    | .ok d=>∀ (D' C:Addr) (H' G':Hp) (s5:Shared) (fl:Flow),Ext G H G' H'->Rep X.K G' d (.ref D')->(∃ m,s5.heap.Ns C m)->yc X pins H' C->(∀ h',Heap.SameBut C s5.heap h'->Inv X pins σ H' { s5 with heap:=h' })->compPost (model X.prog X.w) X.A X.xe use QQ (.ref D') C (.ok fl) s5
    | .ex c n=>∀ H' G',Ext G H G' H'->W c n σ H'
    | .no=>False:=p
   refine fun J H' G' x y=>⟨G',ds,x,y,?_⟩
   cases e:eV h ft fe ds (gF nt caps ρ) with
   | ok YS =>
    rw [e] at p2
    by_cases hl:YS.length<=1000000
    ·simp only [Rs.bind,if_pos hl,yX] at p2
     exact ⟨YS,rfl,hl,p2⟩
    ·simp only [Rs.bind,if_neg hl,yX] at p2
   | ex c n=>rw [e] at p2;exact p2.elim
   | no=>rw [e] at p2;exact p2.elim
  | ex c n=>rw [e] at p;exact p
  | no=>rw [e] at p;exact p
 obtain ⟨it,fp,tn,J,H2,e,I2,T,st2,f2,G2,ds,x2,yl,YS,hYS,hlen,hQ⟩:=h2
 subst e
 refine wpAny_newObj_type (wpAny_newFunctionEnv c.Xi (by intro y hy;simp at hy) (fun h₁ hns₁ hsb₁=>?_) c.kind)
 have hD2:H2 s2.heap.objs.size=none:=I2.fresh
 have I3:=I2.agH (ys:=[]) (its:=[]) (t':=s2.toks) .nil (by simp)
 have sr2:SR X.K B σ H2 ρ G2:=sr.ext x2
 have fpl:∀ b∈fp,b < s2.heap.objs.size:=fun b hb=>by
  obtain ⟨o,ho,_⟩:=T.obj 0 _ st2 b hb
  exact Heap.lt_size ho
 have hk:∀ b o,(s2.heap.push { cls:=.type "list",data:=.seq ([]:List Value).toArray }).get? b=some o->h₁.get? b=some o:=fun b o z =>
  (hsb₁.2 b (Nat.ne_of_lt (Heap.lt_size z))).trans (Heap.get?_push_of_some _ z)
 have agM:∀ b∈fp,yc X pins (gC H2 s2.heap.objs.size (.lst [])) b/\b < (s2.heap.push { cls:=.type "list",data:=.seq ([]:List Value).toArray }).objs.size:=fun b hb=>by
  obtain ⟨g1,g2⟩:=f2 b hb
  refine ⟨⟨?_,g2⟩,?_⟩
  ·rw [bf (Nat.ne_of_lt (fpl b hb))];exact g1
  ·rw [Heap.size_push];exact Nat.lt_succ_of_lt (fpl b hb)
 have IY:=Ot (h':=h₁) (tk:=s2.toks + ([]:List (Str×Value)).length) c I3 agM hns₁ hk
 generalize hC:(s2.heap.push { cls:=.type "list",data:=.seq ([]:List Value).toArray }).objs.size=C at *
 have srY:=abu (nt:=nt) (caps:=caps) sr2 hD2
 have stk:∀ b,b≠X.env.locals->b∉X.fs->b∉uK X.stack:=fun b h1 h2 h3=>(List.mem_cons.mp (I2.yK b h3)).elim h1 h2
 have hCl:s2.heap.objs.size + 1=C:=by rw [<- hC,Heap.size_push]
 have stat:∀ {H':Hp},(∀ b∈fp,H' b=none)->∀ b∈fp,yc (pU X N { s2 with heap:=s2.heap.push { cls:=.type "list",data:=.seq ([]:List Value).toArray },toks:=s2.toks } (gC H2 s2.heap.objs.size (.lst [])) sc (mW sc X.env) C fp pins) [] H' b:=fun {H'} hn b hb=>by
  obtain ⟨_,g2,g3,g4,g5,g6⟩:=f2 b hb
  refine ⟨hn b hb,?_,stk b g2 g3,.inl hb,fun x a ha=>g5 x a (c.cl I2 ha),fun p hp=>?_⟩
  ·show b≠C
   exact Nat.ne_of_lt (hCl▸Nat.lt_succ_of_lt (fpl b hb))
  ·rw [List.append_nil] at hp;exact g6 p hp
 let Y:=pU X N { s2 with heap:=s2.heap.push { cls:=.type "list",data:=.seq ([]:List Value).toArray },toks:=s2.toks } (gC H2 s2.heap.objs.size (.lst [])) sc (mW sc X.env) C fp pins
 let D':=s2.heap.objs.size
 let Jn:Nat->Shared->Prop:=fun n s4=>∃ (i:Nat) (ρ':aJ) (σ':St) (H' G':Hp) (yds:List D) (Wb:List V) (rest:List D),Inv Y [] σ' H' s4/\tn i s4.heap/\(∀ b∈fp,H' b=none)/\SR X.K (G2,H2) σ' H' ρ' G'/\Xk ρ'/\H' D'=some (.lst Wb)/\G' D'=none /\
  bQ X.K G' yds Wb/\i<=ds.length/\n=ds.length - i/\eV h ft fe (ds.drop i) ρ'=.ok rest/\yds++rest=YS
 have loop:∀ (n:Nat) (s4:Shared),Jn n s4->codeAny (model X.prog X.w) X.A (.compLoop (.ListComp elt [⟨tg,iter,ifs,0⟩] sc pos) 0 (.ref it) (.ref D') Y.env) (compPost (model X.prog X.w) X.A X.xe use QQ (.ref D') C) s4:=by
  intro n0 s40 h0
  refine Ho (J:=Jn) ?_ n0 h0
  rintro n s4 ⟨i,ρ',σ',H',G',yds,Wb,rest,I4,Fg,fr4,sr4,no4,hD4,hG4,ry4,hi4,rfl,hcd,hY⟩
  by_cases hlt:i < ds.length
  ·obtain ⟨yes,_⟩:=yl i G' H' sr4.en.gg sr4.Cp
   obtain ⟨go,yields⟩:=yes ds[i] (by simp [hlt])
   rw [List.drop_eq_getElem_cons hlt] at hcd
   unfold eV at hcd
   cases eh:h ds[i] ρ' with
   | none=>rw [eh] at hcd;cases hcd
   | some ρ1 =>
    rw [eh] at hcd
    dsimp only at hcd
    refine iT (T.item Y rfl rfl rfl hc i [] s4 σ' H' (fun _ _=>False) I4 (stat fr4) Fg go) fun r s5 ⟨u,hr,h5⟩=>?_
    subst hr
    refine iT h5 fun _ s6 ⟨x,H6,I6,r6,y6,st6,fr6⟩=>?_
    obtain ⟨G6,e6,aiU⟩:=yields x H6 y6
    have sr6:=sr4.ext e6
    have I6':=I6.pinned (stat fr6) (T.obj _ _ st6)
    refine iT (ht _ _ _ _ _ (G2,H2) _ s6 σ' H6 x u (fun σ7 H7=>H7=H6/\SR X.K (G2,H2) σ7 H6 ρ1 G6) I6' r6 ⟨ρ',G6,ds[i],sr6,aiU,ρ1,eh,fun σ7 z=>⟨rfl,z⟩⟩) fun _ s7 ⟨σ7,H7,I7,eH7,sr7⟩=>?_
    subst eH7
    have no7:=hno _ _ _ no4 eh
    have again:∀ {σ8:St} {H8:Hp} {s8:Shared},Inv Y ([]++vQ fp s6.heap) σ8 H8 s8->Inv Y [] σ8 H8 s8/\tn (i + 1) s8.heap/\∀ b∈fp,H8 b=none:=fun {σ8 H8 s8} I8=>by
     refine ⟨I8.uM,T.keep _ _ _ st6 fun b hb o e=>(I8.pin (b,o) (List.mem_append_right _ (List.mem_append_right _ (mQ hb e)))).1,fun b hb=>?_⟩
     obtain ⟨o,e,d⟩:=T.obj _ _ st6 b hb
     exact (I8.pin (b,o) (List.mem_append_right _ (List.mem_append_right _ (mQ hb e)))).2.1
    obtain ⟨b,hb,hcd⟩:∃ b,ft ρ1=.ok b/\(if b=true then (fe ρ1).bind fun y=>(eV h ft fe (ds.drop (i + 1)) ρ1).bind fun ys=>.ok (y::ys) else eV h ft fe (ds.drop (i + 1)) ρ1)=.ok rest:=by
     cases e:ft ρ1 with
     | ok b=>rw [e] at hcd;exact ⟨b,rfl,hcd⟩
     | ex c n=>rw [e] at hcd;cases hcd
     | no=>rw [e] at hcd;cases hcd
    have test:wpAny (model X.prog X.w) X.A (forIn ifs true fun c r=>if r=true then do let ok <- isTrue c Y.env (eval c Y.env);pure (ForInStep.yield ok) else pure (ForInStep.yield r)) (TP Y ([]++vQ fp s6.heap) σ7 fun b' H8=>b'=b/\∃ G8,Ext G6 H7 G8 H8) (fun _ _=>False) s7:=by
     rcases hif with ⟨e1,e2⟩|⟨cc,e1,hst⟩
     ·subst e1 e2
      cases hb
      exact Hs ⟨H7,I7,rfl,G6,sr7.Cp⟩
     ·subst e1
      refine wpAny_tests_one (hst _ _ _ _ _ (G2,H2) _ s7 σ7 H7 _ I7 ⟨ρ1,G6,sr7,?_⟩)
      rw [hb]
      exact fun H8 G8 e8=>⟨rfl,G8,e8⟩
    refine iT test fun ok s8 ⟨H8,I8,eb,G8,e8⟩=>?_
    subst eb
    have sr8:=sr7.ext e8
    have hD8:H8 D'=some (.lst Wb):=e8.hh _ _ (e6.hh _ _ hD4)
    have hG8:G8 D'=none:=e8.nw _ _ (e6.hh _ _ hD4) (e6.nw _ _ hD4 hG4)
    have ry8:=(ry4.mono e6.gg).mono e8.gg
    cases ok with
    | true =>
     rw [if_pos rfl] at hcd ⊢
     obtain ⟨y,ys,hy,hys,hr⟩:∃ y ys,fe ρ1=.ok y/\eV h ft fe (ds.drop (i + 1)) ρ1=.ok ys/\rest=y::ys:=by
      cases e:fe ρ1 with
      | ok y =>
       rw [e] at hcd
       have hcd':((eV h ft fe (ds.drop (i + 1)) ρ1).bind fun ys=>Rs.ok (y::ys))=.ok rest:=hcd
       cases e3:eV h ft fe (ds.drop (i + 1)) ρ1 with
       | ok ys=>rw [e3] at hcd';cases hcd';exact ⟨y,ys,rfl,rfl,rfl⟩
       | ex c n=>rw [e3] at hcd';cases hcd'
       | no=>rw [e3] at hcd';cases hcd'
      | ex c n=>rw [e] at hcd;cases hcd
      | no=>rw [e] at hcd;cases hcd
     subst hr
     refine iT (he _ _ _ _ _ (G2,H2) _ s8 σ7 H8 (fun v H9=>∃ G9,Ext G8 H8 G9 H9/\Rep X.K G9 y v) I8 ⟨ρ1,G8,sr8,?_⟩) fun u9 s9 ⟨v9,H9,I9,r9,G9,e9,aja⟩=>?_
     ·rw [hy];exact fun v H9 G9 e9 r=>⟨G9,e9,r⟩
     have hD9:=e9.hh _ _ hD8
     have hG9:=e9.nw _ _ hD8 hG8
     have ryl:=ry8.length
     have hYl:yds.length < 1000000:=by
      have:=congrArg List.length hY
      rw [List.length_append,List.length_cons] at this
      omega
     refine iT (Fd (X:=Y) _ s9 σ7 H9 (.ref D') [v9] (.ref D') [u9] (fun _ H10=>H10=gC H9 D' (.lst (Wb++[v9]))) I9 rfl (.cons r9 .nil) ⟨D',Wb,v9,rfl,rfl,hD9,by rw [<- ryl];exact Nat.lt_of_lt_of_le hYl (by rw [sizeLine_eq];decide),rfl⟩) fun _ s10 ⟨_,H10,I10,_,e10⟩=>?_
     subst e10
     obtain ⟨J1,J2,J3⟩:=again I10
     refine ⟨ds.length - (i + 1),by omega,i + 1,ρ1,σ7,_,G9,yds++[y],Wb++[v9],ys,J1,J2,J3,(sr8.ext e9).off no7 hD9 hG9 hD2,no7,aY,hG9,(ry8.mono e9.gg).append (.one aja),hlt,rfl,hys,by rw [List.append_assoc];exact hY⟩
    | false =>
     rw [if_neg (by simp)] at hcd ⊢
     obtain ⟨J1,J2,J3⟩:=again I8
     exact ⟨ds.length - (i + 1),by omega,i + 1,ρ1,σ7,H8,G8,yds,Wb,rest,J1,J2,J3,sr8,no7,hD8,hG8,ry8,hlt,rfl,hcd,hY⟩
  ·have ei:i=ds.length:=by omega
   subst ei
   obtain ⟨_,no⟩:=yl ds.length G' H' sr4.en.gg sr4.Cp
   rw [List.drop_length] at hcd
   cases hcd
   rw [List.append_nil] at hY
   subst hY
   refine iT (T.done Y rfl rfl rfl hc ds.length [] s4 σ' H' (fun _ _=>False) I4 (stat fr4) Fg (no (Nat.le_refl _))) fun r s5 ⟨hr,I5⟩=>?_
   subst hr
   obtain ⟨m,hm,_⟩:=I5.loc
   have ne:∀ b o,(s2.heap.push { cls:=.type "list",data:=.seq ([]:List Value).toArray }).get? b=some o->b≠C:=fun b o e z=>by
    have:=Heap.lt_size e
    rw [hC,z] at this
    exact Nat.lt_irrefl _ this
   have U:=I5.base
   have fC0:H' C=none:=I5.free
   have IX:∀ h',Heap.SameBut C s5.heap h'->Inv X pins σ H' { s5 with heap:=h' }:=fun h' hs'=>by
    refine I3.call' (ch:=fp) (s':={ s5 with heap:=h' }) I5.os ⟨fun b o e n hb hx=>?_,fun b o e n hb hx=>?_,U.free,fun b o e hx=>?_,U.tups,U.yH,U.Ck⟩ (fun b o e=>?_) I5.bare fun b hb=>?_
    ·exact (hs'.2 b (ne b o e)).trans (U.keep b o e n hb hx)
    ·obtain ⟨sl,q⟩:=U.slot b o e n hb hx
     exact ⟨sl,(hs'.2 b (ne b o e)).trans q⟩
    ·obtain ⟨o',q⟩:=U.there b o e hx
     exact ⟨o',(hs'.2 b (ne b o e)).trans q⟩
    ·have fC:H' C=none:=I5.free
     refine (I5.hok b o e).stay (fun c' u' hc' q=>(hs'.2 c' ?_).trans q) (fun _ q=>q) fun _ _ q=>q
     rintro rfl
     rcases hc' with rfl|hc'
     ·rw [fC] at e;cases e
     ·rw [fC] at hc';cases hc'
    ·obtain ⟨_,g2,_,g4,g5,g6⟩:=f2 b hb
     exact ⟨g4,g2,g5,g6⟩
   refine hQ D' C H' (gC G' D' (.lst Wb)) s5 _ ?_ ?_ ⟨m,hm⟩ (I3.aaP (Nat.le_of_eq hC) fC0) IX
   ·have gg:Same G' (gC G' D' (.lst Wb)):=fun b o z=>by rw [bf (bh z hG4)];exact z
    refine ⟨(x2.gg.trans sr4.en.gg).trans gg,x2.hh.trans sr4.en.hh,fun b o z=>?_,fun b xs z=>?_,fun b o z w=>?_⟩
    ·by_cases e:b=D'
     ·subst e;rw [aY] at z;cases z;exact hD4
     ·rw [bf e] at z;exact sr4.en.gh b o z
    ·by_cases e:b=D'
     ·subst e;rw [hD4] at z;cases z
     ·rw [bf e];exact sr4.en.tp b xs z
    ·have z2:=x2.hh b o z
     rw [bf (bh z2 hD2)]
     exact sr4.en.nw b o z2 (x2.nw b o z w)
   ·have gg:Same G' (gC G' D' (.lst Wb)):=fun b o z=>by rw [bf (bh z hG4)];exact z
    exact aN.mpr ⟨D',Wb,rfl,.of aY,ry4.mono gg⟩
 have first:∀ tk,Jn ds.length { s2 with heap:=h₁,toks:=tk }:=fun tk=>by
  have IY':Inv Y [] (pW nt caps σ) (gC H2 s2.heap.objs.size (.lst [])) { s2 with heap:=h₁,toks:=tk }:=IY.tok tk
  refine ⟨0,gF nt caps ρ,pW nt caps σ,gC H2 D' (.lst []),G2,[],[],YS,IY',T.keep _ _ _ st2 fun b hb o e=>hk b o (Heap.get?_push_of_some _ e),fun b hb=>(agM b hb).1.1,srY,tY,aY,sr2.en.gh.free hD2,bx.mpr rfl,Nat.zero_le _,rfl,by simpa using hYS,rfl⟩
 exact codeAny_compStart_list (loop _ _ (first _)) (T.self _ 0 _ _ _ (T.keep _ _ _ st2 fun b hb o e=>hk b o (Heap.get?_push_of_some _ e)) (loop _ _ (first _)))
theorem abv {elt:Expr} {ifs:List Expr} {sc:Scope} {pos:Pos} {N:List Str} {nt:Nat} {caps:List Nat} {h:Tg} {ft:aJ->Rs Bool} {fe:aJ->Rs D} {fi:aJ->Rs (List D)}
  (c:Hq X sc N nt caps) (hc:X.calm=true) (hnames:∀ y∈sc.names,y.2=.local->sc.names.lookup y.1=some .local) (hi:SI X B W tg iter fi) (hno:Hr h)
  (ht:∀ s₀ H₀ C ex pins B',SG (pU X N s₀ H₀ sc (mW sc X.env) C ex pins) B' tg h)
  (hif:(ifs=[]/\ft=fun _=>.ok true)∨∃ c,ifs=[c]/\∀ s₀ H₀ C ex pins B',ST (pU X N s₀ H₀ sc (mW sc X.env) C ex pins) B' WF c ft)
  (he:∀ s₀ H₀ C ex pins B',SE (pU X N s₀ H₀ sc (mW sc X.env) C ex pins) B' WF elt fe)
  (hs:∀ x,foldedSetIterable iter X.env x=pure x:=by intro _;rfl) :
  SE X B W (.ListComp elt [⟨tg,iter,ifs,0⟩] sc pos) (jy h ft fe nt caps fi):=by
 intro pins s σ H Q I hw
 obtain ⟨ρ,G,sr,p⟩:=hw
 rw [eval_ListComp]
 refine Tn c hc hnames hi hno ht hif he hs I sr ?_
 cases e:jy h ft fe nt caps fi ρ with
 | ok d =>
  rw [e] at p
  intro D' C H' G' s5 fl x r ⟨m,hm⟩ _ IX
  exact ⟨m,hm,fun h' hs'=>⟨.ref D',H',IX h' hs',rfl,p _ _ _ x r⟩⟩
 | ex c n=>rw [e] at p;exact p
 | no=>rw [e] at p;exact p
end
end Vl
namespace Vl
open PySem PySem.Spec L2
section
variable {X:Cx} {K:PySem.W.Frag} {B:Hp×Hp} {W:Wi} {σ:St} {G H:Hp} {ρ:aJ} {a b:Expr} {pos p:Pos} {fa fb:aJ->Rs D}
noncomputable def agO (K:PySem.W.Frag) (n:Nat):R2:=fun x y H Q=>∃ d d',Rep K H d x/\Rep K H d' y/\cT d<=n/\cT d'<=n/\Q (.bl (rE d d')) H
noncomputable def agP (K:PySem.W.Frag) (n:Nat):R2:=fun x y H Q=>∃ d d',Rep K H d x/\Rep K H d' y/\cT d<=n/\cT d'<=n/\Q (.bl (!rE d d')) H
theorem Xl {n:Nat} (hu:X.A.units + n < cLine):rW X (compareOp .Eq) (agO X.K n):=by
 intro pins s σ H x y v u Q I rx ry ⟨d,d',r,r',hd,hd',q⟩
 exact aer I hd hd' hu r r' rx ry X.prog X.w X.xe _ ⟨.bl _,H,I,rfl,q⟩
theorem Xm {n:Nat} (hu:X.A.units + n < cLine):rW X (compareOp .NotEq) (agP X.K n):=by
 intro pins s σ H x y v u Q I rx ry ⟨d,d',r,r',hd,hd',q⟩
 exact WL I hd hd' hu r r' rx ry X.prog X.w X.xe _ ⟨.bl _,H,I,rfl,q⟩
noncomputable def yZ:D->D->Rs D:=fun x y=>if cT x<=8/\cT y<=8 then .ok (.bl (rE x y)) else .no
noncomputable def Cv:D->D->Rs D:=fun x y=>if cT x<=8/\cT y<=8 then .ok (.bl (!rE x y)) else .no
theorem Xn:VP K (agO K 8) yZ:=by
 intro B W σ ρ G H x y v u Q s rx ry p
 unfold yZ at p
 by_cases h:cT x<=8/\cT y<=8
 ·rw [if_pos h] at p;exact ⟨x,y,rx.mono s.en.gh,ry.mono s.en.gh,h.1,h.2,Post.ok s p (bw.mpr rfl)⟩
 ·rw [if_neg h] at p;exact p.elim
theorem Xo:VP K (agP K 8) Cv:=by
 intro B W σ ρ G H x y v u Q s rx ry p
 unfold Cv at p
 by_cases h:cT x<=8/\cT y<=8
 ·rw [if_pos h] at p;exact ⟨x,y,rx.mono s.en.gh,ry.mono s.en.gh,h.1,h.2,Post.ok s p (bw.mpr rfl)⟩
 ·rw [if_neg h] at p;exact p.elim
theorem cg {k:Nat} (hr:mR k X.A):X.A.units + 8 < cLine:=by have:=hr.un;omega
theorem ada (hu:X.A.units + 8 < cLine) (ha:SE X B W a fa) (hb:SE X B W b fb):SE X B W (.Compare a [.Eq] [b] pos) (bD yZ fa fb):=GZ (Xl hu) Xn ha hb (pL _)
theorem QX (hu:X.A.units + 8 < cLine) (ha:SE X B W a fa) (hb:SE X B W b fb):SE X B W (.Compare a [.NotEq] [b] pos) (bD Cv fa fb):=GZ (Xm hu) Xo ha hb (pL _)
theorem pX (hu:X.A.units + 8 < cLine) (ha:SE X B W a fa) (hb:SE X B W b fb):ST X B W (.Compare a [.Eq] [b] pos) (fT (bD yZ fa fb)):=yS (Xl hu) Xn ha hb (pL _)
theorem QZ (hu:X.A.units + 8 < cLine) (ha:SE X B W a fa) (hb:SE X B W b fb):ST X B W (.Compare a [.NotEq] [b] pos) (fT (bD Cv fa fb)):=yS (Xm hu) Xo ha hb (pL _)
noncomputable def Wc:=gI0 fun i j=>D.bl (decide (i < j))
noncomputable def gLe:=gI0 fun i j=>D.bl (decide (i<=j))
noncomputable def gGt:=gI0 fun i j=>D.bl (decide (j < i))
noncomputable def gGe:=gI0 fun i j=>D.bl (decide (j<=i))
theorem adb (ha:SE X B W a fa) (hb:SE X B W b fb):SE X B W (.Compare a [.Lt] [b] pos) (bD Wc fa fb):=GZ acS (yQ fun _ _ _=>bw.mpr rfl) ha hb (pL _)
theorem KN (ha:SE X B W a fa) (hb:SE X B W b fb):ST X B W (.Compare a [.Lt] [b] pos) (fT (bD Wc fa fb)):=yS acS (yQ fun _ _ _=>bw.mpr rfl) ha hb (pL _)
theorem ade (ha:SE X B W a fa) (hb:SE X B W b fb):ST X B W (.Compare a [.Gt] [b] pos) (fT (bD gGt fa fb)):=yS agu (yQ fun _ _ _=>bw.mpr rfl) ha hb (pL _)
theorem agQ (ha:SE X B W a fa) (hb:SE X B W b fb):ST X B W (.Compare a [.GtE] [b] pos) (fT (bD gGe fa fb)):=yS agv (yQ fun _ _ _=>bw.mpr rfl) ha hb (pL _)
inductive Ty where
 | int|bool|str|tuple|list|dict
noncomputable def Ty.nm:Ty->String
 | .int=>"int"|.bool=>"bool"|.str=>"str"|.tuple=>"tuple"|.list=>"list"|.dict=>"dict"
noncomputable def isD:D->Ty->Bool
 | .int _,.int=>true
 | .bl _,.bool=>true
 | .bl _,.int=>true
 | .str _,.str=>true
 | .tup _,.tuple=>true
 | .lst _,.list=>true
 | _,_=>false
noncomputable def tyD:D->String
 | .non=>"NoneType"|.bl _=>"bool"|.int _=>"int"|.str _=>"str"|.tup _=>"tuple"|.lst _=>"list"|.kh _ _=>""
noncomputable def isX:D->Bool
 | .kh _ _=>true
 | _=>false
theorem agS (d:D) (t:Ty) (hx:isX d=false):PySem.W.kitOne K (.type (tyD d)) (.type t.nm)=some (isD d t):=by
 cases d <;> first|(cases hx;done)|(cases t <;> kernel_rfl)
theorem aeI {pins:List (Addr×Obj)} {s:Shared} {A:Around} {E Q:Value->Shared->Prop} {d:D} {v:V} {u:Value} {t:Ty} (I:Inv X pins σ H s) (hx:isX d=false) (r:Rep X.K H d v) (rv:RelV v u) (h:∀ tk,Q (.bool (isD d t)) { s with toks:=tk }) :
  wpAny (model X.prog X.w) A (call (.builtin "isinstance") [u,.type t.nm]) Q E s:=by
 have e:=agS (K:=X.K) d t hx
 cases d with
 | non=>rw [bM.mp r] at rv;cases rv;exact PySem.W.kia_one PySem.W.kitx_none I.VL True.intro e (fun z=>nomatch z) h
 | bl y=>rw [bw.mp r] at rv;cases rv;exact PySem.W.kia_one PySem.W.kitx_bool I.VL True.intro e (fun z=>nomatch z) h
 | int i=>rw [aL.mp r] at rv;obtain ⟨t,rfl⟩:=rv;exact PySem.W.kia_one PySem.W.kitx_int I.VL True.intro e (fun z=>nomatch z) h
 | str i=>rw [bN.mp r] at rv;obtain ⟨t,rfl⟩:=rv;exact PySem.W.kia_one PySem.W.kitx_str I.VL True.intro e (fun z=>nomatch z) h
 | tup ds =>
  obtain ⟨a,vs,rfl,q,_⟩:=aO.mp r
  cases rv
  obtain ⟨_,_,⟨o,h1,h2,_⟩,_⟩:=I.tuple q
  exact PySem.W.kia_one PySem.W.kitx_tuple I.VL ⟨o,h1,h2⟩ e (fun z=>nomatch z) h
 | lst ds =>
  obtain ⟨a,vs,rfl,q,_⟩:=aN.mp r
  cases rv
  obtain ⟨_,_,⟨o,n,h1,h2,_⟩,_⟩:=I.list q
  exact PySem.W.kia_one PySem.W.kitx_list I.VL ⟨o,h1,h2⟩ e (fun z=>nomatch z) h
 | kh c n=>cases hx
noncomputable def ajc (K:PySem.W.Frag) (t:Ty):List V->Hp->VK->Prop:=fun xs H Q=>∃ v d,xs=[v,.ty t.nm]/\isX d=false/\Rep K H d v/\Q (.bl (isD d t)) H
theorem Xp {t:Ty}:gD X (.builtin "isinstance") (ajc X.K t):=by
 intro pins s σ H xs us Q I r ⟨v,d,e,hx,rd,q⟩
 subst e
 cases r with
 | cons r1 r2 =>
  cases r2 with
  | cons r3 r4 =>
   cases r4
   cases r3
   exact aeI I hx rd r1 fun tk=>⟨.bl _,H,I.tok tk,rfl,q⟩
noncomputable def Tp (t:Ty):D->Rs D:=fun d=>if isX d=false then .ok (.bl (isD d t)) else .no
theorem agT {t:Ty} {x:Str} {e:Expr} {p1 p2:Pos} {f:aJ->Rs D} (hm:X.mg "isinstance"=none) (hmt:X.mg x=none) (he:SE X B W e f) (hv:bootBuiltins x=some (.type t.nm)) (hg:Gl X "isinstance":=by rfl) (hgx:Gl X x:=by rfl)
  (hst:starEach [e,.Name x p2] X.env=[(false,eval e X.env),(false,eval (.Name x p2) X.env)]:=by rfl) (hst2:starEach [.Name x p2] X.env=[(false,eval (.Name x p2) X.env)]:=by rfl) (hn:x≠"__name__":=by decide) (hd:(x == ("__debug__":Str))=false:=by decide) :
  SE X B W (.Call (.Name "isinstance" p1) [e,.Name x p2] [] pos) (fun ρ=>(f ρ).bind (Tp t)):=by
 refine PE.imp (pO (Xp (t:=t)) hg hm PyProof.Rows.boot_isinstance (jB he (jB (aaH (v:=.ty t.nm) hgx hmt hv rfl hn hd) pN (by rw [hst2];rfl)) (by rw [hst,hst2])) (by decide) (by decide) (by rw [hst,hst2]) (by rw [hst2];rfl)) fun σ H Q h=>?_
 obtain ⟨ρ,G,s,p⟩:=mU (k:=fun _=>Tp t) h
 refine ⟨ρ,G,s,p.mono fun v H1 ⟨ρ1,G1,d,s1,r,q⟩=>?_⟩
 unfold Tp at q
 by_cases hx:isX d=false
 ·rw [if_pos hx] at q;exact ⟨v,d,rfl,hx,r.mono s1.en.gh,Post.ok s1 q (bw.mpr rfl)⟩
 ·rw [if_neg hx] at q;exact q.elim
noncomputable def za:List D->Option (List Bool)
 | []=>some []
 | .bl b::ds=>(za ds).map (b::·)
 | _=>none
theorem zc:∀ {ds:List D} {vs:List V} {bs:List Bool},bQ K G ds vs->za ds=some bs->vs=bs.map V.bl
 | [],_,bs,r,e=>by cases e;rw [bx.mp r];rfl
 | .bl b::ds,_,bs,r,e=>by
  obtain ⟨v,vs',rfl,r1,r2⟩:=aR.mp r
  simp only [za] at e
  cases e1:za ds with
  | none=>rw [e1] at e;cases e
  | some cs=>rw [e1] at e;cases e;rw [bw.mp r1,zc r2 e1];rfl
 | .non::_,_,_,_,e=>by cases e
 | .int _::_,_,_,_,e=>by cases e
 | .str _::_,_,_,_,e=>by cases e
 | .tup _::_,_,_,_,e=>by cases e
 | .lst _::_,_,_,_,e=>by cases e
 | .kh _ _::_,_,_,_,e=>by cases e
theorem zf:∀ {bs:List Bool} {us:List Value},Vals (bs.map V.bl) us->us=bs.map Value.bool
 | [],_,.nil=>rfl
 | b::bs,_,.cons r t=>by rw [zf t];cases r;rfl
theorem Tq (bs:List Bool):(List.range bs.length).all (fun i=>bs.getD i false)=bs.all id:=by
 induction bs with
 | nil=>rfl
 | cons b bs ih =>
  rw [List.length_cons,List.range_succ_eq_map,List.all_cons,List.all_map,List.all_cons,<- ih]
  simp [Function.comp_def]
theorem KQ {prog:Program} {w:World} {A:Around} (bs:List Bool):TruthOf prog w A (fun i v=>(bs.map Value.bool).toArray[i]?=some v) fun i=>bs.getD i false:=by
 intro i v s Q E hP hQ
 have hP':(bs.map Value.bool)[i]?=some v:=by simpa using hP
 rw [List.getElem?_map] at hP'
 cases e:bs[i]? with
 | none=>rw [e] at hP';cases hP'
 | some b =>
  rw [e] at hP'
  cases hP'
  dsimp only at hQ
  rw [List.getD_eq_getElem?_getD,e] at hQ
  exact wpAny_truthy_bool hQ
theorem Tt (hc:X.calm=true):gD X (.builtin "all") (fun xs H Q=>∃ (p:Addr) (bs:List Bool),xs=[.ref p]/\pC X.K H p (bs.map V.bl)/\Q (.bl (bs.all id)) H):=by
 intro pins s σ H xs us Q I r ⟨p,bs,e,q,k⟩
 subst e
 obtain ⟨u,rfl,rx⟩:=r.one
 cases rx
 obtain ⟨its,rv,pl,_⟩:=I.list q
 have ei:=zf rv
 subst ei
 refine call_all_walk (wpAny_pyIter_list pl.isList ?_)
 refine ⟨_,_,_,_,_,_,fun i=>bs.getD i false,rfl,Walks.list (by show X.A.handled=none;exact I.ok.hd hc) _ p (Nat.ne_of_lt (by obtain ⟨o,_,e,_⟩:=pl;exact Heap.lt_size e)) (bs.map Value.bool).toArray,⟨⟨_,Heap.get?_push_size _ rfl,rfl,rfl⟩,pl.isList.push _⟩,KQ bs,fun h' tk hk=>?_⟩
 have e:(List.range (bs.map Value.bool).toArray.size).all (fun i=>bs.getD i false)=bs.all id:=by
  rw [List.size_toArray,List.length_map];exact Tq bs
 rw [e]
 refine ⟨.bl _,H,I.kept (t':=tk) (h':=h') fun b o z=>hk b o ?_ (Heap.get?_push_of_some _ z),rfl,k⟩
 intro hb
 have:b=s.heap.objs.size:=by simpa using hb
 rw [this] at z
 exact absurd (Heap.lt_size z) (Nat.lt_irrefl _)
noncomputable def KR:List D->Rs D
 | [.lst ds]=>match za ds with|some bs=>.ok (.bl (bs.all id))|none=>.no
 | _=>.no
theorem aeJ:sS K (fun xs H Q=>∃ (p:Addr) (bs:List Bool),xs=[.ref p]/\pC K H p (bs.map V.bl)/\Q (.bl (bs.all id)) H) KR:=by
 intro B W σ ρ G H ds vs Q s r p
 unfold KR at p
 split at p
 ·rename_i es
  split at p
  ·rename_i bs e
   obtain ⟨v,vs',rfl,r1,r2⟩:=aR.mp r
   obtain ⟨a,us,rfl,q,rr⟩:=aN.mp r1
   rw [bx.mp r2]
   have e2:=zc rr e
   subst e2
   exact ⟨a,bs,rfl,s.en.gh.seq q,Post.ok s p (bw.mpr rfl)⟩
  ·exact p.elim
 ·exact p.elim
end
end Vl
namespace Vl
open PySem PySem.Spec L2
theorem Inv.moved {X:Cx} {pins:List (Addr×Obj)} {σ:St} {H:Hp} {s:Shared} {h':Heap} {t':Nat} (I:Inv X pins σ H s) (ch:List Addr)
  (hch:∀ b∈ch,X.s₀.heap.get? b=none/\b≠X.env.locals/\(∀ x c,X.env.cells.lookup x=some c->c≠b)/\(∀ p∈X.pn++pins,p.1≠b)/\H b=none)
  (keep:∀ b o,b∉uK X.stack->b∉ch->s.heap.get? b=some o->h'.get? b=some o)
  (slot:∀ b o,b∈uK X.stack->s.heap.get? b=some o->∃ sl,h'.get? b=some { o with slots:=sl }):Inv X pins σ H { s with heap:=h',toks:=t' }:=by
 have sub:=I.yK
 have sup:∀ b∈X.fs,b∈uK X.stack:=fun b hb=>by
  rcases I.ok.stk with e|⟨e,hf⟩
  ·rw [e];exact hb
  ·rw [e];unfold uK;rw [List.filterMap_cons,hf];exact List.mem_cons_of_mem _ hb
 have neL:∀ b o,X.s₀.heap.get? b=some o->b≠X.env.locals:=fun b o e=>Nat.ne_of_lt (Nat.lt_of_lt_of_le (Heap.lt_size e) I.ok.above)
 have nch:∀ b o,X.s₀.heap.get? b=some o->b∉ch:=fun b o e z=>by rw [(hch b z).1] at e;cases e
 have any:∀ b o,b∉ch->s.heap.get? b=some o->∃ sl,h'.get? b=some { o with slots:=sl }:=fun b o hc e=>by
  by_cases hb:b∈uK X.stack
  ·exact slot b o hb e
  ·exact ⟨o.slots,keep b o hb hc e⟩
 have lch:X.env.locals∉ch:=fun z=>(hch _ z).2.1 rfl
 have cch:∀ x c,X.env.cells.lookup x=some c->c∉ch:=fun x c e z=>(hch c z).2.2.1 x c e rfl
 have cellK:∀ x c v,X.env.cells.lookup x=some c->s.heap.IsCell c v->h'.IsCell c v:=fun x c v e ⟨o,ho,hd⟩=>by
  obtain ⟨sl,q⟩:=any c o (cch x c e) ho
  exact ⟨_,q,hd⟩
 refine ⟨I.ok,I.os,I.bare,⟨fun b o e n hb hx=>?_,fun b o e n hb hx=>?_,I.base.free,fun b o e hx=>?_,I.base.tups,I.base.yH,I.base.Ck⟩,?_,fun x c e=>?_,I.free,I.pJ,fun p hp=>?_,fun b o e=>?_,I.len⟩
 ·exact keep b o (fun z=>(List.mem_cons.mp (sub b z)).elim (neL b o e) hb) (nch b o e) (I.base.keep b o e n hb hx)
 ·obtain ⟨sl,q⟩:=I.base.slot b o e n hb hx
  obtain ⟨sl',q'⟩:=slot b _ (sup b hb) q
  exact ⟨sl',q'⟩
 ·obtain ⟨o',q⟩:=I.base.there b o e hx
  obtain ⟨sl,q'⟩:=any b o' (nch b o e) q
  exact ⟨_,q'⟩
 ·obtain ⟨m,⟨o,es,ep,ho,r⟩,hl⟩:=I.loc
  obtain ⟨sl,q⟩:=any _ o lch ho
  refine ⟨m,⟨_,es,ep,q,r⟩,fun i x v h1 h2 h3=>?_⟩
  obtain ⟨u,ru,l⟩:=hl i x v h1 h2 h3
  refine ⟨u,ru,?_⟩
  rcases l with l|⟨k,c,e,z⟩
  ·exact .inl l
  ·exact .inr ⟨k,c,e,cellK x c _ e z⟩
 ·obtain ⟨v,z⟩:=I.cell x c e
  exact ⟨v,cellK x c v e z⟩
 ·obtain ⟨e,n,ne,nf,d⟩:=I.pin p hp
  exact ⟨keep _ _ (fun z=>(List.mem_cons.mp (sub _ z)).elim ne nf) (fun z=>(hch _ z).2.2.2.1 p hp rfl) e,n,ne,nf,d⟩
 ·have tr:∀ c u,H c=some u->c∉uK X.stack/\c∉ch:=fun c u z=>⟨fun w=>(by rw [I.GD c w] at z;cases z),fun w=>(by rw [(hch c w).2.2.2.2] at z;cases z)⟩
  refine (I.hok b o e).stay (fun c u hc q=>?_) (fun _ q=>q) fun _ _ q=>q
  rcases hc with hc|hc
  ·subst hc;exact keep c u (tr c _ e).1 (tr c _ e).2 q
  ·exact keep c u (tr c _ hc).1 (tr c _ hc).2 q
noncomputable def Tr (h:Heap) (H:Hp) (old:Heap) (av:List Addr) (ea:Addr) (vs:Array Value):Prop:=∃ T oT ts,vs[1]?=some (.ref T)/\T≠ea/\h.get? T=some oT/\oT.data=.fields ts/\ts[3]?=some .none/\H T=none/\old.get? T=none/\T∉av
noncomputable def Fly (K:PySem.W.Frag) (old:Heap) (av:List Addr) (ea:Addr) (c:Str) (n:Int) (h:Heap) (H:Hp) (tr:Bool):Prop :=
 ∃ C oe vs a0,PySem.W.nsIn K mainGlobals c=some (some (.ref C))/\h.get? ea=some oe/\oe.cls=.ref C/\oe.data=.fields vs/\vs[0]?=some a0/\H ea=none/\old.get? ea=none/\ea∉av/\n=0 /\
  (if tr=true then Tr h H old av ea vs else vs[1]?=some .none)
noncomputable def Tv (P:Program) (w:World) (K:PySem.W.Frag):CXT:=fun outer H s E e s'=>∃ ea c n H',e=.ref ea/\s'.os=s.os/\PyProof.Rows.AllBare s'.gens/\Un (uK outer) [] H H' s.heap s'.heap/\yr P w H' s'.heap/\Fly K s.heap [] ea c n s'.heap H' true/\E (Kh c n) none H'
noncomputable def Xq (X:Cx) (W:Wi):Prop:=∀ pins σ H s ea c n tr,Inv X pins σ H s->Fly X.K X.s₀.heap ((X.pn++pins).map (·.1)) ea c n s.heap H tr->W c n σ H->X.xe (.ref ea) s
section
variable {X:Cx} {pins:List (Addr×Obj)} {σ:St} {H:Hp} {s:Shared} {ea:Addr} {c:Str} {n:Int} {tr:Bool}
theorem aeK (I:Inv X pins σ H s) {b:Addr} {o:Obj} {vs:Array Value} (e:s.heap.get? b=some o) (d:o.data=.fields vs) (hold:X.s₀.heap.get? b=none) (hn:H b=none) (hp:∀ p∈X.pn++pins,p.1≠b) :
  X.s₀.heap.get? b=none/\b≠X.env.locals/\(∀ x c,X.env.cells.lookup x=some c->c≠b)/\(∀ p∈X.pn++pins,p.1≠b)/\H b=none:=by
 refine ⟨hold,fun z=>?_,fun x c hc z=>?_,hp,hn⟩
 ·obtain ⟨m,⟨o',es,ep,ho,hd,_⟩,_⟩:=I.loc
  rw [<- z,e] at ho;cases ho;rw [d] at hd;cases hd
 ·obtain ⟨v,o',ho,hd⟩:=I.cell x c hc
  rw [z,e] at ho;cases ho;rw [d] at hd;cases hd
theorem zj {P:Program} {w:World} {H:Hp} {h:Heap} {a:Addr} {o:HO} (x:gn P w H h a o):∃ u,h.get? a=some u:=by
 induction o with
 | lst xs=>obtain ⟨z,its,n,r,e⟩:=x;exact ⟨_,e⟩
 | tup xs=>obtain ⟨z,its,r,ob,e,c⟩:=x;exact ⟨_,e⟩
 | dK kvs=>obtain ⟨z,y,vs,r,ob,es,ep,e,c⟩:=x;exact ⟨_,e⟩
 | dT kvs=>obtain ⟨z,y,xs,r,ob,es,ep,e,c⟩:=x;exact ⟨_,e⟩
 | set S n=>obtain ⟨ob,es,ep,t,e,c⟩:=x;exact ⟨_,e⟩
 | ins C dx fs=>obtain ⟨d,z,ne,e,_⟩:=x;exact ⟨_,e⟩
 | own y=>obtain ⟨ob,e⟩:=x;exact ⟨_,e⟩
 | xd fs=>obtain ⟨mA,⟨od,es,ep,e,c⟩,r⟩:=x;exact ⟨_,e⟩
 | rng lo hi=>obtain ⟨t,u,v,e⟩:=x;exact ⟨_,e⟩
 | Cj ob u ih=>obtain ⟨e,q⟩:=x;exact ⟨_,e⟩
 | tbl ps=>exact ⟨_,(show h.get? a=some { cls:=.none,data:=.fields ps } from x)⟩
 | met f y=>exact ⟨_,(show h.get? a=some (PySem.W.methodObj (.ref f) (.ref y)) from x)⟩
 | ext φ=>obtain ⟨p,⟨o,e⟩,st⟩:=x;exact ⟨_,e⟩
theorem Tw (I:Inv X pins σ H s) {ch:List Addr} {h':Heap} {t':Nat} (hch:∀ b∈ch,∃ o vs,s.heap.get? b=some o/\o.data=.fields vs/\X.s₀.heap.get? b=none/\H b=none/\b∉(X.pn++pins).map (·.1))
  (st:(PySem.W.hideAll s.heap (uK X.stack++ch)).StaysIn h') (up:s.heap.UpToSlots h'):Inv X pins σ H { s with heap:=h',toks:=t' }:=by
 refine Inv.moved I ch (fun b hb=>?_) (fun b o h1 h2 e=>st b o (PySem.W.hideAll_get _ e (by rw [List.mem_append];exact fun z=>z.elim h1 h2))) (fun b o hb e=>?_)
 ·obtain ⟨o,vs,e,d,h1,h2,h3⟩:=hch b hb
  exact aeK I e d h1 h2 fun p hp z=>h3 (List.mem_map.mpr ⟨p,hp,z⟩)
 ·obtain ⟨_,o',ho,hnf⟩:=I.stack.mem hb
  rw [e] at ho;cases ho
  exact up b o e hnf
theorem abw (I:Inv X pins σ H s) (hex:X.ex=[]) {ch:List Addr} {h':Heap} {T:Addr} {oT:Obj} {ts:Array Value} (hch:∀ b∈ch,∃ o vs,s.heap.get? b=some o/\o.data=.fields vs/\X.s₀.heap.get? b=none/\H b=none/\b∉(X.pn++pins).map (·.1))
  (up:s.heap.UpToSlots h') (hT:h'.get? T=some oT) (dT:oT.data=.fields ts) (hn:(PySem.W.hideAll s.heap (uK X.stack++ch)).get? T=none) :
  H T=none/\X.s₀.heap.get? T=none/\T∉(X.pn++pins).map (·.1):=by
 by_cases hc:T∈ch
 ·obtain ⟨o,vs,e,d,h1,h2,h3⟩:=hch T hc
  exact ⟨h2,h1,h3⟩
 have hf:T∉uK X.stack:=fun z=>by
  obtain ⟨_,o',ho,hnf⟩:=I.stack.mem z
  obtain ⟨sl,q⟩:=up T o' ho hnf
  rw [hT] at q;cases q
  exact hnf ts dT
 have hs:s.heap.get? T=none:=by
  cases e:s.heap.get? T with
  | none=>rfl
  | some o=>rw [PySem.W.hideAll_get _ e (by rw [List.mem_append];exact fun z=>z.elim hf hc)] at hn;cases hn
 refine ⟨?_,?_,fun z=>?_⟩
 ·cases e:H T with
  | none=>rfl
  | some u =>
   obtain ⟨o,z⟩:=zj (I.hok T u e)
   rw [hs] at z;cases z
 ·cases e:X.s₀.heap.get? T with
  | none=>rfl
  | some o =>
   obtain ⟨o',q⟩:=I.base.there T o e (by rw [hex];simp)
   rw [hs] at q;cases q
 ·obtain ⟨p,hp,e⟩:=List.mem_map.mp z
  have:=(I.pin p hp).1
  rw [e,hs] at this;cases this
end
end Vl
namespace Vl
open PySem PySem.Spec L2
section
variable {X:Cx} {pins:List (Addr×Obj)} {σ:St} {H:Hp} {s:Shared} {ea:Addr} {c:Str} {n:Int} {tr:Bool}
theorem aeL (I:Inv X pins σ H s) (F:Fly X.K X.s₀.heap ((X.pn++pins).map (·.1)) ea c n s.heap H tr) :
  ∃ ch:List Addr,ea∈ch/\(∀ b∈ch,∃ o vs,s.heap.get? b=some o/\o.data=.fields vs/\X.s₀.heap.get? b=none/\H b=none/\b∉(X.pn++pins).map (·.1)) /\
   ∃ C oe vs a0,PySem.W.nsIn X.K mainGlobals c=some (some (.ref C))/\s.heap.get? ea=some oe/\oe.cls=.ref C/\oe.data=.fields vs/\vs[0]?=some a0/\n=0/\X.s₀.heap.get? ea=none/\H ea=none/\ea∉(X.pn++pins).map (·.1) /\
    (if tr=true then ∃ T oT ts,vs[1]?=some (.ref T)/\T∈ch/\T≠ea/\s.heap.get? T=some oT/\oT.data=.fields ts/\ts[3]?=some .none else vs[1]?=some .none):=by
 obtain ⟨C,oe,vs,a0,h1,h2,h3,h4,h5,h6,h7,h8,h9,h10⟩:=F
 cases tr with
 | false =>
  refine ⟨[ea],by simp,fun b hb=>?_,C,oe,vs,a0,h1,h2,h3,h4,h5,h9,h7,h6,h8,h10⟩
  obtain rfl:b=ea:=by simpa using hb
  exact ⟨oe,vs,h2,h4,h7,h6,h8⟩
 | true =>
  rw [if_pos rfl] at h10
  obtain ⟨T,oT,ts,t1,t2,t3,t4,t5,t6,t7,t8⟩:=h10
  refine ⟨[ea,T],by simp,fun b hb=>?_,C,oe,vs,a0,h1,h2,h3,h4,h5,h9,h7,h6,h8,?_⟩
  ·rcases List.mem_cons.mp hb with rfl|hb
   ·exact ⟨oe,vs,h2,h4,h7,h6,h8⟩
   ·obtain rfl:b=T:=by simpa using hb
    exact ⟨oT,ts,t3,t4,t7,t6,t8⟩
  ·rw [if_pos rfl]
   exact ⟨T,oT,ts,t1,by simp,t2,t3,t4,t5⟩
theorem abx {M:Model} {Q:Unit->Shared->Prop} {E:Value->Shared->Prop} {outer:List Env} {L:Addr} (hst:X.stack=X.env::outer) (hf:X.env.frame=some L) (hex:X.ex=[]) (I:Inv X pins σ H s) (F:Fly X.K X.s₀.heap ((X.pn++pins).map (·.1)) ea c n s.heap H tr)
  (hQ:∀ h',Inv X pins σ H { s with heap:=h' }->Fly X.K X.s₀.heap ((X.pn++pins).map (·.1)) ea c n h' H true->Q () { s with heap:=h' }):wpAny M X.A (leaving X.env (.ref ea)) Q E s:=by
 obtain ⟨ch,he,hch,C,oe,vs,a0,h1,h2,h3,h4,h5,h9,h7,h6,h8,h10⟩:=aeL I F
 have hfr:X.A.frames=some (X.env::outer):=by rw [<- hst];exact I.ok.frames
 have hl:s.heap.FunFrames (PySem.W.hideAll s.heap (uK X.stack++ch)) (X.env::outer):=by
  have:=PySem.W.funFrames_hide (as:=uK X.stack++ch) I.stack fun env he b hb=>List.mem_append_left _ (List.mem_filterMap.mpr ⟨env,he,hb⟩)
  rw [hst] at this ⊢;exact this
 have hkb:(PySem.W.hideAll s.heap (uK X.stack++ch)).StaysIn s.heap:=fun b o e=>PySem.W.of_hideAll _ e
 have hn:∀ b∈ch,(PySem.W.hideAll s.heap (uK X.stack++ch)).get? b=none:=fun b hb=>PySem.W.hideAll_none _ (List.mem_append_right _ hb)
 have dH:∀ h',(PySem.W.hideAll s.heap (uK X.stack++ch)).StaysIn h'->h'.TracedW (PySem.W.hideAll s.heap (uK X.stack++ch)) ea oe.cls a0->s.heap.UpToSlots h'->Q () { s with heap:=h' }:=fun h' k1 k2 k3=>by
  have I':=Tw (t':=s.toks) I hch k1 k3
  obtain ⟨oe',vs',T,oT,ts,e1,⟨e2,e3⟩,e4,e5,e6,e7,e8,e9,e10⟩:=k2
  obtain ⟨n1,n2,n3⟩:=abw I hex hch k3 e8 e9 e6
  refine hQ h' I' ⟨C,oe',vs',a0,h1,e1,e2.trans h3,e4,e3,h6,h7,h8,h9,?_⟩
  rw [if_pos rfl]
  exact ⟨T,oT,ts,e5,e7,e8,e9,e10,n1,n2,n3⟩
 cases tr with
 | false =>
  rw [if_neg (by decide)] at h10
  exact wpAny_leaving_firstW hfr hl hf h2 hkb (hn _ he) h4 h10 h5 fun h' ⟨k1,_,k2,k3⟩=>dH h' k1 k2 k3
 | true =>
  rw [if_pos rfl] at h10
  obtain ⟨T,oT,ts,t1,t0,t2,t3,t4,t5⟩:=h10
  exact wpAny_leaves_onW hfr hf ⟨hkb,hn _ he,hl,oe,vs,T,oT,ts,h2,⟨rfl,h5⟩,h4,t1,hn _ t0,t2,t3,t4,t5⟩ fun h' ⟨k1,_,_,k2⟩ k3=>dH h' k1 k2 k3
end
section
variable {P:Program} {w:World} {K:PySem.W.Frag} {mg:Str->Option Value} {base:Heap} {x qual:Str} {st:Stmt} {f:Addr} {fd:FuncData} {N ps:List Str} {k:Nat}
theorem wg {scope:Scope} {cdv:Value} {A:Around} {outer:List Env} {s:Shared} {H:Hp} {E:XK}:Xq (yM (Tv P w K) P w K mg base N qual scope f cdv A outer s H E) (fun c n _ H'=>E (Kh c n) none H'):=by
 intro pins σ H1 s1 ea c n tr I F w1
 refine abx (L:=s.heap.objs.size) (outer:=outer) rfl rfl rfl I F fun h' I' F'=>?_
 obtain ⟨C,oe,vs,a0,h1,h2,h3,h4,h5,h6,h7,h8,h9,h10⟩:=F'
 refine ⟨ea,c,n,H1,rfl,I'.os,I'.bare,I'.base,I'.hok,⟨C,oe,vs,a0,h1,h2,h3,h4,h5,h6,h7,by simp,h9,?_⟩,w1⟩
 rw [if_pos rfl] at h10 ⊢
 obtain ⟨T,oT,ts,t1,t2,t3,t4,t5,t6,t7,t8⟩:=h10
 exact ⟨T,oT,ts,t1,t2,t3,t4,t5,t6,t7,by simp⟩
end
end Vl
namespace Vl
open PySem PySem.Spec L2
theorem aby {a b:Int} (h:zig a=zig b):a=b:=by
 unfold zig at h
 split at h <;> split at h <;> omega
theorem abz {c c':Str} {n n':Int} (h:Kh c n=Kh c' n'):c=c'/\n=n':=by
 unfold Kh at h
 injection h with h1 h2
 exact ⟨h1,aby h2⟩
noncomputable def Fi (X:Cx) (W:Wi):Prop:=∀ (pins:List (Addr×Obj)) (σ:St) (H:Hp) (s:Shared) (e:Value) (s':Shared),Inv X pins σ H s ->
 Tv X.prog X.w X.K X.stack H s (fun v _ H'=>∃ c n,v=Kh c n/\W c n σ H') e s'->X.xe e s'
theorem gG {X:Cx}:Fi X WF:=fun pins σ H s e s' I ⟨ea,c,n,H',_,_,_,_,_,_,_,_,_,w⟩=>w.elim
theorem KY {X:Cx} {W:Wi} (hp:Xq X W) (hex:X.ex=[]):Fi X W:=by
 intro pins σ H s e s' I ⟨ea,c,n,H',e1,os,bare,un,hok,F,c0,n0,e2,w⟩
 subst e1
 obtain ⟨rfl,rfl⟩:=abz e2
 have I':Inv X pins σ H' s':=I.call' (ch:=[]) os un hok bare (fun b z=>absurd z (by simp))
 obtain ⟨C,oe,vs,a0,h1,h2,h3,h4,h5,h6,h7,h8,h9,h10⟩:=F
 have old:∀ b,s.heap.get? b=none->X.s₀.heap.get? b=none:=fun b hb=>by
  cases q:X.s₀.heap.get? b with
  | none=>rfl
  | some o =>
   obtain ⟨o',z⟩:=I.base.there b o q (by rw [hex];simp)
   rw [hb] at z;cases z
 have agV:∀ b,s.heap.get? b=none->b∉(X.pn++pins).map (·.1):=fun b hb z=>by
  obtain ⟨p,hp,e⟩:=List.mem_map.mp z
  have:=(I.pin p hp).1
  rw [e,hb] at this;cases this
 refine hp pins σ H' s' ea c n true I' ⟨C,oe,vs,a0,h1,h2,h3,h4,h5,h6,old _ h7,agV _ h7,h9,?_⟩ w
 rw [if_pos rfl] at h10 ⊢
 obtain ⟨T,oT,ts,t1,t2,t3,t4,t5,t6,t7,t8⟩:=h10
 exact ⟨T,oT,ts,t1,t2,t3,t4,t5,t6,old _ t7,agV _ t7⟩
section
variable {P:Program} {w:World} {K:PySem.W.Frag} {mg:Str->Option Value} {base:Heap} {x qual:Str} {st:Stmt} {f:Addr} {fd:FuncData} {N ps:List Str} {k:Nat}
theorem agW {g:aJ->Ou} (F:vR K x qual st f fd) (S:bY N ps (aG st))
  (hb:∀ (cdv:Value) (A:Around) (outer:List Env) (s:Shared) (H:Hp) (E:XK) (B:Hp×Hp),mR k (A.deeper (PyProof.Rows.envOfC qual (aG st) s.heap.objs.size f cdv)) ->
   Cg (yM (Tv P w K) P w K mg base N qual (aG st) f cdv A outer s H E) B (fun c n _ H'=>E (Kh c n) none H') (bJ st) g) :
  Ku P w K mg base (Tv P w K) (k + 1) f fd ps (spV K ps.length fun ds=>dH (g (bB N ds))):=by
 obtain ⟨oc,od,kV,doc,pm,an,cdv,ct,osl,rfl,lk,hcd⟩:=F.ex
 refine agz lk hcd S (fun vs H Q E h=>h.1) fun A outer s H vs Q E hr h=>?_
 obtain ⟨_,G,ds,e,r,h⟩:=h
 dsimp only at h
 exact ⟨_,hb cdv A outer s H E (G,H) hr,bB N ds,G,Xf e r,Xg (B:=(G,H)) h⟩
end
noncomputable def bK (n:Nat) (g:List D->Rs D):List D->Rs D:=fun ds=>if ds.length=n then g ds else .no
section
variable {X:Cx} {B:Hp×Hp} {W:Wi}
theorem abA {x:Str} {p pos:Pos} {e:Expr} {es:List Expr} {fs:aJ->Rs (List D)} {f:Addr} {fd:FuncData} {ps:List Str} {k n:Nat} {g:List D->Rs D} (F:Ku X.prog X.w X.K X.mg X.base (Tv X.prog X.w X.K) k f fd ps (spV X.K n g)) (hr:mR k X.A) (hg:Gl X x) (hm:X.mg x=some (.ref f)) (hk:PySem.W.keepIn X.K (.ref f)=true) (hb:Binds X.K fd ps [])
  (hx:Fi X W) (ha:SA X B W (e::es) fs) (hdb:(x == ("__debug__":Str))=false:=by decide) (he:starEach (e::es) X.env=(false,eval e X.env)::starEach es X.env:=by rfl) (hpl:(backTo pos (starEach es X.env)).any (·.1)=false:=by rfl) :
  SE X B W (.Call (.Name x p) (e::es) [] pos) (fA fs (bK n g)):=by
 intro pins s σ H Q I h
 refine wpAny_Call_Name_kw (QB I hg hm ?_ hdb)
 have h2:tAF X.K B W fs σ H fun vs H1=>spV X.K n g vs H1 Q fun v _ H'=>∃ c n,v=Kh c n/\W c n σ H':=by
  obtain ⟨ρ,G,s,p⟩:=h
  refine ⟨ρ,G,s,?_⟩
  unfold fA at p
  cases e:fs ρ with
  | ex c n=>rw [e] at p;exact p
  | no=>rw [e] at p;exact p
  | ok ds =>
   rw [e] at p
   intro vs H1 G1 x r
   have p:=Post.ext x p
   unfold bK at p;dsimp only [Rs.bind] at p
   by_cases hl:ds.length=n
   ·rw [if_pos hl] at p
    refine ⟨by rw [<- r.length];exact hl,G1,ds,(s.ext x).Cp,r,?_⟩
    cases e1:g ds with
    | ok d=>rw [e1] at p;exact p
    | ex c n=>rw [e1] at p;exact fun H' G' y=>⟨c,n,rfl,p H' G' y⟩
    | no=>rw [e1] at p;exact p.elim
   ·rw [if_neg hl] at p;exact p.elim
 refine PySem.W.callWith_K (h₀:=X.base) I.ok.mod.kin hk (iT (ha pos pins s σ H _ I h2) fun us s1 ⟨vs,H1,I1,r,q⟩=>⟨I1.VL,?_⟩) he hpl
 have hl:(us++[]).length=ps.length:=by rw [List.append_nil,<- r.length];exact F.len _ _ _ _ q
 have hbb:=hb s1 us I1.VL hl
 rw [List.append_nil] at hbb
 refine wpAny_call (codeAny_mono (F.run X.A X.stack s1 H1 ⟨us,[]⟩ us vs Q _ hr I1.env0 hbb r q) fun r s' hq=>?_)
 cases r with
 | error e=>exact hx pins σ H1 s1 e s' I1 hq
 | ok fl =>
  cases fl with
  | ret u=>exact I1.after hq
  | next=>exact False.elim hq
  | brk=>exact False.elim hq
  | cont=>exact False.elim hq
theorem abB {K:PySem.W.Frag} {h:Heap} {C:Addr} {bmB:List Value} {newId:String} (Z:K.In h) (q:PySem.W.excIn K C bmB newId=true) :
  ∃ bm N nm qn bs hd sn sub ab col dd k0 k1 k2 k3 k5 mN,h.get? C=some (excClassObj nm qn C N bs bm hd sn sub ab col dd k0 k1 k2 k3 k5 newId)/\h.Ns N mN/\mN "__init__"=none/\OwnTail h bmB bm:=by
 unfold PySem.W.excIn at q
 split at q
 next dd cl sl ho =>
  split at q
  next C1 tl a0 a1 a2 a3 nw a5 hmro hsl =>
   simp only [Bool.and_eq_true,Bool.not_eq_true',beq_iff_eq] at q
   obtain ⟨⟨⟨⟨⟨q1,q2⟩,q3⟩,q4⟩,q5⟩,q6⟩:=q
   subst q1 q2
   obtain ⟨y1,y2,y3,y4,y5,y6,y7,y8,y9,y10,y11⟩:=cl
   dsimp only at hmro q3 q5 q6
   subst hmro q3
   have e:sl=#[a0,a1,a2,a3,some (.builtin nw),a5]:=by
    cases sl
    exact congrArg Array.mk hsl
   rw [e] at ho
   exact ⟨tl,y4,y1,y5,y2,y6,y7,y8,y9,y10,dd,a0,a1,a2,a3,a5,_,Z _ _ ho,.of_isNs (PySem.W.isNs_of_in Z q5),PySem.W.nsMap_none_of_in Z q5 q6,PySem.W.tail_of_in Z q4⟩
  next=>cases q
 next=>cases q
theorem Xr {x:Str} {np cpos pos:Pos} {e:Expr} {es:List Expr} {fs:aJ->Rs (List D)} {C:Addr} {bmB bmN:List Value} {Bn Bb newId nid inN initId:String}
  (hp:Xq X W) (hex:X.ex=[]) (hc:X.calm=true) (hg:Gl X x) (hm:X.mg x=some (.ref C)) (hn:PySem.W.nsIn X.K mainGlobals x=some (some (.ref C))) (q:PySem.W.excIn X.K C bmB newId=true)
  (Fn:ExcBaseFacts Bn newId inN bmN) (hBn:bmB.contains (.type Bn)=true) (FB:ExcBaseFacts Bb nid initId bmB)
  (ha:SA X B W (e::es) fs) (hlen:(e::es).length<=1000) (hdb:(x == ("__debug__":Str))=false:=by decide) (he:starEach (e::es) X.env=(false,eval e X.env)::starEach es X.env:=by rfl) (hpl:(backTo cpos (starEach es X.env)).any (·.1)=false:=by rfl) :
  SS X B W (.Raise (some (.Call (.Name x np) (e::es) [] cpos)) none pos) (fun ρ=>oR (fs ρ) ρ fun ds=>if ds.length<=1000 then .ex x 0 ρ else .no):=by
 intro pins s σ H De I ⟨ρ,G,sr,p⟩
 obtain ⟨tl,N,nm,qn,bs,hdct,sn,sub,ab,col,dd,k0,k1,k2,k3,k5,mN,hC,hN,hni,T⟩:=abB I.ok.mod.kin q
 refine wpAny_Raise_call_subU (C:=C) (nm:=nm) (q:=qn) (N:=N) (bs:=bs) (bm:=tl) (hdct:=hdct) (sn:=sn) (sub:=sub) (ab:=ab) (col:=col) (dd:=dd) (k0:=k0) (k1:=k1) (k2:=k2) (k3:=k3) (k5:=k5)
  Fn hBn FB (mN:=mN) (T.hasType FB.hasBase) (I.ok.hd hc) (by rw [he];show (false || (backTo cpos (starEach es X.env)).any (·.1))=false;rw [hpl];rfl) hni (QB I hg hm ⟨rfl,?_⟩ hdb)
 have h2:tAF X.K B W fs σ H fun vs H1=>vs.length<=1000/\W x 0 σ H1:=by
  refine ⟨ρ,G,sr,?_⟩
  dsimp only at p
  cases e:fs ρ with
  | ok ds =>
   rw [e] at p
   dsimp only [oR] at p
   by_cases hl:ds.length<=1000
   ·rw [if_pos hl] at p
    exact fun vs H1 G1 y r=>⟨by rw [<- r.length];exact hl,p σ H1 G1 (sr.ext y) y.gg⟩
   ·rw [if_neg hl] at p;exact p.elim
  | ex c n=>rw [e] at p;exact fun H1 G1 y=>p σ H1 G1 (sr.ext y) y.gg
  | no=>rw [e] at p;exact p
 have h3:=ha cpos pins s σ H _ I h2
 rw [he] at h3 ⊢
 refine Calls.evalArgs_plain (wpAny_mono h3 (fun us s2 ⟨vs,H1,I1,r,hl,w⟩=>⟨rfl,by rw [<- r.length];exact Hh hl,I1.bk _ _ hC,hN.keeps I1.bk,T.keeps I1.bk,fun h' ea hm'=>?_⟩) fun _ _ y=>y)
 have I2:Inv X pins σ H1 { s2 with heap:=h' }:=I1.kept (t':=s2.toks) hm'.keeps
 obtain ⟨t,h1,h2',h3'⟩:=hm'.there
 have new:s2.heap.get? ea=none:=hm'.new
 refine hp pins σ H1 _ ea x 0 false I2 ⟨C,_,_,_,hn,h1,rfl,rfl,rfl,?_,?_,fun z=>?_,rfl,?_⟩ w
 ·cases z:H1 ea with
  | none=>rfl
  | some u=>obtain ⟨o,z⟩:=zj (I1.hok _ _ z);rw [new] at z;cases z
 ·cases z:X.s₀.heap.get? ea with
  | none=>rfl
  | some o=>obtain ⟨o',z⟩:=I1.base.there _ o z (by rw [hex];simp);rw [new] at z;cases z
 ·obtain ⟨p,hp,e⟩:=List.mem_map.mp z
  have:=(I1.pin p hp).1
  rw [e,new] at this;cases this
 ·rw [if_neg (by decide)];rfl
end
end Vl
namespace Vl
open PySem PySem.Spec L2
section
variable {X:Cx} {pins:List (Addr×Obj)} {σ:St} {H:Hp} {s:Shared} {ea:Addr} {c:Str} {n:Int} {tr:Bool}
end
section
variable {X:Cx} {pins:List (Addr×Obj)} {σ:St} {H:Hp} {s:Shared} {ea:Addr}
end
end Vl
namespace Vl
open PySem PySem.Spec PySem.Calls PySem.W L2
section
variable {K:PySem.W.Frag}
end
section
variable {X:Cx} {B:Hp×Hp} {W:Wi}
end
end Vl
namespace Vl
open PySem PySem.Spec PySem.Calls PySem.W L2
noncomputable def su:aJ->Ou:=fun ρ=>.nx ρ
noncomputable def bO (g k:aJ->Ou):aJ->Ou:=fun ρ=>Xc (g ρ) k
noncomputable def cO (f:aJ->Rs D):aJ->Ou:=fun ρ=>oR (f ρ) ρ .rt
noncomputable def Ht (f:aJ->Rs D):aJ->Ou:=fun ρ=>oR (f ρ) ρ fun _=>.nx ρ
noncomputable def pI (c:aJ->Rs Bool) (a b:aJ->Ou):aJ->Ou:=fun ρ=>oR (c ρ) ρ fun x=>if x=true then a ρ else b ρ
noncomputable def jO (f:aJ->Rs D) (h:Tg):aJ->Ou:=fun ρ=>oR (f ρ) ρ fun d=>oO (h d ρ)
noncomputable def iy (i:Nat) (f:aJ->Rs D):aJ->Ou:=fun ρ=>oR (f ρ) ρ fun d=>.nx (ρ.set i (.fz d))
noncomputable def Ov (x:Str) (fs:aJ->Rs (List D)):aJ->Ou:=fun ρ=>oR (fs ρ) ρ fun ds=>if ds.length<=1000 then .ex x 0 ρ else .no
noncomputable def sy (g:aJ->Ou):aJ->Ou:=fun ρ=>Xe (g ρ)
noncomputable def wj (f:aJ->Rs D):aJ->Rs D:=fun ρ=>(f ρ).bind abj
noncomputable def fB (f:aJ->Rs D) (g:D->Rs D):aJ->Rs D:=fun ρ=>(f ρ).bind g
noncomputable def fL (f:aJ->Rs D) (g:D->Rs (List D)):aJ->Rs (List D):=fun ρ=>(f ρ).bind g
section
variable {X:Cx} {B:Hp×Hp} {W:Wi}
theorem cM:Cg X B W [] su:=aex
theorem aH {st:Stmt} {rest:List Stmt} {g k:aJ->Ou} (h1:SS X B W st g) (h2:Cg X B W rest k):Cg X B W (st::rest) (bO g k):=abo h1 h2
theorem aZ {st:Stmt} {g:aJ->Ou} (h1:SS X B W st g):Cg X B W [st] g:=aey h1
theorem bL {e:Expr} {pos} {f:aJ->Rs D} (h:SE X B W e f):SS X B W (.Return (some e) pos) (cO f):=aez h
theorem Xu {e:Expr} {pos:Pos} {f:aJ->Rs D} (h:SE X B W e f) (hs:swapsWith e none pos.line X.env=pure false:=by rfl):SS X B W (.Expr e pos) (Ht f):=abp h hs
theorem eF {c:Expr} {a b:List Stmt} {pos:Pos} {fc:aJ->Rs Bool} {ga gb:aJ->Ou} (hc:ST X B W c fc) (ha:Cg X B W a ga) (hb:Cg X B W b gb):SS X B W (.If c a b pos) (pI fc ga gb):=agK hc ha hb
theorem iC {tg e:Expr} {pos:Pos} {f:aJ->Rs D} {h:Tg} (he:SE X B W e f) (hg:SG X B tg h) (hs:swapsWithSole [tg] e pos.line X.env=pure false:=by rfl) (hw:swappedStores [tg] e X.env=pure none:=by rfl)
  (h1:(assignEach [tg] X.env).map (·.2)=[assign tg X.env]:=by rfl):SS X B W (.Assign [tg] e pos) (jO f h):=aeA he hg hs hw h1
theorem dg (i:Nat) {x:Str} {e:Expr} {pos pos':Pos} {f:aJ->Rs D} (hN:X.N.Nodup) (he:SE X B W e f) (hi:X.N[i]?=some x:=by rfl) (hx:Loc X.env.scope x:=by first|exact Or.inl rfl|exact Or.inr rfl) (hs:swapsWith e (some (.Name x pos')) pos.line X.env=pure false:=by rfl) (hf:X.fn x=true∨X.env.scope.names.lookup x=some .local:=by first|exact .inl rfl|exact .inr rfl|assumption) :
  SS X B W (.Assign [.Name x pos'] e pos) (iy i f):=aeB hN hi hx he hs hf
theorem tZ {st:Stmt} {g:aJ->Ou} (h:SS X.nox B WF st g):SS X B W st (sy g):=aeE h
theorem Ow {a:Expr} {pos:Pos} {fa:aJ->Rs D} (ha:SE X B W a fa):SE X B W (.UnaryOp .USub a pos) (wj fa):=aeu ha
theorem rg (i:Nat) {x:Str} {pos:Pos} (hN:X.N.Nodup) (hi:X.N[i]?=some x:=by rfl) (hx:Loc X.env.scope x:=by first|exact Or.inl rfl|exact Or.inr rfl) (hf:X.fn x=true∨X.env.scope.names.lookup x=some .local:=by first|exact .inl rfl|exact .inr rfl|assumption):SG X B (.Name x pos) (aP i) :=
 abq hN hi hx hf
theorem Fj {t:Ty} {x:Str} {e:Expr} {p1 p2 pos:Pos} {f:aJ->Rs D} (hm:X.mg "isinstance"=none) (hmt:X.mg x=none) (he:SE X B W e f) (hv:bootBuiltins x=some (.type t.nm)) (hg:Gl X "isinstance":=by rfl) (hgx:Gl X x:=by rfl)
  (hst:starEach [e,.Name x p2] X.env=[(false,eval e X.env),(false,eval (.Name x p2) X.env)]:=by rfl) (hst2:starEach [.Name x p2] X.env=[(false,eval (.Name x p2) X.env)]:=by rfl) (hn:x≠"__name__":=by decide) (hd:(x == ("__debug__":Str))=false:=by decide) :
  SE X B W (.Call (.Name "isinstance" p1) [e,.Name x p2] [] pos) (fB f (Tp t)):=agT hm hmt he hv hg hgx hst hst2 hn hd
theorem abC {tg iter:Expr} {f:aJ->Rs D} (hi:SE X B W iter f):SI X B W tg iter (fL f asL):=abt hi
theorem zm {tg iter:Expr} {f:aJ->Rs D} (hi:SE X B W iter f):SI X B W tg iter (fL f Wa):=aeH hi
theorem Xv {e:Expr} {p pos:Pos} {fa:aJ->Rs D} (hc:X.calm=true) (hm:X.mg "all"=none) (ha:SE X B W e fa) (hg:Gl X "all":=by rfl) (he:starEach [e] X.env=[(false,eval e X.env)]:=by rfl):SE X B W (.Call (.Name "all" p) [e] [] pos) (fA (aj fa aQ) KR) :=
 uW (Tt hc) aeJ hg hm rfl (ak ha aK he) (by decide) (by decide) he rfl
theorem jH {e e':Expr} {p pos:Pos} {fa fb:aJ->Rs D} (hm:X.mg "divmod"=none) (ha:SE X B W e fa) (hb:SE X B W e' fb) (hg:Gl X "divmod":=by rfl) (he:starEach [e,e'] X.env=[(false,eval e X.env),(false,eval e' X.env)]:=by rfl) (he':starEach [e'] X.env=[(false,eval e' X.env)]:=by rfl) :
  SE X B W (.Call (.Name "divmod" p) [e,e'] [] pos) (fA (aj fa (aj fb aQ)) Xb) :=
 uW Hj agJ hg hm rfl (ak ha (ak hb aK he') (by rw [he,he'])) (by decide) (by decide) (by rw [he,he']) (by rw [he'];rfl)
end
noncomputable def jk (P:Program) (w:World) (K:PySem.W.Frag) (mg:Str->Option Value) (base:Heap) (x:Str) (k n:Nat) (v:List D->Rs D):Prop :=
 ∃ f fd ps,Ku P w K mg base (Tv P w K) k f fd ps (spV K n v)/\mg x=some (.ref f)/\PySem.W.keepIn K (.ref f)=true/\Binds K fd ps []
theorem dh {P:Program} {w:World} {K:PySem.W.Frag} {mg:Str->Option Value} {base:Heap} {x:Str} {st:Stmt} {f:Addr} {fd:FuncData} {N ps:List Str} {k:Nat} {g:aJ->Ou} (F:vR K x x st f fd) (hm:mg x=some (.ref f)) (S:bY N ps (aG st))
  (hbi:∀ (kV doc pm:Value) (an:Option Addr) (cdv ct:Value) (us:List Value),us.length=ps.length->bindArgs (PySem.W.fnOf x x (bR st) (bJ st) (aG st) .none kV doc pm an cdv ct) ⟨us,[]⟩=pure (ps.zip us))
  (hb:∀ (cdv:Value) (A:Around) (outer:List Env) (s:Shared) (H:Hp) (E:XK) (B:Hp×Hp),mR k (A.deeper (PyProof.Rows.envOfC x (aG st) s.heap.objs.size f cdv)) ->
   Fi (yM (Tv P w K) P w K mg base N x (aG st) f cdv A outer s H E) (fun c n _ H'=>E (Kh c n) none H') ->
   Cg (yM (Tv P w K) P w K mg base N x (aG st) f cdv A outer s H E) B (fun c n _ H'=>E (Kh c n) none H') (bJ st) g) :
  jk P w K mg base x (k + 1) ps.length (fun ds=>dH (g (bB N ds))) :=
 ⟨f,fd,ps,agW F S fun cdv A outer s H E B hr=>hb cdv A outer s H E B hr (KY wg rfl),hm,F.kp,F.binds hbi⟩
section
variable {X:Cx} {B:Hp×Hp} {W:Wi}
theorem bI {x:Str} {p pos:Pos} {e:Expr} {es:List Expr} {fs:aJ->Rs (List D)} {k n:Nat} {g:List D->Rs D} (O:jk X.prog X.w X.K X.mg X.base x k n g) (hr:mR k X.A) (hx:Fi X W) (ha:SA X B W (e::es) fs) (hg:Gl X x:=by rfl) (hdb:(x == ("__debug__":Str))=false:=by decide)
  (he:starEach (e::es) X.env=(false,eval e X.env)::starEach es X.env:=by rfl) (hpl:(backTo pos (starEach es X.env)).any (·.1)=false:=by rfl):SE X B W (.Call (.Name x p) (e::es) [] pos) (fA fs (bK n g)):=by
 obtain ⟨f,fd,ps,F,hm,hk,hb⟩:=O
 exact abA F hr hg hm hk hb hx ha hdb he hpl
end
end Vl
namespace Vl
open PySem PySem.Spec PySem.Calls PySem.W L2
noncomputable def adf (S sc:Scope) (NX N:List Str) (nt:Nat) (caps:List Nat):Bool :=
 decide (sc.kind=.function) && sc.names.all (fun y=>y.2 != .cell) && sc.names.all (fun y=>y.2 != .free || S.names.lookup y.1 == some .cell || S.names.lookup y.1 == some .free) && decide (N.length=nt + caps.length) &&
  (List.range caps.length).all fun j=>match caps[j]?,N[nt + j]? with|some i,some x=>NX[i]? == some x && sc.names.lookup x == some .free|_,_=>true
theorem rF {X:Cx} {sc:Scope} {N:List Str} {nt:Nat} {caps:List Nat} (S:Scope) (NX:List Str) (h:adf S sc NX N nt caps=true) (hS:X.env.scope=S:=by rfl) (hX:X.N=NX:=by rfl):Hq X sc N nt caps:=by
 unfold adf at h
 simp only [Bool.and_eq_true,decide_eq_true_eq,List.all_eq_true,bne_iff_ne,Bool.or_eq_true,beq_iff_eq,ne_eq] at h
 obtain ⟨⟨⟨⟨h1,h2⟩,h3⟩,h4⟩,h5⟩:=h
 refine ⟨h1,fun y hy=>h2 y hy,fun y hy hf=>?_,h4,fun j i x e1 e2=>?_⟩
 ·have:=h3 y hy
  unfold Env.kindOf
  rw [hS]
  rcases this with (h|h)|h
  ·exact absurd hf h
  ·exact .inl h
  ·exact .inr h
 ·have:=h5 j (by rw [List.mem_range];exact (List.getElem?_eq_some_iff.mp e1).1)
  rw [e1,e2] at this
  simp only [Bool.and_eq_true,beq_iff_eq] at this
  rw [hX]
  exact this
theorem jJ {i:Nat}:Hr (aP i):=by
 intro d ρ ρ' no e j ds q
 unfold aP at e
 cases e
 by_cases c:i=j
 ·subst c
  have hl:i < ρ.length:=by
   have:=(List.getElem?_eq_some_iff.mp q).1;simpa using this
  rw [List.getElem?_set_self hl] at q
  cases q;exact fun w=>by cases w
 ·rw [List.getElem?_set_ne c] at q;exact no j ds q
theorem rG {X:Cx} {B:Hp×Hp} {W:Wi} {tg iter:Expr} {elt:Expr} {sc:Scope} {pos:Pos} {N:List Str} {nt:Nat} {caps:List Nat} {h:Tg} {fe:aJ->Rs D} {fi:aJ->Rs (List D)}
  (c:Hq X sc N nt caps) (hc:X.calm=true) (hnames:sc.names.all (fun y=>y.2 != .local || sc.names.lookup y.1 == some .local)=true) (hi:SI X B W tg iter fi) (hno:Hr h)
  (ht:∀ s₀ H₀ C ex pins B',SG (pU X N s₀ H₀ sc (mW sc X.env) C ex pins) B' tg h)
  (he:∀ s₀ H₀ C ex pins B',SE (pU X N s₀ H₀ sc (mW sc X.env) C ex pins) B' WF elt fe)
  (hs:∀ x,foldedSetIterable iter X.env x=pure x:=by intro _;rfl) :
  SE X B W (.ListComp elt [⟨tg,iter,[],0⟩] sc pos) (jy h (fun _=>.ok true) fe nt caps fi) :=
 abv c hc (fun y hy hl=>by
  have:=List.all_eq_true.mp hnames y hy
  simp only [Bool.or_eq_true,bne_iff_ne,beq_iff_eq,ne_eq] at this
  exact this.elim (fun z=>absurd hl z) id) hi hno ht (.inl ⟨rfl,rfl⟩) he hs
noncomputable def Hu (i j:Nat) (fs:aJ->Rs (List D)):aJ->Ou:=fun ρ=>oR (fs ρ) ρ fun ds=>match ds with
 | [d,e]=>.nx ((ρ.set i (.fz d)).set j (.fz e))
 | _=>.no
theorem aeM {X:Cx} {B:Hp×Hp} {W:Wi} (i j:Nat) {x y:Str} {a b:Expr} {fs:aJ->Rs (List D)} {px py pt pos:Pos} {kt k2 pt2} (hc:X.calm=true) (hN:X.N.Nodup) (ha:SA X B W [a,b] fs) (hi:X.N[i]?=some x:=by rfl) (hj:X.N[j]?=some y:=by rfl) (hij:i≠j:=by decide)
  (hx:X.env.scope.names.lookup x=some .local:=by rfl) (hy:X.env.scope.names.lookup y=some .local:=by rfl)
  (hw:swappedStores [.Tuple [.Name x px,.Name y py] kt pt] (.Tuple [a,b] k2 pt2) X.env=pure (some [x,y]):=by rfl)
  (hs:swapsWithSole [.Tuple [.Name x px,.Name y py] kt pt] (.Tuple [a,b] k2 pt2) pos.line X.env=pure false:=by rfl) :
  SS X B W (.Assign [.Tuple [.Name x px,.Name y py] kt pt] (.Tuple [a,b] k2 pt2) pos) (Hu i j fs):=by
 refine PS.imp (adT hc hN hi hj hij hx hy ha hw hs) fun De σ H ⟨ρ,G,s,p⟩=>⟨ρ,G,s,?_⟩
 unfold Hu at p
 cases e:fs ρ with
 | ok ds =>
  rw [e] at p
  dsimp only [oR] at p
  match ds,p with
  | [d,d'],p =>
   intro vs H1 G1 x r
   obtain ⟨v,us,rfl,r1,r2⟩:=aR.mp r
   obtain ⟨v',us',rfl,r3,r4⟩:=aR.mp r2
   cases bx.mp r4
   exact ⟨v,v',rfl,p _ H1 G1 (((s.ext x).set r1).set r3) x.gg⟩
  | [],p=>exact p.elim
  | [_],p=>exact p.elim
  | _::_::_::_,p=>exact p.elim
 | ex c n=>rw [e] at p;exact fun H1 G1 x=>p σ H1 G1 (s.ext x) x.gg
 | no=>rw [e] at p;exact p
theorem Xw {K:Frag} (C:Addr):kitOne K (.ref C) (.ref C)=some true:=by unfold kitOne;rw [if_pos (by simp)]
end Vl
namespace Vl
open PySem PySem.Spec PySem.Calls PySem.W L2
theorem aeN {l:OpenLaw} {k:Nat} {q:Program} {loose:List Str} {XP:(Str->Option Value)->Heap->Prop} {YP:World->Heap->Prop} {d:DefRec} {K:Params->Frag} {v:List D->Rs D} (hn:l.most=some 63) (hdf:d.params.defaults=[]) (hr:mR k callerA)
  (hY:∀ (w:World) (h:Heap),YP w h->(K w.params).In h) (hv:∀ ns:List Int,ns.length<=63->v [.lst (ns.map D.int)]=.ok (.bl true))
  (F:∀ (w:World) (mg:Str->Option Value) (fa:Addr) (h:Heap),(K w.params).In h->h.Ns mainGlobals mg->mg d.name=some (.ref fa) ->
   ∃ fd:FuncData,(∀ (s:Shared) (u:Value),BindsTo s fd ⟨[u],[]⟩ [("script",u)])/\∀ base:Heap,(K w.params).In base->base.Ns mainGlobals mg->Ku l.prog w (K w.params) mg base (Tv l.prog w (K w.params)) k fa fd ["script"] (spV (K w.params) 1 v)) :
  WalkO q loose XP YP l.row.toRowW d [] (fun f vs=>PySem.call f vs):=by
 refine L2.abe (n:=63) (k:=k) (x:="script") (CX:=fun w=>Tv l.prog w (K w.params)) (sp:=fun w=>spV (K w.params) 1 v) hn (by decide) hdf hr hY F (fun w H a ns hl _ hS=>?_) fun w H s e s' h=>?_
 ·refine ⟨rfl,H,[.lst (ns.map D.int)],.refl (.refl _) (fun _ _ e=>e),bQ.one (aN.mpr ⟨a,_,rfl,hS,vU ns⟩),?_⟩
  rw [hv ns hl]
  exact fun u H' G' _ r=>bw.mp r
 ·obtain ⟨_,_,_,_,_,_,_,_,_,_,z⟩:=h
  exact z.elim
end Vl
namespace Vl
open PySem PySem.Spec PySem.Calls PySem.W L2
section
variable {ρ ρ1:aJ} {d x y z:D} {f fa fb:aJ->Rs D} {g k a b:aJ->Ou} {r:Ou} {ds:List D} {fs:aJ->Rs (List D)} {c c1 c2:aJ->Rs Bool} {t u:Bool} {i j:Nat}
theorem aV (h:g ρ=.nx ρ1) (h2:k ρ1=r):bO g k ρ=r:=by unfold bO;rw [h];exact h2
theorem gM (h:g ρ=.rt d):bO g k ρ=.rt d:=by unfold bO;rw [h];rfl
theorem cC:fC d ρ=.ok d:=rfl
theorem aF (h:ρ[i]?=some (.fz d)):aD i ρ=.ok d:=by unfold aD;rw [h]
theorem bC {o:D->D->Rs D} {r:Rs D} (h1:fa ρ=.ok x) (h2:fb ρ=.ok y) (h3:o x y=r):bD o fa fb ρ=r:=by unfold bD;rw [h1];show (fb ρ).bind _=_;rw [h2];exact h3
theorem agX {n:Int} (h1:fa ρ=.ok (.int n)):wj fa ρ=.ok (.int (-n)):=by unfold wj;rw [h1];rfl
theorem aU:aQ ρ=.ok []:=rfl
theorem ao (h1:fa ρ=.ok x) (h2:fs ρ=.ok ds):aj fa fs ρ=.ok (x::ds):=by unfold aj;rw [h1];show (fs ρ).bind _=_;rw [h2];rfl
theorem dR {o:List D->Rs D} {r:Rs D} (h1:fs ρ=.ok ds) (h2:o ds=r):fA fs o ρ=r:=by unfold fA;rw [h1];exact h2
theorem cj {n:Nat} {v:List D->Rs D} {r:Rs D} (hl:ds.length=n) (h:v ds=r):bK n v ds=r:=by unfold bK;rw [if_pos hl];exact h
theorem KZ (hl:ds.length<=1000):dI ds=.ok (.tup ds):=by unfold dI;rw [if_pos hl]
theorem La (hl:ds.length<=1000):pF ds=.ok (.lst ds):=by unfold pF;rw [if_pos hl]
theorem lu (h:fa ρ=.ok (.bl t)):fT fa ρ=.ok t:=by unfold fT;rw [h];rfl
theorem agY (h:c ρ=.ok t):uV c ρ=.ok (!t):=by unfold uV;rw [h];rfl
theorem Hv (h:c1 ρ=.ok false):uU c1 c2 ρ=.ok false:=by unfold uU;rw [h];rfl
theorem yu (h:c1 ρ=.ok true) (h2:c2 ρ=.ok t):uU c1 c2 ρ=.ok t:=by unfold uU;rw [h];exact h2
theorem eZ (h:c ρ=.ok true) (h2:a ρ=r):pI c a b ρ=r:=by unfold pI;rw [h];exact h2
theorem cR (h:c ρ=.ok false) (h2:b ρ=r):pI c a b ρ=r:=by unfold pI;rw [h];exact h2
theorem kI (h:fa ρ=.ok x):iy i fa ρ=.nx (ρ.set i (.fz x)):=by unfold iy;rw [h];rfl
theorem dJ (h:fa ρ=.ok x):cO fa ρ=.rt x:=by unfold cO;rw [h];rfl
theorem mz {h:Tg} (h1:fa ρ=.ok x) (h2:h x ρ=some ρ1):jO fa h ρ=.nx ρ1:=by unfold jO;rw [h1];show oO (h x ρ)=_;rw [h2];rfl
theorem lC:su ρ=.nx ρ:=rfl
theorem Ra (h:g ρ=.nx ρ1):sy g ρ=.nx ρ1:=by unfold sy;rw [h];rfl
theorem Xx {h:Tg} {n:Int} {N:Nat} (h1:fa ρ=.ok (.int n)) (hb:n < 2 ^ 62) (hN:n=(N:Int)) (h2:kj h g ((List.range N).map fun (i:Nat)=>.int i) ρ=r):uX h g fa ρ=r:=by
 have hc:-(2 ^ 62)<=n/\n < 2 ^ 62:=⟨by subst hN;omega,hb⟩
 unfold uX;rw [h1]
 simp only [oR]
 rw [if_pos hc,hN,Int.toNat_natCast]
 exact h2
theorem Ox {h:Tg} (h1:fa ρ=.ok (.lst ds)) (h2:kj h g ds ρ=r):Fe h g fa ρ=r:=by unfold Fe;rw [h1];exact h2
theorem zp {h:Tg} (P:aJ->Prop):∀ {ds:List D} {ρ:aJ},P ρ->(∀ d∈ds,∀ ρ,P ρ->∃ ρ1 ρ',h d ρ=some ρ1/\g ρ1=.nx ρ'/\P ρ')->∃ ρ',kj h g ds ρ=.nx ρ'/\P ρ'
 | [],ρ,p,_=>⟨ρ,rfl,p⟩
 | d::ds,ρ,p,st=>by
  obtain ⟨ρ1,ρ2,e1,e2,p2⟩:=st d (by simp) ρ p
  obtain ⟨ρ',e,p'⟩:=zp (ds:=ds) P p2 fun d' hd=>st d' (by simp [hd])
  refine ⟨ρ',?_,p'⟩
  simp only [kj,e1,e2]
  exact e
theorem wk {h:Tg} {ft:aJ->Rs Bool} {fe:aJ->Rs D} {nt:Nat} {caps:List Nat} {fi:aJ->Rs (List D)} {ys:List D} (h1:fi ρ=.ok ds) (h2:eV h ft fe ds (gF nt caps ρ)=.ok ys) (hl:ys.length<=1000000):jy h ft fe nt caps fi ρ=.ok (.lst ys):=by
 unfold jy;rw [h1]
 show yX ((eV h ft fe ds (gF nt caps ρ)).bind _)=_
 rw [h2]
 show yX (if ys.length<=1000000 then _ else _)=_
 rw [if_pos hl];rfl
variable {m n:Int}
theorem agZ (h:Oe m n):tX (.int m) (.int n)=.ok (.int (m * n)):=by simp [tX,gI,h]
theorem Fl (h:0 < n):rZ (.int m) (.int n)=.ok (.int (m % n)):=by simp [rZ,gI,h]
theorem adg (h:CDB m n):KD (.int m) (.int n)=.ok (.int (m / n)):=by simp [KD,gI,h]
theorem adh (h:Ws m n):Cq (.int m) (.int n)=.ok (.int (m ^ n.toNat)):=by simp [Cq,gI,h]
theorem wu:iB (.int m) (.int n)=.ok (.int (m + n)):=rfl
theorem Tz {a b:List D} (h:a.length + b.length<=1000000):iB (.lst a) (.lst b)=.ok (.lst (a++b)):=by simp only [iB];rw [if_pos h]
theorem pA:Vl.pD (.int m) (.int n)=.ok (.int (m - n)):=rfl
theorem TF (h:CDB m n):Xb [.int m,.int n]=.ok (.tup [.int (m / n),.int (m % n)]):=by simp [Xb,h]
theorem sG:Wc (.int m) (.int n)=.ok (.bl (decide (m < n))):=rfl
theorem TJ:gLe (.int m) (.int n)=.ok (.bl (decide (m<=n))):=rfl
theorem TQ:gGt (.int m) (.int n)=.ok (.bl (decide (n < m))):=rfl
theorem TV:gGe (.int m) (.int n)=.ok (.bl (decide (n<=m))):=rfl
theorem uY:yZ (.int m) (.int n)=.ok (.bl (decide (m=n))):=by simp [yZ,cT,rE];rfl
theorem Fo:Cv (.int m) (.int n)=.ok (.bl (!decide (m=n))):=by simp [Cv,cT,rE];rfl
theorem aje (h1:cT x<=8) (h2:cT y<=8):Cv x y=.ok (.bl (!rE x y)):=by unfold Cv;rw [if_pos ⟨h1,h2⟩]
theorem Fp (h1:cT x<=8) (e:x=y):Cv x y=.ok (.bl false):=by subst e;rw [aje h1 h1,uQ];rfl
theorem aha (h:Fb ds m=some d):dB (.lst ds) (.int m)=.ok d:=by simp [dB,h]
end
end Vl
namespace Tb
open PySem
noncomputable def it:Nat->Nat->Nat
 | 0,x=>x
 | m + 1,x=>5 * it m x + 1
theorem Xy (m n x:Nat):it (m + n) x=it m (it n x):=by
 induction m with
 | zero=>simp [it]
 | succ m ih=>rw [Nat.succ_add];simp only [it];rw [ih]
theorem aeO (k:Nat):∃ w,w % 2=1/\∀ y,it (2 ^ k) y=y + 2 ^ k * w * (4 * y + 1):=by
 induction k with
 | zero=>exact ⟨1,rfl,fun y=>by simp [it];omega⟩
 | succ k ih =>
  obtain ⟨w,hw,h⟩:=ih
  refine ⟨w * (1 + 2 ^ (k + 1) * w),?_,fun y=>?_⟩
  ·have e:2 ^ (k + 1)=2 * 2 ^ k:=by rw [Nat.pow_succ];omega
   rw [e,Nat.mul_add,Nat.mul_one,Nat.add_mod]
   have:w * (2 * 2 ^ k * w) % 2=0:=by
    have:w * (2 * 2 ^ k * w)=2 * (w * 2 ^ k * w):=by grind
    rw [this];exact Nat.mul_mod_right _ _
   omega
  ·have e:2 ^ (k + 1)=2 ^ k + 2 ^ k:=by rw [Nat.pow_succ];omega
   rw [e,Xy,h,h]
   grind
theorem ahb (k:Nat):∀ x e:Nat,∃ m,m < 2 ^ k/\it m x % 2 ^ k=e % 2 ^ k:=by
 induction k with
 | zero=>exact fun x e=>⟨0,by decide,by simp [Nat.mod_one]⟩
 | succ k ih =>
  intro x e
  obtain ⟨m,hm,he⟩:=ih x e
  obtain ⟨w,hw,hp⟩:=aeO k
  have e2:2 ^ (k + 1)=2 ^ k * 2:=Nat.pow_succ ..
  by_cases c:it m x % 2 ^ (k + 1)=e % 2 ^ (k + 1)
  ·exact ⟨m,by rw [e2];omega,c⟩
  ·refine ⟨2 ^ k + m,by rw [e2];omega,?_⟩
   rw [Xy,hp]
   have pos:0 < 2 ^ k:=Nat.pos_of_ne_zero (by simp)
   generalize it m x=a at he c
   obtain ⟨q,hq⟩:∃ q,w * (4 * a + 1)=2 * q + 1:=by
    refine ⟨w * (4 * a + 1) / 2,?_⟩
    have:w * (4 * a + 1) % 2=1:=by
     rw [Nat.mul_mod]
     have:(4 * a + 1) % 2=1:=by omega
     rw [hw,this]
    omega
   have hq':2 ^ k * w * (4 * a + 1)=2 ^ k * 2 * q + 2 ^ k:=by rw [Nat.mul_assoc,hq];grind
   rw [hq',e2]
   rw [e2] at c
   generalize 2 ^ k=M at *
   have h1:(a + (M * 2 * q + M)) % (M * 2)=(a + M) % (M * 2):=by
    have:a + (M * 2 * q + M)=a + M + M * 2 * q:=by omega
    rw [this,Nat.add_mul_mod_self_left]
   rw [h1]
   have a1:=Nat.mod_add_div a (M * 2)
   have b1:=Nat.mod_add_div e (M * 2)
   have al:=Nat.mod_lt a (show 0 < M * 2 by omega)
   have bl:=Nat.mod_lt e (show 0 < M * 2 by omega)
   generalize a % (M * 2)=ra at a1 al c
   generalize e % (M * 2)=rb at b1 bl c ⊢
   have ham:a % M=ra % M:=by rw [<- a1,Nat.mul_assoc,Nat.add_mul_mod_self_left]
   have hbm:e % M=rb % M:=by rw [<- b1,Nat.mul_assoc,Nat.add_mul_mod_self_left]
   have hrr:ra % M=rb % M:=by rw [<- ham,<- hbm];exact he
   have hA:(a + M) % (M * 2)=(ra + M) % (M * 2):=by
    rw [<- a1]
    have:ra + M * 2 * (a / (M * 2)) + M=ra + M + M * 2 * (a / (M * 2)):=by omega
    rw [this,Nat.add_mul_mod_self_left]
   rw [hA]
   by_cases ha:ra < M
   ·have e3:ra % M=ra:=Nat.mod_eq_of_lt ha
    have hb:¬ rb < M:=fun z=>c (by rw [Nat.mod_eq_of_lt z] at hrr;omega)
    have e4:rb % M=rb - M:=by rw [Nat.mod_eq_sub_mod (by omega),Nat.mod_eq_of_lt (by omega)]
    rw [Nat.mod_eq_of_lt (by omega)];omega
   ·have e3:ra % M=ra - M:=by rw [Nat.mod_eq_sub_mod (by omega),Nat.mod_eq_of_lt (by omega)]
    have hb:rb < M:=Nat.lt_of_not_le fun z=>c (by
     have e4:rb % M=rb - M:=by rw [Nat.mod_eq_sub_mod (by omega),Nat.mod_eq_of_lt (by omega)]
     omega)
    have e4:rb % M=rb:=Nat.mod_eq_of_lt hb
    rw [Nat.mod_eq_sub_mod (by omega),Nat.mod_eq_of_lt (by omega)];omega
end Tb
namespace Tb
open PySem PySem.SetTable
noncomputable def jc (t:SetTable):Nat->Probe->Probe
 | 0,p=>p
 | s + 1,p=>jc t s (t.advance p)
theorem rH (t:SetTable) (a b:Nat) (p:Probe):jc t (a + b) p=jc t b (jc t a p):=by
 induction a generalizing p with
 | zero=>simp [jc]
 | succ a ih=>rw [Nat.succ_add];simp only [jc];exact ih _
theorem iD (t:SetTable) (s:Nat) (p:Probe):jc t (s + 1) p=t.advance (jc t s p):=by
 rw [rH];rfl
noncomputable def pB (mask i pt:Nat) (d:Option Nat):Probe:={ j:=i,more:=runEnd mask i - i,i:=i,perturb:=pt,dummy:=d }
theorem aeP (mask i:Nat):runEnd mask i - i<=9:=by unfold runEnd;split <;> omega
theorem Rb (t:SetTable):∀ (m:Nat) (p:Probe),m<=p.more->jc t m p={ p with j:=p.j + m,more:=p.more - m }:=by
 intro m
 induction m with
 | zero=>intro p _;simp [jc]
 | succ m ih =>
  intro p h
  rw [iD,ih p (by omega)]
  unfold advance
  simp only
  rw [if_pos (by omega)]
  simp only [Probe.mk.injEq,and_true,true_and]
  omega
theorem zq (t:SetTable) (p:Probe):jc t (p.more + 1) p=pB t.mask (leap t.mask p.i p.perturb).1 (leap t.mask p.i p.perturb).2 p.dummy:=by
 rw [iD,Rb t p.more p (Nat.le_refl _)]
 unfold advance pB
 simp only [Nat.sub_self,Nat.lt_irrefl,gt_iff_lt,if_false]
noncomputable def lp (mask:Nat):Nat->Nat×Nat->Nat×Nat
 | 0,x=>x
 | n + 1,x=>leap mask (lp mask n x).1 (lp mask n x).2
theorem aeQ (t:SetTable) (d:Option Nat) (i pt:Nat):∀ n,∃ s,s<=10 * n/\jc t s (pB t.mask i pt d)=pB t.mask (lp t.mask n (i,pt)).1 (lp t.mask n (i,pt)).2 d:=by
 intro n
 induction n with
 | zero=>exact ⟨0,by omega,rfl⟩
 | succ n ih =>
  obtain ⟨s,hs,e⟩:=ih
  refine ⟨s + ((pB t.mask (lp t.mask n (i,pt)).1 (lp t.mask n (i,pt)).2 d).more + 1),?_,?_⟩
  ·have:=aeP t.mask (lp t.mask n (i,pt)).1
   simp only [pB];omega
  ·rw [rH,e,zq];rfl
theorem ahc (mask:Nat) (x:Nat×Nat):∀ n,(lp mask n x).2=x.2 / 32 ^ n:=by
 intro n
 induction n with
 | zero=>simp [lp]
 | succ n ih=>simp only [lp,leap,ih];rw [Nat.div_div_eq_div_mul,Nat.pow_succ]
theorem ahd (mask:Nat) (x:Nat×Nat) (n:Nat):(lp mask (n + 1) x).1 < mask + 1:=Nat.mod_lt _ (by omega)
theorem Xz (mask:Nat) (x:Nat×Nat) (a b:Nat):lp mask (a + b) x=lp mask b (lp mask a x):=by
 induction b with
 | zero=>rfl
 | succ b ih=>rw [Nat.add_succ];simp only [lp,ih]
theorem abD (mask i:Nat) (hi:i < mask + 1):∀ n,lp mask n (i,0)=(it n i % (mask + 1),0):=by
 intro n
 induction n with
 | zero=>simp [lp,it,Nat.mod_eq_of_lt hi]
 | succ n ih =>
  simp only [lp,ih,leap,it,Prod.mk.injEq,Nat.zero_div,Nat.add_zero,and_true]
  rw [Nat.mul_comm,Nat.add_mod,Nat.mul_mod,Nat.mod_mod,<- Nat.mul_mod,<- Nat.add_mod]
theorem XC {mask k:Nat} (hk:mask + 1=2 ^ k) (i pt:Nat) (hp:pt < 2 ^ 64) {e:Nat} (he:e<=mask):∃ n,n<=mask + 13/\(lp mask n (i,pt)).1=e:=by
 have h13:(lp mask 13 (i,pt)).2=0:=by rw [ahc];exact Nat.div_eq_of_lt (Nat.lt_trans hp (by decide))
 have hl:=ahd mask (i,pt) 12
 obtain ⟨m,hm,e1⟩:=ahb k (lp mask 13 (i,pt)).1 e
 refine ⟨13 + m,by omega,?_⟩
 rw [Xz]
 have e2:lp mask 13 (i,pt)=((lp mask 13 (i,pt)).1,0):=by rw [<- h13]
 rw [e2,abD _ _ hl,hk,e1,Nat.mod_eq_of_lt (by omega)]
theorem hit {t:SetTable} {k:Nat} (hk:t.mask + 1=2 ^ k) (p:Probe) (h9:p.more<=9) (hp:p.perturb < 2 ^ 64) {e:Nat} (he:e<=t.mask):∃ s,s<=10 * (t.mask + 14)/\(jc t s p).j=e:=by
 have hq:(leap t.mask p.i p.perturb).2 < 2 ^ 64:=Nat.lt_of_le_of_lt (Nat.div_le_self _ _) hp
 obtain ⟨n,hn,e1⟩:=XC hk (leap t.mask p.i p.perturb).1 (leap t.mask p.i p.perturb).2 hq he
 obtain ⟨s,hs,e2⟩:=aeQ t p.dummy (leap t.mask p.i p.perturb).1 (leap t.mask p.i p.perturb).2 n
 refine ⟨p.more + 1 + s,by omega,?_⟩
 rw [rH,zq,e2]
 exact e1
theorem aeR (t:SetTable) (p:Probe) (h9:p.more<=9) (hp:p.perturb < 2 ^ 64):∀ s,(jc t s p).more<=9/\(jc t s p).perturb < 2 ^ 64/\(jc t s p).dummy=p.dummy:=by
 intro s
 induction s with
 | zero=>exact ⟨h9,hp,rfl⟩
 | succ s ih =>
  rw [iD]
  obtain ⟨a,b,c⟩:=ih
  unfold advance
  split
  ·exact ⟨by simp only;omega,b,c⟩
  ·exact ⟨aeP _ _,Nat.lt_of_le_of_lt (Nat.div_le_self _ _) b,c⟩
theorem Rc (h:Int):bits h < 2 ^ 64:=by
 unfold bits
 have:=Int.emod_lt_of_pos h (show (0:Int) < 2 ^ 64 by decide)
 have:=Int.emod_nonneg h (show (2 ^ 64:Int)≠0 by decide)
 omega
noncomputable def pos (t:SetTable) (h:Int) (s:Nat):Nat:=(jc t s (t.probeStart h)).j
theorem uZ (t:SetTable) (h:Int) (s:Nat):(jc t s (t.probeStart h)).more<=9/\(jc t s (t.probeStart h)).perturb < 2 ^ 64/\(jc t s (t.probeStart h)).dummy=none :=
 aeR t _ (aeP _ _) (Rc h) s
theorem Hw {t:SetTable} {k:Nat} (hk:t.mask + 1=2 ^ k) (h:Int) (s0:Nat) {e:Nat} (he:e<=t.mask):∃ s,s0<=s/\s<=s0 + 10 * (t.mask + 14)/\pos t h s=e:=by
 obtain ⟨a,b,_⟩:=uZ t h s0
 obtain ⟨s,hs,e1⟩:=hit hk (jc t s0 (t.probeStart h)) a b he
 exact ⟨s0 + s,by omega,by omega,by unfold pos;rw [rH];exact e1⟩
end Tb
namespace Tb
open PySem PySem.SetTable
noncomputable def pG (xs:Array Nat):Prop:=∀ a b,a < b->b < xs.size->xs.getD a 0 < xs.getD b 0
theorem abE {xs:Array Nat} {a:Nat} (h:a < xs.size) (d:Nat):xs.getD a d=xs.getD a 0:=by simp [Array.getD,h]
theorem XD {xs:Array Nat} {j:Nat} (R:pG xs):∀ (fuel lo hi:Nat),lo<=hi->hi<=xs.size->hi<=lo + fuel->(∀ a,a < lo->xs.getD a 0 < j)->(∀ a,hi<=a->a < xs.size->j<=xs.getD a 0) ->
  below.go xs j fuel lo hi<=xs.size/\(∀ a,a < below.go xs j fuel lo hi->xs.getD a 0 < j)/\(∀ a,below.go xs j fuel lo hi<=a->a < xs.size->j<=xs.getD a 0):=by
 intro fuel
 induction fuel with
 | zero =>
  intro lo hi h1 h2 h3 h4 h5
  obtain rfl:lo=hi:=by omega
  exact ⟨h2,h4,h5⟩
 | succ fuel ih =>
  intro lo hi h1 h2 h3 h4 h5
  unfold below.go
  by_cases c:lo < hi
  ·rw [if_pos c]
   simp only
   have hm:(lo + hi) / 2 < xs.size:=by omega
   rw [abE hm]
   by_cases d:xs.getD ((lo + hi) / 2) 0 < j
   ·rw [if_pos d]
    refine ih _ _ (by omega) h2 (by omega) (fun a ha=>?_) h5
    by_cases e:a=(lo + hi) / 2
    ·rw [e];exact d
    ·exact Nat.lt_trans (R a ((lo + hi) / 2) (by omega) hm) d
   ·rw [if_neg d]
    refine ih _ _ (by omega) (by omega) (by omega) h4 fun a ha hs=>?_
    by_cases e:a=(lo + hi) / 2
    ·rw [e];omega
    ·exact Nat.le_trans (by omega) (Nat.le_of_lt (R ((lo + hi) / 2) a (by omega) hs))
  ·rw [if_neg c]
   obtain rfl:lo=hi:=by omega
   exact ⟨h2,h4,h5⟩
theorem mX {xs:Array Nat} (R:pG xs) (j:Nat):below xs j<=xs.size/\(∀ a,a < below xs j->xs.getD a 0 < j)/\(∀ a,below xs j<=a->a < xs.size->j<=xs.getD a 0) :=
 XD R xs.size 0 xs.size (Nat.zero_le _) (Nat.le_refl _) (by omega) (fun a h=>absurd h (by omega)) fun a h1 h2=>absurd h1 (by omega)
theorem Lb {xs:Array Nat} (R:pG xs) {i:Nat} (hi:i < xs.size):below xs (xs.getD i 0)=i:=by
 obtain ⟨h1,h2,h3⟩:=mX R (xs.getD i 0)
 by_cases c:below xs (xs.getD i 0) < i
 ·have:=h3 _ (Nat.le_refl _) (by omega)
  have:=R _ i c hi
  omega
 ·by_cases d:i < below xs (xs.getD i 0)
  ·have:=h2 i d;omega
  ·omega
noncomputable def mY (t:SetTable) (j:Nat):Prop:=∃ i,i < t.place.size/\t.place.getD i 0=j
theorem Ld {xs:Array Nat} {i:Nat} (hi:i < xs.size):xs[i]?=some (xs.getD i 0):=by simp [Array.getD,hi]
theorem rJ {t:SetTable} (R:pG t.place) {i:Nat} (hi:i < t.place.size):t.slot (t.place.getD i 0)=.live i:=by
 unfold slot
 simp only
 rw [Lb R hi,Ld hi]
 simp
theorem Oz {t:SetTable} (nd:t.dummies=#[]) {j:Nat} (h:¬ mY t j):t.slot j=.empty:=by
 unfold slot
 simp only
 rw [if_neg,if_neg]
 ·unfold has;rw [nd];simp
 ·intro c
  apply h
  have c':t.place[below t.place j]?=some j:=by simpa using c
  obtain ⟨hl,e⟩:=Array.getElem?_eq_some_iff.mp c'
  exact ⟨_,hl,by simp [Array.getD,hl,e]⟩
theorem vd {t:SetTable} (R:pG t.place) {j:Nat} (h:mY t j):∃ i,i < t.place.size/\t.place.getD i 0=j/\t.slot j=.live i:=by
 obtain ⟨i,hi,e⟩:=h
 exact ⟨i,hi,e,by rw [<- e];exact rJ R hi⟩
theorem abF {xs:Array Nat} (R:pG xs):∀ i,i < xs.size->i<=xs.getD i 0:=by
 intro i
 induction i with
 | zero=>intro _;exact Nat.zero_le _
 | succ i ih=>intro h;have:=ih (by omega);have:=R i (i + 1) (by omega) h;omega
theorem zu {t:SetTable} (R:pG t.place) (hs:t.place.size<=t.mask):∃ e,e<=t.mask/\¬ mY t e:=by
 have key:∀ n,n<=t.place.size->(∀ a,a < n->t.place.getD a 0=a)∨∃ e,e < n/\t.place.getD e 0≠e/\∀ a,a < e->t.place.getD a 0=a:=by
  intro n
  induction n with
  | zero=>intro _;exact .inl fun a h=>absurd h (by omega)
  | succ n ih =>
   intro h
   rcases ih (by omega) with h1|⟨e,h1,h2,h3⟩
   ·by_cases c:t.place.getD n 0=n
    ·refine .inl fun a ha=>?_
     by_cases d:a=n
     ·rw [d];exact c
     ·exact h1 a (by omega)
    ·exact .inr ⟨n,by omega,c,h1⟩
   ·exact .inr ⟨e,by omega,h2,h3⟩
 rcases key t.place.size (Nat.le_refl _) with h|⟨e,h1,h2,h3⟩
 ·refine ⟨t.place.size,hs,fun ⟨i,hi,e⟩=>?_⟩
  have:=h i hi;omega
 ·refine ⟨e,by omega,fun ⟨i,hi,e'⟩=>?_⟩
  by_cases c:i < e
  ·have:=h3 i c;omega
  ·have hge:=abF R e h1
   by_cases d:i=e
   ·subst d;exact h2 e'
   ·have:=R e i (by omega) hi;omega
theorem Le {t:SetTable} (R:pG t.place) (nd:t.dummies=#[]) (hashAt:Nat->Int) (h:Int):∀ (fuel s0 s1:Nat),s0<=s1->s1 < s0 + fuel->¬ mY t (pos t h s1) ->
    ∃ s2,s0<=s2/\s2<=s1/\(∀ s,s0<=s->s < s2->∃ i,i < t.place.size/\t.place.getD i 0=pos t h s/\hashAt i≠h) /\
      ((¬ mY t (pos t h s2) /\ probe.go t hashAt h fuel (jc t s0 (t.probeStart h)) = some (.empty (pos t h s2) none)) ∨
       ∃ i,i < t.place.size/\t.place.getD i 0=pos t h s2/\hashAt i=h/\probe.go t hashAt h fuel (jc t s0 (t.probeStart h))=some (.candidate (pos t h s2) i (jc t (s2 + 1) (t.probeStart h)))):=by
  intro fuel
  induction fuel with
  | zero=>intro s0 s1 h1 h2;omega
  | succ fuel ih =>
    intro s0 s1 h1 h2 hl
    have hd:=(uZ t h s0).2.2
    unfold probe.go
    by_cases c:mY t (pos t h s0)
    . obtain ⟨i,hi,e1,e2⟩:=vd R c
      have e2':t.slot (jc t s0 (t.probeStart h)).j=.live i:=e2
      rw [e2']
      simp only
      by_cases d:hashAt i=h
      . refine ⟨s0,Nat.le_refl _,h1,fun s a b=>absurd a (by omega),.inr ⟨i,hi,e1,d,?_⟩⟩
        rw [if_pos (by simp [d]),iD];rfl
      . rw [if_neg (by simp [d]),<- iD]
        have hne:s0≠s1:=fun z=>hl (z▸c)
        obtain ⟨s2,a1,a2,a3,a4⟩:=ih (s0 + 1) s1 (by omega) (by omega) hl
        refine ⟨s2,by omega,a2,fun s b1 b2=>?_,a4⟩
        by_cases z:s=s0
        . subst z;exact ⟨i,hi,e1,d⟩
        . exact a3 s (by omega) b2
    . refine ⟨s0,Nat.le_refl _,h1,fun s a b=>absurd a (by omega),.inl ⟨c,?_⟩⟩
      have e2:t.slot (jc t s0 (t.probeStart h)).j=.empty:=Oz nd c
      rw [e2]
      simp only
      rw [hd];rfl
end Tb
namespace Tb
open PySem PySem.SetTable
theorem XF {t t':SetTable} (e:t.mask=t'.mask):∀ s p,jc t s p=jc t' s p:=by
 intro s
 induction s with
 | zero=>intro p;rfl
 | succ s ih =>
  intro p
  simp only [jc]
  have:t.advance p=t'.advance p:=by unfold advance;rw [e]
  rw [this,ih]
theorem pY {t t':SetTable} (e:t.mask=t'.mask) (h:Int) (s:Nat):pos t h s=pos t' h s:=by
 unfold pos
 have:t.probeStart h=t'.probeStart h:=by unfold probeStart;rw [e]
 rw [this,XF e]
noncomputable abbrev iJ:=Nat×Int×Value
structure Good (t:SetTable) (L:List iJ):Prop where
 pw:∃ k,t.mask + 1=2 ^ k
 m7:7<=t.mask
 nd:t.dummies=#[]
 pl:t.place=(L.map (·.1)).toArray
 so:(L.map (·.1)).Pairwise (· < ·)
 le:∀ e∈L,e.1<=t.mask
 reach:∀ e∈L,∃ s,pos t e.2.1 s=e.1/\∀ s',s' < s->∃ e'∈L,e'.1=pos t e.2.1 s'
section
variable {t:SetTable} {L:List iJ}
theorem Good.sz (g:Good t L):t.place.size=L.length:=by rw [g.pl];simp
theorem Good.at (g:Good t L) {i:Nat} (hi:i < L.length):t.place.getD i 0=L[i].1:=by rw [g.pl];simp [Array.getD,hi]
theorem Good.rise (g:Good t L):pG t.place:=by
 intro a b hab hb
 rw [g.sz] at hb
 rw [g.at (show a < L.length by omega),g.at hb]
 have:=(List.pairwise_iff_getElem.mp g.so) a b (by simpa using (show a < L.length by omega)) (by simpa using hb) hab
 simpa using this
theorem Good.live (g:Good t L) {j:Nat}:mY t j↔∃ e∈L,e.1=j:=by
 constructor
 ·rintro ⟨i,hi,e⟩
  rw [g.sz] at hi
  rw [g.at hi] at e
  exact ⟨L[i],List.getElem_mem hi,e⟩
 ·rintro ⟨e,he,q⟩
  obtain ⟨i,hi,e1⟩:=List.mem_iff_getElem.mp he
  exact ⟨i,by rw [g.sz];exact hi,by rw [g.at hi,e1];exact q⟩
theorem Good.uniq (g:Good t L) {e e':iJ} (h:e∈L) (h':e'∈L) (q:e.1=e'.1):e=e':=by
 obtain ⟨i,hi,rfl⟩:=List.mem_iff_getElem.mp h
 obtain ⟨j,hj,rfl⟩:=List.mem_iff_getElem.mp h'
 have R:=g.rise
 by_cases c:i < j
 ·have:=R i j c (by rw [g.sz];exact hj);rw [g.at hi,g.at hj] at this;omega
 ·by_cases d:j < i
  ·have:=R j i d (by rw [g.sz];exact hi);rw [g.at hi,g.at hj] at this;omega
  ·obtain rfl:i=j:=by omega
   rfl
end
theorem lD {α:Type} (xs:List α) (p:Nat) (hp:p<=xs.length) (x:α):insertAt xs.toArray p x=(xs.take p++x::xs.drop p).toArray:=by
 unfold insertAt
 apply Array.toList_inj.mp
 simp only [List.extract_toArray,List.size_toArray,Array.toList_append,Array.toList_push,List.extract_eq_take_drop,Nat.sub_zero,List.drop_zero]
 rw [List.take_of_length_le (l:=xs.drop p) (by simp)]
 simp
theorem Hx (t:SetTable) (nd:t.dummies=#[]) (j:Nat):t.put j=({ t with place:=insertAt t.place (below t.place j) j },below t.place j):=by
 unfold put
 have:has t.dummies j=false:=by unfold has;rw [nd];simp
 simp only [this,Bool.false_eq_true,if_false]
theorem Good.put {t:SetTable} {L:List iJ} (g:Good t L) {j:Nat} {h:Int} {x:Value} (hj:j<=t.mask) (hn:¬ mY t j) (hr:∃ s,pos t h s=j/\∀ s',s' < s->∃ e'∈L,e'.1=pos t h s') :
  (t.put j).2<=L.length/\Good (t.put j).1 (L.take (t.put j).2++(j,h,x)::L.drop (t.put j).2):=by
 rw [Hx t g.nd]
 obtain ⟨b1,b2,b3⟩:=mX g.rise j
 rw [g.sz] at b1 b3
 simp only
 generalize hp:below t.place j=p at *
 refine ⟨b1,?_⟩
 have mem:∀ e:iJ,e∈L.take p++(j,h,x)::L.drop p↔e=(j,h,x)∨e∈L:=fun e=>by
  have:L=L.take p++L.drop p:=(List.take_append_drop p L).symm
  constructor
  ·intro z
   rcases List.mem_append.mp z with z|z
   ·exact .inr (List.mem_of_mem_take z)
   ·rcases List.mem_cons.mp z with z|z
    ·exact .inl z
    ·exact .inr (List.mem_of_mem_drop z)
  ·rintro (z|z)
   ·subst z;simp
   ·rw [this] at z
    rcases List.mem_append.mp z with z|z
    ·exact List.mem_append_left _ z
    ·exact List.mem_append_right _ (List.mem_cons_of_mem _ z)
 have pm:∀ (hh:Int) (s:Nat),pos { t with place:=insertAt t.place p j } hh s=pos t hh s:=fun hh s=>pY (by rfl) hh s
 refine ⟨g.pw,g.m7,g.nd,?_,?_,fun e he=>?_,fun e he=>?_⟩
 ·show insertAt t.place p j=_
  rw [g.pl,lD _ _ (by simpa using b1)]
  simp [List.map_take,List.map_drop]
 ·simp only [List.map_append,List.map_cons]
  rw [List.pairwise_append]
  refine ⟨?_,?_,?_⟩
  ·rw [List.map_take];exact List.Pairwise.sublist (List.take_sublist _ _) g.so
  ·rw [List.pairwise_cons]
   refine ⟨fun a ha=>?_,?_⟩
   ·obtain ⟨e,he,rfl⟩:=List.mem_map.mp ha
    obtain ⟨i,hi,rfl⟩:=List.mem_iff_getElem.mp he
    have hi':p + i < L.length:=by simp at hi;omega
    have q:=b3 (p + i) (by omega) hi'
    rw [g.at hi'] at q
    have ne:L[p + i].1≠j:=fun z=>hn (g.live.mpr ⟨_,List.getElem_mem hi',z⟩)
    simp only [List.getElem_drop]
    show j < _
    omega
   ·rw [List.map_drop];exact List.Pairwise.sublist (List.drop_sublist _ _) g.so
  ·intro a ha b hb
   obtain ⟨e,he,rfl⟩:=List.mem_map.mp ha
   obtain ⟨i,hi,rfl⟩:=List.mem_iff_getElem.mp he
   have hi':i < p:=by simp at hi;omega
   have q:=b2 i hi'
   rw [g.at (show i < L.length by omega)] at q
   simp only [List.getElem_take]
   rcases List.mem_cons.mp hb with z|z
   ·rw [z];exact q
   ·obtain ⟨e',he',rfl⟩:=List.mem_map.mp z
    obtain ⟨i',hi2,rfl⟩:=List.mem_iff_getElem.mp he'
    have hi3:p + i' < L.length:=by simp at hi2;omega
    have:=b3 (p + i') (by omega) hi3
    rw [g.at hi3] at this
    simp only [List.getElem_drop]
    omega
 ·rcases (mem e).mp he with z|z
  ·rw [z];exact hj
  ·exact g.le e z
 ·rcases (mem e).mp he with z|z
  ·subst z
   obtain ⟨s,e1,e2⟩:=hr
   refine ⟨s,by rw [pm];exact e1,fun s' hs=>?_⟩
   obtain ⟨e',h1,h2⟩:=e2 s' hs
   exact ⟨e',(mem e').mpr (.inr h1),by rw [pm];exact h2⟩
  ·obtain ⟨s,e1,e2⟩:=g.reach e z
   refine ⟨s,by rw [pm];exact e1,fun s' hs=>?_⟩
   obtain ⟨e',h1,h2⟩:=e2 s' hs
   exact ⟨e',(mem e').mpr (.inr h1),by rw [pm];exact h2⟩
end Tb
namespace Tb
open PySem PySem.SetTable
noncomputable def iG (owner:Array (Option Nat)) (j:Nat):Prop:=owner.getD j (some 0)=none
theorem TX {mask:Nat} {t:SetTable} (ht:t.mask=mask) (owner:Array (Option Nat)):∀ (fuel i pt n:Nat),n < fuel->iG owner (lp mask n (i,pt)).1 ->
  ∃ j s,layClean.free mask owner fuel i pt=some j/\(jc t s (pB mask i pt none)).j=j/\iG owner j/\∀ s',s' < s->¬ iG owner (jc t s' (pB mask i pt none)).j:=by
 intro fuel
 induction fuel with
 | zero=>intro i pt n h;omega
 | succ fuel ih =>
  intro i pt n hn hN
  unfold layClean.free
  have run:∀ s,s<=runEnd mask i - i->(jc t s (pB mask i pt none)).j=i + s:=fun s hs=>by rw [Rb t s _ hs];rfl
  have hre:i<=runEnd mask i:=by unfold runEnd;split <;> omega
  cases e:(List.range (runEnd mask i + 1 - i)).find? fun k=>(owner.getD (i + k) (some 0)).isNone with
  | some k =>
   simp only
   have h1:=List.find?_some e
   have h2:=List.mem_of_find?_eq_some e
   have h3:=List.mem_range.mp h2
   refine ⟨i + k,k,rfl,run k (by omega),by simpa [iG] using h1,fun s' hs z=>?_⟩
   rw [run s' (by omega)] at z
   have:=List.find?_eq_some_iff_append.mp e
   obtain ⟨_,as,bs,e1,e2⟩:=this
   have hs':s'∈as:=by
    have hm:s'∈List.range (runEnd mask i + 1 - i):=List.mem_range.mpr (by omega)
    have ps:=List.pairwise_lt_range (n:=runEnd mask i + 1 - i)
    rw [e1] at hm ps
    rcases List.mem_append.mp hm with hm|hm
    ·exact hm
    ·rcases List.mem_cons.mp hm with hm|hm
     ·omega
     ·have:=(List.pairwise_cons.mp (List.pairwise_append.mp ps).2.1).1 s' hm;omega
   have:=e2 s' hs'
   rw [show owner.getD (i + s') (some 0)=none from z] at this
   simp at this
  | none =>
   simp only
   have h1:=List.find?_eq_none.mp e
   have no:∀ s,s<=runEnd mask i - i->¬ iG owner (i + s):=fun s hs z=>by
    have:=h1 s (List.mem_range.mpr (by omega))
    rw [show owner.getD (i + s) (some 0)=none from z] at this
    simp at this
   cases n with
   | zero=>exact absurd hN (no 0 (by omega))
   | succ n =>
    have e3:lp mask (n + 1) (i,pt)=lp mask n (leap mask i pt):=by
     rw [Nat.add_comm,Xz];rfl
    rw [e3] at hN
    obtain ⟨j,s,a1,a2,a3,a4⟩:=ih (leap mask i pt).1 (leap mask i pt).2 n (by omega) hN
    have hl:jc t (runEnd mask i - i + 1) (pB mask i pt none)=pB mask (leap mask i pt).1 (leap mask i pt).2 none:=by
     have:=zq t (pB mask i pt none)
     rw [ht] at this
     exact this
    refine ⟨j,runEnd mask i - i + 1 + s,a1,by rw [rH,hl];exact a2,a3,fun s' hs z=>?_⟩
    by_cases c:s'<=runEnd mask i - i
    ·rw [run s' c] at z;exact no s' c z
    ·obtain ⟨q,rfl⟩:∃ q,s'=runEnd mask i - i + 1 + q:=⟨s' - (runEnd mask i - i + 1),by omega⟩
     rw [rH,hl] at z
     exact a4 q (by omega) z
theorem vf {α β:Type} {f g:α->Option β}:∀ {l:List α},(∀ a∈l,f a=g a)->l.filterMap f=l.filterMap g
 | [],_=>rfl
 | a::l,h=>by
  have ih:=vf (l:=l) fun b hb=>h b (List.mem_cons_of_mem _ hb)
  simp only [List.filterMap_cons,ih,h a List.mem_cons_self]
noncomputable def fj (M:Nat) (owner:Array (Option Nat)):List (Nat×Nat):=(List.range M).filterMap fun j=>(owner.getD j none).map (j,·)
theorem mZ {M:Nat} {owner:Array (Option Nat)} {j i:Nat}:(j,i)∈fj M owner↔j < M/\owner.getD j none=some i:=by
 unfold fj
 simp only [List.mem_filterMap,List.mem_range,Option.map_eq_some_iff,Prod.mk.injEq]
 constructor
 ·rintro ⟨a,h1,b,h2,rfl,rfl⟩;exact ⟨h1,h2⟩
 ·rintro ⟨h1,h2⟩;exact ⟨j,h1,i,h2,rfl,rfl⟩
theorem Cw {M:Nat} {owner:Array (Option Nat)}:((fj M owner).map (·.1)).Pairwise (· < ·):=by
 have e:(fj M owner).map (·.1)=(List.range M).filter fun j=>(owner.getD j none).isSome:=by
  unfold fj
  rw [List.map_filterMap,<- List.filterMap_eq_filter]
  congr 1
  funext j
  generalize hz:owner.getD j none=o
  cases o <;> simp [Option.guard,hz]
 rw [e]
 exact List.Pairwise.sublist List.filter_sublist List.pairwise_lt_range
theorem Lf {f f':Nat->Option (Nat×Nat)} {j:Nat} {v:Nat×Nat}:∀ {l:List Nat},l.Nodup->j∈l->f j=none->f' j=some v->(∀ a,a≠j->f' a=f a)->(l.filterMap f').Perm (v::l.filterMap f)
 | [],_,h,_,_,_=>by cases h
 | a::l,nd,h,h1,h2,h3=>by
  have nd':=List.nodup_cons.mp nd
  by_cases c:a=j
  ·subst c
   have same:l.filterMap f'=l.filterMap f:=vf fun b hb=>h3 b fun z=>nd'.1 (z▸hb)
   rw [List.filterMap_cons_some h2,List.filterMap_cons_none h1,same]
  ·have hm:j∈l:=(List.mem_cons.mp h).resolve_left (Ne.symm c)
   have ih:=Lf nd'.2 hm h1 h2 h3
   cases e:f a with
   | none =>
    rw [List.filterMap_cons_none (by rw [h3 a c];exact e),List.filterMap_cons_none e];exact ih
   | some b =>
    rw [List.filterMap_cons_some (by rw [h3 a c];exact e),List.filterMap_cons_some e]
    exact (ih.cons b).trans (List.Perm.swap ..)
theorem OD {M:Nat} {owner:Array (Option Nat)} (hs:owner.size=M) {j k:Nat} (hj:j < M) (hn:owner.getD j none=none):(fj M (owner.setIfInBounds j (some k))).Perm ((j,k)::fj M owner):=by
 unfold fj
 refine Lf (j:=j) List.nodup_range (List.mem_range.mpr hj) (by rw [hn];rfl) ?_ fun a ha=>?_
 ·have:(owner.setIfInBounds j (some k)).getD j none=some k:=by simp [Array.getD,hs,hj]
  rw [this];rfl
 ·have:(owner.setIfInBounds j (some k)).getD a none=owner.getD a none:=by
   simp only [Array.getD_eq_getD_getElem?]
   rw [Array.getElem?_setIfInBounds_ne (Ne.symm ha)]
  rw [this]
structure LC (t:SetTable) (hs:List Int) (owner:Array (Option Nat)) (k:Nat):Prop where
 sz:owner.size=t.mask + 1
 pm:((fj (t.mask + 1) owner).map (·.2)).Perm (List.range k)
 reach:∀ j i,(j,i)∈fj (t.mask + 1) owner->∃ h,hs[i]?=some h/\∃ s,pos t h s=j/\∀ s',s' < s->¬ iG owner (pos t h s')
theorem Rf {owner:Array (Option Nat)} {j:Nat} (h:iG owner j):j < owner.size/\owner.getD j none=none:=by
 unfold iG at h
 by_cases c:j < owner.size
 ·simp only [Array.getD,c,dif_pos] at h ⊢;exact ⟨trivial,h⟩
 ·simp [Array.getD,c] at h
theorem LC.step {t:SetTable} {hs:List Int} {owner:Array (Option Nat)} {k:Nat} (g:LC t hs owner k) (pw:∃ q,t.mask + 1=2 ^ q) (hk:k<=t.mask) {h:Int} (hh:hs[k]?=some h) :
  ∃ j,layClean.free t.mask owner (turns t.mask) (bits h % (t.mask + 1)) (bits h)=some j/\LC t hs (owner.setIfInBounds j (some k)) (k + 1):=by
 obtain ⟨q,hq⟩:=pw
 have emp:∃ e,e<=t.mask/\iG owner e:=by
  refine Classical.byContradiction fun c=>?_
  have all:∀ e,e < t.mask + 1->∃ i,(e,i)∈fj (t.mask + 1) owner:=fun e he=>by
   cases z:owner.getD e none with
   | some i=>exact ⟨i,mZ.mpr ⟨he,z⟩⟩
   | none =>
    refine absurd ⟨e,by omega,?_⟩ c
    have hl:e < owner.size:=by rw [g.sz];exact he
    simp only [iG,Array.getD,hl,dif_pos] at z ⊢;exact z
  have l1:(fj (t.mask + 1) owner).length=k:=by have:=g.pm.length_eq;simpa using this
  have l2:((fj (t.mask + 1) owner).map (·.1))=List.range (t.mask + 1):=by
   unfold fj
   rw [List.map_filterMap]
   have:(List.range (t.mask + 1)).filterMap (fun x=>Option.map (·.1) (Option.map (x,·) (owner.getD x none)))=(List.range (t.mask + 1)).filterMap some:=by
    refine vf fun x hx=>?_
    obtain ⟨i,hi⟩:=all x (List.mem_range.mp hx)
    rw [(mZ.mp hi).2];rfl
   rw [this];simp
  have l3:=congrArg List.length l2
  simp at l3
  omega
 obtain ⟨e,he,hN⟩:=emp
 obtain ⟨n,hn,en⟩:=XC hq (bits h % (t.mask + 1)) (bits h) (Rc h) he
 obtain ⟨j,s,f1,f2,f3,f4⟩:=TX (t:=t) rfl owner (turns t.mask) (bits h % (t.mask + 1)) (bits h) n (by unfold turns;omega) (by rw [en];exact hN)
 obtain ⟨hj,hjn⟩:=Rf f3
 have hp:=OD (k:=k) g.sz (by rw [<- g.sz];exact hj) hjn
 have stays:∀ a,¬ iG owner a->¬ iG (owner.setIfInBounds j (some k)) a:=fun a ha z=>by
  by_cases c:a=j
  ·subst c
   have:=Rf z
   simp [Array.getD,hj] at this
  ·apply ha
   unfold iG at z ⊢
   simp only [Array.getD_eq_getD_getElem?] at z ⊢
   rw [Array.getElem?_setIfInBounds_ne (Ne.symm c)] at z
   exact z
 refine ⟨j,f1,⟨by simp [g.sz],?_,fun j' i' hm=>?_⟩⟩
 ·have:=(hp.map (fun (x:Nat×Nat)=>x.2)).trans (List.Perm.cons k g.pm)
  refine this.trans ?_
  rw [List.range_succ]
  exact List.perm_append_comm (l₁:=[k]) (l₂:=List.range k)
 ·rcases List.mem_cons.mp (hp.mem_iff.mp hm) with z|z
  ·cases z
   exact ⟨h,hh,s,f2,fun s' hs'=>stays _ (f4 s' hs')⟩
  ·obtain ⟨h',e1,s1,e2,e3⟩:=g.reach j' i' z
   exact ⟨h',e1,s1,e2,fun s' hs'=>stays _ (e3 s' hs')⟩
end Tb
namespace Tb
open PySem PySem.SetTable
theorem XH {mask i:Nat} (h:i<=mask):i + (runEnd mask i - i)<=mask:=by unfold runEnd;split <;> omega
theorem aeS (t:SetTable) (p:Probe) (h:p.j + p.more<=t.mask):∀ s,(jc t s p).j + (jc t s p).more<=t.mask:=by
 intro s
 induction s with
 | zero=>exact h
 | succ s ih =>
  rw [iD]
  unfold advance
  split
  ·simp only;omega
  ·exact XH (Nat.le_of_lt_succ (Nat.mod_lt _ (by omega)))
theorem XJ (t:SetTable) (h:Int) (s:Nat):pos t h s<=t.mask:=by
 have:=aeS t (t.probeStart h) (XH (Nat.le_of_lt_succ (Nat.mod_lt _ (by omega)))) s
 unfold pos;omega
theorem XM {t:SetTable} (pw:∃ q,t.mask + 1=2 ^ q) (hs:List Int) (hn:hs.length<=t.mask):∀ (rest pre:List Int) (owner:Array (Option Nat)),hs=pre++rest->LC t hs owner pre.length ->
  ∃ Hy,rest.foldl (init:=some (owner,pre.length)) (fun acc h=>do
    let (owner,k) <- acc
    let j <- layClean.free t.mask owner (turns t.mask) (bits h % (t.mask + 1)) (bits h)
    pure (owner.setIfInBounds j (some k),k + 1))=some (Hy,hs.length)/\LC t hs Hy hs.length:=by
 intro rest
 induction rest with
 | nil =>
  intro pre owner e g
  rw [List.append_nil] at e
  subst e
  exact ⟨owner,rfl,g⟩
 | cons h rest ih =>
  intro pre owner e g
  have hk:hs[pre.length]?=some h:=by rw [e];simp
  have hl:pre.length<=t.mask:=by rw [e] at hn;simp at hn;omega
  obtain ⟨j,f1,g1⟩:=g.step pw hl hk
  obtain ⟨Hy,e1,g2⟩:=ih (pre++[h]) (owner.setIfInBounds j (some pre.length)) (by rw [e];simp) (by simpa using g1)
  refine ⟨Hy,?_,g2⟩
  rw [List.foldl_cons]
  have:(some (owner,pre.length) >>= fun x=>match x with
    | (owner,k)=>layClean.free t.mask owner (turns t.mask) (bits h % (t.mask + 1)) (bits h) >>= fun j=>pure (owner.setIfInBounds j (some k),k + 1))=some (owner.setIfInBounds j (some pre.length),(pre++[h]).length):=by
   show (layClean.free t.mask owner (turns t.mask) (bits h % (t.mask + 1)) (bits h) >>= fun j=>pure (owner.setIfInBounds j (some pre.length),pre.length + 1))=_
   rw [f1]
   simp
  exact (congrArg (fun o=>rest.foldl _ o) this).trans e1
theorem LC.start (t:SetTable) (hs:List Int):LC t hs (Array.replicate (t.mask + 1) none) 0:=by
 have e:fj (t.mask + 1) (Array.replicate (t.mask + 1) none)=[]:=by
  unfold fj
  rw [List.filterMap_eq_nil_iff]
  intro j hj
  have:(Array.replicate (t.mask + 1) (none:Option Nat)).getD j none=none:=by
   simp only [Array.getD_eq_getD_getElem?,Array.getElem?_replicate]
   split <;> rfl
  rw [this];rfl
 refine ⟨by simp,by rw [e];exact .refl _,fun j i h=>?_⟩
 rw [e] at h;cases h
theorem Lg {t:SetTable} (pw:∃ q,t.mask + 1=2 ^ q) (hs:Array Int) (hn:hs.size<=t.mask):∃ owner,layClean t.mask hs=some owner/\LC t hs.toList owner hs.size:=by
 obtain ⟨owner,e,g⟩:=XM pw hs.toList (by simpa using hn) hs.toList [] (Array.replicate (t.mask + 1) none) rfl (LC.start t _)
 refine ⟨owner,?_,by simpa using g⟩
 unfold layClean
 rw [<- Array.foldl_toList]
 have e':=congrArg (Option.map (·.1)) e
 exact e'
theorem Hz:∀ (fuel size n:Nat),(∃ q,size=2 ^ q)->8<=size->n < size * 2 ^ fuel->∃ q,sizeAbove.go n fuel size=2 ^ q/\8<=sizeAbove.go n fuel size/\n < sizeAbove.go n fuel size/\(sizeAbove.go n fuel size=size∨sizeAbove.go n fuel size<=2 * n):=by
 intro fuel
 induction fuel with
 | zero=>intro size n ⟨q,hq⟩ h8 h;exact ⟨q,hq,h8,by simpa [sizeAbove.go] using h,.inl rfl⟩
 | succ fuel ih =>
  intro size n ⟨q,hq⟩ h8 h
  unfold sizeAbove.go
  by_cases c:size<=n
  ·rw [if_pos c]
   obtain ⟨q',a1,a2,a3,a4⟩:=ih (size * 2) n ⟨q + 1,by rw [hq,Nat.pow_succ]⟩ (by omega) (by rw [Nat.mul_assoc,<- Nat.pow_succ'];exact h)
   refine ⟨q',a1,a2,a3,.inr ?_⟩
   rcases a4 with a4|a4
   ·rw [a4];omega
   ·exact a4
  ·rw [if_neg c]
   exact ⟨q,hq,h8,by omega,.inl rfl⟩
theorem jD (n:Nat) (hn:n < 2 ^ 60):(∃ q,sizeAbove n - 1 + 1=2 ^ q)/\7<=sizeAbove n - 1/\n<=sizeAbove n - 1/\(sizeAbove n - 1=7∨sizeAbove n<=2 * n):=by
 obtain ⟨q,a1,a2,a3,a4⟩:=Hz 64 8 n ⟨3,rfl⟩ (Nat.le_refl _) (Nat.lt_trans hn (by decide))
 unfold sizeAbove
 refine ⟨⟨q,by rw [<- a1];omega⟩,by omega,by omega,?_⟩
 rcases a4 with a4|a4
 ·left;omega
 ·right;exact a4
theorem rK {mask:Nat} (pw:∃ q,mask + 1=2 ^ q) (m7:7<=mask) (finger moves:Nat) (led plain:Bool) (es:List (Int×Value)) (hn:es.length<=mask) :
  ∃ t' order L,laid mask finger moves led plain (es.map (·.1)).toArray=some (t',order)/\t'.mask=mask/\t'.led=led/\t'.plain=plain/\t'.moves=moves/\Good t' L/\order.filterMap (fun i=>es.toArray[i]?)=(L.map (·.2)).toArray/\(L.map (·.2)).Perm es:=by
 let t0:SetTable:={ mask,place:=#[],dummies:=#[],finger,led,moves,plain }
 obtain ⟨owner,e1,g⟩:=Lg (t:=t0) pw (es.map (·.1)).toArray (by simpa using hn)
 let live:=fj (mask + 1) owner
 let t1:SetTable:={ mask,place:=(live.map (·.1)).toArray,dummies:=#[],finger,led,moves,plain }
 have hi:∀ j i,(j,i)∈live->∃ e,es[i]?=some e:=fun j i h=>by
  obtain ⟨hh,a1,_⟩:=g.reach j i h
  simp only [List.getElem?_map,Option.map_eq_some_iff] at a1
  obtain ⟨e,a2,_⟩:=a1
  exact ⟨e,a2⟩
 let L:List iJ:=live.filterMap fun x=>(es[x.2]?).map fun e=>(x.1,e)
 have hL1:∀ l:List (Nat×Nat),(∀ x∈l,∃ e,es[x.2]?=some e)->(l.filterMap fun x=>(es[x.2]?).map fun e=>((x.1,e):iJ)).map (·.1)=l.map (·.1):=by
  intro l
  induction l with
  | nil=>intro _;rfl
  | cons x l ih =>
   intro h
   obtain ⟨e,he⟩:=h x List.mem_cons_self
   rw [List.filterMap_cons_some (by rw [he];rfl),List.map_cons,List.map_cons,ih fun y hy=>h y (List.mem_cons_of_mem _ hy)]
 have hL2:∀ l:List (Nat×Nat),(l.filterMap fun x=>(es[x.2]?).map fun e=>((x.1,e):iJ)).map (·.2)=(l.map (·.2)).filterMap fun i=>es[i]?:=by
  intro l
  rw [List.map_filterMap,List.filterMap_map]
  refine vf fun x _=>?_
  simp only [Function.comp]
  cases es[x.2]? <;> rfl
 have rg:∀ l:List (Int×Value),(List.range l.length).filterMap (fun i=>l[i]?)=l:=by
  intro l
  induction l with
  | nil=>rfl
  | cons a l ih =>
   rw [List.length_cons,List.range_succ_eq_map,List.filterMap_cons_some (by rfl),List.filterMap_map]
   congr 1
 have pmL:(L.map (·.2)).Perm es:=by
  show ((live.filterMap fun x=>(es[x.2]?).map fun e=>((x.1,e):iJ)).map (·.2)).Perm es
  rw [hL2]
  have:=(g.pm.filterMap fun i=>es[i]?)
  have e2:(es.map (·.1)).toArray.size=es.length:=by simp
  rw [e2] at this
  rw [rg] at this
  exact this
 refine ⟨t1,(live.map (·.2)).toArray,L,?_,rfl,rfl,rfl,rfl,⟨pw,m7,rfl,?_,?_,fun e he=>?_,fun e he=>?_⟩,?_,pmL⟩
 ·unfold laid
  have e1':layClean mask (es.map (·.1)).toArray=some owner:=e1
  rw [e1']
  rfl
 ·show (live.map (·.1)).toArray=_
  rw [show L.map (·.1)=live.map (·.1) from hL1 live fun x hx=>hi x.1 x.2 hx]
 ·rw [show L.map (·.1)=live.map (·.1) from hL1 live fun x hx=>hi x.1 x.2 hx]
  exact Cw
 ·obtain ⟨x,hx,h2⟩:=List.mem_filterMap.mp he
  obtain ⟨e',_,rfl⟩:=Option.map_eq_some_iff.mp h2
  have:=(mZ (j:=x.1) (i:=x.2)).mp hx
  show x.1<=mask
  omega
 ·obtain ⟨x,hx,h2⟩:=List.mem_filterMap.mp he
  obtain ⟨e',h3,rfl⟩:=Option.map_eq_some_iff.mp h2
  obtain ⟨hh,a1,s,a2,a3⟩:=g.reach x.1 x.2 hx
  simp only [List.getElem?_map,h3,Option.map_some,Option.some.injEq] at a1
  subst a1
  have pm:∀ s,pos t1 e'.1 s=pos t0 e'.1 s:=fun s=>pY (t:=t1) (t':=t0) rfl _ s
  refine ⟨s,by rw [pm];exact a2,fun s' hs=>?_⟩
  have nn:=a3 s' hs
  have hlt:pos t0 e'.1 s' < mask + 1:=Nat.lt_succ_of_le (XJ t0 e'.1 s')
  cases z:owner.getD (pos t0 e'.1 s') none with
  | none =>
   refine absurd ?_ nn
   have hl:pos t0 e'.1 s' < owner.size:=by rw [g.sz];exact hlt
   simp only [iG,Array.getD,hl,dif_pos] at z ⊢;exact z
  | some i =>
   have hm:(pos t0 e'.1 s',i)∈live:=mZ.mpr ⟨hlt,z⟩
   obtain ⟨e2,he2⟩:=hi _ _ hm
   refine ⟨(pos t0 e'.1 s',e2),List.mem_filterMap.mpr ⟨_,hm,by rw [he2];rfl⟩,by rw [pm]⟩
 ·rw [show L.map (·.2)=(live.map (·.2)).filterMap fun i=>es[i]? from hL2 live]
  simp
end Tb
namespace Tb
open PySem PySem.Spec PySem.SetTable
noncomputable abbrev TK (prog:Program) (w:World):=tupleKind (intKind prog w)
noncomputable abbrev hK (prog:Program) (w:World) (ks:List Int):Int:=tupleKeyHash (intKind prog w) ks
noncomputable def HB (prog:Program) (w:World) (h:Heap) (e:iJ) (ks:List Int):Prop:=∃ b,e.2.2=.ref b/\IsTupleKey (intKind prog w) h ks b/\e.2.1=hK prog w ks
section
variable {prog:Program} {w:World} {A:Around} {E:Value->Shared->Prop} {s:Shared}
theorem HD {n:Nat} {v:Value} (h:carriedByValue v=true):ofAClassStatement n v=pure false:=by
 cases v with
 | ref a=>simp [carriedByValue] at h
 | _=>first|rfl|(unfold ofAClassStatement;rfl)
theorem vg {ks:List Int} {b:Addr} {Q:Bool->Shared->Prop} (hk:IsTupleKey (intKind prog w) s.heap ks b) (h:Q false s):wpAny (model prog w) A (ofAClassStatement 8 (.ref b)) Q E s:=by
 have hT:=hk.typeIs
 obtain ⟨o,items,n,ho,hc,hd,hi⟩:=hk
 unfold ofAClassStatement
 refine wpAny_bind (wpAny_typeOf hT ?_)
 simp only [beq_self_eq_true,if_true]
 refine wpAny_bind (wpAny_pure ?_)
 simp only [Bool.not_true,Bool.false_eq_true,if_false]
 refine wpAny_bind (wpAny_seqItems ho hd ?_)
 refine wpAny_bind ?_
 show wpAny _ _ (forIn items _ _) _ _ s
 rw [<- Array.forIn_toList]
 refine wpAny_forIn_list _ (fun rest r s'=>r.1=none/\s'=s/\∀ v∈rest,carriedByValue v=true) _ ?_ ?_ _ _ ⟨rfl,rfl,hi.byValue⟩
 ·rintro v rest r s' ⟨hr,rfl,hall⟩
  rw [HD (hall v List.mem_cons_self)]
  refine wpAny_bind (wpAny_pure ?_)
  simp only [Bool.false_eq_true,if_false]
  exact wpAny_pure ⟨rfl,rfl,fun u hu'=>hall u (List.mem_cons_of_mem _ hu')⟩
 ·rintro ⟨r1,r2⟩ s' ⟨hr,rfl,_⟩
  simp only at hr
  subst hr
  exact wpAny_pure h
theorem HF {ks:List Int} {b:Addr} {Q:Bool->Shared->Prop} (hk:IsTupleKey (intKind prog w) s.heap ks b) (ys:List Value) (hy:∀ y∈ys,∃ k' b',y=.ref b'/\IsTupleKey (intKind prog w) s.heap k' b') (h:Q false s) :
  wpAny (model prog w) A (searchCouldBeSeen (.ref b) ys) Q E s:=by
 unfold searchCouldBeSeen
 refine wpAny_bind ?_
 refine wpAny_forIn_list _ (fun rest r s'=>r.1=none/\s'=s/\∀ y∈rest,∃ k' b',y=.ref b'/\IsTupleKey (intKind prog w) s.heap k' b') _ ?_ ?_ _ _ ⟨rfl,rfl,hy⟩
 ·rintro v rest r s' ⟨hr,rfl,hall⟩
  obtain ⟨k',b',rfl,hk'⟩:=hall v List.mem_cons_self
  have Rg:∀ y∈rest,∃ k' b',y=Value.ref b'/\IsTupleKey (intKind prog w) s'.heap k' b':=fun y hy=>hall y (List.mem_cons_of_mem _ hy)
  dsimp only
  by_cases c:b=b'
  ·subst c
   simp only [beq_self_eq_true,Bool.true_or,if_true]
   exact wpAny_pure ⟨rfl,rfl,Rg⟩
  ·have hc:(b == b')=false:=by simpa using c
   simp only [hc,carriedByValue,Bool.false_and,Bool.or_self,Bool.false_eq_true,if_false]
   refine wpAny_bind (wpAny_eqIsQuiet_tuple hk ?_)
   simp only [Bool.not_true,Bool.false_eq_true,if_false]
   refine wpAny_bind (wpAny_eqIsQuiet_tuple hk' ?_)
   simp only [Bool.not_true,Bool.false_eq_true,if_false]
   refine wpAny_bind (vg hk ?_)
   simp only [Bool.false_eq_true,if_false]
   refine wpAny_bind (vg hk' ?_)
   simp only [Bool.false_eq_true,if_false]
   exact wpAny_pure ⟨rfl,rfl,Rg⟩
 ·rintro ⟨r1,r2⟩ s' ⟨hr,rfl,_⟩
  simp only at hr
  subst hr
  exact wpAny_pure h
theorem pZ {a:Addr} {Q:Bool->Shared->Prop} (h:Q true s):wpAny (model prog w) A (isSame (.ref a) (.ref a)) Q E s:=by
 unfold isSame
 simp only [beq_self_eq_true,if_true]
 exact wpAny_pure h
end
end Tb
namespace Tb
open PySem PySem.Spec PySem.SetTable
section
variable {prog:Program} {w:World} {A:Around} {E:Value->Shared->Prop} {s:Shared}
noncomputable abbrev bU (L:List iJ) (ep:Nat) (t:SetTable):Obj:={ cls:=.type "set",dict:=none,data:=.set (L.map (·.2)).toArray ep t }
theorem Good.fits {t:SetTable} {L:List iJ} (g:Good t L) (hl:L.length<=t.mask):t.fits ((L.map (·.2)).toArray).size=true:=by
 unfold PySem.SetTable.fits
 have h1:t.fill<=t.mask:=by unfold fill;rw [g.nd,g.sz];simpa using hl
 simp [g.sz,h1]
theorem Good.odd {t:SetTable} {L:List iJ} (g:Good t L):t.gaveWay=false:=by
 obtain ⟨k,hk⟩:=g.pw
 have h7:=g.m7
 unfold gaveWay
 cases k with
 | zero=>simp at hk;omega
 | succ k =>
  have:t.mask % 2=1:=by rw [Nat.pow_succ] at hk;omega
  simp [this]
theorem OJ {a b:Addr} {ks:List Int} {L:List iJ} {ep:Nat} {t:SetTable} {f:iJ->List Int} {Q:SetFound->Shared->Prop} (ho:s.heap.get? a=some (bU L ep t)) (g:Good t L) (hl:L.length<=t.mask) (hf:∀ e∈L,HB prog w s.heap e (f e))
  (hb:IsTupleKey (intKind prog w) s.heap ks b) (hu:A.units < cLine) (q1:(∃ e∈L,f e=ks)->Q (.there none) s)
  (q2:∀ j,j<=t.mask->¬ mY t j->(∃ n,pos t (hK prog w ks) n=j/\∀ n',n' < n->∃ e'∈L,e'.1=pos t (hK prog w ks) n')->(∀ e∈L,f e≠ks)->Q (.free j false) s) :
  ∀ (fuel s0 sE:Nat) (jP:Option Probe),s0<=sE->sE < s0 + fuel->sE < s0 + 10 * turns t.mask->¬ mY t (pos t (hK prog w ks) sE)->jP.getD (t.probeStart (hK prog w ks))=jc t s0 (t.probeStart (hK prog w ks)) ->
   (∀ n,n < s0->∃ e∈L,e.1=pos t (hK prog w ks) n/\f e≠ks)->wpAny (model prog w) A (setSearchFrom a (.ref b) (hK prog w ks) true fuel jP) Q E s:=by
 intro fuel
 induction fuel with
 | zero=>intro s0 sE _ h1 h2;omega
 | succ fuel ih =>
  intro s0 sE jP h1 h2 h2' hE hst hpre
  unfold setSearchFrom
  refine wpAny_bind (wpAny_setState_of ho rfl (g.fits hl) ?_)
  simp only [g.odd,Bool.false_eq_true,if_false]
  obtain ⟨s2,a1,a2,a3,a4⟩:=Le g.rise g.nd (fun i=>((((L.map (·.2)).toArray)[i]?).map (·.1)).getD 0) (hK prog w ks) (10 * turns t.mask) s0 sE h1 h2' hE
  have hh:∀ i (hi:i < L.length),((((L.map (·.2)).toArray)[i]?).map (·.1)).getD 0=L[i].2.1:=fun i hi=>by simp [hi]
  have passed:∀ n,n < s2->∃ e∈L,e.1=pos t (hK prog w ks) n/\f e≠ks:=fun n hn=>by
   by_cases c:n < s0
   ·exact hpre n c
   ·obtain ⟨i,hi,e1,e2⟩:=a3 n (by omega) hn
    rw [g.sz] at hi
    rw [g.at hi] at e1
    rw [hh i hi] at e2
    refine ⟨L[i],List.getElem_mem hi,e1,fun z=>e2 ?_⟩
    obtain ⟨b',_,_,e3⟩:=hf _ (List.getElem_mem hi)
    rw [e3,z]
  rcases a4 with ⟨hne,hp⟩|⟨i,hi,e1,e2,hp⟩
  ·-- an empty slot
   have hp':t.probe (fun i=>((((L.map (·.2)).toArray)[i]?).map (·.1)).getD 0) (hK prog w ks) (jP.getD (t.probeStart (hK prog w ks)))=some (.empty (pos t (hK prog w ks) s2) none):=by rw [hst];exact hp
   generalize hr:t.probe _ (hK prog w ks) (jP.getD (t.probeStart (hK prog w ks)))=r
   obtain rfl:r=_:=hr.symm.trans hp'
   simp only
   refine wpAny_pure (q2 _ (XJ t _ _) hne ⟨s2,rfl,fun n hn=>?_⟩ fun e he z=>?_)
   ·obtain ⟨e,he,q,_⟩:=passed n hn;exact ⟨e,he,q⟩
   ·obtain ⟨b',_,_,e3⟩:=hf e he
    obtain ⟨n,r1,r2⟩:=g.reach e he
    rw [e3,z] at r1 r2
    by_cases c:n < s2
    ·obtain ⟨e',he',q,ne⟩:=passed n c
     have:=g.uniq he' he (q.trans r1)
     subst this
     exact ne z
    ·by_cases d:s2 < n
     ·obtain ⟨e',he',q⟩:=r2 s2 d
      exact hne (g.live.mpr ⟨e',he',q⟩)
     ·obtain rfl:n=s2:=by omega
      exact hne (g.live.mpr ⟨e,he,r1.symm⟩)
  ·-- a key with the same hash
   rw [g.sz] at hi
   have e1':=e1
   rw [g.at hi] at e1
   obtain ⟨b',hv,hk',hx⟩:=hf _ (List.getElem_mem hi)
   have hp':t.probe (fun i=>((((L.map (·.2)).toArray)[i]?).map (·.1)).getD 0) (hK prog w ks) (jP.getD (t.probeStart (hK prog w ks)))=some (.candidate (pos t (hK prog w ks) s2) i (jc t (s2 + 1) (t.probeStart (hK prog w ks)))):=by rw [hst];exact hp
   generalize hr:t.probe _ (hK prog w ks) (jP.getD (t.probeStart (hK prog w ks)))=r
   obtain rfl:r=_:=hr.symm.trans hp'
   simp only
   have ei:((L.map (·.2)).toArray)[i]?=some (L[i].2.1,.ref b'):=by
    have:((L.map (·.2)).toArray)[i]?=some L[i].2:=by simp [hi]
    rw [this,<- hv]
   have rest:wpAny (model prog w) A (do
     let some (_,y):=((L.map (·.2)).toArray)[i]?|unsupported "internal:set-entry"
     let equal <- holding [y] (eqBool y (.ref b))
     let (es',_,t') <- setState a
     if true && equal then return .there none
     let some same:=t'.sameMemory t.moves t.mask|unsupported "set.changed-during-lookup:is-the-new-block-at-the-old-address"
     let still <- match (if same then t'.slot (pos t (hK prog w ks) s2) else .empty) with
      | .live i'=>match es'[i']? with
       | some (_,y')=>do pure (if <- isSame y' y then some i' else none)
       | none=>pure none
      | _=>pure none
     match still with
     | none=>rule "set.search.anew";setSearchFrom a (.ref b) (hK prog w ks) true fuel none
     | some i'=>if equal then return .there (some i') else setSearchFrom a (.ref b) (hK prog w ks) true fuel (some (jc t (s2 + 1) (t.probeStart (hK prog w ks))))) Q E s:=by
    rw [ei]
    simp only
    refine wpAny_bind (wpAny_holding ((TK prog w).eqBool hu hk' hb ?_))
    refine wpAny_bind (wpAny_setState_of ho rfl (g.fits hl) ?_)
    by_cases c:f L[i]=ks
    ·simp only [c,decide_true,Bool.and_self,if_true]
     exact wpAny_pure (q1 ⟨_,List.getElem_mem hi,c⟩)
    ·simp only [c,decide_false,Bool.and_false,Bool.false_eq_true,if_false]
     have hsm:t.sameMemory t.moves t.mask=some true:=by unfold sameMemory;simp
     rw [hsm]
     simp only [if_true]
     have hsl:t.slot (pos t (hK prog w ks) s2)=.live i:=by rw [<- e1'];exact rJ g.rise (by rw [g.sz];exact hi)
     rw [hsl]
     simp only [ei]
     refine wpAny_bind (pZ (wpAny_bind (wpAny_pure ?_)))
     simp only [if_true]
     have hne:s2≠sE:=fun z=>hE (z▸g.live.mpr ⟨_,List.getElem_mem hi,e1⟩)
     refine ih (s2 + 1) sE _ (by omega) (by omega) (by omega) hE rfl fun n hn=>?_
     by_cases d:n=s2
     ·subst d;exact ⟨_,List.getElem_mem hi,e1,c⟩
     ·exact passed n (by omega)
   cases ahe:t.led with
   | true=>simp only [Bool.not_true,Bool.false_eq_true,if_false];exact rest
   | false =>
    simp only [Bool.not_false,if_true]
    refine wpAny_bind (HF hb _ (fun y hy=>?_) ?_)
    ·obtain ⟨e,he,rfl⟩:=List.mem_map.mp hy
     have he':e∈(L.map (·.2)):=by
      have:=Array.mem_toList_iff.mp he
      have:=(Array.mem_filter.mp this).1
      simpa using this
     obtain ⟨e0,h0,rfl⟩:=List.mem_map.mp he'
     obtain ⟨b2,hv2,hk2,_⟩:=hf e0 h0
     exact ⟨_,b2,hv2,hk2⟩
    ·simp only [Bool.false_eq_true,if_false];exact rest
end
end Tb
namespace Tb
open PySem PySem.Spec PySem.SetTable
section
variable {prog:Program} {w:World} {A:Around} {E:Value->Shared->Prop} {s:Shared}
theorem Lh {ks:List Int} {b:Addr} {Q:Bool->Shared->Prop} (hk:IsTupleKey (intKind prog w) s.heap ks b) (h:Q true s):wpAny (model prog w) A (hashByValue 8 (.ref b)) Q E s:=by
 have hT:=hk.typeIs
 obtain ⟨o,items,n,ho,hc,hd,hi⟩:=hk
 have allI:∀ v∈items.toList,∃ i t,v=.int i t:=by
  clear hd
  generalize items.toList=l at hi
  induction hi with
  | nil=>intro v hv;cases hv
  | cons h1 _ ih =>
   intro v hv
   rcases List.mem_cons.mp hv with rfl|hv
   ·cases v with
    | int i t=>exact ⟨i,t,rfl⟩
    | _=>simp [intKind,Value.isInt] at h1
   ·exact ih v hv
 unfold hashByValue
 refine wpAny_bind (wpAny_specialOf hT F.slot_tuple_hash.lookup ?_)
 simp only
 refine wpAny_bind (wpAny_seqItems ho hd ?_)
 simp only [Option.getD_some]
 refine wpAny_bind ?_
 rw [<- Array.forIn_toList]
 refine wpAny_forIn_list _ (fun rest r s'=>r.1=none/\s'=s/\∀ v∈rest,∃ i t,v=.int i t) _ ?_ ?_ _ _ ⟨rfl,rfl,allI⟩
 ·rintro v rest r s' ⟨hr,rfl,hall⟩
  obtain ⟨i,t,rfl⟩:=hall v List.mem_cons_self
  have:hashByValue 7 (.int i t)=pure true:=by unfold hashByValue;rfl
  rw [this]
  refine wpAny_bind (wpAny_pure ?_)
  simp only [Bool.not_true,Bool.false_eq_true,if_false]
  exact wpAny_pure ⟨rfl,rfl,fun u hu'=>hall u (List.mem_cons_of_mem _ hu')⟩
 ·rintro ⟨r1,r2⟩ s' ⟨hr,rfl,_⟩
  simp only at hr
  subst hr
  exact wpAny_pure h
noncomputable abbrev jl (w:World):Bool:=w.params.followText "set-order"
noncomputable def aM (prog:Program) (w:World) (U:Addr->List Int->Prop) (h:Heap) (a:Addr) (aC:List (List Int)):Prop :=
 ∃ (L:List iJ) (ep:Nat) (t:SetTable) (f:Int×Value->List Int),h.get? a=some (bU L ep t)/\Good t L/\L.length * 5 < t.mask * 3/\t.mask < 8000/\(t.plain=true/\t.led=!jl w)/\(∀ e∈L,HB prog w h e (f e.2))/\(L.map fun e=>f e.2).Perm aC/\aC.Nodup/\∀ e∈L,∀ b,e.2.2=.ref b->U b (f e.2)
theorem jd {h h':Heap} {a:Addr} {L:List iJ} {ep:Nat} {t:SetTable} {ks:List Int} {b:Addr} (ho:h.get? a=some (bU L ep t)) (hs:Heap.SameBut a h h') (hk:IsTupleKey (intKind prog w) h ks b):IsTupleKey (intKind prog w) h' ks b:=by
 obtain ⟨o,items,n,h1,h2,h3,h4⟩:=hk
 have ne:b≠a:=fun z=>by
  subst z;rw [ho] at h1;cases h1;cases h3
 exact ⟨o,items,n,(hs.2 b ne).trans h1,h2,h3,h4⟩
theorem jQ {a:Addr} {L L':List iJ} {ep:Nat} {t t':SetTable} {Q:Unit->Shared->Prop} (ho:s.heap.get? a=some (bU L ep t)) (hz:L'.length<=1000000) (h:∀ h',Heap.SameBut a s.heap h'->h'.get? a=some (bU L' (ep + 1) t')->Q () { s with heap:=h' }) :
  wpAny (model prog w) A (storeSet a (L'.map (·.2)).toArray t') Q E s:=by
 refine wpAny_storeSet_of ho rfl (h _ (Heap.SameBut.update s.heap a _) ?_) (by rw [sizeLine_eq];simp;omega)
 have hd:(bU L ep t).data=.set (L.map (·.2)).toArray ep t:=rfl
 have:=Heap.get?_update_self (Obj.putSet (L'.map (·.2)).toArray t') ho (by rw [putSet_of _ _ hd];rfl)
 rw [putSet_of _ _ hd] at this
 exact this
theorem XQ {a:Addr} {L:List iJ} {ep:Nat} {t:SetTable} {Q:Unit->Shared->Prop} (ho:s.heap.get? a=some (bU L ep t)) (g:Good t L) (hl:L.length<=t.mask) (h1:1<=L.length) (hz:L.length<=1000) (hp:t.plain=true)
  (h:∀ h' L' t',Heap.SameBut a s.heap h'->h'.get? a=some (bU L' (ep + 1) t')->Good t' L'->L'.length * 5 < t'.mask * 3->(t'.mask=7∨t'.mask + 1<=8 * L'.length)->(t'.plain=true/\t'.led=t.led)->(L'.map (·.2)).Perm (L.map (·.2))->Q () { s with heap:=h' }) :
  wpAny (model prog w) A (setRelay a (grown L.length)) Q E s:=by
 have hg:grown L.length=L.length * 4:=by unfold grown;rw [if_neg (by omega)]
 rw [hg]
 obtain ⟨s1,s2,s3,s4⟩:=jD (L.length * 4) (by omega)
 unfold setRelay
 refine wpAny_bind (wpAny_setState_of ho rfl (g.fits hl) ?_)
 have hsz:¬ sizeAbove (L.length * 4) > sizeLine:=by rw [sizeLine_eq];omega
 simp only [hsz,if_false]
 obtain ⟨t',order,L',e1,e2,e3,e4,e5,g',e6,e7⟩:=rK s1 s2 t.finger (t.movedTo (sizeAbove (L.length * 4) - 1)) t.led t.plain (L.map (·.2)) (by simp;omega)
 have hlen:L'.length=L.length:=by have:=e7.length_eq;simpa using this
 have er:t.relaid (((L.map (·.2)).toArray).map (·.1)) (L.length * 4)=some (t',order):=by
  unfold relaid
  have:((L.map (·.2)).toArray).map (·.1)=((L.map (·.2)).map (·.1)).toArray:=by simp
  rw [this];exact e1
 have main:wpAny (model prog w) A (do
   let some (t,order):=t.relaid (((L.map (·.2)).toArray).map (·.1)) (L.length * 4)|unsupported "internal:set-table-without-room"
   let es':=order.filterMap (((L.map (·.2)).toArray)[·]?)
   if es'.size != ((L.map (·.2)).toArray).size then unsupported "internal:set-table-lost-an-element"
   pure (es',t)) (fun r s'=>wpAny (model prog w) A (storeSet a r.1 r.2) Q E s') E s:=by
  rw [er]
  simp only
  rw [e6]
  have:((L'.map (·.2)).toArray.size != ((L.map (·.2)).toArray).size)=false:=by simp [hlen]
  rw [this]
  simp only [Bool.false_eq_true,if_false]
  refine wpAny_pure ?_
  refine jQ (t':=t') ho (by omega) fun h' hs hg=>h h' L' t' hs hg g' (by rw [e2,hlen];omega) ?_ ⟨e4.trans hp,e3⟩ e7
  rw [e2,hlen]
  rcases s4 with s4|s4
  ·exact .inl s4
  ·right;omega
 exact wpAny_bind main
end
end Tb
namespace Tb
open PySem PySem.Spec PySem.SetTable
section
variable {prog:Program} {w:World} {U:Addr->List Int->Prop} {A:Around} {E:Value->Shared->Prop} {s:Shared}
theorem aM.len {h:Heap} {a:Addr} {aC:List (List Int)} (x:aM prog w U h a aC):∃ (L:List iJ) (ep:Nat) (t:SetTable),h.get? a=some (bU L ep t)/\L.length=aC.length:=by
 obtain ⟨L,ep,t,f,ho,_,_,_,_,_,hp,_⟩:=x
 exact ⟨L,ep,t,ho,by have:=hp.length_eq;simpa using this⟩
theorem ni {a b:Addr} {ks:List Int} {aC:List (List Int)} {Q:Bool->Shared->Prop} (hS:aM prog w U s.heap a aC) (hn:aC.length < 1000) (hb:IsTupleKey (intKind prog w) s.heap ks b) (hU:U b ks) (hu:A.units < cLine)
  (h:∀ h' added,Heap.SameBut a s.heap h'->aM prog w U h' a (if ks∈aC then aC else ks::aC)->Q added { s with heap:=h' }):wpAny (model prog w) A (setAddHashed a (.ref b) (hK prog w ks)) Q E s:=by
 have hS0:=hS
 obtain ⟨L,ep,t,f,ho,g,room,mb,⟨pl,ld⟩,hf,hp,nd,uu⟩:=hS
 have hlen:L.length=aC.length:=by have:=hp.length_eq;simpa using this
 have h7:=g.m7
 have hl:L.length<=t.mask:=by omega
 have adi:t.mask < 8000:=mb
 have self:∀ added,(ks∈aC)->Q added s:=fun added hm=>by
  have:=h s.heap added (Heap.SameBut.refl a s.heap) (by rw [if_pos hm];exact hS0)
  cases s;exact this
 unfold setAddHashed
 refine wpAny_holding ?_
 unfold setAddHashedIn
 refine wpAny_bind (wpAny_setState_of ho rfl (g.fits hl) ?_)
 have hby:byScan (.ref b) (L.map (·.2)).toArray=false:=by simp [byScan,Value.scannable]
 simp only [hby,Bool.false_eq_true,if_false]
 obtain ⟨e0,he0,hE0⟩:=zu g.rise (by rw [g.sz];exact hl)
 obtain ⟨k,hk⟩:=g.pw
 obtain ⟨sE,_,hsE,pE⟩:=Hw hk (hK prog w ks) 0 he0
 refine wpAny_bind ?_
 unfold setSearch
 refine OJ (f:=fun e=>f e.2) (Q:=fun r s'=>wpAny (model prog w) A (match r with
  | .free slot wasDummy=>_
  | _=>_) Q E s') ho g hl hf hb hu (fun hm=>?_) (fun j hj hnl hr hno=>?_) 100000 0 sE none (Nat.zero_le _) (by omega) (by unfold turns;omega) (by rw [pE];exact hE0) rfl (fun n hn=>absurd hn (by omega))
 ·obtain ⟨e,he,q⟩:=hm
  exact wpAny_pure (self false (hp.mem_iff.mp (List.mem_map.mpr ⟨e,he,q⟩)))
 ·have hnk:¬ ks∈aC:=fun z=>by
   obtain ⟨e,he,q⟩:=List.mem_map.mp (hp.mem_iff.mpr z)
   exact hno e he q
  obtain ⟨p1,g'⟩:=g.put (h:=hK prog w ks) (x:=.ref b) hj hnl hr
  simp only
  refine wpAny_bind (wpAny_setState_of ho rfl (g.fits hl) ?_)
  have epl:(t.put j).1.plain=true:=by rw [Hx t g.nd];exact pl
  have emk:(t.put j).1.mask=t.mask:=by rw [Hx t g.nd]
  have eld:(t.put j).1.led=!jl w:=by rw [Hx t g.nd];exact ld
  generalize hpt:t.put j=tp at p1 g' epl emk eld
  obtain ⟨t',p⟩:=tp
  simp only at p1 g' epl emk eld ⊢
  simp only [epl,if_true]
  refine wpAny_bind (Lh hb ?_)
  simp only [if_true]
  have ein:insertAt (L.map (·.2)).toArray p (hK prog w ks,Value.ref b)=((L.take p++(j,hK prog w ks,Value.ref b)::L.drop p).map (·.2)).toArray:=by
   rw [lD _ _ (by simpa using p1)]
   simp [List.map_take,List.map_drop]
  rw [ein]
  generalize hL':L.take p++(j,hK prog w ks,Value.ref b)::L.drop p=L' at g' ⊢
  have hlen':L'.length=L.length + 1:=by rw [<- hL'];simp;omega
  have XR:L'.Perm ((j,hK prog w ks,Value.ref b)::L):=by
   rw [<- hL']
   refine (List.perm_middle).trans ?_
   rw [List.take_append_drop]
  have hfj:∀ e∈L,e.2≠(hK prog w ks,Value.ref b):=fun e he z=>by
   obtain ⟨b',h1,h2,h3⟩:=hf e he
   rw [z] at h1
   cases h1
   exact hno e he (h2.inj hb)
  let f':Int×Value->List Int:=fun x=>if x=(hK prog w ks,Value.ref b) then ks else f x
  have keys:∀ {h':Heap},Heap.SameBut a s.heap h'->∀ e∈L',HB prog w h' e (f' e.2):=fun {h'} hs e he=>by
   rcases List.mem_cons.mp (XR.mem_iff.mp he) with z|z
   ·subst z
    exact ⟨b,rfl,by simp only [f',if_true];exact jd ho hs hb,by simp only [f',if_true]⟩
   ·obtain ⟨b',h1,h2,h3⟩:=hf e z
    have:f' e.2=f e.2:=by simp only [f'];rw [if_neg (hfj e z)]
    exact ⟨b',h1,by rw [this];exact jd ho hs h2,by rw [this];exact h3⟩
  have adk:(L'.map fun e=>f' e.2).Perm (ks::aC):=by
   refine (XR.map _).trans ?_
   simp only [List.map_cons,f',if_true]
   refine List.Perm.cons _ ?_
   have:(L.map fun e=>if e.2=(hK prog w ks,Value.ref b) then ks else f e.2)=L.map fun e=>f e.2:=List.map_congr_left fun e he=>by rw [if_neg (hfj e he)]
   rw [this];exact hp
  have nd':(ks::aC).Nodup:=List.nodup_cons.mpr ⟨hnk,nd⟩
  have uu':∀ e∈L',∀ c,e.2.2=.ref c->U c (f' e.2):=fun e he c ec=>by
   rcases List.mem_cons.mp (XR.mem_iff.mp he) with z|z
   ·subst z;cases ec;simp only [f',if_true];exact hU
   ·rw [show f' e.2=f e.2 by simp only [f'];rw [if_neg (hfj e z)]];exact uu e z c ec
  refine wpAny_bind (jQ (t':=t') ho (by omega) fun h1 hs1 ho1=>?_)
  have hfill:t'.fill=L'.length:=by unfold fill;rw [g'.nd,g'.sz];simp
  have esz:(L.map (·.2)).toArray.size + 1=L'.length:=by simp [hlen']
  cases htf:t'.tooFull with
  | false =>
   simp only [Bool.not_false,Bool.and_false,Bool.false_eq_true,if_false]
   refine wpAny_pure (h h1 true hs1 ?_)
   rw [if_neg hnk]
   have hroom:L'.length * 5 < t'.mask * 3:=by
    unfold tooFull at htf
    rw [hfill] at htf
    simpa using htf
   exact ⟨L',ep + 1,t',f',ho1,g',hroom,by rw [emk];exact mb,⟨epl,eld⟩,keys hs1,adk,nd',uu'⟩
  | true =>
   simp only [Bool.not_false,Bool.and_true,if_true]
   rw [esz]
   refine wpAny_bind (XQ (s:={ s with heap:=h1 }) ho1 g' (by rw [emk];omega) (by omega) (by omega) epl fun h2 L2 t2 hs2 ho2 g2 r2 m2 p2 pm2=>?_)
   refine wpAny_pure (h h2 true (hs1.trans hs2) ?_)
   rw [if_neg hnk]
   have hv:∀ e∈L2,∃ e1∈L',e1.2=e.2:=fun e he=>by
    have:e.2∈L'.map (·.2):=pm2.mem_iff.mp (List.mem_map.mpr ⟨e,he,rfl⟩)
    obtain ⟨e1,h1,h2⟩:=List.mem_map.mp this
    exact ⟨e1,h1,h2⟩
   have hl2:L2.length=L'.length:=by have:=pm2.length_eq;simpa using this
   refine ⟨L2,ep + 1 + 1,t2,f',ho2,g2,r2,(by rcases m2 with z|z <;> omega),⟨p2.1,p2.2.trans eld⟩,fun e he=>?_,?_,nd',fun e he c ec=>let ⟨e1,h1,q⟩:=hv e he;by rw [<- q];exact uu' e1 h1 c (by rw [q];exact ec)⟩
   ·obtain ⟨e1,he1,q⟩:=hv e he
    obtain ⟨b',k1,k2,k3⟩:=keys (hs1.trans hs2) e1 he1
    rw [q] at k1 k2 k3
    exact ⟨b',k1,k2,k3⟩
   ·have:=(pm2.map f')
    rw [List.map_map,List.map_map] at this
    exact this.trans adk
theorem TY {a b:Addr} {ks:List Int} {aC:List (List Int)} {Q:Bool->Shared->Prop} (hS:aM prog w U s.heap a aC) (hn:aC.length < 1000) (hb:IsTupleKey (intKind prog w) s.heap ks b) (hU:U b ks) (hu:A.units < cLine)
  (h:∀ h' added tk,Heap.SameBut a s.heap h'->aM prog w U h' a (if ks∈aC then aC else ks::aC)->Q added { s with heap:=h',toks:=s.toks + tk }):wpAny (model prog w) A (setAdd a (.ref b)) Q E s:=by
 unfold setAdd
 refine wpAny_holding (wpAny_bind (wpAny_pyHash_tuple hu hb ?_))
 exact ni (s:={ s with toks:=s.toks + (ks.length + 1) }) hS hn hb hU hu fun h' added hs hS'=>h h' added _ hs hS'
end
end Tb
namespace Tb
open PySem PySem.Spec PySem.SetTable
noncomputable def ins (acc:List (List Int)) (k:List Int):List (List Int):=if k∈acc then acc else k::acc
noncomputable def bH (l:List (List Int)):List (List Int):=l.foldl ins []
theorem abH (acc:List (List Int)) (k:List Int):(ins acc k).length<=acc.length + 1:=by unfold ins;split <;> simp
theorem nq (l:List (List Int)):(bH l).length<=l.length:=by
 unfold bH
 have:∀ (l acc:List (List Int)),(l.foldl ins acc).length<=acc.length + l.length:=by
  intro l
  induction l with
  | nil=>intro acc;simp
  | cons a l ih=>intro acc;rw [List.foldl_cons];have:=ih (ins acc a);have:=abH acc a;simp only [List.length_cons];omega
 simpa using this l []
theorem Li (l:List (List Int)) (k:List Int):bH (l++[k])=ins (bH l) k:=by unfold bH;rw [List.foldl_append];rfl
section
variable {prog:Program} {w:World} {U:Addr->List Int->Prop} {A:Around} {R:Result->Shared->Prop} {I:Addr} {fp wr:List Addr} {G:Array GenState->Array GenState->Prop} {n:Nat} {P:Nat->Value->Prop} {St:Nat->Shared->Prop}
theorem aM.moved {h h':Heap} {a:Addr} {aC:List (List Int)} (x:aM prog w U h a aC) (k:∀ b o,(b=a∨∃ ks,IsTupleKey (intKind prog w) h ks b)->h.get? b=some o->h'.get? b=some o):aM prog w U h' a aC:=by
 obtain ⟨L,ep,t,f,ho,g,room,mb,pl,hf,hp,nd⟩:=x
 refine ⟨L,ep,t,f,k _ _ (.inl rfl) ho,g,room,mb,pl,fun e he=>?_,hp,nd⟩
 obtain ⟨b,h1,h2,h3⟩:=hf e he
 have h2':=h2
 obtain ⟨o,items,m,q1,q2,q3,q4⟩:=h2
 exact ⟨b,h1,⟨o,items,m,k _ _ (.inr ⟨_,h2'⟩) q1,q2,q3,q4⟩,h3⟩
theorem Pa {h:Heap} {b c:Addr} {ks:List Int} {o:Obj} (hk:IsTupleKey (intKind prog w) h ks b) (hc:h.get? c=some o) (hd:∀ xs m,o.data≠.seq xs m):b≠c:=fun z=>by
 subst z
 obtain ⟨o',items,m,q1,q2,q3,q4⟩:=hk
 rw [hc] at q1;cases q1;exact hd _ _ q3
theorem adl (W:WalksS prog w A.in1 I fp wr G n P St) (D:Addr) (hDf:D∉fp) (hu:A.in1.units < cLine) (ks:Nat->List Int) (hn:n < 1000) (hwt:∀ i s,St i s->∀ b∈wr,∀ o,s.heap.get? b=some o->∀ xs m,o.data≠.seq xs m) :
  ∀ (k i:Nat) (s:Shared),n - i=k->i<=n->St i s->(∀ j v,P j v->∃ b,v=.ref b/\b∉wr/\IsTupleKey (intKind prog w) s.heap (ks j) b/\U b (ks j)) ->
   aM prog w U s.heap D (bH ((List.range i).map ks)) ->
   (∀ s',Moved (D::wr) G s s'->aM prog w U s'.heap D (bH ((List.range n).map ks))->R (.ok (.ret .none)) s') ->
   codeAny (model prog w) A (.builtin "set.update.loop" ⟨[.ref D,.ref I],[]⟩) R s:=by
 have hDw:D∉wr:=fun h=>hDf (W.sub _ h)
 have sub:∀ b∈wr,b∈D::wr:=fun b hb=>List.mem_cons_of_mem _ hb
 intro k
 induction k with
 | zero =>
  intro i s hk hi st hP hS hR
  have hw:=hwt i s st
  obtain rfl:i=n:=by omega
  refine codeAny_builtin PyProof.Rows.F.entry_set_update_loop ?_
  rw [Around.under_plainId PyProof.Rows.F.plain_set_update_loop _]
  show wpAny _ A.in1 (pyNext (.ref I) >>= _) _ _ s
  refine wpAny_bind (W.done s _ _ st fun s1 hm=>?_)
  show wpAny _ A.in1 (ret Value.none) _ _ s1
  refine wpAny_pure (hR s1 (hm.mono sub) (hS.moved fun b o hb e=>hm.heap b o (fun hbw=>?_) e))
  rcases hb with rfl|⟨k',hk'⟩
  ·exact hDw hbw
  ·exact Pa hk' e (hw b hbw o e) rfl
 | succ k ih =>
  intro i s hk hi st hP hS hR
  have hw:=hwt i s st
  refine codeAny_builtin PyProof.Rows.F.entry_set_update_loop ?_
  rw [Around.under_plainId PyProof.Rows.F.plain_set_update_loop _]
  show wpAny _ A.in1 (pyNext (.ref I) >>= _) _ _ s
  refine wpAny_bind (W.item i s _ _ (by omega) st fun v s1 hv st1 hm=>?_)
  have nw:∀ b o,(b=D∨∃ k',IsTupleKey (intKind prog w) s.heap k' b)->s.heap.get? b=some o->b∉wr:=fun b o hb e hbw=>by
   rcases hb with rfl|⟨k',hk'⟩
   ·exact hDw hbw
   ·exact Pa hk' e (hw b hbw o e) rfl
  have key1:∀ {b:Addr} {k':List Int},IsTupleKey (intKind prog w) s.heap k' b->IsTupleKey (intKind prog w) s1.heap k' b:=fun {b k'} hk'=>by
   have hk0:=hk'
   obtain ⟨o,items,m,q1,q2,q3,q4⟩:=hk'
   exact ⟨o,items,m,hm.heap b o (nw b o (.inr ⟨_,hk0⟩) q1) q1,q2,q3,q4⟩
  have hS1:aM prog w U s1.heap D (bH ((List.range i).map ks)):=hS.moved fun b o hb e=>hm.heap b o (nw b o hb e) e
  obtain ⟨b,rfl,hbw,hbk,hbU⟩:=hP i v hv
  show wpAny _ A.in1 (holding [Value.ref b] (setAdd D (.ref b)) >>= _) _ _ s1
  have hlen:(bH ((List.range i).map ks)).length < 1000:=by have:=nq ((List.range i).map ks);simp at this;omega
  refine wpAny_bind (wpAny_holding (TY hS1 hlen (key1 hbk) hbU hu fun h2 added tk hs2 hS2=>?_))
  have hS2':aM prog w U h2 D (bH ((List.range (i + 1)).map ks)):=by
   rw [List.range_succ,List.map_append,List.map_singleton,Li];exact hS2
  obtain ⟨L1,ep1,t1,ho1,_⟩:=hS1.len
  refine wpAny_pure ⟨plainId_quiet PyProof.Rows.F.plain_set_update_loop _,ih (i + 1) _ (by omega) (by omega) (W.frame _ s1 _ _ st1 (Nat.le_add_right _ _) fun b hb o e=>?_) (fun j v hv=>?_) hS2' fun s3 hm3 hS3=>?_⟩
  ·rw [hs2.2 b (fun z:b=D=>hDf (z▸hb))];exact e
  ·obtain ⟨b,rfl,q1,q2,q3⟩:=hP j v hv
   exact ⟨b,rfl,q1,jd ho1 hs2 (key1 q2),q3⟩
  ·refine hR s3 (Moved.trans W.gtrans ((hm.mono sub).then_heap (Nat.le_add_right _ _) fun b o hb e=>?_) hm3) hS3
   rw [hs2.2 b (fun z:b=D=>hb (by rw [z];exact List.mem_cons_self))];exact e
end
end Tb
namespace Tb
open PySem PySem.Spec PySem.SetTable
section
variable {prog:Program} {w:World} {A:Around} {E:Value->Shared->Prop} {s:Shared}
noncomputable abbrev bA (led:Bool):Obj:={ cls:=.type "set",dict:=none,data:=.set #[] 0 (.fresh 0 0 led) }
theorem XS (v:Value) {Q₁:Value->Shared->Prop} (h:Q₁ (.ref s.heap.objs.size) { s with heap:=s.heap.push (bA (!jl w)) }) :
  codeAny (model prog w) A (.call (.builtin "set.__new__") ⟨[.type "set",v],[]⟩) (wants Q₁ E) s:=by
 refine codeAny_of_tree ?_
 show wpAny _ A.in1 (do { checkBuiltinCall "set.__new__" ⟨[.type "set",v],[]⟩;again (.builtin "set.__new__" ⟨[.type "set",v],[]⟩) }) _ _ s
 refine wpAny_bind (wpAny_of_eq (F.newCall_set_1 v) (wpAny_pure ⟨plainId_quiet F.plain_set_new _,codeAny_builtin F.entry_set_new ?_⟩))
 rw [Around.under_plainId F.plain_set_new _]
 have e:=sub_set_self
 obtain ⟨hp,g,d,tk,os⟩:=s
 unfold Builtin.«set.__new__» Builtin.Frozenset.newClass
 dsimp only
 wp_walk
 refine wpAny_askSetting (wpAny_pure ?_)
 simp only [newObj]
 exact wpAny_bind (wpAny_alloc (wpAny_pure (wpAny_pure h)))
theorem Lj {v:Value} {Q:Value->Shared->Prop}
  (hup:wpAny (model prog w) A.in1.in1 (Builtin.Frozenset.updateFrom "set.__init__" s.heap.objs.size v) (fun _ s2=>Q (.ref s.heap.objs.size) s2) E { s with heap:=s.heap.push (bA (!jl w)) }) :
  wpAny (model prog w) A (call (.type "set") [v]) Q E s:=by
 obtain ⟨cc,tl,hmro⟩:=F.called_set.mro
 have hmade:=F.called_set.made
 have hsub:=F.called_set.sub
 have nt:=F.called_set.notType
 have cc:=F.called_set.canCreate
 have tc:=F.typeCall_set_1 v
 refine wpAny_call (codeAny_of_tree ?_)
 show wpAny _ _ (callAny (.type "set") _) _ _ _
 refine wpAny_pure ⟨Code.quiet_builtin _ (by decide +kernel),codeAny_builtin F.entry_type_call ?_⟩
 rw [Around.under_plain (weight_type_call_type "set" [v] []) rfl]
 repeat (any_goals (first|assumption|wp_step))
 refine codeAny_mono (XS v (E:=E) (Q₁:=fun obj s1=>obj=.ref s.heap.objs.size/\s1={ s with heap:=s.heap.push (bA (!jl w)) }) ⟨rfl,rfl⟩) fun r s1 hr=>?_
 cases r with
 | error e=>exact hr
 | ok fl =>
  cases fl with
  | ret obj =>
   obtain ⟨e1,e2⟩:=hr
   subst e1 e2
   have hget:(s.heap.push (bA (!jl w))).get? s.heap.objs.size=some (bA (!jl w)):=Heap.get?_push_size _ rfl
   have hty:Shared.TypeIs { s with heap:=s.heap.push (bA (!jl w)) } (.ref s.heap.objs.size) "set":=⟨_,hget,rfl⟩
   have li:=F.called_set.init.lookup
   have bi:=F.called_set.init.bind (.ref s.heap.objs.size)
   repeat (any_goals (first|assumption|wp_step))
   refine codeAny_mono (codeAny_call_builtin (R:=wants (fun r s2=>r=.none/\Q (.ref s.heap.objs.size) s2) E) F.called_set.init.plain F.entry_set_init (check_set_init_1 hty ?_)) fun r2 s2 hr2=>?_
   ·unfold Builtin.«set.__init__» noKeywords
    have hu:=hup
    generalize hU:Builtin.Frozenset.updateFrom=U at hu ⊢
    wp_walk
    exact wpAny_mono hu (fun _ s2 hq=>wpAny_pure ⟨rfl,hq⟩) fun _ _ x=>x
   ·cases r2 with
    | error e=>exact hr2
    | ok fl2 =>
     cases fl2 with
     | ret r =>
      obtain ⟨rfl,hq⟩:=hr2
      repeat (any_goals (first|assumption|wp_step))
     | _=>exact hr2.elim
  | _=>exact hr.elim
end
end Tb
namespace Tb
open PySem PySem.Spec PySem.SetTable
namespace F
theorem sub_tuple_set:isSubtype (.type "tuple") (.type "set")=pure false:=by rw [isSubtype_type];kernel_rfl
theorem sub_tuple_frozenset:isSubtype (.type "tuple") (.type "frozenset")=pure false:=by rw [isSubtype_type];kernel_rfl
end F
section
variable {prog:Program} {w:World} {U:Addr->List Int->Prop} {A:Around} {E:Value->Shared->Prop} {s:Shared}
theorem yw {h:Heap} {D:Addr} (ho:h.get? D=some (bA (!jl w))):aM prog w U h D []:=by
 have no:∀ (e:iJ) (p:Prop),e∈([]:List iJ)->p:=fun e p he=>by cases he
 exact ⟨[],0,.fresh 0 0 (!jl w),fun _=>[],ho,⟨⟨3,rfl⟩,Nat.le_refl 7,rfl,rfl,List.Pairwise.nil,fun e he=>no e _ he,fun e he=>no e _ he⟩,(show 0 < 21 by decide),(show (7:Nat) < 8000 by decide),⟨rfl,rfl⟩,fun e he=>no e _ he,List.Perm.refl _,List.nodup_nil,fun e he=>no e _ he⟩
theorem Lk {l D:Addr} {items:Array Value} {aC:List (List Int)} {Q:Unit->Shared->Prop} (hh:A.handled=none) (hu:A.units + 2 < cLine) (hl:s.heap.IsList l items) (hS:aM prog w U s.heap D []) (hlD:l≠D) (hz:items.size < 1000)
  (hk:∀ (i:Nat) v,items[i]?=some v->∃ b,v=.ref b/\IsTupleKey (intKind prog w) s.heap (aC.getD i []) b/\U b (aC.getD i [])) (hlen:aC.length=items.size)
  (h:∀ h' tk,(∀ b o,b≠D->s.heap.get? b=some o->h'.get? b=some o)->aM prog w U h' D (bH aC)->Q () { s with heap:=h',toks:=tk }) :
  wpAny (model prog w) A (Builtin.Frozenset.updateFrom "set.__init__" D (.ref l)) Q E s:=by
 have hl0:=hl
 obtain ⟨ol,hol,hcl,nl,hdl⟩:=hl
 obtain ⟨oc,od,odt,osl⟩:=ol
 simp only at hcl hdl
 subst hcl hdl
 have e1:=F.sub_list_set
 have e2:=F.sub_list_frozenset
 have e3:(Value.type "list" == Value.type "dict")=false:=by decide
 unfold Builtin.Frozenset.updateFrom
 generalize hPI:pyIter=PI
 wp_walk
 subst hPI
 refine wpAny_pyIter_list hl0 ?_
 refine wpAny_bind (wpAny_runValue ?_)
 have hlt:l < s.heap.objs.size:=Heap.lt_size hol
 obtain ⟨L0,ep0,t0,hD0,_⟩:=hS.len
 have Ln:D < s.heap.objs.size:=Heap.lt_size hD0
 have push:∀ b o,s.heap.get? b=some o->(s.heap.push { cls:=.type "list_iterator",data:=.fields #[.ref l,.int 0 0] }).get? b=some o:=fun b o e=>Heap.get?_push_of_some _ e
 have W:=(Walks.list (prog:=prog) (w:=w) (A:=A.in1) (by simpa using hh) s.heap.objs.size l (Nat.ne_of_lt hlt) items).toS
 refine adl W D (fun z=>?_) (by show A.units + 1 < cLine;omega) (fun i=>aC.getD i []) hz (fun i s' st b hb o e xs m=>?_) (items.size - 0) 0 _ rfl (Nat.zero_le _) ⟨⟨_,Heap.get?_push_size _ rfl,rfl,rfl⟩,hl0.push _⟩ (fun j v hv=>?_) (hS.moved fun b o _ e=>push b o e) fun s' hm hS'=>?_
 ·simp only [List.mem_cons,List.not_mem_nil,or_false] at z
  rcases z with z|z
  ·exact absurd z (Nat.ne_of_lt Ln)
  ·exact hlD z.symm
 ·obtain rfl:b=s.heap.objs.size:=by simpa using hb
  obtain ⟨⟨o',h1,h2,h3⟩,_⟩:=st
  rw [e] at h1;cases h1
  rw [h3];intro z;cases z
 ·obtain ⟨b,rfl,hb,hU⟩:=hk j v hv
  have hb0:=hb
  obtain ⟨o,its,m,q1,q2,q3,q4⟩:=hb
  refine ⟨b,rfl,?_,⟨o,its,m,push _ _ q1,q2,q3,q4⟩,hU⟩
  simp only [List.mem_cons,List.not_mem_nil,or_false]
  exact Nat.ne_of_lt (Heap.lt_size q1)
 ·obtain ⟨h',g',d',tk',os'⟩:=s'
  have eg:g'=s.gens:=hm.gens
  have ed:d'=s.drawn:=hm.drawn
  have eo:os'=s.os:=hm.os
  subst eg ed eo
  have er:(List.range items.size).map (fun i=>aC.getD i [])=aC:=by
   rw [<- hlen]
   apply List.ext_getElem
   ·simp
   ·intro i h1 h2;simp at h1;simp [List.getD,h1]
  rw [er] at hS'
  refine wpAny_pure (h h' tk' (fun b o hb e=>hm.heap b o ?_ (push b o e)) hS')
  simp only [List.mem_cons,List.not_mem_nil,or_false,not_or]
  exact ⟨hb,Nat.ne_of_lt (Heap.lt_size e)⟩
theorem HJ {l D:Addr} {items:Array Value} {aC:List (List Int)} {Q:Unit->Shared->Prop} (hh:A.handled=none) (hu:A.units + 2 < cLine) (hl:s.heap.IsTuple l items) (hS:aM prog w U s.heap D []) (hlD:l≠D) (hz:items.size < 1000)
  (hk:∀ (i:Nat) v,items[i]?=some v->∃ b,v=.ref b/\IsTupleKey (intKind prog w) s.heap (aC.getD i []) b/\U b (aC.getD i [])) (hlen:aC.length=items.size)
  (h:∀ h' tk,(∀ b o,b≠D->s.heap.get? b=some o->h'.get? b=some o)->aM prog w U h' D (bH aC)->Q () { s with heap:=h',toks:=tk }) :
  wpAny (model prog w) A (Builtin.Frozenset.updateFrom "set.__init__" D (.ref l)) Q E s:=by
 have hl0:=hl
 obtain ⟨ol,hol,hcl,nl,hdl⟩:=hl
 obtain ⟨oc,od,odt,osl⟩:=ol
 simp only at hcl hdl
 subst hcl hdl
 have e1:=F.sub_tuple_set
 have e2:=F.sub_tuple_frozenset
 have e3:(Value.type "tuple" == Value.type "dict")=false:=by decide
 unfold Builtin.Frozenset.updateFrom
 generalize hPI:pyIter=PI
 wp_walk
 subst hPI
 refine wpAny_pyIter_tuple hl0 ?_
 refine wpAny_bind (wpAny_runValue ?_)
 have hlt:l < s.heap.objs.size:=Heap.lt_size hol
 obtain ⟨L0,ep0,t0,hD0,_⟩:=hS.len
 have Ln:D < s.heap.objs.size:=Heap.lt_size hD0
 have push:∀ b o,s.heap.get? b=some o->(s.heap.push { cls:=.type "tuple_iterator",data:=.fields #[.ref l,.int 0 0] }).get? b=some o:=fun b o e=>Heap.get?_push_of_some _ e
 have W:=(Walks.tuple (prog:=prog) (w:=w) (A:=A.in1) (by simpa using hh) s.heap.objs.size l (Nat.ne_of_lt hlt) items).toS
 refine adl W D (fun z=>?_) (by show A.units + 1 < cLine;omega) (fun i=>aC.getD i []) hz (fun i s' st b hb o e xs m=>?_) (items.size - 0) 0 _ rfl (Nat.zero_le _) ⟨⟨_,Heap.get?_push_size _ rfl,rfl,rfl⟩,hl0.push _⟩ (fun j v hv=>?_) (hS.moved fun b o _ e=>push b o e) fun s' hm hS'=>?_
 ·simp only [List.mem_cons,List.not_mem_nil,or_false] at z
  rcases z with z|z
  ·exact absurd z (Nat.ne_of_lt Ln)
  ·exact hlD z.symm
 ·obtain rfl:b=s.heap.objs.size:=by simpa using hb
  obtain ⟨⟨o',h1,h2,h3⟩,_⟩:=st
  rw [e] at h1;cases h1
  rw [h3];intro z;cases z
 ·obtain ⟨b,rfl,hb,hU⟩:=hk j v hv
  have hb0:=hb
  obtain ⟨o,its,m,q1,q2,q3,q4⟩:=hb
  refine ⟨b,rfl,?_,⟨o,its,m,push _ _ q1,q2,q3,q4⟩,hU⟩
  simp only [List.mem_cons,List.not_mem_nil,or_false]
  exact Nat.ne_of_lt (Heap.lt_size q1)
 ·obtain ⟨h',g',d',tk',os'⟩:=s'
  have eg:g'=s.gens:=hm.gens
  have ed:d'=s.drawn:=hm.drawn
  have eo:os'=s.os:=hm.os
  subst eg ed eo
  have er:(List.range items.size).map (fun i=>aC.getD i [])=aC:=by
   rw [<- hlen]
   apply List.ext_getElem
   ·simp
   ·intro i h1 h2;simp at h1;simp [List.getD,h1]
  rw [er] at hS'
  refine wpAny_pure (h h' tk' (fun b o hb e=>hm.heap b o ?_ (push b o e)) hS')
  simp only [List.mem_cons,List.not_mem_nil,or_false,not_or]
  exact ⟨hb,Nat.ne_of_lt (Heap.lt_size e)⟩
theorem HN {l:Addr} {items:Array Value} {aC:List (List Int)} {Q:Value->Shared->Prop} (hh:A.handled=none) (hu:A.units + 8 < cLine) (hl:s.heap.IsList l items∨s.heap.IsTuple l items) (hz:items.size < 1000)
  (hk:∀ (i:Nat) v,items[i]?=some v->∃ b,v=.ref b/\IsTupleKey (intKind prog w) s.heap (aC.getD i []) b/\U b (aC.getD i [])) (hlen:aC.length=items.size)
  (h:∀ h' tk,(∀ b o,s.heap.get? b=some o->h'.get? b=some o)->aM prog w U h' s.heap.objs.size (bH aC)->Q (.ref s.heap.objs.size) { s with heap:=h',toks:=tk }) :
  wpAny (model prog w) A (call (.type "set") [.ref l]) Q E s:=by
 refine Lj ?_
 have push:∀ b o,s.heap.get? b=some o->(s.heap.push (bA (!jl w))).get? b=some o:=fun b o e=>Heap.get?_push_of_some _ e
 have hlt:l < s.heap.objs.size:=by
  rcases hl with ⟨o,e,_⟩|⟨o,e,_⟩ <;> exact Heap.lt_size e
 have hk':∀ (i:Nat) v,items[i]?=some v->∃ b,v=.ref b/\IsTupleKey (intKind prog w) (s.heap.push (bA (!jl w))) (aC.getD i []) b/\U b (aC.getD i []):=fun i v hv=>by
  obtain ⟨b,e,⟨o,its,m,q1,q2,q3,q4⟩,hU⟩:=hk i v hv
  exact ⟨b,e,⟨o,its,m,push _ _ q1,q2,q3,q4⟩,hU⟩
 have hS:aM prog w U (s.heap.push (bA (!jl w))) s.heap.objs.size []:=yw (Heap.get?_push_size _ rfl)
 have dH:∀ h' tk,(∀ b o,b≠s.heap.objs.size->(s.heap.push (bA (!jl w))).get? b=some o->h'.get? b=some o)->aM prog w U h' s.heap.objs.size (bH aC)->Q (.ref s.heap.objs.size) { s with heap:=h',toks:=tk }:=fun h' tk k hS' =>
  h h' tk (fun b o e=>k b o (Nat.ne_of_lt (Heap.lt_size e)) (push b o e)) hS'
 rcases hl with hl|hl
 ·exact Lk (s:={ s with heap:=s.heap.push (bA (!jl w)) }) (by simpa using hh) (by show A.units + 1 + 1 + 2 < cLine;omega) (hl.push _) hS (Nat.ne_of_lt hlt) hz hk' hlen dH
 ·exact HJ (s:={ s with heap:=s.heap.push (bA (!jl w)) }) (by simpa using hh) (by show A.units + 1 + 1 + 2 < cLine;omega) (hl.push _) hS (Nat.ne_of_lt hlt) hz hk' hlen dH
end
end Tb
namespace Tb
open PySem PySem.Spec PySem.SetTable
theorem jR {α:Type}:∀ {l:List α} {n:Nat} (h:n < l.length),(l[n]::l.eraseIdx n).Perm l
 | a::l,0,_=>by simp
 | a::l,n + 1,h=>by
  have ih:=jR (l:=l) (n:=n) (by simpa using h)
  simp only [List.getElem_cons_succ,List.eraseIdx_cons_succ]
  exact (List.Perm.swap ..).trans (ih.cons a)
theorem abI {α:Type} (next:Nat->Nat):∀ (fuel k:Nat) (left:List α) (out:Array α),left.length<=fuel->(pickOrder.go next fuel k left out).toList.Perm (out.toList++left):=by
 intro fuel
 induction fuel with
 | zero =>
  intro k left out h
  obtain rfl:left=[]:=List.length_eq_zero_iff.mp (by omega)
  unfold pickOrder.go
  simp
 | succ fuel ih =>
  intro k left out h
  unfold pickOrder.go
  cases left with
  | nil=>simp
  | cons a l =>
   have hlt:next k % (a::l).length < (a::l).length:=Nat.mod_lt _ (by simp)
   rw [List.getElem?_eq_getElem hlt]
   simp only
   have hlen:((a::l).eraseIdx (next k % (a::l).length)).length<=fuel:=by
    rw [List.length_eraseIdx_of_lt hlt]
    simp only [List.length_cons] at h ⊢
    omega
   refine (ih (k + 1) _ _ hlen).trans ?_
   rw [Array.toList_push,List.append_assoc]
   exact List.Perm.append_left _ (jR hlt)
theorem Ua {α:Type} (next:Nat->Nat) (xs:Array α):(pickOrder next xs).toList.Perm xs.toList:=by
 unfold pickOrder
 simpa using abI next xs.size 0 xs.toList #[] (by simp)
noncomputable def dw (w:World) (D:Addr) (ep:Nat) (L:List iJ):Array (Int×Value):=if jl w=true then pickOrder (w.params.setOrder D ep) (L.map (·.2)).toArray else (L.map (·.2)).toArray
theorem rM (w:World) (D:Addr) (ep:Nat) (L:List iJ):(dw w D ep L).toList.Perm (L.map (·.2)):=by
 unfold dw
 split
 ·simpa using Ua (w.params.setOrder D ep) (L.map (·.2)).toArray
 ·exact .refl _
theorem gQ (w:World) (D:Addr) (ep:Nat) (L:List iJ):(dw w D ep L).size=L.length:=by
 have:=(rM w D ep L).length_eq
 simpa using this
structure Lies (t:SetTable) (L:List iJ):Prop where
 pl:t.place=(L.map (·.1)).toArray
 so:(L.map (·.1)).Pairwise (· < ·)
 fl:t.fill<=t.mask
theorem Lies.sz {t:SetTable} {L:List iJ} (g:Lies t L):t.place.size=L.length:=by rw [g.pl];simp
theorem Lies.at {t:SetTable} {L:List iJ} (g:Lies t L) {i:Nat} (hi:i < L.length):t.place.getD i 0=L[i].1:=by rw [g.pl];simp [Array.getD,hi]
theorem Lies.rise {t:SetTable} {L:List iJ} (g:Lies t L):pG t.place:=by
 intro a b hab hb
 rw [g.sz] at hb
 rw [g.at (show a < L.length by omega),g.at hb]
 have:=(List.pairwise_iff_getElem.mp g.so) a b (by simpa using (show a < L.length by omega)) (by simpa using hb) hab
 simpa using this
theorem Lies.fits {t:SetTable} {L:List iJ} (g:Lies t L) (hl:L.length<=t.mask):t.fits ((L.map (·.2)).toArray).size=true:=by
 unfold PySem.SetTable.fits
 have h1:=g.fl
 simp [g.sz,h1]
theorem Good.lies {t:SetTable} {L:List iJ} (g:Good t L) (hl:L.length<=t.mask):Lies t L:=⟨g.pl,g.so,by unfold fill;rw [g.nd,g.sz];simpa using hl⟩
noncomputable def gA (w:World) (t:SetTable) (i:Nat):Nat:=if jl w=true then 0 else if i=0 then 0 else t.place.getD (i - 1) 0 + 1
section
variable {prog:Program} {w:World} {A:Around} {E:Value->Shared->Prop} {s:Shared}
theorem Rh {D:Addr} {L:List iJ} {ep:Nat} {t:SetTable} {i:Nat} {Q:Option (Value×Nat)->Shared->Prop} (ho:s.heap.get? D=some (bU L ep t)) (g:Lies t L) (hl:L.length<=t.mask) (pl:t.plain=true) (ld:t.led=!jl w) (hi:i<=L.length)
  (h:Q (((dw w D ep L)[i]?).map fun e=>(e.2,gA w t (i + 1))) s):wpAny (model prog w) A (setNext D (gA w t i) i ep) Q E s:=by
 unfold setNext
 refine wpAny_bind (wpAny_setState_of ho rfl (g.fits hl) ?_)
 unfold setsByText
 refine wpAny_bind (wpAny_bind (wpAny_askSetting (wpAny_pure ?_)))
 cases hb:jl w with
 | true =>
  have hb':((model prog w).w.params.followText "set-order")=true:=hb
  simp only [hb',if_true,bne_self_eq_false,Bool.false_eq_true,if_false]
  unfold setWalk setsByText
  refine wpAny_bind (wpAny_bind (wpAny_setState_of ho rfl (g.fits hl) ?_))
  refine wpAny_bind (wpAny_bind (wpAny_askSetting (wpAny_pure ?_)))
  simp only [hb',if_true]
  refine wpAny_bind (wpAny_askSetting (wpAny_pure (wpAny_pure ?_)))
  unfold dw gA at h
  simp only [hb,if_true] at h
  simp only [gA,hb,if_true]
  exact h
 | false =>
  have hb':((model prog w).w.params.followText "set-order")=false:=hb
  simp only [hb',Bool.false_eq_true,if_false]
  rw [hb] at ld
  have hbl:below t.place (gA w t i)=i:=by
   unfold gA
   rw [hb]
   simp only [Bool.false_eq_true,if_false]
   obtain ⟨b1,b2,b3⟩:=mX g.rise (if i=0 then 0 else t.place.getD (i - 1) 0 + 1)
   by_cases c:i=0
   ·subst c
    simp only [if_true] at b2 ⊢
    cases hz:below t.place 0 with
    | zero=>rfl
    | succ n=>have:=b2 0 (by omega);omega
   ·rw [if_neg c] at b1 b2 b3 ⊢
    have him:i - 1 < t.place.size:=by rw [g.sz];omega
    have c1:¬ below t.place (t.place.getD (i - 1) 0 + 1) < i:=fun z=>by
     have:=b3 (i - 1) (by omega) him;omega
    have c2:¬ i < below t.place (t.place.getD (i - 1) 0 + 1):=fun z=>by
     have h1:=b2 i z
     have h2:=g.rise (i - 1) i (by omega) (by omega)
     omega
    omega
  have dH:wpAny (model prog w) A (pure (match ((L.map (·.2)).toArray)[below t.place (gA w t i)]?,t.place[below t.place (gA w t i)]? with
    | some (_,x),some j=>some (x,j + 1)
    | _,_=>none):Sem (Option (Value×Nat))) Q E s:=by
   rw [hbl]
   refine wpAny_pure ?_
   unfold dw gA at h
   simp only [hb,Bool.false_eq_true,if_false,Nat.add_eq_zero_iff,Nat.succ_ne_self,and_false,Nat.add_sub_cancel] at h
   by_cases c:i < L.length
   ·have e1:((L.map (·.2)).toArray)[i]?=some L[i].2:=by simp [c]
    have e2:t.place[i]?=some (t.place.getD i 0):=Ld (by rw [g.sz];exact c)
    rw [e1] at h ⊢
    rw [e2]
    exact h
   ·have e1:((L.map (·.2)).toArray)[i]?=none:=by simp;omega
    rw [e1] at h ⊢
    exact h
  have hdr:∀ c:Bool,(!t.plain && c)=false:=fun c=>by rw [pl];rfl
  have hld:∀ c:Bool,(!t.led && c)=false:=fun c=>by rw [ld];rfl
  have drop:∀ {c:Bool} {x y:Sem (Option (Value×Nat))},c=false->wpAny (model prog w) A y Q E s->wpAny (model prog w) A (if c=true then x else y) Q E s:=fun {c x y} hc hy=>by rw [hc];exact hy
  refine drop (hdr _) ?_
  refine wpAny_bind ?_
  show wpAny _ _ (if (!t.led && !((L.map (·.2)).toArray).isEmpty)=true then unsupported "set:maker-not-led" else pure ()) _ _ _
  rw [hld]
  exact wpAny_pure dH
end
end Tb
namespace Tb
open PySem PySem.Spec PySem.SetTable
theorem eG:Slot "set_iterator" "__next__" "set_iterator.__next__" :=
 .of (owner:="set_iterator") (n:="__next__") (by rw [typeLookup_type,builtinLookup_eq_fast];kernel_rfl) (by decide +kernel) (by decide +kernel) (by decide +kernel) (by first|exact .inl (by decide +kernel)|exact .inr (by decide +kernel)) (by rw [isSubtype_type];kernel_rfl)
theorem qb:entryFor table "set_iterator.__next__"=some Builtin.«set_iterator.__next__»:=entryFor_of_tree (by kernel_rfl)
theorem sU (a:Value):argsOk "set_iterator.__next__" ⟨[a],[]⟩:=by unfold argsOk;kernel_rfl
theorem HS:entryFor table "set.__iter__"=some Builtin.«frozenset.__iter__»:=entryFor_alias (id':="frozenset.__iter__") (by kernel_rfl) rfl (by decide +kernel) (by kernel_rfl)
theorem sV:Slot "set_iterator" "__iter__" "set_iterator.__iter__" :=
 .of (owner:="set_iterator") (n:="__iter__") (by rw [typeLookup_type,builtinLookup_eq_fast];kernel_rfl) (by decide +kernel) (by decide +kernel) (by decide +kernel) (by first|exact .inl (by decide +kernel)|exact .inr (by decide +kernel)) (by rw [isSubtype_type];kernel_rfl)
theorem zx:entryFor table "set_iterator.__iter__"=some Builtin.«dict_keyiterator.__iter__»:=entryFor_alias (id':="dict_keyiterator.__iter__") (by kernel_rfl) rfl (by decide +kernel) (by kernel_rfl)
theorem Cy (a:Value):argsOk "set_iterator.__iter__" ⟨[a],[]⟩:=by unfold argsOk;kernel_rfl
noncomputable def dU (w:World) (t:SetTable) (D:Addr) (n ep i:Nat):Obj:={ cls:=.type "set_iterator",data:=.fields #[rawInt (gA w t i),rawInt i,.ref D,rawInt n,rawInt ep] }
section
variable {prog:Program} {w:World} {A:Around} {E:Value->Shared->Prop} {s:Shared} {D I:Addr} {L:List iJ} {ep:Nat} {t:SetTable}
structure Goes (w:World) (L:List iJ) (t:SetTable):Prop where
 g:Lies t L
 hl:L.length<=t.mask
 pl:t.plain=true
 ld:t.led=!jl w
theorem Yb {Q:Value->Shared->Prop} (ho:s.heap.get? D=some (bU L ep t)) (g:Goes w L t) (h:Q (.ref s.heap.objs.size) { s with heap:=s.heap.push (dU w t D L.length ep 0) }):wpAny (model prog w) A (pyIter (.ref D)) Q E s:=by
 have hT:s.TypeIs (.ref D) "set":=⟨_,ho,rfl⟩
 refine wpAny_pyIter_slot hT F.slot_set_iter (wpAny_call_entry F.slot_set_iter hT HS ?_ (F.args_set_iter_1 _))
 unfold Builtin.«frozenset.__iter__» Builtin.Frozenset.slot0 Builtin.Frozenset.sizeOf Builtin.Frozenset.addrOf
 simp only [slotArgs,List.isEmpty_nil,Bool.not_true,Bool.false_eq_true,if_false,List.length_nil,bne_self_eq_false]
 refine wpAny_bind (wpAny_bind (wpAny_pure (wpAny_pure ?_)))
 refine wpAny_bind (wpAny_bind (wpAny_setEntries_of ho rfl (g.g.fits g.hl) (wpAny_pure ?_)))
 have hdr:wpAny (model prog w) A.in1 (setDrawn D) (fun b s'=>b=false/\s'=s) E s:=by
  unfold setDrawn setsByText
  refine wpAny_bind (wpAny_setState_of ho rfl (g.g.fits g.hl) ?_)
  refine wpAny_bind (wpAny_bind (wpAny_askSetting (wpAny_pure (wpAny_pure ⟨?_,rfl⟩))))
  show (_ && (!t.plain && _))=false
  rw [g.pl];simp
 refine wpAny_bind (wpAny_mono hdr (fun b s' hb=>?_) fun _ _ z=>z)
 obtain ⟨rfl,rfl⟩:=hb
 simp only [Bool.false_eq_true,if_false]
 refine wpAny_bind (wpAny_pure ?_)
 refine wpAny_bind (wpAny_setEpoch_of ho rfl (g.g.fits g.hl) ?_)
 have e0:gA w t 0=0:=by unfold gA;simp
 have eo:(dU w t D L.length ep 0)={ cls:=.type "set_iterator",data:=.fields ([rawInt 0,rawInt 0,Value.ref D,rawInt ((L.map (·.2)).toArray.size:Nat),rawInt (ep:Nat)]:List Value).toArray }:=by
  unfold dU;rw [e0];simp
 rw [eo] at h
 exact wpAny_bind (wpAny_newObj_type (wpAny_pure ⟨_,rfl,"set_iterator",_,⟨_,Heap.get?_push_size _ rfl,rfl⟩,eG.lookup,h⟩))
theorem wA {i:Nat} {Q:Option Value->Shared->Prop} {e:Int×Value} (hI:s.heap.get? I=some (dU w t D L.length ep i)) (ho:s.heap.get? D=some (bU L ep t)) (g:Goes w L t) (hi:i < L.length) (he:(dw w D ep L)[i]?=some e)
  (h:∀ h',Heap.SameBut I s.heap h'->h'.get? I=some (dU w t D L.length ep (i + 1))->Q (some e.2) { s with heap:=h' }):wpAny (model prog w) A (pyNext (.ref I)) Q E s:=by
 have hT:s.TypeIs (.ref I) "set_iterator":=⟨_,hI,rfl⟩
 unfold pyNext
 refine wpAny_bind (wpAny_attempt (wpAny_callSpecial?_slot (name:=Str.ofString "__next__") hT eG (wpAny_call_entry eG hT qb ?_ (sU _))))
 unfold Builtin.«set_iterator.__next__»
 simp only [slotArgs,List.isEmpty_nil,Bool.not_true,Bool.false_eq_true,if_false,List.length_nil,bne_self_eq_false]
 refine wpAny_bind (wpAny_pure ?_)
 refine wpAny_bind (wpAny_fieldsOf hI rfl ?_)
 simp only [rawInt]
 refine wpAny_bind (wpAny_setEntries_of ho rfl (g.g.fits g.hl) ?_)
 have hz:((((L.map (·.2)).toArray.size:Nat):Int) != ((L.length:Nat):Int))=false:=by simp
 simp only [hz,Bool.false_eq_true,if_false,Int.toNat_natCast]
 refine wpAny_bind (Rh ho g.g g.hl g.pl g.ld (Nat.le_of_lt hi) ?_)
 rw [he]
 simp only [Option.map_some]
 have hd0:(dU w t D L.length ep i).data=.fields #[rawInt (gA w t i),rawInt i,.ref D,rawInt L.length,rawInt ep]:=rfl
 refine wpAny_bind (wpAny_setField hI hd0 (by simp) ?_)
 have hd1:=Obj.data_mapFields hd0 (·.setIfInBounds 0 (rawInt (gA w t (i + 1))))
 have hI1:=Heap.get?_update_self (Obj.mapFields (·.setIfInBounds 0 (rawInt (gA w t (i + 1))))) hI (Obj.isFreed_of_fields hd1)
 refine wpAny_bind (wpAny_setField hI1 hd1 (by simp) ?_)
 have hd2:=Obj.data_mapFields hd1 (·.setIfInBounds 1 (rawInt (i + 1:Nat)))
 have hI2:=Heap.get?_update_self (Obj.mapFields (·.setIfInBounds 1 (rawInt (i + 1:Nat)))) hI1 (Obj.isFreed_of_fields hd2)
 refine wpAny_pure ⟨_,rfl,wpAny_pure (h _ ((Heap.SameBut.update ..).trans (Heap.SameBut.update ..)) ?_)⟩
 refine hI2.trans ?_
 unfold dU Obj.mapFields
 simp [rawInt]
theorem Ub {Q:Option Value->Shared->Prop} (hh:A.handled=none) (hI:s.heap.get? I=some (dU w t D L.length ep L.length)) (ho:s.heap.get? D=some (bU L ep t)) (g:Goes w L t)
  (h:∀ h',Heap.ExtBut I s.heap h'->Q none { s with heap:=h' }):wpAny (model prog w) A (pyNext (.ref I)) Q E s:=by
 have hT:s.TypeIs (.ref I) "set_iterator":=⟨_,hI,rfl⟩
 unfold pyNext
 refine wpAny_bind (wpAny_attempt (wpAny_callSpecial?_slot (name:=Str.ofString "__next__") hT eG (wpAny_call_entry eG hT qb ?_ (sU _))))
 unfold Builtin.«set_iterator.__next__»
 simp only [slotArgs,List.isEmpty_nil,Bool.not_true,Bool.false_eq_true,if_false,List.length_nil,bne_self_eq_false]
 refine wpAny_bind (wpAny_pure ?_)
 refine wpAny_bind (wpAny_fieldsOf hI rfl ?_)
 simp only [rawInt]
 refine wpAny_bind (wpAny_setEntries_of ho rfl (g.g.fits g.hl) ?_)
 have hz:((((L.map (·.2)).toArray.size:Nat):Int) != ((L.length:Nat):Int))=false:=by simp
 simp only [hz,Bool.false_eq_true,if_false,Int.toNat_natCast]
 refine wpAny_bind (Rh ho g.g g.hl g.pl g.ld (Nat.le_refl _) ?_)
 have he:(dw w D ep L)[L.length]?=none:=by
  rw [Array.getElem?_eq_none];rw [gQ];exact Nat.le_refl _
 rw [he]
 simp only [Option.map_none]
 have hd0:(dU w t D L.length ep L.length).data=.fields #[rawInt (gA w t L.length),rawInt L.length,.ref D,rawInt L.length,rawInt ep]:=rfl
 refine wpAny_bind (wpAny_setField hI hd0 (by simp) ?_)
 refine wpAny_bind ?_
 simp only [newExc,newTuple]
 refine wpAny_bind (wpAny_newObj_type ?_ (by size_fits))
 refine wpAny_bind (m:=firstArgMember _ _) (wpAny_of_eq (a:=Value.none) (by first|rfl|(simp only [firstArgMember];rfl)) ?_)
 refine wpAny_newObj_type ?_ (by size_fits)
 simp only [raiseNew]
 refine wpAny_bind (wpAny_handled ?_)
 rw [show A.in1.handled=none from hh]
 refine wpAny_bind (wpAny_pure (wpAny_throw ?_))
 refine wpAny_bind (wpAny_isInstance (T:="StopIteration") (b:=true) ⟨_,Heap.get?_push_size _ rfl,rfl⟩ isSubtype_stop ?_)
 exact wpAny_pure (h _ (((Heap.SameBut.update ..).extBut.push _).push _))
theorem Uc (hh:A.handled=none) (hne:D≠I) (g:Goes w L t) :
  Walks prog w A I [I,D] [I] L.length (fun i v=>∃ e,(dw w D ep L)[i]?=some e/\v=e.2) (fun i h=>h.get? I=some (dU w t D L.length ep i)/\h.get? D=some (bU L ep t)) where
 sub:=fun b hb=>by simp at hb;simp [hb]
 frame:=fun _ _ _ st hk=>⟨hk I (by simp) _ st.1,hk D (by simp) _ st.2⟩
 item:=fun i s Q E hi st hQ=>by
  have hlt:i < (dw w D ep L).size:=by rw [gQ];exact hi
  refine wA st.1 st.2 g hi (Array.getElem?_eq_getElem hlt) fun h' hs hI'=>?_
  exact hQ _ h' s.toks ⟨_,Array.getElem?_eq_getElem hlt,rfl⟩ ⟨hI',(hs.2 D hne).trans st.2⟩ fun b o hb e=>(hs.2 b (fun z=>hb (by simp [z]))).trans e
 done:=fun s Q E st hQ=>Ub hh st.1 st.2 g fun h' he=>hQ h' s.toks fun b o hb e=>he b o (fun z=>hb (by simp [z])) e
 self:=fun i s Q E st hQ=>by
  have hT:s.TypeIs (.ref I) "set_iterator":=⟨_,st.1,rfl⟩
  refine wpAny_pyIter_slot hT sV (wpAny_call_entry sV hT zx ?_ (Cy _))
  show wpAny _ _ (ret (.ref I)) _ _ s
  exact wpAny_pure ⟨_,rfl,"set_iterator",_,hT,eG.lookup,hQ⟩
end
end Tb
namespace Tb
open PySem PySem.Spec PySem.SetTable
section
variable {prog:Program} {w:World} {A:Around} {E:Value->Shared->Prop} {s:Shared} {D I:Addr} {L:List iJ} {ep:Nat} {t:SetTable}
noncomputable abbrev gB:Obj:={ cls:=.type "list",data:=.seq ([]:List Value).toArray }
theorem Yc {Q:Bool->Shared->Prop} (ho:s.heap.get? D=some (bU L ep t)) (h:Q false s):wpAny (model prog w) A (Builtin.List.listLengthHint (.ref D)) Q E s:=by
 have hT:s.TypeIs (.ref D) "set":=⟨_,ho,rfl⟩
 unfold Builtin.List.listLengthHint
 refine wpAny_bind (wpAny_specialOf hT F.slot_set_len.lookup ?_)
 have e1:splitId "set.__len__"=some ("set","__len__"):=by kernel_rfl
 simp only [e1]
 refine wpAny_bind (wpAny_isInstance hT sub_set_self ?_)
 simp only [Bool.not_true,Bool.false_eq_true,if_false]
 have pick:∀ {c:Bool} {x y:Sem Bool},c=true->wpAny (model prog w) A x Q E s->wpAny (model prog w) A (if c=true then x else y) Q E s:=fun {c x y} hc hy=>by rw [hc];exact hy
 refine pick (by decide +kernel) ?_
 refine wpAny_bind (wpAny_typeOf hT ?_)
 exact wpAny_pure h
theorem xV {Q:List Value->Shared->Prop} (hh:A.handled=none) (ho:s.heap.get? D=some (bU L ep t)) (g:Goes w L t) (hn:L.length<=1000)
  (hQ:∀ h' tk,(∀ b o,s.heap.get? b=some o->h'.get? b=some o)->s.heap.objs.size<=h'.objs.size->Q ((dw w D ep L).toList.map (·.2)) { s with heap:=h',toks:=tk }):wpAny (model prog w) A (collect (.ref D)) Q E s:=by
 have Ln:D < s.heap.objs.size:=Heap.lt_size ho
 unfold collect
 refine wpAny_bind (wpAny_runValue (codeAny_builtin F.entry_proto_collect ?_))
 rw [Around.under_plainId F.plain_proto_collect _]
 show wpAny _ A.in1 (newList [] >>= fun l=>again (.builtin "list.__iadd__" ⟨[l,.ref D],[]⟩)) _ _ s
 refine wpAny_bind (wpAny_newObj_type ?_)
 refine wpAny_pure ⟨plainId_quiet F.plain_list_iadd _,codeAny_builtin F.entry_list_iadd ?_⟩
 rw [Around.under_plainId F.plain_list_iadd _]
 have p1:∀ b o,s.heap.get? b=some o->(s.heap.push gB).get? b=some o:=fun b o e=>Heap.get?_push_of_some _ e
 have hD1:(s.heap.push gB).get? D=some (bU L ep t):=p1 _ _ ho
 have hS1:(s.heap.push gB).get? s.heap.objs.size=some gB:=Heap.get?_push_size _ rfl
 show wpAny _ A.in1 (Builtin.List.listExtendWith (.ref s.heap.objs.size) (.ref D) (.ref s.heap.objs.size)) _ _ _
 unfold Builtin.List.listExtendWith
 have hT:Shared.TypeIs { s with heap:=s.heap.push gB } (.ref D) "set":=⟨_,hD1,rfl⟩
 refine wpAny_bind (wpAny_typeOf hT ?_)
 have k1:Builtin.List.listSameRef (.ref s.heap.objs.size) (.ref D)=false:=by simp [Builtin.List.listSameRef];exact Nat.ne_of_gt Ln
 have k2:(Value.type "set" == Value.type "list")=false:=by decide
 have k3:(Value.type "set" == Value.type "tuple")=false:=by decide
 simp only [k1,k2,k3,Bool.or_self,Bool.false_eq_true,if_false]
 refine wpAny_bind (Yb hD1 g ?_)
 have p2:∀ b o,(s.heap.push gB).get? b=some o->((s.heap.push gB).push (dU w t D L.length ep 0)).get? b=some o:=fun b o e=>Heap.get?_push_of_some _ e
 have hD2:=p2 _ _ hD1
 have hS2:=p2 _ _ hS1
 have hI2:((s.heap.push gB).push (dU w t D L.length ep 0)).get? (s.heap.push gB).objs.size=some (dU w t D L.length ep 0):=Heap.get?_push_size _ rfl
 have abJ:(s.heap.push gB).objs.size=s.heap.objs.size + 1:=Heap.size_push ..
 refine wpAny_bind (wpAny_holding (Yc hD2 ?_))
 have pick:∀ {c:Bool} {x y:Sem PySem.Fin} {R:PySem.Fin->Shared->Prop} {F':Value->Shared->Prop} {s':Shared},c=true->wpAny (model prog w) A.in1 x R F' s'->wpAny (model prog w) A.in1 (if c=true then x else y) R F' s':=fun {c x y R F' s'} hc hy=>by rw [hc];exact hy
 refine pick (by decide +kernel) ?_
 refine wpAny_bind (wpAny_rule ?_)
 refine wpAny_bind ?_
 show wpAny _ A.in1 (updateSeq s.heap.objs.size (·.push .none) >>= fun _=>updateSeq s.heap.objs.size (·.pop)) _ _ _
 refine wpAny_bind (wpAny_updateSeq hS2 rfl ?_)
 have hS3:=Heap.get?_update_self (Obj.mapSeq (·.push Value.none)) hS2 rfl
 refine wpAny_updateSeq hS3 rfl ?_
 have Kl:=Heap.get?_update_self (Obj.mapSeq (·.pop)) hS3 rfl
 generalize hH:(((s.heap.push gB).push (dU w t D L.length ep 0)).update s.heap.objs.size (Obj.mapSeq (·.push Value.none))).update s.heap.objs.size (Obj.mapSeq (·.pop))=H at Kl
 have oth:∀ b o,b≠s.heap.objs.size->((s.heap.push gB).push (dU w t D L.length ep 0)).get? b=some o->H.get? b=some o:=fun b o hb e=>by
  rw [<- hH];exact (Heap.get?_update_other _ _ (Ne.symm hb)).trans ((Heap.get?_update_other _ _ (Ne.symm hb)).trans e)
 have W:=(Uc (prog:=prog) (w:=w) (A:=A.in1) (D:=D) (I:=(s.heap.push gB).objs.size) (ep:=ep) (by simpa using hh) (by rw [abJ];exact Nat.ne_of_lt (Nat.lt_succ_of_lt Ln)) g).toS
 have hSf:s.heap.objs.size∉[(s.heap.push gB).objs.size,D]:=by
  simp only [List.mem_cons,List.not_mem_nil,or_false,not_or]
  exact ⟨by rw [abJ];exact Nat.ne_of_lt (Nat.lt_succ_self _),Nat.ne_of_gt Ln⟩
 refine wpAny_pure ⟨plainId_quiet F.plain_extend_loop _,codeAny_extend_loopS W (by rw [sizeLine_eq];omega) s.heap.objs.size hSf _ L.length 0 _ _ _ rfl (Nat.zero_le _) ⟨oth _ _ (by rw [abJ];exact Nat.succ_ne_self _) hI2,oth _ _ (Nat.ne_of_lt Ln) hD2⟩ Kl (ItemsOf.nil _) fun s' acc c hm hS' hacc=>?_⟩
 show wpAny _ A (load s.heap.objs.size >>= _) _ _ s'
 refine wpAny_bind (wpAny_load hS' ?_)
 have hacc':acc.toList=(dw w D ep L).toList.map (·.2):=by
  apply List.ext_getElem?
  intro i
  rw [List.getElem?_map,Array.getElem?_toList,Array.getElem?_toList]
  cases e:acc[i]? with
  | some v =>
   obtain ⟨x,hx,rfl⟩:=hacc.2 i v e
   rw [hx];rfl
  | none =>
   have:acc.size<=i:=by simpa using e
   rw [hacc.1] at this
   rw [Array.getElem?_eq_none (by rw [gQ];exact this)];rfl
 obtain ⟨h',g',d',tk',os'⟩:=s'
 have eg:g'=s.gens:=hm.gens
 have ed:d'=s.drawn:=hm.drawn
 have eo:os'=s.os:=hm.os
 subst eg ed eo
 show wpAny _ _ (pure acc.toList) _ _ _
 rw [hacc']
 refine wpAny_pure (hQ h' tk' (fun b o e=>hm.heap b o ?_ (oth b o (Nat.ne_of_lt (Heap.lt_size e)) (p2 _ _ (p1 _ _ e)))) (Nat.le_of_lt (Heap.lt_size hS')))
 simp only [List.mem_cons,List.not_mem_nil,or_false,not_or]
 exact ⟨Nat.ne_of_lt (Heap.lt_size e),by rw [abJ];exact Nat.ne_of_lt (Nat.lt_succ_of_lt (Heap.lt_size e))⟩
end
end Tb
namespace Tb
open PySem PySem.Spec PySem.SetTable
section
variable {prog:Program} {w:World} {A:Around} {E:Value->Shared->Prop} {s:Shared}
theorem Lp {a b:Addr} {ks:List Int} {L:List iJ} {ep:Nat} {t:SetTable} {f:iJ->List Int} {Q:SetFound->Shared->Prop} (ho:s.heap.get? a=some (bU L ep t)) (g:Good t L) (hl:L.length<=t.mask) (hf:∀ e∈L,HB prog w s.heap e (f e))
  (hb:IsTupleKey (intKind prog w) s.heap ks b) (hu:A.units < cLine) (q1:∀ i (hi:i < L.length),f L[i]=ks->Q (.there (some i)) s)
  (q2:∀ j,(∀ e∈L,f e≠ks)->Q (.free j false) s) :
  ∀ (fuel s0 sE:Nat) (jP:Option Probe),s0<=sE->sE < s0 + fuel->sE < s0 + 10 * turns t.mask->¬ mY t (pos t (hK prog w ks) sE)->jP.getD (t.probeStart (hK prog w ks))=jc t s0 (t.probeStart (hK prog w ks)) ->
   (∀ n,n < s0->∃ e∈L,e.1=pos t (hK prog w ks) n/\f e≠ks)->wpAny (model prog w) A (setSearchFrom a (.ref b) (hK prog w ks) false fuel jP) Q E s:=by
 intro fuel
 induction fuel with
 | zero=>intro s0 sE _ h1 h2;omega
 | succ fuel ih =>
  intro s0 sE jP h1 h2 h2' hE hst hpre
  unfold setSearchFrom
  refine wpAny_bind (wpAny_setState_of ho rfl (g.fits hl) ?_)
  simp only [g.odd,Bool.false_eq_true,if_false]
  obtain ⟨s2,a1,a2,a3,a4⟩:=Le g.rise g.nd (fun i=>((((L.map (·.2)).toArray)[i]?).map (·.1)).getD 0) (hK prog w ks) (10 * turns t.mask) s0 sE h1 h2' hE
  have hh:∀ i (hi:i < L.length),((((L.map (·.2)).toArray)[i]?).map (·.1)).getD 0=L[i].2.1:=fun i hi=>by simp [hi]
  have passed:∀ n,n < s2->∃ e∈L,e.1=pos t (hK prog w ks) n/\f e≠ks:=fun n hn=>by
   by_cases c:n < s0
   ·exact hpre n c
   ·obtain ⟨i,hi,e1,e2⟩:=a3 n (by omega) hn
    rw [g.sz] at hi
    rw [g.at hi] at e1
    rw [hh i hi] at e2
    refine ⟨L[i],List.getElem_mem hi,e1,fun z=>e2 ?_⟩
    obtain ⟨b',_,_,e3⟩:=hf _ (List.getElem_mem hi)
    rw [e3,z]
  rcases a4 with ⟨hne,hp⟩|⟨i,hi,e1,e2,hp⟩
  ·-- an empty slot
   have hp':t.probe (fun i=>((((L.map (·.2)).toArray)[i]?).map (·.1)).getD 0) (hK prog w ks) (jP.getD (t.probeStart (hK prog w ks)))=some (.empty (pos t (hK prog w ks) s2) none):=by rw [hst];exact hp
   generalize hr:t.probe _ (hK prog w ks) (jP.getD (t.probeStart (hK prog w ks)))=r
   obtain rfl:r=_:=hr.symm.trans hp'
   simp only
   refine wpAny_pure (q2 _ fun e he z=>?_)
   ·obtain ⟨b',_,_,e3⟩:=hf e he
    obtain ⟨n,r1,r2⟩:=g.reach e he
    rw [e3,z] at r1 r2
    by_cases c:n < s2
    ·obtain ⟨e',he',q,ne⟩:=passed n c
     have:=g.uniq he' he (q.trans r1)
     subst this
     exact ne z
    ·by_cases d:s2 < n
     ·obtain ⟨e',he',q⟩:=r2 s2 d
      exact hne (g.live.mpr ⟨e',he',q⟩)
     ·obtain rfl:n=s2:=by omega
      exact hne (g.live.mpr ⟨e,he,r1.symm⟩)
  ·-- a key with the same hash
   rw [g.sz] at hi
   have e1':=e1
   rw [g.at hi] at e1
   obtain ⟨b',hv,hk',hx⟩:=hf _ (List.getElem_mem hi)
   have hp':t.probe (fun i=>((((L.map (·.2)).toArray)[i]?).map (·.1)).getD 0) (hK prog w ks) (jP.getD (t.probeStart (hK prog w ks)))=some (.candidate (pos t (hK prog w ks) s2) i (jc t (s2 + 1) (t.probeStart (hK prog w ks)))):=by rw [hst];exact hp
   generalize hr:t.probe _ (hK prog w ks) (jP.getD (t.probeStart (hK prog w ks)))=r
   obtain rfl:r=_:=hr.symm.trans hp'
   simp only
   have ei:((L.map (·.2)).toArray)[i]?=some (L[i].2.1,.ref b'):=by
    have:((L.map (·.2)).toArray)[i]?=some L[i].2:=by simp [hi]
    rw [this,<- hv]
   have rest:wpAny (model prog w) A (do
     let some (_,y):=((L.map (·.2)).toArray)[i]?|unsupported "internal:set-entry"
     let equal <- holding [y] (eqBool y (.ref b))
     let (es',_,t') <- setState a
     if false && equal then return .there none
     let some same:=t'.sameMemory t.moves t.mask|unsupported "set.changed-during-lookup:is-the-new-block-at-the-old-address"
     let still <- match (if same then t'.slot (pos t (hK prog w ks) s2) else .empty) with
      | .live i'=>match es'[i']? with
       | some (_,y')=>do pure (if <- isSame y' y then some i' else none)
       | none=>pure none
      | _=>pure none
     match still with
     | none=>rule "set.search.anew";setSearchFrom a (.ref b) (hK prog w ks) false fuel none
     | some i'=>if equal then return .there (some i') else setSearchFrom a (.ref b) (hK prog w ks) false fuel (some (jc t (s2 + 1) (t.probeStart (hK prog w ks))))) Q E s:=by
    rw [ei]
    simp only
    refine wpAny_bind (wpAny_holding ((TK prog w).eqBool hu hk' hb ?_))
    refine wpAny_bind (wpAny_setState_of ho rfl (g.fits hl) ?_)
    simp only [Bool.false_and,Bool.false_eq_true,if_false]
    have hsm:t.sameMemory t.moves t.mask=some true:=by unfold sameMemory;simp
    rw [hsm]
    simp only [if_true]
    have hsl:t.slot (pos t (hK prog w ks) s2)=.live i:=by rw [<- e1'];exact rJ g.rise (by rw [g.sz];exact hi)
    rw [hsl]
    simp only [ei]
    refine wpAny_bind (pZ (wpAny_bind (wpAny_pure ?_)))
    simp only [if_true]
    by_cases c:f L[i]=ks
    ·simp only [c,decide_true,if_true]
     exact wpAny_pure (q1 i hi c)
    ·simp only [c,decide_false,Bool.false_eq_true,if_false]
     have hne:s2≠sE:=fun z=>hE (z▸g.live.mpr ⟨_,List.getElem_mem hi,e1⟩)
     refine ih (s2 + 1) sE _ (by omega) (by omega) (by omega) hE rfl fun n hn=>?_
     by_cases d:n=s2
     ·subst d;exact ⟨_,List.getElem_mem hi,e1,c⟩
     ·exact passed n (by omega)
   cases ahe:t.led with
   | true=>simp only [Bool.not_true,Bool.false_eq_true,if_false];exact rest
   | false =>
    simp only [Bool.not_false,if_true]
    refine wpAny_bind (HF hb _ (fun y hy=>?_) ?_)
    ·obtain ⟨e,he,rfl⟩:=List.mem_map.mp hy
     have he':e∈(L.map (·.2)):=by
      have:=Array.mem_toList_iff.mp he
      have:=(Array.mem_filter.mp this).1
      simpa using this
     obtain ⟨e0,h0,rfl⟩:=List.mem_map.mp he'
     obtain ⟨b2,hv2,hk2,_⟩:=hf e0 h0
     exact ⟨_,b2,hv2,hk2⟩
    ·simp only [Bool.false_eq_true,if_false];exact rest
theorem abK {U:Addr->List Int->Prop} {a b:Addr} {ks:List Int} {aC:List (List Int)} {Q:Option Nat->Shared->Prop} (hS:aM prog w U s.heap a aC) (hn:aC.length < 1000) (hb:IsTupleKey (intKind prog w) s.heap ks b) (hu:A.units < cLine)
  (h:∀ r,r.isSome=decide (ks∈aC)->Q r s):wpAny (model prog w) A (setFind a (.ref b) (hK prog w ks)) Q E s:=by
 obtain ⟨L,ep,t,f,ho,g,room,mb,⟨pl,ld⟩,hf,hp,nd,uu⟩:=hS
 have hlen:L.length=aC.length:=by have:=hp.length_eq;simpa using this
 have h7:=g.m7
 have hl:L.length<=t.mask:=by omega
 have adi:t.mask < 8000:=mb
 have hmem:∀ x,x∈aC↔∃ e∈L,f e.2=x:=fun x=>by rw [<- hp.mem_iff,List.mem_map]
 unfold setFind
 show wpAny (model prog w) A (setFindIn a (.ref b) (hK prog w ks) (99999 + 1)) Q E s
 unfold setFindIn
 refine wpAny_bind (wpAny_setState_of ho rfl (g.fits hl) ?_)
 have hby:byScan (.ref b) (L.map (·.2)).toArray=false:=by simp [byScan,Value.scannable]
 simp only [hby,Bool.false_eq_true,if_false]
 obtain ⟨e0,he0,hE0⟩:=zu g.rise (by rw [g.sz];exact hl)
 obtain ⟨k,hk⟩:=g.pw
 obtain ⟨sE,_,hsE,pE⟩:=Hw hk (hK prog w ks) 0 he0
 refine wpAny_bind ?_
 unfold setSearch
 refine Lp (f:=fun e=>f e.2) (Q:=fun r s'=>wpAny (model prog w) A (match r with
  | .there i=>_
  | .free ..=>_) Q E s') ho g hl hf hb hu (fun i hi c=>?_) (fun j hno=>?_) 100000 0 sE none (Nat.zero_le _) (by omega) (by unfold turns;omega) (by rw [pE];exact hE0) rfl (fun n hn=>absurd hn (by omega))
 ·exact wpAny_pure (h _ (by simp only [Option.isSome_some];exact (decide_eq_true ((hmem ks).mpr ⟨_,List.getElem_mem hi,c⟩)).symm))
 ·exact wpAny_pure (h _ (by simp only [Option.isSome_none];exact (decide_eq_false fun z=>by obtain ⟨e,he,q⟩:=(hmem ks).mp z;exact hno e he q).symm))
theorem abL {D:Addr} {L:List iJ} {ep:Nat} {t:SetTable} {Q:Array (Int×Value)->Shared->Prop} (ho:s.heap.get? D=some (bU L ep t)) (g:Goes w L t) (h:Q (dw w D ep L) s):wpAny (model prog w) A (setWalk D) Q E s:=by
 unfold setWalk setsByText
 refine wpAny_bind (wpAny_setState_of ho rfl (g.g.fits g.hl) ?_)
 refine wpAny_bind (wpAny_bind (wpAny_askSetting (wpAny_pure ?_)))
 unfold dw at h
 cases hb:jl w with
 | true =>
  have hb':((model prog w).w.params.followText "set-order")=true:=hb
  simp only [hb,if_true] at h
  simp only [hb',if_true]
  exact wpAny_bind (wpAny_askSetting (wpAny_pure h))
 | false =>
  have hb':((model prog w).w.params.followText "set-order")=false:=hb
  simp only [hb,Bool.false_eq_true,if_false] at h
  simp only [hb',Bool.false_eq_true,if_false]
  have ld:t.led=true:=by rw [g.ld,hb];rfl
  have hdr:∀ c:Bool,(!t.plain && c)=false:=fun c=>by rw [g.pl];rfl
  have hld:∀ c:Bool,(!t.led && c)=false:=fun c=>by rw [ld];rfl
  have drop:∀ {c:Bool} {x y:Sem (Array (Int×Value))},c=false->wpAny (model prog w) A y Q E s->wpAny (model prog w) A (if c=true then x else y) Q E s:=fun {c x y} hc hy=>by rw [hc];exact hy
  refine drop (hdr _) ?_
  refine wpAny_bind ?_
  show wpAny _ _ (if (!t.led && decide (((L.map (·.2)).toArray).size > 1))=true then unsupported "set:maker-not-led" else pure ()) _ _ _
  rw [hld]
  exact wpAny_pure (wpAny_pure h)
theorem qd {D:Addr} {os:List Addr} {fl:Option Addr} {L:List iJ} {ep:Nat} {t:SetTable} {Q:Array (Int×Value)->Shared->Prop} (ho:s.heap.get? D=some (bU L ep t)) (g:Goes w L t) (h:Q (dw w D ep L) s):wpAny (model prog w) A (setWalkUnseen D os fl) Q E s:=by
 unfold setWalkUnseen setsByText
 refine wpAny_bind (wpAny_setState_of ho rfl (g.g.fits g.hl) ?_)
 refine wpAny_bind (wpAny_bind (wpAny_askSetting (wpAny_pure ?_)))
 have hc:∀ c:Bool,(((model prog w).w.params.followText "set-order") || (t.led && t.plain) || c)=true:=fun c=>by
  rw [g.pl,g.ld]
  show (jl w || (!jl w && true) || c)=true
  cases jl w <;> simp
 have take:∀ {c:Bool} {x y:Sem (Array (Int×Value))},c=true->wpAny (model prog w) A x Q E s->wpAny (model prog w) A (if c=true then x else y) Q E s:=fun {c x y} hc hy=>by rw [hc];exact hy
 exact take (hc _) (abL ho g h)
theorem aM.goes {U:Addr->List Int->Prop} {h:Heap} {D:Addr} {aC:List (List Int)} (x:aM prog w U h D aC) (hn:aC.length < 1000):∃ (L:List iJ) (ep:Nat) (t:SetTable) (f:Int×Value->List Int),h.get? D=some (bU L ep t)/\Goes w L t/\L.length=aC.length /\
  ((dw w D ep L).toList.map f).Perm aC/\∀ e∈(dw w D ep L).toList,∃ b,e=(hK prog w (f e),.ref b)/\IsTupleKey (intKind prog w) h (f e) b/\U b (f e):=by
 obtain ⟨L,ep,t,f,ho,g,room,mb,pl,hf,hp,nd,uu⟩:=x
 have hlen:L.length=aC.length:=by have:=hp.length_eq;simpa using this
 have h7:=g.m7
 have op:=rM w D ep L
 refine ⟨L,ep,t,f,ho,⟨g.lies (by omega),by omega,pl.1,pl.2⟩,hlen,((op.map f).trans (List.Perm.of_eq (by rw [List.map_map];rfl))).trans hp,fun e he=>?_⟩
 obtain ⟨e0,h0,rfl⟩:=List.mem_map.mp (op.mem_iff.mp he)
 obtain ⟨b,h1,h2,h3⟩:=hf e0 h0
 exact ⟨b,by rw [<- h1,<- h3],h2,uu e0 h0 b h1⟩
end
end Tb
namespace Tb
open PySem PySem.Spec PySem.SetTable
section
variable {prog:Program} {w:World} {U:Addr->List Int->Prop} {A:Around} {E:Value->Shared->Prop} {s:Shared}
theorem Ud {a:Addr} {L:List iJ} {ep:Nat} {t:SetTable} {Q:Unit->Shared->Prop} {wanted:Nat} (ho:s.heap.get? a=some (bU L ep t)) (g:Good t L) (hl:L.length<=t.mask) (hw:wanted<=100000) (hw2:L.length<=wanted) (hp:t.plain=true)
  (h:∀ h' L' t',Heap.SameBut a s.heap h'->h'.get? a=some (bU L' (ep + 1) t')->Good t' L'->t'.mask=sizeAbove wanted - 1->(t'.plain=true/\t'.led=t.led)->(L'.map (·.2)).Perm (L.map (·.2))->Q () { s with heap:=h' }) :
  wpAny (model prog w) A (setRelay a wanted) Q E s:=by
 obtain ⟨s1,s2,s3,s4⟩:=jD wanted (by omega)
 unfold setRelay
 refine wpAny_bind (wpAny_setState_of ho rfl (g.fits hl) ?_)
 have hsz:¬ sizeAbove wanted > sizeLine:=by rw [sizeLine_eq];omega
 simp only [hsz,if_false]
 obtain ⟨t',order,L',e1,e2,e3,e4,e5,g',e6,e7⟩:=rK s1 s2 t.finger (t.movedTo (sizeAbove wanted - 1)) t.led t.plain (L.map (·.2)) (by simp;omega)
 have hlen:L'.length=L.length:=by have:=e7.length_eq;simpa using this
 have er:t.relaid (((L.map (·.2)).toArray).map (·.1)) wanted=some (t',order):=by
  unfold relaid
  have:((L.map (·.2)).toArray).map (·.1)=((L.map (·.2)).map (·.1)).toArray:=by simp
  rw [this];exact e1
 have main:wpAny (model prog w) A (do
   let some (t,order):=t.relaid (((L.map (·.2)).toArray).map (·.1)) wanted|unsupported "internal:set-table-without-room"
   let es':=order.filterMap (((L.map (·.2)).toArray)[·]?)
   if es'.size != ((L.map (·.2)).toArray).size then unsupported "internal:set-table-lost-an-element"
   pure (es',t)) (fun r s'=>wpAny (model prog w) A (storeSet a r.1 r.2) Q E s') E s:=by
  rw [er]
  simp only
  rw [e6]
  have:((L'.map (·.2)).toArray.size != ((L.map (·.2)).toArray).size)=false:=by simp [hlen]
  rw [this]
  simp only [Bool.false_eq_true,if_false]
  refine wpAny_pure ?_
  exact jQ (t':=t') ho (by omega) fun h' hs hg=>h h' L' t' hs hg g' e2 ⟨e4.trans hp,e3⟩ e7
 exact wpAny_bind main
theorem aM.perm {h:Heap} {a:Addr} {aC fQ:List (List Int)} (x:aM prog w U h a aC) (p:aC.Perm fQ):aM prog w U h a fQ:=by
 obtain ⟨L,ep,t,f,ho,g,room,mb,pl,hf,hp,nd,uu⟩:=x
 exact ⟨L,ep,t,f,ho,g,room,mb,pl,hf,hp.trans p,p.nodup_iff.mp nd,uu⟩
noncomputable def sW (keep:List Int->Bool) (acc:List (List Int)) (ks:List Int):List (List Int):=if keep ks=true then (if ks∈acc then acc else ks::acc) else acc
theorem Ue (keep:List Int->Bool) (acc:List (List Int)) (ks:List Int):(sW keep acc ks).length<=acc.length + 1:=by
 unfold sW
 split
 ·split <;> simp
 ·simp
theorem Ug {keep:List Int->Bool} {acc:List (List Int)} {ks x:List Int}:x∈sW keep acc ks↔x∈acc∨(x=ks/\keep ks=true):=by
 unfold sW
 split
 ·rename_i hk
  split
  ·rename_i hm
   constructor
   ·exact .inl
   ·rintro (h|⟨rfl,_⟩)
    ·exact h
    ·exact hm
  ·rw [List.mem_cons]
   constructor
   ·rintro (h|h)
    ·exact .inr ⟨h,hk⟩
    ·exact .inl h
   ·rintro (h|⟨h,_⟩)
    ·exact .inr h
    ·exact .inl h
 ·rename_i hk
  constructor
  ·exact .inl
  ·rintro (h|⟨_,h⟩)
   ·exact h
   ·exact absurd h hk
theorem uc {keep:List Int->Bool} {x:List Int}:∀ {l acc:List (List Int)},x∈l.foldl (sW keep) acc↔x∈acc∨(x∈l/\keep x=true)
 | [],acc=>by simp
 | k::l,acc=>by
  rw [List.foldl_cons,uc,Ug,List.mem_cons]
  constructor
  ·rintro ((h|⟨rfl,h⟩)|⟨h,h'⟩)
   ·exact .inl h
   ·exact .inr ⟨.inl rfl,h⟩
   ·exact .inr ⟨.inr h,h'⟩
  ·rintro (h|⟨rfl|h,h'⟩)
   ·exact .inl (.inl h)
   ·exact .inl (.inr ⟨rfl,h'⟩)
   ·exact .inr ⟨h,h'⟩
theorem wB {r:Addr} {keep:List Int->Bool} {f:Int×Value->List Int} {body:Int×Value->PUnit->Sem (ForInStep PUnit)} {s0:Shared} {Q:PUnit->Shared->Prop}
  (hbody:∀ (e:Int×Value) (b:Addr) (acc:List (List Int)) (s':Shared) (R:ForInStep PUnit->Shared->Prop),e=(hK prog w (f e),.ref b)->IsTupleKey (intKind prog w) s'.heap (f e) b->U b (f e)->Heap.SameBut r s0.heap s'.heap->aM prog w U s'.heap r acc->acc.length < 999 ->
   (∀ h' tk,Heap.SameBut r s'.heap h'->aM prog w U h' r (sW keep acc (f e))->R (.yield ⟨⟩) { s' with heap:=h',toks:=tk })->wpAny (model prog w) A (body e ⟨⟩) R E s') :
  ∀ (es:List (Int×Value)) (acc:List (List Int)) (s':Shared),(∀ e∈es,∃ b,e=(hK prog w (f e),.ref b)/\IsTupleKey (intKind prog w) s0.heap (f e) b/\U b (f e))->Heap.SameBut r s0.heap s'.heap->aM prog w U s'.heap r acc->acc.length + es.length < 999 ->
   (∃ o,s0.heap.get? r=some o/\∀ xs m,o.data≠.seq xs m) ->
   (∀ h' tk,Heap.SameBut r s0.heap h'->aM prog w U h' r ((es.map f).foldl (sW keep) acc)->Q ⟨⟩ { s' with heap:=h',toks:=tk })->wpAny (model prog w) A (forIn es PUnit.unit body) Q E s'
 | [],acc,s',_,hs,hS,_,_,h=>by
  rw [List.forIn_nil]
  exact wpAny_pure (h s'.heap s'.toks hs hS)
 | e::es,acc,s',he,hs,hS,hl,hr,h=>by
  rw [List.forIn_cons]
  obtain ⟨b,e1,k1,u1⟩:=he e (.head _)
  have key':IsTupleKey (intKind prog w) s'.heap (f e) b:=by
   obtain ⟨o,its,n,q1,q2,q3,q4⟩:=k1
   obtain ⟨ro,g1,g2⟩:=hr
   have ne:b≠r:=fun z=>by subst z;rw [g1] at q1;cases q1;exact g2 _ _ q3
   exact ⟨o,its,n,(hs.2 b ne).trans q1,q2,q3,q4⟩
  refine wpAny_bind (hbody e b acc s' _ e1 key' u1 hs hS (by simp at hl;omega) fun h' tk hs' hS'=>?_)
  refine wB hbody es _ { s' with heap:=h',toks:=tk } (fun e' h'=>he e' (.tail _ h')) (hs.trans hs') hS' (by have:=Ue keep acc (f e);simp at hl;omega) hr fun h2 tk2 hs2 hS2=>?_
  exact h h2 tk2 hs2 hS2
end
end Tb
namespace Tb
open PySem PySem.Spec PySem.SetTable
section
variable {prog:Program} {w:World} {U:Addr->List Int->Prop} {A:Around} {E:Value->Shared->Prop} {s:Shared}
noncomputable def HW (prog:Program) (w:World) (U:Addr->List Int->Prop) (n:Nat) (h:Heap) (a:Addr) (aC:List (List Int)):Prop :=
 ∃ (L:List iJ) (ep:Nat) (t:SetTable) (f:Int×Value->List Int),h.get? a=some (bU L ep t)/\Good t L/\(L.length + n) * 5 < t.mask * 3/\t.mask < 8000/\(t.plain=true/\t.led=!jl w)/\(∀ e∈L,HB prog w h e (f e.2))/\(L.map fun e=>f e.2).Perm aC/\aC.Nodup/\∀ e∈L,∀ b,e.2.2=.ref b->U b (f e.2)
theorem HW.at {n:Nat} {h:Heap} {a:Addr} {aC:List (List Int)} (x:HW prog w U n h a aC):aM prog w U h a aC:=by
 obtain ⟨L,ep,t,f,ho,g,room,r⟩:=x
 exact ⟨L,ep,t,f,ho,g,by omega,r⟩
theorem abM {r:Addr} {aC:List (List Int)} {n:Nat} {Q:Unit->Shared->Prop} (hS:aM prog w U s.heap r aC) (hn:aC.length + n < 400) (h1:1<=n)
  (h:∀ h',Heap.SameBut r s.heap h'->HW prog w U n h' r aC->Q () { s with heap:=h' }):wpAny (model prog w) A (setRoomFor r n) Q E s:=by
 obtain ⟨L,ep,t,f,ho,g,room,mb,pl,hf,hp,nd,uu⟩:=hS
 have hlen:L.length=aC.length:=by have:=hp.length_eq;simpa using this
 have h7:=g.m7
 have hl:L.length<=t.mask:=by omega
 have hfill:t.fill=L.length:=by unfold fill;rw [g.nd,g.sz];simp
 unfold setRoomFor
 refine wpAny_bind (wpAny_setState_of ho rfl (g.fits hl) ?_)
 simp only [roomFor,hfill,g.sz]
 by_cases c:(L.length + n) * 5 ≥ t.mask * 3
 ·rw [if_pos c]
  simp only
  obtain ⟨s1,s2,s3,s4⟩:=jD ((L.length + n) * 2) (by omega)
  refine Ud ho g hl (by omega) (by omega) pl.1 fun h' L' t' hs hg g' em p2 pm=>h h' hs ?_
  have hl2:L'.length=L.length:=by have:=pm.length_eq;simpa using this
  have hv:∀ e∈L',∃ e1∈L,e1.2=e.2:=fun e he=>by
   have:e.2∈L.map (·.2):=pm.mem_iff.mp (List.mem_map.mpr ⟨e,he,rfl⟩)
   obtain ⟨e1,h1,h2⟩:=List.mem_map.mp this
   exact ⟨e1,h1,h2⟩
  refine ⟨L',ep + 1,t',f,hg,g',by rw [em,hl2];omega,by rw [em];omega,⟨p2.1,p2.2.trans pl.2⟩,fun e he=>?_,?_,nd,fun e he b hb=>?_⟩
  ·obtain ⟨e1,he1,q⟩:=hv e he
   obtain ⟨b',k1,k2,k3⟩:=hf e1 he1
   rw [q] at k1 k2 k3
   exact ⟨b',k1,jd ho hs k2,k3⟩
  ·have:=(pm.map f)
   rw [List.map_map,List.map_map] at this
   exact this.trans hp
  ·obtain ⟨e1,he1,q⟩:=hv e he
   rw [<- q];exact uu e1 he1 b (by rw [q];exact hb)
 ·rw [if_neg c]
  simp only
  have:=h s.heap (Heap.SameBut.refl r s.heap) ⟨L,ep,t,f,ho,g,by omega,mb,pl,hf,hp,nd,uu⟩
  exact wpAny_pure (by cases s;exact this)
theorem Good.as {t t':SetTable} {L:List iJ} (g:Good t L) (e1:t'.mask=t.mask) (e2:t'.dummies=t.dummies) (e3:t'.place=t.place):Good t' L where
 pw:=by rw [e1];exact g.pw
 m7:=by rw [e1];exact g.m7
 nd:=by rw [e2];exact g.nd
 pl:=by rw [e3];exact g.pl
 so:=g.so
 le:=fun e he=>by rw [e1];exact g.le e he
 reach:=fun e he=>by
  obtain ⟨n,r1,r2⟩:=g.reach e he
  exact ⟨n,by rw [pY e1];exact r1,fun n' h=>by obtain ⟨e',h1,h2⟩:=r2 n' h;exact ⟨e',h1,by rw [pY e1];exact h2⟩⟩
theorem Lq {r o:Addr} {aC js:List (List Int)} {each:Sem Unit} {Q:Unit->Shared->Prop} (hS:aM prog w U s.heap r aC) (hO:aM prog w U s.heap o js) (hne:r≠o) (hn:aC.length + js.length < 400) (hu:A.units < cLine)
  (ahj:∀ (s':Shared) (R:Unit->Shared->Prop),Heap.SameBut r s.heap s'.heap->R () s'->wpAny (model prog w) A each R E s')
  (h:∀ h' tk fQ,Heap.SameBut r s.heap h'->fQ.Nodup->(∀ x,x∈fQ↔x∈aC∨x∈js)->aM prog w U h' r fQ->Q () { s with heap:=h',toks:=tk }):wpAny (model prog w) A (setMerge r o each) Q E s:=by
 have hO0:=hO
 obtain ⟨L2,ep2,t2,f2,ho2,g2,ahk,mb2,pl2,hf2,hp2,nd2,uu2⟩:=hO
 have nd1:aC.Nodup:=by obtain ⟨_,_,_,_,_,_,_,_,_,_,_,z,_⟩:=hS;exact z
 have hlen2:L2.length=js.length:=by have:=hp2.length_eq;simpa using this
 have h72:=g2.m7
 have hl2:L2.length<=t2.mask:=by omega
 unfold setMerge
 have hb:(r == o)=false:=by simp [hne]
 simp only [hb,Bool.false_eq_true,if_false]
 refine wpAny_bind (wpAny_setState_of ho2 rfl (g2.fits hl2) ?_)
 by_cases hz:L2=[]
 ·subst hz
  have:js=[]:=List.length_eq_zero_iff.mp hlen2.symm
  subst this
  simp only [List.map_nil,List.isEmpty_toArray,List.isEmpty_nil,if_true]
  exact wpAny_pure (by have:=h s.heap s.toks aC (Heap.SameBut.refl r s.heap) nd1 (fun x=>by simp) hS;cases s;exact this)
 have hpos:1<=L2.length:=by cases L2 with|nil=>exact absurd rfl hz|cons a l=>simp
 have hem:((L2.map (·.2)).toArray.isEmpty)=false:=by
  cases L2 with
  | nil=>exact absurd rfl hz
  | cons a l=>simp
 simp only [hem,Bool.false_eq_true,if_false]
 have hsz:(L2.map (·.2)).toArray.size=L2.length:=by simp
 rw [hsz]
 refine wpAny_bind (abM hS (by omega) hpos fun h1 hs1 hR=>?_)
 have hR0:=hR.at
 obtain ⟨L,ep,t,f,ho,g,room,mb,pl,hf,hp,nd,uu⟩:=hR
 have hlen:L.length=aC.length:=by have:=hp.length_eq;simpa using this
 have h7:=g.m7
 have hl:L.length<=t.mask:=by omega
 have hfill:t.fill=L.length:=by unfold fill;rw [g.nd,g.sz];simp
 have ajk:h1.get? o=some (bU L2 ep2 t2):=(hs1.2 o (Ne.symm hne)).trans ho2
 refine wpAny_bind (wpAny_setState_of (s:={ s with heap:=h1 }) ho rfl (g.fits hl) ?_)
 have key2:∀ {h':Heap},Heap.SameBut r h1 h'->∀ e∈L2,HB prog w h' e (f2 e.2):=fun {h'} hs' e he=>by
  obtain ⟨b,k1,k2,k3⟩:=hf2 e he
  obtain ⟨_,_,_,ro,_⟩:=hS.len
  exact ⟨b,k1,jd ho hs' (jd ro hs1 k2),k3⟩
 by_cases hL:L=[]
 ·subst hL
  have hk0:aC=[]:=List.length_eq_zero_iff.mp hlen.symm
  subst hk0
  have dH:∀ h' tk,Heap.SameBut r h1 h'->aM prog w U h' r js->Q () { s with heap:=h',toks:=tk }:=fun h' tk hs' hS'=>h h' tk js (hs1.trans hs') nd2 (fun x=>by simp) hS'
  by_cases hm:t.mask=t2.mask
  ·have hroad:t.road t2=.slotForSlot:=by unfold road;rw [hfill,g2.nd];simp [hm]
   rw [hroad]
   simp only
   refine jQ (s:={ s with heap:=h1 }) (L':=L2) ho (by omega) fun h' hs' hg=>dH h' s.toks hs' ⟨L2,ep + 1,_,f2,hg,g2.as rfl rfl rfl,ahk,mb2,⟨?_,?_⟩,key2 hs',hp2,nd2,uu2⟩
   ·show (t.plain && t2.plain)=true;rw [pl.1,pl2.1];rfl
   ·show (t.led && t2.led)=!jl w;rw [pl.2,pl2.2];cases jl w <;> rfl
  ·have hroad:t.road t2=.clean:=by unfold road;rw [hfill];simp [hm]
   rw [hroad]
   simp only
   obtain ⟨t',order,L',e1,e2,e3,e4,e5,g',e6,e7⟩:=rK g.pw g.m7 t.finger t.moves (t.led && t2.led) (t.plain && t2.plain) (L2.map (·.2)) (by simp at room ⊢;omega)
   have hl':L'.length=L2.length:=by have:=e7.length_eq;simpa using this
   have main:wpAny (model prog w) A (do
     let some (t,order):=(SetTable.laid t.mask t.finger t.moves (led:=t.led && t2.led) (plain:=t.plain && t2.plain) (((L2.map (·.2)).toArray).map (·.1)))|unsupported "internal:set-table-without-room"
     let es':=order.filterMap (((L2.map (·.2)).toArray)[·]?)
     if es'.size != ((L2.map (·.2)).toArray).size then unsupported "internal:set-table-lost-an-element"
     pure (es',t)) (fun q s'=>wpAny (model prog w) A (storeSet r q.1 q.2) Q E s') E { s with heap:=h1 }:=by
    have er:SetTable.laid t.mask t.finger t.moves (led:=t.led && t2.led) (plain:=t.plain && t2.plain) (((L2.map (·.2)).toArray).map (·.1))=some (t',order):=by
     have:((L2.map (·.2)).toArray).map (·.1)=((L2.map (·.2)).map (·.1)).toArray:=by simp
     rw [this];exact e1
    rw [er]
    simp only
    rw [e6]
    have:((L'.map (·.2)).toArray.size != ((L2.map (·.2)).toArray).size)=false:=by simp [hl']
    rw [this]
    simp only [Bool.false_eq_true,if_false]
    refine wpAny_pure ?_
    have hv:∀ e∈L',∃ e1∈L2,e1.2=e.2:=fun e he=>by
     have:e.2∈L2.map (·.2):=e7.mem_iff.mp (List.mem_map.mpr ⟨e,he,rfl⟩)
     obtain ⟨e1,h1,h2⟩:=List.mem_map.mp this
     exact ⟨e1,h1,h2⟩
    refine jQ (s:={ s with heap:=h1 }) (t':=t') ho (by omega) fun h' hs' hg=>dH h' s.toks hs' ⟨L',ep + 1,t',f2,hg,g',?_,by rw [e2];exact mb,⟨?_,?_⟩,fun e he=>?_,?_,nd2,fun e he b hb=>?_⟩
    ·rw [e2,hl'];simp at room;omega
    ·rw [e4,pl.1,pl2.1];rfl
    ·rw [e3,pl.2,pl2.2];cases jl w <;> rfl
    ·obtain ⟨e1,he1,q⟩:=hv e he
     obtain ⟨b',k1,k2,k3⟩:=key2 hs' e1 he1
     rw [q] at k1 k2 k3
     exact ⟨b',k1,k2,k3⟩
    ·have:=(e7.map f2)
     rw [List.map_map,List.map_map] at this
     exact this.trans hp2
    ·obtain ⟨e1,he1,q⟩:=hv e he
     rw [<- q];exact uu2 e1 he1 b (by rw [q];exact hb)
   exact wpAny_bind main
 ·have hroad:t.road t2=.oneByOne:=by
   unfold road
   rw [hfill]
   have:L.length≠0:=fun z=>hL (List.length_eq_zero_iff.mp z)
   simp [this]
  rw [hroad]
  simp only
  have hO1:aM prog w U h1 o js:=hO0.moved fun b o' hb e=>by
   have:b≠r:=by
    rcases hb with rfl|⟨ks,hk⟩
    ·exact Ne.symm hne
    ·obtain ⟨_,_,_,ro,_⟩:=hS.len
     exact fun z=>by
      subst z
      obtain ⟨q,its,n,q1,q2,q3,q4⟩:=hk
      rw [ro] at q1;cases q1;cases q3
   exact (hs1.2 b this).trans e
  obtain ⟨L3,ep3,t3,f3,ho3,gs3,hl3,hp3,he3⟩:=hO1.goes (by omega)
  have osz:(dw w o ep3 L3).toList.length=L3.length:=(Array.length_toList).trans (gQ w o ep3 L3)
  refine wpAny_bind (qd (s:={ s with heap:=h1 }) ho3 gs3 ?_)
  have hep:ep3=ep2:=by rw [ajk] at ho3;injection ho3 with z;injection z with _ _ z2 _;injection z2 with _ z3 _;exact z3.symm
  refine wpAny_bind ?_
  rw [<- Array.forIn_toList]
  refine wB (U:=U) (r:=r) (keep:=fun _=>true) (f:=f3) (s0:={ s with heap:=h1 }) (fun e b acc s' R e1 k1 u1 hs' hS' hl' hR'=>?_) (dw w o ep3 L3).toList aC { s with heap:=h1 } he3 (Heap.SameBut.refl r h1) hR0 (by rw [osz];omega) ⟨_,ho,fun xs m z=>by cases z⟩ fun h' tk hs' hS'=>?_
  ·rw [e1]
   simp only
   refine wpAny_bind (wpAny_holding (ni hS' (by omega) k1 u1 hu fun h2 added hs2 hS2=>?_))
   refine wpAny_bind (ahj _ _ (hs1.trans (hs'.trans hs2)) ?_)
   have ho4:h2.get? o=some (bU L3 ep3 t3):=(hs2.2 o (Ne.symm hne)).trans ((hs'.2 o (Ne.symm hne)).trans ho3)
   refine wpAny_bind (wpAny_setState_of (s:={ s' with heap:=h2 }) ho4 rfl (gs3.g.fits gs3.hl) ?_)
   rw [hep]
   simp only [bne_self_eq_false,Bool.false_eq_true,if_false]
   refine wpAny_pure (hR' h2 s'.toks hs2 ?_)
   unfold sW
   rw [if_pos rfl]
   exact hS2
  ·refine wpAny_pure (h h' tk _ (hs1.trans hs') (by obtain ⟨_,_,_,_,_,_,_,_,_,_,_,z,_⟩:=hS';exact z) (fun x=>?_) hS')
   rw [uc,hp3.mem_iff]
   simp
end
end Tb
namespace Tb
open PySem PySem.Spec PySem.SetTable
theorem Pb:entryFor table "set.__or__"=some Builtin.«frozenset.__or__»:=entryFor_alias (id':="frozenset.__or__") (by kernel_rfl) rfl (by decide +kernel) (by kernel_rfl)
theorem Ls:entryFor table "set.__and__"=some Builtin.«frozenset.__and__»:=entryFor_alias (id':="frozenset.__and__") (by kernel_rfl) rfl (by decide +kernel) (by kernel_rfl)
theorem Lw:entryFor table "set.__sub__"=some Builtin.«frozenset.__sub__»:=entryFor_alias (id':="frozenset.__sub__") (by kernel_rfl) rfl (by decide +kernel) (by kernel_rfl)
section
variable {prog:Program} {w:World} {U:Addr->List Int->Prop} {A:Around} {E:Value->Shared->Prop} {s:Shared}
theorem wC {Q:Value->Shared->Prop} (h:Q (.ref s.heap.objs.size) { s with heap:=s.heap.push (bA (!jl w)) }):wpAny (model prog w) A (newSet (.type "set")) Q E s:=by
 unfold newSet setsByText
 refine wpAny_bind (wpAny_bind (wpAny_askSetting (wpAny_pure ?_)))
 simp only [newObj]
 exact wpAny_bind (wpAny_alloc (wpAny_pure h))
theorem HX {D:Addr} {Q:Value->Shared->Prop} (hT:s.TypeIs (.ref D) "set") (h:Q (.type "set") s):wpAny (model prog w) A (Builtin.Frozenset.baseOf D) Q E s:=by
 unfold Builtin.Frozenset.baseOf
 exact wpAny_bind (wpAny_isInstance hT sub_set_self (wpAny_pure h))
theorem qe {D:Addr} {Q:Bool->Shared->Prop} (hT:s.TypeIs (.ref D) "set") (h:Q true s):wpAny (model prog w) A (Builtin.Frozenset.isAnySet (.ref D)) Q E s:=by
 unfold Builtin.Frozenset.isAnySet
 refine wpAny_bind (wpAny_isInstance hT sub_set_self ?_)
 exact wpAny_pure h
theorem aM.ty {D:Addr} {aC:List (List Int)} (hS:aM prog w U s.heap D aC):s.TypeIs (.ref D) "set":=by
 obtain ⟨L,ep,t,ho,_⟩:=hS.len
 exact ⟨_,ho,rfl⟩
theorem zy {h':Heap} {o:Obj} (hs:Heap.SameBut s.heap.objs.size (s.heap.push o) h'):∀ b x,s.heap.get? b=some x->h'.get? b=some x:=fun b x e =>
 (hs.2 b (Nat.ne_of_lt (Heap.lt_size e))).trans (Heap.get?_push_of_some _ e)
theorem aM.pushed {D:Addr} {aC:List (List Int)} (hS:aM prog w U s.heap D aC) (o:Obj):aM prog w U (s.heap.push o) D aC:=hS.moved fun b x _ e=>Heap.get?_push_of_some _ e
theorem HY {D:Addr} {aC:List (List Int)} {Q:Value->Shared->Prop} (hS:aM prog w U s.heap D aC) (hn:aC.length < 400) (hu:A.units < cLine)
  (h:∀ h' tk fQ,(∀ b o,s.heap.get? b=some o->h'.get? b=some o)->fQ.Nodup->(∀ x,x∈fQ↔x∈aC)->aM prog w U h' s.heap.objs.size fQ->Q (.ref s.heap.objs.size) { s with heap:=h',toks:=tk }):wpAny (model prog w) A (Builtin.Frozenset.copyOf D) Q E s:=by
 have hlt:D < s.heap.objs.size:=by obtain ⟨L,ep,t,ho,_⟩:=hS.len;exact Heap.lt_size ho
 unfold Builtin.Frozenset.copyOf
 refine wpAny_bind (HX hS.ty (wpAny_bind (wC ?_)))
 refine wpAny_bind (m:=Builtin.Frozenset.addrOf _) (wpAny_pure ?_)
 refine wpAny_bind (Lq (U:=U) (s:={ s with heap:=s.heap.push (bA (!jl w)) }) (yw (Heap.get?_push_size _ rfl)) (hS.pushed _) (Nat.ne_of_gt hlt) (by simpa using hn) hu (fun s' R _ q=>wpAny_pure q) fun h' tk fQ hs nd hm hS'=>?_)
 exact wpAny_pure (h h' tk fQ (zy hs) nd (fun x=>by rw [hm x];simp) hS')
theorem iV {D:Addr} {aC:List (List Int)} {Q:Nat->Shared->Prop} (hS:aM prog w U s.heap D aC) (hn:aC.length < 1000) (h:Q aC.length s):wpAny (model prog w) A (Builtin.Frozenset.sizeOf D) Q E s:=by
 obtain ⟨L,ep,t,f,ho,gs,hl,_⟩:=hS.goes hn
 unfold Builtin.Frozenset.sizeOf
 refine wpAny_bind (wpAny_setEntries_of ho rfl (gs.g.fits gs.hl) (wpAny_pure ?_))
 rw [show ((L.map (·.2)).toArray).size=aC.length by simp [hl]]
 exact h
theorem aeV {D r:Addr} {id:String} {aC js:List (List Int)} {Q:Unit->Shared->Prop} (hS:aM prog w U s.heap r aC) (hO:aM prog w U s.heap D js) (hne:r≠D) (hn:aC.length + js.length < 400) (hu:A.units < cLine)
  (h:∀ h' tk fQ,Heap.SameBut r s.heap h'->fQ.Nodup->(∀ x,x∈fQ↔x∈aC∨x∈js)->aM prog w U h' r fQ->Q () { s with heap:=h',toks:=tk }):wpAny (model prog w) A (Builtin.Frozenset.updateFrom id r (.ref D)) Q E s:=by
 obtain ⟨L,ep,t,f,ho,gs,hl,_⟩:=hO.goes (by omega)
 unfold Builtin.Frozenset.updateFrom
 refine wpAny_bind (qe hO.ty ?_)
 simp only [if_true]
 refine wpAny_bind (m:=Builtin.Frozenset.addrOf _) (wpAny_pure ?_)
 unfold Builtin.Frozenset.merge
 refine wpAny_bind (wpAny_setEpoch_of ho rfl (gs.g.fits gs.hl) ?_)
 refine Lq hS hO hne hn hu (fun s' R hs q=>?_) h
 unfold Builtin.Frozenset.unchanged
 have ho':s'.heap.get? D=some (bU L ep t):=(hs.2 D (Ne.symm hne)).trans ho
 refine wpAny_bind (wpAny_setEpoch_of ho' rfl (gs.g.fits gs.hl) ?_)
 simp only [bne_self_eq_false,Bool.false_eq_true,if_false]
 exact wpAny_pure q
theorem Pg {name:String} {f:String->Addr->Value->Sem Value} {l r:Addr} {P:PySem.Fin->Shared->Prop} (hl:s.TypeIs (.ref l) "set") (hr:s.TypeIs (.ref r) "set") (h:wpAny (model prog w) A (f s!"frozenset.{name}" l (.ref r)) (fun v s'=>P (.done (.ret v)) s') E s) :
  wpAny (model prog w) A ((fun args=>do
   let (self,other) <- Builtin.Frozenset.slot1 name args
   let (l,r):=if false then (other,self) else (self,other)
   if !(<- Builtin.Frozenset.isAnySet l <&&> Builtin.Frozenset.isAnySet r) then rule s!"frozenset.{name}.declined";return <- ret .notImplemented
   ret (<- f s!"frozenset.{name}" (<- Builtin.Frozenset.addrOf l) r):Builtin) ⟨[.ref l,.ref r],[]⟩) P E s:=by
 unfold Builtin.Frozenset.slot1
 simp only [slotArgs,List.isEmpty_nil,Bool.not_true,Bool.false_eq_true,if_false,List.length_cons,List.length_nil,bne_self_eq_false]
 refine wpAny_bind (wpAny_bind (wpAny_pure (wpAny_pure ?_)))
 simp only
 refine wpAny_bind (wpAny_bind (qe hl ?_))
 show wpAny (model prog w) A (Builtin.Frozenset.isAnySet (.ref r)) _ _ _
 refine qe hr ?_
 simp only [Bool.not_true,Bool.false_eq_true,if_false]
 refine wpAny_bind (m:=Builtin.Frozenset.addrOf _) (wpAny_pure ?_)
 exact wpAny_bind (wpAny_mono h (fun v s' hv=>wpAny_pure hv) fun _ _ x=>x)
end
end Tb
namespace Tb
open PySem PySem.Spec PySem.SetTable
theorem dM {α:Type} [DecidableEq α]:∀ {l l':List α},l.Nodup->l'.Nodup->(∀ x,x∈l↔x∈l')->l.Perm l'
 | [],l',_,_,h=>by
  cases l' with
  | nil=>exact .refl _
  | cons a t=>exact absurd ((h a).mpr (.head _)) (by simp)
 | a::t,l',nd,nd',h=>by
  obtain ⟨n1,n2⟩:=List.nodup_cons.mp nd
  have ha:a∈l':=(h a).mp (.head _)
  refine (List.Perm.cons a (dM n2 (nd'.erase a) fun x=>?_)).trans (List.perm_cons_erase ha).symm
  rw [nd'.mem_erase_iff]
  constructor
  ·intro hx
   exact ⟨fun z=>n1 (z▸hx),(h x).mp (.tail _ hx)⟩
  ·rintro ⟨hx,hm⟩
   rcases List.mem_cons.mp ((h x).mpr hm) with z|z
   ·exact absurd z hx
   ·exact z
section
variable {prog:Program} {w:World} {U:Addr->List Int->Prop} {A:Around} {E:Value->Shared->Prop} {s:Shared}
theorem aM.nd {D:Addr} {h:Heap} {aC:List (List Int)} (hS:aM prog w U h D aC):aC.Nodup:=by obtain ⟨_,_,_,_,_,_,_,_,_,_,_,z,_⟩:=hS;exact z
theorem ajm {id:String} {l r:Addr} {aC js:List (List Int)} {Q:Value->Shared->Prop} (hl:aM prog w U s.heap l aC) (hr:aM prog w U s.heap r js) (hne:l≠r) (hn:aC.length + js.length < 400) (hu:A.units < cLine)
  (h:∀ h' tk ls,(∀ b o,s.heap.get? b=some o->h'.get? b=some o)->ls.Nodup->(∀ x,x∈ls↔x∈aC∨x∈js)->aM prog w U h' s.heap.objs.size ls->Q (.ref s.heap.objs.size) { s with heap:=h',toks:=tk }) :
  wpAny (model prog w) A (do
   let result <- Builtin.Frozenset.copyOf l
   if Value.ref r != .ref l then holding [result] (Builtin.Frozenset.updateFrom id (<- Builtin.Frozenset.addrOf result) (.ref r))
   return result) Q E s:=by
 have hlt:r < s.heap.objs.size:=by obtain ⟨L,ep,t,ho,_⟩:=hr.len;exact Heap.lt_size ho
 refine wpAny_bind (HY hl (by omega) hu fun h1 tk1 k1 kp nd1 hm1 hS1=>?_)
 have hb:(Value.ref r != Value.ref l)=true:=by rw [bne_iff_ne];intro e;injection e with e;exact hne e.symm
 have hp:k1.length=aC.length:=(dM nd1 hl.nd hm1).length_eq
 have hr1:aM prog w U h1 r js:=hr.moved fun b o _ e=>kp b o e
 simp only [hb,if_true]
 refine wpAny_bind (m:=Builtin.Frozenset.addrOf _) (wpAny_pure ?_)
 refine wpAny_bind (wpAny_holding (aeV (s:={ s with heap:=h1,toks:=tk1 }) hS1 hr1 (Nat.ne_of_gt hlt) (by omega) hu fun h2 tk2 ls hs2 nd2 hm2 hS2=>?_))
 refine wpAny_pure (h h2 tk2 ls (fun b o e=>(hs2.2 b (Nat.ne_of_lt (Heap.lt_size e))).trans (kp b o e)) nd2 (fun x=>?_) hS2)
 rw [hm2,hm1]
theorem ahn {l r:Addr} {aC js:List (List Int)} {Q:Value->Shared->Prop} (hl:aM prog w U s.heap l aC) (hr:aM prog w U s.heap r js) (hne:l≠r) (hn:aC.length + js.length < 400) (hu:A.units + 4 < cLine)
  (h:∀ h' tk ls,(∀ b o,s.heap.get? b=some o->h'.get? b=some o)->ls.Nodup->(∀ x,x∈ls↔x∈aC∨x∈js)->aM prog w U h' s.heap.objs.size ls->Q (.ref s.heap.objs.size) { s with heap:=h',toks:=tk }) :
  wpAny (model prog w) A (binaryOp .BitOr (.ref l) (.ref r)) Q E s:=by
 refine wpAny_binaryOp_same (op:=.BitOr) (T:="set") hl.ty hr.ty F.fills_set_or F.slot_set_or (wpAny_call_entry F.slot_set_or hl.ty Pb ?_ (F.args_set_or_2 _ _))
 refine Pg (name:="__or__") hl.ty hr.ty (ajm hl hr hne hn (by show A.units + 1 < cLine;omega) fun h' tk ls k nd hm hS=>⟨_,rfl,by simp,h h' tk ls k nd hm hS⟩)
theorem Fq {r o D:Addr} {id:String} {aC js:List (List Int)} {pos:Bool} {Q:PUnit->Shared->Prop} {L:List iJ} {ep:Nat} {t:SetTable} {f:Int×Value->List Int}
  (hS:aM prog w U s.heap r []) (hO:aM prog w U s.heap o js) (hD:s.heap.get? D=some (bU L ep t)) (gs:Goes w L t) (hrD:r≠D) (hro:r≠o) (hjs:js.length < 400) (hL:L.length < 400) (hp:((dw w D ep L).toList.map f).Perm aC) (hu:A.units < cLine)
  (he:∀ e∈(dw w D ep L).toList,∃ b,e=(hK prog w (f e),.ref b)/\IsTupleKey (intKind prog w) s.heap (f e) b/\U b (f e))
  (h:∀ h' tk ls,Heap.SameBut r s.heap h'->(∀ x,x∈ls↔x∈aC/\decide (x∈js)=pos)->aM prog w U h' r ls->Q ⟨⟩ { s with heap:=h',toks:=tk }) :
  wpAny (model prog w) A (forIn (dw w D ep L) PUnit.unit fun (e:Int×Value) _=>do
   holding [e.2] (do
    if ((<- setFind o e.2 e.1).isSome == pos)=true then
     let _ <- setAddHashed r e.2 e.1
     pure PUnit.unit)
   Builtin.Frozenset.unchanged id D ep
   pure (ForInStep.yield PUnit.unit)) Q E s:=by
 have osz:(dw w D ep L).toList.length=L.length:=(Array.length_toList).trans (gQ w D ep L)
 obtain ⟨Lr,er,tr,hor,_⟩:=hS.len
 rw [<- Array.forIn_toList]
 refine wB (U:=U) (r:=r) (keep:=fun k=>decide (k∈js) == pos) (f:=f) (s0:=s) (fun e b acc s' R e1 k1 u1 hs' hS' hl' hR'=>?_) _ [] s he (Heap.SameBut.refl r s.heap) hS (by rw [osz];simp;omega) ⟨_,hor,fun xs m z=>by cases z⟩ fun h' tk hs' hS'=>h h' tk _ hs' (fun x=>?_) hS'
 ·have hO':aM prog w U s'.heap o js:=hO.moved fun b o' hb e=>by
   have:b≠r:=by
    rcases hb with rfl|⟨ks,hk⟩
    ·exact Ne.symm hro
    ·exact Pa hk hor (fun xs m z=>by cases z)
   exact (hs'.2 b this).trans e
  have hD':∀ {h2:Heap},Heap.SameBut r s'.heap h2->h2.get? D=some (bU L ep t):=fun hs2=>(hs2.2 D (Ne.symm hrD)).trans ((hs'.2 D (Ne.symm hrD)).trans hD)
  rw [e1]
  simp only
  have last:∀ (h2:Heap) (tk:Nat),Heap.SameBut r s'.heap h2->R (.yield ⟨⟩) { s' with heap:=h2,toks:=tk }->wpAny (model prog w) A (do Builtin.Frozenset.unchanged id D ep;pure (ForInStep.yield PUnit.unit)) R E { s' with heap:=h2,toks:=tk }:=fun h2 tk hs2 q=>by
   unfold Builtin.Frozenset.unchanged
   refine wpAny_bind (wpAny_bind (wpAny_setEpoch_of (s:={ s' with heap:=h2,toks:=tk }) (hD' hs2) rfl (gs.g.fits gs.hl) ?_))
   simp only [bne_self_eq_false,Bool.false_eq_true,if_false]
   exact wpAny_pure (wpAny_pure q)
  refine wpAny_bind (wpAny_holding (wpAny_bind (abK hO' (by omega) k1 hu fun fr hfr=>?_)))
  rw [hfr]
  by_cases c:(decide (f e∈js) == pos)=true
  ·rw [if_pos c]
   refine wpAny_bind (ni hS' (by omega) k1 u1 hu fun h2 added hs2 hS2=>wpAny_pure (last h2 s'.toks hs2 (hR' h2 s'.toks hs2 ?_)))
   unfold sW
   rw [if_pos c];exact hS2
  ·rw [if_neg c]
   have:=last s'.heap s'.toks (Heap.SameBut.refl r s'.heap) (hR' s'.heap s'.toks (Heap.SameBut.refl r s'.heap) (by unfold sW;rw [if_neg c];exact hS'))
   exact wpAny_pure this
 ·rw [uc,hp.mem_iff]
  simp
theorem Ia {α:Type} {c:Bool} {x y:Sem α} {Q:α->Shared->Prop} (hc:c=false) (hy:wpAny (model prog w) A y Q E s):wpAny (model prog w) A (if c=true then x else y) Q E s:=by rw [hc];exact hy
theorem aho {id:String} {l r:Addr} {aC js:List (List Int)} {Q:Value->Shared->Prop} (hl:aM prog w U s.heap l aC) (hr:aM prog w U s.heap r js) (hne:l≠r) (hk:aC.length < 400) (hj:js.length < 400) (hu:A.units < cLine)
  (h:∀ h' tk ls,(∀ b o,s.heap.get? b=some o->h'.get? b=some o)->(∀ x,x∈ls↔x∈aC/\x∈js)->aM prog w U h' s.heap.objs.size ls->Q (.ref s.heap.objs.size) { s with heap:=h',toks:=tk }) :
  wpAny (model prog w) A (Builtin.Frozenset.intersection id l (.ref r)) Q E s:=by
 have lt:∀ {D:Addr} {k:List (List Int)},aM prog w U s.heap D k->D < s.heap.objs.size:=fun hS=>by obtain ⟨L,ep,t,ho,_⟩:=hS.len;exact Heap.lt_size ho
 unfold Builtin.Frozenset.intersection
 refine Ia (by rw [beq_eq_false_iff_ne];intro e;injection e with e;exact hne e.symm) ?_
 refine wpAny_bind (HX hl.ty (wpAny_bind (wC ?_)))
 refine wpAny_bind (m:=Builtin.Frozenset.addrOf _) (wpAny_pure ?_)
 have hS0:aM prog w U (s.heap.push (bA (!jl w))) s.heap.objs.size []:=yw (Heap.get?_push_size _ rfl)
 have hl1:=hl.pushed (bA (!jl w))
 have hr1:=hr.pushed (bA (!jl w))
 refine wpAny_bind (wpAny_holding ?_)
 refine wpAny_bind (qe (s:={ s with heap:=s.heap.push (bA (!jl w)) }) hr1.ty ?_)
 simp only [if_true]
 refine wpAny_bind (m:=Builtin.Frozenset.addrOf _) (wpAny_pure ?_)
 refine wpAny_bind (iV (s:={ s with heap:=s.heap.push (bA (!jl w)) }) hr1 (by omega) (wpAny_bind (iV (s:={ s with heap:=s.heap.push (bA (!jl w)) }) hl1 (by omega) ?_)))
 have go:∀ {d o:Addr} {ds os:List (List Int)},aM prog w U s.heap d ds->aM prog w U s.heap o os->ds.length < 400->os.length < 400->(∀ x,(x∈ds/\x∈os)↔(x∈aC/\x∈js)) ->
   wpAny (model prog w) A (do
    let was <- setEpoch d
    for (h,x) in <- setWalkUnseen d [o,s.heap.objs.size] (some s.heap.objs.size) do
     holding [x] do
      if (<- setFind o x h).isSome then
       let _ <- setAddHashed s.heap.objs.size x h
     Builtin.Frozenset.unchanged id d was) (fun _ s'=>wpAny (model prog w) A (pure (Value.ref s.heap.objs.size)) Q E s') E { s with heap:=s.heap.push (bA (!jl w)) }:=by
  intro d o ds os hd ho hdl hol hm
  obtain ⟨L,ep,t,f,hoD,gs,hlen,hp,he⟩:=(hd.pushed (bA (!jl w))).goes (by omega)
  refine wpAny_bind (wpAny_setEpoch_of (s:={ s with heap:=s.heap.push (bA (!jl w)) }) hoD rfl (gs.g.fits gs.hl) ?_)
  refine wpAny_bind (qd (s:={ s with heap:=s.heap.push (bA (!jl w)) }) hoD gs ?_)
  have fl:=Fq (prog:=prog) (w:=w) (U:=U) (A:=A) (E:=E) (s:={ s with heap:=s.heap.push (bA (!jl w)) }) (id:=id) (pos:=true) (Q:=fun _ s'=>wpAny (model prog w) A (pure ()) (fun _ s''=>wpAny (model prog w) A (pure (Value.ref s.heap.objs.size)) Q E s'') E s') hS0 (ho.pushed (bA (!jl w))) hoD gs (Nat.ne_of_gt (lt hd)) (Nat.ne_of_gt (lt ho)) hol (by omega) hp hu he fun h' tk ls hs hmm hS' =>
   wpAny_pure (wpAny_pure (h h' tk ls (zy hs) (fun x=>by rw [hmm x,<- hm x];simp) hS'))
  simp only [beq_true] at fl
  exact wpAny_bind fl
 by_cases c:js.length > aC.length
 ·rw [if_pos c]
  exact go hl hr hk hj fun x=>Iff.rfl
 ·rw [if_neg c]
  exact go hr hl hj hk fun x=>⟨fun z=>⟨z.2,z.1⟩,fun z=>⟨z.2,z.1⟩⟩
theorem aeW {l r:Addr} {aC js:List (List Int)} {Q:Value->Shared->Prop} (hl:aM prog w U s.heap l aC) (hr:aM prog w U s.heap r js) (hne:l≠r) (hk:aC.length < 400) (hj:js.length < 400) (hu:A.units + 4 < cLine)
  (h:∀ h' tk ls,(∀ b o,s.heap.get? b=some o->h'.get? b=some o)->(∀ x,x∈ls↔x∈aC/\x∈js)->aM prog w U h' s.heap.objs.size ls->Q (.ref s.heap.objs.size) { s with heap:=h',toks:=tk }) :
  wpAny (model prog w) A (binaryOp .BitAnd (.ref l) (.ref r)) Q E s:=by
 refine wpAny_binaryOp_same (op:=.BitAnd) (T:="set") hl.ty hr.ty F.fills_set_and F.slot_set_and (wpAny_call_entry F.slot_set_and hl.ty Ls ?_ (F.args_set_and_2 _ _))
 exact Pg (name:="__and__") hl.ty hr.ty (aho hl hr hne hk hj (by show A.units + 1 < cLine;omega) fun h' tk ls k hm hS=>⟨_,rfl,by simp,h h' tk ls k hm hS⟩)
end
end Tb
namespace Tb
open PySem PySem.Spec PySem.SetTable
section
variable {prog:Program} {w:World} {U:Addr->List Int->Prop} {A:Around} {E:Value->Shared->Prop} {s:Shared}
theorem abN {D:Addr} {aC:List (List Int)} {Q:Unit->Shared->Prop} (hS:aM prog w U s.heap D aC) (hn:aC.length < 1000) (h:Q () s):wpAny (model prog w) A (setTidy D) Q E s:=by
 obtain ⟨L,ep,t,f,ho,g,room,_⟩:=hS
 have h7:=g.m7
 unfold setTidy
 refine wpAny_bind (wpAny_setState_of ho rfl (g.fits (by omega)) ?_)
 refine Ia (by unfold tooManyDummies;rw [g.nd];simp) (wpAny_pure h)
theorem abO {id:String} {r o:Addr} {aC:List (List Int)} {Q:Unit->Shared->Prop} (hr:aM prog w U s.heap r aC) (ho:aM prog w U s.heap o []) (hne:r≠o) (hk:aC.length < 400) (h:Q () s):wpAny (model prog w) A (Builtin.Frozenset.differenceUpdate id r (.ref o)) Q E s:=by
 obtain ⟨L,ep,t,f,hoD,gs,hlen,hp,he⟩:=ho.goes (by simp)
 have hL:L=[]:=List.length_eq_zero_iff.mp (by simpa using hlen)
 subst hL
 unfold Builtin.Frozenset.differenceUpdate
 refine Ia (by rw [beq_eq_false_iff_ne];intro e;injection e with e;exact hne e.symm) ?_
 refine wpAny_bind (qe ho.ty ?_)
 simp only [if_true]
 refine wpAny_bind (m:=Builtin.Frozenset.addrOf _) (wpAny_pure ?_)
 refine wpAny_bind (iV ho (by simp) (wpAny_bind (iV hr (by omega) ?_)))
 have hc:¬ ([]:List (List Int)).length / 8 > aC.length:=by simp
 rw [if_neg hc]
 refine wpAny_bind (wpAny_setEpoch_of hoD rfl (gs.g.fits gs.hl) ?_)
 refine wpAny_bind (wpAny_holding (wpAny_bind (qd hoD gs ?_)))
 have h0:(dw w o ep []).toList=[]:=by
  have:=gQ w o ep []
  exact List.length_eq_zero_iff.mp (by rw [Array.length_toList];exact this)
 rw [<- Array.forIn_toList,h0,List.forIn_nil]
 refine wpAny_bind (wpAny_pure (wpAny_pure ?_))
 exact abN hr (by omega) h
theorem ahp {id:String} {l r:Addr} {aC js:List (List Int)} {Q:Value->Shared->Prop} (hl:aM prog w U s.heap l aC) (hr:aM prog w U s.heap r js) (hk:aC.length < 400) (hj:js.length < 400) (hc:js=[]∨¬ aC.length / 4 > js.length) (hu:A.units < cLine)
  (h:∀ h' tk ls,(∀ b o,s.heap.get? b=some o->h'.get? b=some o)->(∀ x,x∈ls↔x∈aC/\x∉js)->aM prog w U h' s.heap.objs.size ls->Q (.ref s.heap.objs.size) { s with heap:=h',toks:=tk }) :
  wpAny (model prog w) A (Builtin.Frozenset.difference id l (.ref r)) Q E s:=by
 have lt:∀ {D:Addr} {k:List (List Int)},aM prog w U s.heap D k->D < s.heap.objs.size:=fun hS=>by obtain ⟨L,ep,t,ho,_⟩:=hS.len;exact Heap.lt_size ho
 unfold Builtin.Frozenset.difference
 refine wpAny_bind (qe hr.ty ?_)
 simp only [Bool.not_true,Bool.false_eq_true,if_false,Bool.false_and,if_true]
 refine wpAny_bind (m:=Builtin.Frozenset.addrOf _) (wpAny_pure ?_)
 refine wpAny_bind (iV hr (by omega) (wpAny_bind (iV hl (by omega) ?_)))
 by_cases c:aC.length / 4 > js.length
 ·rw [if_pos c]
  have hz:js=[]:=hc.elim (fun z=>z) fun z=>absurd c z
  subst hz
  refine wpAny_bind (wpAny_rule ?_)
  refine wpAny_bind (HY hl (by omega) hu fun h1 tk1 k1 kp nd1 hm1 hS1=>?_)
  have hp:k1.length=aC.length:=(dM nd1 hl.nd hm1).length_eq
  refine wpAny_bind (m:=Builtin.Frozenset.addrOf _) (wpAny_pure ?_)
  refine wpAny_bind (wpAny_holding (abO (s:={ s with heap:=h1,toks:=tk1 }) hS1 (hr.moved fun b o _ e=>kp b o e) (Nat.ne_of_gt (lt hr)) (by omega) ?_))
  exact wpAny_pure (h h1 tk1 k1 kp (fun x=>by rw [hm1 x];simp) hS1)
 ·rw [if_neg c]
  refine wpAny_bind (HX hl.ty (wpAny_bind (wC ?_)))
  refine wpAny_bind (m:=Builtin.Frozenset.addrOf _) (wpAny_pure ?_)
  obtain ⟨L,ep,t,f,hoD,gs,hlen,hp,he⟩:=(hl.pushed (bA (!jl w))).goes (by omega)
  refine wpAny_bind (wpAny_setEpoch_of (s:={ s with heap:=s.heap.push (bA (!jl w)) }) hoD rfl (gs.g.fits gs.hl) ?_)
  refine wpAny_bind (wpAny_holding (wpAny_bind (qd (s:={ s with heap:=s.heap.push (bA (!jl w)) }) hoD gs ?_)))
  have fl:=Fq (prog:=prog) (w:=w) (U:=U) (A:=A) (E:=E) (s:={ s with heap:=s.heap.push (bA (!jl w)) }) (id:=id) (pos:=false) (Q:=fun _ s'=>wpAny (model prog w) A (pure ()) (fun _ s''=>wpAny (model prog w) A (pure (Value.ref s.heap.objs.size)) Q E s'') E s') (yw (Heap.get?_push_size _ rfl)) (hr.pushed (bA (!jl w))) hoD gs (Nat.ne_of_gt (lt hl)) (Nat.ne_of_gt (lt hr)) hj (by omega) hp hu he fun h' tk ls hs hmm hS' =>
   wpAny_pure (wpAny_pure (h h' tk ls (zy hs) (fun x=>by rw [hmm x];simp) hS'))
  simp only [beq_false] at fl
  exact wpAny_bind fl
end
end Tb
namespace So
open PySem PySem.W PyProof.Rows
noncomputable def Sp (lt:Nat->Nat->Bool) (n:Nat) {α:Type}:KasT α->(α->Prop)->Prop
 | .ret a,Q=>Q a
 | .ask i j k,Q=>i < n/\j < n/\Sp lt n (k (lt i j)) Q
section
variable {lt:Nat->Nat->Bool} {n:Nat} {α β:Type}
structure Ar (n:Nat) (p:Array Nat):Prop where
 sz:p.size=n
 lt:∀ i,p.getD i 0 < n
 pm:p.toList.Perm (List.range n)
noncomputable def Up (lt:Nat->Nat->Bool) (p:Array Nat) (m:Nat):Prop:=∀ i j,i < j->j < m->lt (p.getD j 0) (p.getD i 0)=false
noncomputable def Dn (lt:Nat->Nat->Bool) (p:Array Nat) (m:Nat):Prop:=∀ i j,i < j->j < m->lt (p.getD i 0) (p.getD j 0)=false
structure Ord (lt:Nat->Nat->Bool):Prop where
 tr:∀ a b c,lt b a=false->lt c b=false->lt c a=false
 as:∀ a b,lt a b=true->lt b a=false
theorem irr (O:Ord lt) (a:Nat):lt a a=false:=by
 cases h:lt a a with
 | false=>rfl
 | true=>have:=O.as a a h;rw [h] at this;cases this
end
end So
namespace So
open PySem PySem.W PyProof.Rows PySem.Calls
noncomputable def vP:List Int->List Int->Bool
 | [],[]=>false
 | [],_::_=>true
 | _::_,[]=>false
 | a::as,b::bs=>if a=b then vP as bs else decide (a < b)
theorem Ph:∀ a b:List Int,vP a b=true->vP b a=false
 | [],[],h=>by cases h
 | [],_::_,h=>rfl
 | _::_,[],h=>by cases h
 | a::as,b::bs,h=>by
  unfold vP at h ⊢
  by_cases c:a=b
  ·subst c;simp only [if_true] at h ⊢;exact Ph as bs h
  ·rw [if_neg c] at h
   rw [if_neg (Ne.symm c)]
   have:=of_decide_eq_true h
   exact decide_eq_false (by omega)
theorem Pj:∀ a b c:List Int,vP b a=false->vP c b=false->vP c a=false
 | [],[],[],_,_=>rfl
 | [],[],_::_,_,_=>rfl
 | [],_::_,[],_,h=>by cases h
 | [],_::_,_::_,_,_=>rfl
 | _::_,[],_,h,_=>by cases h
 | a::as,b::bs,[],_,h=>by cases h
 | a::as,b::bs,c::cs,h1,h2=>by
  unfold vP at h1 h2 ⊢
  by_cases e1:b=a
  ·subst e1
   simp only [if_true] at h1
   by_cases e2:c=b
   ·subst e2;simp only [if_true] at h2 ⊢;exact Pj as bs cs h1 h2
   ·rw [if_neg e2] at h2 ⊢;exact h2
  ·rw [if_neg e1] at h1
   have g1:=of_decide_eq_false h1
   by_cases e2:c=b
   ·subst e2;rw [if_neg e1];exact h1
   ·rw [if_neg e2] at h2
    have g2:=of_decide_eq_false h2
    rw [if_neg (by omega)]
    exact decide_eq_false (by omega)
theorem Yd:∀ a b:List Int,vP a b=false->vP b a=false->a=b
 | [],[],_,_=>rfl
 | [],_::_,h,_=>by cases h
 | _::_,[],_,h=>by cases h
 | a::as,b::bs,h1,h2=>by
  unfold vP at h1 h2
  by_cases c:a=b
  ·subst c;simp only [if_true] at h1 h2;rw [Yd as bs h1 h2]
  ·rw [if_neg c] at h1;rw [if_neg (Ne.symm c)] at h2
   have:=of_decide_eq_false h1;have:=of_decide_eq_false h2;omega
theorem aeX (aC:List (List Int)):Ord fun i j=>vP (aC.getD i []) (aC.getD j []):=⟨fun a b c h1 h2=>Pj _ _ _ h1 h2,fun a b h=>Ph _ _ h⟩
end So
namespace So
open PySem PySem.W PyProof.Rows PySem.Calls
section
variable {prog:Program} {w:World} {A:Around} {E:Value->Shared->Prop} {s:Shared}
noncomputable def ahq (prog:Program) (w:World) (A:Around) (κ:SortKind) (vs:List Value) (lt:Nat->Nat->Bool) (s:Shared):Prop :=
 ∀ i j (C:Bool->Shared->Prop) (E:Value->Shared->Prop),i < vs.length->j < vs.length->C (lt i j) s->wpAny (model prog w) A (keyLt' κ (vs.getD i Value.none) (vs.getD j Value.none)) C E s
noncomputable def Pk (lt:Nat->Nat->Bool) (vs:List Value) (st:SortSt):Prop:=∃ p:Array Nat,Ar vs.length p/\Up lt p vs.length/\(arrOf st).map (·.2)=List.toArray (p.toList.map fun i=>vs.getD i Value.none)/\failedOf st=none
theorem Ye {b:Bool} {Q:Bool->Shared->Prop}:∀ {ks js:List Int} {xs ys:List Value} (i:Nat),ItemsAre (intKind prog w) ks xs->ItemsAre (intKind prog w) js ys->Q (vP ks js) s ->
  KatLex prog w A b (decide (xs.length < ys.length)) Q (xs.zip ys) i s:=by
 have gen:∀ (d:Bool) {ks js:List Int} {xs ys:List Value} (i:Nat),ItemsAre (intKind prog w) ks xs->ItemsAre (intKind prog w) js ys->d=decide (xs.length < ys.length)->Q (vP ks js) s->KatLex prog w A b d Q (xs.zip ys) i s:=by
  intro d ks
  induction ks with
  | nil =>
   intro js xs ys i hx hy hd hq
   cases hx
   cases hy with
   | nil=>subst hd;exact kat_nil hq
   | cons h1 h2=>subst hd;exact kat_nil hq
  | cons k ks ih =>
   intro js xs ys i hx hy hd hq
   cases hx with
   | cons h1 h2 =>
    cases hy with
    | nil=>subst hd;exact kat_nil hq
    | @cons j v js vs h3 h4 =>
     obtain ⟨t,rfl⟩:=Value.isInt_shape h1
     obtain ⟨u,rfl⟩:=Value.isInt_shape h3
     refine kat_cons (wpAny_eqBool_int ?_)
     by_cases e:k=j
     ·subst e
      rw [show (k == k)=true from by simp]
      refine kat_yes (ih (i + 1) h2 h4 (by rw [hd];simp) ?_)
      unfold vP at hq;rw [if_pos rfl] at hq;exact hq
     ·rw [show (k == j)=false from by simp [e]]
      unfold vP at hq;rw [if_neg e] at hq
      refine kat_no ?_
      cases (b && i == 0) with
      | true=>exact oneLt_int hq
      | false=>exact kat_one _ _ (wpAny_lt_int hq)
 intro ks js xs ys i hx hy hq
 exact gen _ i hx hy rfl hq
theorem abP {a b:Addr} {ks js:List Int} {f:Bool} {Q:Bool->Shared->Prop} (ha:IsTupleKey (intKind prog w) s.heap ks a) (hb:IsTupleKey (intKind prog w) s.heap js b) (hq:Q (vP ks js) s) :
  wpAny (model prog w) A (keyLt' (tuples' f) (.ref a) (.ref b)) Q E s:=by
 obtain ⟨o,xs,n,h1,h2,h3,h4⟩:=ha
 obtain ⟨o',ys,n',h1',h2',h3',h4'⟩:=hb
 refine kat_lt h1 h3 h1' h3' ?_
 have:=Ye (prog:=prog) (w:=w) (A:=A) (b:=f) 0 h4 h4' hq
 simpa using this
noncomputable def KeysAre (prog:Program) (w:World) (h:Heap) (vs:List Value) (aC:List (List Int)):Prop :=
 aC.length=vs.length/\∀ (i:Nat) v,vs[i]?=some v->∃ b,v=.ref b/\IsTupleKey (intKind prog w) h (aC.getD i []) b
theorem KeysAre.moved {h h':Heap} {vs:List Value} {aC:List (List Int)} (k:KeysAre prog w h vs aC) (hm:∀ b o,h.get? b=some o->o.cls=.type "tuple"->h'.get? b=some o):KeysAre prog w h' vs aC :=
 ⟨k.1,fun i v hv=>let ⟨b,e,o,its,m,q1,q2,q3,q4⟩:=k.2 i v hv;⟨b,e,o,its,m,hm _ _ q1 q2,q2,q3,q4⟩⟩
theorem KeysAre.asks {f:Bool} {vs:List Value} {aC:List (List Int)} (k:KeysAre prog w s.heap vs aC):ahq prog w A (tuples' f) vs (fun i j=>vP (aC.getD i []) (aC.getD j [])) s:=by
 intro i j C E hi hj hC
 obtain ⟨b,e,hb⟩:=k.2 i vs[i] (List.getElem?_eq_getElem hi)
 obtain ⟨b',e',hb'⟩:=k.2 j vs[j] (List.getElem?_eq_getElem hj)
 rw [show vs.getD i Value.none=.ref b by simp [hi,e],show vs.getD j Value.none=.ref b' by simp [hj,e']]
 exact abP hb hb' hC
theorem KeysAre.tups {h:Heap}:∀ {vs:List Value} {aC:List (List Int)},KeysAre prog w h vs aC->(∀ ks∈aC,ks≠[])->∃ fs:List Value,KatTups h vs fs/\fs.length=vs.length/\∀ v∈fs,∃ i t,v=.int i t
 | [],aC,k,hn=>⟨[],.nil,rfl,fun v hv=>by cases hv⟩
 | v::vs,[],k,hn=>by cases k.1
 | v::vs,ks::aC,k,hn=>by
  obtain ⟨fs,t,l,e⟩:=KeysAre.tups (vs:=vs) (aC:=aC) ⟨by have:=k.1;simpa using this,fun i u hu=>by have:=k.2 (i + 1) u (by simpa using hu);simpa using this⟩ fun x hx=>hn x (.tail _ hx)
  obtain ⟨b,rfl,o,its,m,q1,q2,q3,q4⟩:=k.2 0 v (by simp)
  have hne:=hn ks (.head _)
  simp at q4
  generalize hits:its.toList=L at q4
  cases q4 with
  | nil=>exact absurd rfl hne
  | @cons i v' ks' vs' h1 h2 =>
   obtain ⟨tk,rfl⟩:=Value.isInt_shape h1
   have h0:its[0]?=some (Value.int i tk):=by rw [<- Array.getElem?_toList,hits];rfl
   refine ⟨.int i tk::fs,.cons q1 q2 q3 h0 t,by simp [l],fun u hu=>?_⟩
   rcases List.mem_cons.mp hu with rfl|hu
   ·exact ⟨_,_,rfl⟩
   ·exact e u hu
noncomputable def Ri (a b:List Int):Prop:=vP b a=false
noncomputable def Pn (x:List Int):List (List Int)->List (List Int)
 | []=>[x]
 | y::ys=>if vP y x=true then y::Pn x ys else x::y::ys
noncomputable def cu (l:List (List Int)):List (List Int):=l.foldr Pn []
theorem wD (x:List Int):∀ l,(Pn x l).Perm (x::l)
 | []=>.refl _
 | y::ys=>by
  unfold Pn
  split
  ·exact ((wD x ys).cons y).trans (List.Perm.swap x y ys)
  ·exact .refl _
theorem cQ:∀ l,(cu l).Perm l
 | []=>.refl _
 | x::l=>(wD x (cu l)).trans ((cQ l).cons x)
theorem Rj (x:List Int):∀ l,l.Pairwise Ri->(Pn x l).Pairwise Ri
 | [],_=>by simp [Pn]
 | y::ys,h=>by
  obtain ⟨h1,h2⟩:=List.pairwise_cons.mp h
  unfold Pn
  split
  ·rename_i c
   refine List.pairwise_cons.mpr ⟨fun z hz=>?_,Rj x ys h2⟩
   rcases List.mem_cons.mp ((wD x ys).mem_iff.mp hz) with rfl|hz
   ·exact Ph _ _ c
   ·exact h1 z hz
  ·rename_i c
   have c':vP y x=false:=by simpa using c
   refine List.pairwise_cons.mpr ⟨fun z hz=>?_,h⟩
   rcases List.mem_cons.mp hz with rfl|hz
   ·exact c'
   ·exact Pj _ _ _ c' (h1 z hz)
theorem mC:∀ l,(cu l).Pairwise Ri
 | []=>.nil
 | x::l=>Rj x _ (mC l)
theorem wF:∀ {l l':List (List Int)},l.Perm l'->l.Pairwise Ri->l'.Pairwise Ri->l=l'
 | [],l',p,_,_=>(List.nil_perm.mp p).symm
 | x::l,[],p,_,_=>by cases List.perm_nil.mp p
 | x::l,y::l',p,h,h'=>by
  obtain ⟨h1,h2⟩:=List.pairwise_cons.mp h
  obtain ⟨h1',h2'⟩:=List.pairwise_cons.mp h'
  have e:x=y:=by
   have m1:=List.mem_cons.mp (p.mem_iff.mp (List.mem_cons_self (a:=x) (l:=l)))
   have m2:=List.mem_cons.mp (p.mem_iff.mpr (List.mem_cons_self (a:=y) (l:=l')))
   rcases m1 with m1|m1
   ·exact m1
   ·rcases m2 with m2|m2
    ·exact m2.symm
    ·exact Yd _ _ (h1' x m1) (h1 y m2)
  subst e
  rw [wF (p.cons_inv) h2 h2']
theorem zA {l l':List (List Int)} (p:l.Perm l') (h:l.Pairwise Ri):l=cu l':=wF (p.trans (cQ l').symm) h (mC l')
noncomputable def Lx (aC:List (List Int)) (p:Array Nat):Prop:=p.toList.Perm (List.range aC.length)/\(p.toList.map fun i=>aC.getD i [])=cu aC
theorem Yg {aC:List (List Int)} {p:Array Nat} (a:Ar aC.length p) (u:Up (fun i j=>vP (aC.getD i []) (aC.getD j [])) p aC.length):Lx aC p:=by
 refine ⟨a.pm,zA ?_ ?_⟩
 ·have:=a.pm.map fun i=>aC.getD i []
  refine this.trans (List.Perm.of_eq ?_)
  apply List.ext_getElem
  ·simp
  ·intro i h1 h2;simp at h1;simp [h1]
 ·rw [List.pairwise_iff_getElem]
  intro i j hi hj hij
  simp only [List.length_map,Array.length_toList] at hi hj
  have:=u i j hij (by rw [<- a.sz];exact hj)
  simp only [List.getElem_map,Array.getElem_toList]
  unfold Ri
  rw [Array.getD_eq_getD_getElem?,Array.getD_eq_getD_getElem?,Array.getElem?_eq_getElem hi,Array.getElem?_eq_getElem hj] at this
  exact this
theorem Ly {aC:List (List Int)} (h:aC.length < 2):Lx aC (List.toArray (List.range aC.length)):=by
 refine ⟨.refl _,zA ?_ ?_⟩
 ·refine List.Perm.of_eq ?_
  apply List.ext_getElem
  ·simp
  ·intro i h1 h2;simp at h1;simp [h1]
 ·rw [List.pairwise_iff_getElem]
  intro i j hi hj hij
  simp at hi hj;omega
end
end So
namespace Sb
open PySem PySem.W PyProof.Rows
section
variable {prog:Program} {w:World} {A:Around} {E:Value->Shared->Prop} {s:Shared} {a₀ x0:Array Keyed} {κ:SortKind} {rk:Keyed->Int} {lo:Nat} {p0:Array (Nat×Nat×Nat)}
noncomputable def Ax (prog:Program) (w:World) (A:Around) (s:Shared) (κ:SortKind) (rk:Keyed->Int) (a₀:Array Keyed):Prop :=
 ∀ x y (C:Bool->Shared->Prop) (E:Value->Shared->Prop),x∈a₀.toList->y∈a₀.toList->C (decide (rk x < rk y)) s->wpAny (model prog w) A (keyLt' κ x.1 y.1) C E s
noncomputable def R (rk:Keyed->Int) (xs:Array Keyed) (i:Nat):Int:=match xs[i]? with|some p=>rk p|none=>0
theorem iW {xs ys:Array Keyed} {i j:Nat} (h:xs[i]?=ys[j]?):R rk xs i=R rk ys j:=by unfold R;rw [h]
theorem gO {xs:Array Keyed} {i:Nat} {x:Keyed} (h:xs[i]?=some x):R rk xs i=rk x:=by unfold R;rw [h]
noncomputable def Up (rk:Keyed->Int) (xs:Array Keyed) (lo n:Nat):Prop:=∀ i j,i<=j->j < n->R rk xs (lo + i)<=R rk xs (lo + j)
noncomputable def Dn (rk:Keyed->Int) (xs:Array Keyed) (lo n:Nat):Prop:=∀ i j,i<=j->j < n->R rk xs (lo + j)<=R rk xs (lo + i)
structure SB (κ:SortKind) (a₀ x0:Array Keyed) (p0:Array (Nat×Nat×Nat)) (lo:Nat) (st:SortSt):Prop where
 perm:(arrOf st).Perm a₀
 kind:kindOf st=κ
 failed:failedOf st=none
 pend:pendingOf st=p0
 keep:∀ k,k < lo->(arrOf st)[k]?=x0[k]?
theorem SB.size {st:SortSt} (h:SB κ a₀ x0 p0 lo st):(arrOf st).size=a₀.size:=h.perm.size_eq
theorem SB.setArr {st:SortSt} (h:SB κ a₀ x0 p0 lo st) {xs:Array Keyed} (hp:xs.Perm (arrOf st)) (hk:∀ k,k < lo->xs[k]?=(arrOf st)[k]?):SB κ a₀ x0 p0 lo (setArr st xs) :=
 ⟨hp.trans h.perm,h.kind,h.failed,h.pend,fun k hl=>(hk k hl).trans (h.keep k hl)⟩
theorem Yh {xs:Array Keyed} (hp:xs.Perm a₀) {i:Nat} {x:Keyed} (h:xs[i]?=some x):x∈a₀.toList:=by
 obtain ⟨hi,rfl⟩:=Array.getElem?_eq_some_iff.mp h
 exact (Array.perm_iff_toList_perm.mp hp).mem_iff.mp (by simp)
theorem bV {st:SortSt} {xs:Array Keyed} {i:Nat} {x:Keyed} {Q:Keyed->SortSt->Prop} (h:xs[i]?=some x) (hq:Q x st):wpS (model prog w) A E s (elem' xs i) Q st:=by
 rw [elem'_eq,h];exact wpS_pure hq
theorem zB {st:SortSt} {x y:Keyed} {Q:Option Bool->SortSt->Prop} (ha:Ax prog w A s κ rk a₀) (hk:kindOf st=κ) (hx:x∈a₀.toList) (hy:y∈a₀.toList) (h:Q (some (decide (rk x < rk y))) st) :
  wpS (model prog w) A E s (lt' x y) Q st:=by
 rw [lt'_eq]
 refine wpS_bind (wpS_get ?_)
 rw [hk]
 refine wpS_bind (wpS_lift (wpAny_attempt (ha x y _ _ hx hy ⟨rfl,?_⟩)))
 exact wpS_pure h
theorem vh {st:SortSt} {i j:Nat} {Q:Option Bool->SortSt->Prop} (ha:Ax prog w A s κ rk a₀) (hB:SB κ a₀ x0 p0 lo st) (hi:i < a₀.size) (hj:j < a₀.size)
  (h:Q (some (decide (R rk (arrOf st) i < R rk (arrOf st) j))) st):wpS (model prog w) A E s (ltAt' i j) Q st:=by
 have e1:(arrOf st)[i]?=some ((arrOf st)[i]'(by rw [hB.size];exact hi)):=getElem?_pos _ i _
 have e2:(arrOf st)[j]?=some ((arrOf st)[j]'(by rw [hB.size];exact hj)):=getElem?_pos _ j _
 rw [gO e1,gO e2] at h
 rw [ltAt'_eq]
 refine wpS_bind (wpS_get ?_)
 exact wpS_bind (bV e1 (wpS_bind (bV e2 (zB ha hB.kind (Yh hB.perm e1) (Yh hB.perm e2) h))))
theorem yx {st:SortSt} {i j:Nat} {Q:Unit->SortSt->Prop} (h:Q () (setArr st (mirror (arrOf st) i j ((j - i) / 2)))) :
  wpS (model prog w) A E s (reverseSlice' i j) Q st:=by
 rw [reverseSlice'_eq];exact wpS_modify h
theorem zE {xs:Array Keyed} {i j:Nat} (hj:j<=xs.size) (k:Nat) :
  R rk (mirror xs i j ((j - i) / 2)) k=if i<=k/\k < j then R rk xs (i + j - 1 - k) else R rk xs k:=by
 have e:=getElem?_mirror_all (i:=i) hj k
 by_cases h1:i<=k/\k < j
 ·rw [if_pos h1] at e ⊢;exact iW e
 ·rw [if_neg h1] at e ⊢;exact iW e
theorem fu {xs:Array Keyed} {i j:Nat} (hj:j<=xs.size) (heq:∀ k,i<=k->k < j->R rk xs k=R rk xs (j - 1)) (k:Nat) :
  R rk (mirror xs i j ((j - i) / 2)) k=R rk xs k:=by
 rw [zE hj]
 split
 ·rw [heq _ (by omega) (by omega),heq k (by omega) (by omega)]
 ·rfl
theorem SB.rev {st:SortSt} (h:SB κ a₀ x0 p0 lo st) {i j:Nat} (hi:lo<=i) (hj:j<=a₀.size):SB κ a₀ x0 p0 lo (PyProof.Rows.setArr st (mirror (arrOf st) i j ((j - i) / 2))) :=
 h.setArr (mirror_perm _ _ _ _) fun k hk=>by rw [getElem?_mirror_all (by rw [h.size];exact hj),if_neg (by omega)]
noncomputable def Yi (lo a nrem:Nat):StateT SortSt Sem AscSt :=
 forIn [a:nrem] ((none,a):AscSt) fun _ __s=>do
  let __x <- ltAt' (lo + __s.snd) (lo + __s.snd - 1)
  match __x with
  | some smaller=>if smaller=true then pure (ForInStep.done (none,__s.snd)) else pure (ForInStep.yield (none,__s.snd + 1))
  | _=>pure (ForInStep.done (some none,__s.snd))
noncomputable def Lz (lo n nrem:Nat):StateT SortSt Sem (Option Nat):=do
 reverseSlice' lo (lo + n)
 let __s <- Yi lo n nrem
 match __s.fst with
 | some r=>pure r
 | none=>pure (some __s.snd)
noncomputable def Rk (lo n nrem:Nat):StateT SortSt Sem DescSt :=
 forIn [n:nrem] ((none,n,0):DescSt) fun _ __s=>do
  let __x <- ltAt' (lo + __s.snd.fst) (lo + __s.snd.fst - 1)
  match __x with
  | some smaller =>
   if smaller=true then
    if __s.snd.snd > 0 then do
     reverseSlice' (lo + __s.snd.fst - (__s.snd.snd + 1)) (lo + __s.snd.fst)
     pure (ForInStep.yield (none,__s.snd.fst + 1,0))
    else pure (ForInStep.yield (none,__s.snd.fst + 1,0))
   else do
    let __x <- ltAt' (lo + __s.snd.fst - 1) (lo + __s.snd.fst)
    match __x with
    | some larger =>
     if larger=true then pure (ForInStep.done (none,__s.snd.fst,__s.snd.snd))
     else pure (ForInStep.yield (none,__s.snd.fst + 1,__s.snd.snd + 1))
    | _=>pure (ForInStep.done (some none,__s.snd.fst,__s.snd.snd))
  | _=>pure (ForInStep.done (some none,__s.snd.fst,__s.snd.snd))
noncomputable def LK (lo n nrem:Nat):StateT SortSt Sem (Option Nat):=do
 liftM (rule "list.sort.descending-run")
 let __s <- Rk lo (n + 1) nrem
 match __s.fst with
 | some r=>pure r
 | none =>
  if __s.snd.snd > 0 then do
   reverseSlice' (lo + __s.snd.fst - (__s.snd.snd + 1)) (lo + __s.snd.fst)
   Lz lo __s.snd.fst nrem
  else Lz lo __s.snd.fst nrem
theorem Yj (lo nrem:Nat):countRun' lo nrem=(do
  let __s <- Yi lo 1 nrem
  match __s.fst with
  | some r=>pure r
  | none =>
   if (__s.snd == nrem)=true then pure (some __s.snd)
   else if __s.snd > 1 then do
    let __x <- ltAt' lo (lo + __s.snd - 1)
    match __x with
    | some rose=>if rose=true then pure (some __s.snd) else do
      reverseSlice' lo (lo + __s.snd)
      LK lo __s.snd nrem
    | _=>pure none
   else LK lo __s.snd nrem):=by
 rw [countRun'_eq]
 unfold LK Lz Rk Yi
 dsimp only
 congr 1
 funext __s
 obtain ⟨r,n⟩:=__s
 cases r with
 | some r=>rfl
 | none =>
  dsimp only
  split
  ·rfl
  ·split
   ·congr 1
    funext x
    cases x with
    | none=>rfl
    | some rose =>
     dsimp only
     split
     ·rfl
     ·congr 1
      funext _r
      congr 1;funext _u;congr 1;congr 1;funext s2;obtain ⟨r2,n2,q2⟩:=s2;cases r2 with
      | some r2=>rfl
      | none =>
       dsimp only;split
       ·congr 1;funext _v;congr 1;funext _w;congr 1;funext s3;obtain ⟨r3,n3⟩:=s3;cases r3 <;> rfl
       ·congr 1;funext _w;congr 1;funext s3;obtain ⟨r3,n3⟩:=s3;cases r3 <;> rfl
   ·congr 1;funext _u;congr 1;congr 1;funext s2;obtain ⟨r2,n2,q2⟩:=s2;cases r2 with
    | some r2=>rfl
    | none =>
     dsimp only;split
     ·congr 1;funext _v;congr 1;funext _w;congr 1;funext s3;obtain ⟨r3,n3⟩:=s3;cases r3 <;> rfl
     ·congr 1;funext _w;congr 1;funext s3;obtain ⟨r3,n3⟩:=s3;cases r3 <;> rfl
end
end Sb
namespace Sb
open PySem PySem.W PyProof.Rows
section
variable {prog:Program} {w:World} {A:Around} {E:Value->Shared->Prop} {s:Shared} {a₀ x0:Array Keyed} {κ:SortKind} {rk:Keyed->Int} {lo:Nat} {p0:Array (Nat×Nat×Nat)}
theorem Rm {st:SortSt} {a nrem:Nat} {Q:AscSt->SortSt->Prop} (h0:Ax prog w A s κ rk a₀) (hn:lo + nrem<=a₀.size) (ha:1<=a) (han:a<=nrem) (hB:SB κ a₀ x0 p0 lo st)
  (hs:Up rk (arrOf st) lo a)
  (h:∀ n,a<=n->n<=nrem->Up rk (arrOf st) lo n->(n=nrem∨R rk (arrOf st) (lo + n) < R rk (arrOf st) (lo + (n - 1)))->Q (none,n) st) :
  wpS (model prog w) A E s (Yi lo a nrem) Q st:=by
 unfold Yi
 refine wpS_forRange (I:=fun x c st'=>st'=st/\c=(none,x)/\Up rk (arrOf st) lo x) ?step ?dH ⟨rfl,rfl,hs⟩
 case dH =>
  rintro c st' ⟨rfl,rfl,hs'⟩
  rw [show max a nrem=nrem by omega] at hs' ⊢
  exact h nrem han (Nat.le_refl _) hs' (.inl rfl)
 case step =>
  rintro x c st' hax hxn ⟨rfl,rfl,hs'⟩
  dsimp only
  rw [show lo + x - 1=lo + (x - 1) by omega]
  refine wpS_bind (vh h0 hB (by omega) (by omega) ?_)
  by_cases hless:R rk (arrOf st') (lo + x) < R rk (arrOf st') (lo + (x - 1))
  ·simp only [hless,decide_true,if_true]
   exact wpS_pure (h x hax (by omega) hs' (.inr hless))
  ·simp only [hless,decide_false,Bool.false_eq_true,if_false]
   refine wpS_pure ⟨rfl,rfl,fun i j hij hj=>?_⟩
   by_cases hjx:j < x
   ·exact hs' i j hij hjx
   ·have hj':j=x:=by omega
    subst hj'
    by_cases hi':i=j
    ·subst hi';exact Int.le_refl _
    ·exact Int.le_trans (hs' i (j - 1) (by omega) (by omega)) (Int.not_lt.mp hless)
theorem Ft {st:SortSt} {n nrem:Nat} {Q:Option Nat->SortSt->Prop} (h0:Ax prog w A s κ rk a₀) (hn:lo + nrem<=a₀.size) (h1:1<=n) (hnn:n<=nrem) (hB:SB κ a₀ x0 p0 lo st)
  (hs:Dn rk (arrOf st) lo n) (h:∀ m st',SB κ a₀ x0 p0 lo st'->1<=m->m<=nrem->Up rk (arrOf st') lo m->Q (some m) st') :
  wpS (model prog w) A E s (Lz lo n nrem) Q st:=by
 unfold Lz
 have hsz:lo + n<=(arrOf st).size:=by rw [hB.size];omega
 refine wpS_bind (yx ?_)
 have hB':SB κ a₀ x0 p0 lo (setArr st (mirror (arrOf st) lo (lo + n) ((lo + n - lo) / 2))):=hB.rev (Nat.le_refl _) (by omega)
 refine wpS_bind (Rm h0 hn h1 hnn hB' ?_ fun m hm1 hm2 hsm _=>wpS_pure (h m _ hB' (by omega) hm2 hsm))
 intro i j hij hj
 show R rk (mirror (arrOf st) lo (lo + n) ((lo + n - lo) / 2)) (lo + i)<=R rk (mirror (arrOf st) lo (lo + n) ((lo + n - lo) / 2)) (lo + j)
 rw [zE hsz,zE hsz,if_pos (by omega),if_pos (by omega)]
 have:=hs (n - 1 - j) (n - 1 - i) (by omega) (by omega)
 rw [show lo + (lo + n) - 1 - (lo + i)=lo + (n - 1 - i) by omega,show lo + (lo + n) - 1 - (lo + j)=lo + (n - 1 - j) by omega]
 exact this
theorem Yk {st:SortSt} {n nrem:Nat} {Q:DescSt->SortSt->Prop} (h0:Ax prog w A s κ rk a₀) (hn:lo + nrem<=a₀.size) (h1:1<=n) (hnn:n<=nrem) (hB:SB κ a₀ x0 p0 lo st)
  (hs:Dn rk (arrOf st) lo n)
  (h:∀ m neq st',SB κ a₀ x0 p0 lo st'->n<=m->m<=nrem->Dn rk (arrOf st') lo m->neq + 1<=m->(∀ i,lo + m - (neq + 1)<=i->i < lo + m->R rk (arrOf st') i=R rk (arrOf st') (lo + m - 1))->Q (none,m,neq) st') :
  wpS (model prog w) A E s (Rk lo n nrem) Q st:=by
 unfold Rk
 refine wpS_forRange (I:=fun x c st'=>∃ neq,c=(none,x,neq)/\SB κ a₀ x0 p0 lo st'/\Dn rk (arrOf st') lo x/\neq + 1<=x /\
   (∀ i,lo + x - (neq + 1)<=i->i < lo + x->R rk (arrOf st') i=R rk (arrOf st') (lo + x - 1))) ?step ?dH ⟨0,rfl,hB,hs,by omega,fun i h1 h2=>by congr 1;omega⟩
 case dH =>
  rintro c st' ⟨neq,rfl,hB',hs',hq,he⟩
  rw [show max n nrem=nrem by omega] at hs' hq he ⊢
  exact h nrem neq st' hB' hnn (Nat.le_refl _) hs' hq he
 case step =>
  rintro x c st' hax hxn ⟨neq,rfl,hB',hs',hq,he⟩
  dsimp only
  have hsz:lo + x<=(arrOf st').size:=by rw [hB'.size];omega
  have e1:lo + x - 1=lo + (x - 1):=by omega
  refine wpS_bind (vh h0 hB' (by omega) (by omega) ?_)
  by_cases hless:R rk (arrOf st') (lo + x) < R rk (arrOf st') (lo + x - 1)
  ·simp only [hless,decide_true,if_true]
   rw [e1] at hless
   have step1:∀ xs:Array Keyed,(∀ k,R rk xs k=R rk (arrOf st') k)->Dn rk xs lo (x + 1):=by
    intro xs hk i j hij hj
    rw [hk,hk]
    by_cases hjx:j < x
    ·exact hs' i j hij hjx
    ·have hj':j=x:=by omega
     subst hj'
     by_cases hi':i=j
     ·subst hi';exact Int.le_refl _
     ·exact Int.le_trans (Int.le_of_lt hless) (hs' i (j - 1) (by omega) (by omega))
   by_cases hneq:neq > 0
   ·rw [if_pos hneq]
    refine wpS_bind (yx (wpS_pure ⟨0,rfl,hB'.rev (by omega) (by omega),step1 _ (fu hsz he),by omega,fun i h1 h2=>by congr 1;omega⟩))
   ·rw [if_neg hneq]
    exact wpS_pure ⟨0,rfl,hB',step1 _ (fun _=>rfl),by omega,fun i h1 h2=>by congr 1;omega⟩
  ·simp only [hless,decide_false,Bool.false_eq_true,if_false]
   refine wpS_bind (vh h0 hB' (by omega) (by omega) ?_)
   by_cases hlarger:R rk (arrOf st') (lo + x - 1) < R rk (arrOf st') (lo + x)
   ·simp only [hlarger,decide_true,if_true]
    exact wpS_pure (h x neq st' hB' hax (by omega) hs' hq he)
   ·simp only [hlarger,decide_false,Bool.false_eq_true,if_false]
    have heqx:R rk (arrOf st') (lo + x)=R rk (arrOf st') (lo + x - 1):=by omega
    refine wpS_pure ⟨neq + 1,rfl,hB',fun i j hij hj=>?_,by omega,fun i h1 h2=>?_⟩
    ·by_cases hjx:j < x
     ·exact hs' i j hij hjx
     ·have hj':j=x:=by omega
      subst hj'
      by_cases hi':i=j
      ·subst hi';exact Int.le_refl _
      ·rw [heqx,e1];exact hs' i (j - 1) (by omega) (by omega)
    ·rw [show lo + (x + 1) - 1=lo + x by omega]
     by_cases hix:i=lo + x
     ·subst hix;rfl
     ·rw [heqx];exact he i (by omega) (by omega)
theorem Fv {st:SortSt} {n nrem:Nat} {Q:Option Nat->SortSt->Prop} (h0:Ax prog w A s κ rk a₀) (hn:lo + nrem<=a₀.size) (hnn:n + 1<=nrem) (hB:SB κ a₀ x0 p0 lo st)
  (hs:Dn rk (arrOf st) lo (n + 1)) (h:∀ m st',SB κ a₀ x0 p0 lo st'->1<=m->m<=nrem->Up rk (arrOf st') lo m->Q (some m) st') :
  wpS (model prog w) A E s (LK lo n nrem) Q st:=by
 unfold LK
 refine wpS_bind (wpS_lift (wpAny_rule ⟨rfl,?_⟩))
 refine wpS_bind (Yk h0 hn (by omega) hnn hB hs fun m neq st' hB' hm1 hm2 hs' hq he=>?_)
 dsimp only
 have hsz:lo + m<=(arrOf st').size:=by rw [hB'.size];omega
 by_cases hneq:neq > 0
 ·rw [if_pos hneq]
  refine wpS_bind (yx (Ft h0 hn (by omega) hm2 (hB'.rev (by omega) (by omega)) ?_ h))
  intro i j hij hj
  show R rk (mirror (arrOf st') _ _ _) _<=R rk (mirror (arrOf st') _ _ _) _
  rw [fu hsz he,fu hsz he]
  exact hs' i j hij hj
 ·rw [if_neg hneq]
  exact Ft h0 hn (by omega) hm2 hB' hs' h
theorem Uh {st:SortSt} {nrem:Nat} {Q:Option Nat->SortSt->Prop} (h0:Ax prog w A s κ rk a₀) (hn:lo + nrem<=a₀.size) (h1:1<=nrem) (hB:SB κ a₀ x0 p0 lo st)
  (h:∀ m st',SB κ a₀ x0 p0 lo st'->1<=m->m<=nrem->Up rk (arrOf st') lo m->Q (some m) st') :
  wpS (model prog w) A E s (countRun' lo nrem) Q st:=by
 rw [Yj]
 refine wpS_bind (Rm h0 hn (Nat.le_refl 1) h1 hB (fun i j hij hj=>by have e:i=j:=by { omega };subst e;exact Int.le_refl _) fun n hn1 hn2 hsn hor=>?_)
 dsimp only
 by_cases hnn:n=nrem
 ·rw [if_pos (by simpa using hnn)]
  exact wpS_pure (h n st hB hn1 hn2 hsn)
 ·rw [if_neg (by simpa using hnn)]
  have hlt:R rk (arrOf st) (lo + n) < R rk (arrOf st) (lo + (n - 1)):=hor.resolve_left hnn
  by_cases hgt:n > 1
  ·rw [if_pos hgt,show lo + n - 1=lo + (n - 1) by omega]
   refine wpS_bind (vh h0 hB (by omega) (by omega) ?_)
   by_cases hrose:R rk (arrOf st) lo < R rk (arrOf st) (lo + (n - 1))
   ·simp only [hrose,decide_true,if_true]
    exact wpS_pure (h n st hB hn1 hn2 hsn)
   ·simp only [hrose,decide_false,Bool.false_eq_true,if_false]
    have hsz:lo + n<=(arrOf st).size:=by rw [hB.size];omega
    have hall':∀ k,k < n->R rk (arrOf st) (lo + k)=R rk (arrOf st) (lo + (n - 1)):=by
     intro k hk
     have a1:=hsn 0 k (by omega) hk
     have a2:=hsn k (n - 1) (by omega) (by omega)
     rw [Nat.add_zero] at a1
     omega
    have hall:∀ k,lo<=k->k < lo + n->R rk (arrOf st) k=R rk (arrOf st) (lo + n - 1):=fun k k1 k2=>by
     have:=hall' (k - lo) (by omega)
     rw [show lo + (k - lo)=k by omega] at this
     rw [this];congr 1;omega
    refine wpS_bind (yx (Fv h0 hn (by omega) (hB.rev (Nat.le_refl _) (by omega)) ?_ h))
    intro i j hij hj
    show R rk (mirror (arrOf st) _ _ _) _<=R rk (mirror (arrOf st) _ _ _) _
    rw [fu hsz hall,fu hsz hall]
    by_cases hjn:j < n
    ·rw [hall' i (by omega),hall' j hjn];exact Int.le_refl _
    ·obtain rfl:j=n:=by omega
     by_cases hi':i=j
     ·subst hi';exact Int.le_refl _
     ·rw [hall' i (by omega)];exact Int.le_of_lt hlt
  ·rw [if_neg hgt]
   obtain rfl:n=1:=by omega
   refine Fv h0 hn (by omega) hB ?_ h
   intro i j hij hj
   by_cases hi':i=j
   ·subst hi';exact Int.le_refl _
   ·obtain rfl:i=0:=by omega
    obtain rfl:j=1:=by omega
    exact Int.le_of_lt hlt
theorem LQ {xs:Array Keyed} {src d:Nat} (hs:src < xs.size) (hd:d<=src) (k:Nat) :
  R rk (bubble xs src d) k=if k=src - d then R rk xs src else if src - d < k/\k<=src then R rk xs (k - 1) else R rk xs k:=by
 have e:=getElem?_bubble hs d hd k
 by_cases h1:k=src - d
 ·rw [if_pos h1] at e ⊢;exact iW e
 ·rw [if_neg h1] at e ⊢
  by_cases h2:src - d < k/\k<=src
  ·rw [if_pos h2] at e ⊢;exact iW e
  ·rw [if_neg h2] at e ⊢;exact iW e
theorem abQ {st:SortSt} {n ok:Nat} {Q:Bool->SortSt->Prop} (h0:Ax prog w A s κ rk a₀) (hn:lo + n<=a₀.size) (hok:ok<=n) (hB:SB κ a₀ x0 p0 lo st) (hs:Up rk (arrOf st) lo ok)
  (h:∀ st',SB κ a₀ x0 p0 lo st'->Up rk (arrOf st') lo n->Q true st'):wpS (model prog w) A E s (binarySort' lo n ok) Q st:=by
 rw [binarySort'_eq]
 refine wpS_bind (wpS_mono (wpS_forRange (I:=fun k c st'=>c=(none,())/\SB κ a₀ x0 p0 lo st'/\Up rk (arrOf st') lo (min k n))
  (Q:=fun c st'=>c=(none,())/\SB κ a₀ x0 p0 lo st'/\Up rk (arrOf st') lo n) ?step ?dH ?init) ?post)
 case post =>
  rintro c st' ⟨rfl,hB',hs'⟩
  exact wpS_pure (h st' hB' hs')
 case init =>
  refine ⟨rfl,hB,fun i j hij hj=>?_⟩
  by_cases h1:ok=0
  ·obtain rfl:i=j:=by omega
   exact Int.le_refl _
  ·exact hs i j hij (by omega)
 case dH =>
  rintro c st' ⟨hc,hB',hs'⟩
  refine ⟨hc,hB',?_⟩
  rwa [show min (max (max ok 1) n) n=n by omega] at hs'
 case step =>
  rintro k c st' hak hkn ⟨rfl,hB',hs'⟩
  rw [show min k n=k by omega] at hs'
  have hk:lo + k < a₀.size:=by omega
  refine wpS_bind (wpS_mono (wpS_forRange (I:=fun x c st''=>st''=st'/\∃ l r,c=(none,l,r)/\l<=r/\r<=k/\r - l<=k - x /\
    (∀ i,i < l->R rk (arrOf st') (lo + i)<=R rk (arrOf st') (lo + k))/\(∀ i,r<=i->i < k->R rk (arrOf st') (lo + k) < R rk (arrOf st') (lo + i)))
   (Q:=fun c st''=>st''=st'/\∃ l r,c=(none,l,r)/\l<=k /\
    (∀ i,i < l->R rk (arrOf st') (lo + i)<=R rk (arrOf st') (lo + k))/\(∀ i,l<=i->i < k->R rk (arrOf st') (lo + k) < R rk (arrOf st') (lo + i))) ?istep ?ifin ?iinit) ?ipost)
  case iinit=>exact ⟨rfl,0,k,rfl,by omega,by omega,by omega,fun i hi=>by omega,fun i h1 h2=>by omega⟩
  case ifin =>
   rintro c st'' ⟨rfl,l,r,rfl,hlr,hrk,hm,hlo,hhi⟩
   obtain rfl:l=r:=by omega
   exact ⟨rfl,l,l,rfl,hrk,hlo,hhi⟩
  case istep =>
   rintro x c st'' _ hxk ⟨rfl,l,r,rfl,hlr,hrk,hm,hlo,hhi⟩
   dsimp only
   by_cases hge:l ≥ r
   ·rw [if_pos hge]
    obtain rfl:l=r:=by omega
    exact wpS_pure ⟨rfl,l,l,rfl,hrk,hlo,hhi⟩
   ·rw [if_neg hge]
    refine wpS_bind (vh h0 hB' hk (by omega) ?_)
    by_cases hless:R rk (arrOf st'') (lo + k) < R rk (arrOf st'') (lo + (l + r) / 2)
    ·simp only [hless,decide_true,if_true]
     refine wpS_pure ⟨rfl,l,(l + r) / 2,rfl,by omega,by omega,by omega,hlo,fun i h1 h2=>?_⟩
     exact Int.lt_of_lt_of_le hless (hs' _ _ h1 h2)
    ·simp only [hless,decide_false,Bool.false_eq_true,if_false]
     refine wpS_pure ⟨rfl,(l + r) / 2 + 1,r,rfl,by omega,by omega,by omega,fun i h1=>?_,hhi⟩
     exact Int.le_trans (hs' i ((l + r) / 2) (by omega) (by omega)) (Int.not_lt.mp hless)
  case ipost =>
   rintro c st'' ⟨rfl,l,r,rfl,hlk,hlo,hhi⟩
   show wpS _ _ _ _ (do moveDown' (lo + k) (lo + l);pure (ForInStep.yield (none,()))) _ _
   rw [moveDown'_eq]
   have hks:lo + k < (arrOf st'').size:=by rw [hB'.size];exact hk
   refine wpS_bind (wpS_modify (wpS_pure ⟨rfl,hB'.setArr (bubble_perm _ _ _) (fun q hq=>?_),?_⟩))
   ·rw [getElem?_bubble hks _ (by omega),if_neg (by omega),if_neg (by omega)]
   rw [show min (k + 1) n=k + 1 by omega]
   intro i j hij hj
   show R rk (bubble (arrOf st'') (lo + k) (lo + k - (lo + l))) (lo + i)<=R rk (bubble (arrOf st'') (lo + k) (lo + k - (lo + l))) (lo + j)
   rw [LQ hks (by omega),LQ hks (by omega),show lo + k - (lo + k - (lo + l))=lo + l by omega]
   have pre:∀ q,lo + l < lo + q->lo + q - 1=lo + (q - 1):=fun q hq=>by omega
   repeat' split
   all_goals first
    | (exfalso;omega)
    | exact Int.le_refl _
    | exact hlo _ (by omega)
    | (rw [pre _ (by omega)];exact Int.le_of_lt (hhi _ (by omega) (by omega)))
    | exact hs' _ _ (by omega) (by omega)
    | (rw [pre _ (by omega)];exact hs' _ _ (by omega) (by omega))
    | (rw [pre _ (by omega),pre _ (by omega)];exact hs' _ _ (by omega) (by omega))
end
end Sb
namespace Sb
open PySem PySem.W PyProof.Rows
noncomputable def gH:Bool->Keyed->Array Keyed->Nat->Nat->Nat->StateT SortSt Sem (Option Nat):=sortPriv% PySem.Builtin.gallop
noncomputable def bey (left:Bool) (key:Keyed) (arr:Array Keyed) (base i:Nat):StateT SortSt Sem (Option Bool):=do
 let x <- elem' arr (base + i)
 if left then lt' x key else return (<- lt' key x).map (!·)
theorem Pq (left:Bool) (key:Keyed) (arr:Array Keyed) (base n hint:Nat):gH left key arr base n hint=(do
 let mut lastofs:=0
 let mut ofs:=1
 let mut lo:=0
 let mut hi:=0
 let some right <- bey left key arr base hint|return none
 if right then
  let maxofs:=n - hint
  for _ in [0:n] do
   if ofs ≥ maxofs then break
   let some more <- bey left key arr base (hint + ofs)|return none
   if !more then break
   lastofs:=ofs
   ofs:=2 * ofs + 1
  lo:=hint + lastofs + 1
  hi:=hint + min ofs maxofs
 else
  let maxofs:=hint + 1
  for _ in [0:n] do
   if ofs ≥ maxofs then break
   let some found <- bey left key arr base (hint - ofs)|return none
   if found then break
   lastofs:=ofs
   ofs:=2 * ofs + 1
  lo:=hint + 1 - min ofs maxofs
  hi:=hint - lastofs
 for _ in [0:n] do
  if lo ≥ hi then break
  let m:=lo + (hi - lo) / 2
  let some more <- bey left key arr base m|return none
  if more then lo:=m + 1 else hi:=m
 return some hi):=rfl
section
variable {prog:Program} {w:World} {A:Around} {E:Value->Shared->Prop} {s:Shared} {a₀ x0:Array Keyed} {κ:SortKind} {rk:Keyed->Int} {lo:Nat} {p0:Array (Nat×Nat×Nat)}
noncomputable def bp (rk:Keyed->Int) (left:Bool) (key:Keyed) (arr:Array Keyed) (base i:Nat):Bool:=if left then decide (R rk arr (base + i) < rk key) else decide (R rk arr (base + i)<=rk key)
theorem yC {st:SortSt} {left:Bool} {key:Keyed} {arr:Array Keyed} {base i:Nat} {Q:Option Bool->SortSt->Prop} (h0:Ax prog w A s κ rk a₀) (hk:kindOf st=κ) (hm:key∈a₀.toList) (ha:∀ x∈arr.toList,x∈a₀.toList) (hi:base + i < arr.size)
  (h:Q (some (bp rk left key arr base i)) st):wpS (model prog w) A E s (bey left key arr base i) Q st:=by
 have e:arr[base + i]?=some arr[base + i]:=getElem?_pos arr _ hi
 have hx:arr[base + i]∈a₀.toList:=ha _ (by simp)
 unfold bp at h
 rw [gO e] at h
 unfold bey
 refine wpS_bind (bV e ?_)
 cases left with
 | true=>simp only [if_true] at h ⊢;exact zB h0 hk hx hm h
 | false =>
  simp only [Bool.false_eq_true,if_false] at h ⊢
  refine wpS_bind (zB h0 hk hm hx (wpS_pure ?_))
  have:(some (decide (rk key < rk arr[base + i]))).map (!·)=some (decide (rk arr[base + i]<=rk key)):=by
   simp only [Option.map_some,<- decide_not,Int.not_lt]
  rw [this];exact h
theorem abR {left:Bool} {key:Keyed} {arr:Array Keyed} {base n:Nat} (hu:Up rk arr base n) {i j:Nat} (hij:i<=j) (hj:j < n) (h:bp rk left key arr base j=true):bp rk left key arr base i=true:=by
 have:=hu i j hij hj
 unfold bp at h ⊢
 cases left <;> simp at h ⊢ <;> omega
theorem iM {st:SortSt} {left:Bool} {key:Keyed} {arr:Array Keyed} {base n hint:Nat} {Q:Option Nat->SortSt->Prop} (h0:Ax prog w A s κ rk a₀) (hk:kindOf st=κ) (hm:key∈a₀.toList) (ha:∀ x∈arr.toList,x∈a₀.toList)
  (hb:base + n<=arr.size) (hh:hint < n) (hu:Up rk arr base n)
  (h:∀ k,k<=n->(∀ i,i < k->bp rk left key arr base i=true)->(∀ i,k<=i->i < n->bp rk left key arr base i=false)->Q (some k) st) :
  wpS (model prog w) A E s (gH left key arr base n hint) Q st:=by
 have mono:=fun {i j:Nat} (hij:i<=j) (hj:j < n)=>abR (left:=left) (key:=key) hu hij hj
 have Ym:∀ {i j:Nat},i<=j->j < n->bp rk left key arr base i=false->bp rk left key arr base j=false:=fun {i j} hij hj hf=>by
  cases c:bp rk left key arr base j with
  | false=>rfl
  | true=>rw [mono hij hj c] at hf;cases hf
 have last:∀ (l0 h0':Nat),l0<=h0'->h0'<=n->(∀ i,i < l0->bp rk left key arr base i=true)->(∀ i,h0'<=i->i < n->bp rk left key arr base i=false) ->
   ∀ (f:Nat->Option (Option Nat)×Nat×Nat->StateT SortSt Sem (ForInStep (Option (Option Nat)×Nat×Nat))) (k:Option (Option Nat)×Nat×Nat->StateT SortSt Sem (Option Nat)),
   (∀ x l hi,f x (none,l,hi)=if l ≥ hi then pure (ForInStep.done (none,l,hi)) else do
    let __x <- bey left key arr base (l + (hi - l) / 2)
    match __x with
    | some more=>if more=true then pure (ForInStep.yield (none,l + (hi - l) / 2 + 1,hi)) else pure (ForInStep.yield (none,l,l + (hi - l) / 2))
    | _=>pure (ForInStep.done (some none,l,hi)))->(∀ l hi,k (none,l,hi)=pure (some hi)) ->
   wpS (model prog w) A E s (do let r <- forIn [0:n] (none,l0,h0') f;k r) Q st:=by
  intro l0 h0' hlh hhn hlo hhi f k hf hkk
  refine wpS_bind (wpS_mono (wpS_forRange (I:=fun x c st'=>st'=st/\∃ l r,c=(none,l,r)/\l<=r/\r<=n/\r - l<=n - x/\(∀ i,i < l->bp rk left key arr base i=true)/\(∀ i,r<=i->i < n->bp rk left key arr base i=false))
   (Q:=fun c st'=>st'=st/\∃ r,c=(none,r,r)/\r<=n/\(∀ i,i < r->bp rk left key arr base i=true)/\(∀ i,r<=i->i < n->bp rk left key arr base i=false)) ?step ?dH ⟨rfl,l0,h0',rfl,hlh,hhn,by omega,hlo,hhi⟩) ?post)
  case post =>
   rintro c st' ⟨rfl,r,rfl,h1,h2,h3⟩
   rw [hkk]
   exact wpS_pure (h r h1 h2 h3)
  case dH =>
   rintro c st' ⟨rfl,l,r,rfl,h1,h2,h3,h4,h5⟩
   obtain rfl:l=r:=by omega
   exact ⟨rfl,l,rfl,h2,h4,h5⟩
  case step =>
   rintro x c st' _ hx ⟨rfl,l,r,rfl,h1,h2,h3,h4,h5⟩
   rw [hf]
   by_cases hge:l ≥ r
   ·rw [if_pos hge]
    obtain rfl:l=r:=by omega
    exact wpS_pure ⟨rfl,l,rfl,h2,h4,h5⟩
   ·rw [if_neg hge]
    refine wpS_bind (yC h0 hk hm ha (by omega) ?_)
    cases c:bp rk left key arr base (l + (r - l) / 2) with
    | true =>
     simp only [if_true]
     exact wpS_pure ⟨rfl,_,r,rfl,by omega,h2,by omega,fun i hi=>mono (show i<=l + (r - l) / 2 by omega) (by omega) c,h5⟩
    | false =>
     simp only [Bool.false_eq_true,if_false]
     exact wpS_pure ⟨rfl,l,_,rfl,by omega,by omega,by omega,h4,fun i h6 h7=>Ym h6 h7 c⟩
 rw [Pq]
 dsimp only
 refine wpS_bind (yC h0 hk hm ha (by omega) ?_)
 cases c:bp rk left key arr base hint with
 | true =>
  simp only [if_true]
  refine wpS_bind (wpS_mono (wpS_forRange (I:=fun x c st'=>st'=st/\∃ lf lE,c=(none,lf,lE)/\x + 1<=lE/\lf < lE/\hint + lf < n/\bp rk left key arr base (hint + lf)=true)
   (Q:=fun c st'=>st'=st/\∃ lf lE,c=(none,lf,lE)/\lf < lE/\hint + lf < n/\bp rk left key arr base (hint + lf)=true/\(n - hint<=lE∨(hint + lE < n/\bp rk left key arr base (hint + lE)=false))) ?step ?dH ⟨rfl,0,1,rfl,by omega,by omega,by omega,c⟩) ?post)
  case post =>
   rintro c st' ⟨rfl,lf,lE,rfl,h1,h2,h3,h4⟩
   refine last (hint + lf + 1) (hint + min lE (n - hint)) (by omega) (by omega) (fun i hi=>mono (show i<=hint + lf by omega) h2 h3) (fun i h5 h6=>?_) _ _ (fun x l hi=>rfl) (fun l hi=>rfl)
   rcases h4 with h4|⟨h7,h8⟩
   ·omega
   ·exact Ym (show hint + lE<=i by omega) h6 h8
  case dH =>
   rintro c st' ⟨rfl,lf,lE,rfl,h1,h2,h3,h4⟩
   exact ⟨rfl,lf,lE,rfl,h2,h3,h4,.inl (by omega)⟩
  case step =>
   rintro x c st' _ hx ⟨rfl,lf,lE,rfl,h1,h2,h3,h4⟩
   dsimp only
   by_cases hge:lE ≥ n - hint
   ·rw [if_pos hge]
    exact wpS_pure ⟨rfl,lf,lE,rfl,h2,h3,h4,.inl hge⟩
   ·rw [if_neg hge]
    refine wpS_bind (yC h0 hk hm ha (by omega) ?_)
    cases d:bp rk left key arr base (hint + lE) with
    | true =>
     simp only [Bool.not_true,Bool.false_eq_true,if_false]
     exact wpS_pure ⟨rfl,lE,2 * lE + 1,rfl,by omega,by omega,by omega,d⟩
    | false =>
     simp only [Bool.not_false,if_true]
     exact wpS_pure ⟨rfl,lf,lE,rfl,h2,h3,h4,.inr ⟨by omega,d⟩⟩
 | false =>
  simp only [Bool.false_eq_true,if_false]
  refine wpS_bind (wpS_mono (wpS_forRange (I:=fun x c st'=>st'=st/\∃ lf lE,c=(none,lf,lE)/\x + 1<=lE/\lf < lE/\lf<=hint/\bp rk left key arr base (hint - lf)=false)
   (Q:=fun c st'=>st'=st/\∃ lf lE,c=(none,lf,lE)/\lf < lE/\lf<=hint/\bp rk left key arr base (hint - lf)=false/\(hint + 1<=lE∨(lE<=hint/\bp rk left key arr base (hint - lE)=true))) ?step ?dH ⟨rfl,0,1,rfl,by omega,by omega,by omega,c⟩) ?post)
  case post =>
   rintro c st' ⟨rfl,lf,lE,rfl,h1,h2,h3,h4⟩
   refine last (hint + 1 - min lE (hint + 1)) (hint - lf) (by omega) (by omega) (fun i hi=>?_) (fun i h5 h6=>Ym h5 h6 h3) _ _ (fun x l hi=>rfl) (fun l hi=>rfl)
   rcases h4 with h4|⟨h7,h8⟩
   ·omega
   ·exact mono (show i<=hint - lE by omega) (by omega) h8
  case dH =>
   rintro c st' ⟨rfl,lf,lE,rfl,h1,h2,h3,h4⟩
   exact ⟨rfl,lf,lE,rfl,h2,h3,h4,.inl (by omega)⟩
  case step =>
   rintro x c st' _ hx ⟨rfl,lf,lE,rfl,h1,h2,h3,h4⟩
   dsimp only
   by_cases hge:lE ≥ hint + 1
   ·rw [if_pos hge]
    exact wpS_pure ⟨rfl,lf,lE,rfl,h2,h3,h4,.inl hge⟩
   ·rw [if_neg hge]
    refine wpS_bind (yC h0 hk hm ha (by omega) ?_)
    cases d:bp rk left key arr base (hint - lE) with
    | false =>
     simp only [Bool.false_eq_true,if_false]
     exact wpS_pure ⟨rfl,lE,2 * lE + 1,rfl,by omega,by omega,by omega,d⟩
    | true =>
     simp only [if_true]
     exact wpS_pure ⟨rfl,lf,lE,rfl,h2,h3,h4,.inr ⟨by omega,d⟩⟩
end
end Sb
namespace Sb
open PySem PySem.W PyProof.Rows
noncomputable abbrev uJ (rk:Keyed->Int) (l:List Keyed):Prop:=l.Pairwise fun x y=>rk x<=rk y
structure Mg (rk:Keyed->Int) (a b out:Array Keyed) (ia ib:Nat):Prop where
 ha:ia<=a.size
 hb:ib<=b.size
 sz:out.size=ia + ib
 pm:(out.toList++(a.toList.drop ia++b.toList.drop ib)).Perm (a.toList++b.toList)
 up:uJ rk out.toList
 bd:∀ x∈out.toList,∀ y∈a.toList.drop ia++b.toList.drop ib,rk x<=rk y
noncomputable def Cz (rk:Keyed->Int) (a b m:Array Keyed):Prop:=m.toList.Perm (a.toList++b.toList)/\uJ rk m.toList
section
variable {rk:Keyed->Int} {a b out:Array Keyed} {ia ib k:Nat} {x y:Keyed}
theorem nu (a:Array Keyed) (i j:Nat):(a.extract i j).toList=(a.toList.drop i).take (j - i):=by
 rw [Array.toList_extract,List.extract_eq_take_drop]
theorem jT (l:List Keyed) (i k:Nat):l.drop i=(l.drop i).take k++l.drop (i + k):=by
 rw [<- List.drop_drop,List.take_append_drop]
theorem Mg.qg (h:Mg rk a b out ia ib) (sa:uJ rk a.toList) (hk:ia + k<=a.size) (hc:∀ x∈(a.toList.drop ia).take k,∀ y∈b.toList.drop ib,rk x<=rk y):Mg rk a b (out++a.extract ia (ia + k)) (ia + k) ib:=by
 have e:(a.extract ia (ia + k)).toList=(a.toList.drop ia).take k:=by rw [nu];congr 1;omega
 have sp:=jT a.toList ia k
 have sd:uJ rk (a.toList.drop ia):=List.Pairwise.sublist (List.drop_sublist _ _) sa
 rw [sp] at sd
 obtain ⟨s1,s2,s3⟩:=List.pairwise_append.mp sd
 refine ⟨hk,h.hb,?_,?_,?_,?_⟩
 ·rw [Array.size_append,Array.size_extract,h.sz];omega
 ·rw [Array.toList_append,e]
  refine List.Perm.trans (List.Perm.of_eq ?_) h.pm
  conv=>rhs;rw [sp]
  simp only [List.append_assoc]
 ·rw [Array.toList_append,e]
  refine List.pairwise_append.mpr ⟨h.up,s1,fun x hx y hy=>h.bd x hx y ?_⟩
  rw [sp];simp [hy]
 ·intro x hx y hy
  rw [Array.toList_append,e] at hx
  rcases List.mem_append.mp hx with hx|hx
  ·refine h.bd x hx y ?_
   rw [sp]
   rcases List.mem_append.mp hy with hy|hy
   ·simp [hy]
   ·simp [hy]
  ·rcases List.mem_append.mp hy with hy|hy
   ·exact s3 x hx y hy
   ·exact hc x hx y hy
theorem Mg.swap (h:Mg rk a b out ia ib):Mg rk b a out ib ia:=by
 refine ⟨h.hb,h.ha,by rw [h.sz,Nat.add_comm],?_,h.up,fun x hx y hy=>h.bd x hx y ?_⟩
 ·refine (List.Perm.append_left _ List.perm_append_comm).trans (h.pm.trans List.perm_append_comm)
 ·rcases List.mem_append.mp hy with hy|hy <;> simp [hy]
theorem Mg.Ib (h:Mg rk a b out ia ib) (sb:uJ rk b.toList) (hk:ib + k<=b.size) (hc:∀ y∈(b.toList.drop ib).take k,∀ x∈a.toList.drop ia,rk y<=rk x):Mg rk a b (out++b.extract ib (ib + k)) ia (ib + k) :=
 (h.swap.qg sb hk hc).swap
theorem Ro {a:Array Keyed} {i:Nat} {x:Keyed} (h:a[i]?=some x):out.push x=out++a.extract i (i + 1):=by
 apply Array.toList_inj.mp
 rw [Array.toList_push,Array.toList_append,nu]
 obtain ⟨hi,rfl⟩:=Array.getElem?_eq_some_iff.mp h
 rw [List.drop_eq_getElem_cons (by simpa using hi),show i + 1 - i=1 by omega]
 simp
theorem ahr {a:Array Keyed} {i:Nat} {x z:Keyed} (h:a[i]?=some x) (hz:z∈(a.toList.drop i).take 1):z=x:=by
 obtain ⟨hi,rfl⟩:=Array.getElem?_eq_some_iff.mp h
 rw [List.drop_eq_getElem_cons (by simpa using hi)] at hz
 simpa using hz
theorem nA {a:Array Keyed} {i:Nat} {x z:Keyed} (sa:uJ rk a.toList) (h:a[i]?=some x) (hz:z∈a.toList.drop i):rk x<=rk z:=by
 obtain ⟨hi,rfl⟩:=Array.getElem?_eq_some_iff.mp h
 have sd:uJ rk (a.toList.drop i):=List.Pairwise.sublist (List.drop_sublist _ _) sa
 rw [List.drop_eq_getElem_cons (by simpa using hi)] at hz sd
 rcases List.mem_cons.mp hz with rfl|hz
 ·exact Int.le_refl _
 ·have:=(List.pairwise_cons.mp sd).1 z hz
  simpa using this
theorem Mg.xW (h:Mg rk a b out ia ib) (sa:uJ rk a.toList) (hx:a[ia]?=some x) (hc:∀ y∈b.toList.drop ib,rk x<=rk y):Mg rk a b (out.push x) (ia + 1) ib:=by
 rw [Ro hx]
 obtain ⟨hi,_⟩:=Array.getElem?_eq_some_iff.mp hx
 exact h.qg sa (by omega) fun z hz y hy=>by rw [ahr hx hz];exact hc y hy
theorem Mg.Fw (h:Mg rk a b out ia ib) (sb:uJ rk b.toList) (hx:b[ib]?=some x) (hc:∀ y∈a.toList.drop ia,rk x<=rk y):Mg rk a b (out.push x) ia (ib + 1):=(h.swap.xW sb hx hc).swap
theorem Mg.done (h:Mg rk a b out ia ib) (sa:uJ rk a.toList) (sb:uJ rk b.toList) (hc:∀ x∈a.toList.drop ia,∀ y∈b.toList.drop ib,rk x<=rk y):Cz rk a b (out++a.extract ia a.size++b.extract ib b.size):=by
 have ha:=h.ha;have hb:=h.hb
 have h1:=h.qg (k:=a.size - ia) sa (by omega) fun x hx y hy=>hc x (List.mem_of_mem_take hx) y hy
 rw [show ia + (a.size - ia)=a.size by omega] at h1
 have h2:=h1.Ib (k:=b.size - ib) sb (by omega) fun y hy x hx=>by rw [List.drop_eq_nil_of_le (by simp)] at hx;cases hx
 rw [show ib + (b.size - ib)=b.size by omega] at h2
 refine ⟨?_,h2.up⟩
 have:=h2.pm
 rw [List.drop_eq_nil_of_le (by simp),List.drop_eq_nil_of_le (by simp)] at this
 simpa using this
theorem Mg.Yn (h:Mg rk a b out ia ib) (sa:uJ rk a.toList) (sb:uJ rk b.toList) (hc:∀ y∈b.toList.drop ib,∀ x∈a.toList.drop ia,rk y<=rk x):Cz rk a b (out++b.extract ib b.size++a.extract ia a.size):=by
 obtain ⟨h1,h2⟩:=h.swap.done sb sa hc
 exact ⟨h1.trans List.perm_append_comm,h2⟩
theorem jK {a:Array Keyed} {i k:Nat} {z:Keyed} (hz:z∈(a.toList.drop i).take k):∃ j,j < k/\a[i + j]?=some z:=by
 obtain ⟨j,hj⟩:=List.mem_iff_getElem?.mp hz
 have hk:j < k:=by
  rcases Nat.lt_or_ge j k with h|h
  ·exact h
  ·rw [List.getElem?_take_eq_none h] at hj;cases hj
 rw [List.getElem?_take_of_lt hk,List.getElem?_drop] at hj
 exact ⟨j,hk,by simpa using hj⟩
theorem yI {a:Array Keyed} {i:Nat} {z:Keyed} (hz:z∈a.toList.drop i):∃ j,i + j < a.size/\a[i + j]?=some z:=by
 obtain ⟨j,hj⟩:=List.mem_iff_getElem?.mp hz
 rw [List.getElem?_drop] at hj
 have h2:a[i + j]?=some z:=by simpa using hj
 exact ⟨j,(Array.getElem?_eq_some_iff.mp h2).1,h2⟩
theorem LR (sa:uJ rk a.toList) (i n:Nat) (h:i + n<=a.size):Up rk a i n:=by
 intro p q hpq hq
 have hp':i + p < a.size:=by omega
 have hq':i + q < a.size:=by omega
 rw [gO (getElem?_pos a (i + p) hp'),gO (getElem?_pos a (i + q) hq')]
 by_cases e:p=q
 ·subst e;exact Int.le_refl _
 ·have:=List.pairwise_iff_getElem.mp sa (i + p) (i + q) (by simpa using hp') (by simpa using hq') (by omega)
  simpa using this
end
end Sb
namespace Sb
open PySem PySem.W PyProof.Rows
noncomputable def zF:Array Keyed->Array Keyed->StateT SortSt Sem (Array Keyed):=sortPriv% PySem.Builtin.mergeLo
noncomputable def mD (g:Nat):StateT SortSt Sem Unit:=modify fun s=>SortSt.mk' (kindOf s) (arrOf s) (pendingOf s) g (failedOf s)
theorem Ma (a b:Array Keyed):zF a b=(do
 rule "list.sort.merge-lo"
 let total:=a.size + b.size
 let done (out:Array Keyed) (ia ib:Nat):=out++a.extract ia a.size++b.extract ib b.size
 let lastOfA (out:Array Keyed) (ia ib:Nat):=out++b.extract ib b.size++a.extract ia a.size
 let mut out:Array Keyed:=#[<- elem' b 0]
 let mut ia:=0
 let mut ib:=1
 if ib == b.size then return done out ia ib
 if ia + 1 == a.size then return lastOfA out ia ib
 let mut minGallop:=gallopOf (<- get)
 for _ in [0:total] do
  let mut acount:=0
  let mut bcount:=0
  for _ in [0:total] do
   let some bWins <- lt' (<- elem' b ib) (<- elem' a ia)|return done out ia ib
   if bWins then
    out:=out.push (<- elem' b ib);ib:=ib + 1;bcount:=bcount + 1;acount:=0
    if ib == b.size then return done out ia ib
    if bcount ≥ minGallop then break
   else
    out:=out.push (<- elem' a ia);ia:=ia + 1;acount:=acount + 1;bcount:=0
    if ia + 1 == a.size then return lastOfA out ia ib
    if acount ≥ minGallop then break
  rule "list.sort.gallop"
  minGallop:=minGallop + 1
  for _ in [0:total] do
   if minGallop > 1 then minGallop:=minGallop - 1
   mD minGallop
   let some k <- gH false (<- elem' b ib) a ia (a.size - ia) 0|return done out ia ib
   acount:=k
   if k > 0 then
    out:=out++a.extract ia (ia + k);ia:=ia + k
    if ia + 1 == a.size then return lastOfA out ia ib
    if ia == a.size then return done out ia ib
   out:=out.push (<- elem' b ib);ib:=ib + 1
   if ib == b.size then return done out ia ib
   let some k <- gH true (<- elem' a ia) b ib (b.size - ib) 0|return done out ia ib
   bcount:=k
   if k > 0 then
    out:=out++b.extract ib (ib + k);ib:=ib + k
    if ib == b.size then return done out ia ib
   out:=out.push (<- elem' a ia);ia:=ia + 1
   if ia + 1 == a.size then return lastOfA out ia ib
   if acount < 7 && bcount < 7 then break
  minGallop:=minGallop + 1
  mD minGallop
 unsupported "internal:list.sort.merge-bound"):=rfl
noncomputable abbrev LoS:=Option (Array Keyed)×Array Keyed×Nat×Nat×Nat×Nat×Nat
noncomputable def Rp (a b out:Array Keyed) (ia ib mg ac bc:Nat):StateT SortSt Sem (ForInStep LoS):=do
 let x <- elem' a ia
 if (ia + 1 + 1 == a.size)=true then pure (.done (some (out.push x++b.extract ib b.size++a.extract (ia + 1) a.size),out.push x,ia + 1,ib,mg,ac,bc))
 else if (decide (ac < 7) && decide (bc < 7))=true then pure (.done (none,out.push x,ia + 1,ib,mg,ac,bc))
 else pure (.yield (none,out.push x,ia + 1,ib,mg,ac,bc))
noncomputable def Ie (a b out:Array Keyed) (ia ib mg ac bc:Nat):StateT SortSt Sem (ForInStep LoS):=do
 let y <- elem' b ib
 if (ib + 1 == b.size)=true then pure (.done (some (out.push y++a.extract ia a.size++b.extract (ib + 1) b.size),out.push y,ia,ib + 1,mg,ac,bc))
 else do
  let x <- elem' a ia
  let __x <- gH true x b (ib + 1) (b.size - (ib + 1)) 0
  match __x with
  | some k =>
   if k > 0 then
    if (ib + 1 + k == b.size)=true then pure (.done (some (out.push y++b.extract (ib + 1) (ib + 1 + k)++a.extract ia a.size++b.extract (ib + 1 + k) b.size),out.push y++b.extract (ib + 1) (ib + 1 + k),ia,ib + 1 + k,mg,ac,k))
    else Rp a b (out.push y++b.extract (ib + 1) (ib + 1 + k)) ia (ib + 1 + k) mg ac k
   else Rp a b (out.push y) ia (ib + 1) mg ac k
  | _=>pure (.done (some (out.push y++a.extract ia a.size++b.extract (ib + 1) b.size),out.push y,ia,ib + 1,mg,ac,bc))
noncomputable def cL (st st':SortSt):Prop:=arrOf st'=arrOf st/\kindOf st'=kindOf st/\pendingOf st'=pendingOf st/\failedOf st'=failedOf st
theorem cL.refl (st:SortSt):cL st st:=⟨rfl,rfl,rfl,rfl⟩
theorem cL.trans {x y z:SortSt} (h:cL x y) (g:cL y z):cL x z:=⟨g.1.trans h.1,g.2.1.trans h.2.1,g.2.2.1.trans h.2.2.1,g.2.2.2.trans h.2.2.2⟩
section
variable {prog:Program} {w:World} {A:Around} {E:Value->Shared->Prop} {s:Shared} {a₀:Array Keyed} {κ:SortKind} {rk:Keyed->Int} {a b:Array Keyed}
theorem mF {g:Nat} {Q:Unit->SortSt->Prop} {st:SortSt} (h:∀ st',cL st st'->Q () st'):wpS (model prog w) A E s (mD g) Q st :=
 wpS_modify (h _ ⟨rfl,rfl,rfl,rfl⟩)
structure Mf (prog:Program) (w:World) (A:Around) (s:Shared) (κ:SortKind) (rk:Keyed->Int) (a₀ a b:Array Keyed):Prop where
 h0:Ax prog w A s κ rk a₀
 sa:uJ rk a.toList
 sb:uJ rk b.toList
 ma:∀ x∈a.toList,x∈a₀.toList
 mb:∀ x∈b.toList,x∈a₀.toList
 la:0 < a.size
 lb:0 < b.size
 lt0:R rk b 0 < R rk a 0
 last:∀ x∈b.toList,rk x<=R rk a (a.size - 1)
theorem lF {xs:Array Keyed} {i:Nat} {x:Keyed} (h:xs[i]?=some x):x∈xs.toList:=by
 obtain ⟨hi,rfl⟩:=Array.getElem?_eq_some_iff.mp h
 simp
theorem dF {xs:Array Keyed} {i:Nat} (h:i < xs.size):∃ x,xs[i]?=some x:=⟨_,getElem?_pos xs i h⟩
theorem Mf.Rq (m:Mf prog w A s κ rk a₀ a b) {out:Array Keyed} {ia ib:Nat} (h:Mg rk a b out ia ib) (e:ia + 1=a.size):Cz rk a b (out++b.extract ib b.size++a.extract ia a.size):=by
 refine h.Yn m.sa m.sb fun y hy x hx=>?_
 obtain ⟨x',hx'⟩:=dF (xs:=a) (i:=ia) (by omega)
 have e1:=m.last y (List.mem_of_mem_drop hy)
 rw [show a.size - 1=ia by omega,gO hx'] at e1
 exact Int.le_trans e1 (nA m.sa hx' hx)
theorem Mf.abS (m:Mf prog w A s κ rk a₀ a b) {out:Array Keyed} {ia ib:Nat} (h:Mg rk a b out ia ib) (e:ib=b.size):Cz rk a b (out++a.extract ia a.size++b.extract ib b.size):=by
 refine h.done m.sa m.sb fun x hx y hy=>?_
 subst e
 rw [List.drop_eq_nil_of_le (by simp)] at hy;cases hy
noncomputable def LoQ (rk:Keyed->Int) (a b:Array Keyed) (κ:SortKind) (st:SortSt) (n:Nat):ForInStep LoS->SortSt->Prop:=fun r st'=>cL st st'/\match r with
 | .done c=>(∃ m,c.1=some m/\Cz rk a b m)∨(c.1=none/\Mg rk a b c.2.1 c.2.2.1 c.2.2.2.1/\c.2.2.1 + 1 < a.size/\c.2.2.2.1 < b.size/\n<=c.2.1.size)
 | .yield c=>c.1=none/\Mg rk a b c.2.1 c.2.2.1 c.2.2.2.1/\c.2.2.1 + 1 < a.size/\c.2.2.2.1 < b.size/\n < c.2.1.size
theorem Fx (m:Mf prog w A s κ rk a₀ a b) {out:Array Keyed} {ia ib mg ac bc n:Nat} {st0 st:SortSt} (hS:cL st0 st) (h:Mg rk a b out ia ib) (h1:ia + 1 < a.size) (h2:ib < b.size) (hn:n<=out.size) (hc:∀ x y,a[ia]?=some x->y∈b.toList.drop ib->rk x<=rk y) :
  wpS (model prog w) A E s (Rp a b out ia ib mg ac bc) (LoQ rk a b κ st0 n) st:=by
 unfold Rp
 obtain ⟨x,hx⟩:=dF (xs:=a) (i:=ia) (by omega)
 refine wpS_bind (bV hx ?_)
 have h':=h.xW m.sa hx (fun y hy=>hc x y hx hy)
 have sz:n < (out.push x).size:=by rw [Array.size_push];omega
 split
 ·rename_i e
  exact wpS_pure ⟨hS,.inl ⟨_,rfl,m.Rq h' (by simpa using e)⟩⟩
 ·rename_i e
  have e':ia + 1 + 1 < a.size:=by
   have:¬ ia + 1 + 1=a.size:=by simpa using e
   omega
  split
  ·exact wpS_pure ⟨hS,.inr ⟨rfl,h',e',h2,Nat.le_of_lt sz⟩⟩
  ·exact wpS_pure ⟨hS,rfl,h',e',h2,sz⟩
theorem zG (m:Mf prog w A s κ rk a₀ a b) {out:Array Keyed} {ia ib mg ac bc n:Nat} {st0 st:SortSt} (hk:kindOf st=κ) (hS:cL st0 st) (h:Mg rk a b out ia ib) (h1:ia + 1 < a.size) (h2:ib < b.size) (hn:n<=out.size) (hc:∀ y x,b[ib]?=some y->x∈a.toList.drop ia->rk y<=rk x) :
  wpS (model prog w) A E s (Ie a b out ia ib mg ac bc) (LoQ rk a b κ st0 n) st:=by
 unfold Ie
 obtain ⟨y,hy⟩:=dF (xs:=b) (i:=ib) h2
 refine wpS_bind (bV hy ?_)
 have h':=h.Fw m.sb hy (fun x hx=>hc y x hy hx)
 have sz:n < (out.push y).size:=by rw [Array.size_push];omega
 split
 ·rename_i e
  exact wpS_pure ⟨hS,.inl ⟨_,rfl,m.abS h' (by simpa using e)⟩⟩
 ·rename_i e
  have e':ib + 1 < b.size:=by
   have:¬ ib + 1=b.size:=by simpa using e
   omega
  obtain ⟨x,hx⟩:=dF (xs:=a) (i:=ia) (by omega)
  refine wpS_bind (bV hx ?_)
  refine wpS_bind (iM m.h0 hk (m.ma x (lF hx)) m.mb (by omega) (by omega) (LR m.sb _ _ (by omega)) fun k k1 k2 k3=>?_)
  have chunk:∀ z∈(b.toList.drop (ib + 1)).take k,∀ v∈a.toList.drop ia,rk z<=rk v:=fun z hz v hv=>by
   obtain ⟨j,hj,ej⟩:=jK hz
   have:=k2 j hj
   unfold bp at this
   rw [gO ej] at this
   have q:rk z < rk x:=by simpa using this
   exact Int.le_trans (Int.le_of_lt q) (nA m.sa hx hv)
  have rest:∀ v,v∈b.toList.drop (ib + 1 + k)->rk x<=rk v:=fun v hv=>by
   obtain ⟨j,hj,ej⟩:=yI hv
   rw [Nat.add_assoc (ib + 1) k j] at ej
   have:=k3 (k + j) (by omega) (by omega)
   unfold bp at this
   rw [gO ej] at this
   simpa using this
  dsimp only
  split
  ·rename_i kp
   have h'':=h'.Ib m.sb (k:=k) (by omega) chunk
   have sz':n<=(out.push y++b.extract (ib + 1) (ib + 1 + k)).size:=by rw [Array.size_append];omega
   split
   ·rename_i e2
    exact wpS_pure ⟨hS,.inl ⟨_,rfl,m.abS h'' (by simpa using e2)⟩⟩
   ·rename_i e2
    have e2':ib + 1 + k < b.size:=by
     have:¬ ib + 1 + k=b.size:=by simpa using e2
     omega
    exact Fx m hS h'' h1 e2' sz' fun x' v hx' hv=>by rw [hx] at hx';cases hx';exact rest v hv
  ·rename_i kp
   obtain rfl:k=0:=by omega
   exact Fx m hS h' h1 e' (Nat.le_of_lt sz) fun x' v hx' hv=>by rw [hx] at hx';cases hx';exact rest v hv
end
end Sb
namespace Sb
open PySem PySem.W PyProof.Rows
section
variable {prog:Program} {w:World} {A:Around} {E:Value->Shared->Prop} {s:Shared} {a₀:Array Keyed} {κ:SortKind} {rk:Keyed->Int} {a b:Array Keyed}
theorem Mg.nil:Mg rk a b #[] 0 0:=⟨Nat.zero_le _,Nat.zero_le _,rfl,by simp,by simp,fun x hx=>by simp at hx⟩
theorem fD {a b:Nat} (h:¬ (a == b)=true):a≠b:=fun e=>h (by simp [e])
theorem je {a b:Nat} (h:(a == b)=true):a=b:=by simpa using h
theorem bZ {α:Type} {c:Prop} [Decidable c] {t f:StateT SortSt Sem α} {Q:α->SortSt->Prop} {st:SortSt} (ht:c->wpS (model prog w) A E s t Q st) (hf:¬ c->wpS (model prog w) A E s f Q st):wpS (model prog w) A E s (if c then t else f) Q st:=by
 by_cases h:c
 ·rw [if_pos h];exact ht h
 ·rw [if_neg h];exact hf h
theorem zH (m:Mf prog w A s κ rk a₀ a b) {out:Array Keyed} {ia ib n:Nat} {st0 st:SortSt} (hk:kindOf st=κ) (hS:cL st0 st) (h:Mg rk a b out ia ib) (h1:ia + 1 < a.size) (h2:ib < b.size) (hn:n<=out.size)
  {f:Option Nat->StateT SortSt Sem (ForInStep LoS)} {mg bc:Nat} (hf:∀ k,f (some k)=if k > 0 then
    if (ia + k + 1 == a.size)=true then pure (.done (some (out++a.extract ia (ia + k)++b.extract ib b.size++a.extract (ia + k) a.size),out++a.extract ia (ia + k),ia + k,ib,mg,k,bc))
    else if (ia + k == a.size)=true then pure (.done (some (out++a.extract ia (ia + k)++a.extract (ia + k) a.size++b.extract ib b.size),out++a.extract ia (ia + k),ia + k,ib,mg,k,bc))
    else Ie a b (out++a.extract ia (ia + k)) (ia + k) ib mg k bc
   else Ie a b out ia ib mg k bc) :
  wpS (model prog w) A E s (do let y <- elem' b ib;let r <- gH false y a ia (a.size - ia) 0;f r) (LoQ rk a b κ st0 n) st:=by
 obtain ⟨y,hy⟩:=dF (xs:=b) (i:=ib) h2
 refine wpS_bind (bV hy ?_)
 refine wpS_bind (iM m.h0 hk (m.mb y (lF hy)) m.ma (by omega) (by omega) (LR m.sa _ _ (by omega)) fun k k1 k2 k3=>?_)
 rw [hf]
 have chunk:∀ z∈(a.toList.drop ia).take k,∀ v∈b.toList.drop ib,rk z<=rk v:=fun z hz v hv=>by
  obtain ⟨j,hj,ej⟩:=jK hz
  have:=k2 j hj
  unfold bp at this
  rw [gO ej] at this
  have q:rk z<=rk y:=by simpa using this
  exact Int.le_trans q (nA m.sb hy hv)
 have rest:∀ v,v∈a.toList.drop (ia + k)->rk y<=rk v:=fun v hv=>by
  obtain ⟨j,hj,ej⟩:=yI hv
  rw [Nat.add_assoc ia k j] at ej
  have:=k3 (k + j) (by omega) (by omega)
  unfold bp at this
  rw [gO ej] at this
  have q:rk y < rk v:=by simpa using this
  exact Int.le_of_lt q
 split
 ·rename_i kp
  have h':=h.qg m.sa (k:=k) (by omega) chunk
  have sz':n<=(out++a.extract ia (ia + k)).size:=by rw [Array.size_append];omega
  split
  ·rename_i e
   exact wpS_pure ⟨hS,.inl ⟨_,rfl,m.Rq h' (je e)⟩⟩
  ·rename_i e
   have e:=fD e
   split
   ·rename_i e2
    refine wpS_pure ⟨hS,.inl ⟨_,rfl,h'.done m.sa m.sb fun x hx=>?_⟩⟩
    rw [je e2,List.drop_eq_nil_of_le (by simp)] at hx;cases hx
   ·rename_i e2
    have e2:=fD e2
    exact zG m hk hS h' (by omega) h2 sz' fun y' x hy' hx=>by rw [hy] at hy';cases hy';exact rest x hx
 ·rename_i kp
  obtain rfl:k=0:=by omega
  exact zG m hk hS h h1 h2 hn fun y' x hy' hx=>by rw [hy] at hy';cases hy';exact rest x hx
theorem Mi (m:Mf prog w A s κ rk a₀ a b) {st:SortSt} (hk:kindOf st=κ) {Q:Array Keyed->SortSt->Prop} (h:∀ mm st',cL st st'->Cz rk a b mm->Q mm st') :
  wpS (model prog w) A E s (zF a b) Q st:=by
 rw [Ma]
 dsimp only
 refine wpS_bind (wpS_lift (wpAny_rule ⟨rfl,?_⟩))
 obtain ⟨y0,hy0⟩:=dF (xs:=b) (i:=0) m.lb
 obtain ⟨x0,hx0⟩:=dF (xs:=a) (i:=0) m.la
 refine wpS_bind (bV hy0 ?_)
 have l0:=m.lt0
 rw [gO hy0,gO hx0] at l0
 have M0:Mg rk a b #[y0] 0 1:=Mg.nil.Fw m.sb hy0 fun v hv=>Int.le_trans (Int.le_of_lt l0) (nA m.sa hx0 hv)
 have la:=m.la
 have lb:=m.lb
 refine bZ (fun e=>wpS_pure (h _ _ (.refl _) (m.abS M0 (je e)))) fun e1=>?_
 have e1:=fD e1
 refine bZ (fun e=>wpS_pure (h _ _ (.refl _) (m.Rq M0 (je e)))) fun e2=>?_
 have e2:=fD e2
 refine wpS_bind (wpS_get ?_)
 refine wpS_bind (wpS_mono (wpS_forRange (I:=fun x c st'=>cL st st'/\∃ out ia ib mg,c=(none,out,ia,ib,mg)/\Mg rk a b out ia ib/\ia + 1 < a.size/\ib < b.size/\x + 1<=out.size)
  (Q:=fun c st'=>cL st st'/\∃ mm rest,c=(some mm,rest)/\Cz rk a b mm) ?step ?dH ⟨.refl _,#[y0],0,1,_,rfl,M0,by omega,by omega,by simp⟩) ?post)
 case post =>
  rintro c st' ⟨hS,mm,rest,rfl,hr⟩
  exact wpS_pure (h mm st' hS hr)
 case dH =>
  rintro c st' ⟨hS,out,ia,ib,mg,rfl,hM,h1,h2,h3⟩
  have:=hM.sz
  omega
 case step =>
  rintro x c st' _ hx ⟨hS,out,ia,ib,mg,rfl,hM,h1,h2,h3⟩
  dsimp only
  refine wpS_bind (wpS_mono (wpS_forRange (I:=fun y c st''=>cL st st''/\∃ out ia ib ac bc,c=(none,out,ia,ib,ac,bc)/\Mg rk a b out ia ib/\ia + 1 < a.size/\ib < b.size/\x + 1 + y<=out.size)
   (Q:=fun c st''=>cL st st''/\((∃ mm rest,c=(some mm,rest)/\Cz rk a b mm)∨∃ out ia ib ac bc,c=(none,out,ia,ib,ac,bc)/\Mg rk a b out ia ib/\ia + 1 < a.size/\ib < b.size/\x + 2<=out.size)) ?istep ?ifin ⟨hS,out,ia,ib,0,0,rfl,hM,h1,h2,by omega⟩) ?ipost)
  case ifin =>
   rintro c st'' ⟨hS,out,ia,ib,ac,bc,rfl,hM,h1,h2,h3⟩
   have:=hM.sz
   omega
  case istep =>
   rintro y c st'' _ hy ⟨hS,out,ia,ib,ac,bc,rfl,hM,h1,h2,h3⟩
   dsimp only
   obtain ⟨p,hp⟩:=dF (xs:=b) (i:=ib) h2
   obtain ⟨q,hq⟩:=dF (xs:=a) (i:=ia) (by omega)
   refine wpS_bind (bV hp (wpS_bind (bV hq (wpS_bind (zB m.h0 (hS.2.1.trans hk) (m.mb p (lF hp)) (m.ma q (lF hq)) ?_)))))
   by_cases c:rk p < rk q
   ·simp only [c,decide_true,if_true]
    refine wpS_bind (bV hp ?_)
    have hM':=hM.Fw m.sb hp fun v hv=>Int.le_trans (Int.le_of_lt c) (nA m.sa hq hv)
    split
    ·rename_i e
     exact wpS_pure ⟨hS,.inl ⟨_,_,rfl,m.abS hM' (je e)⟩⟩
    ·rename_i e
     have e:=fD e
     split
     ·exact wpS_pure ⟨hS,.inr ⟨_,_,_,_,_,rfl,hM',h1,by omega,by rw [Array.size_push];omega⟩⟩
     ·exact wpS_pure ⟨hS,_,_,_,_,_,rfl,hM',h1,by omega,by rw [Array.size_push];omega⟩
   ·simp only [c,decide_false,Bool.false_eq_true,if_false]
    refine wpS_bind (bV hq ?_)
    have hM':=hM.xW m.sa hq fun v hv=>Int.le_trans (Int.not_lt.mp c) (nA m.sb hp hv)
    split
    ·rename_i e
     exact wpS_pure ⟨hS,.inl ⟨_,_,rfl,m.Rq hM' (je e)⟩⟩
    ·rename_i e
     have e:=fD e
     split
     ·exact wpS_pure ⟨hS,.inr ⟨_,_,_,_,_,rfl,hM',by omega,h2,by rw [Array.size_push];omega⟩⟩
     ·exact wpS_pure ⟨hS,_,_,_,_,_,rfl,hM',by omega,h2,by rw [Array.size_push];omega⟩
  case ipost =>
   rintro c st'' ⟨hS,⟨mm,rest,rfl,hr⟩|⟨out,ia,ib,ac,bc,rfl,hM,h1,h2,h3⟩⟩
   ·exact wpS_pure ⟨hS,mm,_,rfl,hr⟩
   ·dsimp only
    refine wpS_bind (wpS_lift (wpAny_rule ⟨rfl,?_⟩))
    refine wpS_bind (wpS_mono (wpS_forRange (I:=fun y c st3=>cL st st3/\∃ out ia ib mg ac bc,c=(none,out,ia,ib,mg,ac,bc)/\Mg rk a b out ia ib/\ia + 1 < a.size/\ib < b.size/\x + 2 + y<=out.size)
     (Q:=fun c st3=>cL st st3/\((∃ mm rest,c=(some mm,rest)/\Cz rk a b mm)∨∃ out ia ib mg ac bc,c=(none,out,ia,ib,mg,ac,bc)/\Mg rk a b out ia ib/\ia + 1 < a.size/\ib < b.size/\x + 2<=out.size)) ?Yo ?aeZ ⟨hS,out,ia,ib,_,ac,bc,rfl,hM,h1,h2,by omega⟩) ?Yp)
    case aeZ =>
     rintro c st3 ⟨hS,out,ia,ib,mg,ac,bc,rfl,hM,h1,h2,h3⟩
     have:=hM.sz
     omega
    case Yp =>
     rintro c st3 ⟨hS,⟨mm,rest,rfl,hr⟩|⟨out,ia,ib,mg,ac,bc,rfl,hM,h1,h2,h3⟩⟩
     ·exact wpS_pure ⟨hS,mm,_,rfl,hr⟩
     ·dsimp only
      refine wpS_bind (mF fun Fg Kl=>?_)
      exact wpS_pure ⟨hS.trans Kl,_,_,_,_,rfl,hM,h1,h2,by omega⟩
    case Yo =>
     rintro y c st3 _ hy ⟨hS,out,ia,ib,mg,ac,bc,rfl,hM,h1,h2,h3⟩
     have cD:∀ (c:LoS) (st':SortSt),LoQ rk a b κ st (x + 2 + y) (.done c) st'->cL st st'/\((∃ mm rest,c=(some mm,rest)/\Cz rk a b mm)∨∃ out ia ib mg ac bc,c=(none,out,ia,ib,mg,ac,bc)/\Mg rk a b out ia ib/\ia + 1 < a.size/\ib < b.size/\x + 2<=out.size):=by
      rintro ⟨c1,out,ia,ib,mg,ac,bc⟩ st' ⟨hS,⟨mm,e,hr⟩|⟨e,hM,h1,h2,h3⟩⟩
      ·cases e;exact ⟨hS,.inl ⟨mm,_,rfl,hr⟩⟩
      ·cases e;dsimp only at h1 h2 h3;exact ⟨hS,.inr ⟨_,_,_,_,_,_,rfl,hM,h1,h2,by omega⟩⟩
     have cY:∀ (c:LoS) (st':SortSt),LoQ rk a b κ st (x + 2 + y) (.yield c) st'->cL st st'/\∃ out ia ib mg ac bc,c=(none,out,ia,ib,mg,ac,bc)/\Mg rk a b out ia ib/\ia + 1 < a.size/\ib < b.size/\x + 2 + (y + 1)<=out.size:=by
      rintro ⟨c1,out,ia,ib,mg,ac,bc⟩ st' ⟨hS,e,hM,h1,h2,h3⟩
      cases e;dsimp only at h1 h2 h3;exact ⟨hS,_,_,_,_,_,_,rfl,hM,h1,h2,by omega⟩
     dsimp only
     refine bZ (fun _=>?_) (fun _=>?_)
     ·refine wpS_bind (mF fun Fg Kl=>?_)
      exact wpS_mono (zH m ((hS.trans Kl).2.1.trans hk) (hS.trans Kl) hM h1 h2 h3 (fun k=>rfl)) fun r st' hq=>match r,hq with|.done c,hq=>cD c st' hq|.yield c,hq=>cY c st' hq
     ·refine wpS_bind (mF fun Fg Kl=>?_)
      exact wpS_mono (zH m ((hS.trans Kl).2.1.trans hk) (hS.trans Kl) hM h1 h2 h3 (fun k=>rfl)) fun r st' hq=>match r,hq with|.done c,hq=>cD c st' hq|.yield c,hq=>cY c st' hq
end
end Sb
namespace Sb
open PySem PySem.W PyProof.Rows
noncomputable def zJ:Array Keyed->Array Keyed->StateT SortSt Sem (Array Keyed):=sortPriv% PySem.Builtin.mergeHi
theorem Mj (a b:Array Keyed):zJ a b=(do
 rule "list.sort.merge-hi"
 let total:=a.size + b.size
 let done (out:Array Keyed) (na nb:Nat):=a.extract 0 na++b.extract 0 nb++out.reverse
 let firstOfB (out:Array Keyed) (na nb:Nat):=b.extract 0 nb++a.extract 0 na++out.reverse
 let mut na:=a.size - 1
 let mut nb:=b.size
 let mut out:Array Keyed:=#[<- elem' a na]
 if na == 0 then return done out na nb
 if nb == 1 then return firstOfB out na nb
 let mut minGallop:=gallopOf (<- get)
 for _ in [0:total] do
  let mut acount:=0
  let mut bcount:=0
  for _ in [0:total] do
   let some aWins <- lt' (<- elem' b (nb - 1)) (<- elem' a (na - 1))|return done out na nb
   if aWins then
    na:=na - 1;out:=out.push (<- elem' a na);acount:=acount + 1;bcount:=0
    if na == 0 then return done out na nb
    if acount ≥ minGallop then break
   else
    nb:=nb - 1;out:=out.push (<- elem' b nb);bcount:=bcount + 1;acount:=0
    if nb == 1 then return firstOfB out na nb
    if bcount ≥ minGallop then break
  rule "list.sort.gallop"
  minGallop:=minGallop + 1
  for _ in [0:total] do
   if minGallop > 1 then minGallop:=minGallop - 1
   mD minGallop
   let some at_ <- gH false (<- elem' b (nb - 1)) a 0 na (na - 1)|return done out na nb
   let k:=na - at_
   acount:=k
   if k > 0 then
    out:=out++(a.extract at_ na).reverse;na:=at_
    if na == 0 then return done out na nb
   nb:=nb - 1;out:=out.push (<- elem' b nb)
   if nb == 1 then return firstOfB out na nb
   let some at_ <- gH true (<- elem' a (na - 1)) b 0 nb (nb - 1)|return done out na nb
   let k:=nb - at_
   bcount:=k
   if k > 0 then
    out:=out++(b.extract at_ nb).reverse;nb:=at_
    if nb == 1 then return firstOfB out na nb
    if nb == 0 then return done out na nb
   na:=na - 1;out:=out.push (<- elem' a na)
   if na == 0 then return done out na nb
   if acount < 7 && bcount < 7 then break
  minGallop:=minGallop + 1
  mD minGallop
 unsupported "internal:list.sort.merge-bound"):=rfl
structure Mh (rk:Keyed->Int) (a b out:Array Keyed) (na nb:Nat):Prop where
 ha:na<=a.size
 hb:nb<=b.size
 sz:out.size + (na + nb)=a.size + b.size
 pm:((a.toList.take na++b.toList.take nb)++out.toList.reverse).Perm (a.toList++b.toList)
 up:uJ rk out.toList.reverse
 bd:∀ y∈a.toList.take na++b.toList.take nb,∀ x∈out.toList,rk y<=rk x
section
variable {rk:Keyed->Int} {a b out:Array Keyed} {na nb k:Nat} {x y:Keyed}
theorem Pr (l:List Keyed) {i n:Nat} (h:i<=n):l.take n=l.take i++(l.take n).drop i:=by
 conv=>lhs;rw [<- List.take_append_drop i (l.take n)]
 rw [List.take_take,Nat.min_eq_left h]
theorem Mh.qg (h:Mh rk a b out na nb) (sa:uJ rk a.toList) (hk:k<=na) (hc:∀ x∈(a.toList.take na).drop k,∀ y∈b.toList.take nb,rk y<=rk x):Mh rk a b (out++(a.extract k na).reverse) k nb:=by
 have ha:=h.ha
 have e:(a.extract k na).toList=(a.toList.take na).drop k:=by rw [nu,List.drop_take]
 have sp:=Pr a.toList hk
 have sd:uJ rk (a.toList.take na):=List.Pairwise.sublist (List.take_sublist _ _) sa
 rw [sp] at sd
 obtain ⟨s1,s2,s3⟩:=List.pairwise_append.mp sd
 have er:(out++(a.extract k na).reverse).toList.reverse=(a.toList.take na).drop k++out.toList.reverse:=by
  rw [Array.toList_append,List.reverse_append,Array.toList_reverse,List.reverse_reverse,e]
 refine ⟨by omega,h.hb,?_,?_,?_,?_⟩
 ·have:=h.sz
  rw [Array.size_append,Array.size_reverse,Array.size_extract];omega
 ·rw [er]
  refine List.Perm.trans ?_ h.pm
  conv=>rhs;rw [sp]
  simp only [List.append_assoc]
  refine List.Perm.append_left _ ?_
  rw [<- List.append_assoc,<- List.append_assoc]
  exact List.Perm.append_right _ List.perm_append_comm
 ·rw [er]
  refine List.pairwise_append.mpr ⟨s2,h.up,fun x hx y hy=>h.bd x ?_ y (List.mem_reverse.mp hy)⟩
  rw [sp];simp [hx]
 ·intro y hy x hx
  have hx':x∈(a.toList.take na).drop k++out.toList.reverse:=by rw [<- er];exact List.mem_reverse.mpr hx
  rcases List.mem_append.mp hx' with hx|hx
  ·rcases List.mem_append.mp hy with hy|hy
   ·exact s3 y hy x hx
   ·exact hc x hx y hy
  ·refine h.bd y ?_ x (List.mem_reverse.mp hx)
   rw [sp]
   rcases List.mem_append.mp hy with hy|hy <;> simp [hy]
theorem Mh.swap (h:Mh rk a b out na nb):Mh rk b a out nb na:=by
 refine ⟨h.hb,h.ha,by have:=h.sz;omega,?_,h.up,fun y hy x hx=>h.bd y ?_ x hx⟩
 ·exact (List.Perm.append_right _ List.perm_append_comm).trans (h.pm.trans List.perm_append_comm)
 ·rcases List.mem_append.mp hy with hy|hy <;> simp [hy]
theorem Mh.Ib (h:Mh rk a b out na nb) (sb:uJ rk b.toList) (hk:k<=nb) (hc:∀ y∈(b.toList.take nb).drop k,∀ x∈a.toList.take na,rk x<=rk y):Mh rk a b (out++(b.extract k nb).reverse) na k :=
 (h.swap.qg sb hk hc).swap
theorem Yq {a:Array Keyed} {n:Nat} {x:Keyed} (hn:0 < n) (h:a[n - 1]?=some x):out.push x=out++(a.extract (n - 1) n).reverse:=by
 have e:=Ro (out:=#[]) h
 have e2:a.extract (n - 1) n=#[x]:=by
  rw [show n - 1 + 1=n by omega] at e
  simpa using e.symm
 rw [e2];rfl
theorem ajn {a:Array Keyed} {n:Nat} {x z:Keyed} (hn:0 < n) (h:a[n - 1]?=some x) (hz:z∈(a.toList.take n).drop (n - 1)):z=x:=by
 obtain ⟨j,hj⟩:=List.mem_iff_getElem?.mp hz
 rw [List.getElem?_drop] at hj
 have hl:n - 1 + j < n:=by
  rcases Nat.lt_or_ge (n - 1 + j) n with q|q
  ·exact q
  ·rw [List.getElem?_take_eq_none q] at hj;cases hj
 obtain rfl:j=0:=by omega
 rw [List.getElem?_take_of_lt hl] at hj
 have:a[n - 1]?=some z:=by simpa using hj
 rw [this] at h;cases h;rfl
theorem vm {a:Array Keyed} {n:Nat} {x z:Keyed} (hn:0 < n) (sa:uJ rk a.toList) (h:a[n - 1]?=some x) (hz:z∈a.toList.take n):rk z<=rk x:=by
 obtain ⟨j,hj⟩:=List.mem_iff_getElem?.mp hz
 have hl:j < n:=by
  rcases Nat.lt_or_ge j n with q|q
  ·exact q
  ·rw [List.getElem?_take_eq_none q] at hj;cases hj
 rw [List.getElem?_take_of_lt hl] at hj
 have hj':a[j]?=some z:=by simpa using hj
 obtain ⟨q1,_⟩:=Array.getElem?_eq_some_iff.mp hj'
 obtain ⟨q2,_⟩:=Array.getElem?_eq_some_iff.mp h
 have:=LR sa 0 a.size (by omega) j (n - 1) (by omega) (by omega)
 rw [Nat.zero_add,Nat.zero_add,gO hj',gO h] at this
 exact this
theorem Mh.xW (h:Mh rk a b out na nb) (sa:uJ rk a.toList) (hn:0 < na) (hx:a[na - 1]?=some x) (hc:∀ y∈b.toList.take nb,rk y<=rk x):Mh rk a b (out.push x) (na - 1) nb:=by
 rw [Yq hn hx]
 exact h.qg sa (by omega) fun z hz y hy=>by rw [ajn hn hx hz];exact hc y hy
theorem Mh.Fw (h:Mh rk a b out na nb) (sb:uJ rk b.toList) (hn:0 < nb) (hx:b[nb - 1]?=some x) (hc:∀ y∈a.toList.take na,rk y<=rk x):Mh rk a b (out.push x) na (nb - 1):=(h.swap.xW sb hn hx hc).swap
theorem Mh.done (h:Mh rk a b out na nb) (sa:uJ rk a.toList) (sb:uJ rk b.toList) (hc:∀ x∈a.toList.take na,∀ y∈b.toList.take nb,rk x<=rk y):Cz rk a b (a.extract 0 na++b.extract 0 nb++out.reverse):=by
 have e:(a.extract 0 na++b.extract 0 nb++out.reverse).toList=(a.toList.take na++b.toList.take nb)++out.toList.reverse:=by
  rw [Array.toList_append,Array.toList_append,nu,nu,Array.toList_reverse]
  simp
 refine ⟨by rw [e];exact h.pm,?_⟩
 rw [e]
 refine List.pairwise_append.mpr ⟨List.pairwise_append.mpr ⟨List.Pairwise.sublist (List.take_sublist _ _) sa,List.Pairwise.sublist (List.take_sublist _ _) sb,hc⟩,h.up,fun y hy x hx=>h.bd y hy x (List.mem_reverse.mp hx)⟩
theorem Mh.Yn (h:Mh rk a b out na nb) (sa:uJ rk a.toList) (sb:uJ rk b.toList) (hc:∀ y∈b.toList.take nb,∀ x∈a.toList.take na,rk y<=rk x):Cz rk a b (b.extract 0 nb++a.extract 0 na++out.reverse):=by
 obtain ⟨h1,h2⟩:=h.swap.done sb sa hc
 exact ⟨h1.trans List.perm_append_comm,h2⟩
theorem Ig {a:Array Keyed} {n k:Nat} {z:Keyed} (hz:z∈(a.toList.take n).drop k):∃ j,k<=j/\j < n/\a[j]?=some z:=by
 obtain ⟨j,hj⟩:=List.mem_iff_getElem?.mp hz
 rw [List.getElem?_drop] at hj
 have hl:k + j < n:=by
  rcases Nat.lt_or_ge (k + j) n with q|q
  ·exact q
  ·rw [List.getElem?_take_eq_none q] at hj;cases hj
 rw [List.getElem?_take_of_lt hl] at hj
 exact ⟨k + j,by omega,hl,by simpa using hj⟩
theorem Rr {a:Array Keyed} {n:Nat} {z:Keyed} (hz:z∈a.toList.take n):∃ j,j < n/\a[j]?=some z:=by
 obtain ⟨j,_,h2,h3⟩:=Ig (k:=0) (by simpa using hz)
 exact ⟨j,h2,h3⟩
theorem Mh.nil:Mh rk a b #[] a.size b.size:=⟨Nat.le_refl _,Nat.le_refl _,by simp,by rw [List.take_of_length_le (by simp),List.take_of_length_le (by simp)];simp,by simp,fun y _ x hx=>by simp at hx⟩
end
end Sb
namespace Sb
open PySem PySem.W PyProof.Rows
noncomputable abbrev HiS:=Option (Array Keyed)×Nat×Nat×Array Keyed×Nat×Nat×Nat
noncomputable def Rt (a b out:Array Keyed) (na nb mg ac bc:Nat):StateT SortSt Sem (ForInStep HiS):=do
 let x <- elem' a (na - 1)
 if (na - 1 == 0)=true then pure (.done (some (a.extract 0 (na - 1)++b.extract 0 nb++(out.push x).reverse),na - 1,nb,out.push x,mg,ac,bc))
 else if (decide (ac < 7) && decide (bc < 7))=true then pure (.done (none,na - 1,nb,out.push x,mg,ac,bc))
 else pure (.yield (none,na - 1,nb,out.push x,mg,ac,bc))
noncomputable def Ih (a b out:Array Keyed) (na nb mg ac bc:Nat):StateT SortSt Sem (ForInStep HiS):=do
 let y <- elem' b (nb - 1)
 if (nb - 1 == 1)=true then pure (.done (some (b.extract 0 (nb - 1)++a.extract 0 na++(out.push y).reverse),na,nb - 1,out.push y,mg,ac,bc))
 else do
  let x <- elem' a (na - 1)
  let __x <- gH true x b 0 (nb - 1) (nb - 1 - 1)
  match __x with
  | some k =>
   if nb - 1 - k > 0 then
    if (k == 1)=true then pure (.done (some (b.extract 0 k++a.extract 0 na++(out.push y++(b.extract k (nb - 1)).reverse).reverse),na,k,out.push y++(b.extract k (nb - 1)).reverse,mg,ac,nb - 1 - k))
    else if (k == 0)=true then pure (.done (some (a.extract 0 na++b.extract 0 k++(out.push y++(b.extract k (nb - 1)).reverse).reverse),na,k,out.push y++(b.extract k (nb - 1)).reverse,mg,ac,nb - 1 - k))
    else Rt a b (out.push y++(b.extract k (nb - 1)).reverse) na k mg ac (nb - 1 - k)
   else Rt a b (out.push y) na (nb - 1) mg ac (nb - 1 - k)
  | _=>pure (.done (some (a.extract 0 na++b.extract 0 (nb - 1)++(out.push y).reverse),na,nb - 1,out.push y,mg,ac,bc))
section
variable {prog:Program} {w:World} {A:Around} {E:Value->Shared->Prop} {s:Shared} {a₀:Array Keyed} {κ:SortKind} {rk:Keyed->Int} {a b:Array Keyed}
theorem Mf.abT (m:Mf prog w A s κ rk a₀ a b) {out:Array Keyed} {na nb:Nat} (h:Mh rk a b out na nb) (e:nb=1):Cz rk a b (b.extract 0 nb++a.extract 0 na++out.reverse):=by
 refine h.Yn m.sa m.sb fun y hy x hx=>?_
 subst e
 obtain ⟨x',hx'⟩:=dF (xs:=a) (i:=0) m.la
 obtain ⟨y',hy'⟩:=dF (xs:=b) (i:=0) m.lb
 have e1:=m.lt0
 rw [gO hx',gO hy'] at e1
 have e2:=vm (n:=1) (by omega) m.sb hy' hy
 have e3:=nA (i:=0) m.sa hx' (by simpa using List.mem_of_mem_take hx)
 omega
theorem Mf.noA (m:Mf prog w A s κ rk a₀ a b) {out:Array Keyed} {na nb:Nat} (h:Mh rk a b out na nb) (e:na=0):Cz rk a b (a.extract 0 na++b.extract 0 nb++out.reverse):=by
 refine h.done m.sa m.sb fun x hx=>?_
 subst e
 simp at hx
noncomputable def HiQ (rk:Keyed->Int) (a b:Array Keyed) (κ:SortKind) (st:SortSt) (n:Nat):ForInStep HiS->SortSt->Prop:=fun r st'=>cL st st'/\match r with
 | .done c=>(∃ m,c.1=some m/\Cz rk a b m)∨(c.1=none/\Mh rk a b c.2.2.2.1 c.2.1 c.2.2.1/\0 < c.2.1/\1 < c.2.2.1/\n<=c.2.2.2.1.size)
 | .yield c=>c.1=none/\Mh rk a b c.2.2.2.1 c.2.1 c.2.2.1/\0 < c.2.1/\1 < c.2.2.1/\n < c.2.2.2.1.size
theorem Fy (m:Mf prog w A s κ rk a₀ a b) {out:Array Keyed} {na nb mg ac bc n:Nat} {st0 st:SortSt} (hS:cL st0 st) (h:Mh rk a b out na nb) (h1:0 < na) (h2:1 < nb) (hn:n<=out.size) (hc:∀ x y,a[na - 1]?=some x->y∈b.toList.take nb->rk y<=rk x) :
  wpS (model prog w) A E s (Rt a b out na nb mg ac bc) (HiQ rk a b κ st0 n) st:=by
 unfold Rt
 have ha:=h.ha
 obtain ⟨x,hx⟩:=dF (xs:=a) (i:=na - 1) (by omega)
 refine wpS_bind (bV hx ?_)
 have h':=h.xW m.sa h1 hx (fun y hy=>hc x y hx hy)
 have sz:n < (out.push x).size:=by rw [Array.size_push];omega
 refine bZ (fun e=>wpS_pure ⟨hS,.inl ⟨_,rfl,m.noA h' (je e)⟩⟩) fun e=>?_
 have e:=fD e
 exact bZ (fun _=>wpS_pure ⟨hS,.inr ⟨rfl,h',by show 0 < na - 1;omega,h2,Nat.le_of_lt sz⟩⟩) fun _=>wpS_pure ⟨hS,rfl,h',by show 0 < na - 1;omega,h2,sz⟩
theorem zK (m:Mf prog w A s κ rk a₀ a b) {out:Array Keyed} {na nb mg ac bc n:Nat} {st0 st:SortSt} (hk:kindOf st=κ) (hS:cL st0 st) (h:Mh rk a b out na nb) (h1:0 < na) (h2:1 < nb) (hn:n<=out.size) (hc:∀ y x,b[nb - 1]?=some y->x∈a.toList.take na->rk x<=rk y) :
  wpS (model prog w) A E s (Ih a b out na nb mg ac bc) (HiQ rk a b κ st0 n) st:=by
 unfold Ih
 have ha:=h.ha
 have hb:=h.hb
 obtain ⟨y,hy⟩:=dF (xs:=b) (i:=nb - 1) (by omega)
 refine wpS_bind (bV hy ?_)
 have h':=h.Fw m.sb (by omega) hy (fun x hx=>hc y x hy hx)
 have sz:n < (out.push y).size:=by rw [Array.size_push];omega
 refine bZ (fun e=>wpS_pure ⟨hS,.inl ⟨_,rfl,m.abT h' (je e)⟩⟩) fun e=>?_
 have e:=fD e
 obtain ⟨x,hx⟩:=dF (xs:=a) (i:=na - 1) (by omega)
 refine wpS_bind (bV hx ?_)
 refine wpS_bind (iM m.h0 hk (m.ma x (lF hx)) m.mb (by omega) (by omega) (LR m.sb _ _ (by omega)) fun k k1 k2 k3=>?_)
 have chunk:∀ z∈(b.toList.take (nb - 1)).drop k,∀ v∈a.toList.take na,rk v<=rk z:=fun z hz v hv=>by
  obtain ⟨j,j1,j2,ej⟩:=Ig hz
  have:=k3 j j1 j2
  unfold bp at this
  rw [Nat.zero_add,gO ej] at this
  have q:rk x<=rk z:=by simpa using this
  exact Int.le_trans (vm h1 m.sa hx hv) q
 have rest:∀ v,v∈b.toList.take k->rk v<=rk x:=fun v hv=>by
  obtain ⟨j,hj,ej⟩:=Rr hv
  have:=k2 j hj
  unfold bp at this
  rw [Nat.zero_add,gO ej] at this
  have q:rk v < rk x:=by simpa using this
  exact Int.le_of_lt q
 dsimp only
 refine bZ (fun kp=>?_) fun kp=>?_
 ·have h'':=h'.Ib m.sb (k:=k) (by omega) chunk
  have sz':n<=(out.push y++(b.extract k (nb - 1)).reverse).size:=by rw [Array.size_append];omega
  refine bZ (fun e2=>wpS_pure ⟨hS,.inl ⟨_,rfl,m.abT h'' (je e2)⟩⟩) fun e2=>?_
  have e2:=fD e2
  refine bZ (fun e3=>wpS_pure ⟨hS,.inl ⟨_,rfl,h''.done m.sa m.sb fun x _ y hy=>?_⟩⟩) fun e3=>?_
  ·rw [je e3] at hy;simp at hy
  ·have e3:=fD e3
   exact Fy m hS h'' h1 (by omega) sz' fun x' v hx' hv=>by rw [hx] at hx';cases hx';exact rest v hv
 ·obtain rfl:k=nb - 1:=by omega
  exact Fy m hS h' h1 (by omega) (Nat.le_of_lt sz) fun x' v hx' hv=>by rw [hx] at hx';cases hx';exact rest v hv
theorem zL (m:Mf prog w A s κ rk a₀ a b) {out:Array Keyed} {na nb n:Nat} {st0 st:SortSt} (hk:kindOf st=κ) (hS:cL st0 st) (h:Mh rk a b out na nb) (h1:0 < na) (h2:1 < nb) (hn:n<=out.size)
  {f:Option Nat->StateT SortSt Sem (ForInStep HiS)} {mg bc:Nat} (hf:∀ k,f (some k)=if na - k > 0 then
    if (k == 0)=true then pure (.done (some (a.extract 0 k++b.extract 0 nb++(out++(a.extract k na).reverse).reverse),k,nb,out++(a.extract k na).reverse,mg,na - k,bc))
    else Ih a b (out++(a.extract k na).reverse) k nb mg (na - k) bc
   else Ih a b out na nb mg (na - k) bc) :
  wpS (model prog w) A E s (do let y <- elem' b (nb - 1);let r <- gH false y a 0 na (na - 1);f r) (HiQ rk a b κ st0 n) st:=by
 have ha:=h.ha
 have hb:=h.hb
 obtain ⟨y,hy⟩:=dF (xs:=b) (i:=nb - 1) (by omega)
 refine wpS_bind (bV hy ?_)
 refine wpS_bind (iM m.h0 hk (m.mb y (lF hy)) m.ma (by omega) (by omega) (LR m.sa _ _ (by omega)) fun k k1 k2 k3=>?_)
 rw [hf]
 have chunk:∀ z∈(a.toList.take na).drop k,∀ v∈b.toList.take nb,rk v<=rk z:=fun z hz v hv=>by
  obtain ⟨j,j1,j2,ej⟩:=Ig hz
  have:=k3 j j1 j2
  unfold bp at this
  rw [Nat.zero_add,gO ej] at this
  have q:rk y < rk z:=by simpa using this
  exact Int.le_trans (vm (by omega) m.sb hy hv) (Int.le_of_lt q)
 have rest:∀ v,v∈a.toList.take k->rk v<=rk y:=fun v hv=>by
  obtain ⟨j,hj,ej⟩:=Rr hv
  have:=k2 j hj
  unfold bp at this
  rw [Nat.zero_add,gO ej] at this
  simpa using this
 refine bZ (fun kp=>?_) fun kp=>?_
 ·have h':=h.qg m.sa (k:=k) (by omega) chunk
  have sz':n<=(out++(a.extract k na).reverse).size:=by rw [Array.size_append];omega
  refine bZ (fun e=>wpS_pure ⟨hS,.inl ⟨_,rfl,m.noA h' (je e)⟩⟩) fun e=>?_
  have e:=fD e
  exact zK m hk hS h' (by omega) h2 sz' fun y' x hy' hx=>by rw [hy] at hy';cases hy';exact rest x hx
 ·obtain rfl:k=na:=by omega
  exact zK m hk hS h h1 h2 hn fun y' x hy' hx=>by rw [hy] at hy';cases hy';exact rest x hx
theorem Ml (m:Mf prog w A s κ rk a₀ a b) {st:SortSt} (hk:kindOf st=κ) {Q:Array Keyed->SortSt->Prop} (h:∀ mm st',cL st st'->Cz rk a b mm->Q mm st') :
  wpS (model prog w) A E s (zJ a b) Q st:=by
 rw [Mj]
 dsimp only
 have la:=m.la
 have lb:=m.lb
 refine wpS_bind (wpS_lift (wpAny_rule ⟨rfl,?_⟩))
 obtain ⟨x0,hx0⟩:=dF (xs:=a) (i:=a.size - 1) (by omega)
 refine wpS_bind (bV hx0 ?_)
 have M0:Mh rk a b #[x0] (a.size - 1) b.size:=Mh.nil.xW m.sa la hx0 fun v hv=>by
  have:=m.last v (List.mem_of_mem_take hv)
  rwa [gO hx0] at this
 refine bZ (fun e=>wpS_pure (h _ _ (.refl _) (m.noA M0 (je e)))) fun e1=>?_
 have e1:=fD e1
 refine bZ (fun e=>wpS_pure (h _ _ (.refl _) (m.abT M0 (je e)))) fun e2=>?_
 have e2:=fD e2
 refine wpS_bind (wpS_get ?_)
 refine wpS_bind (wpS_mono (wpS_forRange (I:=fun x c st'=>cL st st'/\∃ na nb out mg,c=(none,na,nb,out,mg)/\Mh rk a b out na nb/\0 < na/\1 < nb/\x + 1<=out.size)
  (Q:=fun c st'=>cL st st'/\∃ mm rest,c=(some mm,rest)/\Cz rk a b mm) ?step ?dH ⟨.refl _,_,_,#[x0],_,rfl,M0,by omega,by omega,by simp⟩) ?post)
 case post =>
  rintro c st' ⟨hS,mm,rest,rfl,hr⟩
  exact wpS_pure (h mm st' hS hr)
 case dH =>
  rintro c st' ⟨hS,na,nb,out,mg,rfl,hM,h1,h2,h3⟩
  have:=hM.sz
  omega
 case step =>
  rintro x c st' _ hx ⟨hS,na,nb,out,mg,rfl,hM,h1,h2,h3⟩
  dsimp only
  refine wpS_bind (wpS_mono (wpS_forRange (I:=fun y c st''=>cL st st''/\∃ na nb out ac bc,c=(none,na,nb,out,ac,bc)/\Mh rk a b out na nb/\0 < na/\1 < nb/\x + 1 + y<=out.size)
   (Q:=fun c st''=>cL st st''/\((∃ mm rest,c=(some mm,rest)/\Cz rk a b mm)∨∃ na nb out ac bc,c=(none,na,nb,out,ac,bc)/\Mh rk a b out na nb/\0 < na/\1 < nb/\x + 2<=out.size)) ?istep ?ifin ⟨hS,na,nb,out,0,0,rfl,hM,h1,h2,by omega⟩) ?ipost)
  case ifin =>
   rintro c st'' ⟨hS,na,nb,out,ac,bc,rfl,hM,h1,h2,h3⟩
   have:=hM.sz
   omega
  case istep =>
   rintro y c st'' _ hy ⟨hS,na,nb,out,ac,bc,rfl,hM,h1,h2,h3⟩
   dsimp only
   have ha:=hM.ha
   have hb:=hM.hb
   obtain ⟨p,hp⟩:=dF (xs:=b) (i:=nb - 1) (by omega)
   obtain ⟨q,hq⟩:=dF (xs:=a) (i:=na - 1) (by omega)
   refine wpS_bind (bV hp (wpS_bind (bV hq (wpS_bind (zB m.h0 (hS.2.1.trans hk) (m.mb p (lF hp)) (m.ma q (lF hq)) ?_)))))
   by_cases c:rk p < rk q
   ·simp only [c,decide_true,if_true]
    refine wpS_bind (bV hq ?_)
    have hM':=hM.xW m.sa h1 hq fun v hv=>Int.le_trans (vm (by omega) m.sb hp hv) (Int.le_of_lt c)
    refine bZ (fun e=>wpS_pure ⟨hS,.inl ⟨_,_,rfl,m.noA hM' (je e)⟩⟩) fun e=>?_
    have e:=fD e
    exact bZ (fun _=>wpS_pure ⟨hS,.inr ⟨_,_,_,_,_,rfl,hM',by omega,h2,by rw [Array.size_push];omega⟩⟩) fun _=>wpS_pure ⟨hS,_,_,_,_,_,rfl,hM',by omega,h2,by rw [Array.size_push];omega⟩
   ·simp only [c,decide_false,Bool.false_eq_true,if_false]
    refine wpS_bind (bV hp ?_)
    have hM':=hM.Fw m.sb (by omega) hp fun v hv=>Int.le_trans (vm h1 m.sa hq hv) (Int.not_lt.mp c)
    refine bZ (fun e=>wpS_pure ⟨hS,.inl ⟨_,_,rfl,m.abT hM' (je e)⟩⟩) fun e=>?_
    have e:=fD e
    exact bZ (fun _=>wpS_pure ⟨hS,.inr ⟨_,_,_,_,_,rfl,hM',h1,by omega,by rw [Array.size_push];omega⟩⟩) fun _=>wpS_pure ⟨hS,_,_,_,_,_,rfl,hM',h1,by omega,by rw [Array.size_push];omega⟩
  case ipost =>
   rintro c st'' ⟨hS,⟨mm,rest,rfl,hr⟩|⟨na,nb,out,ac,bc,rfl,hM,h1,h2,h3⟩⟩
   ·exact wpS_pure ⟨hS,mm,_,rfl,hr⟩
   ·dsimp only
    refine wpS_bind (wpS_lift (wpAny_rule ⟨rfl,?_⟩))
    refine wpS_bind (wpS_mono (wpS_forRange (I:=fun y c st3=>cL st st3/\∃ na nb out mg ac bc,c=(none,na,nb,out,mg,ac,bc)/\Mh rk a b out na nb/\0 < na/\1 < nb/\x + 2 + y<=out.size)
     (Q:=fun c st3=>cL st st3/\((∃ mm rest,c=(some mm,rest)/\Cz rk a b mm)∨∃ na nb out mg ac bc,c=(none,na,nb,out,mg,ac,bc)/\Mh rk a b out na nb/\0 < na/\1 < nb/\x + 2<=out.size)) ?Yo ?aeZ ⟨hS,na,nb,out,_,ac,bc,rfl,hM,h1,h2,by omega⟩) ?Yp)
    case aeZ =>
     rintro c st3 ⟨hS,na,nb,out,mg,ac,bc,rfl,hM,h1,h2,h3⟩
     have:=hM.sz
     omega
    case Yp =>
     rintro c st3 ⟨hS,⟨mm,rest,rfl,hr⟩|⟨na,nb,out,mg,ac,bc,rfl,hM,h1,h2,h3⟩⟩
     ·exact wpS_pure ⟨hS,mm,_,rfl,hr⟩
     ·dsimp only
      refine wpS_bind (mF fun Fg Kl=>?_)
      exact wpS_pure ⟨hS.trans Kl,_,_,_,_,rfl,hM,h1,h2,by omega⟩
    case Yo =>
     rintro y c st3 _ hy ⟨hS,na,nb,out,mg,ac,bc,rfl,hM,h1,h2,h3⟩
     have cD:∀ (c:HiS) (st':SortSt),HiQ rk a b κ st (x + 2 + y) (.done c) st'->cL st st'/\((∃ mm rest,c=(some mm,rest)/\Cz rk a b mm)∨∃ na nb out mg ac bc,c=(none,na,nb,out,mg,ac,bc)/\Mh rk a b out na nb/\0 < na/\1 < nb/\x + 2<=out.size):=by
      rintro ⟨c1,na,nb,out,mg,ac,bc⟩ st' ⟨hS,⟨mm,e,hr⟩|⟨e,hM,h1,h2,h3⟩⟩
      ·cases e;exact ⟨hS,.inl ⟨mm,_,rfl,hr⟩⟩
      ·cases e;dsimp only at h1 h2 h3;exact ⟨hS,.inr ⟨_,_,_,_,_,_,rfl,hM,h1,h2,by omega⟩⟩
     have cY:∀ (c:HiS) (st':SortSt),HiQ rk a b κ st (x + 2 + y) (.yield c) st'->cL st st'/\∃ na nb out mg ac bc,c=(none,na,nb,out,mg,ac,bc)/\Mh rk a b out na nb/\0 < na/\1 < nb/\x + 2 + (y + 1)<=out.size:=by
      rintro ⟨c1,na,nb,out,mg,ac,bc⟩ st' ⟨hS,e,hM,h1,h2,h3⟩
      cases e;dsimp only at h1 h2 h3;exact ⟨hS,_,_,_,_,_,_,rfl,hM,h1,h2,by omega⟩
     dsimp only
     refine bZ (fun _=>?_) (fun _=>?_)
     ·refine wpS_bind (mF fun Fg Kl=>?_)
      exact wpS_mono (zL m ((hS.trans Kl).2.1.trans hk) (hS.trans Kl) hM h1 h2 h3 (fun k=>rfl)) fun r st' hq=>match r,hq with|.done c,hq=>cD c st' hq|.yield c,hq=>cY c st' hq
     ·refine wpS_bind (mF fun Fg Kl=>?_)
      exact wpS_mono (zL m ((hS.trans Kl).2.1.trans hk) (hS.trans Kl) hM h1 h2 h3 (fun k=>rfl)) fun r st' hq=>match r,hq with|.done c,hq=>cD c st' hq|.yield c,hq=>cY c st' hq
end
end Sb
namespace Sb
open PySem PySem.W PyProof.Rows
theorem Mp (i:Nat):mergeAt' i=(do
 let s <- get
 let (some (sa,na,power),some (sb,nb,_)):=((pendingOf s)[i]?,(pendingOf s)[i + 1]?)|unsupported "internal:list.sort.pending"
 set (setPending s (((pendingOf s).setIfInBounds i (sa,na + nb,power)).eraseIdxIfInBounds (i + 1)))
 let some k <- gH false (<- elem' (arrOf s) sb) (arrOf s) sa na 0|return false
 let (sa,na):=(sa + k,na - k)
 if na == 0 then return true
 let some nb <- gH true (<- elem' (arrOf s) (sa + na - 1)) (arrOf s) sb nb (nb - 1)|return false
 if nb == 0 then return true
 let x:=(arrOf s).extract sa sb
 let y:=(arrOf s).extract sb (sb + nb)
 let merged <- if na<=nb then zF x y else zJ x y
 modify fun s=>setArr s (merged.toList.zipIdx.foldl (fun a (p,j)=>a.setIfInBounds (sa + j) p) (arrOf s))
 return (failedOf (<- get)).isNone):=rfl
section
variable {prog:Program} {w:World} {A:Around} {E:Value->Shared->Prop} {s:Shared} {a₀:Array Keyed} {κ:SortKind} {rk:Keyed->Int}
theorem Mq {base:Nat}:∀ (M:List Keyed) (n:Nat) (Pre Z T:List Keyed) (arr:Array Keyed),arr.toList=Pre++(Z++T)->base + n=Pre.length->M.length=Z.length ->
  ((M.zipIdx n).foldl (fun a (p:Keyed×Nat)=>a.setIfInBounds (base + p.2) p.1) arr).toList=Pre++(M++T)
 | [],n,Pre,Z,T,arr,h,_,hl=>by
  obtain rfl:Z=[]:=List.length_eq_zero_iff.mp hl.symm
  simpa using h
 | m::M,n,Pre,Z,T,arr,h,hb,hl=>by
  cases Z with
  | nil=>cases hl
  | cons z Z =>
   have e:(arr.setIfInBounds (base + n) m).toList=(Pre++[m])++(Z++T):=by
    rw [Array.toList_setIfInBounds,h,hb]
    simp [List.set_append]
   have:=Mq (base:=base) M (n + 1) (Pre++[m]) Z T _ e (by simp;omega) (by simpa using hl)
   rw [List.zipIdx_cons,List.foldl_cons,this]
   simp
theorem Ii {xs:Array Keyed} {P L S:List Keyed} (h:xs.toList=P++(L++S)) {i:Nat} (hi:i < L.length):R rk xs (P.length + i)=rk L[i]:=by
 refine gO ?_
 rw [<- Array.getElem?_toList,h,List.getElem?_append_right (by omega),List.getElem?_append_left (by omega)]
 rw [show P.length + i - P.length=i by omega,List.getElem?_eq_getElem hi]
theorem Pu {xs:Array Keyed} {P L S:List Keyed} (h:xs.toList=P++(L++S)):Up rk xs P.length L.length↔uJ rk L:=by
 constructor
 ·intro u
  refine List.pairwise_iff_getElem.mpr ?_
  intro i j hi hj hij
  have:=u i j (by omega) hj
  rwa [Ii h hi,Ii h hj] at this
 ·intro u i j hij hj
  rw [Ii h (by omega),Ii h hj]
  by_cases e:i=j
  ·subst e;exact Int.le_refl _
  ·exact List.pairwise_iff_getElem.mp u i j (by omega) hj (by omega)
theorem Mr {st:SortSt} {i sa na nb pw pw2:Nat} {Q:Bool->SortSt->Prop} (h0:Ax prog w A s κ rk a₀) (hp:(arrOf st).Perm a₀) (hk:kindOf st=κ) (hf:failedOf st=none)
  (hi:(pendingOf st)[i]?=some (sa,na,pw)) (hj:(pendingOf st)[i + 1]?=some (sa + na,nb,pw2)) (na1:1<=na) (nb1:1<=nb) (hz:sa + na + nb<=a₀.size) (ua:Up rk (arrOf st) sa na) (ub:Up rk (arrOf st) (sa + na) nb)
  (h:∀ st',(arrOf st').Perm a₀->kindOf st'=κ->failedOf st'=none->pendingOf st'=((pendingOf st).setIfInBounds i (sa,na + nb,pw)).eraseIdxIfInBounds (i + 1)->(∀ q,q < sa∨sa + na + nb<=q->(arrOf st')[q]?=(arrOf st)[q]?)->Up rk (arrOf st') sa (na + nb)->Q true st') :
  wpS (model prog w) A E s (mergeAt' i) Q st:=by
 rw [Mp]
 refine wpS_bind (wpS_get ?_)
 dsimp only
 rw [hi,hj]
 dsimp only
 have ajo:∀ (st1:SortSt) (Q':PUnit->SortSt->Prop),Q' ⟨⟩ st1->wpS (model prog w) A E s (set st1:StateT SortSt Sem PUnit) Q' st:=fun st1 Q' hq=>by
  unfold wpS
  rw [StateT.run_set]
  exact wpAny_pure ⟨rfl,hq⟩
 refine wpS_bind (ajo _ _ ?_)
 have sz:(arrOf st).size=a₀.size:=hp.size_eq
 have mem:∀ x∈(arrOf st).toList,x∈a₀.toList:=fun x hx=>(Array.perm_iff_toList_perm.mp hp).mem_iff.mp hx
 generalize abU:setPending st (((pendingOf st).setIfInBounds i (sa,na + nb,pw)).eraseIdxIfInBounds (i + 1))=st1
 have k1:kindOf st1=κ:=by rw [<- abU];exact hk
 have f1:failedOf st1=none:=by rw [<- abU];exact hf
 have a1:arrOf st1=arrOf st:=by rw [<- abU]
 have p1:pendingOf st1=((pendingOf st).setIfInBounds i (sa,na + nb,pw)).eraseIdxIfInBounds (i + 1):=by rw [<- abU]
 obtain ⟨y,hy⟩:=dF (xs:=arrOf st) (i:=sa + na) (by omega)
 obtain ⟨z,hz'⟩:=dF (xs:=arrOf st) (i:=sa + na - 1) (by omega)
 generalize arrOf st=xs at *
 refine wpS_bind (bV hy ?_)
 refine wpS_bind (iM h0 k1 (mem y (lF hy)) mem (by omega) (by omega) ua fun k kn kl kr=>?_)
 have kl':∀ q,q < k->R rk xs (sa + q)<=rk y:=fun q hq=>by
  have:=kl q hq;unfold bp at this;simpa using this
 have kr':∀ q,k<=q->q < na->rk y < R rk xs (sa + q):=fun q h1 h2=>by
  have:=kr q h1 h2;unfold bp at this;simpa using this
 have ub0:∀ q,q < nb->rk y<=R rk xs (sa + na + q):=fun q hq=>by
  have:=ub 0 q (by omega) hq
  rwa [Nat.add_zero,gO hy] at this
 have whole:(∀ q,q < na->∀ q',q' < nb->R rk xs (sa + q)<=R rk xs (sa + na + q'))->Up rk xs sa (na + nb):=fun hq i j hij hj=>by
  by_cases c:j < na
  ·exact ua i j hij c
  ·by_cases d:i < na
   ·have:=hq i d (j - na) (by omega)
    rwa [show sa + na + (j - na)=sa + j by omega] at this
   ·have:=ub (i - na) (j - na) (by omega) (by omega)
    rwa [show sa + na + (j - na)=sa + j by omega,show sa + na + (i - na)=sa + i by omega] at this
 dsimp only
 refine bZ (fun e=>wpS_pure ?_) fun e=>?_
 ·have e:=je e
  refine h st1 (by rw [a1];exact hp) k1 f1 p1 (fun _ _=>by rw [a1]) ?_
  rw [a1]
  exact whole fun q hq q' hq'=>Int.le_trans (kl' q (by omega)) (ub0 q' hq')
 have e:=fD e
 rw [show sa + k + (na - k) - 1=sa + na - 1 by omega]
 refine wpS_bind (bV hz' ?_)
 refine wpS_bind (iM h0 k1 (mem z (lF hz')) mem (by omega) (by omega) ub fun n nn nl nr=>?_)
 have nl':∀ q,q < n->R rk xs (sa + na + q) < rk z:=fun q hq=>by
  have:=nl q hq;unfold bp at this;simpa using this
 have nr':∀ q,n<=q->q < nb->rk z<=R rk xs (sa + na + q):=fun q h1 h2=>by
  have:=nr q h1 h2;unfold bp at this;simpa using this
 have uaz:∀ q,q < na->R rk xs (sa + q)<=rk z:=fun q hq=>by
  have:=ua q (na - 1) (by omega) (by omega)
  rwa [show sa + (na - 1)=sa + na - 1 by omega,gO hz'] at this
 refine bZ (fun e2=>wpS_pure ?_) fun e2=>?_
 ·have e2:=je e2
  refine h st1 (by rw [a1];exact hp) k1 f1 p1 (fun _ _=>by rw [a1]) ?_
  rw [a1]
  exact whole fun q hq q' hq'=>Int.le_trans (uaz q hq) (nr' q' (by omega) hq')
 have e2:=fD e2
 have hxl:xs.toList.length=a₀.size:=by rw [Array.length_toList];exact sz
 obtain ⟨P,hP⟩:∃ P,P=xs.toList.take sa:=⟨_,rfl⟩
 obtain ⟨A1,hA1⟩:∃ P,P=(xs.toList.drop sa).take k:=⟨_,rfl⟩
 obtain ⟨X,hX⟩:∃ P,P=(xs.toList.drop (sa + k)).take (na - k):=⟨_,rfl⟩
 obtain ⟨Y,hY⟩:∃ P,P=(xs.toList.drop (sa + na)).take n:=⟨_,rfl⟩
 obtain ⟨B2,hB2⟩:∃ P,P=(xs.toList.drop (sa + na + n)).take (nb - n):=⟨_,rfl⟩
 obtain ⟨S,hS⟩:∃ P,P=xs.toList.drop (sa + na + nb):=⟨_,rfl⟩
 have lP:P.length=sa:=by rw [hP,List.length_take];omega
 have lA:A1.length=k:=by rw [hA1,List.length_take,List.length_drop];omega
 have lX:X.length=na - k:=by rw [hX,List.length_take,List.length_drop];omega
 have lY:Y.length=n:=by rw [hY,List.length_take,List.length_drop];omega
 have lB:B2.length=nb - n:=by rw [hB2,List.length_take,List.length_drop];omega
 have hl:xs.toList=P++(A1++(X++(Y++(B2++S)))):=by
  rw [hP,hA1,hX,hY,hB2,hS]
  have s5:=jT xs.toList (sa + na + n) (nb - n)
  rw [show sa + na + n + (nb - n)=sa + na + nb by omega] at s5
  rw [<- s5,<- jT xs.toList (sa + na) n]
  have s3:=jT xs.toList (sa + k) (na - k)
  rw [show sa + k + (na - k)=sa + na by omega] at s3
  rw [<- s3,<- jT xs.toList sa k,List.take_append_drop]
 have eX:(xs.extract (sa + k) (sa + na)).toList=X:=by rw [nu,hX];congr 1;omega
 have eY:(xs.extract (sa + na) (sa + na + n)).toList=Y:=by rw [nu,hY];congr 1;omega
 have aA:uJ rk (A1++X):=by
  have:xs.toList=P++((A1++X)++(Y++(B2++S))):=by rw [hl];simp
  refine (Pu this).mp ?_
  rw [lP,List.length_append,lA,lX,show k + (na - k)=na by omega]
  exact ua
 have aB:uJ rk (Y++B2):=by
  have:xs.toList=(P++(A1++X))++((Y++B2)++S):=by rw [hl];simp
  have u:=Pu (rk:=rk) this
  rw [List.length_append,List.length_append,lP,lA,lX,List.length_append,lY,lB,show sa + (k + (na - k))=sa + na by omega,show n + (nb - n)=nb by omega] at u
  exact u.mp ub
 obtain ⟨sA,sX,sAX⟩:=List.pairwise_append.mp aA
 obtain ⟨sY,sB,sYB⟩:=List.pairwise_append.mp aB
 have ahu:∀ v∈A1,rk v<=rk y:=fun v hv=>by
  rw [hA1] at hv
  obtain ⟨j,hj,ej⟩:=jK hv
  have:=kl' j hj
  rwa [gO ej] at this
 have ajq:∀ v∈X,rk v<=rk z:=fun v hv=>by
  rw [hX] at hv
  obtain ⟨j,hj,ej⟩:=jK hv
  have:=uaz (k + j) (by omega)
  rwa [<- Nat.add_assoc,gO ej] at this
 have abV:∀ v∈Y,rk y<=rk v/\rk v < rk z:=fun v hv=>by
  rw [hY] at hv
  obtain ⟨j,hj,ej⟩:=jK hv
  have q1:=ub0 j (by omega)
  have q2:=nl' j hj
  rw [gO ej] at q1 q2
  exact ⟨q1,q2⟩
 have afa:∀ v∈B2,rk z<=rk v:=fun v hv=>by
  rw [hB2] at hv
  obtain ⟨j,hj,ej⟩:=jK hv
  have:=nr' (n + j) (by omega) (by omega)
  rwa [<- Nat.add_assoc,gO ej] at this
 have gX:∀ q,q < na - k->(xs.extract (sa + k) (sa + na))[q]?=xs[sa + k + q]?:=fun q hq=>by
  rw [Array.getElem?_extract,if_pos (by omega)]
 have gY:∀ q,q < n->(xs.extract (sa + na) (sa + na + n))[q]?=xs[sa + na + q]?:=fun q hq=>by
  rw [Array.getElem?_extract,if_pos (by omega)]
 have szX:(xs.extract (sa + k) (sa + na)).size=na - k:=by rw [Array.size_extract];omega
 have szY:(xs.extract (sa + na) (sa + na + n)).size=n:=by rw [Array.size_extract];omega
 have m:Mf prog w A s κ rk a₀ (xs.extract (sa + k) (sa + na)) (xs.extract (sa + na) (sa + na + n)):=by
  refine ⟨h0,by rw [eX];exact sX,by rw [eY];exact sY,fun v hv=>mem v ?_,fun v hv=>mem v ?_,by omega,by omega,?_,fun v hv=>?_⟩
  ·rw [eX] at hv;rw [hl];simp [hv]
  ·rw [eY] at hv;rw [hl];simp [hv]
  ·rw [iW (gX 0 (by omega)),iW (gY 0 (by omega)),Nat.add_zero,Nat.add_zero,gO hy]
   exact kr' k (Nat.le_refl _) (by omega)
  ·rw [szX,iW (gX (na - k - 1) (by omega)),show sa + k + (na - k - 1)=sa + na - 1 by omega,gO hz']
   rw [eY] at hv
   exact Int.le_of_lt (abV v hv).2
 have dH:∀ (mm:Array Keyed) (st2:SortSt),cL st1 st2->Cz rk (xs.extract (sa + k) (sa + na)) (xs.extract (sa + na) (sa + na + n)) mm->wpS (model prog w) A E s (do
   modify fun s=>setArr s (mm.toList.zipIdx.foldl (fun a (p,j)=>a.setIfInBounds (sa + k + j) p) (arrOf s))
   let s <- get
   pure (failedOf s).isNone) Q st2:=fun mm st2 hS2 ⟨hr,hu⟩=>by
  rw [eX,eY] at hr
  have lm:mm.toList.length=(X++Y).length:=hr.length_eq
  have put:=Mq (base:=sa + k) mm.toList 0 (P++A1) (X++Y) (B2++S) xs (by rw [hl];simp) (by rw [List.length_append,lP,lA];omega) lm
  refine wpS_bind (wpS_modify (wpS_bind (wpS_get ?_)))
  have e3:arrOf st2=xs:=hS2.1.trans a1
  have key:∀ ys:Array Keyed,ys.toList=P++(A1++(mm.toList++(B2++S)))->∀ st',arrOf st'=ys->kindOf st'=κ->failedOf st'=none->pendingOf st'=pendingOf st1->Q true st':=by
   intro ys hys st' e4 e5 e6 e7
   refine h st' ?_ e5 e6 (e7.trans p1) ?_ ?_
   ·rw [e4]
    refine Array.Perm.trans (Array.perm_iff_toList_perm.mpr ?_) hp
    rw [hys,hl]
    refine List.Perm.append_left _ (List.Perm.append_left _ ?_)
    rw [<- List.append_assoc X Y]
    exact List.Perm.append_right _ hr
   ·intro q hq
    rw [e4,<- Array.getElem?_toList,<- Array.getElem?_toList,hys,hl]
    rw [List.length_append,lX,lY] at lm
    rcases hq with hq|hq
    ·rw [List.getElem?_append_left (by omega),List.getElem?_append_left (by omega)]
    ·have e8:P++(A1++(mm.toList++(B2++S)))=(P++(A1++(mm.toList++B2)))++S:=by simp
     have e9:P++(A1++(X++(Y++(B2++S))))=(P++(A1++(X++(Y++B2))))++S:=by simp
     have l1:(P++(A1++(mm.toList++B2))).length=sa + na + nb:=by simp only [List.length_append];omega
     have l2:(P++(A1++(X++(Y++B2)))).length=sa + na + nb:=by simp only [List.length_append];omega
     rw [e8,e9,List.getElem?_append_right (by omega),List.getElem?_append_right (by omega),l1,l2]
   ·rw [e4]
    have e8:ys.toList=P++((A1++(mm.toList++B2))++S):=by rw [hys];simp
    have u:=Pu (rk:=rk) e8
    have l1:(A1++(mm.toList++B2)).length=na + nb:=by simp only [List.length_append] at lm ⊢;omega
    rw [lP,l1] at u
    refine u.mpr (List.pairwise_append.mpr ⟨sA,List.pairwise_append.mpr ⟨hu,sB,fun v hv t ht=>?_⟩,fun v hv t ht=>?_⟩)
    ·rcases List.mem_append.mp (hr.mem_iff.mp hv) with hv|hv
     ·exact Int.le_trans (ajq v hv) (afa t ht)
     ·exact Int.le_trans (Int.le_of_lt (abV v hv).2) (afa t ht)
    ·rcases List.mem_append.mp ht with ht|ht
     ·rcases List.mem_append.mp (hr.mem_iff.mp ht) with ht|ht
      ·exact sAX v hv t ht
      ·exact Int.le_trans (ahu v hv) (abV t ht).1
     ·have q1:=ahu v hv
      have q2:=(abV y (by
       have:=List.getElem?_eq_some_iff.mp (show Y[0]?=some y by rw [hY,List.getElem?_take_of_lt (by omega),List.getElem?_drop,Nat.add_zero];simpa using hy)
       obtain ⟨q,rfl⟩:=this
       exact List.getElem_mem q)).2
      have q3:=afa t ht
      omega
  rw [<- e3] at put
  have:=key _ (by rw [put];simp) (setArr st2 (mm.toList.zipIdx.foldl (fun a (p,j)=>a.setIfInBounds (sa + k + j) p) (arrOf st2))) rfl (hS2.2.1.trans k1) (hS2.2.2.2.trans f1) hS2.2.2.1
  have e10:(failedOf (setArr st2 (mm.toList.zipIdx.foldl (fun a (p,j)=>a.setIfInBounds (sa + k + j) p) (arrOf st2)))).isNone=true:=by
   show (failedOf st2).isNone=true
   rw [hS2.2.2.2.trans f1];rfl
  rw [e10]
  exact wpS_pure this
 exact bZ (fun _=>wpS_bind (Mi m k1 dH)) fun _=>wpS_bind (Ml m k1 dH)
end
end Sb
namespace Sb
open PySem PySem.W PyProof.Rows
noncomputable def Rn (rk:Keyed->Int) (xs:Array Keyed):Nat->List (Nat×Nat×Nat)->Nat->Prop
 | a,[],e=>a=e
 | a,t::l,e=>t.1=a/\1<=t.2.1/\Up rk xs a t.2.1/\Rn rk xs (a + t.2.1) l e
section
variable {rk:Keyed->Int} {xs ys:Array Keyed}
theorem Rn.le:∀ {l:List (Nat×Nat×Nat)} {a e:Nat},Rn rk xs a l e->a + l.length<=e
 | [],a,e,h=>by simp only [Rn] at h;simp;omega
 | t::l,a,e,h=>by
  obtain ⟨h1,h2,h3,h4⟩:=h
  have:=Rn.le h4
  simp only [List.length_cons];omega
theorem Rn.app:∀ {l l':List (Nat×Nat×Nat)} {a e:Nat},Rn rk xs a (l++l') e↔∃ m,Rn rk xs a l m/\Rn rk xs m l' e
 | [],l',a,e=>by
  constructor
  ·intro h;exact ⟨a,rfl,h⟩
  ·rintro ⟨m,rfl,h⟩;exact h
 | t::l,l',a,e=>by
  constructor
  ·rintro ⟨h1,h2,h3,h4⟩
   obtain ⟨m,g1,g2⟩:=Rn.app.mp h4
   exact ⟨m,⟨h1,h2,h3,g1⟩,g2⟩
  ·rintro ⟨m,⟨h1,h2,h3,h4⟩,g⟩
   exact ⟨h1,h2,h3,Rn.app.mpr ⟨m,h4,g⟩⟩
theorem Up.congr {a n:Nat} (h:Up rk xs a n) (hc:∀ q,a<=q->q < a + n->ys[q]?=xs[q]?):Up rk ys a n:=fun i j hij hj=>by
 rw [iW (hc (a + i) (by omega) (by omega)),iW (hc (a + j) (by omega) (by omega))]
 exact h i j hij hj
theorem Rn.congr:∀ {l:List (Nat×Nat×Nat)} {a e:Nat},Rn rk xs a l e->(∀ q,a<=q->q < e->ys[q]?=xs[q]?)->Rn rk ys a l e
 | [],a,e,h,_=>h
 | t::l,a,e,⟨h1,h2,h3,h4⟩,hc=>by
  have:=h4.le
  exact ⟨h1,h2,h3.congr fun q q1 q2=>hc q q1 (by omega),h4.congr fun q q1 q2=>hc q (by omega) q2⟩
theorem Rn.pow:∀ {l l':List (Nat×Nat×Nat)} {a e:Nat},Rn rk xs a l e->l'.map (fun t=>(t.1,t.2.1))=l.map (fun t=>(t.1,t.2.1))->Rn rk xs a l' e
 | [],l',a,e,h,hm=>by
  obtain rfl:l'=[]:=by simpa using hm
  exact h
 | t::l,[],a,e,h,hm=>by cases hm
 | t::l,t'::l',a,e,⟨h1,h2,h3,h4⟩,hm=>by
  simp only [List.map_cons,List.cons.injEq,Prod.mk.injEq] at hm
  obtain ⟨⟨m1,m2⟩,m3⟩:=hm
  exact ⟨m1.trans h1,by rw [m2];exact h2,by rw [m2];exact h3,by rw [m2];exact h4.pow m3⟩
theorem zM (f:Nat×Nat×Nat->Nat×Nat×Nat) (hf:∀ t,((f t).1,(f t).2.1)=(t.1,t.2.1)):∀ (l:List (Nat×Nat×Nat)) (i:Nat),(l.modify i f).map (fun t=>(t.1,t.2.1))=l.map (fun t=>(t.1,t.2.1))
 | [],i=>by simp
 | t::l,0=>by simp only [List.modify_zero_cons,List.map_cons,hf]
 | t::l,i + 1=>by simp only [List.modify_succ_cons,List.map_cons,zM f hf l i]
theorem afb {α:Type} (l:List α) (i:Nat) (h:i + 1 < l.length):l=l.take i++(l[i]::l[i + 1]::l.drop (i + 2)):=by
 conv=>lhs;rw [<- List.take_append_drop i l,List.drop_eq_getElem_cons (by omega),List.drop_eq_getElem_cons (by omega)]
theorem ajr {α:Type} (P:List α) (t u v:α) (S:List α) (i:Nat) (hP:P.length=i):((P++(t::u::S)).set i v).eraseIdx (i + 1)=P++(v::S):=by
 subst hP
 induction P with
 | nil=>rfl
 | cons p P ih =>
  simp only [List.cons_append,List.length_cons,List.set_cons_succ,List.eraseIdx_cons_succ,ih]
end
section
variable {prog:Program} {w:World} {A:Around} {E:Value->Shared->Prop} {s:Shared} {a₀:Array Keyed} {κ:SortKind} {rk:Keyed->Int}
structure Sr (κ:SortKind) (rk:Keyed->Int) (a₀:Array Keyed) (lo:Nat) (st:SortSt):Prop where
 perm:(arrOf st).Perm a₀
 kind:kindOf st=κ
 failed:failedOf st=none
 runs:Rn rk (arrOf st) 0 (pendingOf st).toList lo
theorem ud {st:SortSt} {i e:Nat} {Q:Bool->SortSt->Prop} (h0:Ax prog w A s κ rk a₀) (h:Sr κ rk a₀ e st) (he:e<=a₀.size) (hi:i + 1 < (pendingOf st).size)
  (hq:∀ st',Sr κ rk a₀ e st'->(pendingOf st').size + 1=(pendingOf st).size->(∀ q,e<=q->(arrOf st')[q]?=(arrOf st)[q]?)->Q true st'):wpS (model prog w) A E s (mergeAt' i) Q st:=by
 have hr:=h.runs
 have sp:=afb (pendingOf st).toList i (by simpa using hi)
 generalize hpre:(pendingOf st).toList.take i=pre at sp
 generalize (pendingOf st).toList.drop (i + 2)=post at sp
 have lp:pre.length=i:=by rw [<- hpre,List.length_take];simp;omega
 rw [sp] at hr
 obtain ⟨m,r1,h1,h2,h3,h4,h5,h6,h7⟩:=Rn.app.mp hr
 simp only [Array.getElem_toList] at h1 h2 h3 h4 h5 h6 h7 sp
 have e1:(pendingOf st)[i]?=some (m,(pendingOf st)[i].2.1,(pendingOf st)[i].2.2):=by
  rw [getElem?_pos _ i (by omega)]
  exact congrArg some (Prod.ext h1 rfl)
 have e2:(pendingOf st)[i + 1]?=some (m + (pendingOf st)[i].2.1,(pendingOf st)[i + 1].2.1,(pendingOf st)[i + 1].2.2):=by
  rw [getElem?_pos _ (i + 1) (by omega)]
  exact congrArg some (Prod.ext h4 rfl)
 have l7:=h7.le
 refine Mr h0 h.perm h.kind h.failed e1 e2 h2 h5 (by omega) h3 h6 fun st' p1 p2 p3 p4 p5 p6=>?_
 have e3:(pendingOf st').toList=pre++((m,(pendingOf st)[i].2.1 + (pendingOf st)[i + 1].2.1,(pendingOf st)[i].2.2)::post):=by
  rw [p4,Array.toList_eraseIdxIfInBounds,Array.toList_setIfInBounds,sp]
  exact ajr _ _ _ _ _ _ lp
 refine hq st' ⟨p1,p2,p3,?_⟩ ?_ fun q hq=>p5 q (.inr (by omega))
 ·rw [e3]
  have l1:=r1.le
  refine Rn.app.mpr ⟨m,r1.congr fun q _ q2=>p5 q (.inl q2),rfl,by show 1<=_ + _;omega,p6,?_⟩
  show Rn rk (arrOf st') (m + (_ + _)) post e
  rw [<- Nat.add_assoc]
  exact h7.congr fun q q1 _=>p5 q (.inr q1)
 ·have q1:=congrArg List.length e3
  have q2:=congrArg List.length sp
  simp only [Array.length_toList,List.length_append,List.length_cons] at q1 q2
  omega
theorem Sr.push {st:SortSt} {lo n:Nat} (h:Sr κ rk a₀ lo st) (hn:1<=n) (hu:Up rk (arrOf st) lo n):Sr κ rk a₀ (lo + n) (setPending st ((pendingOf st).push (lo,n,0))):=by
 refine ⟨h.perm,h.kind,h.failed,?_⟩
 show Rn rk (arrOf st) 0 ((pendingOf st).push (lo,n,0)).toList (lo + n)
 rw [Array.toList_push]
 exact Rn.app.mpr ⟨lo,h.runs,rfl,hn,hu,rfl⟩
theorem Sr.adn {st:SortSt} {lo:Nat} (h:Sr κ rk a₀ lo st) (f:Nat×Nat×Nat->Nat×Nat×Nat) (hf:∀ t,((f t).1,(f t).2.1)=(t.1,t.2.1)) {i:Nat}:Sr κ rk a₀ lo (setPending st ((pendingOf st).modify i f)):=by
 refine ⟨h.perm,h.kind,h.failed,h.runs.pow ?_⟩
 show ((pendingOf st).modify _ _).toList.map _=_
 rw [Array.toList_modify]
 exact zM f hf _ _
theorem zN:∀ (f n r:Nat),1<=n + r->1<=minRun' f n r
 | 0,n,r,h=>h
 | f + 1,n,r,h=>by
  rw [minRun'_succ]
  split
  ·exact h
  ·exact zN f (n / 2) (max r (n % 2)) (by omega)
theorem Ij {st:SortSt} {Q:Unit->SortSt->Prop} (h0:Ax prog w A s κ rk a₀) (hp:arrOf st=a₀) (hk:kindOf st=κ) (hf:failedOf st=none) (hpd:pendingOf st=#[]) (h2:2<=a₀.size)
  (hq:∀ st',(arrOf st').Perm a₀->failedOf st'=none->Up rk (arrOf st') 0 a₀.size->Q () st'):wpS (model prog w) A E s sortRuns' Q st:=by
 rw [sortRuns'_eq]
 refine wpS_bind (wpS_get ?_)
 dsimp only
 rw [hp]
 have mr:1<=minRun' a₀.size a₀.size 0:=zN _ _ _ (by omega)
 refine wpS_bind (wpS_mono (wpS_forRange (I:=fun x c st'=>∃ lo,c=(none,lo)/\x<=lo/\lo<=a₀.size/\Sr κ rk a₀ lo st')
  (Q:=fun c st'=>c=(none,a₀.size)/\Sr κ rk a₀ a₀.size st') ?step ?dH ⟨0,rfl,Nat.le_refl _,by omega,by rw [hp],hk,hf,by rw [hpd];rfl⟩) ?post)
 case dH =>
  rintro c st' ⟨lo,rfl,h1,h2,hS⟩
  obtain rfl:lo=a₀.size:=by omega
  exact ⟨rfl,hS⟩
 case post =>
  rintro c st' ⟨rfl,hS⟩
  dsimp only
  refine wpS_bind (wpS_mono (wpS_forRange (I:=fun x c st''=>c=(none,())/\Sr κ rk a₀ a₀.size st''/\((pendingOf st'').size<=1∨(pendingOf st'').size + x<=a₀.size))
   (Q:=fun c st''=>c=(none,())/\Sr κ rk a₀ a₀.size st''/\(pendingOf st'').size<=1) ?s2 ?f2 ⟨rfl,hS,.inr (by have:=hS.runs.le;simpa using this)⟩) ?p2)
  case f2 =>
   rintro c st'' ⟨rfl,hS,hl⟩
   exact ⟨rfl,hS,by omega⟩
  case s2 =>
   rintro x c st'' _ hx ⟨rfl,hS,hl⟩
   refine wpS_bind (wpS_get ?_)
   refine bZ (fun e=>wpS_pure ⟨rfl,hS,e⟩) fun e=>?_
   have ite_le:∀ (c:Prop) [Decidable c],(if c then (pendingOf st'').size - 2 - 1 else (pendingOf st'').size - 2) + 1 < (pendingOf st'').size:=fun c _=>by split <;> omega
   refine wpS_bind (ud h0 hS (Nat.le_refl _) ?_ fun st2 hS2 hz _=>?_)
   ·exact ite_le _
   ·simp only [Bool.not_true,Bool.false_eq_true,if_false]
    exact wpS_pure ⟨rfl,hS2,by omega⟩
  case p2 =>
   rintro c st'' ⟨rfl,hS,hl⟩
   dsimp only
   refine wpS_pure (hq st'' hS.perm hS.failed ?_)
   have hr:=hS.runs
   cases e:(pendingOf st'').toList with
   | nil=>rw [e] at hr;simp only [Rn] at hr;omega
   | cons t l =>
    have:l=[]:=by
     have:=congrArg List.length e
     simp only [Array.length_toList,List.length_cons] at this
     exact List.length_eq_zero_iff.mp (by omega)
    subst this
    rw [e] at hr
    obtain ⟨_,_,r3,r4⟩:=hr
    simp only [Rn] at r4
    rw [show t.2.1=a₀.size by omega] at r3
    exact r3
 case step =>
  rintro x c st' _ hx ⟨lo,rfl,h1,h3,hS⟩
  dsimp only
  refine bZ (fun e=>?_) fun e=>?_
  ·obtain rfl:lo=a₀.size:=by omega
   exact wpS_pure ⟨rfl,hS⟩
  ·have hB:SB κ a₀ (arrOf st') (pendingOf st') lo st':=⟨hS.perm,hS.kind,hS.failed,rfl,fun _ _=>rfl⟩
   have back:∀ st2,SB κ a₀ (arrOf st') (pendingOf st') lo st2->Sr κ rk a₀ lo st2:=fun st2 hB2=>⟨hB2.perm,hB2.kind,hB2.failed,by
    rw [hB2.pend]
    exact hS.runs.congr fun q _ q2=>hB2.keep q q2⟩
   refine wpS_bind (Uh h0 (show lo + (a₀.size - lo)<=a₀.size by omega) (by omega) hB fun m st2 hB2 m1 m2 um=>?_)
   dsimp only
   refine bZ (fun c=>?_) fun c=>?_
   ·refine wpS_bind (wpS_lift (wpAny_rule ⟨rfl,?_⟩))
    refine wpS_bind (abQ h0 (show lo + min (a₀.size - lo) (minRun' a₀.size a₀.size 0)<=a₀.size by omega) (by omega) hB2 um fun st3 hB3 u3=>?_)
    simp only [Bool.not_true,Bool.false_eq_true,if_false]
    have hS0:=back st3 hB3
    have Ms:∀ Fg,Sr κ rk a₀ lo Fg->(∀ q,lo<=q->(arrOf Fg)[q]?=(arrOf st3)[q]?)->Sr κ rk a₀ (lo + min (a₀.size - lo) (minRun' a₀.size a₀.size 0)) (setPending Fg ((pendingOf Fg).push (lo,min (a₀.size - lo) (minRun' a₀.size a₀.size 0),0))):=fun Fg h4 hk4=>h4.push (by omega) (u3.congr fun q q1 _=>hk4 q q1)
    refine wpS_bind (wpS_get ?_)
    cases cc:(pendingOf st3).back? with
    | none =>
     dsimp only
     exact wpS_bind (wpS_modify (wpS_pure ⟨_,rfl,by omega,by omega,Ms _ hS0 fun _ _=>rfl⟩))
    | some t =>
     obtain ⟨s1,n1,p1⟩:=t
     dsimp only
     refine wpS_bind (wpS_mono (wpS_forRange (I:=fun _ c st'=>c=(none,())/\Sr κ rk a₀ lo st'/\∀ q,lo<=q->(arrOf st')[q]?=(arrOf st3)[q]?)
      (Q:=fun c st'=>c=(none,())/\Sr κ rk a₀ lo st'/\∀ q,lo<=q->(arrOf st')[q]?=(arrOf st3)[q]?) ?Yr (fun _ _ hh=>hh) ⟨rfl,hS0,fun _ _=>rfl⟩) ?Ys)
     case Ys =>
      rintro c st' ⟨rfl,hS,hk⟩
      dsimp only
      refine wpS_bind (wpS_modify (wpS_bind (wpS_modify (wpS_pure ⟨_,rfl,by omega,by omega,Ms _ (hS.adn _ ?_) hk⟩))))
      exact fun t=>rfl
     case Yr =>
      rintro x c st' _ hx ⟨rfl,hS,hk⟩
      refine wpS_bind (wpS_get ?_)
      by_cases c:(pendingOf st').size > 1
      ·rw [if_pos c,getElem?_pos (pendingOf st') ((pendingOf st').size - 2) (by omega)]
       dsimp only
       refine bZ (fun _=>wpS_pure ⟨rfl,hS,hk⟩) fun _=>?_
       refine wpS_bind (ud h0 hS (by omega) (by omega) fun st2 hS2 _ hk2=>?_)
       simp only [Bool.not_true,Bool.false_eq_true,if_false]
       exact wpS_pure ⟨rfl,hS2,fun q hq=>(hk2 q hq).trans (hk q hq)⟩
      ·rw [if_neg c]
       exact wpS_pure ⟨rfl,hS,hk⟩
   ·have hS0:=back st2 hB2
    have Ms:∀ Fg,Sr κ rk a₀ lo Fg->(∀ q,lo<=q->(arrOf Fg)[q]?=(arrOf st2)[q]?)->Sr κ rk a₀ (lo + m) (setPending Fg ((pendingOf Fg).push (lo,m,0))):=fun Fg h4 hk4=>h4.push (by omega) (um.congr fun q q1 _=>hk4 q q1)
    refine wpS_bind (wpS_get ?_)
    cases cc:(pendingOf st2).back? with
    | none =>
     dsimp only
     exact wpS_bind (wpS_modify (wpS_pure ⟨_,rfl,by omega,by omega,Ms _ hS0 fun _ _=>rfl⟩))
    | some t =>
     obtain ⟨s1,n1,p1⟩:=t
     dsimp only
     refine wpS_bind (wpS_mono (wpS_forRange (I:=fun _ c st'=>c=(none,())/\Sr κ rk a₀ lo st'/\∀ q,lo<=q->(arrOf st')[q]?=(arrOf st2)[q]?)
      (Q:=fun c st'=>c=(none,())/\Sr κ rk a₀ lo st'/\∀ q,lo<=q->(arrOf st')[q]?=(arrOf st2)[q]?) ?Yr (fun _ _ hh=>hh) ⟨rfl,hS0,fun _ _=>rfl⟩) ?Ys)
     case Ys =>
      rintro c st' ⟨rfl,hS,hk⟩
      dsimp only
      refine wpS_bind (wpS_modify (wpS_bind (wpS_modify (wpS_pure ⟨_,rfl,by omega,by omega,Ms _ (hS.adn _ ?_) hk⟩))))
      exact fun t=>rfl
     case Yr =>
      rintro x c st' _ hx ⟨rfl,hS,hk⟩
      refine wpS_bind (wpS_get ?_)
      by_cases c:(pendingOf st').size > 1
      ·rw [if_pos c,getElem?_pos (pendingOf st') ((pendingOf st').size - 2) (by omega)]
       dsimp only
       refine bZ (fun _=>wpS_pure ⟨rfl,hS,hk⟩) fun _=>?_
       refine wpS_bind (ud h0 hS (by omega) (by omega) fun st2 hS2 _ hk2=>?_)
       simp only [Bool.not_true,Bool.false_eq_true,if_false]
       exact wpS_pure ⟨rfl,hS2,fun q hq=>(hk2 q hq).trans (hk q hq)⟩
      ·rw [if_neg c]
       exact wpS_pure ⟨rfl,hS,hk⟩
end
end Sb
namespace Sb
open PySem PySem.W PyProof.Rows So
noncomputable def rkI (lt:Nat->Nat->Bool) (n i:Nat):Int:=((List.range n).filter fun j=>lt j i).length
theorem Ik {α:Type} {p q:α->Bool}:∀ {l:List α},(∀ x∈l,p x=true->q x=true)->(l.filter p).length<=(l.filter q).length
 | [],_=>Nat.le_refl _
 | x::l,h=>by
  have ih:=Ik (l:=l) fun y hy=>h y (.tail _ hy)
  have hx:=h x (.head _)
  rw [List.filter_cons,List.filter_cons]
  cases c:p x with
  | false =>
   simp only [Bool.false_eq_true,if_false]
   split
   ·simp only [List.length_cons];omega
   ·exact ih
  | true =>
   rw [hx c]
   simp only [if_true,List.length_cons];omega
theorem Yt {α:Type} {p q:α->Bool}:∀ {l:List α} {z:α},(∀ x∈l,p x=true->q x=true)->z∈l->p z=false->q z=true->(l.filter p).length < (l.filter q).length
 | [],_,_,hz,_,_=>by cases hz
 | x::l,z,h,hz,pz,qz=>by
  have ih0:=Ik (l:=l) fun y hy=>h y (.tail _ hy)
  have hx:=h x (.head _)
  rw [List.filter_cons,List.filter_cons]
  rcases List.mem_cons.mp hz with rfl|hz
  ·rw [pz,qz]
   simp only [Bool.false_eq_true,if_false,if_true,List.length_cons];omega
  ·have ih:=Yt (l:=l) (fun y hy=>h y (.tail _ hy)) hz pz qz
   cases c:p x with
   | false =>
    simp only [Bool.false_eq_true,if_false]
    split
    ·simp only [List.length_cons];omega
    ·exact ih
   | true =>
    rw [hx c]
    simp only [if_true,List.length_cons];omega
theorem adp {lt:Nat->Nat->Bool} (O:Ord lt) {n i j:Nat} (hi:i < n):decide (rkI lt n i < rkI lt n j)=lt i j:=by
 unfold rkI
 cases c:lt i j with
 | true =>
  refine decide_eq_true (Int.ofNat_lt.mpr (Yt (z:=i) (fun k _ hk=>?_) (List.mem_range.mpr hi) (irr O i) c))
  cases d:lt k j with
  | true=>rfl
  | false =>
   have h1:lt i k=false:=O.as k i hk
   have h2:=O.tr j k i d h1
   rw [c] at h2;cases h2
 | false =>
  refine decide_eq_false fun q=>?_
  have q:=Int.ofNat_lt.mp q
  have:=Ik (p:=fun k=>lt k j) (q:=fun k=>lt k i) (l:=List.range n) fun k _ hk=>by
   cases d:lt k i with
   | true=>rfl
   | false =>
    have h2:=O.tr j i k c d
    rw [hk] at h2;cases h2
  omega
theorem Yu {α:Type} {d:α} {l1 l2:List α} (h:l1.Perm l2):∃ q:List Nat,q.Perm (List.range l2.length)/\l1=q.map fun i=>l2.getD i d:=by
 induction h with
 | nil=>exact ⟨[],.refl _,rfl⟩
 | cons x h ih =>
  obtain ⟨q,hq,e⟩:=ih
  refine ⟨0::q.map (· + 1),?_,?_⟩
  ·rw [List.length_cons,List.range_succ_eq_map]
   exact (hq.map _).cons 0
  ·rw [List.map_cons,List.map_map,e]
   simp [Function.comp_def]
 | swap x y l =>
  refine ⟨1::0::(List.range l.length).map (· + 2),?_,?_⟩
  ·rw [List.length_cons,List.length_cons,List.range_succ_eq_map,List.range_succ_eq_map,List.map_cons,List.map_map]
   exact List.Perm.swap 0 1 _
  ·rw [List.map_cons,List.map_cons,List.map_map]
   have:l=(List.range l.length).map fun i=>l.getD i d:=by
    apply List.ext_getElem
    ·simp
    ·intro i h1 h2;simp [h1]
   simp only [Function.comp_def]
   rw [List.getD_cons_succ,List.getD_cons_zero,List.getD_cons_zero]
   congr 2
 | trans h1 h2 ih1 ih2 =>
  obtain ⟨q1,p1,e1⟩:=ih1
  obtain ⟨q2,p2,e2⟩:=ih2
  have l2:=h2.length_eq
  have lq:=p2.length_eq
  rw [List.length_range] at lq
  refine ⟨q1.map fun i=>q2.getD i 0,?_,?_⟩
  ·refine (p1.map _).trans (List.Perm.trans (List.Perm.of_eq ?_) p2)
   apply List.ext_getElem
   ·simp;omega
   ·intro i h1 h2
    simp only [List.length_map,List.length_range] at h1
    simp only [List.getElem_map,List.getElem_range,List.getD_eq_getElem?_getD]
    rw [List.getElem?_eq_getElem h2];rfl
  ·rw [e1,List.map_map]
   refine List.map_congr_left fun i hi=>?_
   have hi':i < q2.length:=by
    have:=List.mem_range.mp (p1.mem_iff.mp hi)
    omega
   show List.getD _ i d=List.getD _ (List.getD q2 i 0) d
   rw [e2]
   simp only [List.getD_eq_getElem?_getD,List.getElem?_map,List.getElem?_eq_getElem hi',Option.map_some,Option.getD_some]
section
variable {prog:Program} {w:World} {A:Around} {E:Value->Shared->Prop} {s:Shared}
theorem Yv {lt:Nat->Nat->Bool} {κ:SortKind} {vs:List Value} {Q:SortSt->Shared->Prop} (O:Ord lt) (h2:2<=vs.length) (ha:ahq prog w A κ vs lt s)
  (hd:∀ i i',i < vs.length->i' < vs.length->vs.getD i Value.none=vs.getD i' Value.none->∀ j,lt j i=lt j i')
  (h:∀ st,Pk lt vs st->Q st s):wpAny (model prog w) A ((sortRuns').run (SortSt.mk' κ (vs.toArray.zip vs.toArray) #[] 7 none)) (fun r s'=>Q r.2 s') E s:=by
 classical
 let it:Nat->Keyed:=fun i=>(vs.getD i Value.none,vs.getD i Value.none)
 let rk:Keyed->Int:=fun x=>if h:∃ i,i < vs.length/\it i=x then rkI lt vs.length (Classical.choose h) else 0
 have rki:∀ i,i < vs.length->rk (it i)=rkI lt vs.length i:=fun i hi=>by
  have ex:∃ j,j < vs.length/\it j=it i:=⟨i,hi,rfl⟩
  show (if h:∃ j,j < vs.length/\it j=it i then rkI lt vs.length (Classical.choose h) else 0)=_
  rw [dif_pos ex]
  obtain ⟨c1,c2⟩:=Classical.choose_spec ex
  unfold rkI
  have:=hd _ i c1 hi (congrArg Prod.fst c2)
  rw [show (fun j=>lt j (Classical.choose ex))=fun j=>lt j i from funext this]
 have hz:(vs.toArray.zip vs.toArray).toList=(List.range vs.length).map it:=by
  apply List.ext_getElem
  ·simp
  ·intro i h1 h2
   simp at h1
   simp [it,h1]
 have hsz:(vs.toArray.zip vs.toArray).size=vs.length:=by simp
 have hA:Ax prog w A s κ rk (vs.toArray.zip vs.toArray):=by
  intro x y C E' hx hy hC
  rw [hz] at hx hy
  obtain ⟨i,hi,rfl⟩:=List.mem_map.mp hx
  obtain ⟨j,hj,rfl⟩:=List.mem_map.mp hy
  have hi:=List.mem_range.mp hi
  have hj:=List.mem_range.mp hj
  rw [rki i hi,rki j hj,adp O hi] at hC
  exact ha i j C E' hi hj hC
 have main:=Ij (prog:=prog) (w:=w) (A:=A) (E:=E) (s:=s) (st:=SortSt.mk' κ (vs.toArray.zip vs.toArray) #[] 7 none) (Q:=fun _ st=>Pk lt vs st) hA rfl rfl rfl rfl (by rw [hsz];exact h2) fun st p1 p2 p3=>?_
 ·exact wpAny_mono main (fun r s' ⟨e,hs⟩=>by subst e;exact h _ hs) fun _ _ e=>e
 ·obtain ⟨q,hq,e⟩:=Yu (d:=it 0) (Array.perm_iff_toList_perm.mp p1)
  have ln:(vs.toArray.zip vs.toArray).toList.length=vs.length:=by simp
  rw [ln] at hq
  have lq:=hq.length_eq
  rw [List.length_range] at lq
  have qlt:∀ i∈q,i < vs.length:=fun i hi=>List.mem_range.mp (hq.mem_iff.mp hi)
  have e':(arrOf st).toList=q.map it:=by
   rw [e]
   refine List.map_congr_left fun i hi=>?_
   rw [hz,List.getD_eq_getElem?_getD,List.getElem?_map,List.getElem?_range (qlt i hi)];rfl
  refine ⟨q.toArray,⟨by simp [lq],fun i=>?_,by simpa using hq⟩,fun i j hij hj=>?_,?_,p2⟩
  ·rw [Array.getD_eq_getD_getElem?]
   by_cases c:i < q.length
   ·have:q.toArray[i]?=some q[i]:=by simp [c]
    rw [this];exact qlt _ (List.getElem_mem c)
   ·have:q.toArray[i]?=none:=by simp;omega
    rw [this];show 0 < vs.length;omega
  ·have hi':i < q.length:=by omega
   have hj':j < q.length:=by omega
   have g:∀ k (hk:k < q.length),R rk (arrOf st) k=rkI lt vs.length q[k]:=fun k hk=>by
    rw [<- rki _ (qlt _ (List.getElem_mem hk))]
    refine gO ?_
    rw [<- Array.getElem?_toList,e',List.getElem?_map,List.getElem?_eq_getElem hk];rfl
   have u:=p3 i j (by omega) (by rw [hsz];exact hj)
   rw [Nat.zero_add,Nat.zero_add,g i hi',g j hj'] at u
   have e1:q.toArray.getD i 0=q[i]:=by simp [Array.getD_eq_getD_getElem?,hi']
   have e2:q.toArray.getD j 0=q[j]:=by simp [Array.getD_eq_getD_getElem?,hj']
   rw [e1,e2,<- adp O (qlt _ (List.getElem_mem hj'))]
   exact decide_eq_false (by omega)
  ·apply Array.toList_inj.mp
   rw [Array.toList_map,e',List.map_map]
   rfl
end
end Sb
namespace So
open PySem PySem.W PyProof.Rows PySem.Calls
section
variable {prog:Program} {w:World} {A:Around} {E:Value->Shared->Prop} {s:Shared}
theorem Fz:∀ {ks js:List Int} {xs:List Value},ItemsAre (intKind prog w) ks xs->ItemsAre (intKind prog w) js xs->ks=js
 | _,_,_,.nil,.nil=>rfl
 | _,_,_,.cons h1 h2,.cons h3 h4=>by
  obtain ⟨t,e1⟩:=Value.isInt_shape h1
  obtain ⟨u,e2⟩:=Value.isInt_shape h3
  rw [e1] at e2
  cases e2
  rw [Fz h2 h4]
theorem KeysAre.det {h:Heap} {vs:List Value} {aC:List (List Int)} (k:KeysAre prog w h vs aC):∀ i i',i < vs.length->i' < vs.length->vs.getD i Value.none=vs.getD i' Value.none->∀ j,vP (aC.getD j []) (aC.getD i [])=vP (aC.getD j []) (aC.getD i' []):=by
 intro i i' hi hi' he j
 obtain ⟨b,e1,o,its,n,q1,q2,q3,q4⟩:=k.2 i vs[i] (List.getElem?_eq_getElem hi)
 obtain ⟨b',e2,o',its',n',r1,r2,r3,r4⟩:=k.2 i' vs[i'] (List.getElem?_eq_getElem hi')
 rw [List.getD_eq_getElem?_getD,List.getD_eq_getElem?_getD,List.getElem?_eq_getElem hi,List.getElem?_eq_getElem hi',Option.getD_some,Option.getD_some,e1,e2] at he
 cases he
 rw [q1] at r1;cases r1
 rw [q3] at r3;cases r3
 rw [Fz q4 r4]
theorem zO {a:Addr} {vs:List Value} {aC:List (List Int)} {n:Nat} {P:PySem.Fin->Shared->Prop} (ho:s.heap.get? a=some (seqObj "list" vs.toArray n))
  (hk:KeysAre prog w s.heap vs aC) (hne:∀ ks∈aC,ks≠[]) (h64:vs.length < 1000)
  (h:∀ (p:Array Nat),Lx aC p->P (.done (.ret .none)) { s with heap:=sortedHeap s.heap a vs (List.toArray (p.toList.map fun i=>vs.getD i Value.none)) }) :
  wpAny (model prog w) A (Builtin.«list.sort» ⟨[.ref a],[]⟩) P E s:=by
 rw [list_sort_plain]
 have ha:a < s.heap.objs.size:=Heap.lt_size ho
 refine wpAny_bind (listItems_at ho rfl ?_)
 refine wpAny_bind (listUpdate_at ho rfl ?_ (by rw [List.size_toArray,sizeLine_eq];omega) (Nat.zero_le _))
 obtain ⟨e1,ho1⟩:∃ e1,(s.heap.update a (Obj.mapSeq fun _=>#[])).get? a=some (seqObj "list" #[] e1):=⟨_,get?_update_seq ho (fun _=>#[])⟩
 refine wpAny_bind (seqEpoch_at ho1 rfl ?_)
 refine wpAny_bind (wpAny_newTuple ?_ (by show vs.length<=_;rw [sizeLine_eq];omega))
 refine wpAny_bind (wpAny_newList ?_ (Nat.zero_le _))
 refine wpAny_holding ?_
 have ho6:(((s.heap.update a (Obj.mapSeq fun _=>#[])).push (seqObj "tuple" vs.toArray 0)).push (seqObj "list" #[] 0)).get? a=some (seqObj "list" #[] e1):=by
  rw [Heap.get?_push_ne _ _ _ (by rw [size_push',Heap.size_update];exact Nat.ne_of_lt (Nat.lt_succ_of_lt ha)),Heap.get?_push_ne _ _ _ (by rw [Heap.size_update];exact Nat.ne_of_lt ha)]
  exact ho1
 show wpAny (model prog w) A _ P E { s with heap:=((s.heap.update a (Obj.mapSeq fun _=>#[])).push (seqObj "tuple" vs.toArray 0)).push (seqObj "list" #[] 0) }
 dsimp only
 have hsz:vs.toArray.size=vs.length:=by simp
 have hk6:KeysAre prog w (((s.heap.update a (Obj.mapSeq fun _=>#[])).push (seqObj "tuple" vs.toArray 0)).push (seqObj "list" #[] 0)) vs aC:=hk.moved fun b o e c=>by
  refine Heap.get?_push_of_some _ (Heap.get?_push_of_some _ ?_)
  have:b≠a:=fun z=>by subst z;rw [ho] at e;cases e;exact absurd (Value.type.inj (show Value.type "list"=Value.type "tuple" from c)) (by decide)
  rw [Heap.get?_update_ne _ _ _ _ this];exact e
 by_cases h2:vs.toArray.size < 2
 ·rw [if_pos h2,if_pos h2]
  refine wpAny_bind (wpAny_pure ?_)
  rw [StateT.run_pure]
  refine wpAny_bind (wpAny_pure ?_)
  dsimp only
  refine wpAny_bind (seqEpoch_at ho6 rfl ?_)
  refine wpAny_bind (listUpdate_at ho6 rfl ?_ (hsz2:=by rw [Array.size_map];show (pairsOf vs).size<=_;rw [pairsOf_size,sizeLine_eq];omega))
  simp only [bne_self_eq_false,Bool.false_eq_true,if_false]
  have hz:aC.length < 2:=by rw [hk.1,<- hsz];exact h2
  have hq:=h (List.toArray (List.range aC.length)) (Ly hz)
  have e:(arrOf (SortSt.mk' general' (vs.toArray.zip vs.toArray) #[] 7 none)).map (·.2)=List.toArray ((List.toArray (List.range aC.length)).toList.map fun i=>vs.getD i Value.none):=by
   rw [hk.1]
   show (vs.toArray.zip vs.toArray).map (·.2)=_
   apply Array.toList_inj.mp
   apply List.ext_getElem?
   intro i
   simp
   by_cases hi:i < vs.length <;> simp [hi]
  exact wpAny_pure (by rw [e];exact hq)
 ·rw [if_neg h2,if_neg h2]
  obtain ⟨fs,ht,hl,hfi⟩:=hk6.tups hne
  have h2':2<=vs.length:=by rw [<- hsz];omega
  refine wpAny_bind (kat_kind (T:=.type "int") ht (by omega) (fun v hv=>?_) rfl ?_)
  ·obtain ⟨i,t,rfl⟩:=hfi v hv
   exact Looks.now
  ·refine wpAny_bind (wpAny_mono (Sb.Yv (E:=E) (Q:=fun st' s'=>s'={ s with heap:=((s.heap.update a (Obj.mapSeq fun _=>#[])).push (seqObj "tuple" vs.toArray 0)).push (seqObj "list" #[] 0) }/\Pk (fun i j=>vP (aC.getD i []) (aC.getD j [])) vs st') (aeX aC) h2' hk6.asks hk6.det fun st' hs=>⟨rfl,hs⟩) ?_ fun _ _ e=>e)
   rintro ⟨⟨⟩,st'⟩ s' ⟨rfl,p,a1,a2,a3,hf⟩
   dsimp only at a3 hf ⊢
   refine wpAny_bind (seqEpoch_at ho6 rfl ?_)
   rw [a3]
   refine wpAny_bind (listUpdate_at ho6 rfl ?_ (hsz2:=by simp only [List.size_toArray,List.length_map,Array.length_toList,a1.sz];rw [sizeLine_eq];omega))
   rw [hf]
   simp only [bne_self_eq_false,Bool.false_eq_true,if_false]
   rw [<- hk.1] at a1 a2
   exact wpAny_pure (h p (Yg a1 a2))
end
end So
namespace So
open PySem PySem.Spec PySem.W PyProof.Rows PySem.Calls PySem.SetTable Tb
section
variable {prog:Program} {w:World} {A:Around} {E:Value->Shared->Prop} {s:Shared} {U:Addr->List Int->Prop}
noncomputable def yG (prog:Program) (w:World) (U:Addr->List Int->Prop) (o:Obj) (aC:List (List Int)):Prop :=
 ∃ (L:List iJ) (ep:Nat) (t:SetTable) (f:Int×Value->List Int),o=bU L ep t/\Good t L/\L.length * 5 < t.mask * 3/\t.mask < 8000/\(t.plain=true/\t.led=!jl w)/\(∀ e∈L,∃ b,e.2.2=.ref b/\e.2.1=hK prog w (f e.2)/\U b (f e.2))/\(L.map fun e=>f e.2).Perm aC/\aC.Nodup
theorem aM.obj {h:Heap} {a:Addr} {aC:List (List Int)} (x:aM prog w U h a aC):∃ o,h.get? a=some o/\yG prog w U o aC:=by
 obtain ⟨L,ep,t,f,ho,g,room,mb,pl,hf,hp,nd,uu⟩:=x
 refine ⟨_,ho,L,ep,t,f,rfl,g,room,mb,pl,fun e he=>?_,hp,nd⟩
 obtain ⟨b,h1,h2,h3⟩:=hf e he
 exact ⟨b,h1,h3,uu e he b h1⟩
theorem yG.at {h:Heap} {a:Addr} {o:Obj} {aC:List (List Int)} (x:yG prog w U o aC) (ho:h.get? a=some o) (hU:∀ b ks,U b ks->IsTupleKey (intKind prog w) h ks b):aM prog w U h a aC:=by
 obtain ⟨L,ep,t,f,rfl,g,room,mb,pl,hf,hp,nd⟩:=x
 refine ⟨L,ep,t,f,ho,g,room,mb,pl,fun e he=>?_,hp,nd,fun e he b hb=>?_⟩
 ·obtain ⟨b,h1,h2,h3⟩:=hf e he
  exact ⟨b,h1,hU _ _ h3,h2⟩
 ·obtain ⟨b',h1,h2,h3⟩:=hf e he
  rw [hb] at h1;cases h1;exact h3
noncomputable def Mt (U:Addr->List Int->Prop) (out:List Value) (aC:List (List Int)):Prop:=out.length=aC.length/\∀ (i:Nat) v,out[i]?=some v->∃ b,v=.ref b/\U b (aC.getD i [])
theorem sZ {l l':List (List Int)} (p:l.Perm l'):cu l=cu l':=zA ((cQ l).trans p) (mC l)
theorem uf {vs:List Value} {aC fQ:List (List Int)} {p:Array Nat} (ho:Mt U vs fQ) (hp:Lx fQ p) (pm:fQ.Perm aC):Mt U (p.toList.map fun i=>vs.getD i Value.none) (cu aC):=by
 rw [<- sZ pm,<- hp.2]
 refine ⟨by simp,fun i v hv=>?_⟩
 rw [List.getElem?_map] at hv
 cases e:p.toList[i]? with
 | none=>rw [e] at hv;cases hv
 | some j =>
  rw [e] at hv
  simp at hv
  have hj:j < fQ.length:=by
   have:j∈List.range fQ.length:=hp.1.mem_iff.mp (List.mem_of_getElem? e)
   simpa using this
  have hj':j < vs.length:=by rw [ho.1];exact hj
  obtain ⟨b,q1,q2⟩:=ho.2 j vs[j] (List.getElem?_eq_getElem hj')
  refine ⟨b,?_,?_⟩
  ·rw [<- hv];simp [hj',q1]
  ·have:((p.toList.map fun i=>fQ.getD i []).getD i [])=fQ.getD j []:=by
    rw [List.getD_eq_getElem?_getD,List.getElem?_map,e];rfl
   rw [this];exact q2
theorem wG {x:Value} {vs:List Value} {aC:List (List Int)} {Q:Value->Shared->Prop}
  (ajv:∀ (Q':List Value->Shared->Prop) (E':Value->Shared->Prop),(∀ h' tk,(∀ b o,s.heap.get? b=some o->h'.get? b=some o)->s.heap.objs.size<=h'.objs.size->Q' vs { s with heap:=h',toks:=tk })->wpAny (model prog w) A.in1 (collect x) Q' E' s)
  (hk:KeysAre prog w s.heap vs aC) (hne:∀ ks∈aC,ks≠[]) (h64:vs.length < 1000)
  (h:∀ h' tk l n p,(∀ b o,s.heap.get? b=some o->h'.get? b=some o)->s.heap.objs.size<=l->Lx aC p->h'.get? l=some (seqObj "list" (List.toArray (p.toList.map fun i=>vs.getD i Value.none)) n)->Q (.ref l) { s with heap:=h',toks:=tk }) :
  wpAny (model prog w) A (call (.builtin "sorted") [x]) Q E s:=by
 refine Calls.call_function_entry kind_sorted plain_sorted entry_sorted (args_sorted1 _) ?_
 unfold Builtin.«sorted»
 refine wpAny_bind (m:=checkCount "sorted" 1 1 _) (wpAny_pure ?_)
 refine wpAny_bind (ajv _ _ fun h1 tk k1 z1=>?_)
 refine wpAny_bind (wpAny_newList ?_ (by rw [sizeLine_eq];omega))
 have hoL:(h1.push (seqObj "list" vs.toArray 0)).get? h1.objs.size=some (seqObj "list" vs.toArray 0):=Heap.get?_push_size _ rfl
 have k2:∀ b o,s.heap.get? b=some o->(h1.push (seqObj "list" vs.toArray 0)).get? b=some o:=fun b o e=>Heap.get?_push_of_some _ (k1 b o e)
 show wpAny _ _ _ _ _ { s with heap:=h1.push (seqObj "list" vs.toArray 0),toks:=tk }
 refine wpAny_bind (wpAny_holding (wpAny_call_entry slot_list_sort ⟨_,hoL,rfl⟩ entry_list_sort (zO hoL (hk.moved fun b o e _=>k2 b o e) hne h64 fun p hp=>⟨_,rfl,?_⟩) (args_list_sort _)))
 refine wpAny_pure ⟨_,rfl,?_⟩
 unfold sortedHeap
 have ne1:∀ b o,s.heap.get? b=some o->b≠h1.objs.size:=fun b o e=>Nat.ne_of_lt (Nat.lt_of_lt_of_le (Heap.lt_size e) z1)
 have g0:=Heap.get?_push_of_some (seqObj "list" #[] 0) (Heap.get?_push_of_some (seqObj "tuple" vs.toArray 0) (get?_update_seq hoL (fun _=>#[])))
 refine h _ _ _ _ p (fun b o e=>?_) z1 hp (get?_update_seq g0 (fun _=>List.toArray (p.toList.map fun i=>vs.getD i Value.none)))
 rw [Heap.get?_update_ne _ _ _ _ (ne1 b o e)]
 refine Heap.get?_push_of_some _ (Heap.get?_push_of_some _ ?_)
 rw [Heap.get?_update_ne _ _ _ _ (ne1 b o e)]
 exact k2 b o e
theorem Px {D:Addr} {aC:List (List Int)} {Q:Value->Shared->Prop} (hh:A.handled=none) (hS:aM prog w U s.heap D aC) (hne:∀ ks∈aC,ks≠[]) (h64:aC.length < 1000)
  (h:∀ h' tk l n (out:List Value),(∀ b o,s.heap.get? b=some o->h'.get? b=some o)->s.heap.objs.size<=l->Mt U out (cu aC)->h'.get? l=some (seqObj "list" out.toArray n)->Q (.ref l) { s with heap:=h',toks:=tk }) :
  wpAny (model prog w) A (call (.builtin "sorted") [.ref D]) Q E s:=by
 obtain ⟨L,ep,t,f,ho,g,room,mb,pl,hf,hp,nd,uu⟩:=hS
 have hlen:L.length=aC.length:=by have:=hp.length_eq;simpa using this
 have h7:=g.m7
 have gs:Goes w L t:=⟨g.lies (by omega),by omega,pl.1,pl.2⟩
 have op:=rM w D ep L
 have osz:(dw w D ep L).toList.length=L.length:=by rw [Array.length_toList,gQ]
 have kp:((dw w D ep L).toList.map f).Perm aC:=((op.map f).trans (List.Perm.of_eq (by rw [List.map_map];rfl))).trans hp
 have each:∀ x∈(dw w D ep L).toList,∃ b,x.2=.ref b/\IsTupleKey (intKind prog w) s.heap (f x) b/\U b (f x):=fun x hx=>by
  obtain ⟨e,he,rfl⟩:=List.mem_map.mp (op.mem_iff.mp hx)
  obtain ⟨b,h1,h2,h3⟩:=hf e he
  exact ⟨b,h1,h2,uu e he b h1⟩
 have at_:∀ (i:Nat) v,((dw w D ep L).toList.map (·.2))[i]?=some v->∃ x,x∈(dw w D ep L).toList/\v=x.2/\((dw w D ep L).toList.map f).getD i []=f x:=fun i v hv=>by
  rw [List.getElem?_map] at hv
  cases e:(dw w D ep L).toList[i]? with
  | none=>rw [e] at hv;cases hv
  | some x =>
   rw [e] at hv
   refine ⟨x,List.mem_of_getElem? e,(Option.some.inj hv).symm,?_⟩
   rw [List.getD_eq_getElem?_getD,List.getElem?_map,e];rfl
 refine wG (vs:=(dw w D ep L).toList.map (·.2)) (aC:=(dw w D ep L).toList.map f) (fun Q' E' hq=>?_) ⟨by simp,fun i v hv=>?_⟩ (fun ks hks=>?_) (by rw [List.length_map,osz];omega) fun h' tk l n p k hl hsp hg=>?_
 ·exact xV (by simpa using hh) ho gs (by omega) hq
 ·obtain ⟨x,hx,rfl,e⟩:=at_ i v hv
  obtain ⟨b,h1,h2,h3⟩:=each x hx
  exact ⟨b,h1,by rw [e];exact h2⟩
 ·exact hne ks (kp.mem_iff.mp hks)
 ·refine h h' tk l n _ k hl (uf ⟨by simp,fun i v hv=>?_⟩ hsp kp) hg
  obtain ⟨x,hx,rfl,e⟩:=at_ i v hv
  obtain ⟨b,h1,h2,h3⟩:=each x hx
  exact ⟨b,h1,by rw [e];exact h3⟩
end
end So
namespace Vl
open PySem PySem.Spec L2 So Tb
noncomputable def yh (P:Program) (w:World) (U:Addr->List Int->Prop) (a:Addr) (aC:List (List Int)):Heap->Prop:=fun h=>∃ o,h.get? a=some o/\yG P w U o aC
theorem yG.mono {P:Program} {w:World} {U U':Addr->List Int->Prop} {o:Obj} {aC:List (List Int)} (x:yG P w U o aC) (h:∀ b ks,U b ks->U' b ks):yG P w U' o aC:=by
 obtain ⟨L,ep,t,f,e,g,room,mb,pl,hf,r⟩:=x
 exact ⟨L,ep,t,f,e,g,room,mb,pl,fun e he=>let ⟨b,h1,h2,h3⟩:=hf e he;⟨b,h1,h2,h _ _ h3⟩,r⟩
section
variable {X:Cx} {B:Hp×Hp} {W:Wi}
theorem zP {pins:List (Addr×Obj)} {σ:St} {H:Hp} {s:Shared} {b:Addr} {ks:List Int} (I:Inv X pins σ H s) (h:mj X.K H b (ks.map V.int)):IsTupleKey (intKind X.prog X.w) s.heap ks b:=by
 obtain ⟨its,r,⟨o,ho,hc,n,hd⟩,hz⟩:=I.tuple h
 refine ⟨o,its.toArray,n,ho,hc,hd,?_⟩
 show ItemsAre _ ks its
 clear hd h hz
 induction ks generalizing its with
 | nil=>cases r;exact .nil
 | cons k ks ih =>
  cases r with
  | cons r1 r2 =>
   obtain ⟨t,rfl⟩:=r1
   exact .cons (intKind_is X.prog X.w k t) (ih _ r2)
noncomputable def adq (P:Program) (w:World) (K:PySem.W.Frag):List V->Hp->VK->Prop:=fun xs H Q=>∃ (p:Addr) (ys:List V) (aC:List (List Int)) (U:Addr->List Int->Prop),xs=[.ref p]/\(pC K H p ys∨mj K H p ys)/\aC.length=ys.length/\ys.length < 1000 /\
 (∀ (i:Nat) v,ys[i]?=some v->∃ b,v=.ref b/\mj K H b ((aC.getD i []).map V.int)/\U b (aC.getD i []))/\∀ l,H l=none->Q (.ref l) (gC H l (.ext (yh P w U l (bH aC))))
theorem Vals.get' {xs:List V} {us:List Value} (r:Vals xs us) {i:Nat} {u:Value} (h:us[i]?=some u):∃ x,xs[i]?=some x/\RelV x u:=by
 cases e:xs[i]? with
 | none=>have:=r.none_of e;rw [this] at h;cases h
 | some x=>obtain ⟨u',h1,h2⟩:=r.get e;rw [h] at h1;cases h1;exact ⟨x,rfl,h2⟩
theorem Ui (hc:X.calm=true) (hu:X.A.units + 8 < cLine):gD X (.type "set") (adq X.prog X.w X.K):=by
 intro pins s σ H xs us Q I r h
 obtain ⟨p,ys,aC,U,rfl,hs,hlen,hz,hk,q⟩:=h
 obtain ⟨u,rfl,rx⟩:=r.one
 cases rx
 obtain ⟨its,rv,hseq⟩:∃ its:List Value,Vals ys its/\(s.heap.IsList p its.toArray∨s.heap.IsTuple p its.toArray):=by
  rcases hs with hs|hs
  ·obtain ⟨its,rv,pl,_⟩:=I.list hs;exact ⟨its,rv,.inl pl.isList⟩
  ·obtain ⟨its,rv,pl,_⟩:=I.tuple hs;exact ⟨its,rv,.inr pl⟩
 have hl:=rv.length
 refine HN (U:=U) (aC:=aC) (I.ok.hd hc) hu hseq (by rw [List.size_toArray];omega) (fun i v hv=>?_) (by rw [List.size_toArray];omega) fun h' tk k hS=>?_
 ·obtain ⟨x,h1,h2⟩:=Vals.get' rv (i:=i) (u:=v) (by simpa using hv)
  obtain ⟨b,rfl,h3,h4⟩:=hk i x h1
  exact ⟨b,h2,zP I h3,h4⟩
 ·refine ⟨.ref s.heap.objs.size,_,I.laid (t':=tk) k (Nat.le_refl _) (show gn X.prog X.w _ h' _ (.ext (yh X.prog X.w U s.heap.objs.size (bH aC))) from ⟨So.aM.obj hS,?_,?_⟩),rfl,q _ I.fresh⟩
  ·obtain ⟨o,ho,_⟩:=So.aM.obj hS;exact ⟨o,ho⟩
  ·rintro h1 h2 ⟨o,ho,x⟩ hk';exact ⟨o,hk' o ho,x⟩
noncomputable def abW (P:Program) (w:World) (K:PySem.W.Frag):List V->Hp->VK->Prop:=fun xs H Q=>∃ (p:Addr) (aC:List (List Int)) (U:Addr->List Int->Prop),xs=[.ref p]/\H p=some (.ext (yh P w U p aC))/\(∀ b ks,U b ks->mj K H b (ks.map V.int))/\(∀ ks∈aC,ks≠[])/\aC.length < 1000 /\
 ∀ l ys,H l=none->ys.length=(cu aC).length->(∀ (i:Nat) v,ys[i]?=some v->∃ b,v=.ref b/\U b ((cu aC).getD i []))->Q (.ref l) (gC H l (.lst ys))
theorem Il (hc:X.calm=true):gD X (.builtin "sorted") (abW X.prog X.w X.K):=by
 intro pins s σ H xs us Q I r h
 obtain ⟨p,aC,U,rfl,hp,hU,hne,h64,q⟩:=h
 obtain ⟨u,rfl,rx⟩:=r.one
 cases rx
 obtain ⟨⟨o,ho,x⟩,_⟩:=I.hok _ _ hp
 have hS:=So.yG.at x ho (fun b ks hb=>zP I (hU b ks hb))
 refine So.Px (I.ok.hd hc) hS hne h64 fun h' tk l n out k hl ho hg=>?_
 have hln:H l=none:=I.hok.fresh hl
 have hv:∃ ys:List V,Vals ys out/\ys.length=(cu aC).length/\∀ (i:Nat) v,ys[i]?=some v->∃ b,v=.ref b/\U b ((cu aC).getD i []):=by
  refine ⟨out.map fun v=>match v with|.ref b=>V.ref b|_=>V.non,?_,by simp [ho.1],fun i v hv=>?_⟩
  ·have:∀ v∈out,∃ b,v=Value.ref b:=fun v hv=>by
    obtain ⟨i,hi⟩:=List.mem_iff_getElem?.mp hv
    obtain ⟨b,e,_⟩:=ho.2 i v hi;exact ⟨b,e⟩
   clear ho hg
   induction out with
   | nil=>exact .nil
   | cons a out ih =>
    obtain ⟨b,rfl⟩:=this a (.head _)
    exact .cons rfl (ih fun v hv=>this v (.tail _ hv))
  ·rw [List.getElem?_map] at hv
   cases e:out[i]? with
   | none=>rw [e] at hv;cases hv
   | some v' =>
    rw [e] at hv
    obtain ⟨b,rfl,h2⟩:=ho.2 i v' e
    exact ⟨b,(Option.some.inj hv).symm,h2⟩
 obtain ⟨ys,rv,yl,yv⟩:=hv
 have e0:s.heap.objs.size<=l:=hl
 refine ⟨.ref l,_,I.laid (t':=tk) k hl (show gn X.prog X.w _ h' _ (.lst ys) from ⟨?_,out,n,rv,hg⟩),rfl,q l ys hln yl yv⟩
 have:(cu aC).length=aC.length:=(cQ aC).length_eq
 rw [yl,this,sizeLine_eq];omega
noncomputable def jz:List D->Option (List Int)
 | []=>some []
 | .int i::ds=>(jz ds).map (i::·)
 | _=>none
noncomputable def jA:List D->Option (List (List Int))
 | []=>some []
 | .tup ds::es=>match jz ds with|some k=>(jA es).map (k::·)|none=>none
 | _=>none
noncomputable def tupK (ks:List Int):D:=.tup (ks.map .int)
theorem Uj (ks:List Int):jz (ks.map .int)=some ks:=by
 induction ks with
 | nil=>rfl
 | cons k ks ih=>simp [jz,ih]
theorem zQ:∀ {ds:List D} {ks:List Int},jz ds=some ks->ds=ks.map .int
 | [],ks,h=>by simp [jz] at h;subst h;rfl
 | .int i::ds,ks,h=>by
  simp only [jz] at h
  cases e:jz ds with
  | none=>rw [e] at h;cases h
  | some k=>rw [e] at h;simp at h;subst h;rw [zQ e];rfl
 | .non::ds,ks,h=>by simp [jz] at h
 | .bl _::ds,ks,h=>by simp [jz] at h
 | .str _::ds,ks,h=>by simp [jz] at h
 | .tup _::ds,ks,h=>by simp [jz] at h
 | .lst _::ds,ks,h=>by simp [jz] at h
 | .kh _ _::ds,ks,h=>by simp [jz] at h
theorem rN (aC:List (List Int)):jA (aC.map tupK)=some aC:=by
 induction aC with
 | nil=>rfl
 | cons k aC ih=>simp [jA,tupK,Uj] at ih ⊢;exact ih
theorem vo:∀ {ds:List D} {aC:List (List Int)},jA ds=some aC->ds=aC.map tupK
 | [],ks,h=>by simp [jA] at h;subst h;rfl
 | .tup es::ds,ks,h=>by
  simp only [jA] at h
  cases e:jz es with
  | none=>rw [e] at h;cases h
  | some k =>
   rw [e] at h
   cases e2:jA ds with
   | none=>rw [e2] at h;cases h
   | some k2=>rw [e2] at h;simp at h;subst h;rw [vo e2,zQ e];rfl
 | .int i::ds,ks,h=>by simp [jA] at h
 | .non::ds,ks,h=>by simp [jA] at h
 | .bl _::ds,ks,h=>by simp [jA] at h
 | .str _::ds,ks,h=>by simp [jA] at h
 | .lst _::ds,ks,h=>by simp [jA] at h
 | .kh _ _::ds,ks,h=>by simp [jA] at h
theorem nC {K:PySem.W.Frag} {G:Hp}:∀ {ks:List Int} {vs:List V},bQ K G (ks.map .int) vs->vs=ks.map V.int
 | [],vs,r=>bx.mp r
 | k::ks,vs,r=>by
  obtain ⟨v,vs',rfl,r1,r2⟩:=aR.mp r
  rw [aL.mp r1,nC r2];rfl
theorem Mu {K:PySem.W.Frag} {G:Hp} {ks:List Int} {v:V}:Rep K G (tupK ks) v↔∃ b,v=.ref b/\UG K G b ks:=by
 unfold tupK UG
 constructor
 ·intro h
  obtain ⟨a,vs,rfl,q,r⟩:=aO.mp h
  rw [nC r] at q
  exact ⟨a,rfl,q⟩
 ·rintro ⟨b,rfl,q⟩
  exact aO.mpr ⟨b,_,rfl,q,vU ks⟩
theorem FJ {K:PySem.W.Frag} {G:Hp} {aC:List (List Int)} {vs:List V} (r:bQ K G (aC.map tupK) vs):aC.length=vs.length/\∀ (i:Nat) v,vs[i]?=some v->∃ b,v=.ref b/\UG K G b (aC.getD i []):=by
 refine ⟨by have:=r.length;simpa using this,fun i v hv=>?_⟩
 obtain ⟨d,h1,h2⟩:=r.get' hv
 rw [List.getElem?_map] at h1
 cases e:aC[i]? with
 | none=>rw [e] at h1;cases h1
 | some ks =>
  rw [e] at h1
  cases h1
  obtain ⟨b,q1,q2⟩:=Mu.mp h2
  exact ⟨b,q1,by rw [List.getD_eq_getElem?_getD,e];exact q2⟩
theorem rO {K:PySem.W.Frag} {G:Hp}:∀ {aC:List (List Int)} {vs:List V},vs.length=aC.length->(∀ (i:Nat) v,vs[i]?=some v->∃ b,v=.ref b/\UG K G b (aC.getD i []))->bQ K G (aC.map tupK) vs
 | [],vs,h,_=>bx.mpr (List.length_eq_zero_iff.mp h)
 | k::aC,[],h,_=>by cases h
 | k::aC,v::vs,h,a=>by
  refine aR.mpr ⟨v,vs,rfl,Mu.mpr (a 0 v rfl),rO (by simpa using h) fun i u hu=>?_⟩
  exact a (i + 1) u hu
noncomputable def Mv (P:Program) (w:World) (K:PySem.W.Frag) (W:Wi) (σ:St) (G H:Hp) (r:Rs (List (List Int))) (Q:VK):Prop :=
 match r with
 | .ok aC=>∀ a H' G',Ext G H G' H'->H a=none->H' a=some (.ext (yh P w (UG K G') a aC))->Q (.ref a) H'
 | .ex c n=>∀ H' G',Ext G H G' H'->W c n σ H'
 | .no=>False
noncomputable def tK (P:Program) (w:World) (K:PySem.W.Frag) (B:Hp×Hp) (W:Wi) (f:aJ->Rs (List (List Int))):TE:=fun σ H Q=>∃ ρ G,SR K B σ H ρ G/\Mv P w K W σ G H (f ρ) Q
noncomputable def SK (X:Cx) (B:Hp×Hp) (W:Wi) (e:Expr) (f:aJ->Rs (List (List Int))):Prop:=PE X e (tK X.prog X.w X.K B W f)
noncomputable def wH:D->Rs (List (List Int))
 | .lst ds=>match jA ds with|some aC=>if ds.length < 1000 then .ok aC else .no|none=>.no
 | .tup ds=>match jA ds with|some aC=>if ds.length < 1000 then .ok aC else .no|none=>.no
 | _=>.no
noncomputable def fK (f:aJ->Rs D):aJ->Rs (List (List Int)):=fun ρ=>(f ρ).bind fun d=>(wH d).bind fun aC=>.ok (bH aC)
theorem Im {G H:Hp} (gh:Same G H) (tp:∀ a xs,H a=some (.tup xs)->G a=some (.tup xs)) {p:Addr} {φ:Heap->Prop} (hp:H p=none):Ext G H G (gC H p (.ext φ)) where
 gg:=.refl _
 hh:=fun b o e=>by rw [bf (bh e hp)];exact e
 gh:=fun b o e=>by rw [bf (bh (gh _ _ e) hp)];exact gh _ _ e
 tp:=fun b ys e=>by
  by_cases q:b=p
  ·subst q;rw [aY] at e;cases e
  ·rw [bf q] at e;exact tp _ _ e
 nw:=fun b o e n=>n
theorem jU {e:Expr} {p pos:Pos} {f:aJ->Rs D} (hc:X.calm=true) (hu:X.A.units + 8 < cLine) (hm:X.mg "set"=none) (he:SE X B W e f) (hg:Gl X "set":=by rfl) (hst:starEach [e] X.env=[(false,eval e X.env)]:=by rfl) :
  SK X B W (.Call (.Name "set" p) [e] [] pos) (fK f):=by
 refine PE.imp (EY (Ui hc hu) hg hm PyProof.Rows.boot_set (jB he pN hst) (by decide) (by decide) hst rfl) fun σ H Q h=>?_
 obtain ⟨ρ,G,s,p⟩:=h
 refine ⟨ρ,G,s,?_⟩
 unfold fK at p
 cases e1:f ρ with
 | ok d =>
  rw [e1] at p
  have p':Mv X.prog X.w X.K W σ G H ((wH d).bind fun aC=>.ok (bH aC)) Q:=p
  intro v H' G' x r
  have dH:∀ (a:Addr) (vs:List V) (aC:List (List Int)),v=.ref a->(pC X.K H' a vs∨mj X.K H' a vs)->bQ X.K G' (aC.map tupK) vs->vs.length < 1000->Mv X.prog X.w X.K W σ G H (.ok (bH aC)) Q->adq X.prog X.w X.K [v] H' Q:=by
   intro a vs aC ea hs rr hz pp
   obtain ⟨hl,hk⟩:=FJ rr
   refine ⟨a,vs,aC,UG X.K G',by rw [ea],hs,hl,hz,fun i u hu'=>?_,fun l hl'=>?_⟩
   ·obtain ⟨b,q1,q2⟩:=hk i u hu'
    exact ⟨b,q1,Same.ji x.gh q2,q2⟩
   ·exact pp l _ G' (x.trans (Im x.gh x.tp hl')) (by cases e:H l with|none=>rfl|some o=>have:=x.hh _ _ e;rw [hl'] at this;cases this) aY
  unfold wH at p'
  split at p'
  ·rename_i ds
   split at p'
   ·rename_i aC ek
    by_cases hz:ds.length < 1000
    ·rw [if_pos hz] at p'
     obtain ⟨a,vs,rfl,q,rr⟩:=aN.mp r
     have hl:=rr.length
     rw [vo ek] at rr
     exact dH a vs aC rfl (.inl (x.gh.seq q)) rr (by omega) p'
    ·rw [if_neg hz] at p';exact p'.elim
   ·exact p'.elim
  ·rename_i ds
   split at p'
   ·rename_i aC ek
    by_cases hz:ds.length < 1000
    ·rw [if_pos hz] at p'
     obtain ⟨a,vs,rfl,q,rr⟩:=aO.mp r
     have hl:=rr.length
     rw [vo ek] at rr
     exact dH a vs aC rfl (.inr (Same.ji x.gh q)) rr (by omega) p'
    ·rw [if_neg hz] at p';exact p'.elim
   ·exact p'.elim
  ·exact p'.elim
 | ex c n=>rw [e1] at p;exact p
 | no=>rw [e1] at p;exact p
instance (aC:List (List Int)):Decidable (∀ ks∈aC,ks≠[]):=inferInstance
noncomputable def qj:List (List Int)->Rs D:=fun aC=>if (∀ ks∈aC,ks≠[])/\aC.length < 1000 then .ok (.lst ((cu aC).map tupK)) else .no
noncomputable def fG (f:aJ->Rs (List (List Int))):aJ->Rs D:=fun ρ=>(f ρ).bind qj
theorem jV {e:Expr} {p pos:Pos} {f:aJ->Rs (List (List Int))} (hc:X.calm=true) (hm:X.mg "sorted"=none) (he:SK X B W e f) (hg:Gl X "sorted":=by rfl) (hst:starEach [e] X.env=[(false,eval e X.env)]:=by rfl) :
  SE X B W (.Call (.Name "sorted" p) [e] [] pos) (fG f):=by
 refine PE.imp (pO (Il hc) hg hm PyProof.Rows.boot_sorted (jB he pN hst) (by decide) (by decide) hst rfl) fun σ H Q h=>?_
 obtain ⟨ρ,G,s,p⟩:=h
 refine ⟨ρ,G,s,?_⟩
 unfold fG at p
 cases e1:f ρ with
 | ok aC =>
  rw [e1] at p
  intro a H' G' x _ ha
  have p':Post X.K W σ G H (qj aC) Q:=p
  unfold qj at p'
  by_cases hc':(∀ ks∈aC,ks≠[])/\aC.length < 1000
  ·rw [if_pos hc'] at p'
   refine ⟨a,aC,UG X.K G',rfl,ha,fun b ks hb=>Same.ji x.gh hb,hc'.1,hc'.2,fun l ys hl hy hv=>?_⟩
   have x2:=kE (xs:=ys) x.gh x.tp hl
   refine p' _ _ _ (x.trans x2) (aN.mpr ⟨l,ys,rfl,.of aY,?_⟩)
   exact (rO hy hv).mono x2.gg
  ·rw [if_neg hc'] at p';exact p'.elim
 | ex c n=>rw [e1] at p;exact p
 | no=>rw [e1] at p;exact p
end
end Vl
namespace Vl
open PySem PySem.Spec L2 So Tb
noncomputable def orL (a b:List (List Int)):List (List Int):=a++b.filter fun x=>!decide (x∈a)
noncomputable def Yw (a b:List (List Int)):List (List Int):=a.filter fun x=>decide (x∈b)
noncomputable def Py (a b:List (List Int)):List (List Int):=a.filter fun x=>!decide (x∈b)
theorem Io {a b:List (List Int)} {x:List Int}:x∈orL a b↔x∈a∨x∈b:=by
 unfold orL
 rw [List.mem_append,List.mem_filter]
 by_cases h:x∈a <;> simp [h]
theorem zR {a b:List (List Int)} {x:List Int}:x∈Yw a b↔x∈a/\x∈b:=by unfold Yw;rw [List.mem_filter];simp
theorem vp {a b:List (List Int)} {x:List Int}:x∈Py a b↔x∈a/\x∉b:=by unfold Py;rw [List.mem_filter];simp
theorem Yx {a b:List (List Int)} (ha:a.Nodup) (hb:b.Nodup):(orL a b).Nodup:=by
 unfold orL
 refine List.nodup_append.mpr ⟨ha,hb.filter _,fun x hx y hy e=>?_⟩
 subst e
 have:=(List.mem_filter.mp hy).2
 simp [hx] at this
section
variable {X:Cx} {B:Hp×Hp} {W:Wi}
noncomputable def rK2 (P:Program) (w:World) (K:PySem.W.Frag) (C:List (List Int)->List (List Int)->Prop) (g:List (List Int)->List (List Int)->List (List Int)):R2:=fun x y H Q=>∃ (p p2:Addr) (a b:List (List Int)) (U1 U2 U:Addr->List Int->Prop),x=.ref p/\y=.ref p2/\p≠p2/\H p=some (.ext (yh P w U1 p a))/\H p2=some (.ext (yh P w U2 p2 b)) /\
 (∀ c ks,U1 c ks->U c ks)/\(∀ c ks,U2 c ks->U c ks)/\(∀ c ks,U c ks->mj K H c (ks.map V.int))/\C a b/\∀ l,H l=none->Q (.ref l) (gC H l (.ext (yh P w U l (g a b))))
theorem wI {pins:List (Addr×Obj)} {σ:St} {H:Hp} {s:Shared} {p:Addr} {a:List (List Int)} {U1 U:Addr->List Int->Prop} (I:Inv X pins σ H s) (h:H p=some (.ext (yh X.prog X.w U1 p a))) (u:∀ c ks,U1 c ks->U c ks) (hU:∀ c ks,U c ks->mj X.K H c (ks.map V.int)):aM X.prog X.w U s.heap p a:=by
 obtain ⟨⟨o,ho,x⟩,_⟩:=I.hok _ _ h
 exact So.yG.at (yG.mono x u) ho fun b ks hb=>zP I (hU b ks hb)
theorem Mw {pins:List (Addr×Obj)} {σ:St} {H:Hp} {s:Shared} {Q:VK} {U:Addr->List Int->Prop} {ls a:List (List Int)} {h':Heap} {tk:Nat} (I:Inv X pins σ H s) (k:∀ b o,s.heap.get? b=some o->h'.get? b=some o) (hS:aM X.prog X.w U h' s.heap.objs.size ls) (p:ls.Perm a)
  (q:∀ l,H l=none->Q (.ref l) (gC H l (.ext (yh X.prog X.w U l a)))):EP X pins σ Q (.ref s.heap.objs.size) { s with heap:=h',toks:=tk }:=by
 have hS':=hS.perm p
 refine ⟨.ref s.heap.objs.size,_,I.laid (t':=tk) k (Nat.le_refl _) (show gn X.prog X.w _ h' _ (.ext (yh X.prog X.w U s.heap.objs.size a)) from ⟨So.aM.obj hS',?_,?_⟩),rfl,q _ I.fresh⟩
 ·obtain ⟨o,ho,_⟩:=So.aM.obj hS';exact ⟨o,ho⟩
 ·rintro h1 h2 ⟨o,ho,x⟩ hk';exact ⟨o,hk' o ho,x⟩
noncomputable def COr (a b:List (List Int)):Prop:=a.length + b.length < 400
noncomputable def zT (a b:List (List Int)):Prop:=a.length < 400/\b.length < 400
noncomputable def ahv (a b:List (List Int)):Prop:=a.length < 400/\b.length < 400/\(b=[]∨¬ a.length / 4 > b.length)
instance (a b:List (List Int)):Decidable (COr a b):=by unfold COr;exact inferInstance
instance (a b:List (List Int)):Decidable (zT a b):=by unfold zT;exact inferInstance
instance (a b:List (List Int)):Decidable (ahv a b):=by unfold ahv;exact inferInstance
theorem afd (hu:X.A.units + 8 < cLine):rW X (binaryOp .BitOr) (rK2 X.prog X.w X.K COr orL):=by
 intro pins s σ H x y v u Q I rx ry ⟨p,p2,a,b,U1,U2,U,ex,ey,ne,h1,h2,u1,u2,hU,hc,q⟩
 subst ex ey
 cases rx
 cases ry
 have A1:=wI I h1 u1 hU
 have A2:=wI I h2 u2 hU
 exact ahn A1 A2 ne hc (by omega) fun h' tk ls k nd hm hS=>Mw I k hS (dM nd (Yx A1.nd A2.nd) fun x=>by rw [hm x,Io]) q
theorem abY (hu:X.A.units + 8 < cLine):rW X (binaryOp .BitAnd) (rK2 X.prog X.w X.K zT Yw):=by
 intro pins s σ H x y v u Q I rx ry ⟨p,p2,a,b,U1,U2,U,ex,ey,ne,h1,h2,u1,u2,hU,hc,q⟩
 subst ex ey
 cases rx
 cases ry
 have A1:=wI I h1 u1 hU
 have A2:=wI I h2 u2 hU
 exact aeW A1 A2 ne hc.1 hc.2 (by omega) fun h' tk ls k hm hS=>Mw I k hS (dM hS.nd (A1.nd.filter _) fun x=>by rw [hm x];exact zR.symm) q
noncomputable def gK (C:List (List Int)->List (List Int)->Prop) [∀ a b,Decidable (C a b)] (g:List (List Int)->List (List Int)->List (List Int)):List (List Int)->List (List Int)->Rs (List (List Int)):=fun a b=>if C a b then .ok (g a b) else .no
noncomputable abbrev kOr:=gK COr orL
noncomputable abbrev ahw:=gK zT Yw
noncomputable def Wd (g:List (List Int)->List (List Int)->Rs (List (List Int))) (fa fb:aJ->Rs (List (List Int))):aJ->Rs (List (List Int)):=fun ρ=>(fa ρ).bind fun a=>(fb ρ).bind fun b=>g a b
theorem adt {a b:Expr} {op:Operator} {pos:Pos} {C:List (List Int)->List (List Int)->Prop} [∀ a b,Decidable (C a b)] {g:List (List Int)->List (List Int)->List (List Int)} {fa fb:aJ->Rs (List (List Int))} (ho:rW X (binaryOp op) (rK2 X.prog X.w X.K C g)) (ha:SK X B W a fa) (hb:SK X B W b fb) :
  SK X B W (.BinOp a op b pos) (Wd (gK C g) fa fb):=by
 refine PE.imp (Wr ho ha hb) fun σ H Q h=>?_
 obtain ⟨ρ,G,s,p⟩:=h
 refine ⟨ρ,G,s,?_⟩
 unfold Wd at p
 cases e1:fa ρ with
 | ok l =>
  rw [e1] at p
  have p':Mv X.prog X.w X.K W σ G H ((fb ρ).bind fun m=>gK C g l m) Q:=p
  intro p1 H1 G1 x1 n1 h1
  refine ⟨ρ,G1,s.ext x1,?_⟩
  cases e2:fb ρ with
  | ok m =>
   rw [e2] at p'
   have p2':Mv X.prog X.w X.K W σ G H (if C l m then .ok (g l m) else .no) Q:=p'
   intro p2 H2 G2 x2 n2 h2
   have ne:p1≠p2:=fun z=>by subst z;rw [h1] at n2;cases n2
   by_cases hc:C l m
   ·rw [if_pos hc] at p2'
    refine ⟨p1,p2,l,m,UG X.K G1,UG X.K G2,UG X.K G2,rfl,rfl,ne,x2.hh _ _ h1,h2,fun c ks q=>Same.ji x2.gg q,fun c ks q=>q,fun c ks q=>Same.ji x2.gh q,hc,fun l' hl'=>?_⟩
    have x12:=x1.trans x2
    exact p2' l' _ G2 (x12.trans (Im x2.gh x2.tp hl')) (by cases e:H l' with|none=>rfl|some o=>have:=x12.hh _ _ e;rw [hl'] at this;cases this) aY
   ·rw [if_neg hc] at p2';exact p2'.elim
  | ex c n=>rw [e2] at p';exact fun H2 G2 x2=>p' H2 G2 (x1.trans x2)
  | no=>rw [e2] at p';exact p'
 | ex c n=>rw [e1] at p;exact p
 | no=>rw [e1] at p;exact p
theorem ahx {a b:Expr} {pos:Pos} {fa fb:aJ->Rs (List (List Int))} (hc:X.calm=true) (hu:X.A.units + 8 < cLine) (ha:SK X B W a fa) (hb:SK X B W b fb):SK X B W (.BinOp a .BitOr b pos) (Wd kOr fa fb):=adt (afd hu) ha hb
theorem afe {a b:Expr} {pos:Pos} {fa fb:aJ->Rs (List (List Int))} (hc:X.calm=true) (hu:X.A.units + 8 < cLine) (ha:SK X B W a fa) (hb:SK X B W b fb):SK X B W (.BinOp a .BitAnd b pos) (Wd ahw fa fb):=adt (abY hu) ha hb
end
end Vl
namespace Vl
open PySem PySem.Spec L2
noncomputable def zU (i:Nat) (fs:aJ->Rs (List D)):aJ->Ou:=fun ρ=>oR (fs ρ) ρ fun ds=>if ds.length<=1000 then .nx (ρ.set i (.ow ds)) else .no
noncomputable def wJ (i:Nat) (f:aJ->Rs D):aJ->Ou:=fun ρ=>match ρ[i]? with|some (.ow ds)=>oR (f ρ) ρ fun d=>if ds.length < 1000000 then .nx (ρ.set i (.ow (ds++[d]))) else .no|_=>.no
noncomputable def yj (i:Nat) (g:aJ->Ou):aJ->Ou:=fun ρ=>g (Cj i ρ)
section
variable {X:Cx} {K:PySem.W.Frag} {B:Hp×Hp} {W:Wi} {σ:St} {G H:Hp} {ρ:aJ}
theorem Ip (i:Nat) {x:Str} {es:List Expr} {pos pos' lp:Pos} {f:aJ->Rs (List D)} (hN:X.N.Nodup) (he:SA X B W es f) (hi:X.N[i]?=some x:=by rfl) (hx:Loc X.env.scope x:=by first|exact Or.inl rfl|exact Or.inr rfl) (hs:swapsWith (.List es lp) (some (.Name x pos')) pos.line X.env=pure false:=by rfl) (hf:X.fn x=true∨X.env.scope.names.lookup x=some .local:=by first|exact .inl rfl|exact .inr rfl|assumption) :
  SS X B W (.Assign [.Name x pos'] (.List es lp) pos) (zU i f):=aeD hN hi hx he hs hf
theorem Ir (i:Nat) {x:Str} {e:Expr} {pos p1 p2 cp:Pos} {f:aJ->Rs D} (he:SE X B W e f) (hN:X.N[i]?=some x:=by rfl) (hv:Vis X.env.scope x:=by first|exact Or.inl rfl|exact Or.inr (Or.inl rfl)|exact Or.inr (Or.inr rfl)) (hd:(x == ("__debug__":Str))=false:=by decide)
  (hcd:(x == ("__classdict__":Str))=false:=by decide) (hst:starEach [e] X.env=[(false,eval e X.env)]:=by rfl)
  (hbase:attributeBase (.Name x p1) "append" X.env (eval (.Name x p1) X.env)=eval (.Name x p1) X.env:=by rfl)
  (hfew:((backTo cp (starEach [e] X.env)).all (fun x=>!x.1) && (backToKw cp (keywordEach [] X.env)).all (fun x=>x.1.isSome)
   && decide (([e]:List Expr).length + ([]:List Keyword).length + (if ([]:List Keyword).isEmpty then 0 else 1) < 30))=true:=by rfl)
  (hline:(p2.endLine == cp.line)=true:=by rfl) (hplain:(backTo cp (starEach [] X.env)).any (·.1)=false:=by rfl)
  (hs:swapsWith (.Call (.Attribute (.Name x p1) "append" p2) [e] [] cp) none pos.line X.env=pure false:=by rfl) :
  SS X B W (.Expr (.Call (.Attribute (.Name x p1) "append" p2) [e] [] cp) pos) (wJ i f) :=
 Ti (pe:=agG PySem.F.plainAttrs_list PySem.F.slot_list_append PySem.F.type_list_append Fd (GF hN hv hd hcd) (jB he pN hst) hbase hfew hline hst hplain) (GF hN hv hd hcd) he hst hs
theorem Iu (i:Nat) {st:List Stmt} {g:aJ->Ou} (h:Cg X B W st g):Cg X B W st (yj i g):=abr i h
theorem fH {e:Expr} {p pos:Pos} {fa:aJ->Rs D} (hm:X.mg "tuple"=none) (ha:SE X B W e fa) (hg:Gl X "tuple":=by rfl) (he:starEach [e] X.env=[(false,eval e X.env)]:=by rfl):SE X B W (.Call (.Name "tuple" p) [e] [] pos) (fA (aj fa aQ) gw) :=
 vZ Cm Xa hg hm PyProof.Rows.boot_tuple (ak ha aK he) (by decide) (by decide) he rfl
noncomputable def ql:List D->Rs D
 | [.lst ds]=>.ok (.lst ds)
 | [.tup ds]=>.ok (.lst ds)
 | _=>.no
theorem Yy:sS K (fun xs H Q=>∃ p ys,xs=[.ref p]/\(pC K H p ys∨mj K H p ys)/\∀ l,H l=none->Q (.ref l) (gC H l (.lst ys))) ql:=by
 intro B W σ ρ G H ds vs Q s r p
 unfold ql at p
 split at p
 ·rename_i ds
  obtain ⟨v,vs',rfl,r1,r2⟩:=aR.mp r
  obtain ⟨a,us,rfl,q,rr⟩:=aN.mp r1
  rw [bx.mp r2]
  refine ⟨a,us,rfl,.inl (s.en.gh.seq q),fun c hc=>?_⟩
  have x:=kE (xs:=us) s.en.gh s.en.tp hc
  exact p _ _ _ x (aN.mpr ⟨c,us,rfl,.of aY,rr.mono x.gg⟩)
 ·rename_i ds
  obtain ⟨v,vs',rfl,r1,r2⟩:=aR.mp r
  obtain ⟨a,us,rfl,q,rr⟩:=aO.mp r1
  rw [bx.mp r2]
  refine ⟨a,us,rfl,.inr (Same.ji s.en.gh q),fun c hc=>?_⟩
  have x:=kE (xs:=us) s.en.gh s.en.tp hc
  exact p _ _ _ x (aN.mpr ⟨c,us,rfl,.of aY,rr.mono x.gg⟩)
 ·exact p.elim
theorem Ru {e:Expr} {p pos:Pos} {fa:aJ->Rs D} (hm:X.mg "list"=none) (ha:SE X B W e fa) (hg:Gl X "list":=by rfl) (he:starEach [e] X.env=[(false,eval e X.env)]:=by rfl):SE X B W (.Call (.Name "list" p) [e] [] pos) (fA (aj fa aQ) ql) :=
 vZ GR Yy hg hm PyProof.Rows.boot_list (ak ha aK he) (by decide) (by decide) he rfl
noncomputable def Iv:List D->Rs D
 | [.int i]=>.ok (.int i)
 | [.bl b]=>.ok (.int (if b then 1 else 0))
 | _=>.no
theorem afg:sS K (fun xs H Q=>(∃ i,xs=[.int i]/\Q (.int i) H)∨∃ k,xs=[.bl k]/\Q (.int (if k then 1 else 0)) H) Iv:=by
 intro B W σ ρ G H ds vs Q s r p
 unfold Iv at p
 split at p
 ·obtain ⟨v,vs',rfl,r1,r2⟩:=aR.mp r
  rw [bx.mp r2,aL.mp r1]
  exact .inl ⟨_,rfl,Post.ok s p (aL.mpr rfl)⟩
 ·obtain ⟨v,vs',rfl,r1,r2⟩:=aR.mp r
  rw [bx.mp r2,bw.mp r1]
  exact .inr ⟨_,rfl,Post.ok s p (aL.mpr rfl)⟩
 ·exact p.elim
theorem Yz {e:Expr} {p pos:Pos} {fa:aJ->Rs D} (hm:X.mg "int"=none) (ha:SE X B W e fa) (hg:Gl X "int":=by rfl) (he:starEach [e] X.env=[(false,eval e X.env)]:=by rfl):SE X B W (.Call (.Name "int" p) [e] [] pos) (fA (aj fa aQ) Iv) :=
 vZ SN afg hg hm PyProof.Rows.Boot.«int» (ak ha aK he) (by decide) (by decide) he rfl
noncomputable def vq:D->Bool
 | .non=>true
 | _=>false
noncomputable def ajx:D->D->Rs D:=fun x y=>match y with|.non=>.ok (.bl (vq x))|_=>.no
noncomputable def ahy:D->D->Rs D:=fun x y=>match y with|.non=>.ok (.bl (!vq x))|_=>.no
variable {a b:Expr} {pos:Pos} {fa fb:aJ->Rs D}
noncomputable def inD (x:D) (ds:List D):Bool:=ds.any fun d=>rE d x
noncomputable def ahz (K:PySem.W.Frag) (neg:Bool):R2:=fun x y H Q=>∃ d p ys ds,y=.ref p/\(pC K H p ys∨mj K H p ys)/\Rep K H d x/\bQ K H ds ys/\cT d<=7/\eU ds<=7/\Q (.bl (if neg then !inD d ds else inD d ds)) H
open Classical in
theorem adu {pins:List (Addr×Obj)} {s:Shared} {A:Around} {x:V} {v:Value} {d:D} (I:Inv X pins σ H s) (hu:A.units + 7 < cLine) (rx:RelV x v) (rd:Rep X.K H d x) (hd:cT d<=7):∀ {ds:List D} {ys:List V} {its:List Value},Vals ys its->bQ X.K H ds ys->eU ds<=7 ->
  ∃ f:Value->Bool,(∀ u∈its,SeqAt.EqAt A s u v (f u))/\its.any f=inD d ds:=by
 intro ds ys its rv rr hds
 refine ⟨fun u=>if h:∃ d' v',Rep X.K H d' v'/\RelV v' u/\cT d'<=7 then rE (choose h) d else false,fun u hu'=>?_,?_⟩
 ·obtain ⟨i,hi⟩:=List.mem_iff_getElem?.mp hu'
  obtain ⟨y,h1,h2⟩:=Vals.get' rv hi
  obtain ⟨d',h3,h4⟩:=rr.get' h1
  have hx:∃ d' v',Rep X.K H d' v'/\RelV v' u/\cT d'<=7:=⟨d',y,h4,h2,Nat.le_trans (uR (List.mem_of_getElem? h3)) hds⟩
  dsimp only
  rw [dif_pos hx]
  obtain ⟨v',q1,q2,q3⟩:=choose_spec hx
  exact WK I 7 q3 hd (by omega) q1 rd q2 rx
 ·unfold inD
  induction ds generalizing ys its with
  | nil =>
   cases bx.mp rr
   cases rv
   rfl
  | cons d0 ds ih =>
   obtain ⟨y,ys',rfl,r1,r2⟩:=aR.mp rr
   cases rv with
   | @cons _ u _ us r3 r4 =>
    rw [List.any_cons,List.any_cons,ih r4 r2 (Nat.le_trans (by simp only [eU];exact Nat.le_max_right _ _) hds)]
    congr 1
    have hd0:cT d0<=7:=Nat.le_trans (uR (List.mem_cons_self)) hds
    have hx:∃ d' v',Rep X.K H d' v'/\RelV v' u/\cT d'<=7:=⟨d0,y,r1,r3,hd0⟩
    rw [dif_pos hx]
    obtain ⟨v',q1,q2,q3⟩:=choose_spec hx
    have:v'=y:=by
     have z1:=Vals.inj (xs:=[v']) (ys:=[y]) (us:=[u]) (.cons q2 .nil) (.cons r3 .nil)
     exact (List.cons.inj z1).1
    subst this
    rw [Rep.inj I (by omega) q1 r1]
theorem afh (hu:X.A.units + 8 < cLine):rW X (compareOp .In) (ahz X.K false):=by
 intro pins s σ H x y v u Q I rx ry h
 obtain ⟨d,p,ys,ds,rfl,hq,rd,rr,hd,hds,q⟩:=h
 cases ry
 rcases hq with hq|hq
 ·obtain ⟨its,r,pl,hz⟩:=I.list hq
  obtain ⟨f,h1,h2⟩:=adu (A:=X.A.in1) I (by show X.A.units + 1 + 7 < cLine;omega) rx rd hd r rr hds
  refine SeqAt.in_listAt f pl.isList (fun w hw=>h1 w (by simpa using hw)) ⟨.bl _,H,I,rfl,?_⟩
  rw [show its.toArray.any f=its.any f by simp,h2]
  exact q
 ·obtain ⟨its,r,pl,hz⟩:=I.tuple hq
  obtain ⟨f,h1,h2⟩:=adu (A:=X.A.in1) I (by show X.A.units + 1 + 7 < cLine;omega) rx rd hd r rr hds
  refine SeqAt.in_tupleAt f pl (fun w hw=>h1 w (by simpa using hw)) ⟨.bl _,H,I,rfl,?_⟩
  rw [show its.toArray.any f=its.any f by simp,h2]
  exact q
noncomputable def YB (neg:Bool):D->D->Rs D:=fun x y=>match y with
 | .lst ds=>if cT x<=7/\eU ds<=7 then .ok (.bl (if neg then !inD x ds else inD x ds)) else .no
 | .tup ds=>if cT x<=7/\eU ds<=7 then .ok (.bl (if neg then !inD x ds else inD x ds)) else .no
 | _=>.no
noncomputable abbrev gIn:=YB false
theorem afj {neg:Bool}:VP K (ahz K neg) (YB neg):=by
 intro B W σ ρ G H x y v u Q s rx ry p
 unfold YB at p
 split at p
 ·rename_i ds
  split at p
  ·rename_i hc
   obtain ⟨a,vs,rfl,q,rr⟩:=aN.mp ry
   exact ⟨x,a,vs,ds,rfl,.inl (s.en.gh.seq q),rx.mono s.en.gh,rr.mono s.en.gh,hc.1,hc.2,Post.ok s p (bw.mpr rfl)⟩
  ·exact p.elim
 ·rename_i ds
  split at p
  ·rename_i hc
   obtain ⟨a,vs,rfl,q,rr⟩:=aO.mp ry
   exact ⟨x,a,vs,ds,rfl,.inr (Same.ji s.en.gh q),rx.mono s.en.gh,rr.mono s.en.gh,hc.1,hc.2,Post.ok s p (bw.mpr rfl)⟩
  ·exact p.elim
 ·exact p.elim
theorem Rv (hu:X.A.units + 8 < cLine) (ha:SE X B W a fa) (hb:SE X B W b fb) (hm:behindInMarks .In b=false:=by rfl):SE X B W (.Compare a [.In] [b] pos) (bD gIn fa fb):=GZ (afh hu) afj ha hb hm
end
end Vl
namespace Vl
open PySem PySem.Spec L2 So Tb
section
variable {X:Cx} {B:Hp×Hp} {W:Wi} {K:PySem.W.Frag}
noncomputable def YC (K:PySem.W.Frag):List V->Hp->VK->Prop:=fun xs H Q=>∃ (p:Addr) (ys:List V) (aC:List (List Int)) (U:Addr->List Int->Prop),xs=[.ref p]/\pC K H p ys/\aC.length=ys.length/\ys.length < 1000/\(∀ ks∈aC,ks≠[]) /\
 (∀ (i:Nat) v,ys[i]?=some v->∃ b,v=.ref b/\mj K H b ((aC.getD i []).map V.int)/\U b (aC.getD i [])) /\
 ∀ l zs,H l=none->zs.length=(cu aC).length->(∀ (i:Nat) v,zs[i]?=some v->∃ b,v=.ref b/\U b ((cu aC).getD i []))->Q (.ref l) (gC H l (.lst zs))
theorem afk {U:Addr->List Int->Prop} {out:List Value} {aC:List (List Int)} (ho:Mt U out aC):∃ ys:List V,Vals ys out/\ys.length=aC.length/\∀ (i:Nat) v,ys[i]?=some v->∃ b,v=.ref b/\U b (aC.getD i []):=by
 refine ⟨out.map fun v=>match v with|.ref b=>V.ref b|_=>V.non,?_,by simp [ho.1],fun i v hv=>?_⟩
 ·have:∀ v∈out,∃ b,v=Value.ref b:=fun v hv=>by
   obtain ⟨i,hi⟩:=List.mem_iff_getElem?.mp hv
   obtain ⟨b,e,_⟩:=ho.2 i v hi;exact ⟨b,e⟩
  clear ho
  induction out with
  | nil=>exact .nil
  | cons a out ih =>
   obtain ⟨b,rfl⟩:=this a (.head _)
   exact .cons rfl (ih fun v hv=>this v (.tail _ hv))
 ·rw [List.getElem?_map] at hv
  cases e:out[i]? with
  | none=>rw [e] at hv;cases hv
  | some v' =>
   rw [e] at hv
   obtain ⟨b,rfl,h2⟩:=ho.2 i v' e
   exact ⟨b,(Option.some.inj hv).symm,h2⟩
theorem Pz:gD X (.builtin "sorted") (YC X.K):=by
 intro pins s σ H xs us Q I r h
 obtain ⟨p,ys,aC,U,rfl,hs,hlen,hz,hne,hk,q⟩:=h
 obtain ⟨u,rfl,rx⟩:=r.one
 cases rx
 obtain ⟨its,rv,pl,_⟩:=I.list hs
 have hl:=rv.length
 have each:∀ (i:Nat) v,its[i]?=some v->∃ b,v=.ref b/\IsTupleKey (intKind X.prog X.w) s.heap (aC.getD i []) b/\U b (aC.getD i []):=fun i v hv=>by
  obtain ⟨x,h1,h2⟩:=Vals.get' rv hv
  obtain ⟨b,rfl,h3,h4⟩:=hk i x h1
  exact ⟨b,h2,zP I h3,h4⟩
 refine So.wG (vs:=its) (aC:=aC) (fun Q' E' hq=>?_) ⟨by omega,fun i v hv=>let ⟨b,h1,h2,_⟩:=each i v hv;⟨b,h1,h2⟩⟩ hne (by omega) fun h' tk l n p' k hl' hsp hg=>?_
 ·refine PyProof.Rows.collect_list pl.isList ?_ (by rw [sizeLine_eq];omega)
  refine hq _ s.toks (fun b o e=>?_) ?_
  ·rw [Heap.get?_update_ne _ _ _ _ (Nat.ne_of_lt (Heap.lt_size e))]
   exact Heap.get?_push_of_some _ e
  ·rw [Heap.size_update,PyProof.Rows.size_push'];exact Nat.le_succ _
 ·have ho:=uf (U:=U) (vs:=its) (aC:=aC) (fQ:=aC) ⟨by omega,fun i v hv=>let ⟨b,h1,_,h3⟩:=each i v hv;⟨b,h1,h3⟩⟩ hsp (.refl _)
  obtain ⟨zs,r1,zl,zv⟩:=afk ho
  have hln:H l=none:=I.hok.fresh hl'
  refine ⟨.ref l,_,I.laid (t':=tk) k hl' (show gn X.prog X.w _ h' _ (.lst zs) from ⟨?_,_,n,r1,hg⟩),rfl,q l zs hln zl zv⟩
  have:(cu aC).length=aC.length:=(cQ aC).length_eq
  rw [zl,this,sizeLine_eq];omega
noncomputable def PB (x:Int):List Int->List Int
 | []=>[x]
 | y::ys=>if y < x then y::PB x ys else x::y::ys
noncomputable def vA (l:List Int):List Int:=l.foldr PB []
theorem wK (x:Int):∀ l,(PB x l).Perm (x::l)
 | []=>.refl _
 | y::ys=>by
  unfold PB
  split
  ·exact ((wK x ys).cons y).trans (List.Perm.swap x y ys)
  ·exact .refl _
theorem ug:∀ l,(vA l).Perm l
 | []=>.refl _
 | x::l=>(wK x (vA l)).trans ((ug l).cons x)
theorem Rw (x:Int):∀ l,l.Pairwise (·<=·)->(PB x l).Pairwise (·<=·)
 | [],_=>by simp [PB]
 | y::ys,h=>by
  obtain ⟨h1,h2⟩:=List.pairwise_cons.mp h
  unfold PB
  split
  ·rename_i c
   refine List.pairwise_cons.mpr ⟨fun z hz=>?_,Rw x ys h2⟩
   rcases List.mem_cons.mp ((wK x ys).mem_iff.mp hz) with rfl|hz
   ·omega
   ·exact h1 z hz
  ·rename_i c
   refine List.pairwise_cons.mpr ⟨fun z hz=>?_,h⟩
   rcases List.mem_cons.mp hz with rfl|hz
   ·omega
   ·have:=h1 z hz;omega
theorem Mx:∀ l,(vA l).Pairwise (·<=·)
 | []=>.nil
 | x::l=>Rw x _ (Mx l)
theorem zV:∀ {l l':List Int},l.Perm l'->l.Pairwise (·<=·)->l'.Pairwise (·<=·)->l=l'
 | [],l',p,_,_=>(List.nil_perm.mp p).symm
 | x::l,[],p,_,_=>by cases List.perm_nil.mp p
 | x::l,y::l',p,h,h'=>by
  obtain ⟨h1,h2⟩:=List.pairwise_cons.mp h
  obtain ⟨h1',h2'⟩:=List.pairwise_cons.mp h'
  have e:x=y:=by
   have m1:=List.mem_cons.mp (p.mem_iff.mp (List.mem_cons_self (a:=x) (l:=l)))
   have m2:=List.mem_cons.mp (p.mem_iff.mpr (List.mem_cons_self (a:=y) (l:=l')))
   rcases m1 with m1|m1
   ·exact m1
   ·rcases m2 with m2|m2
    ·exact m2.symm
    ·have:=h1' x m1;have:=h1 y m2;omega
  subst e
  rw [zV (p.cons_inv) h2 h2']
theorem YD {l l':List Int} (p:l.Perm l') (h:l.Pairwise (·<=·)):l=vA l':=zV (p.trans (ug l').symm) h (Mx l')
theorem rD:∀ {us:List Value} {ns:List Int},PyProof.Rows.IntsAre us ns->Vals (ns.map V.int) us:=by
 intro us ns h
 induction h with
 | nil=>exact .nil
 | cons n t _ ih=>exact .cons ⟨t,rfl⟩ ih
noncomputable def YF (K:PySem.W.Frag):List V->Hp->VK->Prop:=fun xs H Q=>∃ (p:Addr) (ns:List Int),xs=[.ref p]/\pC K H p (ns.map V.int)/\ns.length < 64/\∀ l,H l=none->Q (.ref l) (gC H l (.lst ((vA ns).map V.int)))
theorem PJ:gD X (.builtin "sorted") (YF X.K):=by
 intro pins s σ H xs us Q I r h
 obtain ⟨p,ns,rfl,hs,hz,q⟩:=h
 obtain ⟨u,rfl,rx⟩:=r.one
 cases rx
 obtain ⟨its,rv,pl,_⟩:=I.list hs
 have hl:=rv.length
 simp only [List.length_map] at hl
 refine PyProof.Rows.sorted_ints pl.isList (Oi rv) (by omega) fun out ns' h1 h2 h3=>?_
 have e:ns'=vA ns:=YD h2 h3
 subst e
 have hsz:((s.heap.push (PyProof.Rows.seqObj "list" #[] 0)).update s.heap.objs.size (Obj.mapSeq (·++its.toArray))).objs.size=s.heap.objs.size + 1:=by
  rw [Heap.size_update,PyProof.Rows.size_push']
 have hoL:(((s.heap.push (PyProof.Rows.seqObj "list" #[] 0)).update s.heap.objs.size (Obj.mapSeq (·++its.toArray))).push (PyProof.Rows.seqObj "list" its.toArray 0)).get? (s.heap.objs.size + 1)=some (PyProof.Rows.seqObj "list" its.toArray 0):=by
  rw [<- hsz];exact Heap.get?_push_size _ rfl
 have keep:∀ b o,s.heap.get? b=some o->(((s.heap.push (PyProof.Rows.seqObj "list" #[] 0)).update s.heap.objs.size (Obj.mapSeq (·++its.toArray))).push (PyProof.Rows.seqObj "list" its.toArray 0)).get? b=some o:=fun b o q=>by
  refine Heap.get?_push_of_some _ ?_
  rw [Heap.get?_update_ne _ _ _ _ (Nat.ne_of_lt (Heap.lt_size q))]
  exact Heap.get?_push_of_some _ q
 have g0:=Heap.get?_push_of_some (PyProof.Rows.seqObj "list" #[] 0) (Heap.get?_push_of_some (PyProof.Rows.seqObj "tuple" its.toArray 0) (PyProof.Rows.get?_update_seq hoL (fun _=>#[])))
 have g1:=PyProof.Rows.get?_update_seq g0 (fun _=>out)
 have hln:H (s.heap.objs.size + 1)=none:=I.hok.fresh (Nat.le_succ _)
 refine ⟨.ref (s.heap.objs.size + 1),_,I.laid (t':=s.toks) (fun b o z=>?_) (Nat.le_succ _) (show gn X.prog X.w _ _ _ (.lst ((vA ns).map V.int)) from ⟨?_,out.toList,_,rD h1,by rw [Array.toArray_toList];exact g1⟩),rfl,q _ hln⟩
 ·unfold PyProof.Rows.sortedAll PyProof.Rows.sortedHeap
  have ne:b≠s.heap.objs.size + 1:=Nat.ne_of_lt (Nat.lt_succ_of_lt (Heap.lt_size z))
  rw [Heap.get?_update_ne _ _ _ _ ne]
  refine Heap.get?_push_of_some _ (Heap.get?_push_of_some _ ?_)
  rw [Heap.get?_update_ne _ _ _ _ ne]
  exact keep b o z
 ·rw [List.length_map,(ug ns).length_eq,sizeLine_eq];omega
noncomputable def wL:List D->Rs D
 | [.lst ds]=>match jA ds with
  | some aC=>if (∀ ks∈aC,ks≠[])/\aC.length < 1000 then .ok (.lst ((cu aC).map tupK)) else .no
  | none=>match jz ds with
   | some ns=>if ns.length < 64 then .ok (.lst ((vA ns).map .int)) else .no
   | none=>.no
 | _=>.no
theorem YG:sS K (fun xs H Q=>YC K xs H Q∨YF K xs H Q) wL:=by
 intro B W σ ρ G H ds vs Q s r p
 unfold wL at p
 split at p
 ·rename_i ds
  obtain ⟨v,vs',rfl,r1,r2⟩:=aR.mp r
  obtain ⟨a,us,rfl,q,rr⟩:=aN.mp r1
  rw [bx.mp r2]
  split at p
  ·rename_i aC ek
   split at p
   ·rename_i hc
    rw [vo ek] at rr
    obtain ⟨hl,hk⟩:=FJ rr
    refine .inl ⟨a,us,aC,UG K G,rfl,s.en.gh.seq q,hl,by omega,hc.1,fun i v hv=>?_,fun l zs hl' hz hv=>?_⟩
    ·obtain ⟨b,q1,q2⟩:=hk i v hv;exact ⟨b,q1,Same.ji s.en.gh q2,q2⟩
    ·have x:=kE (xs:=zs) s.en.gh s.en.tp hl'
     exact p _ _ _ x (aN.mpr ⟨l,zs,rfl,.of aY,(rO hz hv).mono x.gg⟩)
   ·exact p.elim
  ·split at p
   ·rename_i ns ei
    split at p
    ·rename_i hc
     rw [zQ ei] at rr
     have eu:=nC rr
     subst eu
     refine .inr ⟨a,ns,rfl,s.en.gh.seq q,hc,fun l hl=>?_⟩
     have x:=kE (xs:=(vA ns).map V.int) s.en.gh s.en.tp hl
     exact p _ _ _ x (aN.mpr ⟨l,_,rfl,.of aY,vU _⟩)
    ·exact p.elim
   ·exact p.elim
 ·exact p.elim
theorem gD.or {f:Value} {r r':List V->Hp->VK->Prop} (h:gD X f r) (h':gD X f r'):gD X f (fun xs H Q=>r xs H Q∨r' xs H Q):=fun pins s σ H xs us Q I rv q=>q.elim (h pins s σ H xs us Q I rv) (h' pins s σ H xs us Q I rv)
theorem YH {e:Expr} {p pos:Pos} {fa:aJ->Rs D} (hm:X.mg "sorted"=none) (ha:SE X B W e fa) (hg:Gl X "sorted":=by rfl) (he:starEach [e] X.env=[(false,eval e X.env)]:=by rfl):SE X B W (.Call (.Name "sorted" p) [e] [] pos) (fA (aj fa aQ) wL) :=
 uW (gD.or Pz PJ) YG hg hm PyProof.Rows.boot_sorted (ak ha aK he) (by decide) (by decide) he rfl
end
end Vl
namespace Vl
open PySem PySem.Spec L2
section
variable {X:Cx} {B:Hp×Hp} {W:Wi} {K:PySem.W.Frag}
end
end Vl
namespace Vl
open PySem PySem.Spec L2
end Vl
namespace Vl
open PySem PySem.Spec L2
noncomputable def FN:D->D->Rs D
 | .tup a,.tup b=>if a.length + b.length<=1000000 then .ok (.tup (a++b)) else .no
 | _,_=>.no
section
variable {X:Cx} {B:Hp×Hp} {W:Wi} {K:PySem.W.Frag} {a b:Expr} {pos:Pos} {fa fb:aJ->Rs D}
noncomputable def YJ (K:PySem.W.Frag):R2:=fun x y H Q=>∃ a b ys,x=.ref a/\y=.ref b/\mj K H a []/\mj K H b ys/\Q (.ref b) H
open PyProof.Rows in
theorem YK:rW X (binaryOp .Add) (YJ X.K):=by
 intro pins s σ H x y v u Q I rx ry h
 obtain ⟨a,b,ys,rfl,rfl,ha,hb,q⟩:=h
 cases rx
 cases ry
 obtain ⟨its,r1,p1,_⟩:=I.tuple ha
 obtain ⟨its2,r2,p2,_⟩:=I.tuple hb
 cases r1
 obtain ⟨⟨cls,dd,data,sl⟩,ho,hc,n,hd⟩:=id p1
 obtain ⟨⟨cls2,dd2,data2,sl2⟩,ho2,hc2,n2,hd2⟩:=id p2
 simp only at hc hd hc2 hd2
 subst hc hd hc2 hd2
 exact concat_meets ⟨_,ho,rfl⟩ ⟨_,ho2,rfl⟩ noFill_tuple_add seq_tuple_add PySem.F.slot_tuple_add PySem.F.entry_tuple_add (PySem.F.args_tuple_add_2 _ _)
  (tuple_addW0 a b _ its2.toArray n n2 dd dd2 sl sl2 rfl) ⟨ho,ho2,.ref b,H,I,rfl,q⟩
theorem YL:VP K (fun x y H Q=>acV K x y H Q∨YJ K x y H Q) FN:=by
 intro B W σ ρ G H x y v u Q s rx ry p
 unfold FN at p
 split at p
 ·rename_i ds es
  split at p
  ·rename_i hl
   have ry':=ry
   have rx':=rx
   obtain ⟨a,vs,rfl,q,r⟩:=aO.mp rx
   obtain ⟨b,us,rfl,q',r'⟩:=aO.mp ry
   cases ds with
   | nil =>
    have:=bx.mp r
    subst this
    exact .inr ⟨a,b,us,rfl,rfl,Same.ji s.en.gh q,Same.ji s.en.gh q',Post.ok s p ry'⟩
   | cons d ds =>
    have h1:vs≠[]:=fun z=>by subst z;have:=r.length;simp at this
    refine .inl ⟨a,b,vs,us,rfl,rfl,Same.ji s.en.gh q,Same.ji s.en.gh q',h1,by rw [<- r.length,<- r'.length];exact sz6 hl,fun z=>?_,fun _ c hc=>?_⟩
    ·subst z
     have:es=[]:=List.length_eq_zero_iff.mp (by have:=r'.length;simpa using this)
     subst this
     rw [List.append_nil] at p
     exact Post.ok s p rx'
    ·have x:=uP (xs:=vs++us) s.en.gh s.en.tp hc
     exact p _ _ _ x (aO.mpr ⟨c,vs++us,rfl,.of aY,(r.append r').mono x.gg⟩)
  ·exact p.elim
 ·exact p.elim
theorem abZ (ha:SE X B W a fa) (hb:SE X B W b fb):SE X B W (.BinOp a .Add b pos) (bD FN fa fb):=yP (aaY.or YK) YL ha hb
end
end Vl
namespace Vl
open PySem PySem.Spec L2
section
variable {X:Cx} {B:Hp×Hp} {W:Wi}
end
end Vl
namespace Vl
open PySem PySem.Spec L2
section
variable {X:Cx} {B:Hp×Hp} {W:Wi}
end
end Vl
namespace Vl
open PySem PySem.Spec L2
section
variable {X:Cx} {B:Hp×Hp} {W:Wi}
end
end Vl
namespace Vl
open PySem PySem.Spec L2
section
variable {X:Cx} {B:Hp×Hp} {W:Wi}
end
end Vl
namespace Vl
open PySem PySem.Spec L2
section
variable {X:Cx} {B:Hp×Hp} {W:Wi}
end
end Vl
namespace Vl
open PySem PySem.Spec L2
section
variable {X:Cx} {K:PySem.W.Frag} {B:Hp×Hp} {W:Wi} {σ:St} {G H:Hp} {ρ:aJ} {a b c:Expr} {pos:Pos} {fa fb fc:aJ->Rs D}
end
end Vl
namespace Vl
open PySem PySem.Spec L2
section
variable {X:Cx} {B:Hp×Hp} {W:Wi}
end
end Vl
namespace L2
open PySem PySem.Spec PyProof.Rows
section
variable {X:Cx} {pins:List (Addr×Obj)} {σ:List (Option V)} {H:Hp} {s:Shared} {h':Heap}
end
section
variable {X:Cx}
end
end L2
namespace Vl
open PySem PySem.Spec L2
section
variable {X:Cx} {B:Hp×Hp} {W:Wi}
end
end Vl
namespace PySem
namespace Rvd
theorem Uk:Slot "reversed" "__init__" "object.__init__" :=
 .of (owner:="object") (n:="__init__") (by rw [typeLookup_type,builtinLookup_eq_fast];kernel_rfl) (by decide +kernel) (by decide +kernel) (by decide +kernel)
  (by first|exact .inl (by decide +kernel)|exact .inr (by decide +kernel)) (by rw [isSubtype_type];kernel_rfl)
theorem ajy:TypeCalled "reversed" "reversed.__new__" "object.__init__" :=
 ⟨by decide +kernel,by decide +kernel,⟨_,_,F.mro_reversed⟩,F.made_reversed,by decide +kernel,by rw [isSubtype_type];kernel_rfl,Uk⟩
end Rvd
section
variable {prog:Program} {w:World} {A:Around} {E:Value->Shared->Prop} {s:Shared}
end
end PySem
namespace PySem
open PyProof.Rows (IsTup)
section
variable {prog:Program} {w:World} {A:Around} {E:Value->Shared->Prop} {s:Shared}
end
section
variable {prog:Program} {w:World} {A:Around} {E:Value->Shared->Prop} {s:Shared}
end
end PySem
namespace Vl
open PySem PySem.Spec L2
section
variable {X:Cx} {B:Hp×Hp} {W:Wi} {K:PySem.W.Frag}
end
end Vl
namespace Vl
open PySem PySem.Spec PySem.Calls PySem.W L2
structure alz (K:PySem.W.Frag) (x:Str) (st:Stmt) (f:Addr) (fd:FuncData) (ps:List Str):Prop where
 ex:∃ (oc:Value) (od:Option Addr) (dV kV doc pm:Value) (an:Option Addr) (cdv ct:Value) (osl:Array (Option Value)),
  fd=PySem.W.fnOf x x (bR st) (bJ st) (aG st) dV kV doc pm an cdv ct/\K.lookup f=some ⟨oc,od,.func fd,osl⟩/\PySem.W.codeIn K cdv x=true
 kp:PySem.W.keepIn K (.ref f)=true
 bi:Binds K fd ps []
end Vl
namespace Vl
open PySem PySem.Spec L2
section
variable {X:Cx} {K:PySem.W.Frag} {B:Hp×Hp} {W:Wi} {σ:St} {G H:Hp} {ρ:aJ} {a b c:Expr} {pos:Pos} {fa fb fc:aJ->Rs D}
end
section
variable {X:Cx} {B:Hp×Hp} {W:Wi}
end
end Vl
namespace Dk
open PySem PySem.Spec
section
variable {prog:Program} {w:World} {A:Around} {E:Value->Shared->Prop} {s:Shared} {d it:Addr} {es:Array DictEntry} {ep:Nat}
noncomputable abbrev gB:Obj:=Tb.gB
end
end Dk
namespace Vl
open PySem PySem.Spec L2 So Tb
section
variable {X:Cx} {B:Hp×Hp} {W:Wi} {K:PySem.W.Frag}
end
end Vl
namespace L2
open PySem PySem.Spec PyProof.Rows
section
variable {X:Cx}
end
end L2
namespace Vl
open PySem PySem.Spec L2
section
variable {X:Cx} {B:Hp×Hp} {W:Wi} {K:PySem.W.Frag} {G:Hp}
end
end Vl
namespace Vl
open PySem PySem.Spec PySem.Calls PySem.W L2
theorem YQ {P:Program} {w:World} {K:PySem.W.Frag} {mg:Str->Option Value} {base:Heap} {x:Str} {st:Stmt} {f:Addr} {fd:FuncData} {N ps:List Str} (k:Nat) (F:vR K x x st f fd) (hm:mg x=some (.ref f)) (S:bY N ps (aG st))
  (hbi:∀ (kV doc pm:Value) (an:Option Addr) (cdv ct:Value) (us:List Value),us.length=ps.length->bindArgs (PySem.W.fnOf x x (bR st) (bJ st) (aG st) .none kV doc pm an cdv ct) ⟨us,[]⟩=pure (ps.zip us)) :
  jk P w K mg base x (k + 1) ps.length (fun _=>.no):=dh (k:=k) (g:=fun _=>.no) F hm S hbi fun _ _ _ _ _ _ _ _ _=>Tf
section
variable {X:Cx} {K:PySem.W.Frag} {B:Hp×Hp} {W:Wi} {σ:St} {G H:Hp} {ρ:aJ}
end
end Vl
namespace Vl
open PySem PySem.Spec L2
section
variable {X:Cx} {B:Hp×Hp} {W:Wi} {K:PySem.W.Frag}
end
end Vl
namespace L2
open PySem PySem.Spec PyProof.Rows
section
variable {X:Cx}
end
end L2
namespace Vl
open PySem PySem.Spec L2
section
variable {X:Cx} {B:Hp×Hp} {W:Wi} {K:PySem.W.Frag} {G:Hp}
end
end Vl
namespace Tb
open PySem PySem.SetTable
noncomputable def wd (p:Probe) (d:Option Nat):Probe:={ p with dummy:=d }
theorem uh (t:SetTable) (p:Probe) (d:Option Nat):t.advance (wd p d)=wd (t.advance p) d:=by
 unfold advance wd
 simp only
 split <;> rfl
noncomputable def Emp (t:SetTable) (j:Nat):Prop:=¬ mY t j/\has t.dummies j=false
theorem YT {t:SetTable} {j:Nat} (h:¬ mY t j):¬ (t.place[below t.place j]? == some j)=true:=by
 intro c
 apply h
 have c':t.place[below t.place j]?=some j:=by simpa using c
 obtain ⟨hl,e⟩:=Array.getElem?_eq_some_iff.mp c'
 exact ⟨_,hl,by simp [Array.getD,hl,e]⟩
theorem YW {t:SetTable} {j:Nat} (h:Emp t j):t.slot j=.empty:=by
 unfold slot
 simp only
 rw [if_neg (YT h.1),if_neg (by rw [h.2];simp)]
theorem YX {t:SetTable} {j:Nat} (h:¬ mY t j) (hd:has t.dummies j=true):t.slot j=.dummy:=by
 unfold slot
 simp only
 rw [if_neg (YT h),if_pos hd]
theorem afl {t:SetTable} (R:pG t.place) (hashAt:Nat->Int) (h:Int):∀ (fuel s0 s1:Nat) (d:Option Nat),s0<=s1->s1 < s0 + fuel->Emp t (pos t h s1) ->
    ∃ s2 d',s0<=s2/\s2<=s1/\(∀ s,s0<=s->s < s2->(∃ i,i < t.place.size/\t.place.getD i 0=pos t h s/\hashAt i≠h)∨(¬ mY t (pos t h s)/\has t.dummies (pos t h s)=true)) /\
      ((Emp t (pos t h s2) /\ probe.go t hashAt h fuel (wd (jc t s0 (t.probeStart h)) d) = some (.empty (pos t h s2) d')) ∨
       ∃ i,i < t.place.size/\t.place.getD i 0=pos t h s2/\hashAt i=h/\probe.go t hashAt h fuel (wd (jc t s0 (t.probeStart h)) d)=some (.candidate (pos t h s2) i (wd (jc t (s2 + 1) (t.probeStart h)) d'))):=by
  intro fuel
  induction fuel with
  | zero=>intro s0 s1 d h1 h2;omega
  | succ fuel ih =>
    intro s0 s1 d h1 h2 hl
    unfold probe.go
    by_cases c:mY t (pos t h s0)
    . obtain ⟨i,hi,e1,e2⟩:=vd R c
      have e2':t.slot (wd (jc t s0 (t.probeStart h)) d).j=.live i:=e2
      rw [e2']
      simp only
      by_cases q:hashAt i=h
      . refine ⟨s0,d,Nat.le_refl _,h1,fun s a b=>absurd a (by omega),.inr ⟨i,hi,e1,q,?_⟩⟩
        rw [if_pos (by simp [q]),iD,uh];rfl
      . rw [if_neg (by simp [q]),uh,<- iD]
        have hne:s0≠s1:=fun z=>hl.1 (z▸c)
        obtain ⟨s2,d',a1,a2,a3,a4⟩:=ih (s0 + 1) s1 d (by omega) (by omega) hl
        refine ⟨s2,d',by omega,a2,fun s b1 b2=>?_,a4⟩
        by_cases z:s=s0
        . subst z;exact .inl ⟨i,hi,e1,q⟩
        . exact a3 s (by omega) b2
    . cases hd:has t.dummies (pos t h s0) with
      | true =>
        have e2:t.slot (wd (jc t s0 (t.probeStart h)) d).j=.dummy:=YX c hd
        rw [e2]
        simp only
        have e3:t.advance { wd (jc t s0 (t.probeStart h)) d with dummy:=some (wd (jc t s0 (t.probeStart h)) d).j }=wd (jc t (s0 + 1) (t.probeStart h)) (some (pos t h s0)):=by
          rw [iD,<- uh];rfl
        rw [e3]
        have hne:s0≠s1:=fun z=>by have:=hl.2;rw [<- z,hd] at this;cases this
        obtain ⟨s2,d',a1,a2,a3,a4⟩:=ih (s0 + 1) s1 (some (pos t h s0)) (by omega) (by omega) hl
        refine ⟨s2,d',by omega,a2,fun s b1 b2=>?_,a4⟩
        by_cases z:s=s0
        . subst z;exact .inr ⟨c,hd⟩
        . exact a3 s (by omega) b2
      | false =>
        refine ⟨s0,d,Nat.le_refl _,h1,fun s a b=>absurd a (by omega),.inl ⟨⟨c,hd⟩,?_⟩⟩
        have e2:t.slot (wd (jc t s0 (t.probeStart h)) d).j=.empty:=YW ⟨c,hd⟩
        rw [e2]
        rfl
theorem FP {l:List Nat}:pG l.toArray↔l.Pairwise (· < ·):=by
 rw [List.pairwise_iff_getElem]
 constructor
 ·intro R i j hi hj hij
  have:=R i j hij (by simpa using hj)
  simpa [Array.getD,hi,hj] using this
 ·intro P a b hab hb
  have hb':b < l.length:=by simpa using hb
  have:=P a b (by omega) hb' hab
  have ha':a < l.length:=by omega
  simpa [Array.getD,ha',hb'] using this
theorem rP {l:List Nat} (R:pG l.toArray) {j:Nat}:has l.toArray j=true↔j∈l:=by
 unfold has
 constructor
 ·intro c
  have c':l.toArray[below l.toArray j]?=some j:=by simpa using c
  have:l[below l.toArray j]?=some j:=by simpa using c'
  exact List.mem_of_getElem? this
 ·intro hm
  obtain ⟨i,hi,e⟩:=List.mem_iff_getElem.mp hm
  have hi':i < l.toArray.size:=by simpa using hi
  have e1:l.toArray.getD i 0=j:=by simp [Array.getD,hi,e]
  have:=Lb R hi'
  rw [e1] at this
  rw [this]
  simp [hi,e]
theorem YZ {l:List Nat} (R:pG l.toArray) {j:Nat} (hn:j∉l):∃ l':List Nat,insertAt l.toArray (below l.toArray j) j=l'.toArray/\pG l'.toArray/\(∀ x,x∈l'↔x=j∨x∈l)/\l'.length=l.length + 1:=by
 obtain ⟨b1,b2,b3⟩:=mX R j
 generalize hp:below l.toArray j=p at *
 have b1':p<=l.length:=by simpa using b1
 have P:=FP.mp R
 refine ⟨l.take p++j::l.drop p,lD l p b1' j,FP.mpr ?_,fun x=>?_,by simp;omega⟩
 ·rw [List.pairwise_append]
  refine ⟨P.sublist (List.take_sublist _ _),List.pairwise_cons.mpr ⟨fun a ha=>?_,P.sublist (List.drop_sublist _ _)⟩,fun a ha b hb=>?_⟩
  ·obtain ⟨i,hi,rfl⟩:=List.mem_iff_getElem.mp ha
   have hi':p + i < l.length:=by simp at hi;omega
   have q:=b3 (p + i) (by omega) (by simpa using hi')
   have e:l.toArray.getD (p + i) 0=l[p + i]:=by simp [Array.getD,hi']
   rw [e] at q
   have ne:l[p + i]≠j:=fun z=>hn (z▸List.getElem_mem hi')
   simp only [List.getElem_drop]
   omega
  ·obtain ⟨i,hi,rfl⟩:=List.mem_iff_getElem.mp ha
   have hi':i < p:=by simp at hi;omega
   have q:=b2 i hi'
   have hi2:i < l.length:=by omega
   have e:l.toArray.getD i 0=l[i]:=by simp [Array.getD,hi2]
   rw [e] at q
   simp only [List.getElem_take]
   rcases List.mem_cons.mp hb with z|z
   ·rw [z];exact q
   ·obtain ⟨i',hi3,rfl⟩:=List.mem_iff_getElem.mp z
    have hi4:p + i' < l.length:=by simp at hi3;omega
    have:=b3 (p + i') (by omega) (by simpa using hi4)
    have e':l.toArray.getD (p + i') 0=l[p + i']:=by simp [Array.getD,hi4]
    rw [e'] at this
    simp only [List.getElem_drop]
    omega
 ·have:l=l.take p++l.drop p:=(List.take_append_drop p l).symm
  constructor
  ·intro z
   rcases List.mem_append.mp z with z|z
   ·exact .inr (List.mem_of_mem_take z)
   ·rcases List.mem_cons.mp z with z|z
    ·exact .inl z
    ·exact .inr (List.mem_of_mem_drop z)
  ·rintro (z|z)
   ·subst z;simp
   ·rw [this] at z
    rcases List.mem_append.mp z with z|z
    ·exact List.mem_append_left _ z
    ·exact List.mem_append_right _ (List.mem_cons_of_mem _ z)
theorem vB {α:Type} (xs:List α) (i:Nat) (hi:i < xs.length):eraseAt xs.toArray i=(xs.eraseIdx i).toArray:=by
 unfold eraseAt
 apply Array.toList_inj.mp
 simp only [List.extract_toArray,List.size_toArray,Array.toList_append,List.extract_eq_take_drop,Nat.sub_zero,List.drop_zero]
 rw [List.take_of_length_le (l:=xs.drop (i + 1)) (by simp),List.eraseIdx_eq_take_drop_succ]
theorem PK {α β:Type} (f:α->β):∀ (l:List α) (i:Nat),(l.map f).eraseIdx i=(l.eraseIdx i).map f
 | [],_=>by simp
 | a::l,0=>by simp
 | a::l,i + 1=>by simp [PK f l i]
theorem Rx:∀ {l l':List Nat},l.Nodup->(∀ x∈l,x∈l')->l.length<=l'.length
 | [],_,_,_=>by simp
 | a::l,l',nd,h=>by
  obtain ⟨n1,n2⟩:=List.nodup_cons.mp nd
  have ha:=h a (.head _)
  have:=Rx (l':=l'.erase a) n2 fun x hx=>(List.mem_erase_of_ne (fun (z:x=a)=>n1 (z▸hx))).mpr (h x (.tail _ hx))
  have e:=List.length_erase_of_mem ha
  have hp:0 < l'.length:=List.length_pos_of_mem ha
  simp only [List.length_cons]
  omega
structure pH (t:SetTable) (L:List iJ):Prop where
 pw:∃ k,t.mask + 1=2 ^ k
 m7:7<=t.mask
 pl:t.place=(L.map (·.1)).toArray
 so:(L.map (·.1)).Pairwise (· < ·)
 le:∀ e∈L,e.1<=t.mask
 dr:pG t.dummies
 dj:∀ e∈L,has t.dummies e.1=false
 fl:t.fill<=t.mask
 reach:∀ e∈L,∃ s,pos t e.2.1 s=e.1/\∀ s',s' < s->¬ Emp t (pos t e.2.1 s')
section
variable {t:SetTable} {L:List iJ}
theorem pH.lies (g:pH t L):Lies t L:=⟨g.pl,g.so,g.fl⟩
theorem pH.live (g:pH t L) {j:Nat}:mY t j↔∃ e∈L,e.1=j:=by
 have y:=g.lies
 constructor
 ·rintro ⟨i,hi,e⟩
  rw [y.sz] at hi
  rw [y.at hi] at e
  exact ⟨L[i],List.getElem_mem hi,e⟩
 ·rintro ⟨e,he,q⟩
  obtain ⟨i,hi,e1⟩:=List.mem_iff_getElem.mp he
  exact ⟨i,by rw [y.sz];exact hi,by rw [y.at hi,e1];exact q⟩
theorem acd:∀ {L:List iJ},(L.map (·.1)).Pairwise (· < ·)->∀ {e e':iJ},e∈L->e'∈L->e.1=e'.1->e=e':=by
 intro L so e e' h h' q
 obtain ⟨i,hi,rfl⟩:=List.mem_iff_getElem.mp h
 obtain ⟨j,hj,rfl⟩:=List.mem_iff_getElem.mp h'
 have P:=List.pairwise_iff_getElem.mp so
 by_cases c:i < j
 ·have:=P i j (by simpa using hi) (by simpa using hj) c
  simp only [List.getElem_map] at this;omega
 ·by_cases d:j < i
  ·have:=P j i (by simpa using hj) (by simpa using hi) d
   simp only [List.getElem_map] at this;omega
  ·obtain rfl:i=j:=by omega
   rfl
theorem Good.lost (g:Good t L) (hl:L.length<=t.mask):pH t L where
 pw:=g.pw
 m7:=g.m7
 pl:=g.pl
 so:=g.so
 le:=g.le
 dr:=by rw [g.nd];intro a b _ h;simp at h
 dj:=fun e _=>by unfold has;rw [g.nd];simp
 fl:=(g.lies hl).fl
 reach:=fun e he=>by
  obtain ⟨s,e1,e2⟩:=g.reach e he
  refine ⟨s,e1,fun s' hs z=>z.1 ?_⟩
  obtain ⟨e',h1,h2⟩:=e2 s' hs
  exact g.live.mpr ⟨e',h1,h2⟩
theorem pH.emp (g:pH t L):∃ e,e<=t.mask/\Emp t e:=by
 refine Classical.byContradiction fun c=>?_
 have h:=Rx (l:=List.range (t.mask + 1)) (l':=t.place.toList++t.dummies.toList) List.nodup_range fun x hx=>?_
 ·have:=g.fl
  unfold fill at this
  simp at h
  omega
 ·refine Classical.byContradiction fun d=>c ⟨x,by have:=List.mem_range.mp hx;omega,fun ⟨i,hi,e⟩=>d (List.mem_append_left _ ?_),?_⟩
  ·rw [<- e]
   have:t.place.getD i 0=t.place.toList[i]'(by simpa using hi):=by simp [Array.getD,hi]
   rw [this];exact List.getElem_mem _
  ·cases e:has t.dummies x with
   | false=>rfl
   | true =>
    refine absurd (List.mem_append_right _ ?_) d
    have R:pG t.dummies.toList.toArray:=by simpa using g.dr
    exact (rP R).mp (by simpa using e)
theorem pH.drop (g:pH t L) {i:Nat} (hi:i < L.length):pH (t.drop i) (L.eraseIdx i)/\(t.drop i).plain=t.plain/\(t.drop i).led=t.led/\(t.drop i).mask=t.mask:=by
 have ep:t.place[i]?=some L[i].1:=by rw [g.pl];simp [hi]
 obtain ⟨D,hD⟩:∃ D:List Nat,t.dummies=D.toArray:=⟨t.dummies.toList,by simp⟩
 have R:pG D.toArray:=hD▸g.dr
 have hn:L[i].1∉D:=fun z=>by
  have:=g.dj _ (List.getElem_mem hi)
  rw [hD,(rP R).mpr z] at this
  cases this
 obtain ⟨D',d1,d2,d3,d4⟩:=YZ R hn
 have et:t.drop i={ t with place:=((L.eraseIdx i).map (·.1)).toArray,dummies:=D'.toArray }:=by
  unfold PySem.SetTable.drop
  rw [ep]
  simp only
  have q1:eraseAt t.place i=((L.eraseIdx i).map (·.1)).toArray:=by
   rw [g.pl,vB _ _ (by simpa using hi),PK]
  rw [q1,hD,d1]
 have sub:∀ e,e∈L.eraseIdx i->e∈L:=fun e he=>(List.eraseIdx_sublist L i).subset he
 have ne:∀ e∈L.eraseIdx i,e.1≠L[i].1:=fun e he z=>by
  have P:=g.so
  have hp:(L[i]::L.eraseIdx i).Perm L:=jR hi
  have nd:(L.map (·.1)).Nodup:=P.imp fun h=>Nat.ne_of_lt h
  have nd':=((hp.map (·.1)).nodup_iff).mpr nd
  rw [List.map_cons] at nd'
  exact (List.nodup_cons.mp nd').1 (z▸List.mem_map_of_mem he)
 have so':((L.eraseIdx i).map (·.1)).Pairwise (· < ·):=List.Pairwise.sublist ((List.eraseIdx_sublist L i).map _) g.so
 rw [et]
 refine ⟨⟨g.pw,g.m7,rfl,so',fun e he=>g.le e (sub e he),d2,fun e he=>?_,?_,fun e he=>?_⟩,rfl,rfl,rfl⟩
 ·show has D'.toArray e.1=false
  cases q:has D'.toArray e.1 with
  | false=>rfl
  | true =>
   rcases (d3 _).mp ((rP d2).mp q) with z|z
   ·exact absurd z (ne e he)
   ·have:=g.dj e (sub e he)
    rw [hD,(rP R).mpr z] at this
    cases this
 ·have:=g.fl
  unfold fill at this ⊢
  rw [g.pl,hD] at this
  simp only [List.size_toArray,List.length_map] at this ⊢
  rw [d4,List.length_eraseIdx_of_lt hi]
  omega
 ·obtain ⟨s,e1,e2⟩:=g.reach e (sub e he)
  have pm:∀ s,pos { t with place:=((L.eraseIdx i).map (·.1)).toArray,dummies:=D'.toArray } e.2.1 s=pos t e.2.1 s:=fun s=>pY (by rfl) _ s
  refine ⟨s,by rw [pm];exact e1,fun s' hs z=>e2 s' hs ?_⟩
  rw [pm] at z
  obtain ⟨z1,z2⟩:=z
  have z2':pos t e.2.1 s'∉D':=fun q=>by
   have:=(rP d2).mpr q
   rw [show has D'.toArray _=false from z2] at this;cases this
  refine ⟨fun l=>?_,?_⟩
  ·obtain ⟨e',h1,h2⟩:=g.live.mp l
   have hp:(L[i]::L.eraseIdx i).Perm L:=jR hi
   rcases List.mem_cons.mp (hp.mem_iff.mpr h1) with q|q
   ·exact z2' ((d3 _).mpr (.inl (by rw [<- h2,q])))
   ·obtain ⟨k,hk,ek⟩:=List.mem_iff_getElem.mp q
    exact z1 ⟨k,by simpa using hk,by simp [Array.getD,hk,ek,h2]⟩
  ·cases q:has t.dummies (pos t e.2.1 s') with
   | false=>rfl
   | true=>rw [hD] at q;exact absurd ((d3 _).mpr (.inr ((rP R).mp q))) z2'
end
end Tb
namespace Tb
open PySem PySem.Spec PySem.SetTable
theorem pH.odd {t:SetTable} {L:List iJ} (g:pH t L):t.gaveWay=false:=by
 obtain ⟨k,hk⟩:=g.pw
 have h7:=g.m7
 unfold gaveWay
 cases k with
 | zero=>simp at hk;omega
 | succ k =>
  have:t.mask % 2=1:=by rw [Nat.pow_succ] at hk;omega
  simp [this]
theorem pH.len {t:SetTable} {L:List iJ} (g:pH t L):L.length<=t.mask:=by
 have:=g.fl
 unfold fill at this
 rw [g.lies.sz] at this
 omega
section
variable {prog:Program} {w:World} {A:Around} {E:Value->Shared->Prop} {s:Shared}
theorem Mz {a b:Addr} {ks:List Int} {L:List iJ} {ep:Nat} {t:SetTable} {f:iJ->List Int} {Q:SetFound->Shared->Prop} (ho:s.heap.get? a=some (bU L ep t)) (g:pH t L) (hf:∀ e∈L,HB prog w s.heap e (f e))
  (hb:IsTupleKey (intKind prog w) s.heap ks b) (hu:A.units < cLine) (q1:∀ i (hi:i < L.length),f L[i]=ks->Q (.there (some i)) s)
  (q2:∀ j d,(∀ e∈L,f e≠ks)->Q (.free j d) s) :
  ∀ (fuel s0 sE:Nat) (jP:Option Probe) (d:Option Nat),s0<=sE->sE < s0 + fuel->sE < s0 + 10 * turns t.mask->Emp t (pos t (hK prog w ks) sE)->jP.getD (t.probeStart (hK prog w ks))=wd (jc t s0 (t.probeStart (hK prog w ks))) d ->
   (∀ n,n < s0->(∃ e∈L,e.1=pos t (hK prog w ks) n/\f e≠ks)∨(¬ mY t (pos t (hK prog w ks) n)/\has t.dummies (pos t (hK prog w ks) n)=true))->wpAny (model prog w) A (setSearchFrom a (.ref b) (hK prog w ks) false fuel jP) Q E s:=by
 intro fuel
 have y:=g.lies
 induction fuel with
 | zero=>intro s0 sE _ _ h1 h2;omega
 | succ fuel ih =>
  intro s0 sE jP d h1 h2 h2' hE hst hpre
  unfold setSearchFrom
  refine wpAny_bind (wpAny_setState_of ho rfl (y.fits g.len) ?_)
  simp only [g.odd,Bool.false_eq_true,if_false]
  obtain ⟨s2,d2,a1,a2,a3,a4⟩:=afl y.rise (fun i=>((((L.map (·.2)).toArray)[i]?).map (·.1)).getD 0) (hK prog w ks) (10 * turns t.mask) s0 sE d h1 h2' hE
  have hh:∀ i (hi:i < L.length),((((L.map (·.2)).toArray)[i]?).map (·.1)).getD 0=L[i].2.1:=fun i hi=>by simp [hi]
  have passed:∀ n,n < s2->(∃ e∈L,e.1=pos t (hK prog w ks) n/\f e≠ks)∨(¬ mY t (pos t (hK prog w ks) n)/\has t.dummies (pos t (hK prog w ks) n)=true):=fun n hn=>by
   by_cases c:n < s0
   ·exact hpre n c
   ·rcases a3 n (by omega) hn with ⟨i,hi,e1,e2⟩|z
    ·rw [y.sz] at hi
     rw [y.at hi] at e1
     rw [hh i hi] at e2
     refine .inl ⟨L[i],List.getElem_mem hi,e1,fun z=>e2 ?_⟩
     obtain ⟨b',_,_,e3⟩:=hf _ (List.getElem_mem hi)
     rw [e3,z]
    ·exact .inr z
  rcases a4 with ⟨hne,hp⟩|⟨i,hi,e1,e2,hp⟩
  ·-- an empty slot
   have hp':t.probe (fun i=>((((L.map (·.2)).toArray)[i]?).map (·.1)).getD 0) (hK prog w ks) (jP.getD (t.probeStart (hK prog w ks)))=some (.empty (pos t (hK prog w ks) s2) d2):=by rw [hst];exact hp
   generalize hr:t.probe _ (hK prog w ks) (jP.getD (t.probeStart (hK prog w ks)))=r
   obtain rfl:r=_:=hr.symm.trans hp'
   have none_:∀ e∈L,f e≠ks:=fun e he z=>by
    obtain ⟨b',_,_,e3⟩:=hf e he
    obtain ⟨n,r1,r2⟩:=g.reach e he
    rw [e3,z] at r1 r2
    by_cases c:n < s2
    ·rcases passed n c with ⟨e',he',q,ne⟩|⟨nl,_⟩
     ·have:=acd g.so he' he (q.trans r1)
      subst this
      exact ne z
     ·exact nl (g.live.mpr ⟨e,he,r1.symm⟩)
    ·by_cases d:s2 < n
     ·exact r2 s2 d hne
     ·obtain rfl:n=s2:=by omega
      exact hne.1 (g.live.mpr ⟨e,he,r1.symm⟩)
   simp only
   cases d2 with
   | none=>exact wpAny_pure (q2 _ _ none_)
   | some d0 =>
    simp only [Bool.false_and,Bool.false_eq_true,if_false]
    exact wpAny_pure (q2 _ _ none_)
  ·-- a key with the same hash
   rw [y.sz] at hi
   have e1':=e1
   rw [y.at hi] at e1
   obtain ⟨b',hv,hk',hx⟩:=hf _ (List.getElem_mem hi)
   have hp':t.probe (fun i=>((((L.map (·.2)).toArray)[i]?).map (·.1)).getD 0) (hK prog w ks) (jP.getD (t.probeStart (hK prog w ks)))=some (.candidate (pos t (hK prog w ks) s2) i (wd (jc t (s2 + 1) (t.probeStart (hK prog w ks))) d2)):=by rw [hst];exact hp
   generalize hr:t.probe _ (hK prog w ks) (jP.getD (t.probeStart (hK prog w ks)))=r
   obtain rfl:r=_:=hr.symm.trans hp'
   simp only
   have ei:((L.map (·.2)).toArray)[i]?=some (L[i].2.1,.ref b'):=by
    have:((L.map (·.2)).toArray)[i]?=some L[i].2:=by simp [hi]
    rw [this,<- hv]
   have rest:wpAny (model prog w) A (do
     let some (_,y):=((L.map (·.2)).toArray)[i]?|unsupported "internal:set-entry"
     let equal <- holding [y] (eqBool y (.ref b))
     let (es',_,t') <- setState a
     if false && equal then return .there none
     let some same:=t'.sameMemory t.moves t.mask|unsupported "set.changed-during-lookup:is-the-new-block-at-the-old-address"
     let still <- match (if same then t'.slot (pos t (hK prog w ks) s2) else .empty) with
      | .live i'=>match es'[i']? with
       | some (_,y')=>do pure (if <- isSame y' y then some i' else none)
       | none=>pure none
      | _=>pure none
     match still with
     | none=>rule "set.search.anew";setSearchFrom a (.ref b) (hK prog w ks) false fuel none
     | some i'=>if equal then return .there (some i') else setSearchFrom a (.ref b) (hK prog w ks) false fuel (some (wd (jc t (s2 + 1) (t.probeStart (hK prog w ks))) d2))) Q E s:=by
    rw [ei]
    simp only
    refine wpAny_bind (wpAny_holding ((TK prog w).eqBool hu hk' hb ?_))
    refine wpAny_bind (wpAny_setState_of ho rfl (y.fits g.len) ?_)
    simp only [Bool.false_and,Bool.false_eq_true,if_false]
    have hsm:t.sameMemory t.moves t.mask=some true:=by unfold sameMemory;simp
    rw [hsm]
    simp only [if_true]
    have hsl:t.slot (pos t (hK prog w ks) s2)=.live i:=by rw [<- e1'];exact rJ y.rise (by rw [y.sz];exact hi)
    rw [hsl]
    simp only [ei]
    refine wpAny_bind (pZ (wpAny_bind (wpAny_pure ?_)))
    simp only [if_true]
    by_cases c:f L[i]=ks
    ·simp only [c,decide_true,if_true]
     exact wpAny_pure (q1 i hi c)
    ·simp only [c,decide_false,Bool.false_eq_true,if_false]
     have hne:s2≠sE:=fun z=>hE.1 (z▸g.live.mpr ⟨_,List.getElem_mem hi,e1⟩)
     refine ih (s2 + 1) sE _ d2 (by omega) (by omega) (by omega) hE rfl fun n hn=>?_
     by_cases d:n=s2
     ·subst d;exact .inl ⟨_,List.getElem_mem hi,e1,c⟩
     ·exact passed n (by omega)
   cases ahe:t.led with
   | true=>simp only [Bool.not_true,Bool.false_eq_true,if_false];exact rest
   | false =>
    simp only [Bool.not_false,if_true]
    refine wpAny_bind (HF hb _ (fun y hy=>?_) ?_)
    ·obtain ⟨e,he,rfl⟩:=List.mem_map.mp hy
     have he':e∈(L.map (·.2)):=by
      have:=Array.mem_toList_iff.mp he
      have:=(Array.mem_filter.mp this).1
      simpa using this
     obtain ⟨e0,h0,rfl⟩:=List.mem_map.mp he'
     obtain ⟨b2,hv2,hk2,_⟩:=hf e0 h0
     exact ⟨_,b2,hv2,hk2⟩
    ·simp only [Bool.false_eq_true,if_false];exact rest
theorem Ul {a b:Addr} {ks:List Int} {L:List iJ} {ep:Nat} {t:SetTable} {f:iJ->List Int} {Q:Option Nat->Shared->Prop} (ho:s.heap.get? a=some (bU L ep t)) (g:pH t L) (mb:t.mask < 8000) (hf:∀ e∈L,HB prog w s.heap e (f e)) (hb:IsTupleKey (intKind prog w) s.heap ks b) (hu:A.units < cLine)
  (q1:∀ i (hi:i < L.length),f L[i]=ks->Q (some i) s) (q2:(∀ e∈L,f e≠ks)->Q none s):wpAny (model prog w) A (setFind a (.ref b) (hK prog w ks)) Q E s:=by
 have adi:t.mask < 8000:=mb
 unfold setFind
 show wpAny (model prog w) A (setFindIn a (.ref b) (hK prog w ks) (99999 + 1)) Q E s
 unfold setFindIn
 refine wpAny_bind (wpAny_setState_of ho rfl (g.lies.fits g.len) ?_)
 have hby:byScan (.ref b) (L.map (·.2)).toArray=false:=by simp [byScan,Value.scannable]
 simp only [hby,Bool.false_eq_true,if_false]
 obtain ⟨e0,he0,hE0⟩:=g.emp
 obtain ⟨k,hk⟩:=g.pw
 obtain ⟨sE,_,hsE,pE⟩:=Hw hk (hK prog w ks) 0 he0
 refine wpAny_bind ?_
 unfold setSearch
 refine Mz (f:=f) (Q:=fun r s'=>wpAny (model prog w) A (match r with
  | .there i=>_
  | .free ..=>_) Q E s') ho g hf hb hu (fun i hi c=>?_) (fun j d hno=>?_) 100000 0 sE none none (Nat.zero_le _) (by omega) (by unfold turns;omega) (by rw [pE];exact hE0) rfl (fun n hn=>absurd hn (by omega))
 ·exact wpAny_pure (q1 i hi c)
 ·exact wpAny_pure (q2 hno)
end
end Tb
namespace Tb
open PySem PySem.Spec PySem.SetTable
noncomputable def cJ (prog:Program) (w:World) (U:Addr->List Int->Prop) (h:Heap) (a:Addr) (aC:List (List Int)):Prop :=
 ∃ (L:List iJ) (ep:Nat) (t:SetTable) (f:Int×Value->List Int),h.get? a=some (bU L ep t)/\pH t L/\t.mask < 8000/\(t.plain=true/\t.led=!jl w)/\(∀ e∈L,HB prog w h e (f e.2))/\(L.map fun e=>f e.2).Perm aC/\aC.Nodup/\∀ e∈L,∀ b,e.2.2=.ref b->U b (f e.2)
section
variable {prog:Program} {w:World} {U:Addr->List Int->Prop} {A:Around} {E:Value->Shared->Prop} {s:Shared}
theorem aM.lost {h:Heap} {a:Addr} {aC:List (List Int)} (x:aM prog w U h a aC):cJ prog w U h a aC:=by
 obtain ⟨L,ep,t,f,ho,g,room,mb,pl,hf,hp,nd,uu⟩:=x
 have:=g.m7
 exact ⟨L,ep,t,f,ho,g.lost (by omega),mb,pl,hf,hp,nd,uu⟩
theorem cJ.nd {h:Heap} {a:Addr} {aC:List (List Int)} (x:cJ prog w U h a aC):aC.Nodup:=by
 obtain ⟨_,_,_,_,_,_,_,_,_,_,z,_⟩:=x;exact z
theorem cJ.perm {h:Heap} {a:Addr} {aC fQ:List (List Int)} (x:cJ prog w U h a aC) (p:aC.Perm fQ):cJ prog w U h a fQ:=by
 obtain ⟨L,ep,t,f,ho,g,mb,pl,hf,hp,nd,uu⟩:=x
 exact ⟨L,ep,t,f,ho,g,mb,pl,hf,hp.trans p,p.nodup_iff.mp nd,uu⟩
theorem PL {a b:Addr} {ks:List Int} {aC:List (List Int)} {Q:Bool->Shared->Prop} (hS:cJ prog w U s.heap a aC) (hb:IsTupleKey (intKind prog w) s.heap ks b) (hu:A.units < cLine)
  (h:∀ h' r,Heap.SameBut a s.heap h'->cJ prog w U h' a (aC.erase ks)->Q r { s with heap:=h' }):wpAny (model prog w) A (setDiscardHashed a (.ref b) (hK prog w ks)) Q E s:=by
 obtain ⟨L,ep,t,f,ho,g,mb,pl,hf,hp,nd,uu⟩:=hS
 have hmem:∀ x,x∈aC↔∃ e∈L,f e.2=x:=fun x=>by rw [<- hp.mem_iff,List.mem_map]
 unfold setDiscardHashed
 refine wpAny_bind (Ul (f:=fun e=>f e.2) ho g mb hf hb hu (fun i hi c=>?_) fun hno=>?_)
 ·simp only
  refine wpAny_bind (wpAny_setState_of ho rfl (g.lies.fits g.len) ?_)
  simp only
  have ee:eraseAt ((L.map (·.2)).toArray) i=(((L.eraseIdx i).map (·.2)).toArray):=by rw [vB _ _ (by simpa using hi),PK]
  rw [ee]
  obtain ⟨g',d1,d2,d3⟩:=g.drop hi
  have hlen:(L.eraseIdx i).length<=1000000:=by have:=g.len;rw [List.length_eraseIdx_of_lt hi];omega
  refine wpAny_bind (jQ (L':=L.eraseIdx i) (t':=t.drop i) ho hlen fun h' hs hg=>wpAny_bind (wpAny_point (wpAny_pure (h h' true hs ?_))))
  have sub:∀ e,e∈L.eraseIdx i->e∈L:=fun e he=>(List.eraseIdx_sublist L i).subset he
  refine ⟨L.eraseIdx i,ep + 1,t.drop i,f,hg,g',by rw [d3];exact mb,⟨d1.trans pl.1,d2.trans pl.2⟩,fun e he=>?_,?_,nd.erase _,fun e he=>uu e (sub e he)⟩
  ·obtain ⟨b',h1,h2,h3⟩:=hf e (sub e he)
   exact ⟨b',h1,jd ho hs h2,h3⟩
  ·have p1:(L[i]::L.eraseIdx i).Perm L:=jR hi
   have p2:=(p1.map fun e=>f e.2).trans hp
   rw [List.map_cons,show f L[i].2=ks from c] at p2
   have:=p2.erase ks
   simpa using this
 ·refine wpAny_pure (h s.heap false (Heap.SameBut.refl a s.heap) ?_)
  rw [List.erase_of_not_mem fun z=>by obtain ⟨e,he,q⟩:=(hmem ks).mp z;exact hno e he q]
  exact ⟨L,ep,t,f,ho,g,mb,pl,hf,hp,nd,uu⟩
theorem vC {x:List Int}:∀ (ks aC:List (List Int)),aC.Nodup->((ks.foldl List.erase aC).Nodup/\(x∈ks.foldl List.erase aC↔x∈aC/\x∉ks))
 | [],aC,nd=>⟨nd,by simp⟩
 | k::ks,aC,nd=>by
  obtain ⟨h1,h2⟩:=vC (x:=x) ks (aC.erase k) (nd.erase k)
  refine ⟨h1,?_⟩
  rw [List.foldl_cons,h2,nd.mem_erase_iff]
  simp only [List.mem_cons,not_or]
  constructor
  ·rintro ⟨⟨a,b⟩,c⟩;exact ⟨b,a,c⟩
  ·rintro ⟨b,a,c⟩;exact ⟨⟨a,b⟩,c⟩
theorem vD:∀ (ks aC:List (List Int)),(ks.foldl List.erase aC).length<=aC.length
 | [],aC=>Nat.le_refl _
 | k::ks,aC=>by
  rw [List.foldl_cons]
  have h1:=vD ks (aC.erase k)
  have h2:(aC.erase k).length<=aC.length:=List.length_erase_le
  omega
theorem FQ {r:Addr} {f:Int×Value->List Int} {body:Int×Value->PUnit->Sem (ForInStep PUnit)} {s0:Shared} {Q:PUnit->Shared->Prop}
  (hbody:∀ (e:Int×Value) (b:Addr) (acc:List (List Int)) (s':Shared) (R:ForInStep PUnit->Shared->Prop),e=(hK prog w (f e),.ref b)->IsTupleKey (intKind prog w) s'.heap (f e) b->Heap.SameBut r s0.heap s'.heap->cJ prog w U s'.heap r acc ->
   (∀ h',Heap.SameBut r s'.heap h'->cJ prog w U h' r (acc.erase (f e))->R (.yield ⟨⟩) { s' with heap:=h' })->wpAny (model prog w) A (body e ⟨⟩) R E s') :
  ∀ (es:List (Int×Value)) (acc:List (List Int)) (s':Shared),(∀ e∈es,∃ b,e=(hK prog w (f e),.ref b)/\IsTupleKey (intKind prog w) s0.heap (f e) b/\U b (f e))->Heap.SameBut r s0.heap s'.heap->cJ prog w U s'.heap r acc ->
   (∃ o,s0.heap.get? r=some o/\∀ xs m,o.data≠.seq xs m) ->
   (∀ h',Heap.SameBut r s0.heap h'->cJ prog w U h' r ((es.map f).foldl List.erase acc)->Q ⟨⟩ { s' with heap:=h' })->wpAny (model prog w) A (forIn es PUnit.unit body) Q E s'
 | [],acc,s',_,hs,hS,_,h=>by
  rw [List.forIn_nil]
  exact wpAny_pure (h s'.heap hs hS)
 | e::es,acc,s',he,hs,hS,hr,h=>by
  rw [List.forIn_cons]
  obtain ⟨b,e1,k1,u1⟩:=he e (.head _)
  have key':IsTupleKey (intKind prog w) s'.heap (f e) b:=by
   obtain ⟨o,its,n,q1,q2,q3,q4⟩:=k1
   obtain ⟨ro,g1,g2⟩:=hr
   have ne:b≠r:=fun z=>by subst z;rw [g1] at q1;cases q1;exact g2 _ _ q3
   exact ⟨o,its,n,(hs.2 b ne).trans q1,q2,q3,q4⟩
  refine wpAny_bind (hbody e b acc s' _ e1 key' hs hS fun h' hs' hS'=>?_)
  refine FQ hbody es _ { s' with heap:=h' } (fun e' h'=>he e' (.tail _ h')) (hs.trans hs') hS' hr fun h2 hs2 hS2=>?_
  exact h h2 hs2 hS2
theorem Um {a:Addr} {aC:List (List Int)} {Q:Unit->Shared->Prop} (hS:cJ prog w U s.heap a aC) (hn:aC.length < 1000) (h:∀ h',Heap.SameBut a s.heap h'->cJ prog w U h' a aC->Q () { s with heap:=h' }):wpAny (model prog w) A (setTidy a) Q E s:=by
 obtain ⟨L,ep,t,f,ho,g,mb,pl,hf,hp,nd,uu⟩:=hS
 have hlen:L.length=aC.length:=by have:=hp.length_eq;simpa using this
 unfold setTidy
 refine wpAny_bind (wpAny_setState_of ho rfl (g.lies.fits g.len) ?_)
 simp only
 cases c:t.tooManyDummies with
 | false =>
  simp only [Bool.false_eq_true,if_false]
  exact wpAny_pure (h s.heap (Heap.SameBut.refl a s.heap) ⟨L,ep,t,f,ho,g,mb,pl,hf,hp,nd,uu⟩)
 | true =>
  simp only [if_true]
  have es:((L.map (·.2)).toArray).size=L.length:=by simp
  rw [es]
  have hg:grown L.length=L.length * 4:=by unfold grown;rw [if_neg (by omega)]
  rw [hg]
  obtain ⟨s1,s2,s3,s4⟩:=jD (L.length * 4) (by omega)
  unfold setRelay
  refine wpAny_bind (wpAny_setState_of ho rfl (g.lies.fits g.len) ?_)
  have hsz:¬ sizeAbove (L.length * 4) > sizeLine:=by rw [sizeLine_eq];omega
  simp only [hsz,if_false]
  obtain ⟨t',order,L',e1,e2,e3,e4,e5,g',e6,e7⟩:=rK s1 s2 t.finger (t.movedTo (sizeAbove (L.length * 4) - 1)) t.led t.plain (L.map (·.2)) (by simp;omega)
  have hlen':L'.length=L.length:=by have:=e7.length_eq;simpa using this
  have er:t.relaid (((L.map (·.2)).toArray).map (·.1)) (L.length * 4)=some (t',order):=by
   unfold relaid
   have:((L.map (·.2)).toArray).map (·.1)=((L.map (·.2)).map (·.1)).toArray:=by simp
   rw [this];exact e1
  have main:wpAny (model prog w) A (do
    let some (t,order):=t.relaid (((L.map (·.2)).toArray).map (·.1)) (L.length * 4)|unsupported "internal:set-table-without-room"
    let es':=order.filterMap (((L.map (·.2)).toArray)[·]?)
    if es'.size != ((L.map (·.2)).toArray).size then unsupported "internal:set-table-lost-an-element"
    pure (es',t)) (fun r s'=>wpAny (model prog w) A (storeSet a r.1 r.2) Q E s') E s:=by
   rw [er]
   simp only
   rw [e6]
   have:((L'.map (·.2)).toArray.size != ((L.map (·.2)).toArray).size)=false:=by simp [hlen']
   rw [this]
   simp only [Bool.false_eq_true,if_false]
   refine wpAny_pure ?_
   refine jQ (t':=t') ho (by omega) fun h' hs hg=>h h' hs ⟨L',ep + 1,t',f,hg,g'.lost (by rw [e2];omega),by rw [e2];omega,⟨e4.trans pl.1,e3.trans pl.2⟩,fun e he=>?_,?_,nd,fun e he=>?_⟩
   ·obtain ⟨e0,h0,q0⟩:=List.mem_map.mp (e7.mem_iff.mp (List.mem_map_of_mem he))
    obtain ⟨b',h1,h2,h3⟩:=hf e0 h0
    rw [q0] at h1 h2 h3
    exact ⟨b',h1,jd ho hs h2,h3⟩
   ·have:=(e7.map f)
    simp only [List.map_map] at this
    exact this.trans hp
   ·obtain ⟨e0,h0,q0⟩:=List.mem_map.mp (e7.mem_iff.mp (List.mem_map_of_mem he))
    have:=uu e0 h0
    rw [q0] at this
    exact this
  exact wpAny_bind main
theorem cJ.keys {h:Heap} {a:Addr} {aC:List (List Int)} (x:cJ prog w U h a aC):∃ o,h.get? a=some o/\∀ xs m,o.data≠.seq xs m:=by
 obtain ⟨L,ep,t,f,ho,_⟩:=x
 exact ⟨_,ho,fun xs m z=>by cases z⟩
theorem Uo {id:String} {r o:Addr} {aC js:List (List Int)} {Q:Unit->Shared->Prop} (hr:aM prog w U s.heap r aC) (ho:aM prog w U s.heap o js) (hne:r≠o) (hk:aC.length < 400) (hj:js.length<=aC.length) (hu:A.units < cLine)
  (h:∀ h' ls,Heap.SameBut r s.heap h'->(∀ x,x∈ls↔x∈aC/\x∉js)->cJ prog w U h' r ls->Q () { s with heap:=h' }):wpAny (model prog w) A (Builtin.Frozenset.differenceUpdate id r (.ref o)) Q E s:=by
 obtain ⟨L,ep,t,f,hoD,gs,hlen,hp,he⟩:=ho.goes (by omega)
 unfold Builtin.Frozenset.differenceUpdate
 refine Ia (by rw [beq_eq_false_iff_ne];intro e;injection e with e;exact hne e.symm) ?_
 refine wpAny_bind (qe ho.ty ?_)
 simp only [if_true]
 refine wpAny_bind (m:=Builtin.Frozenset.addrOf _) (wpAny_pure ?_)
 refine wpAny_bind (iV ho (by omega) (wpAny_bind (iV hr (by omega) ?_)))
 have hc:¬ js.length / 8 > aC.length:=by omega
 rw [if_neg hc]
 refine wpAny_bind (wpAny_setEpoch_of hoD rfl (gs.g.fits gs.hl) ?_)
 refine wpAny_bind (wpAny_holding (wpAny_bind (qd hoD gs ?_)))
 rw [<- Array.forIn_toList]
 refine wpAny_bind (FQ (U:=U) (r:=r) (f:=f) (s0:=s) (fun e b acc s' R e1 k1 hs' hS' hR'=>?_) _ aC s he (Heap.SameBut.refl r s.heap) hr.lost hr.lost.keys fun h' hs' hS'=>?_)
 ·rw [e1]
  simp only
  refine wpAny_bind (wpAny_holding (PL hS' k1 hu fun h2 q hs2 hS2=>?_))
  unfold Builtin.Frozenset.unchanged
  have hD':h2.get? o=some (bU L ep t):=(hs2.2 o (Ne.symm hne)).trans ((hs'.2 o (Ne.symm hne)).trans hoD)
  refine wpAny_bind (wpAny_bind (wpAny_setEpoch_of (s:={ s' with heap:=h2 }) hD' rfl (gs.g.fits gs.hl) ?_))
  simp only [bne_self_eq_false,Bool.false_eq_true,if_false]
  exact wpAny_pure (wpAny_pure (hR' h2 hs2 hS2))
 ·refine wpAny_pure ?_
  have hle:=vD ((dw w o ep L).toList.map f) aC
  refine Um (s:={ s with heap:=h' }) hS' (by omega) fun h2 hs2 hS2=>h h2 _ (hs'.trans hs2) (fun x=>?_) hS2
  rw [(vC (x:=x) _ aC hr.nd).2,hp.mem_iff]
end
end Tb
namespace Tb
open PySem PySem.Spec PySem.SetTable
section
variable {prog:Program} {w:World} {U:Addr->List Int->Prop} {A:Around} {E:Value->Shared->Prop} {s:Shared}
theorem afm {id:String} {l r:Addr} {aC js:List (List Int)} {Q:Value->Shared->Prop} (hl:aM prog w U s.heap l aC) (hr:aM prog w U s.heap r js) (hk:aC.length < 400) (hj:js.length < 400) (hu:A.units < cLine)
  (h:∀ h' tk ls,(∀ b o,s.heap.get? b=some o->h'.get? b=some o)->(∀ x,x∈ls↔x∈aC/\x∉js)->cJ prog w U h' s.heap.objs.size ls->Q (.ref s.heap.objs.size) { s with heap:=h',toks:=tk }) :
  wpAny (model prog w) A (Builtin.Frozenset.difference id l (.ref r)) Q E s:=by
 have lt:∀ {D:Addr} {k:List (List Int)},aM prog w U s.heap D k->D < s.heap.objs.size:=fun hS=>by obtain ⟨L,ep,t,ho,_⟩:=hS.len;exact Heap.lt_size ho
 by_cases c:aC.length / 4 > js.length
 ·unfold Builtin.Frozenset.difference
  refine wpAny_bind (qe hr.ty ?_)
  simp only [Bool.not_true,Bool.false_eq_true,if_false,Bool.false_and,if_true]
  refine wpAny_bind (m:=Builtin.Frozenset.addrOf _) (wpAny_pure ?_)
  refine wpAny_bind (iV hr (by omega) (wpAny_bind (iV hl (by omega) ?_)))
  rw [if_pos c]
  refine wpAny_bind (wpAny_rule ?_)
  refine wpAny_bind (HY hl (by omega) hu fun h1 tk1 k1 kp nd1 hm1 hS1=>?_)
  have hp:k1.length=aC.length:=(dM nd1 hl.nd hm1).length_eq
  refine wpAny_bind (m:=Builtin.Frozenset.addrOf _) (wpAny_pure ?_)
  refine wpAny_bind (wpAny_holding (Uo (s:={ s with heap:=h1,toks:=tk1 }) hS1 (hr.moved fun b o _ e=>kp b o e) (Nat.ne_of_gt (lt hr)) (by omega) (by omega) hu fun h2 ls hs2 hm2 hS2=>?_))
  exact wpAny_pure (h h2 tk1 ls (fun b o e=>(hs2.2 b (Nat.ne_of_lt (Heap.lt_size e))).trans (kp b o e)) (fun x=>by rw [hm2 x,hm1 x]) hS2)
 ·exact ahp hl hr hk hj (.inr c) hu fun h' tk ls k hm hS=>h h' tk ls k hm hS.lost
theorem ace {l r:Addr} {aC js:List (List Int)} {Q:Value->Shared->Prop} (hl:aM prog w U s.heap l aC) (hr:aM prog w U s.heap r js) (hk:aC.length < 400) (hj:js.length < 400) (hu:A.units + 4 < cLine)
  (h:∀ h' tk ls,(∀ b o,s.heap.get? b=some o->h'.get? b=some o)->(∀ x,x∈ls↔x∈aC/\x∉js)->cJ prog w U h' s.heap.objs.size ls->Q (.ref s.heap.objs.size) { s with heap:=h',toks:=tk }) :
  wpAny (model prog w) A (binaryOp .Sub (.ref l) (.ref r)) Q E s:=by
 refine wpAny_binaryOp_same (op:=.Sub) (T:="set") hl.ty hr.ty F.fills_set_sub F.slot_set_sub (wpAny_call_entry F.slot_set_sub hl.ty Lw ?_ (F.args_set_sub_2 _ _))
 exact Pg (name:="__sub__") hl.ty hr.ty (afm hl hr hk hj (by show A.units + 1 < cLine;omega) fun h' tk ls k hm hS=>⟨_,rfl,by simp,h h' tk ls k hm hS⟩)
end
end Tb
namespace So
open PySem PySem.Spec PySem.W PyProof.Rows PySem.Calls PySem.SetTable Tb
section
variable {prog:Program} {w:World} {A:Around} {E:Value->Shared->Prop} {s:Shared} {U:Addr->List Int->Prop}
noncomputable def MF (prog:Program) (w:World) (U:Addr->List Int->Prop) (o:Obj) (aC:List (List Int)):Prop :=
 ∃ (L:List iJ) (ep:Nat) (t:SetTable) (f:Int×Value->List Int),o=bU L ep t/\pH t L/\t.mask < 8000/\(t.plain=true/\t.led=!jl w)/\(∀ e∈L,∃ b,e.2.2=.ref b/\e.2.1=hK prog w (f e.2)/\U b (f e.2))/\(L.map fun e=>f e.2).Perm aC/\aC.Nodup
theorem cJ.obj {h:Heap} {a:Addr} {aC:List (List Int)} (x:cJ prog w U h a aC):∃ o,h.get? a=some o/\MF prog w U o aC:=by
 obtain ⟨L,ep,t,f,ho,g,mb,pl,hf,hp,nd,uu⟩:=x
 refine ⟨_,ho,L,ep,t,f,rfl,g,mb,pl,fun e he=>?_,hp,nd⟩
 obtain ⟨b,h1,h2,h3⟩:=hf e he
 exact ⟨b,h1,h3,uu e he b h1⟩
theorem MF.at {h:Heap} {a:Addr} {o:Obj} {aC:List (List Int)} (x:MF prog w U o aC) (ho:h.get? a=some o) (hU:∀ b ks,U b ks->IsTupleKey (intKind prog w) h ks b):cJ prog w U h a aC:=by
 obtain ⟨L,ep,t,f,rfl,g,mb,pl,hf,hp,nd⟩:=x
 refine ⟨L,ep,t,f,ho,g,mb,pl,fun e he=>?_,hp,nd,fun e he b hb=>?_⟩
 ·obtain ⟨b,h1,h2,h3⟩:=hf e he
  exact ⟨b,h1,hU _ _ h3,h2⟩
 ·obtain ⟨b',h1,h2,h3⟩:=hf e he
  rw [hb] at h1;cases h1;exact h3
theorem MJ {D:Addr} {aC:List (List Int)} {Q:Value->Shared->Prop} (hh:A.handled=none) (hS:cJ prog w U s.heap D aC) (hne:∀ ks∈aC,ks≠[]) (h64:aC.length < 1000)
  (h:∀ h' tk l n (out:List Value),(∀ b o,s.heap.get? b=some o->h'.get? b=some o)->s.heap.objs.size<=l->Mt U out (cu aC)->h'.get? l=some (seqObj "list" out.toArray n)->Q (.ref l) { s with heap:=h',toks:=tk }) :
  wpAny (model prog w) A (call (.builtin "sorted") [.ref D]) Q E s:=by
 obtain ⟨L,ep,t,f,ho,g,mb,pl,hf,hp,nd,uu⟩:=hS
 have hlen:L.length=aC.length:=by have:=hp.length_eq;simpa using this
 have gs:Goes w L t:=⟨g.lies,g.len,pl.1,pl.2⟩
 have op:=rM w D ep L
 have osz:(dw w D ep L).toList.length=L.length:=by rw [Array.length_toList,gQ]
 have kp:((dw w D ep L).toList.map f).Perm aC:=((op.map f).trans (List.Perm.of_eq (by rw [List.map_map];rfl))).trans hp
 have each:∀ x∈(dw w D ep L).toList,∃ b,x.2=.ref b/\IsTupleKey (intKind prog w) s.heap (f x) b/\U b (f x):=fun x hx=>by
  obtain ⟨e,he,rfl⟩:=List.mem_map.mp (op.mem_iff.mp hx)
  obtain ⟨b,h1,h2,h3⟩:=hf e he
  exact ⟨b,h1,h2,uu e he b h1⟩
 have at_:∀ (i:Nat) v,((dw w D ep L).toList.map (·.2))[i]?=some v->∃ x,x∈(dw w D ep L).toList/\v=x.2/\((dw w D ep L).toList.map f).getD i []=f x:=fun i v hv=>by
  rw [List.getElem?_map] at hv
  cases e:(dw w D ep L).toList[i]? with
  | none=>rw [e] at hv;cases hv
  | some x =>
   rw [e] at hv
   refine ⟨x,List.mem_of_getElem? e,(Option.some.inj hv).symm,?_⟩
   rw [List.getD_eq_getElem?_getD,List.getElem?_map,e];rfl
 refine wG (vs:=(dw w D ep L).toList.map (·.2)) (aC:=(dw w D ep L).toList.map f) (fun Q' E' hq=>?_) ⟨by simp,fun i v hv=>?_⟩ (fun ks hks=>?_) (by rw [List.length_map,osz];omega) fun h' tk l n p k hl hsp hg=>?_
 ·exact xV (by simpa using hh) ho gs (by omega) hq
 ·obtain ⟨x,hx,rfl,e⟩:=at_ i v hv
  obtain ⟨b,h1,h2,h3⟩:=each x hx
  exact ⟨b,h1,by rw [e];exact h2⟩
 ·exact hne ks (kp.mem_iff.mp hks)
 ·refine h h' tk l n _ k hl (uf ⟨by simp,fun i v hv=>?_⟩ hsp kp) hg
  obtain ⟨x,hx,rfl,e⟩:=at_ i v hv
  obtain ⟨b,h1,h2,h3⟩:=each x hx
  exact ⟨b,h1,by rw [e];exact h3⟩
end
end So
namespace Vl
open PySem PySem.Spec L2 So Tb
noncomputable def MK (P:Program) (w:World) (U:Addr->List Int->Prop) (a:Addr) (aC:List (List Int)):Heap->Prop:=fun h=>∃ o,h.get? a=some o/\MF P w U o aC
section
variable {X:Cx} {B:Hp×Hp} {W:Wi}
noncomputable def Za (P:Program) (w:World) (K:PySem.W.Frag):List V->Hp->VK->Prop:=fun xs H Q=>∃ (p:Addr) (aC:List (List Int)) (U:Addr->List Int->Prop),xs=[.ref p]/\H p=some (.ext (MK P w U p aC))/\(∀ b ks,U b ks->mj K H b (ks.map V.int))/\(∀ ks∈aC,ks≠[])/\aC.length < 1000 /\
 ∀ l ys,H l=none->ys.length=(cu aC).length->(∀ (i:Nat) v,ys[i]?=some v->∃ b,v=.ref b/\U b ((cu aC).getD i []))->Q (.ref l) (gC H l (.lst ys))
theorem Iw (hc:X.calm=true):gD X (.builtin "sorted") (Za X.prog X.w X.K):=by
 intro pins s σ H xs us Q I r h
 obtain ⟨p,aC,U,rfl,hp,hU,hne,h64,q⟩:=h
 obtain ⟨u,rfl,rx⟩:=r.one
 cases rx
 obtain ⟨⟨o,ho,x⟩,_⟩:=I.hok _ _ hp
 have hS:=So.MF.at x ho (fun b ks hb=>zP I (hU b ks hb))
 refine So.MJ (I.ok.hd hc) hS hne h64 fun h' tk l n out k hl ho hg=>?_
 have hln:H l=none:=I.hok.fresh hl
 have hv:∃ ys:List V,Vals ys out/\ys.length=(cu aC).length/\∀ (i:Nat) v,ys[i]?=some v->∃ b,v=.ref b/\U b ((cu aC).getD i []):=by
  refine ⟨out.map fun v=>match v with|.ref b=>V.ref b|_=>V.non,?_,by simp [ho.1],fun i v hv=>?_⟩
  ·have:∀ v∈out,∃ b,v=Value.ref b:=fun v hv=>by
    obtain ⟨i,hi⟩:=List.mem_iff_getElem?.mp hv
    obtain ⟨b,e,_⟩:=ho.2 i v hi;exact ⟨b,e⟩
   clear ho hg
   induction out with
   | nil=>exact .nil
   | cons a out ih =>
    obtain ⟨b,rfl⟩:=this a (.head _)
    exact .cons rfl (ih fun v hv=>this v (.tail _ hv))
  ·rw [List.getElem?_map] at hv
   cases e:out[i]? with
   | none=>rw [e] at hv;cases hv
   | some v' =>
    rw [e] at hv
    obtain ⟨b,rfl,h2⟩:=ho.2 i v' e
    exact ⟨b,(Option.some.inj hv).symm,h2⟩
 obtain ⟨ys,rv,yl,yv⟩:=hv
 have e0:s.heap.objs.size<=l:=hl
 refine ⟨.ref l,_,I.laid (t':=tk) k hl (show gn X.prog X.w _ h' _ (.lst ys) from ⟨?_,out,n,rv,hg⟩),rfl,q l ys hln yl yv⟩
 have:(cu aC).length=aC.length:=(cQ aC).length_eq
 rw [yl,this,sizeLine_eq];omega
noncomputable def Zb (P:Program) (w:World) (K:PySem.W.Frag) (W:Wi) (σ:St) (G H:Hp) (r:Rs (List (List Int))) (Q:VK):Prop :=
 match r with
 | .ok aC=>∀ a H' G',Ext G H G' H'->H a=none->H' a=some (.ext (MK P w (UG K G') a aC))->Q (.ref a) H'
 | .ex c n=>∀ H' G',Ext G H G' H'->W c n σ H'
 | .no=>False
noncomputable def tW (P:Program) (w:World) (K:PySem.W.Frag) (B:Hp×Hp) (W:Wi) (f:aJ->Rs (List (List Int))):TE:=fun σ H Q=>∃ ρ G,SR K B σ H ρ G/\Zb P w K W σ G H (f ρ) Q
noncomputable def SL (X:Cx) (B:Hp×Hp) (W:Wi) (e:Expr) (f:aJ->Rs (List (List Int))):Prop:=PE X e (tW X.prog X.w X.K B W f)
noncomputable def rW2 (P:Program) (w:World) (K:PySem.W.Frag) (C:List (List Int)->List (List Int)->Prop) (g:List (List Int)->List (List Int)->List (List Int)):R2:=fun x y H Q=>∃ (p p2:Addr) (a b:List (List Int)) (U1 U2 U:Addr->List Int->Prop),x=.ref p/\y=.ref p2/\p≠p2/\H p=some (.ext (yh P w U1 p a))/\H p2=some (.ext (yh P w U2 p2 b)) /\
 (∀ c ks,U1 c ks->U c ks)/\(∀ c ks,U2 c ks->U c ks)/\(∀ c ks,U c ks->mj K H c (ks.map V.int))/\C a b/\∀ l,H l=none->Q (.ref l) (gC H l (.ext (MK P w U l (g a b))))
theorem Uq {pins:List (Addr×Obj)} {σ:St} {H:Hp} {s:Shared} {Q:VK} {U:Addr->List Int->Prop} {ls a:List (List Int)} {h':Heap} {tk:Nat} (I:Inv X pins σ H s) (k:∀ b o,s.heap.get? b=some o->h'.get? b=some o) (hS:cJ X.prog X.w U h' s.heap.objs.size ls) (p:ls.Perm a)
  (q:∀ l,H l=none->Q (.ref l) (gC H l (.ext (MK X.prog X.w U l a)))):EP X pins σ Q (.ref s.heap.objs.size) { s with heap:=h',toks:=tk }:=by
 have hS':=hS.perm p
 refine ⟨.ref s.heap.objs.size,_,I.laid (t':=tk) k (Nat.le_refl _) (show gn X.prog X.w _ h' _ (.ext (MK X.prog X.w U s.heap.objs.size a)) from ⟨So.cJ.obj hS',?_,?_⟩),rfl,q _ I.fresh⟩
 ·obtain ⟨o,ho,_⟩:=So.cJ.obj hS';exact ⟨o,ho⟩
 ·rintro h1 h2 ⟨o,ho,x⟩ hk';exact ⟨o,hk' o ho,x⟩
theorem acf (hu:X.A.units + 8 < cLine):rW X (binaryOp .Sub) (rW2 X.prog X.w X.K zT Py):=by
 intro pins s σ H x y v u Q I rx ry ⟨p,p2,a,b,U1,U2,U,ex,ey,ne,h1,h2,u1,u2,hU,hc,q⟩
 subst ex ey
 cases rx
 cases ry
 have A1:=wI I h1 u1 hU
 have A2:=wI I h2 u2 hU
 exact ace A1 A2 hc.1 hc.2 (by omega) fun h' tk ls k hm hS=>Uq I k hS (dM hS.nd (A1.nd.filter _) fun x=>by rw [hm x];exact vp.symm) q
noncomputable abbrev acg:=gK zT Py
theorem Zc {a b:Expr} {pos:Pos} {fa fb:aJ->Rs (List (List Int))} (hc:X.calm=true) (hu:X.A.units + 8 < cLine) (ha:SK X B W a fa) (hb:SK X B W b fb) :
  SL X B W (.BinOp a .Sub b pos) (Wd acg fa fb):=by
 refine PE.imp (Wr (acf hu) ha hb) fun σ H Q h=>?_
 obtain ⟨ρ,G,s,p⟩:=h
 refine ⟨ρ,G,s,?_⟩
 unfold Wd at p
 cases e1:fa ρ with
 | ok l =>
  rw [e1] at p
  have p':Zb X.prog X.w X.K W σ G H ((fb ρ).bind fun m=>acg l m) Q:=p
  intro p1 H1 G1 x1 n1 h1
  refine ⟨ρ,G1,s.ext x1,?_⟩
  cases e2:fb ρ with
  | ok m =>
   rw [e2] at p'
   have p2':Zb X.prog X.w X.K W σ G H (if zT l m then .ok (Py l m) else .no) Q:=p'
   intro p2 H2 G2 x2 n2 h2
   have ne:p1≠p2:=fun z=>by subst z;rw [h1] at n2;cases n2
   by_cases hc:zT l m
   ·rw [if_pos hc] at p2'
    refine ⟨p1,p2,l,m,UG X.K G1,UG X.K G2,UG X.K G2,rfl,rfl,ne,x2.hh _ _ h1,h2,fun c ks q=>Same.ji x2.gg q,fun c ks q=>q,fun c ks q=>Same.ji x2.gh q,hc,fun l' hl'=>?_⟩
    have x12:=x1.trans x2
    exact p2' l' _ G2 (x12.trans (Im x2.gh x2.tp hl')) (by cases e:H l' with|none=>rfl|some o=>have:=x12.hh _ _ e;rw [hl'] at this;cases this) aY
   ·rw [if_neg hc] at p2';exact p2'.elim
  | ex c n=>rw [e2] at p';exact fun H2 G2 x2=>p' H2 G2 (x1.trans x2)
  | no=>rw [e2] at p';exact p'
 | ex c n=>rw [e1] at p;exact p
 | no=>rw [e1] at p;exact p
theorem zW {e:Expr} {p pos:Pos} {f:aJ->Rs (List (List Int))} (hc:X.calm=true) (hm:X.mg "sorted"=none) (he:SL X B W e f) (hg:Gl X "sorted":=by rfl) (hst:starEach [e] X.env=[(false,eval e X.env)]:=by rfl) :
  SE X B W (.Call (.Name "sorted" p) [e] [] pos) (fG f):=by
 refine PE.imp (pO (Iw hc) hg hm PyProof.Rows.boot_sorted (jB he pN hst) (by decide) (by decide) hst rfl) fun σ H Q h=>?_
 obtain ⟨ρ,G,s,p⟩:=h
 refine ⟨ρ,G,s,?_⟩
 unfold fG at p
 cases e1:f ρ with
 | ok aC =>
  rw [e1] at p
  intro a H' G' x _ ha
  have p':Post X.K W σ G H (qj aC) Q:=p
  unfold qj at p'
  by_cases hc':(∀ ks∈aC,ks≠[])/\aC.length < 1000
  ·rw [if_pos hc'] at p'
   refine ⟨a,aC,UG X.K G',rfl,ha,fun b ks hb=>Same.ji x.gh hb,hc'.1,hc'.2,fun l ys hl hy hv=>?_⟩
   have x2:=kE (xs:=ys) x.gh x.tp hl
   refine p' _ _ _ (x.trans x2) (aN.mpr ⟨l,ys,rfl,.of aY,?_⟩)
   exact (rO hy hv).mono x2.gg
  ·rw [if_neg hc'] at p';exact p'.elim
 | ex c n=>rw [e1] at p;exact p
 | no=>rw [e1] at p;exact p
end
end Vl
namespace Vl
open PySem PySem.Spec L2 Dk
section
variable {prog:Program} {w:World} {A:Around} {E:Value->Shared->Prop} {s:Shared}
end
section
variable {X:Cx} {B:Hp×Hp} {W:Wi}
end
end Vl
namespace So
open PySem PySem.Spec PySem.W PyProof.Rows PySem.Calls Tb
section
variable {prog:Program} {w:World} {A:Around} {E:Value->Shared->Prop} {s:Shared}
section
variable {I S:Addr} {fp wr:List Addr} {G:Array GenState->Array GenState->Prop} {n:Nat} {P:Nat->Value->Prop} {St:Nat->Shared->Prop} {R:Result->Shared->Prop} {Kp:Heap->Prop} {bt:Nat->Nat->Bool}
noncomputable def two (v:Value) (c:Nat):Obj:={ cls:=.type "list",dict:=none,data:=.seq #[v,v] c,slots:=#[] }
end
end
end So
namespace Vl
open PySem PySem.Spec L2 So
section
variable {X:Cx} {B:Hp×Hp} {W:Wi} {K:PySem.W.Frag}
end
end Vl
namespace Vl
open PySem PySem.Spec L2
section
variable {prog:Program} {w:World} {K:Type} [DecidableEq K] {knd:HeapKind prog w K} {A:Around} {E:Value->Shared->Prop} {s:Shared}
end
section
variable {X:Cx} {B:Hp×Hp} {W:Wi} {K:PySem.W.Frag}
end
end Vl
namespace L2
open PySem PySem.Spec PyProof.Rows
section
variable {X:Cx}
end
end L2
namespace Vl
open PySem PySem.Spec L2
section
variable {X:Cx} {B:Hp×Hp} {W:Wi} {K:PySem.W.Frag} {G:Hp}
end
end Vl
namespace Vl
open PySem PySem.Spec PySem.Calls PySem.W L2
end Vl
namespace HT2
open PySem PySem.Spec PyProof.Rows HT
variable {prog:Program} {w:World} {A:Around} {E:Value->Shared->Prop} {s:Shared}
theorem sH {t sl:Addr} {items:Array Value} {vl vu:Value} {lo hi:Option Int} {Q:Value->Shared->Prop} (ht:IsTup s.heap t items) (hs:s.heap.IsSliceOf sl vl vu .none) (pl:IsPart vl lo) (pu:IsPart vu hi)
  (hw:iU items.size 0 lo=0/\iU items.size items.size hi=items.size) (h:Q (.ref t) s):wpAny (model prog w) A (getItem (.ref t) (.ref sl)) Q E s:=by
 obtain ⟨os,hos,hcs,hds⟩:=id hs
 have hTs:s.TypeIs (.ref sl) "slice":=⟨os,hos,hcs⟩
 unfold getItem
 try with_reducible refine wpAny_holding ?_
 first|refine wpAny_bind (wpAny_pure ?_)|skip
 refine wpAny_bind (wpAny_sequenceKey ht.typeIs (by decide) ?_)
 refine wpAny_bind (wpAny_callSpecial?_slot (name:=Str.ofString "__getitem__") ht.typeIs PyProof.Rows.slot_tuple_getitem
  (wpAny_call_entry PyProof.Rows.slot_tuple_getitem ht.typeIs entry_tuple_getitem ?_ (args_tuple_getitem _ _)))
 show wpAny _ _ (Builtin.Tuple.tupleItemsOf (.ref t) >>= _) _ _ s
 refine wpAny_bind (tupleItemsOf_ ht ?_)
 refine wpAny_bind (wpAny_typeOf hTs ?_)
 rw [if_pos (by decide)]
 refine wpAny_bind (mq hs pl pu ?_)
 have hno:((((iU items.size 0 lo:Nat):Int) == 0 && (1:Int) == 1 && (iU items.size items.size hi - iU items.size 0 lo) == items.size)=true):=by
  rw [hw.1,hw.2]
  simp
 show wpAny _ _ (if (((iU items.size 0 lo:Nat):Int) == 0 && (1:Int) == 1 && (iU items.size items.size hi - iU items.size 0 lo) == items.size)=true then _ else _) _ _ s
 rw [if_pos hno]
 unfold Builtin.Tuple.tupleIsExact
 refine wpAny_bind (wpAny_bind (wpAny_typeOf ht.typeIs (wpAny_pure ?_)))
 rw [if_pos (by decide)]
 refine wpAny_bind (wpAny_rule ?_)
 exact wpAny_pure ⟨_,rfl,wpAny_pure h⟩
end HT2
namespace Vl
open PySem PySem.Spec PySem.Calls PySem.W L2
section
variable {X:Cx} {B:Hp×Hp} {W:Wi}
noncomputable def Ry:Expr->Bool
 | .Starred ..=>false
 | _=>true
theorem PN {e:Expr} {es:List Expr} {env:Env} (h:Ry e=true):starEach (e::es) env=(false,eval e env)::starEach es env:=by
 cases e <;> first|rfl|cases h
theorem bG {e:Expr} {es:List Expr} {fe:aJ->Rs D} {fs:aJ->Rs (List D)} (ha:SE X B W e fe) (hr:SA X B W es fs) (hs:Ry e=true:=by rfl):SA X B W (e::es) (aj fe fs):=ak ha hr (PN hs)
noncomputable def ahB (K:PySem.W.Frag):V->Option Int->Option Int->Hp->VK->Prop:=fun x lo hi H Q=>∃ a xs,x=.ref a/\mj K H a xs /\
 (HT.iU xs.length 0 lo=0/\HT.iU xs.length xs.length hi=xs.length)/\Q x H
theorem Zd:SlR X (ahB X.K):=by
 intro pins s σ H x v vl vu lo hi sl Q I rx hs pl pu h
 obtain ⟨a,xs,rfl,hx,hw,q⟩:=h
 cases rx
 obtain ⟨its,r,ht,hz⟩:=I.tuple hx
 have hlen:its.toArray.size=xs.length:=by rw [List.size_toArray];exact r.length.symm
 refine ⟨"tuple",_,PyProof.Rows.slot_tuple_getitem.lookup,ht.typeIs,?_⟩
 exact HT2.sH ht hs pl pu (by rw [hlen];exact hw) ⟨.ref a,_,I,rfl,q⟩
section
variable {K:PySem.W.Frag} {σ:St} {G H:Hp} {ρ:aJ}
noncomputable def ach (lo hi:Option Int):D->Rs D
 | .tup ds=>.ok (.tup (yV ds lo hi))
 | _=>.no
noncomputable def aci (fe:aJ->Rs D) (fl fh:aJ->Rs (Option Int)):aJ->Rs D:=fun ρ=>(fe ρ).bind fun x=>(fl ρ).bind fun l=>(fh ρ).bind fun h=>ach l h x
theorem acj {x:D} {v:V} {l h:Option Int} {Q:VK} (s:SR K B σ H ρ G) (r:Rep K G x v) (p:Post K W σ G H (ach l h x) Q):agB K v l h H Q∨ahB K v l h H Q:=by
 cases x with
 | tup ds =>
  obtain ⟨a,vs,rfl,q,rr⟩:=aO.mp r
  have q2:=Same.ji s.en.gh q
  by_cases hw:HT.iU vs.length 0 l=0/\HT.iU vs.length vs.length h=vs.length
  ·refine .inr ⟨a,vs,rfl,q2,hw,?_⟩
   have e:yV ds l h=ds:=by
    unfold yV
    rw [rr.length,hw.1,hw.2,<- rr.length]
    simp
   exact p _ _ _ s.Cp (aO.mpr ⟨a,vs,rfl,q,by rw [e];exact rr⟩)
  ·refine .inl ⟨a,vs,rfl,q2,hw,fun c hc=>?_⟩
   have x:=uP (xs:=Oj vs l h) s.en.gh s.en.tp hc
   exact p _ _ _ x (aO.mpr ⟨c,_,rfl,.of aY,(WY rr).mono x.gg⟩)
 | _=>exact p.elim
theorem Ur {e:Expr} {lo hi:Option Expr} {p2 pos:Pos} {fe:aJ->Rs D} {fl fh:aJ->Rs (Option Int)} (he:SE X B W e fe) (hl:SO X B W lo fl) (hh:SO X B W hi fh) :
  SE X B W (.Subscript e (.Slice lo hi none p2) pos) (aci fe fl fh):=by
 refine PE.imp (Wv (SlR.or aeh Zd) he hl hh) fun σ H Q h=>?_
 obtain ⟨ρ,G,s,p⟩:=mU (k:=fun ρ x=>(fl ρ).bind fun l=>(fh ρ).bind fun h=>ach l h x) h
 refine ⟨ρ,G,s,p.mono fun v H1 ⟨ρ1,G1,d,s1,r,q⟩=>⟨ρ1,G1,s1,?_⟩⟩
 cases e1:fl ρ1 with
 | ok l =>
  rw [e1] at q
  intro H2 G2 x2
  have q':Post X.K W σ G1 H1 ((fh ρ1).bind fun h=>ach l h d) Q:=q
  refine ⟨ρ1,G2,s1.ext x2,?_⟩
  cases e2:fh ρ1 with
  | ok h =>
   rw [e2] at q'
   exact fun H3 G3 x3=>acj ((s1.ext x2).ext x3) ((r.mono x2.gg).mono x3.gg) (Post.ext (x2.trans x3) q')
  | ex c n=>rw [e2] at q';exact fun H3 G3 x3=>q' H3 G3 (x2.trans x3)
  | no=>rw [e2] at q';exact q'
 | ex c n=>rw [e1] at q;exact q
 | no=>rw [e1] at q;exact q
end
noncomputable def MN (j:Nat):aJ->Rs D:=fun ρ=>match ρ[j]? with
 | some (.ow ds)=>.ok (.int ds.length)
 | some (.fz (.lst ds))=>.ok (.int ds.length)
 | _=>.no
theorem acn (j:Nat) {x:Str} {p p1 pos:Pos} (hm:X.mg "len"=none) (hN:X.N[j]?=some x:=by rfl) (hv:Vis X.env.scope x:=by first|exact Or.inl rfl|exact Or.inr (Or.inl rfl)|exact Or.inr (Or.inr rfl)) (hd:(x == ("__debug__":Str))=false:=by decide)
  (hcd:(x == ("__classdict__":Str))=false:=by decide) (hg:Gl X "len":=by rfl) (he:starEach [.Name x p1] X.env=[(false,eval (.Name x p1) X.env)]:=by rfl) :
  SE X B W (.Call (.Name "len" p) [.Name x p1] [] pos) (MN j):=by
 refine PE.imp (pO uO hg hm PySem.boot_len (jB (GF hN hv hd hcd) pN he) (by decide) (by decide) he rfl) fun σ H Q ⟨ρ,G,s,pp⟩=>?_
 unfold MN at pp
 split at pp
 ·rename_i ds q
  obtain ⟨a,vs,e1,h2,h3,h4,h5⟩:=s.ow j ds q
  refine ⟨_,e1,a,vs,rfl,.inl (.of h2),?_⟩
  have:=pp _ H G s.Cp (aL.mpr rfl)
  rw [<- h5.length]
  exact this
 ·rename_i ds q
  obtain ⟨v,e1,r⟩:=s.fz j _ q
  obtain ⟨a,vs,rfl,h2,h5⟩:=aN.mp r
  refine ⟨_,e1,a,vs,rfl,.inl (s.en.gh.seq h2),?_⟩
  have:=pp _ H G s.Cp (aL.mpr rfl)
  rw [<- h5.length]
  exact this
 ·exact pp.elim
theorem Rz {ρ:aJ} {j:Nat} {ds:List D} (h:ρ[j]?=some (.ow ds)):MN j ρ=.ok (.int ds.length):=by unfold MN;rw [h]
end
end Vl
namespace Vl
open PySem PySem.Spec PySem.Calls PySem.W L2
section
variable {ρ ρ1:aJ} {d x y z:D} {f fa fb:aJ->Rs D} {g k a b:aJ->Ou} {r:Ou} {ds:List D} {fs:aJ->Rs (List D)} {c c1 c2:aJ->Rs Bool} {t u:Bool} {i j:Nat} {α β:Type} {e:Str} {n:Int}
theorem FT:Xc (.nx ρ) k=k ρ:=rfl
theorem FW:Xc (.rt d) k=.rt d:=rfl
theorem FZ:Xc (.ex e n ρ) k=.ex e n ρ:=rfl
theorem Us {a:α} {k:α->Ou}:oR (.ok a) ρ k=k a:=rfl
theorem Ut {k:α->Ou}:oR (.ex e n) ρ k=.ex e n ρ:=rfl
theorem kJ {a:α} {k:α->Rs β}:Rs.bind (.ok a) k=k a:=rfl
theorem Ga {k:α->Rs β}:Rs.bind (.ex e n) k=.ex e n:=rfl
theorem Uu:oO (some ρ)=.nx ρ:=rfl
theorem Gb:dH (.nx ρ)=.ok .non:=rfl
theorem Gd:dH (.rt d)=.ok d:=rfl
theorem Ge:dH (.ex e n ρ)=.ex e n:=rfl
theorem Gf:Xe (.nx ρ)=.nx ρ:=rfl
theorem Gg:Xe (.rt d)=.rt d:=rfl
theorem wM {n:Nat} {v:List D->Rs D}:bK n v ds=if ds.length=n then v ds else .no:=rfl
theorem wN {a:α}:yX (.ok a)=.ok a:=rfl
theorem zX {m n:Int} (h:-(2 ^ 64) < n/\n < 2 ^ 64):tX (.int m) (.int n)=.ok (.int (m * n)):=agZ (.inr h)
theorem Gh {m:Int}:dB (.tup ds) (.int m)=match Fb ds m with|some d=>.ok d|none=>.no:=rfl
theorem Gi {m:Int}:dB (.lst ds) (.int m)=match Fb ds m with|some d=>.ok d|none=>.no:=rfl
theorem uo:yW [.lst ds]=.ok (.int ds.length):=rfl
theorem uq:yW [.tup ds]=.ok (.int ds.length):=rfl
theorem ur:gw [.lst ds]=.ok (.tup ds):=rfl
theorem wO:gw [.tup ds]=.ok (.tup ds):=rfl
theorem wQ:ql [.lst ds]=.ok (.lst ds):=rfl
theorem qm:ql [.tup ds]=.ok (.lst ds):=rfl
theorem wR:Iv [.int n]=.ok (.int n):=rfl
theorem uw:Iv [.bl t]=.ok (.int (if t then 1 else 0)):=rfl
theorem Gj:ajx x .non=.ok (.bl (vq x)):=rfl
theorem wU:ahy x .non=.ok (.bl (!vq x)):=rfl
theorem Uv:vq .non=true:=rfl
theorem Uw:vq (.bl t)=false:=rfl
theorem Ux:vq (.int n)=false:=rfl
theorem Uy:vq (.tup ds)=false:=rfl
theorem Uz:vq (.lst ds)=false:=rfl
theorem Gk:abj (.int n)=.ok (.int (-n)):=rfl
theorem Gm {d:D}:Fb (d::ds) 0=some d:=by
 unfold Fb
 have:ixN (d::ds).length 0=some 0:=by
  unfold ixN;simp
 rw [this];rfl
theorem Gn {d d':D}:Fb (d::d'::ds) 1=some d':=by
 unfold Fb
 have:ixN (d::d'::ds).length 1=some 1:=by
  unfold ixN;simp
  omega
 rw [this];rfl
end
section
open So Tb
theorem iQ {α:Type} {h:Tg} {fe:aJ->Rs D} (P:aJ->Prop) (Kh:α->D) (F:α->D):∀ {xs:List α} {ρ:aJ},P ρ->(∀ x∈xs,∀ ρ,P ρ->∃ ρ1,h (Kh x) ρ=some ρ1/\fe ρ1=.ok (F x)/\P ρ1)->eV h (fun _=>.ok true) fe (xs.map Kh) ρ=.ok (xs.map F)
 | [],ρ,p,_=>rfl
 | x::xs,ρ,p,st=>by
  obtain ⟨ρ1,e1,e2,p2⟩:=st x (by simp) ρ p
  have e:=iQ (xs:=xs) P Kh F p2 fun d' hd=>st d' (by simp [hd])
  simp only [List.map_cons,eV,e1,Rs.bind,e2,e,if_true]
theorem RB {acc:List (List Int)} {k x:List Int}:x∈ins acc k↔x=k∨x∈acc:=by
 unfold ins
 split
 ·rename_i h
  constructor
  ·exact .inr
  ·rintro (rfl|h')
   ·exact h
   ·exact h'
 ·exact List.mem_cons
theorem jW {l:List (List Int)} {x:List Int}:x∈bH l↔x∈l:=by
 unfold bH
 have:∀ (l acc:List (List Int)),x∈l.foldl ins acc↔x∈l∨x∈acc:=by
  intro l
  induction l with
  | nil=>intro acc;simp
  | cons a l ih =>
   intro acc
   rw [List.foldl_cons,ih,RB,List.mem_cons]
   constructor
   ·rintro (h|h|h)
    ·exact .inl (.inr h)
    ·exact .inl (.inl h)
    ·exact .inr h
   ·rintro ((h|h)|h)
    ·exact .inr (.inl h)
    ·exact .inl h
    ·exact .inr (.inr h)
 simpa using this l []
theorem wV (l:List (List Int)):(bH l).Nodup:=by
 unfold bH
 have:∀ (l acc:List (List Int)),acc.Nodup->(l.foldl ins acc).Nodup:=by
  intro l
  induction l with
  | nil=>intro acc h;exact h
  | cons a l ih =>
   intro acc h
   refine ih _ ?_
   unfold ins
   split
   ·exact h
   ·rename_i hn;exact List.nodup_cons.mpr ⟨hn,h⟩
 exact this l [] List.nodup_nil
theorem rQ {l:List (List Int)} {x:List Int}:x∈cu l↔x∈l:=(cQ l).mem_iff
theorem UJ (l:List (List Int)):(cu l).length=l.length:=(cQ l).length_eq
noncomputable abbrev rise (l:List (List Int)):List (List Int):=cu (bH l)
theorem MP {l:List (List Int)} {x:List Int}:x∈rise l↔x∈l:=rQ.trans jW
theorem zY (l:List (List Int)):(rise l).length<=l.length:=by unfold rise;rw [UJ];exact nq l
theorem RD {f:aJ->Rs D} {ρ:aJ} {aC:List (List Int)} (h:f ρ=.ok (.lst (aC.map tupK))) (hl:aC.length < 1000) (hne:∀ ks∈aC,ks≠[]):fG (fK f) ρ=.ok (.lst ((rise aC).map tupK)):=by
 unfold fG fK
 rw [h]
 simp only [kJ,wH,rN]
 rw [if_pos (by rw [List.length_map];omega)]
 simp only [kJ,qj]
 rw [if_pos ⟨fun ks hk=>hne ks (jW.mp hk),Nat.lt_of_le_of_lt (nq aC) hl⟩]
theorem aco {f:aJ->Rs D} {ρ:aJ} {aC:List (List Int)} (h:f ρ=.ok (.tup (aC.map tupK))) (hl:aC.length < 1000) (hne:∀ ks∈aC,ks≠[]):fG (fK f) ρ=.ok (.lst ((rise aC).map tupK)):=by
 unfold fG fK
 rw [h]
 simp only [kJ,wH,rN]
 rw [if_pos (by rw [List.length_map];omega)]
 simp only [kJ,qj]
 rw [if_pos ⟨fun ks hk=>hne ks (jW.mp hk),Nat.lt_of_le_of_lt (nq aC) hl⟩]
noncomputable def Pair (ks:List Int):Prop:=∃ a b,ks=[a,b]
theorem Pair.ne {ks:List Int} (h:Pair ks):ks≠[]:=by obtain ⟨a,b,rfl⟩:=h;simp
noncomputable def cI (aC:List (List Int)) (b:Bool):D:=.tup [.tup (aC.map tupK),.bl b]
theorem Nb (ks:List Int):cT (tupK ks)<=2:=by
 unfold tupK
 have:eU (ks.map D.int)<=1:=by
  induction ks with
  | nil=>simp [eU]
  | cons k ks ih=>simp only [List.map_cons,eU,cT];exact Nat.max_le.mpr ⟨by omega,ih⟩
 simp only [cT];omega
theorem Gp (aC:List (List Int)):eU (aC.map tupK)<=2:=by
 induction aC with
 | nil=>simp [eU]
 | cons k aC ih=>simp only [List.map_cons,eU];exact Nat.max_le.mpr ⟨Nb k,ih⟩
theorem RG (aC:List (List Int)) (b:Bool):cT (cI aC b)<=8:=by
 have:=Gp aC
 unfold cI
 simp only [cT,eU]
 refine Nat.le_trans (Nat.succ_le_succ (Nat.max_le.mpr ⟨Nat.succ_le_succ this,?_⟩)) (show 3 + 1<=8 by decide)
 exact Nat.max_le.mpr ⟨by decide,by decide⟩
theorem zZ {α:Type} (xs:List α):KR [.lst (xs.map fun _=>.bl true)]=.ok (.bl true):=by
 have h:∀ xs:List α,za (xs.map fun _=>D.bl true)=some (xs.map fun _=>true):=fun xs=>by
  induction xs with
  | nil=>rfl
  | cons x xs ih=>simp only [List.map_cons,za,ih];rfl
 simp only [KR,h]
 have:(xs.map fun _=>true).all id=true:=by simp
 rw [this]
end
end Vl
namespace Wf
open PySem PySem.Spec PySem.Calls PySem.W L2 Vl
def CG (i:Nat):Stmt:=PySem.Challenge.pw_edgemoss_k07_whole_shapes_as_sets.main.body.getD i (.Pass ⟨0,0,0,0⟩)
noncomputable abbrev fU:Stmt:=CG 1
noncomputable abbrev mG:Stmt:=CG 2
noncomputable abbrev Gq:Stmt:=CG 7
noncomputable abbrev wW:Stmt:=CG 8
noncomputable abbrev jL:Stmt:=CG 10
noncomputable abbrev mH:Stmt:=CG 9
noncomputable abbrev nD:Stmt:=CG 11
noncomputable abbrev fV:Stmt:=CG 13
noncomputable abbrev eH:Stmt:=CG 14
noncomputable abbrev jX:Stmt:=CG 15
noncomputable abbrev gR:Stmt:=CG 17
noncomputable abbrev fW:Stmt:=CG 18
noncomputable abbrev gU:Stmt:=CG 19
noncomputable abbrev cN:Stmt:=CG 20
noncomputable abbrev fX:Stmt:=CG 21
noncomputable abbrev eN:Stmt:=CG 22
noncomputable abbrev gW:Stmt:=CG 23
noncomputable abbrev gZ:Stmt:=CG 24
noncomputable abbrev fJ:Stmt:=CG 25
noncomputable abbrev dW:Stmt:=CG 26
noncomputable abbrev mJ:Stmt:=CG 27
noncomputable def Gr (c:Str):Bool:=c == "BadTurn"
structure Txt (K:Frag) (mg:Str->Option Value) (aW:Addr):Prop where
 adw:mg "all"=none
 Ze:mg "bool"=none
 mK:mg "divmod"=none
 Zf:mg "int"=none
 fY:mg "isinstance"=none
 RJ:mg "len"=none
 Zg:mg "list"=none
 yD:mg "range"=none
 qp:mg "set"=none
 jf:mg "sorted"=none
 eO:mg "tuple"=none
 UL:mg "BadTurn"=some (.ref aW)
 iR:nsIn K mainGlobals "BadTurn"=some (some (.ref aW))
 mL:excIn K aW [.type "ValueError",.type "Exception",.type "BaseException",.type "object"] "ValueError.__new__"=true
 afV:∀ c C,Gr c=true->nsIn K mainGlobals c=some (some (.ref C))->kitOne K (.ref C) (.ref aW)=some true
section
variable {P:Program} {w:World} {K:Frag} {mg:Str->Option Value} {base:Heap} {aW:Addr}
theorem CJ:bY ["cell","step"] ["cell","step"] (aG fU):=⟨rfl,rfl,rfl,by decide +kernel,rfl,by decide +kernel,by decide +kernel⟩
noncomputable def vG:aJ->Ou :=
  cO (fA (aj (bD iB (bD dB (aD 0) (fC (.int 0))) (bD dB (aD 1) (fC (.int 0)))) (aj (bD iB (bD dB (aD 0) (fC (.int 1))) (bD dB (aD 1) (fC (.int 1)))) aQ)) dI)
noncomputable def nF:List D->Rs D:=fun ds=>dH (vG (bB ["cell","step"] ds))
theorem CK (T:Txt K mg aW) {f:Addr} {fd:FuncData} (F:vR K "cell_moved" "cell_moved" fU f fd) (hm:mg "cell_moved"=some (.ref f)) :jk P w K mg base "cell_moved" 1 2 nF :=
 dh (k:=0) (g:=vG) F hm CJ (fun _ _ _ _ _ _ us hl=>match us,hl with|[_,_],_=>rfl) fun cdv A outer s H E B hr hx =>
  aZ (bL (cB (ak (jM (bF (sv 0) au) (bF (sv 1) au)) (ak (jM (bF (sv 0) au) (bF (sv 1) au)) aK))))
theorem UW:bY ["cells"] ["cells"] (aG mG):=⟨rfl,rfl,rfl,by decide +kernel,rfl,by decide +kernel,by decide +kernel⟩
noncomputable def Aa:aJ->Ou :=
  cO (fA (aj (fG (fK (aD 0))) aQ) gw)
noncomputable def qt:List D->Rs D:=fun ds=>dH (Aa (bB ["cells"] ds))
theorem Va (T:Txt K mg aW) {f:Addr} {fd:FuncData} (F:vR K "rising" "rising" mG f fd) (hm:mg "rising"=some (.ref f)) :jk P w K mg base "rising" 1 1 qt :=
 dh (k:=0) (g:=Aa) F hm UW (fun _ _ _ _ _ _ us hl=>match us,hl with|[_],_=>rfl) fun cdv A outer s H E B hr hx =>
  aZ (bL (fH T.eO (jV rfl T.jf (jU rfl (cg hr) T.qp (sv 0)))))
theorem afn:bY ["shape","cell"] ["shape","cell"] (aG Gq):=⟨rfl,rfl,rfl,by decide +kernel,rfl,by decide +kernel,by decide +kernel⟩
noncomputable def RK:aJ->Ou :=
  cO (bD Cv (bD gIn (aD 1) (bD dB (aD 0) (fC (.int 0)))) (bD dB (aD 0) (fC (.int 1))))
noncomputable def Nf:List D->Rs D:=fun ds=>dH (RK (bB ["shape","cell"] ds))
theorem afo (T:Txt K mg aW) {f:Addr} {fd:FuncData} (F:vR K "has" "has" Gq f fd) (hm:mg "has"=some (.ref f)) :jk P w K mg base "has" 1 2 Nf :=
 dh (k:=0) (g:=RK) F hm afn (fun _ _ _ _ _ _ us hl=>match us,hl with|[_,_],_=>rfl) fun cdv A outer s H E B hr hx =>
  aZ (bL (QX (cg hr) (Rv (cg hr) (sv 1) (bF (sv 0) au)) (bF (sv 0) au)))
theorem acp:bY ["one","other"] ["one","other"] (aG wW):=⟨rfl,rfl,rfl,by decide +kernel,rfl,by decide +kernel,by decide +kernel⟩
noncomputable def PX:aJ->Ou :=
  bO (pI (uU (fT (bD dB (aD 0) (fC (.int 1)))) (fT (bD dB (aD 1) (fC (.int 1))))) (cO (fA (aj (fA (aj (fG (Wd kOr (fK (bD dB (aD 0) (fC (.int 0)))) (fK (bD dB (aD 1) (fC (.int 0)))))) aQ) gw) (aj (fC (.bl true)) aQ)) dI)) su)
  (bO (pI (fT (bD dB (aD 0) (fC (.int 1)))) (cO (fA (aj (fA (aj (fG (Wd acg (fK (bD dB (aD 1) (fC (.int 0)))) (fK (bD dB (aD 0) (fC (.int 0)))))) aQ) gw) (aj (fC (.bl false)) aQ)) dI)) su)
  (bO (pI (fT (bD dB (aD 1) (fC (.int 1)))) (cO (fA (aj (fA (aj (fG (Wd acg (fK (bD dB (aD 0) (fC (.int 0)))) (fK (bD dB (aD 1) (fC (.int 0)))))) aQ) gw) (aj (fC (.bl false)) aQ)) dI)) su)
  (cO (fA (aj (fA (aj (fG (Wd ahw (fK (bD dB (aD 0) (fC (.int 0)))) (fK (bD dB (aD 1) (fC (.int 0)))))) aQ) gw) (aj (fC (.bl false)) aQ)) dI))))
noncomputable def ux:List D->Rs D:=fun ds=>dH (PX (bB ["one","other"] ds))
theorem acq (T:Txt K mg aW) {f:Addr} {fd:FuncData} (F:vR K "both" "both" wW f fd) (hm:mg "both"=some (.ref f)) :jk P w K mg base "both" 1 2 ux :=
 dh (k:=0) (g:=PX) F hm acp (fun _ _ _ _ _ _ us hl=>match us,hl with|[_,_],_=>rfl) fun cdv A outer s H E B hr hx =>
  aH (eF (WQ (WM (pP (bF (sv 0) au)) (QS (pP (bF (sv 1) au))))) (aZ (bL (cB (ak (fH T.eO (jV rfl T.jf (ahx rfl (cg hr) (jU rfl (cg hr) T.qp (bF (sv 0) au)) (jU rfl (cg hr) T.qp (bF (sv 1) au))))) (ak sI aK))))) cM)
  (aH (eF (pP (bF (sv 0) au)) (aZ (bL (cB (ak (fH T.eO (zW rfl T.jf (Zc rfl (cg hr) (jU rfl (cg hr) T.qp (bF (sv 1) au)) (jU rfl (cg hr) T.qp (bF (sv 0) au))))) (ak sI aK))))) cM)
  (aH (eF (pP (bF (sv 1) au)) (aZ (bL (cB (ak (fH T.eO (zW rfl T.jf (Zc rfl (cg hr) (jU rfl (cg hr) T.qp (bF (sv 0) au)) (jU rfl (cg hr) T.qp (bF (sv 1) au))))) (ak sI aK))))) cM)
  (aZ (bL (cB (ak (fH T.eO (jV rfl T.jf (afe rfl (cg hr) (jU rfl (cg hr) T.qp (bF (sv 0) au)) (jU rfl (cg hr) T.qp (bF (sv 1) au))))) (ak sI aK)))))))
theorem Qa:bY ["shape"] ["shape"] (aG jL):=⟨rfl,rfl,rfl,by decide +kernel,rfl,by decide +kernel,by decide +kernel⟩
noncomputable def Gs:aJ->Ou :=
  cO (fA (aj (bD dB (aD 0) (fC (.int 0))) (aj (pq (bD dB (aD 0) (fC (.int 1)))) aQ)) dI)
noncomputable def ig:List D->Rs D:=fun ds=>dH (Gs (bB ["shape"] ds))
theorem Qc (T:Txt K mg aW) {f:Addr} {fd:FuncData} (F:vR K "outside" "outside" jL f fd) (hm:mg "outside"=some (.ref f)) :jk P w K mg base "outside" 1 1 ig :=
 dh (k:=0) (g:=Gs) F hm Qa (fun _ _ _ _ _ _ us hl=>match us,hl with|[_],_=>rfl) fun cdv A outer s H E B hr hx =>
  aZ (bL (cB (ak (bF (sv 0) au) (ak (Hg (bF (sv 0) au)) aK))))
theorem Vb:bY ["one","other"] ["one","other"] (aG mH):=⟨rfl,rfl,rfl,by decide +kernel,rfl,by decide +kernel,by decide +kernel⟩
noncomputable def Ab:aJ->Ou :=
  cO (fA (aj (fA (aj (fA (aj (aD 0) aQ) (bK 1 ig)) (aj (fA (aj (aD 1) aQ) (bK 1 ig)) aQ)) (bK 2 ux)) aQ) (bK 1 ig))
noncomputable def qu:List D->Rs D:=fun ds=>dH (Ab (bB ["one","other"] ds))
theorem Vc (T:Txt K mg aW) {f:Addr} {fd:FuncData} (F:vR K "either" "either" mH f fd) (hm:mg "either"=some (.ref f)) (iu:jk P w K mg base "outside" 1 1 ig) (wX:jk P w K mg base "both" 1 2 ux):jk P w K mg base "either" 2 2 qu :=
 dh (k:=1) (g:=Ab) F hm Vb (fun _ _ _ _ _ _ us hl=>match us,hl with|[_,_],_=>rfl) fun cdv A outer s H E B hr hx =>
  aZ (bL (bI iu (hr.mono (by decide)) hx (ak (bI wX (hr.mono (by decide)) hx (ak (bI iu (hr.mono (by decide)) hx (ak (sv 0) aK)) (ak (bI iu (hr.mono (by decide)) hx (ak (sv 1) aK)) aK))) aK)))
theorem Zh:bY ["shape","step"] ["shape","step"] (aG nD):=⟨rfl,rfl,rfl,by decide +kernel,rfl,by decide +kernel,by decide +kernel⟩
noncomputable def wY:aJ->Rs D :=
  fA (aj (aD 0) (aj (aD 1) aQ)) (bK 2 nF)
noncomputable def Iz:aJ->Ou :=
  cO (fA (aj (fA (aj (jy (aP 0) (fun _=>.ok true) wY 1 [1] (fL (bD dB (aD 0) (fC (.int 0))) Wa)) aQ) gw) (aj (bD dB (aD 0) (fC (.int 1))) aQ)) dI)
noncomputable def rR:List D->Rs D:=fun ds=>dH (Iz (bB ["shape","step"] ds))
theorem Zi (T:Txt K mg aW) {f:Addr} {fd:FuncData} (F:vR K "moved" "moved" nD f fd) (hm:mg "moved"=some (.ref f)) (nG:jk P w K mg base "cell_moved" 1 2 nF):jk P w K mg base "moved" 2 2 rR :=
 dh (k:=1) (g:=Iz) F hm Zh (fun _ _ _ _ _ _ us hl=>match us,hl with|[_,_],_=>rfl) fun cdv A outer s H E B hr hx =>
  aZ (bL (cB (ak (fH T.eO (rG (rF (aG nD) ["shape","step"] (N:=["cell","step"]) (nt:=1) (caps:=[1]) (by decide +kernel)) rfl (by decide +kernel) (zm (bF (sv 0) au)) jJ (fun s₀ H₀ C ex pins B1=>rg 0 (show List.Nodup (["cell","step"]:List Str) by decide)) (fun s₀ H₀ C ex pins B1=>bI nG (hr.mono (by decide)) gG (ak (sv 0) (ak (sv 1) aK))))) (ak (bF (sv 0) au) aK))))
theorem CN:bY ["turn"] ["turn"] (aG fV):=⟨rfl,rfl,rfl,by decide +kernel,rfl,by decide +kernel,by decide +kernel⟩
noncomputable def vH:aJ->Ou :=
  pI (VR (fT (bD Wc (aD 0) (fC (.int 0)))) (fT (bD gGt (aD 0) (fC (.int 7))))) (Ov "BadTurn" (aj (fC (.str "turns are numbered from 0 to 7")) aQ)) su
noncomputable def fZ:List D->Rs D:=fun ds=>dH (vH (bB ["turn"] ds))
theorem CP (T:Txt K mg aW) {f:Addr} {fd:FuncData} (F:vR K "check_turn" "check_turn" fV f fd) (hm:mg "check_turn"=some (.ref f)) :jk P w K mg base "check_turn" 1 1 fZ :=
 dh (k:=0) (g:=vH) F hm CN (fun _ _ _ _ _ _ us hl=>match us,hl with|[_],_=>rfl) fun cdv A outer s H E B hr hx =>
  aZ (eF (WQ (QT (KN (sv 0) au) (Ol (ade (sv 0) au)))) (aZ (Xr wg rfl rfl rfl T.UL T.iR T.mL PySem.F.excBase_ValueError (by decide) PySem.F.excBase_ValueError (ak aep aK) (by decide))) cM)
theorem fM:bY ["cell","turn","here","quarter"] ["cell","turn"] (aG eH):=⟨rfl,rfl,rfl,by decide +kernel,rfl,by decide +kernel,by decide +kernel⟩
noncomputable def yp:aJ->Ou :=
  iy 2 (fA (aj (bD dB (aD 2) (fC (.int 1))) (aj (wj (bD dB (aD 2) (fC (.int 0)))) aQ)) dI)
noncomputable def tu:aJ->Ou :=
  bO (Ht (fA (aj (aD 1) aQ) (bK 1 fZ)))
  (bO (iy 2 (aD 0))
  (bO (pI (fT (bD yZ (bD KD (aD 1) (fC (.int 4))) (fC (.int 1)))) (iy 2 (fA (aj (bD dB (aD 2) (fC (.int 0))) (aj (wj (bD dB (aD 2) (fC (.int 1)))) aQ)) dI)) su)
  (bO (sy (uX (aP 3) yp (bD rZ (aD 1) (fC (.int 4)))))
  (cO (aD 2)))))
noncomputable def iY:List D->Rs D:=fun ds=>dH (tu (bB ["cell","turn","here","quarter"] ds))
theorem Ac (T:Txt K mg aW) {f:Addr} {fd:FuncData} (F:vR K "turned_cell" "turned_cell" eH f fd) (hm:mg "turned_cell"=some (.ref f)) (gj:jk P w K mg base "check_turn" 1 1 fZ):jk P w K mg base "turned_cell" 2 2 iY :=
 dh (k:=1) (g:=tu) F hm fM (fun _ _ _ _ _ _ us hl=>match us,hl with|[_,_],_=>rfl) fun cdv A outer s H E B hr hx =>
  aH (Xu (bI gj (hr.mono (by decide)) hx (ak (sv 1) aK)))
  (aH (dg 2 fM.nd (sv 0))
  (aH (eF (pX (cg hr) (Hi (sv 1) au) au) (aZ (dg 2 fM.nd (cB (ak (bF (sv 2) au) (ak (Ow (bF (sv 2) au)) aK))))) cM)
  (aH (tZ (yt PassesOwn.never rfl T.yD (pR (sv 1) au) (rg 3 fM.nd) (aZ (dg 2 fM.nd (cB (ak (bF (sv 2) au) (ak (Ow (bF (sv 2) au)) aK)))))))
  (aZ (bL (sv 2))))))
theorem Vd:bY ["shape","turn"] ["shape","turn"] (aG jX):=⟨rfl,rfl,rfl,by decide +kernel,rfl,by decide +kernel,by decide +kernel⟩
noncomputable def uy:aJ->Rs D :=
  fA (aj (aD 0) (aj (aD 1) aQ)) (bK 2 iY)
noncomputable def Ad:aJ->Ou :=
  bO (Ht (fA (aj (aD 1) aQ) (bK 1 fZ)))
  (cO (fA (aj (fA (aj (jy (aP 0) (fun _=>.ok true) uy 1 [1] (fL (bD dB (aD 0) (fC (.int 0))) Wa)) aQ) (bK 1 qt)) (aj (bD dB (aD 0) (fC (.int 1))) aQ)) dI))
noncomputable def qw:List D->Rs D:=fun ds=>dH (Ad (bB ["shape","turn"] ds))
theorem Ve (T:Txt K mg aW) {f:Addr} {fd:FuncData} (F:vR K "turned" "turned" jX f fd) (hm:mg "turned"=some (.ref f)) (gj:jk P w K mg base "check_turn" 1 1 fZ) (Ae:jk P w K mg base "rising" 1 1 qt) (lG:jk P w K mg base "turned_cell" 2 2 iY):jk P w K mg base "turned" 3 2 qw :=
 dh (k:=2) (g:=Ad) F hm Vd (fun _ _ _ _ _ _ us hl=>match us,hl with|[_,_],_=>rfl) fun cdv A outer s H E B hr hx =>
  aH (Xu (bI gj (hr.mono (by decide)) hx (ak (sv 1) aK)))
  (aZ (bL (cB (ak (bI Ae (hr.mono (by decide)) hx (ak (rG (rF (aG jX) ["shape","turn"] (N:=["cell","turn"]) (nt:=1) (caps:=[1]) (by decide +kernel)) rfl (by decide +kernel) (zm (bF (sv 0) au)) jJ (fun s₀ H₀ C ex pins B1=>rg 0 (show List.Nodup (["cell","turn"]:List Str) by decide)) (fun s₀ H₀ C ex pins B1=>bI lG (hr.mono (by decide)) gG (ak (sv 0) (ak (sv 1) aK)))) aK)) (ak (bF (sv 0) au) aK)))))
theorem dX:bY ["cell","many","number","one","k","two"] ["cell","many"] (aG gR):=⟨rfl,rfl,rfl,by decide +kernel,rfl,by decide +kernel,by decide +kernel⟩
noncomputable def dY:aJ->Ou :=
  bO (iy 3 (bD rZ (bD iB (bD iB (bD tX (aD 3) (fC (.int 48271))) (aD 4)) (fC (.int 1))) (fC (.int 2147483647))))
  (bO (iy 5 (bD rZ (bD tX (aD 3) (aD 3)) (fC (.int 2147483629))))
  (iy 2 (bD iB (bD tX (aD 2) (fC (.int 999983))) (bD rZ (bD iB (bD KD (aD 5) (fC (.int 1021))) (aD 5)) (fC (.int 999983))))))
noncomputable def kO:aJ->Ou :=
  bO (pI (fT (bD gGe (aD 0) (bD Cq (fC (.int 10)) (fC (.int 18))))) (cO (bD pD (aD 0) (bD Cq (fC (.int 10)) (fC (.int 18))))) su)
  (bO (iy 2 (fC (.int 0)))
  (bO (iy 3 (bD rZ (bD tX (bD iB (bD rZ (aD 0) (fC (.int 2147483647))) (fC (.int 977))) (fC (.int 69621))) (fC (.int 2147483647))))
  (bO (sy (uX (aP 4) dY (aD 1)))
  (cO (aD 2)))))
noncomputable def dN:List D->Rs D:=fun ds=>dH (kO (bB ["cell","many","number","one","k","two"] ds))
theorem IK (T:Txt K mg aW) {f:Addr} {fd:FuncData} (F:vR K "_law_deal" "_law_deal" gR f fd) (hm:mg "_law_deal"=some (.ref f)) :jk P w K mg base "_law_deal" 1 2 dN :=
 dh (k:=0) (g:=kO) F hm dX (fun _ _ _ _ _ _ us hl=>match us,hl with|[_,_],_=>rfl) fun cdv A outer s H E B hr hx =>
  aH (eF (agQ (sv 0) (Om au au)) (aZ (bL (iK (sv 0) (Om au au)))) cM)
  (aH (dg 2 dX.nd au)
  (aH (dg 3 dX.nd (pR (yU (jM (pR (sv 0) au) au) au) au))
  (aH (tZ (yt PassesOwn.never rfl T.yD (sv 1) (rg 4 dX.nd) (aH (dg 3 dX.nd (pR (jM (jM (yU (sv 3) au) (sv 4)) au) au))
  (aH (dg 5 dX.nd (pR (yU (sv 3) (sv 3)) au))
  (aZ (dg 2 dX.nd (jM (yU (sv 2) au) (pR (jM (Hi (sv 5) au) (sv 5)) au))))))))
  (aZ (bL (sv 2))))))
theorem CQ:bY ["found"] ["found"] (aG fW):=⟨rfl,rfl,rfl,by decide +kernel,rfl,by decide +kernel,by decide +kernel⟩
noncomputable def vI:aJ->Ou :=
  cO (iz (fB (aD 0) (Tp .int)) (pq (fB (aD 0) (Tp .bool))))
noncomputable def jE:List D->Rs D:=fun ds=>dH (vI (bB ["found"] ds))
theorem CT (T:Txt K mg aW) {f:Addr} {fd:FuncData} (F:vR K "_law_whole" "_law_whole" fW f fd) (hm:mg "_law_whole"=some (.ref f)) :jk P w K mg base "_law_whole" 1 1 jE :=
 dh (k:=0) (g:=vI) F hm CQ (fun _ _ _ _ _ _ us hl=>match us,hl with|[_],_=>rfl) fun cdv A outer s H E B hr hx =>
  aZ (bL (vX (Fj (t:=.int) T.fY T.Zf (sv 0) PyProof.Rows.Boot.«int») (pQ (Hg (Fj (t:=.bool) T.fY T.Ze (sv 0) PyProof.Rows.Boot.«bool»)))))
theorem cW:bY ["number","way","size","row","column"] ["number"] (aG gU):=⟨rfl,rfl,rfl,by decide +kernel,rfl,by decide +kernel,by decide +kernel⟩
noncomputable def kW:aJ->Ou :=
  bO (jO (fA (aj (aD 0) (aj (fC (.int 8)) aQ)) Xb) (jj 2 (bT (aP 0) (bT (aP 1) jC))))
  (bO (iy 2 (bD dB (fA (aj (fC (.int 3)) (aj (fC (.int 3)) (aj (fC (.int 4)) (aj (fC (.int 4)) (aj (fC (.int 5)) (aj (fC (.int 5)) (aj (fC (.int 6)) (aj (bD iB (bD tX (fC (.int 2)) (bD Cq (fC (.int 10)) (fC (.int 9)))) (fC (.int 1))) aQ)))))))) pF) (aD 1)))
  (bO (jO (fA (aj (aD 0) (aj (aD 2) aQ)) Xb) (jj 2 (bT (aP 0) (bT (aP 3) jC))))
  (bO (jO (fA (aj (aD 0) (aj (aD 2) aQ)) Xb) (jj 2 (bT (aP 0) (bT (aP 4) jC))))
  (cO (fA (aj (aD 0) (aj (fA (aj (bD pD (aD 3) (bD KD (aD 2) (fC (.int 2)))) (aj (bD pD (aD 4) (bD KD (aD 2) (fC (.int 2)))) aQ)) dI) aQ)) dI)))))
noncomputable def fO:List D->Rs D:=fun ds=>dH (kW (bB ["number","way","size","row","column"] ds))
theorem IV (T:Txt K mg aW) {f:Addr} {fd:FuncData} (F:vR K "_law_near" "_law_near" gU f fd) (hm:mg "_law_near"=some (.ref f)) :jk P w K mg base "_law_near" 1 1 fO :=
 dh (k:=0) (g:=kW) F hm cW (fun _ _ _ _ _ _ us hl=>match us,hl with|[_],_=>rfl) fun cdv A outer s H E B hr hx =>
  by
   refine @aH _ _ _ _ _ _ _ ?_ ?_
   ·exact iC (jH T.mK (sv 0) au) (gJ rfl (aX (rg 0 cW.nd) (aX (rg 1 cW.nd) dO)))
   refine @aH _ _ _ _ _ _ _ ?_ ?_
   ·refine @dg _ _ _ 2 _ _ _ _ _ cW.nd ?_ rfl (by first|exact Or.inl rfl|exact Or.inr rfl) ?_ (by first|exact .inl rfl|exact .inr rfl|assumption)
    ·refine @bF _ _ _ _ _ _ _ _ ?_ (sv 1) (by intro _ _;rfl)
     refine @vY _ _ _ _ _ _ ?_
     refine @bG _ _ _ _ _ _ _ au ?_ rfl
     refine @bG _ _ _ _ _ _ _ au ?_ rfl
     refine @bG _ _ _ _ _ _ _ au ?_ rfl
     refine @bG _ _ _ _ _ _ _ au ?_ rfl
     refine @bG _ _ _ _ _ _ _ au ?_ rfl
     refine @bG _ _ _ _ _ _ _ au ?_ rfl
     refine @bG _ _ _ _ _ _ _ au ?_ rfl
     refine @bG _ _ _ _ _ _ _ (jM (yU au (Om au au)) au) ?_ rfl
     exact aK
    ·kernel_rfl
   refine @aH _ _ _ _ _ _ _ ?_ ?_
   ·exact iC (jH T.mK (sv 0) (sv 2)) (gJ rfl (aX (rg 0 cW.nd) (aX (rg 3 cW.nd) dO)))
   refine @aH _ _ _ _ _ _ _ ?_ ?_
   ·exact iC (jH T.mK (sv 0) (sv 2)) (gJ rfl (aX (rg 0 cW.nd) (aX (rg 4 cW.nd) dO)))
   refine @aZ _ _ _ _ _ ?_
   ·exact bL (cB (ak (sv 0) (ak (cB (ak (iK (sv 3) (Hi (sv 2) au)) (ak (iK (sv 4) (Hi (sv 2) au)) aK))) aK)))
theorem wZ:bY ["found","due"] ["found","due"] (aG cN):=⟨rfl,rfl,rfl,by decide +kernel,rfl,by decide +kernel,by decide +kernel⟩
noncomputable def gk:aJ->Rs D :=
  iz (fB (aD 0) (Tp .tuple)) (iz (fA (aj (bD dB (aD 0) (fC (.int 0))) aQ) (bK 1 jE)) (fA (aj (bD dB (aD 0) (fC (.int 1))) aQ) (bK 1 jE)))
noncomputable def jm:aJ->Ou :=
  bO (pI (VR (uV (fT (fB (aD 0) (Tp .tuple)))) (VR (fT (bD Cv (fA (aj (aD 0) aQ) yW) (fC (.int 2)))) (uV (fT (fB (bD dB (aD 0) (fC (.int 0))) (Tp .tuple)))))) (cO (fC (.bl false))) su)
  (bO (pI (VR (uV (fT (fB (bD dB (aD 0) (fC (.int 1))) (Tp .bool)))) (fT (bD Cv (aD 0) (aD 1)))) (cO (fC (.bl false))) su)
  (cO (fA (aj (jy (aP 0) (fun _=>.ok true) gk 1 [] (fL (bD dB (aD 0) (fC (.int 0))) Wa)) aQ) KR)))
noncomputable def cU:List D->Rs D:=fun ds=>dH (jm (bB ["found","due"] ds))
theorem xg (T:Txt K mg aW) {f:Addr} {fd:FuncData} (F:vR K "_law_is_shape" "_law_is_shape" cN f fd) (hm:mg "_law_is_shape"=some (.ref f)) (jF:jk P w K mg base "_law_whole" 1 1 jE):jk P w K mg base "_law_is_shape" 2 2 cU :=
 dh (k:=1) (g:=jm) F hm wZ (fun _ _ _ _ _ _ us hl=>match us,hl with|[_,_],_=>rfl) fun cdv A outer s H E B hr hx =>
  aH (eF (WQ (QT (Hf (pP (Fj (t:=.tuple) T.fY T.eO (sv 0) PyProof.Rows.Boot.«tuple»))) (QT (QZ (cg hr) (Oo T.RJ (sv 0)) au) (Ol (Hf (pP (Fj (t:=.tuple) T.fY T.eO (bF (sv 0) au) PyProof.Rows.Boot.«tuple»))))))) (aZ (bL sI)) cM)
  (aH (eF (WQ (QT (Hf (pP (Fj (t:=.bool) T.fY T.Ze (bF (sv 0) au) PyProof.Rows.Boot.«bool»))) (Ol (QZ (cg hr) (sv 0) (sv 1))))) (aZ (bL sI)) cM)
  (aZ (bL (Xv rfl T.adw (rG (rF (aG cN) ["found","due"] (N:=["cell"]) (nt:=1) (caps:=[]) (by decide +kernel)) rfl (by decide +kernel) (zm (bF (sv 0) au)) jJ (fun s₀ H₀ C ex pins B1=>rg 0 (show List.Nodup (["cell"]:List Str) by decide)) (fun s₀ H₀ C ex pins B1=>vX (Fj (t:=.tuple) T.fY T.eO (sv 0) PyProof.Rows.Boot.«tuple») (vX (bI jF (hr.mono (by decide)) gG (ak (bF (sv 0) au) aK)) (pQ (bI jF (hr.mono (by decide)) gG (ak (bF (sv 0) au) aK))))))))))
theorem cF:bY ["number","count","rest","cells","k","cell"] ["number"] (aG fX):=⟨rfl,rfl,rfl,by decide +kernel,rfl,by decide +kernel,by decide +kernel⟩
noncomputable def iZ:aJ->Ou :=
  bO (jO (fA (aj (aD 0) aQ) (bK 1 fO)) (jj 2 (bT (aP 0) (bT (aP 5) jC))))
  (wJ 3 (aD 5))
noncomputable def jG:aJ->Ou :=
  bO (jO (fA (aj (aD 0) (aj (fC (.int 5)) aQ)) Xb) (jj 2 (bT (aP 0) (bT (aP 1) jC))))
  (bO (jO (fA (aj (aD 0) (aj (fC (.int 2)) aQ)) Xb) (jj 2 (bT (aP 0) (bT (aP 2) jC))))
  (bO (zU 3 aQ)
  (bO (sy (uX (aP 4) iZ (aD 1)))
  (yj 3 (cO (fA (aj (aD 0) (aj (fA (aj (fA (aj (fG (fK (aD 3))) aQ) gw) (aj (bD yZ (aD 2) (fC (.int 1))) aQ)) dI) aQ)) dI))))))
noncomputable def iH:List D->Rs D:=fun ds=>dH (jG (bB ["number","count","rest","cells","k","cell"] ds))
theorem CV (T:Txt K mg aW) {f:Addr} {fd:FuncData} (F:vR K "_law_small" "_law_small" fX f fd) (hm:mg "_law_small"=some (.ref f)) (iw:jk P w K mg base "_law_near" 1 1 fO):jk P w K mg base "_law_small" 2 1 iH :=
 dh (k:=1) (g:=jG) F hm cF (fun _ _ _ _ _ _ us hl=>match us,hl with|[_],_=>rfl) fun cdv A outer s H E B hr hx =>
  aH (iC (jH T.mK (sv 0) au) (gJ rfl (aX (rg 0 cF.nd) (aX (rg 1 cF.nd) dO))))
  (aH (iC (jH T.mK (sv 0) au) (gJ rfl (aX (rg 0 cF.nd) (aX (rg 2 cF.nd) dO))))
  (aH (Ip 3 cF.nd aK)
  (aH (tZ (yt PassesOwn.never rfl T.yD (sv 1) (rg 4 cF.nd) (aH (iC (bI iw (hr.mono (by decide)) gG (ak (sv 0) aK)) (gJ rfl (aX (rg 0 cF.nd) (aX (rg 5 cF.nd) dO))))
  (aZ (Ir 3 (sv 5))))))
  (Iu 3 (aZ (bL (cB (ak (sv 0) (ak (cB (ak (fH T.eO (jV rfl T.jf (jU rfl (cg hr) T.qp (sv 3)))) (ak (ada (cg hr) (sv 2) au) aK))) aK)))))))))
theorem dG:bY ["cell","turn","row","column","quarter"] ["cell","turn"] (aG eN):=⟨rfl,rfl,rfl,by decide +kernel,rfl,by decide +kernel,by decide +kernel⟩
noncomputable def Af:aJ->Ou :=
  Hu 2 3 (aj (aD 3) (aj (bD pD (fC (.int 0)) (aD 2)) aQ))
noncomputable def tD:aJ->Ou :=
  bO (jO (aD 0) (jj 2 (bT (aP 2) (bT (aP 3) jC))))
  (bO (pI (fT (bD gGt (aD 1) (fC (.int 3)))) (iy 3 (bD pD (fC (.int 0)) (aD 3))) su)
  (bO (sy (uX (aP 4) Af (bD rZ (aD 1) (fC (.int 4)))))
  (cO (fA (aj (aD 2) (aj (aD 3) aQ)) dI))))
noncomputable def dz:List D->Rs D:=fun ds=>dH (tD (bB ["cell","turn","row","column","quarter"] ds))
theorem Ag (T:Txt K mg aW) {f:Addr} {fd:FuncData} (F:vR K "_law_turned" "_law_turned" eN f fd) (hm:mg "_law_turned"=some (.ref f)) :jk P w K mg base "_law_turned" 1 2 dz :=
 dh (k:=0) (g:=tD) F hm dG (fun _ _ _ _ _ _ us hl=>match us,hl with|[_,_],_=>rfl) fun cdv A outer s H E B hr hx =>
  aH (iC (sv 0) (gJ rfl (aX (rg 2 dG.nd) (aX (rg 3 dG.nd) dO))))
  (aH (eF (ade (sv 1) au) (aZ (dg 3 dG.nd (iK au (sv 3)))) cM)
  (aH (tZ (yt PassesOwn.never rfl T.yD (pR (sv 1) au) (rg 4 dG.nd) (aZ (aeM 2 3 rfl dG.nd (ak (sv 3) (ak (iK au (sv 2)) aK))))))
  (aZ (bL (cB (ak (sv 2) (ak (sv 3) aK)))))))
theorem dZ:bY ["cell","number","way","other","step"] ["cell"] (aG gW):=⟨rfl,rfl,rfl,by decide +kernel,rfl,by decide +kernel,by decide +kernel⟩
noncomputable def kY:aJ->Ou :=
  bO (jO (fA (aj (fA (aj (aD 0) (aj (fC (.int 30)) aQ)) (bK 2 dN)) (aj (fC (.int 8)) aQ)) Xb) (jj 2 (bT (aP 1) (bT (aP 2) jC))))
  (bO (jO (fA (aj (aD 1) aQ) (bK 1 iH)) (jj 2 (bT (aP 1) (bT (aP 3) jC))))
  (bO (jO (fA (aj (aD 1) aQ) (bK 1 fO)) (jj 2 (bT (aP 1) (bT (aP 4) jC))))
  (cO (fA (aj (bD dB (fA (aj (fC (.int 0)) (aj (fC (.int 2)) (aj (fC (.int 2)) (aj (fC (.int 3)) (aj (fC (.int 4)) (aj (fC (.int 5)) (aj (fC (.int 2)) (aj (fC (.int 1)) aQ)))))))) pF) (aD 2)) (aj (aD 3) (aj (aD 4) (aj (bD rZ (aD 1) (fC (.int 8))) aQ)))) dI))))
noncomputable def jg:List D->Rs D:=fun ds=>dH (kY (bB ["cell","number","way","other","step"] ds))
theorem IW (T:Txt K mg aW) {f:Addr} {fd:FuncData} (F:vR K "_law_deed" "_law_deed" gW f fd) (hm:mg "_law_deed"=some (.ref f)) (qx:jk P w K mg base "_law_deal" 1 2 dN) (nH:jk P w K mg base "_law_small" 2 1 iH) (iw:jk P w K mg base "_law_near" 1 1 fO):jk P w K mg base "_law_deed" 3 1 jg :=
 dh (k:=2) (g:=kY) F hm dZ (fun _ _ _ _ _ _ us hl=>match us,hl with|[_],_=>rfl) fun cdv A outer s H E B hr hx =>
  by
   refine @aH _ _ _ _ _ _ _ ?_ ?_
   ·exact iC (jH T.mK (bI qx (hr.mono (by decide)) hx (ak (sv 0) (ak au aK))) au) (gJ rfl (aX (rg 1 dZ.nd) (aX (rg 2 dZ.nd) dO)))
   refine @aH _ _ _ _ _ _ _ ?_ ?_
   ·exact iC (bI nH (hr.mono (by decide)) hx (ak (sv 1) aK)) (gJ rfl (aX (rg 1 dZ.nd) (aX (rg 3 dZ.nd) dO)))
   refine @aH _ _ _ _ _ _ _ ?_ ?_
   ·exact iC (bI iw (hr.mono (by decide)) hx (ak (sv 1) aK)) (gJ rfl (aX (rg 1 dZ.nd) (aX (rg 4 dZ.nd) dO)))
   refine @aZ _ _ _ _ _ ?_
   ·refine @bL _ _ _ _ _ _ ?_
    refine @cB _ _ _ _ _ _ _ ?_
    refine @bG _ _ _ _ _ _ _ ?_ ?_ rfl
    ·refine @bF _ _ _ _ _ _ _ _ ?_ (sv 2) (by intro _ _;rfl)
     refine @vY _ _ _ _ _ _ ?_
     refine @bG _ _ _ _ _ _ _ au ?_ rfl
     refine @bG _ _ _ _ _ _ _ au ?_ rfl
     refine @bG _ _ _ _ _ _ _ au ?_ rfl
     refine @bG _ _ _ _ _ _ _ au ?_ rfl
     refine @bG _ _ _ _ _ _ _ au ?_ rfl
     refine @bG _ _ _ _ _ _ _ au ?_ rfl
     refine @bG _ _ _ _ _ _ _ au ?_ rfl
     refine @bG _ _ _ _ _ _ _ au ?_ rfl
     exact aK
    refine @bG _ _ _ _ _ _ _ (sv 3) ?_ rfl
    refine @bG _ _ _ _ _ _ _ (sv 4) ?_ rfl
    refine @bG _ _ _ _ _ _ _ (pR (sv 1) au) ?_ rfl
    exact aK
theorem iI:bY ["shape","deed","way","other","step","turn"] ["shape","deed"] (aG gZ):=⟨rfl,rfl,rfl,by decide +kernel,rfl,by decide +kernel,by decide +kernel⟩
noncomputable def kZ:aJ->Ou :=
  bO (jO (aD 1) (jj 4 (bT (aP 2) (bT (aP 3) (bT (aP 4) (bT (aP 5) jC))))))
  (bO (pI (fT (bD Wc (aD 2) (fC (.int 2)))) (cO (fA (aj (aD 0) (aj (aD 3) aQ)) (bK 2 ux))) su)
  (bO (pI (fT (bD yZ (aD 2) (fC (.int 2)))) (cO (fA (aj (aD 0) (aj (aD 3) aQ)) (bK 2 qu))) su)
  (bO (pI (fT (bD yZ (aD 2) (fC (.int 3)))) (cO (fA (aj (aD 0) aQ) (bK 1 ig))) su)
  (bO (pI (fT (bD yZ (aD 2) (fC (.int 4)))) (cO (fA (aj (aD 0) (aj (aD 4) aQ)) (bK 2 rR))) su)
  (cO (fA (aj (aD 0) (aj (aD 5) aQ)) (bK 2 qw)))))))
noncomputable def jh:List D->Rs D:=fun ds=>dH (kZ (bB ["shape","deed","way","other","step","turn"] ds))
theorem Ja (T:Txt K mg aW) {f:Addr} {fd:FuncData} (F:vR K "_law_done" "_law_done" gZ f fd) (hm:mg "_law_done"=some (.ref f)) (wX:jk P w K mg base "both" 1 2 ux) (Ah:jk P w K mg base "either" 2 2 qu) (iu:jk P w K mg base "outside" 1 1 ig) (Jb:jk P w K mg base "moved" 2 2 rR) (Ai:jk P w K mg base "turned" 3 2 qw):jk P w K mg base "_law_done" 4 2 jh :=
 dh (k:=3) (g:=kZ) F hm iI (fun _ _ _ _ _ _ us hl=>match us,hl with|[_,_],_=>rfl) fun cdv A outer s H E B hr hx =>
  aH (iC (sv 1) (gJ rfl (aX (rg 2 iI.nd) (aX (rg 3 iI.nd) (aX (rg 4 iI.nd) (aX (rg 5 iI.nd) dO))))))
  (aH (eF (KN (sv 2) au) (aZ (bL (bI wX (hr.mono (by decide)) hx (ak (sv 0) (ak (sv 3) aK))))) cM)
  (aH (eF (pX (cg hr) (sv 2) au) (aZ (bL (bI Ah (hr.mono (by decide)) hx (ak (sv 0) (ak (sv 3) aK))))) cM)
  (aH (eF (pX (cg hr) (sv 2) au) (aZ (bL (bI iu (hr.mono (by decide)) hx (ak (sv 0) aK)))) cM)
  (aH (eF (pX (cg hr) (sv 2) au) (aZ (bL (bI Jb (hr.mono (by decide)) hx (ak (sv 0) (ak (sv 4) aK))))) cM)
  (aZ (bL (bI Ai (hr.mono (by decide)) hx (ak (sv 0) (ak (sv 5) aK)))))))))
theorem cA:bY ["shape","deed","way","other","step","turn","cells","rest","behind","found","cell","first","second"] ["shape","deed"] (aG fJ):=⟨rfl,rfl,rfl,by decide +kernel,rfl,by decide +kernel,by decide +kernel⟩
noncomputable def qy:aJ->Rs D :=
  fA (aj (bD iB (bD dB (aD 0) (fC (.int 0))) (bD dB (aD 1) (fC (.int 0)))) (aj (bD iB (bD dB (aD 0) (fC (.int 1))) (bD dB (aD 1) (fC (.int 1)))) aQ)) dI
noncomputable def qC:aJ->Rs D :=
  fA (aj (aD 0) (aj (aD 1) aQ)) (bK 2 dz)
noncomputable def lg:aJ->Ou :=
  bO (iy 11 (bD Cv (bD gIn (aD 10) (aD 6)) (aD 7)))
  (bO (iy 12 (bD Cv (bD gIn (aD 10) (bD dB (aD 3) (fC (.int 0)))) (bD dB (aD 3) (fC (.int 1)))))
  (pI (fT (bD Cv (bD dB (fA (aj (rY (aD 11) (aD 12)) (aj (iz (aD 11) (aD 12)) aQ)) pF) (fA (aj (bD Wc (aD 2) (fC (.int 2))) aQ) Iv)) (aD 8))) (wJ 9 (aD 10)) su))
noncomputable def nJ:aJ->Ou :=
  bO (jO (aD 1) (jj 4 (bT (aP 2) (bT (aP 3) (bT (aP 4) (bT (aP 5) jC))))))
  (bO (jO (aD 0) (jj 2 (bT (aP 6) (bT (aP 7) jC))))
  (bO (pI (fT (bD yZ (aD 2) (fC (.int 3)))) (cO (fA (aj (aD 6) (aj (pq (aD 7)) aQ)) dI)) su)
  (bO (pI (fT (bD yZ (aD 2) (fC (.int 4)))) (cO (fA (aj (fA (aj (jy (aP 0) (fun _=>.ok true) qy 1 [4] (fL (aD 6) Wa)) aQ) gw) (aj (aD 7) aQ)) dI)) su)
  (bO (pI (fT (bD yZ (aD 2) (fC (.int 5)))) (cO (fA (aj (fA (aj (fA (aj (jy (aP 0) (fun _=>.ok true) qC 1 [5] (fL (aD 6) Wa)) aQ) wL) aQ) gw) (aj (aD 7) aQ)) dI)) su)
  (bO (iy 8 (bD dB (fA (aj (rY (aD 7) (bD dB (aD 3) (fC (.int 1)))) (aj (iz (aD 7) (bD dB (aD 3) (fC (.int 1)))) aQ)) pF) (fA (aj (bD Wc (aD 2) (fC (.int 2))) aQ) Iv)))
  (bO (zU 9 aQ)
  (bO (sy (Fe (aP 10) lg (fG (fK (bD FN (aD 6) (bD dB (aD 3) (fC (.int 0))))))))
  (yj 9 (cO (fA (aj (fA (aj (aD 9) aQ) gw) (aj (aD 8) aQ)) dI))))))))))
noncomputable def jY:List D->Rs D:=fun ds=>dH (nJ (bB ["shape","deed","way","other","step","turn","cells","rest","behind","found","cell","first","second"] ds))
theorem Ng (T:Txt K mg aW) {f:Addr} {fd:FuncData} (F:vR K "_law_due" "_law_due" fJ f fd) (hm:mg "_law_due"=some (.ref f)) (cG:jk P w K mg base "_law_turned" 1 2 dz):jk P w K mg base "_law_due" 2 2 jY :=
 dh (k:=1) (g:=nJ) F hm cA (fun _ _ _ _ _ _ us hl=>match us,hl with|[_,_],_=>rfl) fun cdv A outer s H E B hr hx =>
  aH (iC (sv 1) (gJ rfl (aX (rg 2 cA.nd) (aX (rg 3 cA.nd) (aX (rg 4 cA.nd) (aX (rg 5 cA.nd) dO))))))
  (aH (iC (sv 0) (gJ rfl (aX (rg 6 cA.nd) (aX (rg 7 cA.nd) dO))))
  (aH (eF (pX (cg hr) (sv 2) au) (aZ (bL (cB (ak (sv 6) (ak (Hg (sv 7)) aK))))) cM)
  (aH (eF (pX (cg hr) (sv 2) au) (aZ (bL (cB (ak (fH T.eO (rG (rF (aG fJ) ["shape","deed","way","other","step","turn","cells","rest","behind","found","cell","first","second"] (N:=["cell","step"]) (nt:=1) (caps:=[4]) (by decide +kernel)) rfl (by decide +kernel) (zm (sv 6)) jJ (fun s₀ H₀ C ex pins B1=>rg 0 (show List.Nodup (["cell","step"]:List Str) by decide)) (fun s₀ H₀ C ex pins B1=>cB (ak (jM (bF (sv 0) au) (bF (sv 1) au)) (ak (jM (bF (sv 0) au) (bF (sv 1) au)) aK))))) (ak (sv 7) aK))))) cM)
  (aH (eF (pX (cg hr) (sv 2) au) (aZ (bL (cB (ak (fH T.eO (YH T.jf (rG (rF (aG fJ) ["shape","deed","way","other","step","turn","cells","rest","behind","found","cell","first","second"] (N:=["cell","turn"]) (nt:=1) (caps:=[5]) (by decide +kernel)) rfl (by decide +kernel) (zm (sv 6)) jJ (fun s₀ H₀ C ex pins B1=>rg 0 (show List.Nodup (["cell","turn"]:List Str) by decide)) (fun s₀ H₀ C ex pins B1=>bI cG (hr.mono (by decide)) gG (ak (sv 0) (ak (sv 1) aK)))))) (ak (sv 7) aK))))) cM)
  (aH (dg 8 cA.nd (bF (vY (ak (WR (sv 7) (pQ (bF (sv 3) au))) (ak (vX (sv 7) (pQ (bF (sv 3) au))) aK))) (Yz T.Zf (adb (sv 2) au))))
  (aH (Ip 9 cA.nd aK)
  (aH (tZ (Hl PassesOwn.never rfl (jV rfl T.jf (jU rfl (cg hr) T.qp (abZ (sv 6) (bF (sv 3) au)))) (rg 10 cA.nd) (aH (dg 11 cA.nd (QX (cg hr) (Rv (cg hr) (sv 10) (sv 6)) (sv 7)))
  (aH (dg 12 cA.nd (QX (cg hr) (Rv (cg hr) (sv 10) (bF (sv 3) au)) (bF (sv 3) au)))
  (aZ (eF (QZ (cg hr) (bF (vY (ak (WR (sv 11) (pQ (sv 12))) (ak (vX (sv 11) (pQ (sv 12))) aK))) (Yz T.Zf (adb (sv 2) au))) (sv 8)) (aZ (Ir 9 (sv 10))) cM))))))
  (Iu 9 (aZ (bL (cB (ak (fH T.eO (sv 9)) (ak (sv 8) aK)))))))))))))
theorem cP:bY ["spot","deeds","many","way","other","step","turn","back","second"] ["spot","deeds","many"] (aG dW):=⟨rfl,rfl,rfl,by decide +kernel,rfl,by decide +kernel,by decide +kernel⟩
noncomputable def eE (vr:List D->Rs D):aJ->Ou :=
  bO (pI (fT (bD yZ (aD 2) (fC (.int 0)))) (cO (fC (.bl false))) su)
  (bO (jO (bD dB (aD 1) (bD pD (aD 2) (fC (.int 1)))) (jj 4 (bT (aP 3) (bT (aP 4) (bT (aP 5) (bT (aP 6) jC))))))
  (bO (pI (fT (bD yZ (aD 3) (fC (.int 3)))) (cO (pq (fA (aj (aD 0) (aj (aD 1) (aj (bD pD (aD 2) (fC (.int 1))) aQ))) (bK 3 vr)))) su)
  (bO (pI (fT (bD yZ (aD 3) (fC (.int 4)))) (cO (fA (aj (fA (aj (bD pD (bD dB (aD 0) (fC (.int 0))) (bD dB (aD 5) (fC (.int 0)))) (aj (bD pD (bD dB (aD 0) (fC (.int 1))) (bD dB (aD 5) (fC (.int 1)))) aQ)) dI) (aj (aD 1) (aj (bD pD (aD 2) (fC (.int 1))) aQ))) (bK 3 vr))) su)
  (bO (pI (fT (bD yZ (aD 3) (fC (.int 5)))) (bO (iy 7 (bD dB (fA (aj (fC (.int 0)) (aj (fC (.int 3)) (aj (fC (.int 2)) (aj (fC (.int 1)) (aj (fC (.int 4)) (aj (fC (.int 5)) (aj (fC (.int 6)) (aj (fC (.int 7)) aQ)))))))) pF) (aD 6)))
  (cO (fA (aj (fA (aj (aD 0) (aj (aD 7) aQ)) (bK 2 dz)) (aj (aD 1) (aj (bD pD (aD 2) (fC (.int 1))) aQ))) (bK 3 vr)))) su)
  (bO (iy 8 (bD Cv (bD gIn (aD 0) (bD dB (aD 4) (fC (.int 0)))) (bD dB (aD 4) (fC (.int 1)))))
  (bO (pI (fT (bD Wc (aD 3) (fC (.int 2)))) (cO (iz (aD 8) (fA (aj (aD 0) (aj (aD 1) (aj (bD pD (aD 2) (fC (.int 1))) aQ))) (bK 3 vr)))) su)
  (cO (rY (aD 8) (fA (aj (aD 0) (aj (aD 1) (aj (bD pD (aD 2) (fC (.int 1))) aQ))) (bK 3 vr))))))))))
noncomputable def cH:Nat->List D->Rs D
 | 0=>fun _=>.no
 | n + 1=>fun ds=>dH (eE (cH n) (bB ["spot","deeds","many","way","other","step","turn","back","second"] ds))
theorem CW (T:Txt K mg aW) {f:Addr} {fd:FuncData} (F:vR K "_law_asked" "_law_asked" dW f fd) (hm:mg "_law_asked"=some (.ref f)) (cG:jk P w K mg base "_law_turned" 1 2 dz) {k:Nat} {vr:List D->Rs D} (hk:1<=k) (Aj:jk P w K mg base "_law_asked" k 3 vr):jk P w K mg base "_law_asked" (k + 1) 3 (fun ds=>dH (eE vr (bB ["spot","deeds","many","way","other","step","turn","back","second"] ds))) :=
 dh (k:=k) (g:=eE vr) F hm cP (fun _ _ _ _ _ _ us hl=>match us,hl with|[_,_,_],_=>rfl) fun cdv A outer s H E B hr hx =>
  by
   refine @aH _ _ _ _ _ _ _ ?_ ?_
   ·exact eF (pX (cg hr) (sv 2) au) (aZ (bL sI)) cM
   refine @aH _ _ _ _ _ _ _ ?_ ?_
   ·exact iC (bF (sv 1) (iK (sv 2) au)) (gJ rfl (aX (rg 3 cP.nd) (aX (rg 4 cP.nd) (aX (rg 5 cP.nd) (aX (rg 6 cP.nd) dO)))))
   refine @aH _ _ _ _ _ _ _ ?_ ?_
   ·exact eF (pX (cg hr) (sv 3) au) (aZ (bL (Hg (bI Aj (hr.mono (Nat.le_refl _)) hx (ak (sv 0) (ak (sv 1) (ak (iK (sv 2) au) aK))))))) cM
   refine @aH _ _ _ _ _ _ _ ?_ ?_
   ·exact eF (pX (cg hr) (sv 3) au) (aZ (bL (bI Aj (hr.mono (Nat.le_refl _)) hx (ak (cB (ak (iK (bF (sv 0) au) (bF (sv 5) au)) (ak (iK (bF (sv 0) au) (bF (sv 5) au)) aK))) (ak (sv 1) (ak (iK (sv 2) au) aK)))))) cM
   refine @aH _ _ _ _ _ _ _ ?_ ?_
   ·refine @eF _ _ _ _ _ _ _ _ _ _ (pX (cg hr) (sv 3) au) ?_ ?_
    ·refine @aH _ _ _ _ _ _ _ ?_ ?_
     ·refine @dg _ _ _ 7 _ _ _ _ _ cP.nd ?_ rfl (by first|exact Or.inl rfl|exact Or.inr rfl) ?_ (by first|exact .inl rfl|exact .inr rfl|assumption)
      ·refine @bF _ _ _ _ _ _ _ _ ?_ (sv 6) (by intro _ _;rfl)
       refine @vY _ _ _ _ _ _ ?_
       refine @bG _ _ _ _ _ _ _ au ?_ rfl
       refine @bG _ _ _ _ _ _ _ au ?_ rfl
       refine @bG _ _ _ _ _ _ _ au ?_ rfl
       refine @bG _ _ _ _ _ _ _ au ?_ rfl
       refine @bG _ _ _ _ _ _ _ au ?_ rfl
       refine @bG _ _ _ _ _ _ _ au ?_ rfl
       refine @bG _ _ _ _ _ _ _ au ?_ rfl
       refine @bG _ _ _ _ _ _ _ au ?_ rfl
       exact aK
      ·kernel_rfl
     refine @aZ _ _ _ _ _ ?_
     ·exact bL (bI Aj (hr.mono (Nat.le_refl _)) hx (ak (bI cG (hr.mono (Nat.le_trans (by decide) hk)) hx (ak (sv 0) (ak (sv 7) aK))) (ak (sv 1) (ak (iK (sv 2) au) aK))))
    ·exact cM
   refine @aH _ _ _ _ _ _ _ ?_ ?_
   ·exact dg 8 cP.nd (QX (cg hr) (Rv (cg hr) (sv 0) (bF (sv 4) au)) (bF (sv 4) au))
   refine @aH _ _ _ _ _ _ _ ?_ ?_
   ·exact eF (KN (sv 3) au) (aZ (bL (vX (sv 8) (pQ (bI Aj (hr.mono (Nat.le_refl _)) hx (ak (sv 0) (ak (sv 1) (ak (iK (sv 2) au) aK)))))))) cM
   refine @aZ _ _ _ _ _ ?_
   ·exact bL (WR (sv 8) (pQ (bI Aj (hr.mono (Nat.le_refl _)) hx (ak (sv 0) (ak (sv 1) (ak (iK (sv 2) au) aK))))))
theorem tE (T:Txt K mg aW) {f:Addr} {fd:FuncData} (F:vR K "_law_asked" "_law_asked" dW f fd) (hm:mg "_law_asked"=some (.ref f)) (cG:jk P w K mg base "_law_turned" 1 2 dz):∀ n,jk P w K mg base "_law_asked" (1 + 1 + n) 3 (cH n)
 | 0=>YQ 1 F hm cP (fun _ _ _ _ _ _ us hl=>match us,hl with|[_,_,_],_=>rfl)
 | n + 1=>CW (k:=1 + 1 + n) T F hm cG (by omega) (tE T F hm cG n)
theorem jo:bY ["script","shape","deeds","kept","cell","deed","due","found","spots"] ["script"] (aG mJ):=⟨rfl,rfl,rfl,by decide +kernel,rfl,by decide +kernel,by decide +kernel⟩
noncomputable def vJ:aJ->Ou :=
  bO (iy 5 (fA (aj (aD 4) aQ) (bK 1 jg)))
  (bO (iy 6 (fA (aj (aD 1) (aj (aD 5) aQ)) (bK 2 jY)))
  (pI (uU (fT (bD Wc (fA (aj (bD dB (aD 6) (fC (.int 0))) aQ) yW) (fC (.int 61)))) (fT (bD Wc (MN 2) (fC (.int 63))))) (bO (iy 7 (fA (aj (aD 1) (aj (aD 5) aQ)) (bK 2 jh)))
  (bO (pI (uV (fT (fA (aj (aD 7) (aj (aD 6) aQ)) (bK 2 cU)))) (cO (fC (.bl false))) su)
  (bO (wJ 3 (fA (aj (aD 7) (aj (fA (aj (fA (aj (fA (aj (bD dB (aD 6) (fC (.int 0))) aQ) ql) aQ) gw) (aj (bD dB (aD 6) (fC (.int 1))) aQ)) dI) aQ)) dI))
  (bO (wJ 2 (aD 5))
  (iy 1 (aD 7)))))) su))
noncomputable def yE:aJ->Ou :=
  pI (fT (bD Cv (aD 7) (aD 6))) (cO (fC (.bl false))) su
noncomputable def RL:aJ->Rs D :=
  bD yZ (fA (aj (aD 1) (aj (aD 0) aQ)) (bK 2 Nf)) (fA (aj (aD 0) (aj (aD 2) (aj (fA (aj (aD 2) aQ) yW) aQ))) (bK 3 (cH 65)))
noncomputable def RM:aJ->Ou :=
  bO (iy 1 (fA (aj (fA aQ dI) (aj (fC (.bl false)) aQ)) dI))
  (bO (zU 2 aQ)
  (bO (zU 3 aQ)
  (bO (sy (Fe (aP 4) vJ (aD 0)))
  (yj 3 (bO (sy (Fe (jj 2 (bT (aP 7) (bT (aP 6) jC))) yE (aD 3)))
  (bO (iy 8 (bD iB (fA (aj (aci (bD dB (aD 1) (fC (.int 0))) Cr (fP (fC (.int 18)))) aQ) ql) (fA (aj (fA (aj (fC (.int 0)) (aj (fC (.int 0)) aQ)) dI) (aj (fA (aj (fC (.int 1)) (aj (wj (fC (.int 1))) aQ)) dI) aQ)) pF)))
  (yj 2 (cO (fA (aj (jy (aP 0) (fun _=>.ok true) RL 1 [1,2] (fL (aD 8) asL)) aQ) KR)))))))))
noncomputable def RN:List D->Rs D:=fun ds=>dH (RM (bB ["script","shape","deeds","kept","cell","deed","due","found","spots"] ds))
theorem ahC (T:Txt K mg aW) {f:Addr} (qD:jk P w K mg base "_law_deed" 3 1 jg) (uz:jk P w K mg base "_law_due" 2 2 jY) (qF:jk P w K mg base "_law_done" 4 2 jh) (jq:jk P w K mg base "_law_is_shape" 2 2 cU) (Zj:jk P w K mg base "has" 1 2 Nf) (nM:jk P w K mg base "_law_asked" 67 3 (cH 65)) {cdv:Value} {A:Around} {outer:List Env} {s:Shared} {H:Hp} {E:XK} {B:Hp×Hp} (hr:mR 67 (A.deeper (PyProof.Rows.envOfC "law" (aG mJ) s.heap.objs.size f cdv)))
  (hx:Fi (yM (Tv P w K) P w K mg base ["script","shape","deeds","kept","cell","deed","due","found","spots"] "law" (aG mJ) f cdv A outer s H E) (fun c n _ H'=>E (Kh c n) none H')) :
  Cg (yM (Tv P w K) P w K mg base ["script","shape","deeds","kept","cell","deed","due","found","spots"] "law" (aG mJ) f cdv A outer s H E) B (fun c n _ H'=>E (Kh c n) none H') (bJ mJ) RM :=
  aH (dg 1 jo.nd (cB (ak (cB aK) (ak sI aK))))
  (aH (Ip 2 jo.nd aK)
  (aH (Ip 3 jo.nd aK)
  (aH (tZ (Hl PassesOwn.never rfl (sv 0) (rg 4 jo.nd) (aH (dg 5 jo.nd (bI qD (hr.mono (by decide)) gG (ak (sv 4) aK)))
  (aH (dg 6 jo.nd (bI uz (hr.mono (by decide)) gG (ak (sv 1) (ak (sv 5) aK))))
  (aZ (eF (WQ (WM (KN (Oo T.RJ (bF (sv 6) au)) au) (QS (KN (acn 2 T.RJ) au)))) (aH (dg 7 jo.nd (bI qF (hr.mono (by decide)) gG (ak (sv 1) (ak (sv 5) aK))))
  (aH (eF (Hf (pP (bI jq (hr.mono (by decide)) gG (ak (sv 7) (ak (sv 6) aK))))) (aZ (bL sI)) cM)
  (aH (Ir 3 (cB (ak (sv 7) (ak (cB (ak (fH T.eO (Ru T.Zg (bF (sv 6) au))) (ak (bF (sv 6) au) aK))) aK))))
  (aH (Ir 2 (sv 5))
  (aZ (dg 1 jo.nd (sv 7))))))) cM))))))
  (Iu 3 (aH (tZ (Hl PassesOwn.never rfl (sv 3) (gJ rfl (aX (rg 7 jo.nd) (aX (rg 6 jo.nd) dO))) (aZ (eF (QZ (cg hr) (sv 7) (sv 6)) (aZ (bL sI)) cM))))
  (aH (dg 8 jo.nd (jM (Ru T.Zg (Ur (bF (sv 1) au) abm (abn au))) (vY (ak (cB (ak au (ak au aK))) (ak (cB (ak au (ak (Ow au) aK))) aK)))))
  (Iu 2 (aZ (bL (Xv rfl T.adw (rG (rF (aG mJ) ["script","shape","deeds","kept","cell","deed","due","found","spots"] (N:=["spot","shape","deeds"]) (nt:=1) (caps:=[1,2]) (by decide +kernel)) rfl (by decide +kernel) (abC (sv 8)) jJ (fun s₀ H₀ C ex pins B1=>rg 0 (show List.Nodup (["spot","shape","deeds"]:List Str) by decide)) (fun s₀ H₀ C ex pins B1=>ada (cg hr) (bI Zj (hr.mono (by decide)) gG (ak (sv 1) (ak (sv 0) aK))) (bI nM (hr.mono (by decide)) gG (ak (sv 0) (ak (sv 2) (ak (Oo T.RJ (sv 2)) aK))))))))))))))))
end
section
variable {l:OpenLaw} {w:World} {K:Frag} {h:Heap} {mg:Str->Option Value} {fa:Addr} {aW:Addr}
 {nO:Addr} {CZ Dc:Option Addr} {Df:Array (Option Value)} {Dg Dh Di Dj tH Dl:Value}
 {Ak:Addr} {Vf Vg:Option Addr} {Vh:Array (Option Value)} {Vi Vj Vk Vm Gu Vn:Value}
 {Zk:Addr} {afp afq:Option Addr} {afr:Array (Option Value)} {afs aft afu afv Zm afw:Value}
 {f_both:Addr} {acr acs:Option Addr} {acu:Array (Option Value)} {acv acw acy acz RQ acA:Value}
 {xq:Addr} {Qd Qe:Option Addr} {Qf:Array (Option Value)} {Qg Qh Qi Qj Al Qk:Value}
 {Am:Addr} {Vo Vp:Option Addr} {Vq:Array (Option Value)} {Vr Vs Vt Vu Gv Vv:Value}
 {Jc:Addr} {Zn Zo:Option Addr} {Zq:Array (Option Value)} {Zr Zt Zu Zv Nh Zw:Value}
 {nP:Addr} {Dm Dp:Option Addr} {Dq:Array (Option Value)} {Dr Ds Dt Du tL Dv:Value}
 {lH:Addr} {Ao Aq:Option Addr} {Av:Array (Option Value)} {Aw Ay Az Ba qG Bc:Value}
 {Bd:Addr} {Vw Vx:Option Addr} {Vy:Array (Option Value)} {Vz VB VD VF Gw VG:Value}
 {qH:Addr} {Jd Je:Option Addr} {Jf:Array (Option Value)} {Jg Jh Ji Jj vK Jk:Value}
 {nQ:Addr} {Dw Dy:Option Addr} {Dz:Array (Option Value)} {DK DN DP DQ tM DR:Value}
 {qI:Addr} {Jl Jm:Option Addr} {Jo:Array (Option Value)} {Jp Jq Jr Js vL Jt:Value}
 {jr:Addr} {xr xu:Option Addr} {xG:Array (Option Value)} {xH xJ xK xM mO xO:Value}
 {nR:Addr} {DW DX:Option Addr} {DY:Array (Option Value)} {Ea Eb Ec Ed tQ Ef:Value}
 {lJ:Addr} {Bf Bg:Option Addr} {Bh:Array (Option Value)} {Bj Bk Bl Bm qJ Bo:Value}
 {qK:Addr} {Ju Jv:Option Addr} {Jw:Array (Option Value)} {Jx Jy Jz JB vM JC:Value}
 {qL:Addr} {JD JF:Option Addr} {JG:Array (Option Value)} {JH JK JL JM vN JN:Value}
 {uD:Addr} {Ni Nj:Option Addr} {Nk:Array (Option Value)} {Nm Np Nq Nr xX Nt:Value}
 {nT:Addr} {Eh Ei:Option Addr} {Ej:Array (Option Value)} {Ek El Em En tR Eo:Value}
 {Zx:Addr} {afx Zy:Option Addr} {afy:Array (Option Value)} {afz Zz ZC ZD Ql ZF:Value}
set_option maxHeartbeats 4000000 in
theorem all_mk (X:K.In h) (G:h.Ns mainGlobals mg) (hfa:mg "law"=some (.ref fa))
  (iR:nsIn K mainGlobals "BadTurn"=some (some (.ref aW)))
  (mL:excIn K aW [.type "ValueError",.type "Exception",.type "BaseException",.type "object"] "ValueError.__new__"=true)
  (nU:nsIn K mainGlobals "cell_moved"=some (some (.ref nO)))
  (nW:K.lookup nO=some ⟨Dg,CZ,.func (fnOf "cell_moved" "cell_moved" (bR fU) (bJ fU) (aG fU) .none Dh Di Dj Dc tH Dl),Df⟩)
  (nY:codeIn K tH "cell_moved"=true)
  (nZ:keepIn K (.ref nO)=true)
  (Bp:nsIn K mainGlobals "rising"=some (some (.ref Ak)))
  (Bq:K.lookup Ak=some ⟨Vi,Vf,.func (fnOf "rising" "rising" (bR mG) (bJ mG) (aG mG) .none Vj Vk Vm Vg Gu Vn),Vh⟩)
  (Br:codeIn K Gu "rising"=true)
  (Bs:keepIn K (.ref Ak)=true)
  (ZG:nsIn K mainGlobals "has"=some (some (.ref Zk)))
  (ZJ:K.lookup Zk=some ⟨afs,afp,.func (fnOf "has" "has" (bR Gq) (bJ Gq) (aG Gq) .none aft afu afv afq Zm afw),afr⟩)
  (ZK:codeIn K Zm "has"=true)
  (ZL:keepIn K (.ref Zk)=true)
  (Qm:nsIn K mainGlobals "both"=some (some (.ref f_both)))
  (Qn:K.lookup f_both=some ⟨acv,acr,.func (fnOf "both" "both" (bR wW) (bJ wW) (aG wW) .none acw acy acz acs RQ acA),acu⟩)
  (Qo:codeIn K RQ "both"=true)
  (Qp:keepIn K (.ref f_both)=true)
  (xP:nsIn K mainGlobals "outside"=some (some (.ref xq)))
  (xQ:K.lookup xq=some ⟨Qg,Qd,.func (fnOf "outside" "outside" (bR jL) (bJ jL) (aG jL) .none Qh Qi Qj Qe Al Qk),Qf⟩)
  (xR:codeIn K Al "outside"=true)
  (xT:keepIn K (.ref xq)=true)
  (Bt:nsIn K mainGlobals "either"=some (some (.ref Am)))
  (Bu:K.lookup Am=some ⟨Vr,Vo,.func (fnOf "either" "either" (bR mH) (bJ mH) (aG mH) .none Vs Vt Vu Vp Gv Vv),Vq⟩)
  (Bv:codeIn K Gv "either"=true)
  (Bw:keepIn K (.ref Am)=true)
  (JQ:nsIn K mainGlobals "moved"=some (some (.ref Jc)))
  (JR:K.lookup Jc=some ⟨Zr,Zn,.func (fnOf "moved" "moved" (bR nD) (bJ nD) (aG nD) .none Zt Zu Zv Zo Nh Zw),Zq⟩)
  (JT:codeIn K Nh "moved"=true)
  (JV:keepIn K (.ref Jc)=true)
  (oh:nsIn K mainGlobals "check_turn"=some (some (.ref nP)))
  (ou:K.lookup nP=some ⟨Dr,Dm,.func (fnOf "check_turn" "check_turn" (bR fV) (bJ fV) (aG fV) .none Ds Dt Du Dp tL Dv),Dq⟩)
  (oA:codeIn K tL "check_turn"=true)
  (oE:keepIn K (.ref nP)=true)
  (lM:nsIn K mainGlobals "turned_cell"=some (some (.ref lH)))
  (lN:K.lookup lH=some ⟨Aw,Ao,.func (fnOf "turned_cell" "turned_cell" (bR eH) (bJ eH) (aG eH) .none Ay Az Ba Aq qG Bc),Av⟩)
  (lQ:codeIn K qG "turned_cell"=true)
  (lR:keepIn K (.ref lH)=true)
  (Bx:nsIn K mainGlobals "turned"=some (some (.ref Bd)))
  (BJ:K.lookup Bd=some ⟨Vz,Vw,.func (fnOf "turned" "turned" (bR jX) (bJ jX) (aG jX) .none VB VD VF Vx Gw VG),Vy⟩)
  (BK:codeIn K Gw "turned"=true)
  (BL:keepIn K (.ref Bd)=true)
  (qM:nsIn K mainGlobals "_law_deal"=some (some (.ref qH)))
  (qN:K.lookup qH=some ⟨Jg,Jd,.func (fnOf "_law_deal" "_law_deal" (bR gR) (bJ gR) (aG gR) .none Jh Ji Jj Je vK Jk),Jf⟩)
  (qO:codeIn K vK "_law_deal"=true)
  (qP:keepIn K (.ref qH)=true)
  (oF:nsIn K mainGlobals "_law_whole"=some (some (.ref nQ)))
  (oG:K.lookup nQ=some ⟨DK,Dw,.func (fnOf "_law_whole" "_law_whole" (bR fW) (bJ fW) (aG fW) .none DN DP DQ Dy tM DR),Dz⟩)
  (oH:codeIn K tM "_law_whole"=true)
  (oJ:keepIn K (.ref nQ)=true)
  (qQ:nsIn K mainGlobals "_law_near"=some (some (.ref qI)))
  (qR:K.lookup qI=some ⟨Jp,Jl,.func (fnOf "_law_near" "_law_near" (bR gU) (bJ gU) (aG gU) .none Jq Jr Js Jm vL Jt),Jo⟩)
  (qT:codeIn K vL "_law_near"=true)
  (qU:keepIn K (.ref qI)=true)
  (jt:nsIn K mainGlobals "_law_is_shape"=some (some (.ref jr)))
  (ju:K.lookup jr=some ⟨xH,xr,.func (fnOf "_law_is_shape" "_law_is_shape" (bR cN) (bJ cN) (aG cN) .none xJ xK xM xu mO xO),xG⟩)
  (jw:codeIn K mO "_law_is_shape"=true)
  (jx:keepIn K (.ref jr)=true)
  (oK:nsIn K mainGlobals "_law_small"=some (some (.ref nR)))
  (oM:K.lookup nR=some ⟨Ea,DW,.func (fnOf "_law_small" "_law_small" (bR fX) (bJ fX) (aG fX) .none Eb Ec Ed DX tQ Ef),DY⟩)
  (oN:codeIn K tQ "_law_small"=true)
  (oU:keepIn K (.ref nR)=true)
  (lU:nsIn K mainGlobals "_law_turned"=some (some (.ref lJ)))
  (lV:K.lookup lJ=some ⟨Bj,Bf,.func (fnOf "_law_turned" "_law_turned" (bR eN) (bJ eN) (aG eN) .none Bk Bl Bm Bg qJ Bo),Bh⟩)
  (lW:codeIn K qJ "_law_turned"=true)
  (lZ:keepIn K (.ref lJ)=true)
  (qW:nsIn K mainGlobals "_law_deed"=some (some (.ref qK)))
  (qX:K.lookup qK=some ⟨Jx,Ju,.func (fnOf "_law_deed" "_law_deed" (bR gW) (bJ gW) (aG gW) .none Jy Jz JB Jv vM JC),Jw⟩)
  (qY:codeIn K vM "_law_deed"=true)
  (qZ:keepIn K (.ref qK)=true)
  (rm:nsIn K mainGlobals "_law_done"=some (some (.ref qL)))
  (rz:K.lookup qL=some ⟨JH,JD,.func (fnOf "_law_done" "_law_done" (bR gZ) (bJ gZ) (aG gZ) .none JK JL JM JF vN JN),JG⟩)
  (rA:codeIn K vN "_law_done"=true)
  (rB:keepIn K (.ref qL)=true)
  (uE:nsIn K mainGlobals "_law_due"=some (some (.ref uD)))
  (uF:K.lookup uD=some ⟨Nm,Ni,.func (fnOf "_law_due" "_law_due" (bR fJ) (bJ fJ) (aG fJ) .none Np Nq Nr Nj xX Nt),Nk⟩)
  (uG:codeIn K xX "_law_due"=true)
  (uH:keepIn K (.ref uD)=true)
  (oV:nsIn K mainGlobals "_law_asked"=some (some (.ref nT)))
  (oW:K.lookup nT=some ⟨Ek,Eh,.func (fnOf "_law_asked" "_law_asked" (bR dW) (bJ dW) (aG dW) .none El Em En Ei tR Eo),Ej⟩)
  (oX:codeIn K tR "_law_asked"=true)
  (oY:keepIn K (.ref nT)=true)
  (ZM:nsIn K mainGlobals "law"=some (some (.ref Zx)))
  (ZP:K.lookup Zx=some ⟨afz,afx,.func (fnOf "law" "law" (bR mJ) (bJ mJ) (aG mJ) .none Zz ZC ZD Zy Ql ZF),afy⟩)
  (ZQ:codeIn K Ql "law"=true)
  (ZR:keepIn K (.ref Zx)=true)
  (ZS:nsIn K mainGlobals "all"=some none)
  (Qq:nsIn K mainGlobals "bool"=some none)
  (BP:nsIn K mainGlobals "divmod"=some none)
  (ZV:nsIn K mainGlobals "int"=some none)
  (oZ:nsIn K mainGlobals "isinstance"=some none)
  (ZW:nsIn K mainGlobals "len"=some none)
  (Qs:nsIn K mainGlobals "list"=some none)
  (JW:nsIn K mainGlobals "range"=some none)
  (ZX:nsIn K mainGlobals "set"=some none)
  (BR:nsIn K mainGlobals "sorted"=some none)
  (JX:nsIn K mainGlobals "tuple"=some none) :
  ∃ fd:FuncData,(∀ (s:Shared) (v:Value),BindsTo s fd ⟨[v],[]⟩ [("script",v)])/\∀ base:Heap,K.In base->base.Ns mainGlobals mg->Ku l.prog w K mg base (Tv l.prog w K) 68 fa fd ["script"] (spV K 1 RN):=by
 have e:=hfa.symm.trans (mg_of X G ZM)
 cases e
 have T:Txt K mg aW:=⟨mg_none_of X G ZS,
  mg_none_of X G Qq,
  mg_none_of X G BP,
  mg_none_of X G ZV,
  mg_none_of X G oZ,
  mg_none_of X G ZW,
  mg_none_of X G Qs,
  mg_none_of X G JW,
  mg_none_of X G ZX,
  mg_none_of X G BR,
  mg_none_of X G JX,
  mg_of X G iR,
  iR,
  mL,
  (fun c C hc hC=>(by simp only [Gr,Bool.or_eq_true,beq_iff_eq,or_assoc] at hc;exact (fun z=>by subst z;rw [iR] at hC;cases hC;exact Xw _) hc))⟩
 have JZ:=cX (st:=fU) nW nY nZ
 have aac:=cX (st:=mG) Bq Br Bs
 have ahD:=cX (st:=Gq) ZJ ZK ZL
 have afA:=cX (st:=wW) Qn Qo Qp
 have VH:=cX (st:=jL) xQ xR xT
 have aad:=cX (st:=mH) Bu Bv Bw
 have acB:=cX (st:=nD) JR JT JV
 have Ka:=cX (st:=fV) ou oA oE
 have Ep:=cX (st:=eH) lN lQ lR
 have aae:=cX (st:=jX) BJ BK BL
 have Nu:=cX (st:=gR) qN qO qP
 have Kc:=cX (st:=fW) oG oH oJ
 have Nv:=cX (st:=gU) qR qT qU
 have yq:=cX (st:=cN) ju jw jx
 have Kd:=cX (st:=fX) oM oN oU
 have Er:=cX (st:=eN) lV lW lZ
 have Nx:=cX (st:=gW) qX qY qZ
 have Ny:=cX (st:=gZ) rz rA rB
 have Qt:=cX (st:=fJ) uF uG uH
 have Ke:=cX (st:=dW) oW oX oY
 have ahE:=cX (st:=mJ) ZP ZQ ZR
 refine ⟨fnOf "law" "law" (bR mJ) (bJ mJ) (aG mJ) .none Zz ZC ZD Zy Ql ZF,fun s v=>.of_eq rfl,fun base _ _=>?_⟩
 have nG:=CK (P:=l.prog) (w:=w) (base:=base) T JZ (mg_of X G nU)
 have Ae:=Va (P:=l.prog) (w:=w) (base:=base) T aac (mg_of X G Bp)
 have Zj:=afo (P:=l.prog) (w:=w) (base:=base) T ahD (mg_of X G ZG)
 have wX:=acq (P:=l.prog) (w:=w) (base:=base) T afA (mg_of X G Qm)
 have iu:=Qc (P:=l.prog) (w:=w) (base:=base) T VH (mg_of X G xP)
 have Ah:=Vc (P:=l.prog) (w:=w) (base:=base) T aad (mg_of X G Bt) iu wX
 have Jb:=Zi (P:=l.prog) (w:=w) (base:=base) T acB (mg_of X G JQ) nG
 have gj:=CP (P:=l.prog) (w:=w) (base:=base) T Ka (mg_of X G oh)
 have lG:=Ac (P:=l.prog) (w:=w) (base:=base) T Ep (mg_of X G lM) gj
 have Ai:=Ve (P:=l.prog) (w:=w) (base:=base) T aae (mg_of X G Bx) gj Ae lG
 have qx:=IK (P:=l.prog) (w:=w) (base:=base) T Nu (mg_of X G qM)
 have jF:=CT (P:=l.prog) (w:=w) (base:=base) T Kc (mg_of X G oF)
 have iw:=IV (P:=l.prog) (w:=w) (base:=base) T Nv (mg_of X G qQ)
 have jq:=xg (P:=l.prog) (w:=w) (base:=base) T yq (mg_of X G jt) jF
 have nH:=CV (P:=l.prog) (w:=w) (base:=base) T Kd (mg_of X G oK) iw
 have cG:=Ag (P:=l.prog) (w:=w) (base:=base) T Er (mg_of X G lU)
 have qD:=IW (P:=l.prog) (w:=w) (base:=base) T Nx (mg_of X G qW) qx nH iw
 have qF:=Ja (P:=l.prog) (w:=w) (base:=base) T Ny (mg_of X G rm) wX Ah iu Jb Ai
 have uz:=Ng (P:=l.prog) (w:=w) (base:=base) T Qt (mg_of X G uE) cG
 have nM:=tE (P:=l.prog) (w:=w) (base:=base) T Ke (mg_of X G oV) cG 65
 exact agW ahE jo fun cdv A outer s H E B hr=>ahC T qD uz qF jq Zj nM hr (KY wg rfl)
end
end Wf
namespace Vl
open PySem PySem.Spec L2 So Tb
noncomputable def bW (t:Int) (ks:List Int):List Int :=
 let r:=ks.getD 0 0;let c:=ks.getD 1 0
 if t=0 then [r,c] else if t=1 then [c,-r] else if t=2 then [-r,-c] else if t=3 then [-c,r] else if t=4 then [r,-c] else if t=5 then [-c,-r] else if t=6 then [-r,c] else [c,r]
noncomputable def onT (a b:Int):Int:=(a / 4 + b / 4) % 2 * 4 + (if b / 4=1 then (b - a) % 4 else (b + a) % 4)
noncomputable def rC (t:Int):Int:=if t / 4=1 then t else (4 - t) % 4
theorem xY {t:Int} (h0:0<=t) (h7:t<=7):t=0∨t=1∨t=2∨t=3∨t=4∨t=5∨t=6∨t=7:=by omega
theorem jZ (t:Int) (ks:List Int):Pair (bW t ks):=by
 unfold bW
 dsimp only
 repeat' split
 all_goals exact ⟨_,_,rfl⟩
theorem duoE0 {x y z w:Int} (h1:x=z) (h2:y=w):[x,y]=[z,w]:=by rw [h1,h2]
theorem Nz {a b:Int} (ha0:0<=a) (ha7:a<=7) (hb0:0<=b) (hb7:b<=7) (ks:List Int):bW b (bW a ks)=bW (onT a b) ks:=by
 rcases xY ha0 ha7 with rfl|rfl|rfl|rfl|rfl|rfl|rfl|rfl <;> rcases xY hb0 hb7 with rfl|rfl|rfl|rfl|rfl|rfl|rfl|rfl <;> first|rfl|exact duoE0 (Int.neg_neg _) rfl|exact duoE0 rfl (Int.neg_neg _)|exact duoE0 (Int.neg_neg _) (Int.neg_neg _)
theorem BW {a:Int} (ha0:0<=a) (ha7:a<=7):0<=rC a/\rC a<=7/\onT a (rC a)=0:=by
 rcases xY ha0 ha7 with rfl|rfl|rfl|rfl|rfl|rfl|rfl|rfl <;> decide
theorem BX {ks:List Int} (h:Pair ks):bW 0 ks=ks:=by
 obtain ⟨a,b,rfl⟩:=h;simp [bW]
theorem uI {a:Int} (ha0:0<=a) (ha7:a<=7) {ks:List Int} (h:Pair ks):bW (rC a) (bW a ks)=ks:=by
 obtain ⟨b0,b7,e⟩:=BW ha0 ha7
 rw [Nz ha0 ha7 b0 b7,e,BX h]
noncomputable def Qu (r c:Int) (ks:List Int):List Int:=[ks.getD 0 0 + r,ks.getD 1 0 + c]
theorem afB {a b:List Int} (ha:Pair a) (hb:Pair b) (r c:Int):vP (Qu r c a) (Qu r c b)=vP a b:=by
 obtain ⟨x,y,rfl⟩:=ha
 obtain ⟨z,w,rfl⟩:=hb
 simp only [Qu,vP,List.getD_cons_zero,List.getD_cons_succ]
 by_cases h:x=z
 ·subst h
  simp only [if_true]
  by_cases h2:y=w
  ·subst h2;simp
  ·rw [if_neg (by omega),if_neg h2]
   exact decide_eq_decide.mpr (by omega)
 ·rw [if_neg (by omega),if_neg h]
  exact decide_eq_decide.mpr (by omega)
theorem aaf {acc:List (List Int)} {k:List Int} (h:k∉acc):(ins acc k).Perm (k::acc):=by unfold ins;rw [if_neg h]
theorem xZ:∀ {l:List (List Int)},l.Nodup->(bH l).Perm l:=by
 have:∀ (l acc:List (List Int)),(∀ x∈l,x∉acc)->l.Nodup->(l.foldl ins acc).Perm (l++acc):=by
  intro l
  induction l with
  | nil=>intro acc _ _;exact .refl _
  | cons a l ih =>
   intro acc h nd
   obtain ⟨n1,n2⟩:=List.nodup_cons.mp nd
   rw [List.foldl_cons]
   refine (ih (ins acc a) (fun x hx hm=>?_) n2).trans ?_
   ·rcases RB.mp hm with e|e
    ·subst e;exact n1 hx
    ·exact h x (.tail _ hx) e
   ·refine ((aaf (h a (.head _))).append_left l).trans ?_
    exact List.perm_middle
 intro l nd
 have:=this l [] (fun _ _=>by simp) nd
 rw [List.append_nil] at this
 exact this
theorem RT {l:List (List Int)}:(rise l).Nodup:=(cQ _).nodup_iff.mpr (wV l)
theorem RV (l:List (List Int)):(rise l).Pairwise Ri:=mC _
theorem acC {l:List (List Int)} (nd:l.Nodup):rise l=cu l:=sZ (xZ nd)
theorem aag {α β:Type} {f:α->β} {l:List α} (inj:∀ x∈l,∀ y∈l,f x=f y->x=y) (nd:l.Nodup):(l.map f).Nodup:=by
 induction l with
 | nil=>exact List.nodup_nil
 | cons a l ih =>
  obtain ⟨n1,n2⟩:=List.nodup_cons.mp nd
  rw [List.map_cons]
  refine List.nodup_cons.mpr ⟨fun hm=>?_,ih (fun x hx y hy=>inj x (.tail _ hx) y (.tail _ hy)) n2⟩
  obtain ⟨b,hb,e⟩:=List.mem_map.mp hm
  have:=inj b (.tail _ hb) a (.head _) e
  subst this;exact n1 hb
theorem RW {t:Int} (h0:0<=t) (h7:t<=7) {l:List (List Int)} (hp:∀ ks∈l,Pair ks) (nd:l.Nodup):(l.map (bW t)).Nodup :=
 aag (fun x hx y hy e=>by rw [<- uI h0 h7 (hp x hx),e,uI h0 h7 (hp y hy)]) nd
noncomputable def turned (t:Int) (l:List (List Int)):List (List Int):=cu (l.map (bW t))
theorem NK (t:Int) (l:List (List Int)):∀ ks∈turned t l,Pair ks:=fun ks hk=>by
 obtain ⟨k,_,rfl⟩:=List.mem_map.mp (rQ.mp hk);exact jZ t k
theorem VJ {t:Int} (h0:0<=t) (h7:t<=7) {l:List (List Int)} (hp:∀ ks∈l,Pair ks) (nd:l.Nodup):(turned t l).Nodup:=(cQ _).nodup_iff.mpr (RW h0 h7 hp nd)
theorem ahF {r c:Int} {l:List (List Int)} (hp:∀ ks∈l,Pair ks) (nd:l.Nodup):(l.map (Qu r c)).Nodup :=
 aag (fun x hx y hy e=>by
  obtain ⟨a,b,rfl⟩:=hp x hx
  obtain ⟨p,q,rfl⟩:=hp y hy
  simp [Qu] at e
  rw [show a=p by omega,show b=q by omega]) nd
end Vl
namespace Wf
open PySem PySem.Spec PySem.Calls PySem.W L2 Vl
theorem NP {c m n o:Int} {b:Sl} {i:Nat} (h1:0<=o) (h2:o < 2147483647):∃ n' o':Int,∃ a' b',dY [.fz (.int c),.fz (.int m),.fz (.int n),.fz (.int o),.fz (.int i),b]=.nx [.fz (.int c),.fz (.int m),.fz (.int n'),.fz (.int o'),a',b']/\0<=o'/\o' < 2147483647:=by
 unfold dY
 have e1:tX (.int o) (.int 48271)=.ok (.int (o * 48271)):=zX (by decide)
 have e2:=Fl (m:=o * 48271 + i + 1) (n:=2147483647) (by decide)
 have b1:0<=(o * 48271 + i + 1) % 2147483647:=Int.emod_nonneg _ (by decide)
 have b2:(o * 48271 + i + 1) % 2147483647 < 2147483647:=Int.emod_lt_of_pos _ (by decide)
 generalize (o * 48271 + i + 1) % 2147483647=o' at e2 b1 b2
 have e3:tX (.int o') (.int o')=.ok (.int (o' * o')):=zX (by omega)
 have e4:=Fl (m:=o' * o') (n:=2147483629) (by decide)
 generalize o' * o' % 2147483629=t at e4
 have e5:tX (.int n) (.int 999983)=.ok (.int (n * 999983)):=zX (by decide)
 have e6:=adg (m:=t) (n:=1021) ⟨by decide,by decide⟩
 have e7:=Fl (m:=t / 1021 + t) (n:=999983) (by decide)
 simp (config:={ decide:=false }) only [bO,FT,FW,FZ,Us,Ut,kJ,Ga,Uu,Gb,Gd,Ge,Gf,Gg,wN,iy,cO,Ht,pI,jO,Hu,sy,su,zU,wJ,yj,Ov,bD,aD,fC,fA,fB,aj,aQ,fT,uV,uU,VR,iz,rY,pq,wj,fL,fSl,fP,Cr,Te,toI,wM,wu,pA,sG,TJ,TQ,TV,uo,uq,ur,wO,wQ,qm,wR,uw,Gj,wU,Uv,Uw,Ux,Uy,Uz,Gk,uY,Fo,Gh,Gi,Gm,Gn,aP,jj,bT,jC,bB,List.map_cons,List.map_nil,List.length_cons,List.length_nil,List.replicate,List.cons_append,List.nil_append,List.getElem?_cons_zero,List.getElem?_cons_succ,List.set_cons_zero,List.set_cons_succ,Nat.reduceAdd,Nat.reduceSub,Nat.reduceEqDiff,Nat.reduceLeDiff,Nat.zero_add,Option.bind_some,if_true,if_false,ite_true,ite_false,decide_true,decide_false,Bool.not_true,Bool.not_false,Bool.false_eq_true,reduceIte,reduceCtorEq,e1,e2,e3,e4,e5,e6,e7]
 exact ⟨_,_,_,_,rfl,b1,b2⟩
theorem NQ (c:Int) {m:Nat} {o:Int} (b1:0<=o) (b2:o < 2147483647):∃ n:Int,∃ ρ,kj (aP 4) dY ((List.range m).map fun (i:Nat)=>.int i) [.fz (.int c),.fz (.int m),.fz (.int 0),.fz (.int o),.no,.no]=.nx ρ/\∃ o' a b,ρ=[.fz (.int c),.fz (.int m),.fz (.int n),o',a,b]:=by
 obtain ⟨ρ',e1,n,o',a,b,rfl,_⟩:=zp (h:=aP 4) (g:=dY) (fun ρ=>∃ (n o:Int) (a b:Sl),ρ=[.fz (.int c),.fz (.int m),.fz (.int n),.fz (.int o),a,b]/\0<=o/\o < 2147483647)
  (ds:=(List.range m).map fun (i:Nat)=>.int i) (ρ:=[.fz (.int c),.fz (.int m),.fz (.int 0),.fz (.int o),.no,.no]) ⟨_,_,_,_,rfl,b1,b2⟩ (by
   rintro d hd ρ ⟨n,o,a,b,rfl,h1,h2⟩
   obtain ⟨i,_,rfl⟩:=List.mem_map.mp hd
   obtain ⟨n',o',a',b',e,h3,h4⟩:=NP (c:=c) (m:=m) (n:=n) (i:=i) (b:=b) h1 h2
   exact ⟨_,_,rfl,e,_,_,_,_,rfl,h3,h4⟩)
 exact ⟨n,_,e1,_,_,_,rfl⟩
theorem Qv (c:Int) {m:Nat} (hm:m < 1000) {o:Int} (b1:0<=o) (b2:o < 2147483647):∃ n:Int,∃ o' a b,uX (aP 4) dY (aD 1) [.fz (.int c),.fz (.int m),.fz (.int 0),.fz (.int o),.no,.no]=.nx [.fz (.int c),.fz (.int m),.fz (.int n),o',a,b]:=by
 obtain ⟨n,_,e,o',a,b,rfl⟩:=NQ c (m:=m) b1 b2
 exact ⟨n,o',a,b,Xx (N:=m) (aF rfl) (Int.lt_trans (Int.ofNat_lt.mpr hm) (by decide)) rfl e⟩
theorem aah (c m T:Int) (p1:Cq (.int 10) (.int 18)=.ok (.int T)) (h:decide (T<=c)=true):dN [.int c,.int m]=.ok (.int (c - T)):=by
 unfold dN kO
 simp (config:={ decide:=false }) only [bO,FT,FW,FZ,Us,Ut,kJ,Ga,Uu,Gb,Gd,Ge,Gf,Gg,wN,iy,cO,Ht,pI,jO,Hu,sy,su,zU,wJ,yj,Ov,bD,aD,fC,fA,fB,aj,aQ,fT,uV,uU,VR,iz,rY,pq,wj,fL,fSl,fP,Cr,Te,toI,wM,wu,pA,sG,TJ,TQ,TV,uo,uq,ur,wO,wQ,qm,wR,uw,Gj,wU,Uv,Uw,Ux,Uy,Uz,Gk,uY,Fo,Gh,Gi,Gm,Gn,aP,jj,bT,jC,bB,List.map_cons,List.map_nil,List.length_cons,List.length_nil,List.replicate,List.cons_append,List.nil_append,List.getElem?_cons_zero,List.getElem?_cons_succ,List.set_cons_zero,List.set_cons_succ,Nat.reduceAdd,Nat.reduceSub,Nat.reduceEqDiff,Nat.reduceLeDiff,Nat.zero_add,Option.bind_some,if_true,if_false,ite_true,ite_false,decide_true,decide_false,Bool.not_true,Bool.not_false,Bool.false_eq_true,reduceIte,reduceCtorEq,p1,h]
theorem aai (c m T r r2 o n:Int) (o' a b:Sl) (p1:Cq (.int 10) (.int 18)=.ok (.int T)) (p2:rZ (.int c) (.int 2147483647)=.ok (.int r)) (p3:tX (.int (r + 977)) (.int 69621)=.ok (.int r2)) (p4:rZ (.int r2) (.int 2147483647)=.ok (.int o))
  (f1:uX (aP 4) dY (aD 1) [.fz (.int c),.fz (.int m),.fz (.int 0),.fz (.int o),.no,.no]=.nx [.fz (.int c),.fz (.int m),.fz (.int n),o',a,b]) (h:decide (T<=c)=false):dN [.int c,.int m]=.ok (.int n):=by
 unfold dN kO
 simp (config:={ decide:=false }) only [bO,FT,FW,FZ,Us,Ut,kJ,Ga,Uu,Gb,Gd,Ge,Gf,Gg,wN,iy,cO,Ht,pI,jO,Hu,sy,su,zU,wJ,yj,Ov,bD,aD,fC,fA,fB,aj,aQ,fT,uV,uU,VR,iz,rY,pq,wj,fL,fSl,fP,Cr,Te,toI,wM,wu,pA,sG,TJ,TQ,TV,uo,uq,ur,wO,wQ,qm,wR,uw,Gj,wU,Uv,Uw,Ux,Uy,Uz,Gk,uY,Fo,Gh,Gi,Gm,Gn,aP,jj,bT,jC,bB,List.map_cons,List.map_nil,List.length_cons,List.length_nil,List.replicate,List.cons_append,List.nil_append,List.getElem?_cons_zero,List.getElem?_cons_succ,List.set_cons_zero,List.set_cons_succ,Nat.reduceAdd,Nat.reduceSub,Nat.reduceEqDiff,Nat.reduceLeDiff,Nat.zero_add,Option.bind_some,if_true,if_false,ite_true,ite_false,decide_true,decide_false,Bool.not_true,Bool.not_false,Bool.false_eq_true,reduceIte,reduceCtorEq,p1,h,p2,p3,p4,f1]
theorem afC (c:Int) {m:Nat} (hm:m < 1000):∃ n:Int,dN [.int c,.int m]=.ok (.int n):=by
 have p1:Cq (.int 10) (.int 18)=.ok (.int (10 ^ Int.toNat 18)):=adh ⟨by decide,by decide,by decide⟩
 generalize (10:Int) ^ Int.toNat 18=T at p1
 have p2:rZ (.int c) (.int 2147483647)=.ok (.int (c % 2147483647)):=Fl (by decide)
 generalize c % 2147483647=r at p2
 have p3:tX (.int (r + 977)) (.int 69621)=.ok (.int ((r + 977) * 69621)):=zX (by decide)
 generalize (r + 977) * 69621=r2 at p3
 have p4:rZ (.int r2) (.int 2147483647)=.ok (.int (r2 % 2147483647)):=Fl (by decide)
 have b1:0<=r2 % 2147483647:=Int.emod_nonneg _ (by decide)
 have b2:r2 % 2147483647 < 2147483647:=Int.emod_lt_of_pos _ (by decide)
 obtain ⟨n,o',a,b,f1⟩:=Qv c hm b1 b2
 cases h:decide (T<=c) with
 | true=>exact ⟨_,aah c m T p1 h⟩
 | false=>exact ⟨_,aai c m T r r2 _ n o' a b p1 p2 p3 p4 f1 h⟩
theorem Es {ks:List Int} (h:Pair ks) {a:Sl}:gk [.fz (tupK ks)]=.ok (.bl true):=by
 obtain ⟨x,y,rfl⟩:=h
 kernel_rfl
theorem Qw {aC:List (List Int)} {b:Bool} (h:∀ ks∈aC,Pair ks) (hl:aC.length<=1000):cU [cI aC b,cI aC b]=.ok (.bl true):=by
 have cp:eV (aP 0) (fun _=>.ok true) gk (aC.map tupK) [.no]=.ok (aC.map fun _=>.bl true) :=
  iQ (fun ρ=>∃ a,ρ=[a]) tupK (fun _=>.bl true) ⟨_,rfl⟩ (by
   rintro ks hk ρ ⟨a,rfl⟩
   exact ⟨_,rfl,Es (a:=a) (h ks hk),_,rfl⟩)
 have cv:jy (aP 0) (fun _=>.ok true) gk 1 [] (fL (bD dB (aD 0) (fC (.int 0))) Wa) [.fz (cI aC b),.fz (cI aC b)]=.ok (.lst (aC.map fun _=>.bl true)) :=
  wk (ds:=aC.map tupK) rfl cp (by rw [List.length_map];omega)
 have ne:Cv (cI aC b) (cI aC b)=.ok (.bl false):=Fp (RG aC b) rfl
 have al:KR [.lst (aC.map fun _=>.bl true)]=.ok (.bl true):=zZ aC
 have i1:Tp .tuple (cI aC b)=.ok (.bl true):=rfl
 have i2:dB (cI aC b) (.int 0)=.ok (.tup (aC.map tupK)):=rfl
 have i3:dB (cI aC b) (.int 1)=.ok (.bl b):=rfl
 have i4:Tp .tuple (.tup (aC.map tupK))=.ok (.bl true):=rfl
 have i5:Tp .bool (.bl b)=.ok (.bl true):=rfl
 have i6:yW [cI aC b]=.ok (.int 2):=rfl
 generalize cI aC b=S at *
 unfold cU jm
 simp (config:={ decide:=false }) only [bO,FT,FW,FZ,Us,Ut,kJ,Ga,Uu,Gb,Gd,Ge,Gf,Gg,wN,iy,cO,Ht,pI,jO,Hu,sy,su,zU,wJ,yj,Ov,bD,aD,fC,fA,fB,aj,aQ,fT,uV,uU,VR,iz,rY,pq,wj,fL,fSl,fP,Cr,Te,toI,wM,wu,pA,sG,TJ,TQ,TV,uo,uq,ur,wO,wQ,qm,wR,uw,Gj,wU,Uv,Uw,Ux,Uy,Uz,Gk,uY,Fo,Gh,Gi,Gm,Gn,aP,jj,bT,jC,bB,List.map_cons,List.map_nil,List.length_cons,List.length_nil,List.replicate,List.cons_append,List.nil_append,List.getElem?_cons_zero,List.getElem?_cons_succ,List.set_cons_zero,List.set_cons_succ,Nat.reduceAdd,Nat.reduceSub,Nat.reduceEqDiff,Nat.reduceLeDiff,Nat.zero_add,Option.bind_some,if_true,if_false,ite_true,ite_false,decide_true,decide_false,Bool.not_true,Bool.not_false,Bool.false_eq_true,reduceIte,reduceCtorEq,cv,ne,al,i1,i2,i3,i4,i5,i6]
theorem acD {aC:List (List Int)} {b:Bool} {r c:Int} (h:∀ ks∈aC,Pair ks) (hl:aC.length<=1000):rR [cI aC b,.tup [.int r,.int c]]=.ok (cI (aC.map fun ks=>[ks.getD 0 0 + r,ks.getD 1 0 + c]) b):=by
 have cp:eV (aP 0) (fun _=>.ok true) wY (aC.map tupK) [.no,.fz (.tup [.int r,.int c])]=.ok (aC.map fun ks=>tupK [ks.getD 0 0 + r,ks.getD 1 0 + c]) :=
  iQ (fun ρ=>∃ a,ρ=[a,.fz (.tup [.int r,.int c])]) tupK _ ⟨_,rfl⟩ (by
   rintro ks hk ρ ⟨a,rfl⟩
   obtain ⟨x,y,rfl⟩:=h ks hk
   exact ⟨_,rfl,rfl,_,rfl⟩)
 have cv:jy (aP 0) (fun _=>.ok true) wY 1 [1] (fL (bD dB (aD 0) (fC (.int 0))) Wa) [.fz (cI aC b),.fz (.tup [.int r,.int c])]=.ok (.lst (aC.map fun ks=>tupK [ks.getD 0 0 + r,ks.getD 1 0 + c])) :=
  wk (ds:=aC.map tupK) rfl cp (by rw [List.length_map];omega)
 have i3:dB (cI aC b) (.int 1)=.ok (.bl b):=rfl
 have t2:∀ a b:D,dI [a,b]=.ok (.tup [a,b]):=fun a b=>KZ (by simp)
 have fin':(.tup [.tup (aC.map fun ks=>tupK [ks.getD 0 0 + r,ks.getD 1 0 + c]),.bl b])=cI (aC.map fun ks=>[ks.getD 0 0 + r,ks.getD 1 0 + c]) b:=by unfold cI;rw [List.map_map];rfl
 rw [<- fin']
 generalize cI aC b=S at *
 unfold rR Iz
 simp (config:={ decide:=false }) only [bO,FT,FW,FZ,Us,Ut,kJ,Ga,Uu,Gb,Gd,Ge,Gf,Gg,wN,iy,cO,Ht,pI,jO,Hu,sy,su,zU,wJ,yj,Ov,bD,aD,fC,fA,fB,aj,aQ,fT,uV,uU,VR,iz,rY,pq,wj,fL,fSl,fP,Cr,Te,toI,wM,wu,pA,sG,TJ,TQ,TV,uo,uq,ur,wO,wQ,qm,wR,uw,Gj,wU,Uv,Uw,Ux,Uy,Uz,Gk,uY,Fo,Gh,Gi,Gm,Gn,aP,jj,bT,jC,bB,List.map_cons,List.map_nil,List.length_cons,List.length_nil,List.replicate,List.cons_append,List.nil_append,List.getElem?_cons_zero,List.getElem?_cons_succ,List.set_cons_zero,List.set_cons_succ,Nat.reduceAdd,Nat.reduceSub,Nat.reduceEqDiff,Nat.reduceLeDiff,Nat.zero_add,Option.bind_some,if_true,if_false,ite_true,ite_false,decide_true,decide_false,Bool.not_true,Bool.not_false,Bool.false_eq_true,reduceIte,reduceCtorEq,cv,i3,t2]
theorem acE {t:Int} (h0:0<=t) (h7:t<=7):fZ [.int t]=.ok .non:=by
 rcases xY h0 h7 with rfl|rfl|rfl|rfl|rfl|rfl|rfl|rfl <;> kernel_rfl
theorem ajA {r c t:Int} (h0:0<=t) (h7:t<=7):iY [.tup [.int r,.int c],.int t]=.ok (tupK (bW t [r,c])):=by
 have k:∀ {x y:Int} {u:List Int},[x,y]=u->(Rs.ok (.tup [.int x,.int y]):Rs D)=.ok (tupK u):=fun h=>by subst h;rfl
 rcases xY h0 h7 with rfl|rfl|rfl|rfl|rfl|rfl|rfl|rfl
 ·exact (show _=Rs.ok (.tup [.int r,.int c]) by kernel_rfl).trans (k (by simp [bW]))
 ·exact (show _=Rs.ok (.tup [.int c,.int (-r)]) by kernel_rfl).trans (k (by simp [bW]))
 ·exact (show _=Rs.ok (.tup [.int (-r),.int (-c)]) by kernel_rfl).trans (k (by simp [bW]))
 ·exact (show _=Rs.ok (.tup [.int (-c),.int (- -r)]) by kernel_rfl).trans (k (by simp [bW]))
 ·exact (show _=Rs.ok (.tup [.int r,.int (-c)]) by kernel_rfl).trans (k (by simp [bW]))
 ·exact (show _=Rs.ok (.tup [.int (-c),.int (-r)]) by kernel_rfl).trans (k (by simp [bW]))
 ·exact (show _=Rs.ok (.tup [.int (-r),.int (- -c)]) by kernel_rfl).trans (k (by simp [bW]))
 ·exact (show _=Rs.ok (.tup [.int (- -c),.int (- -r)]) by kernel_rfl).trans (k (by simp [bW]))
theorem aaj {aC:List (List Int)} (hl:aC.length < 1000) (hp:∀ ks∈aC,Pair ks):qt [.lst (aC.map tupK)]=.ok (.tup ((rise aC).map tupK)):=by
 have e:bB ["cells"] [.lst (aC.map tupK)]=[.fz (.lst (aC.map tupK))]:=rfl
 unfold qt Aa
 rw [e]
 rw [dJ (dR (ao (RD (aF rfl) hl fun ks hk=>(hp ks hk).ne) aU) rfl)]
 rfl
theorem aak {aC:List (List Int)} {b:Bool} {t:Int} (h0:0<=t) (h7:t<=7) (hp:∀ ks∈aC,Pair ks) (nd:aC.Nodup) (hl:aC.length < 1000):qw [cI aC b,.int t]=.ok (cI (turned t aC) b):=by
 have cp:eV (aP 0) (fun _=>.ok true) uy (aC.map tupK) [.no,.fz (.int t)]=.ok (aC.map fun ks=>tupK (bW t ks)) :=
  iQ (fun ρ=>∃ a,ρ=[a,.fz (.int t)]) tupK _ ⟨_,rfl⟩ (by
   rintro ks hk ρ ⟨a,rfl⟩
   obtain ⟨x,y,rfl⟩:=hp ks hk
   exact ⟨_,rfl,dR (ao (aF rfl) (ao (aF rfl) aU)) (cj rfl (ajA h0 h7)),_,rfl⟩)
 have cv:jy (aP 0) (fun _=>.ok true) uy 1 [1] (fL (bD dB (aD 0) (fC (.int 0))) Wa) [.fz (cI aC b),.fz (.int t)]=.ok (.lst (aC.map fun ks=>tupK (bW t ks))) :=
  wk (ds:=aC.map tupK) rfl cp (by rw [List.length_map];omega)
 rw [show (aC.map fun ks=>tupK (bW t ks))=(aC.map (bW t)).map tupK by rw [List.map_map];rfl] at cv
 have rs:=aaj (aC:=aC.map (bW t)) (by rw [List.length_map];exact hl) (fun ks hk=>by obtain ⟨k,_,rfl⟩:=List.mem_map.mp hk;exact jZ t k)
 rw [acC (RW h0 h7 hp nd)] at rs
 have i3:dB (cI aC b) (.int 1)=.ok (.bl b):=rfl
 have t2:∀ a b:D,dI [a,b]=.ok (.tup [a,b]):=fun a b=>KZ (by simp)
 have ck:=acE h0 h7
 show _=Rs.ok (D.tup [D.tup ((So.cu (aC.map (bW t))).map tupK),D.bl b])
 generalize cI aC b=S at *
 unfold qw Ad
 simp (config:={ decide:=false }) only [bO,FT,FW,FZ,Us,Ut,kJ,Ga,Uu,Gb,Gd,Ge,Gf,Gg,wN,iy,cO,Ht,pI,jO,Hu,sy,su,zU,wJ,yj,Ov,bD,aD,fC,fA,fB,aj,aQ,fT,uV,uU,VR,iz,rY,pq,wj,fL,fSl,fP,Cr,Te,toI,wM,wu,pA,sG,TJ,TQ,TV,uo,uq,ur,wO,wQ,qm,wR,uw,Gj,wU,Uv,Uw,Ux,Uy,Uz,Gk,uY,Fo,Gh,Gi,Gm,Gn,aP,jj,bT,jC,bB,List.map_cons,List.map_nil,List.length_cons,List.length_nil,List.replicate,List.cons_append,List.nil_append,List.getElem?_cons_zero,List.getElem?_cons_succ,List.set_cons_zero,List.set_cons_succ,Nat.reduceAdd,Nat.reduceSub,Nat.reduceEqDiff,Nat.reduceLeDiff,Nat.zero_add,Option.bind_some,if_true,if_false,ite_true,ite_false,decide_true,decide_false,Bool.not_true,Bool.not_false,Bool.false_eq_true,reduceIte,reduceCtorEq,cv,i3,t2,ck,rs]
end Wf
namespace Wf
open PySem PySem.Spec PySem.Calls PySem.W L2 Vl
noncomputable abbrev KL:=List (List Int)
structure Sh (k:KL):Prop where
 pr:∀ x∈k,Pair x
 nd:k.Nodup
 pw:k.Pairwise So.Ri
 ln:k.length<=64
theorem BZ {l l':KL} (p:l.Pairwise So.Ri) (p':l'.Pairwise So.Ri) (n:l.Nodup) (n':l'.Nodup) (h:∀ x,x∈l↔x∈l'):l=l':=So.wF (Tb.dM n n' h) p p'
theorem yF {l:KL} (n:l.Nodup):(So.cu l).Nodup:=(So.cQ l).nodup_iff.mpr n
noncomputable def has (k:KL) (b:Bool) (x:List Int):Bool:=decide (x∈k) != b
noncomputable def Ci (met p q:Bool):Bool:=if met=true then p && q else p || q
noncomputable def jn (met:Bool) (k1:KL) (b1:Bool) (k2:KL) (b2:Bool):KL:=(rise (k1++k2)).filter fun x=>Ci met (has k1 b1 x) (has k2 b2 x) != Ci met b1 b2
theorem NT {met b1 b2:Bool} {k1 k2:KL}:(jn met k1 b1 k2 b2).Pairwise So.Ri:=(RV _).filter _
theorem NZ {met b1 b2:Bool} {k1 k2:KL}:(jn met k1 b1 k2 b2).Nodup:=RT.filter _
theorem Ca {met b1 b2:Bool} {k1 k2:KL} {x:List Int}:x∈jn met k1 b1 k2 b2↔(x∈k1∨x∈k2)/\(Ci met (has k1 b1 x) (has k2 b2 x) != Ci met b1 b2)=true:=by
 unfold jn;rw [List.mem_filter,MP,List.mem_append]
noncomputable def bo (k1:KL) (b1:Bool) (k2:KL) (b2:Bool):KL :=
 if b1=true then (if b2=true then So.cu (orL (Tb.bH k1) (Tb.bH k2)) else So.cu (Py (Tb.bH k2) (Tb.bH k1)))
 else if b2=true then So.cu (Py (Tb.bH k1) (Tb.bH k2)) else So.cu (Yw (Tb.bH k1) (Tb.bH k2))
theorem adx {k1 k2:KL} {b1 b2:Bool}:bo k1 b1 k2 b2=jn true k1 b1 k2 b2:=by
 have n1:=wV k1
 have n2:=wV k2
 refine BZ ?_ NT ?_ NZ fun x=>?_
 ·unfold bo;cases b1 <;> cases b2 <;> exact So.mC _
 ·unfold bo
  cases b1 <;> cases b2
  ·exact yF (n1.filter _)
  ·exact yF (n1.filter _)
  ·exact yF (n2.filter _)
  ·exact yF (Yx n1 n2)
 ·rw [Ca]
  unfold bo Ci has
  cases b1 <;> cases b2 <;> simp only [Bool.false_eq_true,if_false,if_true,rQ,Io,zR,vp,jW] <;> by_cases h1:x∈k1 <;> by_cases h2:x∈k2 <;> simp [h1,h2]
theorem aal {k1 k2:KL} {b1 b2:Bool}:jn true k1 (!b1) k2 (!b2)=jn false k1 b1 k2 b2:=by
 refine BZ NT NT NZ NZ fun x=>?_
 rw [Ca,Ca]
 unfold Ci has
 cases b1 <;> cases b2 <;> by_cases h1:x∈k1 <;> by_cases h2:x∈k2 <;> simp [h1,h2]
theorem ady {met b1 b2:Bool} {k1 k2:KL} (h1:Sh k1) (h2:Sh k2):∀ x∈jn met k1 b1 k2 b2,Pair x:=fun x hx=>by
 rcases (Ca.mp hx).1 with h|h
 ·exact h1.pr x h
 ·exact h2.pr x h
theorem Gx:∀ a b:List Int,vV (a.map D.int) (b.map D.int)=decide (a=b)
 | [],[]=>rfl
 | [],_::_=>rfl
 | _::_,[]=>rfl
 | x::a,y::b=>by
  simp only [List.map_cons,vV,rE,Gx a b]
  by_cases h:x=y <;> by_cases h2:a=b <;> simp [h,h2]
theorem aam (a b:List Int):rE (tupK a) (tupK b)=decide (a=b):=by
 unfold Vl.tupK;simp only [rE];exact Gx a b
theorem acF (x:List Int) (k:KL):gIn (tupK x) (.tup (k.map tupK))=.ok (.bl (decide (x∈k))):=by
 have e:inD (tupK x) (k.map tupK)=decide (x∈k):=by
  unfold inD
  induction k with
  | nil=>simp
  | cons y k ih =>
   rw [List.map_cons,List.any_cons,ih,aam]
   by_cases h:y=x
   ·subst h;simp
   ·by_cases h2:x∈k <;> simp [h,h2,Ne.symm h]
 show YB false _ _=_
 simp only [YB]
 rw [if_pos ⟨Nat.le_trans (Nb x) (by decide),Nat.le_trans (Gp k) (by decide)⟩]
 simp only [Bool.false_eq_true,if_false,e]
theorem aan (p q:Bool):Cv (.bl p) (.bl q)=.ok (.bl (p != q)):=by cases p <;> cases q <;> rfl
theorem ajB (p q:Bool):yZ (.bl p) (.bl q)=.ok (.bl (p == q)):=by cases p <;> cases q <;> rfl
theorem t2 (a b:D):dI [a,b]=.ok (.tup [a,b]):=KZ (by simp)
theorem i1 (k:KL) (b:Bool):dB (cI k b) (.int 1)=.ok (.bl b):=rfl
theorem ahG {f:aJ->Rs D} {ρ:aJ} {k:KL} (h:f ρ=.ok (.tup (k.map tupK))) (hl:k.length < 1000):fK f ρ=.ok (Tb.bH k):=by
 unfold fK
 rw [h]
 simp only [kJ,wH,rN]
 rw [if_pos (by rw [List.length_map];exact hl)]
 rfl
theorem vO {f:aJ->Rs KL} {ρ:aJ} {k:KL} (h:f ρ=.ok k) (hp:∀ x∈k,Pair x) (hl:k.length < 1000):fG f ρ=.ok (.lst ((So.cu k).map tupK)):=by
 unfold fG
 rw [h]
 simp only [kJ,qj]
 rw [if_pos ⟨fun x hx=>(hp x hx).ne,hl⟩]
theorem RX {C:KL->KL->Prop} [∀ a b,Decidable (C a b)] {g:KL->KL->KL} {fa fb:aJ->Rs KL} {ρ:aJ} {a b:KL} (ha:fa ρ=.ok a) (hb:fb ρ=.ok b) (hc:C a b):Wd (gK C g) fa fb ρ=.ok (g a b):=by
 unfold Wd gK;rw [ha];simp only [kJ];rw [hb];simp only [kJ];rw [if_pos hc]
theorem Gy {k:KL} (h:Sh k):(Tb.bH k).length=k.length:=(xZ h.nd).length_eq
theorem Cd {k:KL} (h:Sh k):∀ x∈Tb.bH k,Pair x:=fun x hx=>h.pr x (jW.mp hx)
theorem e2 (a b:D):bB ["one","other"] [a,b]=[.fz a,.fz b]:=rfl
theorem aao {k1 k2:KL} {b1 b2:Bool} (h1:Sh k1) (h2:Sh k2):ux [cI k1 b1,cI k2 b2]=.ok (cI (bo k1 b1 k2 b2) (b1 && b2)):=by
 have l1:=h1.ln
 have l2:=h2.ln
 have n1:=Gy h1
 have n2:=Gy h2
 have g1:∀ {ρ:aJ} {S:Sl},ρ=[.fz (cI k1 b1),S]->fK (bD dB (aD 0) (fC (.int 0))) ρ=.ok (Tb.bH k1):=fun e=>by subst e;exact ahG (bC (aF rfl) cC rfl) (by omega)
 have g2:∀ {ρ:aJ} {S:Sl},ρ=[S,.fz (cI k2 b2)]->fK (bD dB (aD 1) (fC (.int 0))) ρ=.ok (Tb.bH k2):=fun e=>by subst e;exact ahG (bC (aF rfl) cC rfl) (by omega)
 unfold ux PX
 rw [e2]
 cases b1 <;> cases b2
 ·rw [aV (cR (Hv (lu (bC (aF rfl) cC rfl))) lC) (aV (cR (lu (bC (aF rfl) cC rfl)) lC) (aV (cR (lu (bC (aF rfl) cC rfl)) lC)
   (dJ (dR (ao (dR (ao (vO (RX (g1 rfl) (g2 rfl) (show zT _ _ from ⟨by omega,by omega⟩)) (fun x hx=>Cd h1 x (zR.mp hx).1) (Nat.lt_of_le_of_lt (List.length_filter_le _ _) (by omega))) aU) rfl) (ao cC aU)) (t2 _ _)))))]
  rfl
 ·rw [aV (cR (Hv (lu (bC (aF rfl) cC rfl))) lC) (aV (cR (lu (bC (aF rfl) cC rfl)) lC) (gM (eZ (lu (bC (aF rfl) cC rfl))
   (dJ (dR (ao (dR (ao (vO (RX (g1 rfl) (g2 rfl) (show zT _ _ from ⟨by omega,by omega⟩)) (fun x hx=>Cd h1 x (vp.mp hx).1) (Nat.lt_of_le_of_lt (List.length_filter_le _ _) (by omega))) aU) rfl) (ao cC aU)) (t2 _ _))))))]
  rfl
 ·rw [aV (cR (yu (lu (bC (aF rfl) cC rfl)) (lu (bC (aF rfl) cC rfl))) lC) (gM (eZ (lu (bC (aF rfl) cC rfl))
   (dJ (dR (ao (dR (ao (vO (RX (g2 rfl) (g1 rfl) (show zT _ _ from ⟨by omega,by omega⟩)) (fun x hx=>Cd h2 x (vp.mp hx).1) (Nat.lt_of_le_of_lt (List.length_filter_le _ _) (by omega))) aU) rfl) (ao cC aU)) (t2 _ _)))))]
  rfl
 ·have lo:(orL (Tb.bH k1) (Tb.bH k2)).length < 1000:=by
   unfold orL;rw [List.length_append]
   have:=List.length_filter_le (fun x=>!decide (x∈Tb.bH k1)) (Tb.bH k2)
   omega
  rw [gM (eZ (yu (lu (bC (aF rfl) cC rfl)) (lu (bC (aF rfl) cC rfl)))
   (dJ (dR (ao (dR (ao (vO (RX (g1 rfl) (g2 rfl) (show COr _ _ from (by unfold COr;omega))) (fun x hx=>(Io.mp hx).elim (Cd h1 x) (Cd h2 x)) lo) aU) rfl) (ao cC aU)) (t2 _ _))))]
  rfl
theorem rT {k:KL} {b:Bool}:ig [cI k b]=.ok (cI k (!b)):=rfl
theorem aap {k1 k2:KL} {b1 b2:Bool} (h1:Sh k1) (h2:Sh k2):qu [cI k1 b1,cI k2 b2]=.ok (cI (jn false k1 b1 k2 b2) (b1 || b2)):=by
 have hb:=aao (b1:=!b1) (b2:=!b2) h1 h2
 rw [adx,aal] at hb
 unfold qu Ab
 rw [e2]
 refine (congrArg dH (dJ (dR (ao (dR (ao (dR (ao (aF rfl) aU) (cj rfl rT)) (ao (dR (ao (aF rfl) aU) (cj rfl rT)) aU)) (cj rfl hb)) aU) (cj rfl rT)))).trans ?_
 cases b1 <;> cases b2 <;> rfl
theorem ahH {k1 k2:KL} (hl:k1.length + k2.length<=1000):FN (.tup (k1.map tupK)) (.tup (k2.map tupK))=.ok (.tup ((k1++k2).map tupK)):=by
 simp only [FN]
 rw [if_pos (by rw [List.length_map,List.length_map];omega),List.map_append]
theorem RZ {i:Nat} {g:aJ->Ou} {ρ:aJ} {r:Ou} (h:g (Cj i ρ)=r):yj i g ρ=r:=h
end Wf
namespace Wf
open PySem PySem.Spec PySem.Calls PySem.W L2 Vl
theorem aaq (n:Int):∃ m r c:Int,fO [.int n]=.ok (.tup [.int m,tupK [r,c]]):=by
 have c1:=TF (m:=n) (n:=8) ⟨by decide,by decide⟩
 have w0:0<=n % 8:=Int.emod_nonneg _ (by decide)
 have w8:n % 8 < 8:=Int.emod_lt_of_pos _ (by decide)
 generalize n % 8=w at c1 w0 w8
 generalize n / 8=q at c1
 have p9:Cq (.int 10) (.int 9)=.ok (.int 1000000000):=by rw [adh ⟨by decide,by decide,by decide⟩];exact congrArg (fun z=>Rs.ok (D.int z)) (by decide)
 have m9:tX (.int 2) (.int 1000000000)=.ok (.int 2000000000):=by rw [zX (by decide)];exact congrArg (fun z=>Rs.ok (D.int z)) (by decide)
 have a9:iB (.int 2000000000) (.int 1)=.ok (.int 2000000001):=rfl
 have size:∃ z:Int,(0 < z/\z < 2 ^ 200)/\dB (.lst [.int 3,.int 3,.int 4,.int 4,.int 5,.int 5,.int 6,.int 2000000001]) (.int w)=.ok (.int z):=by
  rcases (show w=0∨w=1∨w=2∨w=3∨w=4∨w=5∨w=6∨w=7 by omega) with rfl|rfl|rfl|rfl|rfl|rfl|rfl|rfl
  ·exact ⟨3,by decide,rfl⟩
  ·exact ⟨3,by decide,rfl⟩
  ·exact ⟨4,by decide,rfl⟩
  ·exact ⟨4,by decide,rfl⟩
  ·exact ⟨5,by decide,rfl⟩
  ·exact ⟨5,by decide,rfl⟩
  ·exact ⟨6,by decide,rfl⟩
  ·exact ⟨2000000001,by decide,rfl⟩
 obtain ⟨z,hz,ez⟩:=size
 have d1:=TF (m:=q) (n:=z) hz
 generalize q / z=q1 at d1
 generalize q % z=r at d1
 have d2:=TF (m:=q1) (n:=z) hz
 generalize q1 / z=q2 at d2
 generalize q1 % z=c at d2
 have h2:KD (.int z) (.int 2)=.ok (.int (z / 2)):=adg ⟨by decide,by decide⟩
 have l8:∀ a b c d e f g h:D,pF [a,b,c,d,e,f,g,h]=.ok (.lst [a,b,c,d,e,f,g,h]):=fun _ _ _ _ _ _ _ _=>La (by simp)
 refine ⟨q2,r - z / 2,c - z / 2,?_⟩
 have run:kW (bB ["number","way","size","row","column"] [.int n])=.rt (.tup [.int q2,tupK [r - z / 2,c - z / 2]]):=by
  unfold kW
  refine aV (ρ1:=[.fz (.int q),.fz (.int w),.no,.no,.no]) (mz (dR (ao (aF rfl) (ao cC aU)) c1) rfl) ?_
  refine aV (ρ1:=[.fz (.int q),.fz (.int w),.fz (.int z),.no,.no]) (kI (bC (dR (ao cC (ao cC (ao cC (ao cC (ao cC (ao cC (ao cC (ao (bC (bC cC (bC cC cC p9) m9) cC a9) aU)))))))) (l8 _ _ _ _ _ _ _ _)) (aF rfl) ez)) ?_
  refine aV (ρ1:=[.fz (.int q1),.fz (.int w),.fz (.int z),.fz (.int r),.no]) (mz (dR (ao (aF rfl) (ao (aF rfl) aU)) d1) rfl) ?_
  refine aV (ρ1:=[.fz (.int q2),.fz (.int w),.fz (.int z),.fz (.int r),.fz (.int c)]) (mz (dR (ao (aF rfl) (ao (aF rfl) aU)) d2) rfl) ?_
  exact dJ (dR (ao (aF rfl) (ao (dR (ao (bC (aF rfl) (bC (aF rfl) cC h2) pA) (ao (bC (aF rfl) (bC (aF rfl) cC h2) pA) aU)) (t2 _ _)) aU)) (t2 _ _))
 unfold fO;rw [run];rfl
theorem Kf {ρ:aJ} {i:Nat} {ds:List D} {d:D} {f:aJ->Rs D} (h:ρ[i]?=some (.ow ds)) (hf:f ρ=.ok d) (hl:ds.length < 1000000):wJ i f ρ=.nx (ρ.set i (.ow (ds++[d]))):=by
 unfold wJ;rw [h];show oR (f ρ) ρ _=_;rw [hf];show (if _ then _ else _)=_;rw [if_pos hl]
theorem Ce {c rest:Int}:∀ (l:List Nat) (n:Int) (aC:KL) (k a:Sl),aC.length + l.length < 1000->(∀ ks∈aC,Pair ks) ->
  ∃ (m:Int) (fQ:KL),∃ k' a',kj (aP 4) iZ (l.map fun (i:Nat)=>.int i) [.fz (.int n),.fz (.int c),.fz (.int rest),.ow (aC.map tupK),k,a]=.nx [.fz (.int m),.fz (.int c),.fz (.int rest),.ow (fQ.map tupK),k',a']/\fQ.length=aC.length + l.length/\∀ ks∈fQ,Pair ks
 | [],n,aC,k,a,_,hp=>⟨n,aC,k,a,rfl,rfl,hp⟩
 | i::l,n,aC,k,a,hl,hp=>by
  simp only [List.length_cons] at hl
  obtain ⟨m,x,y,hn⟩:=aaq n
  obtain ⟨m',fQ,k',a',e2,l2,p2⟩:=Ce (c:=c) (rest:=rest) l m (aC++[[x,y]]) (.fz (.int i)) (.fz (tupK [x,y])) (by simp only [List.length_append,List.length_cons,List.length_nil];omega) (fun ks hks=>by
   rcases List.mem_append.mp hks with h|h
   ·exact hp ks h
   ·simp at h;exact ⟨x,y,h⟩)
  refine ⟨m',fQ,k',a',?_,by rw [l2];simp;omega,p2⟩
  have st:iZ [.fz (.int n),.fz (.int c),.fz (.int rest),.ow (aC.map tupK),.fz (.int i),a]=.nx [.fz (.int m),.fz (.int c),.fz (.int rest),.ow ((aC++[[x,y]]).map tupK),.fz (.int i),.fz (tupK [x,y])]:=by
   unfold iZ
   refine aV (ρ1:=[.fz (.int m),.fz (.int c),.fz (.int rest),.ow (aC.map tupK),.fz (.int i),.fz (tupK [x,y])]) (mz (dR (ao (aF rfl) aU) (cj rfl hn)) rfl) ?_
   rw [List.map_append]
   exact Kf rfl (aF rfl) (by rw [List.length_map];omega)
  simp only [List.map_cons,kj,aP,List.set_cons_succ,List.set_cons_zero,st]
  exact e2
theorem acG {aC:KL} (hp:∀ x∈aC,Pair x) (hl:aC.length<=64):Sh (rise aC):=⟨fun x hx=>hp x (MP.mp hx),RT,RV aC,Nat.le_trans (zY aC) hl⟩
theorem acH (n:Int):∃ (m:Int) (k:KL) (b:Bool),iH [.int n]=.ok (.tup [.int m,cI k b])/\Sh k/\k.length<=4:=by
 have d1:=TF (m:=n) (n:=5) ⟨by decide,by decide⟩
 have c0:0<=n % 5:=Int.emod_nonneg _ (by decide)
 have c1:n % 5 < 5:=Int.emod_lt_of_pos _ (by decide)
 generalize n % 5=c at d1 c0 c1
 generalize n / 5=n1 at d1
 have d2:=TF (m:=n1) (n:=2) ⟨by decide,by decide⟩
 generalize n1 % 2=rest at d2
 generalize n1 / 2=n2 at d2
 obtain ⟨N,rfl⟩:∃ N:Nat,c=N:=⟨c.toNat,by omega⟩
 obtain ⟨m,aC,k,a,e,l,p⟩:=Ce (c:=N) (rest:=rest) (List.range N) n2 [] .no .no (by simp;omega) (fun _ h=>by cases h)
 simp only [List.length_nil,List.length_range,Nat.zero_add] at l
 have sr:=acG p (by omega)
 have lr:=zY aC
 refine ⟨m,rise aC,decide (rest=1),?_,sr,by omega⟩
 have run:jG (bB ["number","count","rest","cells","k","cell"] [.int n])=.rt (.tup [.int m,cI (rise aC) (decide (rest=1))]):=by
  unfold jG
  refine aV (ρ1:=[.fz (.int n1),.fz (.int N),.no,.no,.no,.no]) (mz (dR (ao (aF rfl) (ao cC aU)) d1) rfl) ?_
  refine aV (ρ1:=[.fz (.int n2),.fz (.int N),.fz (.int rest),.no,.no,.no]) (mz (dR (ao (aF rfl) (ao cC aU)) d2) rfl) ?_
  refine aV (ρ1:=[.fz (.int n2),.fz (.int N),.fz (.int rest),.ow [],.no,.no]) rfl ?_
  refine aV (Ra (Xx (N:=N) (aF rfl) (by omega) rfl e)) (RZ ?_)
  exact dJ (dR (ao (aF rfl) (ao (dR (ao (dR (ao (RD (aF rfl) (by omega) fun ks hk=>(p ks hk).ne) aU) rfl) (ao (bC (aF rfl) cC uY) aU)) (t2 _ _)) aU)) (t2 _ _))
 unfold iH;rw [run];rfl
theorem Sd {r c t:Int} (h0:0<=t) (h7:t<=7):dz [tupK [r,c],.int t]=.ok (tupK (bW t [r,c])):=by
 have k:∀ {x y:Int} {u:List Int},[x,y]=u->(Rs.ok (.tup [.int x,.int y]):Rs D)=.ok (tupK u):=fun h=>by subst h;rfl
 rcases xY h0 h7 with rfl|rfl|rfl|rfl|rfl|rfl|rfl|rfl
 ·exact (show _=Rs.ok (.tup [.int r,.int c]) by kernel_rfl).trans (k (by simp [bW]))
 ·exact (show _=Rs.ok (.tup [.int c,.int (0 - r)]) by kernel_rfl).trans (k (by simp [bW]))
 ·exact (show _=Rs.ok (.tup [.int (0 - r),.int (0 - c)]) by kernel_rfl).trans (k (by simp [bW]))
 ·exact (show _=Rs.ok (.tup [.int (0 - c),.int (0 - (0 - r))]) by kernel_rfl).trans (k (by simp [bW]))
 ·exact (show _=Rs.ok (.tup [.int r,.int (0 - c)]) by kernel_rfl).trans (k (by simp [bW]))
 ·exact (show _=Rs.ok (.tup [.int (0 - c),.int (0 - r)]) by kernel_rfl).trans (k (by simp [bW]))
 ·exact (show _=Rs.ok (.tup [.int (0 - r),.int (0 - (0 - c))]) by kernel_rfl).trans (k (by simp [bW]))
 ·exact (show _=Rs.ok (.tup [.int (0 - (0 - c)),.int (0 - (0 - r))]) by kernel_rfl).trans (k (by simp [bW]))
structure Dd where
 w:Int
 O:KL
 ob:Bool
 r:Int
 c:Int
 t:Int
structure DG (d:Dd):Prop where
 w0:0<=d.w
 w5:d.w<=5
 sO:Sh d.O
 l4:d.O.length<=4
 t0:0<=d.t
 t7:d.t<=7
noncomputable def dD (d:Dd):D:=.tup [.int d.w,cI d.O d.ob,tupK [d.r,d.c],.int d.t]
theorem afD (x:Int):∃ d:Dd,jg [.int x]=.ok (dD d)/\DG d:=by
 obtain ⟨n0,hd⟩:=afC x (m:=30) (by decide)
 have d1:=TF (m:=n0) (n:=8) ⟨by decide,by decide⟩
 have u0:0<=n0 % 8:=Int.emod_nonneg _ (by decide)
 have u8:n0 % 8 < 8:=Int.emod_lt_of_pos _ (by decide)
 generalize n0 % 8=u at d1 u0 u8
 generalize n0 / 8=n1 at d1
 obtain ⟨n2,O,ob,hs,sO,l4⟩:=acH n1
 obtain ⟨n3,r,c,hn⟩:=aaq n2
 have hm:rZ (.int n3) (.int 8)=.ok (.int (n3 % 8)):=Fl (by decide)
 have t0:0<=n3 % 8:=Int.emod_nonneg _ (by decide)
 have t8:n3 % 8 < 8:=Int.emod_lt_of_pos _ (by decide)
 generalize n3 % 8=t at hm t0 t8
 have ix:∃ w:Int,(0<=w/\w<=5)/\dB (.lst [.int 0,.int 2,.int 2,.int 3,.int 4,.int 5,.int 2,.int 1]) (.int u)=.ok (.int w):=by
  rcases (show u=0∨u=1∨u=2∨u=3∨u=4∨u=5∨u=6∨u=7 by omega) with rfl|rfl|rfl|rfl|rfl|rfl|rfl|rfl
  ·exact ⟨0,by decide,rfl⟩
  ·exact ⟨2,by decide,rfl⟩
  ·exact ⟨2,by decide,rfl⟩
  ·exact ⟨3,by decide,rfl⟩
  ·exact ⟨4,by decide,rfl⟩
  ·exact ⟨5,by decide,rfl⟩
  ·exact ⟨2,by decide,rfl⟩
  ·exact ⟨1,by decide,rfl⟩
 obtain ⟨w,⟨w0,w5⟩,ew⟩:=ix
 have l8:∀ a b c d e f g h:D,pF [a,b,c,d,e,f,g,h]=.ok (.lst [a,b,c,d,e,f,g,h]):=fun _ _ _ _ _ _ _ _=>La (by simp)
 have t4:∀ a b c d:D,dI [a,b,c,d]=.ok (.tup [a,b,c,d]):=fun _ _ _ _=>KZ (by simp)
 refine ⟨⟨w,O,ob,r,c,t⟩,?_,w0,w5,sO,l4,t0,by show t<=7;omega⟩
 have run:kY (bB ["cell","number","way","other","step"] [.int x])=.rt (dD ⟨w,O,ob,r,c,t⟩):=by
  unfold kY
  refine aV (ρ1:=[.fz (.int x),.fz (.int n1),.fz (.int u),.no,.no]) (mz (dR (ao (dR (ao (aF rfl) (ao cC aU)) (cj rfl hd)) (ao cC aU)) d1) rfl) ?_
  refine aV (ρ1:=[.fz (.int x),.fz (.int n2),.fz (.int u),.fz (cI O ob),.no]) (mz (dR (ao (aF rfl) aU) (cj rfl hs)) rfl) ?_
  refine aV (ρ1:=[.fz (.int x),.fz (.int n3),.fz (.int u),.fz (cI O ob),.fz (tupK [r,c])]) (mz (dR (ao (aF rfl) aU) (cj rfl hn)) rfl) ?_
  exact dJ (dR (ao (bC (dR (ao cC (ao cC (ao cC (ao cC (ao cC (ao cC (ao cC (ao cC aU)))))))) (l8 _ _ _ _ _ _ _ _)) (aF rfl) ew) (ao (aF rfl) (ao (aF rfl) (ao (bC (aF rfl) cC hm) aU)))) (t4 _ _ _ _))
 unfold jg;rw [run];rfl
noncomputable def nx (d:Dd) (A:KL) (b:Bool):KL×Bool :=
 if d.w < 2 then (jn true A b d.O d.ob,b && d.ob) else if d.w=2 then (jn false A b d.O d.ob,b || d.ob) else if d.w=3 then (A,!b) else if d.w=4 then (A.map (Qu d.r d.c),b) else (turned d.t A,b)
theorem tU {w c:Int} (h:¬ w=c):yZ (.int w) (.int c)=.ok (.bl false):=uY.trans (congrArg (fun b=>Rs.ok (D.bl b)) (decide_eq_false h))
theorem tV {w c:Int} (h:w=c):yZ (.int w) (.int c)=.ok (.bl true):=uY.trans (congrArg (fun b=>Rs.ok (D.bl b)) (decide_eq_true h))
theorem afE {d:Dd} (g:DG d) {A:KL} {b:Bool} (hA:Sh A) (l60:A.length<=60):jh [cI A b,dD d]=.ok (cI (nx d A b).1 (nx d A b).2):=by
 have run:kZ (bB ["shape","deed","way","other","step","turn"] [cI A b,dD d])=.rt (cI (nx d A b).1 (nx d A b).2):=by
  unfold kZ
  refine aV (ρ1:=[.fz (cI A b),.fz (dD d),.fz (.int d.w),.fz (cI d.O d.ob),.fz (tupK [d.r,d.c]),.fz (.int d.t)]) (mz (aF rfl) rfl) ?_
  unfold nx
  by_cases h1:d.w < 2
  ·rw [if_pos h1]
   have hb:=aao (b1:=b) (b2:=d.ob) hA g.sO
   rw [adx] at hb
   exact gM (eZ (lu (bC (aF rfl) cC (by rw [sG,decide_eq_true h1]))) (dJ (dR (ao (aF rfl) (ao (aF rfl) aU)) (cj rfl hb))))
  rw [if_neg h1]
  refine aV (cR (lu (bC (aF rfl) cC (by rw [sG,decide_eq_false h1]))) lC) ?_
  by_cases h2:d.w=2
  ·rw [if_pos h2]
   exact gM (eZ (lu (bC (aF rfl) cC (tV h2))) (dJ (dR (ao (aF rfl) (ao (aF rfl) aU)) (cj rfl (aap hA g.sO)))))
  rw [if_neg h2]
  refine aV (cR (lu (bC (aF rfl) cC (tU h2))) lC) ?_
  by_cases h3:d.w=3
  ·rw [if_pos h3]
   exact gM (eZ (lu (bC (aF rfl) cC (tV h3))) (dJ (dR (ao (aF rfl) aU) (cj rfl rT))))
  rw [if_neg h3]
  refine aV (cR (lu (bC (aF rfl) cC (tU h3))) lC) ?_
  by_cases h4:d.w=4
  ·rw [if_pos h4]
   have hm:rR [cI A b,tupK [d.r,d.c]]=.ok (cI (A.map (Qu d.r d.c)) b):=acD hA.pr (by omega)
   exact gM (eZ (lu (bC (aF rfl) cC (tV h4))) (dJ (dR (ao (aF rfl) (ao (aF rfl) aU)) (cj rfl hm))))
  rw [if_neg h4]
  refine aV (cR (lu (bC (aF rfl) cC (tU h4))) lC) ?_
  exact dJ (dR (ao (aF rfl) (ao (aF rfl) aU)) (cj rfl (aak g.t0 g.t7 hA.pr hA.nd (by omega))))
 unfold jh;rw [run];rfl
theorem adA {p q:Bool} {w:Int} {f1 f2 fw:aJ->Rs D} {ρ:aJ} (h1:f1 ρ=.ok (.bl p)) (h2:f2 ρ=.ok (.bl q)) (hw:fw ρ=.ok (.int w)) :
  (bD dB (fA (aj (rY f1 f2) (aj (iz f1 f2) aQ)) pF) (fA (aj (bD Wc fw (fC (.int 2))) aQ) Iv)) ρ=.ok (.bl (Ci (decide (w < 2)) p q)):=by
 have o:rY f1 f2 ρ=.ok (.bl (p || q)):=by
  unfold rY;rw [h1];cases p
  ·exact h2
  ·rfl
 have a:iz f1 f2 ρ=.ok (.bl (p && q)):=by
  unfold iz;rw [h1];cases p
  ·rfl
  ·exact h2
 have l2:pF [.bl (p || q),.bl (p && q)]=.ok (.lst [.bl (p || q),.bl (p && q)]):=La (by simp)
 refine bC (dR (ao o (ao a aU)) l2) (dR (ao (bC hw cC sG) aU) uw) ?_
 cases decide (w < 2) <;> rfl
theorem Oa {a0 a1 a4 a5:Sl} {d:Dd} {A:KL} {b Ob:Bool}:∀ (C L:KL) (a10 a11 a12:Sl),L.length + C.length < 1000->∃ b10 b11 b12,kj (aP 10) lg (C.map tupK) [a0,a1,.fz (.int d.w),.fz (cI d.O d.ob),a4,a5,.fz (.tup (A.map tupK)),.fz (.bl b),.fz (.bl Ob),.ow (L.map tupK),a10,a11,a12]
  = .nx [a0,a1,.fz (.int d.w),.fz (cI d.O d.ob),a4,a5,.fz (.tup (A.map tupK)),.fz (.bl b),.fz (.bl Ob),.ow ((L++C.filter fun x=>Ci (decide (d.w < 2)) (has A b x) (has d.O d.ob x) != Ob).map tupK),b10,b11,b12]
 | [],L,a10,a11,a12,_=>⟨a10,a11,a12,by simp [kj]⟩
 | x::C,L,a10,a11,a12,hl=>by
  simp only [List.length_cons] at hl
  have t1:(bD Cv (bD gIn (aD 10) (aD 6)) (aD 7)) [a0,a1,.fz (.int d.w),.fz (cI d.O d.ob),a4,a5,.fz (.tup (A.map tupK)),.fz (.bl b),.fz (.bl Ob),.ow (L.map tupK),.fz (tupK x),a11,a12]=.ok (.bl (has A b x)):=bC (bC (aF rfl) (aF rfl) (acF x A)) (aF rfl) (aan _ _)
  have pk:∀ {a:Sl} {p q:Bool},fT (bD Cv (bD dB (fA (aj (rY (aD 11) (aD 12)) (aj (iz (aD 11) (aD 12)) aQ)) pF) (fA (aj (bD Wc (aD 2) (fC (.int 2))) aQ) Iv)) (aD 8)) [a0,a1,.fz (.int d.w),.fz (cI d.O d.ob),a4,a5,.fz (.tup (A.map tupK)),.fz (.bl b),.fz (.bl Ob),.ow (L.map tupK),.fz (tupK x),.fz (.bl p),.fz (.bl q)]=.ok (Ci (decide (d.w < 2)) p q != Ob):=fun {_ p q}=>lu (bC (adA (aF rfl) (aF rfl) (aF rfl)) (aF rfl) (aan _ _))
  have st:lg [a0,a1,.fz (.int d.w),.fz (cI d.O d.ob),a4,a5,.fz (.tup (A.map tupK)),.fz (.bl b),.fz (.bl Ob),.ow (L.map tupK),.fz (tupK x),a11,a12]=.nx [a0,a1,.fz (.int d.w),.fz (cI d.O d.ob),a4,a5,.fz (.tup (A.map tupK)),.fz (.bl b),.fz (.bl Ob),.ow ((L++[x].filter fun x=>Ci (decide (d.w < 2)) (has A b x) (has d.O d.ob x) != Ob).map tupK),.fz (tupK x),.fz (.bl (has A b x)),.fz (.bl (has d.O d.ob x))]:=by
   unfold lg
   refine aV (kI t1) ?_
   refine aV (kI (bC (bC (aF rfl) (bC (aF rfl) cC rfl) (acF x d.O)) (bC (aF rfl) cC rfl) (aan _ _))) ?_
   cases c:(Ci (decide (d.w < 2)) (has A b x) (has d.O d.ob x) != Ob) with
   | true =>
    refine eZ ((pk (a:=a0)).trans (congrArg Rs.ok c)) ?_
    rw [List.filter_cons_of_pos (by exact c),List.filter_nil,List.map_append]
    exact Kf rfl (aF rfl) (by rw [List.length_map];omega)
   | false =>
    refine cR ((pk (a:=a0)).trans (congrArg Rs.ok c)) ?_
    rw [List.filter_cons_of_neg (by rw [c];simp),List.filter_nil,List.append_nil]
    rfl
  have hf:([x].filter fun x=>Ci (decide (d.w < 2)) (has A b x) (has d.O d.ob x) != Ob).length<=1:=by
   have:=List.length_filter_le (fun x=>Ci (decide (d.w < 2)) (has A b x) (has d.O d.ob x) != Ob) [x];simpa using this
  obtain ⟨b10,b11,b12,e2⟩:=Oa (a0:=a0) (a1:=a1) (a4:=a4) (a5:=a5) (d:=d) (A:=A) (b:=b) (Ob:=Ob) C (L++[x].filter fun x=>Ci (decide (d.w < 2)) (has A b x) (has d.O d.ob x) != Ob) (.fz (tupK x)) (.fz (.bl (has A b x))) (.fz (.bl (has d.O d.ob x))) (by rw [List.length_append];omega)
  refine ⟨b10,b11,b12,?_⟩
  simp only [List.map_cons,kj,aP,List.set_cons_succ,List.set_cons_zero,st]
  rw [e2,List.append_assoc,<- List.filter_append]
  rfl
theorem aar {aC:KL} (hl:aC.length < 1000) (hne:∀ ks∈aC,ks≠[]):wL [.lst (aC.map tupK)]=.ok (.lst ((So.cu aC).map tupK)):=by
 simp only [wL,rN]
 rw [if_pos ⟨hne,hl⟩]
theorem ahI {d:Dd} (g:DG d) {A:KL} {b:Bool} (hA:Sh A) (l60:A.length<=60):jY [cI A b,dD d]=.ok (cI (nx d A b).1 (nx d A b).2):=by
 have lO:=g.l4
 have st:bB ["shape","deed","way","other","step","turn","cells","rest","behind","found","cell","first","second"] [cI A b,dD d]=[.fz (cI A b),.fz (dD d),.no,.no,.no,.no,.no,.no,.no,.no,.no,.no,.no]:=rfl
 have run:nJ [.fz (cI A b),.fz (dD d),.no,.no,.no,.no,.no,.no,.no,.no,.no,.no,.no]=.rt (cI (nx d A b).1 (nx d A b).2):=by
  unfold nJ
  refine aV (ρ1:=[.fz (cI A b),.fz (dD d),.fz (.int d.w),.fz (cI d.O d.ob),.fz (tupK [d.r,d.c]),.fz (.int d.t),.no,.no,.no,.no,.no,.no,.no]) (mz (aF rfl) rfl) ?_
  refine aV (ρ1:=[.fz (cI A b),.fz (dD d),.fz (.int d.w),.fz (cI d.O d.ob),.fz (tupK [d.r,d.c]),.fz (.int d.t),.fz (.tup (A.map tupK)),.fz (.bl b),.no,.no,.no,.no,.no]) (mz (aF rfl) rfl) ?_
  unfold nx
  by_cases h3:d.w=3
  ·rw [if_neg (by omega),if_neg (by omega),if_pos h3]
   exact gM (eZ (lu (bC (aF rfl) cC (tV h3))) (dJ (dR (ao (aF rfl) (ao (by cases b <;> rfl) aU)) (t2 _ _))))
  refine aV (cR (lu (bC (aF rfl) cC (tU h3))) lC) ?_
  by_cases h4:d.w=4
  ·rw [if_neg (by omega),if_neg (by omega),if_neg h3,if_pos h4]
   have cp:eV (aP 0) (fun _=>.ok true) qy (A.map tupK) [.no,.fz (tupK [d.r,d.c])]=.ok (A.map fun ks=>tupK (Qu d.r d.c ks)) :=
    iQ (fun ρ=>∃ a,ρ=[a,.fz (tupK [d.r,d.c])]) tupK _ ⟨_,rfl⟩ (by
     rintro ks hk ρ ⟨a,rfl⟩
     obtain ⟨x,y,rfl⟩:=hA.pr ks hk
     exact ⟨_,rfl,rfl,_,rfl⟩)
   have cv:=wk (h:=aP 0) (ft:=fun _=>.ok true) (fe:=qy) (nt:=1) (caps:=[4]) (fi:=fL (aD 6) Wa) (ρ:=[.fz (cI A b),.fz (dD d),.fz (.int d.w),.fz (cI d.O d.ob),.fz (tupK [d.r,d.c]),.fz (.int d.t),.fz (.tup (A.map tupK)),.fz (.bl b),.no,.no,.no,.no,.no]) (ds:=A.map tupK) rfl cp (by rw [List.length_map];omega)
   rw [show (A.map fun ks=>tupK (Qu d.r d.c ks))=(A.map (Qu d.r d.c)).map tupK by rw [List.map_map];rfl] at cv
   exact gM (eZ (lu (bC (aF rfl) cC (tV h4))) (dJ (dR (ao (dR (ao cv aU) rfl) (ao (aF rfl) aU)) (t2 _ _))))
  refine aV (cR (lu (bC (aF rfl) cC (tU h4))) lC) ?_
  by_cases h5:d.w=5
  ·rw [if_neg (by omega),if_neg (by omega),if_neg h3,if_neg h4]
   have cp:eV (aP 0) (fun _=>.ok true) qC (A.map tupK) [.no,.fz (.int d.t)]=.ok (A.map fun ks=>tupK (bW d.t ks)) :=
    iQ (fun ρ=>∃ a,ρ=[a,.fz (.int d.t)]) tupK _ ⟨_,rfl⟩ (by
     rintro ks hk ρ ⟨a,rfl⟩
     obtain ⟨x,y,rfl⟩:=hA.pr ks hk
     exact ⟨_,rfl,dR (ao (aF rfl) (ao (aF rfl) aU)) (cj rfl (Sd g.t0 g.t7)),_,rfl⟩)
   have cv:=wk (h:=aP 0) (ft:=fun _=>.ok true) (fe:=qC) (nt:=1) (caps:=[5]) (fi:=fL (aD 6) Wa) (ρ:=[.fz (cI A b),.fz (dD d),.fz (.int d.w),.fz (cI d.O d.ob),.fz (tupK [d.r,d.c]),.fz (.int d.t),.fz (.tup (A.map tupK)),.fz (.bl b),.no,.no,.no,.no,.no]) (ds:=A.map tupK) rfl cp (by rw [List.length_map];omega)
   rw [show (A.map fun ks=>tupK (bW d.t ks))=(A.map (bW d.t)).map tupK by rw [List.map_map];rfl] at cv
   have sl:=aar (aC:=A.map (bW d.t)) (by rw [List.length_map];omega) fun ks hk=>by obtain ⟨k,_,rfl⟩:=List.mem_map.mp hk;exact (jZ d.t k).ne
   exact gM (eZ (lu (bC (aF rfl) cC (tV h5))) (dJ (dR (ao (dR (ao (dR (ao cv aU) sl) aU) rfl) (ao (aF rfl) aU)) (t2 _ _))))
  refine aV (cR (lu (bC (aF rfl) cC (tU h5))) lC) ?_
  have w5:=g.w5
  have w0:=g.w0
  have lr:=zY (A++d.O)
  rw [List.length_append] at lr
  have pr:∀ x∈A++d.O,x≠[]:=fun x hx=>(List.mem_append.mp hx).elim (fun h=>(hA.pr x h).ne) fun h=>(g.sO.pr x h).ne
  obtain ⟨b10,b11,b12,lp⟩:=Oa (a0:=.fz (cI A b)) (a1:=.fz (dD d)) (a4:=.fz (tupK [d.r,d.c])) (a5:=.fz (.int d.t)) (d:=d) (A:=A) (b:=b) (Ob:=Ci (decide (d.w < 2)) b d.ob) (rise (A++d.O)) [] .no .no .no (by simp;omega)
  rw [List.nil_append] at lp
  refine aV (kI (adA (aF rfl) (bC (aF rfl) cC rfl) (aF rfl))) ?_
  refine aV (ρ1:=[.fz (cI A b),.fz (dD d),.fz (.int d.w),.fz (cI d.O d.ob),.fz (tupK [d.r,d.c]),.fz (.int d.t),.fz (.tup (A.map tupK)),.fz (.bl b),.fz (.bl (Ci (decide (d.w < 2)) b d.ob)),.ow [],.no,.no,.no]) rfl ?_
  refine aV (Ra (Ox (aco (bC (aF rfl) (bC (aF rfl) cC rfl) (ahH (by omega))) (by rw [List.length_append];omega) pr) lp)) (RZ ?_)
  have fin2:.tup [.tup ((jn (decide (d.w < 2)) A b d.O d.ob).map tupK),.bl (Ci (decide (d.w < 2)) b d.ob)]=cI (nx d A b).1 (nx d A b).2:=by
   unfold nx
   by_cases h1:d.w < 2
   ·rw [if_pos h1,decide_eq_true h1];rfl
   ·rw [if_neg h1,if_pos (by omega),decide_eq_false h1];rfl
  unfold nx at fin2
  rw [<- fin2]
  exact dJ (dR (ao (dR (ao (aF rfl) aU) rfl) (ao (aF rfl) aU)) (t2 _ _))
 unfold jY;rw [st,run];rfl
end Wf
namespace Wf
open PySem PySem.Spec PySem.Calls PySem.W L2 Vl
theorem ahJ {d:Dd} (g:DG d) {A:KL} {b:Bool} (hA:Sh A) (l60:A.length<=60) (h:(nx d A b).1.length<=60):Sh (nx d A b).1:=by
 refine ⟨?_,?_,?_,by omega⟩
 ·unfold nx
  repeat' split
  ·exact ady hA g.sO
  ·exact ady hA g.sO
  ·exact hA.pr
  ·intro x hx;obtain ⟨k,_,rfl⟩:=List.mem_map.mp hx;exact ⟨_,_,rfl⟩
  ·exact NK d.t A
 ·unfold nx
  repeat' split
  ·exact NZ
  ·exact NZ
  ·exact hA.nd
  ·exact ahF hA.pr hA.nd
  ·exact VJ g.t0 g.t7 hA.pr hA.nd
 ·unfold nx
  repeat' split
  ·exact NT
  ·exact NT
  ·exact hA.pw
  ·show (A.map (Qu d.r d.c)).Pairwise So.Ri
   rw [List.pairwise_map]
   refine List.Pairwise.imp_of_mem (fun {a b} ha hb h=>?_) hA.pw
   unfold So.Ri at h ⊢
   rw [afB (hA.pr b hb) (hA.pr a ha)];exact h
  ·exact So.mC _
noncomputable def miK (r c:Int) (x:List Int):List Int:=[x.getD 0 0 - r,x.getD 1 0 - c]
noncomputable def aq:List Dd->List Int->Bool
 | [],_=>false
 | d::ds,x=>if d.w=3 then !aq ds x else if d.w=4 then aq ds (miK d.r d.c x) else if d.w=5 then aq ds (bW (rC d.t) x) else if d.w < 2 then has d.O d.ob x && aq ds x else has d.O d.ob x || aq ds x
theorem aas {met b ob:Bool} {A O:KL} {x:List Int}:has (jn met A b O ob) (Ci met b ob) x=Ci met (has A b x) (has O ob x):=by
 have e:decide (x∈jn met A b O ob)=(decide (x∈A∨x∈O) && (Ci met (has A b x) (has O ob x) != Ci met b ob)):=by
  rw [Bool.eq_iff_iff,decide_eq_true_iff,Ca,Bool.and_eq_true,decide_eq_true_iff]
 unfold has at e ⊢
 rw [e]
 unfold Ci
 by_cases h1:x∈A <;> by_cases h2:x∈O <;> cases met <;> cases b <;> cases ob <;> simp [h1,h2]
theorem afG {A:KL} (hA:∀ x∈A,Pair x) {r c:Int} {x:List Int} (hx:Pair x):x∈A.map (Qu r c)↔miK r c x∈A:=by
 obtain ⟨u,v,rfl⟩:=hx
 rw [List.mem_map]
 constructor
 ·rintro ⟨y,hy,e⟩
  obtain ⟨p,q,rfl⟩:=hA y hy
  simp only [Qu,List.getD_cons_zero,List.getD_cons_succ,List.cons.injEq,and_true] at e
  have:miK r c [u,v]=[p,q]:=by simp only [miK,List.getD_cons_zero,List.getD_cons_succ,List.cons.injEq,and_true];omega
  rw [this];exact hy
 ·intro h
  refine ⟨_,h,?_⟩
  simp only [Qu,miK,List.getD_cons_zero,List.getD_cons_succ,List.cons.injEq,and_true];omega
theorem acI {t:Int} (h0:0<=t) (h7:t<=7) {x:List Int} (hx:Pair x):bW t (bW (rC t) x)=x:=by
 obtain ⟨b0,b7,_⟩:=BW h0 h7
 rw [Nz b0 b7 h0 h7]
 have:onT (rC t) t=0:=by rcases xY h0 h7 with rfl|rfl|rfl|rfl|rfl|rfl|rfl|rfl <;> decide
 rw [this,BX hx]
theorem aat {A:KL} (hA:∀ x∈A,Pair x) {t:Int} (h0:0<=t) (h7:t<=7) {x:List Int} (hx:Pair x):x∈turned t A↔bW (rC t) x∈A:=by
 unfold turned
 rw [rQ,List.mem_map]
 constructor
 ·rintro ⟨y,hy,rfl⟩
  rw [uI h0 h7 (hA y hy)];exact hy
 ·intro h
  exact ⟨_,h,acI h0 h7 hx⟩
theorem afH {d:Dd} (g:DG d) {A:KL} {b:Bool} (hA:Sh A) {x:List Int} (hx:Pair x) {L:List Dd} (ih:∀ y,Pair y->has A b y=aq L y):has (nx d A b).1 (nx d A b).2 x=aq (d::L) x:=by
 have w0:=g.w0
 have w5:=g.w5
 unfold nx aq
 by_cases h1:d.w < 2
 ·rw [if_pos h1,if_neg (by omega),if_neg (by omega),if_neg (by omega),if_pos h1,<- ih x hx]
  have:=aas (met:=true) (b:=b) (ob:=d.ob) (A:=A) (O:=d.O) (x:=x)
  exact this.trans (Bool.and_comm _ _)
 rw [if_neg h1]
 by_cases h2:d.w=2
 ·rw [if_pos h2,if_neg (by omega),if_neg (by omega),if_neg (by omega),if_neg h1,<- ih x hx]
  have:=aas (met:=false) (b:=b) (ob:=d.ob) (A:=A) (O:=d.O) (x:=x)
  exact this.trans (Bool.or_comm _ _)
 rw [if_neg h2]
 by_cases h3:d.w=3
 ·rw [if_pos h3,if_pos h3,<- ih x hx]
  show has A (!b) x=!has A b x
  unfold has
  cases decide (x∈A) <;> cases b <;> rfl
 rw [if_neg h3,if_neg h3]
 by_cases h4:d.w=4
 ·rw [if_pos h4,if_pos h4,<- ih (miK d.r d.c x) ⟨_,_,rfl⟩]
  show has (A.map (Qu d.r d.c)) b x=_
  unfold has
  rw [decide_eq_decide.mpr (afG hA.pr hx)]
 ·rw [if_neg h4,if_neg h4,if_pos (by omega),<- ih (bW (rC d.t) x) (jZ _ _)]
  show has (turned d.t A) b x=_
  unfold has
  rw [decide_eq_decide.mpr (aat hA.pr g.t0 g.t7 hx)]
theorem acJ {fa fb:aJ->Rs D} {ρ:aJ} {c d:Bool} (h1:fa ρ=.ok (.bl c)) (h2:fb ρ=.ok (.bl d)):rY fa fb ρ=.ok (.bl (c || d)):=by
 unfold rY;rw [h1];cases c
 ·exact h2
 ·rfl
theorem aau {fa fb:aJ->Rs D} {ρ:aJ} {c d:Bool} (h1:fa ρ=.ok (.bl c)) (h2:fb ρ=.ok (.bl d)):iz fa fb ρ=.ok (.bl (c && d)):=by
 unfold iz;rw [h1];cases c
 ·rfl
 ·exact h2
theorem Sg {L:List Dd} (gL:∀ d∈L,DG d):∀ (k n:Nat) (x:List Int),k<=L.length->k < n->Pair x->cH n [tupK x,.lst (L.map dD),.int k]=.ok (.bl (aq (L.take k).reverse x))
 | 0,n,x,_,hn,_=>by
  obtain ⟨n,rfl⟩:∃ m,n=m + 1:=⟨n - 1,by omega⟩
  have run:eE (cH n) (bB ["spot","deeds","many","way","other","step","turn","back","second"] [tupK x,.lst (L.map dD),.int ((0:Nat):Int)])=.rt (.bl false):=by
   unfold eE
   exact gM (eZ (lu (bC (aF rfl) cC (tV rfl))) (dJ cC))
  simp only [cH]
  rw [run];rfl
 | k + 1,n,x,hk,hn,hx=>by
  obtain ⟨n,rfl⟩:∃ m,n=m + 1:=⟨n - 1,by omega⟩
  have ih:=fun y hy=>Sg gL k n y (by omega) (by omega) hy
  have hlt:k < L.length:=by omega
  have et:(L.take (k + 1)).reverse=L[k]::(L.take k).reverse:=by
   rw [List.take_succ,List.getElem?_eq_getElem hlt]
   simp
  have g:=gL L[k] (List.getElem_mem hlt)
  have ix:dB (.lst (L.map dD)) (.int (((k + 1:Nat):Int) - 1))=.ok (dD L[k]):=aha (by
   unfold Fb ixN
   rw [if_pos (by omega),if_pos (by rw [List.length_map];omega)]
   have:(((k + 1:Nat):Int) - 1).toNat=k:=by omega
   rw [this]
   simp [List.getElem?_eq_getElem hlt])
  have ek:pD (.int ((k + 1:Nat):Int)) (.int 1)=.ok (.int (k:Int)):=by rw [pA];congr 2;omega
  generalize L[k]=d at et g ix
  have w0:=g.w0
  have w5:=g.w5
  obtain ⟨u,v,rfl⟩:=hx
  have run:eE (cH n) (bB ["spot","deeds","many","way","other","step","turn","back","second"] [tupK [u,v],.lst (L.map dD),.int ((k + 1:Nat):Int)])=.rt (.bl (aq (L.take (k + 1)).reverse [u,v])):=by
   rw [et]
   unfold eE aq
   refine aV (ρ1:=[.fz (tupK [u,v]),.fz (.lst (L.map dD)),.fz (.int ((k + 1:Nat):Int)),.no,.no,.no,.no,.no,.no]) (cR (lu (bC (aF rfl) cC (tU (by omega)))) lC) ?_
   refine aV (ρ1:=[.fz (tupK [u,v]),.fz (.lst (L.map dD)),.fz (.int ((k + 1:Nat):Int)),.fz (.int d.w),.fz (cI d.O d.ob),.fz (tupK [d.r,d.c]),.fz (.int d.t),.no,.no]) (mz (bC (aF rfl) (bC (aF rfl) cC pA) ix) rfl) ?_
   by_cases h3:d.w=3
   ·rw [if_pos h3]
    have e:=ih [u,v] ⟨u,v,rfl⟩
    refine gM (eZ (lu (bC (aF rfl) cC (tV h3))) (dJ ?_))
    have f:(fA (aj (aD 0) (aj (aD 1) (aj (bD Vl.pD (aD 2) (fC (.int 1))) aQ))) (bK 3 (cH n))) [.fz (tupK [u,v]),.fz (.lst (L.map dD)),.fz (.int ((k + 1:Nat):Int)),.fz (.int d.w),.fz (cI d.O d.ob),.fz (tupK [d.r,d.c]),.fz (.int d.t),.no,.no]=.ok (.bl (aq (L.take k).reverse [u,v])):=dR (ao (aF rfl) (ao (aF rfl) (ao (bC (aF rfl) cC ek) aU))) (cj rfl e)
    unfold pq;rw [f];rfl
   rw [if_neg h3]
   refine aV (cR (lu (bC (aF rfl) cC (tU h3))) lC) ?_
   by_cases h4:d.w=4
   ·rw [if_pos h4]
    have e:=ih (miK d.r d.c [u,v]) ⟨_,_,rfl⟩
    refine gM (eZ (lu (bC (aF rfl) cC (tV h4))) (dJ ?_))
    exact dR (ao (dR (ao (bC (bC (aF rfl) cC rfl) (bC (aF rfl) cC rfl) pA) (ao (bC (bC (aF rfl) cC rfl) (bC (aF rfl) cC rfl) pA) aU)) (t2 _ _)) (ao (aF rfl) (ao (bC (aF rfl) cC ek) aU))) (cj rfl e)
   rw [if_neg h4]
   refine aV (cR (lu (bC (aF rfl) cC (tU h4))) lC) ?_
   by_cases h5:d.w=5
   ·rw [if_pos h5]
    obtain ⟨b0,b7,_⟩:=BW g.t0 g.t7
    have e:=ih (bW (rC d.t) [u,v]) (jZ _ _)
    have l8:∀ a b c d e f g h:D,pF [a,b,c,d,e,f,g,h]=.ok (.lst [a,b,c,d,e,f,g,h]):=fun _ _ _ _ _ _ _ _=>La (by simp)
    have ib:dB (.lst [.int 0,.int 3,.int 2,.int 1,.int 4,.int 5,.int 6,.int 7]) (.int d.t)=.ok (.int (rC d.t)):=by
     rcases xY g.t0 g.t7 with h|h|h|h|h|h|h|h <;> rw [h] <;> rfl
    refine gM (eZ (lu (bC (aF rfl) cC (tV h5))) ?_)
    refine aV (kI (bC (dR (ao cC (ao cC (ao cC (ao cC (ao cC (ao cC (ao cC (ao cC aU)))))))) (l8 _ _ _ _ _ _ _ _)) (aF rfl) ib)) (dJ ?_)
    exact dR (ao (dR (ao (aF rfl) (ao (aF rfl) aU)) (cj rfl (Sd b0 b7))) (ao (aF rfl) (ao (bC (aF rfl) cC ek) aU))) (cj rfl e)
   rw [if_neg h5]
   refine aV (cR (lu (bC (aF rfl) cC (tU h5))) lC) ?_
   have e:=ih [u,v] ⟨u,v,rfl⟩
   refine aV (kI (bC (bC (aF rfl) (bC (aF rfl) cC rfl) (acF [u,v] d.O)) (bC (aF rfl) cC rfl) (aan _ _))) ?_
   by_cases h1:d.w < 2
   ·rw [if_pos h1]
    refine gM (eZ (lu (bC (aF rfl) cC (by rw [sG,decide_eq_true h1]))) (dJ ?_))
    exact aau (aF rfl) (dR (ao (aF rfl) (ao (aF rfl) (ao (bC (aF rfl) cC ek) aU))) (cj rfl e))
   ·rw [if_neg h1]
    refine aV (cR (lu (bC (aF rfl) cC (by rw [sG,decide_eq_false h1]))) lC) (dJ ?_)
    exact acJ (aF rfl) (dR (ao (aF rfl) (ao (aF rfl) (ao (bC (aF rfl) cC ek) aU))) (cj rfl e))
  simp only [cH]
  rw [run];rfl
noncomputable abbrev kp (p:KL×Bool):D:=.tup [cI p.1 p.2,cI p.1 p.2]
structure St7 (A:KL) (b:Bool) (L:List Dd) (Kp:List (KL×Bool)):Prop where
 sh:Sh A
 l60:A.length<=60
 gL:∀ d∈L,DG d
 lL:L.length<=63
 lK:Kp.length=L.length
 sem:∀ x,Pair x->has A b x=aq L.reverse x
noncomputable def R7 (ns:List Int) (ρ:aJ):Prop:=∃ (A:KL) (b:Bool) (L:List Dd) (Kp:List (KL×Bool)) (a4 a5 a6 a7 a8:Sl),St7 A b L Kp/\ρ=[.fz (.lst (ns.map D.int)),.fz (cI A b),.ow (L.map dD),.ow (Kp.map kp),a4,a5,a6,a7,a8]
theorem acK {ns:List Int} (x:Int) (ρ:aJ) (h:R7 ns ρ):∃ ρ1 ρ',aP 4 (.int x) ρ=some ρ1/\vJ ρ1=.nx ρ'/\R7 ns ρ':=by
 obtain ⟨A,b,L,Kp,a4,a5,a6,a7,a8,S,rfl⟩:=h
 obtain ⟨d,hd,g⟩:=afD x
 have acL:=ahI (b:=b) g S.sh S.l60
 have hdone:=afE (b:=b) g S.sh S.l60
 have lK:=S.lK
 have lL:=S.lL
 have l2:yW [.tup ((nx d A b).1.map tupK)]=.ok (.int (nx d A b).1.length):=by rw [uq,List.length_map]
 have nsh:=ahJ (b:=b) g S.sh S.l60
 have afI:=fun x hx=>afH (b:=b) g S.sh (x:=x) hx S.sem
 generalize e1:(nx d A b).1=A' at acL hdone l2 nsh afI
 generalize e2:(nx d A b).2=b' at acL hdone afI
 have i0':dB (cI A' b') (.int 0)=.ok (.tup (A'.map tupK)):=rfl
 have i1':dB (cI A' b') (.int 1)=.ok (.bl b'):=rfl
 by_cases c:A'.length < 61/\L.length < 63
 ·obtain ⟨c1,c2⟩:=c
  have hs':=nsh (by omega)
  have his:cU [cI A' b',cI A' b']=.ok (.bl true):=Qw hs'.pr (by omega)
  refine ⟨_,[.fz (.lst (ns.map D.int)),.fz (cI A' b'),.ow ((L++[d]).map dD),.ow ((Kp++[(A',b')]).map kp),.fz (.int x),.fz (dD d),.fz (cI A' b'),.fz (cI A' b'),a8],rfl,?_,A',b',L++[d],Kp++[(A',b')],_,_,_,_,_,⟨hs',by omega,fun q hq=>?_,by simp;omega,by simp [lK],fun y hy=>?_⟩,rfl⟩
  ·unfold vJ
   refine aV (kI (dR (ao (aF rfl) aU) (cj rfl hd))) ?_
   refine aV (kI (dR (ao (aF rfl) (ao (aF rfl) aU)) (cj rfl acL))) ?_
   refine eZ (yu (lu (bC (dR (ao (bC (aF rfl) cC i0') aU) l2) cC (by rw [sG,decide_eq_true (by omega)]))) (lu (bC (Rz rfl) cC (by rw [sG,decide_eq_true (by rw [List.length_map];omega)])))) ?_
   refine aV (kI (dR (ao (aF rfl) (ao (aF rfl) aU)) (cj rfl hdone))) ?_
   refine aV (cR (agY (t:=true) (lu (dR (ao (aF rfl) (ao (aF rfl) aU)) (cj rfl his)))) lC) ?_
   rw [List.map_append,List.map_append]
   refine aV (Kf (ds:=Kp.map kp) (d:=kp (A',b')) rfl (dR (ao (aF rfl) (ao (dR (ao (dR (ao (dR (ao (bC (aF rfl) cC i0') aU) qm) aU) ur) (ao (bC (aF rfl) cC i1') aU)) (t2 _ _)) aU)) (t2 _ _)) (by rw [List.length_map];omega)) ?_
   refine aV (Kf (ds:=L.map dD) (d:=dD d) rfl (aF rfl) (by rw [List.length_map];omega)) ?_
   exact kI (aF rfl)
  ·rcases List.mem_append.mp hq with hq|hq
   ·exact S.gL q hq
   ·rw [List.mem_singleton.mp hq];exact g
  ·rw [List.reverse_append]
   exact afI y hy
 ·refine ⟨_,[.fz (.lst (ns.map D.int)),.fz (cI A b),.ow (L.map dD),.ow (Kp.map kp),.fz (.int x),.fz (dD d),.fz (cI A' b'),a7,a8],rfl,?_,A,b,L,Kp,_,_,_,_,_,S,rfl⟩
  unfold vJ
  refine aV (kI (dR (ao (aF rfl) aU) (cj rfl hd))) ?_
  refine aV (kI (dR (ao (aF rfl) (ao (aF rfl) aU)) (cj rfl acL))) ?_
  refine cR ?_ lC
  by_cases c1:A'.length < 61
  ·refine yu (lu (bC (dR (ao (bC (aF rfl) cC i0') aU) l2) cC (by rw [sG,decide_eq_true (by omega)]))) ?_
   exact lu (bC (Rz rfl) cC (by rw [sG,decide_eq_false (by rw [List.length_map];omega)]))
  ·exact Hv (lu (bC (dR (ao (bC (aF rfl) cC i0') aU) l2) cC (by rw [sG,decide_eq_false (by omega)])))
theorem Gz {a0 a1 a2 a3 a4 a5 a8:Sl}:∀ (Kp:List (KL×Bool)) (a6 a7:Sl),∃ b6 b7,kj (jj 2 (bT (aP 7) (bT (aP 6) jC))) yE (Kp.map kp) [a0,a1,a2,a3,a4,a5,a6,a7,a8]=.nx [a0,a1,a2,a3,a4,a5,b6,b7,a8]
 | [],a6,a7=>⟨a6,a7,rfl⟩
 | p::Kp,a6,a7=>by
  obtain ⟨b6,b7,e⟩:=Gz (a0:=a0) (a1:=a1) (a2:=a2) (a3:=a3) (a4:=a4) (a5:=a5) (a8:=a8) Kp (.fz (cI p.1 p.2)) (.fz (cI p.1 p.2))
  refine ⟨b6,b7,?_⟩
  have hh:jj 2 (bT (aP 7) (bT (aP 6) jC)) (kp p) [a0,a1,a2,a3,a4,a5,a6,a7,a8]=some [a0,a1,a2,a3,a4,a5,.fz (cI p.1 p.2),.fz (cI p.1 p.2),a8]:=rfl
  have st:yE [a0,a1,a2,a3,a4,a5,.fz (cI p.1 p.2),.fz (cI p.1 p.2),a8]=.nx [a0,a1,a2,a3,a4,a5,.fz (cI p.1 p.2),.fz (cI p.1 p.2),a8]:=by
   unfold yE
   exact cR (lu (bC (aF rfl) (aF rfl) (Fp (RG _ _) rfl))) lC
  simp only [List.map_cons,kj,hh,st]
  exact e
theorem ahK {A:KL} {b:Bool} {x:List Int}:Nf [cI A b,tupK x]=.ok (.bl (has A b x)):=by
 have run:RK (bB ["shape","cell"] [cI A b,tupK x])=.rt (.bl (has A b x)):=by
  unfold RK
  exact dJ (bC (bC (aF rfl) (bC (aF rfl) cC rfl) (acF x A)) (bC (aF rfl) cC rfl) (aan _ _))
 unfold Nf;rw [run];rfl
theorem aav (ns:List Int) (_:ns.length<=63):RN [.lst (ns.map D.int)]=.ok (.bl true):=by
 have e:bB ["script","shape","deeds","kept","cell","deed","due","found","spots"] [.lst (ns.map D.int)]=[.fz (.lst (ns.map D.int)),.no,.no,.no,.no,.no,.no,.no,.no]:=rfl
 obtain ⟨ρ',e1,A,b,L,Kp,a4,a5,a6,a7,a8,S,rfl⟩:=zp (h:=aP 4) (g:=vJ) (R7 ns) (ds:=ns.map D.int) (ρ:=[.fz (.lst (ns.map D.int)),.fz (cI [] false),.ow [],.ow [],.no,.no,.no,.no,.no])
  ⟨[],false,[],[],_,_,_,_,_,⟨⟨fun _ h=>(by cases h),List.nodup_nil,.nil,by simp⟩,by simp,fun _ h=>(by cases h),by simp,rfl,fun x _=>by simp [has,aq]⟩,rfl⟩ (by
  intro d hd ρ p
  obtain ⟨x,_,rfl⟩:=List.mem_map.mp hd
  exact acK x ρ p)
 obtain ⟨b6,b7,e2⟩:=Gz (a0:=.fz (.lst (ns.map D.int))) (a1:=.fz (cI A b)) (a2:=.ow (L.map dD)) (a3:=.fz (.lst (Kp.map kp))) (a4:=a4) (a5:=a5) (a8:=a8) Kp a6 a7
 obtain ⟨T,eT,pT,lT⟩:∃ T:KL,yV (A.map tupK) none (some 18)++[tupK [0,0],tupK [1,-1]]=T.map tupK/\(∀ x∈T,Pair x)/\T.length<=1000:=by
  unfold yV
  refine ⟨(A.drop _).take _++[[0,0],[1,-1]],by rw [List.map_append,List.map_take,List.map_drop];rfl,fun x hx=>?_,?_⟩
  ·rcases List.mem_append.mp hx with hx|hx
   ·exact S.sh.pr x (List.mem_of_mem_drop (List.mem_of_mem_take hx))
   ·rcases List.mem_cons.mp hx with rfl|hx
    ·exact ⟨_,_,rfl⟩
    ·rw [List.mem_singleton.mp hx];exact ⟨_,_,rfl⟩
  ·rw [List.length_append,List.length_take,List.length_drop]
   have:=S.l60
   simp only [List.length_cons,List.length_nil];omega
 have sl:aci (bD dB (aD 1) (fC (.int 0))) Cr (fP (fC (.int 18))) [.fz (.lst (ns.map D.int)),.fz (cI A b),.ow (L.map dD),.fz (.lst (Kp.map kp)),a4,a5,b6,b7,a8]=.ok (.tup (yV (A.map tupK) none (some 18))):=rfl
 have l2:∀ a b:D,pF [a,b]=.ok (.lst [a,b]):=fun a b=>La (by simp)
 have lc:(yV (A.map tupK) none (some 18)).length<=60:=by
  unfold yV
  rw [List.length_take,List.length_drop,List.length_map]
  have:=S.l60
  omega
 have spots:(bD iB (fA (aj (aci (bD dB (aD 1) (fC (.int 0))) Cr (fP (fC (.int 18)))) aQ) ql) (fA (aj (fA (aj (fC (.int 0)) (aj (fC (.int 0)) aQ)) dI) (aj (fA (aj (fC (.int 1)) (aj (wj (fC (.int 1))) aQ)) dI) aQ)) pF)) [.fz (.lst (ns.map D.int)),.fz (cI A b),.ow (L.map dD),.fz (.lst (Kp.map kp)),a4,a5,b6,b7,a8]=.ok (.lst (T.map tupK)):=by
  rw [<- eT]
  exact bC (dR (ao sl aU) qm) (dR (ao (dR (ao cC (ao cC aU)) (t2 _ _)) (ao (dR (ao cC (ao (agX cC) aU)) (t2 _ _)) aU)) (l2 _ _)) (Tz (by show _ + 2<=_;omega))
 have lL:=S.lL
 have cp:eV (aP 0) (fun _=>.ok true) RL (T.map tupK) [.no,.fz (cI A b),.fz (.lst (L.map dD))]=.ok (T.map fun _=>.bl true) :=
  iQ (fun ρ=>∃ a,ρ=[a,.fz (cI A b),.fz (.lst (L.map dD))]) tupK (fun _=>.bl true) ⟨_,rfl⟩ (by
   rintro ks hk ρ ⟨a,rfl⟩
   have ha:=Sg S.gL L.length 65 ks (Nat.le_refl _) (by omega) (pT ks hk)
   rw [List.take_length,<- S.sem ks (pT ks hk)] at ha
   have ln:yW [.lst (L.map dD)]=.ok (.int (L.length:Nat)):=by rw [uo,List.length_map]
   have eq:yZ (.bl (has A b ks)) (.bl (has A b ks))=.ok (.bl true):=by rw [ajB];simp
   exact ⟨_,rfl,bC (dR (ao (aF rfl) (ao (aF rfl) aU)) (cj rfl ahK)) (dR (ao (aF rfl) (ao (aF rfl) (ao (dR (ao (aF rfl) aU) ln) aU))) (cj rfl ha)) eq,_,rfl⟩)
 have run:RM [.fz (.lst (ns.map D.int)),.no,.no,.no,.no,.no,.no,.no,.no]=.rt (.bl true):=by
  unfold RM
  refine aV (ρ1:=[.fz (.lst (ns.map D.int)),.fz (cI [] false),.no,.no,.no,.no,.no,.no,.no]) (kI (dR (ao (dR aU (KZ (by simp))) (ao cC aU)) (t2 _ _))) ?_
  refine aV (ρ1:=[.fz (.lst (ns.map D.int)),.fz (cI [] false),.ow [],.no,.no,.no,.no,.no,.no]) rfl ?_
  refine aV (ρ1:=[.fz (.lst (ns.map D.int)),.fz (cI [] false),.ow [],.ow [],.no,.no,.no,.no,.no]) rfl ?_
  refine aV (Ra (Ox (aF rfl) e1)) (RZ ?_)
  refine aV (ρ1:=[.fz (.lst (ns.map D.int)),.fz (cI A b),.ow (L.map dD),.fz (.lst (Kp.map kp)),a4,a5,b6,b7,a8]) (Ra (Ox (ds:=Kp.map kp) (aF rfl) e2)) ?_
  refine aV (ρ1:=[.fz (.lst (ns.map D.int)),.fz (cI A b),.ow (L.map dD),.fz (.lst (Kp.map kp)),a4,a5,b6,b7,.fz (.lst (T.map tupK))]) (kI spots) (RZ ?_)
  refine dJ (dR (ao (wk (ds:=T.map tupK) rfl cp (by rw [List.length_map];omega)) aU) (zZ T))
 unfold RN;rw [e,run];rfl
end Wf
open PySem PySem.W PyProof.Rows
set_option maxRecDepth 100000 in
set_option maxHeartbeats 0 in
theorem PySem.Challenge.cw_edgemoss_k07_whole_shapes_as_sets_holds : PySem.Challenge.rw_edgemoss_k07_whole_shapes_as_sets.Holds := by
 w_on;o_law;k_head;(case hw=>w_witness2)
 k_fill
 refine Vl.aeN (l:=PySem.Challenge.rw_edgemoss_k07_whole_shapes_as_sets) (k:=68) (v:=Wf.RN) rfl rfl ⟨rfl,by decide,by decide⟩ (fun w h Y=>PySem.W.kIn_of Y) ?V ?F
 case V=>exact Wf.aav
 case F =>
  intro w mg fa h KX G hmg
  refine' Wf.all_mk KX G hmg ?iR ?mL ?nU ?nW ?nY ?nZ ?Bp ?Bq ?Br ?Bs ?ZG ?ZJ ?ZK ?ZL ?Qm ?Qn ?Qo ?Qp ?xP ?xQ ?xR ?xT ?Bt ?Bu ?Bv ?Bw ?JQ ?JR ?JT ?JV ?oh ?ou ?oA ?oE ?lM ?lN ?lQ ?lR ?Bx ?BJ ?BK ?BL ?qM ?qN ?qO ?qP ?oF ?oG ?oH ?oJ ?qQ ?qR ?qT ?qU ?jt ?ju ?jw ?jx ?oK ?oM ?oN ?oU ?lU ?lV ?lW ?lZ ?qW ?qX ?qY ?qZ ?rm ?rz ?rA ?rB ?uE ?uF ?uG ?uH ?oV ?oW ?oX ?oY ?ZM ?ZP ?ZQ ?ZR ?ZS ?Qq ?BP ?ZV ?oZ ?ZW ?Qs ?JW ?ZX ?BR ?JX
  (case iR=>k_is)
  (case mL=>k_exc)
  (case nU=>k_is)
  (case nW=>k_is)
  (case nY=>k_is)
  (case nZ=>k_is)
  (case Bp=>k_is)
  (case Bq=>k_is)
  (case Br=>k_is)
  (case Bs=>k_is)
  (case ZG=>k_is)
  (case ZJ=>k_is)
  (case ZK=>k_is)
  (case ZL=>k_is)
  (case Qm=>k_is)
  (case Qn=>k_is)
  (case Qo=>k_is)
  (case Qp=>k_is)
  (case xP=>k_is)
  (case xQ=>k_is)
  (case xR=>k_is)
  (case xT=>k_is)
  (case Bt=>k_is)
  (case Bu=>k_is)
  (case Bv=>k_is)
  (case Bw=>k_is)
  (case JQ=>k_is)
  (case JR=>k_is)
  (case JT=>k_is)
  (case JV=>k_is)
  (case oh=>k_is)
  (case ou=>k_is)
  (case oA=>k_is)
  (case oE=>k_is)
  (case lM=>k_is)
  (case lN=>k_is)
  (case lQ=>k_is)
  (case lR=>k_is)
  (case Bx=>k_is)
  (case BJ=>k_is)
  (case BK=>k_is)
  (case BL=>k_is)
  (case qM=>k_is)
  (case qN=>k_is)
  (case qO=>k_is)
  (case qP=>k_is)
  (case oF=>k_is)
  (case oG=>k_is)
  (case oH=>k_is)
  (case oJ=>k_is)
  (case qQ=>k_is)
  (case qR=>k_is)
  (case qT=>k_is)
  (case qU=>k_is)
  (case jt=>k_is)
  (case ju=>k_is)
  (case jw=>k_is)
  (case jx=>k_is)
  (case oK=>k_is)
  (case oM=>k_is)
  (case oN=>k_is)
  (case oU=>k_is)
  (case lU=>k_is)
  (case lV=>k_is)
  (case lW=>k_is)
  (case lZ=>k_is)
  (case qW=>k_is)
  (case qX=>k_is)
  (case qY=>k_is)
  (case qZ=>k_is)
  (case rm=>k_is)
  (case rz=>k_is)
  (case rA=>k_is)
  (case rB=>k_is)
  (case uE=>k_is)
  (case uF=>k_is)
  (case uG=>k_is)
  (case uH=>k_is)
  (case oV=>k_is)
  (case oW=>k_is)
  (case oX=>k_is)
  (case oY=>k_is)
  (case ZM=>k_is)
  (case ZP=>k_is)
  (case ZQ=>k_is)
  (case ZR=>k_is)
  (case ZS=>k_is)
  (case Qq=>k_is)
  (case BP=>k_is)
  (case ZV=>k_is)
  (case oZ=>k_is)
  (case ZW=>k_is)
  (case Qs=>k_is)
  (case JW=>k_is)
  (case ZX=>k_is)
  (case BR=>k_is)
  (case JX=>k_is)
