import PyProof.Rows.All
import Wide.All
import OpenK.AllK
import Wide.FinOn
import Lean
import PyProof.EqAt
import PyProof.EqKinds
import PyProof.TupleCall
import PyProof.NeKinds
import PyProof.CompUse
import PyProof.NsDelKeeps
import KE.KTryMore
import KE.RegKTryMore
import PyProof.SetNew
import PyProof.TupleKey
import PyProof.Rows.SetFrom
import PyProof.WalksMore
import PyProof.CollectWalk
import PyProof.FactsAll.set
import PyProof.FactsAll.set_1
import PyProof.FactsAll.set_2
import KE.KSortTup
import PyProof.ListRange
import PyProof.DictRoadsH
import PyProof.WalksEnum
import PyProof.EnumMake
import PyProof.Rows.EnumRows
import KE.KRevIter
import PyProof.DictWalks
import PyProof.ZipIter
import PyProof.Draws
import PyProof.WalkInts
import PyProof.FactsAll.dict_1
import PyProof.FactsAll.tuple_2
import PyProof.ConsumeS
import PySem.Challenge.RW_edgemoss_k14_whole_and_clear
set_option Elab.async false
set_option linter.all false
set_option maxRecDepth 100000
set_option maxHeartbeats 4000000
namespace L2
open PySem PySem.Spec PyProof.Rows
abbrev Jd:=Sum Int Str
def acN:Jd->Value->Bool
 | .inl k,v=>Value.isInt k v
 | .inr x,v=>Value.isStrOf x v
def aiR (w:World):Jd->Int
 | .inl k=>hashInt k
 | .inr x=>hashStr w x
theorem cP:∀ {k:Jd} {v:Value},acN k v=true->(∃ i t,k=Sum.inl i/\v=Value.int i t)∨(∃ x t,k=Sum.inr x/\v=Value.str x t)
 | .inl i,v,h=>by
  obtain ⟨t,e⟩:=Value.isInt_shape (k:=i) (v:=v) h
  exact .inl ⟨i,t,rfl,e⟩
 | .inr x,v,h=>by
  obtain ⟨t,e⟩:=Value.isStrOf_shape (x:=x) (v:=v) h
  exact .inr ⟨x,t,rfl,e⟩
theorem adC (a b:Int):decide ((Sum.inl a:Jd)=Sum.inl b)=(a == b):=by
 by_cases e:a=b
 ·subst e;simp
 ·have h:¬ (Sum.inl a:Jd)=Sum.inl b:=fun q=>e (Sum.inl.inj q)
  rw [decide_eq_false h]
  exact (beq_eq_false_iff_ne.mpr e).symm
theorem adD (a b:Str):decide ((Sum.inr a:Jd)=Sum.inr b)=decide (a=b):=by
 by_cases e:a=b
 ·subst e;simp
 ·have h:¬ (Sum.inr a:Jd)=Sum.inr b:=fun q=>e (Sum.inr.inj q)
  rw [decide_eq_false h,decide_eq_false e]
theorem adE (a:Int) (b:Str):decide ((Sum.inl a:Jd)=Sum.inr b)=false:=decide_eq_false (fun q=>nomatch q)
theorem adF (a:Str) (b:Int):decide ((Sum.inr a:Jd)=Sum.inl b)=false:=decide_eq_false (fun q=>nomatch q)
def QB (prog:Program) (w:World):PySem.KeyKind prog w Jd where
  is:=acN
  hash:=aiR w
  inj:=fun v a b ha hb=>by
    rcases cP ha with ⟨i,t,rfl,rfl⟩|⟨x,t,rfl,rfl⟩
    . rcases cP hb with ⟨j,u,rfl,e⟩|⟨y,u,rfl,e⟩
      . injection e with e1 _;rw [e1]
      . exact nomatch e
    . rcases cP hb with ⟨j,u,rfl,e⟩|⟨y,u,rfl,e⟩
      . exact nomatch e
      . injection e with e1 _;rw [e1]
  byValue := fun k v h => by
    rcases cP h with ⟨i,t,rfl,rfl⟩|⟨x,t,rfl,rfl⟩ <;> rfl
  pyHash:=fun hv h=>by
    rcases cP hv with ⟨i,t,rfl,rfl⟩|⟨x,t,rfl,rfl⟩
    . exact wpAny_pyHash_int h
    . exact wpAny_pyHash_str h
  eqBool:=fun hu hv h=>by
    rcases cP hu with ⟨i,t,rfl,rfl⟩|⟨x,t,rfl,rfl⟩
    . rcases cP hv with ⟨j,u,rfl,rfl⟩|⟨y,u,rfl,rfl⟩
      . rw [adC] at h;exact wpAny_eqBool_int h
      . rw [adE] at h;exact SeqAt.EqAt.int_str i t y u _ _ _ _ h
    . rcases cP hv with ⟨j,u,rfl,rfl⟩|⟨y,u,rfl,rfl⟩
      . rw [adF] at h;exact SeqAt.EqAt.str_int x t j u _ _ _ _ h
      . rw [adD] at h;exact wpAny_eqBool_str h
  «strs»:=fun k x t v h=>by
    rcases cP h with ⟨i,u,rfl,e⟩|⟨y,u,rfl,e⟩
    . exact nomatch e
    . injection e with e1 _
      subst e1
      cases v <;> rfl
end L2
namespace L2
open PySem PySem.Spec PyProof.Rows
inductive V where
 | non|bl (b:Bool)|int (i:Int)|str (x:Str)|byt (b:Array UInt8)|flt (b:UInt64)|ref (a:Addr)|ty (n:String)
 deriving DecidableEq
def RelV:V->Value->Prop
 | .non,u=>u=Value.none
 | .bl b,u=>u=Value.bool b
 | .int i,u=>∃ t,u=Value.int i t
 | .str x,u=>∃ t,u=Value.str x t
 | .byt b,u=>∃ t,u=Value.bytes b t
 | .flt b,u=>∃ t,u=Value.float b t
 | .ref a,u=>u=Value.ref a
 | .ty n,u=>u=Value.type n
abbrev Vals:List V->List Value->Prop:=Paired RelV
theorem Vals.length {xs:List V} {us:List Value} (r:Vals xs us):xs.length=us.length:=Paired.length r
theorem Vals.get:∀ {xs:List V} {us:List Value} {i:Nat} {x:V},Vals xs us->xs[i]?=some x->∃ u,us[i]?=some u/\RelV x u
 | _,_,_,_,.nil,e=>by simp at e
 | _,_,0,_,.cons r _,e=>by simp at e;subst e;exact ⟨_,rfl,r⟩
 | _,_,i + 1,x,.cons _ t,e=>by
  obtain ⟨u,h1,h2⟩:=Vals.get (i:=i) (x:=x) t (by simpa using e)
  exact ⟨u,by simpa using h1,h2⟩
theorem Vals.set {x:V} {u:Value} (r:RelV x u):∀ {xs:List V} {us:List Value} (i:Nat),Vals xs us->Vals (xs.set i x) (us.set i u)
 | _,_,_,.nil=>.nil
 | _,_,0,.cons _ t=>.cons r t
 | _,_,i + 1,.cons q t=>.cons q (Vals.set r i t)
theorem Vals.append:∀ {xs ys:List V} {us ws:List Value},Vals xs us->Vals ys ws->Vals (xs++ys) (us++ws)
 | _,_,_,_,.nil,s=>s
 | _,_,_,_,.cons r t,s=>.cons r (Vals.append t s)
theorem Vals.take:∀ {xs:List V} {us:List Value} (n:Nat),Vals xs us->Vals (xs.take n) (us.take n)
 | _,_,0,_=>.nil
 | _,_,_ + 1,.nil=>.nil
 | _,_,n + 1,.cons r t=>.cons r (Vals.take n t)
theorem Vals.drop:∀ {xs:List V} {us:List Value} (n:Nat),Vals xs us->Vals (xs.drop n) (us.drop n)
 | _,_,0,r=>r
 | _,_,_ + 1,.nil=>.nil
 | _,_,n + 1,.cons _ t=>Vals.drop n t
theorem Vals.none_of:∀ {xs:List V} {us:List Value} {i:Nat},Vals xs us->xs[i]?=none->us[i]?=none:=fun {xs us i} r e=>by
 have h1:=r.length
 have h2:xs.length<=i:=List.getElem?_eq_none_iff.mp e
 exact List.getElem?_eq_none_iff.mpr (by omega)
def agg:Option V->Option Value->Prop
 | some v,some u=>RelV v u
 | none,none=>True
 | _,_=>False
def KV {κ:Type}:List (κ×V)->List (κ×Value)->Prop:=Paired fun (p:κ×V) (q:κ×Value)=>p.1=q.1/\RelV p.2 q.2
def kV:Jd->V
 | .inl i=>.int i
 | .inr x=>.str x
inductive HO where
 /-- a list -/
 | lst (xs:List V)
 /-- a tuple (never changes) -/
 | tup (xs:List V)
 /-- a dict whose keys are ints and texts;one whose keys are tuples of ints and texts (the empty one is both) -/
 | dK (kvs:List (Jd×V))|dT (kvs:List (List Jd×V))
 /-- a set of ints: its members,its size -/
 | set (S:Int->Bool) (n:Nat)
 /-- an instance of the class at C,its dict at dx,its attributes -/
 | ins (C dx:Addr) (fs:List (Str×V))
 /-- the dict of the instance at x -/
 | own (x:Addr)
 /-- the dict of an exception -/
 | xd (fs:List (Str×V))
 /-- a bound method,f of x -/
 | met (f x:Addr)
 /-- a range object lo,lo + 1,.. below hi -/
 | rng (lo hi:Int)
 /-- a thing that is known to the object (the script;a dict while a loop agh it): read,never written while it is so -/
 | CQ (o:Obj) (u:HO)
 /-- a code object's table -/
 | tbl (ps:Array Value)
 /-- any other thing,by what is true of its one object (a def of one's own: yg a S n:=HO.ext fun h=>..) -/
 | ext (φ:Heap->Prop)
abbrev Hp:=Addr->Option HO
def dY (H:Hp) (a:Addr) (o:HO):Hp:=fun b=>if b=a then some o else H b
theorem aY {H:Hp} {a:Addr} {o:HO}:dY H a o a=some o:=by unfold dY;rw [if_pos rfl]
theorem aW {H:Hp} {a b:Addr} {o:HO} (h:b≠a):dY H a o b=H b:=by unfold dY;rw [if_neg h]
theorem aR {H:Hp} {a b:Addr} {o:HO} (h:H a=some o) (h':H b=none):a≠b:=by
 intro e;subst e;rw [h] at h';cases h'
section
variable (P:Program) (w:World)
def eZ (H:Hp) (h:Heap) (a:Addr):HO->Prop
 | .lst xs=>xs.length<=sizeLine/\∃ (its:List Value) (n:Nat),Vals xs its/\h.get? a=some { cls:=.type "list",data:=.seq its.toArray n }
 | .tup xs=>xs.length<=sizeLine/\∃ its:List Value,Vals xs its/\IsTup h a its.toArray
 | .dK kvs=>kvs.length<=sizeLine/\(a == sysModules)=false/\∃ vs,KV kvs vs/\h.DictOf (QB P w) a vs
 | .dT kvs=>kvs.length<=sizeLine/\(a == sysModules)=false/\∃ xs:List (List Jd×Addr×Value),
   Paired (fun (p:List Jd×V) (q:List Jd×Addr×Value)=>p.1=q.1/\H q.2.1=some (.tup (p.1.map kV))/\RelV p.2 q.2.2) kvs xs /\
   ∃ o es ep,h.get? a=some o/\o.ExactDict/\o.data=.dict es ep/\es.toList=xs.map (entryOfKey (tupleKind (QB P w)))/\(xs.map (·.1)).Nodup
 | .set S n=>h.SetOf (intKind P w) a S n
 | .ins C dx fs=>H dx=some (.own a)/\fs.length<=1000/\dx≠a/\h.get? a=some (PySem.W.instObj C dx) /\
   ∃ mA,h.Ns1 dx mA/\(∀ f,agg (fs.lookup f) (mA f))/\PySem.Within mA (fs.map (·.1))
 | .own _=>∃ o,h.get? a=some o
 | .xd fs=>∃ mA,h.Ns1 a mA/\∀ f,agg (fs.lookup f) (mA f)
 | .rng lo hi=>∃ t u v,h.get? a=some { cls:=.type "range",data:=.fields #[.int lo t,.int hi u,.int 1 v] }
 | .CQ o u=>h.get? a=some o/\eZ H h a u
 | .tbl ps=>h.get? a=some { cls:=.none,data:=.fields ps }
 | .met f x=>h.get? a=some (PySem.W.methodObj (.ref f) (.ref x))
 | .ext φ=>φ h/\(∃ o,h.get? a=some o)/\∀ h1 h2:Heap,φ h1->(∀ o,h1.get? a=some o->h2.get? a=some o)->φ h2
def xH (H:Hp) (h:Heap):Prop:=∀ a o,H a=some o->eZ P w H h a o
end
section
variable {P:Program} {w:World} {H H':Hp} {h h':Heap} {a:Addr} {o:HO}
theorem eZ.lt (x:eZ P w H h a o):a < h.objs.size:=by
 cases o with
 | lst xs=>obtain ⟨_,_,_,_,e⟩:=x;exact Heap.lt_size e
 | tup xs=>obtain ⟨_,_,_,p⟩:=x;exact p.lt
 | dK kvs=>obtain ⟨_,_,_,_,o,_,_,e,_⟩:=x;exact Heap.lt_size e
 | dT kvs=>obtain ⟨_,_,_,_,o,_,_,e,_⟩:=x;exact Heap.lt_size e
 | set S n=>obtain ⟨o,_,_,_,e,_⟩:=x;exact Heap.lt_size e
 | ins C dx fs=>obtain ⟨_,_,_,e,_⟩:=x;exact Heap.lt_size e
 | own y=>obtain ⟨_,e⟩:=x;exact Heap.lt_size e
 | xd fs=>obtain ⟨_,⟨_,_,_,e,_⟩,_⟩:=x;exact Heap.lt_size e
 | rng lo hi=>obtain ⟨_,_,_,e⟩:=x;exact Heap.lt_size e
 | CQ ob u=>obtain ⟨e,_⟩:=x;exact Heap.lt_size e
 | tbl ps=>exact Heap.lt_size (show h.get? a=some _ from x)
 | met f y=>exact Heap.lt_size (show h.get? a=some _ from x)
 | ext φ=>obtain ⟨_,⟨_,e⟩,_⟩:=x;exact Heap.lt_size e
theorem Paired.adG {α β:Type} {F G:α->β->Prop}:∀ {l₁:List α} {l₂:List β},Paired F l₁ l₂->(∀ a b,F a b->G a b)->Paired G l₁ l₂
 | _,_,.nil,_=>.nil
 | _,_,.cons r t,f=>.cons (f _ _ r) (Paired.adG t f)
theorem eZ.stay (x:eZ P w H h a o) (k:∀ b u,(b=a∨H b=some (.own a))->h.get? b=some u->h'.get? b=some u)
  (ho:∀ b,H b=some (.own a)->H' b=some (.own a)) (ht:∀ b xs,H b=some (.tup xs)->H' b=some (.tup xs)):eZ P w H' h' a o:=by
 induction o with
 | lst xs=>obtain ⟨z,its,n,r,e⟩:=x;exact ⟨z,its,n,r,k _ _ (.inl rfl) e⟩
 | tup xs=>obtain ⟨z,its,r,ob,e,c⟩:=x;exact ⟨z,its,r,ob,k _ _ (.inl rfl) e,c⟩
 | dK kvs=>obtain ⟨z,y,vs,r,ob,es,ep,e,c⟩:=x;exact ⟨z,y,vs,r,ob,es,ep,k _ _ (.inl rfl) e,c⟩
 | dT kvs =>
  obtain ⟨z,y,xs,r,ob,es,ep,e,c⟩:=x
  exact ⟨z,y,xs,Paired.adG r fun p q z=>⟨z.1,ht _ _ z.2.1,z.2.2⟩,ob,es,ep,k _ _ (.inl rfl) e,c⟩
 | set S n=>obtain ⟨ob,es,ep,t,e,c⟩:=x;exact ⟨ob,es,ep,t,k _ _ (.inl rfl) e,c⟩
 | ins C dx fs =>
  obtain ⟨d,z,ne,e,mA,⟨od,es,ep,e2,c⟩,r⟩:=x
  exact ⟨ho _ d,z,ne,k _ _ (.inl rfl) e,mA,⟨od,es,ep,k _ _ (.inr d) e2,c⟩,r⟩
 | own y=>obtain ⟨ob,e⟩:=x;exact ⟨ob,k _ _ (.inl rfl) e⟩
 | xd fs=>obtain ⟨mA,⟨od,es,ep,e,c⟩,r⟩:=x;exact ⟨mA,⟨od,es,ep,k _ _ (.inl rfl) e,c⟩,r⟩
 | rng lo hi=>obtain ⟨t,u,v,e⟩:=x;exact ⟨t,u,v,k _ _ (.inl rfl) e⟩
 | CQ ob u ih=>obtain ⟨e,q⟩:=x;exact ⟨k _ _ (.inl rfl) e,ih q⟩
 | tbl ps =>
  have e:h.get? a=some { cls:=.none,data:=.fields ps }:=x
  show h'.get? a=some { cls:=.none,data:=.fields ps }
  exact k a _ (.inl rfl) e
 | met f y =>
  have e:h.get? a=some (PySem.W.methodObj (.ref f) (.ref y)):=x
  show h'.get? a=some (PySem.W.methodObj (.ref f) (.ref y))
  exact k a _ (.inl rfl) e
 | ext φ=>obtain ⟨p,⟨o,e⟩,st⟩:=x;exact ⟨st _ _ p fun o q=>k _ _ (.inl rfl) q,⟨o,k _ _ (.inl rfl) e⟩,st⟩
theorem xH.lt (x:xH P w H h) (e:H a=some o):a < h.objs.size:=(x a o e).lt
theorem xH.fresh (x:xH P w H h) (e:h.objs.size<=a):H a=none:=by
 cases q:H a with
 | none=>rfl
 | some u=>exact absurd (Nat.lt_of_lt_of_le (x.lt q) e) (Nat.lt_irrefl _)
theorem xH.kept (x:xH P w H h) (k:∀ b u,h.get? b=some u->h'.get? b=some u):xH P w H h':=fun a o e =>
 (x a o e).stay (fun b u _ q=>k b u q) (fun _ q=>q) fun _ _ q=>q
theorem xH.laid (x:xH P w H h) (k:∀ b u,h.get? b=some u->h'.get? b=some u) (hp:h.objs.size<=a) (new:eZ P w (dY H a o) h' a o):xH P w (dY H a o) h':=fun b u e=>by
 have hn:=x.fresh hp
 by_cases hb:b=a
 ·subst hb;rw [aY] at e;cases e;exact new
 ·rw [aW hb] at e
  exact (x b u e).stay (fun c v _ q=>k c v q) (fun c q=>by rw [aW (aR q hn)];exact q) fun c xs q=>by rw [aW (aR q hn)];exact q
end
def Rd (H:Hp) (a:Addr) (u:HO):Prop:=H a=some u∨∃ o,H a=some (.CQ o u)
theorem Rd.ok {P:Program} {w:World} {H:Hp} {h:Heap} {a:Addr} {u:HO} (r:Rd H a u) (x:xH P w H h):eZ P w H h a u:=by
 rcases r with r|⟨o,r⟩
 ·exact x a u r
 ·obtain ⟨_,q⟩:=x a _ r
  exact q
def Mut:Option HO->Prop
 | some (.lst _)=>True
 | some (.dK _)=>True
 | some (.dT _)=>True
 | some (.set _ _)=>True
 | some (.ins _ _ _)=>True
 | some (.ext _)=>True
 | _=>False
section
variable {P:Program} {w:World} {H:Hp} {h h':Heap} {x e:Addr} {o':HO}
theorem xH.write (ok:xH P w H h) (mu:Mut (H x)) (he:e=x∨H e=some (.own x)) (k:∀ b u,b≠e->h.get? b=some u->h'.get? b=some u) (heo:∃ u,h'.get? e=some u)
  (new:eZ P w (dY H x o') h' x o'):xH P w (dY H x o') h':=fun b u q=>by
 have agi:∀ c y,H c=some (.own y)->c≠x:=fun c y r z=>by subst z;rw [r] at mu;exact mu
 have aiT:∀ c xs,H c=some (.tup xs)->c≠x:=fun c xs r z=>by subst z;rw [r] at mu;exact mu
 by_cases hb:b=x
 ·subst hb;rw [aY] at q;cases q;exact new
 ·rw [aW hb] at q
  by_cases hbe:b=e
  ·have q':H b=some (.own x):=by
    rcases he with z|z
    ·exact absurd (hbe.trans z) hb
    ·rw [hbe];exact z
   rw [q] at q';cases q'
   obtain ⟨v,hv⟩:=heo
   exact ⟨v,by rw [hbe];exact hv⟩
  ·refine (ok b u q).stay (fun c v hc r=>k c v ?_ r) (fun c r=>by rw [aW (agi c b r)];exact r) fun c xs r=>by rw [aW (aiT c xs r)];exact r
   rcases hc with rfl|hc
   ·exact hbe
   ·rintro rfl
    rcases he with z|z
    ·exact agi c b hc z
    ·rw [hc] at z;cases z;exact hb rfl
end
structure Un (fs ex:List Addr) (H H':Hp) (h h':Heap):Prop where
 keep:∀ b o,h.get? b=some o->H b=none->b∉fs->b∉ex->h'.get? b=some o
 slot:∀ b o,h.get? b=some o->H b=none->b∈fs->b∉ex->∃ sl,h'.get? b=some { o with slots:=sl }
 free:∀ b o,h.get? b=some o->H b=none->b∉ex->H' b=none
 there:∀ b o,h.get? b=some o->b∉ex->∃ o',h'.get? b=some o'
 tups:∀ b xs,H b=some (.tup xs)->H' b=some (.tup xs)
 yh:∀ b o u,H b=some (.CQ o u)->H' b=some (.CQ o u)
 Al:∀ b ps,H b=some (.tbl ps)->∃ more,H' b=some (.tbl (ps++more))
section
variable {fs fs' ex ex':List Addr} {H H1 H2:Hp} {h h1 h2 h':Heap} {a x e:Addr} {o:HO}
theorem Un.any (u:Un fs ex H H1 h h1) {b:Addr} {ob:Obj} (q:h.get? b=some ob) (n:H b=none) (hx:b∉ex):∃ sl,h1.get? b=some { ob with slots:=sl }:=by
 by_cases hb:b∈fs
 ·exact u.slot b ob q n hb hx
 ·exact ⟨ob.slots,u.keep b ob q n hb hx⟩
theorem Un.kept (k:∀ b u,h.get? b=some u->h'.get? b=some u):Un fs ex H H h h' :=
 ⟨fun b ob q _ _ _=>k b ob q,fun b ob q _ _ _=>⟨ob.slots,k b ob q⟩,fun _ _ _ n _=>n,fun b ob q _=>⟨ob,k b ob q⟩,fun _ _ q=>q,fun _ _ _ q=>q,fun _ ps q=>⟨#[],by rw [q];simp⟩⟩
theorem Un.refl:Un fs ex H H h h:=Un.kept fun _ _ q=>q
theorem Un.laid (k:∀ b u,h.get? b=some u->h'.get? b=some u) (hp:h.objs.size<=a) (hn:H a=none):Un fs ex H (dY H a o) h h' where
 keep:=fun b u q _ _ _=>k b u q
 slot:=fun b u q _ _ _=>⟨u.slots,k b u q⟩
 free:=fun b u q n _=>by rw [aW (Nat.ne_of_lt (Nat.lt_of_lt_of_le (Heap.lt_size q) hp))];exact n
 there:=fun b u q _=>⟨u,k b u q⟩
 tups:=fun b xs q=>by rw [aW (aR q hn)];exact q
 yh:=fun b u xs q=>by rw [aW (aR q hn)];exact q
 Al:=fun b ps q=>⟨#[],by rw [aW (aR q hn),q];simp⟩
theorem Un.write (mu:Mut (H x)) (he:e=x∨H e=some (.own x)) (k:∀ b u,b≠e->h.get? b=some u->h'.get? b=some u) (heo:∃ u,h'.get? e=some u):Un fs ex H (dY H x o) h h':=by
 have hx:∀ b,H b=none->b≠x:=fun b n z=>by subst z;rw [n] at mu;exact mu
 have hb:∀ b,H b=none->b≠e:=fun b n z=>by
  subst z
  rcases he with r|r
  ·exact hx b n r
  ·rw [n] at r;cases r
 have hm:∀ b u,H b=some u->¬ Mut (some u)->b≠x:=fun b u q nm z=>by subst z;rw [q] at mu;exact nm mu
 refine ⟨fun b u q n _ _=>k b u (hb b n) q,fun b u q n _ _=>⟨u.slots,k b u (hb b n) q⟩,fun b u q n _=>by rw [aW (hx b n)];exact n,fun b u q _=>?_,
  fun b xs q=>by rw [aW (hm b _ q fun z=>z)];exact q,fun b u xs q=>by rw [aW (hm b _ q fun z=>z)];exact q,fun b ps q=>⟨#[],by rw [aW (hm b _ q fun z=>z),q];simp⟩⟩
 by_cases hbe:b=e
 ·subst hbe;exact heo
 ·exact ⟨u,k b u hbe q⟩
end
def trk (h:Heap) (H:Hp):List Addr:=(List.range h.objs.size).filter fun a=>(H a).isSome
def Em (h:Heap) (H:Hp):Heap:=PySem.W.hideAll h (trk h H)
theorem SQ (h:Heap) (H:Hp):(Em h H).objs.size=h.objs.size:=PySem.W.hideAll_size _ _
theorem Vx {h:Heap} {H:Hp} {b:Addr} {o:Obj} (e:h.get? b=some o) (n:H b=none):(Em h H).get? b=some o :=
 PySem.W.hideAll_get _ e fun hm=>by
  have q:(H b).isSome=true:=(List.mem_filter.mp hm).2
  rw [n] at q;simp at q
theorem aaf {h:Heap} {H:Hp} {b:Addr} {o:Obj} (e:(Em h H).get? b=some o):h.get? b=some o/\H b=none:=by
 have e':h.get? b=some o:=PySem.W.of_hideAll (trk h H) e
 refine ⟨e',?_⟩
 cases q:H b with
 | none=>rfl
 | some x =>
  have hm:b∈trk h H:=List.mem_filter.mpr ⟨List.mem_range.mpr (Heap.lt_size e'),by simp [q]⟩
  have z:(Em h H).get? b=none:=PySem.W.hideAll_none (trk h H) hm
  rw [z] at e;cases e
def QC (g h:Heap) (L:Addr):List (Addr×Obj):=(List.range h.objs.size).filterMap fun a=>if a=L∨(g.get? a).isSome=true then none else (h.get? a).map fun o=>(a,o)
theorem Jf {g h:Heap} {L a:Addr} {o:Obj} (h1:a≠L) (h2:g.get? a=none) (h3:h.get? a=some o):(a,o)∈QC g h L :=
 List.mem_filterMap.mpr ⟨a,List.mem_range.mpr (Heap.lt_size h3),by simp [h1,h2,h3]⟩
def rest (g h:Heap) (L d:Addr):List (Addr×Obj):=(QC g h L).filter fun p=>decide (p.1≠d)
theorem yj {g h:Heap} {L d a:Addr} {o:Obj} (h1:a≠L) (h2:g.get? a=none) (h3:h.get? a=some o) (h4:a≠d):(a,o)∈rest g h L d :=
 List.mem_filter.mpr ⟨Jf h1 h2 h3,decide_eq_true h4⟩
end L2
namespace L2
open PySem PySem.Spec PyProof.Rows
structure Mod (K:PySem.W.Frag) (mg:Str->Option Value) (base:Heap):Prop where
 kin:K.In base
 glob:base.Ns mainGlobals mg
 blt:∃ mb,base.Ns builtinsNs mb/\∀ x:Str,x≠"__name__"->mb x=bootBuiltins x
 nolimit:base.NoLimit
structure Cx where
 prog:Program
 w:World
 K:PySem.W.Frag
 mg:Str->Option Value
 base:Heap
 A:Around
 N:List Str
 s₀:Shared
 H₀:Hp
 env:Env
 outer:List Env
 stack:List Env
 ex:List Addr
 fn:Str->Bool
 calm:Bool
 pn:List (Addr×Obj)
 xe:Value->Shared->Prop
def tY (l:List Env):List Addr:=l.filterMap (·.frame)
abbrev Cx.fs (X:Cx):List Addr:=tY X.outer
def Nf (sc:Scope) (x:Str):Prop:=sc.names.lookup x=some .local∨sc.names.lookup x=some .cell∨sc.names.lookup x=some .free
def Jg (sc:Scope) (x:Str):Prop:=sc.names.lookup x=some .local∨sc.names.lookup x=some .cell
def aiU (env:Env) (h:Heap) (m:Str->Option Value) (x:Str) (u:Value):Prop :=
 (env.kindOf x=some .local/\m x=some u)∨((env.kindOf x=some .cell∨env.kindOf x=some .free)/\∃ c,env.cells.lookup x=some c/\h.IsCell c (some u))
structure Cx.Ok (X:Cx):Prop where
 mod:Mod X.K X.mg X.base
 kind:X.env.scope.kind=.function
 glob:X.env.globals=mainGlobals
 blt:X.env.builtins=builtinsNs
 above:X.s₀.heap.objs.size<=X.env.locals
 inj:∀ x y c,X.env.cells.lookup x=some c->X.env.cells.lookup y=some c->x=y
 has:∀ x,(X.env.kindOf x=some .cell∨X.env.kindOf x=some .free)->∃ c,X.env.cells.lookup x=some c
 cab:∀ x c,X.fn x=true->X.env.cells.lookup x=some c->X.s₀.heap.objs.size<=c
 hd:X.calm=true->X.A.handled=none
 frames:X.A.frames=some X.stack
 stk:X.stack=X.outer∨(X.stack=X.env::X.outer/\X.env.frame=some X.env.locals)
 exf:∀ b∈X.ex,b≠X.env.locals/\∀ x c,X.env.cells.lookup x=some c->c≠b
 bs:∀ b o,X.base.get? b=some o->X.s₀.heap.get? b=some o/\X.H₀ b=none
 bsz:X.base.objs.size<=X.s₀.heap.objs.size
 Tc:∀ b o,X.base.get? b=some o->b∉X.ex
 aag:∀ b∈X.ex,b∉X.fs
 yp:X.s₀.heap.FunFrames X.base X.outer
 frf:∀ b∈X.fs,X.H₀ b=none
structure Inv (X:Cx) (pins:List (Addr×Obj)) (σ:List (Option V)) (H:Hp) (s:Shared):Prop where
 ok:X.Ok
 os:s.os=X.s₀.os
 bare:AllBare s.gens
 base:Un X.fs X.ex X.H₀ H X.s₀.heap s.heap
 loc:∃ m,s.heap.Ns X.env.locals m/\∀ (i:Nat) (x:Str) (v:V),X.N[i]?=some x->σ[i]?=some (some v)->Nf X.env.scope x->∃ u,RelV v u/\aiU X.env s.heap m x u
 cell:∀ x c,X.env.cells.lookup x=some c->∃ v,s.heap.IsCell c v
 free:H X.env.locals=none
 pq:∀ x c,X.env.cells.lookup x=some c->H c=none
 pin:∀ p∈X.pn++pins,s.heap.get? p.1=some p.2/\H p.1=none/\p.1≠X.env.locals/\p.1∉X.fs/\∀ v,p.2.data≠.cell v
 hok:xH X.prog X.w H s.heap
 len:σ.length=X.N.length
section
variable {X:Cx} {pins:List (Addr×Obj)} {σ:List (Option V)} {H H':Hp} {s:Shared} {h':Heap}
theorem Cx.Ok.aiV (ok:X.Ok) {b:Addr} {o:Obj} (e:X.base.get? b=some o):b∉X.fs:=fun hb=>by
 have:=(ok.yp.mem hb).1
 rw [e] at this;cases this
theorem Inv.bs (I:Inv X pins σ H s):∀ b o,X.base.get? b=some o->s.heap.get? b=some o/\H b=none:=fun b o e =>
 ⟨I.base.keep b o (I.ok.bs b o e).1 (I.ok.bs b o e).2 (I.ok.aiV e) (I.ok.Tc b o e),I.base.free b o (I.ok.bs b o e).1 (I.ok.bs b o e).2 (I.ok.Tc b o e)⟩
theorem Inv.bk (I:Inv X pins σ H s):∀ b o,X.base.get? b=some o->s.heap.get? b=some o:=fun b o e=>(I.bs b o e).1
theorem Inv.mod (I:Inv X pins σ H s):Mod X.K X.mg X.base:=I.ok.mod
theorem Inv.QD (I:Inv X pins σ H s):X.K.In s.heap:=I.ok.mod.kin.keeps I.bk
theorem Inv.lt (I:Inv X pins σ H s):X.env.locals < s.heap.objs.size:=let ⟨_,hn,_⟩:=I.loc;hn.lt
theorem Inv.sz (I:Inv X pins σ H s):X.s₀.heap.objs.size<=s.heap.objs.size:=Nat.le_trans I.ok.above (Nat.le_of_lt I.lt)
theorem Inv.aiW (I:Inv X pins σ H s) {a:Addr} (h:s.heap.objs.size<=a):a∉X.fs:=fun hb=>by
 obtain ⟨_,o,ho,_⟩:=I.ok.yp.mem hb
 exact absurd (Nat.lt_of_lt_of_le (Heap.lt_size ho) (Nat.le_trans I.sz h)) (Nat.lt_irrefl _)
theorem Inv.cne (I:Inv X pins σ H s):∀ x c,X.env.cells.lookup x=some c->c≠X.env.locals:=fun x c e z=>by
 obtain ⟨v,o,ho,hd⟩:=I.cell x c e
 obtain ⟨m,⟨o',es,ep,ho',hd',_⟩,_⟩:=I.loc
 rw [z,ho'] at ho;cases ho;rw [hd'] at hd;cases hd
theorem Inv.yp (I:Inv X pins σ H s):s.heap.FunFrames X.base X.outer:=by
 have all:∀ (l:List Env),(∀ b∈tY l,b∈X.fs)->X.s₀.heap.FunFrames X.base l->s.heap.FunFrames X.base l:=by
  intro l
  induction l with
  | nil=>intro _ _;trivial
  | cons env r ih =>
   intro hs hl
   obtain ⟨hk,⟨L,o,hf,hn,ho,hd⟩,hr⟩:=hl
   have hL:L∈X.fs:=hs L (by unfold tY;rw [List.filterMap_cons,hf];exact List.mem_cons_self)
   obtain ⟨sl,e⟩:=I.base.slot L o ho (I.ok.frf L hL) hL fun z=>I.ok.aag L z hL
   exact ⟨hk,⟨L,_,hf,hn,e,hd⟩,ih (fun b hb=>hs b (by unfold tY;rw [List.filterMap_cons,hf];exact List.mem_cons_of_mem _ hb)) hr⟩
 exact all X.outer (fun _ hb=>hb) I.ok.yp
theorem Inv.stack (I:Inv X pins σ H s):s.heap.FunFrames X.base X.stack:=by
 rcases I.ok.stk with e|⟨e,hf⟩
 ·rw [e];exact I.yp
 ·rw [e]
  obtain ⟨m,hn,_⟩:=I.loc
  refine .cons (by rw [I.ok.kind];decide) hf hn ?_ I.yp
  exact Heap.get?_none_of_le (Nat.le_trans I.ok.bsz I.ok.above)
theorem Inv.yq (I:Inv X pins σ H s):∀ b∈tY X.stack,b∈X.env.locals::X.fs:=fun b hb=>by
 rcases I.ok.stk with e|⟨e,hf⟩
 ·rw [e] at hb;exact List.mem_cons_of_mem _ hb
 ·rw [e] at hb
  unfold tY at hb
  rw [List.filterMap_cons,hf] at hb
  exact hb
theorem Inv.En (I:Inv X pins σ H s):∀ b∈tY X.stack,H b=none:=fun b hb=>by
 rcases List.mem_cons.mp (I.yq b hb) with e|hb
 ·rw [e];exact I.free
 ·obtain ⟨_,o,ho,_⟩:=I.ok.yp.mem hb
  exact I.base.free b o ho (I.ok.frf b hb) fun z=>I.ok.aag b z hb
theorem Inv.step {g':Array GenState} {t':Nat} {d':Drawn} {ch:List Addr} (I:Inv X pins σ H s)
  (hch:∀ b∈ch,(b∈X.ex∨X.s₀.heap.objs.size<=b)/\b≠X.env.locals/\(∀ x c,X.env.cells.lookup x=some c->c≠b)/\∀ p∈X.pn++pins,p.1≠b)
  (keep:∀ b o,b≠X.env.locals->b∉X.fs->b∉ch->s.heap.get? b=some o->H b=none->h'.get? b=some o)
  (slot:∀ b o,b≠X.env.locals->b∈X.fs->b∉ch->s.heap.get? b=some o->H b=none->∃ sl,h'.get? b=some { o with slots:=sl }) (free:∀ b o,b∉ch->s.heap.get? b=some o->H b=none->H' b=none)
  (there:∀ b o,b∉ch->s.heap.get? b=some o->∃ o',h'.get? b=some o')
  (tups:∀ b xs,H b=some (.tup xs)->H' b=some (.tup xs)) (yh:∀ b o u,H b=some (.CQ o u)->H' b=some (.CQ o u)) (Al:∀ b ps,H b=some (.tbl ps)->∃ more,H' b=some (.tbl (ps++more)))
  (ns:∀ m,s.heap.Ns X.env.locals m->h'.Ns X.env.locals m) (hok:xH X.prog X.w H' h') (hg:AllBare g') :
  Inv X pins σ H' { s with heap:=h',gens:=g',drawn:=d',toks:=t' }:=by
 have neL:∀ b o,X.s₀.heap.get? b=some o->b≠X.env.locals:=fun b o e=>Nat.ne_of_lt (Nat.lt_of_lt_of_le (Heap.lt_size e) I.ok.above)
 have neC:∀ b o,X.s₀.heap.get? b=some o->b∉X.ex->b∉ch:=fun b o e hx hb=>by
  rcases (hch b hb).1 with z|z
  ·exact hx z
  ·exact absurd (Nat.lt_of_lt_of_le (Heap.lt_size e) z) (Nat.lt_irrefl _)
 have cellK:∀ x c,X.env.cells.lookup x=some c->∀ v,s.heap.IsCell c v->h'.IsCell c v:=fun x c e v ⟨o,ho,hd⟩=>by
  have nch:c∉ch:=fun z=>(hch c z).2.2.1 x c e rfl
  by_cases hc:c∈X.fs
  ·obtain ⟨sl,q⟩:=slot c o (I.cne x c e) hc nch ho (I.pq x c e)
   exact ⟨_,q,hd⟩
  ·exact ⟨o,keep c o (I.cne x c e) hc nch ho (I.pq x c e),hd⟩
 refine ⟨I.ok,I.os,hg,⟨fun b o e n hb hx=>?_,fun b o e n hb hx=>?_,fun b o e n hx=>?_,fun b o e hx=>?_,fun b xs e=>tups b xs (I.base.tups b xs e),fun b o xs e=>yh b o xs (I.base.yh b o xs e),fun b ps e=>?_⟩,?_,fun x c e=>?_,?_,fun x c e=>?_,fun p hp=>?_,hok,I.len⟩
 ·exact keep b o (neL b o e) hb (neC b o e hx) (I.base.keep b o e n hb hx) (I.base.free b o e n hx)
 ·obtain ⟨sl,e1⟩:=I.base.slot b o e n hb hx
  obtain ⟨sl',e2⟩:=slot b _ (neL b o e) hb (neC b o e hx) e1 (I.base.free b o e n hx)
  exact ⟨sl',e2⟩
 ·obtain ⟨o',e1⟩:=I.base.there b o e hx
  exact free b o' (neC b o e hx) e1 (I.base.free b o e n hx)
 ·obtain ⟨o',e1⟩:=I.base.there b o e hx
  exact there b o' (neC b o e hx) e1
 ·obtain ⟨m1,e1⟩:=I.base.Al b ps e
  obtain ⟨m2,e2⟩:=Al b _ e1
  exact ⟨m1++m2,by rw [e2,Array.append_assoc]⟩
 ·obtain ⟨m,hn,hl⟩:=I.loc
  refine ⟨m,ns m hn,fun i x v e1 e2 e3=>?_⟩
  obtain ⟨u,r,l⟩:=hl i x v e1 e2 e3
  refine ⟨u,r,?_⟩
  rcases l with l|⟨k,c,e,z⟩
  ·exact .inl l
  ·exact .inr ⟨k,c,e,cellK x c e _ z⟩
 ·obtain ⟨v,z⟩:=I.cell x c e
  exact ⟨v,cellK x c e v z⟩
 ·obtain ⟨m,⟨o,_,_,ho,_⟩,_⟩:=I.loc
  exact free _ o (fun z=>(hch _ z).2.1 rfl) ho I.free
 ·obtain ⟨v,o,ho,hd⟩:=I.cell x c e
  exact free c o (fun z=>(hch c z).2.2.1 x c e rfl) ho (I.pq x c e)
 ·obtain ⟨e,n,ne,nf,d⟩:=I.pin p hp
  have nch:p.1∉ch:=fun z=>(hch p.1 z).2.2.2 p hp rfl
  exact ⟨keep p.1 p.2 ne nf nch e n,free p.1 p.2 nch e n,ne,nf,d⟩
theorem Inv.un {t':Nat} (I:Inv X pins σ H s) (u:Un X.fs [] H H' s.heap h') (hok:xH X.prog X.w H' h'):Inv X pins σ H' { s with heap:=h',toks:=t' }:=by
 obtain ⟨m,⟨o,es,ep,ho,r⟩,_⟩:=id I.loc
 obtain ⟨sl,hL⟩:=u.any ho I.free (by simp)
 exact I.step (g':=s.gens) (d':=s.drawn) (ch:=[]) (fun _ z=>nomatch z) (fun b o _ hb _ e n=>u.keep b o e n hb (by simp)) (fun b o _ hb _ e n=>u.slot b o e n hb (by simp)) (fun b o _ e n=>u.free b o e n (by simp)) (fun b o _ e=>u.there b o e (by simp)) u.tups u.yh u.Al (fun m' hm=>by
  obtain ⟨o',es',ep',ho',r'⟩:=hm
  rw [ho] at ho';cases ho'
  exact ⟨_,es',ep',hL,r'⟩) hok I.bare
theorem Inv.call {g':Array GenState} {t':Nat} {d':Drawn} {ch:List Addr} (I:Inv X pins σ H s) (u:Un (tY X.stack) ch H H' s.heap h') (hok:xH X.prog X.w H' h') (hg:AllBare g')
  (hch:∀ b∈ch,(b∈X.ex∨X.s₀.heap.objs.size<=b)/\b≠X.env.locals/\(∀ x c,X.env.cells.lookup x=some c->c≠b)/\∀ p∈X.pn++pins,p.1≠b) :
  Inv X pins σ H' { s with heap:=h',gens:=g',drawn:=d',toks:=t' }:=by
 obtain ⟨m,⟨o,es,ep,ho,r⟩,_⟩:=id I.loc
 obtain ⟨sl,hL⟩:=u.any ho I.free fun z=>(hch _ z).2.1 rfl
 exact I.step (ch:=ch) hch (fun b o hL hb hc e n=>u.keep b o e n (fun z=>(List.mem_cons.mp (I.yq b z)).elim hL hb) hc) (fun b o _ _ hc e n=>u.any e n hc) (fun b o hc e n=>u.free b o e n hc) (fun b o hc e=>u.there b o e hc) u.tups u.yh u.Al (fun m' hm=>by
  obtain ⟨o',es',ep',ho',r'⟩:=hm
  rw [ho] at ho';cases ho'
  exact ⟨_,es',ep',hL,r'⟩) hok hg
theorem Inv.turned {t':Nat} {it:Addr} (I:Inv X pins σ H s) (k:∀ b o,b≠it->s.heap.get? b=some o->h'.get? b=some o) (hn:H it=none) (hL:it≠X.env.locals)
  (h1:it∈X.ex∨X.s₀.heap.objs.size<=it) (h2:∀ x c,X.env.cells.lookup x=some c->c≠it) (h3:∀ p∈X.pn++pins,p.1≠it):Inv X pins σ H { s with heap:=h',toks:=t' }:=by
 have nit:∀ b u,H b=some u->b≠it:=fun b u e z=>by rw [z,hn] at e;cases e
 refine I.step (g':=s.gens) (d':=s.drawn) (ch:=[it]) (fun b hb=>?_) (fun b o _ _ hc e _=>k b o (fun z=>hc (by simp [z])) e) (fun b o _ _ hc e _=>⟨o.slots,k b o (fun z=>hc (by simp [z])) e⟩) (fun _ _ _ _ n=>n)
  (fun b o hc e=>⟨o,k b o (fun z=>hc (by simp [z])) e⟩) (fun _ _ e=>e) (fun _ _ _ e=>e) (fun b ps e=>⟨#[],by rw [e];simp⟩) (fun m hm=>?_) (fun b u e=>?_) I.bare
 ·have e:b=it:=by simpa using hb
  subst e
  exact ⟨h1,hL,h2,h3⟩
 ·obtain ⟨o,es,ep,ho,r⟩:=hm
  exact ⟨o,es,ep,k _ o (Ne.symm hL) ho,r⟩
 ·refine (I.hok b u e).stay (fun c v hc q=>k c v ?_ q) (fun _ q=>q) fun _ _ q=>q
  rcases hc with z|z
  ·rw [z];exact nit b u e
  ·exact nit c _ z
theorem Inv.tok (I:Inv X pins σ H s) (t:Nat):Inv X pins σ H { s with toks:=t }:=I.un (h':=s.heap) (t':=t) Un.refl I.hok
theorem Inv.kept {t':Nat} (I:Inv X pins σ H s) (k:∀ b u,s.heap.get? b=some u->h'.get? b=some u):Inv X pins σ H { s with heap:=h',toks:=t' }:=I.un (Un.kept k) (I.hok.kept k)
theorem Inv.laid {a:Addr} {o:HO} {t':Nat} (I:Inv X pins σ H s) (k:∀ b u,s.heap.get? b=some u->h'.get? b=some u) (hp:s.heap.objs.size<=a) (new:eZ X.prog X.w (dY H a o) h' a o) :
  Inv X pins σ (dY H a o) { s with heap:=h',toks:=t' }:=I.un (Un.laid k hp (I.hok.fresh hp)) (I.hok.laid k hp new)
theorem Inv.write {x e:Addr} {o:HO} {t':Nat} (I:Inv X pins σ H s) (mu:Mut (H x)) (he:e=x∨H e=some (.own x)) (k:∀ b u,b≠e->s.heap.get? b=some u->h'.get? b=some u) (heo:∃ u,h'.get? e=some u)
  (new:eZ X.prog X.w (dY H x o) h' x o):Inv X pins σ (dY H x o) { s with heap:=h',toks:=t' }:=I.un (Un.write mu he k heo) (I.hok.write mu he k heo new)
theorem Inv.QF {acR:List (Addr×Obj)} (I:Inv X pins σ H s) (h:∀ p∈acR,s.heap.get? p.1=some p.2/\H p.1=none/\p.1≠X.env.locals/\p.1∉X.fs/\∀ v,p.2.data≠.cell v):Inv X acR σ H s :=
 ⟨I.ok,I.os,I.bare,I.base,I.loc,I.cell,I.free,I.pq,fun p hp=>(List.mem_append.mp hp).elim (fun z=>I.pin p (List.mem_append_left _ z)) (h p),I.hok,I.len⟩
theorem Jh {N:List Str} (hN:N.Nodup) {i j:Nat} {x:Str} (a:N[i]?=some x) (b:N[j]?=some x):i=j:=by
 obtain ⟨h1,e1⟩:=List.getElem?_eq_some_iff.mp a
 obtain ⟨h2,e2⟩:=List.getElem?_eq_some_iff.mp b
 exact (List.getElem_inj hN).mp (e1.trans e2.symm)
theorem CT {M:Model} {A:Around} {E:Value->Shared->Prop} {i:Nat} {x:Str} {v:V} {u:Value} {Q:Unit->Shared->Prop} (I:Inv X pins σ H s) (hN:X.N.Nodup) (hi:X.N[i]?=some x) (hx:Jg X.env.scope x) (r:RelV v u)
  (h:∀ s',Inv X pins (σ.set i (some v)) H s'->(∃ a,Heap.SameBut a s.heap s'.heap/\(a=X.env.locals∨X.env.cells.lookup x=some a))->Q () s') (hf:X.fn x=true∨X.env.scope.names.lookup x=some .local:=by first|exact .inl rfl|exact .inr rfl|assumption):wpAny M A (storeName X.env x u) Q E s:=by
 obtain ⟨m,hn,hl⟩:=id I.loc
 have hcls:(X.env.scope.kind == .class || (X.env.scope.kind == .module && X.env.locals != X.env.globals))=false:=by rw [I.ok.kind];rfl
 have hiσ:i < σ.length:=by rw [I.len];exact (List.getElem?_eq_some_iff.mp hi).1
 have cne:=I.cne
 have tracked:∀ {a:Addr} {h':Heap},(∃ o,s.heap.get? a=some o/\H a=none)->Heap.SameBut a s.heap h'->xH X.prog X.w H h':=fun {a h'} ha hs b ob e=>by
  obtain ⟨_,_,hfree⟩:=ha
  refine (I.hok b ob e).stay (fun c w' hc q=>(hs.2 c ?_).trans q) (fun _ q=>q) fun _ _ q=>q
  rintro rfl
  rcases hc with rfl|hc
  ·rw [hfree] at e;cases e
  ·rw [hfree] at hc;cases hc
 rcases hx with hk|hk
 ·refine wpAny_storeName_local hk hn (fun h' hn' hs=>?_) hcls
  obtain ⟨oL,_,_,hoL,_⟩:=id hn
  refine h _ ⟨I.ok,I.os,I.bare,⟨fun b o e n hb hx=>?_,fun b o e n hb hx=>?_,I.base.free,fun b o e hx=>?_,I.base.tups,I.base.yh,I.base.Al⟩,⟨_,hn',fun j y v' e1 e2 e3=>?_⟩,fun y c e=>?_,I.free,I.pq,fun p hp=>?_,tracked ⟨oL,hoL,I.free⟩ hs,by simpa using I.len⟩ ⟨_,hs,.inl rfl⟩
  ·exact (hs.2 b (Nat.ne_of_lt (Nat.lt_of_lt_of_le (Heap.lt_size e) I.ok.above))).trans (I.base.keep b o e n hb hx)
  ·obtain ⟨sl,e1⟩:=I.base.slot b o e n hb hx
   exact ⟨sl,(hs.2 b (Nat.ne_of_lt (Nat.lt_of_lt_of_le (Heap.lt_size e) I.ok.above))).trans e1⟩
  ·obtain ⟨o',e1⟩:=I.base.there b o e hx
   exact ⟨o',(hs.2 b (Nat.ne_of_lt (Nat.lt_of_lt_of_le (Heap.lt_size e) I.ok.above))).trans e1⟩
  ·by_cases hj:j=i
   ·subst hj
    rw [hi] at e1;cases e1
    rw [List.getElem?_set_self hiσ] at e2
    cases e2
    exact ⟨u,r,.inl ⟨hk,by simp⟩⟩
   ·rw [List.getElem?_set_ne (Ne.symm hj)] at e2
    obtain ⟨u',r',q⟩:=hl j y v' e1 e2 e3
    refine ⟨u',r',?_⟩
    rcases q with ⟨k,e⟩|⟨k,c,e,z⟩
    ·refine .inl ⟨k,?_⟩
     have:y≠x:=fun e=>hj (Jh hN e1 (e▸hi))
     simp [this,e]
    ·exact .inr ⟨k,c,e,z.sameBut hs (cne y c e)⟩
  ·obtain ⟨w',z⟩:=I.cell y c e
   exact ⟨w',z.sameBut hs (cne y c e)⟩
  ·obtain ⟨e,n,ne,nf,d⟩:=I.pin p hp
   exact ⟨(hs.2 p.1 ne).trans e,n,ne,nf,d⟩
 ·have hfn:X.fn x=true:=by
   rcases hf with z|z
   ·exact z
   ·rw [z] at hk;cases hk
  obtain ⟨c,hc⟩:=I.ok.has x (.inl hk)
  obtain ⟨w',z⟩:=I.cell x c hc
  refine wpAny_storeName_cell I.ok.kind hk hc z (fun h' hc' hs=>?_)
  obtain ⟨oc,hoc,aiX⟩:=id z
  refine h { s with heap:=h' } ⟨I.ok,I.os,I.bare,⟨fun b o e n hb hx=>?_,fun b o e n hb hx=>?_,I.base.free,fun b o e hx=>?_,I.base.tups,I.base.yh,I.base.Al⟩,⟨m,hn.sameBut hs (Ne.symm (cne x c hc)),fun j y v' e1 e2 e3=>?_⟩,fun y c' e=>?_,I.free,I.pq,fun p hp=>?_,tracked ⟨oc,hoc,I.pq x c hc⟩ hs,by simpa using I.len⟩ ⟨c,hs,.inr hc⟩
  ·exact (hs.2 b (Nat.ne_of_lt (Nat.lt_of_lt_of_le (Heap.lt_size e) (I.ok.cab x c hfn hc)))).trans (I.base.keep b o e n hb hx)
  ·obtain ⟨sl,e1⟩:=I.base.slot b o e n hb hx
   exact ⟨sl,(hs.2 b (Nat.ne_of_lt (Nat.lt_of_lt_of_le (Heap.lt_size e) (I.ok.cab x c hfn hc)))).trans e1⟩
  ·obtain ⟨o',e1⟩:=I.base.there b o e hx
   exact ⟨o',(hs.2 b (Nat.ne_of_lt (Nat.lt_of_lt_of_le (Heap.lt_size e) (I.ok.cab x c hfn hc)))).trans e1⟩
  ·by_cases hj:j=i
   ·subst hj
    rw [hi] at e1;cases e1
    rw [List.getElem?_set_self hiσ] at e2
    cases e2
    exact ⟨u,r,.inr ⟨.inl hk,c,hc,hc'⟩⟩
   ·rw [List.getElem?_set_ne (Ne.symm hj)] at e2
    obtain ⟨u',r',q⟩:=hl j y v' e1 e2 e3
    refine ⟨u',r',?_⟩
    rcases q with q|⟨k,c',e,z'⟩
    ·exact .inl q
    ·refine .inr ⟨k,c',e,z'.sameBut hs ?_⟩
     rintro rfl
     exact hj (Jh hN e1 (I.ok.inj _ _ _ e hc▸hi))
  ·by_cases hcc:c'=c
   ·subst hcc;exact ⟨_,hc'⟩
   ·obtain ⟨w2,z2⟩:=I.cell y c' e
    exact ⟨w2,z2.sameBut hs hcc⟩
  ·obtain ⟨e,n,ne,nf,d⟩:=I.pin p hp
   refine ⟨(hs.2 p.1 ?_).trans e,n,ne,nf,d⟩
   intro q
   rw [q,hoc] at e
   have q':oc=p.2:=Option.some.inj e
   exact d w' (by rw [<- q'];exact aiX)
theorem Ji {M:Model} {A:Around} {E:Value->Shared->Prop} {i:Nat} {x:Str} {v:V} {u:Value} {Q:Unit->Shared->Prop} (I:Inv X pins σ H s) (hN:X.N.Nodup) (hi:X.N[i]?=some x) (hx:Jg X.env.scope x) (r:RelV v u)
  (h:∀ s',Inv X pins (σ.set i (some v)) H s'->Q () s') (hf:X.fn x=true∨X.env.scope.names.lookup x=some .local:=by first|exact .inl rfl|exact .inr rfl|assumption):wpAny M A (storeName X.env x u) Q E s :=
 CT I hN hi hx r (fun s' I' _=>h s' I') hf
theorem Inv.call' {s':Shared} {ch:List Addr} (I:Inv X pins σ H s) (ho:s'.os=s.os) (u:Un (tY X.stack) ch H H' s.heap s'.heap) (hok:xH X.prog X.w H' s'.heap) (hg:AllBare s'.gens)
  (hch:∀ b∈ch,(b∈X.ex∨X.s₀.heap.objs.size<=b)/\b≠X.env.locals/\(∀ x c,X.env.cells.lookup x=some c->c≠b)/\∀ p∈X.pn++pins,p.1≠b):Inv X pins σ H' s':=by
 obtain ⟨h',g',d',t',o'⟩:=s'
 have e:o'=s.os:=ho
 subst e
 exact I.call (g':=g') (t':=t') (d':=d') u hok hg hch
end
abbrev XK:=Value->Option Addr->Hp->Prop
abbrev St:=List (Option V)
abbrev VK:=V->Hp->Prop
abbrev TE:=St->Hp->VK->Prop
abbrev TT:=St->Hp->(Bool->Hp->Prop)->Prop
abbrev TA:=St->Hp->(List V->Hp->Prop)->Prop
structure Ends where
 nx:St->Hp->Prop
 rt:VK
 bk:St->Hp->Prop:=fun _ _=>False
 ct:St->Hp->Prop:=fun _ _=>False
abbrev TS:=Ends->St->Hp->Prop
def EP (X:Cx) (pins:List (Addr×Obj)) (σ:St) (Q:VK) (u:Value) (s':Shared):Prop:=∃ v H',Inv X pins σ H' s'/\RelV v u/\Q v H'
def TP (X:Cx) (pins:List (Addr×Obj)) (σ:St) (Q:Bool->Hp->Prop) (b:Bool) (s':Shared):Prop:=∃ H',Inv X pins σ H' s'/\Q b H'
def AP (X:Cx) (pins:List (Addr×Obj)) (σ:St) (Q:List V->Hp->Prop) (us:List Value) (s':Shared):Prop:=∃ vs H',Inv X pins σ H' s'/\Vals vs us/\Q vs H'
def SP (X:Cx) (pins:List (Addr×Obj)) (D:Ends) (f:Flow) (s':Shared):Prop :=
 match f with
 | .next=>∃ σ' H',Inv X pins σ' H' s'/\D.nx σ' H'
 | .brk=>∃ σ' H',Inv X pins σ' H' s'/\D.bk σ' H'
 | .cont=>∃ σ' H',Inv X pins σ' H' s'/\D.ct σ' H'
 | .ret u=>∃ v σ' H',Inv X pins σ' H' s'/\RelV v u/\D.rt v H'
def PE (X:Cx) (e:Expr) (t:TE):Prop :=
 ∀ (pins:List (Addr×Obj)) (s:Shared) (σ:St) (H:Hp) (Q:VK),Inv X pins σ H s->t σ H Q->wpAny (model X.prog X.w) X.A (eval e X.env) (EP X pins σ Q) X.xe s
def PT (X:Cx) (e:Expr) (t:TT):Prop :=
 ∀ (pins:List (Addr×Obj)) (s:Shared) (σ:St) (H:Hp) (Q:Bool->Hp->Prop),Inv X pins σ H s->t σ H Q->wpAny (model X.prog X.w) X.A (isTrue e X.env (eval e X.env)) (TP X pins σ Q) X.xe s
def PW (X:Cx) (e:Expr) (t:TT):Prop :=
 ∀ (whole:Sem Value) (pins:List (Addr×Obj)) (s:Shared) (σ:St) (H:Hp) (Q:Bool->Hp->Prop),Inv X pins σ H s->t σ H Q->wpAny (model X.prog X.w) X.A (isTrue e X.env whole) (TP X pins σ Q) X.xe s
theorem PW.pt {X:Cx} {e:Expr} {t:TT} (h:PW X e t):PT X e t:=h _
def PA (X:Cx) (es:List Expr) (t:TA):Prop :=
 ∀ (pos:Pos) (pins:List (Addr×Obj)) (s:Shared) (σ:St) (H:Hp) (Q:List V->Hp->Prop),Inv X pins σ H s->t σ H Q->wpAny (model X.prog X.w) X.A (spliced (backTo pos (starEach es X.env))) (AP X pins σ Q) X.xe s
def PS (X:Cx) (st:Stmt) (t:TS):Prop :=
 ∀ (pins:List (Addr×Obj)) (s:Shared) (σ:St) (H:Hp) (D:Ends),Inv X pins σ H s->t D σ H->wpAny (model X.prog X.w) X.A (exec st X.env) (SP X pins D) X.xe s
def Ng (X:Cx) (st:List Stmt) (t:TS):Prop :=
 ∀ (pins:List (Addr×Obj)) (s:Shared) (σ:St) (H:Hp) (D:Ends),Inv X pins σ H s->t D σ H->wpAny (model X.prog X.w) X.A (execs st X.env) (SP X pins D) X.xe s
theorem ig {α:Type} {t:Sem α} {Q Q':α->Shared->Prop} {M:Model} {A:Around} {E:Value->Shared->Prop} {s:Shared} (h:wpAny M A t Q E s) (hQ:∀ a s,Q a s->Q' a s):wpAny M A t Q' E s:=wpAny_mono h hQ fun _ _ x=>x
end L2
namespace L2
open PySem PySem.Spec PyProof.Rows
section
variable {X:Cx}
def Td (i:Nat):TE:=fun σ H Q=>∃ v,σ[i]?=some (some v)/\Q v H
def tC (v:V):TE:=fun _ H Q=>Q v H
theorem iu {i:Nat} {x:Str} {pos:Pos} (hN:X.N[i]?=some x) (hv:Nf X.env.scope x) (hd:(x == ("__debug__":Str))=false:=by decide) (hcd:(x == ("__classdict__":Str))=false:=by decide):PE X (.Name x pos) (Td i):=by
 intro pins s σ H Q I h
 obtain ⟨v,e,h⟩:=h
 obtain ⟨m,hn,hl⟩:=I.loc
 obtain ⟨u,r,l⟩:=hl i x v hN e hv
 have fu:EP X pins σ Q u s:=⟨v,H,I,r,h⟩
 rcases l with ⟨hk,hm⟩|⟨hk,c,hc,hcell⟩
 ·exact wpAny_Name (wpAny_loadName_local I.ok.kind hk hn hm fu) hd
 ·rcases hk with hk|hk
  ·exact wpAny_Name (wpAny_loadName_cell I.ok.kind hk hc hcell fu) hd
  ·exact wpAny_Name (wpAny_loadName_free I.ok.kind hk hc hcell fu hcd) hd
theorem adI {i j pos}:PE X (.Constant (.int i) j pos) (tC (.int i)):=fun _ _ _ H _ I h=>wpAny_Constant_int ⟨.int i,H,I.tok _,⟨_,rfl⟩,h⟩
theorem agj {b j pos}:PE X (.Constant (.bool b) j pos) (tC (.bl b)):=fun _ _ _ H _ I h=>Constant_bool ⟨.bl b,H,I,rfl,h⟩
def Gl (X:Cx) (x:Str):Prop:=X.env.kindOf x=some .globalImplicit
theorem QG {E:Value->Shared->Prop} {pins:List (Addr×Obj)} {s:Shared} {σ:St} {H:Hp} {x:Str} {u:Value} {pos:Pos} {Q:Value->Shared->Prop} (I:Inv X pins σ H s) (hg:Gl X x) (hm:X.mg x=some u) (h:Q u s)
  (hd:(x == ("__debug__":Str))=false:=by decide):wpAny (model X.prog X.w) X.A (eval (.Name x pos) X.env) Q E s :=
 Calls.Name_function_global I.ok.kind hg (Calls.loadGlobal_global (by rw [I.ok.glob];exact I.mod.glob.keeps I.bk) hm h) hd
theorem Eo {E:Value->Shared->Prop} {pins:List (Addr×Obj)} {s:Shared} {σ:St} {H:Hp} {x:Str} {u:Value} {pos:Pos} {Q:Value->Shared->Prop} (I:Inv X pins σ H s) (hg:Gl X x) (hm:X.mg x=none) (hv:bootBuiltins x=some u) (h:Q u s)
  (hn:x≠"__name__":=by decide) (hd:(x == ("__debug__":Str))=false:=by decide):wpAny (model X.prog X.w) X.A (eval (.Name x pos) X.env) Q E s:=by
 obtain ⟨mb,h1,h2⟩:=I.mod.blt
 exact Calls.Name_function_global I.ok.kind hg (Calls.loadGlobal_builtin (by rw [I.ok.glob];exact I.mod.glob.keeps I.bk) hm (by rw [I.ok.blt];exact h1.keeps I.bk) ((h2 x hn).trans hv) h) hd
theorem aah {x:Str} {v:V} {u:Value} {pos:Pos} (hg:Gl X x) (hm:X.mg x=none) (hv:bootBuiltins x=some u) (r:RelV v u) (hn:x≠"__name__":=by decide) (hd:(x == ("__debug__":Str))=false:=by decide):PE X (.Name x pos) (tC v) :=
 fun _ _ _ H _ I h=>Eo I hg hm hv ⟨v,H,I,r,h⟩ hn hd
variable {a b:Expr} {ta tb:TE} {pos:Pos}
def tB (t:TE):TT:=fun σ H Q=>t σ H fun x H1=>∃ c,x=.bl c/\Q c H1
theorem adJ {e:Expr} {t:TE} (h:PE X e t) (he:∀ whole,isTrue e X.env whole=(do let v <- whole;standAt e.pos;holding [v] (truthy v)):=by intro _;rfl):PT X e (tB t):=by
 intro pins s σ H Q I hw
 refine isTrue_plain (ig (h pins s σ H _ I hw) fun v s1 ⟨x,H1,I1,r1,q1⟩=>?_) (he _)
 obtain ⟨d,rfl,q⟩:=q1
 cases r1
 exact wpAny_truthy_bool ⟨H1,I1,q⟩
variable {tA tB':TT} {rest:List Expr}
def aiY (t u:TT):TT:=fun σ H Q=>t σ H fun c H1=>if c=true then u σ H1 Q else Q false H1
def tOr (t u:TT):TT:=fun σ H Q=>t σ H fun c H1=>if c=true then Q true H1 else u σ H1 Q
def aiZ (t:TT):TT:=fun σ H Q=>t σ H fun c H1=>Q (!c) H1
theorem QH (ha:PT X a tA):PW X (.BoolOp .And [a] pos) tA:=by
 intro wh pins s σ H Q I h
 refine isTrue_and (ig (ha pins s σ H Q I h) fun c s1 e=>?_)
 cases c with
 | true=>exact isTrue_and_nil e
 | false=>exact e
theorem adK (ha:PT X a tA):PW X (.BoolOp .Or [a] pos) tA:=by
 intro wh pins s σ H Q I h
 refine isTrue_or (ig (ha pins s σ H Q I h) fun c s1 e=>?_)
 cases c with
 | false=>exact isTrue_or_nil e
 | true=>exact e
theorem Vy (ha:PT X a tA) (hb:PW X (.BoolOp .And (b::rest) pos) tB'):PW X (.BoolOp .And (a::b::rest) pos) (aiY tA tB'):=by
 intro wh pins s σ H Q I h
 refine isTrue_and (ig (ha pins s σ H _ I h) fun c s1 ⟨H1,I1,q1⟩=>?_)
 cases c with
 | true=>exact hb wh pins s1 σ H1 Q I1 q1
 | false=>exact ⟨H1,I1,q1⟩
theorem agk (ha:PT X a tA) (hb:PW X (.BoolOp .Or (b::rest) pos) tB'):PW X (.BoolOp .Or (a::b::rest) pos) (tOr tA tB'):=by
 intro wh pins s σ H Q I h
 refine isTrue_or (ig (ha pins s σ H _ I h) fun c s1 ⟨H1,I1,q1⟩=>?_)
 cases c with
 | true=>exact ⟨H1,I1,q1⟩
 | false=>exact hb wh pins s1 σ H1 Q I1 q1
theorem adL (ha:PT X a tA):PT X (.UnaryOp .Not a pos) (aiZ tA):=by
 intro pins s σ H Q I h
 exact isTrue_not (ha pins s σ H (fun c H1=>Q (!c) H1) I h)
def agl (ta:TE):TE:=fun σ H Q=>ta σ H fun x H1=>∃ c,x=.bl c/\Q (.bl (!c)) H1
theorem adM (ha:PE X a ta):PE X (.UnaryOp .Not a pos) (agl ta):=by
 intro pins s σ H Q I h
 refine UnaryOp_ (ig (ha pins s σ H _ I h) fun v s1 ⟨x,H1,I1,r1,q1⟩=>?_)
 obtain ⟨c,rfl,q1⟩:=q1
 cases r1
 exact not_of (wpAny_truthy_bool ⟨.bl (!c),H1,I1,rfl,q1⟩)
end
end L2
namespace L2
open PySem PySem.Spec PyProof.Rows
def rG (K:PySem.W.Frag) (H:Hp) (a:Addr) (xs:List V):Prop :=
 Rd H a (.lst xs) ∨
  ∃ (o:Obj) (its:Array Value) (n:Nat),K.lookup a=some o/\o.cls=.type "list"/\o.dict=none/\o.data=.seq its n/\its.size<=sizeLine/\Vals xs its.toList
def lK (K:PySem.W.Frag) (H:Hp) (a:Addr) (xs:List V):Prop :=
 Rd H a (.tup xs) ∨
  ∃ (o:Obj) (its:Array Value) (n:Nat),K.lookup a=some o/\o.cls=.type "tuple"/\o.data=.seq its n/\its.size<=sizeLine/\Vals xs its.toList
def aja:Value->Option V
 | .none=>some .non
 | .bool b=>some (.bl b)
 | .int i _=>some (.int i)
 | .str x _=>some (.str x)
 | .bytes b _=>some (.byt b)
 | .float b _=>some (.flt b)
 | .ref a=>some (.ref a)
 | .type n=>some (.ty n)
 | _=>none
theorem RelV.abs {x:V} {u:Value} (r:RelV x u):aja u=some x:=by
 cases x with
 | non=>cases r;rfl
 | bl _=>cases r;rfl
 | int _=>obtain ⟨t,rfl⟩:=r;rfl
 | str _=>obtain ⟨t,rfl⟩:=r;rfl
 | byt _=>obtain ⟨t,rfl⟩:=r;rfl
 | flt _=>obtain ⟨t,rfl⟩:=r;rfl
 | ref _=>cases r;rfl
 | ty _=>cases r;rfl
theorem RelV.inj {x y:V} {u:Value} (r:RelV x u) (q:RelV y u):x=y:=Option.some.inj (r.abs.symm.trans q.abs)
theorem Vals.inj:∀ {xs ys:List V} {us:List Value},Vals xs us->Vals ys us->xs=ys
 | _,_,_,.nil,.nil=>rfl
 | _,_,_,.cons r t,.cons r' t'=>by rw [r.inj r',Vals.inj t t']
section
variable {X:Cx} {pins:List (Addr×Obj)} {σ:St} {H:Hp} {s:Shared} {a:Addr} {xs ys:List V}
theorem rG.of {K:PySem.W.Frag} (h:H a=some (.lst xs)):rG K H a xs:=.inl (.inl h)
theorem lK.of {K:PySem.W.Frag} (h:H a=some (.tup xs)):lK K H a xs:=.inl (.inl h)
theorem Inv.list (I:Inv X pins σ H s) (h:rG X.K H a xs):∃ its:List Value,Vals xs its/\PlainL s.heap a its.toArray/\xs.length<=sizeLine:=by
 rcases h with h|⟨o,its,n,hk,hc,hd,hs,hz,r⟩
 ·obtain ⟨z,its,n,r,e⟩:=h.ok I.hok
  exact ⟨its,r,⟨_,n,e,rfl,rfl,rfl⟩,z⟩
 ·refine ⟨its.toList,r,⟨o,n,I.QD a o hk,hc,hd,by simpa using hs⟩,?_⟩
  have e:=r.length
  simp only [Array.length_toList] at e
  omega
theorem Inv.tuple (I:Inv X pins σ H s) (h:lK X.K H a xs):∃ its:List Value,Vals xs its/\IsTup s.heap a its.toArray/\xs.length<=sizeLine:=by
 rcases h with h|⟨o,its,n,hk,hc,hs,hz,r⟩
 ·obtain ⟨z,its,r,p⟩:=h.ok I.hok
  exact ⟨its,r,p,z⟩
 ·refine ⟨its.toList,r,⟨o,I.QD a o hk,hc,n,by simpa using hs⟩,?_⟩
  have e:=r.length
  simp only [Array.length_toList] at e
  omega
theorem Inv.Jj (I:Inv X pins σ H s) (h:rG X.K H a xs) (h':rG X.K H a ys):xs=ys:=by
 obtain ⟨its,r,⟨o,n,e,_,_,d⟩,_⟩:=I.list h
 obtain ⟨its',r',⟨o',n',e',_,_,d'⟩,_⟩:=I.list h'
 rw [e] at e';cases e'
 rw [d] at d'
 injection d' with d1 _
 have:its=its':=by simpa using congrArg Array.toList d1
 subst this
 exact r.inj r'
theorem Inv.CV (I:Inv X pins σ H s) (h:lK X.K H a xs) (h':lK X.K H a ys):xs=ys:=by
 obtain ⟨its,r,⟨o,e,_,n,d⟩,_⟩:=I.tuple h
 obtain ⟨its',r',⟨o',e',_,n',d'⟩,_⟩:=I.tuple h'
 rw [e] at e';cases e'
 rw [d] at d'
 injection d' with d1 _
 have:its=its':=by simpa using congrArg Array.toList d1
 subst this
 exact r.inj r'
end
abbrev Cx.wish (X:Cx) (E:Value->Shared->Prop):Cx:={ X with xe:=E }
abbrev Cx.nox (X:Cx):Cx:=X.wish fun _ _=>False
theorem Cx.Ok.wish {X:Cx} (ok:X.Ok) (E:Value->Shared->Prop):(X.wish E).Ok :=
 ⟨ok.mod,ok.kind,ok.glob,ok.blt,ok.above,ok.inj,ok.has,ok.cab,ok.hd,ok.frames,ok.stk,ok.exf,ok.bs,ok.bsz,ok.Tc,ok.aag,ok.yp,ok.frf⟩
theorem Cx.Ok.pA {X:Cx} {E:Value->Shared->Prop} (ok:(X.wish E).Ok):X.Ok :=
 ⟨ok.mod,ok.kind,ok.glob,ok.blt,ok.above,ok.inj,ok.has,ok.cab,ok.hd,ok.frames,ok.stk,ok.exf,ok.bs,ok.bsz,ok.Tc,ok.aag,ok.yp,ok.frf⟩
section
variable {X:Cx} {pins:List (Addr×Obj)} {σ:St} {H:Hp} {s:Shared} {E:Value->Shared->Prop}
theorem Inv.wish (I:Inv X pins σ H s) (E:Value->Shared->Prop):Inv (X.wish E) pins σ H s:=⟨I.ok.wish E,I.os,I.bare,I.base,I.loc,I.cell,I.free,I.pq,I.pin,I.hok,I.len⟩
theorem Inv.pA (I:Inv (X.wish E) pins σ H s):Inv X pins σ H s:=⟨I.ok.pA,I.os,I.bare,I.base,I.loc,I.cell,I.free,I.pq,I.pin,I.hok,I.len⟩
theorem SP.pA {D:Ends} {f:Flow} {s':Shared} (h:SP (X.wish E) pins D f s'):SP X pins D f s':=by
 cases f with
 | next=>obtain ⟨σ',H',I,q⟩:=h;exact ⟨σ',H',I.pA,q⟩
 | brk=>obtain ⟨σ',H',I,q⟩:=h;exact ⟨σ',H',I.pA,q⟩
 | cont=>obtain ⟨σ',H',I,q⟩:=h;exact ⟨σ',H',I.pA,q⟩
 | ret u=>obtain ⟨v,σ',H',I,r,q⟩:=h;exact ⟨v,σ',H',I.pA,r,q⟩
end
section
variable {X:Cx} {st:Stmt} {rest:List Stmt} {t u:TS} {e:Expr} {te:TE} {pos:Pos}
def agn:TS:=fun D σ H=>D.nx σ H
def ajb (t u:TS):TS:=fun D σ H=>t { D with nx:=u D } σ H
theorem aai:Ng X [] agn:=fun _ _ σ H _ I h=>wpAny_execs_nil ⟨σ,H,I,h⟩
theorem Vz (h1:PS X st t) (h2:Ng X rest u):Ng X (st::rest) (ajb t u):=by
 intro pins s σ H D I h
 refine wpAny_execs_cons (ig (h1 pins s σ H { D with nx:=u D } I h) fun f s1 q=>?_)
 cases f with
 | next =>
  obtain ⟨σ',H',I',q⟩:=q
  exact h2 pins s1 σ' H' D I' q
 | ret v=>exact q
 | brk=>exact q
 | cont=>exact q
theorem aaj (h1:PS X st t):Ng X [st] t:=by
 intro pins s σ H D I h
 refine wpAny_execs_cons (ig (h1 pins s σ H D I h) fun f s1 q=>?_)
 cases f with
 | next=>exact wpAny_execs_nil q
 | ret v=>exact q
 | brk=>exact q
 | cont=>exact q
theorem Inv.quiet {pins:List (Addr×Obj)} {σ:St} {H:Hp} {s:Shared} (I:Inv X pins σ H s):interactive X.env=false:=by simp [interactive,I.ok.kind]
def ago (te:TE):TS:=fun D σ H=>te σ H fun _ H1=>D.nx σ H1
theorem QJ (he:PE X e te) (hs:swapsWith e none pos.line X.env=pure false:=by rfl):PS X (.Expr e pos) (ago te):=by
 intro pins s σ H D I h
 exact wpAny_Expr_any (ig (he pins s σ H _ I h) fun v s1 ⟨x,H1,I1,r1,q1⟩=>⟨σ,H1,I1,q1⟩) I.quiet hs
def ajc (te:TE):TS:=fun D σ H=>te σ H D.rt
theorem Nh (he:PE X e te):PS X (.Return (some e) pos) (ajc te):=by
 intro pins s σ H D I h
 exact wpAny_Return_some (ig (he pins s σ H _ I h) fun v s1 ⟨x,H1,I1,r1,q1⟩=>⟨x,σ,H1,I1,r1,q1⟩)
def ajd (c:TT) (t u:TS):TS:=fun D σ H=>c σ H fun b H1=>if b=true then t D σ H1 else u D σ H1
theorem acS {c:Expr} {a b:List Stmt} {tc:TT} (hc:PT X c tc) (ha:Ng X a t) (hb:Ng X b u):PS X (.If c a b pos) (ajd tc t u):=by
 intro pins s σ H D I h
 refine wpAny_If (ig (hc pins s σ H _ I h) fun d s1 ⟨H1,I1,q1⟩=>?_)
 cases d with
 | true=>exact ha pins s1 σ H1 D I1 q1
 | false=>exact hb pins s1 σ H1 D I1 q1
end
abbrev TG:=V->St->Hp->(St->Hp->Prop)->Prop
abbrev TGs:=List V->St->Hp->(St->Hp->Prop)->Prop
def PG (X:Cx) (target:Expr) (t:TG):Prop :=
 ∀ (pins:List (Addr×Obj)) (s:Shared) (σ:St) (H:Hp) (v:V) (u:Value) (Q:St->Hp->Prop),Inv X pins σ H s->RelV v u->t v σ H Q ->
  wpAny (model X.prog X.w) X.A (assign target X.env u) (fun _ s'=>∃ σ' H',Inv X pins σ' H' s'/\Q σ' H') X.xe s
def ZV (X:Cx) (ts:List Expr) (t:TGs):Prop :=
 ∀ (pins:List (Addr×Obj)) (s:Shared) (σ:St) (H:Hp) (vs:List V) (us:List Value) (Q:St->Hp->Prop),Inv X pins σ H s->Vals vs us->t vs σ H Q ->
  wpAny (model X.prog X.w) X.A (assignInOrder ((assignEach ts X.env).map (·.2)) us) (fun _ s'=>∃ σ' H',Inv X pins σ' H' s'/\Q σ' H') X.xe s
abbrev aal:=V->V->V->Hp->(Hp->Prop)->Prop
def adN (X:Cx) (t:aal):Prop :=
 ∀ (pins:List (Addr×Obj)) (s:Shared) (σ:St) (H:Hp) (o i v:V) (ov iv u:Value) (Q:Hp->Prop),Inv X pins σ H s->RelV o ov->RelV i iv->RelV v u->t o i v H Q ->
  wpAny (model X.prog X.w) X.A (setItem ov iv u) (fun _ s'=>∃ H',Inv X pins σ H' s'/\Q H') X.xe s
section
variable {X:Cx} {pos:Pos}
def acT (i:Nat):TG:=fun v σ H Q=>Q (σ.set i (some v)) H
theorem QK {i:Nat} {x:Str} (hN:X.N.Nodup) (hi:X.N[i]?=some x) (hx:Jg X.env.scope x) (hf:X.fn x=true∨X.env.scope.names.lookup x=some .local:=by first|exact .inl rfl|exact .inr rfl|assumption):PG X (.Name x pos) (acT i):=by
 intro pins s σ H v u Q I r h
 exact wpAny_assign_Name (Ji I hN hi hx r (fun s' I'=>⟨_,H,I',h⟩) hf)
def aje:TGs:=fun vs σ H Q=>vs=[]/\Q σ H
def agp (t:TG) (u:TGs):TGs:=fun vs σ H Q=>∃ v r,vs=v::r/\t v σ H fun σ' H'=>u r σ' H' Q
theorem QL:ZV X [] aje:=by
 intro pins s σ H vs us Q I r h
 obtain ⟨e,h⟩:=h
 subst e
 cases r
 exact assignInOrder_nil ⟨σ,H,I,h⟩
theorem yr {e:Expr} {es:List Expr} {t:TG} {u:TGs} (h1:PG X e t) (h2:ZV X es u)
  (hs:(assignEach (e::es) X.env).map (·.2)=assign e X.env::(assignEach es X.env).map (·.2):=by rfl):ZV X (e::es) (agp t u):=by
 intro pins s σ H vs us Q I r h
 obtain ⟨v,vr,e1,h⟩:=h
 subst e1
 cases r with
 | cons r rr =>
  rw [hs]
  refine assignInOrder_cons (ig (h1 pins s σ H _ _ _ I r h) fun _ s1 ⟨σ1,H1,I1,q1⟩=>?_)
  exact h2 pins s1 σ1 H1 _ _ Q I1 rr q1
def dD (K:PySem.W.Frag) (n:Nat) (t:TGs):TG:=fun v σ H Q=>∃ a xs,v=.ref a/\lK K H a xs/\xs.length=n/\t xs σ H Q
theorem VB {es:List Expr} {k:Nat} {t:TGs} {n:Nat} (hc:X.calm=true) (h:ZV X es t)
  (hn:(assignEach es X.env).length=n:=by rfl) (hst:(assignEach es X.env).findIdx? (·.1)=none:=by rfl):PG X (.Tuple es k pos) (dD X.K n t):=by
 intro pins s σ H v u Q I r hw
 obtain ⟨a,xs,e1,hq,hl,hw⟩:=hw
 subst e1
 cases r
 obtain ⟨its,rv,ht,hz⟩:=I.tuple hq
 refine assign_Tuple_tuple (I.ok.hd hc) ht (by simp [hn,<- hl,rv.length]) hst fun h' hx=>?_
 have I1:Inv X pins σ H { s with heap:=h' }:=I.kept (t':=s.toks) fun b o e=>hx b o (Nat.ne_of_lt (Heap.lt_size e)) e
 exact h pins _ σ H xs _ Q I1 (by simpa using rv) hw
def iw (to ti:TE) (t:aal):TG:=fun v σ H Q=>to σ H fun o H1=>ti σ H1 fun i H2=>t o i v H2 fun H3=>Q σ H3
theorem Ni {o i:Expr} {to ti:TE} {t:aal} (ho:PE X o to) (hi:PE X i ti) (hs:adN X t)
  (ha:∀ v,assign (.Subscript o i pos) X.env v=(do
   let ov <- holding [v] (eval o X.env)
   let iv <- holding [v,ov] (eval i X.env)
   standAt pos
   holding [v,ov,iv] (setItem ov iv v)
   release [v,ov,iv] []):=by intro _;rfl):PG X (.Subscript o i pos) (iw to ti t):=by
 intro pins s σ H v u Q I r h
 rw [ha]
 refine wpAny_bind (wpAny_holding (ig (ho pins s σ H _ I h) fun ov s1 ⟨x,H1,I1,r1,q1⟩=>?_))
 refine wpAny_bind (wpAny_holding (ig (hi pins s1 σ H1 _ I1 q1) fun iv s2 ⟨y,H2,I2,r2,q2⟩=>?_))
 refine wpAny_bind (wpAny_standAt (wpAny_bind (wpAny_holding (ig (hs pins s2 σ H2 x y v ov iv u _ I2 r1 r2 r q2) fun _ s3 ⟨H3,I3,q3⟩=>?_))))
 exact wpAny_release ⟨σ,H3,I3,q3⟩
def agq (te:TE) (g:TG):TS:=fun D σ H=>te σ H fun x H1=>g x σ H1 D.nx
theorem Nj {tg e:Expr} {te:TE} {g:TG} (he:PE X e te) (hg:PG X tg g) (hs:swapsWithSole [tg] e pos.line X.env=pure false:=by rfl) (hw:swappedStores [tg] e X.env=pure none:=by rfl)
  (h1:(assignEach [tg] X.env).map (·.2)=[assign tg X.env]:=by rfl):PS X (.Assign [tg] e pos) (agq te g):=by
 intro pins s σ H D I h
 refine wpAny_Assign_stores (ig (he pins s σ H _ I h) fun v s1 ⟨x,H1,I1,r1,q1⟩=>?_) hs hw
 rw [h1]
 exact ig (hg pins s1 σ H1 x v _ I1 r1 q1) fun _ s2 q=>q
theorem vp {i:Nat} {x:Str} {e:Expr} {te:TE} {pos':Pos} (hN:X.N.Nodup) (hi:X.N[i]?=some x) (hx:Jg X.env.scope x) (he:PE X e te) (hs:swapsWith e (some (.Name x pos')) pos.line X.env=pure false:=by rfl) (hf:X.fn x=true∨X.env.scope.names.lookup x=some .local:=by first|exact .inl rfl|exact .inr rfl|assumption) :
  PS X (.Assign [.Name x pos'] e pos) (agq te (acT i)):=by
 intro pins s σ H D I h
 refine wpAny_Assign_Name (ig (he pins s σ H _ I h) fun v s1 ⟨y,H1,I1,r1,q1⟩=>?_) hs
 exact Ji I1 hN hi hx r1 (fun s2 I2=>⟨_,H1,I2,q1⟩) hf
end
section
variable {X:Cx} {pos:Pos}
end
structure It where
 go:Nat->Hp->Prop
 yld:Nat->Hp->V->Hp->Prop
 stop:Nat->Hp->Prop
def wU (X:Cx) (pins:List (Addr×Obj)) (H:Hp) (b:Addr):Prop :=
 H b=none/\b≠X.env.locals/\b∉X.fs/\(b∈X.ex∨X.s₀.heap.objs.size<=b)/\(∀ x c,X.env.cells.lookup x=some c->c≠b)/\∀ p∈X.pn++pins,p.1≠b
theorem Inv.aam {X:Cx} {pins:List (Addr×Obj)} {σ:St} {H H':Hp} {s:Shared} {b:Addr} (I:Inv X pins σ H s) (hb:s.heap.objs.size<=b) (hn:H' b=none):wU X pins H' b:=by
 refine ⟨hn,Nat.ne_of_gt (Nat.lt_of_lt_of_le I.lt hb),I.aiW hb,.inr (Nat.le_trans I.sz hb),fun x c e z=>?_,fun p hp z=>?_⟩
 ·obtain ⟨v,q⟩:=I.cell x c e
  exact absurd (Nat.lt_of_lt_of_le q.lt (by rw [z];exact hb)) (Nat.lt_irrefl _)
 ·exact absurd (Nat.lt_of_lt_of_le (Heap.lt_size (I.pin p hp).1) (by rw [z];exact hb)) (Nat.lt_irrefl _)
structure Turn (P:Program) (w:World) (K:PySem.W.Frag) (tg:Expr) (J:It) (fp:List Addr) (it:Addr) (tn:Nat->Heap->Prop):Prop where
  mem:it∈fp
  obj:∀ i h,tn i h->∀ b∈fp,∃ o,h.get? b=some o/\∀ v,o.data≠.cell v
  keep:∀ i h h',tn i h->(∀ b∈fp,∀ o,h.get? b=some o->h'.get? b=some o)->tn i h'
  item:∀ (X:Cx),X.prog=P->X.w=w->X.K=K->X.calm=true->∀ (i:Nat) (pins:List (Addr×Obj)) (s:Shared) (σ:St) (H:Hp) (E:Value->Shared->Prop),Inv X pins σ H s->(∀ b∈fp,wU X pins H b)->tn i s.heap->J.go i H ->
    wpAny (model P w) X.A (pyNext (.ref it)) (fun r s1=>∃ u,r=some u /\
      wpAny (model P w) X.A (letOwnedTupleGo tg (.ref it) u) (fun _ s2=>∃ x H',Inv X pins σ H' s2/\RelV x u/\J.yld i H x H'/\tn (i + 1) s2.heap/\∀ b∈fp,H' b=none) E s1) E s
  done : ∀ (X : Cx), X.prog = P -> X.w = w -> X.K = K -> X.calm = true -> ∀ (i : Nat) (pins : List (Addr × Obj)) (s : Shared) (σ : St) (H : Hp) (E : Value -> Shared -> Prop), Inv X pins σ H s -> (∀ b ∈ fp, wU X pins H b) -> tn i s.heap -> J.stop i H ->
    wpAny (model P w) X.A (pyNext (.ref it)) (fun r s1=>r=none/\Inv X pins σ H s1) E s
  self:∀ (A:Around) (i:Nat) (s:Shared) (Q:Value->Shared->Prop) (E:Value->Shared->Prop),tn i s.heap->Q (.ref it) s->wpAny (model P w) A (pyIter (.ref it)) Q E s
abbrev TI:=St->Hp->(It->Hp->Prop)->Prop
def PIE (X:Cx) (pins:List (Addr×Obj)) (σ:St) (tg:Expr) (R:It->Hp->Prop) (itv:Value) (s2:Shared):Prop :=
 ∃ (it:Addr) (fp:List Addr) (tn:Nat->Heap->Prop) (J:It) (H':Hp),itv=.ref it/\Inv X pins σ H' s2/\Turn X.prog X.w X.K tg J fp it tn/\tn 0 s2.heap/\(∀ b∈fp,wU X pins H' b)/\R J H'
def PI (X:Cx) (tg iter:Expr) (wi:TI):Prop :=
 ∀ (pins:List (Addr×Obj)) (s:Shared) (σ:St) (H:Hp) (R:It->Hp->Prop),Inv X pins σ H s->wi σ H R ->
  wpAny (model X.prog X.w) X.A (eval iter X.env) (fun v s1=>wpAny (model X.prog X.w) X.A (pyIter v) (PIE X pins σ tg R) X.xe s1) X.xe s
theorem VD {M:Model} {A:Around} {E:Value->Shared->Prop} {s:Shared} {tg:Expr} {it:Addr} {u:Value} {o:Obj} {n:String} {vs:Array Value} {Q:Unit->Shared->Prop} (ho:s.heap.get? it=some o) (hc:o.cls=.type n) (hd:o.data=.fields vs)
    (hn:["enumerate","zip","dict_itemiterator","dict_reverseitemiterator","odict_iterator","itertools.zip_longest","itertools.pairwise"].contains n=false) (hQ:Q () s):wpAny M A (letOwnedTupleGo tg (.ref it) u) Q E s:=by
  unfold letOwnedTupleGo
  cases tg <;> first
    | exact wpAny_pure hQ
    | (cases u <;> first
        | exact wpAny_pure hQ
        | (refine wpAny_bind (wpAny_load ho ?_)
           rw [hc,hd]
           show wpAny M A (if (["enumerate","zip","dict_itemiterator","dict_reverseitemiterator","odict_iterator","itertools.zip_longest","itertools.pairwise"].contains n && vs[0]? == some (rawInt _))=true then _ else _) Q E s
           rw [if_neg (by intro h;rw [hn,Bool.false_and] at h;cases h)]
           exact wpAny_pure hQ))
def Itl (K:PySem.W.Frag) (a:Addr):It :=
 ⟨fun i H=>∃ xs x,rG K H a xs/\xs[i]?=some x,fun i H x H'=>H'=H/\∀ xs,rG K H a xs->xs[i]?=some x,fun i H=>∃ xs,rG K H a xs/\xs.length<=i⟩
def Itt (K:PySem.W.Frag) (a:Addr):It :=
 ⟨fun i H=>∃ xs x,lK K H a xs/\xs[i]?=some x,fun i H x H'=>H'=H/\∀ xs,lK K H a xs->xs[i]?=some x,fun i H=>∃ xs,lK K H a xs/\xs.length<=i⟩
def Itr (lo:Int) (n:Nat):It:=⟨fun i _=>i < n,fun i H x H'=>H'=H/\x=.int (lo + i),fun i _=>n<=i⟩
theorem Te {P:Program} {w:World} {K:PySem.W.Frag} {tg:Expr} (a it:Addr):Turn P w K tg (Itl K a) [it] it (fun i h=>h.IsListIter it a i) where
  mem:=by simp
  obj:=fun i h st b hb=>by
    have e:b=it:=by simpa using hb
    subst e
    obtain ⟨o,e,c,d⟩:=st
    exact ⟨o,e,fun v z=>by rw [d] at z;cases z⟩
  keep:=fun i h h' st k=>st.at fun o e=>k it (by simp) o e
  item:=by
    intro X hP hw hK hc i pins s σ H E I hf st hg
    subst hP hw hK
    obtain ⟨xs,x,hq,hx⟩:=hg
    obtain ⟨its,rv,p,hz⟩:=I.list hq
    obtain ⟨u,hu,ru⟩:=rv.get hx
    obtain ⟨f0,f1,f2,f3,f4,f5⟩:=hf it (by simp)
    refine wpAny_pyNext_list_item st p.isList (x:=u) (by simpa using hu) fun h' st' sb=>?_
    have I1:Inv X pins σ H { s with heap:=h' }:=I.turned (t':=s.toks) (fun b o hb e=>(sb.2 b hb).trans e) f0 f1 f3 f4 f5
    obtain ⟨o,e,c,d⟩:=id st'
    exact ⟨u,rfl,VD (s:={ s with heap:=h' }) e c d (by decide) ⟨x,H,I1,ru,⟨rfl,fun ys hy=>by rw [I.Jj hy hq];exact hx⟩,st',fun b hb=>(hf b hb).1⟩⟩
  done := by
    intro X hP hw hK hc i pins s σ H E I hf st hg
    subst hP hw hK
    obtain ⟨xs,hq,hx⟩:=hg
    obtain ⟨its,rv,p,hz⟩:=I.list hq
    obtain ⟨f0,f1,f2,f3,f4,f5⟩:=hf it (by simp)
    have hl:=rv.length
    exact wpAny_pyNext_list_end (I.ok.hd hc) st p.isList (by simp;omega) fun h' eb=>⟨rfl,I.turned (t':=s.toks) (fun b o hb e=>eb b o hb e) f0 f1 f3 f4 f5⟩
  self:=fun _ _ _ _ _ st h=>wpAny_pyIter_listiter st h
theorem Nk {P:Program} {w:World} {K:PySem.W.Frag} {tg:Expr} (a it:Addr):Turn P w K tg (Itt K a) [it] it (fun i h=>h.IsTupleIter it a i) where
  mem:=by simp
  obj:=fun i h st b hb=>by
    have e:b=it:=by simpa using hb
    subst e
    obtain ⟨o,e,c,d⟩:=st
    exact ⟨o,e,fun v z=>by rw [d] at z;cases z⟩
  keep:=fun i h h' st k=>st.at fun o e=>k it (by simp) o e
  item:=by
    intro X hP hw hK hc i pins s σ H E I hf st hg
    subst hP hw hK
    obtain ⟨xs,x,hq,hx⟩:=hg
    obtain ⟨its,rv,p,hz⟩:=I.tuple hq
    obtain ⟨u,hu,ru⟩:=rv.get hx
    obtain ⟨f0,f1,f2,f3,f4,f5⟩:=hf it (by simp)
    refine wpAny_pyNext_tuple_item st (show s.heap.IsTuple a its.toArray from p) (x:=u) (by simpa using hu) fun h' st' sb=>?_
    have I1:Inv X pins σ H { s with heap:=h' }:=I.turned (t':=s.toks) (fun b o hb e=>(sb.2 b hb).trans e) f0 f1 f3 f4 f5
    obtain ⟨o,e,c,d⟩:=id st'
    exact ⟨u,rfl,VD (s:={ s with heap:=h' }) e c d (by decide) ⟨x,H,I1,ru,⟨rfl,fun ys hy=>by rw [I.CV hy hq];exact hx⟩,st',fun b hb=>(hf b hb).1⟩⟩
  done := by
    intro X hP hw hK hc i pins s σ H E I hf st hg
    subst hP hw hK
    obtain ⟨xs,hq,hx⟩:=hg
    obtain ⟨its,rv,p,hz⟩:=I.tuple hq
    obtain ⟨f0,f1,f2,f3,f4,f5⟩:=hf it (by simp)
    have hl:=rv.length
    exact wpAny_pyNext_tuple_end (I.ok.hd hc) st (show s.heap.IsTuple a its.toArray from p) (by simp;omega) fun h' eb=>⟨rfl,I.turned (t':=s.toks) (fun b o hb e=>eb b o hb e) f0 f1 f3 f4 f5⟩
  self:=fun _ _ _ _ _ st h=>wpAny_pyIter_tupleiter st h
theorem Nm {P:Program} {w:World} {K:PySem.W.Frag} {tg:Expr} (it:Addr) (lo:Int) (n:Nat):Turn P w K tg (Itr lo n) [it] it (fun i h=>IsRangeIter h it (lo + (i:Nat) * 1) ((n:Int) - (i:Nat)) 1) where
  mem:=by simp
  obj:=fun i h st b hb=>by
    have e:b=it:=by simpa using hb
    subst e
    exact ⟨_,st,fun v z=>by
      have z':Data.fields _=Data.cell v:=z
      cases z'⟩
  keep:=fun i h h' st k=>k it (by simp) _ st
  item:=by
    intro X hP hw hK hc i pins s σ H E I hf st hg
    subst hP hw hK
    obtain ⟨f0,f1,f2,f3,f4,f5⟩:=hf it (by simp)
    have W:=Walks.range (prog:=X.prog) (w:=X.w) (I.ok.hd hc) it lo 1 n
    refine W.item i s _ _ hg st fun v h' tk hv st' kk=>?_
    obtain ⟨t,rfl⟩:=hv
    have I1:Inv X pins σ H { s with heap:=h',toks:=tk }:=I.turned (fun b o hb e=>kk b o (by simpa using hb) e) f0 f1 f3 f4 f5
    refine ⟨_,rfl,VD (s:={ s with heap:=h',toks:=tk }) (n:="range_iterator") st' rfl rfl (by decide) ⟨.int (lo + i),H,I1,⟨t,?_⟩,⟨rfl,rfl⟩,st',fun b hb=>(hf b hb).1⟩⟩
    rw [Int.mul_one]
  done := by
    intro X hP hw hK hc i pins s σ H E I hf st hg
    subst hP hw hK
    obtain ⟨f0,f1,f2,f3,f4,f5⟩:=hf it (by simp)
    exact wpAny_pyNext_range_end (I.ok.hd hc) st (by have:n<=i:=hg;omega) fun h' eb=>⟨rfl,I.turned (t':=s.toks) (fun b o hb e=>eb b o hb e) f0 f1 f3 f4 f5⟩
  self:=fun _ _ _ _ _ st h=>wpAny_pyIter_rangeiter st h
end L2
namespace L2
open PySem PySem.Spec PyProof.Rows
section
variable {X:Cx} {tg:Expr}
def ags (K:PySem.W.Frag) (tl:TE):TI:=fun σ H R=>tl σ H fun x H1=>∃ a,x=.ref a/\(∃ xs,rG K H1 a xs)/\R (Itl K a) H1
def ajf (K:PySem.W.Frag) (tl:TE):TI:=fun σ H R=>tl σ H fun x H1=>∃ a,x=.ref a/\(∃ xs,lK K H1 a xs)/\R (Itt K a) H1
theorem Ep {l:Expr} {tl:TE} (hl:PE X l tl):PI X tg l (ags X.K tl):=by
 intro pins s σ H R I h
 refine ig (hl pins s σ H _ I h) fun v s1 ⟨x,H1,I1,r1,q1⟩=>?_
 obtain ⟨a,e,⟨xs,hq⟩,q⟩:=q1
 subst e
 cases r1
 obtain ⟨its,rv,p,hz⟩:=I1.list hq
 refine wpAny_pyIter_list p.isList ?_
 refine ⟨s1.heap.objs.size,[s1.heap.objs.size],_,_,H1,rfl,I1.kept (t':=s1.toks) fun b o e=>Heap.get?_push_of_some _ e,Te a _,⟨_,Heap.get?_push_size _ rfl,rfl,rfl⟩,fun b hb=>?_,q⟩
 have e:b=s1.heap.objs.size:=by simpa using hb
 subst e
 exact I1.aam (Nat.le_refl _) (I1.hok.fresh (Nat.le_refl _))
theorem VF {l:Expr} {tl:TE} (hl:PE X l tl):PI X tg l (ajf X.K tl):=by
 intro pins s σ H R I h
 refine ig (hl pins s σ H _ I h) fun v s1 ⟨x,H1,I1,r1,q1⟩=>?_
 obtain ⟨a,e,⟨xs,hq⟩,q⟩:=q1
 subst e
 cases r1
 obtain ⟨its,rv,p,hz⟩:=I1.tuple hq
 refine wpAny_pyIter_tuple (show s1.heap.IsTuple a its.toArray from p) ?_
 refine ⟨s1.heap.objs.size,[s1.heap.objs.size],_,_,H1,rfl,I1.kept (t':=s1.toks) fun b o e=>Heap.get?_push_of_some _ e,Nk a _,⟨_,Heap.get?_push_size _ rfl,rfl,rfl⟩,fun b hb=>?_,q⟩
 have e:b=s1.heap.objs.size:=by simpa using hb
 subst e
 exact I1.aam (Nat.le_refl _) (I1.hok.fresh (Nat.le_refl _))
theorem VG {pins:List (Addr×Obj)} {σ:St} {H:Hp} {s:Shared} {R:It->Hp->Prop} {E:Value->Shared->Prop} {lo hi:Int} {t u v:Tok} {tk:Nat} (I:Inv X pins σ H s) (h1:-(2 ^ 62)<=lo) (h2:lo < 2 ^ 62) (h3:-(2 ^ 62)<=hi) (h4:hi < 2 ^ 62)
  (q:R (Itr lo (hi - lo).toNat) H):wpAny (model X.prog X.w) X.A (pyIter (.ref s.heap.objs.size)) (PIE X pins σ tg R) E { s with heap:=s.heap.push { cls:=.type "range",data:=.fields #[.int lo t,.int hi u,.int 1 v] },toks:=tk }:=by
 refine wpAny_pyIter_range (IsRange.new ..) (small_one h1 h2 h3 h4) ?_
 have I1:Inv X pins σ H { s with heap:=s.heap.push { cls:=.type "range",data:=.fields #[.int lo t,.int hi u,.int 1 v] },toks:=tk }:=I.kept fun b o e=>Heap.get?_push_of_some _ e
 refine ⟨(s.heap.push { cls:=.type "range",data:=.fields #[.int lo t,.int hi u,.int 1 v] }).objs.size,[(s.heap.push { cls:=.type "range",data:=.fields #[.int lo t,.int hi u,.int 1 v] }).objs.size],_,_,H,rfl,
  I1.kept (t':=tk) fun b o e=>Heap.get?_push_of_some _ e,Nm _ lo (hi - lo).toNat,?_,fun b hb=>?_,q⟩
 ·have e1:lo + ((0:Nat):Int) * 1=lo:=by simp
  have e2:(((hi - lo).toNat:Nat):Int) - ((0:Nat):Int)=Builtin.Range.rangeSize lo hi 1:=by rw [rangeSize_one];split <;> omega
  show IsRangeIter _ _ (lo + ((0:Nat):Int) * 1) ((((hi - lo).toNat:Nat):Int) - ((0:Nat):Int)) 1
  rw [e1,e2]
  exact Heap.get?_push_size _ rfl
 ·have e:b=(s.heap.push { cls:=.type "range",data:=.fields #[.int lo t,.int hi u,.int 1 v] }).objs.size:=by simpa using hb
  subst e
  exact I1.aam (Nat.le_refl _) (I1.hok.fresh (Nat.le_refl _))
def agt (ta:TA):TI:=fun σ H R=>ta σ H fun vs H1=>∃ j:Int,vs=[.int j]/\-(2 ^ 62)<=j/\j < 2 ^ 62/\R (Itr 0 j.toNat) H1
theorem CW {a:Expr} {ta:TA} {p pos:Pos} (hg:Gl X "range") (hm:X.mg "range"=none) (ha:PA X [a] ta) (hs:starEach [a] X.env=[(false,eval a X.env)]:=by rfl):PI X tg (.Call (.Name "range" p) [a] [] pos) (agt ta):=by
 intro pins s σ H R I h
 refine Call_ (Eo I hg hm boot_range (PyProof.Rows.callWith_type1 (ig (ha pos pins s σ H _ I h) fun us s1 ⟨vs,H1,I1,r1,q1⟩=>?_) hs rfl))
 obtain ⟨j,e,q1,q2,q⟩:=q1
 subst e
 cases r1 with
 | cons r rr =>
  cases rr
  obtain ⟨t,rfl⟩:=r
  exact call_range_1 (VG I1 (by omega) (by omega) q1 q2 (by simpa using q))
def ajg (wi:TI) (g:TG) (tb:TS):TS:=fun D σ H=>wi σ H fun J H1=>∃ W:Nat->Nat->St->Hp->Prop,(∃ m,W 0 m σ H1)/\∀ i m σ H,W i m σ H ->
 (J.stop i H/\D.nx σ H)∨(J.go i H/\∃ N:St->Hp->Prop,(∀ σ' H',N σ' H'->∃ m',m' < m/\W (i + 1) m' σ' H')/\∀ x H',J.yld i H x H'->g x σ H' fun σ2 H2=>tb { D with nx:=N,ct:=N,bk:=D.nx } σ2 H2)
def vA (fp:List Addr) (h:Heap):List (Addr×Obj):=fp.filterMap fun b=>(h.get? b).map fun o=>(b,o)
theorem mz {fp:List Addr} {h:Heap} {b:Addr} {o:Obj} (hb:b∈fp) (e:h.get? b=some o):(b,o)∈vA fp h:=List.mem_filterMap.mpr ⟨b,hb,by rw [e];rfl⟩
theorem Tf {fp:List Addr} {h:Heap} {p:Addr×Obj} (hp:p∈vA fp h):p.1∈fp/\h.get? p.1=some p.2:=by
 obtain ⟨b,hb,e⟩:=List.mem_filterMap.mp hp
 cases q:h.get? b with
 | none=>rw [q] at e;cases e
 | some o =>
  rw [q] at e
  have e':(b,o)=p:=Option.some.inj e
  subst e'
  exact ⟨hb,q⟩
theorem Inv.pinned {pins:List (Addr×Obj)} {σ:St} {H:Hp} {s:Shared} {fp:List Addr} (I:Inv X pins σ H s) (hf:∀ b∈fp,wU X pins H b) (ho:∀ b∈fp,∃ o,s.heap.get? b=some o/\∀ v,o.data≠.cell v):Inv X (pins++vA fp s.heap) σ H s :=
 I.QF fun p hp=>(List.mem_append.mp hp).elim (fun z=>I.pin p (List.mem_append_right _ z)) fun z=>by
  obtain ⟨hb,e⟩:=Tf z
  obtain ⟨f0,f1,f2,_⟩:=hf p.1 hb
  obtain ⟨o,e',d⟩:=ho p.1 hb
  rw [e] at e';cases e'
  exact ⟨e,f0,f1,f2,d⟩
theorem Inv.tZ {pins pl:List (Addr×Obj)} {σ:St} {H:Hp} {s:Shared} (I:Inv X (pins++pl) σ H s):Inv X pins σ H s:=I.QF fun p hp=>I.pin p (List.mem_append_right _ (List.mem_append_left _ hp))
theorem yt {iter:Expr} {body:List Stmt} {wi:TI} {g:TG} {tb:TS} {pos:Pos} (hp:PassesOwn (model X.prog X.w) X.A X.env X.xe) (hc:X.calm=true) (hi:PI X tg iter wi) (hg:PG X tg g) (hb:Ng X body tb)
  (hs:∀ x,foldedSetIterable iter X.env x=pure x:=by intro _;rfl):PS X (.For tg iter body [] pos) (ajg wi g tb):=by
 intro pins s σ H D I h
 refine wpAny_For (ig (hi pins s σ H _ I h) fun v s1 h1=>ig h1 fun itv s2 h2=>?_) hs
 obtain ⟨it,fp,tn,J,H2,e,I2,T,st2,f2,W,⟨m0,w0⟩,turn⟩:=h2
 subst e
 have stat:∀ {H':Hp},(∀ b∈fp,H' b=none)->∀ b∈fp,wU X pins H' b:=fun hn b hb=>⟨hn b hb,(f2 b hb).2⟩
 refine codeAny_forLoop_any (fun n s'=>∃ i σ' H',Inv X pins σ' H' s'/\tn i s'.heap/\(∀ b∈fp,H' b=none)/\W i n σ' H') ?_ m0 ⟨0,σ,H2,I2,st2,fun b hb=>(f2 b hb).1,w0⟩
 rintro n s3 ⟨i,σ3,H3,I3,st3,fr3,w3⟩
 rcases turn i n σ3 H3 w3 with ⟨stop,qn⟩|⟨go,N,hN,step⟩
 ·refine wpAny_passesOwn hp (ig (T.done X rfl rfl rfl hc i pins s3 σ3 H3 X.xe I3 (stat fr3) st3 stop) fun r s4 ⟨hr,I4⟩=>?_)
  subst hr
  exact wpAny_execs_nil ⟨σ3,H3,I4,qn⟩
 ·refine wpAny_passesOwn hp (ig (T.item X rfl rfl rfl hc i pins s3 σ3 H3 X.xe I3 (stat fr3) st3 go) fun r s4 ⟨u,hr,h4⟩=>?_)
  subst hr
  refine wpAny_passesOwn hp (ig h4 fun _ s5 ⟨x,H5,I5,r5,y5,st5,fr5⟩=>?_)
  have I5':=I5.pinned (stat fr5) (T.obj _ _ st5)
  refine wpAny_passesOwn hp (ig (hg _ s5 σ3 H5 x u _ I5' r5 (step x H5 y5)) fun _ s6 ⟨σ6,H6,I6,q6⟩=>?_)
  refine wpAny_passesOwn hp (ig (hb _ s6 σ6 H6 _ I6 q6) fun f s7 q7=>?_)
  have again:∀ {σ7:St} {H7:Hp},Inv X (pins++vA fp s5.heap) σ7 H7 s7->N σ7 H7->∃ m,m < n/\∃ i σ' H',Inv X pins σ' H' s7/\tn i s7.heap/\(∀ b∈fp,H' b=none)/\W i m σ' H':=fun {σ7 H7} I7 n7=>by
   obtain ⟨m',hm,w7⟩:=hN σ7 H7 n7
   refine ⟨m',hm,i + 1,σ7,H7,I7.tZ,T.keep _ _ _ st5 fun b hb o e=>(I7.pin (b,o) (List.mem_append_right _ (List.mem_append_right _ (mz hb e)))).1,fun b hb=>?_,w7⟩
   obtain ⟨o,e,d⟩:=T.obj _ _ st5 b hb
   exact (I7.pin (b,o) (List.mem_append_right _ (List.mem_append_right _ (mz hb e)))).2.1
  cases f with
  | next=>obtain ⟨σ7,H7,I7,n7⟩:=q7;exact again I7 n7
  | cont=>obtain ⟨σ7,H7,I7,n7⟩:=q7;exact again I7 n7
  | brk=>obtain ⟨σ7,H7,I7,q7⟩:=q7;exact ⟨σ7,H7,I7.tZ,q7⟩
  | ret v=>obtain ⟨x7,σ7,H7,I7,r7,q7⟩:=q7;exact ⟨x7,σ7,H7,I7.tZ,r7,q7⟩
end
theorem Jk {K:PySem.W.Frag} {a:Addr} {xs:List V} {g:TG} {tb:TS} {D:Ends} {σ:St} {H:Hp} (Pv:Nat->St->Hp->Prop) (h0:Pv 0 σ H) (hl:∀ i σ H,i<=xs.length->Pv i σ H->rG K H a xs)
  (hs:∀ i x σ H,xs[i]?=some x->Pv i σ H->g x σ H fun σ2 H2=>tb { D with nx:=Pv (i + 1),ct:=Pv (i + 1),bk:=D.nx } σ2 H2) (hd:∀ σ H,Pv xs.length σ H->D.nx σ H) :
  ∃ W:Nat->Nat->St->Hp->Prop,(∃ m,W 0 m σ H)/\∀ i m σ H,W i m σ H ->
   ((Itl K a).stop i H/\D.nx σ H)∨((Itl K a).go i H/\∃ N:St->Hp->Prop,(∀ σ' H',N σ' H'->∃ m',m' < m/\W (i + 1) m' σ' H')/\∀ x H',(Itl K a).yld i H x H'->g x σ H' fun σ2 H2=>tb { D with nx:=N,ct:=N,bk:=D.nx } σ2 H2):=by
 refine ⟨fun i m σ H=>m=xs.length - i/\i<=xs.length/\Pv i σ H,⟨xs.length,by simp,Nat.zero_le _,h0⟩,?_⟩
 rintro i m σ H ⟨rfl,hi,p⟩
 have q:=hl i σ H hi p
 by_cases hlt:i < xs.length
 ·refine .inr ⟨⟨xs,xs[i],q,by simp [hlt]⟩,Pv (i + 1),fun σ' H' p'=>⟨xs.length - (i + 1),by omega,rfl,hlt,p'⟩,fun x H' y=>?_⟩
  obtain ⟨e,y⟩:=y
  subst e
  exact hs i x σ _ (y xs q) p
 ·have e:i=xs.length:=by omega
  subst e
  exact .inl ⟨⟨xs,q,Nat.le_refl _⟩,hd σ H p⟩
theorem aao {K:PySem.W.Frag} {a:Addr} {xs:List V} {g:TG} {tb:TS} {D:Ends} {σ:St} {H:Hp} (Pv:Nat->St->Hp->Prop) (h0:Pv 0 σ H) (hl:∀ i σ H,i<=xs.length->Pv i σ H->lK K H a xs)
  (hs:∀ i x σ H,xs[i]?=some x->Pv i σ H->g x σ H fun σ2 H2=>tb { D with nx:=Pv (i + 1),ct:=Pv (i + 1),bk:=D.nx } σ2 H2) (hd:∀ σ H,Pv xs.length σ H->D.nx σ H) :
  ∃ W:Nat->Nat->St->Hp->Prop,(∃ m,W 0 m σ H)/\∀ i m σ H,W i m σ H ->
   ((Itt K a).stop i H/\D.nx σ H)∨((Itt K a).go i H/\∃ N:St->Hp->Prop,(∀ σ' H',N σ' H'->∃ m',m' < m/\W (i + 1) m' σ' H')/\∀ x H',(Itt K a).yld i H x H'->g x σ H' fun σ2 H2=>tb { D with nx:=N,ct:=N,bk:=D.nx } σ2 H2):=by
 refine ⟨fun i m σ H=>m=xs.length - i/\i<=xs.length/\Pv i σ H,⟨xs.length,by simp,Nat.zero_le _,h0⟩,?_⟩
 rintro i m σ H ⟨rfl,hi,p⟩
 have q:=hl i σ H hi p
 by_cases hlt:i < xs.length
 ·refine .inr ⟨⟨xs,xs[i],q,by simp [hlt]⟩,Pv (i + 1),fun σ' H' p'=>⟨xs.length - (i + 1),by omega,rfl,hlt,p'⟩,fun x H' y=>?_⟩
  obtain ⟨e,y⟩:=y
  subst e
  exact hs i x σ _ (y xs q) p
 ·have e:i=xs.length:=by omega
  subst e
  exact .inl ⟨⟨xs,q,Nat.le_refl _⟩,hd σ H p⟩
theorem Ti {lo:Int} {n:Nat} {g:TG} {tb:TS} {D:Ends} {σ:St} {H:Hp} (Pv:Nat->St->Hp->Prop) (h0:Pv 0 σ H)
  (hs:∀ i σ H,i < n->Pv i σ H->g (.int (lo + i)) σ H fun σ2 H2=>tb { D with nx:=Pv (i + 1),ct:=Pv (i + 1),bk:=D.nx } σ2 H2) (hd:∀ σ H,Pv n σ H->D.nx σ H) :
  ∃ W:Nat->Nat->St->Hp->Prop,(∃ m,W 0 m σ H)/\∀ i m σ H,W i m σ H ->
   ((Itr lo n).stop i H/\D.nx σ H)∨((Itr lo n).go i H/\∃ N:St->Hp->Prop,(∀ σ' H',N σ' H'->∃ m',m' < m/\W (i + 1) m' σ' H')/\∀ x H',(Itr lo n).yld i H x H'->g x σ H' fun σ2 H2=>tb { D with nx:=N,ct:=N,bk:=D.nx } σ2 H2):=by
 refine ⟨fun i m σ H=>m=n - i/\i<=n/\Pv i σ H,⟨n,by simp,Nat.zero_le _,h0⟩,?_⟩
 rintro i m σ H ⟨rfl,hi,p⟩
 by_cases hlt:i < n
 ·refine .inr ⟨hlt,Pv (i + 1),fun σ' H' p'=>⟨n - (i + 1),by omega,rfl,hlt,p'⟩,fun x H' y=>?_⟩
  obtain ⟨e,y⟩:=y
  subst e y
  exact hs i σ _ hlt p
 ·have e:i=n:=by omega
  subst e
  exact .inl ⟨Nat.le_refl _,hd σ H p⟩
end L2
namespace L2
open PySem PySem.Spec PyProof.Rows
abbrev R2:=V->V->Hp->VK->Prop
def pB (X:Cx) (f:Value->Value->Sem Value) (r:R2):Prop :=
 ∀ (pins:List (Addr×Obj)) (s:Shared) (σ:St) (H:Hp) (x y:V) (v u:Value) (Q:VK),Inv X pins σ H s->RelV x v->RelV y u->r x y H Q ->
  wpAny (model X.prog X.w) X.A (f v u) (EP X pins σ Q) X.xe s
def UnR (X:Cx) (f:Value->Sem Value) (r:V->Hp->VK->Prop):Prop :=
 ∀ (pins:List (Addr×Obj)) (s:Shared) (σ:St) (H:Hp) (x:V) (v:Value) (Q:VK),Inv X pins σ H s->RelV x v->r x H Q ->
  wpAny (model X.prog X.w) X.A (f v) (EP X pins σ Q) X.xe s
def kW (X:Cx) (f:Value) (r:List V->Hp->VK->Prop):Prop :=
 ∀ (pins:List (Addr×Obj)) (s:Shared) (σ:St) (H:Hp) (xs:List V) (us:List Value) (Q:VK),Inv X pins σ H s->Vals xs us->r xs H Q ->
  wpAny (model X.prog X.w) X.A (call f us) (EP X pins σ Q) X.xe s
def tOp (r:R2) (ta tb:TE):TE:=fun σ H Q=>ta σ H fun x H1=>tb σ H1 fun y H2=>r x y H2 Q
def tUn (r:V->Hp->VK->Prop) (ta:TE):TE:=fun σ H Q=>ta σ H fun x H1=>r x H1 Q
def rI (C:Int->Int->Prop) (g:Int->Int->V):R2:=fun x y H Q=>∃ i j,x=.int i/\y=.int j/\C i j/\Q (g i j) H
def ZW (g:Int->Int->V):R2:=fun x y H Q=>∃ i j,x=.int i/\y=.int j/\Q (g i j) H
def rU (g:Int->V):V->Hp->VK->Prop:=fun x H Q=>∃ i,x=.int i/\Q (g i) H
section
variable {X:Cx} {a b c:Expr} {ta tb tc:TE} {pos:Pos}
theorem adQ (ha:PE X a ta) (hb:PE X b tb) {pins:List (Addr×Obj)} {s:Shared} {σ:St} {H:Hp} {R:V->V->Hp->Prop} (I:Inv X pins σ H s)
  (h:ta σ H fun x H1=>tb σ H1 fun y H2=>R x y H2) {Q:Value->Shared->Prop} {f:Value->Value->Sem Value}
  (hf:∀ v u s2 x y H2,Inv X pins σ H2 s2->RelV x v->RelV y u->R x y H2->wpAny (model X.prog X.w) X.A (f v u) Q X.xe s2) :
  wpAny (model X.prog X.w) X.A (eval a X.env) (fun v s₁=>wpAny (model X.prog X.w) X.A (eval b X.env) (fun u s₂=>wpAny (model X.prog X.w) X.A (f v u) Q X.xe s₂) X.xe s₁) X.xe s:=by
 refine ig (ha pins s σ H _ I h) fun v s1 ⟨x,H1,I1,r1,q1⟩=>?_
 refine ig (hb pins s1 σ H1 _ I1 q1) fun u s2 ⟨y,H2,I2,r2,q2⟩=>?_
 exact hf v u s2 x y H2 I2 r1 r2 q2
theorem QM {op:Operator} {r:R2} (ho:pB X (binaryOp op) r) (ha:PE X a ta) (hb:PE X b tb):PE X (.BinOp a op b pos) (tOp r ta tb):=by
 intro pins s σ H Q I h
 exact wpAny_BinOp (adQ ha hb I h fun v u s2 x y H2 I2 rx ry q=>ho pins s2 σ H2 x y v u Q I2 rx ry q)
theorem agu {op:UnaryOp} {r:V->Hp->VK->Prop} (ho:UnR X (unaryOp op) r) (ha:PE X a ta):PE X (.UnaryOp op a pos) (tUn r ta):=by
 intro pins s σ H Q I h
 exact UnaryOp_ (ig (ha pins s σ H _ I h) fun v s1 ⟨x,H1,I1,r1,q1⟩=>ho pins s1 σ H1 x v Q I1 r1 q1)
theorem opI {f:Value->Value->Sem Value} {C:Int->Int->Prop} {g:Int->Int->Int}
  (rule:∀ (i j:Int) (t u:Tok) (s:Shared) (Q:Value->Shared->Prop) (E:Value->Shared->Prop),C i j->Q (.int (g i j) s.toks) { s with toks:=s.toks + 1 }->wpAny (model X.prog X.w) X.A (f (.int i t) (.int j u)) Q E s) :
  pB X f (rI C fun i j=>.int (g i j)):=by
 intro pins s σ H x y v u Q I rx ry h
 obtain ⟨i,j,rfl,rfl,hc,q⟩:=h
 obtain ⟨t,rfl⟩:=rx
 obtain ⟨t',rfl⟩:=ry
 exact rule i j t t' s _ _ hc ⟨.int (g i j),H,I.tok _,⟨_,rfl⟩,q⟩
theorem agv {f:Value->Value->Sem Value} {g:Int->Int->Int}
  (rule:∀ (i j:Int) (t u:Tok) (s:Shared) (Q:Value->Shared->Prop) (E:Value->Shared->Prop),Q (.int (g i j) s.toks) { s with toks:=s.toks + 1 }->wpAny (model X.prog X.w) X.A (f (.int i t) (.int j u)) Q E s) :
  pB X f (ZW fun i j=>.int (g i j)):=by
 intro pins s σ H x y v u Q I rx ry h
 obtain ⟨i,j,rfl,rfl,q⟩:=h
 obtain ⟨t,rfl⟩:=rx
 obtain ⟨t',rfl⟩:=ry
 exact rule i j t t' s _ _ ⟨.int (g i j),H,I.tok _,⟨_,rfl⟩,q⟩
theorem adR {f:Value->Value->Sem Value} {g:Int->Int->Bool}
  (rule:∀ (i j:Int) (t u:Tok) (s:Shared) (Q:Value->Shared->Prop) (E:Value->Shared->Prop),Q (.bool (g i j)) s->wpAny (model X.prog X.w) X.A (f (.int i t) (.int j u)) Q E s) :
  pB X f (ZW fun i j=>.bl (g i j)):=by
 intro pins s σ H x y v u Q I rx ry h
 obtain ⟨i,j,rfl,rfl,q⟩:=h
 obtain ⟨t,rfl⟩:=rx
 obtain ⟨t',rfl⟩:=ry
 exact rule i j t t' s _ _ ⟨.bl (g i j),H,I,rfl,q⟩
def VH (i j:Int):Prop:=0<=j/\j<=1000000/\i.natAbs < 2 ^ 64
def Np (i j:Int):Prop:=(-(2 ^ 64) < i/\i < 2 ^ 64)∨(-(2 ^ 64) < j/\j < 2 ^ 64)
theorem Np.ok {i j:Int} (h:Np i j):IntMulOk i j:=by
 rcases h with ⟨h1,h2⟩|⟨h1,h2⟩
 ·exact .of_left (intBits_le_64 h1 h2)
 ·exact .of_right (intBits_le_64 h1 h2)
theorem adS:pB X (binaryOp .Add) (ZW fun i j=>.int (i + j)):=agv fun _ _ _ _ _ _ _ q=>add_int q
theorem VJ:pB X (binaryOp .Sub) (ZW fun i j=>.int (i - j)):=agv fun _ _ _ _ _ _ _ q=>sub_int q
theorem VL:pB X (binaryOp .Mult) (rI Np fun i j=>.int (i * j)):=opI fun _ _ _ _ _ _ _ hc q=>mul_int q hc.ok
theorem adT:pB X (binaryOp .Mod) (rI (fun _ j=>0 < j) fun i j=>.int (i % j)):=opI fun i j _ _ _ _ _ hc q=>by
 have h1:(0:Int) < j:=hc
 exact mod_int' (by omega) (by rw [Int.fmod_eq_emod_of_nonneg i (by omega)];exact q)
theorem adU:pB X (binaryOp .Pow) (rI VH fun i j=>.int (i ^ j.toNat)):=opI fun _ _ _ _ _ _ _ hc q=>pow_int_small hc.1 hc.2.1 hc.2.2 q
theorem unI {f:Value->Sem Value} {g:Int->Int}
  (rule:∀ (i:Int) (t:Tok) (s:Shared) (Q:Value->Shared->Prop) (E:Value->Shared->Prop),Q (.int (g i) s.toks) { s with toks:=s.toks + 1 }->wpAny (model X.prog X.w) X.A (f (.int i t)) Q E s) :
  UnR X f (rU fun i=>.int (g i)):=by
 intro pins s σ H x v Q I rx h
 obtain ⟨i,rfl,q⟩:=h
 obtain ⟨t,rfl⟩:=rx
 exact rule i t s _ _ ⟨.int (g i),H,I.tok _,⟨_,rfl⟩,q⟩
theorem adV:UnR X (unaryOp .USub) (rU fun i=>.int (-i)):=unI fun _ _ _ _ _ q=>neg_int q
end
section
variable {X:Cx} {a b c:Expr} {ta tb tc:TE} {pos:Pos}
theorem agw:pB X (compareOp .Lt) (ZW fun i j=>.bl (decide (i < j))):=adR fun _ _ _ _ _ _ _ q=>lt_int q
theorem agx:pB X (compareOp .Gt) (ZW fun i j=>.bl (decide (j < i))):=adR fun _ _ _ _ _ _ _ q=>gt_int q
theorem agy:pB X (compareOp .GtE) (ZW fun i j=>.bl (decide (j<=i))):=adR fun _ _ _ _ _ _ _ q=>ge_int q
theorem pB.or {f:Value->Value->Sem Value} {r r':R2} (h:pB X f r) (h':pB X f r'):pB X f (fun x y H Q=>r x y H Q∨r' x y H Q):=by
 intro pins s σ H x y v u Q I rx ry q
 rcases q with q|q
 ·exact h pins s σ H x y v u Q I rx ry q
 ·exact h' pins s σ H x y v u Q I rx ry q
theorem lu (b:Expr) {op:CmpOp} (h:op≠.In:=by decide) (h2:op≠.NotIn:=by decide):behindInMarks op b=false:=by
 have e1:(op == CmpOp.In)=false:=by cases op <;> first|rfl|exact absurd rfl h
 have e2:(op == CmpOp.NotIn)=false:=by cases op <;> first|rfl|exact absurd rfl h2
 cases b <;> simp [behindInMarks,e1,e2]
theorem QS {op:CmpOp} {r:R2} (ho:pB X (compareOp op) r) (ha:PE X a ta) (hb:PE X b tb) (hm:behindInMarks op b=false):PE X (.Compare a [op] [b] pos) (tOp r ta tb):=by
 intro pins s σ H Q I h
 exact wpAny_Compare1 (adQ ha hb I h fun v u s2 x y H2 I2 rx ry q=>ho pins s2 σ H2 x y v u Q I2 rx ry q) hm
def agz (t:TE):TT:=fun σ H Q=>t σ H fun x H'=>∃ k,x=.bl k/\Q k H'
theorem Er {op:CmpOp} {r:R2} (ho:pB X (compareOp op) r) (ha:PE X a ta) (hb:PE X b tb) (hm:behindInMarks op b=false):PT X (.Compare a [op] [b] pos) (agz (tOp r ta tb)):=by
 intro pins s σ H Q I h
 refine wpAny_isTrue_Compare1 (ig (ha pins s σ H _ I h) fun v s1 ⟨x,H1,I1,r1,q1⟩=>ig (hb pins s1 σ H1 _ I1 q1) fun u s2 ⟨y,H2,I2,r2,q2⟩ =>
  ig (ho pins s2 σ H2 x y v u _ I2 r1 r2 q2) fun c s3 ⟨z,H3,I3,r3,k,e,q3⟩=>?_) hm
 subst e
 cases r3
 exact wpAny_truthy_bool ⟨H3,I3,q3⟩
theorem yu:(sizeLine:Nat) < 2 ^ 63:=by rw [sizeLine_eq];decide
theorem QT {x:V} {us:List Value} (r:Vals [x] us):∃ u,us=[u]/\RelV x u:=by
 cases r with
 | cons r1 r2=>cases r2;exact ⟨_,rfl,r1⟩
theorem agA {x y:V} {us:List Value} (r:Vals [x,y] us):∃ u w',us=[u,w']/\RelV x u/\RelV y w':=by
 cases r with
 | cons r1 r2 =>
  cases r2 with
  | cons r3 r4=>cases r4;exact ⟨_,_,rfl,r1,r3⟩
theorem Tj:kW X (.type "int") (fun xs H Q=>(∃ i,xs=[.int i]/\Q (.int i) H)∨∃ k,xs=[.bl k]/\Q (.int (if k then 1 else 0)) H):=by
 intro pins s σ H xs us Q I r h
 rcases h with ⟨i,rfl,q⟩|⟨k,rfl,q⟩
 ·obtain ⟨u,rfl,t,rfl⟩:=QT r
  exact call_int_int ⟨.int i,H,I,⟨_,rfl⟩,q⟩
 ·obtain ⟨u,rfl,r1⟩:=QT r
  cases r1
  exact call_int_bool ⟨.int (if k then 1 else 0),H,I.tok _,⟨_,rfl⟩,q⟩
end
end L2
namespace L2
open PySem PySem.Spec PyProof.Rows
structure alw (h:Heap) (x dx C:Addr) (mA:Str->Option Value):Prop where
 obj:h.get? x=some (PySem.W.instObj C dx)
 ns:h.Ns1 dx mA
 ne:dx≠x
section
variable {prog:Program} {w:World} {A:Around} {E:Value->Shared->Prop} {s:Shared} {K:PySem.W.Frag} {x dx C f:Addr} {mA:Str->Option Value} {name:Str} {v:Value}
end
section
variable {P:Program} {w:World} {H H':Hp} {h h':Heap} {a C dx:Addr} {fs fs':List (Str×V)}
end
structure Cls (K:PySem.W.Frag) (C:Addr):Prop where
 pg:PySem.W.plainGet K C Str.empty=true
 hd:PySem.W.hasDictIn K C=true
 po:PySem.W.plainOver K C=true
 sa:PySem.W.findIn K (.ref C) "__setattr__"=some (some (.builtin "object.__setattr__"))
structure Con (K:PySem.W.Frag) (C:Addr) (f:Str) (v:V) (u:Value):Prop where
 at_:PySem.W.findIn K (.ref C) f=some (some u)
 rel:RelV v u
 get:PySem.W.specialIn K u "__get__"=some none
 cp:PySem.W.copiedNames.contains f=false
structure Meth (K:PySem.W.Frag) (C:Addr) (m:Str) (f:Addr):Prop where
 at_:PySem.W.findIn K (.ref C) m=some (some (.ref f))
 fn:PySem.W.isFn K (.ref f)=true
 kp:PySem.W.keepIn K (.ref f)=true
section
variable {X:Cx} {pins:List (Addr×Obj)} {σ:St} {H:Hp} {s:Shared} {a C dx:Addr} {fs:List (Str×V)} {f:Str} {v:V} {A:Around} {E:Value->Shared->Prop}
end
section
variable {X:Cx} {o e value:Expr} {f:Str} {pos pos' tpos:Pos} {ta tv:TE}
end
section
variable {X:Cx} {pins:List (Addr×Obj)} {σ:St} {H:Hp} {s:Shared} {A:Around} {E:Value->Shared->Prop} {Q:Value->Shared->Prop} {c:Value} {b:Bool}
inductive yw (K:PySem.W.Frag) (H:Hp):V->Value->Prop where
 | non:yw K H .non (.type "NoneType")
 | bl (x:Bool):yw K H (.bl x) (.type "bool")
 | int (i:Int):yw K H (.int i) (.type "int")
 | str (x:Str):yw K H (.str x) (.type "str")
 | flt (x:UInt64):yw K H (.flt x) (.type "float")
 | lst {a:Addr} {xs:List V} (e:H a=some (.lst xs)):yw K H (.ref a) (.type "list")
 | CQ {a:Addr} {o:Obj} {xs:List V} (e:H a=some (.CQ o (.lst xs))):yw K H (.ref a) (.type "list")
 | tup {a:Addr} {xs:List V} (e:H a=some (.tup xs)):yw K H (.ref a) (.type "tuple")
 | dK {a:Addr} {kvs:List (Jd×V)} (e:H a=some (.dK kvs)):yw K H (.ref a) (.type "dict")
 | dT {a:Addr} {kvs:List (List Jd×V)} (e:H a=some (.dT kvs)):yw K H (.ref a) (.type "dict")
 | ins {a C dx:Addr} {fs:List (Str×V)} (e:H a=some (.ins C dx fs)) (cl:Cls K C) (ha:PySem.W.findIn K (.ref C) "__class__"=some (some (.builtin "object.__class__")))
   (hn:PySem.W.specialIn K (.builtin "object.__class__") "__get__"=some (some (.builtin "getset_descriptor.__get__"))) (htk:PySem.W.takesIn K (.builtin "object.__class__")=some true)
   (hm:PySem.W.mroIn K C (.type "object")=some true):yw K H (.ref a) (.ref C)
end
end L2
namespace L2
open PySem PySem.Spec PyProof.Rows
structure ji (k:Nat) (A:Around):Prop where
 hd:A.handled=none
 dp:A.depth + 3 * k + 5 < recursionLimit
 un:A.units + 16 * k + 200 < cLine
theorem ji.mono {j k:Nat} {A:Around} (r:ji k A) (h:j<=k):ji j A:=⟨r.hd,by have:=r.dp;omega,by have:=r.un;omega⟩
theorem ji.deeper {k:Nat} {A:Around} (r:ji (k + 1) A) (env:Env):ji k (A.deeper env) :=
 ⟨r.hd,by have:=r.dp;show A.depth + 1 + 3 * k + 5 < _;omega,by have:=r.un;show A.units + 3 + 16 * k + 200 < _;omega⟩
theorem ji.depth {k:Nat} {A:Around} (r:ji k A):A.depth < recursionLimit:=by have:=r.dp;omega
def agB:TA:=fun _ H Q=>Q [] H
def acU (ta:TE) (tr:TA):TA:=fun σ H Q=>ta σ H fun x H1=>tr σ H1 fun xs H2=>Q (x::xs) H2
section
variable {X:Cx} {e:Expr} {es:List Expr} {te:TE} {t:TA} {pos:Pos}
theorem iy:PA X [] agB:=fun _ _ _ _ H Q I h=>Calls.spliced_nil ⟨[],H,I,.nil,h⟩
theorem cW (ha:PE X e te) (hr:PA X es t) (hs:starEach (e::es) X.env=(false,eval e X.env)::starEach es X.env:=by rfl):PA X (e::es) (acU te t):=by
 intro pos pins s σ H Q I h
 rw [hs]
 show wpAny _ _ (spliced ((false,eval e X.env)::backTo pos (starEach es X.env))) _ _ s
 refine Calls.spliced_cons (ig (ha pins s σ H _ I h) fun u s1 ⟨x,H1,I1,r1,q1⟩=>?_)
 exact ig (hr pos pins s1 σ H1 _ I1 q1) fun us s2 ⟨xs,H2,I2,r2,q2⟩=>⟨x::xs,H2,I2,.cons r1 r2,q2⟩
def ajj (t:TA):TE:=fun σ H Q=>t σ H fun xs H1=>xs.length<=sizeLine/\∀ p,H1 p=none->Q (.ref p) (dY H1 p (.tup xs))
def ajk (t:TA):TE:=fun σ H Q=>t σ H fun xs H1=>xs.length<=sizeLine/\∀ p,H1 p=none->Q (.ref p) (dY H1 p (.lst xs))
theorem VN {x1} (h:PA X es t):PE X (.Tuple es x1 pos) (ajj t):=by
 intro pins s σ H Q I hq
 refine wpAny_Tuple_spliced (ig (h pos pins s σ H _ I hq) fun us s1 ⟨xs,H1,I1,r,z,q⟩=>⟨by rw [<- r.length];exact z,?_⟩)
 have hf:H1 s1.heap.objs.size=none:=I1.hok.fresh (Nat.le_refl _)
 refine ⟨.ref s1.heap.objs.size,dY H1 s1.heap.objs.size (.tup xs),I1.laid (t':=s1.toks) (fun b u e=>Heap.get?_push_of_some _ e) (Nat.le_refl _) ?_,rfl,q _ hf⟩
 exact ⟨z,us,r,⟨_,Heap.get?_push_size _ rfl,rfl,_,rfl⟩⟩
theorem Nq (h:PA X es t):PE X (.List es pos) (ajk t):=by
 intro pins s σ H Q I hq
 refine wpAny_List_spliced (ig (h pos pins s σ H _ I hq) fun us s1 ⟨xs,H1,I1,r,z,q⟩=>⟨by rw [<- r.length];exact z,?_⟩)
 have hf:H1 s1.heap.objs.size=none:=I1.hok.fresh (Nat.le_refl _)
 refine ⟨.ref s1.heap.objs.size,dY H1 s1.heap.objs.size (.lst xs),I1.laid (t':=s1.toks) (fun b u e=>Heap.get?_push_of_some _ e) (Nat.le_refl _) ?_,rfl,q _ hf⟩
 exact ⟨z,us,0,r,Heap.get?_push_size _ rfl⟩
end
abbrev Sp:=List V->Hp->VK->XK->Prop
abbrev ZX:=List Env->Hp->Shared->XK->Value->Shared->Prop
structure aap (P:Program) (w:World) (K:PySem.W.Frag) (mg:Str->Option Value) (base:Heap) (A:Around) (outer:List Env) (s:Shared) (H:Hp):Prop where
 frames:A.frames=some outer
 mod:Mod K mg base
 bs:∀ b o,base.get? b=some o->s.heap.get? b=some o/\H b=none
 bsz:base.objs.size<=s.heap.objs.size
 yp:s.heap.FunFrames base outer
 frf:∀ b∈tY outer,H b=none
 hok:xH P w H s.heap
 bare:AllBare s.gens
def CE (outer:List Env) (P:Program) (w:World) (H:Hp) (s:Shared) (Q:VK) (u:Value) (s':Shared):Prop :=
 ∃ v H',s'.os=s.os/\AllBare s'.gens/\Un (tY outer) [] H H' s.heap s'.heap/\xH P w H' s'.heap/\RelV v u/\Q v H'
def CR (CX:ZX) (outer:List Env) (P:Program) (w:World) (H:Hp) (s:Shared) (Q:VK) (E:XK) (r:Result) (s':Shared):Prop :=
 match r with
 | .ok (.ret u)=>CE outer P w H s Q u s'
 | .ok _=>False
 | .error e=>CX outer H s E e s'
structure yC (P:Program) (w:World) (K:PySem.W.Frag) (mg:Str->Option Value) (base:Heap) (CX:ZX) (k:Nat) (f:Addr) (fd:FuncData) (ps:List Str) (sp:Sp):Prop where
 len:∀ vs H Q E,sp vs H Q E->vs.length=ps.length
 run:∀ (A:Around) (outer:List Env) (s:Shared) (H:Hp) (args:Args) (us:List Value) (vs:List V) (Q:VK) (E:XK),ji k A->aap P w K mg base A outer s H->BindsTo s fd args (ps.zip us)->Vals vs us->sp vs H Q E ->
  codeAny (model P w) A (.call (.ref f) args) (CR CX outer P w H s Q E) s
section
variable {X:Cx} {pins:List (Addr×Obj)} {σ:St} {H:Hp} {s s':Shared}
theorem Inv.env0 (I:Inv X pins σ H s):aap X.prog X.w X.K X.mg X.base X.A X.stack s H :=
 ⟨I.ok.frames,I.ok.mod,I.bs,Nat.le_trans I.ok.bsz I.sz,I.stack,I.En,I.hok,I.bare⟩
theorem Inv.after {Q:VK} {u:Value} (I:Inv X pins σ H s) (h:CE X.stack X.prog X.w H s Q u s'):EP X pins σ Q u s':=by
 obtain ⟨v,H',os,bare,un,hok,r,q⟩:=h
 obtain ⟨hh,g,d,t,os'⟩:=s'
 obtain rfl:os'=s.os:=os
 exact ⟨v,H',I.call (h':=hh) (g':=g) (d':=d) (t':=t) (ch:=[]) un hok bare (fun b z=>absurd z (by simp)),r,q⟩
end
def Binds (K:PySem.W.Frag) (fd:FuncData) (ps:List Str) (ds:List Value):Prop :=
 ∀ (s:Shared) (us:List Value),K.In s.heap->(us++ds).length=ps.length->BindsTo s fd ⟨us,[]⟩ (ps.zip (us++ds))
theorem Binds.all {K:PySem.W.Frag} {fd:FuncData} {ps:List Str} (h:∀ us:List Value,us.length=ps.length->bindArgs fd ⟨us,[]⟩=pure (ps.zip us)):Binds K fd ps []:=fun s us _ hl=>by
 rw [List.append_nil] at hl ⊢
 exact .of_eq (h us hl)
section
variable {X:Cx} {CX:ZX} {k:Nat} {f C:Addr} {fd:FuncData} {ps:List Str} {sp:Sp} {dvs:List V} {ds:List Value} {E:XK} {x m:Str} {p pos apos:Pos} {e o:Expr} {es:List Expr} {ta:TE} {t:TA}
structure Mk (K:PySem.W.Frag) (C f:Addr):Prop where
 makes:PySem.W.makesIn K C=true
 init:PySem.W.findIn K (.ref C) "__init__"=some (some (.ref f))
 fn:PySem.W.isFn K (.ref f)=true
 kp:PySem.W.keepIn K (.ref C)=true
end
section
variable {X:Cx} {CX:ZX} {k:Nat} {f C:Addr} {fd:FuncData} {ps ks:List Str} {sp:Sp} {E:XK} {x m:Str} {p pos apos kpos:Pos} {e o:Expr} {es:List Expr} {kws:List Keyword} {te ta:TE} {t tk:TA} {nm:Option Str}
structure ajl (K:PySem.W.Frag) (fd:FuncData) (ps ks:List Str) (g:List Value->List Value->List Value) (gV:List V->List V->List V):Prop where
 to:∀ (s:Shared) (us ws:List Value),K.In s.heap->(g us ws).length=ps.length->BindsTo s fd ⟨us,ks.zip ws⟩ (ps.zip (g us ws))
 rel:∀ {vs:List V} {us:List Value} {zs:List V} {ws:List Value},Vals vs us->Vals zs ws->Vals (gV vs zs) (g us ws)
variable {g:List Value->List Value->List Value} {gV:List V->List V->List V}
end
structure bU (N P:List Str) (sc:Scope):Prop where
 kind:sc.kind=.function
 co:sc.isCoroutine=false
 gen:sc.isGenerator=false
 nd:N.Nodup
 pre:N.take P.length=P
 par:∀ x∈P,sc.names.lookup x=some .local∨sc.names.lookup x=some .cell
 adW:∀ y∈sc.names,y.2≠.free
theorem CZ {kindOf:Str->Option NameKind} {x:Str}:∀ {binds:List (Str×Value)} {m:Str->Option Value},(∀ v,(x,v)∉binds)->bindL kindOf binds m x=m x
 | [],_,_=>rfl
 | (n,v)::r,m,h=>by
  unfold bindL
  rw [CZ fun w hw=>h w (List.mem_cons_of_mem _ hw)]
  split
  ·have:x≠n:=by rintro rfl;exact h v List.mem_cons_self
   simp [this]
  ·rfl
theorem Dc {kindOf:Str->Option NameKind} {x:Str}:∀ {binds:List (Str×Value)} {m:Str->Option Value},(∀ v,(x,v)∉binds)->bindC kindOf binds m x=m x
 | [],_,_=>rfl
 | (n,v)::r,m,h=>by
  unfold bindC
  rw [Dc fun w hw=>h w (List.mem_cons_of_mem _ hw)]
  split
  ·rfl
  ·have:x≠n:=by rintro rfl;exact h v List.mem_cons_self
   simp [this]
theorem Dd {kindOf:Str->Option NameKind} {x:Str} {v:Value}:∀ {P:List Str} {vs:List Value} {i:Nat} {m:Str->Option Value},P.Nodup->P[i]?=some x->vs[i]?=some v->kindOf x=some .local ->
  bindL kindOf (P.zip vs) m x=some v
 | [],_,_,_,_,h,_,_=>by simp at h
 | _::_,[],_,_,_,_,h,_=>by simp at h
 | p::P,w::vs,0,m,nd,h1,h2,hk=>by
  simp at h1 h2;subst h1;subst h2
  show bindL kindOf ((p,w)::P.zip vs) m p=_
  unfold bindL
  rw [CZ fun v hv=>(List.nodup_cons.mp nd).1 (List.of_mem_zip hv).1,if_pos hk]
  simp
 | p::P,w::vs,i + 1,m,nd,h1,h2,hk=>by
  show bindL kindOf ((p,w)::P.zip vs) m x=_
  unfold bindL
  exact Dd (i:=i) (List.nodup_cons.mp nd).2 (by simpa using h1) (by simpa using h2) hk
theorem Df {kindOf:Str->Option NameKind} {x:Str} {v:Value}:∀ {P:List Str} {vs:List Value} {i:Nat} {m:Str->Option Value},P.Nodup->P[i]?=some x->vs[i]?=some v->kindOf x≠some .local ->
  bindC kindOf (P.zip vs) m x=some v
 | [],_,_,_,_,h,_,_=>by simp at h
 | _::_,[],_,_,_,_,h,_=>by simp at h
 | p::P,w::vs,0,m,nd,h1,h2,hk=>by
  simp at h1 h2;subst h1;subst h2
  show bindC kindOf ((p,w)::P.zip vs) m p=_
  unfold bindC
  rw [Dc fun v hv=>(List.nodup_cons.mp nd).1 (List.of_mem_zip hv).1,if_neg hk]
  simp
 | p::P,w::vs,i + 1,m,nd,h1,h2,hk=>by
  show bindC kindOf ((p,w)::P.zip vs) m x=_
  unfold bindC
  exact Df (i:=i) (List.nodup_cons.mp nd).2 (by simpa using h1) (by simpa using h2) hk
def start (N:List Str) (vs:List V):St:=vs.map some++List.replicate (N.length - vs.length) none
def su (CX:ZX) (P:Program) (w:World) (K:PySem.W.Frag) (mg:Str->Option Value) (base:Heap) (N:List Str) (qual:Str) (scope:Scope) (f:Addr) (cd:Value) (A:Around) (outer:List Env) (s:Shared) (H:Hp) (E:XK):Cx where
 prog:=P
 w:=w
 K:=K
 mg:=mg
 base:=base
 A:=A.deeper (envOfC qual scope s.heap.objs.size f cd)
 N:=N
 s₀:=s
 H₀:=H
 env:=envOfC qual scope s.heap.objs.size f cd
 outer:=outer
 stack:=envOfC qual scope s.heap.objs.size f cd::outer
 ex:=[]
 calm:=true
 fn:=fun _=>true
 pn:=[]
 xe:=fun e s'=>wpAny (model P w) (A.deeper (envOfC qual scope s.heap.objs.size f cd)) (leaving (envOfC qual scope s.heap.objs.size f cd) e) (fun _ s''=>CX outer H s E e s'') (fun e' s''=>CX outer H s E e' s'') s'
theorem Jl {sc:Scope} {n:Nat} {x:Str} (h:sc.names.lookup x=some .cell):∃ c,(cellsFrom n sc.names []).lookup x=some c:=by
 have q:=PySem.W.cellsFrom_some sc.names n [] (.inl h)
 exact Option.isSome_iff_exists.mp q
theorem Tn {CX:ZX} {P:Program} {w:World} {K:PySem.W.Frag} {mg:Str->Option Value} {base:Heap} {N ps:List Str} {qual:Str} {scope:Scope} {f:Addr} {cd:Value} {A:Around} {outer:List Env} {s s1:Shared} {H:Hp} {E:XK} {us:List Value} {vs:List V}
  (S:bU N ps scope) (hd:A.handled=none) (e0:aap P w K mg base A outer s H) (hl:vs.length=ps.length) (r:Vals vs us)
  (x:InCallC s s.heap.objs.size (bindL (envOfC qual scope s.heap.objs.size f cd).kindOf (ps.zip us) fun _=>none) (cellsFrom (s.heap.objs.size + 1) scope.names []) (bindC (envOfC qual scope s.heap.objs.size f cd).kindOf (ps.zip us) fun _=>none) s1) :
  Inv (su CX P w K mg base N qual scope f cd A outer s H E) [] (start N vs) H s1:=by
 have hpl:ps.length<=N.length:=by have:=congrArg List.length S.pre;rw [List.length_take] at this;omega
 obtain ⟨h1,tk,rfl,hk⟩:=x.done
 have noA:∀ b:Addr,b∉(su CX P w K mg base N qual scope f cd A outer s H E).ex:=fun b z=>absurd (show b∈([]:List Addr) from z) (by simp)
 refine ⟨⟨e0.mod,S.kind,rfl,rfl,Nat.le_refl _,fun y z c h1 h2=>?_,fun y hy=>?_,fun y c _ h=>?_,fun _=>hd,Around.frames_deeper e0.frames,.inr ⟨rfl,rfl⟩,fun b z=>absurd z (noA b),e0.bs,e0.bsz,fun b _ _=>noA b,fun b z=>absurd z (noA b),e0.yp,e0.frf⟩,
  rfl,e0.bare,Un.kept hk,⟨_,x.toInCall.ns,fun i y v h1 h2 h3=>?_⟩,fun y c h=>⟨_,x.cell y c h⟩,e0.hok.fresh (Nat.le_refl _),fun y c h=>?_,fun p hp=>absurd (show p∈([]:List (Addr×Obj)) from hp) (by simp),e0.hok.kept hk,?_⟩
 ·exact name_of_addr x.apart (PySem.mem_of_lookup h1) (PySem.mem_of_lookup h2)
 ·have hy:scope.names.lookup y=some .cell∨scope.names.lookup y=some .free:=hy
  rcases hy with hy|hy
  ·exact Jl hy
  ·exact absurd rfl (S.adW _ (PySem.mem_of_lookup hy))
 ·exact Nat.le_of_lt (x.above y c (PySem.mem_of_lookup h))
 ·have hi:i < vs.length:=by
   unfold start at h2
   by_cases hi:i < vs.length
   ·exact hi
   ·rw [List.getElem?_append_right (by simpa using hi)] at h2
    rw [List.getElem?_replicate] at h2
    split at h2 <;> cases h2
  have ha:vs[i]?=some v:=by
   unfold start at h2
   rw [List.getElem?_append_left (by simpa using hi),List.getElem?_map] at h2
   cases e:vs[i]? with
   | none=>rw [e] at h2;cases h2
   | some a=>rw [e] at h2;cases h2;rfl
  obtain ⟨u,hu,rv⟩:=r.get ha
  have hp:ps[i]?=some y:=by
   rw [<- S.pre,List.getElem?_take_of_lt (by omega)];exact h1
  have ndP:ps.Nodup:=by rw [<- S.pre];exact S.nd.sublist (List.take_sublist _ _)
  refine ⟨u,rv,?_⟩
  rcases S.par y (List.mem_of_getElem? hp) with k|k
  ·exact .inl ⟨k,Dd ndP hp hu k⟩
  ·obtain ⟨c,e⟩:=Jl (n:=s.heap.objs.size + 1) k
   refine .inr ⟨.inl k,c,e,?_⟩
   have q:=x.cell y c e
   rw [Df ndP hp hu (by show scope.names.lookup y≠_;rw [k];decide)] at q
   exact q
 ·exact e0.hok.fresh (Nat.le_of_lt (x.above y c (PySem.mem_of_lookup h)))
 ·unfold start
  show _=N.length
  rw [List.length_append,List.length_map,List.length_replicate]
  omega
theorem VP {CX:ZX} {P:Program} {w:World} {K:PySem.W.Frag} {mg:Str->Option Value} {base:Heap} {k:Nat} {f:Addr} {name qual:Str} {params:Arguments} {body:List Stmt} {scope:Scope} {dV kV doc pm cdv ct oc:Value} {an od:Option Addr}
  {osl:Array (Option Value)} {N ps:List Str} {sp:Sp} (lk:K.lookup f=some ⟨oc,od,.func (PySem.W.fnOf name qual params body scope dV kV doc pm an cdv ct),osl⟩) (hcd:PySem.W.codeIn K cdv qual=true) (S:bU N ps scope)
  (len:∀ vs H Q E,sp vs H Q E->vs.length=ps.length)
  (hbody:∀ (A:Around) (outer:List Env) (s:Shared) (H:Hp) (vs:List V) (Q:VK) (E:XK),ji k (A.deeper (envOfC qual scope s.heap.objs.size f cdv))->sp vs H Q E ->
   ∃ t,Ng (su CX P w K mg base N qual scope f cdv A outer s H E) body t/\t { nx:=fun _ H'=>Q .non H',rt:=Q } (start N vs) H) :
  yC P w K mg base CX (k + 1) f (PySem.W.fnOf name qual params body scope dV kV doc pm an cdv ct) ps sp:=by
 refine ⟨len,fun A outer s H args us vs Q E hr e0 hb r hsp=>?_⟩
 have hl:=len _ _ _ _ hsp
 have KX:K.In s.heap:=e0.mod.kin.keeps fun b o e=>(e0.bs b o e).1
 have lim:s.heap.NoLimit:=e0.mod.nolimit.keeps fun b o e=>(e0.bs b o e).1
 have hkind:∀ y∈ps.zip us,scope.names.lookup y.1=some .local∨(scope.names.lookup y.1=some .cell/\((cellsFrom (s.heap.objs.size + 1) scope.names []).lookup y.1).isSome=true):=fun ⟨n,v⟩ hy=>by
  rcases S.par n (List.of_mem_zip hy).1 with q|q
  ·exact .inl q
  ·exact .inr ⟨q,PySem.W.cellsFrom_some _ _ _ (.inl q)⟩
 refine codeAny_call_function hr.depth (KX _ _ lk) rfl S.co S.gen rfl (PySem.W.codeRec_of KX hcd) (hb _ _ _ _ ?_)
 refine wpAny_newFunctionEnv_cells S.kind hkind fun env he s1 x=>?_
 subst he
 refine ⟨lim.keeps x.toInCall.keep,codeAny_func ?_⟩
 obtain ⟨t,ht,hq⟩:=hbody A outer s H vs Q E (hr.deeper _) hsp
 have I:Inv (su CX P w K mg base N qual scope f cdv A outer s H E) [] (start N vs) H s1:=Tn S hr.hd e0 hl r x
 refine wpAny_mono (ht [] s1 (start N vs) H _ I hq) (fun fl s' hs=>?_) fun e s' hs=>hs
 have fu:∀ {σ':St} {H':Hp} {v:V} {u:Value},Inv (su CX P w K mg base N qual scope f cdv A outer s H E) [] σ' H' s'->RelV v u->Q v H'->CE outer P w H s Q u s' :=
  fun {σ' H' v u} J rv q=>⟨v,H',J.os,J.bare,J.base,J.hok,rv,q⟩
 cases fl with
 | ret u =>
  obtain ⟨v,σ',H',J,rv,q⟩:=hs
  exact fu J rv q
 | next =>
  obtain ⟨σ',H',J,q⟩:=hs
  exact fu (v:=V.non) (u:=Value.none) J rfl q
 | brk =>
  obtain ⟨_,_,_,q⟩:=hs
  exact False.elim q
 | cont =>
  obtain ⟨_,_,_,q⟩:=hs
  exact False.elim q
end L2
namespace L2
open PySem PySem.Spec PyProof.Rows
section
variable {X:Cx} {x:Str} {p pos:Pos} {e:Expr} {es:List Expr} {t:TA} {id T:String} {r:List V->Hp->VK->Prop}
def tCB (r:List V->Hp->VK->Prop) (t:TA):TE:=fun σ H Q=>t σ H fun vs H1=>r vs H1 Q
theorem jK (hc:kW X (.builtin id) r) (hg:Gl X x) (hm:X.mg x=none) (hv:bootBuiltins x=some (.builtin id)) (ha:PA X (e::es) t) (hn:x≠"__name__":=by decide) (hdb:(x == ("__debug__":Str))=false:=by decide)
  (he:starEach (e::es) X.env=(false,eval e X.env)::starEach es X.env:=by rfl) (hpl:(backTo pos (starEach es X.env)).any (·.1)=false:=by rfl):PE X (.Call (.Name x p) (e::es) [] pos) (tCB r t):=by
 intro pins s σ H Q I h
 refine wpAny_Call_Name_kw (Eo I hg hm hv ?_ hn hdb)
 exact PyProof.Rows.callWith_builtin1 (ig (ha pos pins s σ H _ I h) fun us s1 ⟨vs,H1,I1,r1,q1⟩=>hc pins s1 σ H1 vs us Q I1 r1 q1) he hpl
theorem vB (hc:kW X (.type T) r) (hg:Gl X x) (hm:X.mg x=none) (hv:bootBuiltins x=some (.type T)) (ha:PA X (e::es) t) (hn:x≠"__name__":=by decide) (hdb:(x == ("__debug__":Str))=false:=by decide)
  (he:starEach (e::es) X.env=(false,eval e X.env)::starEach es X.env:=by rfl) (hpl:(backTo pos (starEach es X.env)).any (·.1)=false:=by rfl):PE X (.Call (.Name x p) (e::es) [] pos) (tCB r t):=by
 intro pins s σ H Q I h
 refine wpAny_Call_Name_kw (Eo I hg hm hv ?_ hn hdb)
 exact PyProof.Rows.callWith_type1 (ig (ha pos pins s σ H _ I h) fun us s1 ⟨vs,H1,I1,r1,q1⟩=>hc pins s1 σ H1 vs us Q I1 r1 q1) he hpl
end
end L2
namespace HT
open PySem PyProof.Rows
section
open PySem.SeqAt
open PySem.AutoSeq1 (wpAny_loadPart')
open PySem.MeetsSeq PySem.MeetsSeq2 PySem.MeetsSeq3
end
section
variable {prog:Program} {w:World} {A:Around} {E:Value->Shared->Prop} {s:Shared}
def jr (n d:Nat):Option Int->Nat
 | none=>d
 | some v=>if v < 0 then (v + (n:Int)).toNat else min v.toNat n
theorem adX (n d:Nat) (hd:d<=n) (o:Option Int):jr n d o<=n:=by
 cases o with
 | none=>exact hd
 | some v =>
  show (if v < 0 then (v + (n:Int)).toNat else min v.toNat n)<=n
  by_cases hv:v < 0
  ·rw [if_pos hv];omega
  ·rw [if_neg hv];exact Nat.min_le_right _ _
theorem QV (v:Int) (n d:Nat):(if v < 0 then max (v + (n:Int)) 0 else min v (n:Int))=((jr n d (some v):Nat):Int):=by
 show (if v < 0 then max (v + (n:Int)) 0 else min v (n:Int))=(((if v < 0 then (v + (n:Int)).toNat else min v.toNat n):Nat):Int)
 by_cases hv:v < 0
 ·simp only [if_pos hv];omega
 ·simp only [if_neg hv];omega
theorem Nr (lo hi:Option Int) (n:Nat):Builtin.Slice.sliceAdjust lo hi 1 (n:Int)=(((jr n 0 lo:Nat):Int),((jr n n hi:Nat):Int)):=by
 have h1:¬ ((1:Int) < 0):=by omega
 unfold Builtin.Slice.sliceAdjust
 simp only [h1,if_false]
 refine Prod.ext ?_ ?_
 ·cases lo with
  | none=>rfl
  | some v=>exact QV v n 0
 ·cases hi with
  | none=>rfl
  | some v=>exact QV v n n
theorem Nt (i j:Nat):Builtin.Slice.slicePlaces (i:Int) (j:Int) 1=j - i:=by
 unfold Builtin.Slice.slicePlaces
 have h1:(1:Int) > 0:=by omega
 simp only [h1,if_true,Int.ediv_one]
 split <;> omega
theorem yD {v:Value} {o:Option Int} {Q:Option Int->Shared->Prop} (p:IsPart v o) (h:Q o s):wpAny (model prog w) A (Builtin.Slice.slicePartIndex v) Q E s:=by
 cases p with
 | none=>exact slicePart_none h
 | int i t=>exact slicePart_int h
theorem lM {sl:Addr} {vl vu:Value} {lo hi:Option Int} {n:Nat} {Q:Int×Int×Nat->Shared->Prop} (hs:s.heap.IsSliceOf sl vl vu .none) (pl:IsPart vl lo) (pu:IsPart vu hi)
  (h:Q (((jr n 0 lo:Nat):Int),1,jr n n hi - jr n 0 lo) s):wpAny (model prog w) A (Builtin.Slice.sliceApplied (.ref sl) (pure (n:Int))) Q E s:=by
 obtain ⟨os,hos,hcs,hds⟩:=id hs
 unfold Builtin.Slice.sliceApplied Builtin.Slice.sliceFields
 refine wpAny_bind (wpAny_bind (wpAny_field hos hds (x:=vl) rfl (wpAny_bind (wpAny_field hos hds (x:=vu) rfl (wpAny_bind (wpAny_field hos hds (x:=.none) rfl (wpAny_pure ?_)))))))
 refine wpAny_bind (slicePart_none ?_)
 show wpAny _ _ (if ((1:Int) == 0)=true then _ else _) _ _ s
 rw [if_neg (by decide)]
 refine wpAny_bind (yD pl (wpAny_bind (yD pu (wpAny_bind (wpAny_pure ?_)))))
 show wpAny _ _ (match Builtin.Slice.sliceAdjust lo hi 1 (n:Int) with|(lo,hi)=>pure (lo,(1:Int),Builtin.Slice.slicePlaces lo hi 1)) _ _ s
 rw [Nr lo hi n]
 show wpAny _ _ (pure (((jr n 0 lo:Nat):Int),(1:Int),Builtin.Slice.slicePlaces ((jr n 0 lo:Nat):Int) ((jr n n hi:Nat):Int) 1)) _ _ s
 rw [Nt]
 exact wpAny_pure h
theorem VR (xs:Array Value) (i k:Nat):((List.range k).filterMap fun (m:Nat)=>xs[((i:Int) + (m:Int) * 1).toNat]?).toArray=((xs.toList.drop i).take k).toArray:=by
 have e:(fun (m:Nat)=>xs[((i:Int) + (m:Int) * 1).toNat]?)=fun m=>xs[i + m]?:=by
  funext m
  have:((i:Int) + (m:Int) * 1).toNat=i + m:=by omega
  rw [this]
 rw [e]
 have:=pick_run xs i k
 rw [List.filterMap_map] at this
 have e2:((fun x=>xs[x]?) ∘ fun x=>i + x)=fun m=>xs[i + m]?:=rfl
 rw [e2] at this
 rw [this]
theorem uc {t sl:Addr} {items:Array Value} {vl vu:Value} {lo hi:Option Int} {Q:Value->Shared->Prop} (ht:IsTup s.heap t items) (hs:s.heap.IsSliceOf sl vl vu .none) (pl:IsPart vl lo) (pu:IsPart vu hi)
  (hw:¬ (jr items.size 0 lo=0/\jr items.size items.size hi=items.size))
  (h:Q (.ref s.heap.objs.size) { s with heap:=s.heap.push { cls:=.type "tuple",data:=.seq ((items.toList.drop (jr items.size 0 lo)).take (jr items.size items.size hi - jr items.size 0 lo)).toArray } })
  (hsz:items.size<=sizeLine):wpAny (model prog w) A (getItem (.ref t) (.ref sl)) Q E s:=by
 have QW:sizeOk (.seq ((items.toList.drop (jr items.size 0 lo)).take (jr items.size items.size hi - jr items.size 0 lo)).toArray):=by
  show ((items.toList.drop (jr items.size 0 lo)).take (jr items.size items.size hi - jr items.size 0 lo)).toArray.size<=sizeLine
  rw [List.size_toArray,List.length_take,List.length_drop,Array.length_toList]
  omega
 have hj:jr items.size items.size hi<=items.size:=adX _ _ (Nat.le_refl _) hi
 obtain ⟨os,hos,hcs,hds⟩:=id hs
 have hTs:s.TypeIs (.ref sl) "slice":=⟨os,hos,hcs⟩
 unfold getItem
 try with_reducible refine wpAny_holding ?_
 first|refine wpAny_bind (wpAny_pure ?_)|skip
 refine wpAny_bind (wpAny_sequenceKey ht.typeIs (by decide) ?_)
 refine wpAny_bind (wpAny_callSpecial?_slot (name:=Str.ofString "__getitem__") ht.typeIs PyProof.Rows.slot_tuple_getitem
  (wpAny_call_entry PyProof.Rows.slot_tuple_getitem ht.typeIs entry_tuple_getitem ?_ (args_tuple_getitem _ _)))
 show wpAny _ _ (Builtin.Tuple.tupleItemsOf (.ref t) >>= _) _ _ s
 refine wpAny_bind (tupleItemsOf_ ht ?_)
 refine wpAny_bind (wpAny_typeOf hTs ?_)
 rw [if_pos (by decide)]
 refine wpAny_bind (lM hs pl pu ?_)
 have hno:¬ ((((jr items.size 0 lo:Nat):Int) == 0 && (1:Int) == 1 && (jr items.size items.size hi - jr items.size 0 lo) == items.size)=true):=by
  intro q
  rw [Bool.and_eq_true,Bool.and_eq_true] at q
  have q1:((jr items.size 0 lo:Nat):Int)=0:=eq_of_beq q.1.1
  have q2:jr items.size items.size hi - jr items.size 0 lo=items.size:=eq_of_beq q.2
  exact hw ⟨by omega,by omega⟩
 show wpAny _ _ (if (((jr items.size 0 lo:Nat):Int) == 0 && (1:Int) == 1 && (jr items.size items.size hi - jr items.size 0 lo) == items.size)=true then _ else _) _ _ s
 rw [if_neg hno,VR]
 first
  | exact wpAny_bind (m:=Builtin.Tuple.tupleExact _) (wpAny_newObj_type (wpAny_pure ⟨_,rfl,wpAny_pure h⟩) QW)
  | exact wpAny_bind (m:=Builtin.Tuple.tupleExact _) (wpAny_newObj_type (wpAny_bind (wpAny_pure (wpAny_pure ⟨_,rfl,wpAny_pure h⟩))) QW)
  | exact wpAny_bind (wpAny_bind (m:=Builtin.Tuple.tupleExact _) (wpAny_newObj_type (wpAny_pure (wpAny_pure ⟨_,rfl,wpAny_pure h⟩)) QW))
  | exact wpAny_bind (wpAny_bind (m:=Builtin.Tuple.tupleExact _) (wpAny_newObj_type (wpAny_pure ⟨_,rfl,wpAny_pure h⟩) QW))
end
end HT
namespace L2
open PySem PySem.Spec PyProof.Rows
abbrev TO:=St->Hp->(Option Int->Hp->Prop)->Prop
def PO (X:Cx) (e:Option Expr) (t:TO):Prop :=
 ∀ (pins:List (Addr×Obj)) (s:Shared) (σ:St) (H:Hp) (Q:Option Int->Hp->Prop),Inv X pins σ H s->t σ H Q ->
  wpAny (model X.prog X.w) X.A (evalPart e X.env) (fun u s'=>∃ o H',Inv X pins σ H' s'/\IsPart u o/\Q o H') X.xe s
def aaq:TO:=fun _ H Q=>Q none H
def agC (t:TE):TO:=fun σ H Q=>t σ H fun x H1=>∃ i,x=.int i/\Q (some i) H1
section
variable {X:Cx} {e:Expr} {te:TE} {lo hi:Option Expr} {tl th:TO} {pos p2:Pos}
theorem aar:PO X none aaq:=by
 intro pins s σ H Q I h
 rw [evalPart_none]
 exact wpAny_pure ⟨none,H,I,.none,h⟩
theorem aas (h:PE X e te):PO X (some e) (agC te):=by
 intro pins s σ H Q I hw
 rw [evalPart_some]
 refine ig (h pins s σ H _ I hw) fun u s1 ⟨x,H1,I1,r1,q1⟩=>?_
 obtain ⟨i,rfl,q⟩:=q1
 obtain ⟨t,rfl⟩:=r1
 exact ⟨some i,H1,I1,.int i t,q⟩
def SlR (X:Cx) (r:V->Option Int->Option Int->Hp->VK->Prop):Prop :=
 ∀ (pins:List (Addr×Obj)) (s:Shared) (σ:St) (H:Hp) (x:V) (v vl vu:Value) (lo hi:Option Int) (sl:Addr) (Q:VK),Inv X pins σ H s->RelV x v->s.heap.IsSliceOf sl vl vu .none->IsPart vl lo->IsPart vu hi->r x lo hi H Q ->
  ∃ T id,typeLookup (.type T) "__getitem__"=pure (some (.builtin id))/\s.TypeIs v T/\wpAny (model X.prog X.w) X.A (getItem v (.ref sl)) (EP X pins σ Q) X.xe s
theorem SlR.or {r r':V->Option Int->Option Int->Hp->VK->Prop} (h:SlR X r) (h':SlR X r'):SlR X (fun x lo hi H Q=>r x lo hi H Q∨r' x lo hi H Q):=by
 intro pins s σ H x v vl vu lo hi sl Q I rx hs pl pu q
 rcases q with q|q
 ·exact h pins s σ H x v vl vu lo hi sl Q I rx hs pl pu q
 ·exact h' pins s σ H x v vl vu lo hi sl Q I rx hs pl pu q
def tSl (r:V->Option Int->Option Int->Hp->VK->Prop) (te:TE) (tl th:TO):TE:=fun σ H Q=>te σ H fun x H1=>tl σ H1 fun l H2=>th σ H2 fun u H3=>r x l u H3 Q
theorem Wa {r:V->Option Int->Option Int->Hp->VK->Prop} (hr:SlR X r) (he:PE X e te) (hl:PO X lo tl) (hu:PO X hi th):PE X (.Subscript e (.Slice lo hi none p2) pos) (tSl r te tl th):=by
 intro pins s σ H Q I h
 refine Subscript_ (ig (he pins s σ H _ I h) fun v s1 ⟨x,H1,I1,r1,q1⟩=>?_)
 refine wpAny_Slice (ig (hl pins s1 σ H1 _ I1 q1) fun vl s2 ⟨l,H2,I2,pl,q2⟩=>ig (hu pins s2 σ H2 _ I2 q2) fun vu s3 ⟨u,H3,I3,pu,q3⟩=>?_)
 rw [evalPart_none]
 refine wpAny_pure ?_
 have I4:Inv X pins σ H3 { s3 with heap:=s3.heap.push { cls:=.type "slice",data:=.fields #[vl,vu,.none] } }:=I3.kept (t':=s3.toks) fun b ob q=>Heap.get?_push_of_some _ q
 obtain ⟨T,id,hT,ht,hg⟩:=hr pins { s3 with heap:=s3.heap.push { cls:=.type "slice",data:=.fields #[vl,vu,.none] } } σ H3 x v vl vu l u s3.heap.objs.size Q I4 r1 (Heap.IsSliceOf.new ..) pl pu q3
 show wpAny (model X.prog X.w) X.A (subscriptTail e (.Slice lo hi none p2) v (.ref s3.heap.objs.size)) (EP X pins σ Q) X.xe { s3 with heap:=s3.heap.push { cls:=.type "slice",data:=.fields #[vl,vu,.none] } }
 exact tail_any (ops:=[.ref s3.heap.objs.size,v]) ht hT hg (by with_unfolding_all rfl)
def Nu (xs:List V) (lo hi:Option Int):List V:=(xs.drop (HT.jr xs.length 0 lo)).take (HT.jr xs.length xs.length hi - HT.jr xs.length 0 lo)
theorem Jm (xs:List V) (lo hi:Option Int):(Nu xs lo hi).length<=xs.length:=by
 unfold Nu
 rw [List.length_take,List.length_drop]
 omega
def agD (K:PySem.W.Frag):V->Option Int->Option Int->Hp->VK->Prop:=fun x lo hi H Q=>∃ a xs,x=.ref a/\lK K H a xs /\
 ¬ (HT.jr xs.length 0 lo=0/\HT.jr xs.length xs.length hi=xs.length)/\∀ p,H p=none->Q (.ref p) (dY H p (.tup (Nu xs lo hi)))
theorem adY:SlR X (agD X.K):=by
 intro pins s σ H x v vl vu lo hi sl Q I rx hs pl pu h
 obtain ⟨a,xs,rfl,hx,hw,q⟩:=h
 cases rx
 obtain ⟨its,r,ht,hz⟩:=I.tuple hx
 have hlen:its.toArray.size=xs.length:=by rw [List.size_toArray];exact r.length.symm
 refine ⟨"tuple",_,PyProof.Rows.slot_tuple_getitem.lookup,ht.typeIs,?_⟩
 refine HT.uc ht hs pl pu (by rw [hlen];exact hw) ?_ (by rw [hlen];exact hz)
 rw [hlen]
 refine ⟨.ref s.heap.objs.size,_,I.laid (t':=s.toks) (o:=.tup (Nu xs lo hi)) (fun b ob q=>Heap.get?_push_of_some _ q) (Nat.le_refl _) ?_,rfl,q _ (I.hok.fresh (Nat.le_refl _))⟩
 exact ⟨Nat.le_trans (Jm xs lo hi) hz,_,(r.drop (HT.jr xs.length 0 lo)).take (HT.jr xs.length xs.length hi - HT.jr xs.length 0 lo),IsTup.new _ _⟩
end
end L2
namespace L2
open PySem PySem.Spec PyProof.Rows
def Es (n:Nat) (i:Int):Option Nat:=if 0<=i then (if i < n then some i.toNat else none) else if -(n:Int)<=i then some (i + n).toNat else none
def Am {α:Type} (xs:List α) (i:Int):Option α:=(Es xs.length i).bind fun j=>xs[j]?
theorem Et {n:Nat} {i:Int} {j:Nat} (h:Es n i=some j):seqIndex? i n=some j/\j < n/\-(n:Int)<=i/\i < n:=by
 unfold Es at h
 by_cases h0:0<=i
 ·rw [if_pos h0] at h
  by_cases h1:i < n
  ·rw [if_pos h1] at h
   have e:i.toNat=j:=Option.some.inj h
   exact ⟨by rw [seqIndex_of h0 h1,e],by omega,by omega,h1⟩
  ·rw [if_neg h1] at h;cases h
 ·rw [if_neg h0] at h
  by_cases h1:-(n:Int)<=i
  ·rw [if_pos h1] at h
   have e:(i + n).toNat=j:=Option.some.inj h
   exact ⟨by rw [seqIndex_neg (by omega) h1,e],by omega,h1,by omega⟩
  ·rw [if_neg h1] at h;cases h
theorem Eu {α:Type} {xs:List α} {i:Int} {v:α} (h:Am xs i=some v):∃ j,seqIndex? i xs.length=some j/\xs[j]?=some v/\j < xs.length/\-(xs.length:Int)<=i/\i < xs.length:=by
 unfold Am at h
 cases e:Es xs.length i with
 | none=>rw [e] at h;cases h
 | some j =>
  rw [e] at h
  obtain ⟨h1,h2,h3,h4⟩:=Et e
  exact ⟨j,h1,h,h2,h3,h4⟩
def xJ (b:Expr):Prop:=∀ o i,subscripted b false o i=operate [o,i] (getItem o i)
def IxR (X:Cx) (r:R2):Prop :=
 ∀ (value slice:Expr) (pins:List (Addr×Obj)) (s:Shared) (σ:St) (H:Hp) (x y:V) (v u:Value) (Q:VK),Inv X pins σ H s->RelV x v->RelV y u->r x y H Q ->
  subscripted slice false v u=operate [v,u] (getItem v u)->wpAny (model X.prog X.w) X.A (subscriptTail value slice v u) (EP X pins σ Q) X.xe s
def MtR (X:Cx) (id:String) (r:V->List V->Hp->VK->Prop):Prop :=
 ∀ (pins:List (Addr×Obj)) (s:Shared) (σ:St) (H:Hp) (x:V) (xs:List V) (v:Value) (us:List Value) (Q:VK),Inv X pins σ H s->RelV x v->Vals xs us->r x xs H Q ->
  wpAny (model X.prog X.w) X.A (call (.builtin id) (v::us)) (EP X pins σ Q) X.xe s
section
variable {X:Cx} {a b:Expr} {ta tb:TE} {pos:Pos}
theorem IxR.or {r r':R2} (h:IxR X r) (h':IxR X r'):IxR X (fun x y H Q=>r x y H Q∨r' x y H Q):=by
 intro value slice pins s σ H x y v u Q I rx ry q hs
 rcases q with q|q
 ·exact h value slice pins s σ H x y v u Q I rx ry q hs
 ·exact h' value slice pins s σ H x y v u Q I rx ry q hs
theorem Wb {r:R2} (hr:IxR X r) (ha:PE X a ta) (hb:PE X b tb) (hs:xJ b):PE X (.Subscript a b pos) (tOp r ta tb):=by
 intro pins s σ H Q I h
 exact Subscript_ (adQ ha hb I h fun v u s2 x y H2 I2 rx ry q=>hr a b pins s2 σ H2 x y v u Q I2 rx ry q (hs _ _))
def agE (K:PySem.W.Frag):R2:=fun x y H Q=>∃ p xs i v,x=.ref p/\y=.int i/\rG K H p xs/\Am xs i=some v/\Q v H
def agF (K:PySem.W.Frag):R2:=fun x y H Q=>∃ p xs i v,x=.ref p/\y=.int i/\lK K H p xs/\Am xs i=some v/\Q v H
def agG:R2:=fun x y H Q=>∃ z i c,x=.str z/\y=.int i/\z.length<=sizeLine/\Am z.cps.toList i=some c/\Q (.str ⟨#[c]⟩) H
theorem aau:IxR X (agE X.K):=by
 intro value slice pins s σ H x y v u Q I rx ry h hs
 obtain ⟨p,xs,i,z,rfl,rfl,hq,he,q⟩:=h
 cases rx
 obtain ⟨t,rfl⟩:=ry
 obtain ⟨its,r,pl,hz⟩:=I.list hq
 obtain ⟨j,h1,h2,h3,h4,h5⟩:=Eu he
 obtain ⟨w,ew,Wc⟩:=r.get h2
 have hl:=r.length
 have hn:=yu
 have fu:EP X pins σ Q w s:=⟨z,H,I,Wc,q⟩
 by_cases h0:0<=i
 ·have hj:i.toNat=j:=by
   rw [seqIndex_of h0 h5] at h1
   exact Option.some.inj h1
  exact item_listR pl.isList h0 (by omega) (by rw [hj];simpa using ew) fu hs
 ·have hj:(i + (its.toArray.size:Int)).toNat=j:=by
   rw [seqIndex_neg (by omega) h4] at h1
   rw [List.size_toArray,<- hl]
   exact Option.some.inj h1
  exact subscriptTail_builtinR (x:=w) pl.isList.typeIs slot_list_getitem.lookup
   (wpAny_getItem_list_neg (Q:=fun r s'=>r=w/\EP X pins σ Q r s') pl.isList (by omega) (by rw [List.size_toArray] <;> omega) (by omega) (by rw [hj];simpa using ew) ⟨rfl,fu⟩) hs
theorem Wd:IxR X (agF X.K):=by
 intro value slice pins s σ H x y v u Q I rx ry h hs
 obtain ⟨p,xs,i,z,rfl,rfl,hq,he,q⟩:=h
 cases rx
 obtain ⟨t,rfl⟩:=ry
 obtain ⟨its,r,pl,hz⟩:=I.tuple hq
 obtain ⟨j,h1,h2,h3,h4,h5⟩:=Eu he
 obtain ⟨w,ew,Wc⟩:=r.get h2
 have hl:=r.length
 have hn:=yu
 have fu:EP X pins σ Q w s:=⟨z,H,I,Wc,q⟩
 exact subscriptTail_builtinR (x:=w) pl.typeIs slot_tuple_getitem.lookup
  (getItem_tuple (j:=j) (Q:=fun r s'=>r=w/\EP X pins σ Q r s') pl (by omega) (by omega) (by rw [List.size_toArray,<- hl];exact h1) (by simpa using ew) ⟨rfl,fu⟩) hs
theorem adZ:IxR X agG:=by
 intro value slice pins s σ H x y v u Q I rx ry h hs
 obtain ⟨z,i,c,rfl,rfl,hz,he,q⟩:=h
 obtain ⟨t,rfl⟩:=rx
 obtain ⟨t',rfl⟩:=ry
 obtain ⟨j,h1,h2,h3,h4,h5⟩:=Eu he
 have hl:z.cps.toList.length=z.length:=by simp [Str.length]
 rw [hl] at h1 h4 h5
 have hn:=yu
 exact tail_any (typeIs_str s z t) slot_str_getitem.lookup (getItem_str (c:=c) (by
  have e1:decide (i < -(2 ^ 63:Int))=false:=decide_eq_false (by omega)
  have e2:decide (i ≥ 2 ^ 63)=false:=decide_eq_false (by omega)
  rw [e1,e2,Bool.or_false]) (by rw [h1];simpa using h2) ⟨.str ⟨#[c]⟩,H,I.tok _,⟨_,rfl⟩,q⟩) hs
def rIx (K:PySem.W.Frag):R2:=fun x y H Q=>agE K x y H Q∨agF K x y H Q∨agG x y H Q
theorem Nv:IxR X (rIx X.K):=aau.or (Wd.or adZ)
theorem Nx (its:List Value) (n j:Nat) (u:Value):Obj.mapSeq (·.setIfInBounds j u) { cls:=.type "list",data:=.seq its.toArray n }={ cls:=.type "list",data:=.seq (its.set j u).toArray n }:=by
 simp [Obj.mapSeq]
theorem Inv.lst {pins:List (Addr×Obj)} {σ:St} {H:Hp} {s:Shared} {p:Addr} {xs:List V} (I:Inv X pins σ H s) (h:H p=some (.lst xs)) :
  ∃ (its:List Value) (n:Nat),Vals xs its/\s.heap.get? p=some { cls:=.type "list",data:=.seq its.toArray n }/\xs.length<=sizeLine:=by
 obtain ⟨z,its,n,r,e⟩:=I.hok p _ h
 exact ⟨its,n,r,e,z⟩
theorem Inv.aea {pins:List (Addr×Obj)} {σ:St} {H:Hp} {s:Shared} {p:Addr} {xs ys:List V} {its its':List Value} {n n':Nat} {f:Obj->Obj} (I:Inv X pins σ H s) (h:H p=some (.lst xs))
  (ho:s.heap.get? p=some { cls:=.type "list",data:=.seq its.toArray n }) (hf:f { cls:=.type "list",data:=.seq its.toArray n }={ cls:=.type "list",data:=.seq its'.toArray n' }) (r:Vals ys its') (hz:ys.length<=sizeLine) (t:Nat) :
  Inv X pins σ (dY H p (.lst ys)) { s with heap:=s.heap.update p f,toks:=t }:=by
 have e:(s.heap.update p f).get? p=some { cls:=.type "list",data:=.seq its'.toArray n' }:=by
  rw [Heap.get?_update_self f ho (by rw [hf] <;> rfl),hf]
 refine I.write (x:=p) (e:=p) (by rw [h];trivial) (.inl rfl) (fun b u hb q=>(Heap.get?_update_other _ _ (Ne.symm hb)).trans q) ⟨_,e⟩ ?_
 exact ⟨hz,its',n',r,e⟩
def agH:V->V->V->Hp->(Hp->Prop)->Prop:=fun o i v H Q=>∃ p xs k j,o=.ref p/\i=.int k/\H p=some (.lst xs)/\Es xs.length k=some j/\Q (dY H p (.lst (xs.set j v)))
theorem Wf:adN X agH:=by
 intro pins s σ H o i v ov iv u Q I ro ri rv h
 obtain ⟨p,xs,k,j,rfl,rfl,hp,hj,q⟩:=h
 cases ro
 obtain ⟨t,rfl⟩:=ri
 obtain ⟨its,n,r,ho,hz⟩:=I.lst hp
 obtain ⟨h1,h2,h3,h4⟩:=Et hj
 have hl:=r.length
 have hn:=yu
 have I':Inv X pins σ (dY H p (.lst (xs.set j v))) { s with heap:=s.heap.update p (Obj.mapSeq (·.setIfInBounds j u)) } :=
  I.aea hp ho (Nx its n j u) (r.set rv j) (by rw [List.length_set];exact hz) s.toks
 by_cases h0:0<=k
 ·have hk:k.toNat=j:=by
   rw [seqIndex_of h0 h4] at h1
   exact Option.some.inj h1
  exact PySem.W.ki_setAt ho h0 (by omega) (by rw [List.size_toArray,<- hl];exact h4) (by rw [hk];exact ⟨_,I',q⟩)
 ·have hk:(k + (its.toArray.size:Int)).toNat=j:=by
   rw [seqIndex_neg (by omega) h3] at h1
   rw [List.size_toArray,<- hl]
   exact Option.some.inj h1
  exact PySem.W.ki_setBack ho (by omega) (by rw [List.size_toArray,<- hl];exact h3) (by omega) (by rw [hk];exact ⟨_,I',q⟩)
theorem ud:kW X (.builtin "len") (fun xs H Q=>∃ p ys,xs=[.ref p]/\(rG X.K H p ys∨lK X.K H p ys)/\Q (.int ys.length) H):=by
 intro pins s σ H xs us Q I r h
 obtain ⟨p,ys,rfl,hq,q⟩:=h
 obtain ⟨u,rfl,rx⟩:=QT r
 cases rx
 have hn:=yu
 rcases hq with hq|hq
 ·obtain ⟨its,r',pl,hz⟩:=I.list hq
  have hlen:=r'.length
  exact Calls.call_len_list pl.isList (by simp only [List.size_toArray] <;> omega) ⟨.int ys.length,H,I.tok _,⟨s.toks + 1,by rw [List.size_toArray,hlen]⟩,q⟩
 ·obtain ⟨its,r',pl,hz⟩:=I.tuple hq
  have hlen:=r'.length
  exact len_tuple pl (by simp only [List.size_toArray] <;> omega) ⟨.int ys.length,H,I.tok _,⟨s.toks + 1,by rw [List.size_toArray,hlen]⟩,q⟩
theorem rH:kW X (.type "tuple") (fun xs H Q=>∃ p ys,xs=[.ref p]/\((rG X.K H p ys/\∀ l,H l=none->Q (.ref l) (dY H l (.tup ys)))∨(lK X.K H p ys/\Q (.ref p) H))):=by
 intro pins s σ H xs us Q I r h
 obtain ⟨p,ys,rfl,h⟩:=h
 obtain ⟨u,rfl,rx⟩:=QT r
 cases rx
 rcases h with ⟨hq,q⟩|⟨hq,q⟩
 ·obtain ⟨its,r',pl,hz⟩:=I.list hq
  have hlen:=r'.length
  refine call_tuple_list pl.isList (fun h' kp=>?_) (by simp only [List.size_toArray] <;> omega)
  have I1:Inv X pins σ H { s with heap:=h' }:=I.kept (t':=s.toks) kp
  have I2:Inv X pins σ (dY H h'.objs.size (.tup ys)) { s with heap:=h'.push { cls:=.type "tuple",data:=.seq its.toArray } } :=
   I1.laid (t':=s.toks) (fun b o e=>Heap.get?_push_of_some _ e) (Nat.le_refl _) (show eZ X.prog X.w _ _ _ (.tup ys) from ⟨hz,its,r',IsTup.new _ _⟩)
  exact ⟨.ref h'.objs.size,_,I2,rfl,q _ (I1.hok.fresh (Nat.le_refl _))⟩
 ·obtain ⟨its,r',pl,hz⟩:=I.tuple hq
  exact call_tuple_same pl ⟨.ref p,H,I,rfl,q⟩
def tyV (K:PySem.W.Frag) (T:String) (x:V) (H:Hp):Prop:=match x with
 | .str _=>T="str"
 | .int _=>T="int"
 | .ref p=>(T="list"/\∃ xs,rG K H p xs)∨(T="tuple"/\∃ o,K.lookup p=some o/\o.cls=.type "tuple"/\o.dict=none) ∨
   (T="dict"/\((∃ kvs,H p=some (.dK kvs))∨∃ kvs,H p=some (.dT kvs)))∨(T="set"/\∃ S n,H p=some (.set S n))
 | _=>False
theorem aeb {pins:List (Addr×Obj)} {σ:St} {H:Hp} {s:Shared} {T:String} {x:V} {v:Value} (I:Inv X pins σ H s) (r:RelV x v) (ty:tyV X.K T x H) :
  s.TypeIs v T/\∀ a,v=.ref a->∃ ob,s.heap.get? a=some ob/\ob.dict=none:=by
 cases x with
 | str z =>
  obtain ⟨t,rfl⟩:=r
  cases (show T="str" from ty)
  exact ⟨typeIs_str s z t,fun _ e=>nomatch e⟩
 | int i =>
  obtain ⟨t,rfl⟩:=r
  cases (show T="int" from ty)
  exact ⟨typeIs_int s i t,fun _ e=>nomatch e⟩
 | ref p =>
  cases r
  rcases ty with ⟨rfl,xs,hq⟩|⟨rfl,o,hk,hc,hd⟩|⟨rfl,hk⟩|⟨rfl,S,n,hk⟩
  ·obtain ⟨its,_,pl,_⟩:=I.list hq
   refine ⟨pl.isList.typeIs,fun a e=>?_⟩
   cases e
   obtain ⟨o,n,e,c,hd,_⟩:=pl
   exact ⟨o,e,hd⟩
  ·refine ⟨⟨o,I.QD p o hk,hc⟩,fun a e=>?_⟩
   cases e
   exact ⟨o,I.QD _ o hk,hd⟩
  ·have z:∃ o,s.heap.get? p=some o/\o.ExactDict:=by
    rcases hk with ⟨kvs,hk⟩|⟨kvs,hk⟩
    ·obtain ⟨_,_,_,_,o,_,_,e,ex,_⟩:=I.hok p _ hk
     exact ⟨o,e,ex⟩
    ·obtain ⟨_,_,_,_,o,_,_,e,ex,_⟩:=I.hok p _ hk
     exact ⟨o,e,ex⟩
   obtain ⟨o,e,ex⟩:=z
   refine ⟨⟨o,e,ex.1⟩,fun a e2=>?_⟩
   cases e2
   exact ⟨o,e,ex.2.1⟩
  ·obtain ⟨o,_,_,_,e,ex,_⟩:=I.hok p _ hk
   refine ⟨⟨o,e,ex.1⟩,fun a e2=>?_⟩
   cases e2
   exact ⟨o,e,ex.2.1⟩
 | _=>exact False.elim ty
def tBM (K:PySem.W.Frag) (T:String) (r:V->List V->Hp->VK->Prop) (to:TE) (t:TA):TE:=fun σ H Q=>to σ H fun x H1=>tyV K T x H1/\t σ H1 fun xs H2=>r x xs H2 Q
variable {o e:Expr} {es:List Expr} {to:TE} {t:TA} {name:Str} {apos cpos:Pos} {T id:String} {r:V->List V->Hp->VK->Prop}
theorem acW (pa:PlainAttrs T) (slot:Slot T name id) (hty:typeOf (.builtin id)=pure (.type "method_descriptor")) (hm:MtR X id r) (ho:PE X o to) (ha:PA X (e::es) t)
  (hbase:attributeBase o name X.env (eval o X.env)=eval o X.env:=by rfl)
  (hfew:((backTo cpos (starEach (e::es) X.env)).all (fun x=>!x.1) && (backToKw cpos (keywordEach [] X.env)).all (fun x=>x.1.isSome)
   && decide ((e::es).length + ([]:List Keyword).length + (if ([]:List Keyword).isEmpty then 0 else 1) < 30))=true:=by rfl)
  (hline:(apos.endLine == cpos.line)=true:=by rfl) (hs:starEach (e::es) X.env=(false,eval e X.env)::starEach es X.env:=by rfl) (hplain:(backTo cpos (starEach es X.env)).any (·.1)=false:=by rfl) :
  PE X (.Call (.Attribute o name apos) (e::es) [] cpos) (tBM X.K T r to t):=by
 intro pins s σ H Q I h
 refine wpAny_Call_method_late hbase hfew hline rfl (ig (ho pins s σ H _ I h) fun v s1 ⟨x,H1,I1,r1,ty,q1⟩=>?_)
 obtain ⟨h1,h2⟩:=aeb I1 r1 ty
 refine ⟨T,id,pa,slot,hty,h1,h2,?_⟩
 have hA:=ha cpos pins s1 σ H1 _ I1 q1
 rw [hs] at hA ⊢
 refine Calls.callWith_builtin (by show (false || (backTo cpos (starEach es X.env)).any (·.1))=false;rw [hplain] <;> rfl) (Calls.evalArgs_plain ?_)
 exact ig hA fun us s2 ⟨vs,H2,I2,r2,q2⟩=>hm pins s2 σ H2 x vs v us Q I2 r1 r2 q2
end
end L2
namespace L2
open PySem PySem.Spec PyProof.Rows
def MtM (X:Cx) (id:String) (r:V->List V->Hp->VK->Prop):Prop :=
 ∀ (pins:List (Addr×Obj)) (s:Shared) (σ:St) (H:Hp) (x:V) (xs:List V) (v:Value) (us:List Value) (Q:VK),Inv X pins σ H s->RelV x v->Vals xs us->r x xs H Q ->
  wpAny (model X.prog X.w) X.A (call (.builtin id) (v::us)) (EP X pins σ Q) X.xe s
theorem Vals.one:∀ {x:V} {us:List Value},Vals [x] us->∃ u,us=[u]/\RelV x u
 | _,_,.cons r .nil=>⟨_,rfl,r⟩
theorem Vals.eraseIdx:∀ {xs:List V} {us:List Value} (i:Nat),Vals xs us->Vals (xs.eraseIdx i) (us.eraseIdx i)
 | _,_,_,.nil=>.nil
 | _,_,0,.cons _ t=>t
 | _,_,i + 1,.cons r t=>.cons r (Vals.eraseIdx i t)
theorem Dg {α:Type}:∀ (l:List α) (i:Nat),(l.eraseIdx i).length<=l.length
 | [],_=>Nat.le_refl _
 | _::_,0=>Nat.le_succ _
 | _::r,i + 1=>Nat.succ_le_succ (Dg r i)
section
variable {X:Cx} {pins:List (Addr×Obj)} {σ:St} {H:Hp} {s:Shared} {l b:Addr} {xs ys zs:List V}
theorem Inv.agI {its its':List Value} {n:Nat} {f:Array Value->Array Value} {t':Nat} (I:Inv X pins σ H s) (hH:H l=some (.lst xs))
  (e:s.heap.get? l=some { cls:=.type "list",data:=.seq its.toArray n }) (hf:f its.toArray=its'.toArray) (hv:Vals ys its') (hz:ys.length<=sizeLine) :
  Inv X pins σ (dY H l (.lst ys)) { s with heap:=s.heap.update l (Obj.mapSeq f),toks:=t' }:=by
 have q:=PySem.IsL.update e f
 rw [hf] at q
 refine I.write (x:=l) (e:=l) (by rw [hH];exact trivial) (.inl rfl) (fun b' u hb hu=>(Heap.get?_update_other s.heap (Obj.mapSeq f) (Ne.symm hb)).trans hu) ⟨_,q⟩ ?_
 exact ⟨hz,its',_,hv,q⟩
theorem Inv.agJ {its:List Value} {t':Nat} (I:Inv X pins σ H s) (hv:Vals ys its) (hz:ys.length<=sizeLine) :
  Inv X pins σ (dY H s.heap.objs.size (.lst ys)) { s with heap:=s.heap.push { cls:=.type "list",data:=.seq its.toArray },toks:=t' } :=
 I.laid (fun _ _ q=>Heap.get?_push_of_some _ q) (Nat.le_refl _) ⟨hz,its,0,hv,Heap.get?_push_size _ rfl⟩
theorem Inv.fresh (I:Inv X pins σ H s):H s.heap.objs.size=none:=I.hok.fresh (Nat.le_refl _)
theorem Inv.agK (I:Inv X pins σ H s) (hH:H l=some (.lst xs)):xs.length<=sizeLine/\∃ (its:List Value) (n:Nat),Vals xs its/\xs.length=its.length/\s.heap.get? l=some { cls:=.type "list",data:=.seq its.toArray n }:=by
 obtain ⟨z,its,n,r,e⟩:=I.hok l _ hH
 exact ⟨z,its,n,r,r.length,e⟩
end
section
variable {X:Cx}
def QX:V->List V->Hp->VK->Prop:=fun x vs H Q=>∃ l xs y,x=.ref l/\vs=[y]/\H l=some (.lst xs)/\xs.length < sizeLine/\Q .non (dY H l (.lst (xs++[y])))
theorem Dh:MtM X "list.append" QX:=by
 intro pins s σ H x vs v us Q I rx rv h
 obtain ⟨l,xs,y,rfl,rfl,hH,hz,q⟩:=h
 cases rx
 obtain ⟨u,rfl,ru⟩:=rv.one
 obtain ⟨z,its,n,r,hl,e⟩:=I.agK hH
 refine call_meets F.slot_list_append ⟨_,e,rfl⟩ F.entry_list_append (F.args_list_append_2 _ _) (PySem.list_append l its.toArray n u (by rw [List.size_toArray];omega)) ⟨e,?_⟩
 refine ⟨.non,_,I.agI (its':=its++[u]) hH e (by simp) (r.append (.cons ru .nil)) ?_,rfl,q⟩
 rw [List.length_append,List.length_singleton]
 omega
def aec:V->List V->Hp->VK->Prop:=fun x vs H Q=>∃ l xs i k y,x=.ref l/\vs=[.int i]/\H l=some (.lst xs)/\-(2 ^ 63)<=i/\i < 2 ^ 63/\seqIndex? i xs.length=some k/\xs[k]?=some y/\Q y (dY H l (.lst (xs.eraseIdx k)))
theorem Wg:MtM X "list.pop" aec:=by
 intro pins s σ H x vs v us Q I rx rv h
 obtain ⟨l,xs,i,k,y,rfl,rfl,hH,h1,h2,hk,hy,q⟩:=h
 cases rx
 obtain ⟨u,rfl,ru⟩:=rv.one
 obtain ⟨t,rfl⟩:=ru
 obtain ⟨z,its,n,r,hl,e⟩:=I.agK hH
 obtain ⟨w,hw,Wc⟩:=r.get hy
 refine call_meets F.slot_list_pop ⟨_,e,rfl⟩ F.entry_list_pop (F.args_list_pop_2 _ _)
  (MeetsSeq.list_pop_at l its.toArray n i t k w (fitsIndex_both h1 h2) (by rw [List.size_toArray,<- hl];exact hk) (by rw [<- Array.getElem?_toList];exact hw) (by rw [List.size_toArray];omega)) ⟨e,?_⟩
 refine ⟨y,_,I.agI (its':=its.eraseIdx k) hH e ?_ (r.eraseIdx k) ?_,Wc,q⟩
 ·show its.toArray.eraseIdxIfInBounds k=(its.eraseIdx k).toArray
  rw [List.eraseIdxIfInBounds_toArray]
 ·have:=Dg xs k
  omega
end
section
variable {prog:Program} {w:World} {A:Around} {E:Value->Shared->Prop} {s:Shared}
end
section
variable {X:Cx}
end
end L2
namespace Att
open PySem PySem.W PySem.Calls PyProof.Rows
theorem wV {P:Params} {h:Heap}:∀ (ns:List Int) (vs:List Value),WellAll P h vs (ns.map WData.int)->IntsAre vs ns:=by
 intro ns
 induction ns with
 | nil =>
  intro vs w
  rw [List.map_nil] at w
  cases w
  exact .nil
 | cons n ns ih =>
  intro vs w
  rw [List.map_cons] at w
  cases w with
  | cons a b =>
   cases a
   exact .cons _ _ (ih _ b)
theorem Tp {l:OpenLaw} {n:Nat} (hn:l.most=some n) {P:Params} {h:Heap} {args:List WData} {vals:List Value}
  (hpre:l.row.toRowW.claim.pre args=true) (hwl:WellAll P h vals args) :
  ∃ a vs ns,vals=[Value.ref a]/\args=[WData.list (ns.map WData.int)]/\h.get? a=some { cls:=.type "list",data:=.seq vs.toArray }/\IntsAre vs ns/\ns.length<=n:=by
 have hsh:WShape.hasAll [] args [.list .int]=true:=(pre_splitW hpre).1
 have hc:l.pre.holds [] { args:=args }=true:=(pre_splitW hpre).2
 obtain ⟨d,r,rfl,h1,h2⟩:=hasAllW_cons hsh
 obtain rfl:=hasAllW_nil h2
 obtain ⟨xs,rfl,h3⟩:=hasW_list h1
 obtain ⟨ns,rfl⟩:=items_int h3
 have hlen:ns.length<=n:=by
  unfold OpenLaw.pre at hc
  have h4:(WTm.not (.lt (.lit (.int (n:Int))) (.len (.arg 0)))).holds [] { args:=[.list (ns.map .int)] }=true:=by
   have h4:=(holds_andW hc).1
   rw [hn] at h4
   exact h4
  have h5:=condW_of h4 (w_not (w_lt w_lit (w_len_list (w_arg rfl))))
  rw [List.length_map] at h5
  refine Nat.le_of_not_lt fun q=>?_
  have q':(n:Int) < ((ns.length:Nat):Int):=by omega
  first
   | (rw [decide_eq_true q'] at h5;exact absurd h5 (by decide))
   | (simp at h5;omega)
 cases hwl with
 | cons w1 w2 =>
  cases w2
  cases w1 with
  | list ho hall=>exact ⟨_,_,ns,rfl,rfl,ho,wV ns _ hall,hlen⟩
theorem Tq (l:OpenLaw) (args:List WData):l.row.toRowW.claim.post args (.bool true) args=true :=
 postW_of (r:=l.row.toRowW) (X:=(true == true))
  (show WShape.has [] (.bool true) .bool=true by first|rfl|decide|simp [WShape.has,WShape.arms,WShape.armsAll])
  (show (WTm.eq .res (.lit (.bool true))).value [] { args:=args,res:=some (.bool true),after:=args }=some (.bool (true == true)) from w_eq_bool (w_res rfl) w_lit) rfl
theorem Jo {l:OpenLaw} {n:Nat} {q:Program} {loose:List Str} {XP:(Str->Option Value)->Heap->Prop} {YP:World->Heap->Prop} {d:DefRec}
  (hn:l.most=some n) (hdf:d.params.defaults=[])
  (call:∀ (w:World) (s₀ s₁:Shared) (mg mb:Str->Option Value) (fa:Addr) (o:Obj) (pm cd doc:Value) (a:Addr) (vs:List Value) (ns:List Int),
   Ground q loose [] XP w s₀ mg mb s₁.heap->YP w s₁.heap ->
   s₁.heap.get? fa=some o->o.data=.func (docDef d.name d.params d.body d.scope pm cd doc)->s₁.heap.CodeRec cd d.name->mg d.name=some (.ref fa) ->
   s₁.heap.get? a=some { cls:=.type "list",data:=.seq vs.toArray }->IntsAre vs ns->ns.length<=n->s₁.gens=#[] ->
   codeAny (model l.prog w) callerA (.call (.ref fa) ⟨[.ref a],[]⟩) (fun r s'=>r=.ok (.ret (.bool true))/\OldK s₁.heap s'.heap/\s'.os=s₁.os/\AllBare s'.gens) s₁) :
  WalkO q loose XP YP l.row.toRowW d [] (fun f vs=>PySem.call f vs):=by
 intro w s₀ s₁ mg mb G Y fa o pm cd doc dV kV ho hd hcd hD hmg hg args vals as hpre hlay hrd hwl hlo
 obtain rfl:dV=.none:=Dflts.none hD hdf
 obtain rfl:kV=.none:=Dflts.noKw hD
 obtain ⟨a,vs,ns,rfl,rfl,hobj,hints,hlen⟩:=Tp hn hpre hwl
 refine enter_call (codeAny_mono (call w s₀ s₁ mg mb fa o pm cd doc a vs ns G Y ho (fd_plain hd) hcd hmg hobj hints hlen hg) fun r s' hq=>?_)
 obtain ⟨rfl,h2,h3,h4⟩:=hq
 exact ⟨.inl ⟨.bool true,.bool true,[],rfl,fun _=>rfl,.bool true,Tq l _,fun _=>⟨List.Pairwise.nil,fun _ hm=>(nomatch hm)⟩⟩,h2,h3,h4⟩
section
variable {prog:Program} {w:World} {A:Around} {E:Value->Shared->Prop} {s:Shared} {K:Frag}
def ajm (h:Heap) (L d:Addr):List (Addr×Obj):=(List.range h.objs.size).filterMap fun a=>if a=L∨a=d then none else (h.get? a).map fun o=>(a,o)
end
end Att
namespace L2
open PySem PySem.Spec PyProof.Rows
theorem vC:∀ {vs:List Value} {ns:List Int},IntsAre vs ns->Vals (ns.map V.int) vs
 | _,_,.nil=>.nil
 | _,_,.cons n t h=>.cons ⟨t,rfl⟩ (vC h)
def aed (H:Hp):Prop:=∀ b,H b=none∨∃ o xs,H b=some (.CQ o (.lst xs))
theorem Wh {P:Program} {w:World} {K:PySem.W.Frag} {mg mb:Str->Option Value} {CX:ZX} {k:Nat} {fa a:Addr} {fd:FuncData} {x:Str} {sp:Sp} {s₁:Shared} {vs:List Value} {ns:List Int}
  (KX:K.In s₁.heap) (hns:s₁.heap.Ns mainGlobals mg) (hb:s₁.heap.Ns builtinsNs mb) (hbb:∀ x:Str,x≠"__name__"->mb x=bootBuiltins x) (hlim:s₁.heap.NoLimit) (hg:s₁.gens=#[])
  (ha:s₁.heap.get? a=some { cls:=.type "list",data:=.seq vs.toArray }) (hi:IntsAre vs ns) (hl:ns.length<=sizeLine) (hr:ji k callerA)
  (F:∀ base:Heap,K.In base->base.Ns mainGlobals mg->yC P w K mg base CX k fa fd [x] sp) (hbind:∀ (s:Shared) (u:Value),BindsTo s fd ⟨[u],[]⟩ [(x,u)])
  (hsp:∀ H:Hp,aed H->rG K H a (ns.map V.int)->sp [.ref a] H (fun v _=>v=.bl true) fun _ _ _=>False)
  (hCX:∀ H e s',CX [] H s₁ (fun _ _ _=>False) e s'->False) :
  codeAny (model P w) callerA (.call (.ref fa) ⟨[.ref a],[]⟩) (fun r s'=>r=.ok (.ret (.bool true))/\OldK s₁.heap s'.heap/\s'.os=s₁.os/\AllBare s'.gens) s₁:=by
 have rv:=vC hi
 have lenV:=hi.length
 have core:∀ H:Hp,aed H->rG K H a (ns.map V.int)->xH P w H s₁.heap->(∀ b,H b≠none->b=a)->(H a≠none->K.lookup a=none) ->
   codeAny (model P w) callerA (.call (.ref fa) ⟨[.ref a],[]⟩) (fun r s'=>r=.ok (.ret (.bool true))/\OldK s₁.heap s'.heap/\s'.os=s₁.os/\AllBare s'.gens) s₁:=by
  intro H hO hS hok hA hK
  have QZ:∀ {b:Addr} {o:Obj},s₁.heap.get? b=some o->H b=none->(Em s₁.heap H).get? b=some o:=fun e n=>Vx e n
  have noA:∀ {b:Addr} {o:Obj} {es:Array DictEntry} {ep:Nat},s₁.heap.get? b=some o->o.data=.dict es ep->H b=none:=fun {b o es ep} e d=>by
   cases q:H b with
   | none=>rfl
   | some u =>
    have e':b=a:=hA b (by rw [q];simp)
    subst e'
    rw [ha] at e;cases e
    have d':Data.seq vs.toArray _=Data.dict es ep:=d
    cases d'
  have nsK:∀ {b:Addr} {m:Str->Option Value},s₁.heap.Ns b m->(Em s₁.heap H).Ns b m:=fun {b m} ⟨o,es,ep,e,d,r⟩=>⟨o,es,ep,QZ e (noA e d),d,r⟩
  have hKb:K.In (Em s₁.heap H):=fun b o e=>QZ (KX b o e) (by
   cases q:H b with
   | none=>rfl
   | some u =>
    have e':b=a:=hA b (by rw [q];simp)
    subst e'
    rw [hK (by rw [q];simp)] at e;cases e)
  have hM:Mod K mg (Em s₁.heap H):=⟨hKb,nsK hns,⟨mb,nsK hb,hbb⟩,let ⟨mc,h1,h2⟩:=hlim;⟨mc,nsK h1,h2⟩⟩
  have e0:aap P w K mg (Em s₁.heap H) callerA [] s₁ H:=⟨rfl,hM,fun b o e=>aaf e,Nat.le_of_eq (SQ _ _),trivial,fun b hb=>absurd (show b∈([]:List Addr) from hb) (by simp),hok,.of_eq hg⟩
  refine codeAny_mono ((F _ hKb (nsK hns)).run callerA [] s₁ H ⟨[.ref a],[]⟩ [.ref a] [.ref a] _ _ hr e0 (hbind s₁ (.ref a)) (.cons rfl .nil) (hsp H hO hS)) fun r s' h=>?_
  cases r with
  | error e=>exact (hCX H e s' h).elim
  | ok fl =>
   cases fl with
   | next=>exact False.elim h
   | brk=>exact False.elim h
   | cont=>exact False.elim h
   | ret u =>
    obtain ⟨v,H',os,bare,un,hok',r',q⟩:=h
    have q':v=.bl true:=q
    subst q'
    obtain rfl:u=Value.bool true:=r'
    refine ⟨rfl,OldK.of_keep fun b o e=>?_,os,bare⟩
    cases q:H b with
    | none=>exact un.keep b o e q (by intro z;exact absurd (show b∈([]:List Addr) from z) (by simp)) (by simp)
    | some u =>
     rcases hO b with z|⟨ob,xs,z⟩
     ·rw [q] at z;cases z
     ·have z2:=un.yh b ob _ z
      obtain ⟨e1,_⟩:=hok b _ z
      obtain ⟨e2,_⟩:=hok' b _ z2
      rw [e] at e1;cases e1
      exact e2
 cases hk:K.lookup a with
 | some o =>
  have e:=KX a o hk
  rw [ha] at e
  cases e
  refine core (fun _=>none) (fun _=>.inl rfl) (.inr ⟨_,vs.toArray,_,hk,rfl,rfl,rfl,by rw [List.size_toArray,lenV];exact hl,by simpa using rv⟩) (fun b u z=>by have z':(none:Option HO)=some u:=z;cases z') (fun b z=>absurd rfl z) fun z=>absurd rfl z
 | none =>
  refine core (fun b=>if b=a then some (.CQ { cls:=.type "list",data:=.seq vs.toArray } (.lst (ns.map V.int))) else none) (fun b=>?_) (.inl (.inr ⟨{ cls:=.type "list",data:=.seq vs.toArray },if_pos rfl⟩)) (fun b u z=>?_) (fun b z=>?_) fun _=>hk
  ·by_cases hb:b=a
   ·exact .inr ⟨_,_,if_pos hb⟩
   ·exact .inl (if_neg hb)
  ·by_cases hb:b=a
   ·have z':=(if_pos hb).symm.trans z
    cases z'
    subst hb
    exact ⟨ha,by rw [List.length_map];exact hl,vs,_,rv,ha⟩
   ·have z':=(if_neg hb).symm.trans z
    cases z'
  ·by_cases hb:b=a
   ·exact hb
   ·exact absurd (if_neg hb) z
end L2
namespace L2
open PySem PySem.Spec PyProof.Rows
abbrev KOf {K:PySem.W.Frag} {h:Heap} (_:K.In h):PySem.W.Frag:=K
theorem aav {l:PySem.W.OpenLaw} {n k:Nat} {q:Program} {loose:List Str} {XP:(Str->Option Value)->Heap->Prop} {YP:World->Heap->Prop} {d:DefRec} {K:Params->PySem.W.Frag} {CX:World->ZX} {sp:World->Sp} {x:Str}
  (hn:l.most=some n) (hn2:n<=sizeLine) (hdf:d.params.defaults=[]) (hr:ji k callerA)
  (hY:∀ (w:World) (h:Heap),YP w h->(K w.params).In h)
  (F:∀ (w:World) (mg:Str->Option Value) (fa:Addr) (h:Heap),(K w.params).In h->h.Ns mainGlobals mg->mg d.name=some (.ref fa) ->
   ∃ fd:FuncData,(∀ (s:Shared) (u:Value),BindsTo s fd ⟨[u],[]⟩ [(x,u)]) /\
    ∀ base:Heap,(K w.params).In base->base.Ns mainGlobals mg->yC l.prog w (K w.params) mg base (CX w) k fa fd [x] (sp w))
  (hsp:∀ (w:World) (H:Hp) (a:Addr) (ns:List Int),ns.length<=n->aed H->rG (K w.params) H a (ns.map V.int)->sp w [.ref a] H (fun v _=>v=.bl true) fun _ _ _=>False)
  (hCX:∀ (w:World) (H:Hp) (s:Shared) (e:Value) (s':Shared),CX w [] H s (fun _ _ _=>False) e s'->False) :
  PySem.W.WalkO q loose XP YP l.row.toRowW d [] (fun f vs=>PySem.call f vs):=by
 refine Att.Jo hn hdf fun w s₀ s₁ mg mb fa o pm cd doc a vs ns G Y ho hd hcd hmg hobj hints hlen hg=>?_
 have KX:=hY w _ Y
 obtain ⟨fd,hb,hF⟩:=F w mg fa _ KX G.T.g hmg
 exact Wh KX G.T.g G.T.b G.T.builtins G.T.nolimit hg hobj hints (Nat.le_trans hlen hn2) hr hF hb (fun H hO hS=>hsp w H a ns hlen hO hS) fun H e s'=>hCX w H s₁ e s'
end L2
namespace L2
open PySem PySem.Spec PyProof.Rows
def bK (s:Stmt):Arguments:=match s with
 | .FunctionDef _ a _ _ _ _ _ _ _ _=>a
 | _=>{ posonlyargs:=[],args:=[],vararg:=none,kwonlyargs:=[],kw_defaults:=[],kwarg:=none,defaults:=[] }
def bC (s:Stmt):List Stmt:=match s with
 | .FunctionDef _ _ b _ _ _ _ _ _ _=>b
 | _=>[]
def aD (s:Stmt):Scope:=match s with
 | .FunctionDef _ _ _ _ _ _ sc _ _ _=>sc
 | _=>{ kind:=.function,names:=[],isGenerator:=false,isCoroutine:=false }
structure wW (K:PySem.W.Frag) (x qual:Str) (st:Stmt) (f:Addr) (fd:FuncData):Prop where
 ex:∃ (oc:Value) (od:Option Addr) (kV doc pm:Value) (an:Option Addr) (cdv ct:Value) (osl:Array (Option Value)),
  fd=PySem.W.fnOf x qual (bK st) (bC st) (aD st) .none kV doc pm an cdv ct/\K.lookup f=some ⟨oc,od,.func fd,osl⟩/\PySem.W.codeIn K cdv qual=true
 kp:PySem.W.keepIn K (.ref f)=true
section
variable {P:Program} {w:World} {K:PySem.W.Frag} {mg:Str->Option Value} {base:Heap}
theorem wW.binds {x qual:Str} {st:Stmt} {f:Addr} {fd:FuncData} {ps:List Str} (F:wW K x qual st f fd)
  (h:∀ (kV doc pm:Value) (an:Option Addr) (cdv ct:Value) (us:List Value),us.length=ps.length->bindArgs (PySem.W.fnOf x qual (bK st) (bC st) (aD st) .none kV doc pm an cdv ct) ⟨us,[]⟩=pure (ps.zip us)):Binds K fd ps []:=by
 obtain ⟨oc,od,kV,doc,pm,an,cdv,ct,osl,rfl,lk,hcd⟩:=F.ex
 exact .all (h kV doc pm an cdv ct)
theorem cX {x qual:Str} {st:Stmt} {f:Addr} {oc:Value} {od an:Option Addr} {osl:Array (Option Value)} {kV doc pm cdv ct:Value} (l:K.lookup f=some ⟨oc,od,.func (PySem.W.fnOf x qual (bK st) (bC st) (aD st) .none kV doc pm an cdv ct),osl⟩)
  (c:PySem.W.codeIn K cdv qual=true) (k:PySem.W.keepIn K (.ref f)=true):wW K x qual st f (PySem.W.fnOf x qual (bK st) (bC st) (aD st) .none kV doc pm an cdv ct):=⟨⟨oc,od,kV,doc,pm,an,cdv,ct,osl,rfl,l,c⟩,k⟩
end
theorem Tt {n:Nat} (h:n<=1000):n < sizeLine:=Nat.lt_of_le_of_lt h (by decide)
section
variable {X:Cx}
end
def Same (H H':Hp):Prop:=∀ b o,H b=some o->H' b=some o
theorem Same.refl (H:Hp):Same H H:=fun _ _ h=>h
theorem Same.trans {H H1 H2:Hp} (a:Same H H1) (b:Same H1 H2):Same H H2:=fun c o h=>b c o (a c o h)
theorem Same.free {H H':Hp} (e:Same H H') {l:Addr} (h:H' l=Option.none):H l=Option.none:=by
 cases q:H l with
 | none=>rfl
 | some o =>
  rw [e l o q] at h
  cases h
theorem Same.seq {K:PySem.W.Frag} {H H':Hp} {a:Addr} {xs:List V} (e:Same H H') (h:rG K H a xs):rG K H' a xs:=by
 rcases h with (h|⟨o,h⟩)|h
 ·exact .inl (.inl (e _ _ h))
 ·exact .inl (.inr ⟨o,e _ _ h⟩)
 ·exact .inr h
end L2
namespace Vl
open PySem PySem.Spec L2
inductive D where
 | non|bl (b:Bool)|int (i:Int)|str (x:Str)|tup (xs:List D)|lst (xs:List D)|kJ (c:Str) (n:Int)
def acX (a C:Addr) (n:Int):Heap->Prop:=fun h=>∃ o vs,h.get? a=some o/\o.cls=.ref C/\o.data=.fields vs/\n=0
mutual
def Rep (K:PySem.W.Frag) (G:Hp):D->V->Prop
 | .non,v=>v=.non
 | .bl b,v=>v=.bl b
 | .int i,v=>v=.int i
 | .str x,v=>v=.str x
 | .tup ds,v=>∃ a vs,v=.ref a/\lK K G a vs/\aZ K G ds vs
 | .lst ds,v=>∃ a vs,v=.ref a/\rG K G a vs/\aZ K G ds vs
 | .kJ c n,v=>∃ a C,v=.ref a/\PySem.W.nsIn K mainGlobals c=some (some (.ref C))/\G a=some (.ext (acX a C n))
def aZ (K:PySem.W.Frag) (G:Hp):List D->List V->Prop
 | [],vs=>vs=[]
 | d::ds,vs=>∃ v vs',vs=v::vs'/\Rep K G d v/\aZ K G ds vs'
end
theorem Same.gU {K:PySem.W.Frag} {H H':Hp} {a:Addr} {xs:List V} (e:Same H H') (h:lK K H a xs):lK K H' a xs:=by
 rcases h with (h|⟨o,h⟩)|h
 ·exact .inl (.inl (e _ _ h))
 ·exact .inl (.inr ⟨o,e _ _ h⟩)
 ·exact .inr h
mutual
theorem Rep.mono {K:PySem.W.Frag} {G G':Hp} (e:Same G G'):∀ {d:D} {v:V},Rep K G d v->Rep K G' d v
 | .non,_,h=>by simp only [Rep] at h ⊢;exact h
 | .bl _,_,h=>by simp only [Rep] at h ⊢;exact h
 | .int _,_,h=>by simp only [Rep] at h ⊢;exact h
 | .str _,_,h=>by simp only [Rep] at h ⊢;exact h
 | .tup ds,_,h=>by
  simp only [Rep] at h ⊢
  obtain ⟨a,vs,e1,h1,h2⟩:=h
  exact ⟨a,vs,e1,Same.gU e h1,aZ.mono e h2⟩
 | .lst ds,_,h=>by
  simp only [Rep] at h ⊢
  obtain ⟨a,vs,e1,h1,h2⟩:=h
  exact ⟨a,vs,e1,e.seq h1,aZ.mono e h2⟩
 | .kJ c n,_,h=>by
  simp only [Rep] at h ⊢
  obtain ⟨a,C,e1,h1,h2⟩:=h
  exact ⟨a,C,e1,h1,e _ _ h2⟩
theorem aZ.mono {K:PySem.W.Frag} {G G':Hp} (e:Same G G'):∀ {ds:List D} {vs:List V},aZ K G ds vs->aZ K G' ds vs
 | [],_,h=>by simp only [aZ] at h ⊢;exact h
 | d::ds,_,h=>by
  simp only [aZ] at h ⊢
  obtain ⟨v,vs',e1,h1,h2⟩:=h
  exact ⟨v,vs',e1,Rep.mono e h1,aZ.mono e h2⟩
end
section
variable {K:PySem.W.Frag} {G:Hp}
theorem aH {i:Int} {v:V}:Rep K G (.int i) v↔v=.int i:=by simp only [Rep]
theorem bA {i:Bool} {v:V}:Rep K G (.bl i) v↔v=.bl i:=by simp only [Rep]
theorem bD {v:V}:Rep K G .non v↔v=.non:=by simp only [Rep]
theorem bG {x:Str} {v:V}:Rep K G (.str x) v↔v=.str x:=by simp only [Rep]
theorem aP {ds:List D} {v:V}:Rep K G (.tup ds) v↔∃ a vs,v=.ref a/\lK K G a vs/\aZ K G ds vs:=by simp only [Rep]
theorem aO {ds:List D} {v:V}:Rep K G (.lst ds) v↔∃ a vs,v=.ref a/\rG K G a vs/\aZ K G ds vs:=by simp only [Rep]
theorem Ra {c:Str} {n:Int} {v:V}:Rep K G (.kJ c n) v↔∃ a C,v=.ref a/\PySem.W.nsIn K mainGlobals c=some (some (.ref C))/\G a=some (.ext (acX a C n)):=by simp only [Rep]
theorem bf {vs:List V}:aZ K G [] vs↔vs=[]:=by simp only [aZ]
theorem aN {d:D} {ds:List D} {vs:List V}:aZ K G (d::ds) vs↔∃ v vs',vs=v::vs'/\Rep K G d v/\aZ K G ds vs':=by simp only [aZ]
theorem aZ.length:∀ {ds:List D} {vs:List V},aZ K G ds vs->ds.length=vs.length
 | [],_,h=>by rw [bf.mp h];rfl
 | d::ds,_,h=>by
  obtain ⟨v,vs',rfl,_,h2⟩:=aN.mp h
  simp [aZ.length h2]
theorem aZ.get:∀ {ds:List D} {vs:List V} {i:Nat} {d:D},aZ K G ds vs->ds[i]?=some d->∃ v,vs[i]?=some v/\Rep K G d v
 | [],_,_,_,h,e=>by simp at e
 | d::ds,_,i,x,h,e=>by
  obtain ⟨v,vs',rfl,h1,h2⟩:=aN.mp h
  cases i with
  | zero=>simp at e;subst e;exact ⟨v,by simp,h1⟩
  | succ i=>obtain ⟨u,q1,q2⟩:=aZ.get (i:=i) h2 (by simpa using e);exact ⟨u,by simpa using q1,q2⟩
theorem aZ.get':∀ {ds:List D} {vs:List V} {i:Nat} {v:V},aZ K G ds vs->vs[i]?=some v->∃ d,ds[i]?=some d/\Rep K G d v
 | [],_,_,_,h,e=>by rw [bf.mp h] at e;simp at e
 | d::ds,_,i,x,h,e=>by
  obtain ⟨v,vs',rfl,h1,h2⟩:=aN.mp h
  cases i with
  | zero=>simp at e;subst e;exact ⟨d,by simp,h1⟩
  | succ i=>obtain ⟨u,q1,q2⟩:=aZ.get' (i:=i) h2 (by simpa using e);exact ⟨u,by simpa using q1,q2⟩
theorem aZ.append:∀ {ds es:List D} {vs us:List V},aZ K G ds vs->aZ K G es us->aZ K G (ds++es) (vs++us)
 | [],_,_,_,h,h'=>by rw [bf.mp h];exact h'
 | d::ds,_,_,_,h,h'=>by
  obtain ⟨v,vs',rfl,h1,h2⟩:=aN.mp h
  exact aN.mpr ⟨v,_,rfl,h1,aZ.append h2 h'⟩
theorem aZ.one {d:D} {v:V} (h:Rep K G d v):aZ K G [d] [v]:=aN.mpr ⟨v,[],rfl,h,bf.mpr rfl⟩
theorem aZ.drop:∀ {ds:List D} {vs:List V} (n:Nat),aZ K G ds vs->aZ K G (ds.drop n) (vs.drop n)
 | ds,vs,0,h=>by simpa using h
 | [],_,n + 1,h=>by rw [bf.mp h];simpa using bf.mpr rfl
 | d::ds,_,n + 1,h=>by
  obtain ⟨v,vs',rfl,h1,h2⟩:=aN.mp h
  simpa using aZ.drop n h2
theorem aZ.take:∀ {ds:List D} {vs:List V} (n:Nat),aZ K G ds vs->aZ K G (ds.take n) (vs.take n)
 | ds,vs,0,h=>by simpa using bf.mpr rfl
 | [],_,n + 1,h=>by rw [bf.mp h];simpa using bf.mpr rfl
 | d::ds,_,n + 1,h=>by
  obtain ⟨v,vs',rfl,h1,h2⟩:=aN.mp h
  simpa using aN.mpr ⟨v,_,rfl,h1,aZ.take n h2⟩
theorem Di (ns:List Int):aZ K G (ns.map D.int) (ns.map V.int):=by
 induction ns with
 | nil=>exact bf.mpr rfl
 | cons n ns ih=>exact aN.mpr ⟨_,_,rfl,aH.mpr rfl,ih⟩
end
inductive Rs (α:Type) where
 | ok (a:α)|ex (c:Str) (n:Int)|no
def Rs.bind {α β:Type}:Rs α->(α->Rs β)->Rs β
 | .ok a,k=>k a
 | .ex c n,_=>.ex c n
 | .no,_=>.no
inductive Sl where
 | no|fz (d:D)|ow (ds:List D)|od (kvs:List (List Int×D))|op (ds:List D)
def Sl.own:Sl->Bool
 | .ow _=>true
 | .od _=>true
 | .op _=>true
 | _=>false
def UG (K:PySem.W.Frag) (G:Hp):Addr->List Int->Prop:=fun b ks=>lK K G b (ks.map V.int)
def aaw (ks:List Int):Int:=reduceHash (Builtin.Tuple.tupleHashOf (ks.map hashInt))
def wX (U:Addr->List Int->Prop) (a:Addr) (kvs:List (List Int×V)):Heap->Prop:=fun h=>∃ (o:Obj) (es:Array DictEntry) (ep:Nat) (xs:List (List Int×Addr×Value)),h.get? a=some o/\o.ExactDict/\o.data=.dict es ep/\(a == sysModules)=false /\
 es.toList=xs.map (fun x=>⟨aaw x.1,.ref x.2.1,x.2.2⟩)/\(xs.map (·.1)).Nodup/\Paired (fun (p:List Int×V) (q:List Int×Addr×Value)=>p.1=q.1/\U q.2.1 q.1/\RelV p.2 q.2.2) kvs xs
inductive dG (K:PySem.W.Frag) (G:Hp):List (List Int×D)->List (List Int×V)->Prop
 | nil:dG K G [] []
 | cons {k:List Int} {d:D} {v:V} {kvs:List (List Int×D)} {cJ:List (List Int×V)}:Rep K G d v->dG K G kvs cJ->dG K G ((k,d)::kvs) ((k,v)::cJ)
theorem dG.mono {K:PySem.W.Frag} {G G':Hp} (e:Same G G') {kvs:List (List Int×D)} {cJ:List (List Int×V)} (h:dG K G kvs cJ):dG K G' kvs cJ:=by
 induction h with
 | nil=>exact .nil
 | cons r _ ih=>exact .cons (r.mono e) ih
def uf (K:PySem.W.Frag) (G:Hp) (a:Addr):Sl->HO->Prop
 | .ow ds,o=>∃ vs,o=.lst vs/\aZ K G ds vs
 | .op ds,o=>∃ vs,o=.lst vs/\aZ K G ds vs
 | .od kvs,o=>∃ U cJ,o=.ext (wX U a cJ)/\(∀ b ks,U b ks->UG K G b ks)/\dG K G kvs cJ
 | _,_=>False
theorem uf.mono {K:PySem.W.Frag} {G G':Hp} (e:Same G G') {a:Addr} {z:Sl} {o:HO} (h:uf K G a z o):uf K G' a z o:=by
 cases z with
 | ow ds=>obtain ⟨vs,h1,h2⟩:=h;exact ⟨vs,h1,h2.mono e⟩
 | od kvs=>obtain ⟨U,cJ,h1,h2,h3⟩:=h;exact ⟨U,cJ,h1,fun b ks q=>Same.gU e (h2 b ks q),h3.mono e⟩
 | op ds=>obtain ⟨vs,h1,h2⟩:=h;exact ⟨vs,h1,h2.mono e⟩
 | _=>exact h.elim
theorem uf.tup {K:PySem.W.Frag} {G:Hp} {a:Addr} {z:Sl} {xs:List V} (h:uf K G a z (.tup xs)):False:=by
 cases z with
 | ow ds=>obtain ⟨vs,h1,h2⟩:=h;cases h1
 | od kvs=>obtain ⟨U,cJ,h1,h2,h3⟩:=h;cases h1
 | op ds=>obtain ⟨vs,h1,h2⟩:=h;cases h1
 | _=>exact h
abbrev ak:=List Sl
structure Bs where
 g:Hp
 h:Hp
 p:Addr
abbrev Wi:=Str->Int->St->Hp->Prop
structure Ext (G H G' H':Hp):Prop where
 gg:Same G G'
 hh:Same H H'
 gh:Same G' H'
 tp:∀ a xs,H' a=some (.tup xs)->G' a=some (.tup xs)
 nw:∀ b o,H b=some o->G b=none->G' b=none
theorem Ext.trans {G H G1 H1 G2 H2:Hp} (a:Ext G H G1 H1) (b:Ext G1 H1 G2 H2):Ext G H G2 H2 :=
 ⟨a.gg.trans b.gg,a.hh.trans b.hh,b.gh,b.tp,fun c o h n=>b.nw c o (a.hh c o h) (a.nw c o h n)⟩
theorem Ext.refl {G H:Hp} (gh:Same G H) (tp:∀ a xs,H a=some (.tup xs)->G a=some (.tup xs)):Ext G H G H:=⟨.refl _,.refl _,gh,tp,fun _ _ _ n=>n⟩
structure SR (K:PySem.W.Frag) (B:Bs) (σ:St) (H:Hp) (ρ:ak) (G:Hp):Prop where
 en:Ext B.1 B.2 G H
 len:ρ.length=σ.length
 fz:∀ (i:Nat) (d:D),ρ[i]?=some (.fz d)->∃ v,σ[i]?=some (some v)/\Rep K G d v
 own:∀ (i:Nat) (z:Sl),ρ[i]?=some z->z.own=true->∃ a o,σ[i]?=some (some (.ref a))/\H a=some o/\G a=none/\B.2 a=none/\uf K G a z o
 ap:∀ (i j:Nat) (z z':Sl) (a:Addr),ρ[i]?=some z->z.own=true->ρ[j]?=some z'->z'.own=true->σ[i]?=some (some (.ref a))->σ[j]?=some (some (.ref a))->i=j
 tie:∀ (i:Nat) (ds:List D) (a:Addr),ρ[i]?=some (.op ds)->σ[i]?=some (some (.ref a))->a=B.3
section
variable {K:PySem.W.Frag} {B:Bs} {σ:St} {H H' G G':Hp} {ρ:ak}
theorem SR.ug (h:SR K B σ H ρ G):Ext G H G H:=.refl h.en.gh h.en.tp
theorem SR.ext (h:SR K B σ H ρ G) (e:Ext G H G' H'):SR K B σ H' ρ G' where
 en:=h.en.trans e
 len:=h.len
 fz:=fun i d q=>let ⟨v,h1,h2⟩:=h.fz i d q;⟨v,h1,h2.mono e.gg⟩
 own:=fun i z q w=>let ⟨a,o,h1,h2,h3,h4,h5⟩:=h.own i z q w;⟨a,o,h1,e.hh _ _ h2,e.nw _ _ h2 h3,h4,h5.mono e.gg⟩
 ap:=h.ap
 tie:=h.tie
theorem SR.set (h:SR K B σ H ρ G) {i:Nat} {d:D} {v:V} (r:Rep K G d v):SR K B (σ.set i (some v)) H (ρ.set i (.fz d)) G where
 en:=h.en
 len:=by simp [h.len]
 fz:=fun j d' q=>by
  by_cases e:i=j
  ·subst e
   have hl:i < ρ.length:=by
    have:=(List.getElem?_eq_some_iff.mp q).1;simpa using this
   rw [List.getElem?_set_self hl] at q
   cases q
   exact ⟨v,List.getElem?_set_self (by rw [<- h.len];exact hl),r⟩
  ·rw [List.getElem?_set_ne e] at q
   rw [List.getElem?_set_ne e]
   exact h.fz j d' q
 own:=fun j z q w=>by
  by_cases e:i=j
  ·subst e
   have hl:i < ρ.length:=by
    have:=(List.getElem?_eq_some_iff.mp q).1;simpa using this
   rw [List.getElem?_set_self hl] at q
   cases q;cases w
  ·rw [List.getElem?_set_ne e] at q
   rw [List.getElem?_set_ne e]
   exact h.own j z q w
 ap:=fun j k z z' a q1 w1 q2 w2 q3 q4=>by
  have ne:∀ (l:Nat) (z:Sl),(ρ.set i (.fz d))[l]?=some z->z.own=true->i≠l:=fun l z q w e=>by
   subst e
   have hl:i < ρ.length:=by
    have:=(List.getElem?_eq_some_iff.mp q).1;simpa using this
   rw [List.getElem?_set_self hl] at q
   cases q;cases w
  have n1:=ne j z q1 w1
  have n2:=ne k z' q2 w2
  rw [List.getElem?_set_ne n1] at q1 q3
  rw [List.getElem?_set_ne n2] at q2 q4
  exact h.ap j k z z' a q1 w1 q2 w2 q3 q4
 tie:=fun j ds a q1 q2=>by
  have e:i≠j:=fun e=>by
   subst e
   have hl:i < ρ.length:=by
    have:=(List.getElem?_eq_some_iff.mp q1).1;simpa using this
   rw [List.getElem?_set_self hl] at q1
   cases q1
  rw [List.getElem?_set_ne e] at q1 q2
  exact h.tie j ds a q1 q2
theorem SR.ow (h:SR K B σ H ρ G) (i:Nat) (ds:List D) (q:ρ[i]?=some (.ow ds)):∃ a vs,σ[i]?=some (some (.ref a))/\H a=some (.lst vs)/\G a=none/\B.2 a=none/\aZ K G ds vs:=by
 obtain ⟨a,o,h1,h2,h3,h4,vs,rfl,h5⟩:=h.own i _ q rfl
 exact ⟨a,vs,h1,h2,h3,h4,h5⟩
theorem uh (gh:Same G H) (tp:∀ a xs,H a=some (.tup xs)->G a=some (.tup xs)) {p:Addr} {xs:List V} (hp:H p=none):Ext G H (dY G p (.tup xs)) (dY H p (.tup xs)) where
 gg:=fun b o e=>by rw [aW (aR (gh _ _ e) hp)];exact e
 hh:=fun b o e=>by rw [aW (aR e hp)];exact e
 gh:=fun b o e=>by
  by_cases q:b=p
  ·subst q;rw [aY] at e ⊢;exact e
  ·rw [aW q] at e ⊢;exact gh _ _ e
 tp:=fun b ys e=>by
  by_cases q:b=p
  ·subst q;rw [aY] at e ⊢;exact e
  ·rw [aW q] at e ⊢;exact tp _ _ e
 nw:=fun b o e n=>by rw [aW (aR e hp)];exact n
theorem uo (gh:Same G H) (tp:∀ a xs,H a=some (.tup xs)->G a=some (.tup xs)) {p:Addr} {xs:List V} (hp:H p=none):Ext G H (dY G p (.lst xs)) (dY H p (.lst xs)) where
 gg:=fun b o e=>by rw [aW (aR (gh _ _ e) hp)];exact e
 hh:=fun b o e=>by rw [aW (aR e hp)];exact e
 gh:=fun b o e=>by
  by_cases q:b=p
  ·subst q;rw [aY] at e ⊢;exact e
  ·rw [aW q] at e ⊢;exact gh _ _ e
 tp:=fun b ys e=>by
  by_cases q:b=p
  ·subst q;rw [aY] at e;cases e
  ·rw [aW q] at e ⊢;exact tp _ _ e
 nw:=fun b o e n=>by rw [aW (aR e hp)];exact n
theorem aax (gh:Same G H) (tp:∀ a xs,H a=some (.tup xs)->G a=some (.tup xs)) {p:Addr} {o:HO} (ho:∀ xs,o≠.tup xs) (hp:H p=none):Ext G H G (dY H p o) where
 gg:=.refl _
 hh:=fun b o e=>by rw [aW (aR e hp)];exact e
 gh:=fun b o e=>by rw [aW (aR (gh _ _ e) hp)];exact gh _ _ e
 tp:=fun b ys e=>by
  by_cases q:b=p
  ·subst q;rw [aY] at e;cases e;exact absurd rfl (ho ys)
  ·rw [aW q] at e;exact tp _ _ e
 nw:=fun b o e n=>n
theorem Rb (gh:Same G H) (tp:∀ a xs,H a=some (.tup xs)->G a=some (.tup xs)) {p:Addr} {xs:List V} (hp:H p=none):Ext G H G (dY H p (.lst xs)) where
 gg:=.refl _
 hh:=fun b o e=>by rw [aW (aR e hp)];exact e
 gh:=fun b o e=>by rw [aW (aR (gh _ _ e) hp)];exact gh _ _ e
 tp:=fun b ys e=>by
  by_cases q:b=p
  ·subst q;rw [aY] at e;cases e
  ·rw [aW q] at e;exact tp _ _ e
 nw:=fun b o e n=>n
end
def Post (K:PySem.W.Frag) (W:Wi) (σ:St) (G H:Hp) (r:Rs D) (Q:VK):Prop :=
 match r with
 | .ok d=>∀ v H' G',Ext G H G' H'->Rep K G' d v->Q v H'
 | .ex c n=>∀ H' G',Ext G H G' H'->W c n σ H'
 | .no=>False
def tF (K:PySem.W.Frag) (B:Bs) (W:Wi) (f:ak->Rs D):TE:=fun σ H Q=>∃ ρ G,SR K B σ H ρ G/\Post K W σ G H (f ρ) Q
def SE (X:Cx) (B:Bs) (W:Wi) (e:Expr) (f:ak->Rs D):Prop:=PE X e (tF X.K B W f)
theorem PE.imp {X:Cx} {e:Expr} {t t':TE} (h:PE X e t) (i:∀ σ H Q,t' σ H Q->t σ H Q):PE X e t':=fun pins s σ H Q I q=>h pins s σ H Q I (i σ H Q q)
theorem PT.imp {X:Cx} {e:Expr} {t t':TT} (h:PT X e t) (i:∀ σ H Q,t' σ H Q->t σ H Q):PT X e t':=fun pins s σ H Q I q=>h pins s σ H Q I (i σ H Q q)
theorem PA.imp {X:Cx} {e:List Expr} {t t':TA} (h:PA X e t) (i:∀ σ H Q,t' σ H Q->t σ H Q):PA X e t':=fun pos pins s σ H Q I q=>h pos pins s σ H Q I (i σ H Q q)
theorem PS.imp {X:Cx} {e:Stmt} {t t':TS} (h:PS X e t) (i:∀ De σ H,t' De σ H->t De σ H):PS X e t':=fun pins s σ H De I q=>h pins s σ H De I (i De σ H q)
theorem Ng.imp {X:Cx} {e:List Stmt} {t t':TS} (h:Ng X e t) (i:∀ De σ H,t' De σ H->t De σ H):Ng X e t':=fun pins s σ H De I q=>h pins s σ H De I (i De σ H q)
section
variable {X:Cx} {K:PySem.W.Frag} {B:Bs} {W:Wi} {σ:St} {G H:Hp} {ρ:ak} {Q Q':VK}
theorem Post.mono {r:Rs D} (h:Post K W σ G H r Q) (i:∀ v H',Q v H'->Q' v H'):Post K W σ G H r Q':=by
 cases r with
 | ok d=>exact fun v H' G' e r=>i _ _ (h v H' G' e r)
 | ex c n=>exact h
 | no=>exact h
theorem Post.ext {r:Rs D} {G' H':Hp} (e:Ext G H G' H') (h:Post K W σ G H r Q):Post K W σ G' H' r Q:=by
 cases r with
 | ok d=>exact fun v Vt G'' e' r=>h v Vt G'' (e.trans e') r
 | ex c n=>exact fun Vt G'' e'=>h Vt G'' (e.trans e')
 | no=>exact h
theorem Post.bind {r:Rs D} {k:D->Rs D} (h:Post K W σ G H (r.bind k) Q) :
  Post K W σ G H r fun v H1=>∃ G1 d,Ext G H G1 H1/\Rep K G1 d v/\Post K W σ G1 H1 (k d) Q:=by
 cases r with
 | ok d=>exact fun v H' G' e r=>⟨G',d,e,r,Post.ext e h⟩
 | ex c n=>exact h
 | no=>exact h
theorem Post.ok {d:D} {v:V} (s:SR K B σ H ρ G) (h:Post K W σ G H (.ok d) Q) (r:Rep K G d v):Q v H:=h v H G s.ug r
theorem xK {f:ak->Rs D} {k:ak->D->Rs D} (h:tF K B W (fun ρ=>(f ρ).bind (k ρ)) σ H Q) :
  tF K B W f σ H fun v H1=>∃ ρ G1 d,SR K B σ H1 ρ G1/\Rep K G1 d v/\Post K W σ G1 H1 (k ρ d) Q:=by
 obtain ⟨ρ,G,s,p⟩:=h
 exact ⟨ρ,G,s,p.bind.mono fun v H1 ⟨G1,d,e,r,q⟩=>⟨ρ,G1,d,s.ext e,r,q⟩⟩
theorem Wj {f:ak->Rs D} {k:D->D->Rs D} {v:V} (h:∃ ρ G1 d,SR K B σ H ρ G1/\Rep K G1 d v/\Post K W σ G1 H ((f ρ).bind (k d)) Q) :
  tF K B W f σ H fun u H1=>∃ ρ G1 d d',SR K B σ H1 ρ G1/\Rep K G1 d v/\Rep K G1 d' u/\Post K W σ G1 H1 (k d d') Q:=by
 obtain ⟨ρ,G,d,s,r,p⟩:=h
 exact ⟨ρ,G,s,p.bind.mono fun u H1 ⟨G1,d',e,r',q⟩=>⟨ρ,G1,d,d',s.ext e,r.mono e.gg,r',q⟩⟩
def aM (i:Nat):ak->Rs D:=fun ρ=>match ρ[i]? with|some (.fz d)=>.ok d|_=>.no
def fC (d:D):ak->Rs D:=fun _=>.ok d
theorem aee {e:Expr} {i:Nat} (h:PE X e (Td i)):SE X B W e (aM i):=PE.imp h fun σ H Q ⟨ρ,G,s,p⟩=>by
 unfold aM at p
 cases q:ρ[i]? with
 | none=>rw [q] at p;exact p.elim
 | some x =>
  rw [q] at p
  cases x with
  | no=>exact p.elim
  | ow _=>exact p.elim
  | od _=>exact p.elim
  | op _=>exact p.elim
  | fz d =>
   obtain ⟨v,h1,h2⟩:=s.fz i d q
   exact ⟨v,h1,Post.ok s p h2⟩
theorem sv (i:Nat) {x:Str} {pos:Pos} (hN:X.N[i]?=some x:=by rfl) (hv:Nf X.env.scope x:=by first|exact Or.inl rfl|exact Or.inr (Or.inl rfl)|exact Or.inr (Or.inr rfl)) (hd:(x == ("__debug__":Str))=false:=by decide)
  (hcd:(x == ("__classdict__":Str))=false:=by decide):SE X B W (.Name x pos) (aM i):=aee (iu hN hv hd hcd)
theorem agL {e:Expr} {v:V} {d:D} (h:PE X e (tC v)) (r:∀ G,Rep X.K G d v):SE X B W e (fC d):=PE.imp h fun σ H Q ⟨ρ,G,s,p⟩=>Post.ok s p (r G)
theorem ao {i:Int} {j pos}:SE X B W (.Constant (.int i) j pos) (fC (.int i)):=agL adI fun _=>aH.mpr rfl
theorem jL {b:Bool} {j pos}:SE X B W (.Constant (.bool b) j pos) (fC (.bl b)):=agL agj fun _=>bA.mpr rfl
def bV (g:D->D->Rs D) (fa fb:ak->Rs D):ak->Rs D:=fun ρ=>(fa ρ).bind fun x=>(fb ρ).bind fun y=>g x y
def Ny (K:PySem.W.Frag) (r:R2) (g:D->D->Rs D):Prop :=
 ∀ (B:Bs) (W:Wi) (σ:St) (ρ:ak) (G H:Hp) (x y:D) (v u:V) (Q:VK),SR K B σ H ρ G->Rep K G x v->Rep K G y u->Post K W σ G H (g x y) Q->r v u H Q
theorem Ew {r:R2} {g:D->D->Rs D} {fa fb:ak->Rs D} (ho:Ny K r g) (h:tF K B W (bV g fa fb) σ H Q):tOp r (tF K B W fa) (tF K B W fb) σ H Q:=by
 obtain ⟨ρ,G,s,p⟩:=xK (k:=fun ρ x=>(fb ρ).bind fun y=>g x y) h
 refine ⟨ρ,G,s,p.mono fun v H1 h1=>?_⟩
 obtain ⟨ρ,G,s,p⟩:=Wj (k:=g) h1
 exact ⟨ρ,G,s,p.mono fun u H2 ⟨ρ2,G2,d,d',s2,r1,r2,p2⟩=>ho B W σ ρ2 G2 H2 d d' v u Q s2 r1 r2 p2⟩
theorem Dj {a b:Expr} {op:Operator} {pos:Pos} {r:R2} {g:D->D->Rs D} {fa fb:ak->Rs D} (ho:pB X (binaryOp op) r) (hg:Ny X.K r g) (ha:SE X B W a fa) (hb:SE X B W b fb):SE X B W (.BinOp a op b pos) (bV g fa fb) :=
 PE.imp (QM ho ha hb) fun _ _ _ h=>Ew hg h
def gI (C:Int->Int->Prop) [∀ i j,Decidable (C i j)] (g:Int->Int->D):D->D->Rs D
 | .int i,.int j=>if C i j then .ok (g i j) else .no
 | _,_=>.no
theorem Jp {C:Int->Int->Prop} [∀ i j,Decidable (C i j)] {gv:Int->Int->V} {g:Int->Int->D} (hg:∀ G i j,Rep K G (g i j) (gv i j)):Ny K (rI C gv) (gI C g):=by
 intro B W σ ρ G H x y v u Q s rx ry p
 cases x <;> first|exact p.elim|skip
 rename_i i
 cases y <;> first|exact p.elim|skip
 rename_i j
 simp only [gI] at p
 by_cases c:C i j
 ·rw [if_pos c] at p
  exact ⟨i,j,aH.mp rx,aH.mp ry,c,Post.ok s p (hg G i j)⟩
 ·rw [if_neg c] at p;exact p.elim
def gI0 (g:Int->Int->D):D->D->Rs D
 | .int i,.int j=>.ok (g i j)
 | _,_=>.no
theorem yE {gv:Int->Int->V} {g:Int->Int->D} (hg:∀ G i j,Rep K G (g i j) (gv i j)):Ny K (ZW gv) (gI0 g):=by
 intro B W σ ρ G H x y v u Q s rx ry p
 cases x <;> first|exact p.elim|skip
 rename_i i
 cases y <;> first|exact p.elim|skip
 rename_i j
 exact ⟨i,j,aH.mp rx,aH.mp ry,Post.ok s p (hg G i j)⟩
end
end Vl
namespace Vl
open PySem PySem.Spec L2
mutual
def oZ:D->D->Bool
 | .tup a,.tup b=>vD a b
 | .lst a,.lst b=>vD a b
 | .non,.non=>true
 | .bl a,.bl b=>a == b
 | .bl a,.int b=>(if a then 1 else 0) == b
 | .int a,.bl b=>a == (if b then 1 else 0)
 | .int a,.int b=>a == b
 | .str a,.str b=>a == b
 | .kJ a b,.kJ c d=>a == c && b == d
 | _,_=>false
def vD:List D->List D->Bool
 | [],[]=>true
 | a::as,b::bs=>oZ a b && vD as bs
 | _,_=>false
end
mutual
def cL:D->Nat
 | .tup a=>cU a + 1
 | .lst a=>cU a + 1
 | .kJ _ _=>cLine
 | _=>0
def cU:List D->Nat
 | []=>0
 | a::as=>Nat.max (cL a) (cU as)
end
mutual
theorem uq:∀ d:D,oZ d d=true
 | .non=>by simp [oZ]
 | .bl _=>by simp [oZ]
 | .int _=>by simp [oZ]
 | .str _=>by simp [oZ]
 | .tup a=>by simp [oZ,vG a]
 | .lst a=>by simp [oZ,vG a]
 | .kJ _ _=>by simp [oZ]
theorem vG:∀ d:List D,vD d d=true
 | []=>by simp [vD]
 | a::as=>by simp [vD,uq a,vG as]
end
theorem cQ:∀ (a b:List D),((List.range (min a.length b.length)).all (fun j=>oZ (a.getD j .non) (b.getD j .non)) && a.length == b.length)=vD a b
 | [],[]=>by simp [vD]
 | [],b::bs=>by simp [vD]
 | a::as,[]=>by simp [vD]
 | a::as,b::bs=>by
  have ih:=cQ as bs
  rw [vD,<- ih]
  rw [show min (a::as).length (b::bs).length=min as.length bs.length + 1 by simp]
  rw [List.range_succ_eq_map,List.all_cons,List.all_map]
  simp [Function.comp_def,Bool.and_assoc]
theorem ur {d:D}:∀ {ds:List D},d∈ds->cL d<=cU ds
 | [],h=>by cases h
 | x::xs,h=>by
  rw [cU]
  rcases List.mem_cons.mp h with rfl|h
  ·exact Nat.le_max_left _ _
  ·exact Nat.le_trans (ur h) (Nat.le_max_right _ _)
section
variable {X:Cx} {pins:List (Addr×Obj)} {σ:St} {H:Hp} {s:Shared}
theorem Jq (I:Inv X pins σ H s) {a:Addr} {xs ys:List V} (h:rG X.K H a xs) (h':lK X.K H a ys):False:=by
 obtain ⟨_,_,⟨o,n,e,c,_,_⟩,_⟩:=I.list h
 obtain ⟨_,_,⟨o',e',c',_⟩,_⟩:=I.tuple h'
 rw [e] at e';cases e'
 rw [c] at c';exact absurd c' (by decide)
theorem Wk (I:Inv X pins σ H s) {a:Addr} {xs:List V} {φ:Heap->Prop} (h:lK X.K H a xs) (h':H a=some (.ext φ)):False:=by
 rcases h with (h|⟨o,h⟩)|⟨o,its,n,hk,_⟩
 ·rw [h'] at h;cases h
 ·rw [h'] at h;cases h
 ·have:=(I.bs a o (I.mod.kin a o hk)).2
  rw [h'] at this;cases this
theorem Wm (I:Inv X pins σ H s) {a:Addr} {xs:List V} {φ:Heap->Prop} (h:rG X.K H a xs) (h':H a=some (.ext φ)):False:=by
 rcases h with (h|⟨o,h⟩)|⟨o,its,n,hk,_⟩
 ·rw [h'] at h;cases h
 ·rw [h'] at h;cases h
 ·have:=(I.bs a o (I.mod.kin a o hk)).2
  rw [h'] at this;cases this
mutual
theorem Rep.inj (I:Inv X pins σ H s):∀ {d d':D} {v:V},cL d < cLine->Rep X.K H d v->Rep X.K H d' v->d=d'
 | .non,d',v,_,h,h'=>by
  rw [bD.mp h] at h'
  cases d' <;> simp only [Rep] at h' <;> first|rfl|(obtain ⟨a,vs,e,_⟩:=h';cases e;done)|(cases h';rfl)|cases h'
 | .bl _,d',v,_,h,h'=>by
  rw [bA.mp h] at h'
  cases d' <;> simp only [Rep] at h' <;> first|rfl|(obtain ⟨a,vs,e,_⟩:=h';cases e;done)|(cases h';rfl)|cases h'
 | .int _,d',v,_,h,h'=>by
  rw [aH.mp h] at h'
  cases d' <;> simp only [Rep] at h' <;> first|rfl|(obtain ⟨a,vs,e,_⟩:=h';cases e;done)|(cases h';rfl)|cases h'
 | .str _,d',v,_,h,h'=>by
  rw [bG.mp h] at h'
  cases d' <;> simp only [Rep] at h' <;> first|rfl|(obtain ⟨a,vs,e,_⟩:=h';cases e;done)|(cases h';rfl)|cases h'
 | .tup ds,d',v,hd,h,h'=>by
  obtain ⟨a,vs,rfl,q,r⟩:=aP.mp h
  cases d' with
  | tup es =>
   obtain ⟨b,us,e,q',r'⟩:=aP.mp h'
   cases e
   rw [I.CV q' q] at r'
   rw [aZ.inj I (by simp only [cL] at hd;omega) r r']
  | lst es =>
   obtain ⟨b,us,e,q',r'⟩:=aO.mp h'
   cases e
   exact (Jq I q' q).elim
  | kJ c n =>
   obtain ⟨b,C,e,_,q'⟩:=Ra.mp h'
   cases e
   exact (Wk I q q').elim
  | _=>simp only [Rep] at h';cases h'
 | .lst ds,d',v,hd,h,h'=>by
  obtain ⟨a,vs,rfl,q,r⟩:=aO.mp h
  cases d' with
  | lst es =>
   obtain ⟨b,us,e,q',r'⟩:=aO.mp h'
   cases e
   rw [I.Jj q' q] at r'
   rw [aZ.inj I (by simp only [cL] at hd;omega) r r']
  | tup es =>
   obtain ⟨b,us,e,q',r'⟩:=aP.mp h'
   cases e
   exact (Jq I q q').elim
  | kJ c n =>
   obtain ⟨b,C,e,_,q'⟩:=Ra.mp h'
   cases e
   exact (Wm I q q').elim
  | _=>simp only [Rep] at h';cases h'
 | .kJ _ _,d',v,hd,h,h'=>by simp only [cL] at hd;exact absurd hd (Nat.lt_irrefl _)
theorem aZ.inj (I:Inv X pins σ H s):∀ {ds es:List D} {vs:List V},cU ds < cLine->aZ X.K H ds vs->aZ X.K H es vs->ds=es
 | [],es,vs,_,h,h'=>by
  rw [bf.mp h] at h'
  cases es with
  | nil=>rfl
  | cons e es=>obtain ⟨v,vs',e1,_⟩:=aN.mp h';cases e1
 | d::ds,es,vs,hd,h,h'=>by
  obtain ⟨v,vs',rfl,r1,r2⟩:=aN.mp h
  simp only [cU] at hd
  cases es with
  | nil=>have:=bf.mp h';cases this
  | cons e es =>
   obtain ⟨v',vs'',e1,r1',r2'⟩:=aN.mp h'
   cases e1
   rw [Rep.inj I (Nat.lt_of_le_of_lt (Nat.le_max_left _ _) hd) r1 r1',aZ.inj I (Nat.lt_of_le_of_lt (Nat.le_max_right _ _) hd) r2 r2']
end
theorem yF (I:Inv X pins σ H s) {m:Nat} {A:Around} {ds es:List D} {vs us:List V} {its its2:List Value}
  (ih:∀ {d d':D} {v v':V} {u u':Value} {A:Around},cL d<=m->cL d'<=m->A.units + m < cLine->Rep X.K H d v->Rep X.K H d' v'->RelV v u->RelV v' u'->SeqAt.EqAt A s u u' (oZ d d'))
  (hn:cU ds<=m) (hn':cU es<=m) (hu:A.in1.units + m < cLine) (r1:aZ X.K H ds vs) (r2:aZ X.K H es us) (a1:Vals vs its) (a2:Vals us its2) :
  ∀ j (h1:j < its.toArray.size) (h2:j < its2.toArray.size),SeqAt.EqAt A.in1 s its.toArray[j] its2.toArray[j] (oZ (ds.getD j .non) (es.getD j .non)):=by
 intro j h1 h2
 have l1:j < ds.length:=by rw [r1.length,a1.length];simpa using h1
 have l2:j < es.length:=by rw [r2.length,a2.length];simpa using h2
 obtain ⟨x,hx,rx⟩:=r1.get (i:=j) (d:=ds[j]) (by simp [l1])
 obtain ⟨y,hy,ry⟩:=r2.get (i:=j) (d:=es[j]) (by simp [l2])
 obtain ⟨p,hp,rp⟩:=a1.get hx
 obtain ⟨q,hq,rq⟩:=a2.get hy
 have e1:its.toArray[j]=p:=by
  have:=(List.getElem?_eq_some_iff.mp hp).2;simpa using this
 have e2:its2.toArray[j]=q:=by
  have:=(List.getElem?_eq_some_iff.mp hq).2;simpa using this
 rw [e1,e2,List.getD_eq_getElem?_getD,List.getD_eq_getElem?_getD,List.getElem?_eq_getElem l1,List.getElem?_eq_getElem l2]
 exact ih (Nat.le_trans (ur (List.getElem_mem l1)) hn) (Nat.le_trans (ur (List.getElem_mem l2)) hn') hu rx ry rp rq
open SeqAt in
theorem Wn (I:Inv X pins σ H s):∀ (n:Nat) {d d':D} {v v':V} {u u':Value} {A:Around},cL d<=n->cL d'<=n->A.units + n < cLine->Rep X.K H d v->Rep X.K H d' v'->RelV v u->RelV v' u'->EqAt A s u u' (oZ d d'):=by
 intro n
 induction n with
 | zero =>
  intro d d' v v' u u' A hd hd' hu r r' e e'
  have hu0:A.units < cLine:=by omega
  cases d with
  | non =>
   rw [bD.mp r] at e;cases e
   cases d' with
   | non =>
    rw [bD.mp r'] at e';cases e'
    exact EqAt.same _
   | bl b =>
    rw [bA.mp r'] at e';cases e'
    exact EqAt.none_bool b
   | int b =>
    rw [aH.mp r'] at e';obtain ⟨t',rfl⟩:=e'
    exact EqAt.none_int b t'
   | str b =>
    rw [bG.mp r'] at e';obtain ⟨t',rfl⟩:=e'
    exact EqAt.none_str b t'
   | tup es =>
    obtain ⟨b,us,rfl,q',rr'⟩:=aP.mp r'
    cases e'
    obtain ⟨its2,fX,t2,_⟩:=I.tuple q'
    exact EqAt.none_tuple t2 hu0
   | lst es =>
    obtain ⟨b,us,rfl,q',rr'⟩:=aO.mp r'
    cases e'
    obtain ⟨its2,fX,t3,_⟩:=I.list q'
    have t2:=t3.isList
    exact EqAt.none_list t2 hu0
   | kJ c m =>
    simp only [cL] at hd';exact absurd hu (by omega)
  | bl x =>
   rw [bA.mp r] at e;cases e
   cases d' with
   | non =>
    rw [bD.mp r'] at e';cases e'
    exact EqAt.bool_none x
   | bl b =>
    rw [bA.mp r'] at e';cases e'
    exact EqAt.bool_bool x b
   | int b =>
    rw [aH.mp r'] at e';obtain ⟨t',rfl⟩:=e'
    exact EqAt.bool_int x b t'
   | str b =>
    rw [bG.mp r'] at e';obtain ⟨t',rfl⟩:=e'
    exact EqAt.bool_str x b t'
   | tup es =>
    obtain ⟨b,us,rfl,q',rr'⟩:=aP.mp r'
    cases e'
    obtain ⟨its2,fX,t2,_⟩:=I.tuple q'
    exact EqAt.bool_tuple x t2 hu0
   | lst es =>
    obtain ⟨b,us,rfl,q',rr'⟩:=aO.mp r'
    cases e'
    obtain ⟨its2,fX,t3,_⟩:=I.list q'
    have t2:=t3.isList
    exact EqAt.bool_list x t2 hu0
   | kJ c m =>
    simp only [cL] at hd';exact absurd hu (by omega)
  | int x =>
   rw [aH.mp r] at e;obtain ⟨t0,rfl⟩:=e
   cases d' with
   | non =>
    rw [bD.mp r'] at e';cases e'
    exact EqAt.int_none x t0
   | bl b =>
    rw [bA.mp r'] at e';cases e'
    exact EqAt.int_bool x t0 b
   | int b =>
    rw [aH.mp r'] at e';obtain ⟨t',rfl⟩:=e'
    exact EqAt.int_int x t0 b t'
   | str b =>
    rw [bG.mp r'] at e';obtain ⟨t',rfl⟩:=e'
    exact EqAt.int_str x t0 b t'
   | tup es =>
    obtain ⟨b,us,rfl,q',rr'⟩:=aP.mp r'
    cases e'
    obtain ⟨its2,fX,t2,_⟩:=I.tuple q'
    exact EqAt.int_tuple x t0 t2 hu0
   | lst es =>
    obtain ⟨b,us,rfl,q',rr'⟩:=aO.mp r'
    cases e'
    obtain ⟨its2,fX,t3,_⟩:=I.list q'
    have t2:=t3.isList
    exact EqAt.int_list x t0 t2 hu0
   | kJ c m =>
    simp only [cL] at hd';exact absurd hu (by omega)
  | str x =>
   rw [bG.mp r] at e;obtain ⟨t0,rfl⟩:=e
   cases d' with
   | non =>
    rw [bD.mp r'] at e';cases e'
    exact EqAt.str_none x t0
   | bl b =>
    rw [bA.mp r'] at e';cases e'
    exact EqAt.str_bool x t0 b
   | int b =>
    rw [aH.mp r'] at e';obtain ⟨t',rfl⟩:=e'
    exact EqAt.str_int x t0 b t'
   | str b =>
    rw [bG.mp r'] at e';obtain ⟨t',rfl⟩:=e'
    exact EqAt.str_str x t0 b t'
   | tup es =>
    obtain ⟨b,us,rfl,q',rr'⟩:=aP.mp r'
    cases e'
    obtain ⟨its2,fX,t2,_⟩:=I.tuple q'
    exact EqAt.str_tuple x t0 t2 hu0
   | lst es =>
    obtain ⟨b,us,rfl,q',rr'⟩:=aO.mp r'
    cases e'
    obtain ⟨its2,fX,t3,_⟩:=I.list q'
    have t2:=t3.isList
    exact EqAt.str_list x t0 t2 hu0
   | kJ c m =>
    simp only [cL] at hd';exact absurd hu (by omega)
  | tup ds =>
   obtain ⟨a,vs,rfl,q,rr⟩:=aP.mp r
   cases e
   obtain ⟨its,av,t,_⟩:=I.tuple q
   cases d' with
   | non =>
    rw [bD.mp r'] at e';cases e'
    exact EqAt.tuple_none t hu0
   | bl b =>
    rw [bA.mp r'] at e';cases e'
    exact EqAt.tuple_bool b t hu0
   | int b =>
    rw [aH.mp r'] at e';obtain ⟨t',rfl⟩:=e'
    exact EqAt.tuple_int b t' t hu0
   | str b =>
    rw [bG.mp r'] at e';obtain ⟨t',rfl⟩:=e'
    exact EqAt.tuple_str b t' t hu0
   | tup es =>
    obtain ⟨b,us,rfl,q',rr'⟩:=aP.mp r'
    cases e'
    obtain ⟨its2,fX,t2,_⟩:=I.tuple q'
    simp only [cL] at hd;omega
   | lst es =>
    obtain ⟨b,us,rfl,q',rr'⟩:=aO.mp r'
    cases e'
    obtain ⟨its2,fX,t3,_⟩:=I.list q'
    have t2:=t3.isList
    exact EqAt.tuple_list t t2 hu0
   | kJ c m =>
    simp only [cL] at hd';exact absurd hu (by omega)
  | lst ds =>
   obtain ⟨a,vs,rfl,q,rr⟩:=aO.mp r
   cases e
   obtain ⟨its,av,t1,_⟩:=I.list q
   have t:=t1.isList
   cases d' with
   | non =>
    rw [bD.mp r'] at e';cases e'
    exact EqAt.list_none t hu0
   | bl b =>
    rw [bA.mp r'] at e';cases e'
    exact EqAt.list_bool b t hu0
   | int b =>
    rw [aH.mp r'] at e';obtain ⟨t',rfl⟩:=e'
    exact EqAt.list_int b t' t hu0
   | str b =>
    rw [bG.mp r'] at e';obtain ⟨t',rfl⟩:=e'
    exact EqAt.list_str b t' t hu0
   | tup es =>
    obtain ⟨b,us,rfl,q',rr'⟩:=aP.mp r'
    cases e'
    obtain ⟨its2,fX,t2,_⟩:=I.tuple q'
    exact EqAt.list_tuple t t2 hu0
   | lst es =>
    obtain ⟨b,us,rfl,q',rr'⟩:=aO.mp r'
    cases e'
    obtain ⟨its2,fX,t3,_⟩:=I.list q'
    have t2:=t3.isList
    simp only [cL] at hd;omega
   | kJ c m =>
    simp only [cL] at hd';exact absurd hu (by omega)
  | kJ c m =>
   simp only [cL] at hd;exact absurd hu (by omega)
 | succ m ih =>
  intro d d' v v' u u' A hd hd' hu r r' e e'
  have hu0:A.units < cLine:=by omega
  cases d with
  | non =>
   rw [bD.mp r] at e;cases e
   cases d' with
   | non =>
    rw [bD.mp r'] at e';cases e'
    exact EqAt.same _
   | bl b =>
    rw [bA.mp r'] at e';cases e'
    exact EqAt.none_bool b
   | int b =>
    rw [aH.mp r'] at e';obtain ⟨t',rfl⟩:=e'
    exact EqAt.none_int b t'
   | str b =>
    rw [bG.mp r'] at e';obtain ⟨t',rfl⟩:=e'
    exact EqAt.none_str b t'
   | tup es =>
    obtain ⟨b,us,rfl,q',rr'⟩:=aP.mp r'
    cases e'
    obtain ⟨its2,fX,t2,_⟩:=I.tuple q'
    exact EqAt.none_tuple t2 hu0
   | lst es =>
    obtain ⟨b,us,rfl,q',rr'⟩:=aO.mp r'
    cases e'
    obtain ⟨its2,fX,t3,_⟩:=I.list q'
    have t2:=t3.isList
    exact EqAt.none_list t2 hu0
   | kJ c m =>
    simp only [cL] at hd';exact absurd hu (by omega)
  | bl x =>
   rw [bA.mp r] at e;cases e
   cases d' with
   | non =>
    rw [bD.mp r'] at e';cases e'
    exact EqAt.bool_none x
   | bl b =>
    rw [bA.mp r'] at e';cases e'
    exact EqAt.bool_bool x b
   | int b =>
    rw [aH.mp r'] at e';obtain ⟨t',rfl⟩:=e'
    exact EqAt.bool_int x b t'
   | str b =>
    rw [bG.mp r'] at e';obtain ⟨t',rfl⟩:=e'
    exact EqAt.bool_str x b t'
   | tup es =>
    obtain ⟨b,us,rfl,q',rr'⟩:=aP.mp r'
    cases e'
    obtain ⟨its2,fX,t2,_⟩:=I.tuple q'
    exact EqAt.bool_tuple x t2 hu0
   | lst es =>
    obtain ⟨b,us,rfl,q',rr'⟩:=aO.mp r'
    cases e'
    obtain ⟨its2,fX,t3,_⟩:=I.list q'
    have t2:=t3.isList
    exact EqAt.bool_list x t2 hu0
   | kJ c m =>
    simp only [cL] at hd';exact absurd hu (by omega)
  | int x =>
   rw [aH.mp r] at e;obtain ⟨t0,rfl⟩:=e
   cases d' with
   | non =>
    rw [bD.mp r'] at e';cases e'
    exact EqAt.int_none x t0
   | bl b =>
    rw [bA.mp r'] at e';cases e'
    exact EqAt.int_bool x t0 b
   | int b =>
    rw [aH.mp r'] at e';obtain ⟨t',rfl⟩:=e'
    exact EqAt.int_int x t0 b t'
   | str b =>
    rw [bG.mp r'] at e';obtain ⟨t',rfl⟩:=e'
    exact EqAt.int_str x t0 b t'
   | tup es =>
    obtain ⟨b,us,rfl,q',rr'⟩:=aP.mp r'
    cases e'
    obtain ⟨its2,fX,t2,_⟩:=I.tuple q'
    exact EqAt.int_tuple x t0 t2 hu0
   | lst es =>
    obtain ⟨b,us,rfl,q',rr'⟩:=aO.mp r'
    cases e'
    obtain ⟨its2,fX,t3,_⟩:=I.list q'
    have t2:=t3.isList
    exact EqAt.int_list x t0 t2 hu0
   | kJ c m =>
    simp only [cL] at hd';exact absurd hu (by omega)
  | str x =>
   rw [bG.mp r] at e;obtain ⟨t0,rfl⟩:=e
   cases d' with
   | non =>
    rw [bD.mp r'] at e';cases e'
    exact EqAt.str_none x t0
   | bl b =>
    rw [bA.mp r'] at e';cases e'
    exact EqAt.str_bool x t0 b
   | int b =>
    rw [aH.mp r'] at e';obtain ⟨t',rfl⟩:=e'
    exact EqAt.str_int x t0 b t'
   | str b =>
    rw [bG.mp r'] at e';obtain ⟨t',rfl⟩:=e'
    exact EqAt.str_str x t0 b t'
   | tup es =>
    obtain ⟨b,us,rfl,q',rr'⟩:=aP.mp r'
    cases e'
    obtain ⟨its2,fX,t2,_⟩:=I.tuple q'
    exact EqAt.str_tuple x t0 t2 hu0
   | lst es =>
    obtain ⟨b,us,rfl,q',rr'⟩:=aO.mp r'
    cases e'
    obtain ⟨its2,fX,t3,_⟩:=I.list q'
    have t2:=t3.isList
    exact EqAt.str_list x t0 t2 hu0
   | kJ c m =>
    simp only [cL] at hd';exact absurd hu (by omega)
  | tup ds =>
   obtain ⟨a,vs,rfl,q,rr⟩:=aP.mp r
   cases e
   obtain ⟨its,av,t,_⟩:=I.tuple q
   cases d' with
   | non =>
    rw [bD.mp r'] at e';cases e'
    exact EqAt.tuple_none t hu0
   | bl b =>
    rw [bA.mp r'] at e';cases e'
    exact EqAt.tuple_bool b t hu0
   | int b =>
    rw [aH.mp r'] at e';obtain ⟨t',rfl⟩:=e'
    exact EqAt.tuple_int b t' t hu0
   | str b =>
    rw [bG.mp r'] at e';obtain ⟨t',rfl⟩:=e'
    exact EqAt.tuple_str b t' t hu0
   | tup es =>
    obtain ⟨b,us,rfl,q',rr'⟩:=aP.mp r'
    cases e'
    obtain ⟨its2,fX,t2,_⟩:=I.tuple q'
    have hn:cU ds<=m:=by simp only [cL] at hd;omega
    have hn':cU es<=m:=by simp only [cL] at hd';omega
    by_cases hab:a=b
    ·subst hab
     rw [Rep.inj I (by omega) r r',uq]
     exact EqAt.same _
    have items:=yF I ih hn hn' (show A.in1.units + m < cLine by show A.units + 1 + m < _;omega) rr rr' av fX
    have h:=RcAt.tuples (A:=A) t t2 hu0 items
    rw [List.size_toArray,List.size_toArray,<- av.length,<- fX.length,<- rr.length,<- rr'.length,cQ] at h
    exact EqAt.of_refs hab h
   | lst es =>
    obtain ⟨b,us,rfl,q',rr'⟩:=aO.mp r'
    cases e'
    obtain ⟨its2,fX,t3,_⟩:=I.list q'
    have t2:=t3.isList
    exact EqAt.tuple_list t t2 hu0
   | kJ c m =>
    simp only [cL] at hd';exact absurd hu (by omega)
  | lst ds =>
   obtain ⟨a,vs,rfl,q,rr⟩:=aO.mp r
   cases e
   obtain ⟨its,av,t1,_⟩:=I.list q
   have t:=t1.isList
   cases d' with
   | non =>
    rw [bD.mp r'] at e';cases e'
    exact EqAt.list_none t hu0
   | bl b =>
    rw [bA.mp r'] at e';cases e'
    exact EqAt.list_bool b t hu0
   | int b =>
    rw [aH.mp r'] at e';obtain ⟨t',rfl⟩:=e'
    exact EqAt.list_int b t' t hu0
   | str b =>
    rw [bG.mp r'] at e';obtain ⟨t',rfl⟩:=e'
    exact EqAt.list_str b t' t hu0
   | tup es =>
    obtain ⟨b,us,rfl,q',rr'⟩:=aP.mp r'
    cases e'
    obtain ⟨its2,fX,t2,_⟩:=I.tuple q'
    exact EqAt.list_tuple t t2 hu0
   | lst es =>
    obtain ⟨b,us,rfl,q',rr'⟩:=aO.mp r'
    cases e'
    obtain ⟨its2,fX,t3,_⟩:=I.list q'
    have t2:=t3.isList
    have hn:cU ds<=m:=by simp only [cL] at hd;omega
    have hn':cU es<=m:=by simp only [cL] at hd';omega
    by_cases hab:a=b
    ·subst hab
     rw [Rep.inj I (by omega) r r',uq]
     exact EqAt.same _
    have items:=yF I ih hn hn' (show A.in1.units + m < cLine by show A.units + 1 + m < _;omega) rr rr' av fX
    by_cases hl:its.toArray.size=its2.toArray.size
    ·have h:=RcAt.lists (A:=A) t t2 hl hu0 items
     rw [List.size_toArray,<- av.length,<- rr.length] at h
     have hl':ds.length=es.length:=by rw [rr.length,rr'.length,av.length,fX.length];simpa using hl
     have e1:=cQ ds es
     rw [hl',Nat.min_self] at e1
     simp only [beq_self_eq_true,Bool.and_true] at e1
     rw [hl',e1] at h
     exact EqAt.of_refs hab h
    ·have h:=RcAt.lists_lengths (A:=A) t t2 (by simpa using hl) hu0
     have hl':ds.length≠es.length:=by rw [rr.length,rr'.length,av.length,fX.length];simpa using hl
     have e1:=cQ ds es
     rw [show (ds.length == es.length)=false by simpa using hl',Bool.and_false] at e1
     rw [show oZ (.lst ds) (.lst es)=false by rw [oZ,<- e1]]
     exact EqAt.of_refs hab h
   | kJ c m =>
    simp only [cL] at hd';exact absurd hu (by omega)
  | kJ c m =>
   simp only [cL] at hd;exact absurd hu (by omega)
end
end Vl
namespace Vl
open PySem PySem.Spec L2
section
variable {X:Cx} {pins:List (Addr×Obj)} {σ:St} {H:Hp} {s:Shared}
theorem uw (I:Inv X pins σ H s) {m:Nat} {A:Around} {ds es:List D} {vs us:List V} {its its2:List Value} (hn:cU ds<=m) (hn':cU es<=m) (hu:A.in1.units + m < cLine) (r1:aZ X.K H ds vs) (r2:aZ X.K H es us) (a1:Vals vs its) (a2:Vals us its2) :
  ∀ j (h1:j < its.toArray.size) (h2:j < its2.toArray.size),SeqAt.EqAt A.in1 s its.toArray[j] its2.toArray[j] (oZ (ds.getD j .non) (es.getD j .non)) :=
 yF I (fun a b c d e f g=>Wn I m a b c d e f g) hn hn' hu r1 r2 a1 a2
open SeqAt in
theorem aef (I:Inv X pins σ H s) {n:Nat} {d d':D} {v v':V} {u u':Value} {A:Around} (hd:cL d<=n) (hd':cL d'<=n) (hu:A.units + n < cLine) (r:Rep X.K H d v) (r':Rep X.K H d' v') (e:RelV v u) (e':RelV v' u'):RcAt A s u u' (oZ d d'):=by
 have hu0:A.units < cLine:=by omega
 cases d with
 | non =>
  rw [bD.mp r] at e;cases e
  cases d' with
  | non =>
   rw [bD.mp r'] at e';cases e'
   exact RcAt.none_none
  | bl b =>
   rw [bA.mp r'] at e';cases e'
   exact RcAt.none_bool b
  | int b =>
   rw [aH.mp r'] at e';obtain ⟨t',rfl⟩:=e'
   exact RcAt.none_int b t'
  | str b =>
   rw [bG.mp r'] at e';obtain ⟨t',rfl⟩:=e'
   exact RcAt.none_str b t'
  | tup es =>
   obtain ⟨b,us,rfl,q',rr'⟩:=aP.mp r'
   cases e'
   obtain ⟨its2,fX,t2,_⟩:=I.tuple q'
   exact RcAt.none_tuple t2 hu0
  | lst es =>
   obtain ⟨b,us,rfl,q',rr'⟩:=aO.mp r'
   cases e'
   obtain ⟨its2,fX,t3,_⟩:=I.list q'
   have t2:=t3.isList
   exact RcAt.none_list t2 hu0
  | kJ c m =>
   simp only [cL] at hd';exact absurd hu (by omega)
 | bl x =>
  rw [bA.mp r] at e;cases e
  cases d' with
  | non =>
   rw [bD.mp r'] at e';cases e'
   exact RcAt.bool_none x
  | bl b =>
   rw [bA.mp r'] at e';cases e'
   exact RcAt.bool_bool x b
  | int b =>
   rw [aH.mp r'] at e';obtain ⟨t',rfl⟩:=e'
   exact RcAt.bool_int x b t'
  | str b =>
   rw [bG.mp r'] at e';obtain ⟨t',rfl⟩:=e'
   exact RcAt.bool_str x b t'
  | tup es =>
   obtain ⟨b,us,rfl,q',rr'⟩:=aP.mp r'
   cases e'
   obtain ⟨its2,fX,t2,_⟩:=I.tuple q'
   exact RcAt.bool_tuple x t2 hu0
  | lst es =>
   obtain ⟨b,us,rfl,q',rr'⟩:=aO.mp r'
   cases e'
   obtain ⟨its2,fX,t3,_⟩:=I.list q'
   have t2:=t3.isList
   exact RcAt.bool_list x t2 hu0
  | kJ c m =>
   simp only [cL] at hd';exact absurd hu (by omega)
 | int x =>
  rw [aH.mp r] at e;obtain ⟨t0,rfl⟩:=e
  cases d' with
  | non =>
   rw [bD.mp r'] at e';cases e'
   exact RcAt.int_none x t0
  | bl b =>
   rw [bA.mp r'] at e';cases e'
   exact RcAt.int_bool x t0 b
  | int b =>
   rw [aH.mp r'] at e';obtain ⟨t',rfl⟩:=e'
   exact RcAt.int_int x t0 b t'
  | str b =>
   rw [bG.mp r'] at e';obtain ⟨t',rfl⟩:=e'
   exact RcAt.int_str x t0 b t'
  | tup es =>
   obtain ⟨b,us,rfl,q',rr'⟩:=aP.mp r'
   cases e'
   obtain ⟨its2,fX,t2,_⟩:=I.tuple q'
   exact RcAt.int_tuple x t0 t2 hu0
  | lst es =>
   obtain ⟨b,us,rfl,q',rr'⟩:=aO.mp r'
   cases e'
   obtain ⟨its2,fX,t3,_⟩:=I.list q'
   have t2:=t3.isList
   exact RcAt.int_list x t0 t2 hu0
  | kJ c m =>
   simp only [cL] at hd';exact absurd hu (by omega)
 | str x =>
  rw [bG.mp r] at e;obtain ⟨t0,rfl⟩:=e
  cases d' with
  | non =>
   rw [bD.mp r'] at e';cases e'
   exact RcAt.str_none x t0
  | bl b =>
   rw [bA.mp r'] at e';cases e'
   exact RcAt.str_bool x t0 b
  | int b =>
   rw [aH.mp r'] at e';obtain ⟨t',rfl⟩:=e'
   exact RcAt.str_int x t0 b t'
  | str b =>
   rw [bG.mp r'] at e';obtain ⟨t',rfl⟩:=e'
   exact RcAt.str_str x t0 b t'
  | tup es =>
   obtain ⟨b,us,rfl,q',rr'⟩:=aP.mp r'
   cases e'
   obtain ⟨its2,fX,t2,_⟩:=I.tuple q'
   exact RcAt.str_tuple x t0 t2 hu0
  | lst es =>
   obtain ⟨b,us,rfl,q',rr'⟩:=aO.mp r'
   cases e'
   obtain ⟨its2,fX,t3,_⟩:=I.list q'
   have t2:=t3.isList
   exact RcAt.str_list x t0 t2 hu0
  | kJ c m =>
   simp only [cL] at hd';exact absurd hu (by omega)
 | tup ds =>
  obtain ⟨a,vs,rfl,q,rr⟩:=aP.mp r
  cases e
  obtain ⟨its,av,t,_⟩:=I.tuple q
  cases d' with
  | non =>
   rw [bD.mp r'] at e';cases e'
   exact RcAt.tuple_none t hu0
  | bl b =>
   rw [bA.mp r'] at e';cases e'
   exact RcAt.tuple_bool b t hu0
  | int b =>
   rw [aH.mp r'] at e';obtain ⟨t',rfl⟩:=e'
   exact RcAt.tuple_int b t' t hu0
  | str b =>
   rw [bG.mp r'] at e';obtain ⟨t',rfl⟩:=e'
   exact RcAt.tuple_str b t' t hu0
  | tup es =>
   obtain ⟨b,us,rfl,q',rr'⟩:=aP.mp r'
   cases e'
   obtain ⟨its2,fX,t2,_⟩:=I.tuple q'
   obtain ⟨m,rfl⟩:∃ m,n=m + 1:=⟨n - 1,by simp only [cL] at hd;omega⟩
   have hn:cU ds<=m:=by simp only [cL] at hd;omega
   have hn':cU es<=m:=by simp only [cL] at hd';omega
   have items:=uw I hn hn' (show A.in1.units + m < cLine by show A.units + 1 + m < _;omega) rr rr' av fX
   have h:=RcAt.tuples (A:=A) t t2 hu0 items
   rw [List.size_toArray,List.size_toArray,<- av.length,<- fX.length,<- rr.length,<- rr'.length,cQ] at h
   exact h
  | lst es =>
   obtain ⟨b,us,rfl,q',rr'⟩:=aO.mp r'
   cases e'
   obtain ⟨its2,fX,t3,_⟩:=I.list q'
   have t2:=t3.isList
   exact RcAt.tuple_list t t2 hu0
  | kJ c m =>
   simp only [cL] at hd';exact absurd hu (by omega)
 | lst ds =>
  obtain ⟨a,vs,rfl,q,rr⟩:=aO.mp r
  cases e
  obtain ⟨its,av,t1,_⟩:=I.list q
  have t:=t1.isList
  cases d' with
  | non =>
   rw [bD.mp r'] at e';cases e'
   exact RcAt.list_none t hu0
  | bl b =>
   rw [bA.mp r'] at e';cases e'
   exact RcAt.list_bool b t hu0
  | int b =>
   rw [aH.mp r'] at e';obtain ⟨t',rfl⟩:=e'
   exact RcAt.list_int b t' t hu0
  | str b =>
   rw [bG.mp r'] at e';obtain ⟨t',rfl⟩:=e'
   exact RcAt.list_str b t' t hu0
  | tup es =>
   obtain ⟨b,us,rfl,q',rr'⟩:=aP.mp r'
   cases e'
   obtain ⟨its2,fX,t2,_⟩:=I.tuple q'
   exact RcAt.list_tuple t t2 hu0
  | lst es =>
   obtain ⟨b,us,rfl,q',rr'⟩:=aO.mp r'
   cases e'
   obtain ⟨its2,fX,t3,_⟩:=I.list q'
   have t2:=t3.isList
   obtain ⟨m,rfl⟩:∃ m,n=m + 1:=⟨n - 1,by simp only [cL] at hd;omega⟩
   have hn:cU ds<=m:=by simp only [cL] at hd;omega
   have hn':cU es<=m:=by simp only [cL] at hd';omega
   have items:=uw I hn hn' (show A.in1.units + m < cLine by show A.units + 1 + m < _;omega) rr rr' av fX
   by_cases hl:its.toArray.size=its2.toArray.size
   ·have h:=RcAt.lists (A:=A) t t2 hl hu0 items
    rw [List.size_toArray,<- av.length,<- rr.length] at h
    have hl':ds.length=es.length:=by rw [rr.length,rr'.length,av.length,fX.length];simpa using hl
    have e1:=cQ ds es
    rw [hl',Nat.min_self] at e1
    simp only [beq_self_eq_true,Bool.and_true] at e1
    rw [hl',e1] at h
    exact h
   ·have h:=RcAt.lists_lengths (A:=A) t t2 (by simpa using hl) hu0
    have hl':ds.length≠es.length:=by rw [rr.length,rr'.length,av.length,fX.length];simpa using hl
    have e1:=cQ ds es
    rw [show (ds.length == es.length)=false by simpa using hl',Bool.and_false] at e1
    rw [show oZ (.lst ds) (.lst es)=false by rw [oZ,<- e1]]
    exact h
  | kJ c m =>
   simp only [cL] at hd';exact absurd hu (by omega)
 | kJ c m =>
  simp only [cL] at hd;exact absurd hu (by omega)
open SeqAt in
theorem Wo (I:Inv X pins σ H s) {n:Nat} {d d':D} {v v':V} {u u':Value} {A:Around} (hd:cL d<=n) (hd':cL d'<=n) (hu:A.units + n < cLine) (r:Rep X.K H d v) (r':Rep X.K H d' v') (e:RelV v u) (e':RelV v' u'):RcNeAt A s u u' (!oZ d d'):=by
 have hu0:A.units < cLine:=by omega
 cases d with
 | non =>
  rw [bD.mp r] at e;cases e
  cases d' with
  | non =>
   rw [bD.mp r'] at e';cases e'
   exact RcNeAt.none_none
  | bl b =>
   rw [bA.mp r'] at e';cases e'
   exact RcNeAt.none_bool b
  | int b =>
   rw [aH.mp r'] at e';obtain ⟨t',rfl⟩:=e'
   exact RcNeAt.none_int b t'
  | str b =>
   rw [bG.mp r'] at e';obtain ⟨t',rfl⟩:=e'
   exact RcNeAt.none_str b t'
  | tup es =>
   obtain ⟨b,us,rfl,q',rr'⟩:=aP.mp r'
   cases e'
   obtain ⟨its2,fX,t2,_⟩:=I.tuple q'
   exact RcNeAt.none_tuple t2 hu0
  | lst es =>
   obtain ⟨b,us,rfl,q',rr'⟩:=aO.mp r'
   cases e'
   obtain ⟨its2,fX,t3,_⟩:=I.list q'
   have t2:=t3.isList
   exact RcNeAt.none_list t2 hu0
  | kJ c m =>
   simp only [cL] at hd';exact absurd hu (by omega)
 | bl x =>
  rw [bA.mp r] at e;cases e
  cases d' with
  | non =>
   rw [bD.mp r'] at e';cases e'
   exact RcNeAt.bool_none x
  | bl b =>
   rw [bA.mp r'] at e';cases e'
   exact RcNeAt.bool_bool x b
  | int b =>
   rw [aH.mp r'] at e';obtain ⟨t',rfl⟩:=e'
   exact RcNeAt.bool_int x b t'
  | str b =>
   rw [bG.mp r'] at e';obtain ⟨t',rfl⟩:=e'
   exact RcNeAt.bool_str x b t'
  | tup es =>
   obtain ⟨b,us,rfl,q',rr'⟩:=aP.mp r'
   cases e'
   obtain ⟨its2,fX,t2,_⟩:=I.tuple q'
   exact RcNeAt.bool_tuple x t2 hu0
  | lst es =>
   obtain ⟨b,us,rfl,q',rr'⟩:=aO.mp r'
   cases e'
   obtain ⟨its2,fX,t3,_⟩:=I.list q'
   have t2:=t3.isList
   exact RcNeAt.bool_list x t2 hu0
  | kJ c m =>
   simp only [cL] at hd';exact absurd hu (by omega)
 | int x =>
  rw [aH.mp r] at e;obtain ⟨t0,rfl⟩:=e
  cases d' with
  | non =>
   rw [bD.mp r'] at e';cases e'
   exact RcNeAt.int_none x t0
  | bl b =>
   rw [bA.mp r'] at e';cases e'
   exact RcNeAt.int_bool x t0 b
  | int b =>
   rw [aH.mp r'] at e';obtain ⟨t',rfl⟩:=e'
   exact RcNeAt.int_int x t0 b t'
  | str b =>
   rw [bG.mp r'] at e';obtain ⟨t',rfl⟩:=e'
   exact RcNeAt.int_str x t0 b t'
  | tup es =>
   obtain ⟨b,us,rfl,q',rr'⟩:=aP.mp r'
   cases e'
   obtain ⟨its2,fX,t2,_⟩:=I.tuple q'
   exact RcNeAt.int_tuple x t0 t2 hu0
  | lst es =>
   obtain ⟨b,us,rfl,q',rr'⟩:=aO.mp r'
   cases e'
   obtain ⟨its2,fX,t3,_⟩:=I.list q'
   have t2:=t3.isList
   exact RcNeAt.int_list x t0 t2 hu0
  | kJ c m =>
   simp only [cL] at hd';exact absurd hu (by omega)
 | str x =>
  rw [bG.mp r] at e;obtain ⟨t0,rfl⟩:=e
  cases d' with
  | non =>
   rw [bD.mp r'] at e';cases e'
   exact RcNeAt.str_none x t0
  | bl b =>
   rw [bA.mp r'] at e';cases e'
   exact RcNeAt.str_bool x t0 b
  | int b =>
   rw [aH.mp r'] at e';obtain ⟨t',rfl⟩:=e'
   exact RcNeAt.str_int x t0 b t'
  | str b =>
   rw [bG.mp r'] at e';obtain ⟨t',rfl⟩:=e'
   exact RcNeAt.str_str x t0 b t'
  | tup es =>
   obtain ⟨b,us,rfl,q',rr'⟩:=aP.mp r'
   cases e'
   obtain ⟨its2,fX,t2,_⟩:=I.tuple q'
   exact RcNeAt.str_tuple x t0 t2 hu0
  | lst es =>
   obtain ⟨b,us,rfl,q',rr'⟩:=aO.mp r'
   cases e'
   obtain ⟨its2,fX,t3,_⟩:=I.list q'
   have t2:=t3.isList
   exact RcNeAt.str_list x t0 t2 hu0
  | kJ c m =>
   simp only [cL] at hd';exact absurd hu (by omega)
 | tup ds =>
  obtain ⟨a,vs,rfl,q,rr⟩:=aP.mp r
  cases e
  obtain ⟨its,av,t,_⟩:=I.tuple q
  cases d' with
  | non =>
   rw [bD.mp r'] at e';cases e'
   exact RcNeAt.tuple_none t hu0
  | bl b =>
   rw [bA.mp r'] at e';cases e'
   exact RcNeAt.tuple_bool b t hu0
  | int b =>
   rw [aH.mp r'] at e';obtain ⟨t',rfl⟩:=e'
   exact RcNeAt.tuple_int b t' t hu0
  | str b =>
   rw [bG.mp r'] at e';obtain ⟨t',rfl⟩:=e'
   exact RcNeAt.tuple_str b t' t hu0
  | tup es =>
   obtain ⟨b,us,rfl,q',rr'⟩:=aP.mp r'
   cases e'
   obtain ⟨its2,fX,t2,_⟩:=I.tuple q'
   obtain ⟨m,rfl⟩:∃ m,n=m + 1:=⟨n - 1,by simp only [cL] at hd;omega⟩
   have hn:cU ds<=m:=by simp only [cL] at hd;omega
   have hn':cU es<=m:=by simp only [cL] at hd';omega
   have items:=uw I hn hn' (show A.in1.units + m < cLine by show A.units + 1 + m < _;omega) rr rr' av fX
   have h:=RcNeAt.tuples (A:=A) t t2 hu0 items
   rw [List.size_toArray,List.size_toArray,<- av.length,<- fX.length,<- rr.length,<- rr'.length,cQ] at h
   exact h
  | lst es =>
   obtain ⟨b,us,rfl,q',rr'⟩:=aO.mp r'
   cases e'
   obtain ⟨its2,fX,t3,_⟩:=I.list q'
   have t2:=t3.isList
   exact RcNeAt.tuple_list t t2 hu0
  | kJ c m =>
   simp only [cL] at hd';exact absurd hu (by omega)
 | lst ds =>
  obtain ⟨a,vs,rfl,q,rr⟩:=aO.mp r
  cases e
  obtain ⟨its,av,t1,_⟩:=I.list q
  have t:=t1.isList
  cases d' with
  | non =>
   rw [bD.mp r'] at e';cases e'
   exact RcNeAt.list_none t hu0
  | bl b =>
   rw [bA.mp r'] at e';cases e'
   exact RcNeAt.list_bool b t hu0
  | int b =>
   rw [aH.mp r'] at e';obtain ⟨t',rfl⟩:=e'
   exact RcNeAt.list_int b t' t hu0
  | str b =>
   rw [bG.mp r'] at e';obtain ⟨t',rfl⟩:=e'
   exact RcNeAt.list_str b t' t hu0
  | tup es =>
   obtain ⟨b,us,rfl,q',rr'⟩:=aP.mp r'
   cases e'
   obtain ⟨its2,fX,t2,_⟩:=I.tuple q'
   exact RcNeAt.list_tuple t t2 hu0
  | lst es =>
   obtain ⟨b,us,rfl,q',rr'⟩:=aO.mp r'
   cases e'
   obtain ⟨its2,fX,t3,_⟩:=I.list q'
   have t2:=t3.isList
   obtain ⟨m,rfl⟩:∃ m,n=m + 1:=⟨n - 1,by simp only [cL] at hd;omega⟩
   have hn:cU ds<=m:=by simp only [cL] at hd;omega
   have hn':cU es<=m:=by simp only [cL] at hd';omega
   have items:=uw I hn hn' (show A.in1.units + m < cLine by show A.units + 1 + m < _;omega) rr rr' av fX
   by_cases hl:its.toArray.size=its2.toArray.size
   ·have h:=RcNeAt.lists (A:=A) t t2 hl hu0 items
    rw [List.size_toArray,<- av.length,<- rr.length] at h
    have hl':ds.length=es.length:=by rw [rr.length,rr'.length,av.length,fX.length];simpa using hl
    have e1:=cQ ds es
    rw [hl',Nat.min_self] at e1
    simp only [beq_self_eq_true,Bool.and_true] at e1
    rw [hl',e1] at h
    exact h
   ·have h:=RcNeAt.lists_lengths (A:=A) t t2 (by simpa using hl) hu0
    have hl':ds.length≠es.length:=by rw [rr.length,rr'.length,av.length,fX.length];simpa using hl
    have e1:=cQ ds es
    rw [show (ds.length == es.length)=false by simpa using hl',Bool.and_false] at e1
    rw [show oZ (.lst ds) (.lst es)=false by rw [oZ,<- e1]]
    exact h
  | kJ c m =>
   simp only [cL] at hd';exact absurd hu (by omega)
 | kJ c m =>
  simp only [cL] at hd;exact absurd hu (by omega)
end
end Vl
namespace Vl
open PySem PySem.Spec L2
def rJ (W:Wi) (σ:St) (G H:Hp) (r:Rs Bool) (Q:Bool->Hp->Prop):Prop :=
 match r with
 | .ok b=>∀ H' G',Ext G H G' H'->Q b H'
 | .ex c n=>∀ H' G',Ext G H G' H'->W c n σ H'
 | .no=>False
def tT (K:PySem.W.Frag) (B:Bs) (W:Wi) (f:ak->Rs Bool):TT:=fun σ H Q=>∃ ρ G,SR K B σ H ρ G/\rJ W σ G H (f ρ) Q
def ST (X:Cx) (B:Bs) (W:Wi) (e:Expr) (f:ak->Rs Bool):Prop:=PT X e (tT X.K B W f)
def SW (X:Cx) (B:Bs) (W:Wi) (e:Expr) (f:ak->Rs Bool):Prop:=PW X e (tT X.K B W f)
def acY (K:PySem.W.Frag) (W:Wi) (σ:St) (G H:Hp) (r:Rs (List D)) (Q:List V->Hp->Prop):Prop :=
 match r with
 | .ok ds=>∀ vs H' G',Ext G H G' H'->aZ K G' ds vs->Q vs H'
 | .ex c n=>∀ H' G',Ext G H G' H'->W c n σ H'
 | .no=>False
def tAF (K:PySem.W.Frag) (B:Bs) (W:Wi) (f:ak->Rs (List D)):TA:=fun σ H Q=>∃ ρ G,SR K B σ H ρ G/\acY K W σ G H (f ρ) Q
def SA (X:Cx) (B:Bs) (W:Wi) (es:List Expr) (f:ak->Rs (List D)):Prop:=PA X es (tAF X.K B W f)
theorem PW.imp {X:Cx} {e:Expr} {t t':TT} (h:PW X e t) (i:∀ σ H Q,t' σ H Q->t σ H Q):PW X e t':=fun wh pins s σ H Q I q=>h wh pins s σ H Q I (i σ H Q q)
def toB:D->Rs Bool
 | .bl b=>.ok b
 | _=>.no
def fT (f:ak->Rs D):ak->Rs Bool:=fun ρ=>(f ρ).bind toB
def Tv (a b:ak->Rs Bool):ak->Rs Bool:=fun ρ=>(a ρ).bind fun x=>if x=true then b ρ else .ok false
def fOr (a b:ak->Rs Bool):ak->Rs Bool:=fun ρ=>(a ρ).bind fun x=>if x=true then .ok true else b ρ
def Nz (a:ak->Rs Bool):ak->Rs Bool:=fun ρ=>(a ρ).bind fun x=>.ok (!x)
def au (a:ak->Rs D) (r:ak->Rs (List D)):ak->Rs (List D):=fun ρ=>(a ρ).bind fun x=>(r ρ).bind fun xs=>.ok (x::xs)
def aX:ak->Rs (List D):=fun _=>.ok []
def fA (a:ak->Rs (List D)) (g:List D->Rs D):ak->Rs D:=fun ρ=>(a ρ).bind g
section
variable {X:Cx} {K:PySem.W.Frag} {B:Bs} {W:Wi} {σ:St} {G H:Hp} {ρ:ak}
theorem rJ.ext {r:Rs Bool} {Q:Bool->Hp->Prop} {G' H':Hp} (e:Ext G H G' H') (h:rJ W σ G H r Q):rJ W σ G' H' r Q:=by
 cases r with
 | ok d=>exact fun Vt G'' e'=>h Vt G'' (e.trans e')
 | ex c n=>exact fun Vt G'' e'=>h Vt G'' (e.trans e')
 | no=>exact h
theorem Wq {f:ak->Rs D} {Q:Bool->Hp->Prop} (h:tT K B W (fT f) σ H Q):tF K B W f σ H fun x H1=>∃ c,x=.bl c/\Q c H1:=by
 obtain ⟨ρ,G,s,p⟩:=h
 refine ⟨ρ,G,s,?_⟩
 unfold fT at p
 cases e:f ρ with
 | ok d =>
  rw [e] at p
  cases d with
  | bl b=>exact fun v H' G' e r=>⟨b,bA.mp r,p H' G' e⟩
  | _=>exact p.elim
 | ex c n=>rw [e] at p;exact p
 | no=>rw [e] at p;exact p
theorem vH {e:Expr} {f:ak->Rs D} (h:SE X B W e f) (he:∀ whole,isTrue e X.env whole=(do let v <- whole;standAt e.pos;holding [v] (truthy v)):=by intro _;rfl):ST X B W e (fT f) :=
 PT.imp (adJ h he) fun _ _ _ h=>Wq h
theorem NK {a b:Expr} {op:CmpOp} {pos:Pos} {r:R2} {g:D->D->Rs D} {fa fb:ak->Rs D} (ho:pB X (compareOp op) r) (hg:Ny X.K r g) (ha:SE X B W a fa) (hb:SE X B W b fb) (hm:behindInMarks op b=false) :
  ST X B W (.Compare a [op] [b] pos) (fT (bV g fa fb)):=by
 refine PT.imp (Er ho ha hb hm) fun σ H Q h=>?_
 exact Ew hg (Wq h)
theorem yG {a b:Expr} {op:CmpOp} {pos:Pos} {r:R2} {g:D->D->Rs D} {fa fb:ak->Rs D} (ho:pB X (compareOp op) r) (hg:Ny X.K r g) (ha:SE X B W a fa) (hb:SE X B W b fb) (hm:behindInMarks op b=false) :
  SE X B W (.Compare a [op] [b] pos) (bV g fa fb):=PE.imp (QS ho ha hb hm) fun _ _ _ h=>Ew hg h
theorem aay {a:Expr} {pos:Pos} {fa:ak->Rs Bool} (ha:ST X B W a fa):SW X B W (.BoolOp .And [a] pos) fa:=QH ha
theorem Wr {a:Expr} {pos:Pos} {fa:ak->Rs Bool} (ha:ST X B W a fa):SW X B W (.BoolOp .Or [a] pos) fa:=adK ha
theorem aeh {a b:Expr} {rest:List Expr} {pos:Pos} {fa fb:ak->Rs Bool} (ha:ST X B W a fa) (hb:SW X B W (.BoolOp .And (b::rest) pos) fb):SW X B W (.BoolOp .And (a::b::rest) pos) (Tv fa fb):=by
 refine PW.imp (Vy ha hb) fun σ H Q ⟨ρ,G,s,p⟩=>⟨ρ,G,s,?_⟩
 unfold Tv at p
 cases e:fa ρ with
 | ok x =>
  rw [e] at p
  intro H' G' ee
  cases x with
  | true=>rw [if_pos rfl];exact ⟨ρ,G',s.ext ee,rJ.ext ee (show rJ W σ G H (fb ρ) Q from p)⟩
  | false=>rw [if_neg (by simp)];exact (show rJ W σ G H (.ok false) Q from p) H' G' ee
 | ex c n=>rw [e] at p;exact p
 | no=>rw [e] at p;exact p
theorem ada {a b:Expr} {rest:List Expr} {pos:Pos} {fa fb:ak->Rs Bool} (ha:ST X B W a fa) (hb:SW X B W (.BoolOp .Or (b::rest) pos) fb):SW X B W (.BoolOp .Or (a::b::rest) pos) (fOr fa fb):=by
 refine PW.imp (agk ha hb) fun σ H Q ⟨ρ,G,s,p⟩=>⟨ρ,G,s,?_⟩
 unfold fOr at p
 cases e:fa ρ with
 | ok x =>
  rw [e] at p
  intro H' G' ee
  cases x with
  | true=>rw [if_pos rfl];exact (show rJ W σ G H (.ok true) Q from p) H' G' ee
  | false=>rw [if_neg (by simp)];exact ⟨ρ,G',s.ext ee,rJ.ext ee (show rJ W σ G H (fb ρ) Q from p)⟩
 | ex c n=>rw [e] at p;exact p
 | no=>rw [e] at p;exact p
theorem aei {e:Expr} {f:ak->Rs Bool} (h:SW X B W e f):ST X B W e f:=PW.pt h
theorem Ws {a:Expr} {pos:Pos} {fa:ak->Rs Bool} (ha:ST X B W a fa):ST X B W (.UnaryOp .Not a pos) (Nz fa):=by
 refine PT.imp (adL ha) fun σ H Q ⟨ρ,G,s,p⟩=>⟨ρ,G,s,?_⟩
 unfold Nz at p
 cases e:fa ρ with
 | ok x=>rw [e] at p;exact p
 | ex c n=>rw [e] at p;exact p
 | no=>rw [e] at p;exact p
def agM (a b:ak->Rs D):ak->Rs D:=fun ρ=>(a ρ).bind fun x=>(toB x).bind fun c=>if c=true then b ρ else .ok (.bl false)
def ajp (a b:ak->Rs D):ak->Rs D:=fun ρ=>(a ρ).bind fun x=>(toB x).bind fun c=>if c=true then .ok (.bl true) else b ρ
def Wt (a:ak->Rs D):ak->Rs D:=fun ρ=>(a ρ).bind fun x=>(toB x).bind fun c=>.ok (.bl !c)
theorem aej {a:Expr} {pos:Pos} {fa:ak->Rs D} (ha:SE X B W a fa):SE X B W (.UnaryOp .Not a pos) (Wt fa):=by
 refine PE.imp (adM ha) fun σ H Q h=>?_
 obtain ⟨ρ,G,s,p⟩:=xK (k:=fun ρ x=>(toB x).bind fun c=>.ok (.bl !c)) h
 refine ⟨ρ,G,s,p.mono fun v H1 ⟨ρ1,G1,d,s1,r,q⟩=>?_⟩
 cases d with
 | bl c=>exact ⟨c,bA.mp r,Post.ok s1 q (bA.mpr rfl)⟩
 | _=>exact q.elim
theorem aK:SA X B W [] aX:=PA.imp iy fun σ H Q ⟨ρ,G,s,p⟩=>p [] H G s.ug (bf.mpr rfl)
theorem aj {e:Expr} {es:List Expr} {fe:ak->Rs D} {fs:ak->Rs (List D)} (ha:SE X B W e fe) (hr:SA X B W es fs) (hs:starEach (e::es) X.env=(false,eval e X.env)::starEach es X.env:=by rfl):SA X B W (e::es) (au fe fs):=by
 refine PA.imp (cW ha hr hs) fun σ H Q ⟨ρ,G,s,p⟩=>⟨ρ,G,s,?_⟩
 unfold au at p
 cases e1:fe ρ with
 | ok d =>
  rw [e1] at p
  intro v H1 G1 x1 r1
  refine ⟨ρ,G1,s.ext x1,?_⟩
  have p':acY X.K W σ G H ((fs ρ).bind fun xs=>.ok (d::xs)) Q:=p
  cases e2:fs ρ with
  | ok ds =>
   rw [e2] at p'
   intro vs H2 G2 x2 r2
   exact p' (v::vs) H2 G2 (x1.trans x2) (aN.mpr ⟨v,vs,rfl,r1.mono x2.gg,r2⟩)
  | ex c n=>rw [e2] at p';exact fun H2 G2 x2=>p' H2 G2 (x1.trans x2)
  | no=>rw [e2] at p';exact p'
 | ex c n=>rw [e1] at p;exact p
 | no=>rw [e1] at p;exact p
def rK (K:PySem.W.Frag) (r:List V->Hp->VK->Prop) (g:List D->Rs D):Prop :=
 ∀ (B:Bs) (W:Wi) (σ:St) (ρ:ak) (G H:Hp) (ds:List D) (vs:List V) (Q:VK),SR K B σ H ρ G->aZ K G ds vs->Post K W σ G H (g ds) Q->r vs H Q
theorem Rc {t:ak->Rs (List D)} {g:List D->Rs D} {r:List V->Hp->VK->Prop} {Q:VK} (hg:rK K r g) (h:tF K B W (fA t g) σ H Q):tAF K B W t σ H fun vs H1=>r vs H1 Q:=by
 obtain ⟨ρ,G,s,p⟩:=h
 refine ⟨ρ,G,s,?_⟩
 unfold fA at p
 cases e:t ρ with
 | ok ds=>rw [e] at p;exact fun vs H1 G1 x r=>hg B W σ ρ G1 H1 ds vs Q (s.ext x) r (Post.ext x p)
 | ex c n=>rw [e] at p;exact p
 | no=>rw [e] at p;exact p
def dD:List D->Rs D:=fun ds=>if ds.length<=1000 then .ok (.tup ds) else .no
def Ey:List D->Rs D:=fun ds=>if ds.length<=1000 then .ok (.lst ds) else .no
theorem yH {n:Nat} (h:n<=1000):n<=sizeLine:=Nat.le_of_lt (Tt h)
theorem dJ {es:List Expr} {x1} {pos:Pos} {f:ak->Rs (List D)} (h:SA X B W es f):SE X B W (.Tuple es x1 pos) (fA f dD):=by
 refine PE.imp (VN h) fun σ H Q q=>Rc (r:=fun xs H1 Q=>xs.length<=sizeLine/\∀ p,H1 p=none->Q (.ref p) (dY H1 p (.tup xs))) ?_ q
 intro B W σ ρ G H ds vs Q s r p
 unfold dD at p
 by_cases hl:ds.length<=1000
 ·rw [if_pos hl] at p
  refine ⟨by rw [<- r.length];exact yH hl,fun a ha=>?_⟩
  have x:=uh (xs:=vs) s.en.gh s.en.tp ha
  exact p _ _ _ x (aP.mpr ⟨a,vs,rfl,.of aY,r.mono x.gg⟩)
 ·rw [if_neg hl] at p;exact p.elim
theorem yI {es:List Expr} {pos:Pos} {f:ak->Rs (List D)} (h:SA X B W es f):SE X B W (.List es pos) (fA f Ey):=by
 refine PE.imp (Nq h) fun σ H Q q=>Rc (r:=fun xs H1 Q=>xs.length<=sizeLine/\∀ p,H1 p=none->Q (.ref p) (dY H1 p (.lst xs))) ?_ q
 intro B W σ ρ G H ds vs Q s r p
 unfold Ey at p
 by_cases hl:ds.length<=1000
 ·rw [if_pos hl] at p
  refine ⟨by rw [<- r.length];exact yH hl,fun a ha=>?_⟩
  have x:=uo (xs:=vs) s.en.gh s.en.tp ha
  exact p _ _ _ x (aO.mpr ⟨a,vs,rfl,.of aY,r.mono x.gg⟩)
 ·rw [if_neg hl] at p;exact p.elim
def fj:D->D->Rs D
 | .tup ds,.int i=>match Am ds i with|some d=>.ok d|none=>.no
 | .lst ds,.int i=>match Am ds i with|some d=>.ok d|none=>.no
 | _,_=>.no
theorem yJ {ds:List D} {vs:List V} {i:Int} {d:D} (r:aZ K G ds vs) (h:Am ds i=some d):∃ v,Am vs i=some v/\Rep K G d v:=by
 unfold Am at h ⊢
 rw [<- r.length]
 cases e:Es ds.length i with
 | none=>rw [e] at h;cases h
 | some j=>rw [e] at h;exact r.get (i:=j) h
theorem Wu:Ny K (rIx K) fj:=by
 intro B W σ ρ G H x y v u Q s rx ry p
 cases y <;> first|(cases x <;> exact p.elim)|skip
 rename_i i
 cases x with
 | tup ds =>
  simp only [fj] at p
  obtain ⟨a,vs,rfl,q,rr⟩:=aP.mp rx
  cases e:Am ds i with
  | none=>rw [e] at p;exact p.elim
  | some d =>
   rw [e] at p
   obtain ⟨w,e2,Wc⟩:=yJ rr e
   exact .inr (.inl ⟨a,vs,i,w,rfl,aH.mp ry,Same.gU s.en.gh q,e2,Post.ok s p Wc⟩)
 | lst ds =>
  simp only [fj] at p
  obtain ⟨a,vs,rfl,q,rr⟩:=aO.mp rx
  cases e:Am ds i with
  | none=>rw [e] at p;exact p.elim
  | some d =>
   rw [e] at p
   obtain ⟨w,e2,Wc⟩:=yJ rr e
   exact .inl ⟨a,vs,i,w,rfl,aH.mp ry,s.en.gh.seq q,e2,Post.ok s p Wc⟩
 | _=>exact p.elim
theorem bW {a b:Expr} {pos:Pos} {fa fb:ak->Rs D} (ha:SE X B W a fa) (hb:SE X B W b fb) (hs:xJ b:=by intro _ _;rfl):SE X B W (.Subscript a b pos) (bV fj fa fb) :=
 PE.imp (Wb Nv ha hb hs) fun _ _ _ h=>Ew Wu h
instance (i j:Int):Decidable (Np i j):=by unfold Np;exact inferInstance
instance (i j:Int):Decidable (VH i j):=by unfold VH;exact inferInstance
def CDB (i j:Int):Prop:=0 < j/\j < 2 ^ 200
instance (i j:Int):Decidable (CDB i j):=by unfold CDB;exact inferInstance
theorem CDB.py {i j:Int} (h:CDB i j):Builtin.divisionGoesByPylong i j=false:=by
 refine PyProof.noPylong_of_log2 ?_
 have h1:j.natAbs < 2 ^ 200:=by
  have:=h.1;have:=h.2
  omega
 have h2:j.natAbs.log2 < 200:=(Nat.log2_lt (by have:=h.1;omega)).mpr h1
 omega
theorem Wv:pB X (binaryOp .FloorDiv) (rI CDB fun i j=>.int (i / j)):=opI fun i j _ _ _ _ _ hc q=>by
 have h1:=hc.1
 rw [<- Int.fdiv_eq_ediv_of_nonneg i (by omega)] at q
 exact PyProof.Rows.floordiv_int (by omega) q (.inl hc.py)
def iw:=gI0 fun i j=>D.int (i - j)
def jt:=gI Np fun i j=>D.int (i * j)
def Ww:=gI CDB fun i j=>D.int (i / j)
instance (i j:Int):Decidable ((fun (_:Int) (j:Int)=>0 < j) i j):=inferInstanceAs (Decidable (0 < j))
def wY:=gI (fun _ j=>0 < j) fun i j=>D.int (i % j)
def Jr:=gI VH fun i j=>D.int (i ^ j.toNat)
variable {a b:Expr} {pos:Pos} {fa fb:ak->Rs D}
theorem NP (ha:SE X B W a fa) (hb:SE X B W b fb):SE X B W (.BinOp a .Sub b pos) (bV iw fa fb):=Dj VJ (yE fun _ _ _=>aH.mpr rfl) ha hb
theorem pC (ha:SE X B W a fa) (hb:SE X B W b fb):SE X B W (.BinOp a .Mult b pos) (bV jt fa fb):=Dj VL (Jp fun _ _ _=>aH.mpr rfl) ha hb
theorem aek (ha:SE X B W a fa) (hb:SE X B W b fb):SE X B W (.BinOp a .FloorDiv b pos) (bV Ww fa fb):=Dj Wv (Jp fun _ _ _=>aH.mpr rfl) ha hb
theorem yK (ha:SE X B W a fa) (hb:SE X B W b fb):SE X B W (.BinOp a .Mod b pos) (bV wY fa fb):=Dj adT (Jp fun _ _ _=>aH.mpr rfl) ha hb
theorem Wx (ha:SE X B W a fa) (hb:SE X B W b fb):SE X B W (.BinOp a .Pow b pos) (bV Jr fa fb):=Dj adU (Jp fun _ _ _=>aH.mpr rfl) ha hb
def aaz:D->Rs D
 | .int i=>.ok (.int (-i))
 | _=>.no
theorem ael (ha:SE X B W a fa):SE X B W (.UnaryOp .USub a pos) (fun ρ=>(fa ρ).bind aaz):=by
 refine PE.imp (agu adV ha) fun σ H Q h=>?_
 obtain ⟨ρ,G,s,p⟩:=xK (k:=fun _=>aaz) h
 refine ⟨ρ,G,s,p.mono fun v H1 ⟨ρ1,G1,d,s1,r,q⟩=>?_⟩
 cases d with
 | int i=>exact ⟨i,aH.mp r,Post.ok s1 q (aH.mpr rfl)⟩
 | _=>exact q.elim
def cB:D->D->Rs D
 | .int i,.int j=>.ok (.int (i + j))
 | .lst a,.lst b=>if a.length + b.length<=1000000 then .ok (.lst (a++b)) else .no
 | _,_=>.no
theorem sz6 {n:Nat} (h:n<=1000000):n<=sizeLine:=Nat.le_trans h (by rw [sizeLine_eq];decide)
end
end Vl
namespace Vl
open PySem PySem.Spec L2
section
variable {X:Cx} {K:PySem.W.Frag} {B:Bs} {W:Wi} {σ:St} {G H:Hp} {ρ:ak} {a b:Expr} {pos:Pos} {fa fb:ak->Rs D}
def Wy (K:PySem.W.Frag):R2:=fun x y H Q=>∃ l b xs zs,x=.ref l/\y=.ref b/\rG K H l xs/\rG K H b zs/\xs.length + zs.length<=sizeLine/\∀ p,H p=none->Q (.ref p) (dY H p (.lst (xs++zs)))
open PyProof.Rows in
theorem aaA:pB X (binaryOp .Add) (Wy X.K):=by
 intro pins s σ H x y v u Q I rx ry h
 obtain ⟨l,b,xs,zs,rfl,rfl,hH,hB,hz,q⟩:=h
 cases rx
 cases ry
 obtain ⟨vs,r,pl,_⟩:=I.list hH
 obtain ⟨ws,r2,pl2,_⟩:=I.list hB
 obtain ⟨⟨cls,dd,data,sl⟩,ho,hc,n,hd⟩:=pl.isList
 obtain ⟨⟨cls2,dd2,data2,sl2⟩,ho2,hc2,n2,hd2⟩:=pl2.isList
 simp only at hc hd hc2 hd2
 subst hc hd hc2 hd2
 have e:vs.toArray++ws.toArray=(vs++ws).toArray:=by simp
 have l1:=r.length
 have l2:=r2.length
 refine concat_meets ⟨_,ho,rfl⟩ ⟨_,ho2,rfl⟩ noFill_list_add seq_list_add PySem.F.slot_list_add PySem.F.entry_list_add (PySem.F.args_list_add_2 _ _) (list_addW l b vs.toArray ws.toArray n n2 dd dd2 sl sl2 (by simp only [List.size_toArray];omega)) ⟨ho,ho2,?_⟩
 rw [e]
 exact ⟨.ref _,_,I.agJ (t':=s.toks) (r.append r2) (by rw [List.length_append];omega),rfl,q _ I.fresh⟩
theorem Rf:pB X (binaryOp .Add) (fun x y H Q=>ZW (fun i j=>V.int (i + j)) x y H Q∨Wy X.K x y H Q):=adS.or aaA
theorem Js:Ny K (fun x y H Q=>ZW (fun i j=>V.int (i + j)) x y H Q∨Wy K x y H Q) cB:=by
 intro B W σ ρ G H x y v u Q s rx ry p
 cases x with
 | int i =>
  cases y with
  | int j=>exact .inl ⟨i,j,aH.mp rx,aH.mp ry,Post.ok s p (aH.mpr rfl)⟩
  | _=>exact p.elim
 | lst ds =>
  cases y with
  | lst es =>
   simp only [cB] at p
   by_cases hl:ds.length + es.length<=1000000
   ·rw [if_pos hl] at p
    obtain ⟨a,vs,rfl,q,r⟩:=aO.mp rx
    obtain ⟨b,us,rfl,q',r'⟩:=aO.mp ry
    refine .inr ⟨a,b,vs,us,rfl,rfl,s.en.gh.seq q,s.en.gh.seq q',by rw [<- r.length,<- r'.length];exact sz6 hl,fun c hc=>?_⟩
    have x:=uo (xs:=vs++us) s.en.gh s.en.tp hc
    exact p _ _ _ x (aO.mpr ⟨c,vs++us,rfl,.of aY,(r.append r').mono x.gg⟩)
   ·rw [if_neg hl] at p;exact p.elim
  | _=>exact p.elim
 | _=>cases y <;> exact p.elim
theorem gF (ha:SE X B W a fa) (hb:SE X B W b fb):SE X B W (.BinOp a .Add b pos) (bV cB fa fb):=Dj Rf Js ha hb
def toI:D->Rs Int
 | .int i=>.ok i
 | _=>.no
def Ez (xs:List D) (lo hi:Option Int):List D:=(xs.drop (HT.jr xs.length 0 lo)).take (HT.jr xs.length xs.length hi - HT.jr xs.length 0 lo)
theorem Wz {ds:List D} {vs:List V} {lo hi:Option Int} (r:aZ K G ds vs):aZ K G (Ez ds lo hi) (Nu vs lo hi):=by
 unfold Ez Nu
 rw [r.length]
 exact (r.drop _).take _
def gSl (lo hi:Option Int):D->Rs D
 | .lst ds=>.ok (.lst (Ez ds lo hi))
 | _=>.no
def agN (W:Wi) (σ:St) (G H:Hp) (r:Rs (Option Int)) (Q:Option Int->Hp->Prop):Prop :=
 match r with
 | .ok b=>∀ H' G',Ext G H G' H'->Q b H'
 | .ex c n=>∀ H' G',Ext G H G' H'->W c n σ H'
 | .no=>False
def tO (K:PySem.W.Frag) (B:Bs) (W:Wi) (f:ak->Rs (Option Int)):TO:=fun σ H Q=>∃ ρ G,SR K B σ H ρ G/\agN W σ G H (f ρ) Q
def SO (X:Cx) (B:Bs) (W:Wi) (e:Option Expr) (f:ak->Rs (Option Int)):Prop:=PO X e (tO X.K B W f)
def aaB:ak->Rs (Option Int):=fun _=>.ok none
def fP (f:ak->Rs D):ak->Rs (Option Int):=fun ρ=>(f ρ).bind fun d=>(toI d).bind fun i=>.ok (some i)
theorem PO.imp {e:Option Expr} {t t':TO} (h:PO X e t) (i:∀ σ H Q,t' σ H Q->t σ H Q):PO X e t':=fun pins s σ H Q I q=>h pins s σ H Q I (i σ H Q q)
theorem aaC:SO X B W none aaB:=PO.imp aar fun σ H Q ⟨ρ,G,s,p⟩=>p H G s.ug
theorem aaD {e:Expr} {f:ak->Rs D} (h:SE X B W e f):SO X B W (some e) (fP f):=by
 refine PO.imp (aas h) fun σ H Q ⟨ρ,G,s,p⟩=>⟨ρ,G,s,?_⟩
 unfold fP at p
 cases e1:f ρ with
 | ok d =>
  rw [e1] at p
  cases d with
  | int i=>exact fun w H' G' e r'=>⟨i,aH.mp r',p H' G' e⟩
  | _=>exact p.elim
 | ex c n=>rw [e1] at p;exact p
 | no=>rw [e1] at p;exact p
def fSl (fe:ak->Rs D) (fl fh:ak->Rs (Option Int)):ak->Rs D:=fun ρ=>(fe ρ).bind fun x=>(fl ρ).bind fun l=>(fh ρ).bind fun h=>gSl l h x
variable {x:Str} {p:Pos} {e:Expr} {es:List Expr} {id T:String} {r:List V->Hp->VK->Prop} {g:List D->Rs D} {fs:ak->Rs (List D)}
theorem Jt (hc:kW X (.builtin id) r) (hd:rK X.K r g) (hg:Gl X x) (hm:X.mg x=none) (hv:bootBuiltins x=some (.builtin id)) (ha:SA X B W (e::es) fs) (hn:x≠"__name__":=by decide) (hdb:(x == ("__debug__":Str))=false:=by decide)
  (he:starEach (e::es) X.env=(false,eval e X.env)::starEach es X.env:=by rfl) (hpl:(backTo pos (starEach es X.env)).any (·.1)=false:=by rfl):SE X B W (.Call (.Name x p) (e::es) [] pos) (fA fs g) :=
 PE.imp (jK hc hg hm hv ha hn hdb he hpl) fun _ _ _ h=>Rc hd h
theorem Dl (hc:kW X (.type T) r) (hd:rK X.K r g) (hg:Gl X x) (hm:X.mg x=none) (hv:bootBuiltins x=some (.type T)) (ha:SA X B W (e::es) fs) (hn:x≠"__name__":=by decide) (hdb:(x == ("__debug__":Str))=false:=by decide)
  (he:starEach (e::es) X.env=(false,eval e X.env)::starEach es X.env:=by rfl) (hpl:(backTo pos (starEach es X.env)).any (·.1)=false:=by rfl):SE X B W (.Call (.Name x p) (e::es) [] pos) (fA fs g) :=
 PE.imp (vB hc hg hm hv ha hn hdb he hpl) fun _ _ _ h=>Rc hd h
def wZ:List D->Rs D
 | [.lst ds]=>.ok (.int ds.length)
 | [.tup ds]=>.ok (.int ds.length)
 | _=>.no
theorem aem:rK K (fun xs H Q=>∃ p ys,xs=[.ref p]/\(rG K H p ys∨lK K H p ys)/\Q (.int ys.length) H) wZ:=by
 intro B W σ ρ G H ds vs Q s r p
 match ds,p with
 | [.lst ds],p =>
  obtain ⟨v,vs',rfl,r1,r2⟩:=aN.mp r
  obtain ⟨a,us,rfl,q,rr⟩:=aO.mp r1
  rw [bf.mp r2]
  refine ⟨a,us,rfl,.inl (s.en.gh.seq q),Post.ok s p ?_⟩
  rw [<- rr.length];exact aH.mpr rfl
 | [.tup ds],p =>
  obtain ⟨v,vs',rfl,r1,r2⟩:=aN.mp r
  obtain ⟨a,us,rfl,q,rr⟩:=aP.mp r1
  rw [bf.mp r2]
  refine ⟨a,us,rfl,.inr (Same.gU s.en.gh q),Post.ok s p ?_⟩
  rw [<- rr.length];exact aH.mpr rfl
 | [],p=>exact p.elim
 | [.non],p=>exact p.elim
 | [.bl _],p=>exact p.elim
 | [.int _],p=>exact p.elim
 | [.str _],p=>exact p.elim
 | [.kJ _ _],p=>exact p.elim
 | _::_::_,p=>exact (by simp only [wZ] at p;exact p.elim)
theorem NQ (hm:X.mg "len"=none) (ha:SE X B W e fa) (hg:Gl X "len":=by rfl) (he:starEach [e] X.env=[(false,eval e X.env)]:=by rfl):SE X B W (.Call (.Name "len" p) [e] [] pos) (fA (au fa aX) wZ) :=
 Jt ud aem hg hm PySem.boot_len (aj ha aK he)  (by decide) (by decide) he rfl
def fQ:List D->Rs D
 | [.lst ds]=>.ok (.tup ds)
 | [.tup ds]=>.ok (.tup ds)
 | _=>.no
theorem Ju:rK K (fun xs H Q=>∃ p ys,xs=[.ref p]/\((rG K H p ys/\∀ l,H l=none->Q (.ref l) (dY H l (.tup ys)))∨(lK K H p ys/\Q (.ref p) H))) fQ:=by
 intro B W σ ρ G H ds vs Q s r p
 match ds,p with
 | [.lst ds],p =>
  obtain ⟨v,vs',rfl,r1,r2⟩:=aN.mp r
  obtain ⟨a,us,rfl,q,rr⟩:=aO.mp r1
  rw [bf.mp r2]
  refine ⟨a,us,rfl,.inl ⟨s.en.gh.seq q,fun c hc=>?_⟩⟩
  have x:=uh (xs:=us) s.en.gh s.en.tp hc
  exact p _ _ _ x (aP.mpr ⟨c,us,rfl,.of aY,rr.mono x.gg⟩)
 | [.tup ds],p =>
  obtain ⟨v,vs',rfl,r1,r2⟩:=aN.mp r
  obtain ⟨a,us,rfl,q,rr⟩:=aP.mp r1
  rw [bf.mp r2]
  exact ⟨a,us,rfl,.inr ⟨Same.gU s.en.gh q,Post.ok s p r1⟩⟩
 | [],p=>exact p.elim
 | [.non],p=>exact p.elim
 | [.bl _],p=>exact p.elim
 | [.int _],p=>exact p.elim
 | [.str _],p=>exact p.elim
 | [.kJ _ _],p=>exact p.elim
 | _::_::_,p=>exact (by simp only [fQ] at p;exact p.elim)
open PyProof.Rows in
theorem EY:kW X (.builtin "divmod") (fun xs H Q=>∃ i j,xs=[.int i,.int j]/\CDB i j/\∀ p,H p=none->Q (.ref p) (dY H p (.tup [.int (i / j),.int (i % j)]))):=by
 intro pins s σ H xs us Q I r h
 obtain ⟨i,j,rfl,hc,q⟩:=h
 have h1:=hc.1
 obtain ⟨u,w',rfl,⟨t,rfl⟩,⟨t',rfl⟩⟩:=agA r
 refine divmod_int (by omega) ?_ (.inl hc.py)
 rw [Int.fdiv_eq_ediv_of_nonneg i (by omega),Int.fmod_eq_emod_of_nonneg i (by omega)]
 have hn:H s.heap.objs.size=none:=I.hok.fresh (Nat.le_refl _)
 refine ⟨.ref s.heap.objs.size,_,?_,rfl,q _ hn⟩
 refine I.laid (fun b o e=>Heap.get?_push_of_some _ e) (Nat.le_refl _) ⟨by simp only [List.length_cons,List.length_nil];rw [sizeLine_eq];decide,[.int (i / j) s.toks,.int (i % j) (s.toks + 1)],.cons ⟨_,rfl⟩ (.cons ⟨_,rfl⟩ .nil),?_⟩
 exact ⟨_,Heap.get?_push_size s.heap rfl,rfl,0,rfl⟩
def gDm:List D->Rs D
 | [.int i,.int j]=>if CDB i j then .ok (.tup [.int (i / j),.int (i % j)]) else .no
 | _=>.no
theorem agO:rK K (fun xs H Q=>∃ i j,xs=[.int i,.int j]/\CDB i j/\∀ p,H p=none->Q (.ref p) (dY H p (.tup [.int (i / j),.int (i % j)]))) gDm:=by
 intro B W σ ρ G H ds vs Q s r p
 unfold gDm at p
 split at p
 ·rename_i i j
  obtain ⟨v,vs',rfl,r1,r2⟩:=aN.mp r
  obtain ⟨v2,vs'',rfl,r3,r4⟩:=aN.mp r2
  rw [aH.mp r1,aH.mp r3,bf.mp r4]
  by_cases hc:CDB i j
  ·rw [if_pos hc] at p
   refine ⟨i,j,rfl,hc,fun c hc=>?_⟩
   have x:=uh (xs:=[.int (i / j),.int (i % j)]) s.en.gh s.en.tp hc
   exact p _ _ _ x (aP.mpr ⟨c,_,rfl,.of aY,aN.mpr ⟨_,_,rfl,aH.mpr rfl,.one (aH.mpr rfl)⟩⟩)
  ·rw [if_neg hc] at p;exact p.elim
 ·exact p.elim
end
end Vl
namespace Vl
open PySem PySem.Spec L2
inductive Ou where
 | nx (ρ:ak)|rt (d:D)|bk (ρ:ak)|ct (ρ:ak)|ex (c:Str) (n:Int) (ρ:ak)|no|rx (d:D) (ρ:ak)|rl (ds:List D)
def bY (K:PySem.W.Frag) (B:Bs) (W:Wi) (G:Hp) (o:Ou) (De:Ends):Prop :=
 match o with
 | .nx ρ'=>∀ σ' H' G',SR K B σ' H' ρ' G'->Same G G'->De.nx σ' H'
 | .bk ρ'=>∀ σ' H' G',SR K B σ' H' ρ' G'->Same G G'->De.bk σ' H'
 | .ct ρ'=>∀ σ' H' G',SR K B σ' H' ρ' G'->Same G G'->De.ct σ' H'
 | .rt d=>∀ v H' G',Ext B.1 B.2 G' H'->Same G G'->Rep K G' d v->De.rt v H'
 | .ex c n ρ'=>∀ σ' H' G',SR K B σ' H' ρ' G'->Same G G'->W c n σ' H'
 | .no=>False
 | .rx d ρ'=>∀ v σ' H' G',SR K B σ' H' ρ' G'->Same G G'->Rep K G' d v->De.rt v H'
 | .rl ds=>∀ a ws H' G',Ext B.1 B.2 G' H'->Same G G'->G' a=none->B.2 a=none->H' a=some (.lst ws)->aZ K G' ds ws->De.rt (.ref a) H'
def tS (K:PySem.W.Frag) (B:Bs) (W:Wi) (g:ak->Ou):TS:=fun De σ H=>∃ ρ G,SR K B σ H ρ G/\bY K B W G (g ρ) De
def SS (X:Cx) (B:Bs) (W:Wi) (st:Stmt) (g:ak->Ou):Prop:=PS X st (tS X.K B W g)
def vo (X:Cx) (B:Bs) (W:Wi) (st:List Stmt) (g:ak->Ou):Prop:=Ng X st (tS X.K B W g)
def WD (o:Ou) (k:ak->Ou):Ou:=match o with
 | .nx ρ=>k ρ
 | o=>o
def oR {α:Type} (r:Rs α) (ρ:ak) (k:α->Ou):Ou:=match r with
 | .ok a=>k a
 | .ex c n=>.ex c n ρ
 | .no=>.no
section
variable {X:Cx} {K:PySem.W.Frag} {B:Bs} {W:Wi} {σ:St} {G G' H:Hp} {ρ:ak} {De De':Ends}
theorem bY.same {o:Ou} (h:bY K B W G o De) (e:Same G G'):bY K B W G' o De:=by
 cases o with
 | nx ρ'=>exact fun σ' H' G'' s q=>h σ' H' G'' s (e.trans q)
 | bk ρ'=>exact fun σ' H' G'' s q=>h σ' H' G'' s (e.trans q)
 | ct ρ'=>exact fun σ' H' G'' s q=>h σ' H' G'' s (e.trans q)
 | rt d=>exact fun v H' G'' x q=>h v H' G'' x (e.trans q)
 | ex c n ρ'=>exact fun σ' H' G'' s q=>h σ' H' G'' s (e.trans q)
 | no=>exact h
 | rx d ρ'=>exact fun v σ' H' G'' s q=>h v σ' H' G'' s (e.trans q)
 | rl ds=>exact fun a ws H' G'' s q=>h a ws H' G'' s (e.trans q)
theorem gG {r:Rs D} {k:D->Ou} {Q:VK} (s:SR K B σ H ρ G) (p:bY K B W G (oR r ρ k) De) (h:∀ d v H' G',r=.ok d->Ext G H G' H'->Rep K G' d v->bY K B W G' (k d) De->Q v H'):Post K W σ G H r Q:=by
 cases r with
 | ok d=>exact fun v H' G' e r=>h d v H' G' rfl e r (bY.same p e.gg)
 | ex c n=>exact fun H' G' e=>p σ H' G' (s.ext e) e.gg
 | no=>exact p
theorem aen:vo X B W [] .nx:=Ng.imp aai fun De σ H ⟨ρ,G,s,p⟩=>p σ H G s (.refl _)
theorem aaE {st:Stmt} {rest:List Stmt} {g k:ak->Ou} (h1:SS X B W st g) (h2:vo X B W rest k):vo X B W (st::rest) (fun ρ=>WD (g ρ) k):=by
 refine Ng.imp (Vz h1 h2) fun De σ H ⟨ρ,G,s,p⟩=>⟨ρ,G,s,?_⟩
 dsimp only at p
 cases e:g ρ with
 | nx ρ'=>rw [e] at p;exact fun σ' H' G' s' q=>⟨ρ',G',s',bY.same (show bY X.K B W G (k ρ') De from p) q⟩
 | bk ρ'=>rw [e] at p;exact p
 | ct ρ'=>rw [e] at p;exact p
 | rt d=>rw [e] at p;exact p
 | ex c n ρ'=>rw [e] at p;exact p
 | no=>rw [e] at p;exact p
 | rx d ρ'=>rw [e] at p;exact p
 | rl ds=>rw [e] at p;exact p
theorem aeo {st:Stmt} {g:ak->Ou} (h1:SS X B W st g):vo X B W [st] g:=aaj h1
theorem aep {e:Expr} {pos} {f:ak->Rs D} (h:SE X B W e f):SS X B W (.Return (some e) pos) (fun ρ=>oR (f ρ) ρ .rt) :=
 PS.imp (Nh h) fun De σ H ⟨ρ,G,s,p⟩=>⟨ρ,G,s,gG s p fun d v H' G' _ e r q=>q v H' G' (s.en.trans e) (.refl _) r⟩
theorem agP {c:Expr} {a b:List Stmt} {pos:Pos} {fc:ak->Rs Bool} {ga gb:ak->Ou} (hc:ST X B W c fc) (ha:vo X B W a ga) (hb:vo X B W b gb):SS X B W (.If c a b pos) (fun ρ=>oR (fc ρ) ρ fun x=>if x=true then ga ρ else gb ρ):=by
 refine PS.imp (acS hc ha hb) fun De σ H ⟨ρ,G,s,p⟩=>⟨ρ,G,s,?_⟩
 dsimp only at p
 cases e:fc ρ with
 | ok x =>
  rw [e] at p
  intro H' G' ee
  have p':bY X.K B W G (if x=true then ga ρ else gb ρ) De:=p
  cases x with
  | true=>rw [if_pos rfl] at p' ⊢;exact ⟨ρ,G',s.ext ee,p'.same ee.gg⟩
  | false=>rw [if_neg (by simp)] at p' ⊢;exact ⟨ρ,G',s.ext ee,p'.same ee.gg⟩
 | ex c n=>rw [e] at p;exact fun H' G' ee=>p σ H' G' (s.ext ee) ee.gg
 | no=>rw [e] at p;exact p
abbrev Tg:=D->ak->Option ak
def tG (K:PySem.W.Frag) (B:Bs) (h:Tg):TG:=fun v σ H Q=>∃ ρ G d,SR K B σ H ρ G/\Rep K G d v/\∃ ρ',h d ρ=some ρ'/\∀ σ',SR K B σ' H ρ' G->Q σ' H
def tGs (K:PySem.W.Frag) (B:Bs) (h:List D->ak->Option ak):TGs:=fun vs σ H Q=>∃ ρ G ds,SR K B σ H ρ G/\aZ K G ds vs/\∃ ρ',h ds ρ=some ρ'/\∀ σ',SR K B σ' H ρ' G->Q σ' H
def SG (X:Cx) (B:Bs) (tg:Expr) (h:Tg):Prop:=PG X tg (tG X.K B h)
def SGs (X:Cx) (B:Bs) (tg:List Expr) (h:List D->ak->Option ak):Prop:=ZV X tg (tGs X.K B h)
theorem PG.imp {e:Expr} {t t':TG} (h:PG X e t) (i:∀ v σ H Q,t' v σ H Q->t v σ H Q):PG X e t':=fun pins s σ H v u Q I r q=>h pins s σ H v u Q I r (i v σ H Q q)
theorem ZV.imp {e:List Expr} {t t':TGs} (h:ZV X e t) (i:∀ v σ H Q,t' v σ H Q->t v σ H Q):ZV X e t':=fun pins s σ H v u Q I r q=>h pins s σ H v u Q I r (i v σ H Q q)
def bI (i:Nat):Tg:=fun d ρ=>some (ρ.set i (.fz d))
def Fb:List D->ak->Option ak:=fun ds ρ=>match ds with|[]=>some ρ|_=>none
def iY (h:Tg) (k:List D->ak->Option ak):List D->ak->Option ak:=fun ds ρ=>match ds with|d::ds=>(h d ρ).bind (k ds)|[]=>none
def yL (n:Nat) (k:List D->ak->Option ak):Tg:=fun d ρ=>match d with|.tup ds=>if ds.length=n then k ds ρ else none|_=>none
theorem aaF {i:Nat} {x:Str} {pos:Pos} (hN:X.N.Nodup) (hi:X.N[i]?=some x) (hx:Jg X.env.scope x) (hf:X.fn x=true∨X.env.scope.names.lookup x=some .local:=by first|exact .inl rfl|exact .inr rfl|assumption):SG X B (.Name x pos) (bI i) :=
 PG.imp (QK hN hi hx hf) fun v σ H Q ⟨ρ,G,d,s,r,ρ',e,q⟩=>by
  cases e
  exact q _ (s.set r)
theorem Fd:SGs X B [] Fb:=ZV.imp QL fun v σ H Q ⟨ρ,G,ds,s,r,ρ',e,q⟩=>by
 cases ds with
 | nil=>cases e;exact ⟨bf.mp r,q _ s⟩
 | cons d ds=>cases e
theorem lN {e:Expr} {es:List Expr} {h:Tg} {k:List D->ak->Option ak} (h1:SG X B e h) (h2:SGs X B es k) (hs:(assignEach (e::es) X.env).map (·.2)=assign e X.env::(assignEach es X.env).map (·.2):=by rfl):SGs X B (e::es) (iY h k) :=
 ZV.imp (yr h1 h2 hs) fun v σ H Q ⟨ρ,G,ds,s,r,ρ',e,q⟩=>by
  cases ds with
  | nil=>cases e
  | cons d ds =>
   obtain ⟨w,ws,rfl,r1,r2⟩:=aN.mp r
   unfold iY at e
   dsimp only at e
   cases e1:h d ρ with
   | none=>rw [e1] at e;cases e
   | some ρ1 =>
    rw [e1] at e
    exact ⟨w,ws,rfl,ρ,G,d,s,r1,ρ1,e1,fun σ1 s1=>⟨ρ1,G,ds,s1,r2,ρ',e,q⟩⟩
theorem NT {es:List Expr} {k:Nat} {pos:Pos} {n:Nat} {h:List D->ak->Option ak} (hc:X.calm=true) (hh:SGs X B es h)
  (hn:(assignEach es X.env).length=n:=by rfl) (hst:(assignEach es X.env).findIdx? (·.1)=none:=by rfl):SG X B (.Tuple es k pos) (yL n h) :=
 PG.imp (VB hc hh hn hst) fun v σ H Q ⟨ρ,G,d,s,r,ρ',e,q⟩=>by
  cases d with
  | tup ds =>
   unfold yL at e
   dsimp only at e
   by_cases hl:ds.length=n
   ·simp only [if_pos hl] at e
    obtain ⟨a,vs,rfl,q1,rr⟩:=aP.mp r
    exact ⟨a,vs,rfl,Same.gU s.en.gh q1,by rw [<- rr.length];exact hl,ρ,G,ds,s,rr,ρ',e,q⟩
   ·simp only [if_neg hl] at e;cases e
  | _=>cases e
def oO (o:Option ak):Ou:=match o with|some ρ=>.nx ρ|none=>.no
theorem aer {i:Nat} {x:Str} {e:Expr} {pos pos':Pos} {f:ak->Rs D} (hN:X.N.Nodup) (hi:X.N[i]?=some x) (hx:Jg X.env.scope x) (he:SE X B W e f) (hs:swapsWith e (some (.Name x pos')) pos.line X.env=pure false:=by rfl) (hf:X.fn x=true∨X.env.scope.names.lookup x=some .local:=by first|exact .inl rfl|exact .inr rfl|assumption) :
  SS X B W (.Assign [.Name x pos'] e pos) (fun ρ=>oR (f ρ) ρ fun d=>.nx (ρ.set i (.fz d))) :=
 PS.imp (vp hN hi hx he hs hf) fun De σ H ⟨ρ,G,s,p⟩=>⟨ρ,G,s,gG s p fun d v H' G' _ e r q=>q _ H' G' ((s.ext e).set r) (.refl _)⟩
theorem SR.WK (h:SR K B σ H ρ G) {i:Nat} {z:Sl} {o:HO} {p:Addr} (w:z.own=true) (r:uf K G p z o) (hp:H p=none) (hz:∀ ds,z≠.op ds:=by intro _ h;cases h):SR K B (σ.set i (some (.ref p))) (dY H p o) (ρ.set i z) G:=by
 have x:=aax (o:=o) h.en.gh h.en.tp (fun xs e=>by subst e;exact r.tup) hp
 have h':=h.ext x
 have pD:∀ {j:Nat} {y:Sl},(ρ.set i z)[j]?=some y->(i=j/\y=z/\i < ρ.length)∨(i≠j/\ρ[j]?=some y):=fun {j y} q=>by
  by_cases e:i=j
  ·subst e
   have hl:i < ρ.length:=by
    have:=(List.getElem?_eq_some_iff.mp q).1;simpa using this
   rw [List.getElem?_set_self hl] at q
   cases q
   exact .inl ⟨rfl,rfl,hl⟩
  ·rw [List.getElem?_set_ne e] at q
   exact .inr ⟨e,q⟩
 refine ⟨h'.en,by simp [h.len],fun j d q=>?_,fun j y q wy=>?_,fun j k y y' a q1 w1 q2 w2 q3 q4=>?_,fun j ds a q1 q2=>?_⟩
 ·rcases pD q with ⟨_,e,_⟩|⟨e,q⟩
  ·rw [<- e] at w;cases w
  ·rw [List.getElem?_set_ne e];exact h'.fz j d q
 ·rcases pD q with ⟨e,e2,hl⟩|⟨e,q⟩
  ·subst e;subst e2
   exact ⟨p,o,List.getElem?_set_self (by rw [<- h.len];exact hl),aY,h.en.gh.free hp,h.en.hh.free hp,r⟩
  ·rw [List.getElem?_set_ne e];exact h'.own j y q wy
 ·have fresh:∀ {l:Nat} {y:Sl},ρ[l]?=some y->y.own=true->σ[l]?≠some (some (.ref p)):=fun {l y} q wy z=>by
   obtain ⟨a,vs',h1,h2,_⟩:=h.own l y q wy
   rw [h1] at z
   have:a=p:=by injection z with z;injection z with z;injection z
   rw [this,hp] at h2;cases h2
  rcases pD q1 with ⟨e1,_,l1⟩|⟨n1,z1⟩
  ·rcases pD q2 with ⟨e2,_⟩|⟨n2,z2⟩
   ·exact e1.symm.trans e2
   ·subst e1
    rw [List.getElem?_set_self (by rw [<- h.len];exact l1)] at q3
    have:a=p:=by injection q3 with z;injection z with z;injection z with z;exact z.symm
    subst this
    rw [List.getElem?_set_ne n2] at q4
    exact (fresh z2 w2 q4).elim
  ·rcases pD q2 with ⟨e2,_,l2⟩|⟨n2,z2⟩
   ·subst e2
    rw [List.getElem?_set_self (by rw [<- h.len];exact l2)] at q4
    have:a=p:=by injection q4 with z;injection z with z;injection z with z;exact z.symm
    subst this
    rw [List.getElem?_set_ne n1] at q3
    exact (fresh z1 w1 q3).elim
   ·rw [List.getElem?_set_ne n1] at q3
    rw [List.getElem?_set_ne n2] at q4
    exact h.ap j k y y' a z1 w1 z2 w2 q3 q4
 ·rcases pD q1 with ⟨_,e,_⟩|⟨e,q⟩
  ·exact absurd e.symm (hz ds)
  ·rw [List.getElem?_set_ne e] at q2;exact h.tie j ds a q q2
theorem SR.WL (h:SR K B σ H ρ G) {i:Nat} {ds:List D} {vs:List V} {p:Addr} (r:aZ K G ds vs) (hp:H p=none):SR K B (σ.set i (some (.ref p))) (dY H p (.lst vs)) (ρ.set i (.ow ds)) G:=h.WK rfl ⟨vs,rfl,r⟩ hp
theorem SR.ux (h:SR K B σ H ρ G) {i:Nat} {y z:Sl} {o:HO} {a:Addr} (q:ρ[i]?=some y) (wy:y.own=true) (ha:σ[i]?=some (some (.ref a))) (wz:z.own=true) (r:uf K G a z o) (hz:∀ ds,z=.op ds->∃ es,y=.op es:=by intro _ h;cases h):SR K B σ (dY H a o) (ρ.set i z) G:=by
 obtain ⟨a',o0,e1,h2,h3,h4,h5⟩:=h.own i y q wy
 have ea:a'=a:=by rw [e1] at ha;injection ha with z;injection z with z;injection z
 subst ea
 have hl:i < ρ.length:=(List.getElem?_eq_some_iff.mp q).1
 have pD:∀ {j:Nat} {x:Sl},(ρ.set i z)[j]?=some x->(i=j/\x=z)∨(i≠j/\ρ[j]?=some x):=fun {j x} q=>by
  by_cases e:i=j
  ·subst e
   rw [List.getElem?_set_self hl] at q
   cases q
   exact .inl ⟨rfl,rfl⟩
  ·rw [List.getElem?_set_ne e] at q
   exact .inr ⟨e,q⟩
 have ne:∀ b o,G b=some o->b≠a':=fun b o z w=>by rw [w,h3] at z;cases z
 refine ⟨⟨h.en.gg,fun b o z=>?_,fun b o z=>?_,fun b xs z=>?_,h.en.nw⟩,by simp [h.len],fun j d z'=>?_,fun j x z' wx=>?_,fun j k x x' c z1 w1 z2 w2 z3 z4=>?_,fun j ds c z1 z2=>?_⟩
 ·rw [aW (aR z h4)];exact h.en.hh b o z
 ·rw [aW (ne b o z)];exact h.en.gh b o z
 ·by_cases w:b=a'
  ·subst w;rw [aY] at z;cases z;exact r.tup.elim
  ·rw [aW w] at z;exact h.en.tp b xs z
 ·rcases pD z' with ⟨_,e⟩|⟨_,z'⟩
  ·rw [<- e] at wz;cases wz
  ·exact h.fz j d z'
 ·rcases pD z' with ⟨e,e2⟩|⟨e,z'⟩
  ·subst e;subst e2
   exact ⟨a',o,ha,aY,h3,h4,r⟩
  ·obtain ⟨b,us,w1,w2,w3,w4,w5⟩:=h.own j x z' wx
   have hne:b≠a':=fun w=>by subst w;exact e (h.ap i j y x b q wy z' wx ha w1)
   exact ⟨b,us,w1,by rw [aW hne];exact w2,w3,w4,w5⟩
 ·rcases pD z1 with ⟨e1,_⟩|⟨_,z1⟩ <;> rcases pD z2 with ⟨e2,_⟩|⟨_,z2⟩
  ·exact e1.symm.trans e2
  ·subst e1;exact h.ap i k y x' c q wy z2 w2 z3 z4
  ·subst e2;exact h.ap j i x y c z1 w1 q wy z3 z4
  ·exact h.ap j k x x' c z1 w1 z2 w2 z3 z4
 ·rcases pD z1 with ⟨e1,e2⟩|⟨_,z1⟩
  ·subst e1
   obtain ⟨es,e3⟩:=hz ds e2.symm
   rw [e3] at q
   exact h.tie i es c q z2
  ·exact h.tie j ds c z1 z2
theorem SR.write (h:SR K B σ H ρ G) {i:Nat} {ds es:List D} {vs:List V} {a:Addr} (q:ρ[i]?=some (.ow ds)) (ha:σ[i]?=some (some (.ref a))) (r:aZ K G es vs):SR K B σ (dY H a (.lst vs)) (ρ.set i (.ow es)) G:=h.ux q rfl ha rfl ⟨vs,rfl,r⟩
def CQ (i:Nat) (ρ:ak):ak:=match ρ[i]? with|some (.ow ds)=>ρ.set i (.fz (.lst ds))|_=>ρ
theorem SR.CQ (h:SR K B σ H ρ G) (i:Nat):∃ G',Same G G'/\SR K B σ H (CQ i ρ) G':=by
 unfold Vl.CQ
 split
 ·rename_i ds q
  obtain ⟨a,vs,e1,h2,h3,h4,h5⟩:=h.ow i ds q
  have hl:i < ρ.length:=(List.getElem?_eq_some_iff.mp q).1
  have gg:Same G (dY G a (.lst vs)):=fun b o z=>by rw [aW (aR z h3)];exact z
  refine ⟨dY G a (.lst vs),gg,⟨h.en.gg.trans gg,h.en.hh,fun b o z=>?_,fun b xs z=>?_,fun b o z w=>?_⟩,by simp [h.len],fun j d z=>?_,fun j fs z wz=>?_,fun j k fs gs c z1 w1 z2 w2 z3 z4=>?_,fun j es c z1 z2=>?_⟩
  ·by_cases w:b=a
   ·subst w;rw [aY] at z;cases z;exact h2
   ·rw [aW w] at z;exact h.en.gh b o z
  ·by_cases w:b=a
   ·subst w;rw [h2] at z;cases z
   ·rw [aW w];exact h.en.tp b xs z
  ·rw [aW (aR z h4)];exact h.en.nw b o z w
  ·by_cases e:i=j
   ·subst e
    rw [List.getElem?_set_self hl] at z
    cases z
    exact ⟨_,e1,aO.mpr ⟨a,vs,rfl,.of aY,h5.mono gg⟩⟩
   ·rw [List.getElem?_set_ne e] at z
    obtain ⟨v,w1,w2⟩:=h.fz j d z
    exact ⟨v,w1,w2.mono gg⟩
  ·by_cases e:i=j
   ·subst e;rw [List.getElem?_set_self hl] at z;cases z;cases wz
   ·rw [List.getElem?_set_ne e] at z
    obtain ⟨b,us,w1,w2,w3,w4,w5⟩:=h.own j fs z wz
    have hne:b≠a:=fun w=>by subst w;exact e (h.ap i j _ fs b q rfl z wz e1 w1)
    exact ⟨b,us,w1,w2,by rw [aW hne];exact w3,w4,w5.mono gg⟩
  ·have nj:i≠j:=fun e=>by subst e;rw [List.getElem?_set_self hl] at z1;cases z1;cases w1
   have nk:i≠k:=fun e=>by subst e;rw [List.getElem?_set_self hl] at z2;cases z2;cases w2
   rw [List.getElem?_set_ne nj] at z1
   rw [List.getElem?_set_ne nk] at z2
   exact h.ap j k fs gs c z1 w1 z2 w2 z3 z4
  ·have nj:i≠j:=fun e=>by subst e;rw [List.getElem?_set_self hl] at z1;cases z1
   rw [List.getElem?_set_ne nj] at z1
   exact h.tie j es c z1 z2
 ·exact ⟨G,.refl _,h⟩
theorem aaG {st:List Stmt} {g:ak->Ou} (i:Nat) (h:vo X B W st g):vo X B W st (fun ρ=>g (CQ i ρ)) :=
 Ng.imp h fun De σ H ⟨ρ,G,s,p⟩=>let ⟨G',gg,s'⟩:=s.CQ i;⟨_,G',s',bY.same p gg⟩
theorem Tw {i:Nat} {x:Str} {e:Expr} {pos p1 p2 cp:Pos} {f:ak->Rs D} (hv:PE X (.Name x p1) (Td i)) (he:SE X B W e f)
  (hst:starEach [e] X.env=[(false,eval e X.env)]) {pe:PE X (.Call (.Attribute (.Name x p1) "append" p2) [e] [] cp) (tBM X.K "list" QX (Td i) (acU (tF X.K B W f) agB))}
  (hs:swapsWith (.Call (.Attribute (.Name x p1) "append" p2) [e] [] cp) none pos.line X.env=pure false:=by rfl) :
  SS X B W (.Expr (.Call (.Attribute (.Name x p1) "append" p2) [e] [] cp) pos) (fun ρ=>match ρ[i]? with|some (.ow ds)=>oR (f ρ) ρ fun d=>if ds.length < 1000000 then .nx (ρ.set i (.ow (ds++[d]))) else .no|_=>.no):=by
 refine PS.imp (QJ pe hs) fun De σ H ⟨ρ,G,s,p⟩=>?_
 dsimp only at p
 cases q:ρ[i]? with
 | none=>rw [q] at p;exact p.elim
 | some z =>
  rw [q] at p
  cases z with
  | no=>exact p.elim
  | fz d=>exact p.elim
  | od _=>exact p.elim
  | op _=>exact p.elim
  | ow ds =>
   obtain ⟨a,vs,e1,h2,h3,h4,h5⟩:=s.ow i ds q
   refine ⟨_,e1,.inl ⟨rfl,vs,.of h2⟩,ρ,G,s,gG s p fun d v H' G' _ x r p'=>?_⟩
   by_cases hl:ds.length < 1000000
   ·rw [if_pos hl] at p'
    have s':=s.ext x
    refine ⟨a,vs,v,rfl,rfl,x.hh _ _ h2,by rw [<- h5.length];exact Nat.lt_of_lt_of_le hl (by rw [sizeLine_eq];decide),?_⟩
    exact p' σ _ G' (s'.write q e1 ((h5.mono x.gg).append (.one r))) (.refl _)
   ·rw [if_neg hl] at p';exact p'.elim
end
end Vl
namespace Vl
open PySem PySem.Spec L2
def cN (h:Tg) (gb:ak->Ou):List D->ak->Ou
 | [],ρ=>.nx ρ
 | d::ds,ρ=>match h d ρ with
  | none=>.no
  | some ρ1=>match gb ρ1 with
   | .nx ρ2=>cN h gb ds ρ2
   | .ct ρ2=>cN h gb ds ρ2
   | .bk ρ2=>.nx ρ2
   | o=>o
def WF:Wi:=fun _ _ _ _=>False
section
variable {X:Cx} {K:PySem.W.Frag} {B:Bs} {W:Wi} {σ:St} {G G' H:Hp} {ρ:ak} {De De':Ends}
theorem uy {h:Tg} {gb:ak->Ou} {d:D} {ds:List D} {v:V} {Pv:St->Hp->Prop} (s:SR K B σ H ρ G) (r:Rep K G d v) (p:bY K B W G (cN h gb (d::ds) ρ) De)
  (hP:∀ σ' H' ρ' G',SR K B σ' H' ρ' G'->Same G G'->bY K B W G' (cN h gb ds ρ') De->Pv σ' H') :
  tG K B h v σ H fun σ2 H2=>tS K B W gb { De with nx:=Pv,ct:=Pv,bk:=De.nx } σ2 H2:=by
 unfold cN at p
 cases e:h d ρ with
 | none=>rw [e] at p;exact p.elim
 | some ρ1 =>
  rw [e] at p
  refine ⟨ρ,G,d,s,r,ρ1,e,fun σ1 s1=>⟨ρ1,G,s1,?_⟩⟩
  dsimp only at p
  cases e2:gb ρ1 with
  | nx ρ2=>rw [e2] at p;exact fun σ' H' G' s' q=>hP σ' H' ρ2 G' s' q (bY.same p q)
  | ct ρ2=>rw [e2] at p;exact fun σ' H' G' s' q=>hP σ' H' ρ2 G' s' q (bY.same p q)
  | bk ρ2=>rw [e2] at p;exact p
  | rt d=>rw [e2] at p;exact p
  | ex c n ρ2=>rw [e2] at p;exact p
  | no=>rw [e2] at p;exact p
  | rx d ρ2=>rw [e2] at p;exact p
  | rl ds=>rw [e2] at p;exact p
def Jv (h:Tg) (gb:ak->Ou) (f:ak->Rs D):ak->Ou:=fun ρ=>oR (f ρ) ρ fun d=>match d with|.lst ds=>cN h gb ds ρ|_=>.no
def Jw (h:Tg) (gb:ak->Ou) (f:ak->Rs D):ak->Ou:=fun ρ=>oR (f ρ) ρ fun d=>match d with|.tup ds=>cN h gb ds ρ|_=>.no
def yM (h:Tg) (gb:ak->Ou) (f:ak->Rs D):ak->Ou:=fun ρ=>oR (f ρ) ρ fun d=>match d with|.int n=>if -(2 ^ 62)<=n/\n < 2 ^ 62 then cN h gb ((List.range n.toNat).map fun (i:Nat)=>.int i) ρ else .no|_=>.no
theorem Rg {tg iter:Expr} {body:List Stmt} {pos:Pos} {f:ak->Rs D} {h:Tg} {gb:ak->Ou} (hp:PassesOwn (model X.prog X.w) X.A X.env X.xe) (hc:X.calm=true) (hi:SE X B W iter f) (hg:SG X B tg h) (hb:vo X B W body gb)
  (hs:∀ x,foldedSetIterable iter X.env x=pure x:=by intro _;rfl):SS X B W (.For tg iter body [] pos) (Jv h gb f):=by
 refine PS.imp (yt hp hc (Ep hi) hg hb hs) fun De σ H ⟨ρ,G,s,p⟩=>?_
 refine ⟨ρ,G,s,gG s p fun d v H1 G1 _ e r p1=>?_⟩
 cases d with
 | lst ds =>
  obtain ⟨a,vs,rfl,q,rr⟩:=aO.mp r
  refine ⟨a,rfl,⟨vs,e.gh.seq q⟩,Jk (fun i σ H=>∃ ρ G,SR X.K B σ H ρ G/\rG X.K G a vs/\aZ X.K G ds vs/\bY X.K B W G (cN h gb (ds.drop i) ρ) De) ⟨ρ,G1,s.ext e,q,rr,by simpa using p1⟩ (fun i σ H _ ⟨ρ,G,s,q,_⟩=>s.en.gh.seq q) ?_ ?_⟩
  ·rintro i x σ2 H2 hx ⟨ρ2,G2,s2,q2,r2,p2⟩
   obtain ⟨d,hd,rd⟩:=r2.get' hx
   have hl:=(List.getElem?_eq_some_iff.mp hd).1
   rw [List.drop_eq_getElem_cons hl,(List.getElem?_eq_some_iff.mp hd).2] at p2
   exact uy s2 rd p2 fun σ' H' ρ' G' s' q' p'=>⟨ρ',G',s',q'.seq q2,r2.mono q',p'⟩
  ·rintro σ2 H2 ⟨ρ2,G2,s2,q2,r2,p2⟩
   rw [<- r2.length,List.drop_length] at p2
   exact p2 σ2 H2 G2 s2 (.refl _)
 | _=>exact p1.elim
theorem Rh {tg iter:Expr} {body:List Stmt} {pos:Pos} {f:ak->Rs D} {h:Tg} {gb:ak->Ou} (hp:PassesOwn (model X.prog X.w) X.A X.env X.xe) (hc:X.calm=true) (hi:SE X B W iter f) (hg:SG X B tg h) (hb:vo X B W body gb)
  (hs:∀ x,foldedSetIterable iter X.env x=pure x:=by intro _;rfl):SS X B W (.For tg iter body [] pos) (Jw h gb f):=by
 refine PS.imp (yt hp hc (VF hi) hg hb hs) fun De σ H ⟨ρ,G,s,p⟩=>?_
 refine ⟨ρ,G,s,gG s p fun d v H1 G1 _ e r p1=>?_⟩
 cases d with
 | tup ds =>
  obtain ⟨a,vs,rfl,q,rr⟩:=aP.mp r
  refine ⟨a,rfl,⟨vs,Same.gU e.gh q⟩,aao (fun i σ H=>∃ ρ G,SR X.K B σ H ρ G/\lK X.K G a vs/\aZ X.K G ds vs/\bY X.K B W G (cN h gb (ds.drop i) ρ) De) ⟨ρ,G1,s.ext e,q,rr,by simpa using p1⟩ (fun i σ H _ ⟨ρ,G,s,q,_⟩=>Same.gU s.en.gh q) ?_ ?_⟩
  ·rintro i x σ2 H2 hx ⟨ρ2,G2,s2,q2,r2,p2⟩
   obtain ⟨d,hd,rd⟩:=r2.get' hx
   have hl:=(List.getElem?_eq_some_iff.mp hd).1
   rw [List.drop_eq_getElem_cons hl,(List.getElem?_eq_some_iff.mp hd).2] at p2
   exact uy s2 rd p2 fun σ' H' ρ' G' s' q' p'=>⟨ρ',G',s',Same.gU q' q2,r2.mono q',p'⟩
  ·rintro σ2 H2 ⟨ρ2,G2,s2,q2,r2,p2⟩
   rw [<- r2.length,List.drop_length] at p2
   exact p2 σ2 H2 G2 s2 (.refl _)
 | _=>exact p1.elim
theorem yN {h:Tg} {gb:ak->Ou} {lo:Int} {n:Nat} (s:SR K B σ H ρ G) (p:bY K B W G (cN h gb ((List.range n).map fun (i:Nat)=>.int (lo + i)) ρ) De) :
  ∃ W0:Nat->Nat->St->Hp->Prop,(∃ m,W0 0 m σ H)/\∀ i m σ H,W0 i m σ H ->
   ((Itr lo n).stop i H/\De.nx σ H)∨((Itr lo n).go i H/\∃ N:St->Hp->Prop,(∀ σ' H',N σ' H'->∃ m',m' < m/\W0 (i + 1) m' σ' H')/\∀ x H',(Itr lo n).yld i H x H'->tG K B h x σ H' fun σ2 H2=>tS K B W gb { De with nx:=N,ct:=N,bk:=De.nx } σ2 H2):=by
 refine Ti (fun i σ H=>∃ ρ G,SR K B σ H ρ G/\bY K B W G (cN h gb (((List.range n).map fun (i:Nat)=>D.int (lo + i)).drop i) ρ) De) ⟨ρ,G,s,by simpa using p⟩ ?_ ?_
 ·rintro i σ2 H2 hi ⟨ρ2,G2,s2,p2⟩
  have hl:i < ((List.range n).map fun (i:Nat)=>D.int (lo + i)).length:=by simpa using hi
  rw [List.drop_eq_getElem_cons hl] at p2
  rw [show ((List.range n).map fun (i:Nat)=>D.int (lo + i))[i]=D.int (lo + i) by simp] at p2
  exact uy s2 (aH.mpr rfl) p2 fun σ' H' ρ' G' s' q' p'=>⟨ρ',G',s',p'⟩
 ·rintro σ2 H2 ⟨ρ2,G2,s2,p2⟩
  rw [List.drop_eq_nil_of_le (by simp)] at p2
  exact p2 σ2 H2 G2 s2 (.refl _)
theorem Fe {tg e:Expr} {body:List Stmt} {pos p1 p2:Pos} {f:ak->Rs D} {h:Tg} {gb:ak->Ou} (hp:PassesOwn (model X.prog X.w) X.A X.env X.xe) (hc:X.calm=true) (hm:X.mg "range"=none) (hi:SE X B W e f) (hg:SG X B tg h) (hb:vo X B W body gb)
  (hgl:Gl X "range":=by rfl) (hst:starEach [e] X.env=[(false,eval e X.env)]:=by rfl)
  (hs:∀ x,foldedSetIterable (.Call (.Name "range" p1) [e] [] p2) X.env x=pure x:=by intro _;rfl):SS X B W (.For tg (.Call (.Name "range" p1) [e] [] p2) body [] pos) (yM h gb f):=by
 refine PS.imp (yt hp hc (CW hgl hm (cW hi iy (by rw [hst];rfl)) hst) hg hb hs) fun De σ H ⟨ρ,G,s,p⟩=>?_
 refine ⟨ρ,G,s,gG s p fun d v H1 G1 _ e r p1=>?_⟩
 cases d with
 | int n =>
  dsimp only at p1
  by_cases c:-(2 ^ 62)<=n/\n < 2 ^ 62
  ·rw [if_pos c] at p1
   refine ⟨n,by rw [aH.mp r],c.1,c.2,yN (s.ext e) ?_⟩
   simpa using p1
  ·rw [if_neg c] at p1;exact p1.elim
 | _=>exact p1.elim
def WM:Ou->Ou
 | .ex _ _ _=>.no
 | o=>o
theorem Tz {o:Ou} (p:bY K B W G (WM o) De):bY K B WF G o De:=by
 cases o with
 | ex c n ρ=>exact p.elim
 | _=>exact p
theorem PS.nox {st:Stmt} {t:TS} (h:PS X.nox st t):PS X st t:=fun pins s σ H D I hw =>
 wpAny_mono (h pins s σ H D (I.wish _) hw) (fun _ _ q=>q.pA) fun _ _ z=>False.elim z
theorem aes {st:Stmt} {g:ak->Ou} (h:SS X.nox B WF st g):SS X B W st (fun ρ=>WM (g ρ)) :=
 PS.imp (PS.nox h) fun De σ H ⟨ρ,G,s,p⟩=>⟨ρ,G,s,Tz p⟩
def zig (n:Int):Nat:=if 0<=n then 2 * n.toNat else 2 * (-n).toNat + 1
def Ak (c:Str) (n:Int):Value:=.str c (zig n)
def RP (K:PySem.W.Frag) (G H:Hp) (Q:VK) (E:XK) (r:Rs D):Prop:=match r with
 | .ok d=>∀ v H' G',Ext G H G' H'->Rep K G' d v->Q v H'
 | .ex c n=>∀ H' G',Ext G H G' H'->E (Ak c n) none H'
 | .no=>False
def spV (K:PySem.W.Frag) (k:Nat) (g:List D->Rs D):Sp:=fun vs H Q E=>vs.length=k/\∃ G ds,Ext G H G H/\aZ K G ds vs/\RP K G H Q E (g ds)
def fu:Ou->Rs D
 | .nx _=>.ok .non
 | .rt d=>.ok d
 | .ex c n _=>.ex c n
 | _=>.no
def yO {α:Type}:Rs α->Rs α
 | .ex _ _=>.no
 | o=>o
def bF (N:List Str) (ds:List D):ak:=ds.map .fz++List.replicate (N.length - ds.length) .no
theorem Jx {N:List Str} {ds:List D} {vs:List V} (e:Ext G H G H) (r:aZ K G ds vs):SR K ⟨G,H,0⟩ (L2.start N vs) H (bF N ds) G:=by
 have WQ:∀ (i:Nat) (z:Sl),(bF N ds)[i]?=some z->z.own=true->False:=fun i z q w=>by
  unfold bF at q
  by_cases hi:i < (ds.map Sl.fz).length
  ·rw [List.getElem?_append_left hi,List.getElem?_map] at q
   cases e1:ds[i]? with
   | none=>rw [e1] at q;cases q
   | some d=>rw [e1] at q;cases q;cases w
  ·rw [List.getElem?_append_right (by omega),List.getElem?_replicate] at q
   split at q <;> cases q
   cases w
 refine ⟨e,?_,fun i d q=>?_,fun i z q w=>(WQ i z q w).elim,fun i j z z' a q w=>(WQ i z q w).elim,fun i ds a q=>(WQ i _ q rfl).elim⟩
 ·unfold bF L2.start
  simp [r.length]
 ·unfold bF at q
  unfold L2.start
  by_cases hi:i < (ds.map Sl.fz).length
  ·rw [List.getElem?_append_left hi,List.getElem?_map] at q
   cases e1:ds[i]? with
   | none=>rw [e1] at q;cases q
   | some d' =>
    rw [e1] at q
    cases q
    obtain ⟨v,h1,h2⟩:=r.get e1
    refine ⟨v,?_,h2⟩
    rw [List.getElem?_append_left (by rw [List.length_map,<- r.length];simpa using hi),List.getElem?_map,h1]
    rfl
  ·rw [List.getElem?_append_right (by omega),List.getElem?_replicate] at q
   split at q <;> cases q
theorem WR {o:Ou} {Q:VK} {E:XK} (h:RP K B.1 B.2 Q E (fu o)):bY K B (fun c n _ H'=>E (Ak c n) none H') G o { nx:=fun _ H'=>Q .non H',rt:=Q }:=by
 cases o with
 | nx ρ'=>exact fun σ' H' G' s q=>h .non H' G' s.en (bD.mpr rfl)
 | rt d=>exact fun v H' G' x q r=>h v H' G' x r
 | ex c n ρ'=>exact fun σ' H' G' s q=>h H' G' s.en
 | bk _=>exact h.elim
 | ct _=>exact h.elim
 | no=>exact h.elim
 | rx _ _=>exact h.elim
 | rl _=>exact h.elim
section
variable {P:Program} {w:World} {mg:Str->Option Value} {base:Heap} {x qual:Str} {st:Stmt} {f:Addr} {fd:FuncData} {N ps:List Str} {k:Nat}
end
end
end Vl
namespace Vl
open PySem PySem.Spec L2
theorem Fg {prog:Program} {w:World} {A:Around} {s:Shared} {R:Result->Shared->Prop} {elt target iter:Expr} {ifs:List Expr} {scope:Scope} {pos:Pos} {it acc:Value} {env:Env} (J:Nat->Shared->Prop)
  (turn:∀ k t,J k t->wpAny (model prog w) A (pyNext it) (fun o t1=>match o with
   | none=>R (.ok .next) t1
   | some x=>wpAny (model prog w) A (letOwnedTupleGo target it x) (fun _ t2=>wpAny (model prog w) A (assign target env x) (fun _ t3 =>
     wpAny (model prog w) A (forIn ifs true fun c go=>if go=true then do { let y <- isTrue c env (eval c env);pure (ForInStep.yield y) } else pure (ForInStep.yield go)) (fun yes t4 =>
      if yes=true then wpAny (model prog w) A (eval elt env) (fun y t5 =>
       wpAny (model prog w) A (call (.builtin "list.append") [acc,y]) (fun _ t6=>∃ j,j < k/\J j t6) (fun _ _=>False) t5) (fun _ _=>False) t4
      else ∃ j,j < k/\J j t4) (fun _ _=>False) t3) (fun _ _=>False) t2) (fun _ _=>False) t1) (fun _ _=>False) t)
  (n:Nat) (h:J n s):codeAny (model prog w) A (.compLoop (.ListComp elt [⟨target,iter,ifs,0⟩] scope pos) 0 it acc env) R s:=by
 refine codeAny_loop rfl J (fun k t hJ=>?_) n h
 show wpAny _ A (Sem.onRaise (compTurn (.ListComp elt [⟨target,iter,ifs,0⟩] scope pos) 0 it acc env) (fun x=>do noteFrame x env;theTreesLotGoes x)) _ _ t
 refine wpAny_noted ?_
 rw [compTurn_list]
 refine wpAny_bind (wpAny_standAt (wpAny_bind (wpAny_mono (turn k t hJ) (fun o t1 g1=>?_) fun _ _ z=>z.elim)))
 cases o with
 | none=>exact wpAny_pure g1
 | some x =>
  refine wpAny_bind (wpAny_mono g1 (fun _ t2 g2=>?_) fun _ _ z=>z.elim)
  refine wpAny_bind (wpAny_mono g2 (fun _ t3 g3=>wpAny_bind (wpAny_mono g3 (fun yes t4 g4=>?_) fun _ _ z=>z.elim)) fun _ _ z=>z.elim)
  cases yes with
  | true=>exact wpAny_bind (wpAny_bind (wpAny_mono g4 (fun y t5 g5=>wpAny_bind (wpAny_mono g5 (fun _ t6 g6=>wpAny_pure (wpAny_pure ⟨rfl,g6⟩)) fun _ _ z=>z.elim)) fun _ _ z=>z.elim))
  | false=>exact wpAny_pure ⟨rfl,g4⟩
abbrev jo (X:Cx) (N:List Str) (s₀:Shared) (H₀:Hp) (sc:Scope) (cl:List (Str×Addr)) (C:Addr) (ex:List Addr) (pins:List (Addr×Obj)):Cx where
 prog:=X.prog
 w:=X.w
 K:=X.K
 mg:=X.mg
 base:=X.base
 A:=X.A
 N:=N
 s₀:=s₀
 H₀:=H₀
 env:=compEnvC sc cl C X.env
 outer:=X.stack
 stack:=X.stack
 ex:=ex
 fn:=fun _=>false
 calm:=X.calm
 pn:=X.pn++pins
 xe:=fun _ _=>False
def ju (sc:Scope) (env:Env):List (Str×Addr):=sc.names.foldl (fun cs y=>if y.2 == .free then (y.1,(env.cells.lookup y.1).getD 0)::cs else cs) []
theorem xg {sc:Scope} {env:Env} (h:∀ y∈sc.names,y.2=.free->∃ c,env.cells.lookup y.1=some c):closureFor sc env=pure (ju sc env):=by
 unfold closureFor ju
 have key:∀ (l:List (Str×NameKind)) (cs:List (Str×Addr)),(∀ y∈l,y.2=.free->∃ c,env.cells.lookup y.1=some c) ->
   (forIn l cs (fun (x:Str×NameKind) (r:List (Str×Addr))=>if (x.2 == NameKind.free)=true then do let a <- cellOf env x.1;pure (ForInStep.yield ((x.1,a)::r)) else pure (ForInStep.yield r)):Sem (List (Str×Addr))) =
    pure (l.foldl (fun cs y=>if y.2 == .free then (y.1,(env.cells.lookup y.1).getD 0)::cs else cs) cs):=by
  intro l
  induction l with
  | nil=>intro cs _;rfl
  | cons y l ih =>
   intro cs hl
   rw [List.forIn_cons,List.foldl_cons]
   by_cases hk:(y.2 == NameKind.free)=true
   ·obtain ⟨c,hc⟩:=hl y List.mem_cons_self (by simpa using hk)
    rw [if_pos hk,if_pos hk]
    unfold cellOf
    rw [hc]
    exact ih _ fun z hz=>hl z (List.mem_cons_of_mem _ hz)
   ·rw [if_neg hk,if_neg hk]
    exact ih _ fun z hz=>hl z (List.mem_cons_of_mem _ hz)
 have:=key sc.names [] h
 simp only [] at this ⊢
 rw [this]
 rfl
theorem WT {sc:Scope} {env:Env}:∀ y∈ju sc env,(∃ k∈sc.names,k.1=y.1/\k.2=.free)/\y.2=(env.cells.lookup y.1).getD 0:=by
 unfold ju
 have key:∀ (l:List (Str×NameKind)) (cs:List (Str×Addr)) (y:Str×Addr),y∈l.foldl (fun cs y=>if y.2 == .free then (y.1,(env.cells.lookup y.1).getD 0)::cs else cs) cs ->
   y∈cs∨((∃ k∈l,k.1=y.1/\k.2=.free)/\y.2=(env.cells.lookup y.1).getD 0):=by
  intro l
  induction l with
  | nil=>intro cs y h;exact .inl h
  | cons z l ih =>
   intro cs y h
   rw [List.foldl_cons] at h
   rcases ih _ y h with h|⟨⟨k,hk,e⟩,e2⟩
   ·by_cases hz:(z.2 == NameKind.free)=true
    ·rw [if_pos hz] at h
     rcases List.mem_cons.mp h with e|h
     ·subst e
      exact .inr ⟨⟨z,List.mem_cons_self,rfl,by simpa using hz⟩,rfl⟩
     ·exact .inl h
    ·rw [if_neg hz] at h;exact .inl h
   ·exact .inr ⟨⟨k,List.mem_cons_of_mem _ hk,e⟩,e2⟩
 intro y hy
 rcases key sc.names [] y hy with h|h
 ·cases h
 ·exact h
theorem Jy {sc:Scope} {env:Env} {n:Str} (h:(n,NameKind.free)∈sc.names):∃ c,(ju sc env).lookup n=some c:=by
 have key:∀ (l:List (Str×NameKind)) (cs:List (Str×Addr)),((n,NameKind.free)∈l∨∃ c,cs.lookup n=some c)->∃ c,(l.foldl (fun cs y=>if y.2 == .free then (y.1,(env.cells.lookup y.1).getD 0)::cs else cs) cs).lookup n=some c:=by
  intro l
  induction l with
  | nil =>
   intro cs h
   rcases h with h|h
   ·cases h
   ·exact h
  | cons z l ih =>
   intro cs h
   rw [List.foldl_cons]
   refine ih _ ?_
   rcases h with h|⟨c,hc⟩
   ·rcases List.mem_cons.mp h with e|h
    ·subst e
     refine .inr ⟨(env.cells.lookup n).getD 0,?_⟩
     rw [if_pos (by rfl),List.lookup_cons_self]
    ·exact .inl h
   ·right
    by_cases hz:(z.2 == NameKind.free)=true
    ·rw [if_pos hz]
     by_cases e:n=z.1
     ·subst e;exact ⟨_,List.lookup_cons_self⟩
     ·exact ⟨c,by rw [List.lookup_cons,show (n == z.1)=false by simpa using e];exact hc⟩
    ·rw [if_neg hz];exact ⟨c,hc⟩
 exact key sc.names [] (.inl h)
section
variable {X:Cx} {pins:List (Addr×Obj)} {σ:St} {H:Hp} {s:Shared}
theorem jM {sc:Scope} {env:Env} {x:Str} {k:NameKind} (h:(relabel sc env).names.lookup x=some k):(∃ k',sc.names.lookup x=some k'/\(k'=k∨(k'=.free/\k=.cell))):=by
 have key:∀ l:List (Str×NameKind),List.lookup x (l.map fun (n,k)=>if (k == .free && env.scope.kind == .function && env.kindOf n == some .cell) then (n,NameKind.cell) else (n,k))=some k ->
   ∃ k',l.lookup x=some k'/\(k'=k∨(k'=.free/\k=.cell)):=by
  intro l
  induction l with
  | nil=>intro h;cases h
  | cons y l ih =>
   intro h
   obtain ⟨n,kk⟩:=y
   rw [List.map_cons] at h
   by_cases e:(x == n)=true
   ·refine ⟨kk,by rw [List.lookup_cons,e],?_⟩
    dsimp only at h
    split at h
    ·rename_i hc
     rw [List.lookup_cons,e] at h
     have h':NameKind.cell=k:=Option.some.inj h
     exact .inr ⟨by simp only [Bool.and_eq_true,beq_iff_eq] at hc;exact hc.1.1,h'.symm⟩
    ·rw [List.lookup_cons,e] at h
     exact .inl (Option.some.inj h)
   ·have e':(x == n)=false:=by simpa using e
    obtain ⟨k',a,b⟩:=ih (by
     dsimp only at h
     split at h <;> (rw [List.lookup_cons,e'] at h;exact h))
    exact ⟨k',by rw [List.lookup_cons,e'];exact a,b⟩
 exact key sc.names h
structure yP (X:Cx) (sc:Scope) (N:List Str) (nt:Nat) (caps:List Nat):Prop where
 kind:sc.kind=.function
 WW:∀ y∈sc.names,y.2≠.cell
 fr:∀ y∈sc.names,y.2=.free->X.env.kindOf y.1=some .cell∨X.env.kindOf y.1=some .free
 len:N.length=nt + caps.length
 cap:∀ (j i:Nat) (x:Str),caps[j]?=some i->N[nt + j]?=some x->X.N[i]?=some x/\sc.names.lookup x=some .free
theorem yP.cells {sc:Scope} {N:List Str} {nt:Nat} {caps:List Nat} (c:yP X sc N nt caps) (I:Inv X pins σ H s):∀ y∈sc.names,y.2=.free->∃ a,X.env.cells.lookup y.1=some a :=
 fun y hy hf=>I.ok.has y.1 (c.fr y hy hf)
theorem yP.cl {sc:Scope} {N:List Str} {nt:Nat} {caps:List Nat} (c:yP X sc N nt caps) (I:Inv X pins σ H s) {x:Str} {a:Addr} (h:(ju sc X.env).lookup x=some a):X.env.cells.lookup x=some a:=by
 have hm:=PySem.mem_of_lookup h
 obtain ⟨⟨k,hk,e1,e2⟩,e3⟩:=WT _ hm
 obtain ⟨b,hb⟩:=c.cells I k hk e2
 rw [e1] at hb
 dsimp only at e3 hb
 rw [hb] at e3
 rw [hb,e3];rfl
def pF (nt:Nat) (caps:List Nat) (σ:St):St:=List.replicate nt none++caps.map fun i=>(σ[i]?).getD none
theorem NZ {sc:Scope} {N:List Str} {nt:Nat} {caps:List Nat} {fp:List Addr} {h':Heap} {tk:Nat} (c:yP X sc N nt caps) (I:Inv X pins σ H s) (hfp:∀ b∈fp,wU X pins H b/\b < s.heap.objs.size)
  (hn:h'.Ns s.heap.objs.size fun _=>none) (hk:∀ b o,s.heap.get? b=some o->h'.get? b=some o) :
  Inv (jo X N s H sc (ju sc X.env) s.heap.objs.size fp pins) [] (pF nt caps σ) H { s with heap:=h',toks:=tk }:=by
 have clX:∀ {x:Str} {a:Addr},(ju sc X.env).lookup x=some a->X.env.cells.lookup x=some a:=fun h=>c.cl I h
 have stk:∀ b,b≠X.env.locals->b∉X.fs->b∉tY X.stack:=fun b h1 h2 h3=>(List.mem_cons.mp (I.yq b h3)).elim h1 h2
 refine ⟨⟨I.ok.mod,c.kind,I.ok.glob,I.ok.blt,Nat.le_refl _,fun x y a h1 h2=>I.ok.inj x y a (clX h1) (clX h2),fun x hx=>?_,fun x a hf=>absurd (show false=true from hf) Bool.false_ne_true,I.ok.hd,I.ok.frames,.inl rfl,fun b hb=>⟨Nat.ne_of_lt (hfp b hb).2,fun x a ha=>(hfp b hb).1.2.2.2.2.1 x a (clX ha)⟩,
  fun b o e=>I.bs b o e,Nat.le_trans I.ok.bsz I.sz,fun b o e hb=>?_,fun b hb=>stk b (hfp b hb).1.2.1 (hfp b hb).1.2.2.1,I.stack,I.En⟩,
  rfl,I.bare,Un.kept hk,⟨_,hn,fun i x v h1 h2 h3=>?_⟩,fun x a ha=>?_,I.hok.fresh (Nat.le_refl _),fun x a ha=>I.pq x a (clX ha),fun p hp=>?_,I.hok.kept hk,?_⟩
 ·-- has
  have hx':(relabel sc X.env).names.lookup x=some .cell∨(relabel sc X.env).names.lookup x=some .free:=hx
  have:sc.names.lookup x=some .free:=by
   rcases hx' with hx'|hx'
   ·obtain ⟨k',h1,h2⟩:=jM hx'
    rcases h2 with h2|⟨h2,_⟩
    ·subst h2;exact (c.WW _ (PySem.mem_of_lookup h1) rfl).elim
    ·rw [h1,h2]
   ·obtain ⟨k',h1,h2⟩:=jM hx'
    rcases h2 with h2|⟨h2,e⟩
    ·rw [h1,h2]
    ·cases e
  exact Jy (PySem.mem_of_lookup this)
 ·-- Tc
  obtain ⟨_,_,_,h4,_⟩:=(hfp b hb).1
  rcases h4 with h4|h4
  ·exact I.ok.Tc b o e h4
  ·exact absurd (Nat.lt_of_lt_of_le (Heap.lt_size e) (Nat.le_trans I.ok.bsz h4)) (Nat.lt_irrefl _)
 ·-- loc
  unfold pF at h2
  by_cases hi:i < (List.replicate nt (none:Option V)).length
  ·rw [List.getElem?_append_left hi,List.getElem?_replicate] at h2
   split at h2 <;> cases h2
  ·rw [List.getElem?_append_right (by omega),List.getElem?_map] at h2
   rw [List.length_replicate] at h2 hi
   cases e:caps[i - nt]? with
   | none=>rw [e] at h2;cases h2
   | some k =>
    rw [e] at h2
    have h2':(σ[k]?).getD none=some v:=Option.some.inj h2
    have hs:σ[k]?=some (some v):=by
     cases e3:σ[k]? with
     | none=>rw [e3] at h2';cases h2'
     | some z=>rw [e3] at h2';exact congrArg some h2'
    obtain ⟨hX,hl0⟩:=c.cap (i - nt) k x e (by rw [show nt + (i - nt)=i by omega];exact h1)
    have hf:(x,NameKind.free)∈sc.names:=PySem.mem_of_lookup hl0
    obtain ⟨m,_,hl⟩:=I.loc
    have hkind:=c.fr _ hf rfl
    obtain ⟨u,r,l⟩:=hl k x v hX hs (by rcases hkind with q|q;exact .inr (.inl q);exact .inr (.inr q))
    refine ⟨u,r,.inr ⟨?_,?_⟩⟩
    ·have h3':(relabel sc X.env).names.lookup x=some .local∨(relabel sc X.env).names.lookup x=some .cell∨(relabel sc X.env).names.lookup x=some .free:=h3
     rcases h3' with q|q|q
     ·obtain ⟨k',a1,a2⟩:=jM q
      exfalso
      rw [hl0] at a1
      cases a1
      rcases a2 with a2|⟨_,a2⟩ <;> cases a2
     ·exact .inl q
     ·exact .inr q
    ·obtain ⟨cc,hcc⟩:=Jy (env:=X.env) hf
     refine ⟨cc,hcc,?_⟩
     rcases l with ⟨q,_⟩|⟨_,c2,hc2,z⟩
     ·rcases hkind with q'|q' <;> (rw [q] at q';cases q')
     ·rw [clX hcc] at hc2
      cases hc2
      obtain ⟨o,ho,hd⟩:=z
      exact ⟨o,hk _ _ ho,hd⟩
 ·obtain ⟨v,o,ho,hd⟩:=I.cell x a (clX ha)
  exact ⟨v,o,hk _ _ ho,hd⟩
 ·rw [List.append_nil] at hp
  obtain ⟨e,n,ne,nf,d⟩:=I.pin p hp
  exact ⟨hk _ _ e,n,Nat.ne_of_lt (Heap.lt_size e),stk _ ne nf,d⟩
 ·unfold pF
  rw [List.length_append,List.length_replicate,List.length_map]
  exact c.len.symm
end
end Vl
namespace Vl
open PySem PySem.Spec L2
def Yl (K:PySem.W.Frag) (J:It) (ds:List D) (G:Hp):Prop:=∀ (i:Nat) (G1 H1:Hp),Same G G1->Ext G1 H1 G1 H1 ->
 (∀ d,ds[i]?=some d->J.go i H1/\∀ x H2,J.yld i H1 x H2->∃ G2,Ext G1 H1 G2 H2/\Rep K G2 d x)/\(ds.length<=i->J.stop i H1)
def WX (K:PySem.W.Frag) (W:Wi) (σ:St) (G H:Hp) (r:Rs (List D)) (R:It->Hp->Prop):Prop :=
 match r with
 | .ok ds=>∀ J H' G',Ext G H G' H'->Yl K J ds G'->R J H'
 | .ex c n=>∀ H' G',Ext G H G' H'->W c n σ H'
 | .no=>False
def tI (K:PySem.W.Frag) (B:Bs) (W:Wi) (f:ak->Rs (List D)):TI:=fun σ H R=>∃ ρ G,SR K B σ H ρ G/\WX K W σ G H (f ρ) R
def SI (X:Cx) (B:Bs) (W:Wi) (tg iter:Expr) (f:ak->Rs (List D)):Prop:=PI X tg iter (tI X.K B W f)
def asL:D->Rs (List D)
 | .lst ds=>.ok ds
 | _=>.no
def asT:D->Rs (List D)
 | .tup ds=>.ok ds
 | _=>.no
section
variable {X:Cx} {K:PySem.W.Frag} {B:Bs} {W:Wi} {σ:St} {G H:Hp} {ρ:ak} {tg iter:Expr} {f:ak->Rs D}
theorem PI.imp {t t':TI} (h:PI X tg iter t) (i:∀ σ H R,t' σ H R->t σ H R):PI X tg iter t':=fun pins s σ H R I q=>h pins s σ H R I (i σ H R q)
theorem aev {a:Addr} {ds:List D} {vs:List V} (q:lK K G a vs) (r:aZ K G ds vs):Yl K (Itt K a) ds G:=by
 intro i G1 H1 gg e
 have q1:=Same.gU e.gh (Same.gU gg q)
 refine ⟨fun d hd=>?_,fun hl=>⟨vs,q1,by rw [<- r.length];exact hl⟩⟩
 obtain ⟨v,hv,rv⟩:=r.get hd
 refine ⟨⟨vs,v,q1,hv⟩,fun x H2 y=>?_⟩
 obtain ⟨e2,y⟩:=y
 subst e2
 have:=y vs q1
 rw [hv] at this
 cases this
 exact ⟨G1,e,rv.mono gg⟩
theorem Ri {as:D->Rs (List D)} {r:Rs D} {R:It->Hp->Prop} {Q:VK} (p:WX K W σ G H (r.bind as) R) (h:∀ d v H' G' ds,as d=.ok ds->Ext G H G' H'->Rep K G' d v->(∀ J Vt G'',Ext G' H' G'' Vt->Yl K J ds G''->R J Vt)->Q v H') (hn:∀ d c n,as d≠.ex c n):Post K W σ G H r Q:=by
 cases r with
 | ok d =>
  intro v H' G' e rv
  have p':WX K W σ G H (as d) R:=p
  cases e1:as d with
  | ok ds=>rw [e1] at p';exact h d v H' G' ds e1 e rv fun J Vt G'' e' y=>p' J Vt G'' (e.trans e') y
  | ex c n=>exact (hn d c n e1).elim
  | no=>rw [e1] at p';exact p'.elim
 | ex c n=>exact p
 | no=>exact p
theorem aaH (hi:SE X B W iter f):SI X B W tg iter (fun ρ=>(f ρ).bind asL):=by
 refine PI.imp (Ep hi) fun σ H R ⟨ρ,G,s,p⟩=>⟨ρ,G,s,Ri p (fun d v H' G' ds e1 e rv k=>?_) (fun d c n z=>by cases d <;> cases z)⟩
 cases d with
 | lst es =>
  cases e1
  obtain ⟨a,vs,rfl,q,rr⟩:=aO.mp rv
  refine ⟨a,rfl,⟨vs,e.gh.seq q⟩,k _ H' G' (.refl e.gh e.tp) ?_⟩
  intro i G1 H1 gg e'
  have q1:=e'.gh.seq (gg.seq q)
  refine ⟨fun d hd=>?_,fun hl=>⟨vs,q1,by rw [<- rr.length];exact hl⟩⟩
  obtain ⟨v,hv,rv⟩:=rr.get hd
  refine ⟨⟨vs,v,q1,hv⟩,fun x H2 y=>?_⟩
  obtain ⟨e2,y⟩:=y
  subst e2
  have:=y vs q1
  rw [hv] at this
  cases this
  exact ⟨G1,e',rv.mono gg⟩
 | _=>cases e1
theorem aew (hi:SE X B W iter f):SI X B W tg iter (fun ρ=>(f ρ).bind asT):=by
 refine PI.imp (VF hi) fun σ H R ⟨ρ,G,s,p⟩=>⟨ρ,G,s,Ri p (fun d v H' G' ds e1 e rv k=>?_) (fun d c n z=>by cases d <;> cases z)⟩
 cases d with
 | tup es =>
  cases e1
  obtain ⟨a,vs,rfl,q,rr⟩:=aP.mp rv
  exact ⟨a,rfl,⟨vs,Same.gU e.gh q⟩,k _ H' G' (.refl e.gh e.tp) (aev q rr)⟩
 | _=>cases e1
def Oa (ρ:ak):Prop:=∀ (i:Nat) (z:Sl),ρ[i]?=some z->z.own=true->False
def pG (h:Tg):Prop:=∀ d ρ ρ',Oa ρ->h d ρ=some ρ'->Oa ρ'
def dH (nt:Nat) (caps:List Nat) (ρ:ak):ak:=List.replicate nt .no++caps.map fun i=>match ρ[i]? with|some (.fz d)=>.fz d|_=>.no
def iZ (h:Tg) (ft:ak->Rs Bool) (fe:ak->Rs D):List D->ak->Rs (List D)
 | [],_=>.ok []
 | d::ds,ρ=>match h d ρ with
  | none=>.no
  | some ρ1=>(ft ρ1).bind fun b=>if b=true then (fe ρ1).bind fun y=>(iZ h ft fe ds ρ1).bind fun ys=>.ok (y::ys) else iZ h ft fe ds ρ1
theorem mC {nt:Nat} {caps:List Nat} {ρ:ak}:Oa (dH nt caps ρ):=fun i z q w=>by
 unfold dH at q
 by_cases hi:i < (List.replicate nt Sl.no).length
 ·rw [List.getElem?_append_left hi,List.getElem?_replicate] at q
  split at q <;> cases q
  cases w
 ·rw [List.getElem?_append_right (by omega),List.getElem?_map] at q
  cases e:caps[i - (List.replicate nt Sl.no).length]? with
  | none=>rw [e] at q;cases q
  | some k =>
   rw [e] at q
   have q':(match ρ[k]? with|some (.fz d)=>Sl.fz d|_=>.no)=z:=Option.some.inj q
   split at q' <;> (subst q';cases w)
theorem aaI {nt:Nat} {caps:List Nat} {p:Addr} (s:SR K B σ H ρ G) (hp:H p=none):SR K ⟨G,H,0⟩ (pF nt caps σ) (dY H p (.lst [])) (dH nt caps ρ) G:=by
 refine ⟨Rb s.en.gh s.en.tp hp,by simp [pF,dH],fun i d q=>?_,fun i z q w=>(mC i z q w).elim,fun i j z z' a q w=>(mC i z q w).elim,fun i ds a q=>(mC i _ q rfl).elim⟩
 unfold dH at q
 unfold pF
 by_cases hi:i < nt
 ·rw [List.getElem?_append_left (by simpa using hi),List.getElem?_replicate] at q
  split at q <;> cases q
 ·rw [List.getElem?_append_right (by simpa using hi),List.getElem?_map,List.length_replicate] at q
  rw [List.getElem?_append_right (by simpa using hi),List.getElem?_map,List.length_replicate]
  cases e:caps[i - nt]? with
  | none=>rw [e] at q;cases q
  | some k =>
   rw [e] at q
   have q':(match ρ[k]? with|some (.fz d)=>Sl.fz d|_=>.no)=.fz d:=Option.some.inj q
   cases e2:ρ[k]? with
   | none=>rw [e2] at q';cases q'
   | some z =>
    rw [e2] at q'
    cases z with
    | fz d' =>
     cases q'
     obtain ⟨v,h1,h2⟩:=s.fz k _ e2
     exact ⟨v,by simp [h1],h2⟩
    | no=>cases q'
    | ow _=>cases q'
    | od _=>cases q'
    | op _=>cases q'
theorem SR.off {p:Addr} {vs us:List V} (s:SR K B σ H ρ G) (hn:Oa ρ) (hp:H p=some (.lst vs)) (g:G p=none) (b:B.2 p=none):SR K B σ (dY H p (.lst us)) ρ G:=by
 refine ⟨⟨s.en.gg,fun c o z=>?_,fun c o z=>?_,fun c xs z=>?_,s.en.nw⟩,s.len,s.fz,fun i z q w=>(hn i z q w).elim,fun i j z z' a q w=>(hn i z q w).elim,fun i ds a q=>(hn i _ q rfl).elim⟩
 ·rw [aW (aR z b)];exact s.en.hh c o z
 ·rw [aW (aR z g)];exact s.en.gh c o z
 ·by_cases w:c=p
  ·subst w;rw [aY] at z;cases z
  ·rw [aW w] at z;exact s.en.tp c xs z
def jc (h:Tg) (ft:ak->Rs Bool) (fe:ak->Rs D) (nt:Nat) (caps:List Nat) (f:ak->Rs (List D)):ak->Rs D:=fun ρ =>
 (f ρ).bind fun ds=>yO ((iZ h ft fe ds (dH nt caps ρ)).bind fun ys=>if ys.length<=1000000 then .ok (.lst ys) else .no)
theorem Fi {prog:Program} {w:World} {A:Around} {E:Value->Shared->Prop} {s:Shared} {env:Env} {Q:Bool->Shared->Prop} (h:Q true s) :
  wpAny (model prog w) A (forIn ([]:List Expr) true fun c r=>if r=true then do let ok <- isTrue c env (eval c env);pure (ForInStep.yield ok) else pure (ForInStep.yield r)) Q E s:=by
 simp only [List.forIn_nil]
 exact wpAny_pure h
set_option maxHeartbeats 8000000 in
theorem Dm {elt:Expr} {ifs:List Expr} {sc:Scope} {pos:Pos} {N:List Str} {nt:Nat} {caps:List Nat} {h:Tg} {ft:ak->Rs Bool} {fe:ak->Rs D} {fi:ak->Rs (List D)}
  (c:yP X sc N nt caps) (hc:X.calm=true) (hnames:∀ y∈sc.names,y.2=.local->sc.names.lookup y.1=some .local) (hi:SI X B W tg iter fi) (hno:pG h)
  (ht:∀ s₀ H₀ C ex pins B',SG (jo X N s₀ H₀ sc (ju sc X.env) C ex pins) B' tg h)
  (hif:(ifs=[]/\ft=fun _=>.ok true)∨∃ c,ifs=[c]/\∀ s₀ H₀ C ex pins B',ST (jo X N s₀ H₀ sc (ju sc X.env) C ex pins) B' WF c ft)
  (he:∀ s₀ H₀ C ex pins B',SE (jo X N s₀ H₀ sc (ju sc X.env) C ex pins) B' WF elt fe)
  (hs:∀ x,foldedSetIterable iter X.env x=pure x)
  {use:Option (Value->Sem Unit)} {QQ:Value->Shared->Prop} {pins:List (Addr×Obj)} {s:Shared} {σ:St} {H G:Hp} {ρ:ak} (I:Inv X pins σ H s) (sr:SR X.K B σ H ρ G)
  (p:match jc h ft fe nt caps fi ρ with
   | .ok d=>∀ (D' C:Addr) (H' G':Hp) (s5:Shared) (fl:Flow),Ext G H G' H'->Rep X.K G' d (.ref D')->(∃ m,s5.heap.Ns C m)->wU X pins H' C->(∀ h',Heap.SameBut C s5.heap h'->Inv X pins σ H' { s5 with heap:=h' })->compPost (model X.prog X.w) X.A X.xe use QQ (.ref D') C (.ok fl) s5
   | .ex c n=>∀ H' G',Ext G H G' H'->W c n σ H'
   | .no=>False) :
  wpAny (model X.prog X.w) X.A (comprehension (.ListComp elt [⟨tg,iter,ifs,0⟩] sc pos) sc X.env (firstIterPos [⟨tg,iter,ifs,0⟩] pos) (newList []) (firstAsync [⟨tg,iter,ifs,0⟩]) (firstIter [⟨tg,iter,ifs,0⟩] X.env) use) QQ X.xe s:=by
 refine wpAny_comprehension_free (use:=use) (cl:=ju sc X.env) rfl hs (xg (c.cells I)) c.kind hnames ?_
 show wpAny (model X.prog X.w) X.A (eval iter X.env) _ X.xe s
 refine wpAny_mono (hi pins s σ H (fun J H2=>∃ G2 ds,Ext G H G2 H2/\Yl X.K J ds G2/\∃ YS,iZ h ft fe ds (dH nt caps ρ)=.ok YS/\YS.length<=1000000/\∀ (D' C:Addr) (H' G':Hp) (s5:Shared) (fl:Flow),Ext G H G' H'->Rep X.K G' (.lst YS) (.ref D')->(∃ m,s5.heap.Ns C m)->wU X pins H' C->(∀ h',Heap.SameBut C s5.heap h'->Inv X pins σ H' { s5 with heap:=h' })->compPost (model X.prog X.w) X.A X.xe use QQ (.ref D') C (.ok fl) s5) I ⟨ρ,G,sr,?_⟩) (fun v s1 h1=>wpAny_mono h1 (fun itv s2 h2=>?_) fun _ _ z=>z) fun _ _ z=>z
 ·unfold jc at p
  cases e:fi ρ with
  | ok ds =>
   rw [e] at p
   have p2:match yO ((iZ h ft fe ds (dH nt caps ρ)).bind fun ys=>if ys.length<=1000000 then .ok (.lst ys) else .no) with
    | .ok d=>∀ (D' C:Addr) (H' G':Hp) (s5:Shared) (fl:Flow),Ext G H G' H'->Rep X.K G' d (.ref D')->(∃ m,s5.heap.Ns C m)->wU X pins H' C->(∀ h',Heap.SameBut C s5.heap h'->Inv X pins σ H' { s5 with heap:=h' })->compPost (model X.prog X.w) X.A X.xe use QQ (.ref D') C (.ok fl) s5
    | .ex c n=>∀ H' G',Ext G H G' H'->W c n σ H'
    | .no=>False:=p
   refine fun J H' G' x y=>⟨G',ds,x,y,?_⟩
   cases e:iZ h ft fe ds (dH nt caps ρ) with
   | ok YS =>
    rw [e] at p2
    by_cases hl:YS.length<=1000000
    ·simp only [Rs.bind,if_pos hl,yO] at p2
     exact ⟨YS,rfl,hl,p2⟩
    ·simp only [Rs.bind,if_neg hl,yO] at p2
   | ex c n=>rw [e] at p2;exact p2.elim
   | no=>rw [e] at p2;exact p2.elim
  | ex c n=>rw [e] at p;exact p
  | no=>rw [e] at p;exact p
 obtain ⟨it,fp,tn,J,H2,e,I2,T,st2,f2,G2,ds,x2,yl,YS,hYS,hlen,hQ⟩:=h2
 subst e
 refine wpAny_newObj_type (wpAny_newFunctionEnv c.WW (by intro y hy;simp at hy) (fun h₁ hns₁ hsb₁=>?_) c.kind)
 have hD2:H2 s2.heap.objs.size=none:=I2.fresh
 have I3:=I2.agJ (ys:=[]) (its:=[]) (t':=s2.toks) .nil (by simp)
 have sr2:SR X.K B σ H2 ρ G2:=sr.ext x2
 have fpl:∀ b∈fp,b < s2.heap.objs.size:=fun b hb=>by
  obtain ⟨o,ho,_⟩:=T.obj 0 _ st2 b hb
  exact Heap.lt_size ho
 have hk:∀ b o,(s2.heap.push { cls:=.type "list",data:=.seq ([]:List Value).toArray }).get? b=some o->h₁.get? b=some o:=fun b o z =>
  (hsb₁.2 b (Nat.ne_of_lt (Heap.lt_size z))).trans (Heap.get?_push_of_some _ z)
 have agR:∀ b∈fp,wU X pins (dY H2 s2.heap.objs.size (.lst [])) b/\b < (s2.heap.push { cls:=.type "list",data:=.seq ([]:List Value).toArray }).objs.size:=fun b hb=>by
  obtain ⟨g1,g2⟩:=f2 b hb
  refine ⟨⟨?_,g2⟩,?_⟩
  ·rw [aW (Nat.ne_of_lt (fpl b hb))];exact g1
  ·rw [Heap.size_push];exact Nat.lt_succ_of_lt (fpl b hb)
 have IY:=NZ (h':=h₁) (tk:=s2.toks + ([]:List (Str×Value)).length) c I3 agR hns₁ hk
 generalize hC:(s2.heap.push { cls:=.type "list",data:=.seq ([]:List Value).toArray }).objs.size=C at *
 have srY:=aaI (nt:=nt) (caps:=caps) sr2 hD2
 have stk:∀ b,b≠X.env.locals->b∉X.fs->b∉tY X.stack:=fun b h1 h2 h3=>(List.mem_cons.mp (I2.yq b h3)).elim h1 h2
 have hCl:s2.heap.objs.size + 1=C:=by rw [<- hC,Heap.size_push]
 have stat:∀ {H':Hp},(∀ b∈fp,H' b=none)->∀ b∈fp,wU (jo X N { s2 with heap:=s2.heap.push { cls:=.type "list",data:=.seq ([]:List Value).toArray },toks:=s2.toks } (dY H2 s2.heap.objs.size (.lst [])) sc (ju sc X.env) C fp pins) [] H' b:=fun {H'} hn b hb=>by
  obtain ⟨_,g2,g3,g4,g5,g6⟩:=f2 b hb
  refine ⟨hn b hb,?_,stk b g2 g3,.inl hb,fun x a ha=>g5 x a (c.cl I2 ha),fun p hp=>?_⟩
  ·show b≠C
   exact Nat.ne_of_lt (hCl▸Nat.lt_succ_of_lt (fpl b hb))
  ·rw [List.append_nil] at hp;exact g6 p hp
 let Y:=jo X N { s2 with heap:=s2.heap.push { cls:=.type "list",data:=.seq ([]:List Value).toArray },toks:=s2.toks } (dY H2 s2.heap.objs.size (.lst [])) sc (ju sc X.env) C fp pins
 let D':=s2.heap.objs.size
 let Jn:Nat->Shared->Prop:=fun n s4=>∃ (i:Nat) (ρ':ak) (σ':St) (H' G':Hp) (yds:List D) (Vu:List V) (rest:List D),Inv Y [] σ' H' s4/\tn i s4.heap/\(∀ b∈fp,H' b=none)/\SR X.K ⟨G2,H2,0⟩ σ' H' ρ' G'/\Oa ρ'/\H' D'=some (.lst Vu)/\G' D'=none /\
  aZ X.K G' yds Vu/\i<=ds.length/\n=ds.length - i/\iZ h ft fe (ds.drop i) ρ'=.ok rest/\yds++rest=YS
 have loop:∀ (n:Nat) (s4:Shared),Jn n s4->codeAny (model X.prog X.w) X.A (.compLoop (.ListComp elt [⟨tg,iter,ifs,0⟩] sc pos) 0 (.ref it) (.ref D') Y.env) (compPost (model X.prog X.w) X.A X.xe use QQ (.ref D') C) s4:=by
  intro n0 s40 h0
  refine Fg (J:=Jn) ?_ n0 h0
  rintro n s4 ⟨i,ρ',σ',H',G',yds,Vu,rest,I4,Dp,fr4,sr4,no4,hD4,hG4,ry4,hi4,rfl,hcd,hY⟩
  by_cases hlt:i < ds.length
  ·obtain ⟨yes,_⟩:=yl i G' H' sr4.en.gg sr4.ug
   obtain ⟨go,yields⟩:=yes ds[i] (by simp [hlt])
   rw [List.drop_eq_getElem_cons hlt] at hcd
   unfold iZ at hcd
   cases eh:h ds[i] ρ' with
   | none=>rw [eh] at hcd;cases hcd
   | some ρ1 =>
    rw [eh] at hcd
    dsimp only at hcd
    refine ig (T.item Y rfl rfl rfl hc i [] s4 σ' H' (fun _ _=>False) I4 (stat fr4) Dp go) fun r s5 ⟨u,hr,h5⟩=>?_
    subst hr
    refine ig h5 fun _ s6 ⟨x,H6,I6,r6,y6,st6,fr6⟩=>?_
    obtain ⟨G6,e6,ajv⟩:=yields x H6 y6
    have sr6:=sr4.ext e6
    have I6':=I6.pinned (stat fr6) (T.obj _ _ st6)
    refine ig (ht _ _ _ _ _ ⟨G2,H2,0⟩ _ s6 σ' H6 x u (fun σ7 H7=>H7=H6/\SR X.K ⟨G2,H2,0⟩ σ7 H6 ρ1 G6) I6' r6 ⟨ρ',G6,ds[i],sr6,ajv,ρ1,eh,fun σ7 z=>⟨rfl,z⟩⟩) fun _ s7 ⟨σ7,H7,I7,eH7,sr7⟩=>?_
    subst eH7
    have no7:=hno _ _ _ no4 eh
    have again:∀ {σ8:St} {H8:Hp} {s8:Shared},Inv Y ([]++vA fp s6.heap) σ8 H8 s8->Inv Y [] σ8 H8 s8/\tn (i + 1) s8.heap/\∀ b∈fp,H8 b=none:=fun {σ8 H8 s8} I8=>by
     refine ⟨I8.tZ,T.keep _ _ _ st6 fun b hb o e=>(I8.pin (b,o) (List.mem_append_right _ (List.mem_append_right _ (mz hb e)))).1,fun b hb=>?_⟩
     obtain ⟨o,e,d⟩:=T.obj _ _ st6 b hb
     exact (I8.pin (b,o) (List.mem_append_right _ (List.mem_append_right _ (mz hb e)))).2.1
    obtain ⟨b,hb,hcd⟩:∃ b,ft ρ1=.ok b/\(if b=true then (fe ρ1).bind fun y=>(iZ h ft fe (ds.drop (i + 1)) ρ1).bind fun ys=>.ok (y::ys) else iZ h ft fe (ds.drop (i + 1)) ρ1)=.ok rest:=by
     cases e:ft ρ1 with
     | ok b=>rw [e] at hcd;exact ⟨b,rfl,hcd⟩
     | ex c n=>rw [e] at hcd;cases hcd
     | no=>rw [e] at hcd;cases hcd
    have test:wpAny (model X.prog X.w) X.A (forIn ifs true fun c r=>if r=true then do let ok <- isTrue c Y.env (eval c Y.env);pure (ForInStep.yield ok) else pure (ForInStep.yield r)) (TP Y ([]++vA fp s6.heap) σ7 fun b' H8=>b'=b/\∃ G8,Ext G6 H7 G8 H8) (fun _ _=>False) s7:=by
     rcases hif with ⟨e1,e2⟩|⟨cc,e1,hst⟩
     ·subst e1 e2
      cases hb
      exact Fi ⟨H7,I7,rfl,G6,sr7.ug⟩
     ·subst e1
      refine wpAny_tests_one (hst _ _ _ _ _ ⟨G2,H2,0⟩ _ s7 σ7 H7 _ I7 ⟨ρ1,G6,sr7,?_⟩)
      rw [hb]
      exact fun H8 G8 e8=>⟨rfl,G8,e8⟩
    refine ig test fun ok s8 ⟨H8,I8,eb,G8,e8⟩=>?_
    subst eb
    have sr8:=sr7.ext e8
    have hD8:H8 D'=some (.lst Vu):=e8.hh _ _ (e6.hh _ _ hD4)
    have hG8:G8 D'=none:=e8.nw _ _ (e6.hh _ _ hD4) (e6.nw _ _ hD4 hG4)
    have ry8:=(ry4.mono e6.gg).mono e8.gg
    cases ok with
    | true =>
     rw [if_pos rfl] at hcd ⊢
     obtain ⟨y,ys,hy,hys,hr⟩:∃ y ys,fe ρ1=.ok y/\iZ h ft fe (ds.drop (i + 1)) ρ1=.ok ys/\rest=y::ys:=by
      cases e:fe ρ1 with
      | ok y =>
       rw [e] at hcd
       have hcd':((iZ h ft fe (ds.drop (i + 1)) ρ1).bind fun ys=>Rs.ok (y::ys))=.ok rest:=hcd
       cases e3:iZ h ft fe (ds.drop (i + 1)) ρ1 with
       | ok ys=>rw [e3] at hcd';cases hcd';exact ⟨y,ys,rfl,rfl,rfl⟩
       | ex c n=>rw [e3] at hcd';cases hcd'
       | no=>rw [e3] at hcd';cases hcd'
      | ex c n=>rw [e] at hcd;cases hcd
      | no=>rw [e] at hcd;cases hcd
     subst hr
     refine ig (he _ _ _ _ _ ⟨G2,H2,0⟩ _ s8 σ7 H8 (fun v H9=>∃ G9,Ext G8 H8 G9 H9/\Rep X.K G9 y v) I8 ⟨ρ1,G8,sr8,?_⟩) fun u9 s9 ⟨v9,H9,I9,r9,G9,e9,ajB⟩=>?_
     ·rw [hy];exact fun v H9 G9 e9 r=>⟨G9,e9,r⟩
     have hD9:=e9.hh _ _ hD8
     have hG9:=e9.nw _ _ hD8 hG8
     have ryl:=ry8.length
     have hYl:yds.length < 1000000:=by
      have:=congrArg List.length hY
      rw [List.length_append,List.length_cons] at this
      omega
     refine ig (Dh (X:=Y) _ s9 σ7 H9 (.ref D') [v9] (.ref D') [u9] (fun _ H10=>H10=dY H9 D' (.lst (Vu++[v9]))) I9 rfl (.cons r9 .nil) ⟨D',Vu,v9,rfl,rfl,hD9,by rw [<- ryl];exact Nat.lt_of_lt_of_le hYl (by rw [sizeLine_eq];decide),rfl⟩) fun _ s10 ⟨_,H10,I10,_,e10⟩=>?_
     subst e10
     obtain ⟨J1,J2,J3⟩:=again I10
     refine ⟨ds.length - (i + 1),by omega,i + 1,ρ1,σ7,_,G9,yds++[y],Vu++[v9],ys,J1,J2,J3,(sr8.ext e9).off no7 hD9 hG9 hD2,no7,aY,hG9,(ry8.mono e9.gg).append (.one ajB),hlt,rfl,hys,by rw [List.append_assoc];exact hY⟩
    | false =>
     rw [if_neg (by simp)] at hcd ⊢
     obtain ⟨J1,J2,J3⟩:=again I8
     exact ⟨ds.length - (i + 1),by omega,i + 1,ρ1,σ7,H8,G8,yds,Vu,rest,J1,J2,J3,sr8,no7,hD8,hG8,ry8,hlt,rfl,hcd,hY⟩
  ·have ei:i=ds.length:=by omega
   subst ei
   obtain ⟨_,no⟩:=yl ds.length G' H' sr4.en.gg sr4.ug
   rw [List.drop_length] at hcd
   cases hcd
   rw [List.append_nil] at hY
   subst hY
   refine ig (T.done Y rfl rfl rfl hc ds.length [] s4 σ' H' (fun _ _=>False) I4 (stat fr4) Dp (no (Nat.le_refl _))) fun r s5 ⟨hr,I5⟩=>?_
   subst hr
   obtain ⟨m,hm,_⟩:=I5.loc
   have ne:∀ b o,(s2.heap.push { cls:=.type "list",data:=.seq ([]:List Value).toArray }).get? b=some o->b≠C:=fun b o e z=>by
    have:=Heap.lt_size e
    rw [hC,z] at this
    exact Nat.lt_irrefl _ this
   have U:=I5.base
   have fC0:H' C=none:=I5.free
   have IX:∀ h',Heap.SameBut C s5.heap h'->Inv X pins σ H' { s5 with heap:=h' }:=fun h' hs'=>by
    refine I3.call' (ch:=fp) (s':={ s5 with heap:=h' }) I5.os ⟨fun b o e n hb hx=>?_,fun b o e n hb hx=>?_,U.free,fun b o e hx=>?_,U.tups,U.yh,U.Al⟩ (fun b o e=>?_) I5.bare fun b hb=>?_
    ·exact (hs'.2 b (ne b o e)).trans (U.keep b o e n hb hx)
    ·obtain ⟨sl,q⟩:=U.slot b o e n hb hx
     exact ⟨sl,(hs'.2 b (ne b o e)).trans q⟩
    ·obtain ⟨o',q⟩:=U.there b o e hx
     exact ⟨o',(hs'.2 b (ne b o e)).trans q⟩
    ·have fC:H' C=none:=I5.free
     refine (I5.hok b o e).stay (fun c' u' hc' q=>(hs'.2 c' ?_).trans q) (fun _ q=>q) fun _ _ q=>q
     rintro rfl
     rcases hc' with rfl|hc'
     ·rw [fC] at e;cases e
     ·rw [fC] at hc';cases hc'
    ·obtain ⟨_,g2,_,g4,g5,g6⟩:=f2 b hb
     exact ⟨g4,g2,g5,g6⟩
   refine hQ D' C H' (dY G' D' (.lst Vu)) s5 _ ?_ ?_ ⟨m,hm⟩ (I3.aam (Nat.le_of_eq hC) fC0) IX
   ·have gg:Same G' (dY G' D' (.lst Vu)):=fun b o z=>by rw [aW (aR z hG4)];exact z
    refine ⟨(x2.gg.trans sr4.en.gg).trans gg,x2.hh.trans sr4.en.hh,fun b o z=>?_,fun b xs z=>?_,fun b o z w=>?_⟩
    ·by_cases e:b=D'
     ·subst e;rw [aY] at z;cases z;exact hD4
     ·rw [aW e] at z;exact sr4.en.gh b o z
    ·by_cases e:b=D'
     ·subst e;rw [hD4] at z;cases z
     ·rw [aW e];exact sr4.en.tp b xs z
    ·have z2:=x2.hh b o z
     rw [aW (aR z2 hD2)]
     exact sr4.en.nw b o z2 (x2.nw b o z w)
   ·have gg:Same G' (dY G' D' (.lst Vu)):=fun b o z=>by rw [aW (aR z hG4)];exact z
    exact aO.mpr ⟨D',Vu,rfl,.of aY,ry4.mono gg⟩
 have first:∀ tk,Jn ds.length { s2 with heap:=h₁,toks:=tk }:=fun tk=>by
  have IY':Inv Y [] (pF nt caps σ) (dY H2 s2.heap.objs.size (.lst [])) { s2 with heap:=h₁,toks:=tk }:=IY.tok tk
  refine ⟨0,dH nt caps ρ,pF nt caps σ,dY H2 D' (.lst []),G2,[],[],YS,IY',T.keep _ _ _ st2 fun b hb o e=>hk b o (Heap.get?_push_of_some _ e),fun b hb=>(agR b hb).1.1,srY,mC,aY,sr2.en.gh.free hD2,bf.mpr rfl,Nat.zero_le _,rfl,by simpa using hYS,rfl⟩
 exact codeAny_compStart_list (loop _ _ (first _)) (T.self _ 0 _ _ _ (T.keep _ _ _ st2 fun b hb o e=>hk b o (Heap.get?_push_of_some _ e)) (loop _ _ (first _)))
theorem aaJ {elt:Expr} {ifs:List Expr} {sc:Scope} {pos:Pos} {N:List Str} {nt:Nat} {caps:List Nat} {h:Tg} {ft:ak->Rs Bool} {fe:ak->Rs D} {fi:ak->Rs (List D)}
  (c:yP X sc N nt caps) (hc:X.calm=true) (hnames:∀ y∈sc.names,y.2=.local->sc.names.lookup y.1=some .local) (hi:SI X B W tg iter fi) (hno:pG h)
  (ht:∀ s₀ H₀ C ex pins B',SG (jo X N s₀ H₀ sc (ju sc X.env) C ex pins) B' tg h)
  (hif:(ifs=[]/\ft=fun _=>.ok true)∨∃ c,ifs=[c]/\∀ s₀ H₀ C ex pins B',ST (jo X N s₀ H₀ sc (ju sc X.env) C ex pins) B' WF c ft)
  (he:∀ s₀ H₀ C ex pins B',SE (jo X N s₀ H₀ sc (ju sc X.env) C ex pins) B' WF elt fe)
  (hs:∀ x,foldedSetIterable iter X.env x=pure x:=by intro _;rfl) :
  SE X B W (.ListComp elt [⟨tg,iter,ifs,0⟩] sc pos) (jc h ft fe nt caps fi):=by
 intro pins s σ H Q I hw
 obtain ⟨ρ,G,sr,p⟩:=hw
 rw [eval_ListComp]
 refine Dm c hc hnames hi hno ht hif he hs I sr ?_
 cases e:jc h ft fe nt caps fi ρ with
 | ok d =>
  rw [e] at p
  intro D' C H' G' s5 fl x r ⟨m,hm⟩ _ IX
  exact ⟨m,hm,fun h' hs'=>⟨.ref D',H',IX h' hs',rfl,p _ _ _ x r⟩⟩
 | ex c n=>rw [e] at p;exact p
 | no=>rw [e] at p;exact p
theorem Ob {i:Nat} {y:Str} {py spos:Pos} {elt:Expr} {ifs:List Expr} {sc:Scope} {pos:Pos} {N:List Str} {nt:Nat} {caps:List Nat} {h:Tg} {ft:ak->Rs Bool} {fe:ak->Rs D} {fi:ak->Rs (List D)}
  (hN:X.N.Nodup) (hi':X.N[i]?=some y) (hx:Jg X.env.scope y)
  (c:yP X sc N nt caps) (hc:X.calm=true) (hnames:∀ y∈sc.names,y.2=.local->sc.names.lookup y.1=some .local) (hi:SI X B W tg iter fi) (hno:pG h)
  (ht:∀ s₀ H₀ C ex pins B',SG (jo X N s₀ H₀ sc (ju sc X.env) C ex pins) B' tg h)
  (hif:(ifs=[]/\ft=fun _=>.ok true)∨∃ c,ifs=[c]/\∀ s₀ H₀ C ex pins B',ST (jo X N s₀ H₀ sc (ju sc X.env) C ex pins) B' WF c ft)
  (he:∀ s₀ H₀ C ex pins B',SE (jo X N s₀ H₀ sc (ju sc X.env) C ex pins) B' WF elt fe)
  (hs:∀ x,foldedSetIterable iter X.env x=pure x) (hsw:swapsWith (.ListComp elt [⟨tg,iter,ifs,0⟩] sc pos) (some (.Name y py)) spos.line X.env=pure true)
  (hf:X.fn y=true∨X.env.scope.names.lookup y=some .local) :
  SS X B W (.Assign [.Name y py] (.ListComp elt [⟨tg,iter,ifs,0⟩] sc pos) spos) (fun ρ=>oR (jc h ft fe nt caps fi ρ) ρ fun d=>.nx (ρ.set i (.fz d))):=by
 intro pins s σ H De I hw
 obtain ⟨ρ,G,sr,p⟩:=hw
 dsimp only at p
 rw [exec_Assign_Name_used _ _ _ _ hsw]
 refine wpAny_bind (wpAny_standAt (wpAny_bind ?_))
 show wpAny _ X.A (do let _ <- comprehension (.ListComp elt [⟨tg,iter,ifs,0⟩] sc pos) sc X.env _ (newList []) _ _ (some (assign (.Name y py) X.env))) _ _ s
 refine wpAny_bind (wpAny_mono (Dm (QQ:=fun _ s'=>_) c hc hnames hi hno ht hif he hs I sr ?_) (fun _ s' hq=>wpAny_pure (wpAny_pure hq)) fun _ _ e=>e)
 cases e:jc h ft fe nt caps fi ρ with
 | ok d =>
  rw [e] at p
  intro D' C H' G' s5 fl x r ⟨m,hm⟩ fp IX
  have I5:Inv X pins σ H' s5:=IX s5.heap (Heap.SameBut.refl C s5.heap)
  refine wpAny_assign_Name (CT I5 hN hi' hx (show RelV (.ref D') (.ref D') from rfl) (fun s6 I6 ⟨a,hs6,ha⟩=>?_) hf)
  have hCa:C≠a:=by
   rcases ha with rfl|ha
   ·exact fp.2.1
   ·exact Ne.symm (fp.2.2.2.2.1 _ _ ha)
  refine ⟨m,hm.sameBut hs6 hCa,fun h' hs'=>?_⟩
  exact ⟨_,H',I6.turned (t':=s6.toks) (fun b o hb e=>(hs'.2 b hb).trans e) fp.1 fp.2.1 fp.2.2.2.1 fp.2.2.2.2.1 fp.2.2.2.2.2,p _ _ G' ((sr.ext x).set r) x.gg⟩
 | ex c n=>rw [e] at p;exact fun H' G' x=>p σ H' G' (sr.ext x) x.gg
 | no=>rw [e] at p;exact p
end
end Vl
namespace Vl
open PySem PySem.Spec L2
section
variable {X:Cx} {K:PySem.W.Frag} {B:Bs} {W:Wi} {σ:St} {G H:Hp} {ρ:ak} {a b:Expr} {pos p:Pos} {fa fb:ak->Rs D}
def agT (K:PySem.W.Frag) (n:Nat):R2:=fun x y H Q=>∃ d d',Rep K H d x/\Rep K H d' y/\cL d<=n/\cL d'<=n/\Q (.bl (oZ d d')) H
def aex (K:PySem.W.Frag) (n:Nat):R2:=fun x y H Q=>∃ d d',Rep K H d x/\Rep K H d' y/\cL d<=n/\cL d'<=n/\Q (.bl (!oZ d d')) H
theorem Fj {n:Nat} (hu:X.A.units + n < cLine):pB X (compareOp .Eq) (agT X.K n):=by
 intro pins s σ H x y v u Q I rx ry ⟨d,d',r,r',hd,hd',q⟩
 exact aef I hd hd' hu r r' rx ry X.prog X.w X.xe _ ⟨.bl _,H,I,rfl,q⟩
theorem Oc {n:Nat} (hu:X.A.units + n < cLine):pB X (compareOp .NotEq) (aex X.K n):=by
 intro pins s σ H x y v u Q I rx ry ⟨d,d',r,r',hd,hd',q⟩
 exact Wo I hd hd' hu r r' rx ry X.prog X.w X.xe _ ⟨.bl _,H,I,rfl,q⟩
def Dq:D->D->Rs D:=fun x y=>if cL x<=8/\cL y<=8 then .ok (.bl (oZ x y)) else .no
def Ao:D->D->Rs D:=fun x y=>if cL x<=8/\cL y<=8 then .ok (.bl (!oZ x y)) else .no
theorem Fl:Ny K (agT K 8) Dq:=by
 intro B W σ ρ G H x y v u Q s rx ry p
 unfold Dq at p
 by_cases h:cL x<=8/\cL y<=8
 ·rw [if_pos h] at p;exact ⟨x,y,rx.mono s.en.gh,ry.mono s.en.gh,h.1,h.2,Post.ok s p (bA.mpr rfl)⟩
 ·rw [if_neg h] at p;exact p.elim
theorem WY:Ny K (aex K 8) Ao:=by
 intro B W σ ρ G H x y v u Q s rx ry p
 unfold Ao at p
 by_cases h:cL x<=8/\cL y<=8
 ·rw [if_pos h] at p;exact ⟨x,y,rx.mono s.en.gh,ry.mono s.en.gh,h.1,h.2,Post.ok s p (bA.mpr rfl)⟩
 ·rw [if_neg h] at p;exact p.elim
theorem cO {k:Nat} (hr:ji k X.A):X.A.units + 8 < cLine:=by have:=hr.un;omega
theorem agU (hu:X.A.units + 8 < cLine) (ha:SE X B W a fa) (hb:SE X B W b fb):SE X B W (.Compare a [.Eq] [b] pos) (bV Dq fa fb):=yG (Fj hu) Fl ha hb (lu _)
theorem agV (hu:X.A.units + 8 < cLine) (ha:SE X B W a fa) (hb:SE X B W b fb):SE X B W (.Compare a [.NotEq] [b] pos) (bV Ao fa fb):=yG (Oc hu) WY ha hb (lu _)
theorem Xa (hu:X.A.units + 8 < cLine) (ha:SE X B W a fa) (hb:SE X B W b fb):ST X B W (.Compare a [.Eq] [b] pos) (fT (bV Dq fa fb)):=NK (Fj hu) Fl ha hb (lu _)
theorem Xb (hu:X.A.units + 8 < cLine) (ha:SE X B W a fa) (hb:SE X B W b fb):ST X B W (.Compare a [.NotEq] [b] pos) (fT (bV Ao fa fb)):=NK (Oc hu) WY ha hb (lu _)
def gLt:=gI0 fun i j=>D.bl (decide (i < j))
def gLe:=gI0 fun i j=>D.bl (decide (i<=j))
def gGt:=gI0 fun i j=>D.bl (decide (j < i))
def gGe:=gI0 fun i j=>D.bl (decide (j<=i))
theorem agW (ha:SE X B W a fa) (hb:SE X B W b fb):SE X B W (.Compare a [.Lt] [b] pos) (bV gLt fa fb):=yG agw (yE fun _ _ _=>bA.mpr rfl) ha hb (lu _)
theorem agX (ha:SE X B W a fa) (hb:SE X B W b fb):ST X B W (.Compare a [.GtE] [b] pos) (fT (bV gGe fa fb)):=NK agy (yE fun _ _ _=>bA.mpr rfl) ha hb (lu _)
inductive Ty where
 | int|bool|str|tuple|list|dict
def Ty.nm:Ty->String
 | .int=>"int"|.bool=>"bool"|.str=>"str"|.tuple=>"tuple"|.list=>"list"|.dict=>"dict"
def isD:D->Ty->Bool
 | .int _,.int=>true
 | .bl _,.bool=>true
 | .bl _,.int=>true
 | .str _,.str=>true
 | .tup _,.tuple=>true
 | .lst _,.list=>true
 | _,_=>false
def tyD:D->String
 | .non=>"NoneType"|.bl _=>"bool"|.int _=>"int"|.str _=>"str"|.tup _=>"tuple"|.lst _=>"list"|.kJ _ _=>""
def isX:D->Bool
 | .kJ _ _=>true
 | _=>false
theorem agZ (d:D) (t:Ty) (hx:isX d=false):PySem.W.kitOne K (.type (tyD d)) (.type t.nm)=some (isD d t):=by
 cases d <;> first|(cases hx;done)|(cases t <;> kernel_rfl)
theorem aey {pins:List (Addr×Obj)} {s:Shared} {A:Around} {E Q:Value->Shared->Prop} {d:D} {v:V} {u:Value} {t:Ty} (I:Inv X pins σ H s) (hx:isX d=false) (r:Rep X.K H d v) (rv:RelV v u) (h:∀ tk,Q (.bool (isD d t)) { s with toks:=tk }) :
  wpAny (model X.prog X.w) A (call (.builtin "isinstance") [u,.type t.nm]) Q E s:=by
 have e:=agZ (K:=X.K) d t hx
 cases d with
 | non=>rw [bD.mp r] at rv;cases rv;exact PySem.W.kia_one PySem.W.kitx_none I.QD True.intro e (fun z=>nomatch z) h
 | bl y=>rw [bA.mp r] at rv;cases rv;exact PySem.W.kia_one PySem.W.kitx_bool I.QD True.intro e (fun z=>nomatch z) h
 | int i=>rw [aH.mp r] at rv;obtain ⟨t,rfl⟩:=rv;exact PySem.W.kia_one PySem.W.kitx_int I.QD True.intro e (fun z=>nomatch z) h
 | str i=>rw [bG.mp r] at rv;obtain ⟨t,rfl⟩:=rv;exact PySem.W.kia_one PySem.W.kitx_str I.QD True.intro e (fun z=>nomatch z) h
 | tup ds =>
  obtain ⟨a,vs,rfl,q,_⟩:=aP.mp r
  cases rv
  obtain ⟨_,_,⟨o,h1,h2,_⟩,_⟩:=I.tuple q
  exact PySem.W.kia_one PySem.W.kitx_tuple I.QD ⟨o,h1,h2⟩ e (fun z=>nomatch z) h
 | lst ds =>
  obtain ⟨a,vs,rfl,q,_⟩:=aO.mp r
  cases rv
  obtain ⟨_,_,⟨o,n,h1,h2,_⟩,_⟩:=I.list q
  exact PySem.W.kia_one PySem.W.kitx_list I.QD ⟨o,h1,h2⟩ e (fun z=>nomatch z) h
 | kJ c n=>cases hx
def ajD (K:PySem.W.Frag) (t:Ty):List V->Hp->VK->Prop:=fun xs H Q=>∃ v d,xs=[v,.ty t.nm]/\isX d=false/\Rep K H d v/\Q (.bl (isD d t)) H
theorem Xc {t:Ty}:kW X (.builtin "isinstance") (ajD X.K t):=by
 intro pins s σ H xs us Q I r ⟨v,d,e,hx,rd,q⟩
 subst e
 cases r with
 | cons r1 r2 =>
  cases r2 with
  | cons r3 r4 =>
   cases r4
   cases r3
   exact aey I hx rd r1 fun tk=>⟨.bl _,H,I.tok tk,rfl,q⟩
def gIs (t:Ty):D->Rs D:=fun d=>if isX d=false then .ok (.bl (isD d t)) else .no
theorem aha {t:Ty} {x:Str} {e:Expr} {p1 p2:Pos} {f:ak->Rs D} (hm:X.mg "isinstance"=none) (hmt:X.mg x=none) (he:SE X B W e f) (hv:bootBuiltins x=some (.type t.nm)) (hg:Gl X "isinstance":=by rfl) (hgx:Gl X x:=by rfl)
  (hst:starEach [e,.Name x p2] X.env=[(false,eval e X.env),(false,eval (.Name x p2) X.env)]:=by rfl) (hst2:starEach [.Name x p2] X.env=[(false,eval (.Name x p2) X.env)]:=by rfl) (hn:x≠"__name__":=by decide) (hd:(x == ("__debug__":Str))=false:=by decide) :
  SE X B W (.Call (.Name "isinstance" p1) [e,.Name x p2] [] pos) (fun ρ=>(f ρ).bind (gIs t)):=by
 refine PE.imp (jK (Xc (t:=t)) hg hm PyProof.Rows.boot_isinstance (cW he (cW (aah (v:=.ty t.nm) hgx hmt hv rfl hn hd) iy (by rw [hst2];rfl)) (by rw [hst,hst2])) (by decide) (by decide) (by rw [hst,hst2]) (by rw [hst2];rfl)) fun σ H Q h=>?_
 obtain ⟨ρ,G,s,p⟩:=xK (k:=fun _=>gIs t) h
 refine ⟨ρ,G,s,p.mono fun v H1 ⟨ρ1,G1,d,s1,r,q⟩=>?_⟩
 unfold gIs at q
 by_cases hx:isX d=false
 ·rw [if_pos hx] at q;exact ⟨v,d,rfl,hx,r.mono s1.en.gh,Post.ok s1 q (bA.mpr rfl)⟩
 ·rw [if_neg hx] at q;exact q.elim
def ahb:List D->Option (List Bool)
 | []=>some []
 | .bl b::ds=>(ahb ds).map (b::·)
 | _=>none
end
end Vl
namespace Vl
open PySem PySem.Spec L2
theorem Inv.moved {X:Cx} {pins:List (Addr×Obj)} {σ:St} {H:Hp} {s:Shared} {h':Heap} {t':Nat} (I:Inv X pins σ H s) (ch:List Addr)
  (hch:∀ b∈ch,X.s₀.heap.get? b=none/\b≠X.env.locals/\(∀ x c,X.env.cells.lookup x=some c->c≠b)/\(∀ p∈X.pn++pins,p.1≠b)/\H b=none)
  (keep:∀ b o,b∉tY X.stack->b∉ch->s.heap.get? b=some o->h'.get? b=some o)
  (slot:∀ b o,b∈tY X.stack->s.heap.get? b=some o->∃ sl,h'.get? b=some { o with slots:=sl }):Inv X pins σ H { s with heap:=h',toks:=t' }:=by
 have sub:=I.yq
 have sup:∀ b∈X.fs,b∈tY X.stack:=fun b hb=>by
  rcases I.ok.stk with e|⟨e,hf⟩
  ·rw [e];exact hb
  ·rw [e];unfold tY;rw [List.filterMap_cons,hf];exact List.mem_cons_of_mem _ hb
 have neL:∀ b o,X.s₀.heap.get? b=some o->b≠X.env.locals:=fun b o e=>Nat.ne_of_lt (Nat.lt_of_lt_of_le (Heap.lt_size e) I.ok.above)
 have nch:∀ b o,X.s₀.heap.get? b=some o->b∉ch:=fun b o e z=>by rw [(hch b z).1] at e;cases e
 have any:∀ b o,b∉ch->s.heap.get? b=some o->∃ sl,h'.get? b=some { o with slots:=sl }:=fun b o hc e=>by
  by_cases hb:b∈tY X.stack
  ·exact slot b o hb e
  ·exact ⟨o.slots,keep b o hb hc e⟩
 have lch:X.env.locals∉ch:=fun z=>(hch _ z).2.1 rfl
 have cch:∀ x c,X.env.cells.lookup x=some c->c∉ch:=fun x c e z=>(hch c z).2.2.1 x c e rfl
 have cellK:∀ x c v,X.env.cells.lookup x=some c->s.heap.IsCell c v->h'.IsCell c v:=fun x c v e ⟨o,ho,hd⟩=>by
  obtain ⟨sl,q⟩:=any c o (cch x c e) ho
  exact ⟨_,q,hd⟩
 refine ⟨I.ok,I.os,I.bare,⟨fun b o e n hb hx=>?_,fun b o e n hb hx=>?_,I.base.free,fun b o e hx=>?_,I.base.tups,I.base.yh,I.base.Al⟩,?_,fun x c e=>?_,I.free,I.pq,fun p hp=>?_,fun b o e=>?_,I.len⟩
 ·exact keep b o (fun z=>(List.mem_cons.mp (sub b z)).elim (neL b o e) hb) (nch b o e) (I.base.keep b o e n hb hx)
 ·obtain ⟨sl,q⟩:=I.base.slot b o e n hb hx
  obtain ⟨sl',q'⟩:=slot b _ (sup b hb) q
  exact ⟨sl',q'⟩
 ·obtain ⟨o',q⟩:=I.base.there b o e hx
  obtain ⟨sl,q'⟩:=any b o' (nch b o e) q
  exact ⟨_,q'⟩
 ·obtain ⟨m,⟨o,es,ep,ho,r⟩,hl⟩:=I.loc
  obtain ⟨sl,q⟩:=any _ o lch ho
  refine ⟨m,⟨_,es,ep,q,r⟩,fun i x v h1 h2 h3=>?_⟩
  obtain ⟨u,ru,l⟩:=hl i x v h1 h2 h3
  refine ⟨u,ru,?_⟩
  rcases l with l|⟨k,c,e,z⟩
  ·exact .inl l
  ·exact .inr ⟨k,c,e,cellK x c _ e z⟩
 ·obtain ⟨v,z⟩:=I.cell x c e
  exact ⟨v,cellK x c v e z⟩
 ·obtain ⟨e,n,ne,nf,d⟩:=I.pin p hp
  exact ⟨keep _ _ (fun z=>(List.mem_cons.mp (sub _ z)).elim ne nf) (fun z=>(hch _ z).2.2.2.1 p hp rfl) e,n,ne,nf,d⟩
 ·have tr:∀ c u,H c=some u->c∉tY X.stack/\c∉ch:=fun c u z=>⟨fun w=>(by rw [I.En c w] at z;cases z),fun w=>(by rw [(hch c w).2.2.2.2] at z;cases z)⟩
  refine (I.hok b o e).stay (fun c u hc q=>?_) (fun _ q=>q) fun _ _ q=>q
  rcases hc with hc|hc
  ·subst hc;exact keep c u (tr c _ e).1 (tr c _ e).2 q
  ·exact keep c u (tr c _ hc).1 (tr c _ hc).2 q
def Tr (h:Heap) (H:Hp) (old:Heap) (av:List Addr) (ea:Addr) (vs:Array Value):Prop:=∃ T oT ts,vs[1]?=some (.ref T)/\T≠ea/\h.get? T=some oT/\oT.data=.fields ts/\ts[3]?=some .none/\H T=none/\old.get? T=none/\T∉av
def Fly (K:PySem.W.Frag) (old:Heap) (av:List Addr) (ea:Addr) (c:Str) (n:Int) (h:Heap) (H:Hp) (tr:Bool):Prop :=
 ∃ C oe vs a0,PySem.W.nsIn K mainGlobals c=some (some (.ref C))/\h.get? ea=some oe/\oe.cls=.ref C/\oe.data=.fields vs/\vs[0]?=some a0/\H ea=none/\old.get? ea=none/\ea∉av/\n=0 /\
  (if tr=true then Tr h H old av ea vs else vs[1]?=some .none)
def Dr (P:Program) (w:World) (K:PySem.W.Frag):ZX:=fun outer H s E e s'=>∃ ea c n H',e=.ref ea/\s'.os=s.os/\PyProof.Rows.AllBare s'.gens/\Un (tY outer) [] H H' s.heap s'.heap/\xH P w H' s'.heap/\Fly K s.heap [] ea c n s'.heap H' true/\E (Ak c n) none H'
def adb (X:Cx) (W:Wi):Prop:=∀ pins σ H s ea c n tr,Inv X pins σ H s->Fly X.K X.s₀.heap ((X.pn++pins).map (·.1)) ea c n s.heap H tr->W c n σ H->X.xe (.ref ea) s
section
variable {X:Cx} {pins:List (Addr×Obj)} {σ:St} {H:Hp} {s:Shared} {ea:Addr} {c:Str} {n:Int} {tr:Bool}
theorem aeA (I:Inv X pins σ H s) {b:Addr} {o:Obj} {vs:Array Value} (e:s.heap.get? b=some o) (d:o.data=.fields vs) (hold:X.s₀.heap.get? b=none) (hn:H b=none) (hp:∀ p∈X.pn++pins,p.1≠b) :
  X.s₀.heap.get? b=none/\b≠X.env.locals/\(∀ x c,X.env.cells.lookup x=some c->c≠b)/\(∀ p∈X.pn++pins,p.1≠b)/\H b=none:=by
 refine ⟨hold,fun z=>?_,fun x c hc z=>?_,hp,hn⟩
 ·obtain ⟨m,⟨o',es,ep,ho,hd,_⟩,_⟩:=I.loc
  rw [<- z,e] at ho;cases ho;rw [d] at hd;cases hd
 ·obtain ⟨v,o',ho,hd⟩:=I.cell x c hc
  rw [z,e] at ho;cases ho;rw [d] at hd;cases hd
theorem Od {P:Program} {w:World} {H:Hp} {h:Heap} {a:Addr} {o:HO} (x:eZ P w H h a o):∃ u,h.get? a=some u:=by
 induction o with
 | lst xs=>obtain ⟨z,its,n,r,e⟩:=x;exact ⟨_,e⟩
 | tup xs=>obtain ⟨z,its,r,ob,e,c⟩:=x;exact ⟨_,e⟩
 | dK kvs=>obtain ⟨z,y,vs,r,ob,es,ep,e,c⟩:=x;exact ⟨_,e⟩
 | dT kvs=>obtain ⟨z,y,xs,r,ob,es,ep,e,c⟩:=x;exact ⟨_,e⟩
 | set S n=>obtain ⟨ob,es,ep,t,e,c⟩:=x;exact ⟨_,e⟩
 | ins C dx fs=>obtain ⟨d,z,ne,e,_⟩:=x;exact ⟨_,e⟩
 | own y=>obtain ⟨ob,e⟩:=x;exact ⟨_,e⟩
 | xd fs=>obtain ⟨mA,⟨od,es,ep,e,c⟩,r⟩:=x;exact ⟨_,e⟩
 | rng lo hi=>obtain ⟨t,u,v,e⟩:=x;exact ⟨_,e⟩
 | CQ ob u ih=>obtain ⟨e,q⟩:=x;exact ⟨_,e⟩
 | tbl ps=>exact ⟨_,(show h.get? a=some { cls:=.none,data:=.fields ps } from x)⟩
 | met f y=>exact ⟨_,(show h.get? a=some (PySem.W.methodObj (.ref f) (.ref y)) from x)⟩
 | ext φ=>obtain ⟨p,⟨o,e⟩,st⟩:=x;exact ⟨_,e⟩
theorem TF (I:Inv X pins σ H s) {ch:List Addr} {h':Heap} {t':Nat} (hch:∀ b∈ch,∃ o vs,s.heap.get? b=some o/\o.data=.fields vs/\X.s₀.heap.get? b=none/\H b=none/\b∉(X.pn++pins).map (·.1))
  (st:(PySem.W.hideAll s.heap (tY X.stack++ch)).StaysIn h') (up:s.heap.UpToSlots h'):Inv X pins σ H { s with heap:=h',toks:=t' }:=by
 refine Inv.moved I ch (fun b hb=>?_) (fun b o h1 h2 e=>st b o (PySem.W.hideAll_get _ e (by rw [List.mem_append];exact fun z=>z.elim h1 h2))) (fun b o hb e=>?_)
 ·obtain ⟨o,vs,e,d,h1,h2,h3⟩:=hch b hb
  exact aeA I e d h1 h2 fun p hp z=>h3 (List.mem_map.mpr ⟨p,hp,z⟩)
 ·obtain ⟨_,o',ho,hnf⟩:=I.stack.mem hb
  rw [e] at ho;cases ho
  exact up b o e hnf
theorem aaK (I:Inv X pins σ H s) (hex:X.ex=[]) {ch:List Addr} {h':Heap} {T:Addr} {oT:Obj} {ts:Array Value} (hch:∀ b∈ch,∃ o vs,s.heap.get? b=some o/\o.data=.fields vs/\X.s₀.heap.get? b=none/\H b=none/\b∉(X.pn++pins).map (·.1))
  (up:s.heap.UpToSlots h') (hT:h'.get? T=some oT) (dT:oT.data=.fields ts) (hn:(PySem.W.hideAll s.heap (tY X.stack++ch)).get? T=none) :
  H T=none/\X.s₀.heap.get? T=none/\T∉(X.pn++pins).map (·.1):=by
 by_cases hc:T∈ch
 ·obtain ⟨o,vs,e,d,h1,h2,h3⟩:=hch T hc
  exact ⟨h2,h1,h3⟩
 have hf:T∉tY X.stack:=fun z=>by
  obtain ⟨_,o',ho,hnf⟩:=I.stack.mem z
  obtain ⟨sl,q⟩:=up T o' ho hnf
  rw [hT] at q;cases q
  exact hnf ts dT
 have hs:s.heap.get? T=none:=by
  cases e:s.heap.get? T with
  | none=>rfl
  | some o=>rw [PySem.W.hideAll_get _ e (by rw [List.mem_append];exact fun z=>z.elim hf hc)] at hn;cases hn
 refine ⟨?_,?_,fun z=>?_⟩
 ·cases e:H T with
  | none=>rfl
  | some u =>
   obtain ⟨o,z⟩:=Od (I.hok T u e)
   rw [hs] at z;cases z
 ·cases e:X.s₀.heap.get? T with
  | none=>rfl
  | some o =>
   obtain ⟨o',q⟩:=I.base.there T o e (by rw [hex];simp)
   rw [hs] at q;cases q
 ·obtain ⟨p,hp,e⟩:=List.mem_map.mp z
  have:=(I.pin p hp).1
  rw [e,hs] at this;cases this
end
end Vl
namespace Vl
open PySem PySem.Spec L2
section
variable {X:Cx} {pins:List (Addr×Obj)} {σ:St} {H:Hp} {s:Shared} {ea:Addr} {c:Str} {n:Int} {tr:Bool}
theorem aeB (I:Inv X pins σ H s) (F:Fly X.K X.s₀.heap ((X.pn++pins).map (·.1)) ea c n s.heap H tr) :
  ∃ ch:List Addr,ea∈ch/\(∀ b∈ch,∃ o vs,s.heap.get? b=some o/\o.data=.fields vs/\X.s₀.heap.get? b=none/\H b=none/\b∉(X.pn++pins).map (·.1)) /\
   ∃ C oe vs a0,PySem.W.nsIn X.K mainGlobals c=some (some (.ref C))/\s.heap.get? ea=some oe/\oe.cls=.ref C/\oe.data=.fields vs/\vs[0]?=some a0/\n=0/\X.s₀.heap.get? ea=none/\H ea=none/\ea∉(X.pn++pins).map (·.1) /\
    (if tr=true then ∃ T oT ts,vs[1]?=some (.ref T)/\T∈ch/\T≠ea/\s.heap.get? T=some oT/\oT.data=.fields ts/\ts[3]?=some .none else vs[1]?=some .none):=by
 obtain ⟨C,oe,vs,a0,h1,h2,h3,h4,h5,h6,h7,h8,h9,h10⟩:=F
 cases tr with
 | false =>
  refine ⟨[ea],by simp,fun b hb=>?_,C,oe,vs,a0,h1,h2,h3,h4,h5,h9,h7,h6,h8,h10⟩
  obtain rfl:b=ea:=by simpa using hb
  exact ⟨oe,vs,h2,h4,h7,h6,h8⟩
 | true =>
  rw [if_pos rfl] at h10
  obtain ⟨T,oT,ts,t1,t2,t3,t4,t5,t6,t7,t8⟩:=h10
  refine ⟨[ea,T],by simp,fun b hb=>?_,C,oe,vs,a0,h1,h2,h3,h4,h5,h9,h7,h6,h8,?_⟩
  ·rcases List.mem_cons.mp hb with rfl|hb
   ·exact ⟨oe,vs,h2,h4,h7,h6,h8⟩
   ·obtain rfl:b=T:=by simpa using hb
    exact ⟨oT,ts,t3,t4,t7,t6,t8⟩
  ·rw [if_pos rfl]
   exact ⟨T,oT,ts,t1,by simp,t2,t3,t4,t5⟩
theorem aaL {M:Model} {Q:Unit->Shared->Prop} {E:Value->Shared->Prop} {outer:List Env} {L:Addr} (hst:X.stack=X.env::outer) (hf:X.env.frame=some L) (hex:X.ex=[]) (I:Inv X pins σ H s) (F:Fly X.K X.s₀.heap ((X.pn++pins).map (·.1)) ea c n s.heap H tr)
  (hQ:∀ h',Inv X pins σ H { s with heap:=h' }->Fly X.K X.s₀.heap ((X.pn++pins).map (·.1)) ea c n h' H true->Q () { s with heap:=h' }):wpAny M X.A (leaving X.env (.ref ea)) Q E s:=by
 obtain ⟨ch,he,hch,C,oe,vs,a0,h1,h2,h3,h4,h5,h9,h7,h6,h8,h10⟩:=aeB I F
 have hfr:X.A.frames=some (X.env::outer):=by rw [<- hst];exact I.ok.frames
 have hl:s.heap.FunFrames (PySem.W.hideAll s.heap (tY X.stack++ch)) (X.env::outer):=by
  have:=PySem.W.funFrames_hide (as:=tY X.stack++ch) I.stack fun env he b hb=>List.mem_append_left _ (List.mem_filterMap.mpr ⟨env,he,hb⟩)
  rw [hst] at this ⊢;exact this
 have hkb:(PySem.W.hideAll s.heap (tY X.stack++ch)).StaysIn s.heap:=fun b o e=>PySem.W.of_hideAll _ e
 have hn:∀ b∈ch,(PySem.W.hideAll s.heap (tY X.stack++ch)).get? b=none:=fun b hb=>PySem.W.hideAll_none _ (List.mem_append_right _ hb)
 have fu:∀ h',(PySem.W.hideAll s.heap (tY X.stack++ch)).StaysIn h'->h'.TracedW (PySem.W.hideAll s.heap (tY X.stack++ch)) ea oe.cls a0->s.heap.UpToSlots h'->Q () { s with heap:=h' }:=fun h' k1 k2 k3=>by
  have I':=TF (t':=s.toks) I hch k1 k3
  obtain ⟨oe',vs',T,oT,ts,e1,⟨e2,e3⟩,e4,e5,e6,e7,e8,e9,e10⟩:=k2
  obtain ⟨n1,n2,n3⟩:=aaK I hex hch k3 e8 e9 e6
  refine hQ h' I' ⟨C,oe',vs',a0,h1,e1,e2.trans h3,e4,e3,h6,h7,h8,h9,?_⟩
  rw [if_pos rfl]
  exact ⟨T,oT,ts,e5,e7,e8,e9,e10,n1,n2,n3⟩
 cases tr with
 | false =>
  rw [if_neg (by decide)] at h10
  exact wpAny_leaving_firstW hfr hl hf h2 hkb (hn _ he) h4 h10 h5 fun h' ⟨k1,_,k2,k3⟩=>fu h' k1 k2 k3
 | true =>
  rw [if_pos rfl] at h10
  obtain ⟨T,oT,ts,t1,t0,t2,t3,t4,t5⟩:=h10
  exact wpAny_leaves_onW hfr hf ⟨hkb,hn _ he,hl,oe,vs,T,oT,ts,h2,⟨rfl,h5⟩,h4,t1,hn _ t0,t2,t3,t4,t5⟩ fun h' ⟨k1,_,_,k2⟩ k3=>fu h' k1 k2 k3
end
section
variable {P:Program} {w:World} {K:PySem.W.Frag} {mg:Str->Option Value} {base:Heap} {x qual:Str} {st:Stmt} {f:Addr} {fd:FuncData} {N ps:List Str} {k:Nat}
theorem qU {scope:Scope} {cdv:Value} {A:Around} {outer:List Env} {s:Shared} {H:Hp} {E:XK}:adb (su (Dr P w K) P w K mg base N qual scope f cdv A outer s H E) (fun c n _ H'=>E (Ak c n) none H'):=by
 intro pins σ H1 s1 ea c n tr I F w1
 refine aaL (L:=s.heap.objs.size) (outer:=outer) rfl rfl rfl I F fun h' I' F'=>?_
 obtain ⟨C,oe,vs,a0,h1,h2,h3,h4,h5,h6,h7,h8,h9,h10⟩:=F'
 refine ⟨ea,c,n,H1,rfl,I'.os,I'.bare,I'.base,I'.hok,⟨C,oe,vs,a0,h1,h2,h3,h4,h5,h6,h7,by simp,h9,?_⟩,w1⟩
 rw [if_pos rfl] at h10 ⊢
 obtain ⟨T,oT,ts,t1,t2,t3,t4,t5,t6,t7,t8⟩:=h10
 exact ⟨T,oT,ts,t1,t2,t3,t4,t5,t6,t7,by simp⟩
end
end Vl
namespace Vl
open PySem PySem.Spec L2
theorem aaM {a b:Int} (h:zig a=zig b):a=b:=by
 unfold zig at h
 split at h <;> split at h <;> omega
theorem aaN {c c':Str} {n n':Int} (h:Ak c n=Ak c' n'):c=c'/\n=n':=by
 unfold Ak at h
 injection h with h1 h2
 exact ⟨h1,aaM h2⟩
def wJ (X:Cx) (W:Wi):Prop:=∀ (pins:List (Addr×Obj)) (σ:St) (H:Hp) (s:Shared) (e:Value) (s':Shared),Inv X pins σ H s ->
 Dr X.prog X.w X.K X.stack H s (fun v _ H'=>∃ c n,v=Ak c n/\W c n σ H') e s'->X.xe e s'
theorem qW {X:Cx}:wJ X WF:=fun pins σ H s e s' I ⟨ea,c,n,H',_,_,_,_,_,_,_,_,_,w⟩=>w.elim
theorem uz {X:Cx} {W:Wi} (hp:adb X W) (hex:X.ex=[]):wJ X W:=by
 intro pins σ H s e s' I ⟨ea,c,n,H',e1,os,bare,un,hok,F,c0,n0,e2,w⟩
 subst e1
 obtain ⟨rfl,rfl⟩:=aaN e2
 have I':Inv X pins σ H' s':=I.call' (ch:=[]) os un hok bare (fun b z=>absurd z (by simp))
 obtain ⟨C,oe,vs,a0,h1,h2,h3,h4,h5,h6,h7,h8,h9,h10⟩:=F
 have old:∀ b,s.heap.get? b=none->X.s₀.heap.get? b=none:=fun b hb=>by
  cases q:X.s₀.heap.get? b with
  | none=>rfl
  | some o =>
   obtain ⟨o',z⟩:=I.base.there b o q (by rw [hex];simp)
   rw [hb] at z;cases z
 have ahd:∀ b,s.heap.get? b=none->b∉(X.pn++pins).map (·.1):=fun b hb z=>by
  obtain ⟨p,hp,e⟩:=List.mem_map.mp z
  have:=(I.pin p hp).1
  rw [e,hb] at this;cases this
 refine hp pins σ H' s' ea c n true I' ⟨C,oe,vs,a0,h1,h2,h3,h4,h5,h6,old _ h7,ahd _ h7,h9,?_⟩ w
 rw [if_pos rfl] at h10 ⊢
 obtain ⟨T,oT,ts,t1,t2,t3,t4,t5,t6,t7,t8⟩:=h10
 exact ⟨T,oT,ts,t1,t2,t3,t4,t5,t6,old _ t7,ahd _ t7⟩
section
variable {P:Program} {w:World} {K:PySem.W.Frag} {mg:Str->Option Value} {base:Heap} {x qual:Str} {st:Stmt} {f:Addr} {fd:FuncData} {N ps:List Str} {k:Nat}
theorem ahe {g:ak->Ou} (F:wW K x qual st f fd) (S:bU N ps (aD st))
  (hb:∀ (cdv:Value) (A:Around) (outer:List Env) (s:Shared) (H:Hp) (E:XK) (B:Bs),ji k (A.deeper (PyProof.Rows.envOfC qual (aD st) s.heap.objs.size f cdv)) ->
   vo (su (Dr P w K) P w K mg base N qual (aD st) f cdv A outer s H E) B (fun c n _ H'=>E (Ak c n) none H') (bC st) g) :
  yC P w K mg base (Dr P w K) (k + 1) f fd ps (spV K ps.length fun ds=>fu (g (bF N ds))):=by
 obtain ⟨oc,od,kV,doc,pm,an,cdv,ct,osl,rfl,lk,hcd⟩:=F.ex
 refine VP lk hcd S (fun vs H Q E h=>h.1) fun A outer s H vs Q E hr h=>?_
 obtain ⟨_,G,ds,e,r,h⟩:=h
 dsimp only at h
 exact ⟨_,hb cdv A outer s H E ⟨G,H,0⟩ hr,bF N ds,G,Jx e r,WR (B:=⟨G,H,0⟩) h⟩
end
def cj (n:Nat) (g:List D->Rs D):List D->Rs D:=fun ds=>if ds.length=n then g ds else .no
section
variable {X:Cx} {B:Bs} {W:Wi}
theorem aaO {x:Str} {p pos:Pos} {e:Expr} {es:List Expr} {fs:ak->Rs (List D)} {f:Addr} {fd:FuncData} {ps:List Str} {k n:Nat} {g:List D->Rs D} (F:yC X.prog X.w X.K X.mg X.base (Dr X.prog X.w X.K) k f fd ps (spV X.K n g)) (hr:ji k X.A) (hg:Gl X x) (hm:X.mg x=some (.ref f)) (hk:PySem.W.keepIn X.K (.ref f)=true) (hb:Binds X.K fd ps [])
  (hx:wJ X W) (ha:SA X B W (e::es) fs) (hdb:(x == ("__debug__":Str))=false:=by decide) (he:starEach (e::es) X.env=(false,eval e X.env)::starEach es X.env:=by rfl) (hpl:(backTo pos (starEach es X.env)).any (·.1)=false:=by rfl) :
  SE X B W (.Call (.Name x p) (e::es) [] pos) (fA fs (cj n g)):=by
 intro pins s σ H Q I h
 refine wpAny_Call_Name_kw (QG I hg hm ?_ hdb)
 have h2:tAF X.K B W fs σ H fun vs H1=>spV X.K n g vs H1 Q fun v _ H'=>∃ c n,v=Ak c n/\W c n σ H':=by
  obtain ⟨ρ,G,s,p⟩:=h
  refine ⟨ρ,G,s,?_⟩
  unfold fA at p
  cases e:fs ρ with
  | ex c n=>rw [e] at p;exact p
  | no=>rw [e] at p;exact p
  | ok ds =>
   rw [e] at p
   intro vs H1 G1 x r
   have p:=Post.ext x p
   unfold cj at p;dsimp only [Rs.bind] at p
   by_cases hl:ds.length=n
   ·rw [if_pos hl] at p
    refine ⟨by rw [<- r.length];exact hl,G1,ds,(s.ext x).ug,r,?_⟩
    cases e1:g ds with
    | ok d=>rw [e1] at p;exact p
    | ex c n=>rw [e1] at p;exact fun H' G' y=>⟨c,n,rfl,p H' G' y⟩
    | no=>rw [e1] at p;exact p.elim
   ·rw [if_neg hl] at p;exact p.elim
 refine PySem.W.callWith_K (h₀:=X.base) I.ok.mod.kin hk (ig (ha pos pins s σ H _ I h2) fun us s1 ⟨vs,H1,I1,r,q⟩=>⟨I1.QD,?_⟩) he hpl
 have hl:(us++[]).length=ps.length:=by rw [List.append_nil,<- r.length];exact F.len _ _ _ _ q
 have hbb:=hb s1 us I1.QD hl
 rw [List.append_nil] at hbb
 refine wpAny_call (codeAny_mono (F.run X.A X.stack s1 H1 ⟨us,[]⟩ us vs Q _ hr I1.env0 hbb r q) fun r s' hq=>?_)
 cases r with
 | error e=>exact hx pins σ H1 s1 e s' I1 hq
 | ok fl =>
  cases fl with
  | ret u=>exact I1.after hq
  | next=>exact False.elim hq
  | brk=>exact False.elim hq
  | cont=>exact False.elim hq
end
end Vl
namespace Vl
open PySem PySem.Spec L2
section
variable {X:Cx} {pins:List (Addr×Obj)} {σ:St} {H:Hp} {s:Shared} {ea:Addr} {c:Str} {n:Int} {tr:Bool}
end
section
variable {X:Cx} {pins:List (Addr×Obj)} {σ:St} {H:Hp} {s:Shared} {ea:Addr}
end
end Vl
namespace Vl
open PySem PySem.Spec PySem.Calls PySem.W L2
section
variable {K:PySem.W.Frag}
end
section
variable {X:Cx} {B:Bs} {W:Wi}
end
end Vl
namespace Vl
open PySem PySem.Spec PySem.Calls PySem.W L2
def Fo:ak->Ou:=fun ρ=>.nx ρ
def cF (g k:ak->Ou):ak->Ou:=fun ρ=>WD (g ρ) k
def lC (f:ak->Rs D):ak->Ou:=fun ρ=>oR (f ρ) ρ .rt
def ajF (f:ak->Rs D):ak->Ou:=fun ρ=>oR (f ρ) ρ fun _=>.nx ρ
def Je (c:ak->Rs Bool) (a b:ak->Ou):ak->Ou:=fun ρ=>oR (c ρ) ρ fun x=>if x=true then a ρ else b ρ
def ajG (f:ak->Rs D) (h:Tg):ak->Ou:=fun ρ=>oR (f ρ) ρ fun d=>oO (h d ρ)
def uD (i:Nat) (f:ak->Rs D):ak->Ou:=fun ρ=>oR (f ρ) ρ fun d=>.nx (ρ.set i (.fz d))
def ajH (x:Str) (fs:ak->Rs (List D)):ak->Ou:=fun ρ=>oR (fs ρ) ρ fun ds=>if ds.length<=1000 then .ex x 0 ρ else .no
def xq (g:ak->Ou):ak->Ou:=fun ρ=>WM (g ρ)
def Xd (f:ak->Rs D):ak->Rs D:=fun ρ=>(f ρ).bind aaz
def fB (f:ak->Rs D) (g:D->Rs D):ak->Rs D:=fun ρ=>(f ρ).bind g
def fL (f:ak->Rs D) (g:D->Rs (List D)):ak->Rs (List D):=fun ρ=>(f ρ).bind g
section
variable {X:Cx} {B:Bs} {W:Wi}
theorem iz:vo X B W [] Fo:=aen
theorem aU {st:Stmt} {rest:List Stmt} {g k:ak->Ou} (h1:SS X B W st g) (h2:vo X B W rest k):vo X B W (st::rest) (cF g k):=aaE h1 h2
theorem bB {st:Stmt} {g:ak->Ou} (h1:SS X B W st g):vo X B W [st] g:=aeo h1
theorem dM {e:Expr} {pos} {f:ak->Rs D} (h:SE X B W e f):SS X B W (.Return (some e) pos) (lC f):=aep h
theorem rM {c:Expr} {a b:List Stmt} {pos:Pos} {fc:ak->Rs Bool} {ga gb:ak->Ou} (hc:ST X B W c fc) (ha:vo X B W a ga) (hb:vo X B W b gb):SS X B W (.If c a b pos) (Je fc ga gb):=agP hc ha hb
theorem pH (i:Nat) {x:Str} {e:Expr} {pos pos':Pos} {f:ak->Rs D} (hN:X.N.Nodup) (he:SE X B W e f) (hi:X.N[i]?=some x:=by rfl) (hx:Jg X.env.scope x:=by first|exact Or.inl rfl|exact Or.inr rfl) (hs:swapsWith e (some (.Name x pos')) pos.line X.env=pure false:=by rfl) (hf:X.fn x=true∨X.env.scope.names.lookup x=some .local:=by first|exact .inl rfl|exact .inr rfl|assumption) :
  SS X B W (.Assign [.Name x pos'] e pos) (uD i f):=aer hN hi hx he hs hf
theorem pI {st:Stmt} {g:ak->Ou} (h:SS X.nox B WF st g):SS X B W st (xq g):=aes h
theorem aeC {a:Expr} {pos:Pos} {fa:ak->Rs D} (ha:SE X B W a fa):SE X B W (.UnaryOp .USub a pos) (Xd fa):=ael ha
theorem rg (i:Nat) {x:Str} {pos:Pos} (hN:X.N.Nodup) (hi:X.N[i]?=some x:=by rfl) (hx:Jg X.env.scope x:=by first|exact Or.inl rfl|exact Or.inr rfl) (hf:X.fn x=true∨X.env.scope.names.lookup x=some .local:=by first|exact .inl rfl|exact .inr rfl|assumption):SG X B (.Name x pos) (bI i) :=
 aaF hN hi hx hf
theorem ade {t:Ty} {x:Str} {e:Expr} {p1 p2 pos:Pos} {f:ak->Rs D} (hm:X.mg "isinstance"=none) (hmt:X.mg x=none) (he:SE X B W e f) (hv:bootBuiltins x=some (.type t.nm)) (hg:Gl X "isinstance":=by rfl) (hgx:Gl X x:=by rfl)
  (hst:starEach [e,.Name x p2] X.env=[(false,eval e X.env),(false,eval (.Name x p2) X.env)]:=by rfl) (hst2:starEach [.Name x p2] X.env=[(false,eval (.Name x p2) X.env)]:=by rfl) (hn:x≠"__name__":=by decide) (hd:(x == ("__debug__":Str))=false:=by decide) :
  SE X B W (.Call (.Name "isinstance" p1) [e,.Name x p2] [] pos) (fB f (gIs t)):=aha hm hmt he hv hg hgx hst hst2 hn hd
theorem aaP {tg iter:Expr} {f:ak->Rs D} (hi:SE X B W iter f):SI X B W tg iter (fL f asL):=aaH hi
theorem Xe {tg iter:Expr} {f:ak->Rs D} (hi:SE X B W iter f):SI X B W tg iter (fL f asT):=aew hi
theorem TJ {e e':Expr} {p pos:Pos} {fa fb:ak->Rs D} (hm:X.mg "divmod"=none) (ha:SE X B W e fa) (hb:SE X B W e' fb) (hg:Gl X "divmod":=by rfl) (he:starEach [e,e'] X.env=[(false,eval e X.env),(false,eval e' X.env)]:=by rfl) (he':starEach [e'] X.env=[(false,eval e' X.env)]:=by rfl) :
  SE X B W (.Call (.Name "divmod" p) [e,e'] [] pos) (fA (au fa (au fb aX)) gDm) :=
 Jt EY agO hg hm rfl (aj ha (aj hb aK he') (by rw [he,he'])) (by decide) (by decide) (by rw [he,he']) (by rw [he'];rfl)
end
def uE (P:Program) (w:World) (K:PySem.W.Frag) (mg:Str->Option Value) (base:Heap) (x:Str) (k n:Nat) (v:List D->Rs D):Prop :=
 ∃ f fd ps,yC P w K mg base (Dr P w K) k f fd ps (spV K n v)/\mg x=some (.ref f)/\PySem.W.keepIn K (.ref f)=true/\Binds K fd ps []
theorem jN {P:Program} {w:World} {K:PySem.W.Frag} {mg:Str->Option Value} {base:Heap} {x:Str} {st:Stmt} {f:Addr} {fd:FuncData} {N ps:List Str} {k:Nat} {g:ak->Ou} (F:wW K x x st f fd) (hm:mg x=some (.ref f)) (S:bU N ps (aD st))
  (hbi:∀ (kV doc pm:Value) (an:Option Addr) (cdv ct:Value) (us:List Value),us.length=ps.length->bindArgs (PySem.W.fnOf x x (bK st) (bC st) (aD st) .none kV doc pm an cdv ct) ⟨us,[]⟩=pure (ps.zip us))
  (hb:∀ (cdv:Value) (A:Around) (outer:List Env) (s:Shared) (H:Hp) (E:XK) (B:Bs),ji k (A.deeper (PyProof.Rows.envOfC x (aD st) s.heap.objs.size f cdv)) ->
   wJ (su (Dr P w K) P w K mg base N x (aD st) f cdv A outer s H E) (fun c n _ H'=>E (Ak c n) none H') ->
   vo (su (Dr P w K) P w K mg base N x (aD st) f cdv A outer s H E) B (fun c n _ H'=>E (Ak c n) none H') (bC st) g) :
  uE P w K mg base x (k + 1) ps.length (fun ds=>fu (g (bF N ds))) :=
 ⟨f,fd,ps,ahe F S fun cdv A outer s H E B hr=>hb cdv A outer s H E B hr (uz qU rfl),hm,F.kp,F.binds hbi⟩
section
variable {X:Cx} {B:Bs} {W:Wi}
theorem dI {x:Str} {p pos:Pos} {e:Expr} {es:List Expr} {fs:ak->Rs (List D)} {k n:Nat} {g:List D->Rs D} (O:uE X.prog X.w X.K X.mg X.base x k n g) (hr:ji k X.A) (hx:wJ X W) (ha:SA X B W (e::es) fs) (hg:Gl X x:=by rfl) (hdb:(x == ("__debug__":Str))=false:=by decide)
  (he:starEach (e::es) X.env=(false,eval e X.env)::starEach es X.env:=by rfl) (hpl:(backTo pos (starEach es X.env)).any (·.1)=false:=by rfl):SE X B W (.Call (.Name x p) (e::es) [] pos) (fA fs (cj n g)):=by
 obtain ⟨f,fd,ps,F,hm,hk,hb⟩:=O
 exact aaO F hr hg hm hk hb hx ha hdb he hpl
end
end Vl
namespace Vl
open PySem PySem.Spec PySem.Calls PySem.W L2
def adf (S sc:Scope) (NX N:List Str) (nt:Nat) (caps:List Nat):Bool :=
 decide (sc.kind=.function) && sc.names.all (fun y=>y.2 != .cell) && sc.names.all (fun y=>y.2 != .free || S.names.lookup y.1 == some .cell || S.names.lookup y.1 == some .free) && decide (N.length=nt + caps.length) &&
  (List.range caps.length).all fun j=>match caps[j]?,N[nt + j]? with|some i,some x=>NX[i]? == some x && sc.names.lookup x == some .free|_,_=>true
theorem Fp {X:Cx} {sc:Scope} {N:List Str} {nt:Nat} {caps:List Nat} (S:Scope) (NX:List Str) (h:adf S sc NX N nt caps=true) (hS:X.env.scope=S:=by rfl) (hX:X.N=NX:=by rfl):yP X sc N nt caps:=by
 unfold adf at h
 simp only [Bool.and_eq_true,decide_eq_true_eq,List.all_eq_true,bne_iff_ne,Bool.or_eq_true,beq_iff_eq,ne_eq] at h
 obtain ⟨⟨⟨⟨h1,h2⟩,h3⟩,h4⟩,h5⟩:=h
 refine ⟨h1,fun y hy=>h2 y hy,fun y hy hf=>?_,h4,fun j i x e1 e2=>?_⟩
 ·have:=h3 y hy
  unfold Env.kindOf
  rw [hS]
  rcases this with (h|h)|h
  ·exact absurd hf h
  ·exact .inl h
  ·exact .inr h
 ·have:=h5 j (by rw [List.mem_range];exact (List.getElem?_eq_some_iff.mp e1).1)
  rw [e1,e2] at this
  simp only [Bool.and_eq_true,beq_iff_eq] at this
  rw [hX]
  exact this
theorem qX {i:Nat}:pG (bI i):=by
 intro d ρ ρ' no e j ds q
 unfold bI at e
 cases e
 by_cases c:i=j
 ·subst c
  have hl:i < ρ.length:=by
   have:=(List.getElem?_eq_some_iff.mp q).1;simpa using this
  rw [List.getElem?_set_self hl] at q
  cases q;exact fun w=>by cases w
 ·rw [List.getElem?_set_ne c] at q;exact no j ds q
def xO (h:List D->ak->Option ak):Prop:=∀ ds ρ ρ',Oa ρ->h ds ρ=some ρ'->Oa ρ'
theorem Xf:xO Fb:=fun ds ρ ρ' no e=>by
 cases ds with
 | nil=>cases e;exact no
 | cons _ _=>cases e
theorem Ds {h:Tg} {k:List D->ak->Option ak} (h1:pG h) (h2:xO k):xO (iY h k):=fun ds ρ ρ' no e=>by
 cases ds with
 | nil=>cases e
 | cons d ds =>
  simp only [iY] at e
  cases e1:h d ρ with
  | none=>rw [e1] at e;cases e
  | some ρ1=>rw [e1] at e;exact h2 ds ρ1 ρ' (h1 d ρ ρ1 no e1) e
theorem Xg {n:Nat} {k:List D->ak->Option ak} (h:xO k):pG (yL n k):=fun d ρ ρ' no e=>by
 cases d with
 | tup ds =>
  simp only [yL] at e
  split at e
  ·exact h ds ρ ρ' no e
  ·cases e
 | _=>cases e
theorem Rj {X:Cx} {B:Bs} {W:Wi} {tg iter:Expr} {elt:Expr} {sc:Scope} {pos:Pos} {N:List Str} {nt:Nat} {caps:List Nat} {h:Tg} {fe:ak->Rs D} {fi:ak->Rs (List D)}
  (c:yP X sc N nt caps) (hc:X.calm=true) (hnames:sc.names.all (fun y=>y.2 != .local || sc.names.lookup y.1 == some .local)=true) (hi:SI X B W tg iter fi) (hno:pG h)
  (ht:∀ s₀ H₀ C ex pins B',SG (jo X N s₀ H₀ sc (ju sc X.env) C ex pins) B' tg h)
  (he:∀ s₀ H₀ C ex pins B',SE (jo X N s₀ H₀ sc (ju sc X.env) C ex pins) B' WF elt fe)
  (hs:∀ x,foldedSetIterable iter X.env x=pure x:=by intro _;rfl) :
  SE X B W (.ListComp elt [⟨tg,iter,[],0⟩] sc pos) (jc h (fun _=>.ok true) fe nt caps fi) :=
 aaJ c hc (fun y hy hl=>by
  have:=List.all_eq_true.mp hnames y hy
  simp only [Bool.or_eq_true,bne_iff_ne,beq_iff_eq,ne_eq] at this
  exact this.elim (fun z=>absurd hl z) id) hi hno ht (.inl ⟨rfl,rfl⟩) he hs
def ajI (i j:Nat) (fs:ak->Rs (List D)):ak->Ou:=fun ρ=>oR (fs ρ) ρ fun ds=>match ds with
 | [d,e]=>.nx ((ρ.set i (.fz d)).set j (.fz e))
 | _=>.no
end Vl
namespace Vl
open PySem PySem.Spec PySem.Calls PySem.W L2
theorem aeD {l:OpenLaw} {k:Nat} {q:Program} {loose:List Str} {XP:(Str->Option Value)->Heap->Prop} {YP:World->Heap->Prop} {d:DefRec} {K:Params->Frag} {v:List D->Rs D} (hn:l.most=some 63) (hdf:d.params.defaults=[]) (hr:ji k callerA)
  (hY:∀ (w:World) (h:Heap),YP w h->(K w.params).In h) (hv:∀ ns:List Int,ns.length<=63->v [.lst (ns.map D.int)]=.ok (.bl true))
  (F:∀ (w:World) (mg:Str->Option Value) (fa:Addr) (h:Heap),(K w.params).In h->h.Ns mainGlobals mg->mg d.name=some (.ref fa) ->
   ∃ fd:FuncData,(∀ (s:Shared) (u:Value),BindsTo s fd ⟨[u],[]⟩ [("script",u)])/\∀ base:Heap,(K w.params).In base->base.Ns mainGlobals mg->yC l.prog w (K w.params) mg base (Dr l.prog w (K w.params)) k fa fd ["script"] (spV (K w.params) 1 v)) :
  WalkO q loose XP YP l.row.toRowW d [] (fun f vs=>PySem.call f vs):=by
 refine L2.aav (n:=63) (k:=k) (x:="script") (CX:=fun w=>Dr l.prog w (K w.params)) (sp:=fun w=>spV (K w.params) 1 v) hn (by decide) hdf hr hY F (fun w H a ns hl _ hS=>?_) fun w H s e s' h=>?_
 ·refine ⟨rfl,H,[.lst (ns.map D.int)],.refl (.refl _) (fun _ _ e=>e),aZ.one (aO.mpr ⟨a,_,rfl,hS,Di ns⟩),?_⟩
  rw [hv ns hl]
  exact fun u H' G' _ r=>bA.mp r
 ·obtain ⟨_,_,_,_,_,_,_,_,_,_,z⟩:=h
  exact z.elim
end Vl
namespace Vl
open PySem PySem.Spec PySem.Calls PySem.W L2
section
variable {ρ ρ1:ak} {d x y z:D} {f fa fb:ak->Rs D} {g k a b:ak->Ou} {r:Ou} {ds:List D} {fs:ak->Rs (List D)} {c c1 c2:ak->Rs Bool} {t u:Bool} {i j:Nat}
theorem bw (h:g ρ=.nx ρ1) (h2:k ρ1=r):cF g k ρ=r:=by unfold cF;rw [h];exact h2
theorem aeE (h:g ρ=.rt d):cF g k ρ=.rt d:=by unfold cF;rw [h];rfl
theorem bR:fC d ρ=.ok d:=rfl
theorem aJ (h:ρ[i]?=some (.fz d)):aM i ρ=.ok d:=by unfold aM;rw [h]
theorem bH {o:D->D->Rs D} {r:Rs D} (h1:fa ρ=.ok x) (h2:fb ρ=.ok y) (h3:o x y=r):bV o fa fb ρ=r:=by unfold bV;rw [h1];show (fb ρ).bind _=_;rw [h2];exact h3
theorem ahf {n:Int} (h1:fa ρ=.ok (.int n)):Xd fa ρ=.ok (.int (-n)):=by unfold Xd;rw [h1];rfl
theorem aQ:aX ρ=.ok []:=rfl
theorem aq (h1:fa ρ=.ok x) (h2:fs ρ=.ok ds):au fa fs ρ=.ok (x::ds):=by unfold au;rw [h1];show (fs ρ).bind _=_;rw [h2];rfl
theorem kO {o:List D->Rs D} {r:Rs D} (h1:fs ρ=.ok ds) (h2:o ds=r):fA fs o ρ=r:=by unfold fA;rw [h1];exact h2
theorem v_b {o:D->Rs D} {r:Rs D} (h1:fa ρ=.ok x) (h2:o x=r):fB fa o ρ=r:=by unfold fB;rw [h1];exact h2
theorem fU {n:Nat} {v:List D->Rs D} {r:Rs D} (hl:ds.length=n) (h:v ds=r):cj n v ds=r:=by unfold cj;rw [if_pos hl];exact h
theorem Rk (hl:ds.length<=1000):dD ds=.ok (.tup ds):=by unfold dD;rw [if_pos hl]
theorem Dt (hl:ds.length<=1000):Ey ds=.ok (.lst ds):=by unfold Ey;rw [if_pos hl]
theorem xr (h:fa ρ=.ok (.bl t)):fT fa ρ=.ok t:=by unfold fT;rw [h];rfl
theorem adg (h:c ρ=.ok t):Nz c ρ=.ok (!t):=by unfold Nz;rw [h];rfl
theorem Xh (h:c1 ρ=.ok false) (h2:c2 ρ=.ok t):fOr c1 c2 ρ=.ok t:=by unfold fOr;rw [h];exact h2
theorem Rm (h:c1 ρ=.ok false):Tv c1 c2 ρ=.ok false:=by unfold Tv;rw [h];rfl
theorem vI (h:c ρ=.ok true) (h2:a ρ=r):Je c a b ρ=r:=by unfold Je;rw [h];exact h2
theorem iB (h:c ρ=.ok false) (h2:b ρ=r):Je c a b ρ=r:=by unfold Je;rw [h];exact h2
theorem yQ (h:fa ρ=.ok x):uD i fa ρ=.nx (ρ.set i (.fz x)):=by unfold uD;rw [h];rfl
theorem rN (h:fa ρ=.ok x):lC fa ρ=.rt x:=by unfold lC;rw [h];rfl
theorem oN:Fo ρ=.nx ρ:=rfl
theorem wK (h:g ρ=.nx ρ1):xq g ρ=.nx ρ1:=by unfold xq;rw [h];rfl
theorem Oe {h:Tg} {n:Int} {N:Nat} (h1:fa ρ=.ok (.int n)) (hb:n < 2 ^ 62) (hN:n=(N:Int)) (h2:cN h g ((List.range N).map fun (i:Nat)=>.int i) ρ=r):yM h g fa ρ=r:=by
 have hc:-(2 ^ 62)<=n/\n < 2 ^ 62:=⟨by subst hN;omega,hb⟩
 unfold yM;rw [h1]
 simp only [oR]
 rw [if_pos hc,hN,Int.toNat_natCast]
 exact h2
theorem Xi {h:Tg} (h1:fa ρ=.ok (.lst ds)) (h2:cN h g ds ρ=r):Jv h g fa ρ=r:=by unfold Jv;rw [h1];exact h2
theorem Xj {h:Tg} (h1:fa ρ=.ok (.tup ds)) (h2:cN h g ds ρ=r):Jw h g fa ρ=r:=by unfold Jw;rw [h1];exact h2
theorem yR {h:Tg} (P:ak->Prop):∀ {ds:List D} {ρ:ak},P ρ->(∀ d∈ds,∀ ρ,P ρ->∃ ρ1 ρ',h d ρ=some ρ1/\g ρ1=.nx ρ'/\P ρ')->∃ ρ',cN h g ds ρ=.nx ρ'/\P ρ'
 | [],ρ,p,_=>⟨ρ,rfl,p⟩
 | d::ds,ρ,p,st=>by
  obtain ⟨ρ1,ρ2,e1,e2,p2⟩:=st d (by simp) ρ p
  obtain ⟨ρ',e,p'⟩:=yR (ds:=ds) P p2 fun d' hd=>st d' (by simp [hd])
  refine ⟨ρ',?_,p'⟩
  simp only [cN,e1,e2]
  exact e
theorem Xk {h:Tg} {ft:ak->Rs Bool} {fe:ak->Rs D} {nt:Nat} {caps:List Nat} {fi:ak->Rs (List D)} {ys:List D} (h1:fi ρ=.ok ds) (h2:iZ h ft fe ds (dH nt caps ρ)=.ok ys) (hl:ys.length<=1000000):jc h ft fe nt caps fi ρ=.ok (.lst ys):=by
 unfold jc;rw [h1]
 show yO ((iZ h ft fe ds (dH nt caps ρ)).bind _)=_
 rw [h2]
 show yO (if ys.length<=1000000 then _ else _)=_
 rw [if_pos hl];rfl
theorem v_l {o:D->Rs (List D)} (h1:fa ρ=.ok x) (h2:o x=.ok ds):fL fa o ρ=.ok ds:=by unfold fL;rw [h1];exact h2
variable {m n:Int}
theorem adh (h:Np m n):jt (.int m) (.int n)=.ok (.int (m * n)):=by simp [jt,gI,h]
theorem Jz (h:0 < n):wY (.int m) (.int n)=.ok (.int (m % n)):=by simp [wY,gI,h]
theorem ahg (h:CDB m n):Ww (.int m) (.int n)=.ok (.int (m / n)):=by simp [Ww,gI,h]
theorem ahh (h:VH m n):Jr (.int m) (.int n)=.ok (.int (m ^ n.toNat)):=by simp [Jr,gI,h]
theorem dN:cB (.int m) (.int n)=.ok (.int (m + n)):=rfl
theorem TQ {a b:List D} (h:a.length + b.length<=1000000):cB (.lst a) (.lst b)=.ok (.lst (a++b)):=by simp only [cB];rw [if_pos h]
theorem jq:Vl.iw (.int m) (.int n)=.ok (.int (m - n)):=rfl
theorem ajJ (h:CDB m n):gDm [.int m,.int n]=.ok (.tup [.int (m / n),.int (m % n)]):=by simp [gDm,h]
theorem aeF:gLt (.int m) (.int n)=.ok (.bl (decide (m < n))):=rfl
theorem ajK:gLe (.int m) (.int n)=.ok (.bl (decide (m<=n))):=rfl
theorem aeG:gGt (.int m) (.int n)=.ok (.bl (decide (n < m))):=rfl
theorem aeH:gGe (.int m) (.int n)=.ok (.bl (decide (n<=m))):=rfl
theorem jO:Dq (.int m) (.int n)=.ok (.bl (decide (m=n))):=by simp [Dq,cL,oZ];rfl
theorem ahi:Ao (.int m) (.int n)=.ok (.bl (!decide (m=n))):=by simp [Ao,cL,oZ];rfl
theorem ajL (h1:cL x<=8) (h2:cL y<=8):Dq x y=.ok (.bl (oZ x y)):=by unfold Dq;rw [if_pos ⟨h1,h2⟩]
theorem aeI (h1:cL x<=8) (h2:cL y<=8):Ao x y=.ok (.bl (!oZ x y)):=by unfold Ao;rw [if_pos ⟨h1,h2⟩]
theorem TV (h1:cL x<=8) (e:x=y):Ao x y=.ok (.bl false):=by subst e;rw [aeI h1 h1,uq];rfl
end
end Vl
namespace Tb
open PySem
def it:Nat->Nat->Nat
 | 0,x=>x
 | m + 1,x=>5 * it m x + 1
theorem Xl (m n x:Nat):it (m + n) x=it m (it n x):=by
 induction m with
 | zero=>simp [it]
 | succ m ih=>rw [Nat.succ_add];simp only [it];rw [ih]
theorem aeJ (k:Nat):∃ w,w % 2=1/\∀ y,it (2 ^ k) y=y + 2 ^ k * w * (4 * y + 1):=by
 induction k with
 | zero=>exact ⟨1,rfl,fun y=>by simp [it];omega⟩
 | succ k ih =>
  obtain ⟨w,hw,h⟩:=ih
  refine ⟨w * (1 + 2 ^ (k + 1) * w),?_,fun y=>?_⟩
  ·have e:2 ^ (k + 1)=2 * 2 ^ k:=by rw [Nat.pow_succ];omega
   rw [e,Nat.mul_add,Nat.mul_one,Nat.add_mod]
   have:w * (2 * 2 ^ k * w) % 2=0:=by
    have:w * (2 * 2 ^ k * w)=2 * (w * 2 ^ k * w):=by grind
    rw [this];exact Nat.mul_mod_right _ _
   omega
  ·have e:2 ^ (k + 1)=2 ^ k + 2 ^ k:=by rw [Nat.pow_succ];omega
   rw [e,Xl,h,h]
   grind
theorem ahj (k:Nat):∀ x e:Nat,∃ m,m < 2 ^ k/\it m x % 2 ^ k=e % 2 ^ k:=by
 induction k with
 | zero=>exact fun x e=>⟨0,by decide,by simp [Nat.mod_one]⟩
 | succ k ih =>
  intro x e
  obtain ⟨m,hm,he⟩:=ih x e
  obtain ⟨w,hw,hp⟩:=aeJ k
  have e2:2 ^ (k + 1)=2 ^ k * 2:=Nat.pow_succ ..
  by_cases c:it m x % 2 ^ (k + 1)=e % 2 ^ (k + 1)
  ·exact ⟨m,by rw [e2];omega,c⟩
  ·refine ⟨2 ^ k + m,by rw [e2];omega,?_⟩
   rw [Xl,hp]
   have pos:0 < 2 ^ k:=Nat.pos_of_ne_zero (by simp)
   generalize it m x=a at he c
   obtain ⟨q,hq⟩:∃ q,w * (4 * a + 1)=2 * q + 1:=by
    refine ⟨w * (4 * a + 1) / 2,?_⟩
    have:w * (4 * a + 1) % 2=1:=by
     rw [Nat.mul_mod]
     have:(4 * a + 1) % 2=1:=by omega
     rw [hw,this]
    omega
   have hq':2 ^ k * w * (4 * a + 1)=2 ^ k * 2 * q + 2 ^ k:=by rw [Nat.mul_assoc,hq];grind
   rw [hq',e2]
   rw [e2] at c
   generalize 2 ^ k=M at *
   have h1:(a + (M * 2 * q + M)) % (M * 2)=(a + M) % (M * 2):=by
    have:a + (M * 2 * q + M)=a + M + M * 2 * q:=by omega
    rw [this,Nat.add_mul_mod_self_left]
   rw [h1]
   have a1:=Nat.mod_add_div a (M * 2)
   have b1:=Nat.mod_add_div e (M * 2)
   have al:=Nat.mod_lt a (show 0 < M * 2 by omega)
   have bl:=Nat.mod_lt e (show 0 < M * 2 by omega)
   generalize a % (M * 2)=ra at a1 al c
   generalize e % (M * 2)=rb at b1 bl c ⊢
   have ham:a % M=ra % M:=by rw [<- a1,Nat.mul_assoc,Nat.add_mul_mod_self_left]
   have hbm:e % M=rb % M:=by rw [<- b1,Nat.mul_assoc,Nat.add_mul_mod_self_left]
   have hrr:ra % M=rb % M:=by rw [<- ham,<- hbm];exact he
   have hA:(a + M) % (M * 2)=(ra + M) % (M * 2):=by
    rw [<- a1]
    have:ra + M * 2 * (a / (M * 2)) + M=ra + M + M * 2 * (a / (M * 2)):=by omega
    rw [this,Nat.add_mul_mod_self_left]
   rw [hA]
   by_cases ha:ra < M
   ·have e3:ra % M=ra:=Nat.mod_eq_of_lt ha
    have hb:¬ rb < M:=fun z=>c (by rw [Nat.mod_eq_of_lt z] at hrr;omega)
    have e4:rb % M=rb - M:=by rw [Nat.mod_eq_sub_mod (by omega),Nat.mod_eq_of_lt (by omega)]
    rw [Nat.mod_eq_of_lt (by omega)];omega
   ·have e3:ra % M=ra - M:=by rw [Nat.mod_eq_sub_mod (by omega),Nat.mod_eq_of_lt (by omega)]
    have hb:rb < M:=Nat.lt_of_not_le fun z=>c (by
     have e4:rb % M=rb - M:=by rw [Nat.mod_eq_sub_mod (by omega),Nat.mod_eq_of_lt (by omega)]
     omega)
    have e4:rb % M=rb:=Nat.mod_eq_of_lt hb
    rw [Nat.mod_eq_sub_mod (by omega),Nat.mod_eq_of_lt (by omega)];omega
end Tb
namespace Tb
open PySem PySem.SetTable
def jd (t:SetTable):Nat->Probe->Probe
 | 0,p=>p
 | s + 1,p=>jd t s (t.advance p)
theorem qY (t:SetTable) (a b:Nat) (p:Probe):jd t (a + b) p=jd t b (jd t a p):=by
 induction a generalizing p with
 | zero=>simp [jd]
 | succ a ih=>rw [Nat.succ_add];simp only [jd];exact ih _
theorem gH (t:SetTable) (s:Nat) (p:Probe):jd t (s + 1) p=t.advance (jd t s p):=by
 rw [qY];rfl
def oM (mask i pt:Nat) (d:Option Nat):Probe:={ j:=i,more:=runEnd mask i - i,i:=i,perturb:=pt,dummy:=d }
theorem aeK (mask i:Nat):runEnd mask i - i<=9:=by unfold runEnd;split <;> omega
theorem Ro (t:SetTable):∀ (m:Nat) (p:Probe),m<=p.more->jd t m p={ p with j:=p.j + m,more:=p.more - m }:=by
 intro m
 induction m with
 | zero=>intro p _;simp [jd]
 | succ m ih =>
  intro p h
  rw [gH,ih p (by omega)]
  unfold advance
  simp only
  rw [if_pos (by omega)]
  simp only [Probe.mk.injEq,and_true,true_and]
  omega
theorem yS (t:SetTable) (p:Probe):jd t (p.more + 1) p=oM t.mask (leap t.mask p.i p.perturb).1 (leap t.mask p.i p.perturb).2 p.dummy:=by
 rw [gH,Ro t p.more p (Nat.le_refl _)]
 unfold advance oM
 simp only [Nat.sub_self,Nat.lt_irrefl,gt_iff_lt,if_false]
def lp (mask:Nat):Nat->Nat×Nat->Nat×Nat
 | 0,x=>x
 | n + 1,x=>leap mask (lp mask n x).1 (lp mask n x).2
theorem aeL (t:SetTable) (d:Option Nat) (i pt:Nat):∀ n,∃ s,s<=10 * n/\jd t s (oM t.mask i pt d)=oM t.mask (lp t.mask n (i,pt)).1 (lp t.mask n (i,pt)).2 d:=by
 intro n
 induction n with
 | zero=>exact ⟨0,by omega,rfl⟩
 | succ n ih =>
  obtain ⟨s,hs,e⟩:=ih
  refine ⟨s + ((oM t.mask (lp t.mask n (i,pt)).1 (lp t.mask n (i,pt)).2 d).more + 1),?_,?_⟩
  ·have:=aeK t.mask (lp t.mask n (i,pt)).1
   simp only [oM];omega
  ·rw [qY,e,yS];rfl
theorem ahk (mask:Nat) (x:Nat×Nat):∀ n,(lp mask n x).2=x.2 / 32 ^ n:=by
 intro n
 induction n with
 | zero=>simp [lp]
 | succ n ih=>simp only [lp,leap,ih];rw [Nat.div_div_eq_div_mul,Nat.pow_succ]
theorem ahl (mask:Nat) (x:Nat×Nat) (n:Nat):(lp mask (n + 1) x).1 < mask + 1:=Nat.mod_lt _ (by omega)
theorem Xm (mask:Nat) (x:Nat×Nat) (a b:Nat):lp mask (a + b) x=lp mask b (lp mask a x):=by
 induction b with
 | zero=>rfl
 | succ b ih=>rw [Nat.add_succ];simp only [lp,ih]
theorem aaQ (mask i:Nat) (hi:i < mask + 1):∀ n,lp mask n (i,0)=(it n i % (mask + 1),0):=by
 intro n
 induction n with
 | zero=>simp [lp,it,Nat.mod_eq_of_lt hi]
 | succ n ih =>
  simp only [lp,ih,leap,it,Prod.mk.injEq,Nat.zero_div,Nat.add_zero,and_true]
  rw [Nat.mul_comm,Nat.add_mod,Nat.mul_mod,Nat.mod_mod,<- Nat.mul_mod,<- Nat.add_mod]
theorem Xn {mask k:Nat} (hk:mask + 1=2 ^ k) (i pt:Nat) (hp:pt < 2 ^ 64) {e:Nat} (he:e<=mask):∃ n,n<=mask + 13/\(lp mask n (i,pt)).1=e:=by
 have h13:(lp mask 13 (i,pt)).2=0:=by rw [ahk];exact Nat.div_eq_of_lt (Nat.lt_trans hp (by decide))
 have hl:=ahl mask (i,pt) 12
 obtain ⟨m,hm,e1⟩:=ahj k (lp mask 13 (i,pt)).1 e
 refine ⟨13 + m,by omega,?_⟩
 rw [Xm]
 have e2:lp mask 13 (i,pt)=((lp mask 13 (i,pt)).1,0):=by rw [<- h13]
 rw [e2,aaQ _ _ hl,hk,e1,Nat.mod_eq_of_lt (by omega)]
theorem hit {t:SetTable} {k:Nat} (hk:t.mask + 1=2 ^ k) (p:Probe) (h9:p.more<=9) (hp:p.perturb < 2 ^ 64) {e:Nat} (he:e<=t.mask):∃ s,s<=10 * (t.mask + 14)/\(jd t s p).j=e:=by
 have hq:(leap t.mask p.i p.perturb).2 < 2 ^ 64:=Nat.lt_of_le_of_lt (Nat.div_le_self _ _) hp
 obtain ⟨n,hn,e1⟩:=Xn hk (leap t.mask p.i p.perturb).1 (leap t.mask p.i p.perturb).2 hq he
 obtain ⟨s,hs,e2⟩:=aeL t p.dummy (leap t.mask p.i p.perturb).1 (leap t.mask p.i p.perturb).2 n
 refine ⟨p.more + 1 + s,by omega,?_⟩
 rw [qY,yS,e2]
 exact e1
theorem aeM (t:SetTable) (p:Probe) (h9:p.more<=9) (hp:p.perturb < 2 ^ 64):∀ s,(jd t s p).more<=9/\(jd t s p).perturb < 2 ^ 64/\(jd t s p).dummy=p.dummy:=by
 intro s
 induction s with
 | zero=>exact ⟨h9,hp,rfl⟩
 | succ s ih =>
  rw [gH]
  obtain ⟨a,b,c⟩:=ih
  unfold advance
  split
  ·exact ⟨by simp only;omega,b,c⟩
  ·exact ⟨aeK _ _,Nat.lt_of_le_of_lt (Nat.div_le_self _ _) b,c⟩
theorem Rp (h:Int):bits h < 2 ^ 64:=by
 unfold bits
 have:=Int.emod_lt_of_pos h (show (0:Int) < 2 ^ 64 by decide)
 have:=Int.emod_nonneg h (show (2 ^ 64:Int)≠0 by decide)
 omega
def pos (t:SetTable) (h:Int) (s:Nat):Nat:=(jd t s (t.probeStart h)).j
theorem uF (t:SetTable) (h:Int) (s:Nat):(jd t s (t.probeStart h)).more<=9/\(jd t s (t.probeStart h)).perturb < 2 ^ 64/\(jd t s (t.probeStart h)).dummy=none :=
 aeM t _ (aeK _ _) (Rp h) s
theorem Fq {t:SetTable} {k:Nat} (hk:t.mask + 1=2 ^ k) (h:Int) (s0:Nat) {e:Nat} (he:e<=t.mask):∃ s,s0<=s/\s<=s0 + 10 * (t.mask + 14)/\pos t h s=e:=by
 obtain ⟨a,b,_⟩:=uF t h s0
 obtain ⟨s,hs,e1⟩:=hit hk (jd t s0 (t.probeStart h)) a b he
 exact ⟨s0 + s,by omega,by omega,by unfold pos;rw [qY];exact e1⟩
end Tb
namespace Tb
open PySem PySem.SetTable
def oU (xs:Array Nat):Prop:=∀ a b,a < b->b < xs.size->xs.getD a 0 < xs.getD b 0
theorem aaR {xs:Array Nat} {a:Nat} (h:a < xs.size) (d:Nat):xs.getD a d=xs.getD a 0:=by simp [Array.getD,h]
theorem Xo {xs:Array Nat} {j:Nat} (R:oU xs):∀ (fuel lo hi:Nat),lo<=hi->hi<=xs.size->hi<=lo + fuel->(∀ a,a < lo->xs.getD a 0 < j)->(∀ a,hi<=a->a < xs.size->j<=xs.getD a 0) ->
  below.go xs j fuel lo hi<=xs.size/\(∀ a,a < below.go xs j fuel lo hi->xs.getD a 0 < j)/\(∀ a,below.go xs j fuel lo hi<=a->a < xs.size->j<=xs.getD a 0):=by
 intro fuel
 induction fuel with
 | zero =>
  intro lo hi h1 h2 h3 h4 h5
  obtain rfl:lo=hi:=by omega
  exact ⟨h2,h4,h5⟩
 | succ fuel ih =>
  intro lo hi h1 h2 h3 h4 h5
  unfold below.go
  by_cases c:lo < hi
  ·rw [if_pos c]
   simp only
   have hm:(lo + hi) / 2 < xs.size:=by omega
   rw [aaR hm]
   by_cases d:xs.getD ((lo + hi) / 2) 0 < j
   ·rw [if_pos d]
    refine ih _ _ (by omega) h2 (by omega) (fun a ha=>?_) h5
    by_cases e:a=(lo + hi) / 2
    ·rw [e];exact d
    ·exact Nat.lt_trans (R a ((lo + hi) / 2) (by omega) hm) d
   ·rw [if_neg d]
    refine ih _ _ (by omega) (by omega) (by omega) h4 fun a ha hs=>?_
    by_cases e:a=(lo + hi) / 2
    ·rw [e];omega
    ·exact Nat.le_trans (by omega) (Nat.le_of_lt (R ((lo + hi) / 2) a (by omega) hs))
  ·rw [if_neg c]
   obtain rfl:lo=hi:=by omega
   exact ⟨h2,h4,h5⟩
theorem mD {xs:Array Nat} (R:oU xs) (j:Nat):below xs j<=xs.size/\(∀ a,a < below xs j->xs.getD a 0 < j)/\(∀ a,below xs j<=a->a < xs.size->j<=xs.getD a 0) :=
 Xo R xs.size 0 xs.size (Nat.zero_le _) (Nat.le_refl _) (by omega) (fun a h=>absurd h (by omega)) fun a h1 h2=>absurd h1 (by omega)
theorem JB {xs:Array Nat} (R:oU xs) {i:Nat} (hi:i < xs.size):below xs (xs.getD i 0)=i:=by
 obtain ⟨h1,h2,h3⟩:=mD R (xs.getD i 0)
 by_cases c:below xs (xs.getD i 0) < i
 ·have:=h3 _ (Nat.le_refl _) (by omega)
  have:=R _ i c hi
  omega
 ·by_cases d:i < below xs (xs.getD i 0)
  ·have:=h2 i d;omega
  ·omega
def mF (t:SetTable) (j:Nat):Prop:=∃ i,i < t.place.size/\t.place.getD i 0=j
theorem JC {xs:Array Nat} {i:Nat} (hi:i < xs.size):xs[i]?=some (xs.getD i 0):=by simp [Array.getD,hi]
theorem qZ {t:SetTable} (R:oU t.place) {i:Nat} (hi:i < t.place.size):t.slot (t.place.getD i 0)=.live i:=by
 unfold slot
 simp only
 rw [JB R hi,JC hi]
 simp
theorem Og {t:SetTable} (nd:t.dummies=#[]) {j:Nat} (h:¬ mF t j):t.slot j=.empty:=by
 unfold slot
 simp only
 rw [if_neg,if_neg]
 ·unfold has;rw [nd];simp
 ·intro c
  apply h
  have c':t.place[below t.place j]?=some j:=by simpa using c
  obtain ⟨hl,e⟩:=Array.getElem?_eq_some_iff.mp c'
  exact ⟨_,hl,by simp [Array.getD,hl,e]⟩
theorem uG {t:SetTable} (R:oU t.place) {j:Nat} (h:mF t j):∃ i,i < t.place.size/\t.place.getD i 0=j/\t.slot j=.live i:=by
 obtain ⟨i,hi,e⟩:=h
 exact ⟨i,hi,e,by rw [<- e];exact qZ R hi⟩
theorem aaS {xs:Array Nat} (R:oU xs):∀ i,i < xs.size->i<=xs.getD i 0:=by
 intro i
 induction i with
 | zero=>intro _;exact Nat.zero_le _
 | succ i ih=>intro h;have:=ih (by omega);have:=R i (i + 1) (by omega) h;omega
theorem yU {t:SetTable} (R:oU t.place) (hs:t.place.size<=t.mask):∃ e,e<=t.mask/\¬ mF t e:=by
 have key:∀ n,n<=t.place.size->(∀ a,a < n->t.place.getD a 0=a)∨∃ e,e < n/\t.place.getD e 0≠e/\∀ a,a < e->t.place.getD a 0=a:=by
  intro n
  induction n with
  | zero=>intro _;exact .inl fun a h=>absurd h (by omega)
  | succ n ih =>
   intro h
   rcases ih (by omega) with h1|⟨e,h1,h2,h3⟩
   ·by_cases c:t.place.getD n 0=n
    ·refine .inl fun a ha=>?_
     by_cases d:a=n
     ·rw [d];exact c
     ·exact h1 a (by omega)
    ·exact .inr ⟨n,by omega,c,h1⟩
   ·exact .inr ⟨e,by omega,h2,h3⟩
 rcases key t.place.size (Nat.le_refl _) with h|⟨e,h1,h2,h3⟩
 ·refine ⟨t.place.size,hs,fun ⟨i,hi,e⟩=>?_⟩
  have:=h i hi;omega
 ·refine ⟨e,by omega,fun ⟨i,hi,e'⟩=>?_⟩
  by_cases c:i < e
  ·have:=h3 i c;omega
  ·have hge:=aaS R e h1
   by_cases d:i=e
   ·subst d;exact h2 e'
   ·have:=R e i (by omega) hi;omega
theorem JD {t:SetTable} (R:oU t.place) (nd:t.dummies=#[]) (hashAt:Nat->Int) (h:Int):∀ (fuel s0 s1:Nat),s0<=s1->s1 < s0 + fuel->¬ mF t (pos t h s1) ->
    ∃ s2,s0<=s2/\s2<=s1/\(∀ s,s0<=s->s < s2->∃ i,i < t.place.size/\t.place.getD i 0=pos t h s/\hashAt i≠h) /\
      ((¬ mF t (pos t h s2) /\ probe.go t hashAt h fuel (jd t s0 (t.probeStart h)) = some (.empty (pos t h s2) none)) ∨
       ∃ i,i < t.place.size/\t.place.getD i 0=pos t h s2/\hashAt i=h/\probe.go t hashAt h fuel (jd t s0 (t.probeStart h))=some (.candidate (pos t h s2) i (jd t (s2 + 1) (t.probeStart h)))):=by
  intro fuel
  induction fuel with
  | zero=>intro s0 s1 h1 h2;omega
  | succ fuel ih =>
    intro s0 s1 h1 h2 hl
    have hd:=(uF t h s0).2.2
    unfold probe.go
    by_cases c:mF t (pos t h s0)
    . obtain ⟨i,hi,e1,e2⟩:=uG R c
      have e2':t.slot (jd t s0 (t.probeStart h)).j=.live i:=e2
      rw [e2']
      simp only
      by_cases d:hashAt i=h
      . refine ⟨s0,Nat.le_refl _,h1,fun s a b=>absurd a (by omega),.inr ⟨i,hi,e1,d,?_⟩⟩
        rw [if_pos (by simp [d]),gH];rfl
      . rw [if_neg (by simp [d]),<- gH]
        have hne:s0≠s1:=fun z=>hl (z▸c)
        obtain ⟨s2,a1,a2,a3,a4⟩:=ih (s0 + 1) s1 (by omega) (by omega) hl
        refine ⟨s2,by omega,a2,fun s b1 b2=>?_,a4⟩
        by_cases z:s=s0
        . subst z;exact ⟨i,hi,e1,d⟩
        . exact a3 s (by omega) b2
    . refine ⟨s0,Nat.le_refl _,h1,fun s a b=>absurd a (by omega),.inl ⟨c,?_⟩⟩
      have e2:t.slot (jd t s0 (t.probeStart h)).j=.empty:=Og nd c
      rw [e2]
      simp only
      rw [hd];rfl
end Tb
namespace Tb
open PySem PySem.SetTable
theorem Xp {t t':SetTable} (e:t.mask=t'.mask):∀ s p,jd t s p=jd t' s p:=by
 intro s
 induction s with
 | zero=>intro p;rfl
 | succ s ih =>
  intro p
  simp only [jd]
  have:t.advance p=t'.advance p:=by unfold advance;rw [e]
  rw [this,ih]
theorem pJ {t t':SetTable} (e:t.mask=t'.mask) (h:Int) (s:Nat):pos t h s=pos t' h s:=by
 unfold pos
 have:t.probeStart h=t'.probeStart h:=by unfold probeStart;rw [e]
 rw [this,Xp e]
abbrev gW:=Nat×Int×Value
structure Good (t:SetTable) (L:List gW):Prop where
 pw:∃ k,t.mask + 1=2 ^ k
 m7:7<=t.mask
 nd:t.dummies=#[]
 pl:t.place=(L.map (·.1)).toArray
 so:(L.map (·.1)).Pairwise (· < ·)
 le:∀ e∈L,e.1<=t.mask
 reach:∀ e∈L,∃ s,pos t e.2.1 s=e.1/\∀ s',s' < s->∃ e'∈L,e'.1=pos t e.2.1 s'
section
variable {t:SetTable} {L:List gW}
theorem Good.sz (g:Good t L):t.place.size=L.length:=by rw [g.pl];simp
theorem Good.at (g:Good t L) {i:Nat} (hi:i < L.length):t.place.getD i 0=L[i].1:=by rw [g.pl];simp [Array.getD,hi]
theorem Good.rise (g:Good t L):oU t.place:=by
 intro a b hab hb
 rw [g.sz] at hb
 rw [g.at (show a < L.length by omega),g.at hb]
 have:=(List.pairwise_iff_getElem.mp g.so) a b (by simpa using (show a < L.length by omega)) (by simpa using hb) hab
 simpa using this
theorem Good.live (g:Good t L) {j:Nat}:mF t j↔∃ e∈L,e.1=j:=by
 constructor
 ·rintro ⟨i,hi,e⟩
  rw [g.sz] at hi
  rw [g.at hi] at e
  exact ⟨L[i],List.getElem_mem hi,e⟩
 ·rintro ⟨e,he,q⟩
  obtain ⟨i,hi,e1⟩:=List.mem_iff_getElem.mp he
  exact ⟨i,by rw [g.sz];exact hi,by rw [g.at hi,e1];exact q⟩
theorem Good.uniq (g:Good t L) {e e':gW} (h:e∈L) (h':e'∈L) (q:e.1=e'.1):e=e':=by
 obtain ⟨i,hi,rfl⟩:=List.mem_iff_getElem.mp h
 obtain ⟨j,hj,rfl⟩:=List.mem_iff_getElem.mp h'
 have R:=g.rise
 by_cases c:i < j
 ·have:=R i j c (by rw [g.sz];exact hj);rw [g.at hi,g.at hj] at this;omega
 ·by_cases d:j < i
  ·have:=R j i d (by rw [g.sz];exact hi);rw [g.at hi,g.at hj] at this;omega
  ·obtain rfl:i=j:=by omega
   rfl
end
theorem lD {α:Type} (xs:List α) (p:Nat) (hp:p<=xs.length) (x:α):insertAt xs.toArray p x=(xs.take p++x::xs.drop p).toArray:=by
 unfold insertAt
 apply Array.toList_inj.mp
 simp only [List.extract_toArray,List.size_toArray,Array.toList_append,Array.toList_push,List.extract_eq_take_drop,Nat.sub_zero,List.drop_zero]
 rw [List.take_of_length_le (l:=xs.drop p) (by simp)]
 simp
theorem Ft (t:SetTable) (nd:t.dummies=#[]) (j:Nat):t.put j=({ t with place:=insertAt t.place (below t.place j) j },below t.place j):=by
 unfold put
 have:has t.dummies j=false:=by unfold has;rw [nd];simp
 simp only [this,Bool.false_eq_true,if_false]
theorem Good.put {t:SetTable} {L:List gW} (g:Good t L) {j:Nat} {h:Int} {x:Value} (hj:j<=t.mask) (hn:¬ mF t j) (hr:∃ s,pos t h s=j/\∀ s',s' < s->∃ e'∈L,e'.1=pos t h s') :
  (t.put j).2<=L.length/\Good (t.put j).1 (L.take (t.put j).2++(j,h,x)::L.drop (t.put j).2):=by
 rw [Ft t g.nd]
 obtain ⟨b1,b2,b3⟩:=mD g.rise j
 rw [g.sz] at b1 b3
 simp only
 generalize hp:below t.place j=p at *
 refine ⟨b1,?_⟩
 have mem:∀ e:gW,e∈L.take p++(j,h,x)::L.drop p↔e=(j,h,x)∨e∈L:=fun e=>by
  have:L=L.take p++L.drop p:=(List.take_append_drop p L).symm
  constructor
  ·intro z
   rcases List.mem_append.mp z with z|z
   ·exact .inr (List.mem_of_mem_take z)
   ·rcases List.mem_cons.mp z with z|z
    ·exact .inl z
    ·exact .inr (List.mem_of_mem_drop z)
  ·rintro (z|z)
   ·subst z;simp
   ·rw [this] at z
    rcases List.mem_append.mp z with z|z
    ·exact List.mem_append_left _ z
    ·exact List.mem_append_right _ (List.mem_cons_of_mem _ z)
 have pm:∀ (hh:Int) (s:Nat),pos { t with place:=insertAt t.place p j } hh s=pos t hh s:=fun hh s=>pJ (by rfl) hh s
 refine ⟨g.pw,g.m7,g.nd,?_,?_,fun e he=>?_,fun e he=>?_⟩
 ·show insertAt t.place p j=_
  rw [g.pl,lD _ _ (by simpa using b1)]
  simp [List.map_take,List.map_drop]
 ·simp only [List.map_append,List.map_cons]
  rw [List.pairwise_append]
  refine ⟨?_,?_,?_⟩
  ·rw [List.map_take];exact List.Pairwise.sublist (List.take_sublist _ _) g.so
  ·rw [List.pairwise_cons]
   refine ⟨fun a ha=>?_,?_⟩
   ·obtain ⟨e,he,rfl⟩:=List.mem_map.mp ha
    obtain ⟨i,hi,rfl⟩:=List.mem_iff_getElem.mp he
    have hi':p + i < L.length:=by simp at hi;omega
    have q:=b3 (p + i) (by omega) hi'
    rw [g.at hi'] at q
    have ne:L[p + i].1≠j:=fun z=>hn (g.live.mpr ⟨_,List.getElem_mem hi',z⟩)
    simp only [List.getElem_drop]
    show j < _
    omega
   ·rw [List.map_drop];exact List.Pairwise.sublist (List.drop_sublist _ _) g.so
  ·intro a ha b hb
   obtain ⟨e,he,rfl⟩:=List.mem_map.mp ha
   obtain ⟨i,hi,rfl⟩:=List.mem_iff_getElem.mp he
   have hi':i < p:=by simp at hi;omega
   have q:=b2 i hi'
   rw [g.at (show i < L.length by omega)] at q
   simp only [List.getElem_take]
   rcases List.mem_cons.mp hb with z|z
   ·rw [z];exact q
   ·obtain ⟨e',he',rfl⟩:=List.mem_map.mp z
    obtain ⟨i',hi2,rfl⟩:=List.mem_iff_getElem.mp he'
    have hi3:p + i' < L.length:=by simp at hi2;omega
    have:=b3 (p + i') (by omega) hi3
    rw [g.at hi3] at this
    simp only [List.getElem_drop]
    omega
 ·rcases (mem e).mp he with z|z
  ·rw [z];exact hj
  ·exact g.le e z
 ·rcases (mem e).mp he with z|z
  ·subst z
   obtain ⟨s,e1,e2⟩:=hr
   refine ⟨s,by rw [pm];exact e1,fun s' hs=>?_⟩
   obtain ⟨e',h1,h2⟩:=e2 s' hs
   exact ⟨e',(mem e').mpr (.inr h1),by rw [pm];exact h2⟩
  ·obtain ⟨s,e1,e2⟩:=g.reach e z
   refine ⟨s,by rw [pm];exact e1,fun s' hs=>?_⟩
   obtain ⟨e',h1,h2⟩:=e2 s' hs
   exact ⟨e',(mem e').mpr (.inr h1),by rw [pm];exact h2⟩
end Tb
namespace Tb
open PySem PySem.SetTable
def gJ (owner:Array (Option Nat)) (j:Nat):Prop:=owner.getD j (some 0)=none
theorem TX {mask:Nat} {t:SetTable} (ht:t.mask=mask) (owner:Array (Option Nat)):∀ (fuel i pt n:Nat),n < fuel->gJ owner (lp mask n (i,pt)).1 ->
  ∃ j s,layClean.free mask owner fuel i pt=some j/\(jd t s (oM mask i pt none)).j=j/\gJ owner j/\∀ s',s' < s->¬ gJ owner (jd t s' (oM mask i pt none)).j:=by
 intro fuel
 induction fuel with
 | zero=>intro i pt n h;omega
 | succ fuel ih =>
  intro i pt n hn hN
  unfold layClean.free
  have run:∀ s,s<=runEnd mask i - i->(jd t s (oM mask i pt none)).j=i + s:=fun s hs=>by rw [Ro t s _ hs];rfl
  have hre:i<=runEnd mask i:=by unfold runEnd;split <;> omega
  cases e:(List.range (runEnd mask i + 1 - i)).find? fun k=>(owner.getD (i + k) (some 0)).isNone with
  | some k =>
   simp only
   have h1:=List.find?_some e
   have h2:=List.mem_of_find?_eq_some e
   have h3:=List.mem_range.mp h2
   refine ⟨i + k,k,rfl,run k (by omega),by simpa [gJ] using h1,fun s' hs z=>?_⟩
   rw [run s' (by omega)] at z
   have:=List.find?_eq_some_iff_append.mp e
   obtain ⟨_,as,bs,e1,e2⟩:=this
   have hs':s'∈as:=by
    have hm:s'∈List.range (runEnd mask i + 1 - i):=List.mem_range.mpr (by omega)
    have ps:=List.pairwise_lt_range (n:=runEnd mask i + 1 - i)
    rw [e1] at hm ps
    rcases List.mem_append.mp hm with hm|hm
    ·exact hm
    ·rcases List.mem_cons.mp hm with hm|hm
     ·omega
     ·have:=(List.pairwise_cons.mp (List.pairwise_append.mp ps).2.1).1 s' hm;omega
   have:=e2 s' hs'
   rw [show owner.getD (i + s') (some 0)=none from z] at this
   simp at this
  | none =>
   simp only
   have h1:=List.find?_eq_none.mp e
   have no:∀ s,s<=runEnd mask i - i->¬ gJ owner (i + s):=fun s hs z=>by
    have:=h1 s (List.mem_range.mpr (by omega))
    rw [show owner.getD (i + s) (some 0)=none from z] at this
    simp at this
   cases n with
   | zero=>exact absurd hN (no 0 (by omega))
   | succ n =>
    have e3:lp mask (n + 1) (i,pt)=lp mask n (leap mask i pt):=by
     rw [Nat.add_comm,Xm];rfl
    rw [e3] at hN
    obtain ⟨j,s,a1,a2,a3,a4⟩:=ih (leap mask i pt).1 (leap mask i pt).2 n (by omega) hN
    have hl:jd t (runEnd mask i - i + 1) (oM mask i pt none)=oM mask (leap mask i pt).1 (leap mask i pt).2 none:=by
     have:=yS t (oM mask i pt none)
     rw [ht] at this
     exact this
    refine ⟨j,runEnd mask i - i + 1 + s,a1,by rw [qY,hl];exact a2,a3,fun s' hs z=>?_⟩
    by_cases c:s'<=runEnd mask i - i
    ·rw [run s' c] at z;exact no s' c z
    ·obtain ⟨q,rfl⟩:∃ q,s'=runEnd mask i - i + 1 + q:=⟨s' - (runEnd mask i - i + 1),by omega⟩
     rw [qY,hl] at z
     exact a4 q (by omega) z
theorem uH {α β:Type} {f g:α->Option β}:∀ {l:List α},(∀ a∈l,f a=g a)->l.filterMap f=l.filterMap g
 | [],_=>rfl
 | a::l,h=>by
  have ih:=uH (l:=l) fun b hb=>h b (List.mem_cons_of_mem _ hb)
  simp only [List.filterMap_cons,ih,h a List.mem_cons_self]
def dO (M:Nat) (owner:Array (Option Nat)):List (Nat×Nat):=(List.range M).filterMap fun j=>(owner.getD j none).map (j,·)
theorem mG {M:Nat} {owner:Array (Option Nat)} {j i:Nat}:(j,i)∈dO M owner↔j < M/\owner.getD j none=some i:=by
 unfold dO
 simp only [List.mem_filterMap,List.mem_range,Option.map_eq_some_iff,Prod.mk.injEq]
 constructor
 ·rintro ⟨a,h1,b,h2,rfl,rfl⟩;exact ⟨h1,h2⟩
 ·rintro ⟨h1,h2⟩;exact ⟨j,h1,i,h2,rfl,rfl⟩
theorem Aq {M:Nat} {owner:Array (Option Nat)}:((dO M owner).map (·.1)).Pairwise (· < ·):=by
 have e:(dO M owner).map (·.1)=(List.range M).filter fun j=>(owner.getD j none).isSome:=by
  unfold dO
  rw [List.map_filterMap,<- List.filterMap_eq_filter]
  congr 1
  funext j
  generalize hz:owner.getD j none=o
  cases o <;> simp [Option.guard,hz]
 rw [e]
 exact List.Pairwise.sublist List.filter_sublist List.pairwise_lt_range
theorem JF {f f':Nat->Option (Nat×Nat)} {j:Nat} {v:Nat×Nat}:∀ {l:List Nat},l.Nodup->j∈l->f j=none->f' j=some v->(∀ a,a≠j->f' a=f a)->(l.filterMap f').Perm (v::l.filterMap f)
 | [],_,h,_,_,_=>by cases h
 | a::l,nd,h,h1,h2,h3=>by
  have nd':=List.nodup_cons.mp nd
  by_cases c:a=j
  ·subst c
   have same:l.filterMap f'=l.filterMap f:=uH fun b hb=>h3 b fun z=>nd'.1 (z▸hb)
   rw [List.filterMap_cons_some h2,List.filterMap_cons_none h1,same]
  ·have hm:j∈l:=(List.mem_cons.mp h).resolve_left (Ne.symm c)
   have ih:=JF nd'.2 hm h1 h2 h3
   cases e:f a with
   | none =>
    rw [List.filterMap_cons_none (by rw [h3 a c];exact e),List.filterMap_cons_none e];exact ih
   | some b =>
    rw [List.filterMap_cons_some (by rw [h3 a c];exact e),List.filterMap_cons_some e]
    exact (ih.cons b).trans (List.Perm.swap ..)
theorem Oh {M:Nat} {owner:Array (Option Nat)} (hs:owner.size=M) {j k:Nat} (hj:j < M) (hn:owner.getD j none=none):(dO M (owner.setIfInBounds j (some k))).Perm ((j,k)::dO M owner):=by
 unfold dO
 refine JF (j:=j) List.nodup_range (List.mem_range.mpr hj) (by rw [hn];rfl) ?_ fun a ha=>?_
 ·have:(owner.setIfInBounds j (some k)).getD j none=some k:=by simp [Array.getD,hs,hj]
  rw [this];rfl
 ·have:(owner.setIfInBounds j (some k)).getD a none=owner.getD a none:=by
   simp only [Array.getD_eq_getD_getElem?]
   rw [Array.getElem?_setIfInBounds_ne (Ne.symm ha)]
  rw [this]
structure LC (t:SetTable) (hs:List Int) (owner:Array (Option Nat)) (k:Nat):Prop where
 sz:owner.size=t.mask + 1
 pm:((dO (t.mask + 1) owner).map (·.2)).Perm (List.range k)
 reach:∀ j i,(j,i)∈dO (t.mask + 1) owner->∃ h,hs[i]?=some h/\∃ s,pos t h s=j/\∀ s',s' < s->¬ gJ owner (pos t h s')
theorem Rq {owner:Array (Option Nat)} {j:Nat} (h:gJ owner j):j < owner.size/\owner.getD j none=none:=by
 unfold gJ at h
 by_cases c:j < owner.size
 ·simp only [Array.getD,c,dif_pos] at h ⊢;exact ⟨trivial,h⟩
 ·simp [Array.getD,c] at h
theorem LC.step {t:SetTable} {hs:List Int} {owner:Array (Option Nat)} {k:Nat} (g:LC t hs owner k) (pw:∃ q,t.mask + 1=2 ^ q) (hk:k<=t.mask) {h:Int} (hh:hs[k]?=some h) :
  ∃ j,layClean.free t.mask owner (turns t.mask) (bits h % (t.mask + 1)) (bits h)=some j/\LC t hs (owner.setIfInBounds j (some k)) (k + 1):=by
 obtain ⟨q,hq⟩:=pw
 have emp:∃ e,e<=t.mask/\gJ owner e:=by
  refine Classical.byContradiction fun c=>?_
  have all:∀ e,e < t.mask + 1->∃ i,(e,i)∈dO (t.mask + 1) owner:=fun e he=>by
   cases z:owner.getD e none with
   | some i=>exact ⟨i,mG.mpr ⟨he,z⟩⟩
   | none =>
    refine absurd ⟨e,by omega,?_⟩ c
    have hl:e < owner.size:=by rw [g.sz];exact he
    simp only [gJ,Array.getD,hl,dif_pos] at z ⊢;exact z
  have l1:(dO (t.mask + 1) owner).length=k:=by have:=g.pm.length_eq;simpa using this
  have l2:((dO (t.mask + 1) owner).map (·.1))=List.range (t.mask + 1):=by
   unfold dO
   rw [List.map_filterMap]
   have:(List.range (t.mask + 1)).filterMap (fun x=>Option.map (·.1) (Option.map (x,·) (owner.getD x none)))=(List.range (t.mask + 1)).filterMap some:=by
    refine uH fun x hx=>?_
    obtain ⟨i,hi⟩:=all x (List.mem_range.mp hx)
    rw [(mG.mp hi).2];rfl
   rw [this];simp
  have l3:=congrArg List.length l2
  simp at l3
  omega
 obtain ⟨e,he,hN⟩:=emp
 obtain ⟨n,hn,en⟩:=Xn hq (bits h % (t.mask + 1)) (bits h) (Rp h) he
 obtain ⟨j,s,f1,f2,f3,f4⟩:=TX (t:=t) rfl owner (turns t.mask) (bits h % (t.mask + 1)) (bits h) n (by unfold turns;omega) (by rw [en];exact hN)
 obtain ⟨hj,hjn⟩:=Rq f3
 have hp:=Oh (k:=k) g.sz (by rw [<- g.sz];exact hj) hjn
 have stays:∀ a,¬ gJ owner a->¬ gJ (owner.setIfInBounds j (some k)) a:=fun a ha z=>by
  by_cases c:a=j
  ·subst c
   have:=Rq z
   simp [Array.getD,hj] at this
  ·apply ha
   unfold gJ at z ⊢
   simp only [Array.getD_eq_getD_getElem?] at z ⊢
   rw [Array.getElem?_setIfInBounds_ne (Ne.symm c)] at z
   exact z
 refine ⟨j,f1,⟨by simp [g.sz],?_,fun j' i' hm=>?_⟩⟩
 ·have:=(hp.map (fun (x:Nat×Nat)=>x.2)).trans (List.Perm.cons k g.pm)
  refine this.trans ?_
  rw [List.range_succ]
  exact List.perm_append_comm (l₁:=[k]) (l₂:=List.range k)
 ·rcases List.mem_cons.mp (hp.mem_iff.mp hm) with z|z
  ·cases z
   exact ⟨h,hh,s,f2,fun s' hs'=>stays _ (f4 s' hs')⟩
  ·obtain ⟨h',e1,s1,e2,e3⟩:=g.reach j' i' z
   exact ⟨h',e1,s1,e2,fun s' hs'=>stays _ (e3 s' hs')⟩
end Tb
namespace Tb
open PySem PySem.SetTable
theorem Xq {mask i:Nat} (h:i<=mask):i + (runEnd mask i - i)<=mask:=by unfold runEnd;split <;> omega
theorem aeN (t:SetTable) (p:Probe) (h:p.j + p.more<=t.mask):∀ s,(jd t s p).j + (jd t s p).more<=t.mask:=by
 intro s
 induction s with
 | zero=>exact h
 | succ s ih =>
  rw [gH]
  unfold advance
  split
  ·simp only;omega
  ·exact Xq (Nat.le_of_lt_succ (Nat.mod_lt _ (by omega)))
theorem Xr (t:SetTable) (h:Int) (s:Nat):pos t h s<=t.mask:=by
 have:=aeN t (t.probeStart h) (Xq (Nat.le_of_lt_succ (Nat.mod_lt _ (by omega)))) s
 unfold pos;omega
theorem Xu {t:SetTable} (pw:∃ q,t.mask + 1=2 ^ q) (hs:List Int) (hn:hs.length<=t.mask):∀ (rest pre:List Int) (owner:Array (Option Nat)),hs=pre++rest->LC t hs owner pre.length ->
  ∃ Fv,rest.foldl (init:=some (owner,pre.length)) (fun acc h=>do
    let (owner,k) <- acc
    let j <- layClean.free t.mask owner (turns t.mask) (bits h % (t.mask + 1)) (bits h)
    pure (owner.setIfInBounds j (some k),k + 1))=some (Fv,hs.length)/\LC t hs Fv hs.length:=by
 intro rest
 induction rest with
 | nil =>
  intro pre owner e g
  rw [List.append_nil] at e
  subst e
  exact ⟨owner,rfl,g⟩
 | cons h rest ih =>
  intro pre owner e g
  have hk:hs[pre.length]?=some h:=by rw [e];simp
  have hl:pre.length<=t.mask:=by rw [e] at hn;simp at hn;omega
  obtain ⟨j,f1,g1⟩:=g.step pw hl hk
  obtain ⟨Fv,e1,g2⟩:=ih (pre++[h]) (owner.setIfInBounds j (some pre.length)) (by rw [e];simp) (by simpa using g1)
  refine ⟨Fv,?_,g2⟩
  rw [List.foldl_cons]
  have:(some (owner,pre.length) >>= fun x=>match x with
    | (owner,k)=>layClean.free t.mask owner (turns t.mask) (bits h % (t.mask + 1)) (bits h) >>= fun j=>pure (owner.setIfInBounds j (some k),k + 1))=some (owner.setIfInBounds j (some pre.length),(pre++[h]).length):=by
   show (layClean.free t.mask owner (turns t.mask) (bits h % (t.mask + 1)) (bits h) >>= fun j=>pure (owner.setIfInBounds j (some pre.length),pre.length + 1))=_
   rw [f1]
   simp
  exact (congrArg (fun o=>rest.foldl _ o) this).trans e1
theorem LC.start (t:SetTable) (hs:List Int):LC t hs (Array.replicate (t.mask + 1) none) 0:=by
 have e:dO (t.mask + 1) (Array.replicate (t.mask + 1) none)=[]:=by
  unfold dO
  rw [List.filterMap_eq_nil_iff]
  intro j hj
  have:(Array.replicate (t.mask + 1) (none:Option Nat)).getD j none=none:=by
   simp only [Array.getD_eq_getD_getElem?,Array.getElem?_replicate]
   split <;> rfl
  rw [this];rfl
 refine ⟨by simp,by rw [e];exact .refl _,fun j i h=>?_⟩
 rw [e] at h;cases h
theorem JG {t:SetTable} (pw:∃ q,t.mask + 1=2 ^ q) (hs:Array Int) (hn:hs.size<=t.mask):∃ owner,layClean t.mask hs=some owner/\LC t hs.toList owner hs.size:=by
 obtain ⟨owner,e,g⟩:=Xu pw hs.toList (by simpa using hn) hs.toList [] (Array.replicate (t.mask + 1) none) rfl (LC.start t _)
 refine ⟨owner,?_,by simpa using g⟩
 unfold layClean
 rw [<- Array.foldl_toList]
 have e':=congrArg (Option.map (·.1)) e
 exact e'
theorem Fw:∀ (fuel size n:Nat),(∃ q,size=2 ^ q)->8<=size->n < size * 2 ^ fuel->∃ q,sizeAbove.go n fuel size=2 ^ q/\8<=sizeAbove.go n fuel size/\n < sizeAbove.go n fuel size/\(sizeAbove.go n fuel size=size∨sizeAbove.go n fuel size<=2 * n):=by
 intro fuel
 induction fuel with
 | zero=>intro size n ⟨q,hq⟩ h8 h;exact ⟨q,hq,h8,by simpa [sizeAbove.go] using h,.inl rfl⟩
 | succ fuel ih =>
  intro size n ⟨q,hq⟩ h8 h
  unfold sizeAbove.go
  by_cases c:size<=n
  ·rw [if_pos c]
   obtain ⟨q',a1,a2,a3,a4⟩:=ih (size * 2) n ⟨q + 1,by rw [hq,Nat.pow_succ]⟩ (by omega) (by rw [Nat.mul_assoc,<- Nat.pow_succ'];exact h)
   refine ⟨q',a1,a2,a3,.inr ?_⟩
   rcases a4 with a4|a4
   ·rw [a4];omega
   ·exact a4
  ·rw [if_neg c]
   exact ⟨q,hq,h8,by omega,.inl rfl⟩
theorem jw (n:Nat) (hn:n < 2 ^ 60):(∃ q,sizeAbove n - 1 + 1=2 ^ q)/\7<=sizeAbove n - 1/\n<=sizeAbove n - 1/\(sizeAbove n - 1=7∨sizeAbove n<=2 * n):=by
 obtain ⟨q,a1,a2,a3,a4⟩:=Fw 64 8 n ⟨3,rfl⟩ (Nat.le_refl _) (Nat.lt_trans hn (by decide))
 unfold sizeAbove
 refine ⟨⟨q,by rw [<- a1];omega⟩,by omega,by omega,?_⟩
 rcases a4 with a4|a4
 ·left;omega
 ·right;exact a4
theorem rm {mask:Nat} (pw:∃ q,mask + 1=2 ^ q) (m7:7<=mask) (finger moves:Nat) (led plain:Bool) (es:List (Int×Value)) (hn:es.length<=mask) :
  ∃ t' order L,laid mask finger moves led plain (es.map (·.1)).toArray=some (t',order)/\t'.mask=mask/\t'.led=led/\t'.plain=plain/\t'.moves=moves/\Good t' L/\order.filterMap (fun i=>es.toArray[i]?)=(L.map (·.2)).toArray/\(L.map (·.2)).Perm es:=by
 let t0:SetTable:={ mask,place:=#[],dummies:=#[],finger,led,moves,plain }
 obtain ⟨owner,e1,g⟩:=JG (t:=t0) pw (es.map (·.1)).toArray (by simpa using hn)
 let live:=dO (mask + 1) owner
 let t1:SetTable:={ mask,place:=(live.map (·.1)).toArray,dummies:=#[],finger,led,moves,plain }
 have hi:∀ j i,(j,i)∈live->∃ e,es[i]?=some e:=fun j i h=>by
  obtain ⟨hh,a1,_⟩:=g.reach j i h
  simp only [List.getElem?_map,Option.map_eq_some_iff] at a1
  obtain ⟨e,a2,_⟩:=a1
  exact ⟨e,a2⟩
 let L:List gW:=live.filterMap fun x=>(es[x.2]?).map fun e=>(x.1,e)
 have hL1:∀ l:List (Nat×Nat),(∀ x∈l,∃ e,es[x.2]?=some e)->(l.filterMap fun x=>(es[x.2]?).map fun e=>((x.1,e):gW)).map (·.1)=l.map (·.1):=by
  intro l
  induction l with
  | nil=>intro _;rfl
  | cons x l ih =>
   intro h
   obtain ⟨e,he⟩:=h x List.mem_cons_self
   rw [List.filterMap_cons_some (by rw [he];rfl),List.map_cons,List.map_cons,ih fun y hy=>h y (List.mem_cons_of_mem _ hy)]
 have hL2:∀ l:List (Nat×Nat),(l.filterMap fun x=>(es[x.2]?).map fun e=>((x.1,e):gW)).map (·.2)=(l.map (·.2)).filterMap fun i=>es[i]?:=by
  intro l
  rw [List.map_filterMap,List.filterMap_map]
  refine uH fun x _=>?_
  simp only [Function.comp]
  cases es[x.2]? <;> rfl
 have rg:∀ l:List (Int×Value),(List.range l.length).filterMap (fun i=>l[i]?)=l:=by
  intro l
  induction l with
  | nil=>rfl
  | cons a l ih =>
   rw [List.length_cons,List.range_succ_eq_map,List.filterMap_cons_some (by rfl),List.filterMap_map]
   congr 1
 have pmL:(L.map (·.2)).Perm es:=by
  show ((live.filterMap fun x=>(es[x.2]?).map fun e=>((x.1,e):gW)).map (·.2)).Perm es
  rw [hL2]
  have:=(g.pm.filterMap fun i=>es[i]?)
  have e2:(es.map (·.1)).toArray.size=es.length:=by simp
  rw [e2] at this
  rw [rg] at this
  exact this
 refine ⟨t1,(live.map (·.2)).toArray,L,?_,rfl,rfl,rfl,rfl,⟨pw,m7,rfl,?_,?_,fun e he=>?_,fun e he=>?_⟩,?_,pmL⟩
 ·unfold laid
  have e1':layClean mask (es.map (·.1)).toArray=some owner:=e1
  rw [e1']
  rfl
 ·show (live.map (·.1)).toArray=_
  rw [show L.map (·.1)=live.map (·.1) from hL1 live fun x hx=>hi x.1 x.2 hx]
 ·rw [show L.map (·.1)=live.map (·.1) from hL1 live fun x hx=>hi x.1 x.2 hx]
  exact Aq
 ·obtain ⟨x,hx,h2⟩:=List.mem_filterMap.mp he
  obtain ⟨e',_,rfl⟩:=Option.map_eq_some_iff.mp h2
  have:=(mG (j:=x.1) (i:=x.2)).mp hx
  show x.1<=mask
  omega
 ·obtain ⟨x,hx,h2⟩:=List.mem_filterMap.mp he
  obtain ⟨e',h3,rfl⟩:=Option.map_eq_some_iff.mp h2
  obtain ⟨hh,a1,s,a2,a3⟩:=g.reach x.1 x.2 hx
  simp only [List.getElem?_map,h3,Option.map_some,Option.some.injEq] at a1
  subst a1
  have pm:∀ s,pos t1 e'.1 s=pos t0 e'.1 s:=fun s=>pJ (t:=t1) (t':=t0) rfl _ s
  refine ⟨s,by rw [pm];exact a2,fun s' hs=>?_⟩
  have nn:=a3 s' hs
  have hlt:pos t0 e'.1 s' < mask + 1:=Nat.lt_succ_of_le (Xr t0 e'.1 s')
  cases z:owner.getD (pos t0 e'.1 s') none with
  | none =>
   refine absurd ?_ nn
   have hl:pos t0 e'.1 s' < owner.size:=by rw [g.sz];exact hlt
   simp only [gJ,Array.getD,hl,dif_pos] at z ⊢;exact z
  | some i =>
   have hm:(pos t0 e'.1 s',i)∈live:=mG.mpr ⟨hlt,z⟩
   obtain ⟨e2,he2⟩:=hi _ _ hm
   refine ⟨(pos t0 e'.1 s',e2),List.mem_filterMap.mpr ⟨_,hm,by rw [he2];rfl⟩,by rw [pm]⟩
 ·rw [show L.map (·.2)=(live.map (·.2)).filterMap fun i=>es[i]? from hL2 live]
  simp
end Tb
namespace Tb
open PySem PySem.Spec PySem.SetTable
abbrev TK (prog:Program) (w:World):=tupleKind (intKind prog w)
abbrev hK (prog:Program) (w:World) (ks:List Int):Int:=tupleKeyHash (intKind prog w) ks
def Fx (prog:Program) (w:World) (h:Heap) (e:gW) (ks:List Int):Prop:=∃ b,e.2.2=.ref b/\IsTupleKey (intKind prog w) h ks b/\e.2.1=hK prog w ks
section
variable {prog:Program} {w:World} {A:Around} {E:Value->Shared->Prop} {s:Shared}
theorem Fy {n:Nat} {v:Value} (h:carriedByValue v=true):ofAClassStatement n v=pure false:=by
 cases v with
 | ref a=>simp [carriedByValue] at h
 | _=>first|rfl|(unfold ofAClassStatement;rfl)
theorem uI {ks:List Int} {b:Addr} {Q:Bool->Shared->Prop} (hk:IsTupleKey (intKind prog w) s.heap ks b) (h:Q false s):wpAny (model prog w) A (ofAClassStatement 8 (.ref b)) Q E s:=by
 have hT:=hk.typeIs
 obtain ⟨o,items,n,ho,hc,hd,hi⟩:=hk
 unfold ofAClassStatement
 refine wpAny_bind (wpAny_typeOf hT ?_)
 simp only [beq_self_eq_true,if_true]
 refine wpAny_bind (wpAny_pure ?_)
 simp only [Bool.not_true,Bool.false_eq_true,if_false]
 refine wpAny_bind (wpAny_seqItems ho hd ?_)
 refine wpAny_bind ?_
 show wpAny _ _ (forIn items _ _) _ _ s
 rw [<- Array.forIn_toList]
 refine wpAny_forIn_list _ (fun rest r s'=>r.1=none/\s'=s/\∀ v∈rest,carriedByValue v=true) _ ?_ ?_ _ _ ⟨rfl,rfl,hi.byValue⟩
 ·rintro v rest r s' ⟨hr,rfl,hall⟩
  rw [Fy (hall v List.mem_cons_self)]
  refine wpAny_bind (wpAny_pure ?_)
  simp only [Bool.false_eq_true,if_false]
  exact wpAny_pure ⟨rfl,rfl,fun u hu'=>hall u (List.mem_cons_of_mem _ hu')⟩
 ·rintro ⟨r1,r2⟩ s' ⟨hr,rfl,_⟩
  simp only at hr
  subst hr
  exact wpAny_pure h
theorem Fz {ks:List Int} {b:Addr} {Q:Bool->Shared->Prop} (hk:IsTupleKey (intKind prog w) s.heap ks b) (ys:List Value) (hy:∀ y∈ys,∃ k' b',y=.ref b'/\IsTupleKey (intKind prog w) s.heap k' b') (h:Q false s) :
  wpAny (model prog w) A (searchCouldBeSeen (.ref b) ys) Q E s:=by
 unfold searchCouldBeSeen
 refine wpAny_bind ?_
 refine wpAny_forIn_list _ (fun rest r s'=>r.1=none/\s'=s/\∀ y∈rest,∃ k' b',y=.ref b'/\IsTupleKey (intKind prog w) s.heap k' b') _ ?_ ?_ _ _ ⟨rfl,rfl,hy⟩
 ·rintro v rest r s' ⟨hr,rfl,hall⟩
  obtain ⟨k',b',rfl,hk'⟩:=hall v List.mem_cons_self
  have Rr:∀ y∈rest,∃ k' b',y=Value.ref b'/\IsTupleKey (intKind prog w) s'.heap k' b':=fun y hy=>hall y (List.mem_cons_of_mem _ hy)
  dsimp only
  by_cases c:b=b'
  ·subst c
   simp only [beq_self_eq_true,Bool.true_or,if_true]
   exact wpAny_pure ⟨rfl,rfl,Rr⟩
  ·have hc:(b == b')=false:=by simpa using c
   simp only [hc,carriedByValue,Bool.false_and,Bool.or_self,Bool.false_eq_true,if_false]
   refine wpAny_bind (wpAny_eqIsQuiet_tuple hk ?_)
   simp only [Bool.not_true,Bool.false_eq_true,if_false]
   refine wpAny_bind (wpAny_eqIsQuiet_tuple hk' ?_)
   simp only [Bool.not_true,Bool.false_eq_true,if_false]
   refine wpAny_bind (uI hk ?_)
   simp only [Bool.false_eq_true,if_false]
   refine wpAny_bind (uI hk' ?_)
   simp only [Bool.false_eq_true,if_false]
   exact wpAny_pure ⟨rfl,rfl,Rr⟩
 ·rintro ⟨r1,r2⟩ s' ⟨hr,rfl,_⟩
  simp only at hr
  subst hr
  exact wpAny_pure h
theorem pK {a:Addr} {Q:Bool->Shared->Prop} (h:Q true s):wpAny (model prog w) A (isSame (.ref a) (.ref a)) Q E s:=by
 unfold isSame
 simp only [beq_self_eq_true,if_true]
 exact wpAny_pure h
end
end Tb
namespace Tb
open PySem PySem.Spec PySem.SetTable
section
variable {prog:Program} {w:World} {A:Around} {E:Value->Shared->Prop} {s:Shared}
abbrev bL (L:List gW) (ep:Nat) (t:SetTable):Obj:={ cls:=.type "set",dict:=none,data:=.set (L.map (·.2)).toArray ep t }
theorem Good.fits {t:SetTable} {L:List gW} (g:Good t L) (hl:L.length<=t.mask):t.fits ((L.map (·.2)).toArray).size=true:=by
 unfold PySem.SetTable.fits
 have h1:t.fill<=t.mask:=by unfold fill;rw [g.nd,g.sz];simpa using hl
 simp [g.sz,h1]
theorem Good.odd {t:SetTable} {L:List gW} (g:Good t L):t.gaveWay=false:=by
 obtain ⟨k,hk⟩:=g.pw
 have h7:=g.m7
 unfold gaveWay
 cases k with
 | zero=>simp at hk;omega
 | succ k =>
  have:t.mask % 2=1:=by rw [Nat.pow_succ] at hk;omega
  simp [this]
theorem Oi {a b:Addr} {ks:List Int} {L:List gW} {ep:Nat} {t:SetTable} {f:gW->List Int} {Q:SetFound->Shared->Prop} (ho:s.heap.get? a=some (bL L ep t)) (g:Good t L) (hl:L.length<=t.mask) (hf:∀ e∈L,Fx prog w s.heap e (f e))
  (hb:IsTupleKey (intKind prog w) s.heap ks b) (hu:A.units < cLine) (q1:(∃ e∈L,f e=ks)->Q (.there none) s)
  (q2:∀ j,j<=t.mask->¬ mF t j->(∃ n,pos t (hK prog w ks) n=j/\∀ n',n' < n->∃ e'∈L,e'.1=pos t (hK prog w ks) n')->(∀ e∈L,f e≠ks)->Q (.free j false) s) :
  ∀ (fuel s0 sE:Nat) (jP:Option Probe),s0<=sE->sE < s0 + fuel->sE < s0 + 10 * turns t.mask->¬ mF t (pos t (hK prog w ks) sE)->jP.getD (t.probeStart (hK prog w ks))=jd t s0 (t.probeStart (hK prog w ks)) ->
   (∀ n,n < s0->∃ e∈L,e.1=pos t (hK prog w ks) n/\f e≠ks)->wpAny (model prog w) A (setSearchFrom a (.ref b) (hK prog w ks) true fuel jP) Q E s:=by
 intro fuel
 induction fuel with
 | zero=>intro s0 sE _ h1 h2;omega
 | succ fuel ih =>
  intro s0 sE jP h1 h2 h2' hE hst hpre
  unfold setSearchFrom
  refine wpAny_bind (wpAny_setState_of ho rfl (g.fits hl) ?_)
  simp only [g.odd,Bool.false_eq_true,if_false]
  obtain ⟨s2,a1,a2,a3,a4⟩:=JD g.rise g.nd (fun i=>((((L.map (·.2)).toArray)[i]?).map (·.1)).getD 0) (hK prog w ks) (10 * turns t.mask) s0 sE h1 h2' hE
  have hh:∀ i (hi:i < L.length),((((L.map (·.2)).toArray)[i]?).map (·.1)).getD 0=L[i].2.1:=fun i hi=>by simp [hi]
  have passed:∀ n,n < s2->∃ e∈L,e.1=pos t (hK prog w ks) n/\f e≠ks:=fun n hn=>by
   by_cases c:n < s0
   ·exact hpre n c
   ·obtain ⟨i,hi,e1,e2⟩:=a3 n (by omega) hn
    rw [g.sz] at hi
    rw [g.at hi] at e1
    rw [hh i hi] at e2
    refine ⟨L[i],List.getElem_mem hi,e1,fun z=>e2 ?_⟩
    obtain ⟨b',_,_,e3⟩:=hf _ (List.getElem_mem hi)
    rw [e3,z]
  rcases a4 with ⟨hne,hp⟩|⟨i,hi,e1,e2,hp⟩
  ·-- an empty slot
   have hp':t.probe (fun i=>((((L.map (·.2)).toArray)[i]?).map (·.1)).getD 0) (hK prog w ks) (jP.getD (t.probeStart (hK prog w ks)))=some (.empty (pos t (hK prog w ks) s2) none):=by rw [hst];exact hp
   generalize hr:t.probe _ (hK prog w ks) (jP.getD (t.probeStart (hK prog w ks)))=r
   obtain rfl:r=_:=hr.symm.trans hp'
   simp only
   refine wpAny_pure (q2 _ (Xr t _ _) hne ⟨s2,rfl,fun n hn=>?_⟩ fun e he z=>?_)
   ·obtain ⟨e,he,q,_⟩:=passed n hn;exact ⟨e,he,q⟩
   ·obtain ⟨b',_,_,e3⟩:=hf e he
    obtain ⟨n,r1,r2⟩:=g.reach e he
    rw [e3,z] at r1 r2
    by_cases c:n < s2
    ·obtain ⟨e',he',q,ne⟩:=passed n c
     have:=g.uniq he' he (q.trans r1)
     subst this
     exact ne z
    ·by_cases d:s2 < n
     ·obtain ⟨e',he',q⟩:=r2 s2 d
      exact hne (g.live.mpr ⟨e',he',q⟩)
     ·obtain rfl:n=s2:=by omega
      exact hne (g.live.mpr ⟨e,he,r1.symm⟩)
  ·-- a key with the same hash
   rw [g.sz] at hi
   have e1':=e1
   rw [g.at hi] at e1
   obtain ⟨b',hv,hk',hx⟩:=hf _ (List.getElem_mem hi)
   have hp':t.probe (fun i=>((((L.map (·.2)).toArray)[i]?).map (·.1)).getD 0) (hK prog w ks) (jP.getD (t.probeStart (hK prog w ks)))=some (.candidate (pos t (hK prog w ks) s2) i (jd t (s2 + 1) (t.probeStart (hK prog w ks)))):=by rw [hst];exact hp
   generalize hr:t.probe _ (hK prog w ks) (jP.getD (t.probeStart (hK prog w ks)))=r
   obtain rfl:r=_:=hr.symm.trans hp'
   simp only
   have ei:((L.map (·.2)).toArray)[i]?=some (L[i].2.1,.ref b'):=by
    have:((L.map (·.2)).toArray)[i]?=some L[i].2:=by simp [hi]
    rw [this,<- hv]
   have rest:wpAny (model prog w) A (do
     let some (_,y):=((L.map (·.2)).toArray)[i]?|unsupported "internal:set-entry"
     let equal <- holding [y] (eqBool y (.ref b))
     let (es',_,t') <- setState a
     if true && equal then return .there none
     let some same:=t'.sameMemory t.moves t.mask|unsupported "set.changed-during-lookup:is-the-new-block-at-the-old-address"
     let still <- match (if same then t'.slot (pos t (hK prog w ks) s2) else .empty) with
      | .live i'=>match es'[i']? with
       | some (_,y')=>do pure (if <- isSame y' y then some i' else none)
       | none=>pure none
      | _=>pure none
     match still with
     | none=>rule "set.search.anew";setSearchFrom a (.ref b) (hK prog w ks) true fuel none
     | some i'=>if equal then return .there (some i') else setSearchFrom a (.ref b) (hK prog w ks) true fuel (some (jd t (s2 + 1) (t.probeStart (hK prog w ks))))) Q E s:=by
    rw [ei]
    simp only
    refine wpAny_bind (wpAny_holding ((TK prog w).eqBool hu hk' hb ?_))
    refine wpAny_bind (wpAny_setState_of ho rfl (g.fits hl) ?_)
    by_cases c:f L[i]=ks
    ·simp only [c,decide_true,Bool.and_self,if_true]
     exact wpAny_pure (q1 ⟨_,List.getElem_mem hi,c⟩)
    ·simp only [c,decide_false,Bool.and_false,Bool.false_eq_true,if_false]
     have hsm:t.sameMemory t.moves t.mask=some true:=by unfold sameMemory;simp
     rw [hsm]
     simp only [if_true]
     have hsl:t.slot (pos t (hK prog w ks) s2)=.live i:=by rw [<- e1'];exact qZ g.rise (by rw [g.sz];exact hi)
     rw [hsl]
     simp only [ei]
     refine wpAny_bind (pK (wpAny_bind (wpAny_pure ?_)))
     simp only [if_true]
     have hne:s2≠sE:=fun z=>hE (z▸g.live.mpr ⟨_,List.getElem_mem hi,e1⟩)
     refine ih (s2 + 1) sE _ (by omega) (by omega) (by omega) hE rfl fun n hn=>?_
     by_cases d:n=s2
     ·subst d;exact ⟨_,List.getElem_mem hi,e1,c⟩
     ·exact passed n (by omega)
   cases ahm:t.led with
   | true=>simp only [Bool.not_true,Bool.false_eq_true,if_false];exact rest
   | false =>
    simp only [Bool.not_false,if_true]
    refine wpAny_bind (Fz hb _ (fun y hy=>?_) ?_)
    ·obtain ⟨e,he,rfl⟩:=List.mem_map.mp hy
     have he':e∈(L.map (·.2)):=by
      have:=Array.mem_toList_iff.mp he
      have:=(Array.mem_filter.mp this).1
      simpa using this
     obtain ⟨e0,h0,rfl⟩:=List.mem_map.mp he'
     obtain ⟨b2,hv2,hk2,_⟩:=hf e0 h0
     exact ⟨_,b2,hv2,hk2⟩
    ·simp only [Bool.false_eq_true,if_false];exact rest
end
end Tb
namespace Tb
open PySem PySem.Spec PySem.SetTable
section
variable {prog:Program} {w:World} {A:Around} {E:Value->Shared->Prop} {s:Shared}
theorem JH {ks:List Int} {b:Addr} {Q:Bool->Shared->Prop} (hk:IsTupleKey (intKind prog w) s.heap ks b) (h:Q true s):wpAny (model prog w) A (hashByValue 8 (.ref b)) Q E s:=by
 have hT:=hk.typeIs
 obtain ⟨o,items,n,ho,hc,hd,hi⟩:=hk
 have allI:∀ v∈items.toList,∃ i t,v=.int i t:=by
  clear hd
  generalize items.toList=l at hi
  induction hi with
  | nil=>intro v hv;cases hv
  | cons h1 _ ih =>
   intro v hv
   rcases List.mem_cons.mp hv with rfl|hv
   ·cases v with
    | int i t=>exact ⟨i,t,rfl⟩
    | _=>simp [intKind,Value.isInt] at h1
   ·exact ih v hv
 unfold hashByValue
 refine wpAny_bind (wpAny_specialOf hT F.slot_tuple_hash.lookup ?_)
 simp only
 refine wpAny_bind (wpAny_seqItems ho hd ?_)
 simp only [Option.getD_some]
 refine wpAny_bind ?_
 rw [<- Array.forIn_toList]
 refine wpAny_forIn_list _ (fun rest r s'=>r.1=none/\s'=s/\∀ v∈rest,∃ i t,v=.int i t) _ ?_ ?_ _ _ ⟨rfl,rfl,allI⟩
 ·rintro v rest r s' ⟨hr,rfl,hall⟩
  obtain ⟨i,t,rfl⟩:=hall v List.mem_cons_self
  have:hashByValue 7 (.int i t)=pure true:=by unfold hashByValue;rfl
  rw [this]
  refine wpAny_bind (wpAny_pure ?_)
  simp only [Bool.not_true,Bool.false_eq_true,if_false]
  exact wpAny_pure ⟨rfl,rfl,fun u hu'=>hall u (List.mem_cons_of_mem _ hu')⟩
 ·rintro ⟨r1,r2⟩ s' ⟨hr,rfl,_⟩
  simp only at hr
  subst hr
  exact wpAny_pure h
abbrev jj (w:World):Bool:=w.params.followText "set-order"
def aL (prog:Program) (w:World) (U:Addr->List Int->Prop) (h:Heap) (a:Addr) (aF:List (List Int)):Prop :=
 ∃ (L:List gW) (ep:Nat) (t:SetTable) (f:Int×Value->List Int),h.get? a=some (bL L ep t)/\Good t L/\L.length * 5 < t.mask * 3/\t.mask < 8000/\(t.plain=true/\t.led=!jj w)/\(∀ e∈L,Fx prog w h e (f e.2))/\(L.map fun e=>f e.2).Perm aF/\aF.Nodup/\∀ e∈L,∀ b,e.2.2=.ref b->U b (f e.2)
theorem je {h h':Heap} {a:Addr} {L:List gW} {ep:Nat} {t:SetTable} {ks:List Int} {b:Addr} (ho:h.get? a=some (bL L ep t)) (hs:Heap.SameBut a h h') (hk:IsTupleKey (intKind prog w) h ks b):IsTupleKey (intKind prog w) h' ks b:=by
 obtain ⟨o,items,n,h1,h2,h3,h4⟩:=hk
 have ne:b≠a:=fun z=>by
  subst z;rw [ho] at h1;cases h1;cases h3
 exact ⟨o,items,n,(hs.2 b ne).trans h1,h2,h3,h4⟩
theorem jQ {a:Addr} {L L':List gW} {ep:Nat} {t t':SetTable} {Q:Unit->Shared->Prop} (ho:s.heap.get? a=some (bL L ep t)) (hz:L'.length<=1000000) (h:∀ h',Heap.SameBut a s.heap h'->h'.get? a=some (bL L' (ep + 1) t')->Q () { s with heap:=h' }) :
  wpAny (model prog w) A (storeSet a (L'.map (·.2)).toArray t') Q E s:=by
 refine wpAny_storeSet_of ho rfl (h _ (Heap.SameBut.update s.heap a _) ?_) (by rw [sizeLine_eq];simp;omega)
 have hd:(bL L ep t).data=.set (L.map (·.2)).toArray ep t:=rfl
 have:=Heap.get?_update_self (Obj.putSet (L'.map (·.2)).toArray t') ho (by rw [putSet_of _ _ hd];rfl)
 rw [putSet_of _ _ hd] at this
 exact this
theorem Xv {a:Addr} {L:List gW} {ep:Nat} {t:SetTable} {Q:Unit->Shared->Prop} (ho:s.heap.get? a=some (bL L ep t)) (g:Good t L) (hl:L.length<=t.mask) (h1:1<=L.length) (hz:L.length<=1000) (hp:t.plain=true)
  (h:∀ h' L' t',Heap.SameBut a s.heap h'->h'.get? a=some (bL L' (ep + 1) t')->Good t' L'->L'.length * 5 < t'.mask * 3->(t'.mask=7∨t'.mask + 1<=8 * L'.length)->(t'.plain=true/\t'.led=t.led)->(L'.map (·.2)).Perm (L.map (·.2))->Q () { s with heap:=h' }) :
  wpAny (model prog w) A (setRelay a (grown L.length)) Q E s:=by
 have hg:grown L.length=L.length * 4:=by unfold grown;rw [if_neg (by omega)]
 rw [hg]
 obtain ⟨s1,s2,s3,s4⟩:=jw (L.length * 4) (by omega)
 unfold setRelay
 refine wpAny_bind (wpAny_setState_of ho rfl (g.fits hl) ?_)
 have hsz:¬ sizeAbove (L.length * 4) > sizeLine:=by rw [sizeLine_eq];omega
 simp only [hsz,if_false]
 obtain ⟨t',order,L',e1,e2,e3,e4,e5,g',e6,e7⟩:=rm s1 s2 t.finger (t.movedTo (sizeAbove (L.length * 4) - 1)) t.led t.plain (L.map (·.2)) (by simp;omega)
 have hlen:L'.length=L.length:=by have:=e7.length_eq;simpa using this
 have er:t.relaid (((L.map (·.2)).toArray).map (·.1)) (L.length * 4)=some (t',order):=by
  unfold relaid
  have:((L.map (·.2)).toArray).map (·.1)=((L.map (·.2)).map (·.1)).toArray:=by simp
  rw [this];exact e1
 have main:wpAny (model prog w) A (do
   let some (t,order):=t.relaid (((L.map (·.2)).toArray).map (·.1)) (L.length * 4)|unsupported "internal:set-table-without-room"
   let es':=order.filterMap (((L.map (·.2)).toArray)[·]?)
   if es'.size != ((L.map (·.2)).toArray).size then unsupported "internal:set-table-lost-an-element"
   pure (es',t)) (fun r s'=>wpAny (model prog w) A (storeSet a r.1 r.2) Q E s') E s:=by
  rw [er]
  simp only
  rw [e6]
  have:((L'.map (·.2)).toArray.size != ((L.map (·.2)).toArray).size)=false:=by simp [hlen]
  rw [this]
  simp only [Bool.false_eq_true,if_false]
  refine wpAny_pure ?_
  refine jQ (t':=t') ho (by omega) fun h' hs hg=>h h' L' t' hs hg g' (by rw [e2,hlen];omega) ?_ ⟨e4.trans hp,e3⟩ e7
  rw [e2,hlen]
  rcases s4 with s4|s4
  ·exact .inl s4
  ·right;omega
 exact wpAny_bind main
end
end Tb
namespace Tb
open PySem PySem.Spec PySem.SetTable
section
variable {prog:Program} {w:World} {U:Addr->List Int->Prop} {A:Around} {E:Value->Shared->Prop} {s:Shared}
theorem aL.len {h:Heap} {a:Addr} {aF:List (List Int)} (x:aL prog w U h a aF):∃ (L:List gW) (ep:Nat) (t:SetTable),h.get? a=some (bL L ep t)/\L.length=aF.length:=by
 obtain ⟨L,ep,t,f,ho,_,_,_,_,_,hp,_⟩:=x
 exact ⟨L,ep,t,ho,by have:=hp.length_eq;simpa using this⟩
theorem mH {a b:Addr} {ks:List Int} {aF:List (List Int)} {Q:Bool->Shared->Prop} (hS:aL prog w U s.heap a aF) (hn:aF.length < 1000) (hb:IsTupleKey (intKind prog w) s.heap ks b) (hU:U b ks) (hu:A.units < cLine)
  (h:∀ h' added,Heap.SameBut a s.heap h'->aL prog w U h' a (if ks∈aF then aF else ks::aF)->Q added { s with heap:=h' }):wpAny (model prog w) A (setAddHashed a (.ref b) (hK prog w ks)) Q E s:=by
 have hS0:=hS
 obtain ⟨L,ep,t,f,ho,g,room,mb,⟨pl,ld⟩,hf,hp,nd,uu⟩:=hS
 have hlen:L.length=aF.length:=by have:=hp.length_eq;simpa using this
 have h7:=g.m7
 have hl:L.length<=t.mask:=by omega
 have adi:t.mask < 8000:=mb
 have self:∀ added,(ks∈aF)->Q added s:=fun added hm=>by
  have:=h s.heap added (Heap.SameBut.refl a s.heap) (by rw [if_pos hm];exact hS0)
  cases s;exact this
 unfold setAddHashed
 refine wpAny_holding ?_
 unfold setAddHashedIn
 refine wpAny_bind (wpAny_setState_of ho rfl (g.fits hl) ?_)
 have hby:byScan (.ref b) (L.map (·.2)).toArray=false:=by simp [byScan,Value.scannable]
 simp only [hby,Bool.false_eq_true,if_false]
 obtain ⟨e0,he0,hE0⟩:=yU g.rise (by rw [g.sz];exact hl)
 obtain ⟨k,hk⟩:=g.pw
 obtain ⟨sE,_,hsE,pE⟩:=Fq hk (hK prog w ks) 0 he0
 refine wpAny_bind ?_
 unfold setSearch
 refine Oi (f:=fun e=>f e.2) (Q:=fun r s'=>wpAny (model prog w) A (match r with
  | .free slot wasDummy=>_
  | _=>_) Q E s') ho g hl hf hb hu (fun hm=>?_) (fun j hj hnl hr hno=>?_) 100000 0 sE none (Nat.zero_le _) (by omega) (by unfold turns;omega) (by rw [pE];exact hE0) rfl (fun n hn=>absurd hn (by omega))
 ·obtain ⟨e,he,q⟩:=hm
  exact wpAny_pure (self false (hp.mem_iff.mp (List.mem_map.mpr ⟨e,he,q⟩)))
 ·have hnk:¬ ks∈aF:=fun z=>by
   obtain ⟨e,he,q⟩:=List.mem_map.mp (hp.mem_iff.mpr z)
   exact hno e he q
  obtain ⟨p1,g'⟩:=g.put (h:=hK prog w ks) (x:=.ref b) hj hnl hr
  simp only
  refine wpAny_bind (wpAny_setState_of ho rfl (g.fits hl) ?_)
  have epl:(t.put j).1.plain=true:=by rw [Ft t g.nd];exact pl
  have emk:(t.put j).1.mask=t.mask:=by rw [Ft t g.nd]
  have eld:(t.put j).1.led=!jj w:=by rw [Ft t g.nd];exact ld
  generalize hpt:t.put j=tp at p1 g' epl emk eld
  obtain ⟨t',p⟩:=tp
  simp only at p1 g' epl emk eld ⊢
  simp only [epl,if_true]
  refine wpAny_bind (JH hb ?_)
  simp only [if_true]
  have ein:insertAt (L.map (·.2)).toArray p (hK prog w ks,Value.ref b)=((L.take p++(j,hK prog w ks,Value.ref b)::L.drop p).map (·.2)).toArray:=by
   rw [lD _ _ (by simpa using p1)]
   simp [List.map_take,List.map_drop]
  rw [ein]
  generalize hL':L.take p++(j,hK prog w ks,Value.ref b)::L.drop p=L' at g' ⊢
  have hlen':L'.length=L.length + 1:=by rw [<- hL'];simp;omega
  have Xw:L'.Perm ((j,hK prog w ks,Value.ref b)::L):=by
   rw [<- hL']
   refine (List.perm_middle).trans ?_
   rw [List.take_append_drop]
  have hfj:∀ e∈L,e.2≠(hK prog w ks,Value.ref b):=fun e he z=>by
   obtain ⟨b',h1,h2,h3⟩:=hf e he
   rw [z] at h1
   cases h1
   exact hno e he (h2.inj hb)
  let f':Int×Value->List Int:=fun x=>if x=(hK prog w ks,Value.ref b) then ks else f x
  have keys:∀ {h':Heap},Heap.SameBut a s.heap h'->∀ e∈L',Fx prog w h' e (f' e.2):=fun {h'} hs e he=>by
   rcases List.mem_cons.mp (Xw.mem_iff.mp he) with z|z
   ·subst z
    exact ⟨b,rfl,by simp only [f',if_true];exact je ho hs hb,by simp only [f',if_true]⟩
   ·obtain ⟨b',h1,h2,h3⟩:=hf e z
    have:f' e.2=f e.2:=by simp only [f'];rw [if_neg (hfj e z)]
    exact ⟨b',h1,by rw [this];exact je ho hs h2,by rw [this];exact h3⟩
  have adk:(L'.map fun e=>f' e.2).Perm (ks::aF):=by
   refine (Xw.map _).trans ?_
   simp only [List.map_cons,f',if_true]
   refine List.Perm.cons _ ?_
   have:(L.map fun e=>if e.2=(hK prog w ks,Value.ref b) then ks else f e.2)=L.map fun e=>f e.2:=List.map_congr_left fun e he=>by rw [if_neg (hfj e he)]
   rw [this];exact hp
  have nd':(ks::aF).Nodup:=List.nodup_cons.mpr ⟨hnk,nd⟩
  have uu':∀ e∈L',∀ c,e.2.2=.ref c->U c (f' e.2):=fun e he c ec=>by
   rcases List.mem_cons.mp (Xw.mem_iff.mp he) with z|z
   ·subst z;cases ec;simp only [f',if_true];exact hU
   ·rw [show f' e.2=f e.2 by simp only [f'];rw [if_neg (hfj e z)]];exact uu e z c ec
  refine wpAny_bind (jQ (t':=t') ho (by omega) fun h1 hs1 ho1=>?_)
  have hfill:t'.fill=L'.length:=by unfold fill;rw [g'.nd,g'.sz];simp
  have esz:(L.map (·.2)).toArray.size + 1=L'.length:=by simp [hlen']
  cases htf:t'.tooFull with
  | false =>
   simp only [Bool.not_false,Bool.and_false,Bool.false_eq_true,if_false]
   refine wpAny_pure (h h1 true hs1 ?_)
   rw [if_neg hnk]
   have hroom:L'.length * 5 < t'.mask * 3:=by
    unfold tooFull at htf
    rw [hfill] at htf
    simpa using htf
   exact ⟨L',ep + 1,t',f',ho1,g',hroom,by rw [emk];exact mb,⟨epl,eld⟩,keys hs1,adk,nd',uu'⟩
  | true =>
   simp only [Bool.not_false,Bool.and_true,if_true]
   rw [esz]
   refine wpAny_bind (Xv (s:={ s with heap:=h1 }) ho1 g' (by rw [emk];omega) (by omega) (by omega) epl fun h2 L2 t2 hs2 ho2 g2 r2 m2 p2 pm2=>?_)
   refine wpAny_pure (h h2 true (hs1.trans hs2) ?_)
   rw [if_neg hnk]
   have hv:∀ e∈L2,∃ e1∈L',e1.2=e.2:=fun e he=>by
    have:e.2∈L'.map (·.2):=pm2.mem_iff.mp (List.mem_map.mpr ⟨e,he,rfl⟩)
    obtain ⟨e1,h1,h2⟩:=List.mem_map.mp this
    exact ⟨e1,h1,h2⟩
   have hl2:L2.length=L'.length:=by have:=pm2.length_eq;simpa using this
   refine ⟨L2,ep + 1 + 1,t2,f',ho2,g2,r2,(by rcases m2 with z|z <;> omega),⟨p2.1,p2.2.trans eld⟩,fun e he=>?_,?_,nd',fun e he c ec=>let ⟨e1,h1,q⟩:=hv e he;by rw [<- q];exact uu' e1 h1 c (by rw [q];exact ec)⟩
   ·obtain ⟨e1,he1,q⟩:=hv e he
    obtain ⟨b',k1,k2,k3⟩:=keys (hs1.trans hs2) e1 he1
    rw [q] at k1 k2 k3
    exact ⟨b',k1,k2,k3⟩
   ·have:=(pm2.map f')
    rw [List.map_map,List.map_map] at this
    exact this.trans adk
theorem TY {a b:Addr} {ks:List Int} {aF:List (List Int)} {Q:Bool->Shared->Prop} (hS:aL prog w U s.heap a aF) (hn:aF.length < 1000) (hb:IsTupleKey (intKind prog w) s.heap ks b) (hU:U b ks) (hu:A.units < cLine)
  (h:∀ h' added tk,Heap.SameBut a s.heap h'->aL prog w U h' a (if ks∈aF then aF else ks::aF)->Q added { s with heap:=h',toks:=s.toks + tk }):wpAny (model prog w) A (setAdd a (.ref b)) Q E s:=by
 unfold setAdd
 refine wpAny_holding (wpAny_bind (wpAny_pyHash_tuple hu hb ?_))
 exact mH (s:={ s with toks:=s.toks + (ks.length + 1) }) hS hn hb hU hu fun h' added hs hS'=>h h' added _ hs hS'
end
end Tb
namespace Tb
open PySem PySem.Spec PySem.SetTable
def ins (acc:List (List Int)) (k:List Int):List (List Int):=if k∈acc then acc else k::acc
def bO (l:List (List Int)):List (List Int):=l.foldl ins []
theorem aaU (acc:List (List Int)) (k:List Int):(ins acc k).length<=acc.length + 1:=by unfold ins;split <;> simp
theorem sy (l:List (List Int)):(bO l).length<=l.length:=by
 unfold bO
 have:∀ (l acc:List (List Int)),(l.foldl ins acc).length<=acc.length + l.length:=by
  intro l
  induction l with
  | nil=>intro acc;simp
  | cons a l ih=>intro acc;rw [List.foldl_cons];have:=ih (ins acc a);have:=aaU acc a;simp only [List.length_cons];omega
 simpa using this l []
theorem JK (l:List (List Int)) (k:List Int):bO (l++[k])=ins (bO l) k:=by unfold bO;rw [List.foldl_append];rfl
section
variable {prog:Program} {w:World} {U:Addr->List Int->Prop} {A:Around} {R:Result->Shared->Prop} {I:Addr} {fp wr:List Addr} {G:Array GenState->Array GenState->Prop} {n:Nat} {P:Nat->Value->Prop} {St:Nat->Shared->Prop}
theorem aL.moved {h h':Heap} {a:Addr} {aF:List (List Int)} (x:aL prog w U h a aF) (k:∀ b o,(b=a∨∃ ks,IsTupleKey (intKind prog w) h ks b)->h.get? b=some o->h'.get? b=some o):aL prog w U h' a aF:=by
 obtain ⟨L,ep,t,f,ho,g,room,mb,pl,hf,hp,nd⟩:=x
 refine ⟨L,ep,t,f,k _ _ (.inl rfl) ho,g,room,mb,pl,fun e he=>?_,hp,nd⟩
 obtain ⟨b,h1,h2,h3⟩:=hf e he
 have h2':=h2
 obtain ⟨o,items,m,q1,q2,q3,q4⟩:=h2
 exact ⟨b,h1,⟨o,items,m,k _ _ (.inr ⟨_,h2'⟩) q1,q2,q3,q4⟩,h3⟩
theorem Oj {h:Heap} {b c:Addr} {ks:List Int} {o:Obj} (hk:IsTupleKey (intKind prog w) h ks b) (hc:h.get? c=some o) (hd:∀ xs m,o.data≠.seq xs m):b≠c:=fun z=>by
 subst z
 obtain ⟨o',items,m,q1,q2,q3,q4⟩:=hk
 rw [hc] at q1;cases q1;exact hd _ _ q3
theorem adl (W:WalksS prog w A.in1 I fp wr G n P St) (D:Addr) (hDf:D∉fp) (hu:A.in1.units < cLine) (ks:Nat->List Int) (hn:n < 1000) (hwt:∀ i s,St i s->∀ b∈wr,∀ o,s.heap.get? b=some o->∀ xs m,o.data≠.seq xs m) :
  ∀ (k i:Nat) (s:Shared),n - i=k->i<=n->St i s->(∀ j v,P j v->∃ b,v=.ref b/\b∉wr/\IsTupleKey (intKind prog w) s.heap (ks j) b/\U b (ks j)) ->
   aL prog w U s.heap D (bO ((List.range i).map ks)) ->
   (∀ s',Moved (D::wr) G s s'->aL prog w U s'.heap D (bO ((List.range n).map ks))->R (.ok (.ret .none)) s') ->
   codeAny (model prog w) A (.builtin "set.update.loop" ⟨[.ref D,.ref I],[]⟩) R s:=by
 have hDw:D∉wr:=fun h=>hDf (W.sub _ h)
 have sub:∀ b∈wr,b∈D::wr:=fun b hb=>List.mem_cons_of_mem _ hb
 intro k
 induction k with
 | zero =>
  intro i s hk hi st hP hS hR
  have hw:=hwt i s st
  obtain rfl:i=n:=by omega
  refine codeAny_builtin PyProof.Rows.F.entry_set_update_loop ?_
  rw [Around.under_plainId PyProof.Rows.F.plain_set_update_loop _]
  show wpAny _ A.in1 (pyNext (.ref I) >>= _) _ _ s
  refine wpAny_bind (W.done s _ _ st fun s1 hm=>?_)
  show wpAny _ A.in1 (ret Value.none) _ _ s1
  refine wpAny_pure (hR s1 (hm.mono sub) (hS.moved fun b o hb e=>hm.heap b o (fun hbw=>?_) e))
  rcases hb with rfl|⟨k',hk'⟩
  ·exact hDw hbw
  ·exact Oj hk' e (hw b hbw o e) rfl
 | succ k ih =>
  intro i s hk hi st hP hS hR
  have hw:=hwt i s st
  refine codeAny_builtin PyProof.Rows.F.entry_set_update_loop ?_
  rw [Around.under_plainId PyProof.Rows.F.plain_set_update_loop _]
  show wpAny _ A.in1 (pyNext (.ref I) >>= _) _ _ s
  refine wpAny_bind (W.item i s _ _ (by omega) st fun v s1 hv st1 hm=>?_)
  have nw:∀ b o,(b=D∨∃ k',IsTupleKey (intKind prog w) s.heap k' b)->s.heap.get? b=some o->b∉wr:=fun b o hb e hbw=>by
   rcases hb with rfl|⟨k',hk'⟩
   ·exact hDw hbw
   ·exact Oj hk' e (hw b hbw o e) rfl
  have key1:∀ {b:Addr} {k':List Int},IsTupleKey (intKind prog w) s.heap k' b->IsTupleKey (intKind prog w) s1.heap k' b:=fun {b k'} hk'=>by
   have hk0:=hk'
   obtain ⟨o,items,m,q1,q2,q3,q4⟩:=hk'
   exact ⟨o,items,m,hm.heap b o (nw b o (.inr ⟨_,hk0⟩) q1) q1,q2,q3,q4⟩
  have hS1:aL prog w U s1.heap D (bO ((List.range i).map ks)):=hS.moved fun b o hb e=>hm.heap b o (nw b o hb e) e
  obtain ⟨b,rfl,hbw,hbk,hbU⟩:=hP i v hv
  show wpAny _ A.in1 (holding [Value.ref b] (setAdd D (.ref b)) >>= _) _ _ s1
  have hlen:(bO ((List.range i).map ks)).length < 1000:=by have:=sy ((List.range i).map ks);simp at this;omega
  refine wpAny_bind (wpAny_holding (TY hS1 hlen (key1 hbk) hbU hu fun h2 added tk hs2 hS2=>?_))
  have hS2':aL prog w U h2 D (bO ((List.range (i + 1)).map ks)):=by
   rw [List.range_succ,List.map_append,List.map_singleton,JK];exact hS2
  obtain ⟨L1,ep1,t1,ho1,_⟩:=hS1.len
  refine wpAny_pure ⟨plainId_quiet PyProof.Rows.F.plain_set_update_loop _,ih (i + 1) _ (by omega) (by omega) (W.frame _ s1 _ _ st1 (Nat.le_add_right _ _) fun b hb o e=>?_) (fun j v hv=>?_) hS2' fun s3 hm3 hS3=>?_⟩
  ·rw [hs2.2 b (fun z:b=D=>hDf (z▸hb))];exact e
  ·obtain ⟨b,rfl,q1,q2,q3⟩:=hP j v hv
   exact ⟨b,rfl,q1,je ho1 hs2 (key1 q2),q3⟩
  ·refine hR s3 (Moved.trans W.gtrans ((hm.mono sub).then_heap (Nat.le_add_right _ _) fun b o hb e=>?_) hm3) hS3
   rw [hs2.2 b (fun z:b=D=>hb (by rw [z];exact List.mem_cons_self))];exact e
end
end Tb
namespace Tb
open PySem PySem.Spec PySem.SetTable
section
variable {prog:Program} {w:World} {A:Around} {E:Value->Shared->Prop} {s:Shared}
abbrev bh (led:Bool):Obj:={ cls:=.type "set",dict:=none,data:=.set #[] 0 (.fresh 0 0 led) }
theorem Xx (v:Value) {Q₁:Value->Shared->Prop} (h:Q₁ (.ref s.heap.objs.size) { s with heap:=s.heap.push (bh (!jj w)) }) :
  codeAny (model prog w) A (.call (.builtin "set.__new__") ⟨[.type "set",v],[]⟩) (wants Q₁ E) s:=by
 refine codeAny_of_tree ?_
 show wpAny _ A.in1 (do { checkBuiltinCall "set.__new__" ⟨[.type "set",v],[]⟩;again (.builtin "set.__new__" ⟨[.type "set",v],[]⟩) }) _ _ s
 refine wpAny_bind (wpAny_of_eq (F.newCall_set_1 v) (wpAny_pure ⟨plainId_quiet F.plain_set_new _,codeAny_builtin F.entry_set_new ?_⟩))
 rw [Around.under_plainId F.plain_set_new _]
 have e:=sub_set_self
 obtain ⟨hp,g,d,tk,os⟩:=s
 unfold Builtin.«set.__new__» Builtin.Frozenset.newClass
 dsimp only
 wp_walk
 refine wpAny_askSetting (wpAny_pure ?_)
 simp only [newObj]
 exact wpAny_bind (wpAny_alloc (wpAny_pure (wpAny_pure h)))
theorem JL {v:Value} {Q:Value->Shared->Prop}
  (hup:wpAny (model prog w) A.in1.in1 (Builtin.Frozenset.updateFrom "set.__init__" s.heap.objs.size v) (fun _ s2=>Q (.ref s.heap.objs.size) s2) E { s with heap:=s.heap.push (bh (!jj w)) }) :
  wpAny (model prog w) A (call (.type "set") [v]) Q E s:=by
 obtain ⟨cc,tl,hmro⟩:=F.called_set.mro
 have hmade:=F.called_set.made
 have hsub:=F.called_set.sub
 have nt:=F.called_set.notType
 have cc:=F.called_set.canCreate
 have tc:=F.typeCall_set_1 v
 refine wpAny_call (codeAny_of_tree ?_)
 show wpAny _ _ (callAny (.type "set") _) _ _ _
 refine wpAny_pure ⟨Code.quiet_builtin _ (by decide +kernel),codeAny_builtin F.entry_type_call ?_⟩
 rw [Around.under_plain (weight_type_call_type "set" [v] []) rfl]
 repeat (any_goals (first|assumption|wp_step))
 refine codeAny_mono (Xx v (E:=E) (Q₁:=fun obj s1=>obj=.ref s.heap.objs.size/\s1={ s with heap:=s.heap.push (bh (!jj w)) }) ⟨rfl,rfl⟩) fun r s1 hr=>?_
 cases r with
 | error e=>exact hr
 | ok fl =>
  cases fl with
  | ret obj =>
   obtain ⟨e1,e2⟩:=hr
   subst e1 e2
   have hget:(s.heap.push (bh (!jj w))).get? s.heap.objs.size=some (bh (!jj w)):=Heap.get?_push_size _ rfl
   have hty:Shared.TypeIs { s with heap:=s.heap.push (bh (!jj w)) } (.ref s.heap.objs.size) "set":=⟨_,hget,rfl⟩
   have li:=F.called_set.init.lookup
   have bi:=F.called_set.init.bind (.ref s.heap.objs.size)
   repeat (any_goals (first|assumption|wp_step))
   refine codeAny_mono (codeAny_call_builtin (R:=wants (fun r s2=>r=.none/\Q (.ref s.heap.objs.size) s2) E) F.called_set.init.plain F.entry_set_init (check_set_init_1 hty ?_)) fun r2 s2 hr2=>?_
   ·unfold Builtin.«set.__init__» noKeywords
    have hu:=hup
    generalize hU:Builtin.Frozenset.updateFrom=U at hu ⊢
    wp_walk
    exact wpAny_mono hu (fun _ s2 hq=>wpAny_pure ⟨rfl,hq⟩) fun _ _ x=>x
   ·cases r2 with
    | error e=>exact hr2
    | ok fl2 =>
     cases fl2 with
     | ret r =>
      obtain ⟨rfl,hq⟩:=hr2
      repeat (any_goals (first|assumption|wp_step))
     | _=>exact hr2.elim
  | _=>exact hr.elim
end
end Tb
namespace Tb
open PySem PySem.Spec PySem.SetTable
namespace F
theorem sub_tuple_set:isSubtype (.type "tuple") (.type "set")=pure false:=by rw [isSubtype_type];kernel_rfl
theorem sub_tuple_frozenset:isSubtype (.type "tuple") (.type "frozenset")=pure false:=by rw [isSubtype_type];kernel_rfl
end F
section
variable {prog:Program} {w:World} {U:Addr->List Int->Prop} {A:Around} {E:Value->Shared->Prop} {s:Shared}
theorem xQ {h:Heap} {D:Addr} (ho:h.get? D=some (bh (!jj w))):aL prog w U h D []:=by
 have no:∀ (e:gW) (p:Prop),e∈([]:List gW)->p:=fun e p he=>by cases he
 exact ⟨[],0,.fresh 0 0 (!jj w),fun _=>[],ho,⟨⟨3,rfl⟩,Nat.le_refl 7,rfl,rfl,List.Pairwise.nil,fun e he=>no e _ he,fun e he=>no e _ he⟩,(show 0 < 21 by decide),(show (7:Nat) < 8000 by decide),⟨rfl,rfl⟩,fun e he=>no e _ he,List.Perm.refl _,List.nodup_nil,fun e he=>no e _ he⟩
theorem JM {l D:Addr} {items:Array Value} {aF:List (List Int)} {Q:Unit->Shared->Prop} (hh:A.handled=none) (hu:A.units + 2 < cLine) (hl:s.heap.IsList l items) (hS:aL prog w U s.heap D []) (hlD:l≠D) (hz:items.size < 1000)
  (hk:∀ (i:Nat) v,items[i]?=some v->∃ b,v=.ref b/\IsTupleKey (intKind prog w) s.heap (aF.getD i []) b/\U b (aF.getD i [])) (hlen:aF.length=items.size)
  (h:∀ h' tk,(∀ b o,b≠D->s.heap.get? b=some o->h'.get? b=some o)->aL prog w U h' D (bO aF)->Q () { s with heap:=h',toks:=tk }) :
  wpAny (model prog w) A (Builtin.Frozenset.updateFrom "set.__init__" D (.ref l)) Q E s:=by
 have hl0:=hl
 obtain ⟨ol,hol,hcl,nl,hdl⟩:=hl
 obtain ⟨oc,od,odt,osl⟩:=ol
 simp only at hcl hdl
 subst hcl hdl
 have e1:=F.sub_list_set
 have e2:=F.sub_list_frozenset
 have e3:(Value.type "list" == Value.type "dict")=false:=by decide
 unfold Builtin.Frozenset.updateFrom
 generalize hPI:pyIter=PI
 wp_walk
 subst hPI
 refine wpAny_pyIter_list hl0 ?_
 refine wpAny_bind (wpAny_runValue ?_)
 have hlt:l < s.heap.objs.size:=Heap.lt_size hol
 obtain ⟨L0,ep0,t0,hD0,_⟩:=hS.len
 have vJ:D < s.heap.objs.size:=Heap.lt_size hD0
 have push:∀ b o,s.heap.get? b=some o->(s.heap.push { cls:=.type "list_iterator",data:=.fields #[.ref l,.int 0 0] }).get? b=some o:=fun b o e=>Heap.get?_push_of_some _ e
 have W:=(Walks.list (prog:=prog) (w:=w) (A:=A.in1) (by simpa using hh) s.heap.objs.size l (Nat.ne_of_lt hlt) items).toS
 refine adl W D (fun z=>?_) (by show A.units + 1 < cLine;omega) (fun i=>aF.getD i []) hz (fun i s' st b hb o e xs m=>?_) (items.size - 0) 0 _ rfl (Nat.zero_le _) ⟨⟨_,Heap.get?_push_size _ rfl,rfl,rfl⟩,hl0.push _⟩ (fun j v hv=>?_) (hS.moved fun b o _ e=>push b o e) fun s' hm hS'=>?_
 ·simp only [List.mem_cons,List.not_mem_nil,or_false] at z
  rcases z with z|z
  ·exact absurd z (Nat.ne_of_lt vJ)
  ·exact hlD z.symm
 ·obtain rfl:b=s.heap.objs.size:=by simpa using hb
  obtain ⟨⟨o',h1,h2,h3⟩,_⟩:=st
  rw [e] at h1;cases h1
  rw [h3];intro z;cases z
 ·obtain ⟨b,rfl,hb,hU⟩:=hk j v hv
  have hb0:=hb
  obtain ⟨o,its,m,q1,q2,q3,q4⟩:=hb
  refine ⟨b,rfl,?_,⟨o,its,m,push _ _ q1,q2,q3,q4⟩,hU⟩
  simp only [List.mem_cons,List.not_mem_nil,or_false]
  exact Nat.ne_of_lt (Heap.lt_size q1)
 ·obtain ⟨h',g',d',tk',os'⟩:=s'
  have eg:g'=s.gens:=hm.gens
  have ed:d'=s.drawn:=hm.drawn
  have eo:os'=s.os:=hm.os
  subst eg ed eo
  have er:(List.range items.size).map (fun i=>aF.getD i [])=aF:=by
   rw [<- hlen]
   apply List.ext_getElem
   ·simp
   ·intro i h1 h2;simp at h1;simp [List.getD,h1]
  rw [er] at hS'
  refine wpAny_pure (h h' tk' (fun b o hb e=>hm.heap b o ?_ (push b o e)) hS')
  simp only [List.mem_cons,List.not_mem_nil,or_false,not_or]
  exact ⟨hb,Nat.ne_of_lt (Heap.lt_size e)⟩
theorem FJ {l D:Addr} {items:Array Value} {aF:List (List Int)} {Q:Unit->Shared->Prop} (hh:A.handled=none) (hu:A.units + 2 < cLine) (hl:s.heap.IsTuple l items) (hS:aL prog w U s.heap D []) (hlD:l≠D) (hz:items.size < 1000)
  (hk:∀ (i:Nat) v,items[i]?=some v->∃ b,v=.ref b/\IsTupleKey (intKind prog w) s.heap (aF.getD i []) b/\U b (aF.getD i [])) (hlen:aF.length=items.size)
  (h:∀ h' tk,(∀ b o,b≠D->s.heap.get? b=some o->h'.get? b=some o)->aL prog w U h' D (bO aF)->Q () { s with heap:=h',toks:=tk }) :
  wpAny (model prog w) A (Builtin.Frozenset.updateFrom "set.__init__" D (.ref l)) Q E s:=by
 have hl0:=hl
 obtain ⟨ol,hol,hcl,nl,hdl⟩:=hl
 obtain ⟨oc,od,odt,osl⟩:=ol
 simp only at hcl hdl
 subst hcl hdl
 have e1:=F.sub_tuple_set
 have e2:=F.sub_tuple_frozenset
 have e3:(Value.type "tuple" == Value.type "dict")=false:=by decide
 unfold Builtin.Frozenset.updateFrom
 generalize hPI:pyIter=PI
 wp_walk
 subst hPI
 refine wpAny_pyIter_tuple hl0 ?_
 refine wpAny_bind (wpAny_runValue ?_)
 have hlt:l < s.heap.objs.size:=Heap.lt_size hol
 obtain ⟨L0,ep0,t0,hD0,_⟩:=hS.len
 have vJ:D < s.heap.objs.size:=Heap.lt_size hD0
 have push:∀ b o,s.heap.get? b=some o->(s.heap.push { cls:=.type "tuple_iterator",data:=.fields #[.ref l,.int 0 0] }).get? b=some o:=fun b o e=>Heap.get?_push_of_some _ e
 have W:=(Walks.tuple (prog:=prog) (w:=w) (A:=A.in1) (by simpa using hh) s.heap.objs.size l (Nat.ne_of_lt hlt) items).toS
 refine adl W D (fun z=>?_) (by show A.units + 1 < cLine;omega) (fun i=>aF.getD i []) hz (fun i s' st b hb o e xs m=>?_) (items.size - 0) 0 _ rfl (Nat.zero_le _) ⟨⟨_,Heap.get?_push_size _ rfl,rfl,rfl⟩,hl0.push _⟩ (fun j v hv=>?_) (hS.moved fun b o _ e=>push b o e) fun s' hm hS'=>?_
 ·simp only [List.mem_cons,List.not_mem_nil,or_false] at z
  rcases z with z|z
  ·exact absurd z (Nat.ne_of_lt vJ)
  ·exact hlD z.symm
 ·obtain rfl:b=s.heap.objs.size:=by simpa using hb
  obtain ⟨⟨o',h1,h2,h3⟩,_⟩:=st
  rw [e] at h1;cases h1
  rw [h3];intro z;cases z
 ·obtain ⟨b,rfl,hb,hU⟩:=hk j v hv
  have hb0:=hb
  obtain ⟨o,its,m,q1,q2,q3,q4⟩:=hb
  refine ⟨b,rfl,?_,⟨o,its,m,push _ _ q1,q2,q3,q4⟩,hU⟩
  simp only [List.mem_cons,List.not_mem_nil,or_false]
  exact Nat.ne_of_lt (Heap.lt_size q1)
 ·obtain ⟨h',g',d',tk',os'⟩:=s'
  have eg:g'=s.gens:=hm.gens
  have ed:d'=s.drawn:=hm.drawn
  have eo:os'=s.os:=hm.os
  subst eg ed eo
  have er:(List.range items.size).map (fun i=>aF.getD i [])=aF:=by
   rw [<- hlen]
   apply List.ext_getElem
   ·simp
   ·intro i h1 h2;simp at h1;simp [List.getD,h1]
  rw [er] at hS'
  refine wpAny_pure (h h' tk' (fun b o hb e=>hm.heap b o ?_ (push b o e)) hS')
  simp only [List.mem_cons,List.not_mem_nil,or_false,not_or]
  exact ⟨hb,Nat.ne_of_lt (Heap.lt_size e)⟩
theorem FN {l:Addr} {items:Array Value} {aF:List (List Int)} {Q:Value->Shared->Prop} (hh:A.handled=none) (hu:A.units + 8 < cLine) (hl:s.heap.IsList l items∨s.heap.IsTuple l items) (hz:items.size < 1000)
  (hk:∀ (i:Nat) v,items[i]?=some v->∃ b,v=.ref b/\IsTupleKey (intKind prog w) s.heap (aF.getD i []) b/\U b (aF.getD i [])) (hlen:aF.length=items.size)
  (h:∀ h' tk,(∀ b o,s.heap.get? b=some o->h'.get? b=some o)->aL prog w U h' s.heap.objs.size (bO aF)->Q (.ref s.heap.objs.size) { s with heap:=h',toks:=tk }) :
  wpAny (model prog w) A (call (.type "set") [.ref l]) Q E s:=by
 refine JL ?_
 have push:∀ b o,s.heap.get? b=some o->(s.heap.push (bh (!jj w))).get? b=some o:=fun b o e=>Heap.get?_push_of_some _ e
 have hlt:l < s.heap.objs.size:=by
  rcases hl with ⟨o,e,_⟩|⟨o,e,_⟩ <;> exact Heap.lt_size e
 have hk':∀ (i:Nat) v,items[i]?=some v->∃ b,v=.ref b/\IsTupleKey (intKind prog w) (s.heap.push (bh (!jj w))) (aF.getD i []) b/\U b (aF.getD i []):=fun i v hv=>by
  obtain ⟨b,e,⟨o,its,m,q1,q2,q3,q4⟩,hU⟩:=hk i v hv
  exact ⟨b,e,⟨o,its,m,push _ _ q1,q2,q3,q4⟩,hU⟩
 have hS:aL prog w U (s.heap.push (bh (!jj w))) s.heap.objs.size []:=xQ (Heap.get?_push_size _ rfl)
 have fu:∀ h' tk,(∀ b o,b≠s.heap.objs.size->(s.heap.push (bh (!jj w))).get? b=some o->h'.get? b=some o)->aL prog w U h' s.heap.objs.size (bO aF)->Q (.ref s.heap.objs.size) { s with heap:=h',toks:=tk }:=fun h' tk k hS' =>
  h h' tk (fun b o e=>k b o (Nat.ne_of_lt (Heap.lt_size e)) (push b o e)) hS'
 rcases hl with hl|hl
 ·exact JM (s:={ s with heap:=s.heap.push (bh (!jj w)) }) (by simpa using hh) (by show A.units + 1 + 1 + 2 < cLine;omega) (hl.push _) hS (Nat.ne_of_lt hlt) hz hk' hlen fu
 ·exact FJ (s:={ s with heap:=s.heap.push (bh (!jj w)) }) (by simpa using hh) (by show A.units + 1 + 1 + 2 < cLine;omega) (hl.push _) hS (Nat.ne_of_lt hlt) hz hk' hlen fu
end
end Tb
namespace Tb
open PySem PySem.Spec PySem.SetTable
theorem jR {α:Type}:∀ {l:List α} {n:Nat} (h:n < l.length),(l[n]::l.eraseIdx n).Perm l
 | a::l,0,_=>by simp
 | a::l,n + 1,h=>by
  have ih:=jR (l:=l) (n:=n) (by simpa using h)
  simp only [List.getElem_cons_succ,List.eraseIdx_cons_succ]
  exact (List.Perm.swap ..).trans (ih.cons a)
theorem aaV {α:Type} (next:Nat->Nat):∀ (fuel k:Nat) (left:List α) (out:Array α),left.length<=fuel->(pickOrder.go next fuel k left out).toList.Perm (out.toList++left):=by
 intro fuel
 induction fuel with
 | zero =>
  intro k left out h
  obtain rfl:left=[]:=List.length_eq_zero_iff.mp (by omega)
  unfold pickOrder.go
  simp
 | succ fuel ih =>
  intro k left out h
  unfold pickOrder.go
  cases left with
  | nil=>simp
  | cons a l =>
   have hlt:next k % (a::l).length < (a::l).length:=Nat.mod_lt _ (by simp)
   rw [List.getElem?_eq_getElem hlt]
   simp only
   have hlen:((a::l).eraseIdx (next k % (a::l).length)).length<=fuel:=by
    rw [List.length_eraseIdx_of_lt hlt]
    simp only [List.length_cons] at h ⊢
    omega
   refine (ih (k + 1) _ _ hlen).trans ?_
   rw [Array.toList_push,List.append_assoc]
   exact List.Perm.append_left _ (jR hlt)
theorem Ua {α:Type} (next:Nat->Nat) (xs:Array α):(pickOrder next xs).toList.Perm xs.toList:=by
 unfold pickOrder
 simpa using aaV next xs.size 0 xs.toList #[] (by simp)
def cR (w:World) (D:Addr) (ep:Nat) (L:List gW):Array (Int×Value):=if jj w=true then pickOrder (w.params.setOrder D ep) (L.map (·.2)).toArray else (L.map (·.2)).toArray
theorem rz (w:World) (D:Addr) (ep:Nat) (L:List gW):(cR w D ep L).toList.Perm (L.map (·.2)):=by
 unfold cR
 split
 ·simpa using Ua (w.params.setOrder D ep) (L.map (·.2)).toArray
 ·exact .refl _
theorem fY (w:World) (D:Addr) (ep:Nat) (L:List gW):(cR w D ep L).size=L.length:=by
 have:=(rz w D ep L).length_eq
 simpa using this
structure Lies (t:SetTable) (L:List gW):Prop where
 pl:t.place=(L.map (·.1)).toArray
 so:(L.map (·.1)).Pairwise (· < ·)
 fl:t.fill<=t.mask
theorem Lies.sz {t:SetTable} {L:List gW} (g:Lies t L):t.place.size=L.length:=by rw [g.pl];simp
theorem Lies.at {t:SetTable} {L:List gW} (g:Lies t L) {i:Nat} (hi:i < L.length):t.place.getD i 0=L[i].1:=by rw [g.pl];simp [Array.getD,hi]
theorem Lies.rise {t:SetTable} {L:List gW} (g:Lies t L):oU t.place:=by
 intro a b hab hb
 rw [g.sz] at hb
 rw [g.at (show a < L.length by omega),g.at hb]
 have:=(List.pairwise_iff_getElem.mp g.so) a b (by simpa using (show a < L.length by omega)) (by simpa using hb) hab
 simpa using this
theorem Lies.fits {t:SetTable} {L:List gW} (g:Lies t L) (hl:L.length<=t.mask):t.fits ((L.map (·.2)).toArray).size=true:=by
 unfold PySem.SetTable.fits
 have h1:=g.fl
 simp [g.sz,h1]
theorem Good.lies {t:SetTable} {L:List gW} (g:Good t L) (hl:L.length<=t.mask):Lies t L:=⟨g.pl,g.so,by unfold fill;rw [g.nd,g.sz];simpa using hl⟩
def fD (w:World) (t:SetTable) (i:Nat):Nat:=if jj w=true then 0 else if i=0 then 0 else t.place.getD (i - 1) 0 + 1
section
variable {prog:Program} {w:World} {A:Around} {E:Value->Shared->Prop} {s:Shared}
theorem Rt {D:Addr} {L:List gW} {ep:Nat} {t:SetTable} {i:Nat} {Q:Option (Value×Nat)->Shared->Prop} (ho:s.heap.get? D=some (bL L ep t)) (g:Lies t L) (hl:L.length<=t.mask) (pl:t.plain=true) (ld:t.led=!jj w) (hi:i<=L.length)
  (h:Q (((cR w D ep L)[i]?).map fun e=>(e.2,fD w t (i + 1))) s):wpAny (model prog w) A (setNext D (fD w t i) i ep) Q E s:=by
 unfold setNext
 refine wpAny_bind (wpAny_setState_of ho rfl (g.fits hl) ?_)
 unfold setsByText
 refine wpAny_bind (wpAny_bind (wpAny_askSetting (wpAny_pure ?_)))
 cases hb:jj w with
 | true =>
  have hb':((model prog w).w.params.followText "set-order")=true:=hb
  simp only [hb',if_true,bne_self_eq_false,Bool.false_eq_true,if_false]
  unfold setWalk setsByText
  refine wpAny_bind (wpAny_bind (wpAny_setState_of ho rfl (g.fits hl) ?_))
  refine wpAny_bind (wpAny_bind (wpAny_askSetting (wpAny_pure ?_)))
  simp only [hb',if_true]
  refine wpAny_bind (wpAny_askSetting (wpAny_pure (wpAny_pure ?_)))
  unfold cR fD at h
  simp only [hb,if_true] at h
  simp only [fD,hb,if_true]
  exact h
 | false =>
  have hb':((model prog w).w.params.followText "set-order")=false:=hb
  simp only [hb',Bool.false_eq_true,if_false]
  rw [hb] at ld
  have hbl:below t.place (fD w t i)=i:=by
   unfold fD
   rw [hb]
   simp only [Bool.false_eq_true,if_false]
   obtain ⟨b1,b2,b3⟩:=mD g.rise (if i=0 then 0 else t.place.getD (i - 1) 0 + 1)
   by_cases c:i=0
   ·subst c
    simp only [if_true] at b2 ⊢
    cases hz:below t.place 0 with
    | zero=>rfl
    | succ n=>have:=b2 0 (by omega);omega
   ·rw [if_neg c] at b1 b2 b3 ⊢
    have him:i - 1 < t.place.size:=by rw [g.sz];omega
    have c1:¬ below t.place (t.place.getD (i - 1) 0 + 1) < i:=fun z=>by
     have:=b3 (i - 1) (by omega) him;omega
    have c2:¬ i < below t.place (t.place.getD (i - 1) 0 + 1):=fun z=>by
     have h1:=b2 i z
     have h2:=g.rise (i - 1) i (by omega) (by omega)
     omega
    omega
  have fu:wpAny (model prog w) A (pure (match ((L.map (·.2)).toArray)[below t.place (fD w t i)]?,t.place[below t.place (fD w t i)]? with
    | some (_,x),some j=>some (x,j + 1)
    | _,_=>none):Sem (Option (Value×Nat))) Q E s:=by
   rw [hbl]
   refine wpAny_pure ?_
   unfold cR fD at h
   simp only [hb,Bool.false_eq_true,if_false,Nat.add_eq_zero_iff,Nat.succ_ne_self,and_false,Nat.add_sub_cancel] at h
   by_cases c:i < L.length
   ·have e1:((L.map (·.2)).toArray)[i]?=some L[i].2:=by simp [c]
    have e2:t.place[i]?=some (t.place.getD i 0):=JC (by rw [g.sz];exact c)
    rw [e1] at h ⊢
    rw [e2]
    exact h
   ·have e1:((L.map (·.2)).toArray)[i]?=none:=by simp;omega
    rw [e1] at h ⊢
    exact h
  have hdr:∀ c:Bool,(!t.plain && c)=false:=fun c=>by rw [pl];rfl
  have hld:∀ c:Bool,(!t.led && c)=false:=fun c=>by rw [ld];rfl
  have drop:∀ {c:Bool} {x y:Sem (Option (Value×Nat))},c=false->wpAny (model prog w) A y Q E s->wpAny (model prog w) A (if c=true then x else y) Q E s:=fun {c x y} hc hy=>by rw [hc];exact hy
  refine drop (hdr _) ?_
  refine wpAny_bind ?_
  show wpAny _ _ (if (!t.led && !((L.map (·.2)).toArray).isEmpty)=true then unsupported "set:maker-not-led" else pure ()) _ _ _
  rw [hld]
  exact wpAny_pure fu
end
end Tb
namespace Tb
open PySem PySem.Spec PySem.SetTable
theorem dF:Slot "set_iterator" "__next__" "set_iterator.__next__" :=
 .of (owner:="set_iterator") (n:="__next__") (by rw [typeLookup_type,builtinLookup_eq_fast];kernel_rfl) (by decide +kernel) (by decide +kernel) (by decide +kernel) (by first|exact .inl (by decide +kernel)|exact .inr (by decide +kernel)) (by rw [isSubtype_type];kernel_rfl)
theorem pL:entryFor table "set_iterator.__next__"=some Builtin.«set_iterator.__next__»:=entryFor_of_tree (by kernel_rfl)
theorem rO (a:Value):argsOk "set_iterator.__next__" ⟨[a],[]⟩:=by unfold argsOk;kernel_rfl
theorem FP:entryFor table "set.__iter__"=some Builtin.«frozenset.__iter__»:=entryFor_alias (id':="frozenset.__iter__") (by kernel_rfl) rfl (by decide +kernel) (by kernel_rfl)
theorem rP:Slot "set_iterator" "__iter__" "set_iterator.__iter__" :=
 .of (owner:="set_iterator") (n:="__iter__") (by rw [typeLookup_type,builtinLookup_eq_fast];kernel_rfl) (by decide +kernel) (by decide +kernel) (by decide +kernel) (by first|exact .inl (by decide +kernel)|exact .inr (by decide +kernel)) (by rw [isSubtype_type];kernel_rfl)
theorem yV:entryFor table "set_iterator.__iter__"=some Builtin.«dict_keyiterator.__iter__»:=entryFor_alias (id':="dict_keyiterator.__iter__") (by kernel_rfl) rfl (by decide +kernel) (by kernel_rfl)
theorem Av (a:Value):argsOk "set_iterator.__iter__" ⟨[a],[]⟩:=by unfold argsOk;kernel_rfl
def cZ (w:World) (t:SetTable) (D:Addr) (n ep i:Nat):Obj:={ cls:=.type "set_iterator",data:=.fields #[rawInt (fD w t i),rawInt i,.ref D,rawInt n,rawInt ep] }
section
variable {prog:Program} {w:World} {A:Around} {E:Value->Shared->Prop} {s:Shared} {D I:Addr} {L:List gW} {ep:Nat} {t:SetTable}
structure Goes (w:World) (L:List gW) (t:SetTable):Prop where
 g:Lies t L
 hl:L.length<=t.mask
 pl:t.plain=true
 ld:t.led=!jj w
theorem Xy {Q:Value->Shared->Prop} (ho:s.heap.get? D=some (bL L ep t)) (g:Goes w L t) (h:Q (.ref s.heap.objs.size) { s with heap:=s.heap.push (cZ w t D L.length ep 0) }):wpAny (model prog w) A (pyIter (.ref D)) Q E s:=by
 have hT:s.TypeIs (.ref D) "set":=⟨_,ho,rfl⟩
 refine wpAny_pyIter_slot hT F.slot_set_iter (wpAny_call_entry F.slot_set_iter hT FP ?_ (F.args_set_iter_1 _))
 unfold Builtin.«frozenset.__iter__» Builtin.Frozenset.slot0 Builtin.Frozenset.sizeOf Builtin.Frozenset.addrOf
 simp only [slotArgs,List.isEmpty_nil,Bool.not_true,Bool.false_eq_true,if_false,List.length_nil,bne_self_eq_false]
 refine wpAny_bind (wpAny_bind (wpAny_pure (wpAny_pure ?_)))
 refine wpAny_bind (wpAny_bind (wpAny_setEntries_of ho rfl (g.g.fits g.hl) (wpAny_pure ?_)))
 have hdr:wpAny (model prog w) A.in1 (setDrawn D) (fun b s'=>b=false/\s'=s) E s:=by
  unfold setDrawn setsByText
  refine wpAny_bind (wpAny_setState_of ho rfl (g.g.fits g.hl) ?_)
  refine wpAny_bind (wpAny_bind (wpAny_askSetting (wpAny_pure (wpAny_pure ⟨?_,rfl⟩))))
  show (_ && (!t.plain && _))=false
  rw [g.pl];simp
 refine wpAny_bind (wpAny_mono hdr (fun b s' hb=>?_) fun _ _ z=>z)
 obtain ⟨rfl,rfl⟩:=hb
 simp only [Bool.false_eq_true,if_false]
 refine wpAny_bind (wpAny_pure ?_)
 refine wpAny_bind (wpAny_setEpoch_of ho rfl (g.g.fits g.hl) ?_)
 have e0:fD w t 0=0:=by unfold fD;simp
 have eo:(cZ w t D L.length ep 0)={ cls:=.type "set_iterator",data:=.fields ([rawInt 0,rawInt 0,Value.ref D,rawInt ((L.map (·.2)).toArray.size:Nat),rawInt (ep:Nat)]:List Value).toArray }:=by
  unfold cZ;rw [e0];simp
 rw [eo] at h
 exact wpAny_bind (wpAny_newObj_type (wpAny_pure ⟨_,rfl,"set_iterator",_,⟨_,Heap.get?_push_size _ rfl,rfl⟩,dF.lookup,h⟩))
theorem vK {i:Nat} {Q:Option Value->Shared->Prop} {e:Int×Value} (hI:s.heap.get? I=some (cZ w t D L.length ep i)) (ho:s.heap.get? D=some (bL L ep t)) (g:Goes w L t) (hi:i < L.length) (he:(cR w D ep L)[i]?=some e)
  (h:∀ h',Heap.SameBut I s.heap h'->h'.get? I=some (cZ w t D L.length ep (i + 1))->Q (some e.2) { s with heap:=h' }):wpAny (model prog w) A (pyNext (.ref I)) Q E s:=by
 have hT:s.TypeIs (.ref I) "set_iterator":=⟨_,hI,rfl⟩
 unfold pyNext
 refine wpAny_bind (wpAny_attempt (wpAny_callSpecial?_slot (name:=Str.ofString "__next__") hT dF (wpAny_call_entry dF hT pL ?_ (rO _))))
 unfold Builtin.«set_iterator.__next__»
 simp only [slotArgs,List.isEmpty_nil,Bool.not_true,Bool.false_eq_true,if_false,List.length_nil,bne_self_eq_false]
 refine wpAny_bind (wpAny_pure ?_)
 refine wpAny_bind (wpAny_fieldsOf hI rfl ?_)
 simp only [rawInt]
 refine wpAny_bind (wpAny_setEntries_of ho rfl (g.g.fits g.hl) ?_)
 have hz:((((L.map (·.2)).toArray.size:Nat):Int) != ((L.length:Nat):Int))=false:=by simp
 simp only [hz,Bool.false_eq_true,if_false,Int.toNat_natCast]
 refine wpAny_bind (Rt ho g.g g.hl g.pl g.ld (Nat.le_of_lt hi) ?_)
 rw [he]
 simp only [Option.map_some]
 have hd0:(cZ w t D L.length ep i).data=.fields #[rawInt (fD w t i),rawInt i,.ref D,rawInt L.length,rawInt ep]:=rfl
 refine wpAny_bind (wpAny_setField hI hd0 (by simp) ?_)
 have hd1:=Obj.data_mapFields hd0 (·.setIfInBounds 0 (rawInt (fD w t (i + 1))))
 have hI1:=Heap.get?_update_self (Obj.mapFields (·.setIfInBounds 0 (rawInt (fD w t (i + 1))))) hI (Obj.isFreed_of_fields hd1)
 refine wpAny_bind (wpAny_setField hI1 hd1 (by simp) ?_)
 have hd2:=Obj.data_mapFields hd1 (·.setIfInBounds 1 (rawInt (i + 1:Nat)))
 have hI2:=Heap.get?_update_self (Obj.mapFields (·.setIfInBounds 1 (rawInt (i + 1:Nat)))) hI1 (Obj.isFreed_of_fields hd2)
 refine wpAny_pure ⟨_,rfl,wpAny_pure (h _ ((Heap.SameBut.update ..).trans (Heap.SameBut.update ..)) ?_)⟩
 refine hI2.trans ?_
 unfold cZ Obj.mapFields
 simp [rawInt]
theorem Ub {Q:Option Value->Shared->Prop} (hh:A.handled=none) (hI:s.heap.get? I=some (cZ w t D L.length ep L.length)) (ho:s.heap.get? D=some (bL L ep t)) (g:Goes w L t)
  (h:∀ h',Heap.ExtBut I s.heap h'->Q none { s with heap:=h' }):wpAny (model prog w) A (pyNext (.ref I)) Q E s:=by
 have hT:s.TypeIs (.ref I) "set_iterator":=⟨_,hI,rfl⟩
 unfold pyNext
 refine wpAny_bind (wpAny_attempt (wpAny_callSpecial?_slot (name:=Str.ofString "__next__") hT dF (wpAny_call_entry dF hT pL ?_ (rO _))))
 unfold Builtin.«set_iterator.__next__»
 simp only [slotArgs,List.isEmpty_nil,Bool.not_true,Bool.false_eq_true,if_false,List.length_nil,bne_self_eq_false]
 refine wpAny_bind (wpAny_pure ?_)
 refine wpAny_bind (wpAny_fieldsOf hI rfl ?_)
 simp only [rawInt]
 refine wpAny_bind (wpAny_setEntries_of ho rfl (g.g.fits g.hl) ?_)
 have hz:((((L.map (·.2)).toArray.size:Nat):Int) != ((L.length:Nat):Int))=false:=by simp
 simp only [hz,Bool.false_eq_true,if_false,Int.toNat_natCast]
 refine wpAny_bind (Rt ho g.g g.hl g.pl g.ld (Nat.le_refl _) ?_)
 have he:(cR w D ep L)[L.length]?=none:=by
  rw [Array.getElem?_eq_none];rw [fY];exact Nat.le_refl _
 rw [he]
 simp only [Option.map_none]
 have hd0:(cZ w t D L.length ep L.length).data=.fields #[rawInt (fD w t L.length),rawInt L.length,.ref D,rawInt L.length,rawInt ep]:=rfl
 refine wpAny_bind (wpAny_setField hI hd0 (by simp) ?_)
 refine wpAny_bind ?_
 simp only [newExc,newTuple]
 refine wpAny_bind (wpAny_newObj_type ?_ (by size_fits))
 refine wpAny_bind (m:=firstArgMember _ _) (wpAny_of_eq (a:=Value.none) (by first|rfl|(simp only [firstArgMember];rfl)) ?_)
 refine wpAny_newObj_type ?_ (by size_fits)
 simp only [raiseNew]
 refine wpAny_bind (wpAny_handled ?_)
 rw [show A.in1.handled=none from hh]
 refine wpAny_bind (wpAny_pure (wpAny_throw ?_))
 refine wpAny_bind (wpAny_isInstance (T:="StopIteration") (b:=true) ⟨_,Heap.get?_push_size _ rfl,rfl⟩ isSubtype_stop ?_)
 exact wpAny_pure (h _ (((Heap.SameBut.update ..).extBut.push _).push _))
theorem Uc (hh:A.handled=none) (hne:D≠I) (g:Goes w L t) :
  Walks prog w A I [I,D] [I] L.length (fun i v=>∃ e,(cR w D ep L)[i]?=some e/\v=e.2) (fun i h=>h.get? I=some (cZ w t D L.length ep i)/\h.get? D=some (bL L ep t)) where
 sub:=fun b hb=>by simp at hb;simp [hb]
 frame:=fun _ _ _ st hk=>⟨hk I (by simp) _ st.1,hk D (by simp) _ st.2⟩
 item:=fun i s Q E hi st hQ=>by
  have hlt:i < (cR w D ep L).size:=by rw [fY];exact hi
  refine vK st.1 st.2 g hi (Array.getElem?_eq_getElem hlt) fun h' hs hI'=>?_
  exact hQ _ h' s.toks ⟨_,Array.getElem?_eq_getElem hlt,rfl⟩ ⟨hI',(hs.2 D hne).trans st.2⟩ fun b o hb e=>(hs.2 b (fun z=>hb (by simp [z]))).trans e
 done:=fun s Q E st hQ=>Ub hh st.1 st.2 g fun h' he=>hQ h' s.toks fun b o hb e=>he b o (fun z=>hb (by simp [z])) e
 self:=fun i s Q E st hQ=>by
  have hT:s.TypeIs (.ref I) "set_iterator":=⟨_,st.1,rfl⟩
  refine wpAny_pyIter_slot hT rP (wpAny_call_entry rP hT yV ?_ (Av _))
  show wpAny _ _ (ret (.ref I)) _ _ s
  exact wpAny_pure ⟨_,rfl,"set_iterator",_,hT,dF.lookup,hQ⟩
end
end Tb
namespace Tb
open PySem PySem.Spec PySem.SetTable
section
variable {prog:Program} {w:World} {A:Around} {E:Value->Shared->Prop} {s:Shared} {D I:Addr} {L:List gW} {ep:Nat} {t:SetTable}
abbrev bT:Obj:={ cls:=.type "list",data:=.seq ([]:List Value).toArray }
theorem Xz {Q:Bool->Shared->Prop} (ho:s.heap.get? D=some (bL L ep t)) (h:Q false s):wpAny (model prog w) A (Builtin.List.listLengthHint (.ref D)) Q E s:=by
 have hT:s.TypeIs (.ref D) "set":=⟨_,ho,rfl⟩
 unfold Builtin.List.listLengthHint
 refine wpAny_bind (wpAny_specialOf hT F.slot_set_len.lookup ?_)
 have e1:splitId "set.__len__"=some ("set","__len__"):=by kernel_rfl
 simp only [e1]
 refine wpAny_bind (wpAny_isInstance hT sub_set_self ?_)
 simp only [Bool.not_true,Bool.false_eq_true,if_false]
 have pick:∀ {c:Bool} {x y:Sem Bool},c=true->wpAny (model prog w) A x Q E s->wpAny (model prog w) A (if c=true then x else y) Q E s:=fun {c x y} hc hy=>by rw [hc];exact hy
 refine pick (by decide +kernel) ?_
 refine wpAny_bind (wpAny_typeOf hT ?_)
 exact wpAny_pure h
theorem wL {Q:List Value->Shared->Prop} (hh:A.handled=none) (ho:s.heap.get? D=some (bL L ep t)) (g:Goes w L t) (hn:L.length<=1000)
  (hQ:∀ h' tk,(∀ b o,s.heap.get? b=some o->h'.get? b=some o)->s.heap.objs.size<=h'.objs.size->Q ((cR w D ep L).toList.map (·.2)) { s with heap:=h',toks:=tk }):wpAny (model prog w) A (collect (.ref D)) Q E s:=by
 have vJ:D < s.heap.objs.size:=Heap.lt_size ho
 unfold collect
 refine wpAny_bind (wpAny_runValue (codeAny_builtin F.entry_proto_collect ?_))
 rw [Around.under_plainId F.plain_proto_collect _]
 show wpAny _ A.in1 (newList [] >>= fun l=>again (.builtin "list.__iadd__" ⟨[l,.ref D],[]⟩)) _ _ s
 refine wpAny_bind (wpAny_newObj_type ?_)
 refine wpAny_pure ⟨plainId_quiet F.plain_list_iadd _,codeAny_builtin F.entry_list_iadd ?_⟩
 rw [Around.under_plainId F.plain_list_iadd _]
 have p1:∀ b o,s.heap.get? b=some o->(s.heap.push bT).get? b=some o:=fun b o e=>Heap.get?_push_of_some _ e
 have hD1:(s.heap.push bT).get? D=some (bL L ep t):=p1 _ _ ho
 have hS1:(s.heap.push bT).get? s.heap.objs.size=some bT:=Heap.get?_push_size _ rfl
 show wpAny _ A.in1 (Builtin.List.listExtendWith (.ref s.heap.objs.size) (.ref D) (.ref s.heap.objs.size)) _ _ _
 unfold Builtin.List.listExtendWith
 have hT:Shared.TypeIs { s with heap:=s.heap.push bT } (.ref D) "set":=⟨_,hD1,rfl⟩
 refine wpAny_bind (wpAny_typeOf hT ?_)
 have k1:Builtin.List.listSameRef (.ref s.heap.objs.size) (.ref D)=false:=by simp [Builtin.List.listSameRef];exact Nat.ne_of_gt vJ
 have k2:(Value.type "set" == Value.type "list")=false:=by decide
 have k3:(Value.type "set" == Value.type "tuple")=false:=by decide
 simp only [k1,k2,k3,Bool.or_self,Bool.false_eq_true,if_false]
 refine wpAny_bind (Xy hD1 g ?_)
 have p2:∀ b o,(s.heap.push bT).get? b=some o->((s.heap.push bT).push (cZ w t D L.length ep 0)).get? b=some o:=fun b o e=>Heap.get?_push_of_some _ e
 have hD2:=p2 _ _ hD1
 have hS2:=p2 _ _ hS1
 have hI2:((s.heap.push bT).push (cZ w t D L.length ep 0)).get? (s.heap.push bT).objs.size=some (cZ w t D L.length ep 0):=Heap.get?_push_size _ rfl
 have FQ:(s.heap.push bT).objs.size=s.heap.objs.size + 1:=Heap.size_push ..
 refine wpAny_bind (wpAny_holding (Xz hD2 ?_))
 have pick:∀ {c:Bool} {x y:Sem PySem.Fin} {R:PySem.Fin->Shared->Prop} {F':Value->Shared->Prop} {s':Shared},c=true->wpAny (model prog w) A.in1 x R F' s'->wpAny (model prog w) A.in1 (if c=true then x else y) R F' s':=fun {c x y R F' s'} hc hy=>by rw [hc];exact hy
 refine pick (by decide +kernel) ?_
 refine wpAny_bind (wpAny_rule ?_)
 refine wpAny_bind ?_
 show wpAny _ A.in1 (updateSeq s.heap.objs.size (·.push .none) >>= fun _=>updateSeq s.heap.objs.size (·.pop)) _ _ _
 refine wpAny_bind (wpAny_updateSeq hS2 rfl ?_)
 have hS3:=Heap.get?_update_self (Obj.mapSeq (·.push Value.none)) hS2 rfl
 refine wpAny_updateSeq hS3 rfl ?_
 have Aw:=Heap.get?_update_self (Obj.mapSeq (·.pop)) hS3 rfl
 generalize hH:(((s.heap.push bT).push (cZ w t D L.length ep 0)).update s.heap.objs.size (Obj.mapSeq (·.push Value.none))).update s.heap.objs.size (Obj.mapSeq (·.pop))=H at Aw
 have oth:∀ b o,b≠s.heap.objs.size->((s.heap.push bT).push (cZ w t D L.length ep 0)).get? b=some o->H.get? b=some o:=fun b o hb e=>by
  rw [<- hH];exact (Heap.get?_update_other _ _ (Ne.symm hb)).trans ((Heap.get?_update_other _ _ (Ne.symm hb)).trans e)
 have W:=(Uc (prog:=prog) (w:=w) (A:=A.in1) (D:=D) (I:=(s.heap.push bT).objs.size) (ep:=ep) (by simpa using hh) (by rw [FQ];exact Nat.ne_of_lt (Nat.lt_succ_of_lt vJ)) g).toS
 have hSf:s.heap.objs.size∉[(s.heap.push bT).objs.size,D]:=by
  simp only [List.mem_cons,List.not_mem_nil,or_false,not_or]
  exact ⟨by rw [FQ];exact Nat.ne_of_lt (Nat.lt_succ_self _),Nat.ne_of_gt vJ⟩
 refine wpAny_pure ⟨plainId_quiet F.plain_extend_loop _,codeAny_extend_loopS W (by rw [sizeLine_eq];omega) s.heap.objs.size hSf _ L.length 0 _ _ _ rfl (Nat.zero_le _) ⟨oth _ _ (by rw [FQ];exact Nat.succ_ne_self _) hI2,oth _ _ (Nat.ne_of_lt vJ) hD2⟩ Aw (ItemsOf.nil _) fun s' acc c hm hS' hacc=>?_⟩
 show wpAny _ A (load s.heap.objs.size >>= _) _ _ s'
 refine wpAny_bind (wpAny_load hS' ?_)
 have hacc':acc.toList=(cR w D ep L).toList.map (·.2):=by
  apply List.ext_getElem?
  intro i
  rw [List.getElem?_map,Array.getElem?_toList,Array.getElem?_toList]
  cases e:acc[i]? with
  | some v =>
   obtain ⟨x,hx,rfl⟩:=hacc.2 i v e
   rw [hx];rfl
  | none =>
   have:acc.size<=i:=by simpa using e
   rw [hacc.1] at this
   rw [Array.getElem?_eq_none (by rw [fY];exact this)];rfl
 obtain ⟨h',g',d',tk',os'⟩:=s'
 have eg:g'=s.gens:=hm.gens
 have ed:d'=s.drawn:=hm.drawn
 have eo:os'=s.os:=hm.os
 subst eg ed eo
 show wpAny _ _ (pure acc.toList) _ _ _
 rw [hacc']
 refine wpAny_pure (hQ h' tk' (fun b o e=>hm.heap b o ?_ (oth b o (Nat.ne_of_lt (Heap.lt_size e)) (p2 _ _ (p1 _ _ e)))) (Nat.le_of_lt (Heap.lt_size hS')))
 simp only [List.mem_cons,List.not_mem_nil,or_false,not_or]
 exact ⟨Nat.ne_of_lt (Heap.lt_size e),by rw [FQ];exact Nat.ne_of_lt (Nat.lt_succ_of_lt (Heap.lt_size e))⟩
end
end Tb
namespace Tb
open PySem PySem.Spec PySem.SetTable
section
variable {prog:Program} {w:World} {A:Around} {E:Value->Shared->Prop} {s:Shared}
theorem JN {a b:Addr} {ks:List Int} {L:List gW} {ep:Nat} {t:SetTable} {f:gW->List Int} {Q:SetFound->Shared->Prop} (ho:s.heap.get? a=some (bL L ep t)) (g:Good t L) (hl:L.length<=t.mask) (hf:∀ e∈L,Fx prog w s.heap e (f e))
  (hb:IsTupleKey (intKind prog w) s.heap ks b) (hu:A.units < cLine) (q1:∀ i (hi:i < L.length),f L[i]=ks->Q (.there (some i)) s)
  (q2:∀ j,(∀ e∈L,f e≠ks)->Q (.free j false) s) :
  ∀ (fuel s0 sE:Nat) (jP:Option Probe),s0<=sE->sE < s0 + fuel->sE < s0 + 10 * turns t.mask->¬ mF t (pos t (hK prog w ks) sE)->jP.getD (t.probeStart (hK prog w ks))=jd t s0 (t.probeStart (hK prog w ks)) ->
   (∀ n,n < s0->∃ e∈L,e.1=pos t (hK prog w ks) n/\f e≠ks)->wpAny (model prog w) A (setSearchFrom a (.ref b) (hK prog w ks) false fuel jP) Q E s:=by
 intro fuel
 induction fuel with
 | zero=>intro s0 sE _ h1 h2;omega
 | succ fuel ih =>
  intro s0 sE jP h1 h2 h2' hE hst hpre
  unfold setSearchFrom
  refine wpAny_bind (wpAny_setState_of ho rfl (g.fits hl) ?_)
  simp only [g.odd,Bool.false_eq_true,if_false]
  obtain ⟨s2,a1,a2,a3,a4⟩:=JD g.rise g.nd (fun i=>((((L.map (·.2)).toArray)[i]?).map (·.1)).getD 0) (hK prog w ks) (10 * turns t.mask) s0 sE h1 h2' hE
  have hh:∀ i (hi:i < L.length),((((L.map (·.2)).toArray)[i]?).map (·.1)).getD 0=L[i].2.1:=fun i hi=>by simp [hi]
  have passed:∀ n,n < s2->∃ e∈L,e.1=pos t (hK prog w ks) n/\f e≠ks:=fun n hn=>by
   by_cases c:n < s0
   ·exact hpre n c
   ·obtain ⟨i,hi,e1,e2⟩:=a3 n (by omega) hn
    rw [g.sz] at hi
    rw [g.at hi] at e1
    rw [hh i hi] at e2
    refine ⟨L[i],List.getElem_mem hi,e1,fun z=>e2 ?_⟩
    obtain ⟨b',_,_,e3⟩:=hf _ (List.getElem_mem hi)
    rw [e3,z]
  rcases a4 with ⟨hne,hp⟩|⟨i,hi,e1,e2,hp⟩
  ·-- an empty slot
   have hp':t.probe (fun i=>((((L.map (·.2)).toArray)[i]?).map (·.1)).getD 0) (hK prog w ks) (jP.getD (t.probeStart (hK prog w ks)))=some (.empty (pos t (hK prog w ks) s2) none):=by rw [hst];exact hp
   generalize hr:t.probe _ (hK prog w ks) (jP.getD (t.probeStart (hK prog w ks)))=r
   obtain rfl:r=_:=hr.symm.trans hp'
   simp only
   refine wpAny_pure (q2 _ fun e he z=>?_)
   ·obtain ⟨b',_,_,e3⟩:=hf e he
    obtain ⟨n,r1,r2⟩:=g.reach e he
    rw [e3,z] at r1 r2
    by_cases c:n < s2
    ·obtain ⟨e',he',q,ne⟩:=passed n c
     have:=g.uniq he' he (q.trans r1)
     subst this
     exact ne z
    ·by_cases d:s2 < n
     ·obtain ⟨e',he',q⟩:=r2 s2 d
      exact hne (g.live.mpr ⟨e',he',q⟩)
     ·obtain rfl:n=s2:=by omega
      exact hne (g.live.mpr ⟨e,he,r1.symm⟩)
  ·-- a key with the same hash
   rw [g.sz] at hi
   have e1':=e1
   rw [g.at hi] at e1
   obtain ⟨b',hv,hk',hx⟩:=hf _ (List.getElem_mem hi)
   have hp':t.probe (fun i=>((((L.map (·.2)).toArray)[i]?).map (·.1)).getD 0) (hK prog w ks) (jP.getD (t.probeStart (hK prog w ks)))=some (.candidate (pos t (hK prog w ks) s2) i (jd t (s2 + 1) (t.probeStart (hK prog w ks)))):=by rw [hst];exact hp
   generalize hr:t.probe _ (hK prog w ks) (jP.getD (t.probeStart (hK prog w ks)))=r
   obtain rfl:r=_:=hr.symm.trans hp'
   simp only
   have ei:((L.map (·.2)).toArray)[i]?=some (L[i].2.1,.ref b'):=by
    have:((L.map (·.2)).toArray)[i]?=some L[i].2:=by simp [hi]
    rw [this,<- hv]
   have rest:wpAny (model prog w) A (do
     let some (_,y):=((L.map (·.2)).toArray)[i]?|unsupported "internal:set-entry"
     let equal <- holding [y] (eqBool y (.ref b))
     let (es',_,t') <- setState a
     if false && equal then return .there none
     let some same:=t'.sameMemory t.moves t.mask|unsupported "set.changed-during-lookup:is-the-new-block-at-the-old-address"
     let still <- match (if same then t'.slot (pos t (hK prog w ks) s2) else .empty) with
      | .live i'=>match es'[i']? with
       | some (_,y')=>do pure (if <- isSame y' y then some i' else none)
       | none=>pure none
      | _=>pure none
     match still with
     | none=>rule "set.search.anew";setSearchFrom a (.ref b) (hK prog w ks) false fuel none
     | some i'=>if equal then return .there (some i') else setSearchFrom a (.ref b) (hK prog w ks) false fuel (some (jd t (s2 + 1) (t.probeStart (hK prog w ks))))) Q E s:=by
    rw [ei]
    simp only
    refine wpAny_bind (wpAny_holding ((TK prog w).eqBool hu hk' hb ?_))
    refine wpAny_bind (wpAny_setState_of ho rfl (g.fits hl) ?_)
    simp only [Bool.false_and,Bool.false_eq_true,if_false]
    have hsm:t.sameMemory t.moves t.mask=some true:=by unfold sameMemory;simp
    rw [hsm]
    simp only [if_true]
    have hsl:t.slot (pos t (hK prog w ks) s2)=.live i:=by rw [<- e1'];exact qZ g.rise (by rw [g.sz];exact hi)
    rw [hsl]
    simp only [ei]
    refine wpAny_bind (pK (wpAny_bind (wpAny_pure ?_)))
    simp only [if_true]
    by_cases c:f L[i]=ks
    ·simp only [c,decide_true,if_true]
     exact wpAny_pure (q1 i hi c)
    ·simp only [c,decide_false,Bool.false_eq_true,if_false]
     have hne:s2≠sE:=fun z=>hE (z▸g.live.mpr ⟨_,List.getElem_mem hi,e1⟩)
     refine ih (s2 + 1) sE _ (by omega) (by omega) (by omega) hE rfl fun n hn=>?_
     by_cases d:n=s2
     ·subst d;exact ⟨_,List.getElem_mem hi,e1,c⟩
     ·exact passed n (by omega)
   cases ahm:t.led with
   | true=>simp only [Bool.not_true,Bool.false_eq_true,if_false];exact rest
   | false =>
    simp only [Bool.not_false,if_true]
    refine wpAny_bind (Fz hb _ (fun y hy=>?_) ?_)
    ·obtain ⟨e,he,rfl⟩:=List.mem_map.mp hy
     have he':e∈(L.map (·.2)):=by
      have:=Array.mem_toList_iff.mp he
      have:=(Array.mem_filter.mp this).1
      simpa using this
     obtain ⟨e0,h0,rfl⟩:=List.mem_map.mp he'
     obtain ⟨b2,hv2,hk2,_⟩:=hf e0 h0
     exact ⟨_,b2,hv2,hk2⟩
    ·simp only [Bool.false_eq_true,if_false];exact rest
theorem aaW {U:Addr->List Int->Prop} {a b:Addr} {ks:List Int} {aF:List (List Int)} {Q:Option Nat->Shared->Prop} (hS:aL prog w U s.heap a aF) (hn:aF.length < 1000) (hb:IsTupleKey (intKind prog w) s.heap ks b) (hu:A.units < cLine)
  (h:∀ r,r.isSome=decide (ks∈aF)->Q r s):wpAny (model prog w) A (setFind a (.ref b) (hK prog w ks)) Q E s:=by
 obtain ⟨L,ep,t,f,ho,g,room,mb,⟨pl,ld⟩,hf,hp,nd,uu⟩:=hS
 have hlen:L.length=aF.length:=by have:=hp.length_eq;simpa using this
 have h7:=g.m7
 have hl:L.length<=t.mask:=by omega
 have adi:t.mask < 8000:=mb
 have hmem:∀ x,x∈aF↔∃ e∈L,f e.2=x:=fun x=>by rw [<- hp.mem_iff,List.mem_map]
 unfold setFind
 show wpAny (model prog w) A (setFindIn a (.ref b) (hK prog w ks) (99999 + 1)) Q E s
 unfold setFindIn
 refine wpAny_bind (wpAny_setState_of ho rfl (g.fits hl) ?_)
 have hby:byScan (.ref b) (L.map (·.2)).toArray=false:=by simp [byScan,Value.scannable]
 simp only [hby,Bool.false_eq_true,if_false]
 obtain ⟨e0,he0,hE0⟩:=yU g.rise (by rw [g.sz];exact hl)
 obtain ⟨k,hk⟩:=g.pw
 obtain ⟨sE,_,hsE,pE⟩:=Fq hk (hK prog w ks) 0 he0
 refine wpAny_bind ?_
 unfold setSearch
 refine JN (f:=fun e=>f e.2) (Q:=fun r s'=>wpAny (model prog w) A (match r with
  | .there i=>_
  | .free ..=>_) Q E s') ho g hl hf hb hu (fun i hi c=>?_) (fun j hno=>?_) 100000 0 sE none (Nat.zero_le _) (by omega) (by unfold turns;omega) (by rw [pE];exact hE0) rfl (fun n hn=>absurd hn (by omega))
 ·exact wpAny_pure (h _ (by simp only [Option.isSome_some];exact (decide_eq_true ((hmem ks).mpr ⟨_,List.getElem_mem hi,c⟩)).symm))
 ·exact wpAny_pure (h _ (by simp only [Option.isSome_none];exact (decide_eq_false fun z=>by obtain ⟨e,he,q⟩:=(hmem ks).mp z;exact hno e he q).symm))
theorem aaX {D:Addr} {L:List gW} {ep:Nat} {t:SetTable} {Q:Array (Int×Value)->Shared->Prop} (ho:s.heap.get? D=some (bL L ep t)) (g:Goes w L t) (h:Q (cR w D ep L) s):wpAny (model prog w) A (setWalk D) Q E s:=by
 unfold setWalk setsByText
 refine wpAny_bind (wpAny_setState_of ho rfl (g.g.fits g.hl) ?_)
 refine wpAny_bind (wpAny_bind (wpAny_askSetting (wpAny_pure ?_)))
 unfold cR at h
 cases hb:jj w with
 | true =>
  have hb':((model prog w).w.params.followText "set-order")=true:=hb
  simp only [hb,if_true] at h
  simp only [hb',if_true]
  exact wpAny_bind (wpAny_askSetting (wpAny_pure h))
 | false =>
  have hb':((model prog w).w.params.followText "set-order")=false:=hb
  simp only [hb,Bool.false_eq_true,if_false] at h
  simp only [hb',Bool.false_eq_true,if_false]
  have ld:t.led=true:=by rw [g.ld,hb];rfl
  have hdr:∀ c:Bool,(!t.plain && c)=false:=fun c=>by rw [g.pl];rfl
  have hld:∀ c:Bool,(!t.led && c)=false:=fun c=>by rw [ld];rfl
  have drop:∀ {c:Bool} {x y:Sem (Array (Int×Value))},c=false->wpAny (model prog w) A y Q E s->wpAny (model prog w) A (if c=true then x else y) Q E s:=fun {c x y} hc hy=>by rw [hc];exact hy
  refine drop (hdr _) ?_
  refine wpAny_bind ?_
  show wpAny _ _ (if (!t.led && decide (((L.map (·.2)).toArray).size > 1))=true then unsupported "set:maker-not-led" else pure ()) _ _ _
  rw [hld]
  exact wpAny_pure (wpAny_pure h)
theorem pN {D:Addr} {os:List Addr} {fl:Option Addr} {L:List gW} {ep:Nat} {t:SetTable} {Q:Array (Int×Value)->Shared->Prop} (ho:s.heap.get? D=some (bL L ep t)) (g:Goes w L t) (h:Q (cR w D ep L) s):wpAny (model prog w) A (setWalkUnseen D os fl) Q E s:=by
 unfold setWalkUnseen setsByText
 refine wpAny_bind (wpAny_setState_of ho rfl (g.g.fits g.hl) ?_)
 refine wpAny_bind (wpAny_bind (wpAny_askSetting (wpAny_pure ?_)))
 have hc:∀ c:Bool,(((model prog w).w.params.followText "set-order") || (t.led && t.plain) || c)=true:=fun c=>by
  rw [g.pl,g.ld]
  show (jj w || (!jj w && true) || c)=true
  cases jj w <;> simp
 have take:∀ {c:Bool} {x y:Sem (Array (Int×Value))},c=true->wpAny (model prog w) A x Q E s->wpAny (model prog w) A (if c=true then x else y) Q E s:=fun {c x y} hc hy=>by rw [hc];exact hy
 exact take (hc _) (aaX ho g h)
theorem aL.goes {U:Addr->List Int->Prop} {h:Heap} {D:Addr} {aF:List (List Int)} (x:aL prog w U h D aF) (hn:aF.length < 1000):∃ (L:List gW) (ep:Nat) (t:SetTable) (f:Int×Value->List Int),h.get? D=some (bL L ep t)/\Goes w L t/\L.length=aF.length /\
  ((cR w D ep L).toList.map f).Perm aF/\∀ e∈(cR w D ep L).toList,∃ b,e=(hK prog w (f e),.ref b)/\IsTupleKey (intKind prog w) h (f e) b/\U b (f e):=by
 obtain ⟨L,ep,t,f,ho,g,room,mb,pl,hf,hp,nd,uu⟩:=x
 have hlen:L.length=aF.length:=by have:=hp.length_eq;simpa using this
 have h7:=g.m7
 have op:=rz w D ep L
 refine ⟨L,ep,t,f,ho,⟨g.lies (by omega),by omega,pl.1,pl.2⟩,hlen,((op.map f).trans (List.Perm.of_eq (by rw [List.map_map];rfl))).trans hp,fun e he=>?_⟩
 obtain ⟨e0,h0,rfl⟩:=List.mem_map.mp (op.mem_iff.mp he)
 obtain ⟨b,h1,h2,h3⟩:=hf e0 h0
 exact ⟨b,by rw [<- h1,<- h3],h2,uu e0 h0 b h1⟩
end
end Tb
namespace Tb
open PySem PySem.Spec PySem.SetTable
section
variable {prog:Program} {w:World} {U:Addr->List Int->Prop} {A:Around} {E:Value->Shared->Prop} {s:Shared}
theorem Ud {a:Addr} {L:List gW} {ep:Nat} {t:SetTable} {Q:Unit->Shared->Prop} {wanted:Nat} (ho:s.heap.get? a=some (bL L ep t)) (g:Good t L) (hl:L.length<=t.mask) (hw:wanted<=100000) (hw2:L.length<=wanted) (hp:t.plain=true)
  (h:∀ h' L' t',Heap.SameBut a s.heap h'->h'.get? a=some (bL L' (ep + 1) t')->Good t' L'->t'.mask=sizeAbove wanted - 1->(t'.plain=true/\t'.led=t.led)->(L'.map (·.2)).Perm (L.map (·.2))->Q () { s with heap:=h' }) :
  wpAny (model prog w) A (setRelay a wanted) Q E s:=by
 obtain ⟨s1,s2,s3,s4⟩:=jw wanted (by omega)
 unfold setRelay
 refine wpAny_bind (wpAny_setState_of ho rfl (g.fits hl) ?_)
 have hsz:¬ sizeAbove wanted > sizeLine:=by rw [sizeLine_eq];omega
 simp only [hsz,if_false]
 obtain ⟨t',order,L',e1,e2,e3,e4,e5,g',e6,e7⟩:=rm s1 s2 t.finger (t.movedTo (sizeAbove wanted - 1)) t.led t.plain (L.map (·.2)) (by simp;omega)
 have hlen:L'.length=L.length:=by have:=e7.length_eq;simpa using this
 have er:t.relaid (((L.map (·.2)).toArray).map (·.1)) wanted=some (t',order):=by
  unfold relaid
  have:((L.map (·.2)).toArray).map (·.1)=((L.map (·.2)).map (·.1)).toArray:=by simp
  rw [this];exact e1
 have main:wpAny (model prog w) A (do
   let some (t,order):=t.relaid (((L.map (·.2)).toArray).map (·.1)) wanted|unsupported "internal:set-table-without-room"
   let es':=order.filterMap (((L.map (·.2)).toArray)[·]?)
   if es'.size != ((L.map (·.2)).toArray).size then unsupported "internal:set-table-lost-an-element"
   pure (es',t)) (fun r s'=>wpAny (model prog w) A (storeSet a r.1 r.2) Q E s') E s:=by
  rw [er]
  simp only
  rw [e6]
  have:((L'.map (·.2)).toArray.size != ((L.map (·.2)).toArray).size)=false:=by simp [hlen]
  rw [this]
  simp only [Bool.false_eq_true,if_false]
  refine wpAny_pure ?_
  exact jQ (t':=t') ho (by omega) fun h' hs hg=>h h' L' t' hs hg g' e2 ⟨e4.trans hp,e3⟩ e7
 exact wpAny_bind main
theorem aL.perm {h:Heap} {a:Addr} {aF gZ:List (List Int)} (x:aL prog w U h a aF) (p:aF.Perm gZ):aL prog w U h a gZ:=by
 obtain ⟨L,ep,t,f,ho,g,room,mb,pl,hf,hp,nd,uu⟩:=x
 exact ⟨L,ep,t,f,ho,g,room,mb,pl,hf,hp.trans p,p.nodup_iff.mp nd,uu⟩
def rQ (keep:List Int->Bool) (acc:List (List Int)) (ks:List Int):List (List Int):=if keep ks=true then (if ks∈acc then acc else ks::acc) else acc
theorem Ue (keep:List Int->Bool) (acc:List (List Int)) (ks:List Int):(rQ keep acc ks).length<=acc.length + 1:=by
 unfold rQ
 split
 ·split <;> simp
 ·simp
theorem Ug {keep:List Int->Bool} {acc:List (List Int)} {ks x:List Int}:x∈rQ keep acc ks↔x∈acc∨(x=ks/\keep ks=true):=by
 unfold rQ
 split
 ·rename_i hk
  split
  ·rename_i hm
   constructor
   ·exact .inl
   ·rintro (h|⟨rfl,_⟩)
    ·exact h
    ·exact hm
  ·rw [List.mem_cons]
   constructor
   ·rintro (h|h)
    ·exact .inr ⟨h,hk⟩
    ·exact .inl h
   ·rintro (h|⟨h,_⟩)
    ·exact .inr h
    ·exact .inl h
 ·rename_i hk
  constructor
  ·exact .inl
  ·rintro (h|⟨_,h⟩)
   ·exact h
   ·exact absurd h hk
theorem sG {keep:List Int->Bool} {x:List Int}:∀ {l acc:List (List Int)},x∈l.foldl (rQ keep) acc↔x∈acc∨(x∈l/\keep x=true)
 | [],acc=>by simp
 | k::l,acc=>by
  rw [List.foldl_cons,sG,Ug,List.mem_cons]
  constructor
  ·rintro ((h|⟨rfl,h⟩)|⟨h,h'⟩)
   ·exact .inl h
   ·exact .inr ⟨.inl rfl,h⟩
   ·exact .inr ⟨.inr h,h'⟩
  ·rintro (h|⟨rfl|h,h'⟩)
   ·exact .inl (.inl h)
   ·exact .inl (.inr ⟨rfl,h'⟩)
   ·exact .inr ⟨h,h'⟩
theorem vL {r:Addr} {keep:List Int->Bool} {f:Int×Value->List Int} {body:Int×Value->PUnit->Sem (ForInStep PUnit)} {s0:Shared} {Q:PUnit->Shared->Prop}
  (hbody:∀ (e:Int×Value) (b:Addr) (acc:List (List Int)) (s':Shared) (R:ForInStep PUnit->Shared->Prop),e=(hK prog w (f e),.ref b)->IsTupleKey (intKind prog w) s'.heap (f e) b->U b (f e)->Heap.SameBut r s0.heap s'.heap->aL prog w U s'.heap r acc->acc.length < 999 ->
   (∀ h' tk,Heap.SameBut r s'.heap h'->aL prog w U h' r (rQ keep acc (f e))->R (.yield ⟨⟩) { s' with heap:=h',toks:=tk })->wpAny (model prog w) A (body e ⟨⟩) R E s') :
  ∀ (es:List (Int×Value)) (acc:List (List Int)) (s':Shared),(∀ e∈es,∃ b,e=(hK prog w (f e),.ref b)/\IsTupleKey (intKind prog w) s0.heap (f e) b/\U b (f e))->Heap.SameBut r s0.heap s'.heap->aL prog w U s'.heap r acc->acc.length + es.length < 999 ->
   (∃ o,s0.heap.get? r=some o/\∀ xs m,o.data≠.seq xs m) ->
   (∀ h' tk,Heap.SameBut r s0.heap h'->aL prog w U h' r ((es.map f).foldl (rQ keep) acc)->Q ⟨⟩ { s' with heap:=h',toks:=tk })->wpAny (model prog w) A (forIn es PUnit.unit body) Q E s'
 | [],acc,s',_,hs,hS,_,_,h=>by
  rw [List.forIn_nil]
  exact wpAny_pure (h s'.heap s'.toks hs hS)
 | e::es,acc,s',he,hs,hS,hl,hr,h=>by
  rw [List.forIn_cons]
  obtain ⟨b,e1,k1,u1⟩:=he e (.head _)
  have key':IsTupleKey (intKind prog w) s'.heap (f e) b:=by
   obtain ⟨o,its,n,q1,q2,q3,q4⟩:=k1
   obtain ⟨ro,g1,g2⟩:=hr
   have ne:b≠r:=fun z=>by subst z;rw [g1] at q1;cases q1;exact g2 _ _ q3
   exact ⟨o,its,n,(hs.2 b ne).trans q1,q2,q3,q4⟩
  refine wpAny_bind (hbody e b acc s' _ e1 key' u1 hs hS (by simp at hl;omega) fun h' tk hs' hS'=>?_)
  refine vL hbody es _ { s' with heap:=h',toks:=tk } (fun e' h'=>he e' (.tail _ h')) (hs.trans hs') hS' (by have:=Ue keep acc (f e);simp at hl;omega) hr fun h2 tk2 hs2 hS2=>?_
  exact h h2 tk2 hs2 hS2
end
end Tb
namespace Tb
open PySem PySem.Spec PySem.SetTable
section
variable {prog:Program} {w:World} {U:Addr->List Int->Prop} {A:Around} {E:Value->Shared->Prop} {s:Shared}
def FT (prog:Program) (w:World) (U:Addr->List Int->Prop) (n:Nat) (h:Heap) (a:Addr) (aF:List (List Int)):Prop :=
 ∃ (L:List gW) (ep:Nat) (t:SetTable) (f:Int×Value->List Int),h.get? a=some (bL L ep t)/\Good t L/\(L.length + n) * 5 < t.mask * 3/\t.mask < 8000/\(t.plain=true/\t.led=!jj w)/\(∀ e∈L,Fx prog w h e (f e.2))/\(L.map fun e=>f e.2).Perm aF/\aF.Nodup/\∀ e∈L,∀ b,e.2.2=.ref b->U b (f e.2)
theorem FT.at {n:Nat} {h:Heap} {a:Addr} {aF:List (List Int)} (x:FT prog w U n h a aF):aL prog w U h a aF:=by
 obtain ⟨L,ep,t,f,ho,g,room,r⟩:=x
 exact ⟨L,ep,t,f,ho,g,by omega,r⟩
theorem aaY {r:Addr} {aF:List (List Int)} {n:Nat} {Q:Unit->Shared->Prop} (hS:aL prog w U s.heap r aF) (hn:aF.length + n < 900) (h1:1<=n)
  (h:∀ h',Heap.SameBut r s.heap h'->FT prog w U n h' r aF->Q () { s with heap:=h' }):wpAny (model prog w) A (setRoomFor r n) Q E s:=by
 obtain ⟨L,ep,t,f,ho,g,room,mb,pl,hf,hp,nd,uu⟩:=hS
 have hlen:L.length=aF.length:=by have:=hp.length_eq;simpa using this
 have h7:=g.m7
 have hl:L.length<=t.mask:=by omega
 have hfill:t.fill=L.length:=by unfold fill;rw [g.nd,g.sz];simp
 unfold setRoomFor
 refine wpAny_bind (wpAny_setState_of ho rfl (g.fits hl) ?_)
 simp only [roomFor,hfill,g.sz]
 by_cases c:(L.length + n) * 5 ≥ t.mask * 3
 ·rw [if_pos c]
  simp only
  obtain ⟨s1,s2,s3,s4⟩:=jw ((L.length + n) * 2) (by omega)
  refine Ud ho g hl (by omega) (by omega) pl.1 fun h' L' t' hs hg g' em p2 pm=>h h' hs ?_
  have hl2:L'.length=L.length:=by have:=pm.length_eq;simpa using this
  have hv:∀ e∈L',∃ e1∈L,e1.2=e.2:=fun e he=>by
   have:e.2∈L.map (·.2):=pm.mem_iff.mp (List.mem_map.mpr ⟨e,he,rfl⟩)
   obtain ⟨e1,h1,h2⟩:=List.mem_map.mp this
   exact ⟨e1,h1,h2⟩
  refine ⟨L',ep + 1,t',f,hg,g',by rw [em,hl2];omega,by rw [em];omega,⟨p2.1,p2.2.trans pl.2⟩,fun e he=>?_,?_,nd,fun e he b hb=>?_⟩
  ·obtain ⟨e1,he1,q⟩:=hv e he
   obtain ⟨b',k1,k2,k3⟩:=hf e1 he1
   rw [q] at k1 k2 k3
   exact ⟨b',k1,je ho hs k2,k3⟩
  ·have:=(pm.map f)
   rw [List.map_map,List.map_map] at this
   exact this.trans hp
  ·obtain ⟨e1,he1,q⟩:=hv e he
   rw [<- q];exact uu e1 he1 b (by rw [q];exact hb)
 ·rw [if_neg c]
  simp only
  have:=h s.heap (Heap.SameBut.refl r s.heap) ⟨L,ep,t,f,ho,g,by omega,mb,pl,hf,hp,nd,uu⟩
  exact wpAny_pure (by cases s;exact this)
theorem Good.as {t t':SetTable} {L:List gW} (g:Good t L) (e1:t'.mask=t.mask) (e2:t'.dummies=t.dummies) (e3:t'.place=t.place):Good t' L where
 pw:=by rw [e1];exact g.pw
 m7:=by rw [e1];exact g.m7
 nd:=by rw [e2];exact g.nd
 pl:=by rw [e3];exact g.pl
 so:=g.so
 le:=fun e he=>by rw [e1];exact g.le e he
 reach:=fun e he=>by
  obtain ⟨n,r1,r2⟩:=g.reach e he
  exact ⟨n,by rw [pJ e1];exact r1,fun n' h=>by obtain ⟨e',h1,h2⟩:=r2 n' h;exact ⟨e',h1,by rw [pJ e1];exact h2⟩⟩
theorem JQ {r o:Addr} {aF js:List (List Int)} {each:Sem Unit} {Q:Unit->Shared->Prop} (hS:aL prog w U s.heap r aF) (hO:aL prog w U s.heap o js) (hne:r≠o) (hn:aF.length + js.length < 900) (hu:A.units < cLine)
  (ahs:∀ (s':Shared) (R:Unit->Shared->Prop),Heap.SameBut r s.heap s'.heap->R () s'->wpAny (model prog w) A each R E s')
  (h:∀ h' tk gZ,Heap.SameBut r s.heap h'->gZ.Nodup->(∀ x,x∈gZ↔x∈aF∨x∈js)->aL prog w U h' r gZ->Q () { s with heap:=h',toks:=tk }):wpAny (model prog w) A (setMerge r o each) Q E s:=by
 have hO0:=hO
 obtain ⟨L2,ep2,t2,f2,ho2,g2,aht,mb2,pl2,hf2,hp2,nd2,uu2⟩:=hO
 have nd1:aF.Nodup:=by obtain ⟨_,_,_,_,_,_,_,_,_,_,_,z,_⟩:=hS;exact z
 have hlen2:L2.length=js.length:=by have:=hp2.length_eq;simpa using this
 have h72:=g2.m7
 have hl2:L2.length<=t2.mask:=by omega
 unfold setMerge
 have hb:(r == o)=false:=by simp [hne]
 simp only [hb,Bool.false_eq_true,if_false]
 refine wpAny_bind (wpAny_setState_of ho2 rfl (g2.fits hl2) ?_)
 by_cases hz:L2=[]
 ·subst hz
  have:js=[]:=List.length_eq_zero_iff.mp hlen2.symm
  subst this
  simp only [List.map_nil,List.isEmpty_toArray,List.isEmpty_nil,if_true]
  exact wpAny_pure (by have:=h s.heap s.toks aF (Heap.SameBut.refl r s.heap) nd1 (fun x=>by simp) hS;cases s;exact this)
 have hpos:1<=L2.length:=by cases L2 with|nil=>exact absurd rfl hz|cons a l=>simp
 have hem:((L2.map (·.2)).toArray.isEmpty)=false:=by
  cases L2 with
  | nil=>exact absurd rfl hz
  | cons a l=>simp
 simp only [hem,Bool.false_eq_true,if_false]
 have hsz:(L2.map (·.2)).toArray.size=L2.length:=by simp
 rw [hsz]
 refine wpAny_bind (aaY hS (by omega) hpos fun h1 hs1 hR=>?_)
 have hR0:=hR.at
 obtain ⟨L,ep,t,f,ho,g,room,mb,pl,hf,hp,nd,uu⟩:=hR
 have hlen:L.length=aF.length:=by have:=hp.length_eq;simpa using this
 have h7:=g.m7
 have hl:L.length<=t.mask:=by omega
 have hfill:t.fill=L.length:=by unfold fill;rw [g.nd,g.sz];simp
 have ajQ:h1.get? o=some (bL L2 ep2 t2):=(hs1.2 o (Ne.symm hne)).trans ho2
 refine wpAny_bind (wpAny_setState_of (s:={ s with heap:=h1 }) ho rfl (g.fits hl) ?_)
 have key2:∀ {h':Heap},Heap.SameBut r h1 h'->∀ e∈L2,Fx prog w h' e (f2 e.2):=fun {h'} hs' e he=>by
  obtain ⟨b,k1,k2,k3⟩:=hf2 e he
  obtain ⟨_,_,_,ro,_⟩:=hS.len
  exact ⟨b,k1,je ho hs' (je ro hs1 k2),k3⟩
 by_cases hL:L=[]
 ·subst hL
  have hk0:aF=[]:=List.length_eq_zero_iff.mp hlen.symm
  subst hk0
  have fu:∀ h' tk,Heap.SameBut r h1 h'->aL prog w U h' r js->Q () { s with heap:=h',toks:=tk }:=fun h' tk hs' hS'=>h h' tk js (hs1.trans hs') nd2 (fun x=>by simp) hS'
  by_cases hm:t.mask=t2.mask
  ·have hroad:t.road t2=.slotForSlot:=by unfold road;rw [hfill,g2.nd];simp [hm]
   rw [hroad]
   simp only
   refine jQ (s:={ s with heap:=h1 }) (L':=L2) ho (by omega) fun h' hs' hg=>fu h' s.toks hs' ⟨L2,ep + 1,_,f2,hg,g2.as rfl rfl rfl,aht,mb2,⟨?_,?_⟩,key2 hs',hp2,nd2,uu2⟩
   ·show (t.plain && t2.plain)=true;rw [pl.1,pl2.1];rfl
   ·show (t.led && t2.led)=!jj w;rw [pl.2,pl2.2];cases jj w <;> rfl
  ·have hroad:t.road t2=.clean:=by unfold road;rw [hfill];simp [hm]
   rw [hroad]
   simp only
   obtain ⟨t',order,L',e1,e2,e3,e4,e5,g',e6,e7⟩:=rm g.pw g.m7 t.finger t.moves (t.led && t2.led) (t.plain && t2.plain) (L2.map (·.2)) (by simp at room ⊢;omega)
   have hl':L'.length=L2.length:=by have:=e7.length_eq;simpa using this
   have main:wpAny (model prog w) A (do
     let some (t,order):=(SetTable.laid t.mask t.finger t.moves (led:=t.led && t2.led) (plain:=t.plain && t2.plain) (((L2.map (·.2)).toArray).map (·.1)))|unsupported "internal:set-table-without-room"
     let es':=order.filterMap (((L2.map (·.2)).toArray)[·]?)
     if es'.size != ((L2.map (·.2)).toArray).size then unsupported "internal:set-table-lost-an-element"
     pure (es',t)) (fun q s'=>wpAny (model prog w) A (storeSet r q.1 q.2) Q E s') E { s with heap:=h1 }:=by
    have er:SetTable.laid t.mask t.finger t.moves (led:=t.led && t2.led) (plain:=t.plain && t2.plain) (((L2.map (·.2)).toArray).map (·.1))=some (t',order):=by
     have:((L2.map (·.2)).toArray).map (·.1)=((L2.map (·.2)).map (·.1)).toArray:=by simp
     rw [this];exact e1
    rw [er]
    simp only
    rw [e6]
    have:((L'.map (·.2)).toArray.size != ((L2.map (·.2)).toArray).size)=false:=by simp [hl']
    rw [this]
    simp only [Bool.false_eq_true,if_false]
    refine wpAny_pure ?_
    have hv:∀ e∈L',∃ e1∈L2,e1.2=e.2:=fun e he=>by
     have:e.2∈L2.map (·.2):=e7.mem_iff.mp (List.mem_map.mpr ⟨e,he,rfl⟩)
     obtain ⟨e1,h1,h2⟩:=List.mem_map.mp this
     exact ⟨e1,h1,h2⟩
    refine jQ (s:={ s with heap:=h1 }) (t':=t') ho (by omega) fun h' hs' hg=>fu h' s.toks hs' ⟨L',ep + 1,t',f2,hg,g',?_,by rw [e2];exact mb,⟨?_,?_⟩,fun e he=>?_,?_,nd2,fun e he b hb=>?_⟩
    ·rw [e2,hl'];simp at room;omega
    ·rw [e4,pl.1,pl2.1];rfl
    ·rw [e3,pl.2,pl2.2];cases jj w <;> rfl
    ·obtain ⟨e1,he1,q⟩:=hv e he
     obtain ⟨b',k1,k2,k3⟩:=key2 hs' e1 he1
     rw [q] at k1 k2 k3
     exact ⟨b',k1,k2,k3⟩
    ·have:=(e7.map f2)
     rw [List.map_map,List.map_map] at this
     exact this.trans hp2
    ·obtain ⟨e1,he1,q⟩:=hv e he
     rw [<- q];exact uu2 e1 he1 b (by rw [q];exact hb)
   exact wpAny_bind main
 ·have hroad:t.road t2=.oneByOne:=by
   unfold road
   rw [hfill]
   have:L.length≠0:=fun z=>hL (List.length_eq_zero_iff.mp z)
   simp [this]
  rw [hroad]
  simp only
  have hO1:aL prog w U h1 o js:=hO0.moved fun b o' hb e=>by
   have:b≠r:=by
    rcases hb with rfl|⟨ks,hk⟩
    ·exact Ne.symm hne
    ·obtain ⟨_,_,_,ro,_⟩:=hS.len
     exact fun z=>by
      subst z
      obtain ⟨q,its,n,q1,q2,q3,q4⟩:=hk
      rw [ro] at q1;cases q1;cases q3
   exact (hs1.2 b this).trans e
  obtain ⟨L3,ep3,t3,f3,ho3,gs3,hl3,hp3,he3⟩:=hO1.goes (by omega)
  have osz:(cR w o ep3 L3).toList.length=L3.length:=(Array.length_toList).trans (fY w o ep3 L3)
  refine wpAny_bind (pN (s:={ s with heap:=h1 }) ho3 gs3 ?_)
  have hep:ep3=ep2:=by rw [ajQ] at ho3;injection ho3 with z;injection z with _ _ z2 _;injection z2 with _ z3 _;exact z3.symm
  refine wpAny_bind ?_
  rw [<- Array.forIn_toList]
  refine vL (U:=U) (r:=r) (keep:=fun _=>true) (f:=f3) (s0:={ s with heap:=h1 }) (fun e b acc s' R e1 k1 u1 hs' hS' hl' hR'=>?_) (cR w o ep3 L3).toList aF { s with heap:=h1 } he3 (Heap.SameBut.refl r h1) hR0 (by rw [osz];omega) ⟨_,ho,fun xs m z=>by cases z⟩ fun h' tk hs' hS'=>?_
  ·rw [e1]
   simp only
   refine wpAny_bind (wpAny_holding (mH hS' (by omega) k1 u1 hu fun h2 added hs2 hS2=>?_))
   refine wpAny_bind (ahs _ _ (hs1.trans (hs'.trans hs2)) ?_)
   have ho4:h2.get? o=some (bL L3 ep3 t3):=(hs2.2 o (Ne.symm hne)).trans ((hs'.2 o (Ne.symm hne)).trans ho3)
   refine wpAny_bind (wpAny_setState_of (s:={ s' with heap:=h2 }) ho4 rfl (gs3.g.fits gs3.hl) ?_)
   rw [hep]
   simp only [bne_self_eq_false,Bool.false_eq_true,if_false]
   refine wpAny_pure (hR' h2 s'.toks hs2 ?_)
   unfold rQ
   rw [if_pos rfl]
   exact hS2
  ·refine wpAny_pure (h h' tk _ (hs1.trans hs') (by obtain ⟨_,_,_,_,_,_,_,_,_,_,_,z,_⟩:=hS';exact z) (fun x=>?_) hS')
   rw [sG,hp3.mem_iff]
   simp
end
end Tb
namespace Tb
open PySem PySem.Spec PySem.SetTable
theorem Ol:entryFor table "set.__or__"=some Builtin.«frozenset.__or__»:=entryFor_alias (id':="frozenset.__or__") (by kernel_rfl) rfl (by decide +kernel) (by kernel_rfl)
theorem JR:entryFor table "set.__and__"=some Builtin.«frozenset.__and__»:=entryFor_alias (id':="frozenset.__and__") (by kernel_rfl) rfl (by decide +kernel) (by kernel_rfl)
theorem JT:entryFor table "set.__sub__"=some Builtin.«frozenset.__sub__»:=entryFor_alias (id':="frozenset.__sub__") (by kernel_rfl) rfl (by decide +kernel) (by kernel_rfl)
section
variable {prog:Program} {w:World} {U:Addr->List Int->Prop} {A:Around} {E:Value->Shared->Prop} {s:Shared}
theorem vM {Q:Value->Shared->Prop} (h:Q (.ref s.heap.objs.size) { s with heap:=s.heap.push (bh (!jj w)) }):wpAny (model prog w) A (newSet (.type "set")) Q E s:=by
 unfold newSet setsByText
 refine wpAny_bind (wpAny_bind (wpAny_askSetting (wpAny_pure ?_)))
 simp only [newObj]
 exact wpAny_bind (wpAny_alloc (wpAny_pure h))
theorem FW {D:Addr} {Q:Value->Shared->Prop} (hT:s.TypeIs (.ref D) "set") (h:Q (.type "set") s):wpAny (model prog w) A (Builtin.Frozenset.baseOf D) Q E s:=by
 unfold Builtin.Frozenset.baseOf
 exact wpAny_bind (wpAny_isInstance hT sub_set_self (wpAny_pure h))
theorem pP {D:Addr} {Q:Bool->Shared->Prop} (hT:s.TypeIs (.ref D) "set") (h:Q true s):wpAny (model prog w) A (Builtin.Frozenset.isAnySet (.ref D)) Q E s:=by
 unfold Builtin.Frozenset.isAnySet
 refine wpAny_bind (wpAny_isInstance hT sub_set_self ?_)
 exact wpAny_pure h
theorem aL.ty {D:Addr} {aF:List (List Int)} (hS:aL prog w U s.heap D aF):s.TypeIs (.ref D) "set":=by
 obtain ⟨L,ep,t,ho,_⟩:=hS.len
 exact ⟨_,ho,rfl⟩
theorem yW {h':Heap} {o:Obj} (hs:Heap.SameBut s.heap.objs.size (s.heap.push o) h'):∀ b x,s.heap.get? b=some x->h'.get? b=some x:=fun b x e =>
 (hs.2 b (Nat.ne_of_lt (Heap.lt_size e))).trans (Heap.get?_push_of_some _ e)
theorem aL.pushed {D:Addr} {aF:List (List Int)} (hS:aL prog w U s.heap D aF) (o:Obj):aL prog w U (s.heap.push o) D aF:=hS.moved fun b x _ e=>Heap.get?_push_of_some _ e
theorem FZ {D:Addr} {aF:List (List Int)} {Q:Value->Shared->Prop} (hS:aL prog w U s.heap D aF) (hn:aF.length < 900) (hu:A.units < cLine)
  (h:∀ h' tk gZ,(∀ b o,s.heap.get? b=some o->h'.get? b=some o)->gZ.Nodup->(∀ x,x∈gZ↔x∈aF)->aL prog w U h' s.heap.objs.size gZ->Q (.ref s.heap.objs.size) { s with heap:=h',toks:=tk }):wpAny (model prog w) A (Builtin.Frozenset.copyOf D) Q E s:=by
 have hlt:D < s.heap.objs.size:=by obtain ⟨L,ep,t,ho,_⟩:=hS.len;exact Heap.lt_size ho
 unfold Builtin.Frozenset.copyOf
 refine wpAny_bind (FW hS.ty (wpAny_bind (vM ?_)))
 refine wpAny_bind (m:=Builtin.Frozenset.addrOf _) (wpAny_pure ?_)
 refine wpAny_bind (JQ (U:=U) (s:={ s with heap:=s.heap.push (bh (!jj w)) }) (xQ (Heap.get?_push_size _ rfl)) (hS.pushed _) (Nat.ne_of_gt hlt) (by simpa using hn) hu (fun s' R _ q=>wpAny_pure q) fun h' tk gZ hs nd hm hS'=>?_)
 exact wpAny_pure (h h' tk gZ (yW hs) nd (fun x=>by rw [hm x];simp) hS')
theorem iK {D:Addr} {aF:List (List Int)} {Q:Nat->Shared->Prop} (hS:aL prog w U s.heap D aF) (hn:aF.length < 1000) (h:Q aF.length s):wpAny (model prog w) A (Builtin.Frozenset.sizeOf D) Q E s:=by
 obtain ⟨L,ep,t,f,ho,gs,hl,_⟩:=hS.goes hn
 unfold Builtin.Frozenset.sizeOf
 refine wpAny_bind (wpAny_setEntries_of ho rfl (gs.g.fits gs.hl) (wpAny_pure ?_))
 rw [show ((L.map (·.2)).toArray).size=aF.length by simp [hl]]
 exact h
theorem aeR {D r:Addr} {id:String} {aF js:List (List Int)} {Q:Unit->Shared->Prop} (hS:aL prog w U s.heap r aF) (hO:aL prog w U s.heap D js) (hne:r≠D) (hn:aF.length + js.length < 900) (hu:A.units < cLine)
  (h:∀ h' tk gZ,Heap.SameBut r s.heap h'->gZ.Nodup->(∀ x,x∈gZ↔x∈aF∨x∈js)->aL prog w U h' r gZ->Q () { s with heap:=h',toks:=tk }):wpAny (model prog w) A (Builtin.Frozenset.updateFrom id r (.ref D)) Q E s:=by
 obtain ⟨L,ep,t,f,ho,gs,hl,_⟩:=hO.goes (by omega)
 unfold Builtin.Frozenset.updateFrom
 refine wpAny_bind (pP hO.ty ?_)
 simp only [if_true]
 refine wpAny_bind (m:=Builtin.Frozenset.addrOf _) (wpAny_pure ?_)
 unfold Builtin.Frozenset.merge
 refine wpAny_bind (wpAny_setEpoch_of ho rfl (gs.g.fits gs.hl) ?_)
 refine JQ hS hO hne hn hu (fun s' R hs q=>?_) h
 unfold Builtin.Frozenset.unchanged
 have ho':s'.heap.get? D=some (bL L ep t):=(hs.2 D (Ne.symm hne)).trans ho
 refine wpAny_bind (wpAny_setEpoch_of ho' rfl (gs.g.fits gs.hl) ?_)
 simp only [bne_self_eq_false,Bool.false_eq_true,if_false]
 exact wpAny_pure q
theorem Om {name:String} {f:String->Addr->Value->Sem Value} {l r:Addr} {P:PySem.Fin->Shared->Prop} (hl:s.TypeIs (.ref l) "set") (hr:s.TypeIs (.ref r) "set") (h:wpAny (model prog w) A (f s!"frozenset.{name}" l (.ref r)) (fun v s'=>P (.done (.ret v)) s') E s) :
  wpAny (model prog w) A ((fun args=>do
   let (self,other) <- Builtin.Frozenset.slot1 name args
   let (l,r):=if false then (other,self) else (self,other)
   if !(<- Builtin.Frozenset.isAnySet l <&&> Builtin.Frozenset.isAnySet r) then rule s!"frozenset.{name}.declined";return <- ret .notImplemented
   ret (<- f s!"frozenset.{name}" (<- Builtin.Frozenset.addrOf l) r):Builtin) ⟨[.ref l,.ref r],[]⟩) P E s:=by
 unfold Builtin.Frozenset.slot1
 simp only [slotArgs,List.isEmpty_nil,Bool.not_true,Bool.false_eq_true,if_false,List.length_cons,List.length_nil,bne_self_eq_false]
 refine wpAny_bind (wpAny_bind (wpAny_pure (wpAny_pure ?_)))
 simp only
 refine wpAny_bind (wpAny_bind (pP hl ?_))
 show wpAny (model prog w) A (Builtin.Frozenset.isAnySet (.ref r)) _ _ _
 refine pP hr ?_
 simp only [Bool.not_true,Bool.false_eq_true,if_false]
 refine wpAny_bind (m:=Builtin.Frozenset.addrOf _) (wpAny_pure ?_)
 exact wpAny_bind (wpAny_mono h (fun v s' hv=>wpAny_pure hv) fun _ _ x=>x)
end
end Tb
namespace Tb
open PySem PySem.Spec PySem.SetTable
theorem dR {α:Type} [DecidableEq α]:∀ {l l':List α},l.Nodup->l'.Nodup->(∀ x,x∈l↔x∈l')->l.Perm l'
 | [],l',_,_,h=>by
  cases l' with
  | nil=>exact .refl _
  | cons a t=>exact absurd ((h a).mpr (.head _)) (by simp)
 | a::t,l',nd,nd',h=>by
  obtain ⟨n1,n2⟩:=List.nodup_cons.mp nd
  have ha:a∈l':=(h a).mp (.head _)
  refine (List.Perm.cons a (dR n2 (nd'.erase a) fun x=>?_)).trans (List.perm_cons_erase ha).symm
  rw [nd'.mem_erase_iff]
  constructor
  ·intro hx
   exact ⟨fun z=>n1 (z▸hx),(h x).mp (.tail _ hx)⟩
  ·rintro ⟨hx,hm⟩
   rcases List.mem_cons.mp ((h x).mpr hm) with z|z
   ·exact absurd z hx
   ·exact z
section
variable {prog:Program} {w:World} {U:Addr->List Int->Prop} {A:Around} {E:Value->Shared->Prop} {s:Shared}
theorem aL.nd {D:Addr} {h:Heap} {aF:List (List Int)} (hS:aL prog w U h D aF):aF.Nodup:=by obtain ⟨_,_,_,_,_,_,_,_,_,_,_,z,_⟩:=hS;exact z
theorem ajS {id:String} {l r:Addr} {aF js:List (List Int)} {Q:Value->Shared->Prop} (hl:aL prog w U s.heap l aF) (hr:aL prog w U s.heap r js) (hne:l≠r) (hn:aF.length + js.length < 900) (hu:A.units < cLine)
  (h:∀ h' tk ls,(∀ b o,s.heap.get? b=some o->h'.get? b=some o)->ls.Nodup->(∀ x,x∈ls↔x∈aF∨x∈js)->aL prog w U h' s.heap.objs.size ls->Q (.ref s.heap.objs.size) { s with heap:=h',toks:=tk }) :
  wpAny (model prog w) A (do
   let result <- Builtin.Frozenset.copyOf l
   if Value.ref r != .ref l then holding [result] (Builtin.Frozenset.updateFrom id (<- Builtin.Frozenset.addrOf result) (.ref r))
   return result) Q E s:=by
 have hlt:r < s.heap.objs.size:=by obtain ⟨L,ep,t,ho,_⟩:=hr.len;exact Heap.lt_size ho
 refine wpAny_bind (FZ hl (by omega) hu fun h1 tk1 k1 kp nd1 hm1 hS1=>?_)
 have hb:(Value.ref r != Value.ref l)=true:=by rw [bne_iff_ne];intro e;injection e with e;exact hne e.symm
 have hp:k1.length=aF.length:=(dR nd1 hl.nd hm1).length_eq
 have hr1:aL prog w U h1 r js:=hr.moved fun b o _ e=>kp b o e
 simp only [hb,if_true]
 refine wpAny_bind (m:=Builtin.Frozenset.addrOf _) (wpAny_pure ?_)
 refine wpAny_bind (wpAny_holding (aeR (s:={ s with heap:=h1,toks:=tk1 }) hS1 hr1 (Nat.ne_of_gt hlt) (by omega) hu fun h2 tk2 ls hs2 nd2 hm2 hS2=>?_))
 refine wpAny_pure (h h2 tk2 ls (fun b o e=>(hs2.2 b (Nat.ne_of_lt (Heap.lt_size e))).trans (kp b o e)) nd2 (fun x=>?_) hS2)
 rw [hm2,hm1]
theorem ahw {l r:Addr} {aF js:List (List Int)} {Q:Value->Shared->Prop} (hl:aL prog w U s.heap l aF) (hr:aL prog w U s.heap r js) (hne:l≠r) (hn:aF.length + js.length < 900) (hu:A.units + 4 < cLine)
  (h:∀ h' tk ls,(∀ b o,s.heap.get? b=some o->h'.get? b=some o)->ls.Nodup->(∀ x,x∈ls↔x∈aF∨x∈js)->aL prog w U h' s.heap.objs.size ls->Q (.ref s.heap.objs.size) { s with heap:=h',toks:=tk }) :
  wpAny (model prog w) A (binaryOp .BitOr (.ref l) (.ref r)) Q E s:=by
 refine wpAny_binaryOp_same (op:=.BitOr) (T:="set") hl.ty hr.ty F.fills_set_or F.slot_set_or (wpAny_call_entry F.slot_set_or hl.ty Ol ?_ (F.args_set_or_2 _ _))
 refine Om (name:="__or__") hl.ty hr.ty (ajS hl hr hne hn (by show A.units + 1 < cLine;omega) fun h' tk ls k nd hm hS=>⟨_,rfl,by simp,h h' tk ls k nd hm hS⟩)
theorem Du {r o D:Addr} {id:String} {aF js:List (List Int)} {pos:Bool} {Q:PUnit->Shared->Prop} {L:List gW} {ep:Nat} {t:SetTable} {f:Int×Value->List Int}
  (hS:aL prog w U s.heap r []) (hO:aL prog w U s.heap o js) (hD:s.heap.get? D=some (bL L ep t)) (gs:Goes w L t) (hrD:r≠D) (hro:r≠o) (hjs:js.length < 900) (hL:L.length < 900) (hp:((cR w D ep L).toList.map f).Perm aF) (hu:A.units < cLine)
  (he:∀ e∈(cR w D ep L).toList,∃ b,e=(hK prog w (f e),.ref b)/\IsTupleKey (intKind prog w) s.heap (f e) b/\U b (f e))
  (h:∀ h' tk ls,Heap.SameBut r s.heap h'->(∀ x,x∈ls↔x∈aF/\decide (x∈js)=pos)->aL prog w U h' r ls->Q ⟨⟩ { s with heap:=h',toks:=tk }) :
  wpAny (model prog w) A (forIn (cR w D ep L) PUnit.unit fun (e:Int×Value) _=>do
   holding [e.2] (do
    if ((<- setFind o e.2 e.1).isSome == pos)=true then
     let _ <- setAddHashed r e.2 e.1
     pure PUnit.unit)
   Builtin.Frozenset.unchanged id D ep
   pure (ForInStep.yield PUnit.unit)) Q E s:=by
 have osz:(cR w D ep L).toList.length=L.length:=(Array.length_toList).trans (fY w D ep L)
 obtain ⟨Lr,er,tr,hor,_⟩:=hS.len
 rw [<- Array.forIn_toList]
 refine vL (U:=U) (r:=r) (keep:=fun k=>decide (k∈js) == pos) (f:=f) (s0:=s) (fun e b acc s' R e1 k1 u1 hs' hS' hl' hR'=>?_) _ [] s he (Heap.SameBut.refl r s.heap) hS (by rw [osz];simp;omega) ⟨_,hor,fun xs m z=>by cases z⟩ fun h' tk hs' hS'=>h h' tk _ hs' (fun x=>?_) hS'
 ·have hO':aL prog w U s'.heap o js:=hO.moved fun b o' hb e=>by
   have:b≠r:=by
    rcases hb with rfl|⟨ks,hk⟩
    ·exact Ne.symm hro
    ·exact Oj hk hor (fun xs m z=>by cases z)
   exact (hs'.2 b this).trans e
  have hD':∀ {h2:Heap},Heap.SameBut r s'.heap h2->h2.get? D=some (bL L ep t):=fun hs2=>(hs2.2 D (Ne.symm hrD)).trans ((hs'.2 D (Ne.symm hrD)).trans hD)
  rw [e1]
  simp only
  have last:∀ (h2:Heap) (tk:Nat),Heap.SameBut r s'.heap h2->R (.yield ⟨⟩) { s' with heap:=h2,toks:=tk }->wpAny (model prog w) A (do Builtin.Frozenset.unchanged id D ep;pure (ForInStep.yield PUnit.unit)) R E { s' with heap:=h2,toks:=tk }:=fun h2 tk hs2 q=>by
   unfold Builtin.Frozenset.unchanged
   refine wpAny_bind (wpAny_bind (wpAny_setEpoch_of (s:={ s' with heap:=h2,toks:=tk }) (hD' hs2) rfl (gs.g.fits gs.hl) ?_))
   simp only [bne_self_eq_false,Bool.false_eq_true,if_false]
   exact wpAny_pure (wpAny_pure q)
  refine wpAny_bind (wpAny_holding (wpAny_bind (aaW hO' (by omega) k1 hu fun fr hfr=>?_)))
  rw [hfr]
  by_cases c:(decide (f e∈js) == pos)=true
  ·rw [if_pos c]
   refine wpAny_bind (mH hS' (by omega) k1 u1 hu fun h2 added hs2 hS2=>wpAny_pure (last h2 s'.toks hs2 (hR' h2 s'.toks hs2 ?_)))
   unfold rQ
   rw [if_pos c];exact hS2
  ·rw [if_neg c]
   have:=last s'.heap s'.toks (Heap.SameBut.refl r s'.heap) (hR' s'.heap s'.toks (Heap.SameBut.refl r s'.heap) (by unfold rQ;rw [if_neg c];exact hS'))
   exact wpAny_pure this
 ·rw [sG,hp.mem_iff]
  simp
theorem Ga {α:Type} {c:Bool} {x y:Sem α} {Q:α->Shared->Prop} (hc:c=false) (hy:wpAny (model prog w) A y Q E s):wpAny (model prog w) A (if c=true then x else y) Q E s:=by rw [hc];exact hy
theorem ahx {id:String} {l r:Addr} {aF js:List (List Int)} {Q:Value->Shared->Prop} (hl:aL prog w U s.heap l aF) (hr:aL prog w U s.heap r js) (hne:l≠r) (hk:aF.length < 900) (hj:js.length < 900) (hu:A.units < cLine)
  (h:∀ h' tk ls,(∀ b o,s.heap.get? b=some o->h'.get? b=some o)->(∀ x,x∈ls↔x∈aF/\x∈js)->aL prog w U h' s.heap.objs.size ls->Q (.ref s.heap.objs.size) { s with heap:=h',toks:=tk }) :
  wpAny (model prog w) A (Builtin.Frozenset.intersection id l (.ref r)) Q E s:=by
 have lt:∀ {D:Addr} {k:List (List Int)},aL prog w U s.heap D k->D < s.heap.objs.size:=fun hS=>by obtain ⟨L,ep,t,ho,_⟩:=hS.len;exact Heap.lt_size ho
 unfold Builtin.Frozenset.intersection
 refine Ga (by rw [beq_eq_false_iff_ne];intro e;injection e with e;exact hne e.symm) ?_
 refine wpAny_bind (FW hl.ty (wpAny_bind (vM ?_)))
 refine wpAny_bind (m:=Builtin.Frozenset.addrOf _) (wpAny_pure ?_)
 have hS0:aL prog w U (s.heap.push (bh (!jj w))) s.heap.objs.size []:=xQ (Heap.get?_push_size _ rfl)
 have hl1:=hl.pushed (bh (!jj w))
 have hr1:=hr.pushed (bh (!jj w))
 refine wpAny_bind (wpAny_holding ?_)
 refine wpAny_bind (pP (s:={ s with heap:=s.heap.push (bh (!jj w)) }) hr1.ty ?_)
 simp only [if_true]
 refine wpAny_bind (m:=Builtin.Frozenset.addrOf _) (wpAny_pure ?_)
 refine wpAny_bind (iK (s:={ s with heap:=s.heap.push (bh (!jj w)) }) hr1 (by omega) (wpAny_bind (iK (s:={ s with heap:=s.heap.push (bh (!jj w)) }) hl1 (by omega) ?_)))
 have go:∀ {d o:Addr} {ds os:List (List Int)},aL prog w U s.heap d ds->aL prog w U s.heap o os->ds.length < 900->os.length < 900->(∀ x,(x∈ds/\x∈os)↔(x∈aF/\x∈js)) ->
   wpAny (model prog w) A (do
    let was <- setEpoch d
    for (h,x) in <- setWalkUnseen d [o,s.heap.objs.size] (some s.heap.objs.size) do
     holding [x] do
      if (<- setFind o x h).isSome then
       let _ <- setAddHashed s.heap.objs.size x h
     Builtin.Frozenset.unchanged id d was) (fun _ s'=>wpAny (model prog w) A (pure (Value.ref s.heap.objs.size)) Q E s') E { s with heap:=s.heap.push (bh (!jj w)) }:=by
  intro d o ds os hd ho hdl hol hm
  obtain ⟨L,ep,t,f,hoD,gs,hlen,hp,he⟩:=(hd.pushed (bh (!jj w))).goes (by omega)
  refine wpAny_bind (wpAny_setEpoch_of (s:={ s with heap:=s.heap.push (bh (!jj w)) }) hoD rfl (gs.g.fits gs.hl) ?_)
  refine wpAny_bind (pN (s:={ s with heap:=s.heap.push (bh (!jj w)) }) hoD gs ?_)
  have fl:=Du (prog:=prog) (w:=w) (U:=U) (A:=A) (E:=E) (s:={ s with heap:=s.heap.push (bh (!jj w)) }) (id:=id) (pos:=true) (Q:=fun _ s'=>wpAny (model prog w) A (pure ()) (fun _ s''=>wpAny (model prog w) A (pure (Value.ref s.heap.objs.size)) Q E s'') E s') hS0 (ho.pushed (bh (!jj w))) hoD gs (Nat.ne_of_gt (lt hd)) (Nat.ne_of_gt (lt ho)) hol (by omega) hp hu he fun h' tk ls hs hmm hS' =>
   wpAny_pure (wpAny_pure (h h' tk ls (yW hs) (fun x=>by rw [hmm x,<- hm x];simp) hS'))
  simp only [beq_true] at fl
  exact wpAny_bind fl
 by_cases c:js.length > aF.length
 ·rw [if_pos c]
  exact go hl hr hk hj fun x=>Iff.rfl
 ·rw [if_neg c]
  exact go hr hl hj hk fun x=>⟨fun z=>⟨z.2,z.1⟩,fun z=>⟨z.2,z.1⟩⟩
theorem aeS {l r:Addr} {aF js:List (List Int)} {Q:Value->Shared->Prop} (hl:aL prog w U s.heap l aF) (hr:aL prog w U s.heap r js) (hne:l≠r) (hk:aF.length < 900) (hj:js.length < 900) (hu:A.units + 4 < cLine)
  (h:∀ h' tk ls,(∀ b o,s.heap.get? b=some o->h'.get? b=some o)->(∀ x,x∈ls↔x∈aF/\x∈js)->aL prog w U h' s.heap.objs.size ls->Q (.ref s.heap.objs.size) { s with heap:=h',toks:=tk }) :
  wpAny (model prog w) A (binaryOp .BitAnd (.ref l) (.ref r)) Q E s:=by
 refine wpAny_binaryOp_same (op:=.BitAnd) (T:="set") hl.ty hr.ty F.fills_set_and F.slot_set_and (wpAny_call_entry F.slot_set_and hl.ty JR ?_ (F.args_set_and_2 _ _))
 exact Om (name:="__and__") hl.ty hr.ty (ahx hl hr hne hk hj (by show A.units + 1 < cLine;omega) fun h' tk ls k hm hS=>⟨_,rfl,by simp,h h' tk ls k hm hS⟩)
end
end Tb
namespace Tb
open PySem PySem.Spec PySem.SetTable
section
variable {prog:Program} {w:World} {U:Addr->List Int->Prop} {A:Around} {E:Value->Shared->Prop} {s:Shared}
theorem aaZ {D:Addr} {aF:List (List Int)} {Q:Unit->Shared->Prop} (hS:aL prog w U s.heap D aF) (hn:aF.length < 1000) (h:Q () s):wpAny (model prog w) A (setTidy D) Q E s:=by
 obtain ⟨L,ep,t,f,ho,g,room,_⟩:=hS
 have h7:=g.m7
 unfold setTidy
 refine wpAny_bind (wpAny_setState_of ho rfl (g.fits (by omega)) ?_)
 refine Ga (by unfold tooManyDummies;rw [g.nd];simp) (wpAny_pure h)
theorem abb {id:String} {r o:Addr} {aF:List (List Int)} {Q:Unit->Shared->Prop} (hr:aL prog w U s.heap r aF) (ho:aL prog w U s.heap o []) (hne:r≠o) (hk:aF.length < 900) (h:Q () s):wpAny (model prog w) A (Builtin.Frozenset.differenceUpdate id r (.ref o)) Q E s:=by
 obtain ⟨L,ep,t,f,hoD,gs,hlen,hp,he⟩:=ho.goes (by simp)
 have hL:L=[]:=List.length_eq_zero_iff.mp (by simpa using hlen)
 subst hL
 unfold Builtin.Frozenset.differenceUpdate
 refine Ga (by rw [beq_eq_false_iff_ne];intro e;injection e with e;exact hne e.symm) ?_
 refine wpAny_bind (pP ho.ty ?_)
 simp only [if_true]
 refine wpAny_bind (m:=Builtin.Frozenset.addrOf _) (wpAny_pure ?_)
 refine wpAny_bind (iK ho (by simp) (wpAny_bind (iK hr (by omega) ?_)))
 have hc:¬ ([]:List (List Int)).length / 8 > aF.length:=by simp
 rw [if_neg hc]
 refine wpAny_bind (wpAny_setEpoch_of hoD rfl (gs.g.fits gs.hl) ?_)
 refine wpAny_bind (wpAny_holding (wpAny_bind (pN hoD gs ?_)))
 have h0:(cR w o ep []).toList=[]:=by
  have:=fY w o ep []
  exact List.length_eq_zero_iff.mp (by rw [Array.length_toList];exact this)
 rw [<- Array.forIn_toList,h0,List.forIn_nil]
 refine wpAny_bind (wpAny_pure (wpAny_pure ?_))
 exact aaZ hr (by omega) h
theorem ahy {id:String} {l r:Addr} {aF js:List (List Int)} {Q:Value->Shared->Prop} (hl:aL prog w U s.heap l aF) (hr:aL prog w U s.heap r js) (hk:aF.length < 900) (hj:js.length < 900) (hc:js=[]∨¬ aF.length / 4 > js.length) (hu:A.units < cLine)
  (h:∀ h' tk ls,(∀ b o,s.heap.get? b=some o->h'.get? b=some o)->(∀ x,x∈ls↔x∈aF/\x∉js)->aL prog w U h' s.heap.objs.size ls->Q (.ref s.heap.objs.size) { s with heap:=h',toks:=tk }) :
  wpAny (model prog w) A (Builtin.Frozenset.difference id l (.ref r)) Q E s:=by
 have lt:∀ {D:Addr} {k:List (List Int)},aL prog w U s.heap D k->D < s.heap.objs.size:=fun hS=>by obtain ⟨L,ep,t,ho,_⟩:=hS.len;exact Heap.lt_size ho
 unfold Builtin.Frozenset.difference
 refine wpAny_bind (pP hr.ty ?_)
 simp only [Bool.not_true,Bool.false_eq_true,if_false,Bool.false_and,if_true]
 refine wpAny_bind (m:=Builtin.Frozenset.addrOf _) (wpAny_pure ?_)
 refine wpAny_bind (iK hr (by omega) (wpAny_bind (iK hl (by omega) ?_)))
 by_cases c:aF.length / 4 > js.length
 ·rw [if_pos c]
  have hz:js=[]:=hc.elim (fun z=>z) fun z=>absurd c z
  subst hz
  refine wpAny_bind (wpAny_rule ?_)
  refine wpAny_bind (FZ hl (by omega) hu fun h1 tk1 k1 kp nd1 hm1 hS1=>?_)
  have hp:k1.length=aF.length:=(dR nd1 hl.nd hm1).length_eq
  refine wpAny_bind (m:=Builtin.Frozenset.addrOf _) (wpAny_pure ?_)
  refine wpAny_bind (wpAny_holding (abb (s:={ s with heap:=h1,toks:=tk1 }) hS1 (hr.moved fun b o _ e=>kp b o e) (Nat.ne_of_gt (lt hr)) (by omega) ?_))
  exact wpAny_pure (h h1 tk1 k1 kp (fun x=>by rw [hm1 x];simp) hS1)
 ·rw [if_neg c]
  refine wpAny_bind (FW hl.ty (wpAny_bind (vM ?_)))
  refine wpAny_bind (m:=Builtin.Frozenset.addrOf _) (wpAny_pure ?_)
  obtain ⟨L,ep,t,f,hoD,gs,hlen,hp,he⟩:=(hl.pushed (bh (!jj w))).goes (by omega)
  refine wpAny_bind (wpAny_setEpoch_of (s:={ s with heap:=s.heap.push (bh (!jj w)) }) hoD rfl (gs.g.fits gs.hl) ?_)
  refine wpAny_bind (wpAny_holding (wpAny_bind (pN (s:={ s with heap:=s.heap.push (bh (!jj w)) }) hoD gs ?_)))
  have fl:=Du (prog:=prog) (w:=w) (U:=U) (A:=A) (E:=E) (s:={ s with heap:=s.heap.push (bh (!jj w)) }) (id:=id) (pos:=false) (Q:=fun _ s'=>wpAny (model prog w) A (pure ()) (fun _ s''=>wpAny (model prog w) A (pure (Value.ref s.heap.objs.size)) Q E s'') E s') (xQ (Heap.get?_push_size _ rfl)) (hr.pushed (bh (!jj w))) hoD gs (Nat.ne_of_gt (lt hl)) (Nat.ne_of_gt (lt hr)) hj (by omega) hp hu he fun h' tk ls hs hmm hS' =>
   wpAny_pure (wpAny_pure (h h' tk ls (yW hs) (fun x=>by rw [hmm x];simp) hS'))
  simp only [beq_false] at fl
  exact wpAny_bind fl
end
end Tb
namespace So
open PySem PySem.W PyProof.Rows
def Sp (lt:Nat->Nat->Bool) (n:Nat) {α:Type}:KasT α->(α->Prop)->Prop
 | .ret a,Q=>Q a
 | .ask i j k,Q=>i < n/\j < n/\Sp lt n (k (lt i j)) Q
section
variable {lt:Nat->Nat->Bool} {n:Nat} {α β:Type}
structure Ar (n:Nat) (p:Array Nat):Prop where
 sz:p.size=n
 lt:∀ i,p.getD i 0 < n
 pm:p.toList.Perm (List.range n)
def Up (lt:Nat->Nat->Bool) (p:Array Nat) (m:Nat):Prop:=∀ i j,i < j->j < m->lt (p.getD j 0) (p.getD i 0)=false
def Dn (lt:Nat->Nat->Bool) (p:Array Nat) (m:Nat):Prop:=∀ i j,i < j->j < m->lt (p.getD i 0) (p.getD j 0)=false
structure Ord (lt:Nat->Nat->Bool):Prop where
 tr:∀ a b c,lt b a=false->lt c b=false->lt c a=false
 as:∀ a b,lt a b=true->lt b a=false
theorem irr (O:Ord lt) (a:Nat):lt a a=false:=by
 cases h:lt a a with
 | false=>rfl
 | true=>have:=O.as a a h;rw [h] at this;cases this
end
end So
namespace So
open PySem PySem.W PyProof.Rows PySem.Calls
def xu:List Int->List Int->Bool
 | [],[]=>false
 | [],_::_=>true
 | _::_,[]=>false
 | a::as,b::bs=>if a=b then xu as bs else decide (a < b)
theorem Oo:∀ a b:List Int,xu a b=true->xu b a=false
 | [],[],h=>by cases h
 | [],_::_,h=>rfl
 | _::_,[],h=>by cases h
 | a::as,b::bs,h=>by
  unfold xu at h ⊢
  by_cases c:a=b
  ·subst c;simp only [if_true] at h ⊢;exact Oo as bs h
  ·rw [if_neg c] at h
   rw [if_neg (Ne.symm c)]
   have:=of_decide_eq_true h
   exact decide_eq_false (by omega)
theorem Oq:∀ a b c:List Int,xu b a=false->xu c b=false->xu c a=false
 | [],[],[],_,_=>rfl
 | [],[],_::_,_,_=>rfl
 | [],_::_,[],_,h=>by cases h
 | [],_::_,_::_,_,_=>rfl
 | _::_,[],_,h,_=>by cases h
 | a::as,b::bs,[],_,h=>by cases h
 | a::as,b::bs,c::cs,h1,h2=>by
  unfold xu at h1 h2 ⊢
  by_cases e1:b=a
  ·subst e1
   simp only [if_true] at h1
   by_cases e2:c=b
   ·subst e2;simp only [if_true] at h2 ⊢;exact Oq as bs cs h1 h2
   ·rw [if_neg e2] at h2 ⊢;exact h2
  ·rw [if_neg e1] at h1
   have g1:=of_decide_eq_false h1
   by_cases e2:c=b
   ·subst e2;rw [if_neg e1];exact h1
   ·rw [if_neg e2] at h2
    have g2:=of_decide_eq_false h2
    rw [if_neg (by omega)]
    exact decide_eq_false (by omega)
theorem XC:∀ a b:List Int,xu a b=false->xu b a=false->a=b
 | [],[],_,_=>rfl
 | [],_::_,h,_=>by cases h
 | _::_,[],_,h=>by cases h
 | a::as,b::bs,h1,h2=>by
  unfold xu at h1 h2
  by_cases c:a=b
  ·subst c;simp only [if_true] at h1 h2;rw [XC as bs h1 h2]
  ·rw [if_neg c] at h1;rw [if_neg (Ne.symm c)] at h2
   have:=of_decide_eq_false h1;have:=of_decide_eq_false h2;omega
theorem aeT (aF:List (List Int)):Ord fun i j=>xu (aF.getD i []) (aF.getD j []):=⟨fun a b c h1 h2=>Oq _ _ _ h1 h2,fun a b h=>Oo _ _ h⟩
end So
namespace So
open PySem PySem.W PyProof.Rows PySem.Calls
section
variable {prog:Program} {w:World} {A:Around} {E:Value->Shared->Prop} {s:Shared}
def ahz (prog:Program) (w:World) (A:Around) (κ:SortKind) (vs:List Value) (lt:Nat->Nat->Bool) (s:Shared):Prop :=
 ∀ i j (C:Bool->Shared->Prop) (E:Value->Shared->Prop),i < vs.length->j < vs.length->C (lt i j) s->wpAny (model prog w) A (keyLt' κ (vs.getD i Value.none) (vs.getD j Value.none)) C E s
def Ot (lt:Nat->Nat->Bool) (vs:List Value) (st:SortSt):Prop:=∃ p:Array Nat,Ar vs.length p/\Up lt p vs.length/\(arrOf st).map (·.2)=List.toArray (p.toList.map fun i=>vs.getD i Value.none)/\failedOf st=none
theorem XD {b:Bool} {Q:Bool->Shared->Prop}:∀ {ks js:List Int} {xs ys:List Value} (i:Nat),ItemsAre (intKind prog w) ks xs->ItemsAre (intKind prog w) js ys->Q (xu ks js) s ->
  KatLex prog w A b (decide (xs.length < ys.length)) Q (xs.zip ys) i s:=by
 have gen:∀ (d:Bool) {ks js:List Int} {xs ys:List Value} (i:Nat),ItemsAre (intKind prog w) ks xs->ItemsAre (intKind prog w) js ys->d=decide (xs.length < ys.length)->Q (xu ks js) s->KatLex prog w A b d Q (xs.zip ys) i s:=by
  intro d ks
  induction ks with
  | nil =>
   intro js xs ys i hx hy hd hq
   cases hx
   cases hy with
   | nil=>subst hd;exact kat_nil hq
   | cons h1 h2=>subst hd;exact kat_nil hq
  | cons k ks ih =>
   intro js xs ys i hx hy hd hq
   cases hx with
   | cons h1 h2 =>
    cases hy with
    | nil=>subst hd;exact kat_nil hq
    | @cons j v js vs h3 h4 =>
     obtain ⟨t,rfl⟩:=Value.isInt_shape h1
     obtain ⟨u,rfl⟩:=Value.isInt_shape h3
     refine kat_cons (wpAny_eqBool_int ?_)
     by_cases e:k=j
     ·subst e
      rw [show (k == k)=true from by simp]
      refine kat_yes (ih (i + 1) h2 h4 (by rw [hd];simp) ?_)
      unfold xu at hq;rw [if_pos rfl] at hq;exact hq
     ·rw [show (k == j)=false from by simp [e]]
      unfold xu at hq;rw [if_neg e] at hq
      refine kat_no ?_
      cases (b && i == 0) with
      | true=>exact oneLt_int hq
      | false=>exact kat_one _ _ (wpAny_lt_int hq)
 intro ks js xs ys i hx hy hq
 exact gen _ i hx hy rfl hq
theorem abd {a b:Addr} {ks js:List Int} {f:Bool} {Q:Bool->Shared->Prop} (ha:IsTupleKey (intKind prog w) s.heap ks a) (hb:IsTupleKey (intKind prog w) s.heap js b) (hq:Q (xu ks js) s) :
  wpAny (model prog w) A (keyLt' (tuples' f) (.ref a) (.ref b)) Q E s:=by
 obtain ⟨o,xs,n,h1,h2,h3,h4⟩:=ha
 obtain ⟨o',ys,n',h1',h2',h3',h4'⟩:=hb
 refine kat_lt h1 h3 h1' h3' ?_
 have:=XD (prog:=prog) (w:=w) (A:=A) (b:=f) 0 h4 h4' hq
 simpa using this
def KeysAre (prog:Program) (w:World) (h:Heap) (vs:List Value) (aF:List (List Int)):Prop :=
 aF.length=vs.length/\∀ (i:Nat) v,vs[i]?=some v->∃ b,v=.ref b/\IsTupleKey (intKind prog w) h (aF.getD i []) b
theorem KeysAre.moved {h h':Heap} {vs:List Value} {aF:List (List Int)} (k:KeysAre prog w h vs aF) (hm:∀ b o,h.get? b=some o->o.cls=.type "tuple"->h'.get? b=some o):KeysAre prog w h' vs aF :=
 ⟨k.1,fun i v hv=>let ⟨b,e,o,its,m,q1,q2,q3,q4⟩:=k.2 i v hv;⟨b,e,o,its,m,hm _ _ q1 q2,q2,q3,q4⟩⟩
theorem KeysAre.asks {f:Bool} {vs:List Value} {aF:List (List Int)} (k:KeysAre prog w s.heap vs aF):ahz prog w A (tuples' f) vs (fun i j=>xu (aF.getD i []) (aF.getD j [])) s:=by
 intro i j C E hi hj hC
 obtain ⟨b,e,hb⟩:=k.2 i vs[i] (List.getElem?_eq_getElem hi)
 obtain ⟨b',e',hb'⟩:=k.2 j vs[j] (List.getElem?_eq_getElem hj)
 rw [show vs.getD i Value.none=.ref b by simp [hi,e],show vs.getD j Value.none=.ref b' by simp [hj,e']]
 exact abd hb hb' hC
theorem KeysAre.tups {h:Heap}:∀ {vs:List Value} {aF:List (List Int)},KeysAre prog w h vs aF->(∀ ks∈aF,ks≠[])->∃ fs:List Value,KatTups h vs fs/\fs.length=vs.length/\∀ v∈fs,∃ i t,v=.int i t
 | [],aF,k,hn=>⟨[],.nil,rfl,fun v hv=>by cases hv⟩
 | v::vs,[],k,hn=>by cases k.1
 | v::vs,ks::aF,k,hn=>by
  obtain ⟨fs,t,l,e⟩:=KeysAre.tups (vs:=vs) (aF:=aF) ⟨by have:=k.1;simpa using this,fun i u hu=>by have:=k.2 (i + 1) u (by simpa using hu);simpa using this⟩ fun x hx=>hn x (.tail _ hx)
  obtain ⟨b,rfl,o,its,m,q1,q2,q3,q4⟩:=k.2 0 v (by simp)
  have hne:=hn ks (.head _)
  simp at q4
  generalize hits:its.toList=L at q4
  cases q4 with
  | nil=>exact absurd rfl hne
  | @cons i v' ks' vs' h1 h2 =>
   obtain ⟨tk,rfl⟩:=Value.isInt_shape h1
   have h0:its[0]?=some (Value.int i tk):=by rw [<- Array.getElem?_toList,hits];rfl
   refine ⟨.int i tk::fs,.cons q1 q2 q3 h0 t,by simp [l],fun u hu=>?_⟩
   rcases List.mem_cons.mp hu with rfl|hu
   ·exact ⟨_,_,rfl⟩
   ·exact e u hu
def leK (a b:List Int):Prop:=xu b a=false
def Ov (x:List Int):List (List Int)->List (List Int)
 | []=>[x]
 | y::ys=>if xu y x=true then y::Ov x ys else x::y::ys
def bJ (l:List (List Int)):List (List Int):=l.foldr Ov []
theorem vN (x:List Int):∀ l,(Ov x l).Perm (x::l)
 | []=>.refl _
 | y::ys=>by
  unfold Ov
  split
  ·exact ((vN x ys).cons y).trans (List.Perm.swap x y ys)
  ·exact .refl _
theorem dg:∀ l,(bJ l).Perm l
 | []=>.refl _
 | x::l=>(vN x (bJ l)).trans ((dg l).cons x)
theorem Ru (x:List Int):∀ l,l.Pairwise leK->(Ov x l).Pairwise leK
 | [],_=>by simp [Ov]
 | y::ys,h=>by
  obtain ⟨h1,h2⟩:=List.pairwise_cons.mp h
  unfold Ov
  split
  ·rename_i c
   refine List.pairwise_cons.mpr ⟨fun z hz=>?_,Ru x ys h2⟩
   rcases List.mem_cons.mp ((vN x ys).mem_iff.mp hz) with rfl|hz
   ·exact Oo _ _ c
   ·exact h1 z hz
  ·rename_i c
   have c':xu y x=false:=by simpa using c
   refine List.pairwise_cons.mpr ⟨fun z hz=>?_,h⟩
   rcases List.mem_cons.mp hz with rfl|hz
   ·exact c'
   ·exact Oq _ _ _ c' (h1 z hz)
theorem uJ:∀ l,(bJ l).Pairwise leK
 | []=>.nil
 | x::l=>Ru x _ (uJ l)
theorem Dv:∀ {l l':List (List Int)},l.Perm l'->l.Pairwise leK->l'.Pairwise leK->l=l'
 | [],l',p,_,_=>(List.nil_perm.mp p).symm
 | x::l,[],p,_,_=>by cases List.perm_nil.mp p
 | x::l,y::l',p,h,h'=>by
  obtain ⟨h1,h2⟩:=List.pairwise_cons.mp h
  obtain ⟨h1',h2'⟩:=List.pairwise_cons.mp h'
  have e:x=y:=by
   have m1:=List.mem_cons.mp (p.mem_iff.mp (List.mem_cons_self (a:=x) (l:=l)))
   have m2:=List.mem_cons.mp (p.mem_iff.mpr (List.mem_cons_self (a:=y) (l:=l')))
   rcases m1 with m1|m1
   ·exact m1
   ·rcases m2 with m2|m2
    ·exact m2.symm
    ·exact XC _ _ (h1' x m1) (h1 y m2)
  subst e
  rw [Dv (p.cons_inv) h2 h2']
theorem yX {l l':List (List Int)} (p:l.Perm l') (h:l.Pairwise leK):l=bJ l':=Dv (p.trans (dg l').symm) h (uJ l')
def JV (aF:List (List Int)) (p:Array Nat):Prop:=p.toList.Perm (List.range aF.length)/\(p.toList.map fun i=>aF.getD i [])=bJ aF
theorem XF {aF:List (List Int)} {p:Array Nat} (a:Ar aF.length p) (u:Up (fun i j=>xu (aF.getD i []) (aF.getD j [])) p aF.length):JV aF p:=by
 refine ⟨a.pm,yX ?_ ?_⟩
 ·have:=a.pm.map fun i=>aF.getD i []
  refine this.trans (List.Perm.of_eq ?_)
  apply List.ext_getElem
  ·simp
  ·intro i h1 h2;simp at h1;simp [h1]
 ·rw [List.pairwise_iff_getElem]
  intro i j hi hj hij
  simp only [List.length_map,Array.length_toList] at hi hj
  have:=u i j hij (by rw [<- a.sz];exact hj)
  simp only [List.getElem_map,Array.getElem_toList]
  unfold leK
  rw [Array.getD_eq_getD_getElem?,Array.getD_eq_getD_getElem?,Array.getElem?_eq_getElem hi,Array.getElem?_eq_getElem hj] at this
  exact this
theorem JW {aF:List (List Int)} (h:aF.length < 2):JV aF (List.toArray (List.range aF.length)):=by
 refine ⟨.refl _,yX ?_ ?_⟩
 ·refine List.Perm.of_eq ?_
  apply List.ext_getElem
  ·simp
  ·intro i h1 h2;simp at h1;simp [h1]
 ·rw [List.pairwise_iff_getElem]
  intro i j hi hj hij
  simp at hi hj;omega
end
end So
namespace Sb
open PySem PySem.W PyProof.Rows
section
variable {prog:Program} {w:World} {A:Around} {E:Value->Shared->Prop} {s:Shared} {a₀ x0:Array Keyed} {κ:SortKind} {rk:Keyed->Int} {lo:Nat} {p0:Array (Nat×Nat×Nat)}
def Ax (prog:Program) (w:World) (A:Around) (s:Shared) (κ:SortKind) (rk:Keyed->Int) (a₀:Array Keyed):Prop :=
 ∀ x y (C:Bool->Shared->Prop) (E:Value->Shared->Prop),x∈a₀.toList->y∈a₀.toList->C (decide (rk x < rk y)) s->wpAny (model prog w) A (keyLt' κ x.1 y.1) C E s
def R (rk:Keyed->Int) (xs:Array Keyed) (i:Nat):Int:=match xs[i]? with|some p=>rk p|none=>0
theorem iM {xs ys:Array Keyed} {i j:Nat} (h:xs[i]?=ys[j]?):R rk xs i=R rk ys j:=by unfold R;rw [h]
theorem fV {xs:Array Keyed} {i:Nat} {x:Keyed} (h:xs[i]?=some x):R rk xs i=rk x:=by unfold R;rw [h]
def Up (rk:Keyed->Int) (xs:Array Keyed) (lo n:Nat):Prop:=∀ i j,i<=j->j < n->R rk xs (lo + i)<=R rk xs (lo + j)
def Dn (rk:Keyed->Int) (xs:Array Keyed) (lo n:Nat):Prop:=∀ i j,i<=j->j < n->R rk xs (lo + j)<=R rk xs (lo + i)
structure SB (κ:SortKind) (a₀ x0:Array Keyed) (p0:Array (Nat×Nat×Nat)) (lo:Nat) (st:SortSt):Prop where
 perm:(arrOf st).Perm a₀
 kind:kindOf st=κ
 failed:failedOf st=none
 pend:pendingOf st=p0
 keep:∀ k,k < lo->(arrOf st)[k]?=x0[k]?
theorem SB.size {st:SortSt} (h:SB κ a₀ x0 p0 lo st):(arrOf st).size=a₀.size:=h.perm.size_eq
theorem SB.setArr {st:SortSt} (h:SB κ a₀ x0 p0 lo st) {xs:Array Keyed} (hp:xs.Perm (arrOf st)) (hk:∀ k,k < lo->xs[k]?=(arrOf st)[k]?):SB κ a₀ x0 p0 lo (setArr st xs) :=
 ⟨hp.trans h.perm,h.kind,h.failed,h.pend,fun k hl=>(hk k hl).trans (h.keep k hl)⟩
theorem XH {xs:Array Keyed} (hp:xs.Perm a₀) {i:Nat} {x:Keyed} (h:xs[i]?=some x):x∈a₀.toList:=by
 obtain ⟨hi,rfl⟩:=Array.getElem?_eq_some_iff.mp h
 exact (Array.perm_iff_toList_perm.mp hp).mem_iff.mp (by simp)
theorem bM {st:SortSt} {xs:Array Keyed} {i:Nat} {x:Keyed} {Q:Keyed->SortSt->Prop} (h:xs[i]?=some x) (hq:Q x st):wpS (model prog w) A E s (elem' xs i) Q st:=by
 rw [elem'_eq,h];exact wpS_pure hq
theorem yZ {st:SortSt} {x y:Keyed} {Q:Option Bool->SortSt->Prop} (ha:Ax prog w A s κ rk a₀) (hk:kindOf st=κ) (hx:x∈a₀.toList) (hy:y∈a₀.toList) (h:Q (some (decide (rk x < rk y))) st) :
  wpS (model prog w) A E s (lt' x y) Q st:=by
 rw [lt'_eq]
 refine wpS_bind (wpS_get ?_)
 rw [hk]
 refine wpS_bind (wpS_lift (wpAny_attempt (ha x y _ _ hx hy ⟨rfl,?_⟩)))
 exact wpS_pure h
theorem uK {st:SortSt} {i j:Nat} {Q:Option Bool->SortSt->Prop} (ha:Ax prog w A s κ rk a₀) (hB:SB κ a₀ x0 p0 lo st) (hi:i < a₀.size) (hj:j < a₀.size)
  (h:Q (some (decide (R rk (arrOf st) i < R rk (arrOf st) j))) st):wpS (model prog w) A E s (ltAt' i j) Q st:=by
 have e1:(arrOf st)[i]?=some ((arrOf st)[i]'(by rw [hB.size];exact hi)):=getElem?_pos _ i _
 have e2:(arrOf st)[j]?=some ((arrOf st)[j]'(by rw [hB.size];exact hj)):=getElem?_pos _ j _
 rw [fV e1,fV e2] at h
 rw [ltAt'_eq]
 refine wpS_bind (wpS_get ?_)
 exact wpS_bind (bM e1 (wpS_bind (bM e2 (yZ ha hB.kind (XH hB.perm e1) (XH hB.perm e2) h))))
theorem xR {st:SortSt} {i j:Nat} {Q:Unit->SortSt->Prop} (h:Q () (setArr st (mirror (arrOf st) i j ((j - i) / 2)))) :
  wpS (model prog w) A E s (reverseSlice' i j) Q st:=by
 rw [reverseSlice'_eq];exact wpS_modify h
theorem za {xs:Array Keyed} {i j:Nat} (hj:j<=xs.size) (k:Nat) :
  R rk (mirror xs i j ((j - i) / 2)) k=if i<=k/\k < j then R rk xs (i + j - 1 - k) else R rk xs k:=by
 have e:=getElem?_mirror_all (i:=i) hj k
 by_cases h1:i<=k/\k < j
 ·rw [if_pos h1] at e ⊢;exact iM e
 ·rw [if_neg h1] at e ⊢;exact iM e
theorem dU {xs:Array Keyed} {i j:Nat} (hj:j<=xs.size) (heq:∀ k,i<=k->k < j->R rk xs k=R rk xs (j - 1)) (k:Nat) :
  R rk (mirror xs i j ((j - i) / 2)) k=R rk xs k:=by
 rw [za hj]
 split
 ·rw [heq _ (by omega) (by omega),heq k (by omega) (by omega)]
 ·rfl
theorem SB.rev {st:SortSt} (h:SB κ a₀ x0 p0 lo st) {i j:Nat} (hi:lo<=i) (hj:j<=a₀.size):SB κ a₀ x0 p0 lo (PyProof.Rows.setArr st (mirror (arrOf st) i j ((j - i) / 2))) :=
 h.setArr (mirror_perm _ _ _ _) fun k hk=>by rw [getElem?_mirror_all (by rw [h.size];exact hj),if_neg (by omega)]
def XJ (lo a nrem:Nat):StateT SortSt Sem AscSt :=
 forIn [a:nrem] ((none,a):AscSt) fun _ __s=>do
  let __x <- ltAt' (lo + __s.snd) (lo + __s.snd - 1)
  match __x with
  | some smaller=>if smaller=true then pure (ForInStep.done (none,__s.snd)) else pure (ForInStep.yield (none,__s.snd + 1))
  | _=>pure (ForInStep.done (some none,__s.snd))
def JX (lo n nrem:Nat):StateT SortSt Sem (Option Nat):=do
 reverseSlice' lo (lo + n)
 let __s <- XJ lo n nrem
 match __s.fst with
 | some r=>pure r
 | none=>pure (some __s.snd)
def Rv (lo n nrem:Nat):StateT SortSt Sem DescSt :=
 forIn [n:nrem] ((none,n,0):DescSt) fun _ __s=>do
  let __x <- ltAt' (lo + __s.snd.fst) (lo + __s.snd.fst - 1)
  match __x with
  | some smaller =>
   if smaller=true then
    if __s.snd.snd > 0 then do
     reverseSlice' (lo + __s.snd.fst - (__s.snd.snd + 1)) (lo + __s.snd.fst)
     pure (ForInStep.yield (none,__s.snd.fst + 1,0))
    else pure (ForInStep.yield (none,__s.snd.fst + 1,0))
   else do
    let __x <- ltAt' (lo + __s.snd.fst - 1) (lo + __s.snd.fst)
    match __x with
    | some larger =>
     if larger=true then pure (ForInStep.done (none,__s.snd.fst,__s.snd.snd))
     else pure (ForInStep.yield (none,__s.snd.fst + 1,__s.snd.snd + 1))
    | _=>pure (ForInStep.done (some none,__s.snd.fst,__s.snd.snd))
  | _=>pure (ForInStep.done (some none,__s.snd.fst,__s.snd.snd))
def JZ (lo n nrem:Nat):StateT SortSt Sem (Option Nat):=do
 liftM (rule "list.sort.descending-run")
 let __s <- Rv lo (n + 1) nrem
 match __s.fst with
 | some r=>pure r
 | none =>
  if __s.snd.snd > 0 then do
   reverseSlice' (lo + __s.snd.fst - (__s.snd.snd + 1)) (lo + __s.snd.fst)
   JX lo __s.snd.fst nrem
  else JX lo __s.snd.fst nrem
theorem XM (lo nrem:Nat):countRun' lo nrem=(do
  let __s <- XJ lo 1 nrem
  match __s.fst with
  | some r=>pure r
  | none =>
   if (__s.snd == nrem)=true then pure (some __s.snd)
   else if __s.snd > 1 then do
    let __x <- ltAt' lo (lo + __s.snd - 1)
    match __x with
    | some rose=>if rose=true then pure (some __s.snd) else do
      reverseSlice' lo (lo + __s.snd)
      JZ lo __s.snd nrem
    | _=>pure none
   else JZ lo __s.snd nrem):=by
 rw [countRun'_eq]
 unfold JZ JX Rv XJ
 dsimp only
 congr 1
 funext __s
 obtain ⟨r,n⟩:=__s
 cases r with
 | some r=>rfl
 | none =>
  dsimp only
  split
  ·rfl
  ·split
   ·congr 1
    funext x
    cases x with
    | none=>rfl
    | some rose =>
     dsimp only
     split
     ·rfl
     ·congr 1
      funext _r
      congr 1;funext _u;congr 1;congr 1;funext s2;obtain ⟨r2,n2,q2⟩:=s2;cases r2 with
      | some r2=>rfl
      | none =>
       dsimp only;split
       ·congr 1;funext _v;congr 1;funext _w;congr 1;funext s3;obtain ⟨r3,n3⟩:=s3;cases r3 <;> rfl
       ·congr 1;funext _w;congr 1;funext s3;obtain ⟨r3,n3⟩:=s3;cases r3 <;> rfl
   ·congr 1;funext _u;congr 1;congr 1;funext s2;obtain ⟨r2,n2,q2⟩:=s2;cases r2 with
    | some r2=>rfl
    | none =>
     dsimp only;split
     ·congr 1;funext _v;congr 1;funext _w;congr 1;funext s3;obtain ⟨r3,n3⟩:=s3;cases r3 <;> rfl
     ·congr 1;funext _w;congr 1;funext s3;obtain ⟨r3,n3⟩:=s3;cases r3 <;> rfl
end
end Sb
namespace Sb
open PySem PySem.W PyProof.Rows
section
variable {prog:Program} {w:World} {A:Around} {E:Value->Shared->Prop} {s:Shared} {a₀ x0:Array Keyed} {κ:SortKind} {rk:Keyed->Int} {lo:Nat} {p0:Array (Nat×Nat×Nat)}
theorem Rw {st:SortSt} {a nrem:Nat} {Q:AscSt->SortSt->Prop} (h0:Ax prog w A s κ rk a₀) (hn:lo + nrem<=a₀.size) (ha:1<=a) (han:a<=nrem) (hB:SB κ a₀ x0 p0 lo st)
  (hs:Up rk (arrOf st) lo a)
  (h:∀ n,a<=n->n<=nrem->Up rk (arrOf st) lo n->(n=nrem∨R rk (arrOf st) (lo + n) < R rk (arrOf st) (lo + (n - 1)))->Q (none,n) st) :
  wpS (model prog w) A E s (XJ lo a nrem) Q st:=by
 unfold XJ
 refine wpS_forRange (I:=fun x c st'=>st'=st/\c=(none,x)/\Up rk (arrOf st) lo x) ?step ?fu ⟨rfl,rfl,hs⟩
 case fu =>
  rintro c st' ⟨rfl,rfl,hs'⟩
  rw [show max a nrem=nrem by omega] at hs' ⊢
  exact h nrem han (Nat.le_refl _) hs' (.inl rfl)
 case step =>
  rintro x c st' hax hxn ⟨rfl,rfl,hs'⟩
  dsimp only
  rw [show lo + x - 1=lo + (x - 1) by omega]
  refine wpS_bind (uK h0 hB (by omega) (by omega) ?_)
  by_cases hless:R rk (arrOf st') (lo + x) < R rk (arrOf st') (lo + (x - 1))
  ·simp only [hless,decide_true,if_true]
   exact wpS_pure (h x hax (by omega) hs' (.inr hless))
  ·simp only [hless,decide_false,Bool.false_eq_true,if_false]
   refine wpS_pure ⟨rfl,rfl,fun i j hij hj=>?_⟩
   by_cases hjx:j < x
   ·exact hs' i j hij hjx
   ·have hj':j=x:=by omega
    subst hj'
    by_cases hi':i=j
    ·subst hi';exact Int.le_refl _
    ·exact Int.le_trans (hs' i (j - 1) (by omega) (by omega)) (Int.not_lt.mp hless)
theorem Dw {st:SortSt} {n nrem:Nat} {Q:Option Nat->SortSt->Prop} (h0:Ax prog w A s κ rk a₀) (hn:lo + nrem<=a₀.size) (h1:1<=n) (hnn:n<=nrem) (hB:SB κ a₀ x0 p0 lo st)
  (hs:Dn rk (arrOf st) lo n) (h:∀ m st',SB κ a₀ x0 p0 lo st'->1<=m->m<=nrem->Up rk (arrOf st') lo m->Q (some m) st') :
  wpS (model prog w) A E s (JX lo n nrem) Q st:=by
 unfold JX
 have hsz:lo + n<=(arrOf st).size:=by rw [hB.size];omega
 refine wpS_bind (xR ?_)
 have hB':SB κ a₀ x0 p0 lo (setArr st (mirror (arrOf st) lo (lo + n) ((lo + n - lo) / 2))):=hB.rev (Nat.le_refl _) (by omega)
 refine wpS_bind (Rw h0 hn h1 hnn hB' ?_ fun m hm1 hm2 hsm _=>wpS_pure (h m _ hB' (by omega) hm2 hsm))
 intro i j hij hj
 show R rk (mirror (arrOf st) lo (lo + n) ((lo + n - lo) / 2)) (lo + i)<=R rk (mirror (arrOf st) lo (lo + n) ((lo + n - lo) / 2)) (lo + j)
 rw [za hsz,za hsz,if_pos (by omega),if_pos (by omega)]
 have:=hs (n - 1 - j) (n - 1 - i) (by omega) (by omega)
 rw [show lo + (lo + n) - 1 - (lo + i)=lo + (n - 1 - i) by omega,show lo + (lo + n) - 1 - (lo + j)=lo + (n - 1 - j) by omega]
 exact this
theorem XQ {st:SortSt} {n nrem:Nat} {Q:DescSt->SortSt->Prop} (h0:Ax prog w A s κ rk a₀) (hn:lo + nrem<=a₀.size) (h1:1<=n) (hnn:n<=nrem) (hB:SB κ a₀ x0 p0 lo st)
  (hs:Dn rk (arrOf st) lo n)
  (h:∀ m neq st',SB κ a₀ x0 p0 lo st'->n<=m->m<=nrem->Dn rk (arrOf st') lo m->neq + 1<=m->(∀ i,lo + m - (neq + 1)<=i->i < lo + m->R rk (arrOf st') i=R rk (arrOf st') (lo + m - 1))->Q (none,m,neq) st') :
  wpS (model prog w) A E s (Rv lo n nrem) Q st:=by
 unfold Rv
 refine wpS_forRange (I:=fun x c st'=>∃ neq,c=(none,x,neq)/\SB κ a₀ x0 p0 lo st'/\Dn rk (arrOf st') lo x/\neq + 1<=x /\
   (∀ i,lo + x - (neq + 1)<=i->i < lo + x->R rk (arrOf st') i=R rk (arrOf st') (lo + x - 1))) ?step ?fu ⟨0,rfl,hB,hs,by omega,fun i h1 h2=>by congr 1;omega⟩
 case fu =>
  rintro c st' ⟨neq,rfl,hB',hs',hq,he⟩
  rw [show max n nrem=nrem by omega] at hs' hq he ⊢
  exact h nrem neq st' hB' hnn (Nat.le_refl _) hs' hq he
 case step =>
  rintro x c st' hax hxn ⟨neq,rfl,hB',hs',hq,he⟩
  dsimp only
  have hsz:lo + x<=(arrOf st').size:=by rw [hB'.size];omega
  have e1:lo + x - 1=lo + (x - 1):=by omega
  refine wpS_bind (uK h0 hB' (by omega) (by omega) ?_)
  by_cases hless:R rk (arrOf st') (lo + x) < R rk (arrOf st') (lo + x - 1)
  ·simp only [hless,decide_true,if_true]
   rw [e1] at hless
   have step1:∀ xs:Array Keyed,(∀ k,R rk xs k=R rk (arrOf st') k)->Dn rk xs lo (x + 1):=by
    intro xs hk i j hij hj
    rw [hk,hk]
    by_cases hjx:j < x
    ·exact hs' i j hij hjx
    ·have hj':j=x:=by omega
     subst hj'
     by_cases hi':i=j
     ·subst hi';exact Int.le_refl _
     ·exact Int.le_trans (Int.le_of_lt hless) (hs' i (j - 1) (by omega) (by omega))
   by_cases hneq:neq > 0
   ·rw [if_pos hneq]
    refine wpS_bind (xR (wpS_pure ⟨0,rfl,hB'.rev (by omega) (by omega),step1 _ (dU hsz he),by omega,fun i h1 h2=>by congr 1;omega⟩))
   ·rw [if_neg hneq]
    exact wpS_pure ⟨0,rfl,hB',step1 _ (fun _=>rfl),by omega,fun i h1 h2=>by congr 1;omega⟩
  ·simp only [hless,decide_false,Bool.false_eq_true,if_false]
   refine wpS_bind (uK h0 hB' (by omega) (by omega) ?_)
   by_cases hlarger:R rk (arrOf st') (lo + x - 1) < R rk (arrOf st') (lo + x)
   ·simp only [hlarger,decide_true,if_true]
    exact wpS_pure (h x neq st' hB' hax (by omega) hs' hq he)
   ·simp only [hlarger,decide_false,Bool.false_eq_true,if_false]
    have heqx:R rk (arrOf st') (lo + x)=R rk (arrOf st') (lo + x - 1):=by omega
    refine wpS_pure ⟨neq + 1,rfl,hB',fun i j hij hj=>?_,by omega,fun i h1 h2=>?_⟩
    ·by_cases hjx:j < x
     ·exact hs' i j hij hjx
     ·have hj':j=x:=by omega
      subst hj'
      by_cases hi':i=j
      ·subst hi';exact Int.le_refl _
      ·rw [heqx,e1];exact hs' i (j - 1) (by omega) (by omega)
    ·rw [show lo + (x + 1) - 1=lo + x by omega]
     by_cases hix:i=lo + x
     ·subst hix;rfl
     ·rw [heqx];exact he i (by omega) (by omega)
theorem Dy {st:SortSt} {n nrem:Nat} {Q:Option Nat->SortSt->Prop} (h0:Ax prog w A s κ rk a₀) (hn:lo + nrem<=a₀.size) (hnn:n + 1<=nrem) (hB:SB κ a₀ x0 p0 lo st)
  (hs:Dn rk (arrOf st) lo (n + 1)) (h:∀ m st',SB κ a₀ x0 p0 lo st'->1<=m->m<=nrem->Up rk (arrOf st') lo m->Q (some m) st') :
  wpS (model prog w) A E s (JZ lo n nrem) Q st:=by
 unfold JZ
 refine wpS_bind (wpS_lift (wpAny_rule ⟨rfl,?_⟩))
 refine wpS_bind (XQ h0 hn (by omega) hnn hB hs fun m neq st' hB' hm1 hm2 hs' hq he=>?_)
 dsimp only
 have hsz:lo + m<=(arrOf st').size:=by rw [hB'.size];omega
 by_cases hneq:neq > 0
 ·rw [if_pos hneq]
  refine wpS_bind (xR (Dw h0 hn (by omega) hm2 (hB'.rev (by omega) (by omega)) ?_ h))
  intro i j hij hj
  show R rk (mirror (arrOf st') _ _ _) _<=R rk (mirror (arrOf st') _ _ _) _
  rw [dU hsz he,dU hsz he]
  exact hs' i j hij hj
 ·rw [if_neg hneq]
  exact Dw h0 hn (by omega) hm2 hB' hs' h
theorem Uh {st:SortSt} {nrem:Nat} {Q:Option Nat->SortSt->Prop} (h0:Ax prog w A s κ rk a₀) (hn:lo + nrem<=a₀.size) (h1:1<=nrem) (hB:SB κ a₀ x0 p0 lo st)
  (h:∀ m st',SB κ a₀ x0 p0 lo st'->1<=m->m<=nrem->Up rk (arrOf st') lo m->Q (some m) st') :
  wpS (model prog w) A E s (countRun' lo nrem) Q st:=by
 rw [XM]
 refine wpS_bind (Rw h0 hn (Nat.le_refl 1) h1 hB (fun i j hij hj=>by have e:i=j:=by { omega };subst e;exact Int.le_refl _) fun n hn1 hn2 hsn hor=>?_)
 dsimp only
 by_cases hnn:n=nrem
 ·rw [if_pos (by simpa using hnn)]
  exact wpS_pure (h n st hB hn1 hn2 hsn)
 ·rw [if_neg (by simpa using hnn)]
  have hlt:R rk (arrOf st) (lo + n) < R rk (arrOf st) (lo + (n - 1)):=hor.resolve_left hnn
  by_cases hgt:n > 1
  ·rw [if_pos hgt,show lo + n - 1=lo + (n - 1) by omega]
   refine wpS_bind (uK h0 hB (by omega) (by omega) ?_)
   by_cases hrose:R rk (arrOf st) lo < R rk (arrOf st) (lo + (n - 1))
   ·simp only [hrose,decide_true,if_true]
    exact wpS_pure (h n st hB hn1 hn2 hsn)
   ·simp only [hrose,decide_false,Bool.false_eq_true,if_false]
    have hsz:lo + n<=(arrOf st).size:=by rw [hB.size];omega
    have hall':∀ k,k < n->R rk (arrOf st) (lo + k)=R rk (arrOf st) (lo + (n - 1)):=by
     intro k hk
     have a1:=hsn 0 k (by omega) hk
     have a2:=hsn k (n - 1) (by omega) (by omega)
     rw [Nat.add_zero] at a1
     omega
    have hall:∀ k,lo<=k->k < lo + n->R rk (arrOf st) k=R rk (arrOf st) (lo + n - 1):=fun k k1 k2=>by
     have:=hall' (k - lo) (by omega)
     rw [show lo + (k - lo)=k by omega] at this
     rw [this];congr 1;omega
    refine wpS_bind (xR (Dy h0 hn (by omega) (hB.rev (Nat.le_refl _) (by omega)) ?_ h))
    intro i j hij hj
    show R rk (mirror (arrOf st) _ _ _) _<=R rk (mirror (arrOf st) _ _ _) _
    rw [dU hsz hall,dU hsz hall]
    by_cases hjn:j < n
    ·rw [hall' i (by omega),hall' j hjn];exact Int.le_refl _
    ·obtain rfl:j=n:=by omega
     by_cases hi':i=j
     ·subst hi';exact Int.le_refl _
     ·rw [hall' i (by omega)];exact Int.le_of_lt hlt
  ·rw [if_neg hgt]
   obtain rfl:n=1:=by omega
   refine Dy h0 hn (by omega) hB ?_ h
   intro i j hij hj
   by_cases hi':i=j
   ·subst hi';exact Int.le_refl _
   ·obtain rfl:i=0:=by omega
    obtain rfl:j=1:=by omega
    exact Int.le_of_lt hlt
theorem Ka {xs:Array Keyed} {src d:Nat} (hs:src < xs.size) (hd:d<=src) (k:Nat) :
  R rk (bubble xs src d) k=if k=src - d then R rk xs src else if src - d < k/\k<=src then R rk xs (k - 1) else R rk xs k:=by
 have e:=getElem?_bubble hs d hd k
 by_cases h1:k=src - d
 ·rw [if_pos h1] at e ⊢;exact iM e
 ·rw [if_neg h1] at e ⊢
  by_cases h2:src - d < k/\k<=src
  ·rw [if_pos h2] at e ⊢;exact iM e
  ·rw [if_neg h2] at e ⊢;exact iM e
theorem abe {st:SortSt} {n ok:Nat} {Q:Bool->SortSt->Prop} (h0:Ax prog w A s κ rk a₀) (hn:lo + n<=a₀.size) (hok:ok<=n) (hB:SB κ a₀ x0 p0 lo st) (hs:Up rk (arrOf st) lo ok)
  (h:∀ st',SB κ a₀ x0 p0 lo st'->Up rk (arrOf st') lo n->Q true st'):wpS (model prog w) A E s (binarySort' lo n ok) Q st:=by
 rw [binarySort'_eq]
 refine wpS_bind (wpS_mono (wpS_forRange (I:=fun k c st'=>c=(none,())/\SB κ a₀ x0 p0 lo st'/\Up rk (arrOf st') lo (min k n))
  (Q:=fun c st'=>c=(none,())/\SB κ a₀ x0 p0 lo st'/\Up rk (arrOf st') lo n) ?step ?fu ?init) ?post)
 case post =>
  rintro c st' ⟨rfl,hB',hs'⟩
  exact wpS_pure (h st' hB' hs')
 case init =>
  refine ⟨rfl,hB,fun i j hij hj=>?_⟩
  by_cases h1:ok=0
  ·obtain rfl:i=j:=by omega
   exact Int.le_refl _
  ·exact hs i j hij (by omega)
 case fu =>
  rintro c st' ⟨hc,hB',hs'⟩
  refine ⟨hc,hB',?_⟩
  rwa [show min (max (max ok 1) n) n=n by omega] at hs'
 case step =>
  rintro k c st' hak hkn ⟨rfl,hB',hs'⟩
  rw [show min k n=k by omega] at hs'
  have hk:lo + k < a₀.size:=by omega
  refine wpS_bind (wpS_mono (wpS_forRange (I:=fun x c st''=>st''=st'/\∃ l r,c=(none,l,r)/\l<=r/\r<=k/\r - l<=k - x /\
    (∀ i,i < l->R rk (arrOf st') (lo + i)<=R rk (arrOf st') (lo + k))/\(∀ i,r<=i->i < k->R rk (arrOf st') (lo + k) < R rk (arrOf st') (lo + i)))
   (Q:=fun c st''=>st''=st'/\∃ l r,c=(none,l,r)/\l<=k /\
    (∀ i,i < l->R rk (arrOf st') (lo + i)<=R rk (arrOf st') (lo + k))/\(∀ i,l<=i->i < k->R rk (arrOf st') (lo + k) < R rk (arrOf st') (lo + i))) ?istep ?ifin ?iinit) ?ipost)
  case iinit=>exact ⟨rfl,0,k,rfl,by omega,by omega,by omega,fun i hi=>by omega,fun i h1 h2=>by omega⟩
  case ifin =>
   rintro c st'' ⟨rfl,l,r,rfl,hlr,hrk,hm,hlo,hhi⟩
   obtain rfl:l=r:=by omega
   exact ⟨rfl,l,l,rfl,hrk,hlo,hhi⟩
  case istep =>
   rintro x c st'' _ hxk ⟨rfl,l,r,rfl,hlr,hrk,hm,hlo,hhi⟩
   dsimp only
   by_cases hge:l ≥ r
   ·rw [if_pos hge]
    obtain rfl:l=r:=by omega
    exact wpS_pure ⟨rfl,l,l,rfl,hrk,hlo,hhi⟩
   ·rw [if_neg hge]
    refine wpS_bind (uK h0 hB' hk (by omega) ?_)
    by_cases hless:R rk (arrOf st'') (lo + k) < R rk (arrOf st'') (lo + (l + r) / 2)
    ·simp only [hless,decide_true,if_true]
     refine wpS_pure ⟨rfl,l,(l + r) / 2,rfl,by omega,by omega,by omega,hlo,fun i h1 h2=>?_⟩
     exact Int.lt_of_lt_of_le hless (hs' _ _ h1 h2)
    ·simp only [hless,decide_false,Bool.false_eq_true,if_false]
     refine wpS_pure ⟨rfl,(l + r) / 2 + 1,r,rfl,by omega,by omega,by omega,fun i h1=>?_,hhi⟩
     exact Int.le_trans (hs' i ((l + r) / 2) (by omega) (by omega)) (Int.not_lt.mp hless)
  case ipost =>
   rintro c st'' ⟨rfl,l,r,rfl,hlk,hlo,hhi⟩
   show wpS _ _ _ _ (do moveDown' (lo + k) (lo + l);pure (ForInStep.yield (none,()))) _ _
   rw [moveDown'_eq]
   have hks:lo + k < (arrOf st'').size:=by rw [hB'.size];exact hk
   refine wpS_bind (wpS_modify (wpS_pure ⟨rfl,hB'.setArr (bubble_perm _ _ _) (fun q hq=>?_),?_⟩))
   ·rw [getElem?_bubble hks _ (by omega),if_neg (by omega),if_neg (by omega)]
   rw [show min (k + 1) n=k + 1 by omega]
   intro i j hij hj
   show R rk (bubble (arrOf st'') (lo + k) (lo + k - (lo + l))) (lo + i)<=R rk (bubble (arrOf st'') (lo + k) (lo + k - (lo + l))) (lo + j)
   rw [Ka hks (by omega),Ka hks (by omega),show lo + k - (lo + k - (lo + l))=lo + l by omega]
   have pre:∀ q,lo + l < lo + q->lo + q - 1=lo + (q - 1):=fun q hq=>by omega
   repeat' split
   all_goals first
    | (exfalso;omega)
    | exact Int.le_refl _
    | exact hlo _ (by omega)
    | (rw [pre _ (by omega)];exact Int.le_of_lt (hhi _ (by omega) (by omega)))
    | exact hs' _ _ (by omega) (by omega)
    | (rw [pre _ (by omega)];exact hs' _ _ (by omega) (by omega))
    | (rw [pre _ (by omega),pre _ (by omega)];exact hs' _ _ (by omega) (by omega))
end
end Sb
namespace Sb
open PySem PySem.W PyProof.Rows
def fJ:Bool->Keyed->Array Keyed->Nat->Nat->Nat->StateT SortSt Sem (Option Nat):=sortPriv% PySem.Builtin.gallop
def bey (left:Bool) (key:Keyed) (arr:Array Keyed) (base i:Nat):StateT SortSt Sem (Option Bool):=do
 let x <- elem' arr (base + i)
 if left then lt' x key else return (<- lt' key x).map (!·)
theorem Ow (left:Bool) (key:Keyed) (arr:Array Keyed) (base n hint:Nat):fJ left key arr base n hint=(do
 let mut lastofs:=0
 let mut ofs:=1
 let mut lo:=0
 let mut hi:=0
 let some right <- bey left key arr base hint|return none
 if right then
  let maxofs:=n - hint
  for _ in [0:n] do
   if ofs ≥ maxofs then break
   let some more <- bey left key arr base (hint + ofs)|return none
   if !more then break
   lastofs:=ofs
   ofs:=2 * ofs + 1
  lo:=hint + lastofs + 1
  hi:=hint + min ofs maxofs
 else
  let maxofs:=hint + 1
  for _ in [0:n] do
   if ofs ≥ maxofs then break
   let some found <- bey left key arr base (hint - ofs)|return none
   if found then break
   lastofs:=ofs
   ofs:=2 * ofs + 1
  lo:=hint + 1 - min ofs maxofs
  hi:=hint - lastofs
 for _ in [0:n] do
  if lo ≥ hi then break
  let m:=lo + (hi - lo) / 2
  let some more <- bey left key arr base m|return none
  if more then lo:=m + 1 else hi:=m
 return some hi):=rfl
section
variable {prog:Program} {w:World} {A:Around} {E:Value->Shared->Prop} {s:Shared} {a₀ x0:Array Keyed} {κ:SortKind} {rk:Keyed->Int} {lo:Nat} {p0:Array (Nat×Nat×Nat)}
def bp (rk:Keyed->Int) (left:Bool) (key:Keyed) (arr:Array Keyed) (base i:Nat):Bool:=if left then decide (R rk arr (base + i) < rk key) else decide (R rk arr (base + i)<=rk key)
theorem xU {st:SortSt} {left:Bool} {key:Keyed} {arr:Array Keyed} {base i:Nat} {Q:Option Bool->SortSt->Prop} (h0:Ax prog w A s κ rk a₀) (hk:kindOf st=κ) (hm:key∈a₀.toList) (ha:∀ x∈arr.toList,x∈a₀.toList) (hi:base + i < arr.size)
  (h:Q (some (bp rk left key arr base i)) st):wpS (model prog w) A E s (bey left key arr base i) Q st:=by
 have e:arr[base + i]?=some arr[base + i]:=getElem?_pos arr _ hi
 have hx:arr[base + i]∈a₀.toList:=ha _ (by simp)
 unfold bp at h
 rw [fV e] at h
 unfold bey
 refine wpS_bind (bM e ?_)
 cases left with
 | true=>simp only [if_true] at h ⊢;exact yZ h0 hk hx hm h
 | false =>
  simp only [Bool.false_eq_true,if_false] at h ⊢
  refine wpS_bind (yZ h0 hk hm hx (wpS_pure ?_))
  have:(some (decide (rk key < rk arr[base + i]))).map (!·)=some (decide (rk arr[base + i]<=rk key)):=by
   simp only [Option.map_some,<- decide_not,Int.not_lt]
  rw [this];exact h
theorem abf {left:Bool} {key:Keyed} {arr:Array Keyed} {base n:Nat} (hu:Up rk arr base n) {i j:Nat} (hij:i<=j) (hj:j < n) (h:bp rk left key arr base j=true):bp rk left key arr base i=true:=by
 have:=hu i j hij hj
 unfold bp at h ⊢
 cases left <;> simp at h ⊢ <;> omega
theorem iC {st:SortSt} {left:Bool} {key:Keyed} {arr:Array Keyed} {base n hint:Nat} {Q:Option Nat->SortSt->Prop} (h0:Ax prog w A s κ rk a₀) (hk:kindOf st=κ) (hm:key∈a₀.toList) (ha:∀ x∈arr.toList,x∈a₀.toList)
  (hb:base + n<=arr.size) (hh:hint < n) (hu:Up rk arr base n)
  (h:∀ k,k<=n->(∀ i,i < k->bp rk left key arr base i=true)->(∀ i,k<=i->i < n->bp rk left key arr base i=false)->Q (some k) st) :
  wpS (model prog w) A E s (fJ left key arr base n hint) Q st:=by
 have mono:=fun {i j:Nat} (hij:i<=j) (hj:j < n)=>abf (left:=left) (key:=key) hu hij hj
 have XR:∀ {i j:Nat},i<=j->j < n->bp rk left key arr base i=false->bp rk left key arr base j=false:=fun {i j} hij hj hf=>by
  cases c:bp rk left key arr base j with
  | false=>rfl
  | true=>rw [mono hij hj c] at hf;cases hf
 have last:∀ (l0 h0':Nat),l0<=h0'->h0'<=n->(∀ i,i < l0->bp rk left key arr base i=true)->(∀ i,h0'<=i->i < n->bp rk left key arr base i=false) ->
   ∀ (f:Nat->Option (Option Nat)×Nat×Nat->StateT SortSt Sem (ForInStep (Option (Option Nat)×Nat×Nat))) (k:Option (Option Nat)×Nat×Nat->StateT SortSt Sem (Option Nat)),
   (∀ x l hi,f x (none,l,hi)=if l ≥ hi then pure (ForInStep.done (none,l,hi)) else do
    let __x <- bey left key arr base (l + (hi - l) / 2)
    match __x with
    | some more=>if more=true then pure (ForInStep.yield (none,l + (hi - l) / 2 + 1,hi)) else pure (ForInStep.yield (none,l,l + (hi - l) / 2))
    | _=>pure (ForInStep.done (some none,l,hi)))->(∀ l hi,k (none,l,hi)=pure (some hi)) ->
   wpS (model prog w) A E s (do let r <- forIn [0:n] (none,l0,h0') f;k r) Q st:=by
  intro l0 h0' hlh hhn hlo hhi f k hf hkk
  refine wpS_bind (wpS_mono (wpS_forRange (I:=fun x c st'=>st'=st/\∃ l r,c=(none,l,r)/\l<=r/\r<=n/\r - l<=n - x/\(∀ i,i < l->bp rk left key arr base i=true)/\(∀ i,r<=i->i < n->bp rk left key arr base i=false))
   (Q:=fun c st'=>st'=st/\∃ r,c=(none,r,r)/\r<=n/\(∀ i,i < r->bp rk left key arr base i=true)/\(∀ i,r<=i->i < n->bp rk left key arr base i=false)) ?step ?fu ⟨rfl,l0,h0',rfl,hlh,hhn,by omega,hlo,hhi⟩) ?post)
  case post =>
   rintro c st' ⟨rfl,r,rfl,h1,h2,h3⟩
   rw [hkk]
   exact wpS_pure (h r h1 h2 h3)
  case fu =>
   rintro c st' ⟨rfl,l,r,rfl,h1,h2,h3,h4,h5⟩
   obtain rfl:l=r:=by omega
   exact ⟨rfl,l,rfl,h2,h4,h5⟩
  case step =>
   rintro x c st' _ hx ⟨rfl,l,r,rfl,h1,h2,h3,h4,h5⟩
   rw [hf]
   by_cases hge:l ≥ r
   ·rw [if_pos hge]
    obtain rfl:l=r:=by omega
    exact wpS_pure ⟨rfl,l,rfl,h2,h4,h5⟩
   ·rw [if_neg hge]
    refine wpS_bind (xU h0 hk hm ha (by omega) ?_)
    cases c:bp rk left key arr base (l + (r - l) / 2) with
    | true =>
     simp only [if_true]
     exact wpS_pure ⟨rfl,_,r,rfl,by omega,h2,by omega,fun i hi=>mono (show i<=l + (r - l) / 2 by omega) (by omega) c,h5⟩
    | false =>
     simp only [Bool.false_eq_true,if_false]
     exact wpS_pure ⟨rfl,l,_,rfl,by omega,by omega,by omega,h4,fun i h6 h7=>XR h6 h7 c⟩
 rw [Ow]
 dsimp only
 refine wpS_bind (xU h0 hk hm ha (by omega) ?_)
 cases c:bp rk left key arr base hint with
 | true =>
  simp only [if_true]
  refine wpS_bind (wpS_mono (wpS_forRange (I:=fun x c st'=>st'=st/\∃ lf lE,c=(none,lf,lE)/\x + 1<=lE/\lf < lE/\hint + lf < n/\bp rk left key arr base (hint + lf)=true)
   (Q:=fun c st'=>st'=st/\∃ lf lE,c=(none,lf,lE)/\lf < lE/\hint + lf < n/\bp rk left key arr base (hint + lf)=true/\(n - hint<=lE∨(hint + lE < n/\bp rk left key arr base (hint + lE)=false))) ?step ?fu ⟨rfl,0,1,rfl,by omega,by omega,by omega,c⟩) ?post)
  case post =>
   rintro c st' ⟨rfl,lf,lE,rfl,h1,h2,h3,h4⟩
   refine last (hint + lf + 1) (hint + min lE (n - hint)) (by omega) (by omega) (fun i hi=>mono (show i<=hint + lf by omega) h2 h3) (fun i h5 h6=>?_) _ _ (fun x l hi=>rfl) (fun l hi=>rfl)
   rcases h4 with h4|⟨h7,h8⟩
   ·omega
   ·exact XR (show hint + lE<=i by omega) h6 h8
  case fu =>
   rintro c st' ⟨rfl,lf,lE,rfl,h1,h2,h3,h4⟩
   exact ⟨rfl,lf,lE,rfl,h2,h3,h4,.inl (by omega)⟩
  case step =>
   rintro x c st' _ hx ⟨rfl,lf,lE,rfl,h1,h2,h3,h4⟩
   dsimp only
   by_cases hge:lE ≥ n - hint
   ·rw [if_pos hge]
    exact wpS_pure ⟨rfl,lf,lE,rfl,h2,h3,h4,.inl hge⟩
   ·rw [if_neg hge]
    refine wpS_bind (xU h0 hk hm ha (by omega) ?_)
    cases d:bp rk left key arr base (hint + lE) with
    | true =>
     simp only [Bool.not_true,Bool.false_eq_true,if_false]
     exact wpS_pure ⟨rfl,lE,2 * lE + 1,rfl,by omega,by omega,by omega,d⟩
    | false =>
     simp only [Bool.not_false,if_true]
     exact wpS_pure ⟨rfl,lf,lE,rfl,h2,h3,h4,.inr ⟨by omega,d⟩⟩
 | false =>
  simp only [Bool.false_eq_true,if_false]
  refine wpS_bind (wpS_mono (wpS_forRange (I:=fun x c st'=>st'=st/\∃ lf lE,c=(none,lf,lE)/\x + 1<=lE/\lf < lE/\lf<=hint/\bp rk left key arr base (hint - lf)=false)
   (Q:=fun c st'=>st'=st/\∃ lf lE,c=(none,lf,lE)/\lf < lE/\lf<=hint/\bp rk left key arr base (hint - lf)=false/\(hint + 1<=lE∨(lE<=hint/\bp rk left key arr base (hint - lE)=true))) ?step ?fu ⟨rfl,0,1,rfl,by omega,by omega,by omega,c⟩) ?post)
  case post =>
   rintro c st' ⟨rfl,lf,lE,rfl,h1,h2,h3,h4⟩
   refine last (hint + 1 - min lE (hint + 1)) (hint - lf) (by omega) (by omega) (fun i hi=>?_) (fun i h5 h6=>XR h5 h6 h3) _ _ (fun x l hi=>rfl) (fun l hi=>rfl)
   rcases h4 with h4|⟨h7,h8⟩
   ·omega
   ·exact mono (show i<=hint - lE by omega) (by omega) h8
  case fu =>
   rintro c st' ⟨rfl,lf,lE,rfl,h1,h2,h3,h4⟩
   exact ⟨rfl,lf,lE,rfl,h2,h3,h4,.inl (by omega)⟩
  case step =>
   rintro x c st' _ hx ⟨rfl,lf,lE,rfl,h1,h2,h3,h4⟩
   dsimp only
   by_cases hge:lE ≥ hint + 1
   ·rw [if_pos hge]
    exact wpS_pure ⟨rfl,lf,lE,rfl,h2,h3,h4,.inl hge⟩
   ·rw [if_neg hge]
    refine wpS_bind (xU h0 hk hm ha (by omega) ?_)
    cases d:bp rk left key arr base (hint - lE) with
    | false =>
     simp only [Bool.false_eq_true,if_false]
     exact wpS_pure ⟨rfl,lE,2 * lE + 1,rfl,by omega,by omega,by omega,d⟩
    | true =>
     simp only [if_true]
     exact wpS_pure ⟨rfl,lf,lE,rfl,h2,h3,h4,.inr ⟨by omega,d⟩⟩
end
end Sb
namespace Sb
open PySem PySem.W PyProof.Rows
abbrev tV (rk:Keyed->Int) (l:List Keyed):Prop:=l.Pairwise fun x y=>rk x<=rk y
structure Mg (rk:Keyed->Int) (a b out:Array Keyed) (ia ib:Nat):Prop where
 ha:ia<=a.size
 hb:ib<=b.size
 sz:out.size=ia + ib
 pm:(out.toList++(a.toList.drop ia++b.toList.drop ib)).Perm (a.toList++b.toList)
 up:tV rk out.toList
 bd:∀ x∈out.toList,∀ y∈a.toList.drop ia++b.toList.drop ib,rk x<=rk y
def Ay (rk:Keyed->Int) (a b m:Array Keyed):Prop:=m.toList.Perm (a.toList++b.toList)/\tV rk m.toList
section
variable {rk:Keyed->Int} {a b out:Array Keyed} {ia ib k:Nat} {x y:Keyed}
theorem mJ (a:Array Keyed) (i j:Nat):(a.extract i j).toList=(a.toList.drop i).take (j - i):=by
 rw [Array.toList_extract,List.extract_eq_take_drop]
theorem jT (l:List Keyed) (i k:Nat):l.drop i=(l.drop i).take k++l.drop (i + k):=by
 rw [<- List.drop_drop,List.take_append_drop]
theorem Mg.pQ (h:Mg rk a b out ia ib) (sa:tV rk a.toList) (hk:ia + k<=a.size) (hc:∀ x∈(a.toList.drop ia).take k,∀ y∈b.toList.drop ib,rk x<=rk y):Mg rk a b (out++a.extract ia (ia + k)) (ia + k) ib:=by
 have e:(a.extract ia (ia + k)).toList=(a.toList.drop ia).take k:=by rw [mJ];congr 1;omega
 have sp:=jT a.toList ia k
 have sd:tV rk (a.toList.drop ia):=List.Pairwise.sublist (List.drop_sublist _ _) sa
 rw [sp] at sd
 obtain ⟨s1,s2,s3⟩:=List.pairwise_append.mp sd
 refine ⟨hk,h.hb,?_,?_,?_,?_⟩
 ·rw [Array.size_append,Array.size_extract,h.sz];omega
 ·rw [Array.toList_append,e]
  refine List.Perm.trans (List.Perm.of_eq ?_) h.pm
  conv=>rhs;rw [sp]
  simp only [List.append_assoc]
 ·rw [Array.toList_append,e]
  refine List.pairwise_append.mpr ⟨h.up,s1,fun x hx y hy=>h.bd x hx y ?_⟩
  rw [sp];simp [hy]
 ·intro x hx y hy
  rw [Array.toList_append,e] at hx
  rcases List.mem_append.mp hx with hx|hx
  ·refine h.bd x hx y ?_
   rw [sp]
   rcases List.mem_append.mp hy with hy|hy
   ·simp [hy]
   ·simp [hy]
  ·rcases List.mem_append.mp hy with hy|hy
   ·exact s3 x hx y hy
   ·exact hc x hx y hy
theorem Mg.swap (h:Mg rk a b out ia ib):Mg rk b a out ib ia:=by
 refine ⟨h.hb,h.ha,by rw [h.sz,Nat.add_comm],?_,h.up,fun x hx y hy=>h.bd x hx y ?_⟩
 ·refine (List.Perm.append_left _ List.perm_append_comm).trans (h.pm.trans List.perm_append_comm)
 ·rcases List.mem_append.mp hy with hy|hy <;> simp [hy]
theorem Mg.Gb (h:Mg rk a b out ia ib) (sb:tV rk b.toList) (hk:ib + k<=b.size) (hc:∀ y∈(b.toList.drop ib).take k,∀ x∈a.toList.drop ia,rk y<=rk x):Mg rk a b (out++b.extract ib (ib + k)) ia (ib + k) :=
 (h.swap.pQ sb hk hc).swap
theorem Rx {a:Array Keyed} {i:Nat} {x:Keyed} (h:a[i]?=some x):out.push x=out++a.extract i (i + 1):=by
 apply Array.toList_inj.mp
 rw [Array.toList_push,Array.toList_append,mJ]
 obtain ⟨hi,rfl⟩:=Array.getElem?_eq_some_iff.mp h
 rw [List.drop_eq_getElem_cons (by simpa using hi),show i + 1 - i=1 by omega]
 simp
theorem ahA {a:Array Keyed} {i:Nat} {x z:Keyed} (h:a[i]?=some x) (hz:z∈(a.toList.drop i).take 1):z=x:=by
 obtain ⟨hi,rfl⟩:=Array.getElem?_eq_some_iff.mp h
 rw [List.drop_eq_getElem_cons (by simpa using hi)] at hz
 simpa using hz
theorem mK {a:Array Keyed} {i:Nat} {x z:Keyed} (sa:tV rk a.toList) (h:a[i]?=some x) (hz:z∈a.toList.drop i):rk x<=rk z:=by
 obtain ⟨hi,rfl⟩:=Array.getElem?_eq_some_iff.mp h
 have sd:tV rk (a.toList.drop i):=List.Pairwise.sublist (List.drop_sublist _ _) sa
 rw [List.drop_eq_getElem_cons (by simpa using hi)] at hz sd
 rcases List.mem_cons.mp hz with rfl|hz
 ·exact Int.le_refl _
 ·have:=(List.pairwise_cons.mp sd).1 z hz
  simpa using this
theorem Mg.wM (h:Mg rk a b out ia ib) (sa:tV rk a.toList) (hx:a[ia]?=some x) (hc:∀ y∈b.toList.drop ib,rk x<=rk y):Mg rk a b (out.push x) (ia + 1) ib:=by
 rw [Rx hx]
 obtain ⟨hi,_⟩:=Array.getElem?_eq_some_iff.mp hx
 exact h.pQ sa (by omega) fun z hz y hy=>by rw [ahA hx hz];exact hc y hy
theorem Mg.Dz (h:Mg rk a b out ia ib) (sb:tV rk b.toList) (hx:b[ib]?=some x) (hc:∀ y∈a.toList.drop ia,rk x<=rk y):Mg rk a b (out.push x) ia (ib + 1):=(h.swap.wM sb hx hc).swap
theorem Mg.done (h:Mg rk a b out ia ib) (sa:tV rk a.toList) (sb:tV rk b.toList) (hc:∀ x∈a.toList.drop ia,∀ y∈b.toList.drop ib,rk x<=rk y):Ay rk a b (out++a.extract ia a.size++b.extract ib b.size):=by
 have ha:=h.ha;have hb:=h.hb
 have h1:=h.pQ (k:=a.size - ia) sa (by omega) fun x hx y hy=>hc x (List.mem_of_mem_take hx) y hy
 rw [show ia + (a.size - ia)=a.size by omega] at h1
 have h2:=h1.Gb (k:=b.size - ib) sb (by omega) fun y hy x hx=>by rw [List.drop_eq_nil_of_le (by simp)] at hx;cases hx
 rw [show ib + (b.size - ib)=b.size by omega] at h2
 refine ⟨?_,h2.up⟩
 have:=h2.pm
 rw [List.drop_eq_nil_of_le (by simp),List.drop_eq_nil_of_le (by simp)] at this
 simpa using this
theorem Mg.XS (h:Mg rk a b out ia ib) (sa:tV rk a.toList) (sb:tV rk b.toList) (hc:∀ y∈b.toList.drop ib,∀ x∈a.toList.drop ia,rk y<=rk x):Ay rk a b (out++b.extract ib b.size++a.extract ia a.size):=by
 obtain ⟨h1,h2⟩:=h.swap.done sb sa hc
 exact ⟨h1.trans List.perm_append_comm,h2⟩
theorem jE {a:Array Keyed} {i k:Nat} {z:Keyed} (hz:z∈(a.toList.drop i).take k):∃ j,j < k/\a[i + j]?=some z:=by
 obtain ⟨j,hj⟩:=List.mem_iff_getElem?.mp hz
 have hk:j < k:=by
  rcases Nat.lt_or_ge j k with h|h
  ·exact h
  ·rw [List.getElem?_take_eq_none h] at hj;cases hj
 rw [List.getElem?_take_of_lt hk,List.getElem?_drop] at hj
 exact ⟨j,hk,by simpa using hj⟩
theorem yj {a:Array Keyed} {i:Nat} {z:Keyed} (hz:z∈a.toList.drop i):∃ j,i + j < a.size/\a[i + j]?=some z:=by
 obtain ⟨j,hj⟩:=List.mem_iff_getElem?.mp hz
 rw [List.getElem?_drop] at hj
 have h2:a[i + j]?=some z:=by simpa using hj
 exact ⟨j,(Array.getElem?_eq_some_iff.mp h2).1,h2⟩
theorem Kc (sa:tV rk a.toList) (i n:Nat) (h:i + n<=a.size):Up rk a i n:=by
 intro p q hpq hq
 have hp':i + p < a.size:=by omega
 have hq':i + q < a.size:=by omega
 rw [fV (getElem?_pos a (i + p) hp'),fV (getElem?_pos a (i + q) hq')]
 by_cases e:p=q
 ·subst e;exact Int.le_refl _
 ·have:=List.pairwise_iff_getElem.mp sa (i + p) (i + q) (by simpa using hp') (by simpa using hq') (by omega)
  simpa using this
end
end Sb
namespace Sb
open PySem PySem.W PyProof.Rows
def zc:Array Keyed->Array Keyed->StateT SortSt Sem (Array Keyed):=sortPriv% PySem.Builtin.mergeLo
def lQ (g:Nat):StateT SortSt Sem Unit:=modify fun s=>SortSt.mk' (kindOf s) (arrOf s) (pendingOf s) g (failedOf s)
theorem Kd (a b:Array Keyed):zc a b=(do
 rule "list.sort.merge-lo"
 let total:=a.size + b.size
 let done (out:Array Keyed) (ia ib:Nat):=out++a.extract ia a.size++b.extract ib b.size
 let lastOfA (out:Array Keyed) (ia ib:Nat):=out++b.extract ib b.size++a.extract ia a.size
 let mut out:Array Keyed:=#[<- elem' b 0]
 let mut ia:=0
 let mut ib:=1
 if ib == b.size then return done out ia ib
 if ia + 1 == a.size then return lastOfA out ia ib
 let mut minGallop:=gallopOf (<- get)
 for _ in [0:total] do
  let mut acount:=0
  let mut bcount:=0
  for _ in [0:total] do
   let some bWins <- lt' (<- elem' b ib) (<- elem' a ia)|return done out ia ib
   if bWins then
    out:=out.push (<- elem' b ib);ib:=ib + 1;bcount:=bcount + 1;acount:=0
    if ib == b.size then return done out ia ib
    if bcount ≥ minGallop then break
   else
    out:=out.push (<- elem' a ia);ia:=ia + 1;acount:=acount + 1;bcount:=0
    if ia + 1 == a.size then return lastOfA out ia ib
    if acount ≥ minGallop then break
  rule "list.sort.gallop"
  minGallop:=minGallop + 1
  for _ in [0:total] do
   if minGallop > 1 then minGallop:=minGallop - 1
   lQ minGallop
   let some k <- fJ false (<- elem' b ib) a ia (a.size - ia) 0|return done out ia ib
   acount:=k
   if k > 0 then
    out:=out++a.extract ia (ia + k);ia:=ia + k
    if ia + 1 == a.size then return lastOfA out ia ib
    if ia == a.size then return done out ia ib
   out:=out.push (<- elem' b ib);ib:=ib + 1
   if ib == b.size then return done out ia ib
   let some k <- fJ true (<- elem' a ia) b ib (b.size - ib) 0|return done out ia ib
   bcount:=k
   if k > 0 then
    out:=out++b.extract ib (ib + k);ib:=ib + k
    if ib == b.size then return done out ia ib
   out:=out.push (<- elem' a ia);ia:=ia + 1
   if ia + 1 == a.size then return lastOfA out ia ib
   if acount < 7 && bcount < 7 then break
  minGallop:=minGallop + 1
  lQ minGallop
 unsupported "internal:list.sort.merge-bound"):=rfl
abbrev LoS:=Option (Array Keyed)×Array Keyed×Nat×Nat×Nat×Nat×Nat
def Ry (a b out:Array Keyed) (ia ib mg ac bc:Nat):StateT SortSt Sem (ForInStep LoS):=do
 let x <- elem' a ia
 if (ia + 1 + 1 == a.size)=true then pure (.done (some (out.push x++b.extract ib b.size++a.extract (ia + 1) a.size),out.push x,ia + 1,ib,mg,ac,bc))
 else if (decide (ac < 7) && decide (bc < 7))=true then pure (.done (none,out.push x,ia + 1,ib,mg,ac,bc))
 else pure (.yield (none,out.push x,ia + 1,ib,mg,ac,bc))
def Gd (a b out:Array Keyed) (ia ib mg ac bc:Nat):StateT SortSt Sem (ForInStep LoS):=do
 let y <- elem' b ib
 if (ib + 1 == b.size)=true then pure (.done (some (out.push y++a.extract ia a.size++b.extract (ib + 1) b.size),out.push y,ia,ib + 1,mg,ac,bc))
 else do
  let x <- elem' a ia
  let __x <- fJ true x b (ib + 1) (b.size - (ib + 1)) 0
  match __x with
  | some k =>
   if k > 0 then
    if (ib + 1 + k == b.size)=true then pure (.done (some (out.push y++b.extract (ib + 1) (ib + 1 + k)++a.extract ia a.size++b.extract (ib + 1 + k) b.size),out.push y++b.extract (ib + 1) (ib + 1 + k),ia,ib + 1 + k,mg,ac,k))
    else Ry a b (out.push y++b.extract (ib + 1) (ib + 1 + k)) ia (ib + 1 + k) mg ac k
   else Ry a b (out.push y) ia (ib + 1) mg ac k
  | _=>pure (.done (some (out.push y++a.extract ia a.size++b.extract (ib + 1) b.size),out.push y,ia,ib + 1,mg,ac,bc))
def cG (st st':SortSt):Prop:=arrOf st'=arrOf st/\kindOf st'=kindOf st/\pendingOf st'=pendingOf st/\failedOf st'=failedOf st
theorem cG.refl (st:SortSt):cG st st:=⟨rfl,rfl,rfl,rfl⟩
theorem cG.trans {x y z:SortSt} (h:cG x y) (g:cG y z):cG x z:=⟨g.1.trans h.1,g.2.1.trans h.2.1,g.2.2.1.trans h.2.2.1,g.2.2.2.trans h.2.2.2⟩
section
variable {prog:Program} {w:World} {A:Around} {E:Value->Shared->Prop} {s:Shared} {a₀:Array Keyed} {κ:SortKind} {rk:Keyed->Int} {a b:Array Keyed}
theorem lR {g:Nat} {Q:Unit->SortSt->Prop} {st:SortSt} (h:∀ st',cG st st'->Q () st'):wpS (model prog w) A E s (lQ g) Q st :=
 wpS_modify (h _ ⟨rfl,rfl,rfl,rfl⟩)
structure Ke (prog:Program) (w:World) (A:Around) (s:Shared) (κ:SortKind) (rk:Keyed->Int) (a₀ a b:Array Keyed):Prop where
 h0:Ax prog w A s κ rk a₀
 sa:tV rk a.toList
 sb:tV rk b.toList
 ma:∀ x∈a.toList,x∈a₀.toList
 mb:∀ x∈b.toList,x∈a₀.toList
 la:0 < a.size
 lb:0 < b.size
 lt0:R rk b 0 < R rk a 0
 last:∀ x∈b.toList,rk x<=R rk a (a.size - 1)
theorem lF {xs:Array Keyed} {i:Nat} {x:Keyed} (h:xs[i]?=some x):x∈xs.toList:=by
 obtain ⟨hi,rfl⟩:=Array.getElem?_eq_some_iff.mp h
 simp
theorem cV {xs:Array Keyed} {i:Nat} (h:i < xs.size):∃ x,xs[i]?=some x:=⟨_,getElem?_pos xs i h⟩
theorem Ke.Rz (m:Ke prog w A s κ rk a₀ a b) {out:Array Keyed} {ia ib:Nat} (h:Mg rk a b out ia ib) (e:ia + 1=a.size):Ay rk a b (out++b.extract ib b.size++a.extract ia a.size):=by
 refine h.XS m.sa m.sb fun y hy x hx=>?_
 obtain ⟨x',hx'⟩:=cV (xs:=a) (i:=ia) (by omega)
 have e1:=m.last y (List.mem_of_mem_drop hy)
 rw [show a.size - 1=ia by omega,fV hx'] at e1
 exact Int.le_trans e1 (mK m.sa hx' hx)
theorem Ke.abg (m:Ke prog w A s κ rk a₀ a b) {out:Array Keyed} {ia ib:Nat} (h:Mg rk a b out ia ib) (e:ib=b.size):Ay rk a b (out++a.extract ia a.size++b.extract ib b.size):=by
 refine h.done m.sa m.sb fun x hx y hy=>?_
 subst e
 rw [List.drop_eq_nil_of_le (by simp)] at hy;cases hy
def LoQ (rk:Keyed->Int) (a b:Array Keyed) (κ:SortKind) (st:SortSt) (n:Nat):ForInStep LoS->SortSt->Prop:=fun r st'=>cG st st'/\match r with
 | .done c=>(∃ m,c.1=some m/\Ay rk a b m)∨(c.1=none/\Mg rk a b c.2.1 c.2.2.1 c.2.2.2.1/\c.2.2.1 + 1 < a.size/\c.2.2.2.1 < b.size/\n<=c.2.1.size)
 | .yield c=>c.1=none/\Mg rk a b c.2.1 c.2.2.1 c.2.2.2.1/\c.2.2.1 + 1 < a.size/\c.2.2.2.1 < b.size/\n < c.2.1.size
theorem DG (m:Ke prog w A s κ rk a₀ a b) {out:Array Keyed} {ia ib mg ac bc n:Nat} {st0 st:SortSt} (hS:cG st0 st) (h:Mg rk a b out ia ib) (h1:ia + 1 < a.size) (h2:ib < b.size) (hn:n<=out.size) (hc:∀ x y,a[ia]?=some x->y∈b.toList.drop ib->rk x<=rk y) :
  wpS (model prog w) A E s (Ry a b out ia ib mg ac bc) (LoQ rk a b κ st0 n) st:=by
 unfold Ry
 obtain ⟨x,hx⟩:=cV (xs:=a) (i:=ia) (by omega)
 refine wpS_bind (bM hx ?_)
 have h':=h.wM m.sa hx (fun y hy=>hc x y hx hy)
 have sz:n < (out.push x).size:=by rw [Array.size_push];omega
 split
 ·rename_i e
  exact wpS_pure ⟨hS,.inl ⟨_,rfl,m.Rz h' (by simpa using e)⟩⟩
 ·rename_i e
  have e':ia + 1 + 1 < a.size:=by
   have:¬ ia + 1 + 1=a.size:=by simpa using e
   omega
  split
  ·exact wpS_pure ⟨hS,.inr ⟨rfl,h',e',h2,Nat.le_of_lt sz⟩⟩
  ·exact wpS_pure ⟨hS,rfl,h',e',h2,sz⟩
theorem zf (m:Ke prog w A s κ rk a₀ a b) {out:Array Keyed} {ia ib mg ac bc n:Nat} {st0 st:SortSt} (hk:kindOf st=κ) (hS:cG st0 st) (h:Mg rk a b out ia ib) (h1:ia + 1 < a.size) (h2:ib < b.size) (hn:n<=out.size) (hc:∀ y x,b[ib]?=some y->x∈a.toList.drop ia->rk y<=rk x) :
  wpS (model prog w) A E s (Gd a b out ia ib mg ac bc) (LoQ rk a b κ st0 n) st:=by
 unfold Gd
 obtain ⟨y,hy⟩:=cV (xs:=b) (i:=ib) h2
 refine wpS_bind (bM hy ?_)
 have h':=h.Dz m.sb hy (fun x hx=>hc y x hy hx)
 have sz:n < (out.push y).size:=by rw [Array.size_push];omega
 split
 ·rename_i e
  exact wpS_pure ⟨hS,.inl ⟨_,rfl,m.abg h' (by simpa using e)⟩⟩
 ·rename_i e
  have e':ib + 1 < b.size:=by
   have:¬ ib + 1=b.size:=by simpa using e
   omega
  obtain ⟨x,hx⟩:=cV (xs:=a) (i:=ia) (by omega)
  refine wpS_bind (bM hx ?_)
  refine wpS_bind (iC m.h0 hk (m.ma x (lF hx)) m.mb (by omega) (by omega) (Kc m.sb _ _ (by omega)) fun k k1 k2 k3=>?_)
  have chunk:∀ z∈(b.toList.drop (ib + 1)).take k,∀ v∈a.toList.drop ia,rk z<=rk v:=fun z hz v hv=>by
   obtain ⟨j,hj,ej⟩:=jE hz
   have:=k2 j hj
   unfold bp at this
   rw [fV ej] at this
   have q:rk z < rk x:=by simpa using this
   exact Int.le_trans (Int.le_of_lt q) (mK m.sa hx hv)
  have rest:∀ v,v∈b.toList.drop (ib + 1 + k)->rk x<=rk v:=fun v hv=>by
   obtain ⟨j,hj,ej⟩:=yj hv
   rw [Nat.add_assoc (ib + 1) k j] at ej
   have:=k3 (k + j) (by omega) (by omega)
   unfold bp at this
   rw [fV ej] at this
   simpa using this
  dsimp only
  split
  ·rename_i kp
   have h'':=h'.Gb m.sb (k:=k) (by omega) chunk
   have sz':n<=(out.push y++b.extract (ib + 1) (ib + 1 + k)).size:=by rw [Array.size_append];omega
   split
   ·rename_i e2
    exact wpS_pure ⟨hS,.inl ⟨_,rfl,m.abg h'' (by simpa using e2)⟩⟩
   ·rename_i e2
    have e2':ib + 1 + k < b.size:=by
     have:¬ ib + 1 + k=b.size:=by simpa using e2
     omega
    exact DG m hS h'' h1 e2' sz' fun x' v hx' hv=>by rw [hx] at hx';cases hx';exact rest v hv
  ·rename_i kp
   obtain rfl:k=0:=by omega
   exact DG m hS h' h1 e' (Nat.le_of_lt sz) fun x' v hx' hv=>by rw [hx] at hx';cases hx';exact rest v hv
end
end Sb
namespace Sb
open PySem PySem.W PyProof.Rows
section
variable {prog:Program} {w:World} {A:Around} {E:Value->Shared->Prop} {s:Shared} {a₀:Array Keyed} {κ:SortKind} {rk:Keyed->Int} {a b:Array Keyed}
theorem Mg.nil:Mg rk a b #[] 0 0:=⟨Nat.zero_le _,Nat.zero_le _,rfl,by simp,by simp,fun x hx=>by simp at hx⟩
theorem dW {a b:Nat} (h:¬ (a == b)=true):a≠b:=fun e=>h (by simp [e])
theorem jf {a b:Nat} (h:(a == b)=true):a=b:=by simpa using h
theorem bQ {α:Type} {c:Prop} [Decidable c] {t f:StateT SortSt Sem α} {Q:α->SortSt->Prop} {st:SortSt} (ht:c->wpS (model prog w) A E s t Q st) (hf:¬ c->wpS (model prog w) A E s f Q st):wpS (model prog w) A E s (if c then t else f) Q st:=by
 by_cases h:c
 ·rw [if_pos h];exact ht h
 ·rw [if_neg h];exact hf h
theorem zj (m:Ke prog w A s κ rk a₀ a b) {out:Array Keyed} {ia ib n:Nat} {st0 st:SortSt} (hk:kindOf st=κ) (hS:cG st0 st) (h:Mg rk a b out ia ib) (h1:ia + 1 < a.size) (h2:ib < b.size) (hn:n<=out.size)
  {f:Option Nat->StateT SortSt Sem (ForInStep LoS)} {mg bc:Nat} (hf:∀ k,f (some k)=if k > 0 then
    if (ia + k + 1 == a.size)=true then pure (.done (some (out++a.extract ia (ia + k)++b.extract ib b.size++a.extract (ia + k) a.size),out++a.extract ia (ia + k),ia + k,ib,mg,k,bc))
    else if (ia + k == a.size)=true then pure (.done (some (out++a.extract ia (ia + k)++a.extract (ia + k) a.size++b.extract ib b.size),out++a.extract ia (ia + k),ia + k,ib,mg,k,bc))
    else Gd a b (out++a.extract ia (ia + k)) (ia + k) ib mg k bc
   else Gd a b out ia ib mg k bc) :
  wpS (model prog w) A E s (do let y <- elem' b ib;let r <- fJ false y a ia (a.size - ia) 0;f r) (LoQ rk a b κ st0 n) st:=by
 obtain ⟨y,hy⟩:=cV (xs:=b) (i:=ib) h2
 refine wpS_bind (bM hy ?_)
 refine wpS_bind (iC m.h0 hk (m.mb y (lF hy)) m.ma (by omega) (by omega) (Kc m.sa _ _ (by omega)) fun k k1 k2 k3=>?_)
 rw [hf]
 have chunk:∀ z∈(a.toList.drop ia).take k,∀ v∈b.toList.drop ib,rk z<=rk v:=fun z hz v hv=>by
  obtain ⟨j,hj,ej⟩:=jE hz
  have:=k2 j hj
  unfold bp at this
  rw [fV ej] at this
  have q:rk z<=rk y:=by simpa using this
  exact Int.le_trans q (mK m.sb hy hv)
 have rest:∀ v,v∈a.toList.drop (ia + k)->rk y<=rk v:=fun v hv=>by
  obtain ⟨j,hj,ej⟩:=yj hv
  rw [Nat.add_assoc ia k j] at ej
  have:=k3 (k + j) (by omega) (by omega)
  unfold bp at this
  rw [fV ej] at this
  have q:rk y < rk v:=by simpa using this
  exact Int.le_of_lt q
 split
 ·rename_i kp
  have h':=h.pQ m.sa (k:=k) (by omega) chunk
  have sz':n<=(out++a.extract ia (ia + k)).size:=by rw [Array.size_append];omega
  split
  ·rename_i e
   exact wpS_pure ⟨hS,.inl ⟨_,rfl,m.Rz h' (jf e)⟩⟩
  ·rename_i e
   have e:=dW e
   split
   ·rename_i e2
    refine wpS_pure ⟨hS,.inl ⟨_,rfl,h'.done m.sa m.sb fun x hx=>?_⟩⟩
    rw [jf e2,List.drop_eq_nil_of_le (by simp)] at hx;cases hx
   ·rename_i e2
    have e2:=dW e2
    exact zf m hk hS h' (by omega) h2 sz' fun y' x hy' hx=>by rw [hy] at hy';cases hy';exact rest x hx
 ·rename_i kp
  obtain rfl:k=0:=by omega
  exact zf m hk hS h h1 h2 hn fun y' x hy' hx=>by rw [hy] at hy';cases hy';exact rest x hx
theorem Kf (m:Ke prog w A s κ rk a₀ a b) {st:SortSt} (hk:kindOf st=κ) {Q:Array Keyed->SortSt->Prop} (h:∀ mm st',cG st st'->Ay rk a b mm->Q mm st') :
  wpS (model prog w) A E s (zc a b) Q st:=by
 rw [Kd]
 dsimp only
 refine wpS_bind (wpS_lift (wpAny_rule ⟨rfl,?_⟩))
 obtain ⟨y0,hy0⟩:=cV (xs:=b) (i:=0) m.lb
 obtain ⟨x0,hx0⟩:=cV (xs:=a) (i:=0) m.la
 refine wpS_bind (bM hy0 ?_)
 have l0:=m.lt0
 rw [fV hy0,fV hx0] at l0
 have M0:Mg rk a b #[y0] 0 1:=Mg.nil.Dz m.sb hy0 fun v hv=>Int.le_trans (Int.le_of_lt l0) (mK m.sa hx0 hv)
 have la:=m.la
 have lb:=m.lb
 refine bQ (fun e=>wpS_pure (h _ _ (.refl _) (m.abg M0 (jf e)))) fun e1=>?_
 have e1:=dW e1
 refine bQ (fun e=>wpS_pure (h _ _ (.refl _) (m.Rz M0 (jf e)))) fun e2=>?_
 have e2:=dW e2
 refine wpS_bind (wpS_get ?_)
 refine wpS_bind (wpS_mono (wpS_forRange (I:=fun x c st'=>cG st st'/\∃ out ia ib mg,c=(none,out,ia,ib,mg)/\Mg rk a b out ia ib/\ia + 1 < a.size/\ib < b.size/\x + 1<=out.size)
  (Q:=fun c st'=>cG st st'/\∃ mm rest,c=(some mm,rest)/\Ay rk a b mm) ?step ?fu ⟨.refl _,#[y0],0,1,_,rfl,M0,by omega,by omega,by simp⟩) ?post)
 case post =>
  rintro c st' ⟨hS,mm,rest,rfl,hr⟩
  exact wpS_pure (h mm st' hS hr)
 case fu =>
  rintro c st' ⟨hS,out,ia,ib,mg,rfl,hM,h1,h2,h3⟩
  have:=hM.sz
  omega
 case step =>
  rintro x c st' _ hx ⟨hS,out,ia,ib,mg,rfl,hM,h1,h2,h3⟩
  dsimp only
  refine wpS_bind (wpS_mono (wpS_forRange (I:=fun y c st''=>cG st st''/\∃ out ia ib ac bc,c=(none,out,ia,ib,ac,bc)/\Mg rk a b out ia ib/\ia + 1 < a.size/\ib < b.size/\x + 1 + y<=out.size)
   (Q:=fun c st''=>cG st st''/\((∃ mm rest,c=(some mm,rest)/\Ay rk a b mm)∨∃ out ia ib ac bc,c=(none,out,ia,ib,ac,bc)/\Mg rk a b out ia ib/\ia + 1 < a.size/\ib < b.size/\x + 2<=out.size)) ?istep ?ifin ⟨hS,out,ia,ib,0,0,rfl,hM,h1,h2,by omega⟩) ?ipost)
  case ifin =>
   rintro c st'' ⟨hS,out,ia,ib,ac,bc,rfl,hM,h1,h2,h3⟩
   have:=hM.sz
   omega
  case istep =>
   rintro y c st'' _ hy ⟨hS,out,ia,ib,ac,bc,rfl,hM,h1,h2,h3⟩
   dsimp only
   obtain ⟨p,hp⟩:=cV (xs:=b) (i:=ib) h2
   obtain ⟨q,hq⟩:=cV (xs:=a) (i:=ia) (by omega)
   refine wpS_bind (bM hp (wpS_bind (bM hq (wpS_bind (yZ m.h0 (hS.2.1.trans hk) (m.mb p (lF hp)) (m.ma q (lF hq)) ?_)))))
   by_cases c:rk p < rk q
   ·simp only [c,decide_true,if_true]
    refine wpS_bind (bM hp ?_)
    have hM':=hM.Dz m.sb hp fun v hv=>Int.le_trans (Int.le_of_lt c) (mK m.sa hq hv)
    split
    ·rename_i e
     exact wpS_pure ⟨hS,.inl ⟨_,_,rfl,m.abg hM' (jf e)⟩⟩
    ·rename_i e
     have e:=dW e
     split
     ·exact wpS_pure ⟨hS,.inr ⟨_,_,_,_,_,rfl,hM',h1,by omega,by rw [Array.size_push];omega⟩⟩
     ·exact wpS_pure ⟨hS,_,_,_,_,_,rfl,hM',h1,by omega,by rw [Array.size_push];omega⟩
   ·simp only [c,decide_false,Bool.false_eq_true,if_false]
    refine wpS_bind (bM hq ?_)
    have hM':=hM.wM m.sa hq fun v hv=>Int.le_trans (Int.not_lt.mp c) (mK m.sb hp hv)
    split
    ·rename_i e
     exact wpS_pure ⟨hS,.inl ⟨_,_,rfl,m.Rz hM' (jf e)⟩⟩
    ·rename_i e
     have e:=dW e
     split
     ·exact wpS_pure ⟨hS,.inr ⟨_,_,_,_,_,rfl,hM',by omega,h2,by rw [Array.size_push];omega⟩⟩
     ·exact wpS_pure ⟨hS,_,_,_,_,_,rfl,hM',by omega,h2,by rw [Array.size_push];omega⟩
  case ipost =>
   rintro c st'' ⟨hS,⟨mm,rest,rfl,hr⟩|⟨out,ia,ib,ac,bc,rfl,hM,h1,h2,h3⟩⟩
   ·exact wpS_pure ⟨hS,mm,_,rfl,hr⟩
   ·dsimp only
    refine wpS_bind (wpS_lift (wpAny_rule ⟨rfl,?_⟩))
    refine wpS_bind (wpS_mono (wpS_forRange (I:=fun y c st3=>cG st st3/\∃ out ia ib mg ac bc,c=(none,out,ia,ib,mg,ac,bc)/\Mg rk a b out ia ib/\ia + 1 < a.size/\ib < b.size/\x + 2 + y<=out.size)
     (Q:=fun c st3=>cG st st3/\((∃ mm rest,c=(some mm,rest)/\Ay rk a b mm)∨∃ out ia ib mg ac bc,c=(none,out,ia,ib,mg,ac,bc)/\Mg rk a b out ia ib/\ia + 1 < a.size/\ib < b.size/\x + 2<=out.size)) ?Yb ?aeV ⟨hS,out,ia,ib,_,ac,bc,rfl,hM,h1,h2,by omega⟩) ?Yc)
    case aeV =>
     rintro c st3 ⟨hS,out,ia,ib,mg,ac,bc,rfl,hM,h1,h2,h3⟩
     have:=hM.sz
     omega
    case Yc =>
     rintro c st3 ⟨hS,⟨mm,rest,rfl,hr⟩|⟨out,ia,ib,mg,ac,bc,rfl,hM,h1,h2,h3⟩⟩
     ·exact wpS_pure ⟨hS,mm,_,rfl,hr⟩
     ·dsimp only
      refine wpS_bind (lR fun Dp Aw=>?_)
      exact wpS_pure ⟨hS.trans Aw,_,_,_,_,rfl,hM,h1,h2,by omega⟩
    case Yb =>
     rintro y c st3 _ hy ⟨hS,out,ia,ib,mg,ac,bc,rfl,hM,h1,h2,h3⟩
     have cD:∀ (c:LoS) (st':SortSt),LoQ rk a b κ st (x + 2 + y) (.done c) st'->cG st st'/\((∃ mm rest,c=(some mm,rest)/\Ay rk a b mm)∨∃ out ia ib mg ac bc,c=(none,out,ia,ib,mg,ac,bc)/\Mg rk a b out ia ib/\ia + 1 < a.size/\ib < b.size/\x + 2<=out.size):=by
      rintro ⟨c1,out,ia,ib,mg,ac,bc⟩ st' ⟨hS,⟨mm,e,hr⟩|⟨e,hM,h1,h2,h3⟩⟩
      ·cases e;exact ⟨hS,.inl ⟨mm,_,rfl,hr⟩⟩
      ·cases e;dsimp only at h1 h2 h3;exact ⟨hS,.inr ⟨_,_,_,_,_,_,rfl,hM,h1,h2,by omega⟩⟩
     have cY:∀ (c:LoS) (st':SortSt),LoQ rk a b κ st (x + 2 + y) (.yield c) st'->cG st st'/\∃ out ia ib mg ac bc,c=(none,out,ia,ib,mg,ac,bc)/\Mg rk a b out ia ib/\ia + 1 < a.size/\ib < b.size/\x + 2 + (y + 1)<=out.size:=by
      rintro ⟨c1,out,ia,ib,mg,ac,bc⟩ st' ⟨hS,e,hM,h1,h2,h3⟩
      cases e;dsimp only at h1 h2 h3;exact ⟨hS,_,_,_,_,_,_,rfl,hM,h1,h2,by omega⟩
     dsimp only
     refine bQ (fun _=>?_) (fun _=>?_)
     ·refine wpS_bind (lR fun Dp Aw=>?_)
      exact wpS_mono (zj m ((hS.trans Aw).2.1.trans hk) (hS.trans Aw) hM h1 h2 h3 (fun k=>rfl)) fun r st' hq=>match r,hq with|.done c,hq=>cD c st' hq|.yield c,hq=>cY c st' hq
     ·refine wpS_bind (lR fun Dp Aw=>?_)
      exact wpS_mono (zj m ((hS.trans Aw).2.1.trans hk) (hS.trans Aw) hM h1 h2 h3 (fun k=>rfl)) fun r st' hq=>match r,hq with|.done c,hq=>cD c st' hq|.yield c,hq=>cY c st' hq
end
end Sb
namespace Sb
open PySem PySem.W PyProof.Rows
def zm:Array Keyed->Array Keyed->StateT SortSt Sem (Array Keyed):=sortPriv% PySem.Builtin.mergeHi
theorem Kg (a b:Array Keyed):zm a b=(do
 rule "list.sort.merge-hi"
 let total:=a.size + b.size
 let done (out:Array Keyed) (na nb:Nat):=a.extract 0 na++b.extract 0 nb++out.reverse
 let firstOfB (out:Array Keyed) (na nb:Nat):=b.extract 0 nb++a.extract 0 na++out.reverse
 let mut na:=a.size - 1
 let mut nb:=b.size
 let mut out:Array Keyed:=#[<- elem' a na]
 if na == 0 then return done out na nb
 if nb == 1 then return firstOfB out na nb
 let mut minGallop:=gallopOf (<- get)
 for _ in [0:total] do
  let mut acount:=0
  let mut bcount:=0
  for _ in [0:total] do
   let some aWins <- lt' (<- elem' b (nb - 1)) (<- elem' a (na - 1))|return done out na nb
   if aWins then
    na:=na - 1;out:=out.push (<- elem' a na);acount:=acount + 1;bcount:=0
    if na == 0 then return done out na nb
    if acount ≥ minGallop then break
   else
    nb:=nb - 1;out:=out.push (<- elem' b nb);bcount:=bcount + 1;acount:=0
    if nb == 1 then return firstOfB out na nb
    if bcount ≥ minGallop then break
  rule "list.sort.gallop"
  minGallop:=minGallop + 1
  for _ in [0:total] do
   if minGallop > 1 then minGallop:=minGallop - 1
   lQ minGallop
   let some at_ <- fJ false (<- elem' b (nb - 1)) a 0 na (na - 1)|return done out na nb
   let k:=na - at_
   acount:=k
   if k > 0 then
    out:=out++(a.extract at_ na).reverse;na:=at_
    if na == 0 then return done out na nb
   nb:=nb - 1;out:=out.push (<- elem' b nb)
   if nb == 1 then return firstOfB out na nb
   let some at_ <- fJ true (<- elem' a (na - 1)) b 0 nb (nb - 1)|return done out na nb
   let k:=nb - at_
   bcount:=k
   if k > 0 then
    out:=out++(b.extract at_ nb).reverse;nb:=at_
    if nb == 1 then return firstOfB out na nb
    if nb == 0 then return done out na nb
   na:=na - 1;out:=out.push (<- elem' a na)
   if na == 0 then return done out na nb
   if acount < 7 && bcount < 7 then break
  minGallop:=minGallop + 1
  lQ minGallop
 unsupported "internal:list.sort.merge-bound"):=rfl
structure Mh (rk:Keyed->Int) (a b out:Array Keyed) (na nb:Nat):Prop where
 ha:na<=a.size
 hb:nb<=b.size
 sz:out.size + (na + nb)=a.size + b.size
 pm:((a.toList.take na++b.toList.take nb)++out.toList.reverse).Perm (a.toList++b.toList)
 up:tV rk out.toList.reverse
 bd:∀ y∈a.toList.take na++b.toList.take nb,∀ x∈out.toList,rk y<=rk x
section
variable {rk:Keyed->Int} {a b out:Array Keyed} {na nb k:Nat} {x y:Keyed}
theorem Ox (l:List Keyed) {i n:Nat} (h:i<=n):l.take n=l.take i++(l.take n).drop i:=by
 conv=>lhs;rw [<- List.take_append_drop i (l.take n)]
 rw [List.take_take,Nat.min_eq_left h]
theorem Mh.pQ (h:Mh rk a b out na nb) (sa:tV rk a.toList) (hk:k<=na) (hc:∀ x∈(a.toList.take na).drop k,∀ y∈b.toList.take nb,rk y<=rk x):Mh rk a b (out++(a.extract k na).reverse) k nb:=by
 have ha:=h.ha
 have e:(a.extract k na).toList=(a.toList.take na).drop k:=by rw [mJ,List.drop_take]
 have sp:=Ox a.toList hk
 have sd:tV rk (a.toList.take na):=List.Pairwise.sublist (List.take_sublist _ _) sa
 rw [sp] at sd
 obtain ⟨s1,s2,s3⟩:=List.pairwise_append.mp sd
 have er:(out++(a.extract k na).reverse).toList.reverse=(a.toList.take na).drop k++out.toList.reverse:=by
  rw [Array.toList_append,List.reverse_append,Array.toList_reverse,List.reverse_reverse,e]
 refine ⟨by omega,h.hb,?_,?_,?_,?_⟩
 ·have:=h.sz
  rw [Array.size_append,Array.size_reverse,Array.size_extract];omega
 ·rw [er]
  refine List.Perm.trans ?_ h.pm
  conv=>rhs;rw [sp]
  simp only [List.append_assoc]
  refine List.Perm.append_left _ ?_
  rw [<- List.append_assoc,<- List.append_assoc]
  exact List.Perm.append_right _ List.perm_append_comm
 ·rw [er]
  refine List.pairwise_append.mpr ⟨s2,h.up,fun x hx y hy=>h.bd x ?_ y (List.mem_reverse.mp hy)⟩
  rw [sp];simp [hx]
 ·intro y hy x hx
  have hx':x∈(a.toList.take na).drop k++out.toList.reverse:=by rw [<- er];exact List.mem_reverse.mpr hx
  rcases List.mem_append.mp hx' with hx|hx
  ·rcases List.mem_append.mp hy with hy|hy
   ·exact s3 y hy x hx
   ·exact hc x hx y hy
  ·refine h.bd y ?_ x (List.mem_reverse.mp hx)
   rw [sp]
   rcases List.mem_append.mp hy with hy|hy <;> simp [hy]
theorem Mh.swap (h:Mh rk a b out na nb):Mh rk b a out nb na:=by
 refine ⟨h.hb,h.ha,by have:=h.sz;omega,?_,h.up,fun y hy x hx=>h.bd y ?_ x hx⟩
 ·exact (List.Perm.append_right _ List.perm_append_comm).trans (h.pm.trans List.perm_append_comm)
 ·rcases List.mem_append.mp hy with hy|hy <;> simp [hy]
theorem Mh.Gb (h:Mh rk a b out na nb) (sb:tV rk b.toList) (hk:k<=nb) (hc:∀ y∈(b.toList.take nb).drop k,∀ x∈a.toList.take na,rk x<=rk y):Mh rk a b (out++(b.extract k nb).reverse) na k :=
 (h.swap.pQ sb hk hc).swap
theorem Yd {a:Array Keyed} {n:Nat} {x:Keyed} (hn:0 < n) (h:a[n - 1]?=some x):out.push x=out++(a.extract (n - 1) n).reverse:=by
 have e:=Rx (out:=#[]) h
 have e2:a.extract (n - 1) n=#[x]:=by
  rw [show n - 1 + 1=n by omega] at e
  simpa using e.symm
 rw [e2];rfl
theorem ajT {a:Array Keyed} {n:Nat} {x z:Keyed} (hn:0 < n) (h:a[n - 1]?=some x) (hz:z∈(a.toList.take n).drop (n - 1)):z=x:=by
 obtain ⟨j,hj⟩:=List.mem_iff_getElem?.mp hz
 rw [List.getElem?_drop] at hj
 have hl:n - 1 + j < n:=by
  rcases Nat.lt_or_ge (n - 1 + j) n with q|q
  ·exact q
  ·rw [List.getElem?_take_eq_none q] at hj;cases hj
 obtain rfl:j=0:=by omega
 rw [List.getElem?_take_of_lt hl] at hj
 have:a[n - 1]?=some z:=by simpa using hj
 rw [this] at h;cases h;rfl
theorem uL {a:Array Keyed} {n:Nat} {x z:Keyed} (hn:0 < n) (sa:tV rk a.toList) (h:a[n - 1]?=some x) (hz:z∈a.toList.take n):rk z<=rk x:=by
 obtain ⟨j,hj⟩:=List.mem_iff_getElem?.mp hz
 have hl:j < n:=by
  rcases Nat.lt_or_ge j n with q|q
  ·exact q
  ·rw [List.getElem?_take_eq_none q] at hj;cases hj
 rw [List.getElem?_take_of_lt hl] at hj
 have hj':a[j]?=some z:=by simpa using hj
 obtain ⟨q1,_⟩:=Array.getElem?_eq_some_iff.mp hj'
 obtain ⟨q2,_⟩:=Array.getElem?_eq_some_iff.mp h
 have:=Kc sa 0 a.size (by omega) j (n - 1) (by omega) (by omega)
 rw [Nat.zero_add,Nat.zero_add,fV hj',fV h] at this
 exact this
theorem Mh.wM (h:Mh rk a b out na nb) (sa:tV rk a.toList) (hn:0 < na) (hx:a[na - 1]?=some x) (hc:∀ y∈b.toList.take nb,rk y<=rk x):Mh rk a b (out.push x) (na - 1) nb:=by
 rw [Yd hn hx]
 exact h.pQ sa (by omega) fun z hz y hy=>by rw [ajT hn hx hz];exact hc y hy
theorem Mh.Dz (h:Mh rk a b out na nb) (sb:tV rk b.toList) (hn:0 < nb) (hx:b[nb - 1]?=some x) (hc:∀ y∈a.toList.take na,rk y<=rk x):Mh rk a b (out.push x) na (nb - 1):=(h.swap.wM sb hn hx hc).swap
theorem Mh.done (h:Mh rk a b out na nb) (sa:tV rk a.toList) (sb:tV rk b.toList) (hc:∀ x∈a.toList.take na,∀ y∈b.toList.take nb,rk x<=rk y):Ay rk a b (a.extract 0 na++b.extract 0 nb++out.reverse):=by
 have e:(a.extract 0 na++b.extract 0 nb++out.reverse).toList=(a.toList.take na++b.toList.take nb)++out.toList.reverse:=by
  rw [Array.toList_append,Array.toList_append,mJ,mJ,Array.toList_reverse]
  simp
 refine ⟨by rw [e];exact h.pm,?_⟩
 rw [e]
 refine List.pairwise_append.mpr ⟨List.pairwise_append.mpr ⟨List.Pairwise.sublist (List.take_sublist _ _) sa,List.Pairwise.sublist (List.take_sublist _ _) sb,hc⟩,h.up,fun y hy x hx=>h.bd y hy x (List.mem_reverse.mp hx)⟩
theorem Mh.XS (h:Mh rk a b out na nb) (sa:tV rk a.toList) (sb:tV rk b.toList) (hc:∀ y∈b.toList.take nb,∀ x∈a.toList.take na,rk y<=rk x):Ay rk a b (b.extract 0 nb++a.extract 0 na++out.reverse):=by
 obtain ⟨h1,h2⟩:=h.swap.done sb sa hc
 exact ⟨h1.trans List.perm_append_comm,h2⟩
theorem Ge {a:Array Keyed} {n k:Nat} {z:Keyed} (hz:z∈(a.toList.take n).drop k):∃ j,k<=j/\j < n/\a[j]?=some z:=by
 obtain ⟨j,hj⟩:=List.mem_iff_getElem?.mp hz
 rw [List.getElem?_drop] at hj
 have hl:k + j < n:=by
  rcases Nat.lt_or_ge (k + j) n with q|q
  ·exact q
  ·rw [List.getElem?_take_eq_none q] at hj;cases hj
 rw [List.getElem?_take_of_lt hl] at hj
 exact ⟨k + j,by omega,hl,by simpa using hj⟩
theorem RB {a:Array Keyed} {n:Nat} {z:Keyed} (hz:z∈a.toList.take n):∃ j,j < n/\a[j]?=some z:=by
 obtain ⟨j,_,h2,h3⟩:=Ge (k:=0) (by simpa using hz)
 exact ⟨j,h2,h3⟩
theorem Mh.nil:Mh rk a b #[] a.size b.size:=⟨Nat.le_refl _,Nat.le_refl _,by simp,by rw [List.take_of_length_le (by simp),List.take_of_length_le (by simp)];simp,by simp,fun y _ x hx=>by simp at hx⟩
end
end Sb
namespace Sb
open PySem PySem.W PyProof.Rows
abbrev HiS:=Option (Array Keyed)×Nat×Nat×Array Keyed×Nat×Nat×Nat
def RD (a b out:Array Keyed) (na nb mg ac bc:Nat):StateT SortSt Sem (ForInStep HiS):=do
 let x <- elem' a (na - 1)
 if (na - 1 == 0)=true then pure (.done (some (a.extract 0 (na - 1)++b.extract 0 nb++(out.push x).reverse),na - 1,nb,out.push x,mg,ac,bc))
 else if (decide (ac < 7) && decide (bc < 7))=true then pure (.done (none,na - 1,nb,out.push x,mg,ac,bc))
 else pure (.yield (none,na - 1,nb,out.push x,mg,ac,bc))
def Gf (a b out:Array Keyed) (na nb mg ac bc:Nat):StateT SortSt Sem (ForInStep HiS):=do
 let y <- elem' b (nb - 1)
 if (nb - 1 == 1)=true then pure (.done (some (b.extract 0 (nb - 1)++a.extract 0 na++(out.push y).reverse),na,nb - 1,out.push y,mg,ac,bc))
 else do
  let x <- elem' a (na - 1)
  let __x <- fJ true x b 0 (nb - 1) (nb - 1 - 1)
  match __x with
  | some k =>
   if nb - 1 - k > 0 then
    if (k == 1)=true then pure (.done (some (b.extract 0 k++a.extract 0 na++(out.push y++(b.extract k (nb - 1)).reverse).reverse),na,k,out.push y++(b.extract k (nb - 1)).reverse,mg,ac,nb - 1 - k))
    else if (k == 0)=true then pure (.done (some (a.extract 0 na++b.extract 0 k++(out.push y++(b.extract k (nb - 1)).reverse).reverse),na,k,out.push y++(b.extract k (nb - 1)).reverse,mg,ac,nb - 1 - k))
    else RD a b (out.push y++(b.extract k (nb - 1)).reverse) na k mg ac (nb - 1 - k)
   else RD a b (out.push y) na (nb - 1) mg ac (nb - 1 - k)
  | _=>pure (.done (some (a.extract 0 na++b.extract 0 (nb - 1)++(out.push y).reverse),na,nb - 1,out.push y,mg,ac,bc))
section
variable {prog:Program} {w:World} {A:Around} {E:Value->Shared->Prop} {s:Shared} {a₀:Array Keyed} {κ:SortKind} {rk:Keyed->Int} {a b:Array Keyed}
theorem Ke.abh (m:Ke prog w A s κ rk a₀ a b) {out:Array Keyed} {na nb:Nat} (h:Mh rk a b out na nb) (e:nb=1):Ay rk a b (b.extract 0 nb++a.extract 0 na++out.reverse):=by
 refine h.XS m.sa m.sb fun y hy x hx=>?_
 subst e
 obtain ⟨x',hx'⟩:=cV (xs:=a) (i:=0) m.la
 obtain ⟨y',hy'⟩:=cV (xs:=b) (i:=0) m.lb
 have e1:=m.lt0
 rw [fV hx',fV hy'] at e1
 have e2:=uL (n:=1) (by omega) m.sb hy' hy
 have e3:=mK (i:=0) m.sa hx' (by simpa using List.mem_of_mem_take hx)
 omega
theorem Ke.noA (m:Ke prog w A s κ rk a₀ a b) {out:Array Keyed} {na nb:Nat} (h:Mh rk a b out na nb) (e:na=0):Ay rk a b (a.extract 0 na++b.extract 0 nb++out.reverse):=by
 refine h.done m.sa m.sb fun x hx=>?_
 subst e
 simp at hx
def HiQ (rk:Keyed->Int) (a b:Array Keyed) (κ:SortKind) (st:SortSt) (n:Nat):ForInStep HiS->SortSt->Prop:=fun r st'=>cG st st'/\match r with
 | .done c=>(∃ m,c.1=some m/\Ay rk a b m)∨(c.1=none/\Mh rk a b c.2.2.2.1 c.2.1 c.2.2.1/\0 < c.2.1/\1 < c.2.2.1/\n<=c.2.2.2.1.size)
 | .yield c=>c.1=none/\Mh rk a b c.2.2.2.1 c.2.1 c.2.2.1/\0 < c.2.1/\1 < c.2.2.1/\n < c.2.2.2.1.size
theorem DK (m:Ke prog w A s κ rk a₀ a b) {out:Array Keyed} {na nb mg ac bc n:Nat} {st0 st:SortSt} (hS:cG st0 st) (h:Mh rk a b out na nb) (h1:0 < na) (h2:1 < nb) (hn:n<=out.size) (hc:∀ x y,a[na - 1]?=some x->y∈b.toList.take nb->rk y<=rk x) :
  wpS (model prog w) A E s (RD a b out na nb mg ac bc) (HiQ rk a b κ st0 n) st:=by
 unfold RD
 have ha:=h.ha
 obtain ⟨x,hx⟩:=cV (xs:=a) (i:=na - 1) (by omega)
 refine wpS_bind (bM hx ?_)
 have h':=h.wM m.sa h1 hx (fun y hy=>hc x y hx hy)
 have sz:n < (out.push x).size:=by rw [Array.size_push];omega
 refine bQ (fun e=>wpS_pure ⟨hS,.inl ⟨_,rfl,m.noA h' (jf e)⟩⟩) fun e=>?_
 have e:=dW e
 exact bQ (fun _=>wpS_pure ⟨hS,.inr ⟨rfl,h',by show 0 < na - 1;omega,h2,Nat.le_of_lt sz⟩⟩) fun _=>wpS_pure ⟨hS,rfl,h',by show 0 < na - 1;omega,h2,sz⟩
theorem zp (m:Ke prog w A s κ rk a₀ a b) {out:Array Keyed} {na nb mg ac bc n:Nat} {st0 st:SortSt} (hk:kindOf st=κ) (hS:cG st0 st) (h:Mh rk a b out na nb) (h1:0 < na) (h2:1 < nb) (hn:n<=out.size) (hc:∀ y x,b[nb - 1]?=some y->x∈a.toList.take na->rk x<=rk y) :
  wpS (model prog w) A E s (Gf a b out na nb mg ac bc) (HiQ rk a b κ st0 n) st:=by
 unfold Gf
 have ha:=h.ha
 have hb:=h.hb
 obtain ⟨y,hy⟩:=cV (xs:=b) (i:=nb - 1) (by omega)
 refine wpS_bind (bM hy ?_)
 have h':=h.Dz m.sb (by omega) hy (fun x hx=>hc y x hy hx)
 have sz:n < (out.push y).size:=by rw [Array.size_push];omega
 refine bQ (fun e=>wpS_pure ⟨hS,.inl ⟨_,rfl,m.abh h' (jf e)⟩⟩) fun e=>?_
 have e:=dW e
 obtain ⟨x,hx⟩:=cV (xs:=a) (i:=na - 1) (by omega)
 refine wpS_bind (bM hx ?_)
 refine wpS_bind (iC m.h0 hk (m.ma x (lF hx)) m.mb (by omega) (by omega) (Kc m.sb _ _ (by omega)) fun k k1 k2 k3=>?_)
 have chunk:∀ z∈(b.toList.take (nb - 1)).drop k,∀ v∈a.toList.take na,rk v<=rk z:=fun z hz v hv=>by
  obtain ⟨j,j1,j2,ej⟩:=Ge hz
  have:=k3 j j1 j2
  unfold bp at this
  rw [Nat.zero_add,fV ej] at this
  have q:rk x<=rk z:=by simpa using this
  exact Int.le_trans (uL h1 m.sa hx hv) q
 have rest:∀ v,v∈b.toList.take k->rk v<=rk x:=fun v hv=>by
  obtain ⟨j,hj,ej⟩:=RB hv
  have:=k2 j hj
  unfold bp at this
  rw [Nat.zero_add,fV ej] at this
  have q:rk v < rk x:=by simpa using this
  exact Int.le_of_lt q
 dsimp only
 refine bQ (fun kp=>?_) fun kp=>?_
 ·have h'':=h'.Gb m.sb (k:=k) (by omega) chunk
  have sz':n<=(out.push y++(b.extract k (nb - 1)).reverse).size:=by rw [Array.size_append];omega
  refine bQ (fun e2=>wpS_pure ⟨hS,.inl ⟨_,rfl,m.abh h'' (jf e2)⟩⟩) fun e2=>?_
  have e2:=dW e2
  refine bQ (fun e3=>wpS_pure ⟨hS,.inl ⟨_,rfl,h''.done m.sa m.sb fun x _ y hy=>?_⟩⟩) fun e3=>?_
  ·rw [jf e3] at hy;simp at hy
  ·have e3:=dW e3
   exact DK m hS h'' h1 (by omega) sz' fun x' v hx' hv=>by rw [hx] at hx';cases hx';exact rest v hv
 ·obtain rfl:k=nb - 1:=by omega
  exact DK m hS h' h1 (by omega) (Nat.le_of_lt sz) fun x' v hx' hv=>by rw [hx] at hx';cases hx';exact rest v hv
theorem zq (m:Ke prog w A s κ rk a₀ a b) {out:Array Keyed} {na nb n:Nat} {st0 st:SortSt} (hk:kindOf st=κ) (hS:cG st0 st) (h:Mh rk a b out na nb) (h1:0 < na) (h2:1 < nb) (hn:n<=out.size)
  {f:Option Nat->StateT SortSt Sem (ForInStep HiS)} {mg bc:Nat} (hf:∀ k,f (some k)=if na - k > 0 then
    if (k == 0)=true then pure (.done (some (a.extract 0 k++b.extract 0 nb++(out++(a.extract k na).reverse).reverse),k,nb,out++(a.extract k na).reverse,mg,na - k,bc))
    else Gf a b (out++(a.extract k na).reverse) k nb mg (na - k) bc
   else Gf a b out na nb mg (na - k) bc) :
  wpS (model prog w) A E s (do let y <- elem' b (nb - 1);let r <- fJ false y a 0 na (na - 1);f r) (HiQ rk a b κ st0 n) st:=by
 have ha:=h.ha
 have hb:=h.hb
 obtain ⟨y,hy⟩:=cV (xs:=b) (i:=nb - 1) (by omega)
 refine wpS_bind (bM hy ?_)
 refine wpS_bind (iC m.h0 hk (m.mb y (lF hy)) m.ma (by omega) (by omega) (Kc m.sa _ _ (by omega)) fun k k1 k2 k3=>?_)
 rw [hf]
 have chunk:∀ z∈(a.toList.take na).drop k,∀ v∈b.toList.take nb,rk v<=rk z:=fun z hz v hv=>by
  obtain ⟨j,j1,j2,ej⟩:=Ge hz
  have:=k3 j j1 j2
  unfold bp at this
  rw [Nat.zero_add,fV ej] at this
  have q:rk y < rk z:=by simpa using this
  exact Int.le_trans (uL (by omega) m.sb hy hv) (Int.le_of_lt q)
 have rest:∀ v,v∈a.toList.take k->rk v<=rk y:=fun v hv=>by
  obtain ⟨j,hj,ej⟩:=RB hv
  have:=k2 j hj
  unfold bp at this
  rw [Nat.zero_add,fV ej] at this
  simpa using this
 refine bQ (fun kp=>?_) fun kp=>?_
 ·have h':=h.pQ m.sa (k:=k) (by omega) chunk
  have sz':n<=(out++(a.extract k na).reverse).size:=by rw [Array.size_append];omega
  refine bQ (fun e=>wpS_pure ⟨hS,.inl ⟨_,rfl,m.noA h' (jf e)⟩⟩) fun e=>?_
  have e:=dW e
  exact zp m hk hS h' (by omega) h2 sz' fun y' x hy' hx=>by rw [hy] at hy';cases hy';exact rest x hx
 ·obtain rfl:k=na:=by omega
  exact zp m hk hS h h1 h2 hn fun y' x hy' hx=>by rw [hy] at hy';cases hy';exact rest x hx
theorem Kh (m:Ke prog w A s κ rk a₀ a b) {st:SortSt} (hk:kindOf st=κ) {Q:Array Keyed->SortSt->Prop} (h:∀ mm st',cG st st'->Ay rk a b mm->Q mm st') :
  wpS (model prog w) A E s (zm a b) Q st:=by
 rw [Kg]
 dsimp only
 have la:=m.la
 have lb:=m.lb
 refine wpS_bind (wpS_lift (wpAny_rule ⟨rfl,?_⟩))
 obtain ⟨x0,hx0⟩:=cV (xs:=a) (i:=a.size - 1) (by omega)
 refine wpS_bind (bM hx0 ?_)
 have M0:Mh rk a b #[x0] (a.size - 1) b.size:=Mh.nil.wM m.sa la hx0 fun v hv=>by
  have:=m.last v (List.mem_of_mem_take hv)
  rwa [fV hx0] at this
 refine bQ (fun e=>wpS_pure (h _ _ (.refl _) (m.noA M0 (jf e)))) fun e1=>?_
 have e1:=dW e1
 refine bQ (fun e=>wpS_pure (h _ _ (.refl _) (m.abh M0 (jf e)))) fun e2=>?_
 have e2:=dW e2
 refine wpS_bind (wpS_get ?_)
 refine wpS_bind (wpS_mono (wpS_forRange (I:=fun x c st'=>cG st st'/\∃ na nb out mg,c=(none,na,nb,out,mg)/\Mh rk a b out na nb/\0 < na/\1 < nb/\x + 1<=out.size)
  (Q:=fun c st'=>cG st st'/\∃ mm rest,c=(some mm,rest)/\Ay rk a b mm) ?step ?fu ⟨.refl _,_,_,#[x0],_,rfl,M0,by omega,by omega,by simp⟩) ?post)
 case post =>
  rintro c st' ⟨hS,mm,rest,rfl,hr⟩
  exact wpS_pure (h mm st' hS hr)
 case fu =>
  rintro c st' ⟨hS,na,nb,out,mg,rfl,hM,h1,h2,h3⟩
  have:=hM.sz
  omega
 case step =>
  rintro x c st' _ hx ⟨hS,na,nb,out,mg,rfl,hM,h1,h2,h3⟩
  dsimp only
  refine wpS_bind (wpS_mono (wpS_forRange (I:=fun y c st''=>cG st st''/\∃ na nb out ac bc,c=(none,na,nb,out,ac,bc)/\Mh rk a b out na nb/\0 < na/\1 < nb/\x + 1 + y<=out.size)
   (Q:=fun c st''=>cG st st''/\((∃ mm rest,c=(some mm,rest)/\Ay rk a b mm)∨∃ na nb out ac bc,c=(none,na,nb,out,ac,bc)/\Mh rk a b out na nb/\0 < na/\1 < nb/\x + 2<=out.size)) ?istep ?ifin ⟨hS,na,nb,out,0,0,rfl,hM,h1,h2,by omega⟩) ?ipost)
  case ifin =>
   rintro c st'' ⟨hS,na,nb,out,ac,bc,rfl,hM,h1,h2,h3⟩
   have:=hM.sz
   omega
  case istep =>
   rintro y c st'' _ hy ⟨hS,na,nb,out,ac,bc,rfl,hM,h1,h2,h3⟩
   dsimp only
   have ha:=hM.ha
   have hb:=hM.hb
   obtain ⟨p,hp⟩:=cV (xs:=b) (i:=nb - 1) (by omega)
   obtain ⟨q,hq⟩:=cV (xs:=a) (i:=na - 1) (by omega)
   refine wpS_bind (bM hp (wpS_bind (bM hq (wpS_bind (yZ m.h0 (hS.2.1.trans hk) (m.mb p (lF hp)) (m.ma q (lF hq)) ?_)))))
   by_cases c:rk p < rk q
   ·simp only [c,decide_true,if_true]
    refine wpS_bind (bM hq ?_)
    have hM':=hM.wM m.sa h1 hq fun v hv=>Int.le_trans (uL (by omega) m.sb hp hv) (Int.le_of_lt c)
    refine bQ (fun e=>wpS_pure ⟨hS,.inl ⟨_,_,rfl,m.noA hM' (jf e)⟩⟩) fun e=>?_
    have e:=dW e
    exact bQ (fun _=>wpS_pure ⟨hS,.inr ⟨_,_,_,_,_,rfl,hM',by omega,h2,by rw [Array.size_push];omega⟩⟩) fun _=>wpS_pure ⟨hS,_,_,_,_,_,rfl,hM',by omega,h2,by rw [Array.size_push];omega⟩
   ·simp only [c,decide_false,Bool.false_eq_true,if_false]
    refine wpS_bind (bM hp ?_)
    have hM':=hM.Dz m.sb (by omega) hp fun v hv=>Int.le_trans (uL h1 m.sa hq hv) (Int.not_lt.mp c)
    refine bQ (fun e=>wpS_pure ⟨hS,.inl ⟨_,_,rfl,m.abh hM' (jf e)⟩⟩) fun e=>?_
    have e:=dW e
    exact bQ (fun _=>wpS_pure ⟨hS,.inr ⟨_,_,_,_,_,rfl,hM',h1,by omega,by rw [Array.size_push];omega⟩⟩) fun _=>wpS_pure ⟨hS,_,_,_,_,_,rfl,hM',h1,by omega,by rw [Array.size_push];omega⟩
  case ipost =>
   rintro c st'' ⟨hS,⟨mm,rest,rfl,hr⟩|⟨na,nb,out,ac,bc,rfl,hM,h1,h2,h3⟩⟩
   ·exact wpS_pure ⟨hS,mm,_,rfl,hr⟩
   ·dsimp only
    refine wpS_bind (wpS_lift (wpAny_rule ⟨rfl,?_⟩))
    refine wpS_bind (wpS_mono (wpS_forRange (I:=fun y c st3=>cG st st3/\∃ na nb out mg ac bc,c=(none,na,nb,out,mg,ac,bc)/\Mh rk a b out na nb/\0 < na/\1 < nb/\x + 2 + y<=out.size)
     (Q:=fun c st3=>cG st st3/\((∃ mm rest,c=(some mm,rest)/\Ay rk a b mm)∨∃ na nb out mg ac bc,c=(none,na,nb,out,mg,ac,bc)/\Mh rk a b out na nb/\0 < na/\1 < nb/\x + 2<=out.size)) ?Yb ?aeV ⟨hS,na,nb,out,_,ac,bc,rfl,hM,h1,h2,by omega⟩) ?Yc)
    case aeV =>
     rintro c st3 ⟨hS,na,nb,out,mg,ac,bc,rfl,hM,h1,h2,h3⟩
     have:=hM.sz
     omega
    case Yc =>
     rintro c st3 ⟨hS,⟨mm,rest,rfl,hr⟩|⟨na,nb,out,mg,ac,bc,rfl,hM,h1,h2,h3⟩⟩
     ·exact wpS_pure ⟨hS,mm,_,rfl,hr⟩
     ·dsimp only
      refine wpS_bind (lR fun Dp Aw=>?_)
      exact wpS_pure ⟨hS.trans Aw,_,_,_,_,rfl,hM,h1,h2,by omega⟩
    case Yb =>
     rintro y c st3 _ hy ⟨hS,na,nb,out,mg,ac,bc,rfl,hM,h1,h2,h3⟩
     have cD:∀ (c:HiS) (st':SortSt),HiQ rk a b κ st (x + 2 + y) (.done c) st'->cG st st'/\((∃ mm rest,c=(some mm,rest)/\Ay rk a b mm)∨∃ na nb out mg ac bc,c=(none,na,nb,out,mg,ac,bc)/\Mh rk a b out na nb/\0 < na/\1 < nb/\x + 2<=out.size):=by
      rintro ⟨c1,na,nb,out,mg,ac,bc⟩ st' ⟨hS,⟨mm,e,hr⟩|⟨e,hM,h1,h2,h3⟩⟩
      ·cases e;exact ⟨hS,.inl ⟨mm,_,rfl,hr⟩⟩
      ·cases e;dsimp only at h1 h2 h3;exact ⟨hS,.inr ⟨_,_,_,_,_,_,rfl,hM,h1,h2,by omega⟩⟩
     have cY:∀ (c:HiS) (st':SortSt),HiQ rk a b κ st (x + 2 + y) (.yield c) st'->cG st st'/\∃ na nb out mg ac bc,c=(none,na,nb,out,mg,ac,bc)/\Mh rk a b out na nb/\0 < na/\1 < nb/\x + 2 + (y + 1)<=out.size:=by
      rintro ⟨c1,na,nb,out,mg,ac,bc⟩ st' ⟨hS,e,hM,h1,h2,h3⟩
      cases e;dsimp only at h1 h2 h3;exact ⟨hS,_,_,_,_,_,_,rfl,hM,h1,h2,by omega⟩
     dsimp only
     refine bQ (fun _=>?_) (fun _=>?_)
     ·refine wpS_bind (lR fun Dp Aw=>?_)
      exact wpS_mono (zq m ((hS.trans Aw).2.1.trans hk) (hS.trans Aw) hM h1 h2 h3 (fun k=>rfl)) fun r st' hq=>match r,hq with|.done c,hq=>cD c st' hq|.yield c,hq=>cY c st' hq
     ·refine wpS_bind (lR fun Dp Aw=>?_)
      exact wpS_mono (zq m ((hS.trans Aw).2.1.trans hk) (hS.trans Aw) hM h1 h2 h3 (fun k=>rfl)) fun r st' hq=>match r,hq with|.done c,hq=>cD c st' hq|.yield c,hq=>cY c st' hq
end
end Sb
namespace Sb
open PySem PySem.W PyProof.Rows
theorem Kl (i:Nat):mergeAt' i=(do
 let s <- get
 let (some (sa,na,power),some (sb,nb,_)):=((pendingOf s)[i]?,(pendingOf s)[i + 1]?)|unsupported "internal:list.sort.pending"
 set (setPending s (((pendingOf s).setIfInBounds i (sa,na + nb,power)).eraseIdxIfInBounds (i + 1)))
 let some k <- fJ false (<- elem' (arrOf s) sb) (arrOf s) sa na 0|return false
 let (sa,na):=(sa + k,na - k)
 if na == 0 then return true
 let some nb <- fJ true (<- elem' (arrOf s) (sa + na - 1)) (arrOf s) sb nb (nb - 1)|return false
 if nb == 0 then return true
 let x:=(arrOf s).extract sa sb
 let y:=(arrOf s).extract sb (sb + nb)
 let merged <- if na<=nb then zc x y else zm x y
 modify fun s=>setArr s (merged.toList.zipIdx.foldl (fun a (p,j)=>a.setIfInBounds (sa + j) p) (arrOf s))
 return (failedOf (<- get)).isNone):=rfl
section
variable {prog:Program} {w:World} {A:Around} {E:Value->Shared->Prop} {s:Shared} {a₀:Array Keyed} {κ:SortKind} {rk:Keyed->Int}
theorem Km {base:Nat}:∀ (M:List Keyed) (n:Nat) (Pre Z T:List Keyed) (arr:Array Keyed),arr.toList=Pre++(Z++T)->base + n=Pre.length->M.length=Z.length ->
  ((M.zipIdx n).foldl (fun a (p:Keyed×Nat)=>a.setIfInBounds (base + p.2) p.1) arr).toList=Pre++(M++T)
 | [],n,Pre,Z,T,arr,h,_,hl=>by
  obtain rfl:Z=[]:=List.length_eq_zero_iff.mp hl.symm
  simpa using h
 | m::M,n,Pre,Z,T,arr,h,hb,hl=>by
  cases Z with
  | nil=>cases hl
  | cons z Z =>
   have e:(arr.setIfInBounds (base + n) m).toList=(Pre++[m])++(Z++T):=by
    rw [Array.toList_setIfInBounds,h,hb]
    simp [List.set_append]
   have:=Km (base:=base) M (n + 1) (Pre++[m]) Z T _ e (by simp;omega) (by simpa using hl)
   rw [List.zipIdx_cons,List.foldl_cons,this]
   simp
theorem Gg {xs:Array Keyed} {P L S:List Keyed} (h:xs.toList=P++(L++S)) {i:Nat} (hi:i < L.length):R rk xs (P.length + i)=rk L[i]:=by
 refine fV ?_
 rw [<- Array.getElem?_toList,h,List.getElem?_append_right (by omega),List.getElem?_append_left (by omega)]
 rw [show P.length + i - P.length=i by omega,List.getElem?_eq_getElem hi]
theorem Oz {xs:Array Keyed} {P L S:List Keyed} (h:xs.toList=P++(L++S)):Up rk xs P.length L.length↔tV rk L:=by
 constructor
 ·intro u
  refine List.pairwise_iff_getElem.mpr ?_
  intro i j hi hj hij
  have:=u i j (by omega) hj
  rwa [Gg h hi,Gg h hj] at this
 ·intro u i j hij hj
  rw [Gg h (by omega),Gg h hj]
  by_cases e:i=j
  ·subst e;exact Int.le_refl _
  ·exact List.pairwise_iff_getElem.mp u i j (by omega) hj (by omega)
theorem Ko {st:SortSt} {i sa na nb pw pw2:Nat} {Q:Bool->SortSt->Prop} (h0:Ax prog w A s κ rk a₀) (hp:(arrOf st).Perm a₀) (hk:kindOf st=κ) (hf:failedOf st=none)
  (hi:(pendingOf st)[i]?=some (sa,na,pw)) (hj:(pendingOf st)[i + 1]?=some (sa + na,nb,pw2)) (na1:1<=na) (nb1:1<=nb) (hz:sa + na + nb<=a₀.size) (ua:Up rk (arrOf st) sa na) (ub:Up rk (arrOf st) (sa + na) nb)
  (h:∀ st',(arrOf st').Perm a₀->kindOf st'=κ->failedOf st'=none->pendingOf st'=((pendingOf st).setIfInBounds i (sa,na + nb,pw)).eraseIdxIfInBounds (i + 1)->(∀ q,q < sa∨sa + na + nb<=q->(arrOf st')[q]?=(arrOf st)[q]?)->Up rk (arrOf st') sa (na + nb)->Q true st') :
  wpS (model prog w) A E s (mergeAt' i) Q st:=by
 rw [Kl]
 refine wpS_bind (wpS_get ?_)
 dsimp only
 rw [hi,hj]
 dsimp only
 have ajU:∀ (st1:SortSt) (Q':PUnit->SortSt->Prop),Q' ⟨⟩ st1->wpS (model prog w) A E s (set st1:StateT SortSt Sem PUnit) Q' st:=fun st1 Q' hq=>by
  unfold wpS
  rw [StateT.run_set]
  exact wpAny_pure ⟨rfl,hq⟩
 refine wpS_bind (ajU _ _ ?_)
 have sz:(arrOf st).size=a₀.size:=hp.size_eq
 have mem:∀ x∈(arrOf st).toList,x∈a₀.toList:=fun x hx=>(Array.perm_iff_toList_perm.mp hp).mem_iff.mp hx
 generalize abj:setPending st (((pendingOf st).setIfInBounds i (sa,na + nb,pw)).eraseIdxIfInBounds (i + 1))=st1
 have k1:kindOf st1=κ:=by rw [<- abj];exact hk
 have f1:failedOf st1=none:=by rw [<- abj];exact hf
 have a1:arrOf st1=arrOf st:=by rw [<- abj]
 have p1:pendingOf st1=((pendingOf st).setIfInBounds i (sa,na + nb,pw)).eraseIdxIfInBounds (i + 1):=by rw [<- abj]
 obtain ⟨y,hy⟩:=cV (xs:=arrOf st) (i:=sa + na) (by omega)
 obtain ⟨z,hz'⟩:=cV (xs:=arrOf st) (i:=sa + na - 1) (by omega)
 generalize arrOf st=xs at *
 refine wpS_bind (bM hy ?_)
 refine wpS_bind (iC h0 k1 (mem y (lF hy)) mem (by omega) (by omega) ua fun k kn kl kr=>?_)
 have kl':∀ q,q < k->R rk xs (sa + q)<=rk y:=fun q hq=>by
  have:=kl q hq;unfold bp at this;simpa using this
 have kr':∀ q,k<=q->q < na->rk y < R rk xs (sa + q):=fun q h1 h2=>by
  have:=kr q h1 h2;unfold bp at this;simpa using this
 have ub0:∀ q,q < nb->rk y<=R rk xs (sa + na + q):=fun q hq=>by
  have:=ub 0 q (by omega) hq
  rwa [Nat.add_zero,fV hy] at this
 have whole:(∀ q,q < na->∀ q',q' < nb->R rk xs (sa + q)<=R rk xs (sa + na + q'))->Up rk xs sa (na + nb):=fun hq i j hij hj=>by
  by_cases c:j < na
  ·exact ua i j hij c
  ·by_cases d:i < na
   ·have:=hq i d (j - na) (by omega)
    rwa [show sa + na + (j - na)=sa + j by omega] at this
   ·have:=ub (i - na) (j - na) (by omega) (by omega)
    rwa [show sa + na + (j - na)=sa + j by omega,show sa + na + (i - na)=sa + i by omega] at this
 dsimp only
 refine bQ (fun e=>wpS_pure ?_) fun e=>?_
 ·have e:=jf e
  refine h st1 (by rw [a1];exact hp) k1 f1 p1 (fun _ _=>by rw [a1]) ?_
  rw [a1]
  exact whole fun q hq q' hq'=>Int.le_trans (kl' q (by omega)) (ub0 q' hq')
 have e:=dW e
 rw [show sa + k + (na - k) - 1=sa + na - 1 by omega]
 refine wpS_bind (bM hz' ?_)
 refine wpS_bind (iC h0 k1 (mem z (lF hz')) mem (by omega) (by omega) ub fun n nn nl nr=>?_)
 have nl':∀ q,q < n->R rk xs (sa + na + q) < rk z:=fun q hq=>by
  have:=nl q hq;unfold bp at this;simpa using this
 have nr':∀ q,n<=q->q < nb->rk z<=R rk xs (sa + na + q):=fun q h1 h2=>by
  have:=nr q h1 h2;unfold bp at this;simpa using this
 have uaz:∀ q,q < na->R rk xs (sa + q)<=rk z:=fun q hq=>by
  have:=ua q (na - 1) (by omega) (by omega)
  rwa [show sa + (na - 1)=sa + na - 1 by omega,fV hz'] at this
 refine bQ (fun e2=>wpS_pure ?_) fun e2=>?_
 ·have e2:=jf e2
  refine h st1 (by rw [a1];exact hp) k1 f1 p1 (fun _ _=>by rw [a1]) ?_
  rw [a1]
  exact whole fun q hq q' hq'=>Int.le_trans (uaz q hq) (nr' q' (by omega) hq')
 have e2:=dW e2
 have hxl:xs.toList.length=a₀.size:=by rw [Array.length_toList];exact sz
 obtain ⟨P,hP⟩:∃ P,P=xs.toList.take sa:=⟨_,rfl⟩
 obtain ⟨A1,hA1⟩:∃ P,P=(xs.toList.drop sa).take k:=⟨_,rfl⟩
 obtain ⟨X,hX⟩:∃ P,P=(xs.toList.drop (sa + k)).take (na - k):=⟨_,rfl⟩
 obtain ⟨Y,hY⟩:∃ P,P=(xs.toList.drop (sa + na)).take n:=⟨_,rfl⟩
 obtain ⟨B2,hB2⟩:∃ P,P=(xs.toList.drop (sa + na + n)).take (nb - n):=⟨_,rfl⟩
 obtain ⟨S,hS⟩:∃ P,P=xs.toList.drop (sa + na + nb):=⟨_,rfl⟩
 have lP:P.length=sa:=by rw [hP,List.length_take];omega
 have lA:A1.length=k:=by rw [hA1,List.length_take,List.length_drop];omega
 have lX:X.length=na - k:=by rw [hX,List.length_take,List.length_drop];omega
 have lY:Y.length=n:=by rw [hY,List.length_take,List.length_drop];omega
 have lB:B2.length=nb - n:=by rw [hB2,List.length_take,List.length_drop];omega
 have hl:xs.toList=P++(A1++(X++(Y++(B2++S)))):=by
  rw [hP,hA1,hX,hY,hB2,hS]
  have s5:=jT xs.toList (sa + na + n) (nb - n)
  rw [show sa + na + n + (nb - n)=sa + na + nb by omega] at s5
  rw [<- s5,<- jT xs.toList (sa + na) n]
  have s3:=jT xs.toList (sa + k) (na - k)
  rw [show sa + k + (na - k)=sa + na by omega] at s3
  rw [<- s3,<- jT xs.toList sa k,List.take_append_drop]
 have eX:(xs.extract (sa + k) (sa + na)).toList=X:=by rw [mJ,hX];congr 1;omega
 have eY:(xs.extract (sa + na) (sa + na + n)).toList=Y:=by rw [mJ,hY];congr 1;omega
 have aA:tV rk (A1++X):=by
  have:xs.toList=P++((A1++X)++(Y++(B2++S))):=by rw [hl];simp
  refine (Oz this).mp ?_
  rw [lP,List.length_append,lA,lX,show k + (na - k)=na by omega]
  exact ua
 have aB:tV rk (Y++B2):=by
  have:xs.toList=(P++(A1++X))++((Y++B2)++S):=by rw [hl];simp
  have u:=Oz (rk:=rk) this
  rw [List.length_append,List.length_append,lP,lA,lX,List.length_append,lY,lB,show sa + (k + (na - k))=sa + na by omega,show n + (nb - n)=nb by omega] at u
  exact u.mp ub
 obtain ⟨sA,sX,sAX⟩:=List.pairwise_append.mp aA
 obtain ⟨sY,sB,sYB⟩:=List.pairwise_append.mp aB
 have ahD:∀ v∈A1,rk v<=rk y:=fun v hv=>by
  rw [hA1] at hv
  obtain ⟨j,hj,ej⟩:=jE hv
  have:=kl' j hj
  rwa [fV ej] at this
 have ajW:∀ v∈X,rk v<=rk z:=fun v hv=>by
  rw [hX] at hv
  obtain ⟨j,hj,ej⟩:=jE hv
  have:=uaz (k + j) (by omega)
  rwa [<- Nat.add_assoc,fV ej] at this
 have abk:∀ v∈Y,rk y<=rk v/\rk v < rk z:=fun v hv=>by
  rw [hY] at hv
  obtain ⟨j,hj,ej⟩:=jE hv
  have q1:=ub0 j (by omega)
  have q2:=nl' j hj
  rw [fV ej] at q1 q2
  exact ⟨q1,q2⟩
 have aeW:∀ v∈B2,rk z<=rk v:=fun v hv=>by
  rw [hB2] at hv
  obtain ⟨j,hj,ej⟩:=jE hv
  have:=nr' (n + j) (by omega) (by omega)
  rwa [<- Nat.add_assoc,fV ej] at this
 have gX:∀ q,q < na - k->(xs.extract (sa + k) (sa + na))[q]?=xs[sa + k + q]?:=fun q hq=>by
  rw [Array.getElem?_extract,if_pos (by omega)]
 have gY:∀ q,q < n->(xs.extract (sa + na) (sa + na + n))[q]?=xs[sa + na + q]?:=fun q hq=>by
  rw [Array.getElem?_extract,if_pos (by omega)]
 have szX:(xs.extract (sa + k) (sa + na)).size=na - k:=by rw [Array.size_extract];omega
 have szY:(xs.extract (sa + na) (sa + na + n)).size=n:=by rw [Array.size_extract];omega
 have m:Ke prog w A s κ rk a₀ (xs.extract (sa + k) (sa + na)) (xs.extract (sa + na) (sa + na + n)):=by
  refine ⟨h0,by rw [eX];exact sX,by rw [eY];exact sY,fun v hv=>mem v ?_,fun v hv=>mem v ?_,by omega,by omega,?_,fun v hv=>?_⟩
  ·rw [eX] at hv;rw [hl];simp [hv]
  ·rw [eY] at hv;rw [hl];simp [hv]
  ·rw [iM (gX 0 (by omega)),iM (gY 0 (by omega)),Nat.add_zero,Nat.add_zero,fV hy]
   exact kr' k (Nat.le_refl _) (by omega)
  ·rw [szX,iM (gX (na - k - 1) (by omega)),show sa + k + (na - k - 1)=sa + na - 1 by omega,fV hz']
   rw [eY] at hv
   exact Int.le_of_lt (abk v hv).2
 have fu:∀ (mm:Array Keyed) (st2:SortSt),cG st1 st2->Ay rk (xs.extract (sa + k) (sa + na)) (xs.extract (sa + na) (sa + na + n)) mm->wpS (model prog w) A E s (do
   modify fun s=>setArr s (mm.toList.zipIdx.foldl (fun a (p,j)=>a.setIfInBounds (sa + k + j) p) (arrOf s))
   let s <- get
   pure (failedOf s).isNone) Q st2:=fun mm st2 hS2 ⟨hr,hu⟩=>by
  rw [eX,eY] at hr
  have lm:mm.toList.length=(X++Y).length:=hr.length_eq
  have put:=Km (base:=sa + k) mm.toList 0 (P++A1) (X++Y) (B2++S) xs (by rw [hl];simp) (by rw [List.length_append,lP,lA];omega) lm
  refine wpS_bind (wpS_modify (wpS_bind (wpS_get ?_)))
  have e3:arrOf st2=xs:=hS2.1.trans a1
  have key:∀ ys:Array Keyed,ys.toList=P++(A1++(mm.toList++(B2++S)))->∀ st',arrOf st'=ys->kindOf st'=κ->failedOf st'=none->pendingOf st'=pendingOf st1->Q true st':=by
   intro ys hys st' e4 e5 e6 e7
   refine h st' ?_ e5 e6 (e7.trans p1) ?_ ?_
   ·rw [e4]
    refine Array.Perm.trans (Array.perm_iff_toList_perm.mpr ?_) hp
    rw [hys,hl]
    refine List.Perm.append_left _ (List.Perm.append_left _ ?_)
    rw [<- List.append_assoc X Y]
    exact List.Perm.append_right _ hr
   ·intro q hq
    rw [e4,<- Array.getElem?_toList,<- Array.getElem?_toList,hys,hl]
    rw [List.length_append,lX,lY] at lm
    rcases hq with hq|hq
    ·rw [List.getElem?_append_left (by omega),List.getElem?_append_left (by omega)]
    ·have e8:P++(A1++(mm.toList++(B2++S)))=(P++(A1++(mm.toList++B2)))++S:=by simp
     have e9:P++(A1++(X++(Y++(B2++S))))=(P++(A1++(X++(Y++B2))))++S:=by simp
     have l1:(P++(A1++(mm.toList++B2))).length=sa + na + nb:=by simp only [List.length_append];omega
     have l2:(P++(A1++(X++(Y++B2)))).length=sa + na + nb:=by simp only [List.length_append];omega
     rw [e8,e9,List.getElem?_append_right (by omega),List.getElem?_append_right (by omega),l1,l2]
   ·rw [e4]
    have e8:ys.toList=P++((A1++(mm.toList++B2))++S):=by rw [hys];simp
    have u:=Oz (rk:=rk) e8
    have l1:(A1++(mm.toList++B2)).length=na + nb:=by simp only [List.length_append] at lm ⊢;omega
    rw [lP,l1] at u
    refine u.mpr (List.pairwise_append.mpr ⟨sA,List.pairwise_append.mpr ⟨hu,sB,fun v hv t ht=>?_⟩,fun v hv t ht=>?_⟩)
    ·rcases List.mem_append.mp (hr.mem_iff.mp hv) with hv|hv
     ·exact Int.le_trans (ajW v hv) (aeW t ht)
     ·exact Int.le_trans (Int.le_of_lt (abk v hv).2) (aeW t ht)
    ·rcases List.mem_append.mp ht with ht|ht
     ·rcases List.mem_append.mp (hr.mem_iff.mp ht) with ht|ht
      ·exact sAX v hv t ht
      ·exact Int.le_trans (ahD v hv) (abk t ht).1
     ·have q1:=ahD v hv
      have q2:=(abk y (by
       have:=List.getElem?_eq_some_iff.mp (show Y[0]?=some y by rw [hY,List.getElem?_take_of_lt (by omega),List.getElem?_drop,Nat.add_zero];simpa using hy)
       obtain ⟨q,rfl⟩:=this
       exact List.getElem_mem q)).2
      have q3:=aeW t ht
      omega
  rw [<- e3] at put
  have:=key _ (by rw [put];simp) (setArr st2 (mm.toList.zipIdx.foldl (fun a (p,j)=>a.setIfInBounds (sa + k + j) p) (arrOf st2))) rfl (hS2.2.1.trans k1) (hS2.2.2.2.trans f1) hS2.2.2.1
  have e10:(failedOf (setArr st2 (mm.toList.zipIdx.foldl (fun a (p,j)=>a.setIfInBounds (sa + k + j) p) (arrOf st2)))).isNone=true:=by
   show (failedOf st2).isNone=true
   rw [hS2.2.2.2.trans f1];rfl
  rw [e10]
  exact wpS_pure this
 exact bQ (fun _=>wpS_bind (Kf m k1 fu)) fun _=>wpS_bind (Kh m k1 fu)
end
end Sb
namespace Sb
open PySem PySem.W PyProof.Rows
def Rn (rk:Keyed->Int) (xs:Array Keyed):Nat->List (Nat×Nat×Nat)->Nat->Prop
 | a,[],e=>a=e
 | a,t::l,e=>t.1=a/\1<=t.2.1/\Up rk xs a t.2.1/\Rn rk xs (a + t.2.1) l e
section
variable {rk:Keyed->Int} {xs ys:Array Keyed}
theorem Rn.le:∀ {l:List (Nat×Nat×Nat)} {a e:Nat},Rn rk xs a l e->a + l.length<=e
 | [],a,e,h=>by simp only [Rn] at h;simp;omega
 | t::l,a,e,h=>by
  obtain ⟨h1,h2,h3,h4⟩:=h
  have:=Rn.le h4
  simp only [List.length_cons];omega
theorem Rn.app:∀ {l l':List (Nat×Nat×Nat)} {a e:Nat},Rn rk xs a (l++l') e↔∃ m,Rn rk xs a l m/\Rn rk xs m l' e
 | [],l',a,e=>by
  constructor
  ·intro h;exact ⟨a,rfl,h⟩
  ·rintro ⟨m,rfl,h⟩;exact h
 | t::l,l',a,e=>by
  constructor
  ·rintro ⟨h1,h2,h3,h4⟩
   obtain ⟨m,g1,g2⟩:=Rn.app.mp h4
   exact ⟨m,⟨h1,h2,h3,g1⟩,g2⟩
  ·rintro ⟨m,⟨h1,h2,h3,h4⟩,g⟩
   exact ⟨h1,h2,h3,Rn.app.mpr ⟨m,h4,g⟩⟩
theorem Up.congr {a n:Nat} (h:Up rk xs a n) (hc:∀ q,a<=q->q < a + n->ys[q]?=xs[q]?):Up rk ys a n:=fun i j hij hj=>by
 rw [iM (hc (a + i) (by omega) (by omega)),iM (hc (a + j) (by omega) (by omega))]
 exact h i j hij hj
theorem Rn.congr:∀ {l:List (Nat×Nat×Nat)} {a e:Nat},Rn rk xs a l e->(∀ q,a<=q->q < e->ys[q]?=xs[q]?)->Rn rk ys a l e
 | [],a,e,h,_=>h
 | t::l,a,e,⟨h1,h2,h3,h4⟩,hc=>by
  have:=h4.le
  exact ⟨h1,h2,h3.congr fun q q1 q2=>hc q q1 (by omega),h4.congr fun q q1 q2=>hc q (by omega) q2⟩
theorem Rn.pow:∀ {l l':List (Nat×Nat×Nat)} {a e:Nat},Rn rk xs a l e->l'.map (fun t=>(t.1,t.2.1))=l.map (fun t=>(t.1,t.2.1))->Rn rk xs a l' e
 | [],l',a,e,h,hm=>by
  obtain rfl:l'=[]:=by simpa using hm
  exact h
 | t::l,[],a,e,h,hm=>by cases hm
 | t::l,t'::l',a,e,⟨h1,h2,h3,h4⟩,hm=>by
  simp only [List.map_cons,List.cons.injEq,Prod.mk.injEq] at hm
  obtain ⟨⟨m1,m2⟩,m3⟩:=hm
  exact ⟨m1.trans h1,by rw [m2];exact h2,by rw [m2];exact h3,by rw [m2];exact h4.pow m3⟩
theorem zu (f:Nat×Nat×Nat->Nat×Nat×Nat) (hf:∀ t,((f t).1,(f t).2.1)=(t.1,t.2.1)):∀ (l:List (Nat×Nat×Nat)) (i:Nat),(l.modify i f).map (fun t=>(t.1,t.2.1))=l.map (fun t=>(t.1,t.2.1))
 | [],i=>by simp
 | t::l,0=>by simp only [List.modify_zero_cons,List.map_cons,hf]
 | t::l,i + 1=>by simp only [List.modify_succ_cons,List.map_cons,zu f hf l i]
theorem aeX {α:Type} (l:List α) (i:Nat) (h:i + 1 < l.length):l=l.take i++(l[i]::l[i + 1]::l.drop (i + 2)):=by
 conv=>lhs;rw [<- List.take_append_drop i l,List.drop_eq_getElem_cons (by omega),List.drop_eq_getElem_cons (by omega)]
theorem ajX {α:Type} (P:List α) (t u v:α) (S:List α) (i:Nat) (hP:P.length=i):((P++(t::u::S)).set i v).eraseIdx (i + 1)=P++(v::S):=by
 subst hP
 induction P with
 | nil=>rfl
 | cons p P ih =>
  simp only [List.cons_append,List.length_cons,List.set_cons_succ,List.eraseIdx_cons_succ,ih]
end
section
variable {prog:Program} {w:World} {A:Around} {E:Value->Shared->Prop} {s:Shared} {a₀:Array Keyed} {κ:SortKind} {rk:Keyed->Int}
structure Sr (κ:SortKind) (rk:Keyed->Int) (a₀:Array Keyed) (lo:Nat) (st:SortSt):Prop where
 perm:(arrOf st).Perm a₀
 kind:kindOf st=κ
 failed:failedOf st=none
 runs:Rn rk (arrOf st) 0 (pendingOf st).toList lo
theorem sH {st:SortSt} {i e:Nat} {Q:Bool->SortSt->Prop} (h0:Ax prog w A s κ rk a₀) (h:Sr κ rk a₀ e st) (he:e<=a₀.size) (hi:i + 1 < (pendingOf st).size)
  (hq:∀ st',Sr κ rk a₀ e st'->(pendingOf st').size + 1=(pendingOf st).size->(∀ q,e<=q->(arrOf st')[q]?=(arrOf st)[q]?)->Q true st'):wpS (model prog w) A E s (mergeAt' i) Q st:=by
 have hr:=h.runs
 have sp:=aeX (pendingOf st).toList i (by simpa using hi)
 generalize hpre:(pendingOf st).toList.take i=pre at sp
 generalize (pendingOf st).toList.drop (i + 2)=post at sp
 have lp:pre.length=i:=by rw [<- hpre,List.length_take];simp;omega
 rw [sp] at hr
 obtain ⟨m,r1,h1,h2,h3,h4,h5,h6,h7⟩:=Rn.app.mp hr
 simp only [Array.getElem_toList] at h1 h2 h3 h4 h5 h6 h7 sp
 have e1:(pendingOf st)[i]?=some (m,(pendingOf st)[i].2.1,(pendingOf st)[i].2.2):=by
  rw [getElem?_pos _ i (by omega)]
  exact congrArg some (Prod.ext h1 rfl)
 have e2:(pendingOf st)[i + 1]?=some (m + (pendingOf st)[i].2.1,(pendingOf st)[i + 1].2.1,(pendingOf st)[i + 1].2.2):=by
  rw [getElem?_pos _ (i + 1) (by omega)]
  exact congrArg some (Prod.ext h4 rfl)
 have l7:=h7.le
 refine Ko h0 h.perm h.kind h.failed e1 e2 h2 h5 (by omega) h3 h6 fun st' p1 p2 p3 p4 p5 p6=>?_
 have e3:(pendingOf st').toList=pre++((m,(pendingOf st)[i].2.1 + (pendingOf st)[i + 1].2.1,(pendingOf st)[i].2.2)::post):=by
  rw [p4,Array.toList_eraseIdxIfInBounds,Array.toList_setIfInBounds,sp]
  exact ajX _ _ _ _ _ _ lp
 refine hq st' ⟨p1,p2,p3,?_⟩ ?_ fun q hq=>p5 q (.inr (by omega))
 ·rw [e3]
  have l1:=r1.le
  refine Rn.app.mpr ⟨m,r1.congr fun q _ q2=>p5 q (.inl q2),rfl,by show 1<=_ + _;omega,p6,?_⟩
  show Rn rk (arrOf st') (m + (_ + _)) post e
  rw [<- Nat.add_assoc]
  exact h7.congr fun q q1 _=>p5 q (.inr q1)
 ·have q1:=congrArg List.length e3
  have q2:=congrArg List.length sp
  simp only [Array.length_toList,List.length_append,List.length_cons] at q1 q2
  omega
theorem Sr.push {st:SortSt} {lo n:Nat} (h:Sr κ rk a₀ lo st) (hn:1<=n) (hu:Up rk (arrOf st) lo n):Sr κ rk a₀ (lo + n) (setPending st ((pendingOf st).push (lo,n,0))):=by
 refine ⟨h.perm,h.kind,h.failed,?_⟩
 show Rn rk (arrOf st) 0 ((pendingOf st).push (lo,n,0)).toList (lo + n)
 rw [Array.toList_push]
 exact Rn.app.mpr ⟨lo,h.runs,rfl,hn,hu,rfl⟩
theorem Sr.ado {st:SortSt} {lo:Nat} (h:Sr κ rk a₀ lo st) (f:Nat×Nat×Nat->Nat×Nat×Nat) (hf:∀ t,((f t).1,(f t).2.1)=(t.1,t.2.1)) {i:Nat}:Sr κ rk a₀ lo (setPending st ((pendingOf st).modify i f)):=by
 refine ⟨h.perm,h.kind,h.failed,h.runs.pow ?_⟩
 show ((pendingOf st).modify _ _).toList.map _=_
 rw [Array.toList_modify]
 exact zu f hf _ _
theorem zx:∀ (f n r:Nat),1<=n + r->1<=minRun' f n r
 | 0,n,r,h=>h
 | f + 1,n,r,h=>by
  rw [minRun'_succ]
  split
  ·exact h
  ·exact zx f (n / 2) (max r (n % 2)) (by omega)
theorem Gh {st:SortSt} {Q:Unit->SortSt->Prop} (h0:Ax prog w A s κ rk a₀) (hp:arrOf st=a₀) (hk:kindOf st=κ) (hf:failedOf st=none) (hpd:pendingOf st=#[]) (h2:2<=a₀.size)
  (hq:∀ st',(arrOf st').Perm a₀->failedOf st'=none->Up rk (arrOf st') 0 a₀.size->Q () st'):wpS (model prog w) A E s sortRuns' Q st:=by
 rw [sortRuns'_eq]
 refine wpS_bind (wpS_get ?_)
 dsimp only
 rw [hp]
 have mr:1<=minRun' a₀.size a₀.size 0:=zx _ _ _ (by omega)
 refine wpS_bind (wpS_mono (wpS_forRange (I:=fun x c st'=>∃ lo,c=(none,lo)/\x<=lo/\lo<=a₀.size/\Sr κ rk a₀ lo st')
  (Q:=fun c st'=>c=(none,a₀.size)/\Sr κ rk a₀ a₀.size st') ?step ?fu ⟨0,rfl,Nat.le_refl _,by omega,by rw [hp],hk,hf,by rw [hpd];rfl⟩) ?post)
 case fu =>
  rintro c st' ⟨lo,rfl,h1,h2,hS⟩
  obtain rfl:lo=a₀.size:=by omega
  exact ⟨rfl,hS⟩
 case post =>
  rintro c st' ⟨rfl,hS⟩
  dsimp only
  refine wpS_bind (wpS_mono (wpS_forRange (I:=fun x c st''=>c=(none,())/\Sr κ rk a₀ a₀.size st''/\((pendingOf st'').size<=1∨(pendingOf st'').size + x<=a₀.size))
   (Q:=fun c st''=>c=(none,())/\Sr κ rk a₀ a₀.size st''/\(pendingOf st'').size<=1) ?s2 ?f2 ⟨rfl,hS,.inr (by have:=hS.runs.le;simpa using this)⟩) ?p2)
  case f2 =>
   rintro c st'' ⟨rfl,hS,hl⟩
   exact ⟨rfl,hS,by omega⟩
  case s2 =>
   rintro x c st'' _ hx ⟨rfl,hS,hl⟩
   refine wpS_bind (wpS_get ?_)
   refine bQ (fun e=>wpS_pure ⟨rfl,hS,e⟩) fun e=>?_
   have ite_le:∀ (c:Prop) [Decidable c],(if c then (pendingOf st'').size - 2 - 1 else (pendingOf st'').size - 2) + 1 < (pendingOf st'').size:=fun c _=>by split <;> omega
   refine wpS_bind (sH h0 hS (Nat.le_refl _) ?_ fun st2 hS2 hz _=>?_)
   ·exact ite_le _
   ·simp only [Bool.not_true,Bool.false_eq_true,if_false]
    exact wpS_pure ⟨rfl,hS2,by omega⟩
  case p2 =>
   rintro c st'' ⟨rfl,hS,hl⟩
   dsimp only
   refine wpS_pure (hq st'' hS.perm hS.failed ?_)
   have hr:=hS.runs
   cases e:(pendingOf st'').toList with
   | nil=>rw [e] at hr;simp only [Rn] at hr;omega
   | cons t l =>
    have:l=[]:=by
     have:=congrArg List.length e
     simp only [Array.length_toList,List.length_cons] at this
     exact List.length_eq_zero_iff.mp (by omega)
    subst this
    rw [e] at hr
    obtain ⟨_,_,r3,r4⟩:=hr
    simp only [Rn] at r4
    rw [show t.2.1=a₀.size by omega] at r3
    exact r3
 case step =>
  rintro x c st' _ hx ⟨lo,rfl,h1,h3,hS⟩
  dsimp only
  refine bQ (fun e=>?_) fun e=>?_
  ·obtain rfl:lo=a₀.size:=by omega
   exact wpS_pure ⟨rfl,hS⟩
  ·have hB:SB κ a₀ (arrOf st') (pendingOf st') lo st':=⟨hS.perm,hS.kind,hS.failed,rfl,fun _ _=>rfl⟩
   have back:∀ st2,SB κ a₀ (arrOf st') (pendingOf st') lo st2->Sr κ rk a₀ lo st2:=fun st2 hB2=>⟨hB2.perm,hB2.kind,hB2.failed,by
    rw [hB2.pend]
    exact hS.runs.congr fun q _ q2=>hB2.keep q q2⟩
   refine wpS_bind (Uh h0 (show lo + (a₀.size - lo)<=a₀.size by omega) (by omega) hB fun m st2 hB2 m1 m2 um=>?_)
   dsimp only
   refine bQ (fun c=>?_) fun c=>?_
   ·refine wpS_bind (wpS_lift (wpAny_rule ⟨rfl,?_⟩))
    refine wpS_bind (abe h0 (show lo + min (a₀.size - lo) (minRun' a₀.size a₀.size 0)<=a₀.size by omega) (by omega) hB2 um fun st3 hB3 u3=>?_)
    simp only [Bool.not_true,Bool.false_eq_true,if_false]
    have hS0:=back st3 hB3
    have Kq:∀ Dp,Sr κ rk a₀ lo Dp->(∀ q,lo<=q->(arrOf Dp)[q]?=(arrOf st3)[q]?)->Sr κ rk a₀ (lo + min (a₀.size - lo) (minRun' a₀.size a₀.size 0)) (setPending Dp ((pendingOf Dp).push (lo,min (a₀.size - lo) (minRun' a₀.size a₀.size 0),0))):=fun Dp h4 hk4=>h4.push (by omega) (u3.congr fun q q1 _=>hk4 q q1)
    refine wpS_bind (wpS_get ?_)
    cases cc:(pendingOf st3).back? with
    | none =>
     dsimp only
     exact wpS_bind (wpS_modify (wpS_pure ⟨_,rfl,by omega,by omega,Kq _ hS0 fun _ _=>rfl⟩))
    | some t =>
     obtain ⟨s1,n1,p1⟩:=t
     dsimp only
     refine wpS_bind (wpS_mono (wpS_forRange (I:=fun _ c st'=>c=(none,())/\Sr κ rk a₀ lo st'/\∀ q,lo<=q->(arrOf st')[q]?=(arrOf st3)[q]?)
      (Q:=fun c st'=>c=(none,())/\Sr κ rk a₀ lo st'/\∀ q,lo<=q->(arrOf st')[q]?=(arrOf st3)[q]?) ?Ye (fun _ _ hh=>hh) ⟨rfl,hS0,fun _ _=>rfl⟩) ?Yg)
     case Yg =>
      rintro c st' ⟨rfl,hS,hk⟩
      dsimp only
      refine wpS_bind (wpS_modify (wpS_bind (wpS_modify (wpS_pure ⟨_,rfl,by omega,by omega,Kq _ (hS.ado _ ?_) hk⟩))))
      exact fun t=>rfl
     case Ye =>
      rintro x c st' _ hx ⟨rfl,hS,hk⟩
      refine wpS_bind (wpS_get ?_)
      by_cases c:(pendingOf st').size > 1
      ·rw [if_pos c,getElem?_pos (pendingOf st') ((pendingOf st').size - 2) (by omega)]
       dsimp only
       refine bQ (fun _=>wpS_pure ⟨rfl,hS,hk⟩) fun _=>?_
       refine wpS_bind (sH h0 hS (by omega) (by omega) fun st2 hS2 _ hk2=>?_)
       simp only [Bool.not_true,Bool.false_eq_true,if_false]
       exact wpS_pure ⟨rfl,hS2,fun q hq=>(hk2 q hq).trans (hk q hq)⟩
      ·rw [if_neg c]
       exact wpS_pure ⟨rfl,hS,hk⟩
   ·have hS0:=back st2 hB2
    have Kq:∀ Dp,Sr κ rk a₀ lo Dp->(∀ q,lo<=q->(arrOf Dp)[q]?=(arrOf st2)[q]?)->Sr κ rk a₀ (lo + m) (setPending Dp ((pendingOf Dp).push (lo,m,0))):=fun Dp h4 hk4=>h4.push (by omega) (um.congr fun q q1 _=>hk4 q q1)
    refine wpS_bind (wpS_get ?_)
    cases cc:(pendingOf st2).back? with
    | none =>
     dsimp only
     exact wpS_bind (wpS_modify (wpS_pure ⟨_,rfl,by omega,by omega,Kq _ hS0 fun _ _=>rfl⟩))
    | some t =>
     obtain ⟨s1,n1,p1⟩:=t
     dsimp only
     refine wpS_bind (wpS_mono (wpS_forRange (I:=fun _ c st'=>c=(none,())/\Sr κ rk a₀ lo st'/\∀ q,lo<=q->(arrOf st')[q]?=(arrOf st2)[q]?)
      (Q:=fun c st'=>c=(none,())/\Sr κ rk a₀ lo st'/\∀ q,lo<=q->(arrOf st')[q]?=(arrOf st2)[q]?) ?Ye (fun _ _ hh=>hh) ⟨rfl,hS0,fun _ _=>rfl⟩) ?Yg)
     case Yg =>
      rintro c st' ⟨rfl,hS,hk⟩
      dsimp only
      refine wpS_bind (wpS_modify (wpS_bind (wpS_modify (wpS_pure ⟨_,rfl,by omega,by omega,Kq _ (hS.ado _ ?_) hk⟩))))
      exact fun t=>rfl
     case Ye =>
      rintro x c st' _ hx ⟨rfl,hS,hk⟩
      refine wpS_bind (wpS_get ?_)
      by_cases c:(pendingOf st').size > 1
      ·rw [if_pos c,getElem?_pos (pendingOf st') ((pendingOf st').size - 2) (by omega)]
       dsimp only
       refine bQ (fun _=>wpS_pure ⟨rfl,hS,hk⟩) fun _=>?_
       refine wpS_bind (sH h0 hS (by omega) (by omega) fun st2 hS2 _ hk2=>?_)
       simp only [Bool.not_true,Bool.false_eq_true,if_false]
       exact wpS_pure ⟨rfl,hS2,fun q hq=>(hk2 q hq).trans (hk q hq)⟩
      ·rw [if_neg c]
       exact wpS_pure ⟨rfl,hS,hk⟩
end
end Sb
namespace Sb
open PySem PySem.W PyProof.Rows So
def rkI (lt:Nat->Nat->Bool) (n i:Nat):Int:=((List.range n).filter fun j=>lt j i).length
theorem Gi {α:Type} {p q:α->Bool}:∀ {l:List α},(∀ x∈l,p x=true->q x=true)->(l.filter p).length<=(l.filter q).length
 | [],_=>Nat.le_refl _
 | x::l,h=>by
  have ih:=Gi (l:=l) fun y hy=>h y (.tail _ hy)
  have hx:=h x (.head _)
  rw [List.filter_cons,List.filter_cons]
  cases c:p x with
  | false =>
   simp only [Bool.false_eq_true,if_false]
   split
   ·simp only [List.length_cons];omega
   ·exact ih
  | true =>
   rw [hx c]
   simp only [if_true,List.length_cons];omega
theorem Yh {α:Type} {p q:α->Bool}:∀ {l:List α} {z:α},(∀ x∈l,p x=true->q x=true)->z∈l->p z=false->q z=true->(l.filter p).length < (l.filter q).length
 | [],_,_,hz,_,_=>by cases hz
 | x::l,z,h,hz,pz,qz=>by
  have ih0:=Gi (l:=l) fun y hy=>h y (.tail _ hy)
  have hx:=h x (.head _)
  rw [List.filter_cons,List.filter_cons]
  rcases List.mem_cons.mp hz with rfl|hz
  ·rw [pz,qz]
   simp only [Bool.false_eq_true,if_false,if_true,List.length_cons];omega
  ·have ih:=Yh (l:=l) (fun y hy=>h y (.tail _ hy)) hz pz qz
   cases c:p x with
   | false =>
    simp only [Bool.false_eq_true,if_false]
    split
    ·simp only [List.length_cons];omega
    ·exact ih
   | true =>
    rw [hx c]
    simp only [if_true,List.length_cons];omega
theorem adq {lt:Nat->Nat->Bool} (O:Ord lt) {n i j:Nat} (hi:i < n):decide (rkI lt n i < rkI lt n j)=lt i j:=by
 unfold rkI
 cases c:lt i j with
 | true =>
  refine decide_eq_true (Int.ofNat_lt.mpr (Yh (z:=i) (fun k _ hk=>?_) (List.mem_range.mpr hi) (irr O i) c))
  cases d:lt k j with
  | true=>rfl
  | false =>
   have h1:lt i k=false:=O.as k i hk
   have h2:=O.tr j k i d h1
   rw [c] at h2;cases h2
 | false =>
  refine decide_eq_false fun q=>?_
  have q:=Int.ofNat_lt.mp q
  have:=Gi (p:=fun k=>lt k j) (q:=fun k=>lt k i) (l:=List.range n) fun k _ hk=>by
   cases d:lt k i with
   | true=>rfl
   | false =>
    have h2:=O.tr j i k c d
    rw [hk] at h2;cases h2
  omega
theorem Yi {α:Type} {d:α} {l1 l2:List α} (h:l1.Perm l2):∃ q:List Nat,q.Perm (List.range l2.length)/\l1=q.map fun i=>l2.getD i d:=by
 induction h with
 | nil=>exact ⟨[],.refl _,rfl⟩
 | cons x h ih =>
  obtain ⟨q,hq,e⟩:=ih
  refine ⟨0::q.map (· + 1),?_,?_⟩
  ·rw [List.length_cons,List.range_succ_eq_map]
   exact (hq.map _).cons 0
  ·rw [List.map_cons,List.map_map,e]
   simp [Function.comp_def]
 | swap x y l =>
  refine ⟨1::0::(List.range l.length).map (· + 2),?_,?_⟩
  ·rw [List.length_cons,List.length_cons,List.range_succ_eq_map,List.range_succ_eq_map,List.map_cons,List.map_map]
   exact List.Perm.swap 0 1 _
  ·rw [List.map_cons,List.map_cons,List.map_map]
   have:l=(List.range l.length).map fun i=>l.getD i d:=by
    apply List.ext_getElem
    ·simp
    ·intro i h1 h2;simp [h1]
   simp only [Function.comp_def]
   rw [List.getD_cons_succ,List.getD_cons_zero,List.getD_cons_zero]
   congr 2
 | trans h1 h2 ih1 ih2 =>
  obtain ⟨q1,p1,e1⟩:=ih1
  obtain ⟨q2,p2,e2⟩:=ih2
  have l2:=h2.length_eq
  have lq:=p2.length_eq
  rw [List.length_range] at lq
  refine ⟨q1.map fun i=>q2.getD i 0,?_,?_⟩
  ·refine (p1.map _).trans (List.Perm.trans (List.Perm.of_eq ?_) p2)
   apply List.ext_getElem
   ·simp;omega
   ·intro i h1 h2
    simp only [List.length_map,List.length_range] at h1
    simp only [List.getElem_map,List.getElem_range,List.getD_eq_getElem?_getD]
    rw [List.getElem?_eq_getElem h2];rfl
  ·rw [e1,List.map_map]
   refine List.map_congr_left fun i hi=>?_
   have hi':i < q2.length:=by
    have:=List.mem_range.mp (p1.mem_iff.mp hi)
    omega
   show List.getD _ i d=List.getD _ (List.getD q2 i 0) d
   rw [e2]
   simp only [List.getD_eq_getElem?_getD,List.getElem?_map,List.getElem?_eq_getElem hi',Option.map_some,Option.getD_some]
section
variable {prog:Program} {w:World} {A:Around} {E:Value->Shared->Prop} {s:Shared}
theorem Yj {lt:Nat->Nat->Bool} {κ:SortKind} {vs:List Value} {Q:SortSt->Shared->Prop} (O:Ord lt) (h2:2<=vs.length) (ha:ahz prog w A κ vs lt s)
  (hd:∀ i i',i < vs.length->i' < vs.length->vs.getD i Value.none=vs.getD i' Value.none->∀ j,lt j i=lt j i')
  (h:∀ st,Ot lt vs st->Q st s):wpAny (model prog w) A ((sortRuns').run (SortSt.mk' κ (vs.toArray.zip vs.toArray) #[] 7 none)) (fun r s'=>Q r.2 s') E s:=by
 classical
 let it:Nat->Keyed:=fun i=>(vs.getD i Value.none,vs.getD i Value.none)
 let rk:Keyed->Int:=fun x=>if h:∃ i,i < vs.length/\it i=x then rkI lt vs.length (Classical.choose h) else 0
 have rki:∀ i,i < vs.length->rk (it i)=rkI lt vs.length i:=fun i hi=>by
  have ex:∃ j,j < vs.length/\it j=it i:=⟨i,hi,rfl⟩
  show (if h:∃ j,j < vs.length/\it j=it i then rkI lt vs.length (Classical.choose h) else 0)=_
  rw [dif_pos ex]
  obtain ⟨c1,c2⟩:=Classical.choose_spec ex
  unfold rkI
  have:=hd _ i c1 hi (congrArg Prod.fst c2)
  rw [show (fun j=>lt j (Classical.choose ex))=fun j=>lt j i from funext this]
 have hz:(vs.toArray.zip vs.toArray).toList=(List.range vs.length).map it:=by
  apply List.ext_getElem
  ·simp
  ·intro i h1 h2
   simp at h1
   simp [it,h1]
 have hsz:(vs.toArray.zip vs.toArray).size=vs.length:=by simp
 have hA:Ax prog w A s κ rk (vs.toArray.zip vs.toArray):=by
  intro x y C E' hx hy hC
  rw [hz] at hx hy
  obtain ⟨i,hi,rfl⟩:=List.mem_map.mp hx
  obtain ⟨j,hj,rfl⟩:=List.mem_map.mp hy
  have hi:=List.mem_range.mp hi
  have hj:=List.mem_range.mp hj
  rw [rki i hi,rki j hj,adq O hi] at hC
  exact ha i j C E' hi hj hC
 have main:=Gh (prog:=prog) (w:=w) (A:=A) (E:=E) (s:=s) (st:=SortSt.mk' κ (vs.toArray.zip vs.toArray) #[] 7 none) (Q:=fun _ st=>Ot lt vs st) hA rfl rfl rfl rfl (by rw [hsz];exact h2) fun st p1 p2 p3=>?_
 ·exact wpAny_mono main (fun r s' ⟨e,hs⟩=>by subst e;exact h _ hs) fun _ _ e=>e
 ·obtain ⟨q,hq,e⟩:=Yi (d:=it 0) (Array.perm_iff_toList_perm.mp p1)
  have ln:(vs.toArray.zip vs.toArray).toList.length=vs.length:=by simp
  rw [ln] at hq
  have lq:=hq.length_eq
  rw [List.length_range] at lq
  have qlt:∀ i∈q,i < vs.length:=fun i hi=>List.mem_range.mp (hq.mem_iff.mp hi)
  have e':(arrOf st).toList=q.map it:=by
   rw [e]
   refine List.map_congr_left fun i hi=>?_
   rw [hz,List.getD_eq_getElem?_getD,List.getElem?_map,List.getElem?_range (qlt i hi)];rfl
  refine ⟨q.toArray,⟨by simp [lq],fun i=>?_,by simpa using hq⟩,fun i j hij hj=>?_,?_,p2⟩
  ·rw [Array.getD_eq_getD_getElem?]
   by_cases c:i < q.length
   ·have:q.toArray[i]?=some q[i]:=by simp [c]
    rw [this];exact qlt _ (List.getElem_mem c)
   ·have:q.toArray[i]?=none:=by simp;omega
    rw [this];show 0 < vs.length;omega
  ·have hi':i < q.length:=by omega
   have hj':j < q.length:=by omega
   have g:∀ k (hk:k < q.length),R rk (arrOf st) k=rkI lt vs.length q[k]:=fun k hk=>by
    rw [<- rki _ (qlt _ (List.getElem_mem hk))]
    refine fV ?_
    rw [<- Array.getElem?_toList,e',List.getElem?_map,List.getElem?_eq_getElem hk];rfl
   have u:=p3 i j (by omega) (by rw [hsz];exact hj)
   rw [Nat.zero_add,Nat.zero_add,g i hi',g j hj'] at u
   have e1:q.toArray.getD i 0=q[i]:=by simp [Array.getD_eq_getD_getElem?,hi']
   have e2:q.toArray.getD j 0=q[j]:=by simp [Array.getD_eq_getD_getElem?,hj']
   rw [e1,e2,<- adq O (qlt _ (List.getElem_mem hj'))]
   exact decide_eq_false (by omega)
  ·apply Array.toList_inj.mp
   rw [Array.toList_map,e',List.map_map]
   rfl
end
end Sb
namespace So
open PySem PySem.W PyProof.Rows PySem.Calls
section
variable {prog:Program} {w:World} {A:Around} {E:Value->Shared->Prop} {s:Shared}
theorem DN:∀ {ks js:List Int} {xs:List Value},ItemsAre (intKind prog w) ks xs->ItemsAre (intKind prog w) js xs->ks=js
 | _,_,_,.nil,.nil=>rfl
 | _,_,_,.cons h1 h2,.cons h3 h4=>by
  obtain ⟨t,e1⟩:=Value.isInt_shape h1
  obtain ⟨u,e2⟩:=Value.isInt_shape h3
  rw [e1] at e2
  cases e2
  rw [DN h2 h4]
theorem KeysAre.det {h:Heap} {vs:List Value} {aF:List (List Int)} (k:KeysAre prog w h vs aF):∀ i i',i < vs.length->i' < vs.length->vs.getD i Value.none=vs.getD i' Value.none->∀ j,xu (aF.getD j []) (aF.getD i [])=xu (aF.getD j []) (aF.getD i' []):=by
 intro i i' hi hi' he j
 obtain ⟨b,e1,o,its,n,q1,q2,q3,q4⟩:=k.2 i vs[i] (List.getElem?_eq_getElem hi)
 obtain ⟨b',e2,o',its',n',r1,r2,r3,r4⟩:=k.2 i' vs[i'] (List.getElem?_eq_getElem hi')
 rw [List.getD_eq_getElem?_getD,List.getD_eq_getElem?_getD,List.getElem?_eq_getElem hi,List.getElem?_eq_getElem hi',Option.getD_some,Option.getD_some,e1,e2] at he
 cases he
 rw [q1] at r1;cases r1
 rw [q3] at r3;cases r3
 rw [DN q4 r4]
theorem zy {a:Addr} {vs:List Value} {aF:List (List Int)} {n:Nat} {P:PySem.Fin->Shared->Prop} (ho:s.heap.get? a=some (seqObj "list" vs.toArray n))
  (hk:KeysAre prog w s.heap vs aF) (hne:∀ ks∈aF,ks≠[]) (h64:vs.length < 1000)
  (h:∀ (p:Array Nat),JV aF p->P (.done (.ret .none)) { s with heap:=sortedHeap s.heap a vs (List.toArray (p.toList.map fun i=>vs.getD i Value.none)) }) :
  wpAny (model prog w) A (Builtin.«list.sort» ⟨[.ref a],[]⟩) P E s:=by
 rw [list_sort_plain]
 have ha:a < s.heap.objs.size:=Heap.lt_size ho
 refine wpAny_bind (listItems_at ho rfl ?_)
 refine wpAny_bind (listUpdate_at ho rfl ?_ (by rw [List.size_toArray,sizeLine_eq];omega) (Nat.zero_le _))
 obtain ⟨e1,ho1⟩:∃ e1,(s.heap.update a (Obj.mapSeq fun _=>#[])).get? a=some (seqObj "list" #[] e1):=⟨_,get?_update_seq ho (fun _=>#[])⟩
 refine wpAny_bind (seqEpoch_at ho1 rfl ?_)
 refine wpAny_bind (wpAny_newTuple ?_ (by show vs.length<=_;rw [sizeLine_eq];omega))
 refine wpAny_bind (wpAny_newList ?_ (Nat.zero_le _))
 refine wpAny_holding ?_
 have ho6:(((s.heap.update a (Obj.mapSeq fun _=>#[])).push (seqObj "tuple" vs.toArray 0)).push (seqObj "list" #[] 0)).get? a=some (seqObj "list" #[] e1):=by
  rw [Heap.get?_push_ne _ _ _ (by rw [size_push',Heap.size_update];exact Nat.ne_of_lt (Nat.lt_succ_of_lt ha)),Heap.get?_push_ne _ _ _ (by rw [Heap.size_update];exact Nat.ne_of_lt ha)]
  exact ho1
 show wpAny (model prog w) A _ P E { s with heap:=((s.heap.update a (Obj.mapSeq fun _=>#[])).push (seqObj "tuple" vs.toArray 0)).push (seqObj "list" #[] 0) }
 dsimp only
 have hsz:vs.toArray.size=vs.length:=by simp
 have hk6:KeysAre prog w (((s.heap.update a (Obj.mapSeq fun _=>#[])).push (seqObj "tuple" vs.toArray 0)).push (seqObj "list" #[] 0)) vs aF:=hk.moved fun b o e c=>by
  refine Heap.get?_push_of_some _ (Heap.get?_push_of_some _ ?_)
  have:b≠a:=fun z=>by subst z;rw [ho] at e;cases e;exact absurd (Value.type.inj (show Value.type "list"=Value.type "tuple" from c)) (by decide)
  rw [Heap.get?_update_ne _ _ _ _ this];exact e
 by_cases h2:vs.toArray.size < 2
 ·rw [if_pos h2,if_pos h2]
  refine wpAny_bind (wpAny_pure ?_)
  rw [StateT.run_pure]
  refine wpAny_bind (wpAny_pure ?_)
  dsimp only
  refine wpAny_bind (seqEpoch_at ho6 rfl ?_)
  refine wpAny_bind (listUpdate_at ho6 rfl ?_ (hsz2:=by rw [Array.size_map];show (pairsOf vs).size<=_;rw [pairsOf_size,sizeLine_eq];omega))
  simp only [bne_self_eq_false,Bool.false_eq_true,if_false]
  have hz:aF.length < 2:=by rw [hk.1,<- hsz];exact h2
  have hq:=h (List.toArray (List.range aF.length)) (JW hz)
  have e:(arrOf (SortSt.mk' general' (vs.toArray.zip vs.toArray) #[] 7 none)).map (·.2)=List.toArray ((List.toArray (List.range aF.length)).toList.map fun i=>vs.getD i Value.none):=by
   rw [hk.1]
   show (vs.toArray.zip vs.toArray).map (·.2)=_
   apply Array.toList_inj.mp
   apply List.ext_getElem?
   intro i
   simp
   by_cases hi:i < vs.length <;> simp [hi]
  exact wpAny_pure (by rw [e];exact hq)
 ·rw [if_neg h2,if_neg h2]
  obtain ⟨fs,ht,hl,hfi⟩:=hk6.tups hne
  have h2':2<=vs.length:=by rw [<- hsz];omega
  refine wpAny_bind (kat_kind (T:=.type "int") ht (by omega) (fun v hv=>?_) rfl ?_)
  ·obtain ⟨i,t,rfl⟩:=hfi v hv
   exact Looks.now
  ·refine wpAny_bind (wpAny_mono (Sb.Yj (E:=E) (Q:=fun st' s'=>s'={ s with heap:=((s.heap.update a (Obj.mapSeq fun _=>#[])).push (seqObj "tuple" vs.toArray 0)).push (seqObj "list" #[] 0) }/\Ot (fun i j=>xu (aF.getD i []) (aF.getD j [])) vs st') (aeT aF) h2' hk6.asks hk6.det fun st' hs=>⟨rfl,hs⟩) ?_ fun _ _ e=>e)
   rintro ⟨⟨⟩,st'⟩ s' ⟨rfl,p,a1,a2,a3,hf⟩
   dsimp only at a3 hf ⊢
   refine wpAny_bind (seqEpoch_at ho6 rfl ?_)
   rw [a3]
   refine wpAny_bind (listUpdate_at ho6 rfl ?_ (hsz2:=by simp only [List.size_toArray,List.length_map,Array.length_toList,a1.sz];rw [sizeLine_eq];omega))
   rw [hf]
   simp only [bne_self_eq_false,Bool.false_eq_true,if_false]
   rw [<- hk.1] at a1 a2
   exact wpAny_pure (h p (XF a1 a2))
end
end So
namespace So
open PySem PySem.Spec PySem.W PyProof.Rows PySem.Calls PySem.SetTable Tb
section
variable {prog:Program} {w:World} {A:Around} {E:Value->Shared->Prop} {s:Shared} {U:Addr->List Int->Prop}
def yg (prog:Program) (w:World) (U:Addr->List Int->Prop) (o:Obj) (aF:List (List Int)):Prop :=
 ∃ (L:List gW) (ep:Nat) (t:SetTable) (f:Int×Value->List Int),o=bL L ep t/\Good t L/\L.length * 5 < t.mask * 3/\t.mask < 8000/\(t.plain=true/\t.led=!jj w)/\(∀ e∈L,∃ b,e.2.2=.ref b/\e.2.1=hK prog w (f e.2)/\U b (f e.2))/\(L.map fun e=>f e.2).Perm aF/\aF.Nodup
theorem aL.obj {h:Heap} {a:Addr} {aF:List (List Int)} (x:aL prog w U h a aF):∃ o,h.get? a=some o/\yg prog w U o aF:=by
 obtain ⟨L,ep,t,f,ho,g,room,mb,pl,hf,hp,nd,uu⟩:=x
 refine ⟨_,ho,L,ep,t,f,rfl,g,room,mb,pl,fun e he=>?_,hp,nd⟩
 obtain ⟨b,h1,h2,h3⟩:=hf e he
 exact ⟨b,h1,h3,uu e he b h1⟩
theorem yg.at {h:Heap} {a:Addr} {o:Obj} {aF:List (List Int)} (x:yg prog w U o aF) (ho:h.get? a=some o) (hU:∀ b ks,U b ks->IsTupleKey (intKind prog w) h ks b):aL prog w U h a aF:=by
 obtain ⟨L,ep,t,f,rfl,g,room,mb,pl,hf,hp,nd⟩:=x
 refine ⟨L,ep,t,f,ho,g,room,mb,pl,fun e he=>?_,hp,nd,fun e he b hb=>?_⟩
 ·obtain ⟨b,h1,h2,h3⟩:=hf e he
  exact ⟨b,h1,hU _ _ h3,h2⟩
 ·obtain ⟨b',h1,h2,h3⟩:=hf e he
  rw [hb] at h1;cases h1;exact h3
def Kr (U:Addr->List Int->Prop) (out:List Value) (aF:List (List Int)):Prop:=out.length=aF.length/\∀ (i:Nat) v,out[i]?=some v->∃ b,v=.ref b/\U b (aF.getD i [])
theorem Az {l l':List (List Int)} (p:l.Perm l'):bJ l=bJ l':=yX ((dg l).trans p) (uJ l)
theorem sI {vs:List Value} {aF gZ:List (List Int)} {p:Array Nat} (ho:Kr U vs gZ) (hp:JV gZ p) (pm:gZ.Perm aF):Kr U (p.toList.map fun i=>vs.getD i Value.none) (bJ aF):=by
 rw [<- Az pm,<- hp.2]
 refine ⟨by simp,fun i v hv=>?_⟩
 rw [List.getElem?_map] at hv
 cases e:p.toList[i]? with
 | none=>rw [e] at hv;cases hv
 | some j =>
  rw [e] at hv
  simp at hv
  have hj:j < gZ.length:=by
   have:j∈List.range gZ.length:=hp.1.mem_iff.mp (List.mem_of_getElem? e)
   simpa using this
  have hj':j < vs.length:=by rw [ho.1];exact hj
  obtain ⟨b,q1,q2⟩:=ho.2 j vs[j] (List.getElem?_eq_getElem hj')
  refine ⟨b,?_,?_⟩
  ·rw [<- hv];simp [hj',q1]
  ·have:((p.toList.map fun i=>gZ.getD i []).getD i [])=gZ.getD j []:=by
    rw [List.getD_eq_getElem?_getD,List.getElem?_map,e];rfl
   rw [this];exact q2
theorem vO {x:Value} {vs:List Value} {aF:List (List Int)} {Q:Value->Shared->Prop}
  (akc:∀ (Q':List Value->Shared->Prop) (E':Value->Shared->Prop),(∀ h' tk,(∀ b o,s.heap.get? b=some o->h'.get? b=some o)->s.heap.objs.size<=h'.objs.size->Q' vs { s with heap:=h',toks:=tk })->wpAny (model prog w) A.in1 (collect x) Q' E' s)
  (hk:KeysAre prog w s.heap vs aF) (hne:∀ ks∈aF,ks≠[]) (h64:vs.length < 1000)
  (h:∀ h' tk l n p,(∀ b o,s.heap.get? b=some o->h'.get? b=some o)->s.heap.objs.size<=l->JV aF p->h'.get? l=some (seqObj "list" (List.toArray (p.toList.map fun i=>vs.getD i Value.none)) n)->Q (.ref l) { s with heap:=h',toks:=tk }) :
  wpAny (model prog w) A (call (.builtin "sorted") [x]) Q E s:=by
 refine Calls.call_function_entry kind_sorted plain_sorted entry_sorted (args_sorted1 _) ?_
 unfold Builtin.«sorted»
 refine wpAny_bind (m:=checkCount "sorted" 1 1 _) (wpAny_pure ?_)
 refine wpAny_bind (akc _ _ fun h1 tk k1 z1=>?_)
 refine wpAny_bind (wpAny_newList ?_ (by rw [sizeLine_eq];omega))
 have hoL:(h1.push (seqObj "list" vs.toArray 0)).get? h1.objs.size=some (seqObj "list" vs.toArray 0):=Heap.get?_push_size _ rfl
 have k2:∀ b o,s.heap.get? b=some o->(h1.push (seqObj "list" vs.toArray 0)).get? b=some o:=fun b o e=>Heap.get?_push_of_some _ (k1 b o e)
 show wpAny _ _ _ _ _ { s with heap:=h1.push (seqObj "list" vs.toArray 0),toks:=tk }
 refine wpAny_bind (wpAny_holding (wpAny_call_entry slot_list_sort ⟨_,hoL,rfl⟩ entry_list_sort (zy hoL (hk.moved fun b o e _=>k2 b o e) hne h64 fun p hp=>⟨_,rfl,?_⟩) (args_list_sort _)))
 refine wpAny_pure ⟨_,rfl,?_⟩
 unfold sortedHeap
 have ne1:∀ b o,s.heap.get? b=some o->b≠h1.objs.size:=fun b o e=>Nat.ne_of_lt (Nat.lt_of_lt_of_le (Heap.lt_size e) z1)
 have g0:=Heap.get?_push_of_some (seqObj "list" #[] 0) (Heap.get?_push_of_some (seqObj "tuple" vs.toArray 0) (get?_update_seq hoL (fun _=>#[])))
 refine h _ _ _ _ p (fun b o e=>?_) z1 hp (get?_update_seq g0 (fun _=>List.toArray (p.toList.map fun i=>vs.getD i Value.none)))
 rw [Heap.get?_update_ne _ _ _ _ (ne1 b o e)]
 refine Heap.get?_push_of_some _ (Heap.get?_push_of_some _ ?_)
 rw [Heap.get?_update_ne _ _ _ _ (ne1 b o e)]
 exact k2 b o e
theorem OD {D:Addr} {aF:List (List Int)} {Q:Value->Shared->Prop} (hh:A.handled=none) (hS:aL prog w U s.heap D aF) (hne:∀ ks∈aF,ks≠[]) (h64:aF.length < 1000)
  (h:∀ h' tk l n (out:List Value),(∀ b o,s.heap.get? b=some o->h'.get? b=some o)->s.heap.objs.size<=l->Kr U out (bJ aF)->h'.get? l=some (seqObj "list" out.toArray n)->Q (.ref l) { s with heap:=h',toks:=tk }) :
  wpAny (model prog w) A (call (.builtin "sorted") [.ref D]) Q E s:=by
 obtain ⟨L,ep,t,f,ho,g,room,mb,pl,hf,hp,nd,uu⟩:=hS
 have hlen:L.length=aF.length:=by have:=hp.length_eq;simpa using this
 have h7:=g.m7
 have gs:Goes w L t:=⟨g.lies (by omega),by omega,pl.1,pl.2⟩
 have op:=rz w D ep L
 have osz:(cR w D ep L).toList.length=L.length:=by rw [Array.length_toList,fY]
 have kp:((cR w D ep L).toList.map f).Perm aF:=((op.map f).trans (List.Perm.of_eq (by rw [List.map_map];rfl))).trans hp
 have each:∀ x∈(cR w D ep L).toList,∃ b,x.2=.ref b/\IsTupleKey (intKind prog w) s.heap (f x) b/\U b (f x):=fun x hx=>by
  obtain ⟨e,he,rfl⟩:=List.mem_map.mp (op.mem_iff.mp hx)
  obtain ⟨b,h1,h2,h3⟩:=hf e he
  exact ⟨b,h1,h2,uu e he b h1⟩
 have at_:∀ (i:Nat) v,((cR w D ep L).toList.map (·.2))[i]?=some v->∃ x,x∈(cR w D ep L).toList/\v=x.2/\((cR w D ep L).toList.map f).getD i []=f x:=fun i v hv=>by
  rw [List.getElem?_map] at hv
  cases e:(cR w D ep L).toList[i]? with
  | none=>rw [e] at hv;cases hv
  | some x =>
   rw [e] at hv
   refine ⟨x,List.mem_of_getElem? e,(Option.some.inj hv).symm,?_⟩
   rw [List.getD_eq_getElem?_getD,List.getElem?_map,e];rfl
 refine vO (vs:=(cR w D ep L).toList.map (·.2)) (aF:=(cR w D ep L).toList.map f) (fun Q' E' hq=>?_) ⟨by simp,fun i v hv=>?_⟩ (fun ks hks=>?_) (by rw [List.length_map,osz];omega) fun h' tk l n p k hl hsp hg=>?_
 ·exact wL (by simpa using hh) ho gs (by omega) hq
 ·obtain ⟨x,hx,rfl,e⟩:=at_ i v hv
  obtain ⟨b,h1,h2,h3⟩:=each x hx
  exact ⟨b,h1,by rw [e];exact h2⟩
 ·exact hne ks (kp.mem_iff.mp hks)
 ·refine h h' tk l n _ k hl (sI ⟨by simp,fun i v hv=>?_⟩ hsp kp) hg
  obtain ⟨x,hx,rfl,e⟩:=at_ i v hv
  obtain ⟨b,h1,h2,h3⟩:=each x hx
  exact ⟨b,h1,by rw [e];exact h3⟩
end
end So
namespace Vl
open PySem PySem.Spec L2 So Tb
def xG (P:Program) (w:World) (U:Addr->List Int->Prop) (a:Addr) (aF:List (List Int)):Heap->Prop:=fun h=>∃ o,h.get? a=some o/\yg P w U o aF
theorem yg.mono {P:Program} {w:World} {U U':Addr->List Int->Prop} {o:Obj} {aF:List (List Int)} (x:yg P w U o aF) (h:∀ b ks,U b ks->U' b ks):yg P w U' o aF:=by
 obtain ⟨L,ep,t,f,e,g,room,mb,pl,hf,r⟩:=x
 exact ⟨L,ep,t,f,e,g,room,mb,pl,fun e he=>let ⟨b,h1,h2,h3⟩:=hf e he;⟨b,h1,h2,h _ _ h3⟩,r⟩
section
variable {X:Cx} {B:Bs} {W:Wi}
theorem zA {pins:List (Addr×Obj)} {σ:St} {H:Hp} {s:Shared} {b:Addr} {ks:List Int} (I:Inv X pins σ H s) (h:lK X.K H b (ks.map V.int)):IsTupleKey (intKind X.prog X.w) s.heap ks b:=by
 obtain ⟨its,r,⟨o,ho,hc,n,hd⟩,hz⟩:=I.tuple h
 refine ⟨o,its.toArray,n,ho,hc,hd,?_⟩
 show ItemsAre _ ks its
 clear hd h hz
 induction ks generalizing its with
 | nil=>cases r;exact .nil
 | cons k ks ih =>
  cases r with
  | cons r1 r2 =>
   obtain ⟨t,rfl⟩:=r1
   exact .cons (intKind_is X.prog X.w k t) (ih _ r2)
def adt (P:Program) (w:World) (K:PySem.W.Frag):List V->Hp->VK->Prop:=fun xs H Q=>∃ (p:Addr) (ys:List V) (aF:List (List Int)) (U:Addr->List Int->Prop),xs=[.ref p]/\(rG K H p ys∨lK K H p ys)/\aF.length=ys.length/\ys.length < 1000 /\
 (∀ (i:Nat) v,ys[i]?=some v->∃ b,v=.ref b/\lK K H b ((aF.getD i []).map V.int)/\U b (aF.getD i []))/\∀ l,H l=none->Q (.ref l) (dY H l (.ext (xG P w U l (bO aF))))
theorem Vals.get' {xs:List V} {us:List Value} (r:Vals xs us) {i:Nat} {u:Value} (h:us[i]?=some u):∃ x,xs[i]?=some x/\RelV x u:=by
 cases e:xs[i]? with
 | none=>have:=r.none_of e;rw [this] at h;cases h
 | some x=>obtain ⟨u',h1,h2⟩:=r.get e;rw [h] at h1;cases h1;exact ⟨x,rfl,h2⟩
theorem Ui (hc:X.calm=true) (hu:X.A.units + 8 < cLine):kW X (.type "set") (adt X.prog X.w X.K):=by
 intro pins s σ H xs us Q I r h
 obtain ⟨p,ys,aF,U,rfl,hs,hlen,hz,hk,q⟩:=h
 obtain ⟨u,rfl,rx⟩:=r.one
 cases rx
 obtain ⟨its,rv,hseq⟩:∃ its:List Value,Vals ys its/\(s.heap.IsList p its.toArray∨s.heap.IsTuple p its.toArray):=by
  rcases hs with hs|hs
  ·obtain ⟨its,rv,pl,_⟩:=I.list hs;exact ⟨its,rv,.inl pl.isList⟩
  ·obtain ⟨its,rv,pl,_⟩:=I.tuple hs;exact ⟨its,rv,.inr pl⟩
 have hl:=rv.length
 refine FN (U:=U) (aF:=aF) (I.ok.hd hc) hu hseq (by rw [List.size_toArray];omega) (fun i v hv=>?_) (by rw [List.size_toArray];omega) fun h' tk k hS=>?_
 ·obtain ⟨x,h1,h2⟩:=Vals.get' rv (i:=i) (u:=v) (by simpa using hv)
  obtain ⟨b,rfl,h3,h4⟩:=hk i x h1
  exact ⟨b,h2,zA I h3,h4⟩
 ·refine ⟨.ref s.heap.objs.size,_,I.laid (t':=tk) k (Nat.le_refl _) (show eZ X.prog X.w _ h' _ (.ext (xG X.prog X.w U s.heap.objs.size (bO aF))) from ⟨So.aL.obj hS,?_,?_⟩),rfl,q _ I.fresh⟩
  ·obtain ⟨o,ho,_⟩:=So.aL.obj hS;exact ⟨o,ho⟩
  ·rintro h1 h2 ⟨o,ho,x⟩ hk';exact ⟨o,hk' o ho,x⟩
def abl (P:Program) (w:World) (K:PySem.W.Frag):List V->Hp->VK->Prop:=fun xs H Q=>∃ (p:Addr) (aF:List (List Int)) (U:Addr->List Int->Prop),xs=[.ref p]/\H p=some (.ext (xG P w U p aF))/\(∀ b ks,U b ks->lK K H b (ks.map V.int))/\(∀ ks∈aF,ks≠[])/\aF.length < 1000 /\
 ∀ l ys,H l=none->ys.length=(bJ aF).length->(∀ (i:Nat) v,ys[i]?=some v->∃ b,v=.ref b/\U b ((bJ aF).getD i []))->Q (.ref l) (dY H l (.lst ys))
theorem Gj (hc:X.calm=true):kW X (.builtin "sorted") (abl X.prog X.w X.K):=by
 intro pins s σ H xs us Q I r h
 obtain ⟨p,aF,U,rfl,hp,hU,hne,h64,q⟩:=h
 obtain ⟨u,rfl,rx⟩:=r.one
 cases rx
 obtain ⟨⟨o,ho,x⟩,_⟩:=I.hok _ _ hp
 have hS:=So.yg.at x ho (fun b ks hb=>zA I (hU b ks hb))
 refine So.OD (I.ok.hd hc) hS hne h64 fun h' tk l n out k hl ho hg=>?_
 have hln:H l=none:=I.hok.fresh hl
 have hv:∃ ys:List V,Vals ys out/\ys.length=(bJ aF).length/\∀ (i:Nat) v,ys[i]?=some v->∃ b,v=.ref b/\U b ((bJ aF).getD i []):=by
  refine ⟨out.map fun v=>match v with|.ref b=>V.ref b|_=>V.non,?_,by simp [ho.1],fun i v hv=>?_⟩
  ·have:∀ v∈out,∃ b,v=Value.ref b:=fun v hv=>by
    obtain ⟨i,hi⟩:=List.mem_iff_getElem?.mp hv
    obtain ⟨b,e,_⟩:=ho.2 i v hi;exact ⟨b,e⟩
   clear ho hg
   induction out with
   | nil=>exact .nil
   | cons a out ih =>
    obtain ⟨b,rfl⟩:=this a (.head _)
    exact .cons rfl (ih fun v hv=>this v (.tail _ hv))
  ·rw [List.getElem?_map] at hv
   cases e:out[i]? with
   | none=>rw [e] at hv;cases hv
   | some v' =>
    rw [e] at hv
    obtain ⟨b,rfl,h2⟩:=ho.2 i v' e
    exact ⟨b,(Option.some.inj hv).symm,h2⟩
 obtain ⟨ys,rv,yl,yv⟩:=hv
 have e0:s.heap.objs.size<=l:=hl
 refine ⟨.ref l,_,I.laid (t':=tk) k hl (show eZ X.prog X.w _ h' _ (.lst ys) from ⟨?_,out,n,rv,hg⟩),rfl,q l ys hln yl yv⟩
 have:(bJ aF).length=aF.length:=(dg aF).length_eq
 rw [yl,this,sizeLine_eq];omega
def jU:List D->Option (List Int)
 | []=>some []
 | .int i::ds=>(jU ds).map (i::·)
 | _=>none
def jV:List D->Option (List (List Int))
 | []=>some []
 | .tup ds::es=>match jU ds with|some k=>(jV es).map (k::·)|none=>none
 | _=>none
def tupK (ks:List Int):D:=.tup (ks.map .int)
theorem Uj (ks:List Int):jU (ks.map .int)=some ks:=by
 induction ks with
 | nil=>rfl
 | cons k ks ih=>simp [jU,ih]
theorem Ks:∀ {ds:List D} {ks:List Int},jU ds=some ks->ds=ks.map .int
 | [],ks,h=>by simp [jU] at h;subst h;rfl
 | .int i::ds,ks,h=>by
  simp only [jU] at h
  cases e:jU ds with
  | none=>rw [e] at h;cases h
  | some k=>rw [e] at h;simp at h;subst h;rw [Ks e];rfl
 | .non::ds,ks,h=>by simp [jU] at h
 | .bl _::ds,ks,h=>by simp [jU] at h
 | .str _::ds,ks,h=>by simp [jU] at h
 | .tup _::ds,ks,h=>by simp [jU] at h
 | .lst _::ds,ks,h=>by simp [jU] at h
 | .kJ _ _::ds,ks,h=>by simp [jU] at h
theorem Uk (aF:List (List Int)):jV (aF.map tupK)=some aF:=by
 induction aF with
 | nil=>rfl
 | cons k aF ih=>simp [jV,tupK,Uj] at ih ⊢;exact ih
theorem zB:∀ {ds:List D} {aF:List (List Int)},jV ds=some aF->ds=aF.map tupK
 | [],ks,h=>by simp [jV] at h;subst h;rfl
 | .tup es::ds,ks,h=>by
  simp only [jV] at h
  cases e:jU es with
  | none=>rw [e] at h;cases h
  | some k =>
   rw [e] at h
   cases e2:jV ds with
   | none=>rw [e2] at h;cases h
   | some k2=>rw [e2] at h;simp at h;subst h;rw [zB e2,Ks e];rfl
 | .int i::ds,ks,h=>by simp [jV] at h
 | .non::ds,ks,h=>by simp [jV] at h
 | .bl _::ds,ks,h=>by simp [jV] at h
 | .str _::ds,ks,h=>by simp [jV] at h
 | .lst _::ds,ks,h=>by simp [jV] at h
 | .kJ _ _::ds,ks,h=>by simp [jV] at h
theorem uM {K:PySem.W.Frag} {G:Hp}:∀ {ks:List Int} {vs:List V},aZ K G (ks.map .int) vs->vs=ks.map V.int
 | [],vs,r=>bf.mp r
 | k::ks,vs,r=>by
  obtain ⟨v,vs',rfl,r1,r2⟩:=aN.mp r
  rw [aH.mp r1,uM r2];rfl
theorem Ku {K:PySem.W.Frag} {G:Hp} {ks:List Int} {v:V}:Rep K G (tupK ks) v↔∃ b,v=.ref b/\UG K G b ks:=by
 unfold tupK UG
 constructor
 ·intro h
  obtain ⟨a,vs,rfl,q,r⟩:=aP.mp h
  rw [uM r] at q
  exact ⟨a,rfl,q⟩
 ·rintro ⟨b,rfl,q⟩
  exact aP.mpr ⟨b,_,rfl,q,Di ks⟩
theorem Ul {K:PySem.W.Frag} {G:Hp} {aF:List (List Int)} {vs:List V} (r:aZ K G (aF.map tupK) vs):aF.length=vs.length/\∀ (i:Nat) v,vs[i]?=some v->∃ b,v=.ref b/\UG K G b (aF.getD i []):=by
 refine ⟨by have:=r.length;simpa using this,fun i v hv=>?_⟩
 obtain ⟨d,h1,h2⟩:=r.get' hv
 rw [List.getElem?_map] at h1
 cases e:aF[i]? with
 | none=>rw [e] at h1;cases h1
 | some ks =>
  rw [e] at h1
  cases h1
  obtain ⟨b,q1,q2⟩:=Ku.mp h2
  exact ⟨b,q1,by rw [List.getD_eq_getElem?_getD,e];exact q2⟩
theorem lU {K:PySem.W.Frag} {G:Hp}:∀ {aF:List (List Int)} {vs:List V},vs.length=aF.length->(∀ (i:Nat) v,vs[i]?=some v->∃ b,v=.ref b/\UG K G b (aF.getD i []))->aZ K G (aF.map tupK) vs
 | [],vs,h,_=>bf.mpr (List.length_eq_zero_iff.mp h)
 | k::aF,[],h,_=>by cases h
 | k::aF,v::vs,h,a=>by
  refine aN.mpr ⟨v,vs,rfl,Ku.mpr (a 0 v rfl),lU (by simpa using h) fun i u hu=>?_⟩
  exact a (i + 1) u hu
def Kv (P:Program) (w:World) (K:PySem.W.Frag) (W:Wi) (σ:St) (G H:Hp) (r:Rs (List (List Int))) (Q:VK):Prop :=
 match r with
 | .ok aF=>∀ a H' G',Ext G H G' H'->H a=none->H' a=some (.ext (xG P w (UG K G') a aF))->Q (.ref a) H'
 | .ex c n=>∀ H' G',Ext G H G' H'->W c n σ H'
 | .no=>False
def tK (P:Program) (w:World) (K:PySem.W.Frag) (B:Bs) (W:Wi) (f:ak->Rs (List (List Int))):TE:=fun σ H Q=>∃ ρ G,SR K B σ H ρ G/\Kv P w K W σ G H (f ρ) Q
def SK (X:Cx) (B:Bs) (W:Wi) (e:Expr) (f:ak->Rs (List (List Int))):Prop:=PE X e (tK X.prog X.w X.K B W f)
def Gk:D->Rs (List (List Int))
 | .lst ds=>match jV ds with|some aF=>if ds.length < 1000 then .ok aF else .no|none=>.no
 | .tup ds=>match jV ds with|some aF=>if ds.length < 1000 then .ok aF else .no|none=>.no
 | _=>.no
def fK (f:ak->Rs D):ak->Rs (List (List Int)):=fun ρ=>(f ρ).bind fun d=>(Gk d).bind fun aF=>.ok (bO aF)
theorem Gm {G H:Hp} (gh:Same G H) (tp:∀ a xs,H a=some (.tup xs)->G a=some (.tup xs)) {p:Addr} {φ:Heap->Prop} (hp:H p=none):Ext G H G (dY H p (.ext φ)) where
 gg:=.refl _
 hh:=fun b o e=>by rw [aW (aR e hp)];exact e
 gh:=fun b o e=>by rw [aW (aR (gh _ _ e) hp)];exact gh _ _ e
 tp:=fun b ys e=>by
  by_cases q:b=p
  ·subst q;rw [aY] at e;cases e
  ·rw [aW q] at e;exact tp _ _ e
 nw:=fun b o e n=>n
theorem pR {e:Expr} {p pos:Pos} {f:ak->Rs D} (hc:X.calm=true) (hu:X.A.units + 8 < cLine) (hm:X.mg "set"=none) (he:SE X B W e f) (hg:Gl X "set":=by rfl) (hst:starEach [e] X.env=[(false,eval e X.env)]:=by rfl) :
  SK X B W (.Call (.Name "set" p) [e] [] pos) (fK f):=by
 refine PE.imp (vB (Ui hc hu) hg hm PyProof.Rows.boot_set (cW he iy hst) (by decide) (by decide) hst rfl) fun σ H Q h=>?_
 obtain ⟨ρ,G,s,p⟩:=h
 refine ⟨ρ,G,s,?_⟩
 unfold fK at p
 cases e1:f ρ with
 | ok d =>
  rw [e1] at p
  have p':Kv X.prog X.w X.K W σ G H ((Gk d).bind fun aF=>.ok (bO aF)) Q:=p
  intro v H' G' x r
  have fu:∀ (a:Addr) (vs:List V) (aF:List (List Int)),v=.ref a->(rG X.K H' a vs∨lK X.K H' a vs)->aZ X.K G' (aF.map tupK) vs->vs.length < 1000->Kv X.prog X.w X.K W σ G H (.ok (bO aF)) Q->adt X.prog X.w X.K [v] H' Q:=by
   intro a vs aF ea hs rr hz pp
   obtain ⟨hl,hk⟩:=Ul rr
   refine ⟨a,vs,aF,UG X.K G',by rw [ea],hs,hl,hz,fun i u hu'=>?_,fun l hl'=>?_⟩
   ·obtain ⟨b,q1,q2⟩:=hk i u hu'
    exact ⟨b,q1,Same.gU x.gh q2,q2⟩
   ·exact pp l _ G' (x.trans (Gm x.gh x.tp hl')) (by cases e:H l with|none=>rfl|some o=>have:=x.hh _ _ e;rw [hl'] at this;cases this) aY
  unfold Gk at p'
  split at p'
  ·rename_i ds
   split at p'
   ·rename_i aF ek
    by_cases hz:ds.length < 1000
    ·rw [if_pos hz] at p'
     obtain ⟨a,vs,rfl,q,rr⟩:=aO.mp r
     have hl:=rr.length
     rw [zB ek] at rr
     exact fu a vs aF rfl (.inl (x.gh.seq q)) rr (by omega) p'
    ·rw [if_neg hz] at p';exact p'.elim
   ·exact p'.elim
  ·rename_i ds
   split at p'
   ·rename_i aF ek
    by_cases hz:ds.length < 1000
    ·rw [if_pos hz] at p'
     obtain ⟨a,vs,rfl,q,rr⟩:=aP.mp r
     have hl:=rr.length
     rw [zB ek] at rr
     exact fu a vs aF rfl (.inr (Same.gU x.gh q)) rr (by omega) p'
    ·rw [if_neg hz] at p';exact p'.elim
   ·exact p'.elim
  ·exact p'.elim
 | ex c n=>rw [e1] at p;exact p
 | no=>rw [e1] at p;exact p
instance (aF:List (List Int)):Decidable (∀ ks∈aF,ks≠[]):=inferInstance
def vP:List (List Int)->Rs D:=fun aF=>if (∀ ks∈aF,ks≠[])/\aF.length < 1000 then .ok (.lst ((bJ aF).map tupK)) else .no
def lG (f:ak->Rs (List (List Int))):ak->Rs D:=fun ρ=>(f ρ).bind vP
theorem zE {e:Expr} {p pos:Pos} {f:ak->Rs (List (List Int))} (hc:X.calm=true) (hm:X.mg "sorted"=none) (he:SK X B W e f) (hg:Gl X "sorted":=by rfl) (hst:starEach [e] X.env=[(false,eval e X.env)]:=by rfl) :
  SE X B W (.Call (.Name "sorted" p) [e] [] pos) (lG f):=by
 refine PE.imp (jK (Gj hc) hg hm PyProof.Rows.boot_sorted (cW he iy hst) (by decide) (by decide) hst rfl) fun σ H Q h=>?_
 obtain ⟨ρ,G,s,p⟩:=h
 refine ⟨ρ,G,s,?_⟩
 unfold lG at p
 cases e1:f ρ with
 | ok aF =>
  rw [e1] at p
  intro a H' G' x _ ha
  have p':Post X.K W σ G H (vP aF) Q:=p
  unfold vP at p'
  by_cases hc':(∀ ks∈aF,ks≠[])/\aF.length < 1000
  ·rw [if_pos hc'] at p'
   refine ⟨a,aF,UG X.K G',rfl,ha,fun b ks hb=>Same.gU x.gh hb,hc'.1,hc'.2,fun l ys hl hy hv=>?_⟩
   have x2:=uo (xs:=ys) x.gh x.tp hl
   refine p' _ _ _ (x.trans x2) (aO.mpr ⟨l,ys,rfl,.of aY,?_⟩)
   exact (lU hy hv).mono x2.gg
  ·rw [if_neg hc'] at p';exact p'.elim
 | ex c n=>rw [e1] at p;exact p
 | no=>rw [e1] at p;exact p
end
end Vl
namespace Vl
open PySem PySem.Spec L2 So Tb
def orL (a b:List (List Int)):List (List Int):=a++b.filter fun x=>!decide (x∈a)
def Um (a b:List (List Int)):List (List Int):=a.filter fun x=>decide (x∈b)
def OJ (a b:List (List Int)):List (List Int):=a.filter fun x=>!decide (x∈b)
theorem abm {a b:List (List Int)} {x:List Int}:x∈orL a b↔x∈a∨x∈b:=by
 unfold orL
 rw [List.mem_append,List.mem_filter]
 by_cases h:x∈a <;> simp [h]
theorem zF {a b:List (List Int)} {x:List Int}:x∈Um a b↔x∈a/\x∈b:=by unfold Um;rw [List.mem_filter];simp
theorem zG {a b:List (List Int)} {x:List Int}:x∈OJ a b↔x∈a/\x∉b:=by unfold OJ;rw [List.mem_filter];simp
theorem aeY {a b:List (List Int)} (ha:a.Nodup) (hb:b.Nodup):(orL a b).Nodup:=by
 unfold orL
 refine List.nodup_append.mpr ⟨ha,hb.filter _,fun x hx y hy e=>?_⟩
 subst e
 have:=(List.mem_filter.mp hy).2
 simp [hx] at this
section
variable {X:Cx} {B:Bs} {W:Wi}
def rK2 (P:Program) (w:World) (K:PySem.W.Frag) (C:List (List Int)->List (List Int)->Prop) (g:List (List Int)->List (List Int)->List (List Int)):R2:=fun x y H Q=>∃ (p p2:Addr) (a b:List (List Int)) (U1 U2 U:Addr->List Int->Prop),x=.ref p/\y=.ref p2/\p≠p2/\H p=some (.ext (xG P w U1 p a))/\H p2=some (.ext (xG P w U2 p2 b)) /\
 (∀ c ks,U1 c ks->U c ks)/\(∀ c ks,U2 c ks->U c ks)/\(∀ c ks,U c ks->lK K H c (ks.map V.int))/\C a b/\∀ l,H l=none->Q (.ref l) (dY H l (.ext (xG P w U l (g a b))))
theorem vQ {pins:List (Addr×Obj)} {σ:St} {H:Hp} {s:Shared} {p:Addr} {a:List (List Int)} {U1 U:Addr->List Int->Prop} (I:Inv X pins σ H s) (h:H p=some (.ext (xG X.prog X.w U1 p a))) (u:∀ c ks,U1 c ks->U c ks) (hU:∀ c ks,U c ks->lK X.K H c (ks.map V.int)):aL X.prog X.w U s.heap p a:=by
 obtain ⟨⟨o,ho,x⟩,_⟩:=I.hok _ _ h
 exact So.yg.at (yg.mono x u) ho fun b ks hb=>zA I (hU b ks hb)
theorem Kw {pins:List (Addr×Obj)} {σ:St} {H:Hp} {s:Shared} {Q:VK} {U:Addr->List Int->Prop} {ls a:List (List Int)} {h':Heap} {tk:Nat} (I:Inv X pins σ H s) (k:∀ b o,s.heap.get? b=some o->h'.get? b=some o) (hS:aL X.prog X.w U h' s.heap.objs.size ls) (p:ls.Perm a)
  (q:∀ l,H l=none->Q (.ref l) (dY H l (.ext (xG X.prog X.w U l a)))):EP X pins σ Q (.ref s.heap.objs.size) { s with heap:=h',toks:=tk }:=by
 have hS':=hS.perm p
 refine ⟨.ref s.heap.objs.size,_,I.laid (t':=tk) k (Nat.le_refl _) (show eZ X.prog X.w _ h' _ (.ext (xG X.prog X.w U s.heap.objs.size a)) from ⟨So.aL.obj hS',?_,?_⟩),rfl,q _ I.fresh⟩
 ·obtain ⟨o,ho,_⟩:=So.aL.obj hS';exact ⟨o,ho⟩
 ·rintro h1 h2 ⟨o,ho,x⟩ hk';exact ⟨o,hk' o ho,x⟩
def COr (a b:List (List Int)):Prop:=a.length + b.length < 900
def Ba (a b:List (List Int)):Prop:=a.length < 900/\b.length < 900
def ahF (a b:List (List Int)):Prop:=a.length < 900/\b.length < 900/\(b=[]∨¬ a.length / 4 > b.length)
instance (a b:List (List Int)):Decidable (COr a b):=by unfold COr;exact inferInstance
instance (a b:List (List Int)):Decidable (Ba a b):=by unfold Ba;exact inferInstance
instance (a b:List (List Int)):Decidable (ahF a b):=by unfold ahF;exact inferInstance
theorem aeZ (hu:X.A.units + 8 < cLine):pB X (binaryOp .BitOr) (rK2 X.prog X.w X.K COr orL):=by
 intro pins s σ H x y v u Q I rx ry ⟨p,p2,a,b,U1,U2,U,ex,ey,ne,h1,h2,u1,u2,hU,hc,q⟩
 subst ex ey
 cases rx
 cases ry
 have A1:=vQ I h1 u1 hU
 have A2:=vQ I h2 u2 hU
 exact ahw A1 A2 ne hc (by omega) fun h' tk ls k nd hm hS=>Kw I k hS (dR nd (aeY A1.nd A2.nd) fun x=>by rw [hm x,abm]) q
theorem abn (hu:X.A.units + 8 < cLine):pB X (binaryOp .BitAnd) (rK2 X.prog X.w X.K Ba Um):=by
 intro pins s σ H x y v u Q I rx ry ⟨p,p2,a,b,U1,U2,U,ex,ey,ne,h1,h2,u1,u2,hU,hc,q⟩
 subst ex ey
 cases rx
 cases ry
 have A1:=vQ I h1 u1 hU
 have A2:=vQ I h2 u2 hU
 exact aeS A1 A2 ne hc.1 hc.2 (by omega) fun h' tk ls k hm hS=>Kw I k hS (dR hS.nd (A1.nd.filter _) fun x=>by rw [hm x];exact zF.symm) q
def gK (C:List (List Int)->List (List Int)->Prop) [∀ a b,Decidable (C a b)] (g:List (List Int)->List (List Int)->List (List Int)):List (List Int)->List (List Int)->Rs (List (List Int)):=fun a b=>if C a b then .ok (g a b) else .no
abbrev kOr:=gK COr orL
abbrev ahG:=gK Ba Um
def Vv (g:List (List Int)->List (List Int)->Rs (List (List Int))) (fa fb:ak->Rs (List (List Int))):ak->Rs (List (List Int)):=fun ρ=>(fa ρ).bind fun a=>(fb ρ).bind fun b=>g a b
theorem adu {a b:Expr} {op:Operator} {pos:Pos} {C:List (List Int)->List (List Int)->Prop} [∀ a b,Decidable (C a b)] {g:List (List Int)->List (List Int)->List (List Int)} {fa fb:ak->Rs (List (List Int))} (ho:pB X (binaryOp op) (rK2 X.prog X.w X.K C g)) (ha:SK X B W a fa) (hb:SK X B W b fb) :
  SK X B W (.BinOp a op b pos) (Vv (gK C g) fa fb):=by
 refine PE.imp (QM ho ha hb) fun σ H Q h=>?_
 obtain ⟨ρ,G,s,p⟩:=h
 refine ⟨ρ,G,s,?_⟩
 unfold Vv at p
 cases e1:fa ρ with
 | ok l =>
  rw [e1] at p
  have p':Kv X.prog X.w X.K W σ G H ((fb ρ).bind fun m=>gK C g l m) Q:=p
  intro p1 H1 G1 x1 n1 h1
  refine ⟨ρ,G1,s.ext x1,?_⟩
  cases e2:fb ρ with
  | ok m =>
   rw [e2] at p'
   have p2':Kv X.prog X.w X.K W σ G H (if C l m then .ok (g l m) else .no) Q:=p'
   intro p2 H2 G2 x2 n2 h2
   have ne:p1≠p2:=fun z=>by subst z;rw [h1] at n2;cases n2
   by_cases hc:C l m
   ·rw [if_pos hc] at p2'
    refine ⟨p1,p2,l,m,UG X.K G1,UG X.K G2,UG X.K G2,rfl,rfl,ne,x2.hh _ _ h1,h2,fun c ks q=>Same.gU x2.gg q,fun c ks q=>q,fun c ks q=>Same.gU x2.gh q,hc,fun l' hl'=>?_⟩
    have x12:=x1.trans x2
    exact p2' l' _ G2 (x12.trans (Gm x2.gh x2.tp hl')) (by cases e:H l' with|none=>rfl|some o=>have:=x12.hh _ _ e;rw [hl'] at this;cases this) aY
   ·rw [if_neg hc] at p2';exact p2'.elim
  | ex c n=>rw [e2] at p';exact fun H2 G2 x2=>p' H2 G2 (x1.trans x2)
  | no=>rw [e2] at p';exact p'
 | ex c n=>rw [e1] at p;exact p
 | no=>rw [e1] at p;exact p
theorem ahH {a b:Expr} {pos:Pos} {fa fb:ak->Rs (List (List Int))} (hc:X.calm=true) (hu:X.A.units + 8 < cLine) (ha:SK X B W a fa) (hb:SK X B W b fb):SK X B W (.BinOp a .BitOr b pos) (Vv kOr fa fb):=adu (aeZ hu) ha hb
theorem afa {a b:Expr} {pos:Pos} {fa fb:ak->Rs (List (List Int))} (hc:X.calm=true) (hu:X.A.units + 8 < cLine) (ha:SK X B W a fa) (hb:SK X B W b fb):SK X B W (.BinOp a .BitAnd b pos) (Vv ahG fa fb):=adu (abn hu) ha hb
end
end Vl
namespace Vl
open PySem PySem.Spec L2
def ake (i:Nat) (fs:ak->Rs (List D)):ak->Ou:=fun ρ=>oR (fs ρ) ρ fun ds=>if ds.length<=1000 then .nx (ρ.set i (.ow ds)) else .no
def abo (i:Nat) (f:ak->Rs D):ak->Ou:=fun ρ=>match ρ[i]? with|some (.ow ds)=>oR (f ρ) ρ fun d=>if ds.length < 1000000 then .nx (ρ.set i (.ow (ds++[d]))) else .no|_=>.no
def abp (i:Nat) (g:ak->Ou):ak->Ou:=fun ρ=>g (CQ i ρ)
section
variable {X:Cx} {K:PySem.W.Frag} {B:Bs} {W:Wi} {σ:St} {G H:Hp} {ρ:ak}
theorem afb (i:Nat) {x:Str} {e:Expr} {pos p1 p2 cp:Pos} {f:ak->Rs D} (he:SE X B W e f) (hN:X.N[i]?=some x:=by rfl) (hv:Nf X.env.scope x:=by first|exact Or.inl rfl|exact Or.inr (Or.inl rfl)|exact Or.inr (Or.inr rfl)) (hd:(x == ("__debug__":Str))=false:=by decide)
  (hcd:(x == ("__classdict__":Str))=false:=by decide) (hst:starEach [e] X.env=[(false,eval e X.env)]:=by rfl)
  (hbase:attributeBase (.Name x p1) "append" X.env (eval (.Name x p1) X.env)=eval (.Name x p1) X.env:=by rfl)
  (hfew:((backTo cp (starEach [e] X.env)).all (fun x=>!x.1) && (backToKw cp (keywordEach [] X.env)).all (fun x=>x.1.isSome)
   && decide (([e]:List Expr).length + ([]:List Keyword).length + (if ([]:List Keyword).isEmpty then 0 else 1) < 30))=true:=by rfl)
  (hline:(p2.endLine == cp.line)=true:=by rfl) (hplain:(backTo cp (starEach [] X.env)).any (·.1)=false:=by rfl)
  (hs:swapsWith (.Call (.Attribute (.Name x p1) "append" p2) [e] [] cp) none pos.line X.env=pure false:=by rfl) :
  SS X B W (.Expr (.Call (.Attribute (.Name x p1) "append" p2) [e] [] cp) pos) (abo i f) :=
 Tw (pe:=acW PySem.F.plainAttrs_list PySem.F.slot_list_append PySem.F.type_list_append Dh (iu hN hv hd hcd) (cW he iy hst) hbase hfew hline hst hplain) (iu hN hv hd hcd) he hst hs
theorem Yk (i:Nat) {st:List Stmt} {g:ak->Ou} (h:vo X B W st g):vo X B W st (abp i g):=aaG i h
theorem jW {e:Expr} {p pos:Pos} {fa:ak->Rs D} (hm:X.mg "tuple"=none) (ha:SE X B W e fa) (hg:Gl X "tuple":=by rfl) (he:starEach [e] X.env=[(false,eval e X.env)]:=by rfl):SE X B W (.Call (.Name "tuple" p) [e] [] pos) (fA (au fa aX) fQ) :=
 Dl rH Ju hg hm PyProof.Rows.boot_tuple (aj ha aK he) (by decide) (by decide) he rfl
def Ym:List D->Rs D
 | [.lst ds]=>.ok (.lst ds)
 | [.tup ds]=>.ok (.lst ds)
 | _=>.no
def Pa:List D->Rs D
 | [.int i]=>.ok (.int i)
 | [.bl b]=>.ok (.int (if b then 1 else 0))
 | _=>.no
theorem afc:rK K (fun xs H Q=>(∃ i,xs=[.int i]/\Q (.int i) H)∨∃ k,xs=[.bl k]/\Q (.int (if k then 1 else 0)) H) Pa:=by
 intro B W σ ρ G H ds vs Q s r p
 unfold Pa at p
 split at p
 ·obtain ⟨v,vs',rfl,r1,r2⟩:=aN.mp r
  rw [bf.mp r2,aH.mp r1]
  exact .inl ⟨_,rfl,Post.ok s p (aH.mpr rfl)⟩
 ·obtain ⟨v,vs',rfl,r1,r2⟩:=aN.mp r
  rw [bf.mp r2,bA.mp r1]
  exact .inr ⟨_,rfl,Post.ok s p (aH.mpr rfl)⟩
 ·exact p.elim
theorem afd {e:Expr} {p pos:Pos} {fa:ak->Rs D} (hm:X.mg "int"=none) (ha:SE X B W e fa) (hg:Gl X "int":=by rfl) (he:starEach [e] X.env=[(false,eval e X.env)]:=by rfl):SE X B W (.Call (.Name "int" p) [e] [] pos) (fA (au fa aX) Pa) :=
 Dl Tj afc hg hm PyProof.Rows.Boot.«int» (aj ha aK he) (by decide) (by decide) he rfl
def uN:D->Bool
 | .non=>true
 | _=>false
def akf:D->D->Rs D:=fun x y=>match y with|.non=>.ok (.bl (uN x))|_=>.no
def ahI:D->D->Rs D:=fun x y=>match y with|.non=>.ok (.bl (!uN x))|_=>.no
variable {a b:Expr} {pos:Pos} {fa fb:ak->Rs D}
def Vw (x:D) (ds:List D):Bool:=ds.any fun d=>oZ d x
def afe (K:PySem.W.Frag) (neg:Bool):R2:=fun x y H Q=>∃ d p ys ds,y=.ref p/\(rG K H p ys∨lK K H p ys)/\Rep K H d x/\aZ K H ds ys/\cL d<=7/\cU ds<=7/\Q (.bl (if neg then !Vw d ds else Vw d ds)) H
open Classical in
theorem RG {pins:List (Addr×Obj)} {s:Shared} {A:Around} {x:V} {v:Value} {d:D} (I:Inv X pins σ H s) (hu:A.units + 7 < cLine) (rx:RelV x v) (rd:Rep X.K H d x) (hd:cL d<=7):∀ {ds:List D} {ys:List V} {its:List Value},Vals ys its->aZ X.K H ds ys->cU ds<=7 ->
  ∃ f:Value->Bool,(∀ u∈its,SeqAt.EqAt A s u v (f u))/\its.any f=Vw d ds:=by
 intro ds ys its rv rr hds
 refine ⟨fun u=>if h:∃ d' v',Rep X.K H d' v'/\RelV v' u/\cL d'<=7 then oZ (choose h) d else false,fun u hu'=>?_,?_⟩
 ·obtain ⟨i,hi⟩:=List.mem_iff_getElem?.mp hu'
  obtain ⟨y,h1,h2⟩:=Vals.get' rv hi
  obtain ⟨d',h3,h4⟩:=rr.get' h1
  have hx:∃ d' v',Rep X.K H d' v'/\RelV v' u/\cL d'<=7:=⟨d',y,h4,h2,Nat.le_trans (ur (List.mem_of_getElem? h3)) hds⟩
  dsimp only
  rw [dif_pos hx]
  obtain ⟨v',q1,q2,q3⟩:=choose_spec hx
  exact Wn I 7 q3 hd (by omega) q1 rd q2 rx
 ·unfold Vw
  induction ds generalizing ys its with
  | nil =>
   cases bf.mp rr
   cases rv
   rfl
  | cons d0 ds ih =>
   obtain ⟨y,ys',rfl,r1,r2⟩:=aN.mp rr
   cases rv with
   | @cons _ u _ us r3 r4 =>
    rw [List.any_cons,List.any_cons,ih r4 r2 (Nat.le_trans (by simp only [cU];exact Nat.le_max_right _ _) hds)]
    congr 1
    have hd0:cL d0<=7:=Nat.le_trans (ur (List.mem_cons_self)) hds
    have hx:∃ d' v',Rep X.K H d' v'/\RelV v' u/\cL d'<=7:=⟨d0,y,r1,r3,hd0⟩
    rw [dif_pos hx]
    obtain ⟨v',q1,q2,q3⟩:=choose_spec hx
    have:v'=y:=by
     have z1:=Vals.inj (xs:=[v']) (ys:=[y]) (us:=[u]) (.cons q2 .nil) (.cons r3 .nil)
     exact (List.cons.inj z1).1
    subst this
    rw [Rep.inj I (by omega) q1 r1]
theorem afg (hu:X.A.units + 8 < cLine):pB X (compareOp .In) (afe X.K false):=by
 intro pins s σ H x y v u Q I rx ry h
 obtain ⟨d,p,ys,ds,rfl,hq,rd,rr,hd,hds,q⟩:=h
 cases ry
 rcases hq with hq|hq
 ·obtain ⟨its,r,pl,hz⟩:=I.list hq
  obtain ⟨f,h1,h2⟩:=RG (A:=X.A.in1) I (by show X.A.units + 1 + 7 < cLine;omega) rx rd hd r rr hds
  refine SeqAt.in_listAt f pl.isList (fun w hw=>h1 w (by simpa using hw)) ⟨.bl _,H,I,rfl,?_⟩
  rw [show its.toArray.any f=its.any f by simp,h2]
  exact q
 ·obtain ⟨its,r,pl,hz⟩:=I.tuple hq
  obtain ⟨f,h1,h2⟩:=RG (A:=X.A.in1) I (by show X.A.units + 1 + 7 < cLine;omega) rx rd hd r rr hds
  refine SeqAt.in_tupleAt f pl (fun w hw=>h1 w (by simpa using hw)) ⟨.bl _,H,I,rfl,?_⟩
  rw [show its.toArray.any f=its.any f by simp,h2]
  exact q
theorem Uo (hu:X.A.units + 8 < cLine):pB X (compareOp .NotIn) (afe X.K true):=by
 intro pins s σ H x y v u Q I rx ry h
 obtain ⟨d,p,ys,ds,rfl,hq,rd,rr,hd,hds,q⟩:=h
 cases ry
 rcases hq with hq|hq
 ·obtain ⟨its,r,pl,hz⟩:=I.list hq
  obtain ⟨f,h1,h2⟩:=RG (A:=X.A.in1) I (by show X.A.units + 1 + 7 < cLine;omega) rx rd hd r rr hds
  refine SeqAt.notIn_listAt f pl.isList (fun w hw=>h1 w (by simpa using hw)) ⟨.bl _,H,I,rfl,?_⟩
  rw [show its.toArray.any f=its.any f by simp,h2]
  exact q
 ·obtain ⟨its,r,pl,hz⟩:=I.tuple hq
  obtain ⟨f,h1,h2⟩:=RG (A:=X.A.in1) I (by show X.A.units + 1 + 7 < cLine;omega) rx rd hd r rr hds
  refine SeqAt.notIn_tupleAt f pl (fun w hw=>h1 w (by simpa using hw)) ⟨.bl _,H,I,rfl,?_⟩
  rw [show its.toArray.any f=its.any f by simp,h2]
  exact q
def Ky (neg:Bool):D->D->Rs D:=fun x y=>match y with
 | .lst ds=>if cL x<=7/\cU ds<=7 then .ok (.bl (if neg then !Vw x ds else Vw x ds)) else .no
 | .tup ds=>if cL x<=7/\cU ds<=7 then .ok (.bl (if neg then !Vw x ds else Vw x ds)) else .no
 | _=>.no
abbrev gIn:=Ky false
abbrev Gn:=Ky true
theorem Yn {neg:Bool}:Ny K (afe K neg) (Ky neg):=by
 intro B W σ ρ G H x y v u Q s rx ry p
 unfold Ky at p
 split at p
 ·rename_i ds
  split at p
  ·rename_i hc
   obtain ⟨a,vs,rfl,q,rr⟩:=aO.mp ry
   exact ⟨x,a,vs,ds,rfl,.inl (s.en.gh.seq q),rx.mono s.en.gh,rr.mono s.en.gh,hc.1,hc.2,Post.ok s p (bA.mpr rfl)⟩
  ·exact p.elim
 ·rename_i ds
  split at p
  ·rename_i hc
   obtain ⟨a,vs,rfl,q,rr⟩:=aP.mp ry
   exact ⟨x,a,vs,ds,rfl,.inr (Same.gU s.en.gh q),rx.mono s.en.gh,rr.mono s.en.gh,hc.1,hc.2,Post.ok s p (bA.mpr rfl)⟩
  ·exact p.elim
 ·exact p.elim
theorem ahJ (hu:X.A.units + 8 < cLine) (ha:SE X B W a fa) (hb:SE X B W b fb) (hm:behindInMarks .In b=false:=by rfl):SE X B W (.Compare a [.In] [b] pos) (bV gIn fa fb):=yG (afg hu) Yn ha hb hm
theorem Kz (hu:X.A.units + 8 < cLine) (ha:SE X B W a fa) (hb:SE X B W b fb) (hm:behindInMarks .NotIn b=false:=by rfl):SE X B W (.Compare a [.NotIn] [b] pos) (bV Gn fa fb):=yG (Uo hu) Yn ha hb hm
end
end Vl
namespace Vl
open PySem PySem.Spec L2 So Tb
section
variable {X:Cx} {B:Bs} {W:Wi} {K:PySem.W.Frag}
theorem afh {U:Addr->List Int->Prop} {out:List Value} {aF:List (List Int)} (ho:Kr U out aF):∃ ys:List V,Vals ys out/\ys.length=aF.length/\∀ (i:Nat) v,ys[i]?=some v->∃ b,v=.ref b/\U b (aF.getD i []):=by
 refine ⟨out.map fun v=>match v with|.ref b=>V.ref b|_=>V.non,?_,by simp [ho.1],fun i v hv=>?_⟩
 ·have:∀ v∈out,∃ b,v=Value.ref b:=fun v hv=>by
   obtain ⟨i,hi⟩:=List.mem_iff_getElem?.mp hv
   obtain ⟨b,e,_⟩:=ho.2 i v hi;exact ⟨b,e⟩
  clear ho
  induction out with
  | nil=>exact .nil
  | cons a out ih =>
   obtain ⟨b,rfl⟩:=this a (.head _)
   exact .cons rfl (ih fun v hv=>this v (.tail _ hv))
 ·rw [List.getElem?_map] at hv
  cases e:out[i]? with
  | none=>rw [e] at hv;cases hv
  | some v' =>
   rw [e] at hv
   obtain ⟨b,rfl,h2⟩:=ho.2 i v' e
   exact ⟨b,(Option.some.inj hv).symm,h2⟩
theorem vC:∀ {us:List Value} {ns:List Int},PyProof.Rows.IntsAre us ns->Vals (ns.map V.int) us:=by
 intro us ns h
 induction h with
 | nil=>exact .nil
 | cons n t _ ih=>exact .cons ⟨t,rfl⟩ ih
end
end Vl
namespace Vl
open PySem PySem.Spec L2
section
variable {X:Cx} {B:Bs} {W:Wi} {K:PySem.W.Frag}
end
end Vl
namespace Vl
open PySem PySem.Spec L2
theorem abq (i:Nat) {X:Cx} {B:Bs} {W:Wi} {y:Str} {py spos:Pos} {tg iter:Expr} {elt:Expr} {sc:Scope} {pos:Pos} {N:List Str} {nt:Nat} {caps:List Nat} {h:Tg} {fe:ak->Rs D} {fi:ak->Rs (List D)} (hN:X.N.Nodup)
  (c:yP X sc N nt caps) (hc:X.calm=true) (hnames:sc.names.all (fun y=>y.2 != .local || sc.names.lookup y.1 == some .local)=true) (hi:SI X B W tg iter fi) (hno:pG h)
  (ht:∀ s₀ H₀ C ex pins B',SG (jo X N s₀ H₀ sc (ju sc X.env) C ex pins) B' tg h)
  (he:∀ s₀ H₀ C ex pins B',SE (jo X N s₀ H₀ sc (ju sc X.env) C ex pins) B' WF elt fe)
  (hs:∀ x,foldedSetIterable iter X.env x=pure x:=by intro _;rfl) (hi':X.N[i]?=some y:=by rfl) (hx:Jg X.env.scope y:=by first|exact Or.inl rfl|exact Or.inr rfl)
  (hsw:swapsWith (.ListComp elt [⟨tg,iter,[],0⟩] sc pos) (some (.Name y py)) spos.line X.env=pure true:=by rfl)
  (hf:X.fn y=true∨X.env.scope.names.lookup y=some .local:=by first|exact .inl rfl|exact .inr rfl|assumption) :
  SS X B W (.Assign [.Name y py] (.ListComp elt [⟨tg,iter,[],0⟩] sc pos) spos) (uD i (jc h (fun _=>.ok true) fe nt caps fi)) :=
 Ob hN hi' hx c hc (fun y hy hl=>by
  have:=List.all_eq_true.mp hnames y hy
  simp only [Bool.or_eq_true,bne_iff_ne,beq_iff_eq,ne_eq] at this
  exact this.elim (fun z=>absurd hl z) id) hi hno ht (.inl ⟨rfl,rfl⟩) he hs hsw hf
end Vl
namespace Vl
open PySem PySem.Spec L2
section
variable {X:Cx} {B:Bs} {W:Wi} {K:PySem.W.Frag} {a b:Expr} {pos:Pos} {fa fb:ak->Rs D}
end
end Vl
namespace Vl
open PySem PySem.Spec L2
section
variable {X:Cx} {B:Bs} {W:Wi}
theorem RJ {pins:List (Addr×Obj)} {σ:St} {H:Hp} {s:Shared} {b:Addr} {ks:List Int} (I:Inv X pins σ H s) (h:lK X.K H b (ks.map V.int)):IsTupleKey (intKind X.prog X.w) s.heap ks b:=by
 obtain ⟨its,r,⟨o,ho,hc,n,hd⟩,hz⟩:=I.tuple h
 refine ⟨o,its.toArray,n,ho,hc,hd,?_⟩
 show ItemsAre _ ks its
 clear hd h hz
 induction ks generalizing its with
 | nil=>cases r;exact .nil
 | cons k ks ih =>
  cases r with
  | cons r1 r2 =>
   obtain ⟨t,rfl⟩:=r1
   exact .cons (intKind_is X.prog X.w k t) (ih _ r2)
abbrev DP (U:Addr->List Int->Prop):=Paired (fun (p:List Int×V) (q:List Int×Addr×Value)=>p.1=q.1/\U q.2.1 q.1/\RelV p.2 q.2.2)
theorem afi {pins:List (Addr×Obj)} {σ:St} {H:Hp} {s:Shared} {d:Addr} {U:Addr->List Int->Prop} {cJ:List (List Int×V)} (I:Inv X pins σ H s) (hd:H d=some (.ext (wX U d cJ))) (hU:∀ b ks,U b ks->UG X.K H b ks) :
  ∃ xs,s.heap.DictOfH (tupleKind (intKind X.prog X.w)) d xs/\(d == sysModules)=false/\DP U cJ xs/\(xs.map (·.1)).Nodup:=by
 obtain ⟨⟨o,es,ep,xs,h1,h2,h3,h4,h5,h6,h7⟩,_,_⟩:=(show eZ X.prog X.w H s.heap d (.ext (wX U d cJ)) from I.hok d _ hd)
 refine ⟨xs,⟨o,es,ep,h1,h2,h3,h5,fun x hx=>?_,h6⟩,h4,h7,h6⟩
 have:∀ {cJ:List (List Int×V)} {xs:List (List Int×Addr×Value)},DP U cJ xs->∀ x∈xs,U x.2.1 x.1:=by
  intro cJ xs r
  induction r with
  | nil=>intro x hx;cases hx
  | cons r1 _ ih =>
   intro x hx
   rcases List.mem_cons.mp hx with rfl|hx
   ·exact r1.2.1
   ·exact ih x hx
 exact RJ I (hU _ _ (this h7 x hx))
def vR (cJ:List (List Int×V)) (ks:List Int):Option V:=(cJ.find? fun p=>decide (p.1=ks)).map (·.2)
def Pb (cJ:List (List Int×V)) (ks:List Int) (v:V):List (List Int×V):=if (vR cJ ks).isSome then cJ.map (fun p=>if p.1=ks then (p.1,v) else p) else cJ++[(ks,v)]
theorem KC {U:Addr->List Int->Prop} {ks:List Int}:∀ {cJ:List (List Int×V)} {xs:List (List Int×Addr×Value)},DP U cJ xs->(vR cJ ks=none/\atKey xs ks=none)∨∃ v q,vR cJ ks=some v/\atKey xs ks=some q/\RelV v q.2
 | [],_,.nil=>.inl ⟨rfl,rfl⟩
 | p::cJ,q::xs,.cons r t=>by
  by_cases c:p.1=ks
  ·have c':q.1=ks:=r.1▸c
   exact .inr ⟨p.2,q.2,by simp [vR,List.find?_cons,c],by simp [atKey,List.find?_cons,c'],r.2.2⟩
  ·have c':¬ q.1=ks:=fun z=>c (r.1.trans z)
   have e1:vR (p::cJ) ks=vR cJ ks:=by simp [vR,List.find?_cons,c]
   have e2:atKey (q::xs) ks=atKey xs ks:=by simp [atKey,List.find?_cons,c']
   rw [e1,e2]
   exact KC t
theorem Paired.app {α β:Type} {F:α->β->Prop}:∀ {l₁ l₁':List α} {l₂ l₂':List β},Paired F l₁ l₂->Paired F l₁' l₂'->Paired F (l₁++l₁') (l₂++l₂')
 | _,_,_,_,.nil,t'=>t'
 | _,_,_,_,.cons r t,t'=>.cons r (Paired.app t t')
theorem Yo {U:Addr->List Int->Prop} {ks:List Int} {b:Addr} {v:V} {u:Value} {cJ:List (List Int×V)} {xs:List (List Int×Addr×Value)} (r:DP U cJ xs) (hb:U b ks) (rv:RelV v u):DP U (Pb cJ ks v) (storedH xs ks b u):=by
 rcases KC (ks:=ks) r with ⟨e1,e2⟩|⟨v',q,e1,e2,_⟩
 ·unfold Pb storedH
  rw [e1,e2]
  exact Paired.app r (.cons ⟨rfl,hb,rv⟩ .nil)
 ·unfold Pb storedH
  rw [e1,e2]
  show DP U (cJ.map _) (xs.map _)
  clear e1 e2
  induction r with
  | nil=>exact .nil
  | cons r1 _ ih =>
   refine .cons ?_ ih
   rename_i p q' _ _ _
   by_cases c:p.1=ks
   ·have c':q'.1=ks:=r1.1▸c
    unfold putAt
    dsimp only
    rw [if_pos c,if_pos c']
    exact ⟨r1.1,r1.2.1,rv⟩
   ·have c':¬ q'.1=ks:=fun z=>c (r1.1.trans z)
    unfold putAt
    dsimp only
    rw [if_neg c,if_neg c']
    exact r1
theorem RK {U:Addr->List Int->Prop} {P:Program} {w:World} {d:Addr} {h':Heap} {xs:List (List Int×Addr×Value)} {cJ:List (List Int×V)} {H:Hp} (hm:h'.DictOfH (tupleKind (intKind P w)) d xs) (hs:(d == sysModules)=false) (hp:DP U cJ xs):eZ P w H h' d (.ext (wX U d cJ)):=by
 obtain ⟨o,es,ep,h1,h2,h3,h4,h5,h6⟩:=hm
 refine ⟨⟨o,es,ep,xs,h1,h2,h3,hs,h4,h6,hp⟩,⟨o,h1⟩,?_⟩
 rintro g1 g2 ⟨o,es,ep,xs,h1,h2,h3,hs,h4,h6,hp⟩ k
 exact ⟨o,es,ep,xs,k _ h1,h2,h3,hs,h4,h6,hp⟩
end
end Vl
namespace Vl
open PySem PySem.Spec L2
section
variable {X:Cx} {B:Bs} {W:Wi}
theorem wX.mono {U U':Addr->List Int->Prop} {a:Addr} {cJ:List (List Int×V)} {xs:List (List Int×Addr×Value)} (h:∀ b ks,U b ks->U' b ks) (r:DP U cJ xs):DP U' cJ xs:=Paired.adG r fun p q z=>⟨z.1,h _ _ z.2.1,z.2.2⟩
def ahK (K:PySem.W.Frag):aal:=fun o i v H Q=>∃ (b d:Addr) (ks:List Int) (U U':Addr->List Int->Prop) (cJ:List (List Int×V)),o=.ref d/\i=.ref b/\lK K H b (ks.map V.int)/\H d=some (.ext (wX U d cJ))/\(∀ b ks,U b ks->U' b ks)/\(∀ b ks,U' b ks->UG K H b ks)/\U' b ks/\cJ.length<=1000000 /\
 Q (dY H d (.ext (wX U' d (Pb cJ ks v))))
theorem Yp (hu:X.A.units + 1 < cLine):adN X (ahK X.K):=by
 intro pins s σ H o i v ov iv u Q I ro ri rv ⟨b,d,ks,U,U',cJ,e1,e2,hb,hd,hm,hU,hk,hz,q⟩
 subst e1;subst e2
 cases ro;cases ri
 obtain ⟨xs,hx,hs,hp,_⟩:=afi I hd fun b ks z=>hU b ks (hm b ks z)
 refine wpAny_setItem_heap (tupleKind_room_in1 hu) (RJ I hb) hx (fun h' hx' sb=>?_) (by rw [<- Paired.length hp];exact sz6 hz)
 refine ⟨_,I.write (x:=d) (e:=d) (t':=_) (by rw [hd];trivial) (.inl rfl) (fun b' u' ne e=>?_) ?_ (RK hx' hs (Yo (wX.mono (a:=d) hm hp) hk rv)),q⟩
 ·exact (sb.2 b' ne).symm▸e
 ·obtain ⟨o,_,_,e,_⟩:=hx';exact ⟨o,e⟩
theorem abr {pos:Pos}:PE X (.Dict [] [] pos) (fun _ H Q=>∀ l,H l=none->Q (.ref l) (dY H l (.ext (wX (fun _ _=>False) l [])))):=by
 intro pins s σ H Q I h
 have far:sysModules≠s.heap.objs.size:=fun z=>by
  have lt:=(I.mod.glob.keeps I.bk).lt
  rw [<- z] at lt
  exact absurd lt (by decide)
 refine wpAny_Dict_empty ⟨.ref s.heap.objs.size,_,I.laid (t':=s.toks) (fun b u e=>Heap.get?_push_of_some _ e) (Nat.le_refl _) (RK (.new s.heap) (by simpa using Ne.symm far) .nil),rfl,h _ I.fresh⟩
theorem abt {i:Nat} {x:Str} {pos pos' lp:Pos} (hN:X.N.Nodup) (hi:X.N[i]?=some x) (hx:Jg X.env.scope x) (hs:swapsWith (.Dict [] [] lp) (some (.Name x pos')) pos.line X.env=pure false:=by rfl) (hf:X.fn x=true∨X.env.scope.names.lookup x=some .local:=by first|exact .inl rfl|exact .inr rfl|assumption) :
  SS X B W (.Assign [.Name x pos'] (.Dict [] [] lp) pos) (fun ρ=>.nx (ρ.set i (.od []))):=by
 refine PS.imp (vp hN hi hx abr hs hf) fun De σ H ⟨ρ,G,s,p⟩=>fun l hl=>?_
 exact p _ _ G (s.WK rfl ⟨_,[],rfl,fun _ _ z=>z.elim,.nil⟩ hl) (.refl _)
def mL:List D->Option (List Int)
 | []=>some []
 | .int i::ds=>(mL ds).map (i::·)
 | _::_=>none
def zH:D->Option (List Int)
 | .tup ds=>mL ds
 | _=>none
theorem zJ {K:PySem.W.Frag} {G:Hp}:∀ {ds:List D} {vs:List V} {ks:List Int},aZ K G ds vs->mL ds=some ks->vs=ks.map V.int
 | [],vs,ks,r,e=>by
  cases e;exact bf.mp r
 | d::ds,vs,ks,r,e=>by
  obtain ⟨v,vs',rfl,r1,r2⟩:=aN.mp r
  cases d with
  | int i =>
   simp only [mL] at e
   cases e2:mL ds with
   | none=>rw [e2] at e;cases e
   | some js =>
    rw [e2] at e;cases e
    rw [aH.mp r1,zJ r2 e2];rfl
  | _=>cases e
theorem abu {K:PySem.W.Frag} {G:Hp} {d:D} {v:V} {ks:List Int} (r:Rep K G d v) (e:zH d=some ks):∃ b,v=.ref b/\lK K G b (ks.map V.int):=by
 cases d with
 | tup ds =>
  obtain ⟨a,vs,rfl,h,rr⟩:=aP.mp r
  exact ⟨a,rfl,zJ rr e▸h⟩
 | _=>cases e
def uO (kvs:List (List Int×D)) (ks:List Int):Option D:=(kvs.find? fun p=>decide (p.1=ks)).map (·.2)
def jX (kvs:List (List Int×D)) (ks:List Int) (d:D):List (List Int×D):=if (uO kvs ks).isSome then kvs.map (fun p=>if p.1=ks then (p.1,d) else p) else kvs++[(ks,d)]
theorem dG.get {K:PySem.W.Frag} {G:Hp} {ks:List Int} {kvs:List (List Int×D)} {cJ:List (List Int×V)} (h:dG K G kvs cJ):(uO kvs ks=none/\vR cJ ks=none)∨∃ d v,uO kvs ks=some d/\vR cJ ks=some v/\Rep K G d v:=by
 induction h with
 | nil=>exact .inl ⟨rfl,rfl⟩
 | @cons k d v kvs cJ r t ih =>
  by_cases c:k=ks
  ·exact .inr ⟨d,v,by simp [uO,List.find?_cons,c],by simp [vR,List.find?_cons,c],r⟩
  ·have e1:uO ((k,d)::kvs) ks=uO kvs ks:=by simp [uO,List.find?_cons,c]
   have e2:vR ((k,v)::cJ) ks=vR cJ ks:=by simp [vR,List.find?_cons,c]
   rw [e1,e2];exact ih
theorem dG.app {K:PySem.W.Frag} {G:Hp} {k:List Int} {d:D} {v:V} {kvs:List (List Int×D)} {cJ:List (List Int×V)} (h:dG K G kvs cJ) (r:Rep K G d v):dG K G (kvs++[(k,d)]) (cJ++[(k,v)]):=by
 induction h with
 | nil=>exact .cons r .nil
 | cons r1 _ ih=>exact .cons r1 ih
theorem dG.len {K:PySem.W.Frag} {G:Hp} {kvs:List (List Int×D)} {cJ:List (List Int×V)} (h:dG K G kvs cJ):kvs.length=cJ.length:=by
 induction h with
 | nil=>rfl
 | cons _ _ ih=>simp [ih]
theorem dG.put {K:PySem.W.Frag} {G:Hp} {ks:List Int} {d:D} {v:V} {kvs:List (List Int×D)} {cJ:List (List Int×V)} (h:dG K G kvs cJ) (r:Rep K G d v):dG K G (jX kvs ks d) (Pb cJ ks v):=by
 rcases h.get (ks:=ks) with ⟨e1,e2⟩|⟨_,_,e1,e2,_⟩
 ·unfold jX Pb;rw [e1,e2];exact h.app r
 ·unfold jX Pb;rw [e1,e2]
  show dG K G (kvs.map _) (cJ.map _)
  clear e1 e2
  induction h with
  | nil=>exact .nil
  | @cons k d' v' kvs cJ r1 _ ih =>
   by_cases c:k=ks
   ·simpa [c] using dG.cons r ih
   ·simpa [c] using dG.cons r1 ih
theorem SR.od {K:PySem.W.Frag} {σ:St} {H G:Hp} {ρ:ak} (h:SR K B σ H ρ G) {i:Nat} {kvs:List (List Int×D)} (q:ρ[i]?=some (.od kvs)) :
  ∃ a U cJ,σ[i]?=some (some (.ref a))/\H a=some (.ext (wX U a cJ))/\G a=none/\B.2 a=none/\(∀ b ks,U b ks->UG K G b ks)/\dG K G kvs cJ:=by
 obtain ⟨a,o,h1,h2,h3,h4,U,cJ,rfl,h5,h6⟩:=h.own i _ q rfl
 exact ⟨a,U,cJ,h1,h2,h3,h4,h5,h6⟩
end
end Vl
namespace Vl
open PySem PySem.Spec L2
section
variable {X:Cx} {B:Bs} {W:Wi}
theorem Yq {K:PySem.W.Frag} {σ:St} {H G H' G':Hp} {ρ:ak} {j:Nat} {kvs:List (List Int×D)} {k:D} {v:V} {ks:List Int} (s:SR K B σ H ρ G) (q:ρ[j]?=some (.od kvs)) (y:Ext G H G' H') (r:Rep K G' k v) (e:zH k=some ks) :
  ∃ b d U cJ,v=.ref b/\σ[j]?=some (some (.ref d))/\lK K H' b (ks.map V.int)/\UG K G' b ks/\H' d=some (.ext (wX U d cJ))/\(∀ b ks,U b ks->UG K G' b ks)/\(∀ b ks,UG K G' b ks->UG K H' b ks)/\dG K G' kvs cJ:=by
 obtain ⟨b,rfl,hb⟩:=abu r e
 obtain ⟨d,U,cJ,h1,h2,h3,h4,h5,h6⟩:=s.od q
 exact ⟨b,d,U,cJ,rfl,h1,Same.gU y.gh hb,hb,y.hh _ _ h2,fun c js z=>Same.gU y.gg (h5 c js z),fun c js z=>Same.gU y.gh z,h6.mono y.gg⟩
def zK (j:Nat) (fe fk:ak->Rs D):ak->Ou:=fun ρ=>oR (fe ρ) ρ fun v=>match ρ[j]? with
 | some (.od kvs)=>oR (fk ρ) ρ fun k=>(match zH k with
  | some ks=>if kvs.length<=1000000 then .nx (ρ.set j (.od (jX kvs ks v))) else .no
  | none=>.no)
 | _=>.no
theorem abv {e b:Expr} {x:Str} {p1 tp pos:Pos} {j:Nat} {fe fk:ak->Rs D} (hu:X.A.units + 1 < cLine) (he:SE X B W e fe) (hv:PE X (.Name x p1) (Td j)) (hb:SE X B W b fk)
  (hs:swapsWithSole [.Subscript (.Name x p1) b tp] e pos.line X.env=pure false:=by rfl) (hw:swappedStores [.Subscript (.Name x p1) b tp] e X.env=pure none:=by rfl)
  (h1:(assignEach [.Subscript (.Name x p1) b tp] X.env).map (·.2)=[assign (.Subscript (.Name x p1) b tp) X.env]:=by rfl)
  (ha:∀ v,assign (.Subscript (.Name x p1) b tp) X.env v=(do
   let ov <- holding [v] (eval (.Name x p1) X.env)
   let iv <- holding [v,ov] (eval b X.env)
   standAt tp
   holding [v,ov,iv] (setItem ov iv v)
   release [v,ov,iv] []):=by intro _;rfl) :
  SS X B W (.Assign [.Subscript (.Name x p1) b tp] e pos) (zK j fe fk):=by
 refine PS.imp (Nj he (Ni hv hb (Yp hu) ha) hs hw h1) fun De σ H ⟨ρ,G,s,p⟩=>?_
 unfold zK at p
 refine ⟨ρ,G,s,gG s p fun d v H' G' _ y r p'=>?_⟩
 cases e2:ρ[j]? with
 | none=>rw [e2] at p';exact p'.elim
 | some z =>
  rw [e2] at p'
  cases z with
  | od kvs =>
   have s':=s.ext y
   obtain ⟨d0,U0,akh,h1,h2,_⟩:=s'.od e2
   refine ⟨_,h1,ρ,G',s',gG s' p' fun k v2 H2 G2 _ y2 r2 p2=>?_⟩
   cases e1:zH k with
   | none=>rw [e1] at p2;exact p2.elim
   | some ks =>
    rw [e1] at p2
    dsimp only at p2
    by_cases hl:kvs.length<=1000000
    ·rw [if_pos hl] at p2
     obtain ⟨b',d1,U,cJ,rfl,q1,q2,q3,q4,q5,q6,q7⟩:=Yq s' e2 y2 r2 e1
     rw [h1] at q1
     cases q1
     refine ⟨b',d0,ks,U,UG X.K G2,cJ,rfl,rfl,q2,q4,q5,q6,q3,by rw [<- q7.len];exact hl,?_⟩
     exact p2 σ _ G2 ((s'.ext y2).ux e2 rfl h1 rfl ⟨UG X.K G2,_,rfl,fun _ _ z=>z,q7.put (r.mono y2.gg)⟩) (.refl _)
    ·rw [if_neg hl] at p2;exact p2.elim
  | _=>exact p'.elim
end
end Vl
namespace Vl
open PySem PySem.Spec L2
section
variable {X:Cx} {B:Bs} {W:Wi}
end
end Vl
namespace Vl
open PySem PySem.Spec L2
def abw (i:Nat):ak->Ou:=fun ρ=>.nx (ρ.set i (.od []))
section
variable {X:Cx} {B:Bs} {W:Wi}
theorem Pg (i:Nat) {x:Str} {pos pos' lp:Pos} (hN:X.N.Nodup) (hi:X.N[i]?=some x:=by rfl) (hx:Jg X.env.scope x:=by first|exact Or.inl rfl|exact Or.inr rfl) (hs:swapsWith (.Dict [] [] lp) (some (.Name x pos')) pos.line X.env=pure false:=by rfl) (hf:X.fn x=true∨X.env.scope.names.lookup x=some .local:=by first|exact .inl rfl|exact .inr rfl|assumption) :
  SS X B W (.Assign [.Name x pos'] (.Dict [] [] lp) pos) (abw i):=abt hN hi hx hs hf
theorem adw (h:X.A.units + 8 < cLine):X.A.units + 1 < cLine:=by omega
theorem RL (j:Nat) {e b:Expr} {x:Str} {p1 tp pos:Pos} {fe fk:ak->Rs D} (hu:X.A.units + 8 < cLine) (he:SE X B W e fe) (hb:SE X B W b fk) (hN:X.N[j]?=some x:=by rfl) (hv:Nf X.env.scope x:=by first|exact Or.inl rfl|exact Or.inr (Or.inl rfl)|exact Or.inr (Or.inr rfl)) (hd:(x == ("__debug__":Str))=false:=by decide)
  (hcd:(x == ("__classdict__":Str))=false:=by decide)
  (hs:swapsWithSole [.Subscript (.Name x p1) b tp] e pos.line X.env=pure false:=by rfl) (hw:swappedStores [.Subscript (.Name x p1) b tp] e X.env=pure none:=by rfl)
  (h1:(assignEach [.Subscript (.Name x p1) b tp] X.env).map (·.2)=[assign (.Subscript (.Name x p1) b tp) X.env]:=by rfl)
  (ha:∀ v,assign (.Subscript (.Name x p1) b tp) X.env v=(do
   let ov <- holding [v] (eval (.Name x p1) X.env)
   let iv <- holding [v,ov] (eval b X.env)
   standAt tp
   holding [v,ov,iv] (setItem ov iv v)
   release [v,ov,iv] []):=by intro _;rfl) :
  SS X B W (.Assign [.Subscript (.Name x p1) b tp] e pos) (zK j fe fk):=abv (adw hu) he (iu hN hv hd hcd) hb hs hw h1 ha
end
end Vl
namespace Vl
open PySem PySem.Spec L2
section
variable {X:Cx} {K:PySem.W.Frag} {B:Bs} {W:Wi} {σ:St} {G H:Hp} {ρ:ak} {a b c:Expr} {pos:Pos} {fa fb fc:ak->Rs D}
end
end Vl
namespace Vl
open PySem PySem.Spec L2
section
variable {X:Cx} {B:Bs} {W:Wi}
end
end Vl
namespace L2
open PySem PySem.Spec PyProof.Rows
section
variable {X:Cx} {pins:List (Addr×Obj)} {σ:List (Option V)} {H:Hp} {s:Shared} {h':Heap}
end
section
variable {X:Cx}
end
end L2
namespace Vl
open PySem PySem.Spec L2
section
variable {X:Cx} {B:Bs} {W:Wi}
end
end Vl
namespace PySem
namespace Rvd
theorem Uq:Slot "reversed" "__init__" "object.__init__" :=
 .of (owner:="object") (n:="__init__") (by rw [typeLookup_type,builtinLookup_eq_fast];kernel_rfl) (by decide +kernel) (by decide +kernel) (by decide +kernel)
  (by first|exact .inl (by decide +kernel)|exact .inr (by decide +kernel)) (by rw [isSubtype_type];kernel_rfl)
theorem aki:TypeCalled "reversed" "reversed.__new__" "object.__init__" :=
 ⟨by decide +kernel,by decide +kernel,⟨_,_,F.mro_reversed⟩,F.made_reversed,by decide +kernel,by rw [isSubtype_type];kernel_rfl,Uq⟩
end Rvd
section
variable {prog:Program} {w:World} {A:Around} {E:Value->Shared->Prop} {s:Shared}
end
end PySem
namespace PySem
open PyProof.Rows (IsTup)
section
variable {prog:Program} {w:World} {A:Around} {E:Value->Shared->Prop} {s:Shared}
end
section
variable {prog:Program} {w:World} {A:Around} {E:Value->Shared->Prop} {s:Shared}
end
end PySem
namespace Vl
open PySem PySem.Spec L2
section
variable {X:Cx} {B:Bs} {W:Wi} {K:PySem.W.Frag}
end
end Vl
namespace Vl
open PySem PySem.Spec PySem.Calls PySem.W L2
structure amA (K:PySem.W.Frag) (x:Str) (st:Stmt) (f:Addr) (fd:FuncData) (ps:List Str):Prop where
 ex:∃ (oc:Value) (od:Option Addr) (dV kV doc pm:Value) (an:Option Addr) (cdv ct:Value) (osl:Array (Option Value)),
  fd=PySem.W.fnOf x x (bK st) (bC st) (aD st) dV kV doc pm an cdv ct/\K.lookup f=some ⟨oc,od,.func fd,osl⟩/\PySem.W.codeIn K cdv x=true
 kp:PySem.W.keepIn K (.ref f)=true
 bi:Binds K fd ps []
end Vl
namespace Vl
open PySem PySem.Spec L2
section
variable {X:Cx} {K:PySem.W.Frag} {B:Bs} {W:Wi} {σ:St} {G H:Hp} {ρ:ak} {a b c:Expr} {pos:Pos} {fa fb fc:ak->Rs D}
end
section
variable {X:Cx} {B:Bs} {W:Wi}
end
end Vl
namespace Dk
open PySem PySem.Spec
section
variable {prog:Program} {w:World} {A:Around} {E:Value->Shared->Prop} {s:Shared} {d it:Addr} {es:Array DictEntry} {ep:Nat}
def sJ (h:Heap) (d:Addr) (es:Array DictEntry) (ep:Nat):Prop:=∃ o,h.get? d=some o/\o.ExactDict/\o.data=.dict es ep
theorem sJ.ty (x:sJ s.heap d es ep):s.TypeIs (.ref d) "dict":=let ⟨o,ho,hc,_⟩:=x;⟨o,ho,hc.1⟩
theorem sJ.go {h h':Heap} (x:sJ h d es ep) (e:∀ o,h.get? d=some o->h'.get? d=some o):sJ h' d es ep:=let ⟨o,ho,r⟩:=x;⟨o,e o ho,r⟩
def kit (d:Addr) (i n ep:Nat):Obj:={ cls:=.type "dict_keyiterator",data:=.fields #[.ref d,.int i 0,.int n 0,.int ep 0] }
theorem afj {h:Heap} {i n:Nat} (e:h.get? it=some (kit d i n ep)):h.IsKeyIter it d i n ep:=⟨_,e,rfl,rfl⟩
theorem ahL {Q:Value->Shared->Prop} (hd:(d == sysModules)=false) (hm:sJ s.heap d es ep) (hQ:Q (.ref s.heap.objs.size) { s with heap:=s.heap.push (kit d 0 es.size ep) }):wpAny (model prog w) A (pyIter (.ref d)) Q E s:=by
 obtain ⟨o,ho,hc,hdat⟩:=id hm
 refine wpAny_pyIter_slot hm.ty F.slot_dict_iter (wpAny_call_entry F.slot_dict_iter hm.ty F.entry_dict_iter ?_ (F.args_dict_iter_1 _))
 unfold Builtin.«dict.__iter__» Builtin.Dict.dictSlotNone
 refine wpAny_bind (wpAny_bind (wpAny_notOrdered_dict hm.ty ?_))
 show wpAny _ _ (pure (Value.ref d)) _ _ s
 refine wpAny_pure ?_
 show wpAny _ _ (Builtin.Dict.showsAll d >>= _) _ _ s
 unfold Builtin.Dict.showsAll
 rw [if_neg (by rw [hd];exact Bool.false_ne_true)]
 refine wpAny_bind (wpAny_pure (wpAny_bind (wpAny_dictEntries ho hdat (wpAny_bind (wpAny_dictEpoch ho hdat ?_)))))
 exact wpAny_bind (wpAny_newObj_type (wpAny_pure ⟨_,rfl,"dict_keyiterator",_,⟨_,Heap.get?_push_size _ rfl,rfl⟩,F.slot_dict_keyiterator_next.lookup,hQ⟩))
theorem ahM {i:Nat} {Q:Option Value->Shared->Prop} (hit:s.heap.IsKeyIter it d i es.size ep) (hm:sJ s.heap d es ep) (hx:i < es.size)
  (hQ:∀ h',h'.IsKeyIter it d (i + 1) es.size ep->Heap.SameBut it s.heap h'->Q (some es[i].key) { s with heap:=h' }):wpAny (model prog w) A (pyNext (.ref it)) Q E s:=by
 obtain ⟨o,ho,hc,hd⟩:=id hit
 obtain ⟨od,hod,hcd,hdd⟩:=id hm
 unfold pyNext
 refine wpAny_bind (wpAny_attempt (wpAny_callSpecial?_slot (name:=Str.ofString "__next__") hit.typeIs F.slot_dict_keyiterator_next (wpAny_call_entry F.slot_dict_keyiterator_next hit.typeIs F.entry_dict_keyiterator_next ?_ (F.args_dict_keyiterator_next_1 _))))
 refine wpAny_bind (wpAny_pure (wpAny_bind (wpAny_bind (wpAny_bind ?_))))
 first|refine wpAny_typeNameOfWhole_keyiter hit.typeIs (wpAny_pure ?_)|refine wpAny_typeNameOf_keyiter hit.typeIs (wpAny_pure ?_)
 refine wpAny_bind (wpAny_fieldsOf ho hd ?_)
 simp only [show Builtin.Dict_items.ownsTuple "dict_keyiterator"=false by decide,Bool.false_eq_true,if_false]
 show wpAny _ _ (if (Value.ref d == Value.none)=true then _ else _) _ _ s
 rw [if_neg (by intro z;cases z)]
 refine wpAny_bind (wpAny_pure (wpAny_bind (wpAny_dictEntries hod hdd ?_)))
 rw [if_neg (by simp)]
 refine wpAny_bind (wpAny_pure (wpAny_bind (wpAny_dictEpoch hod hdd ?_)))
 rw [if_neg (by simp)]
 refine wpAny_pure ?_
 simp only [show ¬ ((i:Int) < 0) from by omega,if_false,Int.toNat_natCast,Array.getElem?_eq_getElem hx]
 refine wpAny_bind (wpAny_bind ?_)
 first|refine wpAny_typeNameOfWhole_keyiter hit.typeIs (wpAny_pure ?_)|refine wpAny_typeNameOf_keyiter hit.typeIs (wpAny_pure ?_)
 refine wpAny_bind (wpAny_isOneOf_keyiter hit.typeIs ?_)
 show wpAny _ _ (setField (.ref it) 1 (rawInt ((i:Int) + 1)) >>= _) _ _ s
 refine wpAny_bind (wpAny_setField ho hd (by simp) ?_)
 have hit':(s.heap.update it (Obj.mapFields (·.setIfInBounds 1 (rawInt ((i:Int) + 1))))).IsKeyIter it d (i + 1) es.size ep :=
  ⟨_,Heap.get?_update_self _ ho (Obj.isFreed_of_fields (Obj.data_mapFields hd _)),(Obj.cls_mapFields ..).trans hc,by rw [Obj.data_mapFields hd];simp [rawInt]⟩
 refine wpAny_bind (wpAny_holding (wpAny_bind ?_))
 refine wpAny_isOneOf_keyiter (s:={ s with heap:=s.heap.update it (Obj.mapFields (·.setIfInBounds 1 (rawInt ((i:Int) + 1)))) }) hit'.typeIs ?_
 show wpAny _ _ (pure es[i].key) _ _ _
 exact wpAny_pure (wpAny_pure ⟨_,rfl,wpAny_pure (hQ _ hit' (Heap.SameBut.update ..))⟩)
theorem akj {Q:Option Value->Shared->Prop} (hh:A.handled=none) (hit:s.heap.IsKeyIter it d es.size es.size ep) (hm:sJ s.heap d es ep)
  (hQ:∀ h',Heap.ExtBut it s.heap h'->Q none { s with heap:=h' }):wpAny (model prog w) A (pyNext (.ref it)) Q E s:=by
 obtain ⟨o,ho,hc,hd⟩:=id hit
 obtain ⟨od,hod,hcd,hdd⟩:=id hm
 unfold pyNext
 refine wpAny_bind (wpAny_attempt (wpAny_callSpecial?_slot (name:=Str.ofString "__next__") hit.typeIs F.slot_dict_keyiterator_next (wpAny_call_entry F.slot_dict_keyiterator_next hit.typeIs F.entry_dict_keyiterator_next ?_ (F.args_dict_keyiterator_next_1 _))))
 refine wpAny_bind (wpAny_pure (wpAny_bind (wpAny_bind (wpAny_bind ?_))))
 first|refine wpAny_typeNameOfWhole_keyiter hit.typeIs (wpAny_pure ?_)|refine wpAny_typeNameOf_keyiter hit.typeIs (wpAny_pure ?_)
 refine wpAny_bind (wpAny_fieldsOf ho hd ?_)
 simp only [show Builtin.Dict_items.ownsTuple "dict_keyiterator"=false by decide,Bool.false_eq_true,if_false]
 show wpAny _ _ (if (Value.ref d == Value.none)=true then _ else _) _ _ s
 rw [if_neg (by intro z;cases z)]
 refine wpAny_bind (wpAny_pure (wpAny_bind (wpAny_dictEntries hod hdd ?_)))
 rw [if_neg (by simp)]
 refine wpAny_bind (wpAny_pure (wpAny_bind (wpAny_dictEpoch hod hdd ?_)))
 rw [if_neg (by simp)]
 refine wpAny_pure ?_
 simp only [show ¬ ((es.size:Int) < 0) from by omega,if_false,Int.toNat_natCast,Array.getElem?_eq_none (Nat.le_refl _)]
 refine wpAny_bind (wpAny_bind ?_)
 first|refine wpAny_typeNameOfWhole_keyiter hit.typeIs (wpAny_pure ?_)|refine wpAny_typeNameOf_keyiter hit.typeIs (wpAny_pure ?_)
 show wpAny _ _ (setField (.ref it) 0 .none >>= _) _ _ s
 refine wpAny_bind (wpAny_setField ho hd (by simp) ?_)
 show wpAny _ _ (newExc (.type "StopIteration") [] >>= _) _ _ _
 refine wpAny_bind ?_
 simp only [newExc,newTuple]
 refine wpAny_bind (wpAny_newObj_type ?_ (by size_fits))
 refine wpAny_bind (m:=firstArgMember _ _) (wpAny_of_eq (a:=Value.none) (by first|rfl|(simp only [firstArgMember];rfl)) ?_)
 refine wpAny_newObj_type ?_ (by size_fits)
 simp only [raiseNew]
 refine wpAny_bind (wpAny_handled ?_)
 rw [show A.in1.handled=none from hh]
 refine wpAny_bind (wpAny_pure (wpAny_throw ?_))
 refine wpAny_bind (wpAny_isInstance (T:="StopIteration") (b:=true) ⟨_,Heap.get?_push_size _ rfl,rfl⟩ isSubtype_stop ?_)
 exact wpAny_pure (hQ _ (((Heap.SameBut.update ..).extBut.push _).push _))
theorem afk (hh:A.handled=none) (hne:d≠it) :
  Walks prog w A it [it,d] [it] es.size (fun i v=>∃ e,es[i]?=some e/\v=e.key) (fun i h=>h.IsKeyIter it d i es.size ep/\sJ h d es ep) where
 sub:=fun b hb=>by simp at hb;simp [hb]
 frame:=fun _ _ _ st hk=>⟨st.1.at fun o e=>hk it (by simp) o e,st.2.go fun o e=>hk d (by simp) o e⟩
 item:=fun i s Q E hi st hQ=>ahM st.1 st.2 hi fun h' hI hs=>hQ _ h' s.toks ⟨_,Array.getElem?_eq_getElem hi,rfl⟩ ⟨hI,st.2.go fun o e=>(hs.2 d hne).trans e⟩ fun b o hb e=>(hs.2 b (fun z=>hb (by simp [z]))).trans e
 done:=fun s Q E st hQ=>akj hh st.1 st.2 fun h' he=>hQ h' s.toks fun b o hb e=>he b o (fun z=>hb (by simp [z])) e
 self:=fun _ _ _ _ st hQ=>wpAny_pyIter_keyiter st.1 hQ
theorem ahN {Q:Bool->Shared->Prop} (hm:sJ s.heap d es ep) (h:Q false s):wpAny (model prog w) A (Builtin.List.listLengthHint (.ref d)) Q E s:=by
 unfold Builtin.List.listLengthHint
 refine wpAny_bind (wpAny_specialOf hm.ty F.slot_dict_len.lookup ?_)
 have e1:splitId "dict.__len__"=some ("dict","__len__"):=by kernel_rfl
 simp only [e1]
 refine wpAny_bind (wpAny_isInstance (b:=true) hm.ty (by rw [isSubtype_type];kernel_rfl) ?_)
 simp only [Bool.not_true,Bool.false_eq_true,if_false]
 have pick:∀ {c:Bool} {x y:Sem Bool},c=true->wpAny (model prog w) A x Q E s->wpAny (model prog w) A (if c=true then x else y) Q E s:=fun {c x y} hc hy=>by rw [hc];exact hy
 refine pick (by decide +kernel) ?_
 exact wpAny_bind (wpAny_typeOf hm.ty (wpAny_pure h))
abbrev bT:Obj:=Tb.bT
theorem Yr {D:Addr} {Q:List Value->Shared->Prop} (hh:A.handled=none) (hd:(D == sysModules)=false) (ho:sJ s.heap D es ep) (hn:es.size<=1000)
  (hQ:∀ h' tk,(∀ b o,s.heap.get? b=some o->h'.get? b=some o)->s.heap.objs.size<=h'.objs.size->Q (es.toList.map (·.key)) { s with heap:=h',toks:=tk }):wpAny (model prog w) A (collect (.ref D)) Q E s:=by
 have vJ:D < s.heap.objs.size:=by obtain ⟨o,e,_⟩:=id ho;exact Heap.lt_size e
 unfold collect
 refine wpAny_bind (wpAny_runValue (codeAny_builtin F.entry_proto_collect ?_))
 rw [Around.under_plainId F.plain_proto_collect _]
 show wpAny _ A.in1 (newList [] >>= fun l=>again (.builtin "list.__iadd__" ⟨[l,.ref D],[]⟩)) _ _ s
 refine wpAny_bind (wpAny_newObj_type ?_)
 refine wpAny_pure ⟨plainId_quiet F.plain_list_iadd _,codeAny_builtin F.entry_list_iadd ?_⟩
 rw [Around.under_plainId F.plain_list_iadd _]
 have p1:∀ b o,s.heap.get? b=some o->(s.heap.push bT).get? b=some o:=fun b o e=>Heap.get?_push_of_some _ e
 have hD1:sJ (s.heap.push bT) D es ep:=ho.go fun o e=>p1 _ _ e
 have hS1:(s.heap.push bT).get? s.heap.objs.size=some bT:=Heap.get?_push_size _ rfl
 show wpAny _ A.in1 (Builtin.List.listExtendWith (.ref s.heap.objs.size) (.ref D) (.ref s.heap.objs.size)) _ _ _
 unfold Builtin.List.listExtendWith
 have hT:Shared.TypeIs { s with heap:=s.heap.push bT } (.ref D) "dict":=sJ.ty (s:={ s with heap:=s.heap.push bT }) hD1
 refine wpAny_bind (wpAny_typeOf hT ?_)
 have k1:Builtin.List.listSameRef (.ref s.heap.objs.size) (.ref D)=false:=by simp [Builtin.List.listSameRef];exact Nat.ne_of_gt vJ
 have k2:(Value.type "dict" == Value.type "list")=false:=by decide
 have k3:(Value.type "dict" == Value.type "tuple")=false:=by decide
 simp only [k1,k2,k3,Bool.or_self,Bool.false_eq_true,if_false]
 refine wpAny_bind (ahL hd hD1 ?_)
 have p2:∀ b o,(s.heap.push bT).get? b=some o->((s.heap.push bT).push (kit D 0 es.size ep)).get? b=some o:=fun b o e=>Heap.get?_push_of_some _ e
 have hD2:sJ ((s.heap.push bT).push (kit D 0 es.size ep)) D es ep:=hD1.go fun o e=>p2 _ _ e
 have hS2:=p2 _ _ hS1
 have hI2:((s.heap.push bT).push (kit D 0 es.size ep)).get? (s.heap.push bT).objs.size=some (kit D 0 es.size ep):=Heap.get?_push_size _ rfl
 have FQ:(s.heap.push bT).objs.size=s.heap.objs.size + 1:=Heap.size_push ..
 refine wpAny_bind (wpAny_holding (ahN hD2 ?_))
 have pick:∀ {c:Bool} {x y:Sem PySem.Fin} {R:PySem.Fin->Shared->Prop} {F':Value->Shared->Prop} {s':Shared},c=true->wpAny (model prog w) A.in1 x R F' s'->wpAny (model prog w) A.in1 (if c=true then x else y) R F' s':=fun {c x y R F' s'} hc hy=>by rw [hc];exact hy
 refine pick (by decide +kernel) ?_
 refine wpAny_bind (wpAny_rule ?_)
 refine wpAny_bind ?_
 show wpAny _ A.in1 (updateSeq s.heap.objs.size (·.push .none) >>= fun _=>updateSeq s.heap.objs.size (·.pop)) _ _ _
 refine wpAny_bind (wpAny_updateSeq hS2 rfl ?_)
 have hS3:=Heap.get?_update_self (Obj.mapSeq (·.push Value.none)) hS2 rfl
 refine wpAny_updateSeq hS3 rfl ?_
 have Aw:=Heap.get?_update_self (Obj.mapSeq (·.pop)) hS3 rfl
 generalize hH:(((s.heap.push bT).push (kit D 0 es.size ep)).update s.heap.objs.size (Obj.mapSeq (·.push Value.none))).update s.heap.objs.size (Obj.mapSeq (·.pop))=H at Aw
 have oth:∀ b o,b≠s.heap.objs.size->((s.heap.push bT).push (kit D 0 es.size ep)).get? b=some o->H.get? b=some o:=fun b o hb e=>by
  rw [<- hH];exact (Heap.get?_update_other _ _ (Ne.symm hb)).trans ((Heap.get?_update_other _ _ (Ne.symm hb)).trans e)
 have W:=(afk (prog:=prog) (w:=w) (A:=A.in1) (d:=D) (it:=(s.heap.push bT).objs.size) (es:=es) (ep:=ep) (by simpa using hh) (by rw [FQ];exact Nat.ne_of_lt (Nat.lt_succ_of_lt vJ))).toS
 have hSf:s.heap.objs.size∉[(s.heap.push bT).objs.size,D]:=by
  simp only [List.mem_cons,List.not_mem_nil,or_false,not_or]
  exact ⟨by rw [FQ];exact Nat.ne_of_lt (Nat.lt_succ_self _),Nat.ne_of_gt vJ⟩
 refine wpAny_pure ⟨plainId_quiet F.plain_extend_loop _,codeAny_extend_loopS W (by rw [sizeLine_eq];omega) s.heap.objs.size hSf _ es.size 0 _ _ _ rfl (Nat.zero_le _) ⟨afj (oth _ _ (by rw [FQ];exact Nat.succ_ne_self _) hI2),hD2.go fun o e=>oth _ _ (Nat.ne_of_lt vJ) e⟩ Aw (ItemsOf.nil _) fun s' acc c hm hS' hacc=>?_⟩
 show wpAny _ A (load s.heap.objs.size >>= _) _ _ s'
 refine wpAny_bind (wpAny_load hS' ?_)
 have hacc':acc.toList=es.toList.map (·.key):=by
  apply List.ext_getElem?
  intro i
  rw [List.getElem?_map,Array.getElem?_toList,Array.getElem?_toList]
  cases e:acc[i]? with
  | some v =>
   obtain ⟨x,hx,rfl⟩:=hacc.2 i v e
   rw [hx];rfl
  | none =>
   have:acc.size<=i:=by simpa using e
   rw [hacc.1] at this
   rw [Array.getElem?_eq_none this];rfl
 obtain ⟨h',g',d',tk',os'⟩:=s'
 have eg:g'=s.gens:=hm.gens
 have ed:d'=s.drawn:=hm.drawn
 have eo:os'=s.os:=hm.os
 subst eg ed eo
 show wpAny _ _ (pure acc.toList) _ _ _
 rw [hacc']
 refine wpAny_pure (hQ h' tk' (fun b o e=>hm.heap b o ?_ (oth b o (Nat.ne_of_lt (Heap.lt_size e)) (p2 _ _ (p1 _ _ e)))) (Nat.le_of_lt (Heap.lt_size hS')))
 simp only [List.mem_cons,List.not_mem_nil,or_false,not_or]
 exact ⟨Nat.ne_of_lt (Heap.lt_size e),by rw [FQ];exact Nat.ne_of_lt (Nat.lt_succ_of_lt (Heap.lt_size e))⟩
end
end Dk
namespace Vl
open PySem PySem.Spec L2 So Tb
section
variable {X:Cx} {B:Bs} {W:Wi} {K:PySem.W.Frag}
def afl (K:PySem.W.Frag):List V->Hp->VK->Prop:=fun xs H Q=>∃ (a:Addr) (U:Addr->List Int->Prop) (cJ:List (List Int×V)),xs=[.ref a]/\H a=some (.ext (wX U a cJ))/\(∀ b ks,U b ks->UG K H b ks)/\cJ.length < 1000/\(∀ p∈cJ,p.1≠[]) /\
 ∀ l zs,H l=none->zs.length=(bJ (cJ.map (·.1))).length->(∀ (i:Nat) v,zs[i]?=some v->∃ b,v=.ref b/\U b ((bJ (cJ.map (·.1))).getD i []))->Q (.ref l) (dY H l (.lst zs))
theorem wN {U:Addr->List Int->Prop}:∀ {cJ:List (List Int×V)} {xs:List (List Int×Addr×Value)},Paired (fun (p:List Int×V) (q:List Int×Addr×Value)=>p.1=q.1/\U q.2.1 q.1/\RelV p.2 q.2.2) cJ xs ->
  xs.map (·.1)=cJ.map (·.1)/\∀ x∈xs,U x.2.1 x.1
 | [],_,.nil=>⟨rfl,fun _ h=>by cases h⟩
 | p::cJ,q::xs,.cons r t=>by
  obtain ⟨e,m⟩:=wN t
  refine ⟨by rw [List.map_cons,List.map_cons,e,r.1],fun x hx=>?_⟩
  rcases List.mem_cons.mp hx with rfl|hx
  ·exact r.2.1
  ·exact m x hx
theorem zL (hc:X.calm=true):kW X (.builtin "sorted") (afl X.K):=by
 intro pins s σ H xs us Q I r h
 obtain ⟨a,U,cJ,rfl,hH,hU,hz,hne,q⟩:=h
 obtain ⟨u,rfl,rx⟩:=r.one
 cases rx
 obtain ⟨⟨o,es,ep,ys,ho,hx,hdat,hsys,hes,hnd,hp⟩,_⟩:=I.hok _ _ hH
 obtain ⟨ek,hu⟩:=wN hp
 have hlen:ys.length=cJ.length:=by have:=congrArg List.length ek;simpa using this
 have hsz:es.size=ys.length:=by have:=congrArg List.length hes;simpa using this
 have evs:es.toList.map (·.key)=ys.map fun x=>Value.ref x.2.1:=by rw [hes,List.map_map];rfl
 have each:∀ (i:Nat) v,(ys.map fun x=>Value.ref x.2.1)[i]?=some v->∃ b,v=.ref b/\IsTupleKey (intKind X.prog X.w) s.heap ((ys.map (·.1)).getD i []) b/\U b ((ys.map (·.1)).getD i []):=fun i v hv=>by
  rw [List.getElem?_map] at hv
  cases e:ys[i]? with
  | none=>rw [e] at hv;cases hv
  | some x =>
   rw [e] at hv
   have hg:(ys.map (·.1)).getD i []=x.1:=by rw [List.getD_eq_getElem?_getD,List.getElem?_map,e];rfl
   rw [hg]
   have hux:=hu x (List.mem_of_getElem? e)
   exact ⟨x.2.1,(Option.some.inj hv).symm,zA I (hU _ _ hux),hux⟩
 have hd0:Dk.sJ s.heap a es ep:=⟨o,ho,hx,hdat⟩
 refine So.vO (vs:=ys.map fun x=>Value.ref x.2.1) (aF:=ys.map (·.1)) (fun Q' E' hq=>?_) ⟨by simp,fun i v hv=>let ⟨b,h1,h2,_⟩:=each i v hv;⟨b,h1,h2⟩⟩ (fun ks hks=>?_) (by simp;omega) fun h' tk l n p' k hl' hsp hg=>?_
 ·have:=Dk.Yr (prog:=X.prog) (w:=X.w) (A:=X.A.in1) (E:=E') (Q:=Q') (by simpa using I.ok.hd hc) hsys hd0 (by omega) (by rw [evs];exact hq)
  exact this
 ·rw [ek] at hks
  obtain ⟨p,hp',rfl⟩:=List.mem_map.mp hks
  exact hne p hp'
 ·have ho':=sI (U:=U) (vs:=ys.map fun x=>Value.ref x.2.1) (aF:=ys.map (·.1)) (gZ:=ys.map (·.1)) ⟨by simp,fun i v hv=>let ⟨b,h1,_,h3⟩:=each i v hv;⟨b,h1,h3⟩⟩ hsp (.refl _)
  obtain ⟨zs,r1,zl,zv⟩:=afh ho'
  rw [ek] at zl zv
  have hln:H l=none:=I.hok.fresh hl'
  refine ⟨.ref l,_,I.laid (t':=tk) k hl' (show eZ X.prog X.w _ h' _ (.lst zs) from ⟨?_,_,n,r1,hg⟩),rfl,q l zs hln zl zv⟩
  have:(bJ (cJ.map (·.1))).length=(cJ.map (·.1)).length:=(dg _).length_eq
  rw [zl,this,sizeLine_eq];simp;omega
def vU (j:Nat):ak->Rs D:=fun ρ=>match ρ[j]? with
 | some (.od kvs)=>if kvs.length < 1000/\∀ p∈kvs,p.1≠[] then .ok (.lst ((bJ (kvs.map (·.1))).map tupK)) else .no
 | _=>.no
theorem dG.keys {G:Hp} {kvs:List (List Int×D)} {cJ:List (List Int×V)} (h:dG K G kvs cJ):cJ.map (·.1)=kvs.map (·.1):=by
 induction h with
 | nil=>rfl
 | cons r t ih=>rw [List.map_cons,List.map_cons,ih]
theorem KD (j:Nat) {x:Str} {p p1 pos:Pos} (hc:X.calm=true) (hm:X.mg "sorted"=none) (hN:X.N[j]?=some x:=by rfl) (hv:Nf X.env.scope x:=by first|exact Or.inl rfl|exact Or.inr (Or.inl rfl)|exact Or.inr (Or.inr rfl)) (hd:(x == ("__debug__":Str))=false:=by decide)
  (hcd:(x == ("__classdict__":Str))=false:=by decide) (hg:Gl X "sorted":=by rfl) (he:starEach [.Name x p1] X.env=[(false,eval (.Name x p1) X.env)]:=by rfl) :
  SE X B W (.Call (.Name "sorted" p) [.Name x p1] [] pos) (vU j):=by
 refine PE.imp (jK (zL hc) hg hm PyProof.Rows.boot_sorted (cW (iu hN hv hd hcd) iy he) (by decide) (by decide) he rfl) fun σ H Q ⟨ρ,G,s,pp⟩=>?_
 unfold vU at pp
 split at pp
 ·rename_i kvs q
  split at pp
  ·rename_i hc2
   obtain ⟨a,o,h1,h2,h3,h4,U,cJ,rfl,hU,hk⟩:=s.own j _ q rfl
   have ek:=hk.keys
   have el:cJ.length=kvs.length:=by have:=congrArg List.length ek;simpa using this
   refine ⟨_,h1,a,U,cJ,rfl,h2,fun b ks z=>Same.gU s.en.gh (hU b ks z),by omega,fun p hp=>?_,fun l zs hl hz hv'=>?_⟩
   ·have:p.1∈kvs.map (·.1):=ek▸List.mem_map_of_mem hp
    obtain ⟨p',hp',e⟩:=List.mem_map.mp this
    exact e▸hc2.2 p' hp'
   ·rw [ek] at hz hv'
    have x:=uo (xs:=zs) s.en.gh s.en.tp hl
    refine pp _ _ _ x (aO.mpr ⟨l,zs,rfl,.of aY,(lU hz fun i v hv2=>?_).mono x.gg⟩)
    obtain ⟨b,e1,e2⟩:=hv' i v hv2
    exact ⟨b,e1,hU b _ e2⟩
  ·exact pp.elim
 ·exact pp.elim
end
end Vl
namespace Zp
open PySem PySem.Spec
section
variable {prog:Program} {w:World} {A:Around} {E:Value->Shared->Prop} {s:Shared}
end
structure Ap (z TI TO i1 i2:Addr) (f1 f2:List Addr):Prop where
 zTI:TI≠z
 zTO:TO≠z
 TT:TI≠TO
 z1:z∉f1
 z2:z∉f2
 o1:TO∉f1
 o2:TO∉f2
 t1:TI∉f1
 t2:TI∉f2
 m1:i1∈f1
 m2:i2∈f2
 c1:i2∉f1
 c2:i1∉f2
section
variable {prog:Program} {w:World} {A:Around} {E:Value->Shared->Prop} {s:Shared} {z TI TO i1 i2:Addr} {f1 f2:List Addr} {n1 n2 k:Nat} {P1 P2:Nat->Value->Prop} {S1 S2:Nat->Heap->Prop} {a b:Value}
theorem vK {Q:Value->Shared->Prop} (D1:Draws prog w A i1 f1 n1 P1 S1) (D2:Draws prog w A i2 f2 n2 P2 S2) (p:Ap z TI TO i1 i2 f1 f2) (hz:IsZip s.heap z TI TO .none) (hTI:IsPair s.heap TI (.ref i1) (.ref i2)) (hTO:IsPair s.heap TO a b) (h1:S1 k s.heap) (h2:S2 k s.heap) (l1:k < n1) (l2:k < n2)
  (hQ:∀ x y h' tk,P1 k x->P2 k y->IsZip h' z TI TO (rawInt s.heap.objs.size)->IsPair h' TO x y->S1 (k + 1) h'->S2 (k + 1) h'->IsPair h' s.heap.objs.size x y->h'.objs.size=s.heap.objs.size + 1 ->
   (∀ c o,c∉[z,TO,i1,i2]->s.heap.get? c=some o->h'.get? c=some o)->Q (.ref s.heap.objs.size) { s with heap:=h',toks:=tk }) :
  wpAny (model prog w) A (Builtin.«zip.__next__» ⟨[.ref z],[]⟩) (fun fu s'=>∃ v,fu=.done (.ret v)/\Q v s') E s:=by
 have ne1:i1≠z:=fun e=>p.z1 (e▸p.m1)
 have ne2:i2≠z:=fun e=>p.z2 (e▸p.m2)
 have no1:i1≠TO:=fun e=>p.o1 (e▸p.m1)
 have no2:i2≠TO:=fun e=>p.o2 (e▸p.m2)
 have n12:i1≠i2:=fun e=>p.c2 (e▸p.m2)
 refine wpAny_bind (m:=field (.ref z) 2) (wpAny_field hz rfl (x:=.bool false) rfl ?_)
 refine wpAny_bind (m:=field (.ref z) 3) (wpAny_field hz rfl (x:=.ref TI) rfl (wpAny_bind (wpAny_seqItems hTI rfl ?_)))
 refine wpAny_bind (m:=Builtin.SmallTypes.ownedTupleIsFree (.ref z)) ?_
 unfold Builtin.SmallTypes.ownedTupleIsFree
 refine wpAny_bind (wpAny_field hz rfl (x:=.none) rfl (wpAny_pure ?_))
 simp only [if_true]
 refine wpAny_bind (wpAny_rule (wpAny_bind (wpAny_field hz rfl (x:=.ref TO) rfl (wpAny_bind (wpAny_setField_rec hz (by simp) fun g1 z1 e1=>?_)))))
 replace z1:IsZip g1 z TI TO .ellipsis:=z1
 refine wpAny_bind ?_
 simp only [List.zipIdx_cons,List.zipIdx_nil,List.forIn_cons,List.forIn_nil]
 have a1:S1 k g1:=D1.frame _ _ _ h1 fun b hb o q=>e1.extBut b o (fun e=>p.z1 (e▸hb)) q
 have b1:S2 k g1:=D2.frame _ _ _ h2 fun b hb o q=>e1.extBut b o (fun e=>p.z2 (e▸hb)) q
 refine wpAny_bind (wpAny_bind (wpAny_onRaise ?_))
 refine wpAny_bind (m:=Builtin.SmallTypes.nextOf (.ref i1)) (D1.item k _ _ _ l1 a1 fun x g2 tk2 px a2 e2=>wpAny_pure ?_)
 replace e2:Heap.SameBut i1 g1 g2:=e2
 have t2:IsPair g2 TO a b:=e2.extBut _ _ (Ne.symm no1) (e1.extBut _ _ p.zTO hTO)
 refine wpAny_bind (wpAny_seqItems (s:={ s with heap:=g2,toks:=tk2 }) t2 rfl (wpAny_bind (wpAny_updateSeq_pair (s:={ s with heap:=g2,toks:=tk2 }) t2 fun g3 t3 e3=>?_)))
 replace t3:IsPair g3 TO x b:=t3
 replace e3:Heap.SameBut TO g2 g3:=e3
 refine wpAny_bind (wpAny_letGo (wpAny_pure ?_))
 have b3:S2 k g3:=D2.frame _ _ _ b1 fun b hb o q=>e3.extBut b o (fun e=>p.o2 (e▸hb)) (e2.extBut b o (fun e=>p.c2 (e▸hb)) q)
 refine wpAny_bind (wpAny_bind (wpAny_onRaise ?_))
 refine wpAny_bind (m:=Builtin.SmallTypes.nextOf (.ref i2)) (D2.item k _ _ _ l2 b3 fun y g4 tk4 py b4 e4=>wpAny_pure ?_)
 replace e4:Heap.SameBut i2 g3 g4:=e4
 have t4:IsPair g4 TO x b:=e4.extBut _ _ (Ne.symm no2) t3
 refine wpAny_bind (wpAny_seqItems (s:={ s with heap:=g4,toks:=tk4 }) t4 rfl (wpAny_bind (wpAny_updateSeq_pair (s:={ s with heap:=g4,toks:=tk4 }) t4 fun g5 t5 e5=>?_)))
 replace t5:IsPair g5 TO x y:=t5
 replace e5:Heap.SameBut TO g4 g5:=e5
 refine wpAny_bind (wpAny_letGo (wpAny_pure (wpAny_pure ?_)))
 refine wpAny_bind (wpAny_seqItems (s:={ s with heap:=g5,toks:=tk4 }) t5 rfl (wpAny_bind (wpAny_newTuple ?_)))
 have sz:g5.objs.size=s.heap.objs.size:=by rw [e5.1,e4.1,e3.1,e2.1,e1.1]
 have z5:IsZip g5 z TI TO .ellipsis:=e5.extBut _ _ (Ne.symm p.zTO) (e4.extBut _ _ (Ne.symm ne2) (e3.extBut _ _ (Ne.symm p.zTO) (e2.extBut _ _ (Ne.symm ne1) z1)))
 have kp:∀ c o,c∉[z,TO,i1,i2]->s.heap.get? c=some o->g5.get? c=some o:=fun c o hc q=>by
  simp only [List.mem_cons,List.not_mem_nil,or_false,not_or] at hc
  exact e5.extBut _ _ hc.2.1 (e4.extBut _ _ hc.2.2.2 (e3.extBut _ _ hc.2.1 (e2.extBut _ _ hc.2.2.1 (e1.extBut _ _ hc.1 q))))
 have a5:S1 (k + 1) g5:=D1.frame _ _ _ a2 fun b hb o q=>e5.extBut b o (fun e=>p.o1 (e▸hb)) (e4.extBut b o (fun e=>p.c1 (e▸hb)) (e3.extBut b o (fun e=>p.o1 (e▸hb)) q))
 have b5:S2 (k + 1) g5:=D2.frame _ _ _ b4 fun b hb o q=>e5.extBut b o (fun e=>p.o2 (e▸hb)) q
 have lz:z < g5.objs.size:=Heap.lt_size z5
 refine wpAny_bind (m:=Builtin.SmallTypes.ownedTupleHandOut (.ref z) (.ref g5.objs.size)) ?_
 unfold Builtin.SmallTypes.ownedTupleHandOut
 have z6:IsZip (g5.push { cls:=.type "tuple",data:=.seq #[x,y] }) z TI TO .ellipsis:=Heap.get?_push_of_some _ z5
 refine wpAny_bind (wpAny_setField_rec (s:={ s with heap:=g5.push { cls:=.type "tuple",data:=.seq #[x,y] },toks:=tk4 }) z6 (by simp) fun g7 z7 e7=>?_)
 replace z7:IsZip g7 z TI TO (rawInt g5.objs.size):=z7
 refine wpAny_setField_rec (s:={ s with heap:=g7,toks:=tk4 }) z7 (by simp) fun g8 z8 e8=>?_
 replace z8:IsZip g8 z TI TO (rawInt g5.objs.size):=z8
 have up:∀ c o,c≠z->g5.get? c=some o->g8.get? c=some o:=fun c o hc q=>e8.extBut _ _ hc (e7.extBut _ _ hc (Heap.get?_push_of_some _ q))
 have t8:IsPair g8 g5.objs.size x y:=e8.extBut _ _ (Nat.ne_of_gt lz) (e7.extBut _ _ (Nat.ne_of_gt lz) (Heap.get?_push_size _ rfl))
 have s8:g8.objs.size=g5.objs.size + 1:=by rw [e8.1,e7.1,Heap.size_push]
 rw [sz] at z8 t8 s8
 refine wpAny_pure ⟨_,rfl,?_⟩
 show Q (.ref g5.objs.size) _
 rw [sz]
 exact hQ x y g8 tk4 px py z8 (up _ _ p.zTO t5) (D1.frame _ _ _ a5 fun b hb o q=>up b o (fun e=>p.z1 (e▸hb)) q) (D2.frame _ _ _ b5 fun b hb o q=>up b o (fun e=>p.z2 (e▸hb)) q) t8 s8 fun c o hc q=>up c o (fun e=>hc (by simp [e])) (kp c o hc q)
theorem Ys {Q:PySem.Fin->Shared->Prop} (D1:Draws prog w A i1 f1 n1 P1 S1) (p:Ap z TI TO i1 i2 f1 f2) (hz:IsZip s.heap z TI TO .none) (hTI:IsPair s.heap TI (.ref i1) (.ref i2)) (hTO:IsPair s.heap TO a b) (h1:S1 n1 s.heap)
  (hE:∀ h' e,(∀ c o,c∉[z,TO,i1,i2]->s.heap.get? c=some o->h'.get? c=some o)->(∃ o,h'.get? e=some o/\o.cls=.type "StopIteration")->E (.ref e) { s with heap:=h' }) :
  wpAny (model prog w) A (Builtin.«zip.__next__» ⟨[.ref z],[]⟩) Q E s:=by
 have ne1:i1≠z:=fun e=>p.z1 (e▸p.m1)
 refine wpAny_bind (m:=field (.ref z) 2) (wpAny_field hz rfl (x:=.bool false) rfl ?_)
 refine wpAny_bind (m:=field (.ref z) 3) (wpAny_field hz rfl (x:=.ref TI) rfl (wpAny_bind (wpAny_seqItems hTI rfl ?_)))
 refine wpAny_bind (m:=Builtin.SmallTypes.ownedTupleIsFree (.ref z)) ?_
 unfold Builtin.SmallTypes.ownedTupleIsFree
 refine wpAny_bind (wpAny_field hz rfl (x:=.none) rfl (wpAny_pure ?_))
 simp only [if_true]
 refine wpAny_bind (wpAny_rule (wpAny_bind (wpAny_field hz rfl (x:=.ref TO) rfl (wpAny_bind (wpAny_setField_rec hz (by simp) fun g1 z1 e1=>?_)))))
 replace z1:IsZip g1 z TI TO .ellipsis:=z1
 refine wpAny_bind ?_
 simp only [List.zipIdx_cons,List.zipIdx_nil,List.forIn_cons,List.forIn_nil]
 have a1:S1 n1 g1:=D1.frame _ _ _ h1 fun b hb o q=>e1.extBut b o (fun e=>p.z1 (e▸hb)) q
 refine wpAny_bind (wpAny_bind (wpAny_onRaise ?_))
 refine wpAny_bind (m:=Builtin.SmallTypes.nextOf (.ref i1)) (D1.done _ _ _ a1 fun g2 e e2 he=>?_)
 obtain ⟨oe,q1,q2⟩:=he
 have z2:IsZip g2 z TI TO .ellipsis:=e2 _ _ (Ne.symm ne1) z1
 have ez:e≠z:=fun x=>by subst x;rw [z2] at q1;cases q1;simp at q2
 refine wpAny_setField_rec (s:={ s with heap:=g2 }) z2 (by simp) fun g3 _ e3=>hE g3 e (fun c o hc q=>?_) ⟨oe,e3.extBut _ _ ez q1,q2⟩
 simp only [List.mem_cons,List.not_mem_nil,or_false,not_or] at hc
 exact e3.extBut _ _ hc.1 (e2 _ _ hc.2.2.1 (e1.extBut _ _ hc.1 q))
end
theorem agh {prog:Program} {w:World} {A:Around} {z TI TO i1 i2:Addr} {f1 f2:List Addr} {n:Nat} {P1 P2:Nat->Value->Prop} {S1 S2:Nat->Heap->Prop} (D1:Draws prog w A.in1 i1 f1 n P1 S1) (D2:Draws prog w A.in1 i2 f2 n P2 S2) (p:Ap z TI TO i1 i2 f1 f2) :
    WalksT prog w A z (z::TI::TO::(f1++f2)) [z,TO,i1,i2] n
      (fun i vals=>∃ x y,P1 i x/\P2 i y/\vals=#[x,y])
      (fun i h=>IsZip h z TI TO .none/\IsPair h TI (.ref i1) (.ref i2)/\(∃ a b,IsPair h TO a b)/\S1 i h/\S2 i h)
      (fun i T h=>IsZip h z TI TO (rawInt T)/\IsPair h TI (.ref i1) (.ref i2)/\(∃ a b,IsPair h TO a b)/\S1 (i + 1) h/\S2 (i + 1) h/\T∉[z,TO,i1,i2]) where
  sub:=fun b hb=>by
    simp only [List.mem_cons,List.not_mem_nil,or_false,List.mem_append] at hb ⊢
    rcases hb with rfl|rfl|rfl|rfl
    . exact .inl rfl
    . exact .inr (.inr (.inl rfl))
    . exact .inr (.inr (.inr (.inl p.m1)))
    . exact .inr (.inr (.inr (.inr p.m2)))
  frame:=fun i h h' st hk=>by
    obtain ⟨q1,q2,⟨a,b,q3⟩,q4,q5⟩:=st
    exact ⟨hk z (by simp) _ q1,hk TI (by simp) _ q2,⟨a,b,hk TO (by simp) _ q3⟩,D1.frame _ _ _ q4 fun b hb o q=>hk b (by simp [hb]) o q,D2.frame _ _ _ q5 fun b hb o q=>hk b (by simp [hb]) o q⟩
  item:=fun i s Q E hi st hQ=>by
    obtain ⟨q1,q2,⟨a,b,q3⟩,q4,q5⟩:=st
    have hT:s.TypeIs (.ref z) "zip":=⟨_,q1,rfl⟩
    have TIw:TI∉[z,TO,i1,i2]:=by
      simp only [List.mem_cons,List.not_mem_nil,or_false,not_or]
      exact ⟨p.zTI,p.TT,fun e=>p.t1 (e▸p.m1),fun e=>p.t2 (e▸p.m2)⟩
    unfold pyNext
    refine wpAny_bind (wpAny_attempt (wpAny_callSpecial?_slot (name:=Str.ofString "__next__") hT F.slot_zip_next (wpAny_call_entry F.slot_zip_next hT F.entry_zip_next (vK D1 D2 p q1 q2 q3 q4 q5 hi hi fun x y h' tk px py r1 r2 r3 r4 r5 r6 r7=>wpAny_pure ?_) (F.args_zip_next_1 _))))
    have fr:∀ {c:Addr} {o:Obj},s.heap.get? c=some o->s.heap.objs.size≠c:=fun e=>Nat.ne_of_gt (Heap.lt_size e)
    refine hQ s.heap.objs.size #[x,y] h' tk ⟨x,y,px,py,rfl⟩ (Nat.le_refl _) ⟨_,r5,rfl,_,rfl⟩ ⟨r1,r7 TI _ TIw q2,⟨_,_,r2⟩,r3,r4,?_⟩ r7
    simp only [List.mem_cons,List.not_mem_nil,or_false,not_or]
    obtain ⟨o1,l1⟩:=D1.live _ _ q4
    obtain ⟨o2,l2⟩:=D2.live _ _ q5
    exact ⟨fr q1,fr q3,fr l1,fr l2⟩
  go:=fun elts k pos i T s Q E hm hQ=>by
    obtain ⟨q1,q2,⟨a,b,q3⟩,q4,q5,_⟩:=hm
    refine wpAny_letOwnedTupleGo_zip q1 fun h' z' e'=>hQ h' ⟨z',e'.extBut _ _ p.zTI q2,⟨a,b,e'.extBut _ _ p.zTO q3⟩,D1.frame _ _ _ q4 fun b hb o q=>e'.extBut b o (fun e=>p.z1 (e▸hb)) q,D2.frame _ _ _ q5 fun b hb o q=>e'.extBut b o (fun e=>p.z2 (e▸hb)) q⟩ fun c o hc q=>e'.extBut _ _ (fun e=>hc (by simp [e])) q
  apart:=fun i T h hm=>hm.2.2.2.2.2
  done := fun s Q E st hQ => by
    obtain ⟨q1,q2,⟨a,b,q3⟩,q4,q5⟩:=st
    have hT:s.TypeIs (.ref z) "zip":=⟨_,q1,rfl⟩
    unfold pyNext
    refine wpAny_bind (wpAny_attempt (wpAny_callSpecial?_slot (name:=Str.ofString "__next__") hT F.slot_zip_next (wpAny_call_entry F.slot_zip_next hT F.entry_zip_next (Ys D1 p q1 q2 q3 q4 fun h' e kk he=>?_) (F.args_zip_next_1 _))))
    obtain ⟨o,ho,hc⟩:=he
    refine wpAny_bind (wpAny_isInstance (T:="StopIteration") (b:=true) ⟨o,ho,hc⟩ isSubtype_stop ?_)
    exact wpAny_pure (hQ h' s.toks kk)
  self:=fun i s Q E st hQ=>wpAny_pyIter_zip st.1 hQ
end Zp
namespace Zp
open PySem PySem.Spec
abbrev tit (t:Addr):Obj:={ cls:=.type "tuple_iterator",data:=.fields #[.ref t,.int 0 0] }
abbrev duo (x y:Value):Obj:={ cls:=.type "tuple",data:=.seq #[x,y] }
abbrev h1 (h:Heap) (a:Addr):Heap:=h.push (tit a)
abbrev h2 (h:Heap) (a b:Addr):Heap:=(h1 h a).push (tit b)
abbrev h3 (h:Heap) (a b:Addr):Heap:=(h2 h a b).push (duo (.ref h.objs.size) (.ref (h1 h a).objs.size))
abbrev h4 (h:Heap) (a b:Addr):Heap:=(h3 h a b).push (duo .none .none)
abbrev h5 (h:Heap) (a b:Addr):Heap:=(h4 h a b).push { cls:=.type "zip",data:=.fields #[.none,.bool false,.bool false,.ref (h2 h a b).objs.size,.ref (h3 h a b).objs.size] }
section
variable {prog:Program} {w:World} {A:Around} {E:Value->Shared->Prop} {s:Shared}
end
end Zp
namespace L2
open PySem PySem.Spec PyProof.Rows
section
variable {X:Cx}
end
end L2
namespace Vl
open PySem PySem.Spec L2
section
variable {X:Cx} {B:Bs} {W:Wi} {K:PySem.W.Frag} {G:Hp}
end
end Vl
namespace Vl
open PySem PySem.Spec PySem.Calls PySem.W L2
section
variable {X:Cx} {K:PySem.W.Frag} {B:Bs} {W:Wi} {σ:St} {G H:Hp} {ρ:ak}
theorem aZ.set:∀ {ds:List D} {vs:List V} {d:D} {v:V} (j:Nat),aZ K G ds vs->Rep K G d v->aZ K G (ds.set j d) (vs.set j v)
 | [],_,_,_,_,h,_=>by rw [bf.mp h];exact bf.mpr rfl
 | e::ds,_,d,v,0,h,r=>by
  obtain ⟨u,us,rfl,h1,h2⟩:=aN.mp h
  exact aN.mpr ⟨v,us,rfl,r,h2⟩
 | e::ds,_,d,v,j + 1,h,r=>by
  obtain ⟨u,us,rfl,h1,h2⟩:=aN.mp h
  exact aN.mpr ⟨u,_,rfl,h1,aZ.set j h2 r⟩
theorem aZ.erase:∀ {ds:List D} {vs:List V} (j:Nat),aZ K G ds vs->aZ K G (ds.eraseIdx j) (vs.eraseIdx j)
 | [],_,_,h=>by rw [bf.mp h];exact bf.mpr rfl
 | e::ds,_,0,h=>by
  obtain ⟨u,us,rfl,h1,h2⟩:=aN.mp h
  exact h2
 | e::ds,_,j + 1,h=>by
  obtain ⟨u,us,rfl,h1,h2⟩:=aN.mp h
  exact aN.mpr ⟨u,_,rfl,h1,aZ.erase j h2⟩
end
end Vl
namespace Vl
open PySem PySem.Spec L2
section
variable {X:Cx} {B:Bs} {W:Wi} {K:PySem.W.Frag}
end
end Vl
namespace L2
open PySem PySem.Spec PyProof.Rows
section
variable {X:Cx}
end
end L2
namespace Vl
open PySem PySem.Spec L2
section
variable {X:Cx} {B:Bs} {W:Wi} {K:PySem.W.Frag} {G:Hp}
end
end Vl
namespace Tb
open PySem PySem.SetTable
def wd (p:Probe) (d:Option Nat):Probe:={ p with dummy:=d }
theorem sO (t:SetTable) (p:Probe) (d:Option Nat):t.advance (wd p d)=wd (t.advance p) d:=by
 unfold advance wd
 simp only
 split <;> rfl
def Emp (t:SetTable) (j:Nat):Prop:=¬ mF t j/\has t.dummies j=false
theorem Yt {t:SetTable} {j:Nat} (h:¬ mF t j):¬ (t.place[below t.place j]? == some j)=true:=by
 intro c
 apply h
 have c':t.place[below t.place j]?=some j:=by simpa using c
 obtain ⟨hl,e⟩:=Array.getElem?_eq_some_iff.mp c'
 exact ⟨_,hl,by simp [Array.getD,hl,e]⟩
theorem Yu {t:SetTable} {j:Nat} (h:Emp t j):t.slot j=.empty:=by
 unfold slot
 simp only
 rw [if_neg (Yt h.1),if_neg (by rw [h.2];simp)]
theorem Yv {t:SetTable} {j:Nat} (h:¬ mF t j) (hd:has t.dummies j=true):t.slot j=.dummy:=by
 unfold slot
 simp only
 rw [if_neg (Yt h),if_pos hd]
theorem afm {t:SetTable} (R:oU t.place) (hashAt:Nat->Int) (h:Int):∀ (fuel s0 s1:Nat) (d:Option Nat),s0<=s1->s1 < s0 + fuel->Emp t (pos t h s1) ->
    ∃ s2 d',s0<=s2/\s2<=s1/\(∀ s,s0<=s->s < s2->(∃ i,i < t.place.size/\t.place.getD i 0=pos t h s/\hashAt i≠h)∨(¬ mF t (pos t h s)/\has t.dummies (pos t h s)=true)) /\
      ((Emp t (pos t h s2) /\ probe.go t hashAt h fuel (wd (jd t s0 (t.probeStart h)) d) = some (.empty (pos t h s2) d')) ∨
       ∃ i,i < t.place.size/\t.place.getD i 0=pos t h s2/\hashAt i=h/\probe.go t hashAt h fuel (wd (jd t s0 (t.probeStart h)) d)=some (.candidate (pos t h s2) i (wd (jd t (s2 + 1) (t.probeStart h)) d'))):=by
  intro fuel
  induction fuel with
  | zero=>intro s0 s1 d h1 h2;omega
  | succ fuel ih =>
    intro s0 s1 d h1 h2 hl
    unfold probe.go
    by_cases c:mF t (pos t h s0)
    . obtain ⟨i,hi,e1,e2⟩:=uG R c
      have e2':t.slot (wd (jd t s0 (t.probeStart h)) d).j=.live i:=e2
      rw [e2']
      simp only
      by_cases q:hashAt i=h
      . refine ⟨s0,d,Nat.le_refl _,h1,fun s a b=>absurd a (by omega),.inr ⟨i,hi,e1,q,?_⟩⟩
        rw [if_pos (by simp [q]),gH,sO];rfl
      . rw [if_neg (by simp [q]),sO,<- gH]
        have hne:s0≠s1:=fun z=>hl.1 (z▸c)
        obtain ⟨s2,d',a1,a2,a3,a4⟩:=ih (s0 + 1) s1 d (by omega) (by omega) hl
        refine ⟨s2,d',by omega,a2,fun s b1 b2=>?_,a4⟩
        by_cases z:s=s0
        . subst z;exact .inl ⟨i,hi,e1,q⟩
        . exact a3 s (by omega) b2
    . cases hd:has t.dummies (pos t h s0) with
      | true =>
        have e2:t.slot (wd (jd t s0 (t.probeStart h)) d).j=.dummy:=Yv c hd
        rw [e2]
        simp only
        have e3:t.advance { wd (jd t s0 (t.probeStart h)) d with dummy:=some (wd (jd t s0 (t.probeStart h)) d).j }=wd (jd t (s0 + 1) (t.probeStart h)) (some (pos t h s0)):=by
          rw [gH,<- sO];rfl
        rw [e3]
        have hne:s0≠s1:=fun z=>by have:=hl.2;rw [<- z,hd] at this;cases this
        obtain ⟨s2,d',a1,a2,a3,a4⟩:=ih (s0 + 1) s1 (some (pos t h s0)) (by omega) (by omega) hl
        refine ⟨s2,d',by omega,a2,fun s b1 b2=>?_,a4⟩
        by_cases z:s=s0
        . subst z;exact .inr ⟨c,hd⟩
        . exact a3 s (by omega) b2
      | false =>
        refine ⟨s0,d,Nat.le_refl _,h1,fun s a b=>absurd a (by omega),.inl ⟨⟨c,hd⟩,?_⟩⟩
        have e2:t.slot (wd (jd t s0 (t.probeStart h)) d).j=.empty:=Yu ⟨c,hd⟩
        rw [e2]
        rfl
theorem DQ {l:List Nat}:oU l.toArray↔l.Pairwise (· < ·):=by
 rw [List.pairwise_iff_getElem]
 constructor
 ·intro R i j hi hj hij
  have:=R i j hij (by simpa using hj)
  simpa [Array.getD,hi,hj] using this
 ·intro P a b hab hb
  have hb':b < l.length:=by simpa using hb
  have:=P a b (by omega) hb' hab
  have ha':a < l.length:=by omega
  simpa [Array.getD,ha',hb'] using this
theorem rA {l:List Nat} (R:oU l.toArray) {j:Nat}:has l.toArray j=true↔j∈l:=by
 unfold has
 constructor
 ·intro c
  have c':l.toArray[below l.toArray j]?=some j:=by simpa using c
  have:l[below l.toArray j]?=some j:=by simpa using c'
  exact List.mem_of_getElem? this
 ·intro hm
  obtain ⟨i,hi,e⟩:=List.mem_iff_getElem.mp hm
  have hi':i < l.toArray.size:=by simpa using hi
  have e1:l.toArray.getD i 0=j:=by simp [Array.getD,hi,e]
  have:=JB R hi'
  rw [e1] at this
  rw [this]
  simp [hi,e]
theorem Yw {l:List Nat} (R:oU l.toArray) {j:Nat} (hn:j∉l):∃ l':List Nat,insertAt l.toArray (below l.toArray j) j=l'.toArray/\oU l'.toArray/\(∀ x,x∈l'↔x=j∨x∈l)/\l'.length=l.length + 1:=by
 obtain ⟨b1,b2,b3⟩:=mD R j
 generalize hp:below l.toArray j=p at *
 have b1':p<=l.length:=by simpa using b1
 have P:=DQ.mp R
 refine ⟨l.take p++j::l.drop p,lD l p b1' j,DQ.mpr ?_,fun x=>?_,by simp;omega⟩
 ·rw [List.pairwise_append]
  refine ⟨P.sublist (List.take_sublist _ _),List.pairwise_cons.mpr ⟨fun a ha=>?_,P.sublist (List.drop_sublist _ _)⟩,fun a ha b hb=>?_⟩
  ·obtain ⟨i,hi,rfl⟩:=List.mem_iff_getElem.mp ha
   have hi':p + i < l.length:=by simp at hi;omega
   have q:=b3 (p + i) (by omega) (by simpa using hi')
   have e:l.toArray.getD (p + i) 0=l[p + i]:=by simp [Array.getD,hi']
   rw [e] at q
   have ne:l[p + i]≠j:=fun z=>hn (z▸List.getElem_mem hi')
   simp only [List.getElem_drop]
   omega
  ·obtain ⟨i,hi,rfl⟩:=List.mem_iff_getElem.mp ha
   have hi':i < p:=by simp at hi;omega
   have q:=b2 i hi'
   have hi2:i < l.length:=by omega
   have e:l.toArray.getD i 0=l[i]:=by simp [Array.getD,hi2]
   rw [e] at q
   simp only [List.getElem_take]
   rcases List.mem_cons.mp hb with z|z
   ·rw [z];exact q
   ·obtain ⟨i',hi3,rfl⟩:=List.mem_iff_getElem.mp z
    have hi4:p + i' < l.length:=by simp at hi3;omega
    have:=b3 (p + i') (by omega) (by simpa using hi4)
    have e':l.toArray.getD (p + i') 0=l[p + i']:=by simp [Array.getD,hi4]
    rw [e'] at this
    simp only [List.getElem_drop]
    omega
 ·have:l=l.take p++l.drop p:=(List.take_append_drop p l).symm
  constructor
  ·intro z
   rcases List.mem_append.mp z with z|z
   ·exact .inr (List.mem_of_mem_take z)
   ·rcases List.mem_cons.mp z with z|z
    ·exact .inl z
    ·exact .inr (List.mem_of_mem_drop z)
  ·rintro (z|z)
   ·subst z;simp
   ·rw [this] at z
    rcases List.mem_append.mp z with z|z
    ·exact List.mem_append_left _ z
    ·exact List.mem_append_right _ (List.mem_cons_of_mem _ z)
theorem uP {α:Type} (xs:List α) (i:Nat) (hi:i < xs.length):eraseAt xs.toArray i=(xs.eraseIdx i).toArray:=by
 unfold eraseAt
 apply Array.toList_inj.mp
 simp only [List.extract_toArray,List.size_toArray,Array.toList_append,List.extract_eq_take_drop,Nat.sub_zero,List.drop_zero]
 rw [List.take_of_length_le (l:=xs.drop (i + 1)) (by simp),List.eraseIdx_eq_take_drop_succ]
theorem Ph {α β:Type} (f:α->β):∀ (l:List α) (i:Nat),(l.map f).eraseIdx i=(l.eraseIdx i).map f
 | [],_=>by simp
 | a::l,0=>by simp
 | a::l,i + 1=>by simp [Ph f l i]
theorem RM:∀ {l l':List Nat},l.Nodup->(∀ x∈l,x∈l')->l.length<=l'.length
 | [],_,_,_=>by simp
 | a::l,l',nd,h=>by
  obtain ⟨n1,n2⟩:=List.nodup_cons.mp nd
  have ha:=h a (.head _)
  have:=RM (l':=l'.erase a) n2 fun x hx=>(List.mem_erase_of_ne (fun (z:x=a)=>n1 (z▸hx))).mpr (h x (.tail _ hx))
  have e:=List.length_erase_of_mem ha
  have hp:0 < l'.length:=List.length_pos_of_mem ha
  simp only [List.length_cons]
  omega
structure oV (t:SetTable) (L:List gW):Prop where
 pw:∃ k,t.mask + 1=2 ^ k
 m7:7<=t.mask
 pl:t.place=(L.map (·.1)).toArray
 so:(L.map (·.1)).Pairwise (· < ·)
 le:∀ e∈L,e.1<=t.mask
 dr:oU t.dummies
 dj:∀ e∈L,has t.dummies e.1=false
 fl:t.fill<=t.mask
 reach:∀ e∈L,∃ s,pos t e.2.1 s=e.1/\∀ s',s' < s->¬ Emp t (pos t e.2.1 s')
section
variable {t:SetTable} {L:List gW}
theorem oV.lies (g:oV t L):Lies t L:=⟨g.pl,g.so,g.fl⟩
theorem oV.live (g:oV t L) {j:Nat}:mF t j↔∃ e∈L,e.1=j:=by
 have y:=g.lies
 constructor
 ·rintro ⟨i,hi,e⟩
  rw [y.sz] at hi
  rw [y.at hi] at e
  exact ⟨L[i],List.getElem_mem hi,e⟩
 ·rintro ⟨e,he,q⟩
  obtain ⟨i,hi,e1⟩:=List.mem_iff_getElem.mp he
  exact ⟨i,by rw [y.sz];exact hi,by rw [y.at hi,e1];exact q⟩
theorem abx:∀ {L:List gW},(L.map (·.1)).Pairwise (· < ·)->∀ {e e':gW},e∈L->e'∈L->e.1=e'.1->e=e':=by
 intro L so e e' h h' q
 obtain ⟨i,hi,rfl⟩:=List.mem_iff_getElem.mp h
 obtain ⟨j,hj,rfl⟩:=List.mem_iff_getElem.mp h'
 have P:=List.pairwise_iff_getElem.mp so
 by_cases c:i < j
 ·have:=P i j (by simpa using hi) (by simpa using hj) c
  simp only [List.getElem_map] at this;omega
 ·by_cases d:j < i
  ·have:=P j i (by simpa using hj) (by simpa using hi) d
   simp only [List.getElem_map] at this;omega
  ·obtain rfl:i=j:=by omega
   rfl
theorem Good.lost (g:Good t L) (hl:L.length<=t.mask):oV t L where
 pw:=g.pw
 m7:=g.m7
 pl:=g.pl
 so:=g.so
 le:=g.le
 dr:=by rw [g.nd];intro a b _ h;simp at h
 dj:=fun e _=>by unfold has;rw [g.nd];simp
 fl:=(g.lies hl).fl
 reach:=fun e he=>by
  obtain ⟨s,e1,e2⟩:=g.reach e he
  refine ⟨s,e1,fun s' hs z=>z.1 ?_⟩
  obtain ⟨e',h1,h2⟩:=e2 s' hs
  exact g.live.mpr ⟨e',h1,h2⟩
theorem oV.emp (g:oV t L):∃ e,e<=t.mask/\Emp t e:=by
 refine Classical.byContradiction fun c=>?_
 have h:=RM (l:=List.range (t.mask + 1)) (l':=t.place.toList++t.dummies.toList) List.nodup_range fun x hx=>?_
 ·have:=g.fl
  unfold fill at this
  simp at h
  omega
 ·refine Classical.byContradiction fun d=>c ⟨x,by have:=List.mem_range.mp hx;omega,fun ⟨i,hi,e⟩=>d (List.mem_append_left _ ?_),?_⟩
  ·rw [<- e]
   have:t.place.getD i 0=t.place.toList[i]'(by simpa using hi):=by simp [Array.getD,hi]
   rw [this];exact List.getElem_mem _
  ·cases e:has t.dummies x with
   | false=>rfl
   | true =>
    refine absurd (List.mem_append_right _ ?_) d
    have R:oU t.dummies.toList.toArray:=by simpa using g.dr
    exact (rA R).mp (by simpa using e)
theorem oV.drop (g:oV t L) {i:Nat} (hi:i < L.length):oV (t.drop i) (L.eraseIdx i)/\(t.drop i).plain=t.plain/\(t.drop i).led=t.led/\(t.drop i).mask=t.mask:=by
 have ep:t.place[i]?=some L[i].1:=by rw [g.pl];simp [hi]
 obtain ⟨D,hD⟩:∃ D:List Nat,t.dummies=D.toArray:=⟨t.dummies.toList,by simp⟩
 have R:oU D.toArray:=hD▸g.dr
 have hn:L[i].1∉D:=fun z=>by
  have:=g.dj _ (List.getElem_mem hi)
  rw [hD,(rA R).mpr z] at this
  cases this
 obtain ⟨D',d1,d2,d3,d4⟩:=Yw R hn
 have et:t.drop i={ t with place:=((L.eraseIdx i).map (·.1)).toArray,dummies:=D'.toArray }:=by
  unfold PySem.SetTable.drop
  rw [ep]
  simp only
  have q1:eraseAt t.place i=((L.eraseIdx i).map (·.1)).toArray:=by
   rw [g.pl,uP _ _ (by simpa using hi),Ph]
  rw [q1,hD,d1]
 have sub:∀ e,e∈L.eraseIdx i->e∈L:=fun e he=>(List.eraseIdx_sublist L i).subset he
 have ne:∀ e∈L.eraseIdx i,e.1≠L[i].1:=fun e he z=>by
  have P:=g.so
  have hp:(L[i]::L.eraseIdx i).Perm L:=jR hi
  have nd:(L.map (·.1)).Nodup:=P.imp fun h=>Nat.ne_of_lt h
  have nd':=((hp.map (·.1)).nodup_iff).mpr nd
  rw [List.map_cons] at nd'
  exact (List.nodup_cons.mp nd').1 (z▸List.mem_map_of_mem he)
 have so':((L.eraseIdx i).map (·.1)).Pairwise (· < ·):=List.Pairwise.sublist ((List.eraseIdx_sublist L i).map _) g.so
 rw [et]
 refine ⟨⟨g.pw,g.m7,rfl,so',fun e he=>g.le e (sub e he),d2,fun e he=>?_,?_,fun e he=>?_⟩,rfl,rfl,rfl⟩
 ·show has D'.toArray e.1=false
  cases q:has D'.toArray e.1 with
  | false=>rfl
  | true =>
   rcases (d3 _).mp ((rA d2).mp q) with z|z
   ·exact absurd z (ne e he)
   ·have:=g.dj e (sub e he)
    rw [hD,(rA R).mpr z] at this
    cases this
 ·have:=g.fl
  unfold fill at this ⊢
  rw [g.pl,hD] at this
  simp only [List.size_toArray,List.length_map] at this ⊢
  rw [d4,List.length_eraseIdx_of_lt hi]
  omega
 ·obtain ⟨s,e1,e2⟩:=g.reach e (sub e he)
  have pm:∀ s,pos { t with place:=((L.eraseIdx i).map (·.1)).toArray,dummies:=D'.toArray } e.2.1 s=pos t e.2.1 s:=fun s=>pJ (by rfl) _ s
  refine ⟨s,by rw [pm];exact e1,fun s' hs z=>e2 s' hs ?_⟩
  rw [pm] at z
  obtain ⟨z1,z2⟩:=z
  have z2':pos t e.2.1 s'∉D':=fun q=>by
   have:=(rA d2).mpr q
   rw [show has D'.toArray _=false from z2] at this;cases this
  refine ⟨fun l=>?_,?_⟩
  ·obtain ⟨e',h1,h2⟩:=g.live.mp l
   have hp:(L[i]::L.eraseIdx i).Perm L:=jR hi
   rcases List.mem_cons.mp (hp.mem_iff.mpr h1) with q|q
   ·exact z2' ((d3 _).mpr (.inl (by rw [<- h2,q])))
   ·obtain ⟨k,hk,ek⟩:=List.mem_iff_getElem.mp q
    exact z1 ⟨k,by simpa using hk,by simp [Array.getD,hk,ek,h2]⟩
  ·cases q:has t.dummies (pos t e.2.1 s') with
   | false=>rfl
   | true=>rw [hD] at q;exact absurd ((d3 _).mpr (.inr ((rA R).mp q))) z2'
end
end Tb
namespace Tb
open PySem PySem.Spec PySem.SetTable
theorem oV.odd {t:SetTable} {L:List gW} (g:oV t L):t.gaveWay=false:=by
 obtain ⟨k,hk⟩:=g.pw
 have h7:=g.m7
 unfold gaveWay
 cases k with
 | zero=>simp at hk;omega
 | succ k =>
  have:t.mask % 2=1:=by rw [Nat.pow_succ] at hk;omega
  simp [this]
theorem oV.len {t:SetTable} {L:List gW} (g:oV t L):L.length<=t.mask:=by
 have:=g.fl
 unfold fill at this
 rw [g.lies.sz] at this
 omega
section
variable {prog:Program} {w:World} {A:Around} {E:Value->Shared->Prop} {s:Shared}
theorem KH {a b:Addr} {ks:List Int} {L:List gW} {ep:Nat} {t:SetTable} {f:gW->List Int} {Q:SetFound->Shared->Prop} (ho:s.heap.get? a=some (bL L ep t)) (g:oV t L) (hf:∀ e∈L,Fx prog w s.heap e (f e))
  (hb:IsTupleKey (intKind prog w) s.heap ks b) (hu:A.units < cLine) (q1:∀ i (hi:i < L.length),f L[i]=ks->Q (.there (some i)) s)
  (q2:∀ j d,(∀ e∈L,f e≠ks)->Q (.free j d) s) :
  ∀ (fuel s0 sE:Nat) (jP:Option Probe) (d:Option Nat),s0<=sE->sE < s0 + fuel->sE < s0 + 10 * turns t.mask->Emp t (pos t (hK prog w ks) sE)->jP.getD (t.probeStart (hK prog w ks))=wd (jd t s0 (t.probeStart (hK prog w ks))) d ->
   (∀ n,n < s0->(∃ e∈L,e.1=pos t (hK prog w ks) n/\f e≠ks)∨(¬ mF t (pos t (hK prog w ks) n)/\has t.dummies (pos t (hK prog w ks) n)=true))->wpAny (model prog w) A (setSearchFrom a (.ref b) (hK prog w ks) false fuel jP) Q E s:=by
 intro fuel
 have y:=g.lies
 induction fuel with
 | zero=>intro s0 sE _ _ h1 h2;omega
 | succ fuel ih =>
  intro s0 sE jP d h1 h2 h2' hE hst hpre
  unfold setSearchFrom
  refine wpAny_bind (wpAny_setState_of ho rfl (y.fits g.len) ?_)
  simp only [g.odd,Bool.false_eq_true,if_false]
  obtain ⟨s2,d2,a1,a2,a3,a4⟩:=afm y.rise (fun i=>((((L.map (·.2)).toArray)[i]?).map (·.1)).getD 0) (hK prog w ks) (10 * turns t.mask) s0 sE d h1 h2' hE
  have hh:∀ i (hi:i < L.length),((((L.map (·.2)).toArray)[i]?).map (·.1)).getD 0=L[i].2.1:=fun i hi=>by simp [hi]
  have passed:∀ n,n < s2->(∃ e∈L,e.1=pos t (hK prog w ks) n/\f e≠ks)∨(¬ mF t (pos t (hK prog w ks) n)/\has t.dummies (pos t (hK prog w ks) n)=true):=fun n hn=>by
   by_cases c:n < s0
   ·exact hpre n c
   ·rcases a3 n (by omega) hn with ⟨i,hi,e1,e2⟩|z
    ·rw [y.sz] at hi
     rw [y.at hi] at e1
     rw [hh i hi] at e2
     refine .inl ⟨L[i],List.getElem_mem hi,e1,fun z=>e2 ?_⟩
     obtain ⟨b',_,_,e3⟩:=hf _ (List.getElem_mem hi)
     rw [e3,z]
    ·exact .inr z
  rcases a4 with ⟨hne,hp⟩|⟨i,hi,e1,e2,hp⟩
  ·-- an empty slot
   have hp':t.probe (fun i=>((((L.map (·.2)).toArray)[i]?).map (·.1)).getD 0) (hK prog w ks) (jP.getD (t.probeStart (hK prog w ks)))=some (.empty (pos t (hK prog w ks) s2) d2):=by rw [hst];exact hp
   generalize hr:t.probe _ (hK prog w ks) (jP.getD (t.probeStart (hK prog w ks)))=r
   obtain rfl:r=_:=hr.symm.trans hp'
   have none_:∀ e∈L,f e≠ks:=fun e he z=>by
    obtain ⟨b',_,_,e3⟩:=hf e he
    obtain ⟨n,r1,r2⟩:=g.reach e he
    rw [e3,z] at r1 r2
    by_cases c:n < s2
    ·rcases passed n c with ⟨e',he',q,ne⟩|⟨nl,_⟩
     ·have:=abx g.so he' he (q.trans r1)
      subst this
      exact ne z
     ·exact nl (g.live.mpr ⟨e,he,r1.symm⟩)
    ·by_cases d:s2 < n
     ·exact r2 s2 d hne
     ·obtain rfl:n=s2:=by omega
      exact hne.1 (g.live.mpr ⟨e,he,r1.symm⟩)
   simp only
   cases d2 with
   | none=>exact wpAny_pure (q2 _ _ none_)
   | some d0 =>
    simp only [Bool.false_and,Bool.false_eq_true,if_false]
    exact wpAny_pure (q2 _ _ none_)
  ·-- a key with the same hash
   rw [y.sz] at hi
   have e1':=e1
   rw [y.at hi] at e1
   obtain ⟨b',hv,hk',hx⟩:=hf _ (List.getElem_mem hi)
   have hp':t.probe (fun i=>((((L.map (·.2)).toArray)[i]?).map (·.1)).getD 0) (hK prog w ks) (jP.getD (t.probeStart (hK prog w ks)))=some (.candidate (pos t (hK prog w ks) s2) i (wd (jd t (s2 + 1) (t.probeStart (hK prog w ks))) d2)):=by rw [hst];exact hp
   generalize hr:t.probe _ (hK prog w ks) (jP.getD (t.probeStart (hK prog w ks)))=r
   obtain rfl:r=_:=hr.symm.trans hp'
   simp only
   have ei:((L.map (·.2)).toArray)[i]?=some (L[i].2.1,.ref b'):=by
    have:((L.map (·.2)).toArray)[i]?=some L[i].2:=by simp [hi]
    rw [this,<- hv]
   have rest:wpAny (model prog w) A (do
     let some (_,y):=((L.map (·.2)).toArray)[i]?|unsupported "internal:set-entry"
     let equal <- holding [y] (eqBool y (.ref b))
     let (es',_,t') <- setState a
     if false && equal then return .there none
     let some same:=t'.sameMemory t.moves t.mask|unsupported "set.changed-during-lookup:is-the-new-block-at-the-old-address"
     let still <- match (if same then t'.slot (pos t (hK prog w ks) s2) else .empty) with
      | .live i'=>match es'[i']? with
       | some (_,y')=>do pure (if <- isSame y' y then some i' else none)
       | none=>pure none
      | _=>pure none
     match still with
     | none=>rule "set.search.anew";setSearchFrom a (.ref b) (hK prog w ks) false fuel none
     | some i'=>if equal then return .there (some i') else setSearchFrom a (.ref b) (hK prog w ks) false fuel (some (wd (jd t (s2 + 1) (t.probeStart (hK prog w ks))) d2))) Q E s:=by
    rw [ei]
    simp only
    refine wpAny_bind (wpAny_holding ((TK prog w).eqBool hu hk' hb ?_))
    refine wpAny_bind (wpAny_setState_of ho rfl (y.fits g.len) ?_)
    simp only [Bool.false_and,Bool.false_eq_true,if_false]
    have hsm:t.sameMemory t.moves t.mask=some true:=by unfold sameMemory;simp
    rw [hsm]
    simp only [if_true]
    have hsl:t.slot (pos t (hK prog w ks) s2)=.live i:=by rw [<- e1'];exact qZ y.rise (by rw [y.sz];exact hi)
    rw [hsl]
    simp only [ei]
    refine wpAny_bind (pK (wpAny_bind (wpAny_pure ?_)))
    simp only [if_true]
    by_cases c:f L[i]=ks
    ·simp only [c,decide_true,if_true]
     exact wpAny_pure (q1 i hi c)
    ·simp only [c,decide_false,Bool.false_eq_true,if_false]
     have hne:s2≠sE:=fun z=>hE.1 (z▸g.live.mpr ⟨_,List.getElem_mem hi,e1⟩)
     refine ih (s2 + 1) sE _ d2 (by omega) (by omega) (by omega) hE rfl fun n hn=>?_
     by_cases d:n=s2
     ·subst d;exact .inl ⟨_,List.getElem_mem hi,e1,c⟩
     ·exact passed n (by omega)
   cases ahm:t.led with
   | true=>simp only [Bool.not_true,Bool.false_eq_true,if_false];exact rest
   | false =>
    simp only [Bool.not_false,if_true]
    refine wpAny_bind (Fz hb _ (fun y hy=>?_) ?_)
    ·obtain ⟨e,he,rfl⟩:=List.mem_map.mp hy
     have he':e∈(L.map (·.2)):=by
      have:=Array.mem_toList_iff.mp he
      have:=(Array.mem_filter.mp this).1
      simpa using this
     obtain ⟨e0,h0,rfl⟩:=List.mem_map.mp he'
     obtain ⟨b2,hv2,hk2,_⟩:=hf e0 h0
     exact ⟨_,b2,hv2,hk2⟩
    ·simp only [Bool.false_eq_true,if_false];exact rest
theorem Ur {a b:Addr} {ks:List Int} {L:List gW} {ep:Nat} {t:SetTable} {f:gW->List Int} {Q:Option Nat->Shared->Prop} (ho:s.heap.get? a=some (bL L ep t)) (g:oV t L) (mb:t.mask < 8000) (hf:∀ e∈L,Fx prog w s.heap e (f e)) (hb:IsTupleKey (intKind prog w) s.heap ks b) (hu:A.units < cLine)
  (q1:∀ i (hi:i < L.length),f L[i]=ks->Q (some i) s) (q2:(∀ e∈L,f e≠ks)->Q none s):wpAny (model prog w) A (setFind a (.ref b) (hK prog w ks)) Q E s:=by
 have adi:t.mask < 8000:=mb
 unfold setFind
 show wpAny (model prog w) A (setFindIn a (.ref b) (hK prog w ks) (99999 + 1)) Q E s
 unfold setFindIn
 refine wpAny_bind (wpAny_setState_of ho rfl (g.lies.fits g.len) ?_)
 have hby:byScan (.ref b) (L.map (·.2)).toArray=false:=by simp [byScan,Value.scannable]
 simp only [hby,Bool.false_eq_true,if_false]
 obtain ⟨e0,he0,hE0⟩:=g.emp
 obtain ⟨k,hk⟩:=g.pw
 obtain ⟨sE,_,hsE,pE⟩:=Fq hk (hK prog w ks) 0 he0
 refine wpAny_bind ?_
 unfold setSearch
 refine KH (f:=f) (Q:=fun r s'=>wpAny (model prog w) A (match r with
  | .there i=>_
  | .free ..=>_) Q E s') ho g hf hb hu (fun i hi c=>?_) (fun j d hno=>?_) 100000 0 sE none none (Nat.zero_le _) (by omega) (by unfold turns;omega) (by rw [pE];exact hE0) rfl (fun n hn=>absurd hn (by omega))
 ·exact wpAny_pure (q1 i hi c)
 ·exact wpAny_pure (q2 hno)
end
end Tb
namespace Tb
open PySem PySem.Spec PySem.SetTable
def cC (prog:Program) (w:World) (U:Addr->List Int->Prop) (h:Heap) (a:Addr) (aF:List (List Int)):Prop :=
 ∃ (L:List gW) (ep:Nat) (t:SetTable) (f:Int×Value->List Int),h.get? a=some (bL L ep t)/\oV t L/\t.mask < 8000/\(t.plain=true/\t.led=!jj w)/\(∀ e∈L,Fx prog w h e (f e.2))/\(L.map fun e=>f e.2).Perm aF/\aF.Nodup/\∀ e∈L,∀ b,e.2.2=.ref b->U b (f e.2)
section
variable {prog:Program} {w:World} {U:Addr->List Int->Prop} {A:Around} {E:Value->Shared->Prop} {s:Shared}
theorem aL.lost {h:Heap} {a:Addr} {aF:List (List Int)} (x:aL prog w U h a aF):cC prog w U h a aF:=by
 obtain ⟨L,ep,t,f,ho,g,room,mb,pl,hf,hp,nd,uu⟩:=x
 have:=g.m7
 exact ⟨L,ep,t,f,ho,g.lost (by omega),mb,pl,hf,hp,nd,uu⟩
theorem cC.nd {h:Heap} {a:Addr} {aF:List (List Int)} (x:cC prog w U h a aF):aF.Nodup:=by
 obtain ⟨_,_,_,_,_,_,_,_,_,_,z,_⟩:=x;exact z
theorem cC.perm {h:Heap} {a:Addr} {aF gZ:List (List Int)} (x:cC prog w U h a aF) (p:aF.Perm gZ):cC prog w U h a gZ:=by
 obtain ⟨L,ep,t,f,ho,g,mb,pl,hf,hp,nd,uu⟩:=x
 exact ⟨L,ep,t,f,ho,g,mb,pl,hf,hp.trans p,p.nodup_iff.mp nd,uu⟩
theorem Pj {a b:Addr} {ks:List Int} {aF:List (List Int)} {Q:Bool->Shared->Prop} (hS:cC prog w U s.heap a aF) (hb:IsTupleKey (intKind prog w) s.heap ks b) (hu:A.units < cLine)
  (h:∀ h' r,Heap.SameBut a s.heap h'->cC prog w U h' a (aF.erase ks)->Q r { s with heap:=h' }):wpAny (model prog w) A (setDiscardHashed a (.ref b) (hK prog w ks)) Q E s:=by
 obtain ⟨L,ep,t,f,ho,g,mb,pl,hf,hp,nd,uu⟩:=hS
 have hmem:∀ x,x∈aF↔∃ e∈L,f e.2=x:=fun x=>by rw [<- hp.mem_iff,List.mem_map]
 unfold setDiscardHashed
 refine wpAny_bind (Ur (f:=fun e=>f e.2) ho g mb hf hb hu (fun i hi c=>?_) fun hno=>?_)
 ·simp only
  refine wpAny_bind (wpAny_setState_of ho rfl (g.lies.fits g.len) ?_)
  simp only
  have ee:eraseAt ((L.map (·.2)).toArray) i=(((L.eraseIdx i).map (·.2)).toArray):=by rw [uP _ _ (by simpa using hi),Ph]
  rw [ee]
  obtain ⟨g',d1,d2,d3⟩:=g.drop hi
  have hlen:(L.eraseIdx i).length<=1000000:=by have:=g.len;rw [List.length_eraseIdx_of_lt hi];omega
  refine wpAny_bind (jQ (L':=L.eraseIdx i) (t':=t.drop i) ho hlen fun h' hs hg=>wpAny_bind (wpAny_point (wpAny_pure (h h' true hs ?_))))
  have sub:∀ e,e∈L.eraseIdx i->e∈L:=fun e he=>(List.eraseIdx_sublist L i).subset he
  refine ⟨L.eraseIdx i,ep + 1,t.drop i,f,hg,g',by rw [d3];exact mb,⟨d1.trans pl.1,d2.trans pl.2⟩,fun e he=>?_,?_,nd.erase _,fun e he=>uu e (sub e he)⟩
  ·obtain ⟨b',h1,h2,h3⟩:=hf e (sub e he)
   exact ⟨b',h1,je ho hs h2,h3⟩
  ·have p1:(L[i]::L.eraseIdx i).Perm L:=jR hi
   have p2:=(p1.map fun e=>f e.2).trans hp
   rw [List.map_cons,show f L[i].2=ks from c] at p2
   have:=p2.erase ks
   simpa using this
 ·refine wpAny_pure (h s.heap false (Heap.SameBut.refl a s.heap) ?_)
  rw [List.erase_of_not_mem fun z=>by obtain ⟨e,he,q⟩:=(hmem ks).mp z;exact hno e he q]
  exact ⟨L,ep,t,f,ho,g,mb,pl,hf,hp,nd,uu⟩
theorem uQ {x:List Int}:∀ (ks aF:List (List Int)),aF.Nodup->((ks.foldl List.erase aF).Nodup/\(x∈ks.foldl List.erase aF↔x∈aF/\x∉ks))
 | [],aF,nd=>⟨nd,by simp⟩
 | k::ks,aF,nd=>by
  obtain ⟨h1,h2⟩:=uQ (x:=x) ks (aF.erase k) (nd.erase k)
  refine ⟨h1,?_⟩
  rw [List.foldl_cons,h2,nd.mem_erase_iff]
  simp only [List.mem_cons,not_or]
  constructor
  ·rintro ⟨⟨a,b⟩,c⟩;exact ⟨b,a,c⟩
  ·rintro ⟨b,a,c⟩;exact ⟨⟨a,b⟩,c⟩
theorem uR:∀ (ks aF:List (List Int)),(ks.foldl List.erase aF).length<=aF.length
 | [],aF=>Nat.le_refl _
 | k::ks,aF=>by
  rw [List.foldl_cons]
  have h1:=uR ks (aF.erase k)
  have h2:(aF.erase k).length<=aF.length:=List.length_erase_le
  omega
theorem DR {r:Addr} {f:Int×Value->List Int} {body:Int×Value->PUnit->Sem (ForInStep PUnit)} {s0:Shared} {Q:PUnit->Shared->Prop}
  (hbody:∀ (e:Int×Value) (b:Addr) (acc:List (List Int)) (s':Shared) (R:ForInStep PUnit->Shared->Prop),e=(hK prog w (f e),.ref b)->IsTupleKey (intKind prog w) s'.heap (f e) b->Heap.SameBut r s0.heap s'.heap->cC prog w U s'.heap r acc ->
   (∀ h',Heap.SameBut r s'.heap h'->cC prog w U h' r (acc.erase (f e))->R (.yield ⟨⟩) { s' with heap:=h' })->wpAny (model prog w) A (body e ⟨⟩) R E s') :
  ∀ (es:List (Int×Value)) (acc:List (List Int)) (s':Shared),(∀ e∈es,∃ b,e=(hK prog w (f e),.ref b)/\IsTupleKey (intKind prog w) s0.heap (f e) b/\U b (f e))->Heap.SameBut r s0.heap s'.heap->cC prog w U s'.heap r acc ->
   (∃ o,s0.heap.get? r=some o/\∀ xs m,o.data≠.seq xs m) ->
   (∀ h',Heap.SameBut r s0.heap h'->cC prog w U h' r ((es.map f).foldl List.erase acc)->Q ⟨⟩ { s' with heap:=h' })->wpAny (model prog w) A (forIn es PUnit.unit body) Q E s'
 | [],acc,s',_,hs,hS,_,h=>by
  rw [List.forIn_nil]
  exact wpAny_pure (h s'.heap hs hS)
 | e::es,acc,s',he,hs,hS,hr,h=>by
  rw [List.forIn_cons]
  obtain ⟨b,e1,k1,u1⟩:=he e (.head _)
  have key':IsTupleKey (intKind prog w) s'.heap (f e) b:=by
   obtain ⟨o,its,n,q1,q2,q3,q4⟩:=k1
   obtain ⟨ro,g1,g2⟩:=hr
   have ne:b≠r:=fun z=>by subst z;rw [g1] at q1;cases q1;exact g2 _ _ q3
   exact ⟨o,its,n,(hs.2 b ne).trans q1,q2,q3,q4⟩
  refine wpAny_bind (hbody e b acc s' _ e1 key' hs hS fun h' hs' hS'=>?_)
  refine DR hbody es _ { s' with heap:=h' } (fun e' h'=>he e' (.tail _ h')) (hs.trans hs') hS' hr fun h2 hs2 hS2=>?_
  exact h h2 hs2 hS2
theorem Us {a:Addr} {aF:List (List Int)} {Q:Unit->Shared->Prop} (hS:cC prog w U s.heap a aF) (hn:aF.length < 1000) (h:∀ h',Heap.SameBut a s.heap h'->cC prog w U h' a aF->Q () { s with heap:=h' }):wpAny (model prog w) A (setTidy a) Q E s:=by
 obtain ⟨L,ep,t,f,ho,g,mb,pl,hf,hp,nd,uu⟩:=hS
 have hlen:L.length=aF.length:=by have:=hp.length_eq;simpa using this
 unfold setTidy
 refine wpAny_bind (wpAny_setState_of ho rfl (g.lies.fits g.len) ?_)
 simp only
 cases c:t.tooManyDummies with
 | false =>
  simp only [Bool.false_eq_true,if_false]
  exact wpAny_pure (h s.heap (Heap.SameBut.refl a s.heap) ⟨L,ep,t,f,ho,g,mb,pl,hf,hp,nd,uu⟩)
 | true =>
  simp only [if_true]
  have es:((L.map (·.2)).toArray).size=L.length:=by simp
  rw [es]
  have hg:grown L.length=L.length * 4:=by unfold grown;rw [if_neg (by omega)]
  rw [hg]
  obtain ⟨s1,s2,s3,s4⟩:=jw (L.length * 4) (by omega)
  unfold setRelay
  refine wpAny_bind (wpAny_setState_of ho rfl (g.lies.fits g.len) ?_)
  have hsz:¬ sizeAbove (L.length * 4) > sizeLine:=by rw [sizeLine_eq];omega
  simp only [hsz,if_false]
  obtain ⟨t',order,L',e1,e2,e3,e4,e5,g',e6,e7⟩:=rm s1 s2 t.finger (t.movedTo (sizeAbove (L.length * 4) - 1)) t.led t.plain (L.map (·.2)) (by simp;omega)
  have hlen':L'.length=L.length:=by have:=e7.length_eq;simpa using this
  have er:t.relaid (((L.map (·.2)).toArray).map (·.1)) (L.length * 4)=some (t',order):=by
   unfold relaid
   have:((L.map (·.2)).toArray).map (·.1)=((L.map (·.2)).map (·.1)).toArray:=by simp
   rw [this];exact e1
  have main:wpAny (model prog w) A (do
    let some (t,order):=t.relaid (((L.map (·.2)).toArray).map (·.1)) (L.length * 4)|unsupported "internal:set-table-without-room"
    let es':=order.filterMap (((L.map (·.2)).toArray)[·]?)
    if es'.size != ((L.map (·.2)).toArray).size then unsupported "internal:set-table-lost-an-element"
    pure (es',t)) (fun r s'=>wpAny (model prog w) A (storeSet a r.1 r.2) Q E s') E s:=by
   rw [er]
   simp only
   rw [e6]
   have:((L'.map (·.2)).toArray.size != ((L.map (·.2)).toArray).size)=false:=by simp [hlen']
   rw [this]
   simp only [Bool.false_eq_true,if_false]
   refine wpAny_pure ?_
   refine jQ (t':=t') ho (by omega) fun h' hs hg=>h h' hs ⟨L',ep + 1,t',f,hg,g'.lost (by rw [e2];omega),by rw [e2];omega,⟨e4.trans pl.1,e3.trans pl.2⟩,fun e he=>?_,?_,nd,fun e he=>?_⟩
   ·obtain ⟨e0,h0,q0⟩:=List.mem_map.mp (e7.mem_iff.mp (List.mem_map_of_mem he))
    obtain ⟨b',h1,h2,h3⟩:=hf e0 h0
    rw [q0] at h1 h2 h3
    exact ⟨b',h1,je ho hs h2,h3⟩
   ·have:=(e7.map f)
    simp only [List.map_map] at this
    exact this.trans hp
   ·obtain ⟨e0,h0,q0⟩:=List.mem_map.mp (e7.mem_iff.mp (List.mem_map_of_mem he))
    have:=uu e0 h0
    rw [q0] at this
    exact this
  exact wpAny_bind main
theorem cC.keys {h:Heap} {a:Addr} {aF:List (List Int)} (x:cC prog w U h a aF):∃ o,h.get? a=some o/\∀ xs m,o.data≠.seq xs m:=by
 obtain ⟨L,ep,t,f,ho,_⟩:=x
 exact ⟨_,ho,fun xs m z=>by cases z⟩
theorem Ut {id:String} {r o:Addr} {aF js:List (List Int)} {Q:Unit->Shared->Prop} (hr:aL prog w U s.heap r aF) (ho:aL prog w U s.heap o js) (hne:r≠o) (hk:aF.length < 900) (hj:js.length<=aF.length) (hu:A.units < cLine)
  (h:∀ h' ls,Heap.SameBut r s.heap h'->(∀ x,x∈ls↔x∈aF/\x∉js)->cC prog w U h' r ls->Q () { s with heap:=h' }):wpAny (model prog w) A (Builtin.Frozenset.differenceUpdate id r (.ref o)) Q E s:=by
 obtain ⟨L,ep,t,f,hoD,gs,hlen,hp,he⟩:=ho.goes (by omega)
 unfold Builtin.Frozenset.differenceUpdate
 refine Ga (by rw [beq_eq_false_iff_ne];intro e;injection e with e;exact hne e.symm) ?_
 refine wpAny_bind (pP ho.ty ?_)
 simp only [if_true]
 refine wpAny_bind (m:=Builtin.Frozenset.addrOf _) (wpAny_pure ?_)
 refine wpAny_bind (iK ho (by omega) (wpAny_bind (iK hr (by omega) ?_)))
 have hc:¬ js.length / 8 > aF.length:=by omega
 rw [if_neg hc]
 refine wpAny_bind (wpAny_setEpoch_of hoD rfl (gs.g.fits gs.hl) ?_)
 refine wpAny_bind (wpAny_holding (wpAny_bind (pN hoD gs ?_)))
 rw [<- Array.forIn_toList]
 refine wpAny_bind (DR (U:=U) (r:=r) (f:=f) (s0:=s) (fun e b acc s' R e1 k1 hs' hS' hR'=>?_) _ aF s he (Heap.SameBut.refl r s.heap) hr.lost hr.lost.keys fun h' hs' hS'=>?_)
 ·rw [e1]
  simp only
  refine wpAny_bind (wpAny_holding (Pj hS' k1 hu fun h2 q hs2 hS2=>?_))
  unfold Builtin.Frozenset.unchanged
  have hD':h2.get? o=some (bL L ep t):=(hs2.2 o (Ne.symm hne)).trans ((hs'.2 o (Ne.symm hne)).trans hoD)
  refine wpAny_bind (wpAny_bind (wpAny_setEpoch_of (s:={ s' with heap:=h2 }) hD' rfl (gs.g.fits gs.hl) ?_))
  simp only [bne_self_eq_false,Bool.false_eq_true,if_false]
  exact wpAny_pure (wpAny_pure (hR' h2 hs2 hS2))
 ·refine wpAny_pure ?_
  have hle:=uR ((cR w o ep L).toList.map f) aF
  refine Us (s:={ s with heap:=h' }) hS' (by omega) fun h2 hs2 hS2=>h h2 _ (hs'.trans hs2) (fun x=>?_) hS2
  rw [(uQ (x:=x) _ aF hr.nd).2,hp.mem_iff]
end
end Tb
namespace Tb
open PySem PySem.Spec PySem.SetTable
section
variable {prog:Program} {w:World} {U:Addr->List Int->Prop} {A:Around} {E:Value->Shared->Prop} {s:Shared}
theorem afn {id:String} {l r:Addr} {aF js:List (List Int)} {Q:Value->Shared->Prop} (hl:aL prog w U s.heap l aF) (hr:aL prog w U s.heap r js) (hk:aF.length < 900) (hj:js.length < 900) (hu:A.units < cLine)
  (h:∀ h' tk ls,(∀ b o,s.heap.get? b=some o->h'.get? b=some o)->(∀ x,x∈ls↔x∈aF/\x∉js)->cC prog w U h' s.heap.objs.size ls->Q (.ref s.heap.objs.size) { s with heap:=h',toks:=tk }) :
  wpAny (model prog w) A (Builtin.Frozenset.difference id l (.ref r)) Q E s:=by
 have lt:∀ {D:Addr} {k:List (List Int)},aL prog w U s.heap D k->D < s.heap.objs.size:=fun hS=>by obtain ⟨L,ep,t,ho,_⟩:=hS.len;exact Heap.lt_size ho
 by_cases c:aF.length / 4 > js.length
 ·unfold Builtin.Frozenset.difference
  refine wpAny_bind (pP hr.ty ?_)
  simp only [Bool.not_true,Bool.false_eq_true,if_false,Bool.false_and,if_true]
  refine wpAny_bind (m:=Builtin.Frozenset.addrOf _) (wpAny_pure ?_)
  refine wpAny_bind (iK hr (by omega) (wpAny_bind (iK hl (by omega) ?_)))
  rw [if_pos c]
  refine wpAny_bind (wpAny_rule ?_)
  refine wpAny_bind (FZ hl (by omega) hu fun h1 tk1 k1 kp nd1 hm1 hS1=>?_)
  have hp:k1.length=aF.length:=(dR nd1 hl.nd hm1).length_eq
  refine wpAny_bind (m:=Builtin.Frozenset.addrOf _) (wpAny_pure ?_)
  refine wpAny_bind (wpAny_holding (Ut (s:={ s with heap:=h1,toks:=tk1 }) hS1 (hr.moved fun b o _ e=>kp b o e) (Nat.ne_of_gt (lt hr)) (by omega) (by omega) hu fun h2 ls hs2 hm2 hS2=>?_))
  exact wpAny_pure (h h2 tk1 ls (fun b o e=>(hs2.2 b (Nat.ne_of_lt (Heap.lt_size e))).trans (kp b o e)) (fun x=>by rw [hm2 x,hm1 x]) hS2)
 ·exact ahy hl hr hk hj (.inr c) hu fun h' tk ls k hm hS=>h h' tk ls k hm hS.lost
theorem aby {l r:Addr} {aF js:List (List Int)} {Q:Value->Shared->Prop} (hl:aL prog w U s.heap l aF) (hr:aL prog w U s.heap r js) (hk:aF.length < 900) (hj:js.length < 900) (hu:A.units + 4 < cLine)
  (h:∀ h' tk ls,(∀ b o,s.heap.get? b=some o->h'.get? b=some o)->(∀ x,x∈ls↔x∈aF/\x∉js)->cC prog w U h' s.heap.objs.size ls->Q (.ref s.heap.objs.size) { s with heap:=h',toks:=tk }) :
  wpAny (model prog w) A (binaryOp .Sub (.ref l) (.ref r)) Q E s:=by
 refine wpAny_binaryOp_same (op:=.Sub) (T:="set") hl.ty hr.ty F.fills_set_sub F.slot_set_sub (wpAny_call_entry F.slot_set_sub hl.ty JT ?_ (F.args_set_sub_2 _ _))
 exact Om (name:="__sub__") hl.ty hr.ty (afn hl hr hk hj (by show A.units + 1 < cLine;omega) fun h' tk ls k hm hS=>⟨_,rfl,by simp,h h' tk ls k hm hS⟩)
end
end Tb
namespace So
open PySem PySem.Spec PySem.W PyProof.Rows PySem.Calls PySem.SetTable Tb
section
variable {prog:Program} {w:World} {A:Around} {E:Value->Shared->Prop} {s:Shared} {U:Addr->List Int->Prop}
def KJ (prog:Program) (w:World) (U:Addr->List Int->Prop) (o:Obj) (aF:List (List Int)):Prop :=
 ∃ (L:List gW) (ep:Nat) (t:SetTable) (f:Int×Value->List Int),o=bL L ep t/\oV t L/\t.mask < 8000/\(t.plain=true/\t.led=!jj w)/\(∀ e∈L,∃ b,e.2.2=.ref b/\e.2.1=hK prog w (f e.2)/\U b (f e.2))/\(L.map fun e=>f e.2).Perm aF/\aF.Nodup
theorem cC.obj {h:Heap} {a:Addr} {aF:List (List Int)} (x:cC prog w U h a aF):∃ o,h.get? a=some o/\KJ prog w U o aF:=by
 obtain ⟨L,ep,t,f,ho,g,mb,pl,hf,hp,nd,uu⟩:=x
 refine ⟨_,ho,L,ep,t,f,rfl,g,mb,pl,fun e he=>?_,hp,nd⟩
 obtain ⟨b,h1,h2,h3⟩:=hf e he
 exact ⟨b,h1,h3,uu e he b h1⟩
theorem KJ.at {h:Heap} {a:Addr} {o:Obj} {aF:List (List Int)} (x:KJ prog w U o aF) (ho:h.get? a=some o) (hU:∀ b ks,U b ks->IsTupleKey (intKind prog w) h ks b):cC prog w U h a aF:=by
 obtain ⟨L,ep,t,f,rfl,g,mb,pl,hf,hp,nd⟩:=x
 refine ⟨L,ep,t,f,ho,g,mb,pl,fun e he=>?_,hp,nd,fun e he b hb=>?_⟩
 ·obtain ⟨b,h1,h2,h3⟩:=hf e he
  exact ⟨b,h1,hU _ _ h3,h2⟩
 ·obtain ⟨b',h1,h2,h3⟩:=hf e he
  rw [hb] at h1;cases h1;exact h3
theorem KN {D:Addr} {aF:List (List Int)} {Q:Value->Shared->Prop} (hh:A.handled=none) (hS:cC prog w U s.heap D aF) (hne:∀ ks∈aF,ks≠[]) (h64:aF.length < 1000)
  (h:∀ h' tk l n (out:List Value),(∀ b o,s.heap.get? b=some o->h'.get? b=some o)->s.heap.objs.size<=l->Kr U out (bJ aF)->h'.get? l=some (seqObj "list" out.toArray n)->Q (.ref l) { s with heap:=h',toks:=tk }) :
  wpAny (model prog w) A (call (.builtin "sorted") [.ref D]) Q E s:=by
 obtain ⟨L,ep,t,f,ho,g,mb,pl,hf,hp,nd,uu⟩:=hS
 have hlen:L.length=aF.length:=by have:=hp.length_eq;simpa using this
 have gs:Goes w L t:=⟨g.lies,g.len,pl.1,pl.2⟩
 have op:=rz w D ep L
 have osz:(cR w D ep L).toList.length=L.length:=by rw [Array.length_toList,fY]
 have kp:((cR w D ep L).toList.map f).Perm aF:=((op.map f).trans (List.Perm.of_eq (by rw [List.map_map];rfl))).trans hp
 have each:∀ x∈(cR w D ep L).toList,∃ b,x.2=.ref b/\IsTupleKey (intKind prog w) s.heap (f x) b/\U b (f x):=fun x hx=>by
  obtain ⟨e,he,rfl⟩:=List.mem_map.mp (op.mem_iff.mp hx)
  obtain ⟨b,h1,h2,h3⟩:=hf e he
  exact ⟨b,h1,h2,uu e he b h1⟩
 have at_:∀ (i:Nat) v,((cR w D ep L).toList.map (·.2))[i]?=some v->∃ x,x∈(cR w D ep L).toList/\v=x.2/\((cR w D ep L).toList.map f).getD i []=f x:=fun i v hv=>by
  rw [List.getElem?_map] at hv
  cases e:(cR w D ep L).toList[i]? with
  | none=>rw [e] at hv;cases hv
  | some x =>
   rw [e] at hv
   refine ⟨x,List.mem_of_getElem? e,(Option.some.inj hv).symm,?_⟩
   rw [List.getD_eq_getElem?_getD,List.getElem?_map,e];rfl
 refine vO (vs:=(cR w D ep L).toList.map (·.2)) (aF:=(cR w D ep L).toList.map f) (fun Q' E' hq=>?_) ⟨by simp,fun i v hv=>?_⟩ (fun ks hks=>?_) (by rw [List.length_map,osz];omega) fun h' tk l n p k hl hsp hg=>?_
 ·exact wL (by simpa using hh) ho gs (by omega) hq
 ·obtain ⟨x,hx,rfl,e⟩:=at_ i v hv
  obtain ⟨b,h1,h2,h3⟩:=each x hx
  exact ⟨b,h1,by rw [e];exact h2⟩
 ·exact hne ks (kp.mem_iff.mp hks)
 ·refine h h' tk l n _ k hl (sI ⟨by simp,fun i v hv=>?_⟩ hsp kp) hg
  obtain ⟨x,hx,rfl,e⟩:=at_ i v hv
  obtain ⟨b,h1,h2,h3⟩:=each x hx
  exact ⟨b,h1,by rw [e];exact h3⟩
end
end So
namespace Vl
open PySem PySem.Spec L2 So Tb
def KQ (P:Program) (w:World) (U:Addr->List Int->Prop) (a:Addr) (aF:List (List Int)):Heap->Prop:=fun h=>∃ o,h.get? a=some o/\KJ P w U o aF
section
variable {X:Cx} {B:Bs} {W:Wi}
def Yx (P:Program) (w:World) (K:PySem.W.Frag):List V->Hp->VK->Prop:=fun xs H Q=>∃ (p:Addr) (aF:List (List Int)) (U:Addr->List Int->Prop),xs=[.ref p]/\H p=some (.ext (KQ P w U p aF))/\(∀ b ks,U b ks->lK K H b (ks.map V.int))/\(∀ ks∈aF,ks≠[])/\aF.length < 1000 /\
 ∀ l ys,H l=none->ys.length=(bJ aF).length->(∀ (i:Nat) v,ys[i]?=some v->∃ b,v=.ref b/\U b ((bJ aF).getD i []))->Q (.ref l) (dY H l (.lst ys))
theorem Gp (hc:X.calm=true):kW X (.builtin "sorted") (Yx X.prog X.w X.K):=by
 intro pins s σ H xs us Q I r h
 obtain ⟨p,aF,U,rfl,hp,hU,hne,h64,q⟩:=h
 obtain ⟨u,rfl,rx⟩:=r.one
 cases rx
 obtain ⟨⟨o,ho,x⟩,_⟩:=I.hok _ _ hp
 have hS:=So.KJ.at x ho (fun b ks hb=>zA I (hU b ks hb))
 refine So.KN (I.ok.hd hc) hS hne h64 fun h' tk l n out k hl ho hg=>?_
 have hln:H l=none:=I.hok.fresh hl
 have hv:∃ ys:List V,Vals ys out/\ys.length=(bJ aF).length/\∀ (i:Nat) v,ys[i]?=some v->∃ b,v=.ref b/\U b ((bJ aF).getD i []):=by
  refine ⟨out.map fun v=>match v with|.ref b=>V.ref b|_=>V.non,?_,by simp [ho.1],fun i v hv=>?_⟩
  ·have:∀ v∈out,∃ b,v=Value.ref b:=fun v hv=>by
    obtain ⟨i,hi⟩:=List.mem_iff_getElem?.mp hv
    obtain ⟨b,e,_⟩:=ho.2 i v hi;exact ⟨b,e⟩
   clear ho hg
   induction out with
   | nil=>exact .nil
   | cons a out ih =>
    obtain ⟨b,rfl⟩:=this a (.head _)
    exact .cons rfl (ih fun v hv=>this v (.tail _ hv))
  ·rw [List.getElem?_map] at hv
   cases e:out[i]? with
   | none=>rw [e] at hv;cases hv
   | some v' =>
    rw [e] at hv
    obtain ⟨b,rfl,h2⟩:=ho.2 i v' e
    exact ⟨b,(Option.some.inj hv).symm,h2⟩
 obtain ⟨ys,rv,yl,yv⟩:=hv
 have e0:s.heap.objs.size<=l:=hl
 refine ⟨.ref l,_,I.laid (t':=tk) k hl (show eZ X.prog X.w _ h' _ (.lst ys) from ⟨?_,out,n,rv,hg⟩),rfl,q l ys hln yl yv⟩
 have:(bJ aF).length=aF.length:=(dg aF).length_eq
 rw [yl,this,sizeLine_eq];omega
def Yy (P:Program) (w:World) (K:PySem.W.Frag) (W:Wi) (σ:St) (G H:Hp) (r:Rs (List (List Int))) (Q:VK):Prop :=
 match r with
 | .ok aF=>∀ a H' G',Ext G H G' H'->H a=none->H' a=some (.ext (KQ P w (UG K G') a aF))->Q (.ref a) H'
 | .ex c n=>∀ H' G',Ext G H G' H'->W c n σ H'
 | .no=>False
def tW (P:Program) (w:World) (K:PySem.W.Frag) (B:Bs) (W:Wi) (f:ak->Rs (List (List Int))):TE:=fun σ H Q=>∃ ρ G,SR K B σ H ρ G/\Yy P w K W σ G H (f ρ) Q
def SL (X:Cx) (B:Bs) (W:Wi) (e:Expr) (f:ak->Rs (List (List Int))):Prop:=PE X e (tW X.prog X.w X.K B W f)
def rW2 (P:Program) (w:World) (K:PySem.W.Frag) (C:List (List Int)->List (List Int)->Prop) (g:List (List Int)->List (List Int)->List (List Int)):R2:=fun x y H Q=>∃ (p p2:Addr) (a b:List (List Int)) (U1 U2 U:Addr->List Int->Prop),x=.ref p/\y=.ref p2/\p≠p2/\H p=some (.ext (xG P w U1 p a))/\H p2=some (.ext (xG P w U2 p2 b)) /\
 (∀ c ks,U1 c ks->U c ks)/\(∀ c ks,U2 c ks->U c ks)/\(∀ c ks,U c ks->lK K H c (ks.map V.int))/\C a b/\∀ l,H l=none->Q (.ref l) (dY H l (.ext (KQ P w U l (g a b))))
theorem Uu {pins:List (Addr×Obj)} {σ:St} {H:Hp} {s:Shared} {Q:VK} {U:Addr->List Int->Prop} {ls a:List (List Int)} {h':Heap} {tk:Nat} (I:Inv X pins σ H s) (k:∀ b o,s.heap.get? b=some o->h'.get? b=some o) (hS:cC X.prog X.w U h' s.heap.objs.size ls) (p:ls.Perm a)
  (q:∀ l,H l=none->Q (.ref l) (dY H l (.ext (KQ X.prog X.w U l a)))):EP X pins σ Q (.ref s.heap.objs.size) { s with heap:=h',toks:=tk }:=by
 have hS':=hS.perm p
 refine ⟨.ref s.heap.objs.size,_,I.laid (t':=tk) k (Nat.le_refl _) (show eZ X.prog X.w _ h' _ (.ext (KQ X.prog X.w U s.heap.objs.size a)) from ⟨So.cC.obj hS',?_,?_⟩),rfl,q _ I.fresh⟩
 ·obtain ⟨o,ho,_⟩:=So.cC.obj hS';exact ⟨o,ho⟩
 ·rintro h1 h2 ⟨o,ho,x⟩ hk';exact ⟨o,hk' o ho,x⟩
theorem abz (hu:X.A.units + 8 < cLine):pB X (binaryOp .Sub) (rW2 X.prog X.w X.K Ba OJ):=by
 intro pins s σ H x y v u Q I rx ry ⟨p,p2,a,b,U1,U2,U,ex,ey,ne,h1,h2,u1,u2,hU,hc,q⟩
 subst ex ey
 cases rx
 cases ry
 have A1:=vQ I h1 u1 hU
 have A2:=vQ I h2 u2 hU
 exact aby A1 A2 hc.1 hc.2 (by omega) fun h' tk ls k hm hS=>Uu I k hS (dR hS.nd (A1.nd.filter _) fun x=>by rw [hm x];exact zG.symm) q
abbrev abA:=gK Ba OJ
theorem Yz {a b:Expr} {pos:Pos} {fa fb:ak->Rs (List (List Int))} (hc:X.calm=true) (hu:X.A.units + 8 < cLine) (ha:SK X B W a fa) (hb:SK X B W b fb) :
  SL X B W (.BinOp a .Sub b pos) (Vv abA fa fb):=by
 refine PE.imp (QM (abz hu) ha hb) fun σ H Q h=>?_
 obtain ⟨ρ,G,s,p⟩:=h
 refine ⟨ρ,G,s,?_⟩
 unfold Vv at p
 cases e1:fa ρ with
 | ok l =>
  rw [e1] at p
  have p':Yy X.prog X.w X.K W σ G H ((fb ρ).bind fun m=>abA l m) Q:=p
  intro p1 H1 G1 x1 n1 h1
  refine ⟨ρ,G1,s.ext x1,?_⟩
  cases e2:fb ρ with
  | ok m =>
   rw [e2] at p'
   have p2':Yy X.prog X.w X.K W σ G H (if Ba l m then .ok (OJ l m) else .no) Q:=p'
   intro p2 H2 G2 x2 n2 h2
   have ne:p1≠p2:=fun z=>by subst z;rw [h1] at n2;cases n2
   by_cases hc:Ba l m
   ·rw [if_pos hc] at p2'
    refine ⟨p1,p2,l,m,UG X.K G1,UG X.K G2,UG X.K G2,rfl,rfl,ne,x2.hh _ _ h1,h2,fun c ks q=>Same.gU x2.gg q,fun c ks q=>q,fun c ks q=>Same.gU x2.gh q,hc,fun l' hl'=>?_⟩
    have x12:=x1.trans x2
    exact p2' l' _ G2 (x12.trans (Gm x2.gh x2.tp hl')) (by cases e:H l' with|none=>rfl|some o=>have:=x12.hh _ _ e;rw [hl'] at this;cases this) aY
   ·rw [if_neg hc] at p2';exact p2'.elim
  | ex c n=>rw [e2] at p';exact fun H2 G2 x2=>p' H2 G2 (x1.trans x2)
  | no=>rw [e2] at p';exact p'
 | ex c n=>rw [e1] at p;exact p
 | no=>rw [e1] at p;exact p
theorem zM {e:Expr} {p pos:Pos} {f:ak->Rs (List (List Int))} (hc:X.calm=true) (hm:X.mg "sorted"=none) (he:SL X B W e f) (hg:Gl X "sorted":=by rfl) (hst:starEach [e] X.env=[(false,eval e X.env)]:=by rfl) :
  SE X B W (.Call (.Name "sorted" p) [e] [] pos) (lG f):=by
 refine PE.imp (jK (Gp hc) hg hm PyProof.Rows.boot_sorted (cW he iy hst) (by decide) (by decide) hst rfl) fun σ H Q h=>?_
 obtain ⟨ρ,G,s,p⟩:=h
 refine ⟨ρ,G,s,?_⟩
 unfold lG at p
 cases e1:f ρ with
 | ok aF =>
  rw [e1] at p
  intro a H' G' x _ ha
  have p':Post X.K W σ G H (vP aF) Q:=p
  unfold vP at p'
  by_cases hc':(∀ ks∈aF,ks≠[])/\aF.length < 1000
  ·rw [if_pos hc'] at p'
   refine ⟨a,aF,UG X.K G',rfl,ha,fun b ks hb=>Same.gU x.gh hb,hc'.1,hc'.2,fun l ys hl hy hv=>?_⟩
   have x2:=uo (xs:=ys) x.gh x.tp hl
   refine p' _ _ _ (x.trans x2) (aO.mpr ⟨l,ys,rfl,.of aY,?_⟩)
   exact (lU hy hv).mono x2.gg
  ·rw [if_neg hc'] at p';exact p'.elim
 | ex c n=>rw [e1] at p;exact p
 | no=>rw [e1] at p;exact p
end
end Vl
namespace Vl
open PySem PySem.Spec L2 Dk
section
variable {prog:Program} {w:World} {A:Around} {E:Value->Shared->Prop} {s:Shared}
end
section
variable {X:Cx} {B:Bs} {W:Wi}
end
end Vl
namespace So
open PySem PySem.Spec PySem.W PyProof.Rows PySem.Calls Tb
section
variable {prog:Program} {w:World} {A:Around} {E:Value->Shared->Prop} {s:Shared}
section
variable {I S:Addr} {fp wr:List Addr} {G:Array GenState->Array GenState->Prop} {n:Nat} {P:Nat->Value->Prop} {St:Nat->Shared->Prop} {R:Result->Shared->Prop} {Kp:Heap->Prop} {bt:Nat->Nat->Bool}
def two (v:Value) (c:Nat):Obj:={ cls:=.type "list",dict:=none,data:=.seq #[v,v] c,slots:=#[] }
end
end
end So
namespace Vl
open PySem PySem.Spec L2 So
section
variable {X:Cx} {B:Bs} {W:Wi} {K:PySem.W.Frag}
end
end Vl
namespace Vl
open PySem PySem.Spec L2
theorem rB {α β:Type} (f:α->β):∀ (l:List α) (j:Nat),(l.map f).eraseIdx j=(l.eraseIdx j).map f
 | [],_=>rfl
 | _::_,0=>rfl
 | _::l,j + 1=>by simp [List.eraseIdx_cons_succ,rB f l j]
section
variable {prog:Program} {w:World} {K:Type} [DecidableEq K] {knd:HeapKind prog w K} {A:Around} {E:Value->Shared->Prop} {s:Shared}
end
section
variable {X:Cx} {B:Bs} {W:Wi} {K:PySem.W.Frag}
end
end Vl
namespace Zp
open PySem PySem.Spec
abbrev lit (t:Addr):Obj:={ cls:=.type "list_iterator",data:=.fields #[.ref t,.int 0 0] }
abbrev m2 (h:Heap) (a b:Addr):Heap:=(h1 h a).push (lit b)
abbrev m3 (h:Heap) (a b:Addr):Heap:=(m2 h a b).push (duo (.ref h.objs.size) (.ref (h1 h a).objs.size))
abbrev m4 (h:Heap) (a b:Addr):Heap:=(m3 h a b).push (duo .none .none)
abbrev m5 (h:Heap) (a b:Addr):Heap:=(m4 h a b).push { cls:=.type "zip",data:=.fields #[.none,.bool false,.bool false,.ref (m2 h a b).objs.size,.ref (m3 h a b).objs.size] }
section
variable {prog:Program} {w:World} {A:Around} {E:Value->Shared->Prop} {s:Shared}
end
end Zp
namespace L2
open PySem PySem.Spec PyProof.Rows
section
variable {X:Cx}
end
end L2
namespace Vl
open PySem PySem.Spec L2
section
variable {X:Cx} {B:Bs} {W:Wi} {K:PySem.W.Frag} {G:Hp}
end
end Vl
namespace Vl
open PySem PySem.Spec PySem.Calls PySem.W L2
end Vl
namespace HT2
open PySem PySem.Spec PyProof.Rows HT
variable {prog:Program} {w:World} {A:Around} {E:Value->Shared->Prop} {s:Shared}
theorem Uv {t sl:Addr} {xs:Array Value} {vl vu:Value} {lo hi:Option Int} {Q:Value->Shared->Prop} (ht:IsTup s.heap t xs) (hs:s.heap.IsSliceOf sl vl vu .none) (pl:IsPart vl lo) (pu:IsPart vu hi) (w0:jr xs.size 0 lo=0) (w1:jr xs.size xs.size hi=xs.size) (q:Q (.ref t) s) :
  wpAny (model prog w) A (getItem (.ref t) (.ref sl)) Q E s:=by
 have ty:s.TypeIs (.ref sl) "slice":=let ⟨o,e,c,_⟩:=hs;⟨o,e,c⟩
 have body:wpAny (model prog w) A.in1 (Builtin.«tuple.__getitem__» ⟨[.ref t,.ref sl],[]⟩) (fun f s'=>∃ v,f=PySem.Fin.done (.ret v)/\v=.ref t/\s'=s) E s:=by
  show wpAny _ _ (Builtin.Tuple.tupleItemsOf _ >>= fun ys=>_) _ E s
  refine wpAny_bind (tupleItemsOf_ ht (wpAny_bind (wpAny_typeOf ty ?_)))
  rw [if_pos (by decide)]
  refine wpAny_bind (lM hs pl pu ?_)
  simp only [w0,w1]
  rw [if_pos (by simp)]
  unfold Builtin.Tuple.tupleIsExact
  refine wpAny_bind (wpAny_bind (wpAny_typeOf ht.typeIs (wpAny_pure ?_)))
  rw [if_pos (by decide)]
  exact wpAny_bind (wpAny_rule (wpAny_pure ⟨_,rfl,rfl,rfl⟩))
 unfold getItem
 (try with_reducible refine wpAny_holding ?_) <;> try refine wpAny_bind (wpAny_pure ?_)
 refine wpAny_bind (wpAny_sequenceKey (T:="tuple") ht.typeIs (by decide) ?_)
 refine wpAny_bind ((wpAny_callSpecial?_slot (name:=Str.ofString "__getitem__") ht.typeIs slot_tuple_getitem (wpAny_call_entry slot_tuple_getitem ht.typeIs entry_tuple_getitem (wpAny_mono body (fun f s' ⟨v,e1,e2,e3⟩=>?_) fun _ _ e=>e) (args_tuple_getitem _ _))))
 subst e2;subst e3
 exact ⟨_,e1,wpAny_pure q⟩
end HT2
namespace Vl
open PySem PySem.Spec PySem.Calls PySem.W L2
section
variable {X:Cx} {B:Bs} {W:Wi}
def ahP (K:PySem.W.Frag):V->Option Int->Option Int->Hp->VK->Prop:=fun x lo hi H Q=>∃ a xs,x=.ref a/\lK K H a xs /\
 (HT.jr xs.length 0 lo=0/\HT.jr xs.length xs.length hi=xs.length)/\Q x H
theorem YB:SlR X (ahP X.K):=by
 intro pins s σ H x v vl vu lo hi sl Q I rx hs pl pu h
 obtain ⟨a,xs,rfl,hx,hw,q⟩:=h
 cases rx
 obtain ⟨its,r,ht,hz⟩:=I.tuple hx
 have hlen:its.toArray.size=xs.length:=by rw [List.size_toArray];exact r.length.symm
 refine ⟨"tuple",_,PyProof.Rows.slot_tuple_getitem.lookup,ht.typeIs,?_⟩
 exact HT2.Uv ht hs pl pu (by rw [hlen];exact hw.1) (by rw [hlen];exact hw.2) ⟨.ref a,_,I,rfl,q⟩
section
variable {K:PySem.W.Frag} {σ:St} {G H:Hp} {ρ:ak}
def KR (lo hi:Option Int):D->Rs D
 | .tup ds=>.ok (.tup (Ez ds lo hi))
 | _=>.no
theorem abB {x:D} {v:V} {l h:Option Int} {Q:VK} (s:SR K B σ H ρ G) (r:Rep K G x v) (p:Post K W σ G H (KR l h x) Q):agD K v l h H Q∨ahP K v l h H Q:=by
 cases x with
 | tup ds =>
  obtain ⟨a,vs,rfl,q,rr⟩:=aP.mp r
  have q2:=Same.gU s.en.gh q
  by_cases hw:HT.jr vs.length 0 l=0/\HT.jr vs.length vs.length h=vs.length
  ·refine .inr ⟨a,vs,rfl,q2,hw,?_⟩
   have e:Ez ds l h=ds:=by
    unfold Ez
    rw [rr.length,hw.1,hw.2,<- rr.length]
    simp
   exact p _ _ _ s.ug (aP.mpr ⟨a,vs,rfl,q,by rw [e];exact rr⟩)
  ·refine .inl ⟨a,vs,rfl,q2,hw,fun c hc=>?_⟩
   have x:=uh (xs:=Nu vs l h) s.en.gh s.en.tp hc
   exact p _ _ _ x (aP.mpr ⟨c,_,rfl,.of aY,(Wz rr).mono x.gg⟩)
 | _=>exact p.elim
end
def RN (j:Nat):ak->Rs D:=fun ρ=>match ρ[j]? with
 | some (.ow ds)=>.ok (.int ds.length)
 | some (.fz (.lst ds))=>.ok (.int ds.length)
 | _=>.no
theorem abC (j:Nat) {x:Str} {p p1 pos:Pos} (hm:X.mg "len"=none) (hN:X.N[j]?=some x:=by rfl) (hv:Nf X.env.scope x:=by first|exact Or.inl rfl|exact Or.inr (Or.inl rfl)|exact Or.inr (Or.inr rfl)) (hd:(x == ("__debug__":Str))=false:=by decide)
  (hcd:(x == ("__classdict__":Str))=false:=by decide) (hg:Gl X "len":=by rfl) (he:starEach [.Name x p1] X.env=[(false,eval (.Name x p1) X.env)]:=by rfl) :
  SE X B W (.Call (.Name "len" p) [.Name x p1] [] pos) (RN j):=by
 refine PE.imp (jK ud hg hm PySem.boot_len (cW (iu hN hv hd hcd) iy he) (by decide) (by decide) he rfl) fun σ H Q ⟨ρ,G,s,pp⟩=>?_
 unfold RN at pp
 split at pp
 ·rename_i ds q
  obtain ⟨a,vs,e1,h2,h3,h4,h5⟩:=s.ow j ds q
  refine ⟨_,e1,a,vs,rfl,.inl (.of h2),?_⟩
  have:=pp _ H G s.ug (aH.mpr rfl)
  rw [<- h5.length]
  exact this
 ·rename_i ds q
  obtain ⟨v,e1,r⟩:=s.fz j _ q
  obtain ⟨a,vs,rfl,h2,h5⟩:=aO.mp r
  refine ⟨_,e1,a,vs,rfl,.inl (s.en.gh.seq h2),?_⟩
  have:=pp _ H G s.ug (aH.mpr rfl)
  rw [<- h5.length]
  exact this
 ·exact pp.elim
end
end Vl
namespace Vl
open PySem PySem.Spec PySem.Calls PySem.W L2 PyProof.Rows
section
variable {X:Cx} {B:Bs} {W:Wi}
section
variable {K:PySem.W.Frag}
end
section
variable {K:PySem.W.Frag}
end
variable {a b:Expr} {pos:Pos} {fa fb:ak->Rs D}
end
end Vl
namespace Vl
open PySem PySem.Spec L2 AutoSeq1
section
variable {X:Cx} {B:Bs} {W:Wi} {K:PySem.W.Frag}
end
end Vl
namespace Vl
open PySem PySem.Spec PySem.Calls PySem.W L2
def YC (H:Hp) (a:Addr):Hp:=fun b=>if b=a then none else H b
theorem pU {H:Hp} {a b:Addr} (h:b≠a):YC H a b=H b:=if_neg h
theorem zN {H:Hp} {a:Addr}:YC H a a=none:=if_pos rfl
theorem KY {H:Hp} {a b:Addr} {o:HO} (h:YC H a b=some o):b≠a/\H b=some o:=by
 by_cases e:b=a
 ·subst e;rw [zN] at h;cases h
 ·rw [pU e] at h;exact ⟨e,h⟩
def lent:Sl->Option (List D)
 | .ow ds=>some ds
 | .op ds=>some ds
 | _=>none
def fG:Sl->List D->Sl
 | .ow _,ds=>.ow ds
 | .op _,ds=>.op ds
 | z,_=>z
theorem pW {z:Sl} {ds:List D} (h:lent z=some ds):z.own=true:=by cases z <;> first|rfl|cases h
theorem zO {z:Sl} {ds es:List D} (h:lent z=some ds):(fG z es).own=true:=by cases z <;> first|rfl|cases h
section
variable {X:Cx} {K:PySem.W.Frag} {B:Bs} {W:Wi} {σ:St} {G H G' H':Hp} {ρ:ak}
theorem DW {z:Sl} {ds es:List D} {ws:List V} {a:Addr} (h:lent z=some ds) (r:aZ K G es ws):uf K G a (fG z es) (.lst ws):=by
 cases z <;> first|exact ⟨ws,rfl,r⟩|cases h
theorem DX {z:Sl} {ds es fs:List D} (h:lent z=some ds) (e:fG z es=.op fs):∃ gs,z=.op gs:=by
 cases z <;> first|exact ⟨_,rfl⟩|cases e|cases h
theorem SR.lent (s:SR K B σ H ρ G) {i:Nat} {z:Sl} {ds:List D} (q:ρ[i]?=some z) (hl:lent z=some ds) :
  ∃ a vs,σ[i]?=some (some (.ref a))/\H a=some (.lst vs)/\G a=none/\B.2 a=none/\aZ K G ds vs:=by
 obtain ⟨a,o,h1,h2,h3,h4,h5⟩:=s.own i z q (pW hl)
 cases z with
 | ow es=>cases hl;obtain ⟨vs,rfl,r⟩:=h5;exact ⟨a,vs,h1,h2,h3,h4,r⟩
 | op es=>cases hl;obtain ⟨vs,rfl,r⟩:=h5;exact ⟨a,vs,h1,h2,h3,h4,r⟩
 | _=>cases hl
theorem SR.back (s:SR K B σ H ρ G) {i:Nat} {z:Sl} {ds es:List D} {a:Addr} {ws:List V} (q:ρ[i]?=some z) (hl:Vl.lent z=some ds) (ha:σ[i]?=some (some (.ref a)))
  (e:Ext G (YC H a) G' H') (g:G' a=none) (h:H' a=some (.lst ws)) (r:aZ K G' es ws):SR K B σ H' (ρ.set i (fG z es)) G':=by
 have li:i < ρ.length:=(List.getElem?_eq_some_iff.mp q).1
 obtain ⟨a0,o0,h1,h2,h3,h4,h5⟩:=s.own i z q (pW hl)
 have ea:a0=a:=by rw [h1] at ha;injection ha with z;injection z with z;injection z
 subst ea
 have pD:∀ {j:Nat} {x:Sl},(ρ.set i (fG z es))[j]?=some x->(i=j/\x=fG z es)∨(i≠j/\ρ[j]?=some x):=fun {j x} q=>by
  by_cases e:i=j
  ·subst e
   rw [List.getElem?_set_self li] at q
   cases q
   exact .inl ⟨rfl,rfl⟩
  ·rw [List.getElem?_set_ne e] at q
   exact .inr ⟨e,q⟩
 refine ⟨⟨s.en.gg.trans e.gg,fun b o w=>?_,e.gh,e.tp,fun b o w n=>?_⟩,by simp [s.len],fun j d w=>?_,fun j x w wx=>?_,fun j k x x' c z1 w1 z2 w2 z3 z4=>?_,fun j fs c z1 z2=>?_⟩
 ·have ne:b≠a0:=aR w h4
  exact e.hh b o (by rw [pU ne];exact s.en.hh b o w)
 ·have ne:b≠a0:=aR w h4
  exact e.nw b o (by rw [pU ne];exact s.en.hh b o w) (s.en.nw b o w n)
 ·rcases pD w with ⟨_,e1⟩|⟨_,w⟩
  ·have:=zO (es:=es) hl;rw [<- e1] at this;cases this
  ·obtain ⟨v,q1,q2⟩:=s.fz j d w;exact ⟨v,q1,q2.mono e.gg⟩
 ·rcases pD w with ⟨e1,e2⟩|⟨e1,w⟩
  ·subst e1;subst e2
   exact ⟨a0,_,ha,h,g,h4,DW hl r⟩
  ·obtain ⟨b,o,q1,q2,q3,q4,q5⟩:=s.own j x w wx
   have ne:b≠a0:=fun e2=>by subst e2;exact e1 (s.ap i j z x b q (pW hl) w wx ha q1)
   exact ⟨b,o,q1,e.hh b o (by rw [pU ne];exact q2),e.nw b o (by rw [pU ne];exact q2) q3,q4,q5.mono e.gg⟩
 ·have old:∀ {l:Nat} {y:Sl},(ρ.set i (fG z es))[l]?=some y->y.own=true->∃ y',ρ[l]?=some y'/\y'.own=true:=fun {l y} w wy=>by
   rcases pD w with ⟨e1,e2⟩|⟨e1,w⟩
   ·subst e1;exact ⟨z,q,pW hl⟩
   ·exact ⟨y,w,wy⟩
  obtain ⟨y1,p1,p2⟩:=old z1 w1
  obtain ⟨y2,p3,p4⟩:=old z2 w2
  exact s.ap j k y1 y2 c p1 p2 p3 p4 z3 z4
 ·rcases pD z1 with ⟨e1,e2⟩|⟨e1,w⟩
  ·subst e1
   obtain ⟨gs,e3⟩:=DX hl e2.symm
   rw [e3] at q
   exact s.tie i gs c q z2
  ·exact s.tie j fs c w z2
def RX (K:PySem.W.Frag) (a:Addr) (G H:Hp) (Q:VK) (r:Rs (D×List D)):Prop:=match r with
 | .ok (d,es)=>∀ v H' G' ws,Ext G (YC H a) G' H'->G' a=none->H' a=some (.lst ws)->aZ K G' es ws->Rep K G' d v->Q v H'
 | _=>False
def spM (K:PySem.W.Frag) (n:Nat) (g:List D->List D->Rs (D×List D)):Sp:=fun vs H Q E=>vs.length=n + 1/\∃ a us G ws es ds,vs=.ref a::us/\Ext G H G H/\G a=none/\H a=some (.lst ws)/\aZ K G es ws/\aZ K G ds us/\RX K a G H Q (g es ds)
def dh (N:List Str) (es ds:List D):ak:=(.op es::ds.map .fz)++List.replicate (N.length - (ds.length + 1)) .no
def KZ:Ou->Rs (D×List D)
 | .rx d (.op es::_)=>.ok (d,es)
 | .nx (.op es::_)=>.ok (.non,es)
 | _=>.no
theorem Uw {N:List Str} {es ds:List D} {ws us:List V} {a:Addr} (e:Ext G H G H) (g:G a=none) (h:H a=some (.lst ws)) (r0:aZ K G es ws) (r:aZ K G ds us) :
  SR K ⟨G,YC H a,a⟩ (L2.start N (.ref a::us)) H (dh N es ds) G:=by
 have z0:(dh N es ds)[0]?=some (.op es):=rfl
 have abD:∀ (i:Nat) (z:Sl),(dh N es ds)[i]?=some z->z.own=true->i=0:=fun i z q w=>by
  cases i with
  | zero=>rfl
  | succ i =>
   have q':(ds.map Sl.fz++List.replicate (N.length - (ds.length + 1)) .no)[i]?=some z:=q
   by_cases hi:i < (ds.map Sl.fz).length
   ·rw [List.getElem?_append_left hi,List.getElem?_map] at q'
    cases e1:ds[i]? with
    | none=>rw [e1] at q';cases q'
    | some d=>rw [e1] at q';cases q';cases w
   ·rw [List.getElem?_append_right (by omega),List.getElem?_replicate] at q'
    split at q' <;> cases q'
    cases w
 refine ⟨⟨.refl _,fun b o w=>(KY w).2,e.gh,e.tp,fun b o w n=>n⟩,?_,fun i d q=>?_,fun i z q w=>?_,fun i j z z' c q1 w1 q2 w2 _ _=>(abD i z q1 w1).trans (abD j z' q2 w2).symm,fun i fs c q1 q2=>?_⟩
 ·unfold dh L2.start
  simp [r.length]
 ·cases i with
  | zero=>cases (z0.symm.trans q)
  | succ i =>
   have q':(ds.map Sl.fz++List.replicate (N.length - (ds.length + 1)) .no)[i]?=some (.fz d):=q
   by_cases hi:i < (ds.map Sl.fz).length
   ·rw [List.getElem?_append_left hi,List.getElem?_map] at q'
    cases e1:ds[i]? with
    | none=>rw [e1] at q';cases q'
    | some d' =>
     rw [e1] at q'
     cases q'
     obtain ⟨v,h1,h2⟩:=r.get e1
     refine ⟨v,?_,h2⟩
     show ((us.map some)++List.replicate (N.length - (us.length + 1)) none)[i]?=some (some v)
     rw [List.getElem?_append_left (by rw [List.length_map,<- r.length];simpa using hi),List.getElem?_map,h1]
     rfl
   ·rw [List.getElem?_append_right (by omega),List.getElem?_replicate] at q'
    split at q' <;> cases q'
 ·cases abD i z q w
  cases (z0.symm.trans q)
  exact ⟨a,_,rfl,h,g,zN,ws,rfl,r0⟩
 ·cases abD i _ q1 rfl
  have:some (some (V.ref a))=some (some (V.ref c)):=q2
  injection this with this;injection this with this;injection this with this
  exact this.symm
theorem Ux {o:Ou} {Q:VK} {a:Addr} (h:RX K a G H Q (KZ o)):bY K ⟨G,YC H a,a⟩ W G' o { nx:=fun _ H'=>Q .non H',rt:=Q }:=by
 cases o with
 | nx ρ' =>
  cases ρ' with
  | nil=>exact h.elim
  | cons z ρ' =>
   cases z with
   | op es =>
    intro σ' H2 G2 s q
    obtain ⟨b,vs,h1,h2,h3,h4,h5⟩:=s.lent (i:=0) (z:=.op es) (ds:=es) rfl rfl
    have eb:b=a:=s.tie 0 es b rfl h1
    subst eb
    exact h .non H2 G2 vs s.en h3 h2 h5 (bD.mpr rfl)
   | _=>exact h.elim
 | rx d ρ' =>
  cases ρ' with
  | nil=>exact h.elim
  | cons z ρ' =>
   cases z with
   | op es =>
    intro v σ' H2 G2 s q r
    obtain ⟨b,vs,h1,h2,h3,h4,h5⟩:=s.lent (i:=0) (z:=.op es) (ds:=es) rfl rfl
    have eb:b=a:=s.tie 0 es b rfl h1
    subst eb
    exact h v H2 G2 vs s.en h3 h2 h5 r
   | _=>exact h.elim
 | _=>exact h.elim
end
def Gq (P:Program) (w:World) (K:PySem.W.Frag) (mg:Str->Option Value) (base:Heap) (x:Str) (k n:Nat) (v:List D->List D->Rs (D×List D)):Prop :=
 ∃ f fd ps,yC P w K mg base (Dr P w K) k f fd ps (spM K n v)/\mg x=some (.ref f)/\PySem.W.keepIn K (.ref f)=true/\Binds K fd ps []
theorem vV {P:Program} {w:World} {K:PySem.W.Frag} {mg:Str->Option Value} {base:Heap} {x:Str} {st:Stmt} {f:Addr} {fd:FuncData} {N ps:List Str} {k n:Nat} {g:ak->Ou} (F:wW K x x st f fd) (hm:mg x=some (.ref f)) (S:bU N ps (aD st))
  (hbi:∀ (kV doc pm:Value) (an:Option Addr) (cdv ct:Value) (us:List Value),us.length=ps.length->bindArgs (PySem.W.fnOf x x (bK st) (bC st) (aD st) .none kV doc pm an cdv ct) ⟨us,[]⟩=pure (ps.zip us))
  (hb:∀ (cdv:Value) (A:Around) (outer:List Env) (s:Shared) (H:Hp) (E:XK) (B:Bs),ji k (A.deeper (PyProof.Rows.envOfC x (aD st) s.heap.objs.size f cdv)) ->
   wJ (su (Dr P w K) P w K mg base N x (aD st) f cdv A outer s H E) (fun c n _ H'=>E (Ak c n) none H') ->
   vo (su (Dr P w K) P w K mg base N x (aD st) f cdv A outer s H E) B (fun c n _ H'=>E (Ak c n) none H') (bC st) g) (hn:ps.length=n + 1:=by rfl) :
  Gq P w K mg base x (k + 1) n (fun es ds=>KZ (g (dh N es ds))):=by
 refine ⟨f,fd,ps,?_,hm,F.kp,F.binds hbi⟩
 obtain ⟨oc,od,kV,doc,pm,an,cdv,ct,osl,rfl,lk,hcd⟩:=F.ex
 refine VP lk hcd S (fun vs H Q E h=>by rw [hn];exact h.1) fun A outer s H vs Q E hr h=>?_
 obtain ⟨_,a,us,G,ws,es,ds,rfl,e,g1,h1,r0,r,h⟩:=h
 dsimp only at h
 exact ⟨_,hb cdv A outer s H E ⟨G,YC H a,a⟩ hr (uz qU rfl),dh N es ds,G,Uw e g1 h1 r0 r,Ux h⟩
def spF (K:PySem.W.Frag) (n:Nat) (g:List D->Rs (List D)):Sp:=fun vs H Q E=>vs.length=n/\∃ G ds,Ext G H G H/\aZ K G ds vs/\(match g ds with
 | .ok es=>∀ a ws H' G',Ext G H G' H'->G' a=none->H a=none->H' a=some (.lst ws)->aZ K G' es ws->Q (.ref a) H'
 | _=>False)
def ahQ:Ou->Rs (List D)
 | .rl es=>.ok es
 | _=>.no
def Okf (P:Program) (w:World) (K:PySem.W.Frag) (mg:Str->Option Value) (base:Heap) (x:Str) (k n:Nat) (v:List D->Rs (List D)):Prop :=
 ∃ f fd ps,yC P w K mg base (Dr P w K) k f fd ps (spF K n v)/\mg x=some (.ref f)/\PySem.W.keepIn K (.ref f)=true/\Binds K fd ps []
theorem afo {P:Program} {w:World} {K:PySem.W.Frag} {mg:Str->Option Value} {base:Heap} {x:Str} {st:Stmt} {f:Addr} {fd:FuncData} {N ps:List Str} {k:Nat} {g:ak->Ou} (F:wW K x x st f fd) (hm:mg x=some (.ref f)) (S:bU N ps (aD st))
  (hbi:∀ (kV doc pm:Value) (an:Option Addr) (cdv ct:Value) (us:List Value),us.length=ps.length->bindArgs (PySem.W.fnOf x x (bK st) (bC st) (aD st) .none kV doc pm an cdv ct) ⟨us,[]⟩=pure (ps.zip us))
  (hb:∀ (cdv:Value) (A:Around) (outer:List Env) (s:Shared) (H:Hp) (E:XK) (B:Bs),ji k (A.deeper (PyProof.Rows.envOfC x (aD st) s.heap.objs.size f cdv)) ->
   wJ (su (Dr P w K) P w K mg base N x (aD st) f cdv A outer s H E) (fun c n _ H'=>E (Ak c n) none H') ->
   vo (su (Dr P w K) P w K mg base N x (aD st) f cdv A outer s H E) B (fun c n _ H'=>E (Ak c n) none H') (bC st) g) :
  Okf P w K mg base x (k + 1) ps.length (fun ds=>ahQ (g (bF N ds))):=by
 refine ⟨f,fd,ps,?_,hm,F.kp,F.binds hbi⟩
 obtain ⟨oc,od,kV,doc,pm,an,cdv,ct,osl,rfl,lk,hcd⟩:=F.ex
 refine VP lk hcd S (fun vs H Q E h=>h.1) fun A outer s H vs Q E hr h=>?_
 obtain ⟨_,G,ds,e,r,h⟩:=h
 dsimp only at h
 refine ⟨_,hb cdv A outer s H E ⟨G,H,0⟩ hr (uz qU rfl),bF N ds,G,Jx e r,?_⟩
 cases e1:g (bF N ds) with
 | rl es=>rw [e1] at h;exact fun a ws H' G' x q g1 b1 h1 r1=>h a ws H' G' x g1 b1 h1 r1
 | _=>rw [e1] at h;exact h.elim
def DY (fs:ak->Rs (List D)):ak->Ou:=fun ρ=>oR (fs ρ) ρ fun ds=>if ds.length<=1000 then .rl ds else .no
section
variable {X:Cx} {K:PySem.W.Frag} {B:Bs} {W:Wi} {σ:St} {G H G' H':Hp} {ρ:ak}
theorem RQ {es:List Expr} {pos lp:Pos} {f:ak->Rs (List D)} (h:SA X B W es f):SS X B W (.Return (some (.List es lp)) pos) (DY f):=by
 refine PS.imp (Nh (Nq h)) fun De σ H ⟨ρ,G,s,p⟩=>⟨ρ,G,s,?_⟩
 unfold DY at p
 cases e:f ρ with
 | ok ds =>
  rw [e] at p
  have p':bY X.K B W G (if ds.length<=1000 then .rl ds else .no) De:=p
  by_cases hl:ds.length<=1000
  ·rw [if_pos hl] at p'
   intro vs H' G' x r
   refine ⟨by rw [<- r.length];exact yH hl,fun c hc=>?_⟩
   have s':=s.ext x
   have y:=Rb (xs:=vs) s'.en.gh s'.en.tp hc
   exact p' c vs _ G' (s'.en.trans y) x.gg (s'.en.gh.free hc) (s'.en.hh.free hc) aY r
  ·rw [if_neg hl] at p';exact p'.elim
 | ex c n=>rw [e] at p;exact fun H' G' x=>p σ H' G' (s.ext x) x.gg
 | no=>rw [e] at p;exact p
theorem zP {x:Str} {p pos:Pos} {e:Expr} {es:List Expr} {t:TA} {f:Addr} {fd:FuncData} {ps:List Str} {k:Nat} {sp:Sp} (F:yC X.prog X.w X.K X.mg X.base (Dr X.prog X.w X.K) k f fd ps sp) (hr:ji k X.A) (hg:Gl X x) (hm:X.mg x=some (.ref f)) (hk:PySem.W.keepIn X.K (.ref f)=true) (hb:Binds X.K fd ps [])
  (ha:PA X (e::es) t) (hdb:(x == ("__debug__":Str))=false:=by decide) (he:starEach (e::es) X.env=(false,eval e X.env)::starEach es X.env:=by rfl) (hpl:(backTo pos (starEach es X.env)).any (·.1)=false:=by rfl) :
  PE X (.Call (.Name x p) (e::es) [] pos) (fun σ H Q=>t σ H fun vs H1=>sp vs H1 Q fun _ _ _=>False):=by
 intro pins s σ H Q I h
 refine wpAny_Call_Name_kw (QG I hg hm ?_ hdb)
 refine PySem.W.callWith_K (h₀:=X.base) I.ok.mod.kin hk (ig (ha pos pins s σ H _ I h) fun us s1 ⟨vs,H1,I1,r,q⟩=>⟨I1.QD,?_⟩) he hpl
 have hl:(us++[]).length=ps.length:=by rw [List.append_nil,<- r.length];exact F.len _ _ _ _ q
 have hbb:=hb s1 us I1.QD hl
 rw [List.append_nil] at hbb
 refine wpAny_call (codeAny_mono (F.run X.A X.stack s1 H1 ⟨us,[]⟩ us vs Q _ hr I1.env0 hbb r q) fun r s' hq=>?_)
 cases r with
 | error e=>obtain ⟨ea,c,n,H',_,_,_,_,_,_,w⟩:=hq;exact w.elim
 | ok fl =>
  cases fl with
  | ret u=>exact I1.after hq
  | next=>exact False.elim hq
  | brk=>exact False.elim hq
  | cont=>exact False.elim hq
def La (i n:Nat) (g:List D->Rs (List D)) (fs:ak->Rs (List D)):ak->Ou:=fun ρ=>oR (fs ρ) ρ fun ds=>if ds.length=n then (match g ds with|.ok es=>.nx (ρ.set i (.ow es))|_=>.no) else .no
theorem abE (i:Nat) {x y:Str} {p pos pos' cp:Pos} {e:Expr} {es:List Expr} {fs:ak->Rs (List D)} {k n:Nat} {g:List D->Rs (List D)} (O:Okf X.prog X.w X.K X.mg X.base x k n g) (hr:ji k X.A) (hN:X.N.Nodup) (ha:SA X B W (e::es) fs) (hi:X.N[i]?=some y:=by rfl) (hx:Jg X.env.scope y:=by first|exact Or.inl rfl|exact Or.inr rfl)
  (hs:swapsWith (.Call (.Name x p) (e::es) [] cp) (some (.Name y pos')) pos.line X.env=pure false:=by rfl) (hf:X.fn y=true∨X.env.scope.names.lookup y=some .local:=by first|exact .inl rfl|exact .inr rfl|assumption) (hg:Gl X x:=by rfl) (hdb:(x == ("__debug__":Str))=false:=by decide)
  (he:starEach (e::es) X.env=(false,eval e X.env)::starEach es X.env:=by rfl) (hpl:(backTo cp (starEach es X.env)).any (·.1)=false:=by rfl) :
  SS X B W (.Assign [.Name y pos'] (.Call (.Name x p) (e::es) [] cp) pos) (La i n g fs):=by
 obtain ⟨f,fd,ps,F,hm,hk,hb⟩:=O
 refine PS.imp (vp hN hi hx (zP F hr hg hm hk hb ha hdb he hpl) hs hf) fun De σ H ⟨ρ,G,s,p⟩=>⟨ρ,G,s,?_⟩
 unfold La at p
 cases e:fs ρ with
 | ok ds =>
  rw [e] at p
  dsimp only [oR] at p
  by_cases hl:ds.length=n
  ·rw [if_pos hl] at p
   intro vs H1 G1 x r
   refine ⟨by rw [<- r.length];exact hl,G1,ds,(s.ext x).ug,r,?_⟩
   cases e1:g ds with
   | ok es' =>
    rw [e1] at p
    dsimp only at p ⊢
    intro a ws H' G' y g1 h1 h2 r2
    have s1:=s.ext x
    let H2:Hp:=YC H' a
    have y2:Ext G1 H1 G' H2:=⟨y.gg,fun b o w=>by
      show YC H' a b=some o
      rw [pU (aR w h1)];exact y.hh b o w,fun b o w=>by
      show YC H' a b=some o
      rw [pU (aR w g1)];exact y.gh b o w,fun b xs w=>y.tp b xs (KY w).2,y.nw⟩
    have s2:=(s1.ext y2).WL (i:=i) (p:=a) r2 zN
    have e2:dY H2 a (.lst ws)=H':=by
     funext b
     by_cases w:b=a
     ·subst w;rw [aY];exact h2.symm
     ·rw [aW w];exact pU w
    rw [e2] at s2
    exact p _ H' G' s2 (x.gg.trans y.gg)
   | ex c m=>rw [e1] at p;exact p.elim
   | no=>rw [e1] at p;exact p.elim
  ·rw [if_neg hl] at p;exact p.elim
 | ex c m=>rw [e] at p;exact fun H1 G1 x=>p σ H1 G1 (s.ext x) x.gg
 | no=>rw [e] at p;exact p
end
end Vl
namespace Vl
open PySem PySem.Spec PySem.Calls PySem.W L2
def lf {α:Type} (r:Rs α) (ρ:ak):Rs (α×ak):=match r with
 | .ok a=>.ok (a,ρ)
 | _=>.no
def bx {α β:Type} (r:Rs (α×ak)) (k:α->ak->Rs (β×ak)):Rs (β×ak):=match r with
 | .ok (a,ρ)=>k a ρ
 | _=>.no
def oX {α:Type} (r:Rs (α×ak)) (k:α->ak->Ou):Ou:=match r with
 | .ok (a,ρ)=>k a ρ
 | _=>.no
def jg (K:PySem.W.Frag) (B:Bs) (σ:St) (G:Hp) (r:Rs (D×ak)) (Q:VK):Prop:=match r with
 | .ok (d,ρ')=>∀ v H' G',SR K B σ H' ρ' G'->Same G G'->Rep K G' d v->Q v H'
 | _=>False
def fW (K:PySem.W.Frag) (B:Bs) (σ:St) (G:Hp) (r:Rs (List D×ak)) (Q:List V->Hp->Prop):Prop:=match r with
 | .ok (ds,ρ')=>∀ vs H' G',SR K B σ H' ρ' G'->Same G G'->aZ K G' ds vs->Q vs H'
 | _=>False
def gM (K:PySem.W.Frag) (B:Bs) (σ:St) (G:Hp) (r:Rs (Bool×ak)) (Q:Bool->Hp->Prop):Prop:=match r with
 | .ok (b,ρ')=>∀ H' G',SR K B σ H' ρ' G'->Same G G'->Q b H'
 | _=>False
def tX (K:PySem.W.Frag) (B:Bs) (f:ak->Rs (D×ak)):TE:=fun σ H Q=>∃ ρ G,SR K B σ H ρ G/\jg K B σ G (f ρ) Q
def tAX (K:PySem.W.Frag) (B:Bs) (f:ak->Rs (List D×ak)):TA:=fun σ H Q=>∃ ρ G,SR K B σ H ρ G/\fW K B σ G (f ρ) Q
def tTX (K:PySem.W.Frag) (B:Bs) (f:ak->Rs (Bool×ak)):TT:=fun σ H Q=>∃ ρ G,SR K B σ H ρ G/\gM K B σ G (f ρ) Q
def SX (X:Cx) (B:Bs) (e:Expr) (f:ak->Rs (D×ak)):Prop:=PE X e (tX X.K B f)
def SAX (X:Cx) (B:Bs) (es:List Expr) (f:ak->Rs (List D×ak)):Prop:=PA X es (tAX X.K B f)
def STX (X:Cx) (B:Bs) (e:Expr) (f:ak->Rs (Bool×ak)):Prop:=PT X e (tTX X.K B f)
def SWX (X:Cx) (B:Bs) (e:Expr) (f:ak->Rs (Bool×ak)):Prop:=PW X e (tTX X.K B f)
def xP (f:ak->Rs D):ak->Rs (D×ak):=fun ρ=>lf (f ρ) ρ
def jY (f:ak->Rs (List D)):ak->Rs (List D×ak):=fun ρ=>lf (f ρ) ρ
def xPT (f:ak->Rs Bool):ak->Rs (Bool×ak):=fun ρ=>lf (f ρ) ρ
def iD (g:D->D->Rs D) (fa fb:ak->Rs (D×ak)):ak->Rs (D×ak):=fun ρ=>bx (fa ρ) fun x ρ1=>bx (fb ρ1) fun y ρ2=>lf (g x y) ρ2
def lH:ak->Rs (List D×ak):=fun ρ=>.ok ([],ρ)
def cg (f:ak->Rs (D×ak)) (fs:ak->Rs (List D×ak)):ak->Rs (List D×ak):=fun ρ=>bx (f ρ) fun x ρ1=>bx (fs ρ1) fun xs ρ2=>.ok (x::xs,ρ2)
def xA (fs:ak->Rs (List D×ak)) (g:List D->Rs D):ak->Rs (D×ak):=fun ρ=>bx (fs ρ) fun ds ρ1=>lf (g ds) ρ1
def xT (f:ak->Rs (D×ak)):ak->Rs (Bool×ak):=fun ρ=>bx (f ρ) fun d ρ1=>lf (toB d) ρ1
def Uy (a b:ak->Rs (Bool×ak)):ak->Rs (Bool×ak):=fun ρ=>bx (a ρ) fun x ρ1=>if x=true then b ρ1 else .ok (false,ρ1)
def xM (i n:Nat) (g:List D->List D->Rs (D×List D)) (fs:ak->Rs (List D×ak)):ak->Rs (D×ak):=fun ρ=>match ρ[i]? with
 | some z0=>(match lent z0 with
  | some _=>bx (fs ρ) fun ds ρ1=>if ds.length=n then (match ρ1[i]? with
   | some z=>(match lent z with
    | some es=>(match g es ds with
     | .ok (d,es')=>.ok (d,ρ1.set i (fG z es'))
     | _=>.no)
    | none=>.no)
   | none=>.no) else .no
  | none=>.no)
 | none=>.no
section
variable {X:Cx} {K:PySem.W.Frag} {B:Bs} {W:Wi} {σ:St} {G H G' H':Hp} {ρ:ak}
theorem jg.same {r:Rs (D×ak)} {Q:VK} (h:jg K B σ G r Q) (e:Same G G'):jg K B σ G' r Q:=by
 cases r with
 | ok p=>obtain ⟨d,ρ'⟩:=p;exact fun v H' G'' s q=>h v H' G'' s (e.trans q)
 | _=>exact h
theorem fW.same {r:Rs (List D×ak)} {Q:List V->Hp->Prop} (h:fW K B σ G r Q) (e:Same G G'):fW K B σ G' r Q:=by
 cases r with
 | ok p=>obtain ⟨d,ρ'⟩:=p;exact fun v H' G'' s q=>h v H' G'' s (e.trans q)
 | _=>exact h
theorem gM.same {r:Rs (Bool×ak)} {Q:Bool->Hp->Prop} (h:gM K B σ G r Q) (e:Same G G'):gM K B σ G' r Q:=by
 cases r with
 | ok p=>obtain ⟨d,ρ'⟩:=p;exact fun H' G'' s q=>h H' G'' s (e.trans q)
 | _=>exact h
theorem xV {r:Rs D} {Q:VK} (s:SR K B σ H ρ G) (p:jg K B σ G (lf r ρ) Q):Post K W σ G H r Q:=by
 cases r with
 | ok d=>exact fun v H' G' e r=>p v H' G' (s.ext e) e.gg r
 | ex c n=>exact p.elim
 | no=>exact p.elim
theorem YD {r:Rs (D×ak)} {k:D->ak->Rs (D×ak)} {Q:VK} {Q':VK} (p:jg K B σ G (bx r k) Q) (h:∀ d ρ1 v H1 G1,SR K B σ H1 ρ1 G1->Same G G1->Rep K G1 d v->jg K B σ G1 (k d ρ1) Q->Q' v H1):jg K B σ G r Q':=by
 cases r with
 | ok x=>obtain ⟨d,ρ1⟩:=x;exact fun v H1 G1 s q r=>h d ρ1 v H1 G1 s q r (jg.same (show jg K B σ G (k d ρ1) Q from p) q)
 | ex c n=>exact p.elim
 | no=>exact p.elim
theorem afp {r:Rs (D×ak)} {k:D->ak->Rs (Bool×ak)} {Q:Bool->Hp->Prop} {Q':VK} (p:gM K B σ G (bx r k) Q) (h:∀ d ρ1 v H1 G1,SR K B σ H1 ρ1 G1->Same G G1->Rep K G1 d v->gM K B σ G1 (k d ρ1) Q->Q' v H1):jg K B σ G r Q':=by
 cases r with
 | ok x=>obtain ⟨d,ρ1⟩:=x;exact fun v H1 G1 s q r=>h d ρ1 v H1 G1 s q r (gM.same (show gM K B σ G (k d ρ1) Q from p) q)
 | ex c n=>exact p.elim
 | no=>exact p.elim
theorem Pk {r:Rs (List D×ak)} {k:List D->ak->Rs (D×ak)} {Q:VK} {Q':List V->Hp->Prop} (p:jg K B σ G (bx r k) Q) (h:∀ d ρ1 v H1 G1,SR K B σ H1 ρ1 G1->Same G G1->aZ K G1 d v->jg K B σ G1 (k d ρ1) Q->Q' v H1):fW K B σ G r Q':=by
 cases r with
 | ok x=>obtain ⟨d,ρ1⟩:=x;exact fun v H1 G1 s q r=>h d ρ1 v H1 G1 s q r (jg.same (show jg K B σ G (k d ρ1) Q from p) q)
 | ex c n=>exact p.elim
 | no=>exact p.elim
theorem abG {r:Rs (List D×ak)} {k:List D->ak->Rs (List D×ak)} {Q:List V->Hp->Prop} {Q':List V->Hp->Prop} (p:fW K B σ G (bx r k) Q) (h:∀ d ρ1 v H1 G1,SR K B σ H1 ρ1 G1->Same G G1->aZ K G1 d v->fW K B σ G1 (k d ρ1) Q->Q' v H1):fW K B σ G r Q':=by
 cases r with
 | ok x=>obtain ⟨d,ρ1⟩:=x;exact fun v H1 G1 s q r=>h d ρ1 v H1 G1 s q r (fW.same (show fW K B σ G (k d ρ1) Q from p) q)
 | ex c n=>exact p.elim
 | no=>exact p.elim
theorem abH {r:Rs (D×ak)} {k:D->ak->Rs (List D×ak)} {Q:List V->Hp->Prop} {Q':VK} (p:fW K B σ G (bx r k) Q) (h:∀ d ρ1 v H1 G1,SR K B σ H1 ρ1 G1->Same G G1->Rep K G1 d v->fW K B σ G1 (k d ρ1) Q->Q' v H1):jg K B σ G r Q':=by
 cases r with
 | ok x=>obtain ⟨d,ρ1⟩:=x;exact fun v H1 G1 s q r=>h d ρ1 v H1 G1 s q r (fW.same (show fW K B σ G (k d ρ1) Q from p) q)
 | ex c n=>exact p.elim
 | no=>exact p.elim
theorem abI {r:Rs (Bool×ak)} {k:Bool->ak->Rs (Bool×ak)} {Q:Bool->Hp->Prop} {Q':Bool->Hp->Prop} (p:gM K B σ G (bx r k) Q) (h:∀ d ρ1 H1 G1,SR K B σ H1 ρ1 G1->Same G G1->gM K B σ G1 (k d ρ1) Q->Q' d H1):gM K B σ G r Q':=by
 cases r with
 | ok x=>obtain ⟨d,ρ1⟩:=x;exact fun H1 G1 s q=>h d ρ1 H1 G1 s q (gM.same (show gM K B σ G (k d ρ1) Q from p) q)
 | ex c n=>exact p.elim
 | no=>exact p.elim
theorem dw {e:Expr} {f:ak->Rs D} (h:SE X B W e f):SX X B e (xP f):=PE.imp h fun σ H Q ⟨ρ,G,s,p⟩=>⟨ρ,G,s,xV s p⟩
theorem ahS {e:Expr} {f:ak->Rs Bool} (h:ST X B W e f):STX X B e (xPT f):=PT.imp h fun σ H Q ⟨ρ,G,s,p⟩=>by
 refine ⟨ρ,G,s,?_⟩
 unfold xPT at p
 cases e1:f ρ with
 | ok b=>rw [e1] at p;exact fun H' G' y=>p H' G' (s.ext y) y.gg
 | ex c n=>rw [e1] at p;exact p.elim
 | no=>rw [e1] at p;exact p.elim
theorem cH {es:List Expr} {f:ak->Rs (List D)} (h:SA X B W es f):SAX X B es (jY f):=PA.imp h fun σ H Q ⟨ρ,G,s,p⟩=>by
 refine ⟨ρ,G,s,?_⟩
 unfold jY at p
 cases e1:f ρ with
 | ok b=>rw [e1] at p;exact fun vs H' G' y r=>p vs H' G' (s.ext y) y.gg r
 | ex c n=>rw [e1] at p;exact p.elim
 | no=>rw [e1] at p;exact p.elim
theorem xW {r:R2} {g:D->D->Rs D} {fa fb:ak->Rs (D×ak)} {Q:VK} (ho:Ny K r g) (h:tX K B (iD g fa fb) σ H Q):tOp r (tX K B fa) (tX K B fb) σ H Q:=by
 obtain ⟨ρ,G,s,p⟩:=h
 refine ⟨ρ,G,s,YD (k:=fun x ρ1=>bx (fb ρ1) fun y ρ2=>lf (g x y) ρ2) p fun d ρ1 v H1 G1 s1 q1 r1 p1=>⟨ρ1,G1,s1,YD (k:=fun y ρ2=>lf (g d y) ρ2) p1 fun d' ρ2 u H2 G2 s2 q2 r2 p2=>?_⟩⟩
 exact ho B WF σ ρ2 G2 H2 d d' v u Q s2 (r1.mono q2) r2 (xV s2 p2)
theorem YF {a b:Expr} {op:Operator} {pos:Pos} {r:R2} {g:D->D->Rs D} {fa fb:ak->Rs (D×ak)} (ho:pB X (binaryOp op) r) (hg:Ny X.K r g) (ha:SX X B a fa) (hb:SX X B b fb):SX X B (.BinOp a op b pos) (iD g fa fb) :=
 PE.imp (QM ho ha hb) fun _ _ _ h=>xW hg h
theorem afq {a b:Expr} {op:CmpOp} {pos:Pos} {r:R2} {g:D->D->Rs D} {fa fb:ak->Rs (D×ak)} (ho:pB X (compareOp op) r) (hg:Ny X.K r g) (ha:SX X B a fa) (hb:SX X B b fb) (hm:behindInMarks op b=false):SX X B (.Compare a [op] [b] pos) (iD g fa fb) :=
 PE.imp (QS ho ha hb hm) fun _ _ _ h=>xW hg h
theorem afr {f:ak->Rs (D×ak)} {Q:Bool->Hp->Prop} (h:tTX K B (xT f) σ H Q):tX K B f σ H fun x H1=>∃ c,x=.bl c/\Q c H1:=by
 obtain ⟨ρ,G,s,p⟩:=h
 refine ⟨ρ,G,s,afp (k:=fun d ρ1=>lf (toB d) ρ1) p fun d ρ1 v H1 G1 s1 q1 r1 p1=>?_⟩
 cases d with
 | bl b=>exact ⟨b,bA.mp r1,p1 H1 G1 s1 (.refl _)⟩
 | _=>exact p1.elim
theorem RT {a b:Expr} {op:CmpOp} {pos:Pos} {r:R2} {g:D->D->Rs D} {fa fb:ak->Rs (D×ak)} (ho:pB X (compareOp op) r) (hg:Ny X.K r g) (ha:SX X B a fa) (hb:SX X B b fb) (hm:behindInMarks op b=false):STX X B (.Compare a [op] [b] pos) (xT (iD g fa fb)):=by
 refine PT.imp (Er ho ha hb hm) fun σ H Q h=>?_
 exact xW hg (afr h)
theorem YG {a:Expr} {pos:Pos} {fa:ak->Rs (Bool×ak)} (ha:STX X B a fa):SWX X B (.BoolOp .And [a] pos) fa:=QH ha
theorem abJ {a b:Expr} {rest:List Expr} {pos:Pos} {fa fb:ak->Rs (Bool×ak)} (ha:STX X B a fa) (hb:SWX X B (.BoolOp .And (b::rest) pos) fb):SWX X B (.BoolOp .And (a::b::rest) pos) (Uy fa fb):=by
 refine PW.imp (Vy ha hb) fun σ H Q ⟨ρ,G,s,p⟩=>⟨ρ,G,s,abI (k:=fun x ρ1=>if x=true then fb ρ1 else .ok (false,ρ1)) p fun x ρ1 H1 G1 s1 q1 p1=>?_⟩
 cases x with
 | true=>rw [if_pos rfl];exact ⟨ρ1,G1,s1,p1⟩
 | false=>rw [if_neg (by simp)];exact p1 H1 G1 s1 (.refl _)
theorem ahT {e:Expr} {f:ak->Rs (Bool×ak)} (h:SWX X B e f):STX X B e f:=PW.pt h
theorem fM:SAX X B [] lH:=PA.imp iy fun σ H Q ⟨ρ,G,s,p⟩=>p [] H G s (.refl _) (bf.mpr rfl)
theorem bN {e:Expr} {es:List Expr} {fe:ak->Rs (D×ak)} {fs:ak->Rs (List D×ak)} (ha:SX X B e fe) (hr:SAX X B es fs) (hs:starEach (e::es) X.env=(false,eval e X.env)::starEach es X.env:=by rfl):SAX X B (e::es) (cg fe fs):=by
 refine PA.imp (cW ha hr hs) fun σ H Q ⟨ρ,G,s,p⟩=>⟨ρ,G,s,abH (k:=fun x ρ1=>bx (fs ρ1) fun xs ρ2=>.ok (x::xs,ρ2)) p fun d ρ1 v H1 G1 s1 q1 r1 p1=>⟨ρ1,G1,s1,abG (k:=fun xs ρ2=>.ok (d::xs,ρ2)) p1 fun ds ρ2 vs H2 G2 s2 q2 r2 p2=>?_⟩⟩
 exact p2 (v::vs) H2 G2 s2 (.refl _) (aN.mpr ⟨v,vs,rfl,r1.mono q2,r2⟩)
theorem YH {t:ak->Rs (List D×ak)} {g:List D->Rs D} {r:List V->Hp->VK->Prop} {Q:VK} (hg:rK K r g) (h:tX K B (xA t g) σ H Q):tAX K B t σ H fun vs H1=>r vs H1 Q:=by
 obtain ⟨ρ,G,s,p⟩:=h
 exact ⟨ρ,G,s,Pk (k:=fun ds ρ1=>lf (g ds) ρ1) p fun ds ρ1 vs H1 G1 s1 q1 r1 p1=>hg B WF σ ρ1 G1 H1 ds vs Q s1 r1 (xV s1 p1)⟩
theorem afs:rK K (fun xs H1 Q=>xs.length<=sizeLine/\∀ p,H1 p=none->Q (.ref p) (dY H1 p (.tup xs))) dD:=by
 intro B W σ ρ G H ds vs Q s r p
 unfold dD at p
 by_cases hl:ds.length<=1000
 ·rw [if_pos hl] at p
  refine ⟨by rw [<- r.length];exact yH hl,fun a ha=>?_⟩
  have x:=uh (xs:=vs) s.en.gh s.en.tp ha
  exact p _ _ _ x (aP.mpr ⟨a,vs,rfl,.of aY,r.mono x.gg⟩)
 ·rw [if_neg hl] at p;exact p.elim
theorem pX {es:List Expr} {x1} {pos:Pos} {f:ak->Rs (List D×ak)} (h:SAX X B es f):SX X B (.Tuple es x1 pos) (xA f dD):=PE.imp (VN h) fun σ H Q q=>YH afs q
theorem Lb {a b:Expr} {pos:Pos} {fa fb:ak->Rs (D×ak)} (ha:SX X B a fa) (hb:SX X B b fb) (hs:xJ b:=by intro _ _;rfl):SX X B (.Subscript a b pos) (iD fj fa fb) :=
 PE.imp (Wb Nv ha hb hs) fun _ _ _ h=>xW Wu h
section
variable {x:Str} {p pos:Pos} {e:Expr} {es:List Expr} {id T:String} {r:List V->Hp->VK->Prop} {g:List D->Rs D} {fs:ak->Rs (List D×ak)}
theorem Uz (hc:kW X (.type T) r) (hd:rK X.K r g) (hg:Gl X x) (hm:X.mg x=none) (hv:bootBuiltins x=some (.type T)) (ha:SAX X B (e::es) fs) (hn:x≠"__name__":=by decide) (hdb:(x == ("__debug__":Str))=false:=by decide)
  (he:starEach (e::es) X.env=(false,eval e X.env)::starEach es X.env:=by rfl) (hpl:(backTo pos (starEach es X.env)).any (·.1)=false:=by rfl):SX X B (.Call (.Name x p) (e::es) [] pos) (xA fs g) :=
 PE.imp (vB hc hg hm hv ha hn hdb he hpl) fun _ _ _ h=>YH hd h
theorem abK {k n:Nat} (O:uE X.prog X.w X.K X.mg X.base x k n g) (hr:ji k X.A) (ha:SAX X B (e::es) fs) (hg:Gl X x:=by rfl) (hdb:(x == ("__debug__":Str))=false:=by decide)
  (he:starEach (e::es) X.env=(false,eval e X.env)::starEach es X.env:=by rfl) (hpl:(backTo pos (starEach es X.env)).any (·.1)=false:=by rfl):SX X B (.Call (.Name x p) (e::es) [] pos) (xA fs (cj n g)):=by
 obtain ⟨f,fd,ps,F,hm,hk,hb⟩:=O
 refine PE.imp (zP F hr hg hm hk hb ha hdb he hpl) fun σ H Q ⟨ρ,G,s,p⟩=>⟨ρ,G,s,Pk (k:=fun ds ρ1=>lf (cj n g ds) ρ1) p fun ds ρ1 vs H1 G1 s1 q1 r1 p1=>?_⟩
 unfold cj at p1
 by_cases hl:ds.length=n
 ·rw [if_pos hl] at p1
  refine ⟨by rw [<- r1.length];exact hl,G1,ds,s1.ug,r1,?_⟩
  cases e1:g ds with
  | ok d=>rw [e1] at p1;exact fun v H' G' y r=>p1 v H' G' (s1.ext y) y.gg r
  | ex c m=>rw [e1] at p1;exact p1.elim
  | no=>rw [e1] at p1;exact p1.elim
 ·rw [if_neg hl] at p1;exact p1.elim
end
theorem aV (i:Nat) {x y:Str} {p py pos:Pos} {es:List Expr} {fs:ak->Rs (List D×ak)} {k n:Nat} {g:List D->List D->Rs (D×List D)} (O:Gq X.prog X.w X.K X.mg X.base x k n g) (hr:ji k X.A) (ha:SAX X B es fs) (hN:X.N[i]?=some y:=by rfl) (hv:Nf X.env.scope y:=by first|exact Or.inl rfl|exact Or.inr (Or.inl rfl)|exact Or.inr (Or.inr rfl)) (hd:(y == ("__debug__":Str))=false:=by decide)
  (hcd:(y == ("__classdict__":Str))=false:=by decide) (hg:Gl X x:=by rfl) (hdb:(x == ("__debug__":Str))=false:=by decide)
  (he:starEach (.Name y py::es) X.env=(false,eval (.Name y py) X.env)::starEach es X.env:=by rfl) (hpl:(backTo pos (starEach es X.env)).any (·.1)=false:=by rfl):SX X B (.Call (.Name x p) (.Name y py::es) [] pos) (xM i n g fs):=by
 obtain ⟨f,fd,ps,F,hm,hk,hb⟩:=O
 refine PE.imp (zP F hr hg hm hk hb (cW (iu (pos:=py) hN hv hd hcd) ha he) hdb he hpl) fun σ H Q ⟨ρ,G,s,p⟩=>?_
 unfold xM at p
 cases q:ρ[i]? with
 | none=>rw [q] at p;exact p.elim
 | some z0 =>
  rw [q] at p
  dsimp only at p
  cases q1:lent z0 with
  | none=>rw [q1] at p;exact p.elim
  | some es0 =>
   rw [q1] at p
   dsimp only at p
   obtain ⟨a,vs0,h1,h2,h3,h4,h5⟩:=s.lent q q1
   refine ⟨_,h1,ρ,G,s,Pk (k:=fun ds ρ1=>if ds.length=n then (match ρ1[i]? with
    | some z=>(match lent z with
     | some es=>(match g es ds with
      | .ok (d,es')=>.ok (d,ρ1.set i (fG z es'))
      | _=>.no)
     | none=>.no)
    | none=>.no) else .no) p fun ds ρ1 us H1 G1 s1 e1 r1 p1=>?_⟩
   by_cases hl:ds.length=n
   ·rw [if_pos hl] at p1
    cases q2:ρ1[i]? with
    | none=>rw [q2] at p1;exact p1.elim
    | some z =>
     rw [q2] at p1
     dsimp only at p1
     cases q3:lent z with
     | none=>rw [q3] at p1;exact p1.elim
     | some es1 =>
      rw [q3] at p1
      dsimp only at p1
      obtain ⟨b,ws,k1,k2,k3,k4,k5⟩:=s1.lent q2 q3
      have eb:b=a:=by rw [h1] at k1;injection k1 with z;injection z with z;injection z with z;exact z.symm
      subst eb
      refine ⟨by simp [<- r1.length,hl],b,us,G1,ws,es1,ds,rfl,s1.ug,k3,k2,k5,r1,?_⟩
      cases q4:g es1 ds with
      | no=>rw [q4] at p1;exact p1.elim
      | ex c m=>rw [q4] at p1;exact p1.elim
      | ok dz =>
       obtain ⟨d,es2⟩:=dz
       rw [q4] at p1
       exact fun v H' G' ws' y g1 h' r2 r3=>p1 v H' G' (s1.back q2 q3 k1 y g1 h' r2) y.gg r3
   ·rw [if_neg hl] at p1;exact p1.elim
variable {a b:Expr} {pos:Pos} {fa fb:ak->Rs (D×ak)}
theorem mO (ha:SX X B a fa) (hb:SX X B b fb):SX X B (.BinOp a .Add b pos) (iD cB fa fb):=YF Rf Js ha hb
theorem jk (ha:SX X B a fa) (hb:SX X B b fb):SX X B (.BinOp a .Sub b pos) (iD iw fa fb):=YF VJ (yE fun _ _ _=>aH.mpr rfl) ha hb
theorem aft (ha:SX X B a fa) (hb:SX X B b fb):SX X B (.BinOp a .Mult b pos) (iD jt fa fb):=YF VL (Jp fun _ _ _=>aH.mpr rfl) ha hb
def YJ (j:Nat) (f:ak->Rs D):ak->Rs D:=fun ρ=>match ρ[j]? with
 | some z=>(match lent z with|some ds=>(f ρ).bind fun k=>fj (.lst ds) k|none=>.no)
 | none=>.no
theorem afu (j:Nat) {x:Str} {b:Expr} {p1 pos:Pos} {fb:ak->Rs D} (hb:SE X B W b fb) (hN:X.N[j]?=some x:=by rfl) (hv:Nf X.env.scope x:=by first|exact Or.inl rfl|exact Or.inr (Or.inl rfl)|exact Or.inr (Or.inr rfl)) (hd:(x == ("__debug__":Str))=false:=by decide)
  (hcd:(x == ("__classdict__":Str))=false:=by decide) (hs:xJ b:=by intro _ _;rfl):SE X B W (.Subscript (.Name x p1) b pos) (YJ j fb):=by
 refine PE.imp (Wb Nv (iu (pos:=p1) hN hv hd hcd) hb hs) fun σ H Q ⟨ρ,G,s,p⟩=>?_
 unfold YJ at p
 cases q:ρ[j]? with
 | none=>rw [q] at p;exact p.elim
 | some z =>
  rw [q] at p
  dsimp only at p
  cases q1:lent z with
  | none=>rw [q1] at p;exact p.elim
  | some ds =>
   rw [q1] at p
   obtain ⟨a,vs,h1,h2,h3,h4,h5⟩:=s.lent q q1
   refine ⟨_,h1,ρ,G,s,?_⟩
   refine Post.mono (Post.bind (k:=fun k=>fj (.lst ds) k) p) fun v H1 ⟨G1,d,y,r,p1⟩=>?_
   cases d with
   | int i =>
    simp only [fj] at p1
    cases e:Am ds i with
    | none=>rw [e] at p1;exact p1.elim
    | some d =>
     rw [e] at p1
     obtain ⟨w,e2,Wc⟩:=yJ h5 e
     exact .inl ⟨a,vs,i,w,rfl,aH.mp r,.of (y.hh _ _ h2),e2,p1 _ H1 G1 (.refl y.gh y.tp) (Wc.mono y.gg)⟩
   | _=>exact p1.elim
end
end Vl
namespace Vl
open PySem PySem.Spec PySem.Calls PySem.W L2 So
def oW (f:ak->Rs (D×ak)):ak->Ou:=fun ρ=>oX (f ρ) fun d ρ1=>.rx d ρ1
def oY (i:Nat) (f:ak->Rs (D×ak)):ak->Ou:=fun ρ=>oX (f ρ) fun d ρ1=>.nx (ρ1.set i (.fz d))
def xIf (c:ak->Rs (Bool×ak)) (a b:ak->Ou):ak->Ou:=fun ρ=>oX (c ρ) fun x ρ1=>if x=true then a ρ1 else b ρ1
def YK (i:Nat) (fs:ak->Rs (List D×ak)):ak->Ou:=fun ρ=>oX (fs ρ) fun ds ρ1=>if ds.length<=1000 then .nx (ρ1.set i (.ow ds)) else .no
def RV (h:Tg) (gb:ak->Ou) (f:ak->Rs (D×ak)):ak->Ou:=fun ρ=>oX (f ρ) fun d ρ1=>match d with|.lst ds=>cN h gb ds ρ1|_=>.no
def Ea (h:Tg) (gb:ak->Ou) (f:ak->Rs (D×ak)):ak->Ou:=fun ρ=>oX (f ρ) fun d ρ1=>match d with|.int n=>if -(2 ^ 62)<=n/\n < 2 ^ 62 then cN h gb ((List.range n.toNat).map fun (i:Nat)=>.int i) ρ1 else .no|_=>.no
def zQ (j:Nat) (fe:ak->Rs D) (fk:ak->Rs (D×ak)):ak->Ou:=fun ρ=>oR (fe ρ) ρ fun v=>match ρ[j]? with
 | some (.od _)=>oX (fk ρ) fun k ρ1=>(match zH k,ρ1[j]? with
  | some ks,some (.od kvs)=>if kvs.length<=1000000 then .nx (ρ1.set j (.od (jX kvs ks v))) else .no
  | _,_=>.no)
 | _=>.no
def Eb (i:Nat) (f:ak->Rs (D×ak)):ak->Ou:=fun ρ=>match ρ[i]? with
 | some (.ow _)=>oX (f ρ) fun k ρ1=>(match k,ρ1[i]? with
  | .int k,some (.ow ds)=>if 0<=k/\k < ds.length/\ds.length<=1000000 then .nx (ρ1.set i (.ow (ds.eraseIdx k.toNat))) else .no
  | _,_=>.no)
 | _=>.no
def Ld (i j:Nat) (f fk:ak->Rs D):ak->Ou:=fun ρ=>oR (f ρ) ρ fun d=>match d with
 | .tup [q,r]=>(match ρ[i]? with
  | some z=>(match lent z with
   | some ds=>oR (fk ρ) ρ fun k=>(match k with
    | .int k=>(match Es ds.length k with|some m=>.nx ((ρ.set i (fG z (ds.set m q))).set j (.fz r))|none=>.no)
    | _=>.no)
   | none=>.no)
  | none=>.no)
 | _=>.no
def zR (i j:Nat):ak->Ou:=fun ρ=>match ρ[j]? with
 | some (.od kvs)=>if kvs.length < 1000/\∀ p∈kvs,p.1≠[] then .nx (ρ.set i (.ow ((bJ (kvs.map (·.1))).map tupK))) else .no
 | _=>.no
section
variable {X:Cx} {K:PySem.W.Frag} {B:Bs} {W:Wi} {σ:St} {G H G' H':Hp} {ρ:ak} {De:Ends}
theorem lV {r:Rs (D×ak)} {k:D->ak->Ou} {Q:VK} (p:bY K B W G (oX r k) De) (h:∀ d ρ1 v H1 G1,SR K B σ H1 ρ1 G1->Same G G1->Rep K G1 d v->bY K B W G1 (k d ρ1) De->Q v H1):jg K B σ G r Q:=by
 cases r with
 | ok x=>obtain ⟨d,ρ1⟩:=x;exact fun v H1 G1 s q r=>h d ρ1 v H1 G1 s q r (bY.same (show bY K B W G (k d ρ1) De from p) q)
 | ex c n=>exact p.elim
 | no=>exact p.elim
theorem UJ {r:Rs (List D×ak)} {k:List D->ak->Ou} {Q:List V->Hp->Prop} (p:bY K B W G (oX r k) De) (h:∀ d ρ1 v H1 G1,SR K B σ H1 ρ1 G1->Same G G1->aZ K G1 d v->bY K B W G1 (k d ρ1) De->Q v H1):fW K B σ G r Q:=by
 cases r with
 | ok x=>obtain ⟨d,ρ1⟩:=x;exact fun v H1 G1 s q r=>h d ρ1 v H1 G1 s q r (bY.same (show bY K B W G (k d ρ1) De from p) q)
 | ex c n=>exact p.elim
 | no=>exact p.elim
theorem UL {r:Rs (Bool×ak)} {k:Bool->ak->Ou} {Q:Bool->Hp->Prop} (p:bY K B W G (oX r k) De) (h:∀ d ρ1 H1 G1,SR K B σ H1 ρ1 G1->Same G G1->bY K B W G1 (k d ρ1) De->Q d H1):gM K B σ G r Q:=by
 cases r with
 | ok x=>obtain ⟨d,ρ1⟩:=x;exact fun H1 G1 s q=>h d ρ1 H1 G1 s q (bY.same (show bY K B W G (k d ρ1) De from p) q)
 | ex c n=>exact p.elim
 | no=>exact p.elim
theorem mQ {e:Expr} {pos} {f:ak->Rs (D×ak)} (h:SX X B e f):SS X B W (.Return (some e) pos) (oW f) :=
 PS.imp (Nh h) fun De σ H ⟨ρ,G,s,p⟩=>⟨ρ,G,s,lV (k:=fun d ρ1=>.rx d ρ1) p fun d ρ1 v H1 G1 s1 q1 r1 p1=>p1 v σ H1 G1 s1 (.refl _) r1⟩
theorem jl (i:Nat) {x:Str} {e:Expr} {pos pos':Pos} {f:ak->Rs (D×ak)} (hN:X.N.Nodup) (he:SX X B e f) (hi:X.N[i]?=some x:=by rfl) (hx:Jg X.env.scope x:=by first|exact Or.inl rfl|exact Or.inr rfl) (hs:swapsWith e (some (.Name x pos')) pos.line X.env=pure false:=by rfl) (hf:X.fn x=true∨X.env.scope.names.lookup x=some .local:=by first|exact .inl rfl|exact .inr rfl|assumption) :
  SS X B W (.Assign [.Name x pos'] e pos) (oY i f) :=
 PS.imp (vp hN hi hx he hs hf) fun De σ H ⟨ρ,G,s,p⟩=>⟨ρ,G,s,lV (k:=fun d ρ1=>.nx (ρ1.set i (.fz d))) p fun d ρ1 v H1 G1 s1 q1 r1 p1=>p1 _ H1 G1 (s1.set r1) (.refl _)⟩
theorem YL {c:Expr} {a b:List Stmt} {pos:Pos} {fc:ak->Rs (Bool×ak)} {ga gb:ak->Ou} (hc:STX X B c fc) (ha:vo X B W a ga) (hb:vo X B W b gb):SS X B W (.If c a b pos) (xIf fc ga gb):=by
 refine PS.imp (acS hc ha hb) fun De σ H ⟨ρ,G,s,p⟩=>⟨ρ,G,s,UL (k:=fun x ρ1=>if x=true then ga ρ1 else gb ρ1) p fun x ρ1 H1 G1 s1 q1 p1=>?_⟩
 cases x with
 | true=>rw [if_pos rfl] at p1 ⊢;exact ⟨ρ1,G1,s1,p1⟩
 | false=>rw [if_neg (by simp)] at p1 ⊢;exact ⟨ρ1,G1,s1,p1⟩
theorem afv (i:Nat) {x:Str} {es:List Expr} {pos pos' lp:Pos} {f:ak->Rs (List D×ak)} (hN:X.N.Nodup) (he:SAX X B es f) (hi:X.N[i]?=some x:=by rfl) (hx:Jg X.env.scope x:=by first|exact Or.inl rfl|exact Or.inr rfl) (hs:swapsWith (.List es lp) (some (.Name x pos')) pos.line X.env=pure false:=by rfl) (hf:X.fn x=true∨X.env.scope.names.lookup x=some .local:=by first|exact .inl rfl|exact .inr rfl|assumption) :
  SS X B W (.Assign [.Name x pos'] (.List es lp) pos) (YK i f):=by
 refine PS.imp (vp hN hi hx (Nq he) hs hf) fun De σ H ⟨ρ,G,s,p⟩=>⟨ρ,G,s,UJ (k:=fun ds ρ1=>if ds.length<=1000 then .nx (ρ1.set i (.ow ds)) else .no) p fun ds ρ1 vs H1 G1 s1 q1 r1 p1=>?_⟩
 by_cases hl:ds.length<=1000
 ·rw [if_pos hl] at p1
  exact ⟨by rw [<- r1.length];exact yH hl,fun c hc=>p1 _ _ G1 (s1.WL r1 hc) (.refl _)⟩
 ·rw [if_neg hl] at p1;exact p1.elim
theorem abM {tg iter:Expr} {body:List Stmt} {pos:Pos} {f:ak->Rs (D×ak)} {h:Tg} {gb:ak->Ou} (hp:PassesOwn (model X.prog X.w) X.A X.env X.xe) (hc:X.calm=true) (hi:SX X B iter f) (hg:SG X B tg h) (hb:vo X B W body gb)
  (hs:∀ x,foldedSetIterable iter X.env x=pure x:=by intro _;rfl):SS X B W (.For tg iter body [] pos) (RV h gb f):=by
 refine PS.imp (yt hp hc (Ep hi) hg hb hs) fun De σ H ⟨ρ,G,s,p⟩=>?_
 refine ⟨ρ,G,s,lV (k:=fun d ρ1=>match d with|.lst ds=>cN h gb ds ρ1|_=>.no) p fun d ρ1 v H1 G1 s1 q1 r1 p1=>?_⟩
 cases d with
 | lst ds =>
  obtain ⟨a,vs,rfl,q,rr⟩:=aO.mp r1
  refine ⟨a,rfl,⟨vs,s1.en.gh.seq q⟩,Jk (fun i σ H=>∃ ρ G,SR X.K B σ H ρ G/\rG X.K G a vs/\aZ X.K G ds vs/\bY X.K B W G (cN h gb (ds.drop i) ρ) De) ⟨ρ1,G1,s1,q,rr,by simpa using p1⟩ (fun i σ H _ ⟨ρ,G,s,q,_⟩=>s.en.gh.seq q) ?_ ?_⟩
  ·rintro i x σ2 H2 hx ⟨ρ2,G2,s2,q2,r2,p2⟩
   obtain ⟨d,hd,rd⟩:=r2.get' hx
   have hl:=(List.getElem?_eq_some_iff.mp hd).1
   rw [List.drop_eq_getElem_cons hl,(List.getElem?_eq_some_iff.mp hd).2] at p2
   exact uy s2 rd p2 fun σ' H' ρ' G' s' q' p'=>⟨ρ',G',s',q'.seq q2,r2.mono q',p'⟩
  ·rintro σ2 H2 ⟨ρ2,G2,s2,q2,r2,p2⟩
   rw [<- r2.length,List.drop_length] at p2
   exact p2 σ2 H2 G2 s2 (.refl _)
 | _=>exact p1.elim
theorem Gr {tg e:Expr} {body:List Stmt} {pos p1 p2:Pos} {f:ak->Rs (D×ak)} {h:Tg} {gb:ak->Ou} (hp:PassesOwn (model X.prog X.w) X.A X.env X.xe) (hc:X.calm=true) (hm:X.mg "range"=none) (hi:SX X B e f) (hg:SG X B tg h) (hb:vo X B W body gb)
  (hgl:Gl X "range":=by rfl) (hst:starEach [e] X.env=[(false,eval e X.env)]:=by rfl)
  (hs:∀ x,foldedSetIterable (.Call (.Name "range" p1) [e] [] p2) X.env x=pure x:=by intro _;rfl):SS X B W (.For tg (.Call (.Name "range" p1) [e] [] p2) body [] pos) (Ea h gb f):=by
 refine PS.imp (yt hp hc (CW hgl hm (cW hi iy (by rw [hst];rfl)) hst) hg hb hs) fun De σ H ⟨ρ,G,s,p⟩=>?_
 refine ⟨ρ,G,s,lV (k:=fun d ρ1=>match d with|.int n=>if -(2 ^ 62)<=n/\n < 2 ^ 62 then cN h gb ((List.range n.toNat).map fun (i:Nat)=>.int i) ρ1 else .no|_=>.no) p fun d ρ1 v H1 G1 s1 q1 r1 p1=>?_⟩
 cases d with
 | int n =>
  dsimp only at p1
  by_cases c:-(2 ^ 62)<=n/\n < 2 ^ 62
  ·rw [if_pos c] at p1
   refine ⟨n,by rw [aH.mp r1],c.1,c.2,yN s1 ?_⟩
   simpa using p1
  ·rw [if_neg c] at p1;exact p1.elim
 | _=>exact p1.elim
theorem RW (j:Nat) {e b:Expr} {x:Str} {p1 tp pos:Pos} {fe:ak->Rs D} {fk:ak->Rs (D×ak)} (hu:X.A.units + 8 < cLine) (he:SE X B W e fe) (hb:SX X B b fk) (hN:X.N[j]?=some x:=by rfl) (hv:Nf X.env.scope x:=by first|exact Or.inl rfl|exact Or.inr (Or.inl rfl)|exact Or.inr (Or.inr rfl)) (hd:(x == ("__debug__":Str))=false:=by decide)
  (hcd:(x == ("__classdict__":Str))=false:=by decide)
  (hs:swapsWithSole [.Subscript (.Name x p1) b tp] e pos.line X.env=pure false:=by rfl) (hw:swappedStores [.Subscript (.Name x p1) b tp] e X.env=pure none:=by rfl)
  (h1:(assignEach [.Subscript (.Name x p1) b tp] X.env).map (·.2)=[assign (.Subscript (.Name x p1) b tp) X.env]:=by rfl)
  (ha:∀ v,assign (.Subscript (.Name x p1) b tp) X.env v=(do
   let ov <- holding [v] (eval (.Name x p1) X.env)
   let iv <- holding [v,ov] (eval b X.env)
   standAt tp
   holding [v,ov,iv] (setItem ov iv v)
   release [v,ov,iv] []):=by intro _;rfl) :
  SS X B W (.Assign [.Subscript (.Name x p1) b tp] e pos) (zQ j fe fk):=by
 refine PS.imp (Nj he (Ni (iu (pos:=p1) hN hv hd hcd) hb (Yp (adw hu)) ha) hs hw h1) fun De σ H ⟨ρ,G,s,p⟩=>?_
 unfold zQ at p
 refine ⟨ρ,G,s,gG s p fun d v H' G' _ y r p'=>?_⟩
 cases e2:ρ[j]? with
 | none=>rw [e2] at p';exact p'.elim
 | some z =>
  rw [e2] at p'
  cases z with
  | od abN =>
   have s':=s.ext y
   obtain ⟨d0,U0,akh,h1,h2,_⟩:=s'.od e2
   refine ⟨_,h1,ρ,G',s',lV (k:=fun k ρ1=>(match zH k,ρ1[j]? with
    | some ks,some (.od kvs)=>if kvs.length<=1000000 then .nx (ρ1.set j (.od (jX kvs ks d))) else .no
    | _,_=>.no)) p' fun k ρ1 v2 H2 G2 s2 q2 r2 p2=>?_⟩
   cases e1:zH k with
   | none=>rw [e1] at p2;exact p2.elim
   | some ks =>
    rw [e1] at p2
    cases e3:ρ1[j]? with
    | none=>rw [e3] at p2;exact p2.elim
    | some z1 =>
     rw [e3] at p2
     cases z1 with
     | od kvs =>
      dsimp only at p2
      by_cases hl:kvs.length<=1000000
      ·rw [if_pos hl] at p2
       obtain ⟨b',d1,U,cJ,rfl,q1,q2',q3,q4,q5,q6,q7⟩:=Yq s2 e3 s2.ug r2 e1
       rw [h1] at q1
       cases q1
       refine ⟨b',d0,ks,U,UG X.K G2,cJ,rfl,rfl,q2',q4,q5,q6,q3,by rw [<- q7.len];exact hl,?_⟩
       exact p2 σ _ G2 (s2.ux e3 rfl h1 rfl ⟨UG X.K G2,_,rfl,fun _ _ z=>z,q7.put (r.mono q2)⟩) (.refl _)
      ·rw [if_neg hl] at p2;exact p2.elim
     | _=>exact p2.elim
  | _=>exact p'.elim
theorem abO (i:Nat) {x:Str} {e:Expr} {pos p1 p2 cp:Pos} {f:ak->Rs (D×ak)} (he:SX X B e f) (hN:X.N[i]?=some x:=by rfl) (hv:Nf X.env.scope x:=by first|exact Or.inl rfl|exact Or.inr (Or.inl rfl)|exact Or.inr (Or.inr rfl)) (hd:(x == ("__debug__":Str))=false:=by decide)
  (hcd:(x == ("__classdict__":Str))=false:=by decide) (hst:starEach [e] X.env=[(false,eval e X.env)]:=by rfl)
  (hbase:attributeBase (.Name x p1) "pop" X.env (eval (.Name x p1) X.env)=eval (.Name x p1) X.env:=by rfl)
  (hfew:((backTo cp (starEach [e] X.env)).all (fun x=>!x.1) && (backToKw cp (keywordEach [] X.env)).all (fun x=>x.1.isSome)
   && decide (([e]:List Expr).length + ([]:List Keyword).length + (if ([]:List Keyword).isEmpty then 0 else 1) < 30))=true:=by rfl)
  (hline:(p2.endLine == cp.line)=true:=by rfl) (hplain:(backTo cp (starEach [] X.env)).any (·.1)=false:=by rfl)
  (hs:swapsWith (.Call (.Attribute (.Name x p1) "pop" p2) [e] [] cp) none pos.line X.env=pure false:=by rfl) :
  SS X B W (.Expr (.Call (.Attribute (.Name x p1) "pop" p2) [e] [] cp) pos) (Eb i f):=by
 refine PS.imp (QJ (acW PySem.F.plainAttrs_list PySem.F.slot_list_pop PySem.F.type_list_pop Wg (iu hN hv hd hcd) (cW he iy hst) hbase hfew hline hst hplain) hs) fun De σ H ⟨ρ,G,s,p⟩=>?_
 unfold Eb at p
 cases q:ρ[i]? with
 | none=>rw [q] at p;exact p.elim
 | some z =>
  rw [q] at p
  cases z with
  | ow ds0 =>
   obtain ⟨a,vs0,e1,h2,h3,h4,h5⟩:=s.ow i ds0 q
   refine ⟨_,e1,.inl ⟨rfl,vs0,.of h2⟩,ρ,G,s,lV (k:=fun k ρ1=>(match k,ρ1[i]? with
    | .int k,some (.ow ds)=>if 0<=k/\k < ds.length/\ds.length<=1000000 then .nx (ρ1.set i (.ow (ds.eraseIdx k.toNat))) else .no
    | _,_=>.no)) p fun d ρ1 v H1 G1 s1 q1 r1 p1=>?_⟩
   cases d with
   | int k =>
    cases e3:ρ1[i]? with
    | none=>rw [e3] at p1;exact p1.elim
    | some z1 =>
     rw [e3] at p1
     cases z1 with
     | ow ds =>
      dsimp only at p1
      by_cases hc:0<=k/\k < ds.length/\ds.length<=1000000
      ·rw [if_pos hc] at p1
       obtain ⟨b,vs,k1,k2,k3,k4,k5⟩:=s1.ow i ds e3
       have eb:b=a:=by rw [e1] at k1;injection k1 with z;injection z with z;injection z with z;exact z.symm
       subst eb
       have hl:=k5.length
       have hk:k.toNat < vs.length:=by omega
       have hix:seqIndex? k vs.length=some k.toNat:=(Et (n:=vs.length) (i:=k) (j:=k.toNat) (by unfold Es;rw [if_pos (by omega),if_pos (by omega)])).1
       rw [aH.mp r1]
       exact ⟨b,vs,k,k.toNat,vs[k.toNat],rfl,rfl,k2,by omega,by omega,hix,List.getElem?_eq_getElem hk,p1 σ _ G1 (s1.write e3 e1 (aZ.erase k.toNat k5)) (.refl _)⟩
      ·rw [if_neg hc] at p1;exact p1.elim
     | _=>exact p1.elim
   | _=>exact p1.elim
  | _=>exact p.elim
theorem abP (i j:Nat) {e b:Expr} {x y:Str} {p1 p2 tp pt pos:Pos} {kt:Nat} {f fk:ak->Rs D} (hc:X.calm=true) (hN:X.N.Nodup) (he:SE X B W e f) (hb:SE X B W b fk) (hi:X.N[i]?=some x:=by rfl) (hj:X.N[j]?=some y:=by rfl) (hv:Nf X.env.scope x:=by first|exact Or.inl rfl|exact Or.inr (Or.inl rfl)|exact Or.inr (Or.inr rfl)) (hd:(x == ("__debug__":Str))=false:=by decide)
  (hcd:(x == ("__classdict__":Str))=false:=by decide) (hy:Jg X.env.scope y:=by first|exact Or.inl rfl|exact Or.inr rfl) (hf:X.fn y=true∨X.env.scope.names.lookup y=some .local:=by first|exact .inl rfl|exact .inr rfl|assumption)
  (hs:swapsWithSole [.Tuple [.Subscript (.Name x p1) b tp,.Name y p2] kt pt] e pos.line X.env=pure false:=by rfl) (hw:swappedStores [.Tuple [.Subscript (.Name x p1) b tp,.Name y p2] kt pt] e X.env=pure none:=by rfl)
  (h1:(assignEach [.Tuple [.Subscript (.Name x p1) b tp,.Name y p2] kt pt] X.env).map (·.2)=[assign (.Tuple [.Subscript (.Name x p1) b tp,.Name y p2] kt pt) X.env]:=by rfl)
  (h2:(assignEach [.Subscript (.Name x p1) b tp,.Name y p2] X.env).map (·.2)=assign (.Subscript (.Name x p1) b tp) X.env::(assignEach [.Name y p2] X.env).map (·.2):=by rfl)
  (h3:(assignEach [.Name y p2] X.env).map (·.2)=assign (.Name y p2) X.env::(assignEach [] X.env).map (·.2):=by rfl)
  (h4:(assignEach [.Subscript (.Name x p1) b tp,.Name y p2] X.env).length=2:=by rfl) (h5:(assignEach [.Subscript (.Name x p1) b tp,.Name y p2] X.env).findIdx? (·.1)=none:=by rfl)
  (ha:∀ v,assign (.Subscript (.Name x p1) b tp) X.env v=(do
   let ov <- holding [v] (eval (.Name x p1) X.env)
   let iv <- holding [v,ov] (eval b X.env)
   standAt tp
   holding [v,ov,iv] (setItem ov iv v)
   release [v,ov,iv] []):=by intro _;rfl) :
  SS X B W (.Assign [.Tuple [.Subscript (.Name x p1) b tp,.Name y p2] kt pt] e pos) (Ld i j f fk):=by
 refine PS.imp (Nj he (VB hc (yr (Ni (iu (pos:=p1) hi hv hd hcd) hb Wf ha) (yr (QK hN hj hy hf) QL h3) h2) h4 h5) hs hw h1) fun De σ H ⟨ρ,G,s,p⟩=>?_
 unfold Ld at p
 refine ⟨ρ,G,s,gG s p fun d v H' G' _ yx r p'=>?_⟩
 match d,p',r with
 | .tup [q,r0],p',r =>
  obtain ⟨c,vs,rfl,hq,rr⟩:=aP.mp r
  obtain ⟨vq,vs1,rfl,rq,rr1⟩:=aN.mp rr
  obtain ⟨vr,vs2,rfl,r2,rr2⟩:=aN.mp rr1
  cases bf.mp rr2
  have s':=s.ext yx
  have p2:bY X.K B W G' (match ρ[i]? with
   | some z=>(match lent z with
    | some ds=>oR (fk ρ) ρ fun k=>(match k with
     | .int k=>(match Es ds.length k with|some m=>.nx ((ρ.set i (fG z (ds.set m q))).set j (.fz r0))|none=>.no)
     | _=>.no)
    | none=>.no)
   | none=>.no) De:=p'
  cases e1:ρ[i]? with
  | none=>rw [e1] at p2;exact p2.elim
  | some z =>
   rw [e1] at p2
   dsimp only at p2
   cases e2:lent z with
   | none=>rw [e2] at p2;exact p2.elim
   | some ds =>
    rw [e2] at p2
    dsimp only at p2
    obtain ⟨a,ws,k1,k2,k3,k4,k5⟩:=s'.lent e1 e2
    refine ⟨c,_,rfl,Same.gU s'.en.gh hq,rfl,vq,[vr],rfl,_,k1,ρ,G',s',gG s' p2 fun k v2 H2 G2 _ y2 r3 p3=>?_⟩
    cases k with
    | int k =>
     dsimp only at p3
     cases e3:Es ds.length k with
     | none=>rw [e3] at p3;exact p3.elim
     | some m =>
      rw [e3] at p3
      rw [aH.mp r3]
      have s2:=s'.ext y2
      refine ⟨a,ws,k,m,rfl,rfl,y2.hh _ _ k2,by rw [<- k5.length];exact e3,vr,[],rfl,rfl,?_⟩
      refine p3 _ _ G2 (SR.set (SR.ux s2 (z:=fG z (ds.set m q)) (o:=.lst (ws.set m vq)) e1 (pW e2) k1 (zO e2) (DW e2 (aZ.set m (k5.mono y2.gg) (rq.mono y2.gg))) (fun _ h=>DX e2 h)) (r2.mono y2.gg)) (.refl _)
    | _=>exact p3.elim
 | .tup [],p',r=>exact p'.elim
 | .tup [_],p',r=>exact p'.elim
 | .tup (_::_::_::_),p',r=>exact p'.elim
 | .non,p',r=>exact p'.elim
 | .bl _,p',r=>exact p'.elim
 | .int _,p',r=>exact p'.elim
 | .str _,p',r=>exact p'.elim
 | .lst _,p',r=>exact p'.elim
 | .kJ _ _,p',r=>exact p'.elim
theorem YM (i j:Nat) {x y:Str} {p p1 cp pos pos':Pos} (hc:X.calm=true) (hNd:X.N.Nodup) (hm:X.mg "sorted"=none) (hi:X.N[i]?=some y:=by rfl) (hx:Jg X.env.scope y:=by first|exact Or.inl rfl|exact Or.inr rfl) (hN:X.N[j]?=some x:=by rfl) (hv:Nf X.env.scope x:=by first|exact Or.inl rfl|exact Or.inr (Or.inl rfl)|exact Or.inr (Or.inr rfl)) (hd:(x == ("__debug__":Str))=false:=by decide)
  (hcd:(x == ("__classdict__":Str))=false:=by decide) (hg:Gl X "sorted":=by rfl) (he:starEach [.Name x p1] X.env=[(false,eval (.Name x p1) X.env)]:=by rfl)
  (hs:swapsWith (.Call (.Name "sorted" p) [.Name x p1] [] cp) (some (.Name y pos')) pos.line X.env=pure false:=by rfl) (hf:X.fn y=true∨X.env.scope.names.lookup y=some .local:=by first|exact .inl rfl|exact .inr rfl|assumption) :
  SS X B W (.Assign [.Name y pos'] (.Call (.Name "sorted" p) [.Name x p1] [] cp) pos) (zR i j):=by
 refine PS.imp (vp hNd hi hx (jK (zL hc) hg hm PyProof.Rows.boot_sorted (cW (iu hN hv hd hcd) iy he) (by decide) (by decide) he rfl) hs hf) fun De σ H ⟨ρ,G,s,pp⟩=>?_
 unfold zR at pp
 split at pp
 ·rename_i kvs q
  split at pp
  ·rename_i hc2
   obtain ⟨a,o,h1,h2,h3,h4,U,cJ,rfl,hU,hk⟩:=s.own j _ q rfl
   have ek:=hk.keys
   have el:cJ.length=kvs.length:=by have:=congrArg List.length ek;simpa using this
   refine ⟨_,h1,a,U,cJ,rfl,h2,fun b ks z=>Same.gU s.en.gh (hU b ks z),by omega,fun p hp=>?_,fun l zs hl hz hv'=>?_⟩
   ·have:p.1∈kvs.map (·.1):=ek▸List.mem_map_of_mem hp
    obtain ⟨p',hp',e⟩:=List.mem_map.mp this
    exact e▸hc2.2 p' hp'
   ·rw [ek] at hz hv'
    refine pp _ _ G (s.WL (lU hz fun i v hv2=>?_) hl) (.refl _)
    obtain ⟨b,e1,e2⟩:=hv' i v hv2
    exact ⟨b,e1,hU b _ e2⟩
  ·exact pp.elim
 ·exact pp.elim
end
end Vl
namespace Vl
open PySem PySem.Spec PySem.Calls PySem.W L2 So
def YQ (fe:ak->Rs (D×ak)) (fl fh:ak->Rs (Option Int)):ak->Rs (D×ak):=fun ρ=>bx (fe ρ) fun x ρ1=>lf ((fl ρ1).bind fun l=>(fh ρ1).bind fun h=>KR l h x) ρ1
def Ec (g:D->D->Rs D) (j:Nat) (fb:ak->Rs D):ak->Rs D:=fun ρ=>match ρ[j]? with
 | some z=>(match lent z with|some ds=>(fb ρ).bind fun y=>g (.lst ds) y|none=>.no)
 | none=>.no
section
variable {X:Cx} {K:PySem.W.Frag} {B:Bs} {W:Wi} {σ:St} {G H G' H':Hp} {ρ:ak} {a b:Expr} {pos:Pos} {fa fb:ak->Rs (D×ak)}
theorem ahU (hu:X.A.units + 8 < cLine) (ha:SX X B a fa) (hb:SX X B b fb):SX X B (.Compare a [.Eq] [b] pos) (iD Dq fa fb):=afq (Fj hu) Fl ha hb (lu _)
theorem YT (hu:X.A.units + 8 < cLine) (ha:SX X B a fa) (hb:SX X B b fb):STX X B (.Compare a [.Eq] [b] pos) (xT (iD Dq fa fb)):=RT (Fj hu) Fl ha hb (lu _)
theorem afw (ha:SX X B a fa) (hb:SX X B b fb):STX X B (.Compare a [.Gt] [b] pos) (xT (iD gGt fa fb)):=RT agx (yE fun _ _ _=>bA.mpr rfl) ha hb (lu _)
theorem YW {e:Expr} {p pos:Pos} {fa:ak->Rs (D×ak)} (hm:X.mg "tuple"=none) (ha:SX X B e fa) (hg:Gl X "tuple":=by rfl) (he:starEach [e] X.env=[(false,eval e X.env)]:=by rfl):SX X B (.Call (.Name "tuple" p) [e] [] pos) (xA (cg fa lH) fQ) :=
 Uz rH Ju hg hm PyProof.Rows.boot_tuple (bN ha fM he) (by decide) (by decide) he rfl
theorem UW {e:Expr} {lo hi:Option Expr} {p2 pos:Pos} {fe:ak->Rs (D×ak)} {fl fh:ak->Rs (Option Int)} (he:SX X B e fe) (hl:SO X B WF lo fl) (hh:SO X B WF hi fh) :
  SX X B (.Subscript e (.Slice lo hi none p2) pos) (YQ fe fl fh):=by
 refine PE.imp (Wa (SlR.or adY YB) he hl hh) fun σ H Q ⟨ρ,G,s,p⟩=>⟨ρ,G,s,YD (k:=fun x ρ1=>lf ((fl ρ1).bind fun l=>(fh ρ1).bind fun h=>KR l h x) ρ1) p fun d ρ1 v H1 G1 s1 q1 r1 p1=>⟨ρ1,G1,s1,?_⟩⟩
 have p1:Post X.K WF σ G1 H1 ((fl ρ1).bind fun l=>(fh ρ1).bind fun h=>KR l h d) Q:=xV s1 p1
 cases e1:fl ρ1 with
 | ok l =>
  rw [e1] at p1
  intro H2 G2 x2
  have q':Post X.K WF σ G1 H1 ((fh ρ1).bind fun h=>KR l h d) Q:=p1
  refine ⟨ρ1,G2,s1.ext x2,?_⟩
  cases e2:fh ρ1 with
  | ok h =>
   rw [e2] at q'
   exact fun H3 G3 x3=>abB ((s1.ext x2).ext x3) ((r1.mono x2.gg).mono x3.gg) (Post.ext (x2.trans x3) q')
  | ex c n=>rw [e2] at q';exact fun H3 G3 x3=>q' H3 G3 (x2.trans x3)
  | no=>rw [e2] at q';exact q'
 | ex c n=>rw [e1] at p1;exact p1
 | no=>rw [e1] at p1;exact p1
theorem abQ {g:D->D->Rs D} {j:Nat} {fb:ak->Rs D} {r:R2} {Q:VK} (hr:∀ (G H:Hp) (ds:List D) (y:D) (v u:V) (Q:VK),Same G H->Rep K H (.lst ds) v->Rep K G y u->Post K W σ G H (g (.lst ds) y) Q->(∀ b xs,H b=some (.tup xs)->G b=some (.tup xs))->r v u H Q)
  (h:tF K B W (Ec g j fb) σ H Q):tOp r (Td j) (tF K B W fb) σ H Q:=by
 obtain ⟨ρ,G,s,p⟩:=h
 unfold Ec at p
 cases q:ρ[j]? with
 | none=>rw [q] at p;exact p.elim
 | some z =>
  rw [q] at p
  dsimp only at p
  cases q1:lent z with
  | none=>rw [q1] at p;exact p.elim
  | some ds =>
   rw [q1] at p
   obtain ⟨a,vs,h1,h2,h3,h4,h5⟩:=s.lent q q1
   refine ⟨_,h1,ρ,G,s,?_⟩
   refine Post.mono (Post.bind (k:=fun y=>g (.lst ds) y) p) fun u H1 ⟨G1,d,y,r1,p1⟩=>?_
   exact hr G1 H1 ds d _ u Q y.gh (aO.mpr ⟨a,vs,rfl,.of (y.hh _ _ h2),(h5.mono y.gg).mono y.gh⟩) r1 p1 y.tp
theorem abR {G H:Hp} {ds:List D} {y:D} {v u:V} {Q:VK} (e:Same G H) (r1:Rep K H (.lst ds) v) (r2:Rep K G y u) (p:Post K W σ G H (Ao (.lst ds) y) Q) (tp:∀ b xs,H b=some (.tup xs)->G b=some (.tup xs)):aex K 8 v u H Q:=by
 unfold Ao at p
 split at p
 ·rename_i hc
  exact ⟨_,_,r1,r2.mono e,hc.1,hc.2,p _ H G (.refl e tp) (bA.mpr rfl)⟩
 ·exact p.elim
section
variable {x:Str} {p1:Pos} {fb:ak->Rs D} (j:Nat) (hu:X.A.units + 8 < cLine) (hb:SE X B W b fb) (hN:X.N[j]?=some x) (hv:Nf X.env.scope x) (hd:(x == ("__debug__":Str))=false) (hcd:(x == ("__classdict__":Str))=false)
theorem afx (hu:X.A.units + 8 < cLine) (hb:SE X B W b fb) (hN:X.N[j]?=some x:=by rfl) (hv:Nf X.env.scope x:=by first|exact Or.inl rfl|exact Or.inr (Or.inl rfl)|exact Or.inr (Or.inr rfl)) (hd:(x == ("__debug__":Str))=false:=by decide) (hcd:(x == ("__classdict__":Str))=false:=by decide):ST X B W (.Compare (.Name x p1) [.NotEq] [b] pos) (fT (Ec Ao j fb)) :=
 PT.imp (Er (Oc hu) (iu hN hv hd hcd) hb (lu _)) fun σ H Q h=>abQ (fun G H ds y v u Q e r1 r2 p tp=>abR e r1 r2 p tp) (Wq h)
end
end
end Vl
namespace Vl
open PySem PySem.Spec PySem.Calls PySem.W L2
section
variable {ρ ρ1:ak} {d x y z:D} {f fa fb:ak->Rs D} {g k a b:ak->Ou} {r:Ou} {ds:List D} {fs:ak->Rs (List D)} {c c1 c2:ak->Rs Bool} {t u:Bool} {i j:Nat} {α β:Type} {e:Str} {n:Int}
theorem ahV:WD (.nx ρ) k=k ρ:=rfl
theorem ahW:WD (.rt d) k=.rt d:=rfl
theorem ahX:WD (.ex e n ρ) k=.ex e n ρ:=rfl
theorem akl {a:α} {k:α->Ou}:oR (.ok a) ρ k=k a:=rfl
theorem akm {k:α->Ou}:oR (.ex e n) ρ k=.ex e n ρ:=rfl
theorem Le {a:α} {k:α->Rs β}:Rs.bind (.ok a) k=k a:=rfl
theorem ahY {k:α->Rs β}:Rs.bind (.ex e n) k=.ex e n:=rfl
theorem akn:oO (some ρ)=.nx ρ:=rfl
theorem ahZ:fu (.nx ρ)=.ok .non:=rfl
theorem aia:fu (.rt d)=.ok d:=rfl
theorem aib:fu (.ex e n ρ)=.ex e n:=rfl
theorem aic:WM (.nx ρ)=.nx ρ:=rfl
theorem aie:WM (.rt d)=.rt d:=rfl
theorem afy {n:Nat} {v:List D->Rs D}:cj n v ds=if ds.length=n then v ds else .no:=rfl
theorem afz {a:α}:yO (.ok a)=.ok a:=rfl
theorem pY {m n:Int} (h:-(2 ^ 64) < n/\n < 2 ^ 64):jt (.int m) (.int n)=.ok (.int (m * n)):=adh (.inr h)
theorem YX {m:Int}:fj (.tup ds) (.int m)=match Am ds m with|some d=>.ok d|none=>.no:=rfl
theorem aif {m:Int}:fj (.lst ds) (.int m)=match Am ds m with|some d=>.ok d|none=>.no:=rfl
theorem afA:wZ [.lst ds]=.ok (.int ds.length):=rfl
theorem Gs:wZ [.tup ds]=.ok (.int ds.length):=rfl
theorem vW:fQ [.lst ds]=.ok (.tup ds):=rfl
theorem afB:fQ [.tup ds]=.ok (.tup ds):=rfl
theorem afC:Ym [.lst ds]=.ok (.lst ds):=rfl
theorem afD:Ym [.tup ds]=.ok (.lst ds):=rfl
theorem afE:Pa [.int n]=.ok (.int n):=rfl
theorem Pn:Pa [.bl t]=.ok (.int (if t then 1 else 0)):=rfl
theorem aii:akf x .non=.ok (.bl (uN x)):=rfl
theorem afF:ahI x .non=.ok (.bl (!uN x)):=rfl
theorem ako:uN .non=true:=rfl
theorem akp:uN (.bl t)=false:=rfl
theorem akq:uN (.int n)=false:=rfl
theorem akr:uN (.tup ds)=false:=rfl
theorem aks:uN (.lst ds)=false:=rfl
theorem aij:aaz (.int n)=.ok (.int (-n)):=rfl
theorem aik {d:D}:Am (d::ds) 0=some d:=by
 unfold Am
 have:Es (d::ds).length 0=some 0:=by
  unfold Es;simp
 rw [this];rfl
theorem ail {d d':D}:Am (d::d'::ds) 1=some d':=by
 unfold Am
 have:Es (d::d'::ds).length 1=some 1:=by
  unfold Es;simp
  omega
 rw [this];rfl
end
section
open So Tb
theorem vX {α:Type} {h:Tg} {fe:ak->Rs D} (P:ak->Prop) (Ak:α->D) (F:α->D):∀ {xs:List α} {ρ:ak},P ρ->(∀ x∈xs,∀ ρ,P ρ->∃ ρ1,h (Ak x) ρ=some ρ1/\fe ρ1=.ok (F x)/\P ρ1)->iZ h (fun _=>.ok true) fe (xs.map Ak) ρ=.ok (xs.map F)
 | [],ρ,p,_=>rfl
 | x::xs,ρ,p,st=>by
  obtain ⟨ρ1,e1,e2,p2⟩:=st x (by simp) ρ p
  have e:=vX (xs:=xs) P Ak F p2 fun d' hd=>st d' (by simp [hd])
  simp only [List.map_cons,iZ,e1,Rs.bind,e2,e,if_true]
theorem abS {acc:List (List Int)} {k x:List Int}:x∈ins acc k↔x=k∨x∈acc:=by
 unfold ins
 split
 ·rename_i h
  constructor
  ·exact .inr
  ·rintro (rfl|h')
   ·exact h
   ·exact h'
 ·exact List.mem_cons
theorem iG {l:List (List Int)} {x:List Int}:x∈bO l↔x∈l:=by
 unfold bO
 have:∀ (l acc:List (List Int)),x∈l.foldl ins acc↔x∈l∨x∈acc:=by
  intro l
  induction l with
  | nil=>intro acc;simp
  | cons a l ih =>
   intro acc
   rw [List.foldl_cons,ih,abS,List.mem_cons]
   constructor
   ·rintro (h|h|h)
    ·exact .inl (.inr h)
    ·exact .inl (.inl h)
    ·exact .inr h
   ·rintro ((h|h)|h)
    ·exact .inr (.inl h)
    ·exact .inl h
    ·exact .inr (.inr h)
 simpa using this l []
theorem lW {l:List (List Int)} {x:List Int}:x∈bJ l↔x∈l:=(dg l).mem_iff
theorem rC (l:List (List Int)):(bJ l).length=l.length:=(dg l).length_eq
abbrev rise (l:List (List Int)):List (List Int):=bJ (bO l)
def Pair (ks:List Int):Prop:=∃ a b,ks=[a,b]
theorem Pair.ne {ks:List Int} (h:Pair ks):ks≠[]:=by obtain ⟨a,b,rfl⟩:=h;simp
theorem Lf (ks:List Int):cL (tupK ks)<=2:=by
 unfold tupK
 have:cU (ks.map D.int)<=1:=by
  induction ks with
  | nil=>simp [cU]
  | cons k ks ih=>simp only [List.map_cons,cU,cL];exact Nat.max_le.mpr ⟨by omega,ih⟩
 simp only [cL];omega
theorem rD (aF:List (List Int)):cU (aF.map tupK)<=2:=by
 induction aF with
 | nil=>simp [cU]
 | cons k aF ih=>simp only [List.map_cons,cU];exact Nat.max_le.mpr ⟨Lf k,ih⟩
end
end Vl
namespace Vl
open PySem PySem.Spec PySem.Calls PySem.W L2 So
section
variable {ρ ρ1 ρ2:ak} {d x y z:D} {f fa fb:ak->Rs D} {xa xb:ak->Rs (D×ak)} {g k a b:ak->Ou} {r:Ou} {ds:List D} {fs:ak->Rs (List D)} {xs:ak->Rs (List D×ak)} {c c1 c2:ak->Rs (Bool×ak)} {t u:Bool} {i j:Nat}
theorem cT (h:f ρ=.ok d):xP f ρ=.ok (d,ρ):=by unfold xP;rw [h];rfl
theorem zT (h:fs ρ=.ok ds):jY fs ρ=.ok (ds,ρ):=by unfold jY;rw [h];rfl
theorem RZ {f:ak->Rs Bool} (h:f ρ=.ok t):xPT f ρ=.ok (t,ρ):=by unfold xPT;rw [h];rfl
theorem cI {o:D->D->Rs D} (h1:xa ρ=.ok (x,ρ1)) (h2:xb ρ1=.ok (y,ρ2)) (h3:o x y=.ok z):iD o xa xb ρ=.ok (z,ρ2):=by
 unfold iD;rw [h1];show bx (xb ρ1) _=_;rw [h2];show lf (o x y) ρ2=_;rw [h3];rfl
theorem jm:lH ρ=.ok ([],ρ):=rfl
theorem bZ (h1:xa ρ=.ok (x,ρ1)) (h2:xs ρ1=.ok (ds,ρ2)):cg xa xs ρ=.ok (x::ds,ρ2):=by
 unfold cg;rw [h1];show bx (xs ρ1) _=_;rw [h2];rfl
theorem Bb {o:List D->Rs D} (h1:xs ρ=.ok (ds,ρ1)) (h2:o ds=.ok d):xA xs o ρ=.ok (d,ρ1):=by
 unfold xA;rw [h1];show lf (o ds) ρ1=_;rw [h2];rfl
theorem Va (h:xa ρ=.ok (.bl t,ρ1)):xT xa ρ=.ok (t,ρ1):=by unfold xT;rw [h];rfl
theorem Lg (h:c1 ρ=.ok (false,ρ1)):Uy c1 c2 ρ=.ok (false,ρ1):=by unfold Uy;rw [h];rfl
theorem Lh (h:c1 ρ=.ok (true,ρ1)) (h2:c2 ρ1=.ok (t,ρ2)):Uy c1 c2 ρ=.ok (t,ρ2):=by unfold Uy;rw [h];exact h2
theorem Li {n:Nat} {w:List D->List D->Rs (D×List D)} {z0 z1:Sl} {e0 es es':List D} (h0:ρ[i]?=some z0) (l0:lent z0=some e0) (h1:xs ρ=.ok (ds,ρ1)) (hn:ds.length=n) (h2:ρ1[i]?=some z1) (l1:lent z1=some es) (h3:w es ds=.ok (d,es')):xM i n w xs ρ=.ok (d,ρ1.set i (fG z1 es')):=by
 unfold xM
 rw [h0]
 dsimp only
 rw [l0]
 dsimp only
 rw [h1]
 show (if ds.length=n then _ else _)=_
 rw [if_pos hn,h2]
 dsimp only
 rw [l1]
 dsimp only
 rw [h3]
theorem abT (h:xa ρ=.ok (d,ρ1)):oY i xa ρ=.nx (ρ1.set i (.fz d)):=by unfold oY;rw [h];rfl
theorem fO (h:xa ρ=.ok (d,ρ1)) (e:ρ1.set i (.fz d)=ρ2):oY i xa ρ=.nx ρ2:=by rw [<- e];exact abT h
theorem abU (h:xa ρ=.ok (d,ρ1)) (e:ρ1=ρ2):oW xa ρ=.rx d ρ2:=by subst e;unfold oW;rw [h];rfl
theorem jx (h:xa ρ=.ok (d,ρ1)):oW xa ρ=.rx d ρ1:=by unfold oW;rw [h];rfl
theorem Gu (h:c ρ=.ok (true,ρ1)) (h2:a ρ1=r):xIf c a b ρ=r:=by unfold xIf;rw [h];exact h2
theorem uT (h:c ρ=.ok (false,ρ1)) (h2:b ρ1=r):xIf c a b ρ=r:=by unfold xIf;rw [h];exact h2
theorem abV (h:xs ρ=.ok (ds,ρ1)) (hl:ds.length<=1000):YK i xs ρ=.nx (ρ1.set i (.ow ds)):=by unfold YK;rw [h];show (if _ then _ else _)=_;rw [if_pos hl]
theorem YZ {h:Tg} (h1:xa ρ=.ok (.lst ds,ρ1)) (h2:cN h g ds ρ1=r):RV h g xa ρ=r:=by unfold RV;rw [h1];exact h2
theorem zU {h:Tg} {n:Int} {N:Nat} (h1:xa ρ=.ok (.int n,ρ1)) (hb:n < 2 ^ 62) (hN:n=(N:Int)) (h2:cN h g ((List.range N).map fun (i:Nat)=>.int i) ρ1=r):Ea h g xa ρ=r:=by
 have hc:-(2 ^ 62)<=n/\n < 2 ^ 62:=⟨by subst hN;omega,hb⟩
 unfold Ea;rw [h1]
 simp only [oX]
 rw [if_pos hc,hN,Int.toNat_natCast]
 exact h2
theorem Pq {ρ2:ak} (h:g ρ=.rx d ρ2):cF g k ρ=.rx d ρ2:=by unfold cF;rw [h];rfl
theorem Pr (ks:List Int):zH (tupK ks)=some ks:=by
 show mL (ks.map D.int)=some ks
 induction ks with
 | nil=>rfl
 | cons k ks ih=>rw [List.map_cons];show (mL (ks.map D.int)).map _=_;rw [ih];rfl
theorem abW {abN kvs:List (List Int×D)} {ks:List Int} {v:D} (he:fa ρ=.ok v) (h0:ρ[j]?=some (.od abN)) (hk:xb ρ=.ok (tupK ks,ρ1)) (hj:ρ1[j]?=some (.od kvs)) (hl:kvs.length<=1000000):zQ j fa xb ρ=.nx (ρ1.set j (.od (jX kvs ks v))):=by
 unfold zQ
 rw [he,h0]
 show oX (xb ρ) _=_
 rw [hk]
 show (match zH (tupK ks),ρ1[j]? with|some ks,some (.od kvs)=>if kvs.length<=1000000 then Ou.nx (ρ1.set j (.od (jX kvs ks v))) else .no|_,_=>.no)=_
 rw [Pr,hj]
 show (if kvs.length<=1000000 then Ou.nx _ else .no)=_
 rw [if_pos hl]
theorem Sd {abN kvs:List (List Int×D)} {ks:List Int} {v:D} (h0:ρ[j]?=some (.od abN)) (hk:xb ρ=.ok (tupK ks,ρ1)) (hj:ρ1[j]?=some (.od kvs)) (he:fa ρ=.ok v) (hl:kvs.length<=1000000) (e:ρ1.set j (.od (jX kvs ks v))=ρ2):zQ j fa xb ρ=.nx ρ2:=by rw [<- e];exact abW he h0 hk hj hl
theorem abX {es es0:List D} {n:Int} (h0:ρ[i]?=some (.ow es0)) (hk:xa ρ=.ok (.int n,ρ1)) (h1:ρ1[i]?=some (.ow es)) (hn:0<=n/\n < es.length/\es.length<=1000000):Eb i xa ρ=.nx (ρ1.set i (.ow (es.eraseIdx n.toNat))):=by
 unfold Eb
 rw [h0]
 show oX (xa ρ) _=_
 rw [hk]
 show (match D.int n,ρ1[i]? with|.int k,some (.ow ds)=>if 0<=k/\k < ds.length/\ds.length<=1000000 then Ou.nx (ρ1.set i (.ow (ds.eraseIdx k.toNat))) else .no|_,_=>.no)=_
 rw [h1]
 show (if _ then Ou.nx _ else .no)=_
 rw [if_pos hn]
theorem abY {es es0:List D} {n:Int} (h0:ρ[i]?=some (.ow es0)) (hk:xa ρ=.ok (.int n,ρ1)) (h1:ρ1[i]?=some (.ow es)) (hn:0<=n/\n < es.length/\es.length<=1000000) (e:ρ1.set i (.ow (es.eraseIdx n.toNat))=ρ2):Eb i xa ρ=.nx ρ2:=by rw [<- e];exact abX h0 hk h1 hn
theorem Za {n:Nat} {w:List D->Rs (List D)} {es:List D} (h:fs ρ=.ok ds) (hl:ds.length=n) (h2:w ds=.ok es):La i n w fs ρ=.nx (ρ.set i (.ow es)):=by
 unfold La;rw [h];show (if _ then _ else _)=_;rw [if_pos hl,h2]
theorem Zb {q r':D} {z0:Sl} {es:List D} {n:Int} {m:Nat} (h:fa ρ=.ok (.tup [q,r'])) (h0:ρ[i]?=some z0) (l0:lent z0=some es) (hk:fb ρ=.ok (.int n)) (hm:Es es.length n=some m):Ld i j fa fb ρ=.nx ((ρ.set i (fG z0 (es.set m q))).set j (.fz r')):=by
 unfold Ld
 rw [h]
 show (match ρ[i]? with
  | some z=>(match lent z with
   | some ds=>oR (fb ρ) ρ fun k=>(match k with
    | .int k=>(match Es ds.length k with|some m=>.nx ((ρ.set i (fG z (ds.set m q))).set j (.fz r'))|none=>.no)
    | _=>.no)
   | none=>.no)
  | none=>.no)=_
 rw [h0]
 dsimp only
 rw [l0]
 dsimp only
 rw [hk]
 show (match Es es.length n with|some m=>Ou.nx _|none=>.no)=_
 rw [hm]
theorem Vb {kvs:List (List Int×D)} (h0:ρ[j]?=some (.od kvs)) (hl:kvs.length < 1000) (hp:∀ x∈kvs.map (·.1),Pair x):zR i j ρ=.nx (ρ.set i (.ow ((bJ (kvs.map (·.1))).map tupK))):=by
 unfold zR
 rw [h0]
 show (if _ then _ else _)=_
 rw [if_pos ⟨hl,fun p hp'=>(hp p.1 (List.mem_map_of_mem hp')).ne⟩]
theorem Sg {kvs:List (List Int×D)} (h0:ρ[j]?=some (.od kvs)) (hl:kvs.length < 1000) (hp:∀ x∈kvs.map (·.1),Pair x):vU j ρ=.ok (.lst ((bJ (kvs.map (·.1))).map tupK)):=by
 unfold vU
 rw [h0]
 show (if _ then _ else _)=_
 rw [if_pos ⟨hl,fun p hp'=>(hp p.1 (List.mem_map_of_mem hp')).ne⟩]
theorem ain {z0:Sl} {es:List D} (h0:ρ[j]?=some z0) (l0:lent z0=some es) (hb:fb ρ=.ok y) (h:fj (.lst es) y=.ok d):YJ j fb ρ=.ok d:=by
 unfold YJ;rw [h0];dsimp only;rw [l0];dsimp only;rw [hb];exact h
theorem Zc {g:D->D->Rs D} {z0:Sl} {es:List D} (h0:ρ[j]?=some z0) (l0:lent z0=some es) (hb:fb ρ=.ok y) (h:g (.lst es) y=.ok d):Ec g j fb ρ=.ok d:=by
 unfold Ec;rw [h0];dsimp only;rw [l0];dsimp only;rw [hb];exact h
theorem afG {lo hi:Option Int} {fl fh:ak->Rs (Option Int)} (h:xa ρ=.ok (x,ρ1)) (h1:fl ρ1=.ok lo) (h2:fh ρ1=.ok hi) (h3:KR lo hi x=.ok d):YQ xa fl fh ρ=.ok (d,ρ1):=by
 unfold YQ;rw [h];show lf ((fl ρ1).bind _) ρ1=_;rw [h1];show lf ((fh ρ1).bind _) ρ1=_;rw [h2];show lf (KR lo hi x) ρ1=_;rw [h3];rfl
end
end Vl
namespace Vl
open PySem PySem.Spec PySem.Calls PySem.W L2
abbrev KL:=List (List Int)
theorem t2 (a b:D):dD [a,b]=.ok (.tup [a,b]):=Rk (by simp)
theorem Vc (ks:List Int):zH (tupK ks)=some ks:=by
 show mL (ks.map D.int)=some ks
 induction ks with
 | nil=>rfl
 | cons k ks ih=>rw [List.map_cons];show (mL (ks.map D.int)).map _=_;rw [ih];rfl
theorem zV (kvs:List (List Int×D)) (x:List Int):(uO kvs x).isSome=decide (x∈kvs.map (·.1)):=by
 induction kvs with
 | nil=>rfl
 | cons p kvs ih =>
  unfold uO at ih ⊢
  rw [List.find?_cons,List.map_cons]
  by_cases h:p.1=x
  ·simp [h]
  ·have h':¬ x=p.1:=fun z=>h z.symm
   simp only [h,decide_false]
   rw [ih]
   simp [h']
theorem zW (kvs:List (List Int×D)) (ks x:List Int) (d:D):x∈(jX kvs ks d).map (·.1)↔x=ks∨x∈kvs.map (·.1):=by
 unfold jX
 split
 ·rename_i c
  rw [zV] at c
  have hk:=of_decide_eq_true c
  have e:(kvs.map fun p=>if p.1=ks then (p.1,d) else p).map (·.1)=kvs.map (·.1):=by
   rw [List.map_map]
   refine List.map_congr_left fun p _=>?_
   show (if p.1=ks then (p.1,d) else p).1=p.1
   split <;> rfl
  rw [e]
  exact ⟨.inr,fun h=>h.elim (fun z=>z▸hk) id⟩
 ·rw [List.map_append,List.mem_append]
  simp [or_comm]
theorem xX (kvs:List (List Int×D)) (ks:List Int) (d:D):(jX kvs ks d).length<=kvs.length + 1:=by
 unfold jX
 split
 ·rw [List.length_map];omega
 ·simp
theorem adz {ρ:ak} {j:Nat} {kvs:List (List Int×D)} {ks:List Int} {v:D} {fe fk:ak->Rs D} (he:fe ρ=.ok v) (hj:ρ[j]?=some (.od kvs)) (hk:fk ρ=.ok (tupK ks)) (hl:kvs.length<=1000000):zK j fe fk ρ=.nx (ρ.set j (.od (jX kvs ks v))):=by
 unfold zK
 rw [he,hj]
 show oR (fk ρ) ρ _=_
 rw [hk]
 show (match zH (tupK ks) with|some ks=>if kvs.length<=1000000 then Ou.nx _ else .no|none=>.no)=_
 rw [Vc]
 show (if kvs.length<=1000000 then Ou.nx _ else .no)=_
 rw [if_pos hl]
def GK (kvs:List (List Int×D)):Prop:=∀ x∈kvs.map (·.1),Pair x
abbrev sh (k:KL) (b:Bool):D:=.tup [.tup (k.map tupK),.bl b]
structure GN (kvs:List (List Int×D)):Prop where
 pr:GK kvs
 nd:(kvs.map (·.1)).Nodup
theorem GN.put {kvs:List (List Int×D)} (h:GN kvs) (x y:Int) (d:D):GN (jX kvs [x,y] d):=by
 refine ⟨fun z hz=>?_,?_⟩
 ·rcases (zW kvs [x,y] z d).mp hz with rfl|h'
  ·exact ⟨x,y,rfl⟩
  ·exact h.pr z h'
 ·unfold jX
  split
  ·have e:(kvs.map fun p=>if p.1=[x,y] then (p.1,d) else p).map (·.1)=kvs.map (·.1):=by
    rw [List.map_map]
    refine List.map_congr_left fun p _=>?_
    show (if p.1=[x,y] then (p.1,d) else p).1=p.1
    split <;> rfl
   rw [e];exact h.nd
  ·rename_i c
   rw [List.map_append,List.nodup_append]
   refine ⟨h.nd,by simp,fun a ha b hb=>?_⟩
   simp only [List.map_cons,List.map_nil,List.mem_singleton] at hb
   subst hb
   rintro rfl
   rw [zV] at c
   exact c (decide_eq_true ha)
theorem GN.nil:GN []:=⟨fun _ h=>(by cases h),List.nodup_nil⟩
theorem Wd (p:List Int) (i:Int) (j:Nat) (hi:i=j) (hj:j < p.length):fj (tupK p) (.int i)=.ok (.int (p.getD j 0)):=by
 subst hi
 show fj (.tup (p.map D.int)) (.int j)=_
 rw [YX]
 unfold Am Es
 rw [if_pos (by omega),if_pos (by rw [List.length_map];omega)]
 simp only [Int.toNat_natCast,Option.bind_some,List.getElem?_map,List.getElem?_eq_getElem hj,Option.map_some,List.getD_eq_getElem?_getD,Option.getD_some]
theorem Ed:∀ a b:List Int,vD (a.map D.int) (b.map D.int)=decide (a=b)
 | [],[]=>rfl
 | [],_::_=>rfl
 | _::_,[]=>rfl
 | x::a,y::b=>by
  simp only [List.map_cons,vD,oZ,Ed a b]
  by_cases h:x=y <;> by_cases h2:a=b <;> simp [h,h2]
theorem Zd (a b:List Int):oZ (tupK a) (tupK b)=decide (a=b):=by
 unfold Vl.tupK;simp only [oZ];exact Ed a b
theorem akt (x:List Int) (k:KL):gIn (tupK x) (.tup (k.map tupK))=.ok (.bl (decide (x∈k))):=by
 have e:Vw (tupK x) (k.map tupK)=decide (x∈k):=by
  unfold Vw
  induction k with
  | nil=>simp
  | cons y k ih =>
   rw [List.map_cons,List.any_cons,ih,Zd]
   by_cases h:y=x
   ·subst h;simp
   ·by_cases h2:x∈k <;> simp [h,h2,Ne.symm h]
 show Ky false _ _=_
 simp only [Ky]
 rw [if_pos ⟨Nat.le_trans (Lf x) (by decide),Nat.le_trans (rD k) (by decide)⟩]
 simp only [Bool.false_eq_true,if_false,e]
theorem aio {f:ak->Rs D} {ρ:ak} {k:KL} (h:f ρ=.ok (.tup (k.map tupK))) (hl:k.length < 1000):fK f ρ=.ok (Tb.bO k):=by
 unfold fK
 rw [h]
 simp only [Le,Gk,Uk]
 rw [if_pos (by rw [List.length_map];exact hl)]
 rfl
theorem Lj {f:ak->Rs KL} {ρ:ak} {k:KL} (h:f ρ=.ok k) (hp:∀ x∈k,Pair x) (hl:k.length < 1000):lG f ρ=.ok (.lst ((So.bJ k).map tupK)):=by
 unfold lG
 rw [h]
 simp only [Le,vP]
 rw [if_pos ⟨fun x hx=>(hp x hx).ne,hl⟩]
theorem adA {C:KL->KL->Prop} [∀ a b,Decidable (C a b)] {g:KL->KL->KL} {fa fb:ak->Rs KL} {ρ:ak} {a b:KL} (ha:fa ρ=.ok a) (hb:fb ρ=.ok b) (hc:C a b):Vv (gK C g) fa fb ρ=.ok (g a b):=by
 unfold Vv gK;rw [ha];simp only [Le];rw [hb];simp only [Le];rw [if_pos hc]
theorem Lk {L:KL} {E:ak->Rs D} {F:List Int->D} {ρ:ak} {fi:ak->Rs (List D)} {caps:List Nat} {cs:List Sl} (hs:dH 1 caps ρ=.no::cs) (hi:fi ρ=.ok (L.map tupK)) (hp:∀ ks∈L,E (.fz (tupK ks)::cs)=.ok (F ks)) (hl:L.length<=1000) :
  jc (bI 0) (fun _=>.ok true) E 1 caps fi ρ=.ok (.lst (L.map F)):=by
 refine Xk hi ?_ (by rw [List.length_map];omega)
 rw [hs]
 exact vX (fun ρ=>∃ a,ρ=a::cs) tupK F ⟨_,rfl⟩ (by
  rintro ks hk ρ ⟨a,rfl⟩
  exact ⟨_,rfl,hp ks hk,_,rfl⟩)
def ad (p t:List Int):List Int:=[p.getD 0 0 + t.getD 0 0,p.getD 1 0 + t.getD 1 0]
def Gv (A:KL) (b:Bool) (x:List Int):Bool:=decide (x∈A) != b
theorem Sh (L:KL):Ao (.tup (L.map tupK)) (.tup [])=.ok (.bl (!decide (L=[]))):=by
 have hd:cL (.tup (L.map tupK))<=8:=by
  have:=rD L
  simp only [cL]
  omega
 rw [aeI hd (by decide)]
 cases L <;> rfl
def dfL (A:KL) (b:Bool) (L:KL):KL:=if b then Um (Tb.bO L) (Tb.bO A) else OJ (Tb.bO L) (Tb.bO A)
theorem abZ {A L:KL} {b:Bool} {x:List Int}:x∈dfL A b L↔x∈L/\Gv A b x=false:=by
 unfold dfL Gv
 cases b
 ·simp only [Bool.false_eq_true,if_false]
  rw [zG,iG,iG]
  simp
 ·simp only [if_true]
  rw [zF,iG,iG]
  simp
theorem Vd (L:KL):Dq (sh L false) (.tup [.tup [],.bl false])=.ok (.bl (decide (L=[]))):=by
 have hd:cL (sh L false)<=8:=by
  have:=rD L
  simp only [cL,cU]
  have e:(cU (List.map tupK L) + 1).max (Nat.max 0 0)=cU (List.map tupK L) + 1:=Nat.max_eq_left (Nat.zero_le _)
  omega
 rw [ajL hd (by decide)]
 cases L <;> rfl
theorem Ze (O:KL) (p:List Int):∀ z∈O.map (ad p),Pair z:=fun z hz=>by
 obtain ⟨t,_,rfl⟩:=List.mem_map.mp hz
 exact ⟨_,_,rfl⟩
end Vl
namespace K14
open PySem PySem.Spec PySem.Calls PySem.W L2 Vl
def Gw (i:Nat):Stmt:=PySem.Challenge.pw_edgemoss_k14_whole_and_clear.main.body.getD i (.Pass ⟨0,0,0,0⟩)
abbrev dZ:Stmt:=Gw 1
abbrev vY:Stmt:=Gw 4
abbrev jF:Stmt:=Gw 5
abbrev lZ:Stmt:=Gw 3
abbrev mR:Stmt:=Gw 6
abbrev vZ:Stmt:=Gw 8
abbrev iH:Stmt:=Gw 9
abbrev iI:Stmt:=Gw 10
abbrev eE:Stmt:=Gw 12
abbrev fZ:Stmt:=Gw 13
abbrev gj:Stmt:=Gw 14
abbrev gk:Stmt:=Gw 15
abbrev eF:Stmt:=Gw 16
abbrev iJ:Stmt:=Gw 17
abbrev gn:Stmt:=Gw 18
abbrev eG:Stmt:=Gw 19
abbrev gq:Stmt:=Gw 20
abbrev eH:Stmt:=Gw 21
abbrev mj:Stmt:=Gw 22
structure Txt (K:Frag) (mg:Str->Option Value) :Prop where
 Zf:mg "bool"=none
 Zg:mg "divmod"=none
 aip:mg "int"=none
 uU:mg "isinstance"=none
 Sq:mg "len"=none
 rE:mg "range"=none
 wO:mg "set"=none
 jZ:mg "sorted"=none
 kY:mg "tuple"=none
section
variable {P:Program} {w:World} {K:Frag} {mg:Str->Option Value} {base:Heap}
theorem Bc:bU ["cell","step"] ["cell","step"] (aD dZ):=⟨rfl,rfl,rfl,by decide +kernel,rfl,by decide +kernel,by decide +kernel⟩
def uV:ak->Ou :=
  lC (fA (au (bV cB (bV fj (aM 0) (fC (.int 0))) (bV fj (aM 1) (fC (.int 0)))) (au (bV cB (bV fj (aM 0) (fC (.int 1))) (bV fj (aM 1) (fC (.int 1)))) aX)) dD)
def jy:List D->Rs D:=fun ds=>fu (uV (bF ["cell","step"] ds))
theorem Bd (T:Txt K mg ) {f:Addr} {fd:FuncData} (F:wW K "cell_moved" "cell_moved" dZ f fd) (hm:mg "cell_moved"=some (.ref f)) :uE P w K mg base "cell_moved" 1 2 jy :=
 jN (k:=0) (g:=uV) F hm Bc (fun _ _ _ _ _ _ us hl=>match us,hl with|[_,_],_=>rfl) fun cdv A outer s H E B hr hx =>
  bB (dM (dJ (aj (gF (bW (sv 0) ao) (bW (sv 1) ao)) (aj (gF (bW (sv 0) ao) (bW (sv 1) ao)) aK))))
theorem acd:bU ["one","other"] ["one","other"] (aD vY):=⟨rfl,rfl,rfl,by decide +kernel,rfl,by decide +kernel,by decide +kernel⟩
def wg:ak->Ou :=
  cF (Je (Tv (fT (bV fj (aM 0) (fC (.int 1)))) (fT (bV fj (aM 1) (fC (.int 1))))) (lC (fA (au (fA (au (lG (Vv kOr (fK (bV fj (aM 0) (fC (.int 0)))) (fK (bV fj (aM 1) (fC (.int 0)))))) aX) fQ) (au (fC (.bl true)) aX)) dD)) Fo)
  (cF (Je (fT (bV fj (aM 0) (fC (.int 1)))) (lC (fA (au (fA (au (lG (Vv abA (fK (bV fj (aM 1) (fC (.int 0)))) (fK (bV fj (aM 0) (fC (.int 0)))))) aX) fQ) (au (fC (.bl false)) aX)) dD)) Fo)
  (cF (Je (fT (bV fj (aM 1) (fC (.int 1)))) (lC (fA (au (fA (au (lG (Vv abA (fK (bV fj (aM 0) (fC (.int 0)))) (fK (bV fj (aM 1) (fC (.int 0)))))) aX) fQ) (au (fC (.bl false)) aX)) dD)) Fo)
  (lC (fA (au (fA (au (lG (Vv ahG (fK (bV fj (aM 0) (fC (.int 0)))) (fK (bV fj (aM 1) (fC (.int 0)))))) aX) fQ) (au (fC (.bl false)) aX)) dD))))
def pZ:List D->Rs D:=fun ds=>fu (wg (bF ["one","other"] ds))
theorem ace (T:Txt K mg ) {f:Addr} {fd:FuncData} (F:wW K "both" "both" vY f fd) (hm:mg "both"=some (.ref f)) :uE P w K mg base "both" 1 2 pZ :=
 jN (k:=0) (g:=wg) F hm acd (fun _ _ _ _ _ _ us hl=>match us,hl with|[_,_],_=>rfl) fun cdv A outer s H E B hr hx =>
  aU (rM (aei (aeh (vH (bW (sv 0) ao)) (aay (vH (bW (sv 1) ao))))) (bB (dM (dJ (aj (jW T.kY (zE rfl T.jZ (ahH rfl (cO hr) (pR rfl (cO hr) T.wO (bW (sv 0) ao)) (pR rfl (cO hr) T.wO (bW (sv 1) ao))))) (aj jL aK))))) iz)
  (aU (rM (vH (bW (sv 0) ao)) (bB (dM (dJ (aj (jW T.kY (zM rfl T.jZ (Yz rfl (cO hr) (pR rfl (cO hr) T.wO (bW (sv 1) ao)) (pR rfl (cO hr) T.wO (bW (sv 0) ao))))) (aj jL aK))))) iz)
  (aU (rM (vH (bW (sv 1) ao)) (bB (dM (dJ (aj (jW T.kY (zM rfl T.jZ (Yz rfl (cO hr) (pR rfl (cO hr) T.wO (bW (sv 0) ao)) (pR rfl (cO hr) T.wO (bW (sv 1) ao))))) (aj jL aK))))) iz)
  (bB (dM (dJ (aj (jW T.kY (zE rfl T.jZ (afa rfl (cO hr) (pR rfl (cO hr) T.wO (bW (sv 0) ao)) (pR rfl (cO hr) T.wO (bW (sv 1) ao))))) (aj jL aK)))))))
theorem Pu:bU ["shape"] ["shape"] (aD jF):=⟨rfl,rfl,rfl,by decide +kernel,rfl,by decide +kernel,by decide +kernel⟩
def Ef:ak->Ou :=
  lC (fA (au (bV fj (aM 0) (fC (.int 0))) (au (Wt (bV fj (aM 0) (fC (.int 1)))) aX)) dD)
def jG:List D->Rs D:=fun ds=>fu (Ef (bF ["shape"] ds))
theorem Px (T:Txt K mg ) {f:Addr} {fd:FuncData} (F:wW K "outside" "outside" jF f fd) (hm:mg "outside"=some (.ref f)) :uE P w K mg base "outside" 1 1 jG :=
 jN (k:=0) (g:=Ef) F hm Pu (fun _ _ _ _ _ _ us hl=>match us,hl with|[_],_=>rfl) fun cdv A outer s H E B hr hx =>
  bB (dM (dJ (aj (bW (sv 0) ao) (aj (aej (bW (sv 0) ao)) aK))))
theorem Ve:bU ["one","other"] ["one","other"] (aD lZ):=⟨rfl,rfl,rfl,by decide +kernel,rfl,by decide +kernel,by decide +kernel⟩
def uW:ak->Ou :=
  lC (bV Dq (fA (au (aM 0) (au (fA (au (aM 1) aX) (cj 1 jG)) aX)) (cj 2 pZ)) (fA (au (fA aX dD) (au (fC (.bl false)) aX)) dD))
def kh:List D->Rs D:=fun ds=>fu (uW (bF ["one","other"] ds))
theorem Vf (T:Txt K mg ) {f:Addr} {fd:FuncData} (F:wW K "within" "within" lZ f fd) (hm:mg "within"=some (.ref f)) (Py:uE P w K mg base "both" 1 2 pZ) (jH:uE P w K mg base "outside" 1 1 jG):uE P w K mg base "within" 2 2 kh :=
 jN (k:=1) (g:=uW) F hm Ve (fun _ _ _ _ _ _ us hl=>match us,hl with|[_,_],_=>rfl) fun cdv A outer s H E B hr hx =>
  bB (dM (agU (cO hr) (dI Py (hr.mono (by decide)) hx (aj (sv 0) (aj (dI jH (hr.mono (by decide)) hx (aj (sv 1) aK)) aK))) (dJ (aj (dJ aK) (aj jL aK)))))
theorem Zh:bU ["shape","step"] ["shape","step"] (aD mR):=⟨rfl,rfl,rfl,by decide +kernel,rfl,by decide +kernel,by decide +kernel⟩
def Eh:ak->Rs D :=
  fA (au (aM 0) (au (aM 1) aX)) (cj 2 jy)
def xY:ak->Ou :=
  lC (fA (au (fA (au (jc (bI 0) (fun _=>.ok true) Eh 1 [1] (fL (bV fj (aM 0) (fC (.int 0))) asT)) aX) fQ) (au (bV fj (aM 0) (fC (.int 1))) aX)) dD)
def uX:List D->Rs D:=fun ds=>fu (xY (bF ["shape","step"] ds))
theorem Zi (T:Txt K mg ) {f:Addr} {fd:FuncData} (F:wW K "moved" "moved" mR f fd) (hm:mg "moved"=some (.ref f)) (mU:uE P w K mg base "cell_moved" 1 2 jy):uE P w K mg base "moved" 2 2 uX :=
 jN (k:=1) (g:=xY) F hm Zh (fun _ _ _ _ _ _ us hl=>match us,hl with|[_,_],_=>rfl) fun cdv A outer s H E B hr hx =>
  bB (dM (dJ (aj (jW T.kY (Rj (Fp (aD mR) ["shape","step"] (N:=["cell","step"]) (nt:=1) (caps:=[1]) (by decide +kernel)) rfl (by decide +kernel) (Xe (bW (sv 0) ao)) qX (fun s₀ H₀ C ex pins B1=>rg 0 (show List.Nodup (["cell","step"]:List Str) by decide)) (fun s₀ H₀ C ex pins B1=>dI mU (hr.mono (by decide)) qW (aj (sv 0) (aj (sv 1) aK))))) (aj (bW (sv 0) ao) aK))))
theorem acf:bU ["piece","cell"] ["piece","cell"] (aD vZ):=⟨rfl,rfl,rfl,by decide +kernel,rfl,by decide +kernel,by decide +kernel⟩
def Gx:ak->Ou :=
  lC (fA (au (fA (au (aM 0) (au (fC (.bl false)) aX)) dD) (au (aM 1) aX)) (cj 2 uX))
def sS:List D->Rs D:=fun ds=>fu (Gx (bF ["piece","cell"] ds))
theorem acg (T:Txt K mg ) {f:Addr} {fd:FuncData} (F:wW K "laid" "laid" vZ f fd) (hm:mg "laid"=some (.ref f)) (Gy:uE P w K mg base "moved" 2 2 uX):uE P w K mg base "laid" 3 2 sS :=
 jN (k:=2) (g:=Gx) F hm acf (fun _ _ _ _ _ _ us hl=>match us,hl with|[_,_],_=>rfl) fun cdv A outer s H E B hr hx =>
  bB (dM (dI Gy (hr.mono (by decide)) hx (aj (dJ (aj (sv 0) (aj jL aK))) (aj (sv 1) aK))))
theorem Ln:bU ["shape","piece","cell"] ["shape","piece","cell"] (aD iH):=⟨rfl,rfl,rfl,by decide +kernel,rfl,by decide +kernel,by decide +kernel⟩
def mV:ak->Ou :=
  lC (fA (au (fA (au (aM 1) (au (aM 2) aX)) (cj 2 sS)) (au (aM 0) aX)) (cj 2 kh))
def kj:List D->Rs D:=fun ds=>fu (mV (bF ["shape","piece","cell"] ds))
theorem Lp (T:Txt K mg ) {f:Addr} {fd:FuncData} (F:wW K "whole_at" "whole_at" iH f fd) (hm:mg "whole_at"=some (.ref f)) (mq:uE P w K mg base "within" 2 2 kh) (wj:uE P w K mg base "laid" 3 2 sS):uE P w K mg base "whole_at" 4 3 kj :=
 jN (k:=3) (g:=mV) F hm Ln (fun _ _ _ _ _ _ us hl=>match us,hl with|[_,_,_],_=>rfl) fun cdv A outer s H E B hr hx =>
  bB (dM (dI mq (hr.mono (by decide)) hx (aj (dI wj (hr.mono (by decide)) hx (aj (sv 1) (aj (sv 2) aK))) (aj (sv 0) aK))))
theorem Lq:bU ["shape","piece","cell"] ["shape","piece","cell"] (aD iI):=⟨rfl,rfl,rfl,by decide +kernel,rfl,by decide +kernel,by decide +kernel⟩
def mW:ak->Ou :=
  lC (fA (au (fA (au (aM 1) (au (aM 2) aX)) (cj 2 sS)) (au (fA (au (aM 0) aX) (cj 1 jG)) aX)) (cj 2 kh))
def kE:List D->Rs D:=fun ds=>fu (mW (bF ["shape","piece","cell"] ds))
theorem Ls (T:Txt K mg ) {f:Addr} {fd:FuncData} (F:wW K "clear_at" "clear_at" iI f fd) (hm:mg "clear_at"=some (.ref f)) (mq:uE P w K mg base "within" 2 2 kh) (jH:uE P w K mg base "outside" 1 1 jG) (wj:uE P w K mg base "laid" 3 2 sS):uE P w K mg base "clear_at" 4 3 kE :=
 jN (k:=3) (g:=mW) F hm Lq (fun _ _ _ _ _ _ us hl=>match us,hl with|[_,_,_],_=>rfl) fun cdv A outer s H E B hr hx =>
  bB (dM (dI mq (hr.mono (by decide)) hx (aj (dI wj (hr.mono (by decide)) hx (aj (sv 1) (aj (sv 2) aK))) (aj (dI jH (hr.mono (by decide)) hx (aj (sv 0) aK)) aK))))
theorem lJ:bU ["cell","k","part"] ["cell","k"] (aD eE):=⟨rfl,rfl,rfl,by decide +kernel,rfl,by decide +kernel,by decide +kernel⟩
def mX:ak->Ou :=
  cF (uD 2 (bV wY (bV jt (bV cB (bV cB (bV wY (aM 0) (fC (.int 1000000000000000009))) (bV jt (fC (.int 7919)) (aM 1))) (fC (.int 12345))) (fC (.int 48271))) (fC (.int 2305843009213693951))))
  (cF (uD 2 (bV wY (bV jt (aM 2) (aM 2)) (fC (.int 2305843009213693921))))
  (lC (bV Ww (bV wY (bV jt (bV cB (aM 2) (aM 1)) (fC (.int 69621))) (fC (.int 2305843009213693951))) (fC (.int 8)))))
def eN:List D->Rs D:=fun ds=>fu (mX (bF ["cell","k","part"] ds))
theorem Bf (T:Txt K mg ) {f:Addr} {fd:FuncData} (F:wW K "_law_mixed" "_law_mixed" eE f fd) (hm:mg "_law_mixed"=some (.ref f)) :uE P w K mg base "_law_mixed" 1 2 eN :=
 jN (k:=0) (g:=mX) F hm lJ (fun _ _ _ _ _ _ us hl=>match us,hl with|[_,_],_=>rfl) fun cdv A outer s H E B hr hx =>
  aU (pH 2 lJ.nd (yK (pC (gF (gF (yK (sv 0) ao) (pC ao (sv 1))) ao) ao) ao))
  (aU (pH 2 lJ.nd (yK (pC (sv 2) (sv 2)) ao))
  (bB (dM (aek (yK (pC (gF (sv 2) (sv 1)) ao) ao) ao))))
theorem jz:bU ["cell","great","k"] ["cell"] (aD fZ):=⟨rfl,rfl,rfl,by decide +kernel,rfl,by decide +kernel,by decide +kernel⟩
def jA:ak->Ou :=
  uD 1 (bV cB (bV jt (aM 1) (fC (.int 1152921504606846976))) (bV wY (fA (au (aM 0) (au (aM 2) aX)) (cj 2 eN)) (fC (.int 1152921504606846976))))
def gw:ak->Ou :=
  cF (Je (fT (bV gGe (aM 0) (bV Jr (fC (.int 10)) (fC (.int 18))))) (DY (au (bV iw (aM 0) (bV Jr (fC (.int 10)) (fC (.int 18)))) aX)) Fo)
  (cF (uD 1 (fC (.int 0)))
  (cF (xq (yM (bI 2) jA (fC (.int 24))))
  (DY (au (aM 1) aX))))
def gA:List D->Rs (List D):=fun ds=>ahQ (gw (bF ["cell","great","k"] ds))
theorem Gz (T:Txt K mg ) {f:Addr} {fd:FuncData} (F:wW K "_law_deal" "_law_deal" fZ f fd) (hm:mg "_law_deal"=some (.ref f)) (mY:uE P w K mg base "_law_mixed" 1 2 eN):Okf P w K mg base "_law_deal" 2 1 gA :=
 afo (k:=1) (g:=gw) F hm jz (fun _ _ _ _ _ _ us hl=>match us,hl with|[_],_=>rfl) fun cdv A outer s H E B hr hx =>
  aU (rM (agX (sv 0) (Wx ao ao)) (bB (RQ (aj (NP (sv 0) (Wx ao ao)) aK))) iz)
  (aU (pH 1 jz.nd ao)
  (aU (pI (Fe PassesOwn.never rfl T.rE ao (rg 2 jz.nd) (bB (pH 1 jz.nd (gF (pC (sv 1) ao) (yK (dI mY (hr.mono (by decide)) qW (aj (sv 0) (aj (sv 2) aK))) ao))))))
  (bB (RQ (aj (sv 1) aK)))))
theorem uY:bU ["left","many","digit"] ["left","many"] (aD gj):=⟨rfl,rfl,rfl,by decide +kernel,rfl,by decide +kernel,by decide +kernel⟩
def kZ:ak->Ou :=
  cF (Ld 0 2 (fA (au (YJ 0 (fC (.int 0))) (au (aM 1) aX)) gDm) (fC (.int 0)))
  (oW (xP (aM 2)))
def aC:List D->List D->Rs (D×List D):=fun es ds=>KZ (kZ (dh ["left","many","digit"] es ds))
theorem GC (T:Txt K mg ) {f:Addr} {fd:FuncData} (F:wW K "_law_next" "_law_next" gj f fd) (hm:mg "_law_next"=some (.ref f)) :Gq P w K mg base "_law_next" 1 1 aC :=
 vV (k:=0) (g:=kZ) F hm uY (fun _ _ _ _ _ _ us hl=>match us,hl with|[_,_],_=>rfl) fun cdv A outer s H E B hr hx =>
  aU (abP 0 2 rfl uY.nd (TJ T.Zg (afu 0 ao) (sv 1)) ao)
  (bB (mQ (dw (W:=WF) (sv 2))))
theorem GD:bU ["left","way","lead","spread"] ["left","way","lead","spread"] (aD gk):=⟨rfl,rfl,rfl,by decide +kernel,rfl,by decide +kernel,by decide +kernel⟩
def dX:ak->Ou :=
  cF (xIf (Uy (xPT (fT (bV Dq (aM 1) (fC (.int 3))))) (xT (iD Dq (xM 0 1 aC (jY (au (fC (.int 3)) aX))) (xP (fC (.int 0)))))) (oW (xA (cg (iD iw (xM 0 1 aC (jY (au (fC (.int 2000001)) aX))) (xP (fC (.int 1000000)))) (cg (iD fj (xP (fA (au (Xd (fC (.int 1000000))) (au (fC (.int 1000000)) aX)) Ey)) (xM 0 1 aC (jY (au (fC (.int 2)) aX)))) lH)) dD)) Fo)
  (cF (Je (fT (bV Dq (aM 1) (fC (.int 1)))) (oW (xA (cg (xP (fC (.int 0))) (cg (iD jt (iD iw (xM 0 1 aC (jY (au (fC (.int 13)) aX))) (xP (fC (.int 6)))) (xP (aM 3))) lH)) dD)) Fo)
  (oW (xA (cg (iD iw (iD cB (xP (bV fj (aM 2) (fC (.int 0)))) (xM 0 1 aC (jY (au (fC (.int 5)) aX)))) (xP (fC (.int 2)))) (cg (iD iw (iD cB (xP (bV fj (aM 2) (fC (.int 1)))) (xM 0 1 aC (jY (au (fC (.int 5)) aX)))) (xP (fC (.int 2)))) lH)) dD)))
def gB:List D->List D->Rs (D×List D):=fun es ds=>KZ (dX (dh ["left","way","lead","spread"] es ds))
theorem GF (T:Txt K mg ) {f:Addr} {fd:FuncData} (F:wW K "_law_step" "_law_step" gk f fd) (hm:mg "_law_step"=some (.ref f)) (aG:Gq P w K mg base "_law_next" 1 1 aC):Gq P w K mg base "_law_step" 2 3 gB :=
 vV (k:=1) (g:=dX) F hm GD (fun _ _ _ _ _ _ us hl=>match us,hl with|[_,_,_,_],_=>rfl) fun cdv A outer s H E B hr hx =>
  aU (YL (ahT (abJ (ahS (W:=WF) (Xa (cO hr) (sv 1) ao)) (YG (YT (cO hr) (aV 0 aG (hr.mono (by decide)) (cH (W:=WF) (aj ao aK))) (dw (W:=WF) ao))))) (bB (mQ (pX (bN (jk (aV 0 aG (hr.mono (by decide)) (cH (W:=WF) (aj ao aK))) (dw (W:=WF) ao)) (bN (Lb (dw (W:=WF) (yI (aj (aeC ao) (aj ao aK)))) (aV 0 aG (hr.mono (by decide)) (cH (W:=WF) (aj ao aK)))) fM))))) iz)
  (aU (rM (Xa (cO hr) (sv 1) ao) (bB (mQ (pX (bN (dw (W:=WF) ao) (bN (aft (jk (aV 0 aG (hr.mono (by decide)) (cH (W:=WF) (aj ao aK))) (dw (W:=WF) ao)) (dw (W:=WF) (sv 3))) fM))))) iz)
  (bB (mQ (pX (bN (jk (mO (dw (W:=WF) (bW (sv 2) ao)) (aV 0 aG (hr.mono (by decide)) (cH (W:=WF) (aj ao aK)))) (dw (W:=WF) ao)) (bN (jk (mO (dw (W:=WF) (bW (sv 2) ao)) (aV 0 aG (hr.mono (by decide)) (cH (W:=WF) (aj ao aK)))) (dw (W:=WF) ao)) fM))))))
theorem cM:bU ["left","way","many","spread","lead","steps","k"] ["left"] (aD eF):=⟨rfl,rfl,rfl,by decide +kernel,rfl,by decide +kernel,by decide +kernel⟩
def iQ:ak->Ou :=
  zQ 5 (fC (.bl true)) (xM 0 3 gB (jY (au (aM 1) (au (aM 4) (au (aM 3) aX)))))
def jB:ak->Ou :=
  cF (oY 1 (xM 0 1 aC (jY (au (fC (.int 4)) aX))))
  (cF (oY 2 (iD cB (xP (fC (.int 1))) (xM 0 1 aC (cg (iD fj (xP (fA (au (fC (.int 4)) (au (fC (.int 3)) (au (fC (.int 4)) (au (fC (.int 12)) aX)))) Ey)) (xM 0 1 aC (jY (au (fC (.int 4)) aX)))) lH))))
  (cF (oY 3 (iD fj (xP (fA (au (fC (.int 1)) (au (fC (.int 1)) (au (fC (.int 7)) (au (fC (.int 100003)) aX)))) Ey)) (xM 0 1 aC (jY (au (fC (.int 4)) aX)))))
  (cF (uD 4 (fA (au (fC (.int 0)) (au (fC (.int 0)) aX)) dD))
  (cF (Je (fT (bV Dq (aM 1) (fC (.int 2)))) (oY 4 (xA (cg (iD iw (xM 0 1 aC (jY (au (fC (.int 1999997)) aX))) (xP (fC (.int 999998)))) (cg (iD iw (xM 0 1 aC (jY (au (fC (.int 1999997)) aX))) (xP (fC (.int 999998)))) lH)) dD)) Fo)
  (cF (abw 5)
  (cF (xq (yM (bI 6) iQ (aM 2)))
  (oW (xP (fA (au (vU 5) aX) fQ)))))))))
def dB:List D->List D->Rs (D×List D):=fun es ds=>KZ (jB (dh ["left","way","many","spread","lead","steps","k"] es ds))
theorem Bg (T:Txt K mg ) {f:Addr} {fd:FuncData} (F:wW K "_law_piece" "_law_piece" eF f fd) (hm:mg "_law_piece"=some (.ref f)) (aG:Gq P w K mg base "_law_next" 1 1 aC) (qb:Gq P w K mg base "_law_step" 2 3 gB):Gq P w K mg base "_law_piece" 3 0 dB :=
 vV (k:=2) (g:=jB) F hm cM (fun _ _ _ _ _ _ us hl=>match us,hl with|[_],_=>rfl) fun cdv A outer s H E B hr hx =>
  aU (jl 1 cM.nd (aV 0 aG (hr.mono (by decide)) (cH (W:=WF) (aj ao aK))))
  (aU (jl 2 cM.nd (mO (dw (W:=WF) ao) (aV 0 aG (hr.mono (by decide)) (bN (Lb (dw (W:=WF) (yI (aj ao (aj ao (aj ao (aj ao aK)))))) (aV 0 aG (hr.mono (by decide)) (cH (W:=WF) (aj ao aK)))) fM))))
  (aU (jl 3 cM.nd (Lb (dw (W:=WF) (yI (aj ao (aj ao (aj ao (aj ao aK)))))) (aV 0 aG (hr.mono (by decide)) (cH (W:=WF) (aj ao aK)))))
  (aU (pH 4 cM.nd (dJ (aj ao (aj ao aK))))
  (aU (rM (Xa (cO hr) (sv 1) ao) (bB (jl 4 cM.nd (pX (bN (jk (aV 0 aG (hr.mono (by decide)) (cH (W:=WF) (aj ao aK))) (dw (W:=WF) ao)) (bN (jk (aV 0 aG (hr.mono (by decide)) (cH (W:=WF) (aj ao aK))) (dw (W:=WF) ao)) fM))))) iz)
  (aU (Pg 5 cM.nd)
  (aU (pI (Fe PassesOwn.never rfl T.rE (sv 2) (rg 6 cM.nd) (bB (RW 5 (cO hr) jL (aV 0 qb (hr.mono (by decide)) (cH (W:=WF) (aj (sv 1) (aj (sv 4) (aj (sv 3) aK)))))))))
  (bB (mQ (dw (W:=WF) (jW T.kY (KD 5 rfl T.jZ)))))))))))
theorem Pz:bU ["piece","cell"] ["piece","cell"] (aD iJ):=⟨rfl,rfl,rfl,by decide +kernel,rfl,by decide +kernel,by decide +kernel⟩
def sU:ak->Rs D :=
  fA (au (bV cB (bV fj (aM 2) (fC (.int 0))) (aM 0)) (au (bV cB (bV fj (aM 2) (fC (.int 1))) (aM 1)) aX)) dD
def rF:ak->Ou :=
  lC (jc (yL 2 (iY (bI 0) (iY (bI 1) Fb))) (fun _=>.ok true) sU 2 [1] (fL (aM 0) asT))
def eO:List D->Rs D:=fun ds=>fu (rF (bF ["piece","cell"] ds))
theorem PB (T:Txt K mg ) {f:Addr} {fd:FuncData} (F:wW K "_law_on" "_law_on" iJ f fd) (hm:mg "_law_on"=some (.ref f)) :uE P w K mg base "_law_on" 1 2 eO :=
 jN (k:=0) (g:=rF) F hm Pz (fun _ _ _ _ _ _ us hl=>match us,hl with|[_,_],_=>rfl) fun cdv A outer s H E B hr hx =>
  bB (dM (Rj (Fp (aD iJ) ["piece","cell"] (N:=["row","column","cell"]) (nt:=2) (caps:=[1]) (by decide +kernel)) rfl (by decide +kernel) (Xe (sv 0)) (Xg (Ds qX (Ds qX Xf))) (fun s₀ H₀ C ex pins B1=>NT rfl (lN (rg 0 (show List.Nodup (["row","column","cell"]:List Str) by decide)) (lN (rg 1 (show List.Nodup (["row","column","cell"]:List Str) by decide)) Fd))) (fun s₀ H₀ C ex pins B1=>dJ (aj (gF (bW (sv 2) ao) (sv 0)) (aj (gF (bW (sv 2) ao) (sv 1)) aK)))))
theorem uZ:bU ["left","far"] ["left"] (aD gn):=⟨rfl,rfl,rfl,by decide +kernel,rfl,by decide +kernel,by decide +kernel⟩
def jh:ak->Ou :=
  cF (xIf (xT (iD gGt (xM 0 1 aC (jY (au (fC (.int 3)) aX))) (xP (fC (.int 0))))) (oW (xP (fA (au (fC (.int 0)) (au (fC (.int 0)) aX)) dD))) Fo)
  (cF (uD 1 (fC (.int 999900000000)))
  (oW (xA (cg (iD iw (xM 0 1 aC (jY (au (bV cB (bV jt (fC (.int 2)) (aM 1)) (fC (.int 1))) aX))) (xP (aM 1))) (cg (iD iw (xM 0 1 aC (jY (au (bV cB (bV jt (fC (.int 2)) (aM 1)) (fC (.int 1))) aX))) (xP (aM 1))) lH)) dD)))
def gC:List D->List D->Rs (D×List D):=fun es ds=>KZ (jh (dh ["left","far"] es ds))
theorem GJ (T:Txt K mg ) {f:Addr} {fd:FuncData} (F:wW K "_law_lead" "_law_lead" gn f fd) (hm:mg "_law_lead"=some (.ref f)) (aG:Gq P w K mg base "_law_next" 1 1 aC):Gq P w K mg base "_law_lead" 2 0 gC :=
 vV (k:=1) (g:=jh) F hm uZ (fun _ _ _ _ _ _ us hl=>match us,hl with|[_],_=>rfl) fun cdv A outer s H E B hr hx =>
  aU (YL (afw (aV 0 aG (hr.mono (by decide)) (cH (W:=WF) (aj ao aK))) (dw (W:=WF) ao)) (bB (mQ (dw (W:=WF) (dJ (aj ao (aj ao aK)))))) iz)
  (aU (pH 1 uZ.nd ao)
  (bB (mQ (pX (bN (jk (aV 0 aG (hr.mono (by decide)) (cH (W:=WF) (aj (gF (pC ao (sv 1)) ao) aK))) (dw (W:=WF) (sv 1))) (bN (jk (aV 0 aG (hr.mono (by decide)) (cH (W:=WF) (aj (gF (pC ao (sv 1)) ao) aK))) (dw (W:=WF) (sv 1))) fM))))))
theorem cu:bU ["left","piece","lead","rest","cells","k","mark","cell","told"] ["left","piece","lead"] (aD eG):=⟨rfl,rfl,rfl,by decide +kernel,rfl,by decide +kernel,by decide +kernel⟩
def iR:ak->Ou :=
  zK 4 (fC (.bl true)) (aM 7)
def iT:ak->Ou :=
  cF (oY 6 (xA (cg (iD cB (xP (bV fj (aM 2) (fC (.int 0)))) (xM 0 1 aC (jY (au (fC (.int 4)) aX)))) (cg (iD cB (xP (bV fj (aM 2) (fC (.int 1)))) (xM 0 1 aC (jY (au (fC (.int 4)) aX)))) lH)) dD))
  (Jv (bI 7) iR (fA (au (aM 1) (au (aM 6) aX)) (cj 2 eO)))
def iU:ak->Ou :=
  zQ 4 (fC (.bl true)) (xA (cg (iD iw (iD cB (xP (bV fj (aM 2) (fC (.int 0)))) (xM 0 1 aC (jY (au (fC (.int 9)) aX)))) (xP (fC (.int 3)))) (cg (iD iw (iD cB (xP (bV fj (aM 2) (fC (.int 1)))) (xM 0 1 aC (jY (au (fC (.int 9)) aX)))) (xP (fC (.int 3)))) lH)) dD)
def iV:ak->Ou :=
  Je (fT (Ec Ao 8 (fA aX Ey))) (Eb 8 (xM 0 1 aC (jY (au (RN 8) aX)))) Fo
def jC:ak->Ou :=
  cF (oY 3 (iD Dq (xM 0 1 aC (jY (au (fC (.int 3)) aX))) (xP (fC (.int 0)))))
  (cF (abw 4)
  (cF (xq (Ea (bI 5) iT (xM 0 1 aC (jY (au (bV cB (fC (.int 3)) (bV jt (fC (.int 2)) (fA (au (bV gLt (fA (au (aM 1) aX) wZ) (fC (.int 7))) aX) Pa))) aX)))))
  (cF (xq (Ea (bI 5) iU (xM 0 1 aC (jY (au (fC (.int 6)) aX)))))
  (cF (zR 8 4)
  (cF (xq (Ea (bI 5) iV (xM 0 1 aC (jY (au (fC (.int 3)) aX)))))
  (abp 8 (oW (xP (fA (au (fA (au (aM 8) aX) fQ) (au (aM 3) aX)) dD)))))))))
def gO:List D->List D->Rs (D×List D):=fun es ds=>KZ (jC (dh ["left","piece","lead","rest","cells","k","mark","cell","told"] es ds))
theorem Bh (T:Txt K mg ) {f:Addr} {fd:FuncData} (F:wW K "_law_shape" "_law_shape" eG f fd) (hm:mg "_law_shape"=some (.ref f)) (aG:Gq P w K mg base "_law_next" 1 1 aC) (jJ:uE P w K mg base "_law_on" 1 2 eO):Gq P w K mg base "_law_shape" 2 2 gO :=
 vV (k:=1) (g:=jC) F hm cu (fun _ _ _ _ _ _ us hl=>match us,hl with|[_,_,_],_=>rfl) fun cdv A outer s H E B hr hx =>
  aU (jl 3 cu.nd (ahU (cO hr) (aV 0 aG (hr.mono (by decide)) (cH (W:=WF) (aj ao aK))) (dw (W:=WF) ao)))
  (aU (Pg 4 cu.nd)
  (aU (pI (Gr PassesOwn.never rfl T.rE (aV 0 aG (hr.mono (by decide)) (cH (W:=WF) (aj (gF ao (pC ao (afd T.aip (agW (NQ T.Sq (sv 1)) ao)))) aK))) (rg 5 cu.nd) (aU (jl 6 cu.nd (pX (bN (mO (dw (W:=WF) (bW (sv 2) ao)) (aV 0 aG (hr.mono (by decide)) (cH (W:=WF) (aj ao aK)))) (bN (mO (dw (W:=WF) (bW (sv 2) ao)) (aV 0 aG (hr.mono (by decide)) (cH (W:=WF) (aj ao aK)))) fM))))
  (bB (Rg PassesOwn.never rfl (dI jJ (hr.mono (by decide)) qW (aj (sv 1) (aj (sv 6) aK))) (rg 7 cu.nd) (bB (RL 4 (cO hr) jL (sv 7))))))))
  (aU (pI (Gr PassesOwn.never rfl T.rE (aV 0 aG (hr.mono (by decide)) (cH (W:=WF) (aj ao aK))) (rg 5 cu.nd) (bB (RW 4 (cO hr) jL (pX (bN (jk (mO (dw (W:=WF) (bW (sv 2) ao)) (aV 0 aG (hr.mono (by decide)) (cH (W:=WF) (aj ao aK)))) (dw (W:=WF) ao)) (bN (jk (mO (dw (W:=WF) (bW (sv 2) ao)) (aV 0 aG (hr.mono (by decide)) (cH (W:=WF) (aj ao aK)))) (dw (W:=WF) ao)) fM)))))))
  (aU (YM 8 4 rfl cu.nd T.jZ)
  (aU (pI (Gr PassesOwn.never rfl T.rE (aV 0 aG (hr.mono (by decide)) (cH (W:=WF) (aj ao aK))) (rg 5 cu.nd) (bB (rM (afx 8 (cO hr) (yI aK)) (bB (abO 8 (aV 0 aG (hr.mono (by decide)) (cH (W:=WF) (aj (abC 8 T.Sq) aK))))) iz))))
  (Yk 8 (bB (mQ (dw (W:=WF) (dJ (aj (jW T.kY (sv 8)) (aj (sv 3) aK))))))))))))
theorem eU:bU ["one","other","sums","row","column","further","beside"] ["one","other"] (aD gq):=⟨rfl,rfl,rfl,by decide +kernel,rfl,by decide +kernel,by decide +kernel⟩
def gP:ak->Ou :=
  zK 2 (fC (.bl true)) (fA (au (bV cB (aM 3) (aM 5)) (au (bV cB (aM 4) (aM 6)) aX)) dD)
def gQ:ak->Ou :=
  Jw (yL 2 (iY (bI 5) (iY (bI 6) Fb))) gP (aM 1)
def lg:ak->Ou :=
  cF (abw 2)
  (cF (xq (Jw (yL 2 (iY (bI 3) (iY (bI 4) Fb))) gQ (aM 0)))
  (lC (vU 2)))
def gD:List D->Rs D:=fun ds=>fu (lg (bF ["one","other","sums","row","column","further","beside"] ds))
theorem GP (T:Txt K mg ) {f:Addr} {fd:FuncData} (F:wW K "_law_sums" "_law_sums" gq f fd) (hm:mg "_law_sums"=some (.ref f)) :uE P w K mg base "_law_sums" 1 2 gD :=
 jN (k:=0) (g:=lg) F hm eU (fun _ _ _ _ _ _ us hl=>match us,hl with|[_,_],_=>rfl) fun cdv A outer s H E B hr hx =>
  aU (Pg 2 eU.nd)
  (aU (pI (Rh PassesOwn.never rfl (sv 0) (NT rfl (lN (rg 3 eU.nd) (lN (rg 4 eU.nd) Fd))) (bB (Rh PassesOwn.never rfl (sv 1) (NT rfl (lN (rg 5 eU.nd) (lN (rg 6 eU.nd) Fd))) (bB (RL 2 (cO hr) jL (dJ (aj (gF (sv 3) (sv 5)) (aj (gF (sv 4) (sv 6)) aK)))))))))
  (bB (dM (KD 2 rfl T.jZ))))
theorem fH:bU ["left","piece","shape","lead","spots","k","cell","step"] ["left","piece","shape","lead"] (aD eH):=⟨rfl,rfl,rfl,by decide +kernel,rfl,by decide +kernel,by decide +kernel⟩
def iW:ak->Ou :=
  cF (oY 6 (iD fj (xP (bV fj (aM 2) (fC (.int 0)))) (xM 0 1 aC (jY (au (fA (au (bV fj (aM 2) (fC (.int 0))) aX) wZ) aX)))))
  (cF (oY 7 (iD fj (xP (aM 1)) (xM 0 1 aC (jY (au (fA (au (aM 1) aX) wZ) aX)))))
  (abo 4 (fA (au (bV iw (bV fj (aM 6) (fC (.int 0))) (bV fj (aM 7) (fC (.int 0)))) (au (bV iw (bV fj (aM 6) (fC (.int 1))) (bV fj (aM 7) (fC (.int 1)))) aX)) dD)))
def gR:ak->Ou :=
  cF (YK 4 (cg (xP (aM 3)) (cg (xA (cg (iD iw (iD cB (xP (bV fj (aM 3) (fC (.int 0)))) (xM 0 1 aC (jY (au (fC (.int 9)) aX)))) (xP (fC (.int 4)))) (cg (iD iw (iD cB (xP (bV fj (aM 3) (fC (.int 1)))) (xM 0 1 aC (jY (au (fC (.int 9)) aX)))) (xP (fC (.int 4)))) lH)) dD) lH)))
  (cF (Je (fT (bV Ao (bV fj (aM 2) (fC (.int 0))) (fA aX dD))) (xq (yM (bI 5) iW (fC (.int 3)))) Fo)
  (abp 4 (oW (xP (aM 4)))))
def eV:List D->List D->Rs (D×List D):=fun es ds=>KZ (gR (dh ["left","piece","shape","lead","spots","k","cell","step"] es ds))
theorem Bj (T:Txt K mg ) {f:Addr} {fd:FuncData} (F:wW K "_law_spots" "_law_spots" eH f fd) (hm:mg "_law_spots"=some (.ref f)) (aG:Gq P w K mg base "_law_next" 1 1 aC):Gq P w K mg base "_law_spots" 2 3 eV :=
 vV (k:=1) (g:=gR) F hm fH (fun _ _ _ _ _ _ us hl=>match us,hl with|[_,_,_,_],_=>rfl) fun cdv A outer s H E B hr hx =>
  aU (afv 4 fH.nd (bN (dw (W:=WF) (sv 3)) (bN (pX (bN (jk (mO (dw (W:=WF) (bW (sv 3) ao)) (aV 0 aG (hr.mono (by decide)) (cH (W:=WF) (aj ao aK)))) (dw (W:=WF) ao)) (bN (jk (mO (dw (W:=WF) (bW (sv 3) ao)) (aV 0 aG (hr.mono (by decide)) (cH (W:=WF) (aj ao aK)))) (dw (W:=WF) ao)) fM))) fM)))
  (aU (rM (Xb (cO hr) (bW (sv 2) ao) (dJ aK)) (bB (pI (Fe PassesOwn.never rfl T.rE ao (rg 5 fH.nd) (aU (jl 6 fH.nd (Lb (dw (W:=WF) (bW (sv 2) ao)) (aV 0 aG (hr.mono (by decide)) (cH (W:=WF) (aj (NQ T.Sq (bW (sv 2) ao)) aK)))))
  (aU (jl 7 fH.nd (Lb (dw (W:=WF) (sv 1)) (aV 0 aG (hr.mono (by decide)) (cH (W:=WF) (aj (NQ T.Sq (sv 1)) aK)))))
  (bB (afb 4 (dJ (aj (NP (bW (sv 6) ao) (bW (sv 7) ao)) (aj (NP (bW (sv 6) ao) (bW (sv 7) ao)) aK)))))))))) iz)
  (Yk 4 (bB (mQ (dw (W:=WF) (sv 4))))))
theorem kI:bU ["script","cell","left","piece","lead","shape","spot","had","found"] ["script"] (aD mj):=⟨rfl,rfl,rfl,by decide +kernel,rfl,by decide +kernel,by decide +kernel⟩
def xZ:ak->Rs D :=
  bV Ao (bV gIn (aM 0) (bV fj (aM 1) (fC (.int 0)))) (bV fj (aM 1) (fC (.int 1)))
def yc:ak->Ou :=
  cF (uD 7 (jc (bI 0) (fun _=>.ok true) xZ 1 [5] (fL (fA (au (aM 3) (au (aM 6) aX)) (cj 2 eO)) asL)))
  (cF (uD 8 (fA (au (aM 5) (au (aM 3) (au (aM 6) aX))) (cj 3 kj)))
  (cF (Je (fOr (Nz (fT (fB (aM 8) (gIs .bool)))) (fT (bV Ao (aM 8) (bV Gn (fC (.bl false)) (aM 7))))) (lC (fC (.bl false))) Fo)
  (cF (uD 8 (fA (au (aM 5) (au (aM 3) (au (aM 6) aX))) (cj 3 kE)))
  (Je (fOr (Nz (fT (fB (aM 8) (gIs .bool)))) (fT (bV Ao (aM 8) (bV Gn (fC (.bl true)) (aM 7))))) (lC (fC (.bl false))) Fo))))
def yd:ak->Ou :=
  cF (La 2 1 gA (au (aM 1) aX))
  (cF (oY 3 (xM 2 0 dB (jY aX)))
  (cF (xIf (xT (iD Dq (xM 2 1 aC (jY (au (fC (.int 4)) aX))) (xP (fC (.int 0))))) (oY 3 (xA (cg (xA (cg (xP (aM 3)) (cg (YQ (xM 2 0 dB (jY aX)) aaB (fP (fC (.int 4)))) lH)) (cj 2 gD)) lH) fQ)) Fo)
  (cF (oY 4 (xM 2 0 gC (jY aX)))
  (cF (oY 5 (xM 2 2 gO (jY (au (aM 3) (au (aM 4) aX)))))
  (RV (bI 6) yc (xM 2 3 eV (jY (au (aM 3) (au (aM 5) (au (aM 4) aX))))))))))
def Ss:ak->Ou :=
  cF (xq (Jv (bI 1) yd (bV cB (fA (au (fC (.int 0)) aX) Ey) (aM 0))))
  (lC (fC (.bl true)))
def Sv:List D->Rs D:=fun ds=>fu (Ss (bF ["script","cell","left","piece","lead","shape","spot","had","found"] ds))
theorem aiq (T:Txt K mg ) {f:Addr} (qd:Okf P w K mg base "_law_deal" 2 1 gA) (jD:Gq P w K mg base "_law_piece" 3 0 dB) (aG:Gq P w K mg base "_law_next" 1 1 aC) (qe:uE P w K mg base "_law_sums" 1 2 gD) (qg:Gq P w K mg base "_law_lead" 2 0 gC) (mZ:Gq P w K mg base "_law_shape" 2 2 gO) (jJ:uE P w K mg base "_law_on" 1 2 eO) (sV:uE P w K mg base "whole_at" 4 3 kj) (sW:uE P w K mg base "clear_at" 4 3 kE) (ni:Gq P w K mg base "_law_spots" 2 3 eV) {cdv:Value} {A:Around} {outer:List Env} {s:Shared} {H:Hp} {E:XK} {B:Bs} (hr:ji 4 (A.deeper (PyProof.Rows.envOfC "law" (aD mj) s.heap.objs.size f cdv)))
  (hx:wJ (su (Dr P w K) P w K mg base ["script","cell","left","piece","lead","shape","spot","had","found"] "law" (aD mj) f cdv A outer s H E) (fun c n _ H'=>E (Ak c n) none H')) :
  vo (su (Dr P w K) P w K mg base ["script","cell","left","piece","lead","shape","spot","had","found"] "law" (aD mj) f cdv A outer s H E) B (fun c n _ H'=>E (Ak c n) none H') (bC mj) Ss :=
  aU (pI (Rg PassesOwn.never rfl (gF (yI (aj ao aK)) (sv 0)) (rg 1 kI.nd) (aU (abE 2 qd (hr.mono (by decide)) kI.nd (aj (sv 1) aK))
  (aU (jl 3 kI.nd (aV 2 jD (hr.mono (by decide)) (cH (W:=WF) aK)))
  (aU (YL (YT (cO hr) (aV 2 aG (hr.mono (by decide)) (cH (W:=WF) (aj ao aK))) (dw (W:=WF) ao)) (bB (jl 3 kI.nd (YW T.kY (abK qe (hr.mono (by decide)) (bN (dw (W:=WF) (sv 3)) (bN (UW (aV 2 jD (hr.mono (by decide)) (cH (W:=WF) aK)) aaC (aaD ao)) fM)))))) iz)
  (aU (jl 4 kI.nd (aV 2 qg (hr.mono (by decide)) (cH (W:=WF) aK)))
  (aU (jl 5 kI.nd (aV 2 mZ (hr.mono (by decide)) (cH (W:=WF) (aj (sv 3) (aj (sv 4) aK)))))
  (bB (abM PassesOwn.never rfl (aV 2 ni (hr.mono (by decide)) (cH (W:=WF) (aj (sv 3) (aj (sv 5) (aj (sv 4) aK))))) (rg 6 kI.nd) (aU (abq 7 kI.nd (Fp (aD mj) ["script","cell","left","piece","lead","shape","spot","had","found"] (N:=["there","shape"]) (nt:=1) (caps:=[5]) (by decide +kernel)) rfl (by decide +kernel) (aaP (dI jJ (hr.mono (by decide)) qW (aj (sv 3) (aj (sv 6) aK)))) qX (fun s₀ H₀ C ex pins B1=>rg 0 (show List.Nodup (["there","shape"]:List Str) by decide)) (fun s₀ H₀ C ex pins B1=>agV (cO hr) (ahJ (cO hr) (sv 0) (bW (sv 1) ao)) (bW (sv 1) ao)))
  (aU (pH 8 kI.nd (dI sV (hr.mono (by decide)) qW (aj (sv 5) (aj (sv 3) (aj (sv 6) aK)))))
  (aU (rM (aei (ada (Ws (vH (ade (t:=.bool) T.uU T.Zf (sv 8) PyProof.Rows.Boot.«bool»))) (Wr (Xb (cO hr) (sv 8) (Kz (cO hr) jL (sv 7)))))) (bB (dM jL)) iz)
  (aU (pH 8 kI.nd (dI sW (hr.mono (by decide)) qW (aj (sv 5) (aj (sv 3) (aj (sv 6) aK)))))
  (bB (rM (aei (ada (Ws (vH (ade (t:=.bool) T.uU T.Zf (sv 8) PyProof.Rows.Boot.«bool»))) (Wr (Xb (cO hr) (sv 8) (Kz (cO hr) jL (sv 7)))))) (bB (dM jL)) iz)))))))))))))))
  (bB (dM jL))
end
section
variable {l:OpenLaw} {w:World} {K:Frag} {h:Heap} {mg:Str->Option Value} {fa:Addr}
 {nq:Addr} {Bk Bl:Option Addr} {Bm:Array (Option Value)} {Bo Bp Bq Br rR Bt:Value}
 {f_both:Addr} {ach aci:Option Addr} {acj:Array (Option Value)} {acn aco acp acq Sw acr:Value}
 {wk:Addr} {PJ PK:Option Addr} {PL:Array (Option Value)} {PN PX Qa Qc zX Qd:Value}
 {zY:Addr} {Vg Vh:Option Addr} {Vi:Array (Option Value)} {Vj Vk Vm Vn Ei Vo:Value}
 {GQ:Addr} {Zj Zk:Option Addr} {Zm:Array (Option Value)} {Zn Zo Zq Zr Lw Zt:Value}
 {Qe:Addr} {acs acu:Option Addr} {acv:Array (Option Value)} {acw acy acz acA Sx acB:Value}
 {sZ:Addr} {Lx Ly:Option Addr} {Lz:Array (Option Value)} {LK LQ LR Ma wQ Mf:Value}
 {tu:Addr} {Mi Mj:Option Addr} {Ml:Array (Option Value)} {Mp Mq Mr Ms wR Mt:Value}
 {nu:Addr} {Bu Bv:Option Addr} {Bw:Array (Option Value)} {Bx BJ BK BL rT BP:Value}
 {qj:Addr} {GR GX:Option Addr} {GZ:Array (Option Value)} {Hf Hg Hh Hi vd Hj:Value}
 {ql:Addr} {Hl Ho:Option Addr} {Hq:Array (Option Value)} {Hr Hs Ht Hu vf Hv:Value}
 {qm:Addr} {Hw Hx:Option Addr} {Hy:Array (Option Value)} {Hz HB HD HF vg HJ:Value}
 {nC:Addr} {BR BW:Option Addr} {BX:Array (Option Value)} {BZ Ca Cd Ce rW Cg:Value}
 {wu:Addr} {Qf Qg:Option Addr} {Qh:Array (Option Value)} {Qi Qj Qk Ql zZ Qm:Value}
 {qp:Addr} {HN HS:Option Addr} {HW:Array (Option Value)} {HX HY Ia Ib vh Ie:Value}
 {nD:Addr} {Ci Cj:Option Addr} {Ck:Array (Option Value)} {Cm Cp Cq Cr rY Cu:Value}
 {qt:Addr} {Ig Ih:Option Addr} {Ii:Array (Option Value)} {Ij Ik Il Im vm Io:Value}
 {nF:Addr} {Cv Cw:Option Addr} {Cy:Array (Option Value)} {Cz CG CJ CK rZ CN:Value}
 {Zu:Addr} {afH Zv:Option Addr} {afI:Array (Option Value)} {afJ Zw Zx Zy Qn Zz:Value}
set_option maxHeartbeats 4000000 in
theorem all_mk (X:K.In h) (G:h.Ns mainGlobals mg) (hfa:mg "law"=some (.ref fa))
  (nG:nsIn K mainGlobals "cell_moved"=some (some (.ref nq)))
  (nH:K.lookup nq=some ⟨Bo,Bk,.func (fnOf "cell_moved" "cell_moved" (bK dZ) (bC dZ) (aD dZ) .none Bp Bq Br Bl rR Bt),Bm⟩)
  (nJ:codeIn K rR "cell_moved"=true)
  (nM:keepIn K (.ref nq)=true)
  (Qo:nsIn K mainGlobals "both"=some (some (.ref f_both)))
  (Qp:K.lookup f_both=some ⟨acn,ach,.func (fnOf "both" "both" (bK vY) (bC vY) (aD vY) .none aco acp acq aci Sw acr),acj⟩)
  (Qq:codeIn K Sw "both"=true)
  (Qs:keepIn K (.ref f_both)=true)
  (wA:nsIn K mainGlobals "outside"=some (some (.ref wk)))
  (wB:K.lookup wk=some ⟨PN,PJ,.func (fnOf "outside" "outside" (bK jF) (bC jF) (aD jF) .none PX Qa Qc PK zX Qd),PL⟩)
  (wC:codeIn K zX "outside"=true)
  (wD:keepIn K (.ref wk)=true)
  (Aa:nsIn K mainGlobals "within"=some (some (.ref zY)))
  (Ab:K.lookup zY=some ⟨Vj,Vg,.func (fnOf "within" "within" (bK lZ) (bC lZ) (aD lZ) .none Vk Vm Vn Vh Ei Vo),Vi⟩)
  (Ac:codeIn K Ei "within"=true)
  (Ad:keepIn K (.ref zY)=true)
  (Ip:nsIn K mainGlobals "moved"=some (some (.ref GQ)))
  (Ir:K.lookup GQ=some ⟨Zn,Zj,.func (fnOf "moved" "moved" (bK mR) (bC mR) (aD mR) .none Zo Zq Zr Zk Lw Zt),Zm⟩)
  (Iu:codeIn K Lw "moved"=true)
  (Iv:keepIn K (.ref GQ)=true)
  (Qt:nsIn K mainGlobals "laid"=some (some (.ref Qe)))
  (Qu:K.lookup Qe=some ⟨acw,acs,.func (fnOf "laid" "laid" (bK vZ) (bC vZ) (aD vZ) .none acy acz acA acu Sx acB),acv⟩)
  (Qv:codeIn K Sx "laid"=true)
  (Qw:keepIn K (.ref Qe)=true)
  (tD:nsIn K mainGlobals "whole_at"=some (some (.ref sZ)))
  (tE:K.lookup sZ=some ⟨LK,Lx,.func (fnOf "whole_at" "whole_at" (bK iH) (bC iH) (aD iH) .none LQ LR Ma Ly wQ Mf),Lz⟩)
  (tH:codeIn K wQ "whole_at"=true)
  (tL:keepIn K (.ref sZ)=true)
  (tM:nsIn K mainGlobals "clear_at"=some (some (.ref tu)))
  (tQ:K.lookup tu=some ⟨Mp,Mi,.func (fnOf "clear_at" "clear_at" (bK iI) (bC iI) (aD iI) .none Mq Mr Ms Mj wR Mt),Ml⟩)
  (tR:codeIn K wR "clear_at"=true)
  (tU:keepIn K (.ref tu)=true)
  (nP:nsIn K mainGlobals "_law_mixed"=some (some (.ref nu)))
  (nQ:K.lookup nu=some ⟨Bx,Bu,.func (fnOf "_law_mixed" "_law_mixed" (bK eE) (bC eE) (aD eE) .none BJ BK BL Bv rT BP),Bw⟩)
  (nR:codeIn K rT "_law_mixed"=true)
  (nT:keepIn K (.ref nu)=true)
  (qu:nsIn K mainGlobals "_law_deal"=some (some (.ref qj)))
  (qw:K.lookup qj=some ⟨Hf,GR,.func (fnOf "_law_deal" "_law_deal" (bK fZ) (bC fZ) (aD fZ) .none Hg Hh Hi GX vd Hj),GZ⟩)
  (qx:codeIn K vd "_law_deal"=true)
  (qy:keepIn K (.ref qj)=true)
  (qC:nsIn K mainGlobals "_law_next"=some (some (.ref ql)))
  (qD:K.lookup ql=some ⟨Hr,Hl,.func (fnOf "_law_next" "_law_next" (bK gj) (bC gj) (aD gj) .none Hs Ht Hu Ho vf Hv),Hq⟩)
  (qF:codeIn K vf "_law_next"=true)
  (qG:keepIn K (.ref ql)=true)
  (qH:nsIn K mainGlobals "_law_step"=some (some (.ref qm)))
  (qI:K.lookup qm=some ⟨Hz,Hw,.func (fnOf "_law_step" "_law_step" (bK gk) (bC gk) (aD gk) .none HB HD HF Hx vg HJ),Hy⟩)
  (qJ:codeIn K vg "_law_step"=true)
  (qK:keepIn K (.ref qm)=true)
  (nU:nsIn K mainGlobals "_law_piece"=some (some (.ref nC)))
  (nW:K.lookup nC=some ⟨BZ,BR,.func (fnOf "_law_piece" "_law_piece" (bK eF) (bC eF) (aD eF) .none Ca Cd Ce BW rW Cg),BX⟩)
  (nY:codeIn K rW "_law_piece"=true)
  (nZ:keepIn K (.ref nC)=true)
  (wF:nsIn K mainGlobals "_law_on"=some (some (.ref wu)))
  (wG:K.lookup wu=some ⟨Qi,Qf,.func (fnOf "_law_on" "_law_on" (bK iJ) (bC iJ) (aD iJ) .none Qj Qk Ql Qg zZ Qm),Qh⟩)
  (wH:codeIn K zZ "_law_on"=true)
  (wI:keepIn K (.ref wu)=true)
  (qL:nsIn K mainGlobals "_law_lead"=some (some (.ref qp)))
  (qM:K.lookup qp=some ⟨HX,HN,.func (fnOf "_law_lead" "_law_lead" (bK gn) (bC gn) (aD gn) .none HY Ia Ib HS vh Ie),HW⟩)
  (qN:codeIn K vh "_law_lead"=true)
  (qO:keepIn K (.ref qp)=true)
  (oh:nsIn K mainGlobals "_law_shape"=some (some (.ref nD)))
  (ou:K.lookup nD=some ⟨Cm,Ci,.func (fnOf "_law_shape" "_law_shape" (bK eG) (bC eG) (aD eG) .none Cp Cq Cr Cj rY Cu),Ck⟩)
  (oA:codeIn K rY "_law_shape"=true)
  (oE:keepIn K (.ref nD)=true)
  (qP:nsIn K mainGlobals "_law_sums"=some (some (.ref qt)))
  (qQ:K.lookup qt=some ⟨Ij,Ig,.func (fnOf "_law_sums" "_law_sums" (bK gq) (bC gq) (aD gq) .none Ik Il Im Ih vm Io),Ii⟩)
  (qR:codeIn K vm "_law_sums"=true)
  (qT:keepIn K (.ref qt)=true)
  (oF:nsIn K mainGlobals "_law_spots"=some (some (.ref nF)))
  (oG:K.lookup nF=some ⟨Cz,Cv,.func (fnOf "_law_spots" "_law_spots" (bK eH) (bC eH) (aD eH) .none CG CJ CK Cw rZ CN),Cy⟩)
  (oH:codeIn K rZ "_law_spots"=true)
  (oJ:keepIn K (.ref nF)=true)
  (ZC:nsIn K mainGlobals "law"=some (some (.ref Zu)))
  (ZD:K.lookup Zu=some ⟨afJ,afH,.func (fnOf "law" "law" (bK mj) (bC mj) (aD mj) .none Zw Zx Zy Zv Qn Zz),afI⟩)
  (ZF:codeIn K Qn "law"=true)
  (ZG:keepIn K (.ref Zu)=true)
  (Qx:nsIn K mainGlobals "bool"=some none)
  (Ae:nsIn K mainGlobals "divmod"=some none)
  (ZJ:nsIn K mainGlobals "int"=some none)
  (oK:nsIn K mainGlobals "isinstance"=some none)
  (ZK:nsIn K mainGlobals "len"=some none)
  (Iw:nsIn K mainGlobals "range"=some none)
  (ZL:nsIn K mainGlobals "set"=some none)
  (Af:nsIn K mainGlobals "sorted"=some none)
  (Iz:nsIn K mainGlobals "tuple"=some none) :
  ∃ fd:FuncData,(∀ (s:Shared) (v:Value),BindsTo s fd ⟨[v],[]⟩ [("script",v)])/\∀ base:Heap,K.In base->base.Ns mainGlobals mg->yC l.prog w K mg base (Dr l.prog w K) 5 fa fd ["script"] (spV K 1 Sv):=by
 have e:=hfa.symm.trans (mg_of X G ZC)
 cases e
 have T:Txt K mg :=⟨mg_none_of X G Qx,
  mg_none_of X G Ae,
  mg_none_of X G ZJ,
  mg_none_of X G oK,
  mg_none_of X G ZK,
  mg_none_of X G Iw,
  mg_none_of X G ZL,
  mg_none_of X G Af,
  mg_none_of X G Iz⟩
 have IK:=cX (st:=dZ) nH nJ nM
 have afK:=cX (st:=vY) Qp Qq Qs
 have Vp:=cX (st:=jF) wB wC wD
 have ZM:=cX (st:=lZ) Ab Ac Ad
 have acC:=cX (st:=mR) Ir Iu Iv
 have afL:=cX (st:=vZ) Qu Qv Qw
 have Qy:=cX (st:=iH) tE tH tL
 have Qz:=cX (st:=iI) tQ tR tU
 have IV:=cX (st:=eE) nQ nR nT
 have Mu:=cX (st:=fZ) qw qx qy
 have Mv:=cX (st:=gj) qD qF qG
 have Mw:=cX (st:=gk) qI qJ qK
 have IW:=cX (st:=eF) nW nY nZ
 have Vq:=cX (st:=iJ) wG wH wI
 have Mx:=cX (st:=gn) qM qN qO
 have Ja:=cX (st:=eG) ou oA oE
 have Mz:=cX (st:=gq) qQ qR qT
 have Jb:=cX (st:=eH) oG oH oJ
 have air:=cX (st:=mj) ZD ZF ZG
 refine ⟨fnOf "law" "law" (bK mj) (bC mj) (aD mj) .none Zw Zx Zy Zv Qn Zz,fun s v=>.of_eq rfl,fun base _ _=>?_⟩
 have mU:=Bd (P:=l.prog) (w:=w) (base:=base) T IK (mg_of X G nG)
 have Py:=ace (P:=l.prog) (w:=w) (base:=base) T afK (mg_of X G Qo)
 have jH:=Px (P:=l.prog) (w:=w) (base:=base) T Vp (mg_of X G wA)
 have mq:=Vf (P:=l.prog) (w:=w) (base:=base) T ZM (mg_of X G Aa) Py jH
 have Gy:=Zi (P:=l.prog) (w:=w) (base:=base) T acC (mg_of X G Ip) mU
 have wj:=acg (P:=l.prog) (w:=w) (base:=base) T afL (mg_of X G Qt) Gy
 have sV:=Lp (P:=l.prog) (w:=w) (base:=base) T Qy (mg_of X G tD) mq wj
 have sW:=Ls (P:=l.prog) (w:=w) (base:=base) T Qz (mg_of X G tM) mq jH wj
 have mY:=Bf (P:=l.prog) (w:=w) (base:=base) T IV (mg_of X G nP)
 have qd:=Gz (P:=l.prog) (w:=w) (base:=base) T Mu (mg_of X G qu) mY
 have aG:=GC (P:=l.prog) (w:=w) (base:=base) T Mv (mg_of X G qC)
 have qb:=GF (P:=l.prog) (w:=w) (base:=base) T Mw (mg_of X G qH) aG
 have jD:=Bg (P:=l.prog) (w:=w) (base:=base) T IW (mg_of X G nU) aG qb
 have jJ:=PB (P:=l.prog) (w:=w) (base:=base) T Vq (mg_of X G wF)
 have qg:=GJ (P:=l.prog) (w:=w) (base:=base) T Mx (mg_of X G qL) aG
 have mZ:=Bh (P:=l.prog) (w:=w) (base:=base) T Ja (mg_of X G oh) aG jJ
 have qe:=GP (P:=l.prog) (w:=w) (base:=base) T Mz (mg_of X G qP)
 have ni:=Bj (P:=l.prog) (w:=w) (base:=base) T Jb (mg_of X G oF) aG
 exact ahe air kI fun cdv A outer s H E B hr=>aiq T qd jD aG qe qg mZ jJ sV sW ni hr (uz qU rfl)
end
end K14
namespace K14
open PySem PySem.Spec PySem.Calls PySem.W L2 Vl
theorem ZP (m n:Int) (h:0 < n) (h2:n < 2 ^ 200):aC [.int m] [.int n]=.ok (.int (m % n),[.int (m / n)]):=by
 have run:kZ (dh ["left","many","digit"] [.int m] [.int n])=.rx (.int (m % n)) [.op [.int (m / n)],.fz (.int n),.fz (.int (m % n))]:=by
  unfold kZ
  exact bw (Zb (kO (aq (ain rfl rfl bR rfl) (aq (aJ rfl) aQ)) (ajJ ⟨h,h2⟩)) rfl rfl bR rfl) (jx (cT (aJ rfl)))
 unfold aC;rw [run];rfl
theorem xn {ρ:ak} {i:Nat} {z:Sl} {m n:Int} {fs:ak->Rs (List D)} (h0:ρ[i]?=some z) (l0:lent z=some [.int m]) (hf:fs ρ=.ok [.int n]) (h:0 < n) (h2:n < 2 ^ 200):xM i 1 aC (jY fs) ρ=.ok (.int (m % n),ρ.set i (fG z [.int (m / n)])) :=
 Li h0 l0 (zT hf) rfl h0 l0 (ZP m n h h2)
theorem Vr {c k A1 A2 A3 p A4 q A5 A6 A7:Int} (e1:wY (.int c) (.int 1000000000000000009)=.ok (.int A1)) (e2:jt (.int 7919) (.int k)=.ok (.int A2)) (e3:jt (.int (A1 + A2 + 12345)) (.int 48271)=.ok (.int A3)) (e4:wY (.int A3) (.int 2305843009213693951)=.ok (.int p))
  (e5:jt (.int p) (.int p)=.ok (.int A4)) (e6:wY (.int A4) (.int 2305843009213693921)=.ok (.int q)) (e7:jt (.int (q + k)) (.int 69621)=.ok (.int A5)) (e8:wY (.int A5) (.int 2305843009213693951)=.ok (.int A6)) (e9:Ww (.int A6) (.int 8)=.ok (.int A7)) :
  eN [.int c,.int k]=.ok (.int A7):=by
 unfold eN mX
 simp (config:={ decide:=false }) only [cF,ahV,ahW,ahX,akl,akm,Le,ahY,akn,ahZ,aia,aib,aic,aie,afz,uD,lC,ajF,Je,ajG,ajI,xq,Fo,ake,abo,abp,ajH,bV,aM,fC,fA,fB,au,aX,fT,Nz,Tv,fOr,agM,ajp,Wt,Xd,fL,fSl,fP,aaB,toB,toI,afy,dN,jq,aeF,ajK,aeG,aeH,afA,Gs,vW,afB,afC,afD,afE,Pn,aii,afF,ako,akp,akq,akr,aks,aij,jO,ahi,YX,aif,aik,ail,bI,yL,iY,Fb,bF,List.map_cons,List.map_nil,List.length_cons,List.length_nil,List.replicate,List.cons_append,List.nil_append,List.getElem?_cons_zero,List.getElem?_cons_succ,List.set_cons_zero,List.set_cons_succ,Nat.reduceAdd,Nat.reduceSub,Nat.reduceEqDiff,Nat.reduceLeDiff,Nat.zero_add,Option.bind_some,if_true,if_false,ite_true,ite_false,decide_true,decide_false,Bool.not_true,Bool.not_false,Bool.false_eq_true,reduceIte,reduceCtorEq,e1,e2,e3,e4,e5,e6,e7,e8,e9]
theorem acD (c:Int) (k:Nat) (hk:k < 24):∃ n:Int,eN [.int c,.int k]=.ok (.int n):=by
 have e1:=Jz (m:=c) (n:=1000000000000000009) (by decide)
 have e2:jt (.int 7919) (.int k)=.ok (.int (7919 * k)):=pY (by omega)
 have e3:jt (.int (c % 1000000000000000009 + 7919 * k + 12345)) (.int 48271)=.ok (.int ((c % 1000000000000000009 + 7919 * k + 12345) * 48271)):=pY (by decide)
 have e4:=Jz (m:=(c % 1000000000000000009 + 7919 * k + 12345) * 48271) (n:=2305843009213693951) (by decide)
 have b1:0<=(c % 1000000000000000009 + 7919 * k + 12345) * 48271 % 2305843009213693951:=Int.emod_nonneg _ (by decide)
 have b2:(c % 1000000000000000009 + 7919 * k + 12345) * 48271 % 2305843009213693951 < 2305843009213693951:=Int.emod_lt_of_pos _ (by decide)
 generalize (c % 1000000000000000009 + 7919 * k + 12345) * 48271 % 2305843009213693951=p at e4 b1 b2
 have e5:jt (.int p) (.int p)=.ok (.int (p * p)):=pY (by omega)
 have e6:=Jz (m:=p * p) (n:=2305843009213693921) (by decide)
 generalize p * p % 2305843009213693921=q at e6
 have e7:jt (.int (q + k)) (.int 69621)=.ok (.int ((q + k) * 69621)):=pY (by decide)
 have e8:=Jz (m:=(q + k) * 69621) (n:=2305843009213693951) (by decide)
 generalize (q + k) * 69621 % 2305843009213693951=u at e8
 exact ⟨_,Vr e1 e2 e3 e4 e5 e6 e7 e8 (ahg ⟨by decide,by decide⟩)⟩
theorem Vs (c:Int):∃ (n:Int) (a:Sl),yM (bI 2) jA (fC (.int 24)) [.fz (.int c),.fz (.int 0),.no]=.nx [.fz (.int c),.fz (.int n),a]:=by
 obtain ⟨ρ',e1,n,a,rfl⟩:=yR (h:=bI 2) (g:=jA) (fun ρ=>∃ (n:Int) (a:Sl),ρ=[.fz (.int c),.fz (.int n),a])
  (ds:=(List.range 24).map fun (i:Nat)=>.int i) (ρ:=[.fz (.int c),.fz (.int 0),.no]) ⟨_,_,rfl⟩ (by
   rintro d hd ρ ⟨n,a,rfl⟩
   obtain ⟨j,hj,rfl⟩:=List.mem_map.mp hd
   obtain ⟨x,hx⟩:=acD c j (List.mem_range.mp hj)
   refine ⟨_,_,rfl,?_,n * 1152921504606846976 + x % 1152921504606846976,.fz (.int j),rfl⟩
   unfold jA
   exact yQ (bH (bH (aJ rfl) bR (adh (.inr ⟨by decide,by decide⟩))) (bH (kO (aq (aJ rfl) (aq (aJ rfl) aQ)) (fU rfl hx)) bR (Jz (by decide))) dN))
 exact ⟨n,a,Oe (N:=24) bR (by decide) rfl e1⟩
theorem afM (c:Int):∃ m:Int,gA [.int c]=.ok [.int m]:=by
 have p1:Jr (.int 10) (.int 18)=.ok (.int (10 ^ Int.toNat 18)):=ahh ⟨by decide,by decide,by decide⟩
 generalize (10:Int) ^ Int.toNat 18=T at p1
 obtain ⟨n,a,e⟩:=Vs c
 cases h:decide (T<=c) with
 | true =>
  refine ⟨c - T,?_⟩
  have run:gw (bF ["cell","great","k"] [.int c])=.rl [.int (c - T)]:=by
   unfold gw
   have:Je (fT (bV gGe (aM 0) (bV Jr (fC (.int 10)) (fC (.int 18))))) (DY (au (bV iw (aM 0) (bV Jr (fC (.int 10)) (fC (.int 18)))) aX)) Fo (bF ["cell","great","k"] [.int c])=.rl [.int (c - T)]:=by
    refine vI (xr (bH (aJ rfl) (bH bR bR p1) (by rw [aeH,h]))) ?_
    unfold DY
    rw [aq (bH (aJ (d:=.int c) rfl) (bH bR bR p1) jq) aQ];rfl
   unfold cF;rw [this];rfl
  unfold gA;rw [run];rfl
 | false =>
  refine ⟨n,?_⟩
  have run:gw (bF ["cell","great","k"] [.int c])=.rl [.int n]:=by
   unfold gw
   refine bw (iB (xr (bH (aJ rfl) (bH bR bR p1) (by rw [aeH,h]))) oN) ?_
   refine bw (ρ1:=[.fz (.int c),.fz (.int 0),.no]) (yQ bR) ?_
   refine bw (wK e) ?_
   rfl
  unfold gA;rw [run];rfl
theorem Ej {m w lx ly:Int} {s:Sl}:∃ x y m':Int,oW (xA (cg (iD Vl.iw (iD cB (xP (bV fj (aM 2) (fC (.int 0)))) (xM 0 1 aC (jY (au (fC (.int 5)) aX)))) (xP (fC (.int 2)))) (cg (iD Vl.iw (iD cB (xP (bV fj (aM 2) (fC (.int 1)))) (xM 0 1 aC (jY (au (fC (.int 5)) aX)))) (xP (fC (.int 2)))) lH)) Vl.dD) [.op [.int m],.fz (.int w),.fz (tupK [lx,ly]),s]=.rx (tupK [x,y]) [.op [.int m'],.fz (.int w),.fz (tupK [lx,ly]),s] :=
 ⟨lx + m % 5 - 2,ly + m / 5 % 5 - 2,m / 5 / 5,jx (Bb (bZ (cI (cI (cT (bH (aJ rfl) bR rfl)) (xn rfl rfl (aq bR aQ) (by decide) (by decide)) dN) (cT bR) jq) (bZ (cI (cI (cT (bH (aJ rfl) bR rfl)) (xn rfl rfl (aq bR aQ) (by decide) (by decide)) dN) (cT bR) jq) jm)) (t2 _ _))⟩
theorem afN (m w lx ly sp:Int) (hs:-(2 ^ 64) < sp/\sp < 2 ^ 64):∃ x y m':Int,gB [.int m] [.int w,tupK [lx,ly],.int sp]=.ok (tupK [x,y],[.int m']):=by
 have CP:∀ {x y m':Int} {zs:List Sl},dX (dh ["left","way","lead","spread"] [.int m] [.int w,tupK [lx,ly],.int sp])=.rx (tupK [x,y]) (.op [.int m']::zs)->∃ x y m':Int,gB [.int m] [.int w,tupK [lx,ly],.int sp]=.ok (tupK [x,y],[.int m']):=fun {x y m' zs} h=>⟨x,y,m',by unfold gB;rw [h];rfl⟩
 cases h3:decide (w=3) with
 | true =>
  have w3:w=3:=of_decide_eq_true h3
  cases h0:decide (m % 3=0) with
  | true =>
   have ix:∃ z:Int,fj (.lst [.int (-1000000),.int 1000000]) (.int (m / 3 / 2000001 % 2))=.ok (.int z):=by
    rcases (show m / 3 / 2000001 % 2=0∨m / 3 / 2000001 % 2=1 by omega) with e|e <;> rw [e]
    ·exact ⟨_,rfl⟩
    ·exact ⟨_,rfl⟩
   obtain ⟨z,ix⟩:=ix
   refine CP (x:=m / 3 % 2000001 - 1000000) (y:=z) (m':=m / 3 / 2000001 / 2) (zs:=[.fz (.int w),.fz (tupK [lx,ly]),.fz (.int sp)]) ?_
   unfold dX
   refine Pq (Gu (ρ1:=[.op [.int (m / 3)],.fz (.int w),.fz (tupK [lx,ly]),.fz (.int sp)]) (Lh (RZ (xr (bH (aJ rfl) bR (by rw [jO,h3])))) (Va (cI (xn rfl rfl (aq bR aQ) (by decide) (by decide)) (cT bR) (by rw [jO,h0])))) ?_)
   exact jx (Bb (bZ (cI (xn rfl rfl (aq bR aQ) (by decide) (by decide)) (cT bR) jq) (bZ (cI (cT (kO (aq (ahf bR) (aq bR aQ)) (Dt (by simp)))) (xn rfl rfl (aq bR aQ) (by decide) (by decide)) ix) jm)) (t2 _ _))
  | false =>
   obtain ⟨x,y,m',e⟩:=Ej (m:=m / 3) (w:=w) (lx:=lx) (ly:=ly) (s:=.fz (.int sp))
   refine CP (x:=x) (y:=y) (m':=m') (zs:=[.fz (.int w),.fz (tupK [lx,ly]),.fz (.int sp)]) ?_
   unfold dX
   refine bw (uT (ρ1:=[.op [.int (m / 3)],.fz (.int w),.fz (tupK [lx,ly]),.fz (.int sp)]) (Lh (RZ (xr (bH (aJ rfl) bR (by rw [jO,h3])))) (Va (cI (xn rfl rfl (aq bR aQ) (by decide) (by decide)) (cT bR) (by rw [jO,h0])))) oN) ?_
   refine bw (iB (xr (bH (aJ rfl) bR (by rw [jO,w3];rfl))) oN) e
 | false =>
  cases h1:decide (w=1) with
  | true =>
   refine CP (x:=0) (y:=(m % 13 - 6) * sp) (m':=m / 13) (zs:=[.fz (.int w),.fz (tupK [lx,ly]),.fz (.int sp)]) ?_
   unfold dX
   refine bw (uT (ρ1:=[.op [.int m],.fz (.int w),.fz (tupK [lx,ly]),.fz (.int sp)]) (Lg (RZ (xr (bH (aJ rfl) bR (by rw [jO,h3]))))) oN) ?_
   refine Pq (vI (xr (bH (aJ rfl) bR (by rw [jO,h1]))) ?_)
   exact jx (Bb (bZ (cT bR) (bZ (cI (cI (xn rfl rfl (aq bR aQ) (by decide) (by decide)) (cT bR) jq) (cT (aJ rfl)) (pY hs)) jm)) (t2 _ _))
  | false =>
   obtain ⟨x,y,m',e⟩:=Ej (m:=m) (w:=w) (lx:=lx) (ly:=ly) (s:=.fz (.int sp))
   refine CP (x:=x) (y:=y) (m':=m') (zs:=[.fz (.int w),.fz (tupK [lx,ly]),.fz (.int sp)]) ?_
   unfold dX
   refine bw (uT (ρ1:=[.op [.int m],.fz (.int w),.fz (tupK [lx,ly]),.fz (.int sp)]) (Lg (RZ (xr (bH (aJ rfl) bR (by rw [jO,h3]))))) oN) ?_
   exact bw (iB (xr (bH (aJ rfl) bR (by rw [jO,h1]))) oN) e
theorem Ag {w mn lx ly sp:Int} (hs:-(2 ^ 64) < sp/\sp < 2 ^ 64):∀ (l:List Nat) (m:Int) (kvs:List (List Int×D)) (a6:Sl),GN kvs->kvs.length + l.length<=1000 ->
  ∃ (m':Int) (kvs':List (List Int×D)) (b6:Sl),cN (bI 6) iQ (l.map fun (i:Nat)=>.int i) [.op [.int m],.fz (.int w),.fz (.int mn),.fz (.int sp),.fz (tupK [lx,ly]),.od kvs,a6]=.nx [.op [.int m'],.fz (.int w),.fz (.int mn),.fz (.int sp),.fz (tupK [lx,ly]),.od kvs',b6]/\GN kvs'/\kvs'.length<=kvs.length + l.length/\(kvs≠[]∨l≠[]->kvs'≠[])
 | [],m,kvs,a6,g,_=>⟨m,kvs,a6,rfl,g,by simp,fun h=>h.elim id fun z=>(z rfl).elim⟩
 | i::l,m,kvs,a6,g,hl=>by
  simp only [List.length_cons] at hl
  obtain ⟨x,y,m1,e⟩:=afN m w lx ly sp hs
  have lp:=xX kvs [x,y] (.bl true)
  have hb:iQ [.op [.int m],.fz (.int w),.fz (.int mn),.fz (.int sp),.fz (tupK [lx,ly]),.od kvs,.fz (.int i)]=.nx [.op [.int m1],.fz (.int w),.fz (.int mn),.fz (.int sp),.fz (tupK [lx,ly]),.od (jX kvs [x,y] (.bl true)),.fz (.int i)]:=by
   unfold iQ
   exact Sd (ks:=[x,y]) (kvs:=kvs) rfl (Li rfl rfl (zT (aq (aJ rfl) (aq (aJ rfl) (aq (aJ rfl) aQ)))) rfl rfl rfl e) rfl bR (by omega) rfl
  obtain ⟨m2,k2,b6,e2,g2,l2,ne⟩:=Ag (w:=w) (mn:=mn) (lx:=lx) (ly:=ly) hs l m1 (jX kvs [x,y] (.bl true)) (.fz (.int i)) (g.put _ _ _) (by omega)
  refine ⟨m2,k2,b6,?_,g2,by simp only [List.length_cons];omega,fun _=>ne (.inl fun z=>?_)⟩
  ·simp only [List.map_cons,cN,bI,List.set_cons_succ,List.set_cons_zero,hb]
   exact e2
  ·have:=(zW kvs [x,y] [x,y] (.bl true)).mpr (.inl rfl)
   rw [z] at this;cases this
structure Ps (n:Nat) (L:KL):Prop where
 pr:∀ ks∈L,Pair ks
 nd:L.Nodup
 ex:∃ L0,L=So.bJ L0
 ne:L≠[]
 le:L.length<=n
theorem Sy {l:KL} (h:l.Nodup):(So.bJ l).Nodup:=(So.dg l).nodup_iff.mpr h
theorem ais {n:Nat} {kvs:List (List Int×D)} (g:GN kvs) (ne:kvs≠[]) (hl:kvs.length<=n):Ps n (So.bJ (kvs.map (·.1))) :=
 ⟨fun ks hk=>g.pr ks (lW.mp hk),Sy g.nd,⟨_,rfl⟩,fun z=>ne (by
  have:=congrArg List.length z
  rw [rC,List.length_map] at this
  exact List.length_eq_zero_iff.mp this),by rw [rC,List.length_map];exact hl⟩
theorem SJ (m:Int):∃ (m':Int) (L:KL),dB [.int m] []=.ok (.tup (L.map tupK),[.int m'])/\Ps 12 L:=by
 have w0:0<=m % 4:=Int.emod_nonneg _ (by decide)
 have ix:∃ z:Int,(0 < z/\z<=12)/\fj (.lst [.int 4,.int 3,.int 4,.int 12]) (.int (m / 4 % 4))=.ok (.int z):=by
  rcases (show m / 4 % 4=0∨m / 4 % 4=1∨m / 4 % 4=2∨m / 4 % 4=3 by omega) with e|e|e|e <;> rw [e]
  ·exact ⟨_,by decide,rfl⟩
  ·exact ⟨_,by decide,rfl⟩
  ·exact ⟨_,by decide,rfl⟩
  ·exact ⟨_,by decide,rfl⟩
 obtain ⟨z,⟨z0,z12⟩,ix⟩:=ix
 generalize hm1:m / 4 / 4 / z=m1
 have d0:0<=m / 4 / 4 % z:=Int.emod_nonneg _ (by omega)
 have d1:m / 4 / 4 % z < z:=Int.emod_lt_of_pos _ (by omega)
 generalize hM:m / 4 / 4 % z=M at d0 d1
 have ix2:∃ s:Int,(-(2 ^ 64) < s/\s < 2 ^ 64)/\fj (.lst [.int 1,.int 1,.int 7,.int 100003]) (.int (m1 % 4))=.ok (.int s):=by
  rcases (show m1 % 4=0∨m1 % 4=1∨m1 % 4=2∨m1 % 4=3 by omega) with e|e|e|e <;> rw [e]
  ·exact ⟨_,by decide,rfl⟩
  ·exact ⟨_,by decide,rfl⟩
  ·exact ⟨_,by decide,rfl⟩
  ·exact ⟨_,by decide,rfl⟩
 obtain ⟨s,hs,ix2⟩:=ix2
 generalize hw:m % 4=w at w0
 have lead:∃ (m2 lx ly:Int),Je (fT (bV Dq (aM 1) (fC (.int 2)))) (oY 4 (xA (cg (iD Vl.iw (xM 0 1 aC (jY (au (fC (.int 1999997)) aX))) (xP (fC (.int 999998)))) (cg (iD Vl.iw (xM 0 1 aC (jY (au (fC (.int 1999997)) aX))) (xP (fC (.int 999998)))) lH)) Vl.dD)) Fo
   [.op [.int (m1 / 4)],.fz (.int w),.fz (.int (1 + M)),.fz (.int s),.fz (tupK [0,0]),.no,.no]=.nx [.op [.int m2],.fz (.int w),.fz (.int (1 + M)),.fz (.int s),.fz (tupK [lx,ly]),.no,.no]:=by
  cases h:decide (w=2) with
  | false=>exact ⟨m1 / 4,0,0,iB (xr (bH (aJ rfl) bR (by rw [jO,h]))) oN⟩
  | true=>exact ⟨m1 / 4 / 1999997 / 1999997,m1 / 4 % 1999997 - 999998,m1 / 4 / 1999997 % 1999997 - 999998,vI (xr (bH (aJ rfl) bR (by rw [jO,h]))) (fO (Bb (bZ (cI (xn rfl rfl (aq bR aQ) (by decide) (by decide)) (cT bR) jq) (bZ (cI (xn rfl rfl (aq bR aQ) (by decide) (by decide)) (cT bR) jq) jm)) (t2 _ _)) rfl)⟩
 obtain ⟨m2,lx,ly,el⟩:=lead
 obtain ⟨M',rfl⟩:∃ M':Nat,M=M':=⟨M.toNat,by omega⟩
 obtain ⟨m3,kvs,b6,e,g,l,ne⟩:=Ag (w:=w) (mn:=1 + (M':Int)) (lx:=lx) (ly:=ly) hs (List.range (1 + M')) m2 [] .no .nil (by rw [List.length_range];simp only [List.length_nil];omega)
 rw [List.length_range,List.length_nil] at l
 have nn:kvs≠[]:=ne (.inr (by intro z;have:=congrArg List.length z;rw [List.length_range] at this;simp at this))
 refine ⟨m3,_,?_,ais g nn (by omega)⟩
 have run:jB (dh ["left","way","many","spread","lead","steps","k"] [.int m] [])=.rx (.tup ((So.bJ (kvs.map (·.1))).map tupK)) [.op [.int m3],.fz (.int w),.fz (.int (1 + M')),.fz (.int s),.fz (tupK [lx,ly]),.od kvs,b6]:=by
  unfold jB
  refine bw (ρ1:=[.op [.int (m / 4)],.fz (.int w),.no,.no,.no,.no,.no]) (by rw [<- hw];exact fO (xn rfl rfl (aq bR aQ) (by decide) (by decide)) rfl) ?_
  refine bw (ρ1:=[.op [.int m1],.fz (.int w),.fz (.int (1 + M')),.no,.no,.no,.no]) (by
   rw [<- hM,<- hm1]
   exact fO (cI (cT bR) (Li rfl rfl (bZ (cI (cT (kO (aq bR (aq bR (aq bR (aq bR aQ)))) (Dt (by simp)))) (xn rfl rfl (aq bR aQ) (by decide) (by decide)) ix) jm) rfl rfl rfl (ZP _ z z0 (by omega))) dN) rfl) ?_
  refine bw (ρ1:=[.op [.int (m1 / 4)],.fz (.int w),.fz (.int (1 + M')),.fz (.int s),.no,.no,.no]) (fO (cI (cT (kO (aq bR (aq bR (aq bR (aq bR aQ)))) (Dt (by simp)))) (xn rfl rfl (aq bR aQ) (by decide) (by decide)) ix2) rfl) ?_
  refine bw (ρ1:=[.op [.int (m1 / 4)],.fz (.int w),.fz (.int (1 + M')),.fz (.int s),.fz (tupK [0,0]),.no,.no]) (yQ (kO (aq bR (aq bR aQ)) (t2 _ _))) ?_
  refine bw el ?_
  refine bw (ρ1:=[.op [.int m2],.fz (.int w),.fz (.int (1 + M')),.fz (.int s),.fz (tupK [lx,ly]),.od [],.no]) rfl ?_
  refine bw (wK (Oe (n:=1 + (M':Int)) (N:=1 + M') (aJ rfl) (by omega) (by omega) e)) ?_
  exact jx (cT (kO (aq (Sg rfl (by omega) g.pr) aQ) rfl))
 unfold dB;rw [run];rfl
end K14
namespace K14
open PySem PySem.Spec PySem.Calls PySem.W L2 Vl
theorem adB {O:KL} (hp:∀ ks∈O,Pair ks) (hl:O.length<=1000) (x y:Int):eO [.tup (O.map tupK),tupK [x,y]]=.ok (.lst ((O.map (ad [x,y])).map tupK)):=by
 have c1:jc (yL 2 (iY (bI 0) (iY (bI 1) Fb))) (fun _=>.ok true) sU 2 [1] (fL (aM 0) asT) (bF ["piece","cell"] [.tup (O.map tupK),tupK [x,y]])=.ok (.lst ((O.map (ad [x,y])).map tupK)):=by
  rw [List.map_map]
  refine Xk (ds:=O.map tupK) rfl ?_ (by rw [List.length_map];omega)
  exact vX (fun ρ=>∃ a b,ρ=[a,b,.fz (tupK [x,y])]) tupK _ ⟨_,_,rfl⟩ (by
   rintro ks hk ρ ⟨a,b,rfl⟩
   obtain ⟨r,c,rfl⟩:=hp ks hk
   refine ⟨[.fz (.int r),.fz (.int c),.fz (tupK [x,y])],rfl,?_,_,_,rfl⟩
   unfold sU
   exact kO (aq (bH (bH (aJ rfl) bR rfl) (aJ rfl) dN) (aq (bH (bH (aJ rfl) bR rfl) (aJ rfl) dN) aQ)) (t2 _ _))
 have run:rF (bF ["piece","cell"] [.tup (O.map tupK),tupK [x,y]])=.rt (.lst ((O.map (ad [x,y])).map tupK)):=by
  unfold rF
  exact rN c1
 unfold eO;rw [run];rfl
theorem afO (m:Int):∃ x y m':Int,gC [.int m] []=.ok (tupK [x,y],[.int m']):=by
 have e2:jt (.int 2) (.int 999900000000)=.ok (.int 1999800000000):=by rw [pY (by decide)];exact congrArg (fun z=>Rs.ok (D.int z)) (by decide)
 have CP:∀ {x y m':Int} {zs:List Sl},jh (dh ["left","far"] [.int m] [])=.rx (tupK [x,y]) (.op [.int m']::zs)->∃ x y m':Int,gC [.int m] []=.ok (tupK [x,y],[.int m']):=fun {x y m' zs} h=>⟨x,y,m',by unfold gC;rw [h];rfl⟩
 cases h:decide (0 < m % 3) with
 | true =>
  refine CP (x:=0) (y:=0) (m':=m / 3) (zs:=[.no]) ?_
  unfold jh
  refine Pq (Gu (ρ1:=[.op [.int (m / 3)],.no]) (Va (cI (xn rfl rfl (aq bR aQ) (by decide) (by decide)) (cT bR) (by rw [aeG,h]))) ?_)
  exact jx (cT (kO (aq bR (aq bR aQ)) (t2 _ _)))
 | false =>
  refine CP (x:=m / 3 % 1999800000001 - 999900000000) (y:=m / 3 / 1999800000001 % 1999800000001 - 999900000000) (m':=m / 3 / 1999800000001 / 1999800000001) (zs:=[.fz (.int 999900000000)]) ?_
  unfold jh
  refine bw (uT (ρ1:=[.op [.int (m / 3)],.no]) (Va (cI (xn rfl rfl (aq bR aQ) (by decide) (by decide)) (cT bR) (by rw [aeG,h]))) oN) ?_
  refine bw (ρ1:=[.op [.int (m / 3)],.fz (.int 999900000000)]) (yQ bR) ?_
  refine abU (Bb (bZ (cI (xn rfl rfl (aq (bH (bH bR (aJ rfl) e2) bR dN) aQ) (by decide) (by decide)) (cT (aJ rfl)) jq) (bZ (cI (xn rfl rfl (aq (bH (bH bR (aJ rfl) e2) bR dN) aQ) (by decide) (by decide)) (cT (aJ rfl)) jq) jm)) (t2 _ _)) rfl
theorem MF {z0 z1 z2 z3 z5 z6 z8:Sl}:∀ (L:KL) (kvs:List (List Int×D)) (a7:Sl),(∀ ks∈L,Pair ks)->GN kvs->kvs.length + L.length<=1000 ->
  ∃ kvs' b7,cN (bI 7) iR (L.map tupK) [z0,z1,z2,z3,.od kvs,z5,z6,a7,z8]=.nx [z0,z1,z2,z3,.od kvs',z5,z6,b7,z8]/\GN kvs'/\kvs'.length<=kvs.length + L.length
 | [],kvs,a7,_,g,_=>⟨kvs,a7,rfl,g,by simp⟩
 | s::L,kvs,a7,hp,g,hl=>by
  simp only [List.length_cons] at hl
  obtain ⟨x,y,rfl⟩:=hp s (.head _)
  have lp:=xX kvs [x,y] (.bl true)
  have hb:iR [z0,z1,z2,z3,.od kvs,z5,z6,.fz (tupK [x,y]),z8]=.nx [z0,z1,z2,z3,.od (jX kvs [x,y] (.bl true)),z5,z6,.fz (tupK [x,y]),z8]:=by
   unfold iR
   exact adz (ks:=[x,y]) bR rfl (aJ rfl) (by omega)
  obtain ⟨k2,b7,e2,g2,l2⟩:=MF L (jX kvs [x,y] (.bl true)) (.fz (tupK [x,y])) (fun z hz=>hp z (.tail _ hz)) (g.put _ _ _) (by omega)
  refine ⟨k2,b7,?_,g2,by simp only [List.length_cons];omega⟩
  simp only [List.map_cons,cN,bI,List.set_cons_succ,List.set_cons_zero,hb]
  exact e2
theorem MJ {O:KL} {N:Nat} (hp:∀ ks∈O,Pair ks) (hO:O.length<=N) (hN:N<=48) {lx ly:Int} {z3 z8:Sl}:∀ (l:List Nat) (m:Int) (kvs:List (List Int×D)) (a5 a6 a7:Sl),GN kvs->kvs.length + l.length * N<=1000 ->
  ∃ m' kvs' b5 b6 b7,cN (bI 5) iT (l.map fun (i:Nat)=>.int i) [.op [.int m],.fz (.tup (O.map tupK)),.fz (tupK [lx,ly]),z3,.od kvs,a5,a6,a7,z8]=.nx [.op [.int m'],.fz (.tup (O.map tupK)),.fz (tupK [lx,ly]),z3,.od kvs',b5,b6,b7,z8]/\GN kvs'/\kvs'.length<=kvs.length + l.length * N
 | [],m,kvs,a5,a6,a7,g,_=>⟨m,kvs,a5,a6,a7,rfl,g,by simp⟩
 | i::l,m,kvs,a5,a6,a7,g,hl=>by
  simp only [List.length_cons,Nat.add_mul,Nat.one_mul] at hl
  obtain ⟨k1,b7,e1,g1,l1⟩:=MF (z0:=.op [.int (m / 4 / 4)]) (z1:=.fz (.tup (O.map tupK))) (z2:=.fz (tupK [lx,ly])) (z3:=z3) (z5:=.fz (.int i)) (z6:=.fz (tupK [lx + m % 4,ly + m / 4 % 4])) (z8:=z8) (O.map (ad [lx + m % 4,ly + m / 4 % 4])) kvs a7 (Ze O _) g (by rw [List.length_map];omega)
  rw [List.length_map] at l1
  have hb:iT [.op [.int m],.fz (.tup (O.map tupK)),.fz (tupK [lx,ly]),z3,.od kvs,.fz (.int i),a6,a7,z8]=.nx [.op [.int (m / 4 / 4)],.fz (.tup (O.map tupK)),.fz (tupK [lx,ly]),z3,.od k1,.fz (.int i),.fz (tupK [lx + m % 4,ly + m / 4 % 4]),b7,z8]:=by
   unfold iT
   refine bw (ρ1:=[.op [.int (m / 4 / 4)],.fz (.tup (O.map tupK)),.fz (tupK [lx,ly]),z3,.od kvs,.fz (.int i),.fz (tupK [lx + m % 4,ly + m / 4 % 4]),a7,z8]) (fO (Bb (bZ (cI (cT (bH (aJ rfl) bR rfl)) (xn rfl rfl (aq bR aQ) (by decide) (by decide)) dN) (bZ (cI (cT (bH (aJ rfl) bR rfl)) (xn rfl rfl (aq bR aQ) (by decide) (by decide)) dN) jm)) (t2 _ _)) rfl) ?_
   exact Xi (kO (aq (aJ rfl) (aq (aJ rfl) aQ)) (fU rfl (adB hp (by omega) _ _))) e1
  obtain ⟨m2,k2,b5,b6,c7,e2,g2,l2⟩:=MJ hp hO hN (lx:=lx) (ly:=ly) (z3:=z3) (z8:=z8) l (m / 4 / 4) k1 (.fz (.int i)) (.fz (tupK [lx + m % 4,ly + m / 4 % 4])) b7 g1 (by omega)
  refine ⟨m2,k2,b5,b6,c7,?_,g2,by simp only [List.length_cons,Nat.add_mul,Nat.one_mul];omega⟩
  simp only [List.map_cons,cN,bI,List.set_cons_succ,List.set_cons_zero,hb]
  exact e2
theorem MK {lx ly:Int} {z1 z3 z6 z7 z8:Sl}:∀ (l:List Nat) (m:Int) (kvs:List (List Int×D)) (a5:Sl),GN kvs->kvs.length + l.length<=1000 ->
  ∃ m' kvs' b5,cN (bI 5) iU (l.map fun (i:Nat)=>.int i) [.op [.int m],z1,.fz (tupK [lx,ly]),z3,.od kvs,a5,z6,z7,z8]=.nx [.op [.int m'],z1,.fz (tupK [lx,ly]),z3,.od kvs',b5,z6,z7,z8]/\GN kvs'/\kvs'.length<=kvs.length + l.length
 | [],m,kvs,a5,g,_=>⟨m,kvs,a5,rfl,g,by simp⟩
 | i::l,m,kvs,a5,g,hl=>by
  simp only [List.length_cons] at hl
  have lp:=xX kvs [lx + m % 9 - 3,ly + m / 9 % 9 - 3] (.bl true)
  have hb:iU [.op [.int m],z1,.fz (tupK [lx,ly]),z3,.od kvs,.fz (.int i),z6,z7,z8]=.nx [.op [.int (m / 9 / 9)],z1,.fz (tupK [lx,ly]),z3,.od (jX kvs [lx + m % 9 - 3,ly + m / 9 % 9 - 3] (.bl true)),.fz (.int i),z6,z7,z8]:=by
   unfold iU
   exact Sd (ks:=[lx + m % 9 - 3,ly + m / 9 % 9 - 3]) (kvs:=kvs) rfl (Bb (bZ (cI (cI (cT (bH (aJ rfl) bR rfl)) (xn rfl rfl (aq bR aQ) (by decide) (by decide)) dN) (cT bR) jq) (bZ (cI (cI (cT (bH (aJ rfl) bR rfl)) (xn rfl rfl (aq bR aQ) (by decide) (by decide)) dN) (cT bR) jq) jm)) (t2 _ _)) rfl bR (by omega) rfl
  obtain ⟨m2,k2,b5,e2,g2,l2⟩:=MK (lx:=lx) (ly:=ly) (z1:=z1) (z3:=z3) (z6:=z6) (z7:=z7) (z8:=z8) l (m / 9 / 9) (jX kvs [lx + m % 9 - 3,ly + m / 9 % 9 - 3] (.bl true)) (.fz (.int i)) (g.put _ _ _) (by omega)
  refine ⟨m2,k2,b5,?_,g2,by simp only [List.length_cons];omega⟩
  simp only [List.map_cons,cN,bI,List.set_cons_succ,List.set_cons_zero,hb]
  exact e2
theorem SM (L:KL):Ao (.lst (L.map tupK)) (.lst [])=.ok (.bl (!decide (L=[]))):=by
 have hd:cL (.lst (L.map tupK))<=8:=by
  have:=rD L
  simp only [cL]
  omega
 rw [aeI hd (by decide)]
 cases L <;> rfl
theorem rB {α β:Type} (f:α->β):∀ (l:List α) (n:Nat),(l.map f).eraseIdx n=(l.eraseIdx n).map f
 | [],_=>rfl
 | _::_,0=>rfl
 | a::l,n + 1=>by simp only [List.map_cons,List.eraseIdx_cons_succ,rB f l n]
theorem MN {z1 z2 z3 z4 z6 z7:Sl}:∀ (l:List Nat) (m:Int) (A:KL) (a5:Sl),A.length<=1000 ->
  ∃ (m':Int) (A':KL) (b5:Sl),cN (bI 5) iV (l.map fun (i:Nat)=>.int i) [.op [.int m],z1,z2,z3,z4,a5,z6,z7,.ow (A.map tupK)]=.nx [.op [.int m'],z1,z2,z3,z4,b5,z6,z7,.ow (A'.map tupK)]/\A'.Sublist A
 | [],m,A,a5,_=>⟨m,A,a5,rfl,List.Sublist.refl _⟩
 | i::l,m,A,a5,hl=>by
  have hb:∃ (m1:Int) (A1:KL),iV [.op [.int m],z1,z2,z3,z4,.fz (.int i),z6,z7,.ow (A.map tupK)]=.nx [.op [.int m1],z1,z2,z3,z4,.fz (.int i),z6,z7,.ow (A1.map tupK)]/\A1.Sublist A:=by
   unfold iV
   cases h:decide (A=[]) with
   | true=>exact ⟨m,A,iB (xr (Zc rfl rfl (kO aQ (Dt (by simp))) (by rw [SM,h];rfl))) oN,List.Sublist.refl _⟩
   | false =>
    have hA:A≠[]:=of_decide_eq_false h
    have h0:0 < A.length:=List.length_pos_iff.mpr hA
    have p0:0<=m % (A.length:Int):=Int.emod_nonneg _ (by omega)
    have p1:m % (A.length:Int) < A.length:=Int.emod_lt_of_pos _ (by omega)
    refine ⟨m / A.length,A.eraseIdx (m % (A.length:Int)).toNat,vI (xr (Zc rfl rfl (kO aQ (Dt (by simp))) (by rw [SM,h];rfl))) ?_,List.eraseIdx_sublist _ _⟩
    have ln:RN 8 [.op [.int m],z1,z2,z3,z4,.fz (.int i),z6,z7,.ow (A.map tupK)]=.ok (.int A.length):=by
     show Rs.ok (D.int ((A.map tupK).length:Nat))=_
     rw [List.length_map]
    refine abY (es:=A.map tupK) rfl (xn rfl rfl (aq ln aQ) (by omega) (by omega)) rfl ⟨p0,by rw [List.length_map];exact p1,by rw [List.length_map];omega⟩ ?_
    rw [rB]
    rfl
  obtain ⟨m1,A1,hb,s1⟩:=hb
  obtain ⟨m2,A2,b5,e2,s2⟩:=MN (z1:=z1) (z2:=z2) (z3:=z3) (z4:=z4) (z6:=z6) (z7:=z7) l m1 A1 (.fz (.int i)) (Nat.le_trans s1.length_le hl)
  refine ⟨m2,A2,b5,?_,s2.trans s1⟩
  simp only [List.map_cons,cN,bI,List.set_cons_succ,List.set_cons_zero,hb]
  exact e2
structure Cl (A:KL):Prop where
 pr:∀ ks∈A,Pair ks
 nd:A.Nodup
 pw:A.Pairwise So.leK
 le:A.length<=300
theorem acE {O:KL} {N:Nat} (hp:∀ ks∈O,Pair ks) (hO:O.length<=N) (hN:N<=48) (m lx ly:Int):∃ (A:KL) (b:Bool) (m':Int),gO [.int m] [.tup (O.map tupK),tupK [lx,ly]]=.ok (sh A b,[.int m'])/\Cl A:=by
 have cnt:∃ n1:Int,(0 < n1/\n1<=5)/\(bV cB (fC (.int 3)) (bV jt (fC (.int 2)) (fA (au (bV gLt (fA (au (aM 1) aX) wZ) (fC (.int 7))) aX) Pa))) [.op [.int (m / 3)],.fz (.tup (O.map tupK)),.fz (tupK [lx,ly]),.fz (.bl (decide (m % 3=0))),.od [],.no,.no,.no,.no]=.ok (.int n1):=by
  have hl:wZ [.tup (O.map tupK)]=.ok (.int O.length):=by rw [Gs,List.length_map]
  cases h:decide ((O.length:Int) < 7) with
  | true=>exact ⟨5,by decide,bH bR (bH bR (kO (aq (bH (kO (aq (aJ rfl) aQ) hl) bR (by rw [aeF,h])) aQ) Pn) (pY (by decide))) rfl⟩
  | false=>exact ⟨3,by decide,bH bR (bH bR (kO (aq (bH (kO (aq (aJ rfl) aQ) hl) bR (by rw [aeF,h])) aQ) Pn) (pY (by decide))) rfl⟩
 obtain ⟨n1,⟨c0,c1⟩,ec⟩:=cnt
 have d0:0<=m / 3 % n1:=Int.emod_nonneg _ (by omega)
 have d1:m / 3 % n1 < n1:=Int.emod_lt_of_pos _ (by omega)
 obtain ⟨C,hC⟩:∃ C:Nat,m / 3 % n1=C:=⟨(m / 3 % n1).toNat,by omega⟩
 have hmul:C * N<=4 * 48:=Nat.mul_le_mul (by omega) hN
 obtain ⟨m2,k2,b5,b6,b7,e2,g2,l2⟩:=MJ hp hO hN (lx:=lx) (ly:=ly) (z3:=.fz (.bl (decide (m % 3=0)))) (z8:=.no) (List.range C) (m / 3 / n1) [] .no .no .no .nil (by rw [List.length_range,List.length_nil];omega)
 rw [List.length_range,List.length_nil] at l2
 have q0:0<=m2 % 6:=Int.emod_nonneg _ (by decide)
 have q1:m2 % 6 < 6:=Int.emod_lt_of_pos _ (by decide)
 obtain ⟨C3,hC3⟩:∃ C:Nat,m2 % 6=C:=⟨(m2 % 6).toNat,by omega⟩
 obtain ⟨m3,k3,c5,e3,g3,l3⟩:=MK (lx:=lx) (ly:=ly) (z1:=.fz (.tup (O.map tupK))) (z3:=.fz (.bl (decide (m % 3=0)))) (z6:=b6) (z7:=b7) (z8:=.no) (List.range C3) (m2 / 6) k2 b5 g2 (by rw [List.length_range];omega)
 rw [List.length_range] at l3
 have r0:0<=m3 % 3:=Int.emod_nonneg _ (by decide)
 have r1:m3 % 3 < 3:=Int.emod_lt_of_pos _ (by decide)
 obtain ⟨C4,hC4⟩:∃ C:Nat,m3 % 3=C:=⟨(m3 % 3).toNat,by omega⟩
 have lk:(So.bJ (k3.map (·.1))).length=k3.length:=by rw [rC,List.length_map]
 obtain ⟨m4,A,d5,e4,sA⟩:=MN (z1:=.fz (.tup (O.map tupK))) (z2:=.fz (tupK [lx,ly])) (z3:=.fz (.bl (decide (m % 3=0)))) (z4:=.od k3) (z6:=b6) (z7:=b7) (List.range C4) (m3 / 3) (So.bJ (k3.map (·.1))) c5 (by omega)
 refine ⟨A,decide (m % 3=0),m4,?_,⟨fun ks hk=>g3.pr ks (lW.mp (sA.subset hk)),(Sy g3.nd).sublist sA,List.Pairwise.sublist sA (So.uJ _),?_⟩⟩
 ·have run:jC (dh ["left","piece","lead","rest","cells","k","mark","cell","told"] [.int m] [.tup (O.map tupK),tupK [lx,ly]])=.rx (sh A (decide (m % 3=0))) [.op [.int m4],.fz (.tup (O.map tupK)),.fz (tupK [lx,ly]),.fz (.bl (decide (m % 3=0))),.od k3,d5,b6,b7,.fz (.lst (A.map tupK))]:=by
   unfold jC
   refine bw (ρ1:=[.op [.int (m / 3)],.fz (.tup (O.map tupK)),.fz (tupK [lx,ly]),.fz (.bl (decide (m % 3=0))),.no,.no,.no,.no,.no]) (fO (cI (xn rfl rfl (aq bR aQ) (by decide) (by decide)) (cT bR) jO) rfl) ?_
   refine bw (ρ1:=[.op [.int (m / 3)],.fz (.tup (O.map tupK)),.fz (tupK [lx,ly]),.fz (.bl (decide (m % 3=0))),.od [],.no,.no,.no,.no]) rfl ?_
   refine bw (wK (zU (N:=C) (ρ1:=[.op [.int (m / 3 / n1)],.fz (.tup (O.map tupK)),.fz (tupK [lx,ly]),.fz (.bl (decide (m % 3=0))),.od [],.no,.no,.no,.no]) (xn (i:=0) (z:=.op [.int (m / 3)]) (m:=m / 3) rfl rfl (aq ec aQ) c0 (by omega)) (by omega) hC e2)) ?_
   refine bw (wK (zU (N:=C3) (ρ1:=[.op [.int (m2 / 6)],.fz (.tup (O.map tupK)),.fz (tupK [lx,ly]),.fz (.bl (decide (m % 3=0))),.od k2,b5,b6,b7,.no]) (xn (i:=0) (z:=.op [.int m2]) (m:=m2) (n:=6) rfl rfl (aq bR aQ) (by decide) (by decide)) (by omega) hC3 e3)) ?_
   refine bw (ρ1:=[.op [.int m3],.fz (.tup (O.map tupK)),.fz (tupK [lx,ly]),.fz (.bl (decide (m % 3=0))),.od k3,c5,b6,b7,.ow ((So.bJ (k3.map (·.1))).map tupK)]) (Vb rfl (by omega) g3.pr) ?_
   refine bw (wK (zU (N:=C4) (ρ1:=[.op [.int (m3 / 3)],.fz (.tup (O.map tupK)),.fz (tupK [lx,ly]),.fz (.bl (decide (m % 3=0))),.od k3,c5,b6,b7,.ow ((So.bJ (k3.map (·.1))).map tupK)]) (xn (i:=0) (z:=.op [.int m3]) (m:=m3) (n:=3) rfl rfl (aq bR aQ) (by decide) (by decide)) (by omega) hC4 e4)) ?_
   show oW _ [.op [.int m4],.fz (.tup (O.map tupK)),.fz (tupK [lx,ly]),.fz (.bl (decide (m % 3=0))),.od k3,d5,b6,b7,.fz (.lst (A.map tupK))]=_
   exact jx (cT (kO (aq (kO (aq (aJ rfl) aQ) vW) (aq (aJ rfl) aQ)) (t2 _ _)))
  unfold gO;rw [run];rfl
 ·have:=sA.length_le
  omega
theorem Ah {z0 z1:Sl} {x y:Int}:∀ (L:KL) (kvs:List (List Int×D)) (a5 a6:Sl),(∀ ks∈L,Pair ks)->GN kvs->kvs.length + L.length<=1000 ->
  ∃ kvs' b5 b6,cN (yL 2 (iY (bI 5) (iY (bI 6) Fb))) gP (L.map tupK) [z0,z1,.od kvs,.fz (.int x),.fz (.int y),a5,a6]=.nx [z0,z1,.od kvs',.fz (.int x),.fz (.int y),b5,b6]/\GN kvs'/\kvs'.length<=kvs.length + L.length/\∀ k,k∈kvs'.map (·.1)↔k∈kvs.map (·.1)∨∃ t∈L,k=ad [x,y] t
 | [],kvs,a5,a6,_,g,_=>⟨kvs,a5,a6,rfl,g,by simp,fun k=>by simp⟩
 | s::L,kvs,a5,a6,hp,g,hl=>by
  simp only [List.length_cons] at hl
  obtain ⟨r,c,rfl⟩:=hp s (.head _)
  have lp:=xX kvs [x + r,y + c] (.bl true)
  have hb:gP [z0,z1,.od kvs,.fz (.int x),.fz (.int y),.fz (.int r),.fz (.int c)]=.nx [z0,z1,.od (jX kvs [x + r,y + c] (.bl true)),.fz (.int x),.fz (.int y),.fz (.int r),.fz (.int c)]:=by
   unfold gP
   exact adz (ks:=[x + r,y + c]) bR rfl (kO (aq (bH (aJ rfl) (aJ rfl) dN) (aq (bH (aJ rfl) (aJ rfl) dN) aQ)) (t2 _ _)) (by omega)
  obtain ⟨k2,b5,b6,e2,g2,l2,m2⟩:=Ah (z0:=z0) (z1:=z1) (x:=x) (y:=y) L _ (.fz (.int r)) (.fz (.int c)) (fun z hz=>hp z (.tail _ hz)) (g.put (x + r) (y + c) (.bl true)) (by omega)
  refine ⟨k2,b5,b6,?_,g2,by simp only [List.length_cons];omega,fun k=>?_⟩
  ·show cN _ _ (tupK [r,c]::L.map tupK) _=_
   unfold cN
   show (match gP [z0,z1,.od kvs,.fz (.int x),.fz (.int y),.fz (.int r),.fz (.int c)] with|.nx ρ=>cN _ _ (L.map tupK) ρ|.ct ρ=>cN _ _ (L.map tupK) ρ|.bk ρ=>.nx ρ|o=>o)=_
   rw [hb]
   exact e2
  ·rw [m2,zW]
   constructor
   ·rintro ((h|h)|⟨t,ht,h⟩)
    ·exact .inr ⟨_,.head _,h⟩
    ·exact .inl h
    ·exact .inr ⟨t,.tail _ ht,h⟩
   ·rintro (h|⟨t,ht,h⟩)
    ·exact .inl (.inr h)
    ·cases ht with
     | head=>exact .inl (.inl h)
     | tail _ ht=>exact .inr ⟨t,ht,h⟩
theorem Ai {T:KL} (hT:∀ ks∈T,Pair ks) {z0:Sl}:∀ (L:KL) (kvs:List (List Int×D)) (a3 a4 a5 a6:Sl),(∀ ks∈L,Pair ks)->GN kvs->kvs.length + L.length * T.length<=1000 ->
  ∃ kvs' b3 b4 b5 b6,cN (yL 2 (iY (bI 3) (iY (bI 4) Fb))) gQ (L.map tupK) [z0,.fz (.tup (T.map tupK)),.od kvs,a3,a4,a5,a6]=.nx [z0,.fz (.tup (T.map tupK)),.od kvs',b3,b4,b5,b6]/\GN kvs'/\kvs'.length<=kvs.length + L.length * T.length/\∀ k,k∈kvs'.map (·.1)↔k∈kvs.map (·.1)∨∃ s∈L,∃ t∈T,k=ad s t
 | [],kvs,a3,a4,a5,a6,_,g,_=>⟨kvs,a3,a4,a5,a6,rfl,g,by simp,fun k=>by simp⟩
 | s::L,kvs,a3,a4,a5,a6,hp,g,hl=>by
  simp only [List.length_cons,Nat.add_mul,Nat.one_mul] at hl
  obtain ⟨r,c,rfl⟩:=hp s (.head _)
  obtain ⟨k1,b5,b6,e1,g1,l1,m1⟩:=Ah (z0:=z0) (z1:=.fz (.tup (T.map tupK))) (x:=r) (y:=c) T kvs a5 a6 hT g (by omega)
  have hb:gQ [z0,.fz (.tup (T.map tupK)),.od kvs,.fz (.int r),.fz (.int c),a5,a6]=.nx [z0,.fz (.tup (T.map tupK)),.od k1,.fz (.int r),.fz (.int c),b5,b6]:=by
   unfold gQ
   exact Xj (aJ rfl) e1
  obtain ⟨k2,c3,c4,c5,c6,e2,g2,l2,m2⟩:=Ai hT (z0:=z0) L k1 (.fz (.int r)) (.fz (.int c)) b5 b6 (fun z hz=>hp z (.tail _ hz)) g1 (by omega)
  refine ⟨k2,c3,c4,c5,c6,?_,g2,by simp only [List.length_cons,Nat.add_mul,Nat.one_mul];omega,fun k=>?_⟩
  ·show cN _ _ (tupK [r,c]::L.map tupK) _=_
   unfold cN
   show (match gQ [z0,.fz (.tup (T.map tupK)),.od kvs,.fz (.int r),.fz (.int c),a5,a6] with|.nx ρ=>cN _ _ (L.map tupK) ρ|.ct ρ=>cN _ _ (L.map tupK) ρ|.bk ρ=>.nx ρ|o=>o)=_
   rw [hb]
   exact e2
  ·rw [m2,m1]
   constructor
   ·rintro ((h|⟨t,ht,h⟩)|⟨s,hs,h⟩)
    ·exact .inl h
    ·exact .inr ⟨_,.head _,t,ht,h⟩
    ·exact .inr ⟨s,.tail _ hs,h⟩
   ·rintro (h|⟨s,hs,t,ht,h⟩)
    ·exact .inl (.inl h)
    ·cases hs with
     | head=>exact .inl (.inr ⟨t,ht,h⟩)
     | tail _ hs=>exact .inr ⟨s,hs,t,ht,h⟩
theorem afP {L T:KL} (hL:∀ ks∈L,Pair ks) (hT:∀ ks∈T,Pair ks) (hl:L.length * T.length < 1000):∃ kvs,gD [.tup (L.map tupK),.tup (T.map tupK)]=.ok (.lst ((So.bJ (kvs.map (·.1))).map tupK))/\GN kvs/\kvs.length<=L.length * T.length/\∀ k,k∈kvs.map (·.1)↔∃ s∈L,∃ t∈T,k=ad s t:=by
 obtain ⟨k1,b3,b4,b5,b6,e1,g1,l1,m1⟩:=Ai hT (z0:=.fz (.tup (L.map tupK))) L [] .no .no .no .no hL .nil (by rw [List.length_nil];omega)
 rw [List.length_nil,Nat.zero_add] at l1
 refine ⟨k1,?_,g1,l1,fun k=>by rw [m1];simp⟩
 have run:lg (bF ["one","other","sums","row","column","further","beside"] [.tup (L.map tupK),.tup (T.map tupK)])=.rt (.lst ((So.bJ (k1.map (·.1))).map tupK)):=by
  unfold lg
  refine bw (ρ1:=[.fz (.tup (L.map tupK)),.fz (.tup (T.map tupK)),.od [],.no,.no,.no,.no]) rfl ?_
  refine bw (wK (Xj (aJ rfl) e1)) ?_
  exact rN (Sg rfl (by omega) g1.pr)
 unfold gD;rw [run];rfl
theorem SN {O:KL} (hp:∀ ks∈O,Pair ks) (hn:O≠[]) (m:Int):∃ a b:Int,fj (.tup (O.map tupK)) (.int (m % (O.length:Int)))=.ok (tupK [a,b]):=by
 have h0:0 < O.length:=List.length_pos_iff.mpr hn
 have p0:0<=m % (O.length:Int):=Int.emod_nonneg _ (by omega)
 have p1:m % (O.length:Int) < O.length:=Int.emod_lt_of_pos _ (by omega)
 obtain ⟨j,hj⟩:∃ j:Nat,m % (O.length:Int)=j:=⟨(m % (O.length:Int)).toNat,by omega⟩
 rw [hj] at p1 ⊢
 have hjl:j < O.length:=by omega
 obtain ⟨a,b,e⟩:=hp O[j] (List.getElem_mem hjl)
 refine ⟨a,b,?_⟩
 rw [YX]
 unfold Am Es
 rw [if_pos (by omega),if_pos (by rw [List.length_map];omega)]
 simp only [Int.toNat_natCast,Option.bind_some,List.getElem?_map,List.getElem?_eq_getElem hjl,Option.map_some,e]
theorem Aj {A O:KL} {b:Bool} (hA:∀ ks∈A,Pair ks) (nA:A≠[]) (hO:∀ ks∈O,Pair ks) (nO:O≠[]) (lA:A.length<=1000) (lO:O.length<=1000) {z3:Sl}:∀ (l:List Nat) (m:Int) (S:KL) (a5 a6 a7:Sl),(∀ ks∈S,Pair ks)->S.length + l.length<=1000 ->
  ∃ (m':Int) (S':KL) (b5 b6 b7:Sl),cN (bI 5) iW (l.map fun (i:Nat)=>.int i) [.op [.int m],.fz (.tup (O.map tupK)),.fz (sh A b),z3,.ow (S.map tupK),a5,a6,a7]=.nx [.op [.int m'],.fz (.tup (O.map tupK)),.fz (sh A b),z3,.ow (S'.map tupK),b5,b6,b7]/\(∀ ks∈S',Pair ks)/\S'.length<=S.length + l.length
 | [],m,S,a5,a6,a7,h,_=>⟨m,S,a5,a6,a7,rfl,h,by simp⟩
 | i::l,m,S,a5,a6,a7,h,hl=>by
  simp only [List.length_cons] at hl
  have h0:0 < A.length:=List.length_pos_iff.mpr nA
  have h1:0 < O.length:=List.length_pos_iff.mpr nO
  obtain ⟨x,y,e1⟩:=SN hA nA m
  obtain ⟨r,c,e2⟩:=SN hO nO (m / A.length)
  have lnA:wZ [.tup (A.map tupK)]=.ok (.int A.length):=by rw [Gs,List.length_map]
  have lnO:wZ [.tup (O.map tupK)]=.ok (.int O.length):=by rw [Gs,List.length_map]
  have hb:iW [.op [.int m],.fz (.tup (O.map tupK)),.fz (sh A b),z3,.ow (S.map tupK),.fz (.int i),a6,a7]=.nx [.op [.int (m / A.length / O.length)],.fz (.tup (O.map tupK)),.fz (sh A b),z3,.ow ((S++[[x - r,y - c]]).map tupK),.fz (.int i),.fz (tupK [x,y]),.fz (tupK [r,c])]:=by
   unfold iW
   refine bw (ρ1:=[.op [.int (m / A.length)],.fz (.tup (O.map tupK)),.fz (sh A b),z3,.ow (S.map tupK),.fz (.int i),.fz (tupK [x,y]),a7]) (fO (cI (cT (bH (aJ rfl) bR rfl)) (xn rfl rfl (aq (kO (aq (bH (aJ rfl) bR rfl) aQ) lnA) aQ) (by omega) (by omega)) e1) rfl) ?_
   refine bw (ρ1:=[.op [.int (m / A.length / O.length)],.fz (.tup (O.map tupK)),.fz (sh A b),z3,.ow (S.map tupK),.fz (.int i),.fz (tupK [x,y]),.fz (tupK [r,c])]) (fO (cI (cT (aJ rfl)) (xn rfl rfl (aq (kO (aq (aJ rfl) aQ) lnO) aQ) (by omega) (by omega)) e2) rfl) ?_
   unfold abo
   show oR (fA _ _ _) _ _=_
   rw [kO (aq (bH (bH (aJ (d:=tupK [x,y]) rfl) bR rfl) (bH (aJ (d:=tupK [r,c]) rfl) bR rfl) jq) (aq (bH (bH (aJ (d:=tupK [x,y]) rfl) bR rfl) (bH (aJ (d:=tupK [r,c]) rfl) bR rfl) jq) aQ)) (t2 _ _)]
   show (if (S.map tupK).length < 1000000 then _ else _)=_
   rw [if_pos (by rw [List.length_map];omega),List.map_append]
   rfl
  obtain ⟨m2,S2,b5,b6,b7,e3,p2,l2⟩:=Aj (b:=b) hA nA hO nO lA lO (z3:=z3) l (m / A.length / O.length) (S++[[x - r,y - c]]) (.fz (.int i)) (.fz (tupK [x,y])) (.fz (tupK [r,c])) (fun ks hk=>by
   rcases List.mem_append.mp hk with h'|h'
   ·exact h ks h'
   ·rw [List.mem_singleton.mp h'];exact ⟨_,_,rfl⟩) (by rw [List.length_append,List.length_singleton];omega)
  rw [List.length_append,List.length_singleton] at l2
  refine ⟨m2,S2,b5,b6,b7,?_,p2,by simp only [List.length_cons];omega⟩
  simp only [List.map_cons,cN,bI,List.set_cons_succ,List.set_cons_zero,hb]
  exact e3
theorem acF {A O:KL} {b:Bool} (hA:∀ ks∈A,Pair ks) (hO:∀ ks∈O,Pair ks) (nO:O≠[]) (lA:A.length<=1000) (lO:O.length<=1000) (m lx ly:Int):∃ (S:KL) (m':Int),eV [.int m] [.tup (O.map tupK),sh A b,tupK [lx,ly]]=.ok (.lst (S.map tupK),[.int m'])/\(∀ ks∈S,Pair ks)/\S.length<=1000:=by
 have s1:YK 4 (cg (xP (aM 3)) (cg (xA (cg (iD Vl.iw (iD cB (xP (bV fj (aM 3) (fC (.int 0)))) (xM 0 1 aC (jY (au (fC (.int 9)) aX)))) (xP (fC (.int 4)))) (cg (iD Vl.iw (iD cB (xP (bV fj (aM 3) (fC (.int 1)))) (xM 0 1 aC (jY (au (fC (.int 9)) aX)))) (xP (fC (.int 4)))) lH)) Vl.dD) lH)) (dh ["left","piece","shape","lead","spots","k","cell","step"] [.int m] [.tup (O.map tupK),sh A b,tupK [lx,ly]])
   = .nx [.op [.int (m / 9 / 9)],.fz (.tup (O.map tupK)),.fz (sh A b),.fz (tupK [lx,ly]),.ow (([[lx,ly],[lx + m % 9 - 4,ly + m / 9 % 9 - 4]]:KL).map tupK),.no,.no,.no]:=by
  refine (abV (bZ (cT (aJ rfl)) (bZ (Bb (bZ (cI (cI (cT (bH (aJ rfl) bR rfl)) (xn rfl rfl (aq bR aQ) (by decide) (by decide)) dN) (cT bR) jq) (bZ (cI (cI (cT (bH (aJ rfl) bR rfl)) (xn rfl rfl (aq bR aQ) (by decide) (by decide)) dN) (cT bR) jq) jm)) (t2 _ _)) jm)) (by simp)).trans ?_
  rfl
 have pr2:∀ ks∈([[lx,ly],[lx + m % 9 - 4,ly + m / 9 % 9 - 4]]:KL),Pair ks:=fun ks hk=>by
  rcases List.mem_cons.mp hk with rfl|h
  ·exact ⟨_,_,rfl⟩
  ·rw [List.mem_singleton.mp h];exact ⟨_,_,rfl⟩
 have CP:∀ {S:KL} {m':Int} {zs:List Sl},gR (dh ["left","piece","shape","lead","spots","k","cell","step"] [.int m] [.tup (O.map tupK),sh A b,tupK [lx,ly]])=.rx (.lst (S.map tupK)) (.op [.int m']::zs)->eV [.int m] [.tup (O.map tupK),sh A b,tupK [lx,ly]]=.ok (.lst (S.map tupK),[.int m']):=fun {S m' zs} h=>by unfold eV;rw [h];rfl
 cases h:decide (A=[]) with
 | true =>
  refine ⟨_,m / 9 / 9,CP (zs:=[.fz (.tup (O.map tupK)),.fz (sh A b),.fz (tupK [lx,ly]),.fz (.lst (([[lx,ly],[lx + m % 9 - 4,ly + m / 9 % 9 - 4]]:KL).map tupK)),.no,.no,.no]) ?_,pr2,by simp⟩
  unfold gR
  refine bw s1 ?_
  refine bw (iB (xr (bH (bH (aJ rfl) bR rfl) (kO aQ (Rk (by simp))) (by rw [Sh,h];rfl))) oN) ?_
  show oW _ [.op [.int (m / 9 / 9)],.fz (.tup (O.map tupK)),.fz (sh A b),.fz (tupK [lx,ly]),.fz (.lst (([[lx,ly],[lx + m % 9 - 4,ly + m / 9 % 9 - 4]]:KL).map tupK)),.no,.no,.no]=_
  exact jx (cT (aJ rfl))
 | false =>
  obtain ⟨m2,S,b5,b6,b7,e,p2,l2⟩:=Aj (b:=b) hA (of_decide_eq_false h) hO nO lA lO (z3:=.fz (tupK [lx,ly])) (List.range 3) (m / 9 / 9) _ .no .no .no pr2 (by simp)
  refine ⟨S,m2,CP (zs:=[.fz (.tup (O.map tupK)),.fz (sh A b),.fz (tupK [lx,ly]),.fz (.lst (S.map tupK)),b5,b6,b7]) ?_,p2,by simp at l2;omega⟩
  unfold gR
  refine bw s1 ?_
  refine bw (vI (xr (bH (bH (aJ rfl) bR rfl) (kO aQ (Rk (by simp))) (by rw [Sh,h];rfl))) (wK (Oe (N:=3) bR (by decide) rfl e))) ?_
  show oW _ [.op [.int m2],.fz (.tup (O.map tupK)),.fz (sh A b),.fz (tupK [lx,ly]),.fz (.lst (S.map tupK)),b5,b6,b7]=_
  exact jx (cT (aJ rfl))
end K14
namespace K14
open PySem PySem.Spec PySem.Calls PySem.W L2 Vl
theorem Jc (a b r c:Int):jy [tupK [a,b],tupK [r,c]]=.ok (tupK [a + r,b + c]):=by kernel_rfl
def wh (A:KL) (b:Bool) (O:KL) (p:List Int):Bool:=O.all fun t=>Gv A b (ad p t)
def df (A:KL) (b:Bool) (O:KL) (p:List Int):KL:=So.bJ (dfL A b (O.map (ad p)))
theorem ZQ {A O:KL} {b:Bool} {p x:List Int}:x∈df A b O p↔(∃ t∈O,ad p t=x)/\Gv A b x=false:=by
 unfold df
 rw [lW,abZ,List.mem_map]
theorem afQ {A O:KL} {b:Bool} {p:List Int}:decide (df A b O p=[])=wh A b O p:=by
 unfold wh
 rw [Bool.eq_iff_iff,decide_eq_true_iff,List.all_eq_true]
 constructor
 ·intro h t ht
  cases c:Gv A b (ad p t) with
  | true=>rfl
  | false =>
   have:ad p t∈df A b O p:=ZQ.mpr ⟨⟨t,ht,rfl⟩,c⟩
   rw [h] at this;cases this
 ·intro h
  refine List.eq_nil_iff_forall_not_mem.mpr fun x hx=>?_
  obtain ⟨⟨t,ht,rfl⟩,c⟩:=ZQ.mp hx
  rw [h t ht] at c;cases c
theorem acG {O:KL} (hO:∀ ks∈O,Pair ks) (hl:O.length<=300) (x y:Int):uX [sh O false,tupK [x,y]]=.ok (sh (O.map (ad [x,y])) false):=by
 have c1:jc (bI 0) (fun _=>.ok true) Eh 1 [1] (fL (bV fj (aM 0) (fC (.int 0))) asT) [.fz (sh O false),.fz (tupK [x,y])]=.ok (.lst ((O.map (ad [x,y])).map tupK)):=by
  rw [List.map_map]
  refine Lk (cs:=[.fz (tupK [x,y])]) rfl rfl (fun ks hk=>?_) (by omega)
  obtain ⟨a,b,rfl⟩:=hO ks hk
  have:=Jc a b x y
  rw [show [a + x,b + y]=ad [x,y] [a,b] by unfold ad;simp [Int.add_comm]] at this
  exact kO (aq (aJ rfl) (aq (aJ rfl) aQ)) (fU rfl this)
 have run:xY (bF ["shape","step"] [sh O false,tupK [x,y]])=.rt (sh (O.map (ad [x,y])) false):=by
  unfold xY
  exact rN (kO (aq (kO (aq c1 aQ) vW) (aq (bH (aJ rfl) bR rfl) aQ)) (t2 _ _))
 unfold uX;rw [run];rfl
theorem ZR {O:KL} (hO:∀ ks∈O,Pair ks) (hl:O.length<=300) (x y:Int):sS [.tup (O.map tupK),tupK [x,y]]=.ok (sh (O.map (ad [x,y])) false):=by
 have run:Gx (bF ["piece","cell"] [.tup (O.map tupK),tupK [x,y]])=.rt (sh (O.map (ad [x,y])) false):=by
  unfold Gx
  exact rN (kO (aq (kO (aq (aJ rfl) (aq bR aQ)) (t2 _ _)) (aq (aJ rfl) aQ)) (fU rfl (acG hO hl x y)))
 unfold sS;rw [run];rfl
theorem afR {L A:KL} (b:Bool) (hp:∀ x∈L,Pair x) (hl:L.length<=300) (ha:A.length<=300):pZ [sh L false,sh A (!b)]=.ok (sh (So.bJ (dfL A b L)) false):=by
 have n1:=Tb.sy L
 have n2:=Tb.sy A
 have g1:fK (bV fj (aM 0) (fC (.int 0))) [.fz (sh L false),.fz (sh A (!b))]=.ok (Tb.bO L):=aio (bH (aJ rfl) bR rfl) (by omega)
 have g2:fK (bV fj (aM 1) (fC (.int 0))) [.fz (sh L false),.fz (sh A (!b))]=.ok (Tb.bO A):=aio (bH (aJ rfl) bR rfl) (by omega)
 cases b with
 | false =>
  have run:wg (bF ["one","other"] [sh L false,sh A true])=.rt (sh (So.bJ (OJ (Tb.bO L) (Tb.bO A))) false):=by
   unfold wg
   refine bw (iB (Rm (xr (bH (aJ rfl) bR rfl))) oN) (bw (iB (xr (bH (aJ rfl) bR rfl)) oN) (aeE (vI (xr (bH (aJ rfl) bR rfl)) ?_)))
   exact rN (kO (aq (kO (aq (Lj (adA g1 g2 (show Ba _ _ from ⟨by omega,by omega⟩)) (fun x hx=>hp x (iG.mp (zG.mp hx).1)) (Nat.lt_of_le_of_lt (List.length_filter_le _ _) (by omega))) aQ) vW) (aq bR aQ)) (t2 _ _))
  show pZ [sh L false,sh A true]=_
  unfold pZ;rw [run];rfl
 | true =>
  have run:wg (bF ["one","other"] [sh L false,sh A false])=.rt (sh (So.bJ (Um (Tb.bO L) (Tb.bO A))) false):=by
   unfold wg
   refine bw (iB (Rm (xr (bH (aJ rfl) bR rfl))) oN) (bw (iB (xr (bH (aJ rfl) bR rfl)) oN) (bw (iB (xr (bH (aJ rfl) bR rfl)) oN) ?_))
   exact rN (kO (aq (kO (aq (Lj (adA g1 g2 (show Ba _ _ from ⟨by omega,by omega⟩)) (fun x hx=>hp x (iG.mp (zF.mp hx).1)) (Nat.lt_of_le_of_lt (List.length_filter_le _ _) (by omega))) aQ) vW) (aq bR aQ)) (t2 _ _))
  show pZ [sh L false,sh A false]=_
  unfold pZ;rw [run];rfl
theorem Ek {k:KL} (b:Bool):jG [sh k b]=.ok (sh k (!b)):=by cases b <;> rfl
theorem MP {A O:KL} (b:Bool) (hA:A.length<=300) (hl:O.length<=300) (p:List Int):kh [sh (O.map (ad p)) false,sh A b]=.ok (.bl (wh A b O p)):=by
 have hb:=afR (L:=O.map (ad p)) (A:=A) b (Ze O _) (by rw [List.length_map];exact hl) hA
 have run:uW (bF ["one","other"] [sh (O.map (ad p)) false,sh A b])=.rt (.bl (wh A b O p)):=by
  unfold uW
  rw [<- afQ]
  exact rN (bH (kO (aq (aJ rfl) (aq (kO (aq (aJ rfl) aQ) (fU rfl (Ek b))) aQ)) (fU rfl hb)) (kO (aq (kO aQ (Rk (by simp))) (aq bR aQ)) (t2 _ _)) (Vd _))
 unfold kh;rw [run];rfl
theorem acH {A O:KL} (b:Bool) (hA:A.length<=300) (hO:∀ ks∈O,Pair ks) (hl:O.length<=300) (x y:Int):kj [sh A b,.tup (O.map tupK),tupK [x,y]]=.ok (.bl (wh A b O [x,y])):=by
 have run:mV (bF ["shape","piece","cell"] [sh A b,.tup (O.map tupK),tupK [x,y]])=.rt (.bl (wh A b O [x,y])):=by
  unfold mV
  exact rN (kO (aq (kO (aq (aJ rfl) (aq (aJ rfl) aQ)) (fU rfl (ZR hO hl x y))) (aq (aJ rfl) aQ)) (fU rfl (MP b hA hl _)))
 unfold kj;rw [run];rfl
theorem acI {A O:KL} (b:Bool) (hA:A.length<=300) (hO:∀ ks∈O,Pair ks) (hl:O.length<=300) (x y:Int):kE [sh A b,.tup (O.map tupK),tupK [x,y]]=.ok (.bl (wh A (!b) O [x,y])):=by
 have run:mW (bF ["shape","piece","cell"] [sh A b,.tup (O.map tupK),tupK [x,y]])=.rt (.bl (wh A (!b) O [x,y])):=by
  unfold mW
  exact rN (kO (aq (kO (aq (aJ rfl) (aq (aJ rfl) aQ)) (fU rfl (ZR hO hl x y))) (aq (kO (aq (aJ rfl) aQ) (fU rfl (Ek b))) aQ)) (fU rfl (MP (!b) hA hl _)))
 unfold kE;rw [run];rfl
theorem akv {A O:KL} (b:Bool) (p:List Int) (hl:O.length<=1000) {ρ:ak} (hs:dH 1 [5] ρ=[.no,.fz (sh A b)]) (hi:(fL (fA (au (aM 3) (au (aM 6) aX)) (cj 2 eO)) asL) ρ=.ok ((O.map (ad p)).map tupK)) :
  jc (bI 0) (fun _=>.ok true) xZ 1 [5] (fL (fA (au (aM 3) (au (aM 6) aX)) (cj 2 eO)) asL) ρ=.ok (.lst (O.map fun t=>.bl (Gv A b (ad p t)))):=by
 have:=Lk (L:=O.map (ad p)) (E:=xZ) (F:=fun k=>.bl (Gv A b k)) (ρ:=ρ) (caps:=[5]) (cs:=[.fz (sh A b)]) hs hi (fun ks hk=>by
  have e:Ao (.bl (decide (ks∈A))) (.bl b)=.ok (.bl (Gv A b ks)):=by
   unfold Gv
   cases decide (ks∈A) <;> cases b <;> rfl
  unfold xZ
  exact bH (bH (aJ rfl) (bH (aJ rfl) bR rfl) (akt ks A)) (bH (aJ rfl) bR rfl) e) (by rw [List.length_map];exact hl)
 rw [List.map_map] at this
 exact this
theorem Nb (O:KL) (f:List Int->Bool) (b:Bool):Gn (.bl b) (.lst (O.map fun t=>.bl (f t)))=.ok (.bl (O.all fun t=>f t != b)):=by
 have hd:cU (O.map fun t=>D.bl (f t))<=7:=by
  induction O with
  | nil=>simp [cU]
  | cons k O ih=>simp only [List.map_cons,cU,cL];exact Nat.max_le.mpr ⟨by omega,ih⟩
 have e:(!Vw (.bl b) (O.map fun t=>D.bl (f t)))=O.all fun t=>f t != b:=by
  unfold Vw
  induction O with
  | nil=>rfl
  | cons k O ih =>
   have hd':cU (O.map fun t=>D.bl (f t))<=7:=Nat.le_trans (by simp only [List.map_cons,cU];exact Nat.le_max_right _ _) hd
   rw [List.map_cons,List.any_cons,List.all_cons,<- ih hd']
   have:oZ (.bl (f k)) (.bl b)=(f k == b):=by cases f k <;> cases b <;> rfl
   rw [this]
   cases f k <;> cases b <;> simp
 show Ky true _ _=_
 simp only [Ky]
 rw [if_pos ⟨by simp [cL],hd⟩]
 simp only [if_true,e]
theorem acJ (A O:KL) (b:Bool) (p:List Int):(O.all fun t=>Gv A b (ad p t) != false)=wh A b O p:=by
 unfold wh
 congr 1
 funext t
 cases Gv A b (ad p t) <;> rfl
theorem acK (A O:KL) (b:Bool) (p:List Int):(O.all fun t=>Gv A b (ad p t) != true)=wh A (!b) O p:=by
 unfold wh
 congr 1
 funext t
 unfold Gv
 cases decide (ad p t∈A) <;> cases b <;> rfl
theorem ait (x:Bool):Ao (.bl x) (.bl x)=.ok (.bl false):=TV (by simp [cL]) rfl
theorem acL {A O:KL} {b:Bool} (hA:A.length<=300) (hO:∀ ks∈O,Pair ks) (hl:O.length<=300) {p:List Int} (hp:Pair p) {z0 z1 z2 z4 a7 a8:Sl} :
  ∃ b7 b8:Sl,yc [z0,z1,z2,.fz (.tup (O.map tupK)),z4,.fz (sh A b),.fz (tupK p),a7,a8]=.nx [z0,z1,z2,.fz (.tup (O.map tupK)),z4,.fz (sh A b),.fz (tupK p),b7,b8]:=by
 obtain ⟨x,y,rfl⟩:=hp
 refine ⟨.fz (.lst (O.map fun t=>.bl (Gv A b (ad [x,y] t)))),.fz (.bl (wh A (!b) O [x,y])),?_⟩
 have on:=adB (O:=O) hO (by omega) x y
 have ix:∀ v:Bool,gIs .bool (.bl v)=.ok (.bl true):=fun v=>by cases v <;> rfl
 unfold yc
 refine bw (ρ1:=[z0,z1,z2,.fz (.tup (O.map tupK)),z4,.fz (sh A b),.fz (tupK [x,y]),.fz (.lst (O.map fun t=>.bl (Gv A b (ad [x,y] t)))),a8]) (yQ (akv b [x,y] (by omega) rfl (v_l (kO (aq (aJ rfl) (aq (aJ rfl) aQ)) (fU rfl on)) rfl))) ?_
 refine bw (ρ1:=[z0,z1,z2,.fz (.tup (O.map tupK)),z4,.fz (sh A b),.fz (tupK [x,y]),.fz (.lst (O.map fun t=>.bl (Gv A b (ad [x,y] t)))),.fz (.bl (wh A b O [x,y]))]) (yQ (kO (aq (aJ rfl) (aq (aJ rfl) (aq (aJ rfl) aQ))) (fU rfl (acH b hA hO hl x y)))) ?_
 refine bw (iB (Xh (adg (t:=true) (xr (v_b (aJ rfl) (ix _)))) (xr (bH (aJ rfl) (bH bR (aJ rfl) (Nb O (fun t=>Gv A b (ad [x,y] t)) false)) (by rw [acJ];exact ait _)))) oN) ?_
 refine bw (ρ1:=[z0,z1,z2,.fz (.tup (O.map tupK)),z4,.fz (sh A b),.fz (tupK [x,y]),.fz (.lst (O.map fun t=>.bl (Gv A b (ad [x,y] t)))),.fz (.bl (wh A (!b) O [x,y]))]) (yQ (kO (aq (aJ rfl) (aq (aJ rfl) (aq (aJ rfl) aQ))) (fU rfl (acI b hA hO hl x y)))) ?_
 exact iB (Xh (adg (t:=true) (xr (v_b (aJ rfl) (ix _)))) (xr (bH (aJ rfl) (bH bR (aJ rfl) (Nb O (fun t=>Gv A b (ad [x,y] t)) true)) (by rw [acK];exact ait _)))) oN
theorem El {A O:KL} {b:Bool} (hA:A.length<=300) (hO:∀ ks∈O,Pair ks) (hl:O.length<=300) {z0 z1 z2 z4:Sl}:∀ (S:KL) (a6 a7 a8:Sl),(∀ ks∈S,Pair ks) ->
  ∃ b6 b7 b8:Sl,cN (bI 6) yc (S.map tupK) [z0,z1,z2,.fz (.tup (O.map tupK)),z4,.fz (sh A b),a6,a7,a8]=.nx [z0,z1,z2,.fz (.tup (O.map tupK)),z4,.fz (sh A b),b6,b7,b8]
 | [],a6,a7,a8,_=>⟨a6,a7,a8,rfl⟩
 | s::S,a6,a7,a8,hp=>by
  obtain ⟨b7,b8,e⟩:=acL (b:=b) hA hO hl (hp s (.head _)) (z0:=z0) (z1:=z1) (z2:=z2) (z4:=z4) (a7:=a7) (a8:=a8)
  obtain ⟨c6,c7,c8,e2⟩:=El (b:=b) hA hO hl (z0:=z0) (z1:=z1) (z2:=z2) (z4:=z4) S (.fz (tupK s)) b7 b8 fun k hk=>hp k (.tail _ hk)
  refine ⟨c6,c7,c8,?_⟩
  simp only [List.map_cons,cN,bI,List.set_cons_succ,List.set_cons_zero,e]
  exact e2
theorem akx (L:KL):∃ L':KL,KR none (some 4) (.tup (L.map tupK))=.ok (.tup (L'.map tupK))/\L'.length<=4/\(∀ k∈L',k∈L)/\(L≠[]->L'≠[]):=by
 have hl:(L.map tupK).length=L.length:=List.length_map ..
 refine ⟨L.take 4,?_,by rw [List.length_take];omega,fun k hk=>List.mem_of_mem_take hk,fun h=>?_⟩
 ·have e:Ez (L.map tupK) none (some 4)=(L.take 4).map tupK:=by
   unfold Ez HT.jr
   simp
  show Rs.ok (D.tup (Ez (L.map tupK) none (some 4)))=_
  rw [e]
 ·cases L with
  | nil=>exact absurd rfl h
  | cons a L=>simp
theorem acM (c:Int) (S:Sl) (a2 a3 a4 a5 a6 a7 a8:Sl):∃ b2 b3 b4 b5 b6 b7 b8:Sl,yd [S,.fz (.int c),a2,a3,a4,a5,a6,a7,a8]=.nx [S,.fz (.int c),b2,b3,b4,b5,b6,b7,b8]:=by
 obtain ⟨m0,e0⟩:=afM c
 obtain ⟨m1,O1,e1,p1⟩:=SJ m0
 have hs:∃ (O:KL) (m2:Int),xIf (xT (iD Dq (xM 2 1 aC (jY (au (fC (.int 4)) aX))) (xP (fC (.int 0))))) (oY 3 (xA (cg (xA (cg (xP (aM 3)) (cg (YQ (xM 2 0 dB (jY aX)) aaB (fP (fC (.int 4)))) lH)) (cj 2 gD)) lH) fQ)) Fo
   [S,.fz (.int c),.ow [.int m1],.fz (.tup (O1.map tupK)),a4,a5,a6,a7,a8]=.nx [S,.fz (.int c),.ow [.int m2],.fz (.tup (O.map tupK)),a4,a5,a6,a7,a8]/\(∀ ks∈O,Pair ks)/\O≠[]/\O.length<=48:=by
  cases h:decide (m1 % 4=0) with
  | false=>exact ⟨O1,m1 / 4,uT (ρ1:=[S,.fz (.int c),.ow [.int (m1 / 4)],.fz (.tup (O1.map tupK)),a4,a5,a6,a7,a8]) (Va (cI (xn rfl rfl (aq bR aQ) (by decide) (by decide)) (cT bR) (by rw [jO,h]))) oN,p1.pr,p1.ne,Nat.le_trans p1.le (by decide)⟩
  | true =>
   obtain ⟨m3,O2,e2,p2⟩:=SJ (m1 / 4)
   obtain ⟨O3,e3,l3,s3,n3⟩:=akx O2
   have hm:O1.length * O3.length<=12 * 4:=Nat.mul_le_mul p1.le l3
   obtain ⟨kvs,e4,g4,l4,m4⟩:=afP (L:=O1) (T:=O3) p1.pr (fun k hk=>p2.pr k (s3 k hk)) (by omega)
   refine ⟨So.bJ (kvs.map (·.1)),m3,?_,fun k hk=>g4.pr k (lW.mp hk),fun z=>?_,by rw [rC,List.length_map];omega⟩
   ·refine Gu (ρ1:=[S,.fz (.int c),.ow [.int (m1 / 4)],.fz (.tup (O1.map tupK)),a4,a5,a6,a7,a8]) (Va (cI (xn rfl rfl (aq bR aQ) (by decide) (by decide)) (cT bR) (by rw [jO,h]))) ?_
    exact fO (Bb (bZ (Bb (bZ (cT (aJ rfl)) (bZ (afG (Li rfl rfl (zT aQ) rfl rfl rfl e2) rfl rfl e3) jm)) (fU rfl e4)) jm) vW) rfl
   ·obtain ⟨s,hs⟩:=List.exists_mem_of_ne_nil _ p1.ne
    obtain ⟨t,ht⟩:=List.exists_mem_of_ne_nil _ (n3 p2.ne)
    have:ad s t∈So.bJ (kvs.map (·.1)):=lW.mpr ((m4 _).mpr ⟨s,hs,t,ht,rfl⟩)
    rw [z] at this;cases this
 obtain ⟨O,m2,es,pO,nO,lO⟩:=hs
 obtain ⟨lx,ly,m3,e3⟩:=afO m2
 obtain ⟨A,b,m4,e4,cA⟩:=acE (O:=O) (N:=48) pO lO (by decide) m3 lx ly
 have lA:=cA.le
 obtain ⟨Sp,m5,e5,pS,lS⟩:=acF (A:=A) (O:=O) (b:=b) cA.pr pO nO (by omega) (by omega) m4 lx ly
 obtain ⟨b6,b7,b8,e6⟩:=El (b:=b) lA pO (by omega:O.length<=300) (z0:=S) (z1:=.fz (.int c)) (z2:=.ow [.int m5]) (z4:=.fz (tupK [lx,ly])) Sp a6 a7 a8 pS
 refine ⟨.ow [.int m5],.fz (.tup (O.map tupK)),.fz (tupK [lx,ly]),.fz (sh A b),b6,b7,b8,?_⟩
 unfold yd
 refine bw (ρ1:=[S,.fz (.int c),.ow [.int m0],a3,a4,a5,a6,a7,a8]) (Za (aq (aJ rfl) aQ) rfl e0) ?_
 refine bw (ρ1:=[S,.fz (.int c),.ow [.int m1],.fz (.tup (O1.map tupK)),a4,a5,a6,a7,a8]) (fO (Li rfl rfl (zT aQ) rfl rfl rfl e1) rfl) ?_
 refine bw es ?_
 refine bw (ρ1:=[S,.fz (.int c),.ow [.int m3],.fz (.tup (O.map tupK)),.fz (tupK [lx,ly]),a5,a6,a7,a8]) (fO (Li rfl rfl (zT aQ) rfl rfl rfl e3) rfl) ?_
 refine bw (ρ1:=[S,.fz (.int c),.ow [.int m4],.fz (.tup (O.map tupK)),.fz (tupK [lx,ly]),.fz (sh A b),a6,a7,a8]) (fO (Li rfl rfl (zT (aq (aJ rfl) (aq (aJ rfl) aQ))) rfl rfl rfl e4) rfl) ?_
 exact YZ (ρ1:=[S,.fz (.int c),.ow [.int m5],.fz (.tup (O.map tupK)),.fz (tupK [lx,ly]),.fz (sh A b),a6,a7,a8]) (Li (i:=2) (z1:=.ow [.int m4]) (es:=[.int m4]) rfl rfl (zT (aq (aJ rfl) (aq (aJ rfl) (aq (aJ rfl) aQ)))) rfl rfl rfl e5) e6
theorem ZS (ns:List Int) (hn:ns.length<=63):Sv [.lst (ns.map D.int)]=.ok (.bl true):=by
 have e:bF ["script","cell","left","piece","lead","shape","spot","had","found"] [.lst (ns.map D.int)]=[.fz (.lst (ns.map D.int)),.no,.no,.no,.no,.no,.no,.no,.no]:=rfl
 obtain ⟨ρ',e1,_⟩:=yR (h:=bI 1) (g:=yd) (fun ρ=>∃ a1 a2 a3 a4 a5 a6 a7 a8:Sl,ρ=[.fz (.lst (ns.map D.int)),a1,a2,a3,a4,a5,a6,a7,a8]) (ds:=[.int 0]++ns.map D.int) (ρ:=[.fz (.lst (ns.map D.int)),.no,.no,.no,.no,.no,.no,.no,.no]) ⟨_,_,_,_,_,_,_,_,rfl⟩ (by
  rintro d hd ρ ⟨a1,a2,a3,a4,a5,a6,a7,a8,rfl⟩
  have:∃ x,d=.int x:=by
   rcases List.mem_append.mp hd with h|h
   ·exact ⟨0,List.mem_singleton.mp h⟩
   ·obtain ⟨x,_,rfl⟩:=List.mem_map.mp h;exact ⟨x,rfl⟩
  obtain ⟨x,rfl⟩:=this
  obtain ⟨b2,b3,b4,b5,b6,b7,b8,e⟩:=acM x (.fz (.lst (ns.map D.int))) a2 a3 a4 a5 a6 a7 a8
  exact ⟨_,_,rfl,e,_,_,_,_,_,_,_,_,rfl⟩)
 have run:Ss [.fz (.lst (ns.map D.int)),.no,.no,.no,.no,.no,.no,.no,.no]=.rt (.bl true):=by
  unfold Ss
  exact bw (wK (Xi (bH (kO (aq bR aQ) (Dt (by simp))) (aJ rfl) (TQ (by rw [List.length_map];simp only [List.length_cons,List.length_nil];omega))) e1)) (rN bR)
 unfold Sv;rw [e,run];rfl
end K14
open PySem PySem.W PyProof.Rows
set_option maxRecDepth 100000 in
set_option maxHeartbeats 0 in
theorem PySem.Challenge.cw_edgemoss_k14_whole_and_clear_holds : PySem.Challenge.rw_edgemoss_k14_whole_and_clear.Holds := by
 w_on;o_law;k_head;(case hw=>w_witness2)
 k_fill
 refine Vl.aeD (l:=PySem.Challenge.rw_edgemoss_k14_whole_and_clear) (k:=5) (v:=K14.Sv) rfl rfl ⟨rfl,by decide,by decide⟩ (fun w h Y=>PySem.W.kIn_of Y) ?V ?F
 case V=>exact K14.ZS
 case F =>
  intro w mg fa h KX G hmg
  refine' K14.all_mk KX G hmg ?nG ?nH ?nJ ?nM ?Qo ?Qp ?Qq ?Qs ?wA ?wB ?wC ?wD ?Aa ?Ab ?Ac ?Ad ?Ip ?Ir ?Iu ?Iv ?Qt ?Qu ?Qv ?Qw ?tD ?tE ?tH ?tL ?tM ?tQ ?tR ?tU ?nP ?nQ ?nR ?nT ?qu ?qw ?qx ?qy ?qC ?qD ?qF ?qG ?qH ?qI ?qJ ?qK ?nU ?nW ?nY ?nZ ?wF ?wG ?wH ?wI ?qL ?qM ?qN ?qO ?oh ?ou ?oA ?oE ?qP ?qQ ?qR ?qT ?oF ?oG ?oH ?oJ ?ZC ?ZD ?ZF ?ZG ?Qx ?Ae ?ZJ ?oK ?ZK ?Iw ?ZL ?Af ?Iz
  (case nG=>k_is)
  (case nH=>k_is)
  (case nJ=>k_is)
  (case nM=>k_is)
  (case Qo=>k_is)
  (case Qp=>k_is)
  (case Qq=>k_is)
  (case Qs=>k_is)
  (case wA=>k_is)
  (case wB=>k_is)
  (case wC=>k_is)
  (case wD=>k_is)
  (case Aa=>k_is)
  (case Ab=>k_is)
  (case Ac=>k_is)
  (case Ad=>k_is)
  (case Ip=>k_is)
  (case Ir=>k_is)
  (case Iu=>k_is)
  (case Iv=>k_is)
  (case Qt=>k_is)
  (case Qu=>k_is)
  (case Qv=>k_is)
  (case Qw=>k_is)
  (case tD=>k_is)
  (case tE=>k_is)
  (case tH=>k_is)
  (case tL=>k_is)
  (case tM=>k_is)
  (case tQ=>k_is)
  (case tR=>k_is)
  (case tU=>k_is)
  (case nP=>k_is)
  (case nQ=>k_is)
  (case nR=>k_is)
  (case nT=>k_is)
  (case qu=>k_is)
  (case qw=>k_is)
  (case qx=>k_is)
  (case qy=>k_is)
  (case qC=>k_is)
  (case qD=>k_is)
  (case qF=>k_is)
  (case qG=>k_is)
  (case qH=>k_is)
  (case qI=>k_is)
  (case qJ=>k_is)
  (case qK=>k_is)
  (case nU=>k_is)
  (case nW=>k_is)
  (case nY=>k_is)
  (case nZ=>k_is)
  (case wF=>k_is)
  (case wG=>k_is)
  (case wH=>k_is)
  (case wI=>k_is)
  (case qL=>k_is)
  (case qM=>k_is)
  (case qN=>k_is)
  (case qO=>k_is)
  (case oh=>k_is)
  (case ou=>k_is)
  (case oA=>k_is)
  (case oE=>k_is)
  (case qP=>k_is)
  (case qQ=>k_is)
  (case qR=>k_is)
  (case qT=>k_is)
  (case oF=>k_is)
  (case oG=>k_is)
  (case oH=>k_is)
  (case oJ=>k_is)
  (case ZC=>k_is)
  (case ZD=>k_is)
  (case ZF=>k_is)
  (case ZG=>k_is)
  (case Qx=>k_is)
  (case Ae=>k_is)
  (case ZJ=>k_is)
  (case oK=>k_is)
  (case ZK=>k_is)
  (case Iw=>k_is)
  (case ZL=>k_is)
  (case Af=>k_is)
  (case Iz=>k_is)
