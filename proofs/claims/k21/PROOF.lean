import PyProof.Rows.All
import Wide.All
import OpenK.AllK
import Wide.FinOn
import Lean
import PyProof.EqAt
import PyProof.EqKinds
import PyProof.TupleCall
import PyProof.NeKinds
import PyProof.CompUse
import PyProof.NsDelKeeps
import KE.KTryMore
import KE.RegKTryMore
import PyProof.SetNew
import PyProof.TupleKey
import PyProof.Rows.SetFrom
import PyProof.WalksMore
import PyProof.CollectWalk
import PyProof.FactsAll.set
import PyProof.FactsAll.set_1
import PyProof.FactsAll.set_2
import KE.KSortTup
import PyProof.ListRange
import PyProof.DictRoadsH
import PyProof.WalksEnum
import PyProof.EnumMake
import PyProof.Rows.EnumRows
import KE.KRevIter
import PyProof.DictWalks
import PyProof.ZipIter
import PyProof.Draws
import PyProof.WalkInts
import PyProof.FactsAll.dict_1
import PyProof.FactsAll.tuple_2
import PyProof.ConsumeS
import PySem.Challenge.RW_edgemoss_k21_papers_of_staying_judged
set_option Elab.async false
set_option linter.all false
set_option maxRecDepth 100000
set_option maxHeartbeats 4000000
namespace L2
open PySem PySem.Spec PyProof.Rows
abbrev fW:=Sum Int Str
def xn:fW->Value->Bool
  | .inl k,v=>Value.isInt k v
  | .inr x,v=>Value.isStrOf x v
def CN (w:World):fW->Int
  | .inl k=>hashInt k
  | .inr x=>hashStr w x
theorem cu:∀ {k:fW} {v:Value},xn k v=true->(∃ i t,k=Sum.inl i/\v=Value.int i t)∨(∃ x t,k=Sum.inr x/\v=Value.str x t)
  | .inl i,v,h=>by
    obtain ⟨t,e⟩:=Value.isInt_shape (k:=i) (v:=v) h
    exact .inl ⟨i,t,rfl,e⟩
  | .inr x,v,h=>by
    obtain ⟨t,e⟩:=Value.isStrOf_shape (x:=x) (v:=v) h
    exact .inr ⟨x,t,rfl,e⟩
theorem zy (a b:Int):decide ((Sum.inl a:fW)=Sum.inl b)=(a == b):=by
  by_cases e:a=b
  . subst e;simp
  . have h:¬ (Sum.inl a:fW)=Sum.inl b:=fun q=>e (Sum.inl.inj q)
    rw [decide_eq_false h]
    exact (beq_eq_false_iff_ne.mpr e).symm
theorem zz (a b:Str):decide ((Sum.inr a:fW)=Sum.inr b)=decide (a=b):=by
  by_cases e:a=b
  . subst e;simp
  . have h:¬ (Sum.inr a:fW)=Sum.inr b:=fun q=>e (Sum.inr.inj q)
    rw [decide_eq_false h,decide_eq_false e]
theorem zA (a:Int) (b:Str):decide ((Sum.inl a:fW)=Sum.inr b)=false:=decide_eq_false (fun q=>nomatch q)
theorem zB (a:Str) (b:Int):decide ((Sum.inr a:fW)=Sum.inl b)=false:=decide_eq_false (fun q=>nomatch q)
def qQ (prog:Program) (w:World):PySem.KeyKind prog w fW where
  is:=xn
  hash:=CN w
  inj:=fun v a b ha hb=>by
    rcases cu ha with ⟨i,t,rfl,rfl⟩|⟨x,t,rfl,rfl⟩
    . rcases cu hb with ⟨j,u,rfl,e⟩|⟨y,u,rfl,e⟩
      . injection e with e1 _;rw [e1]
      . exact nomatch e
    . rcases cu hb with ⟨j,u,rfl,e⟩|⟨y,u,rfl,e⟩
      . exact nomatch e
      . injection e with e1 _;rw [e1]
  byValue := fun k v h => by
    rcases cu h with ⟨i,t,rfl,rfl⟩|⟨x,t,rfl,rfl⟩ <;> rfl
  pyHash:=fun hv h=>by
    rcases cu hv with ⟨i,t,rfl,rfl⟩|⟨x,t,rfl,rfl⟩
    . exact wpAny_pyHash_int h
    . exact wpAny_pyHash_str h
  eqBool:=fun hu hv h=>by
    rcases cu hu with ⟨i,t,rfl,rfl⟩|⟨x,t,rfl,rfl⟩
    . rcases cu hv with ⟨j,u,rfl,rfl⟩|⟨y,u,rfl,rfl⟩
      . rw [zy] at h;exact wpAny_eqBool_int h
      . rw [zA] at h;exact SeqAt.EqAt.int_str i t y u _ _ _ _ h
    . rcases cu hv with ⟨j,u,rfl,rfl⟩|⟨y,u,rfl,rfl⟩
      . rw [zB] at h;exact SeqAt.EqAt.str_int x t j u _ _ _ _ h
      . rw [zz] at h;exact wpAny_eqBool_str h
  «strs»:=fun k x t v h=>by
    rcases cu h with ⟨i,u,rfl,e⟩|⟨y,u,rfl,e⟩
    . exact nomatch e
    . injection e with e1 _
      subst e1
      cases v <;> rfl
end L2
namespace L2
open PySem PySem.Spec PyProof.Rows
inductive V where
  | non|bl (b:Bool)|int (i:Int)|str (x:Str)|byt (b:Array UInt8)|flt (b:UInt64)|ref (a:Addr)|ty (n:String)
  deriving DecidableEq
def RelV:V->Value->Prop
  | .non,u=>u=Value.none
  | .bl b,u=>u=Value.bool b
  | .int i,u=>∃ t,u=Value.int i t
  | .str x,u=>∃ t,u=Value.str x t
  | .byt b,u=>∃ t,u=Value.bytes b t
  | .flt b,u=>∃ t,u=Value.float b t
  | .ref a,u=>u=Value.ref a
  | .ty n,u=>u=Value.type n
abbrev Vals:List V->List Value->Prop:=Paired RelV
theorem Vals.length {xs:List V} {us:List Value} (r:Vals xs us):xs.length=us.length:=Paired.length r
theorem Vals.get:∀ {xs:List V} {us:List Value} {i:Nat} {x:V},Vals xs us->xs[i]?=some x->∃ u,us[i]?=some u/\RelV x u
  | _,_,_,_,.nil,e=>by simp at e
  | _,_,0,_,.cons r _,e=>by simp at e;subst e;exact ⟨_,rfl,r⟩
  | _,_,i + 1,x,.cons _ t,e=>by
    obtain ⟨u,h1,h2⟩:=Vals.get (i:=i) (x:=x) t (by simpa using e)
    exact ⟨u,by simpa using h1,h2⟩
theorem Vals.set {x:V} {u:Value} (r:RelV x u):∀ {xs:List V} {us:List Value} (i:Nat),Vals xs us->Vals (xs.set i x) (us.set i u)
  | _,_,_,.nil=>.nil
  | _,_,0,.cons _ t=>.cons r t
  | _,_,i + 1,.cons q t=>.cons q (Vals.set r i t)
theorem Vals.append:∀ {xs ys:List V} {us ws:List Value},Vals xs us->Vals ys ws->Vals (xs++ys) (us++ws)
  | _,_,_,_,.nil,s=>s
  | _,_,_,_,.cons r t,s=>.cons r (Vals.append t s)
theorem Vals.take:∀ {xs:List V} {us:List Value} (n:Nat),Vals xs us->Vals (xs.take n) (us.take n)
  | _,_,0,_=>.nil
  | _,_,_ + 1,.nil=>.nil
  | _,_,n + 1,.cons r t=>.cons r (Vals.take n t)
theorem Vals.drop:∀ {xs:List V} {us:List Value} (n:Nat),Vals xs us->Vals (xs.drop n) (us.drop n)
  | _,_,0,r=>r
  | _,_,_ + 1,.nil=>.nil
  | _,_,n + 1,.cons _ t=>Vals.drop n t
theorem Vals.none_of:∀ {xs:List V} {us:List Value} {i:Nat},Vals xs us->xs[i]?=none->us[i]?=none:=fun {xs us i} r e=>by
  have h1:=r.length
  have h2:xs.length<=i:=List.getElem?_eq_none_iff.mp e
  exact List.getElem?_eq_none_iff.mpr (by omega)
def zC:Option V->Option Value->Prop
  | some v,some u=>RelV v u
  | none,none=>True
  | _,_=>False
def KV {κ:Type}:List (κ×V)->List (κ×Value)->Prop:=Paired fun (p:κ×V) (q:κ×Value)=>p.1=q.1/\RelV p.2 q.2
def kV:fW->V
  | .inl i=>.int i
  | .inr x=>.str x
inductive HO where
  /-- a list -/
  | lst (xs:List V)
  /-- a tuple (never changes) -/
  | tup (xs:List V)
  /-- a dict whose keys are ints and texts;one whose keys are tuples of ints and texts (the empty one is both) -/
  | dK (kvs:List (fW×V))|dT (kvs:List (List fW×V))
  /-- a set of ints: its members,its size -/
  | set (S:Int->Bool) (n:Nat)
  /-- an instance of the class at C,its dict at dx,its attributes -/
  | ins (C dx:Addr) (fs:List (Str×V))
  /-- the dict of the instance at x -/
  | own (x:Addr)
  /-- the dict of an exception -/
  | xd (fs:List (Str×V))
  /-- a bound method,f of x -/
  | met (f x:Addr)
  /-- a range object lo,lo + 1,.. below hi -/
  | rng (lo hi:Int)
  /-- a thing that is known to the object (the script;a dict while a loop walks it): read,never written while it is so -/
  | frz (o:Obj) (u:HO)
  /-- a code object's table -/
  | tbl (ps:Array Value)
  /-- any other thing,by what is true of its one object (a def of one's own: SetO a S n:=HO.ext fun h=>..) -/
  | ext (φ:Heap->Prop)
abbrev Hp:=Addr->Option HO
def bc (H:Hp) (a:Addr) (o:HO):Hp:=fun b=>if b=a then some o else H b
theorem aO {H:Hp} {a:Addr} {o:HO}:bc H a o a=some o:=by unfold bc;rw [if_pos rfl]
theorem aI {H:Hp} {a b:Addr} {o:HO} (h:b≠a):bc H a o b=H b:=by unfold bc;rw [if_neg h]
theorem aR {H:Hp} {a b:Addr} {o:HO} (h:H a=some o) (h':H b=none):a≠b:=by
  intro e;subst e;rw [h] at h';cases h'
section
variable (P:Program) (w:World)
def ObjOk (H:Hp) (h:Heap) (a:Addr):HO->Prop
  | .lst xs=>xs.length<=sizeLine/\∃ (its:List Value) (n:Nat),Vals xs its/\h.get? a=some { cls:=.type "list",data:=.seq its.toArray n }
  | .tup xs=>xs.length<=sizeLine/\∃ its:List Value,Vals xs its/\IsTup h a its.toArray
  | .dK kvs=>kvs.length<=sizeLine/\(a == sysModules)=false/\∃ vs,KV kvs vs/\h.DictOf (qQ P w) a vs
  | .dT kvs=>kvs.length<=sizeLine/\(a == sysModules)=false/\∃ xs:List (List fW×Addr×Value),
      Paired (fun (p:List fW×V) (q:List fW×Addr×Value)=>p.1=q.1/\H q.2.1=some (.tup (p.1.map kV))/\RelV p.2 q.2.2) kvs xs /\
      ∃ o es ep,h.get? a=some o/\o.ExactDict/\o.data=.dict es ep/\es.toList=xs.map (entryOfKey (tupleKind (qQ P w)))/\(xs.map (·.1)).Nodup
  | .set S n=>h.SetOf (intKind P w) a S n
  | .ins C dx fs=>H dx=some (.own a)/\fs.length<=1000/\dx≠a/\h.get? a=some (PySem.W.instObj C dx) /\
      ∃ mA,h.Ns1 dx mA/\(∀ f,zC (fs.lookup f) (mA f))/\PySem.Within mA (fs.map (·.1))
  | .own _=>∃ o,h.get? a=some o
  | .xd fs=>∃ mA,h.Ns1 a mA/\∀ f,zC (fs.lookup f) (mA f)
  | .rng lo hi=>∃ t u v,h.get? a=some { cls:=.type "range",data:=.fields #[.int lo t,.int hi u,.int 1 v] }
  | .frz o u=>h.get? a=some o/\ObjOk H h a u
  | .tbl ps=>h.get? a=some { cls:=.none,data:=.fields ps }
  | .met f x=>h.get? a=some (PySem.W.methodObj (.ref f) (.ref x))
  | .ext φ=>φ h/\(∃ o,h.get? a=some o)/\∀ h1 h2:Heap,φ h1->(∀ o,h1.get? a=some o->h2.get? a=some o)->φ h2
def HOk (H:Hp) (h:Heap):Prop:=∀ a o,H a=some o->ObjOk P w H h a o
end
section
variable {P:Program} {w:World} {H H':Hp} {h h':Heap} {a:Addr} {o:HO}
theorem ObjOk.lt (x:ObjOk P w H h a o):a < h.objs.size:=by
  cases o with
  | lst xs=>obtain ⟨_,_,_,_,e⟩:=x;exact Heap.lt_size e
  | tup xs=>obtain ⟨_,_,_,p⟩:=x;exact p.lt
  | dK kvs=>obtain ⟨_,_,_,_,o,_,_,e,_⟩:=x;exact Heap.lt_size e
  | dT kvs=>obtain ⟨_,_,_,_,o,_,_,e,_⟩:=x;exact Heap.lt_size e
  | set S n=>obtain ⟨o,_,_,_,e,_⟩:=x;exact Heap.lt_size e
  | ins C dx fs=>obtain ⟨_,_,_,e,_⟩:=x;exact Heap.lt_size e
  | own y=>obtain ⟨_,e⟩:=x;exact Heap.lt_size e
  | xd fs=>obtain ⟨_,⟨_,_,_,e,_⟩,_⟩:=x;exact Heap.lt_size e
  | rng lo hi=>obtain ⟨_,_,_,e⟩:=x;exact Heap.lt_size e
  | frz ob u=>obtain ⟨e,_⟩:=x;exact Heap.lt_size e
  | tbl ps=>exact Heap.lt_size (show h.get? a=some _ from x)
  | met f y=>exact Heap.lt_size (show h.get? a=some _ from x)
  | ext φ=>obtain ⟨_,⟨_,e⟩,_⟩:=x;exact Heap.lt_size e
theorem Paired.mapP {α β:Type} {F G:α->β->Prop}:∀ {l₁:List α} {l₂:List β},Paired F l₁ l₂->(∀ a b,F a b->G a b)->Paired G l₁ l₂
  | _,_,.nil,_=>.nil
  | _,_,.cons r t,f=>.cons (f _ _ r) (Paired.mapP t f)
theorem ObjOk.stay (x:ObjOk P w H h a o) (k:∀ b u,(b=a∨H b=some (.own a))->h.get? b=some u->h'.get? b=some u)
    (ho:∀ b,H b=some (.own a)->H' b=some (.own a)) (ht:∀ b xs,H b=some (.tup xs)->H' b=some (.tup xs)):ObjOk P w H' h' a o:=by
  induction o with
  | lst xs=>obtain ⟨z,its,n,r,e⟩:=x;exact ⟨z,its,n,r,k _ _ (.inl rfl) e⟩
  | tup xs=>obtain ⟨z,its,r,ob,e,c⟩:=x;exact ⟨z,its,r,ob,k _ _ (.inl rfl) e,c⟩
  | dK kvs=>obtain ⟨z,y,vs,r,ob,es,ep,e,c⟩:=x;exact ⟨z,y,vs,r,ob,es,ep,k _ _ (.inl rfl) e,c⟩
  | dT kvs =>
    obtain ⟨z,y,xs,r,ob,es,ep,e,c⟩:=x
    exact ⟨z,y,xs,Paired.mapP r fun p q z=>⟨z.1,ht _ _ z.2.1,z.2.2⟩,ob,es,ep,k _ _ (.inl rfl) e,c⟩
  | set S n=>obtain ⟨ob,es,ep,t,e,c⟩:=x;exact ⟨ob,es,ep,t,k _ _ (.inl rfl) e,c⟩
  | ins C dx fs =>
    obtain ⟨d,z,ne,e,mA,⟨od,es,ep,e2,c⟩,r⟩:=x
    exact ⟨ho _ d,z,ne,k _ _ (.inl rfl) e,mA,⟨od,es,ep,k _ _ (.inr d) e2,c⟩,r⟩
  | own y=>obtain ⟨ob,e⟩:=x;exact ⟨ob,k _ _ (.inl rfl) e⟩
  | xd fs=>obtain ⟨mA,⟨od,es,ep,e,c⟩,r⟩:=x;exact ⟨mA,⟨od,es,ep,k _ _ (.inl rfl) e,c⟩,r⟩
  | rng lo hi=>obtain ⟨t,u,v,e⟩:=x;exact ⟨t,u,v,k _ _ (.inl rfl) e⟩
  | frz ob u ih=>obtain ⟨e,q⟩:=x;exact ⟨k _ _ (.inl rfl) e,ih q⟩
  | tbl ps =>
    have e:h.get? a=some { cls:=.none,data:=.fields ps }:=x
    show h'.get? a=some { cls:=.none,data:=.fields ps }
    exact k a _ (.inl rfl) e
  | met f y =>
    have e:h.get? a=some (PySem.W.methodObj (.ref f) (.ref y)):=x
    show h'.get? a=some (PySem.W.methodObj (.ref f) (.ref y))
    exact k a _ (.inl rfl) e
  | ext φ=>obtain ⟨p,⟨o,e⟩,st⟩:=x;exact ⟨st _ _ p fun o q=>k _ _ (.inl rfl) q,⟨o,k _ _ (.inl rfl) e⟩,st⟩
theorem HOk.lt (x:HOk P w H h) (e:H a=some o):a < h.objs.size:=(x a o e).lt
theorem HOk.fresh (x:HOk P w H h) (e:h.objs.size<=a):H a=none:=by
  cases q:H a with
  | none=>rfl
  | some u=>exact absurd (Nat.lt_of_lt_of_le (x.lt q) e) (Nat.lt_irrefl _)
theorem HOk.kept (x:HOk P w H h) (k:∀ b u,h.get? b=some u->h'.get? b=some u):HOk P w H h':=fun a o e =>
  (x a o e).stay (fun b u _ q=>k b u q) (fun _ q=>q) fun _ _ q=>q
theorem HOk.laid (x:HOk P w H h) (k:∀ b u,h.get? b=some u->h'.get? b=some u) (hp:h.objs.size<=a) (new:ObjOk P w (bc H a o) h' a o):HOk P w (bc H a o) h':=fun b u e=>by
  have hn:=x.fresh hp
  by_cases hb:b=a
  . subst hb;rw [aO] at e;cases e;exact new
  . rw [aI hb] at e
    exact (x b u e).stay (fun c v _ q=>k c v q) (fun c q=>by rw [aI (aR q hn)];exact q) fun c xs q=>by rw [aI (aR q hn)];exact q
end
def Rd (H:Hp) (a:Addr) (u:HO):Prop:=H a=some u∨∃ o,H a=some (.frz o u)
theorem Rd.of {H:Hp} {a:Addr} {u:HO} (h:H a=some u):Rd H a u:=.inl h
theorem Rd.ok {P:Program} {w:World} {H:Hp} {h:Heap} {a:Addr} {u:HO} (r:Rd H a u) (x:HOk P w H h):ObjOk P w H h a u:=by
  rcases r with r|⟨o,r⟩
  . exact x a u r
  . obtain ⟨_,q⟩:=x a _ r
    exact q
def xo:Option HO->Prop
  | some (.lst _)=>True
  | some (.dK _)=>True
  | some (.dT _)=>True
  | some (.set _ _)=>True
  | some (.ins _ _ _)=>True
  | some (.ext _)=>True
  | _=>False
section
variable {P:Program} {w:World} {H:Hp} {h h':Heap} {x e:Addr} {o':HO}
theorem HOk.write (ok:HOk P w H h) (mu:xo (H x)) (he:e=x∨H e=some (.own x)) (k:∀ b u,b≠e->h.get? b=some u->h'.get? b=some u) (heo:∃ u,h'.get? e=some u)
    (new:ObjOk P w (bc H x o') h' x o'):HOk P w (bc H x o') h':=fun b u q=>by
  have nown:∀ c y,H c=some (.own y)->c≠x:=fun c y r z=>by subst z;rw [r] at mu;exact mu
  have ntup:∀ c xs,H c=some (.tup xs)->c≠x:=fun c xs r z=>by subst z;rw [r] at mu;exact mu
  by_cases hb:b=x
  . subst hb;rw [aO] at q;cases q;exact new
  . rw [aI hb] at q
    by_cases hbe:b=e
    . have q':H b=some (.own x):=by
        rcases he with z|z
        . exact absurd (hbe.trans z) hb
        . rw [hbe];exact z
      rw [q] at q';cases q'
      obtain ⟨v,hv⟩:=heo
      exact ⟨v,by rw [hbe];exact hv⟩
    . refine (ok b u q).stay (fun c v hc r=>k c v ?_ r) (fun c r=>by rw [aI (nown c b r)];exact r) fun c xs r=>by rw [aI (ntup c xs r)];exact r
      rcases hc with rfl|hc
      . exact hbe
      . rintro rfl
        rcases he with z|z
        . exact nown c b hc z
        . rw [hc] at z;cases z;exact hb rfl
end
structure Un (fs ex:List Addr) (H H':Hp) (h h':Heap):Prop where
  keep:∀ b o,h.get? b=some o->H b=none->b∉fs->b∉ex->h'.get? b=some o
  slot:∀ b o,h.get? b=some o->H b=none->b∈fs->b∉ex->∃ sl,h'.get? b=some { o with slots:=sl }
  free:∀ b o,h.get? b=some o->H b=none->b∉ex->H' b=none
  there:∀ b o,h.get? b=some o->b∉ex->∃ o',h'.get? b=some o'
  tups:∀ b xs,H b=some (.tup xs)->H' b=some (.tup xs)
  frzs:∀ b o u,H b=some (.frz o u)->H' b=some (.frz o u)
  tbls:∀ b ps,H b=some (.tbl ps)->∃ more,H' b=some (.tbl (ps++more))
section
variable {fs fs' ex ex':List Addr} {H H1 H2:Hp} {h h1 h2 h':Heap} {a x e:Addr} {o:HO}
theorem Un.any (u:Un fs ex H H1 h h1) {b:Addr} {ob:Obj} (q:h.get? b=some ob) (n:H b=none) (hx:b∉ex):∃ sl,h1.get? b=some { ob with slots:=sl }:=by
  by_cases hb:b∈fs
  . exact u.slot b ob q n hb hx
  . exact ⟨ob.slots,u.keep b ob q n hb hx⟩
theorem Un.kept (k:∀ b u,h.get? b=some u->h'.get? b=some u):Un fs ex H H h h' :=
  ⟨fun b ob q _ _ _=>k b ob q,fun b ob q _ _ _=>⟨ob.slots,k b ob q⟩,fun _ _ _ n _=>n,fun b ob q _=>⟨ob,k b ob q⟩,fun _ _ q=>q,fun _ _ _ q=>q,fun _ ps q=>⟨#[],by rw [q];simp⟩⟩
theorem Un.refl:Un fs ex H H h h:=Un.kept fun _ _ q=>q
theorem Un.laid (k:∀ b u,h.get? b=some u->h'.get? b=some u) (hp:h.objs.size<=a) (hn:H a=none):Un fs ex H (bc H a o) h h' where
  keep:=fun b u q _ _ _=>k b u q
  slot:=fun b u q _ _ _=>⟨u.slots,k b u q⟩
  free:=fun b u q n _=>by rw [aI (Nat.ne_of_lt (Nat.lt_of_lt_of_le (Heap.lt_size q) hp))];exact n
  there:=fun b u q _=>⟨u,k b u q⟩
  tups:=fun b xs q=>by rw [aI (aR q hn)];exact q
  frzs:=fun b u xs q=>by rw [aI (aR q hn)];exact q
  tbls:=fun b ps q=>⟨#[],by rw [aI (aR q hn),q];simp⟩
theorem Un.write (mu:xo (H x)) (he:e=x∨H e=some (.own x)) (k:∀ b u,b≠e->h.get? b=some u->h'.get? b=some u) (heo:∃ u,h'.get? e=some u):Un fs ex H (bc H x o) h h':=by
  have hx:∀ b,H b=none->b≠x:=fun b n z=>by subst z;rw [n] at mu;exact mu
  have hb:∀ b,H b=none->b≠e:=fun b n z=>by
    subst z
    rcases he with r|r
    . exact hx b n r
    . rw [n] at r;cases r
  have hm:∀ b u,H b=some u->¬ xo (some u)->b≠x:=fun b u q nm z=>by subst z;rw [q] at mu;exact nm mu
  refine ⟨fun b u q n _ _=>k b u (hb b n) q,fun b u q n _ _=>⟨u.slots,k b u (hb b n) q⟩,fun b u q n _=>by rw [aI (hx b n)];exact n,fun b u q _=>?_,
    fun b xs q=>by rw [aI (hm b _ q fun z=>z)];exact q,fun b u xs q=>by rw [aI (hm b _ q fun z=>z)];exact q,fun b ps q=>⟨#[],by rw [aI (hm b _ q fun z=>z),q];simp⟩⟩
  by_cases hbe:b=e
  . subst hbe;exact heo
  . exact ⟨u,k b u hbe q⟩
end
def xp (h:Heap) (H:Hp):List Addr:=(List.range h.objs.size).filter fun a=>(H a).isSome
def jc (h:Heap) (H:Hp):Heap:=PySem.W.hideAll h (xp h H)
theorem tq (h:Heap) (H:Hp):(jc h H).objs.size=h.objs.size:=PySem.W.hideAll_size _ _
theorem vE {h:Heap} {H:Hp} {b:Addr} {o:Obj} (e:h.get? b=some o) (n:H b=none):(jc h H).get? b=some o :=
  PySem.W.hideAll_get _ e fun hm=>by
    have q:(H b).isSome=true:=(List.mem_filter.mp hm).2
    rw [n] at q;simp at q
theorem xQ {h:Heap} {H:Hp} {b:Addr} {o:Obj} (e:(jc h H).get? b=some o):h.get? b=some o/\H b=none:=by
  have e':h.get? b=some o:=PySem.W.of_hideAll (xp h H) e
  refine ⟨e',?_⟩
  cases q:H b with
  | none=>rfl
  | some x =>
    have hm:b∈xp h H:=List.mem_filter.mpr ⟨List.mem_range.mpr (Heap.lt_size e'),by simp [q]⟩
    have z:(jc h H).get? b=none:=PySem.W.hideAll_none (xp h H) hm
    rw [z] at e;cases e
def xR (g h:Heap) (L:Addr):List (Addr×Obj):=(List.range h.objs.size).filterMap fun a=>if a=L∨(g.get? a).isSome=true then none else (h.get? a).map fun o=>(a,o)
def rest (g h:Heap) (L d:Addr):List (Addr×Obj):=(xR g h L).filter fun p=>decide (p.1≠d)
end L2
namespace L2
open PySem PySem.Spec PyProof.Rows
structure Mod (K:PySem.W.Frag) (mg:Str->Option Value) (base:Heap):Prop where
  kin:K.In base
  glob:base.Ns mainGlobals mg
  blt:∃ mb,base.Ns builtinsNs mb/\∀ x:Str,x≠"__name__"->mb x=bootBuiltins x
  nolimit:base.NoLimit
structure Cx where
  prog:Program
  w:World
  K:PySem.W.Frag
  mg:Str->Option Value
  base:Heap
  A:Around
  N:List Str
  s₀:Shared
  H₀:Hp
  env:Env
  outer:List Env
  stack:List Env
  ex:List Addr
  fn:Str->Bool
  calm:Bool
  pn:List (Addr×Obj)
  xe:Value->Shared->Prop
def cV (l:List Env):List Addr:=l.filterMap (·.frame)
abbrev Cx.fs (X:Cx):List Addr:=cV X.outer
def kY (sc:Scope) (x:Str):Prop:=sc.names.lookup x=some .local∨sc.names.lookup x=some .cell∨sc.names.lookup x=some .free
def gP (sc:Scope) (x:Str):Prop:=sc.names.lookup x=some .local∨sc.names.lookup x=some .cell
def CO (env:Env) (h:Heap) (m:Str->Option Value) (x:Str) (u:Value):Prop :=
  (env.kindOf x=some .local/\m x=some u)∨((env.kindOf x=some .cell∨env.kindOf x=some .free)/\∃ c,env.cells.lookup x=some c/\h.IsCell c (some u))
structure Cx.Ok (X:Cx):Prop where
  mod:Mod X.K X.mg X.base
  kind:X.env.scope.kind=.function
  glob:X.env.globals=mainGlobals
  blt:X.env.builtins=builtinsNs
  above:X.s₀.heap.objs.size<=X.env.locals
  inj:∀ x y c,X.env.cells.lookup x=some c->X.env.cells.lookup y=some c->x=y
  has:∀ x,(X.env.kindOf x=some .cell∨X.env.kindOf x=some .free)->∃ c,X.env.cells.lookup x=some c
  cab:∀ x c,X.fn x=true->X.env.cells.lookup x=some c->X.s₀.heap.objs.size<=c
  hd:X.calm=true->X.A.handled=none
  frames:X.A.frames=some X.stack
  stk:X.stack=X.outer∨(X.stack=X.env::X.outer/\X.env.frame=some X.env.locals)
  exf:∀ b∈X.ex,b≠X.env.locals/\∀ x c,X.env.cells.lookup x=some c->c≠b
  bs:∀ b o,X.base.get? b=some o->X.s₀.heap.get? b=some o/\X.H₀ b=none
  bsz:X.base.objs.size<=X.s₀.heap.objs.size
  noex:∀ b o,X.base.get? b=some o->b∉X.ex
  exfs:∀ b∈X.ex,b∉X.fs
  funs:X.s₀.heap.FunFrames X.base X.outer
  frf:∀ b∈X.fs,X.H₀ b=none
structure Inv (X:Cx) (pins:List (Addr×Obj)) (σ:List (Option V)) (H:Hp) (s:Shared):Prop where
  ok:X.Ok
  os:s.os=X.s₀.os
  bare:AllBare s.gens
  base:Un X.fs X.ex X.H₀ H X.s₀.heap s.heap
  loc:∃ m,s.heap.Ns X.env.locals m/\∀ (i:Nat) (x:Str) (v:V),X.N[i]?=some x->σ[i]?=some (some v)->kY X.env.scope x->∃ u,RelV v u/\CO X.env s.heap m x u
  cell:∀ x c,X.env.cells.lookup x=some c->∃ v,s.heap.IsCell c v
  free:H X.env.locals=none
  freeC:∀ x c,X.env.cells.lookup x=some c->H c=none
  pin:∀ p∈X.pn++pins,s.heap.get? p.1=some p.2/\H p.1=none/\p.1≠X.env.locals/\p.1∉X.fs/\∀ v,p.2.data≠.cell v
  hok:HOk X.prog X.w H s.heap
  len:σ.length=X.N.length
section
variable {X:Cx} {pins:List (Addr×Obj)} {σ:List (Option V)} {H H':Hp} {s:Shared} {h':Heap}
theorem Cx.Ok.nofr (ok:X.Ok) {b:Addr} {o:Obj} (e:X.base.get? b=some o):b∉X.fs:=fun hb=>by
  have:=(ok.funs.mem hb).1
  rw [e] at this;cases this
theorem Inv.bs (I:Inv X pins σ H s):∀ b o,X.base.get? b=some o->s.heap.get? b=some o/\H b=none:=fun b o e =>
  ⟨I.base.keep b o (I.ok.bs b o e).1 (I.ok.bs b o e).2 (I.ok.nofr e) (I.ok.noex b o e),I.base.free b o (I.ok.bs b o e).1 (I.ok.bs b o e).2 (I.ok.noex b o e)⟩
theorem Inv.bk (I:Inv X pins σ H s):∀ b o,X.base.get? b=some o->s.heap.get? b=some o:=fun b o e=>(I.bs b o e).1
theorem Inv.mod (I:Inv X pins σ H s):Mod X.K X.mg X.base:=I.ok.mod
theorem Inv.kIn (I:Inv X pins σ H s):X.K.In s.heap:=I.ok.mod.kin.keeps I.bk
theorem Inv.lt (I:Inv X pins σ H s):X.env.locals < s.heap.objs.size:=let ⟨_,hn,_⟩:=I.loc;hn.lt
theorem Inv.sz (I:Inv X pins σ H s):X.s₀.heap.objs.size<=s.heap.objs.size:=Nat.le_trans I.ok.above (Nat.le_of_lt I.lt)
theorem Inv.nofs (I:Inv X pins σ H s) {a:Addr} (h:s.heap.objs.size<=a):a∉X.fs:=fun hb=>by
  obtain ⟨_,o,ho,_⟩:=I.ok.funs.mem hb
  exact absurd (Nat.lt_of_lt_of_le (Heap.lt_size ho) (Nat.le_trans I.sz h)) (Nat.lt_irrefl _)
theorem Inv.cne (I:Inv X pins σ H s):∀ x c,X.env.cells.lookup x=some c->c≠X.env.locals:=fun x c e z=>by
  obtain ⟨v,o,ho,hd⟩:=I.cell x c e
  obtain ⟨m,⟨o',es,ep,ho',hd',_⟩,_⟩:=I.loc
  rw [z,ho'] at ho;cases ho;rw [hd'] at hd;cases hd
theorem Inv.funs (I:Inv X pins σ H s):s.heap.FunFrames X.base X.outer:=by
  have all:∀ (l:List Env),(∀ b∈cV l,b∈X.fs)->X.s₀.heap.FunFrames X.base l->s.heap.FunFrames X.base l:=by
    intro l
    induction l with
    | nil=>intro _ _;trivial
    | cons env r ih =>
      intro hs hl
      obtain ⟨hk,⟨L,o,hf,hn,ho,hd⟩,hr⟩:=hl
      have hL:L∈X.fs:=hs L (by unfold cV;rw [List.filterMap_cons,hf];exact List.mem_cons_self)
      obtain ⟨sl,e⟩:=I.base.slot L o ho (I.ok.frf L hL) hL fun z=>I.ok.exfs L z hL
      exact ⟨hk,⟨L,_,hf,hn,e,hd⟩,ih (fun b hb=>hs b (by unfold cV;rw [List.filterMap_cons,hf];exact List.mem_cons_of_mem _ hb)) hr⟩
  exact all X.outer (fun _ hb=>hb) I.ok.funs
theorem Inv.stack (I:Inv X pins σ H s):s.heap.FunFrames X.base X.stack:=by
  rcases I.ok.stk with e|⟨e,hf⟩
  . rw [e];exact I.funs
  . rw [e]
    obtain ⟨m,hn,_⟩:=I.loc
    refine .cons (by rw [I.ok.kind];decide) hf hn ?_ I.funs
    exact Heap.get?_none_of_le (Nat.le_trans I.ok.bsz I.ok.above)
theorem Inv.stkSub (I:Inv X pins σ H s):∀ b∈cV X.stack,b∈X.env.locals::X.fs:=fun b hb=>by
  rcases I.ok.stk with e|⟨e,hf⟩
  . rw [e] at hb;exact List.mem_cons_of_mem _ hb
  . rw [e] at hb
    unfold cV at hb
    rw [List.filterMap_cons,hf] at hb
    exact hb
theorem Inv.stkFree (I:Inv X pins σ H s):∀ b∈cV X.stack,H b=none:=fun b hb=>by
  rcases List.mem_cons.mp (I.stkSub b hb) with e|hb
  . rw [e];exact I.free
  . obtain ⟨_,o,ho,_⟩:=I.ok.funs.mem hb
    exact I.base.free b o ho (I.ok.frf b hb) fun z=>I.ok.exfs b z hb
theorem Inv.step {g':Array GenState} {t':Nat} {d':Drawn} {ch:List Addr} (I:Inv X pins σ H s)
    (hch:∀ b∈ch,(b∈X.ex∨X.s₀.heap.objs.size<=b)/\b≠X.env.locals/\(∀ x c,X.env.cells.lookup x=some c->c≠b)/\∀ p∈X.pn++pins,p.1≠b)
    (keep:∀ b o,b≠X.env.locals->b∉X.fs->b∉ch->s.heap.get? b=some o->H b=none->h'.get? b=some o)
    (slot:∀ b o,b≠X.env.locals->b∈X.fs->b∉ch->s.heap.get? b=some o->H b=none->∃ sl,h'.get? b=some { o with slots:=sl }) (free:∀ b o,b∉ch->s.heap.get? b=some o->H b=none->H' b=none)
    (there:∀ b o,b∉ch->s.heap.get? b=some o->∃ o',h'.get? b=some o')
    (tups:∀ b xs,H b=some (.tup xs)->H' b=some (.tup xs)) (frzs:∀ b o u,H b=some (.frz o u)->H' b=some (.frz o u)) (tbls:∀ b ps,H b=some (.tbl ps)->∃ more,H' b=some (.tbl (ps++more)))
    (ns:∀ m,s.heap.Ns X.env.locals m->h'.Ns X.env.locals m) (hok:HOk X.prog X.w H' h') (hg:AllBare g') :
    Inv X pins σ H' { s with heap:=h',gens:=g',drawn:=d',toks:=t' }:=by
  have neL:∀ b o,X.s₀.heap.get? b=some o->b≠X.env.locals:=fun b o e=>Nat.ne_of_lt (Nat.lt_of_lt_of_le (Heap.lt_size e) I.ok.above)
  have neC:∀ b o,X.s₀.heap.get? b=some o->b∉X.ex->b∉ch:=fun b o e hx hb=>by
    rcases (hch b hb).1 with z|z
    . exact hx z
    . exact absurd (Nat.lt_of_lt_of_le (Heap.lt_size e) z) (Nat.lt_irrefl _)
  have cellK:∀ x c,X.env.cells.lookup x=some c->∀ v,s.heap.IsCell c v->h'.IsCell c v:=fun x c e v ⟨o,ho,hd⟩=>by
    have nch:c∉ch:=fun z=>(hch c z).2.2.1 x c e rfl
    by_cases hc:c∈X.fs
    . obtain ⟨sl,q⟩:=slot c o (I.cne x c e) hc nch ho (I.freeC x c e)
      exact ⟨_,q,hd⟩
    . exact ⟨o,keep c o (I.cne x c e) hc nch ho (I.freeC x c e),hd⟩
  refine ⟨I.ok,I.os,hg,⟨fun b o e n hb hx=>?_,fun b o e n hb hx=>?_,fun b o e n hx=>?_,fun b o e hx=>?_,fun b xs e=>tups b xs (I.base.tups b xs e),fun b o xs e=>frzs b o xs (I.base.frzs b o xs e),fun b ps e=>?_⟩,?_,fun x c e=>?_,?_,fun x c e=>?_,fun p hp=>?_,hok,I.len⟩
  . exact keep b o (neL b o e) hb (neC b o e hx) (I.base.keep b o e n hb hx) (I.base.free b o e n hx)
  . obtain ⟨sl,e1⟩:=I.base.slot b o e n hb hx
    obtain ⟨sl',e2⟩:=slot b _ (neL b o e) hb (neC b o e hx) e1 (I.base.free b o e n hx)
    exact ⟨sl',e2⟩
  . obtain ⟨o',e1⟩:=I.base.there b o e hx
    exact free b o' (neC b o e hx) e1 (I.base.free b o e n hx)
  . obtain ⟨o',e1⟩:=I.base.there b o e hx
    exact there b o' (neC b o e hx) e1
  . obtain ⟨m1,e1⟩:=I.base.tbls b ps e
    obtain ⟨m2,e2⟩:=tbls b _ e1
    exact ⟨m1++m2,by rw [e2,Array.append_assoc]⟩
  . obtain ⟨m,hn,hl⟩:=I.loc
    refine ⟨m,ns m hn,fun i x v e1 e2 e3=>?_⟩
    obtain ⟨u,r,l⟩:=hl i x v e1 e2 e3
    refine ⟨u,r,?_⟩
    rcases l with l|⟨k,c,e,z⟩
    . exact .inl l
    . exact .inr ⟨k,c,e,cellK x c e _ z⟩
  . obtain ⟨v,z⟩:=I.cell x c e
    exact ⟨v,cellK x c e v z⟩
  . obtain ⟨m,⟨o,_,_,ho,_⟩,_⟩:=I.loc
    exact free _ o (fun z=>(hch _ z).2.1 rfl) ho I.free
  . obtain ⟨v,o,ho,hd⟩:=I.cell x c e
    exact free c o (fun z=>(hch c z).2.2.1 x c e rfl) ho (I.freeC x c e)
  . obtain ⟨e,n,ne,nf,d⟩:=I.pin p hp
    have nch:p.1∉ch:=fun z=>(hch p.1 z).2.2.2 p hp rfl
    exact ⟨keep p.1 p.2 ne nf nch e n,free p.1 p.2 nch e n,ne,nf,d⟩
theorem Inv.un {t':Nat} (I:Inv X pins σ H s) (u:Un X.fs [] H H' s.heap h') (hok:HOk X.prog X.w H' h'):Inv X pins σ H' { s with heap:=h',toks:=t' }:=by
  obtain ⟨m,⟨o,es,ep,ho,r⟩,_⟩:=id I.loc
  obtain ⟨sl,hL⟩:=u.any ho I.free (by simp)
  exact I.step (g':=s.gens) (d':=s.drawn) (ch:=[]) (fun _ z=>nomatch z) (fun b o _ hb _ e n=>u.keep b o e n hb (by simp)) (fun b o _ hb _ e n=>u.slot b o e n hb (by simp)) (fun b o _ e n=>u.free b o e n (by simp)) (fun b o _ e=>u.there b o e (by simp)) u.tups u.frzs u.tbls (fun m' hm=>by
    obtain ⟨o',es',ep',ho',r'⟩:=hm
    rw [ho] at ho';cases ho'
    exact ⟨_,es',ep',hL,r'⟩) hok I.bare
theorem Inv.call {g':Array GenState} {t':Nat} {d':Drawn} {ch:List Addr} (I:Inv X pins σ H s) (u:Un (cV X.stack) ch H H' s.heap h') (hok:HOk X.prog X.w H' h') (hg:AllBare g')
    (hch:∀ b∈ch,(b∈X.ex∨X.s₀.heap.objs.size<=b)/\b≠X.env.locals/\(∀ x c,X.env.cells.lookup x=some c->c≠b)/\∀ p∈X.pn++pins,p.1≠b) :
    Inv X pins σ H' { s with heap:=h',gens:=g',drawn:=d',toks:=t' }:=by
  obtain ⟨m,⟨o,es,ep,ho,r⟩,_⟩:=id I.loc
  obtain ⟨sl,hL⟩:=u.any ho I.free fun z=>(hch _ z).2.1 rfl
  exact I.step (ch:=ch) hch (fun b o hL hb hc e n=>u.keep b o e n (fun z=>(List.mem_cons.mp (I.stkSub b z)).elim hL hb) hc) (fun b o _ _ hc e n=>u.any e n hc) (fun b o hc e n=>u.free b o e n hc) (fun b o hc e=>u.there b o e hc) u.tups u.frzs u.tbls (fun m' hm=>by
    obtain ⟨o',es',ep',ho',r'⟩:=hm
    rw [ho] at ho';cases ho'
    exact ⟨_,es',ep',hL,r'⟩) hok hg
theorem Inv.turned {t':Nat} {it:Addr} (I:Inv X pins σ H s) (k:∀ b o,b≠it->s.heap.get? b=some o->h'.get? b=some o) (hn:H it=none) (hL:it≠X.env.locals)
    (h1:it∈X.ex∨X.s₀.heap.objs.size<=it) (h2:∀ x c,X.env.cells.lookup x=some c->c≠it) (h3:∀ p∈X.pn++pins,p.1≠it):Inv X pins σ H { s with heap:=h',toks:=t' }:=by
  have nit:∀ b u,H b=some u->b≠it:=fun b u e z=>by rw [z,hn] at e;cases e
  refine I.step (g':=s.gens) (d':=s.drawn) (ch:=[it]) (fun b hb=>?_) (fun b o _ _ hc e _=>k b o (fun z=>hc (by simp [z])) e) (fun b o _ _ hc e _=>⟨o.slots,k b o (fun z=>hc (by simp [z])) e⟩) (fun _ _ _ _ n=>n)
    (fun b o hc e=>⟨o,k b o (fun z=>hc (by simp [z])) e⟩) (fun _ _ e=>e) (fun _ _ _ e=>e) (fun b ps e=>⟨#[],by rw [e];simp⟩) (fun m hm=>?_) (fun b u e=>?_) I.bare
  . have e:b=it:=by simpa using hb
    subst e
    exact ⟨h1,hL,h2,h3⟩
  . obtain ⟨o,es,ep,ho,r⟩:=hm
    exact ⟨o,es,ep,k _ o (Ne.symm hL) ho,r⟩
  . refine (I.hok b u e).stay (fun c v hc q=>k c v ?_ q) (fun _ q=>q) fun _ _ q=>q
    rcases hc with z|z
    . rw [z];exact nit b u e
    . exact nit c _ z
theorem Inv.tok (I:Inv X pins σ H s) (t:Nat):Inv X pins σ H { s with toks:=t }:=I.un (h':=s.heap) (t':=t) Un.refl I.hok
theorem Inv.kept {t':Nat} (I:Inv X pins σ H s) (k:∀ b u,s.heap.get? b=some u->h'.get? b=some u):Inv X pins σ H { s with heap:=h',toks:=t' }:=I.un (Un.kept k) (I.hok.kept k)
theorem Inv.laid {a:Addr} {o:HO} {t':Nat} (I:Inv X pins σ H s) (k:∀ b u,s.heap.get? b=some u->h'.get? b=some u) (hp:s.heap.objs.size<=a) (new:ObjOk X.prog X.w (bc H a o) h' a o) :
    Inv X pins σ (bc H a o) { s with heap:=h',toks:=t' }:=I.un (Un.laid k hp (I.hok.fresh hp)) (I.hok.laid k hp new)
theorem Inv.write {x e:Addr} {o:HO} {t':Nat} (I:Inv X pins σ H s) (mu:xo (H x)) (he:e=x∨H e=some (.own x)) (k:∀ b u,b≠e->s.heap.get? b=some u->h'.get? b=some u) (heo:∃ u,h'.get? e=some u)
    (new:ObjOk X.prog X.w (bc H x o) h' x o):Inv X pins σ (bc H x o) { s with heap:=h',toks:=t' }:=I.un (Un.write mu he k heo) (I.hok.write mu he k heo new)
theorem Inv.pins_of {pins':List (Addr×Obj)} (I:Inv X pins σ H s) (h:∀ p∈pins',s.heap.get? p.1=some p.2/\H p.1=none/\p.1≠X.env.locals/\p.1∉X.fs/\∀ v,p.2.data≠.cell v):Inv X pins' σ H s :=
  ⟨I.ok,I.os,I.bare,I.base,I.loc,I.cell,I.free,I.freeC,fun p hp=>(List.mem_append.mp hp).elim (fun z=>I.pin p (List.mem_append_left _ z)) (h p),I.hok,I.len⟩
theorem ou {N:List Str} (hN:N.Nodup) {i j:Nat} {x:Str} (a:N[i]?=some x) (b:N[j]?=some x):i=j:=by
  obtain ⟨h1,e1⟩:=List.getElem?_eq_some_iff.mp a
  obtain ⟨h2,e2⟩:=List.getElem?_eq_some_iff.mp b
  exact (List.getElem_inj hN).mp (e1.trans e2.symm)
theorem mS {M:Model} {A:Around} {E:Value->Shared->Prop} {i:Nat} {x:Str} {v:V} {u:Value} {Q:Unit->Shared->Prop} (I:Inv X pins σ H s) (hN:X.N.Nodup) (hi:X.N[i]?=some x) (hx:gP X.env.scope x) (r:RelV v u)
    (h:∀ s',Inv X pins (σ.set i (some v)) H s'->(∃ a,Heap.SameBut a s.heap s'.heap/\(a=X.env.locals∨X.env.cells.lookup x=some a))->Q () s') (hf:X.fn x=true∨X.env.scope.names.lookup x=some .local:=by first|exact .inl rfl|exact .inr rfl|assumption):wpAny M A (storeName X.env x u) Q E s:=by
  obtain ⟨m,hn,hl⟩:=id I.loc
  have hcls:(X.env.scope.kind == .class || (X.env.scope.kind == .module && X.env.locals != X.env.globals))=false:=by rw [I.ok.kind];rfl
  have hiσ:i < σ.length:=by rw [I.len];exact (List.getElem?_eq_some_iff.mp hi).1
  have cne:=I.cne
  have tracked:∀ {a:Addr} {h':Heap},(∃ o,s.heap.get? a=some o/\H a=none)->Heap.SameBut a s.heap h'->HOk X.prog X.w H h':=fun {a h'} ha hs b ob e=>by
    obtain ⟨_,_,hfree⟩:=ha
    refine (I.hok b ob e).stay (fun c w' hc q=>(hs.2 c ?_).trans q) (fun _ q=>q) fun _ _ q=>q
    rintro rfl
    rcases hc with rfl|hc
    . rw [hfree] at e;cases e
    . rw [hfree] at hc;cases hc
  rcases hx with hk|hk
  . refine wpAny_storeName_local hk hn (fun h' hn' hs=>?_) hcls
    obtain ⟨oL,_,_,hoL,_⟩:=id hn
    refine h _ ⟨I.ok,I.os,I.bare,⟨fun b o e n hb hx=>?_,fun b o e n hb hx=>?_,I.base.free,fun b o e hx=>?_,I.base.tups,I.base.frzs,I.base.tbls⟩,⟨_,hn',fun j y v' e1 e2 e3=>?_⟩,fun y c e=>?_,I.free,I.freeC,fun p hp=>?_,tracked ⟨oL,hoL,I.free⟩ hs,by simpa using I.len⟩ ⟨_,hs,.inl rfl⟩
    . exact (hs.2 b (Nat.ne_of_lt (Nat.lt_of_lt_of_le (Heap.lt_size e) I.ok.above))).trans (I.base.keep b o e n hb hx)
    . obtain ⟨sl,e1⟩:=I.base.slot b o e n hb hx
      exact ⟨sl,(hs.2 b (Nat.ne_of_lt (Nat.lt_of_lt_of_le (Heap.lt_size e) I.ok.above))).trans e1⟩
    . obtain ⟨o',e1⟩:=I.base.there b o e hx
      exact ⟨o',(hs.2 b (Nat.ne_of_lt (Nat.lt_of_lt_of_le (Heap.lt_size e) I.ok.above))).trans e1⟩
    . by_cases hj:j=i
      . subst hj
        rw [hi] at e1;cases e1
        rw [List.getElem?_set_self hiσ] at e2
        cases e2
        exact ⟨u,r,.inl ⟨hk,by simp⟩⟩
      . rw [List.getElem?_set_ne (Ne.symm hj)] at e2
        obtain ⟨u',r',q⟩:=hl j y v' e1 e2 e3
        refine ⟨u',r',?_⟩
        rcases q with ⟨k,e⟩|⟨k,c,e,z⟩
        . refine .inl ⟨k,?_⟩
          have:y≠x:=fun e=>hj (ou hN e1 (e▸hi))
          simp [this,e]
        . exact .inr ⟨k,c,e,z.sameBut hs (cne y c e)⟩
    . obtain ⟨w',z⟩:=I.cell y c e
      exact ⟨w',z.sameBut hs (cne y c e)⟩
    . obtain ⟨e,n,ne,nf,d⟩:=I.pin p hp
      exact ⟨(hs.2 p.1 ne).trans e,n,ne,nf,d⟩
  . have hfn:X.fn x=true:=by
      rcases hf with z|z
      . exact z
      . rw [z] at hk;cases hk
    obtain ⟨c,hc⟩:=I.ok.has x (.inl hk)
    obtain ⟨w',z⟩:=I.cell x c hc
    refine wpAny_storeName_cell I.ok.kind hk hc z (fun h' hc' hs=>?_)
    obtain ⟨oc,hoc,hocd⟩:=id z
    refine h { s with heap:=h' } ⟨I.ok,I.os,I.bare,⟨fun b o e n hb hx=>?_,fun b o e n hb hx=>?_,I.base.free,fun b o e hx=>?_,I.base.tups,I.base.frzs,I.base.tbls⟩,⟨m,hn.sameBut hs (Ne.symm (cne x c hc)),fun j y v' e1 e2 e3=>?_⟩,fun y c' e=>?_,I.free,I.freeC,fun p hp=>?_,tracked ⟨oc,hoc,I.freeC x c hc⟩ hs,by simpa using I.len⟩ ⟨c,hs,.inr hc⟩
    . exact (hs.2 b (Nat.ne_of_lt (Nat.lt_of_lt_of_le (Heap.lt_size e) (I.ok.cab x c hfn hc)))).trans (I.base.keep b o e n hb hx)
    . obtain ⟨sl,e1⟩:=I.base.slot b o e n hb hx
      exact ⟨sl,(hs.2 b (Nat.ne_of_lt (Nat.lt_of_lt_of_le (Heap.lt_size e) (I.ok.cab x c hfn hc)))).trans e1⟩
    . obtain ⟨o',e1⟩:=I.base.there b o e hx
      exact ⟨o',(hs.2 b (Nat.ne_of_lt (Nat.lt_of_lt_of_le (Heap.lt_size e) (I.ok.cab x c hfn hc)))).trans e1⟩
    . by_cases hj:j=i
      . subst hj
        rw [hi] at e1;cases e1
        rw [List.getElem?_set_self hiσ] at e2
        cases e2
        exact ⟨u,r,.inr ⟨.inl hk,c,hc,hc'⟩⟩
      . rw [List.getElem?_set_ne (Ne.symm hj)] at e2
        obtain ⟨u',r',q⟩:=hl j y v' e1 e2 e3
        refine ⟨u',r',?_⟩
        rcases q with q|⟨k,c',e,z'⟩
        . exact .inl q
        . refine .inr ⟨k,c',e,z'.sameBut hs ?_⟩
          rintro rfl
          exact hj (ou hN e1 (I.ok.inj _ _ _ e hc▸hi))
    . by_cases hcc:c'=c
      . subst hcc;exact ⟨_,hc'⟩
      . obtain ⟨w2,z2⟩:=I.cell y c' e
        exact ⟨w2,z2.sameBut hs hcc⟩
    . obtain ⟨e,n,ne,nf,d⟩:=I.pin p hp
      refine ⟨(hs.2 p.1 ?_).trans e,n,ne,nf,d⟩
      intro q
      rw [q,hoc] at e
      have q':oc=p.2:=Option.some.inj e
      exact d w' (by rw [<- q'];exact hocd)
theorem ox {M:Model} {A:Around} {E:Value->Shared->Prop} {i:Nat} {x:Str} {v:V} {u:Value} {Q:Unit->Shared->Prop} (I:Inv X pins σ H s) (hN:X.N.Nodup) (hi:X.N[i]?=some x) (hx:gP X.env.scope x) (r:RelV v u)
    (h:∀ s',Inv X pins (σ.set i (some v)) H s'->Q () s') (hf:X.fn x=true∨X.env.scope.names.lookup x=some .local:=by first|exact .inl rfl|exact .inr rfl|assumption):wpAny M A (storeName X.env x u) Q E s :=
  mS I hN hi hx r (fun s' I' _=>h s' I') hf
theorem Inv.call' {s':Shared} {ch:List Addr} (I:Inv X pins σ H s) (ho:s'.os=s.os) (u:Un (cV X.stack) ch H H' s.heap s'.heap) (hok:HOk X.prog X.w H' s'.heap) (hg:AllBare s'.gens)
    (hch:∀ b∈ch,(b∈X.ex∨X.s₀.heap.objs.size<=b)/\b≠X.env.locals/\(∀ x c,X.env.cells.lookup x=some c->c≠b)/\∀ p∈X.pn++pins,p.1≠b):Inv X pins σ H' s':=by
  obtain ⟨h',g',d',t',o'⟩:=s'
  have e:o'=s.os:=ho
  subst e
  exact I.call (g':=g') (t':=t') (d':=d') u hok hg hch
end
abbrev XK:=Value->Option Addr->Hp->Prop
abbrev St:=List (Option V)
abbrev VK:=V->Hp->Prop
abbrev TE:=St->Hp->VK->Prop
abbrev TT:=St->Hp->(Bool->Hp->Prop)->Prop
abbrev TA:=St->Hp->(List V->Hp->Prop)->Prop
structure Ends where
  nx:St->Hp->Prop
  rt:VK
  bk:St->Hp->Prop:=fun _ _=>False
  ct:St->Hp->Prop:=fun _ _=>False
abbrev TS:=Ends->St->Hp->Prop
def EP (X:Cx) (pins:List (Addr×Obj)) (σ:St) (Q:VK) (u:Value) (s':Shared):Prop:=∃ v H',Inv X pins σ H' s'/\RelV v u/\Q v H'
def TP (X:Cx) (pins:List (Addr×Obj)) (σ:St) (Q:Bool->Hp->Prop) (b:Bool) (s':Shared):Prop:=∃ H',Inv X pins σ H' s'/\Q b H'
def AP (X:Cx) (pins:List (Addr×Obj)) (σ:St) (Q:List V->Hp->Prop) (us:List Value) (s':Shared):Prop:=∃ vs H',Inv X pins σ H' s'/\Vals vs us/\Q vs H'
def SP (X:Cx) (pins:List (Addr×Obj)) (D:Ends) (f:Flow) (s':Shared):Prop :=
  match f with
  | .next=>∃ σ' H',Inv X pins σ' H' s'/\D.nx σ' H'
  | .brk=>∃ σ' H',Inv X pins σ' H' s'/\D.bk σ' H'
  | .cont=>∃ σ' H',Inv X pins σ' H' s'/\D.ct σ' H'
  | .ret u=>∃ v σ' H',Inv X pins σ' H' s'/\RelV v u/\D.rt v H'
def PE (X:Cx) (e:Expr) (t:TE):Prop :=
  ∀ (pins:List (Addr×Obj)) (s:Shared) (σ:St) (H:Hp) (Q:VK),Inv X pins σ H s->t σ H Q->wpAny (model X.prog X.w) X.A (eval e X.env) (EP X pins σ Q) X.xe s
def PT (X:Cx) (e:Expr) (t:TT):Prop :=
  ∀ (pins:List (Addr×Obj)) (s:Shared) (σ:St) (H:Hp) (Q:Bool->Hp->Prop),Inv X pins σ H s->t σ H Q->wpAny (model X.prog X.w) X.A (isTrue e X.env (eval e X.env)) (TP X pins σ Q) X.xe s
def PW (X:Cx) (e:Expr) (t:TT):Prop :=
  ∀ (whole:Sem Value) (pins:List (Addr×Obj)) (s:Shared) (σ:St) (H:Hp) (Q:Bool->Hp->Prop),Inv X pins σ H s->t σ H Q->wpAny (model X.prog X.w) X.A (isTrue e X.env whole) (TP X pins σ Q) X.xe s
theorem PW.pt {X:Cx} {e:Expr} {t:TT} (h:PW X e t):PT X e t:=h _
def PA (X:Cx) (es:List Expr) (t:TA):Prop :=
  ∀ (pos:Pos) (pins:List (Addr×Obj)) (s:Shared) (σ:St) (H:Hp) (Q:List V->Hp->Prop),Inv X pins σ H s->t σ H Q->wpAny (model X.prog X.w) X.A (spliced (backTo pos (starEach es X.env))) (AP X pins σ Q) X.xe s
def PS (X:Cx) (st:Stmt) (t:TS):Prop :=
  ∀ (pins:List (Addr×Obj)) (s:Shared) (σ:St) (H:Hp) (D:Ends),Inv X pins σ H s->t D σ H->wpAny (model X.prog X.w) X.A (exec st X.env) (SP X pins D) X.xe s
def PSs (X:Cx) (st:List Stmt) (t:TS):Prop :=
  ∀ (pins:List (Addr×Obj)) (s:Shared) (σ:St) (H:Hp) (D:Ends),Inv X pins σ H s->t D σ H->wpAny (model X.prog X.w) X.A (execs st X.env) (SP X pins D) X.xe s
theorem bo {α:Type} {t:Sem α} {Q Q':α->Shared->Prop} {M:Model} {A:Around} {E:Value->Shared->Prop} {s:Shared} (h:wpAny M A t Q E s) (hQ:∀ a s,Q a s->Q' a s):wpAny M A t Q' E s:=wpAny_mono h hQ fun _ _ x=>x
end L2
namespace L2
open PySem PySem.Spec PyProof.Rows
section
variable {X:Cx}
def ms (i:Nat):TE:=fun σ H Q=>∃ v,σ[i]?=some (some v)/\Q v H
def tC (v:V):TE:=fun _ H Q=>Q v H
theorem gB {i:Nat} {x:Str} {pos:Pos} (hN:X.N[i]?=some x) (hv:kY X.env.scope x) (hd:(x == ("__debug__":Str))=false:=by decide) (hcd:(x == ("__classdict__":Str))=false:=by decide):PE X (.Name x pos) (ms i):=by
  intro pins s σ H Q I h
  obtain ⟨v,e,h⟩:=h
  obtain ⟨m,hn,hl⟩:=I.loc
  obtain ⟨u,r,l⟩:=hl i x v hN e hv
  have be:EP X pins σ Q u s:=⟨v,H,I,r,h⟩
  rcases l with ⟨hk,hm⟩|⟨hk,c,hc,hcell⟩
  . exact wpAny_Name (wpAny_loadName_local I.ok.kind hk hn hm be) hd
  . rcases hk with hk|hk
    . exact wpAny_Name (wpAny_loadName_cell I.ok.kind hk hc hcell be) hd
    . exact wpAny_Name (wpAny_loadName_free I.ok.kind hk hc hcell be hcd) hd
theorem zD {i j pos}:PE X (.Constant (.int i) j pos) (tC (.int i)):=fun _ _ _ H _ I h=>wpAny_Constant_int ⟨.int i,H,I.tok _,⟨_,rfl⟩,h⟩
theorem BF {b j pos}:PE X (.Constant (.bool b) j pos) (tC (.bl b)):=fun _ _ _ H _ I h=>Constant_bool ⟨.bl b,H,I,rfl,h⟩
theorem zE {x j pos}:PE X (.Constant (.str x) j pos) (tC (.str x)):=fun _ _ _ H _ I h=>Calls.Constant_str ⟨.str x,H,I.tok _,⟨_,rfl⟩,h⟩
def Gl (X:Cx) (x:Str):Prop:=X.env.kindOf x=some .globalImplicit
theorem xS {E:Value->Shared->Prop} {pins:List (Addr×Obj)} {s:Shared} {σ:St} {H:Hp} {x:Str} {u:Value} {pos:Pos} {Q:Value->Shared->Prop} (I:Inv X pins σ H s) (hg:Gl X x) (hm:X.mg x=some u) (h:Q u s)
    (hd:(x == ("__debug__":Str))=false:=by decide):wpAny (model X.prog X.w) X.A (eval (.Name x pos) X.env) Q E s :=
  Calls.Name_function_global I.ok.kind hg (Calls.loadGlobal_global (by rw [I.ok.glob];exact I.mod.glob.keeps I.bk) hm h) hd
theorem jD {E:Value->Shared->Prop} {pins:List (Addr×Obj)} {s:Shared} {σ:St} {H:Hp} {x:Str} {u:Value} {pos:Pos} {Q:Value->Shared->Prop} (I:Inv X pins σ H s) (hg:Gl X x) (hm:X.mg x=none) (hv:bootBuiltins x=some u) (h:Q u s)
    (hn:x≠"__name__":=by decide) (hd:(x == ("__debug__":Str))=false:=by decide):wpAny (model X.prog X.w) X.A (eval (.Name x pos) X.env) Q E s:=by
  obtain ⟨mb,h1,h2⟩:=I.mod.blt
  exact Calls.Name_function_global I.ok.kind hg (Calls.loadGlobal_builtin (by rw [I.ok.glob];exact I.mod.glob.keeps I.bk) hm (by rw [I.ok.blt];exact h1.keeps I.bk) ((h2 x hn).trans hv) h) hd
theorem xT {x:Str} {v:V} {u:Value} {pos:Pos} (hg:Gl X x) (hm:X.mg x=none) (hv:bootBuiltins x=some u) (r:RelV v u) (hn:x≠"__name__":=by decide) (hd:(x == ("__debug__":Str))=false:=by decide):PE X (.Name x pos) (tC v) :=
  fun _ _ _ H _ I h=>jD I hg hm hv ⟨v,H,I,r,h⟩ hn hd
variable {a b:Expr} {ta tb:TE} {pos:Pos}
def tB (t:TE):TT:=fun σ H Q=>t σ H fun x H1=>∃ c,x=.bl c/\Q c H1
theorem zF {e:Expr} {t:TE} (h:PE X e t) (he:∀ whole,isTrue e X.env whole=(do let v <- whole;standAt e.pos;holding [v] (truthy v)):=by intro _;rfl):PT X e (tB t):=by
  intro pins s σ H Q I hw
  refine isTrue_plain (bo (h pins s σ H _ I hw) fun v s1 ⟨x,H1,I1,r1,q1⟩=>?_) (he _)
  obtain ⟨d,rfl,q⟩:=q1
  cases r1
  exact wpAny_truthy_bool ⟨H1,I1,q⟩
variable {tA tB':TT} {rest:List Expr}
def CP (t u:TT):TT:=fun σ H Q=>t σ H fun c H1=>if c=true then u σ H1 Q else Q false H1
def Di (t u:TT):TT:=fun σ H Q=>t σ H fun c H1=>if c=true then Q true H1 else u σ H1 Q
def CQ (t:TT):TT:=fun σ H Q=>t σ H fun c H1=>Q (!c) H1
theorem xU (ha:PT X a tA):PW X (.BoolOp .And [a] pos) tA:=by
  intro wh pins s σ H Q I h
  refine isTrue_and (bo (ha pins s σ H Q I h) fun c s1 e=>?_)
  cases c with
  | true=>exact isTrue_and_nil e
  | false=>exact e
theorem zG (ha:PT X a tA):PW X (.BoolOp .Or [a] pos) tA:=by
  intro wh pins s σ H Q I h
  refine isTrue_or (bo (ha pins s σ H Q I h) fun c s1 e=>?_)
  cases c with
  | false=>exact isTrue_or_nil e
  | true=>exact e
theorem zH (ha:PT X a tA) (hb:PW X (.BoolOp .And (b::rest) pos) tB'):PW X (.BoolOp .And (a::b::rest) pos) (CP tA tB'):=by
  intro wh pins s σ H Q I h
  refine isTrue_and (bo (ha pins s σ H _ I h) fun c s1 ⟨H1,I1,q1⟩=>?_)
  cases c with
  | true=>exact hb wh pins s1 σ H1 Q I1 q1
  | false=>exact ⟨H1,I1,q1⟩
theorem BG (ha:PT X a tA) (hb:PW X (.BoolOp .Or (b::rest) pos) tB'):PW X (.BoolOp .Or (a::b::rest) pos) (Di tA tB'):=by
  intro wh pins s σ H Q I h
  refine isTrue_or (bo (ha pins s σ H _ I h) fun c s1 ⟨H1,I1,q1⟩=>?_)
  cases c with
  | true=>exact ⟨H1,I1,q1⟩
  | false=>exact hb wh pins s1 σ H1 Q I1 q1
theorem zI (ha:PT X a tA):PT X (.UnaryOp .Not a pos) (CQ tA):=by
  intro pins s σ H Q I h
  exact isTrue_not (ha pins s σ H (fun c H1=>Q (!c) H1) I h)
def BH (ta tb:TE):TE:=fun σ H Q=>ta σ H fun x H1=>∃ c,x=.bl c/\if c=true then tb σ H1 Q else Q (.bl false) H1
def BI (ta:TE):TE:=fun σ H Q=>ta σ H fun x H1=>∃ c,x=.bl c/\Q (.bl (!c)) H1
theorem zJ {op} {t:TE} (h:PE X a t):PE X (.BoolOp op [a] pos) t:=fun pins s σ H Q I hw=>BoolOp_one (h pins s σ H Q I hw)
theorem zK (ha:PE X a ta) (hb:PE X (.BoolOp .And (b::rest) pos) tb):PE X (.BoolOp .And (a::b::rest) pos) (BH ta tb):=by
  intro pins s σ H Q I h
  refine BoolOp_and (bo (ha pins s σ H _ I h) fun v s1 ⟨x,H1,I1,r1,q1⟩=>?_)
  obtain ⟨c,rfl,q1⟩:=q1
  cases r1
  refine wpAny_truthy_bool ?_
  cases c with
  | true=>exact hb pins s1 σ H1 Q I1 q1
  | false=>exact ⟨.bl false,H1,I1,rfl,q1⟩
theorem zL (ha:PE X a ta):PE X (.UnaryOp .Not a pos) (BI ta):=by
  intro pins s σ H Q I h
  refine UnaryOp_ (bo (ha pins s σ H _ I h) fun v s1 ⟨x,H1,I1,r1,q1⟩=>?_)
  obtain ⟨c,rfl,q1⟩:=q1
  cases r1
  exact not_of (wpAny_truthy_bool ⟨.bl (!c),H1,I1,rfl,q1⟩)
end
end L2
namespace L2
open PySem PySem.Spec PyProof.Rows
def SqL (K:PySem.W.Frag) (H:Hp) (a:Addr) (xs:List V):Prop :=
  Rd H a (.lst xs) ∨
    ∃ (o:Obj) (its:Array Value) (n:Nat),K.lookup a=some o/\o.cls=.type "list"/\o.dict=none/\o.data=.seq its n/\its.size<=sizeLine/\Vals xs its.toList
def SqT (K:PySem.W.Frag) (H:Hp) (a:Addr) (xs:List V):Prop :=
  Rd H a (.tup xs) ∨
    ∃ (o:Obj) (its:Array Value) (n:Nat),K.lookup a=some o/\o.cls=.type "tuple"/\o.data=.seq its n/\its.size<=sizeLine/\Vals xs its.toList
def CS:Value->Option V
  | .none=>some .non
  | .bool b=>some (.bl b)
  | .int i _=>some (.int i)
  | .str x _=>some (.str x)
  | .bytes b _=>some (.byt b)
  | .float b _=>some (.flt b)
  | .ref a=>some (.ref a)
  | .type n=>some (.ty n)
  | _=>none
theorem RelV.abs {x:V} {u:Value} (r:RelV x u):CS u=some x:=by
  cases x with
  | non=>cases r;rfl
  | bl _=>cases r;rfl
  | int _=>obtain ⟨t,rfl⟩:=r;rfl
  | str _=>obtain ⟨t,rfl⟩:=r;rfl
  | byt _=>obtain ⟨t,rfl⟩:=r;rfl
  | flt _=>obtain ⟨t,rfl⟩:=r;rfl
  | ref _=>cases r;rfl
  | ty _=>cases r;rfl
theorem RelV.inj {x y:V} {u:Value} (r:RelV x u) (q:RelV y u):x=y:=Option.some.inj (r.abs.symm.trans q.abs)
theorem Vals.inj:∀ {xs ys:List V} {us:List Value},Vals xs us->Vals ys us->xs=ys
  | _,_,_,.nil,.nil=>rfl
  | _,_,_,.cons r t,.cons r' t'=>by rw [r.inj r',Vals.inj t t']
section
variable {X:Cx} {pins:List (Addr×Obj)} {σ:St} {H:Hp} {s:Shared} {a:Addr} {xs ys:List V}
theorem SqL.of {K:PySem.W.Frag} (h:H a=some (.lst xs)):SqL K H a xs:=.inl (.inl h)
theorem SqT.of {K:PySem.W.Frag} (h:H a=some (.tup xs)):SqT K H a xs:=.inl (.inl h)
theorem Inv.list (I:Inv X pins σ H s) (h:SqL X.K H a xs):∃ its:List Value,Vals xs its/\PlainL s.heap a its.toArray/\xs.length<=sizeLine:=by
  rcases h with h|⟨o,its,n,hk,hc,hd,hs,hz,r⟩
  . obtain ⟨z,its,n,r,e⟩:=h.ok I.hok
    exact ⟨its,r,⟨_,n,e,rfl,rfl,rfl⟩,z⟩
  . refine ⟨its.toList,r,⟨o,n,I.kIn a o hk,hc,hd,by simpa using hs⟩,?_⟩
    have e:=r.length
    simp only [Array.length_toList] at e
    omega
theorem Inv.tuple (I:Inv X pins σ H s) (h:SqT X.K H a xs):∃ its:List Value,Vals xs its/\IsTup s.heap a its.toArray/\xs.length<=sizeLine:=by
  rcases h with h|⟨o,its,n,hk,hc,hs,hz,r⟩
  . obtain ⟨z,its,r,p⟩:=h.ok I.hok
    exact ⟨its,r,p,z⟩
  . refine ⟨its.toList,r,⟨o,I.kIn a o hk,hc,n,by simpa using hs⟩,?_⟩
    have e:=r.length
    simp only [Array.length_toList] at e
    omega
theorem Inv.list_inj (I:Inv X pins σ H s) (h:SqL X.K H a xs) (h':SqL X.K H a ys):xs=ys:=by
  obtain ⟨its,r,⟨o,n,e,_,_,d⟩,_⟩:=I.list h
  obtain ⟨its',r',⟨o',n',e',_,_,d'⟩,_⟩:=I.list h'
  rw [e] at e';cases e'
  rw [d] at d'
  injection d' with d1 _
  have:its=its':=by simpa using congrArg Array.toList d1
  subst this
  exact r.inj r'
theorem Inv.tuple_inj (I:Inv X pins σ H s) (h:SqT X.K H a xs) (h':SqT X.K H a ys):xs=ys:=by
  obtain ⟨its,r,⟨o,e,_,n,d⟩,_⟩:=I.tuple h
  obtain ⟨its',r',⟨o',e',_,n',d'⟩,_⟩:=I.tuple h'
  rw [e] at e';cases e'
  rw [d] at d'
  injection d' with d1 _
  have:its=its':=by simpa using congrArg Array.toList d1
  subst this
  exact r.inj r'
end
abbrev Cx.wish (X:Cx) (E:Value->Shared->Prop):Cx:={ X with xe:=E }
abbrev Cx.nox (X:Cx):Cx:=X.wish fun _ _=>False
theorem Cx.Ok.wish {X:Cx} (ok:X.Ok) (E:Value->Shared->Prop):(X.wish E).Ok :=
  ⟨ok.mod,ok.kind,ok.glob,ok.blt,ok.above,ok.inj,ok.has,ok.cab,ok.hd,ok.frames,ok.stk,ok.exf,ok.bs,ok.bsz,ok.noex,ok.exfs,ok.funs,ok.frf⟩
theorem Cx.Ok.unwish {X:Cx} {E:Value->Shared->Prop} (ok:(X.wish E).Ok):X.Ok :=
  ⟨ok.mod,ok.kind,ok.glob,ok.blt,ok.above,ok.inj,ok.has,ok.cab,ok.hd,ok.frames,ok.stk,ok.exf,ok.bs,ok.bsz,ok.noex,ok.exfs,ok.funs,ok.frf⟩
section
variable {X:Cx} {pins:List (Addr×Obj)} {σ:St} {H:Hp} {s:Shared} {E:Value->Shared->Prop}
theorem Inv.wish (I:Inv X pins σ H s) (E:Value->Shared->Prop):Inv (X.wish E) pins σ H s:=⟨I.ok.wish E,I.os,I.bare,I.base,I.loc,I.cell,I.free,I.freeC,I.pin,I.hok,I.len⟩
theorem Inv.unwish (I:Inv (X.wish E) pins σ H s):Inv X pins σ H s:=⟨I.ok.unwish,I.os,I.bare,I.base,I.loc,I.cell,I.free,I.freeC,I.pin,I.hok,I.len⟩
theorem SP.unwish {D:Ends} {f:Flow} {s':Shared} (h:SP (X.wish E) pins D f s'):SP X pins D f s':=by
  cases f with
  | next=>obtain ⟨σ',H',I,q⟩:=h;exact ⟨σ',H',I.unwish,q⟩
  | brk=>obtain ⟨σ',H',I,q⟩:=h;exact ⟨σ',H',I.unwish,q⟩
  | cont=>obtain ⟨σ',H',I,q⟩:=h;exact ⟨σ',H',I.unwish,q⟩
  | ret u=>obtain ⟨v,σ',H',I,r,q⟩:=h;exact ⟨v,σ',H',I.unwish,r,q⟩
end
section
variable {X:Cx} {st:Stmt} {rest:List Stmt} {t u:TS} {e:Expr} {te:TE} {pos:Pos}
def BJ:TS:=fun D σ H=>D.nx σ H
def CT (t u:TS):TS:=fun D σ H=>t { D with nx:=u D } σ H
theorem xV:PSs X [] BJ:=fun _ _ σ H _ I h=>wpAny_execs_nil ⟨σ,H,I,h⟩
theorem vF (h1:PS X st t) (h2:PSs X rest u):PSs X (st::rest) (CT t u):=by
  intro pins s σ H D I h
  refine wpAny_execs_cons (bo (h1 pins s σ H { D with nx:=u D } I h) fun f s1 q=>?_)
  cases f with
  | next =>
    obtain ⟨σ',H',I',q⟩:=q
    exact h2 pins s1 σ' H' D I' q
  | ret v=>exact q
  | brk=>exact q
  | cont=>exact q
theorem xW (h1:PS X st t):PSs X [st] t:=by
  intro pins s σ H D I h
  refine wpAny_execs_cons (bo (h1 pins s σ H D I h) fun f s1 q=>?_)
  cases f with
  | next=>exact wpAny_execs_nil q
  | ret v=>exact q
  | brk=>exact q
  | cont=>exact q
theorem Inv.quiet {pins:List (Addr×Obj)} {σ:St} {H:Hp} {s:Shared} (I:Inv X pins σ H s):interactive X.env=false:=by simp [interactive,I.ok.kind]
def BK (te:TE):TS:=fun D σ H=>te σ H fun _ H1=>D.nx σ H1
theorem qR (he:PE X e te) (hs:swapsWith e none pos.line X.env=pure false:=by rfl):PS X (.Expr e pos) (BK te):=by
  intro pins s σ H D I h
  exact wpAny_Expr_any (bo (he pins s σ H _ I h) fun v s1 ⟨x,H1,I1,r1,q1⟩=>⟨σ,H1,I1,q1⟩) I.quiet hs
def CU (te:TE):TS:=fun D σ H=>te σ H D.rt
theorem zM (he:PE X e te):PS X (.Return (some e) pos) (CU te):=by
  intro pins s σ H D I h
  exact wpAny_Return_some (bo (he pins s σ H _ I h) fun v s1 ⟨x,H1,I1,r1,q1⟩=>⟨x,σ,H1,I1,r1,q1⟩)
def CV (c:TT) (t u:TS):TS:=fun D σ H=>c σ H fun b H1=>if b=true then t D σ H1 else u D σ H1
theorem BL {c:Expr} {a b:List Stmt} {tc:TT} (hc:PT X c tc) (ha:PSs X a t) (hb:PSs X b u):PS X (.If c a b pos) (CV tc t u):=by
  intro pins s σ H D I h
  refine wpAny_If (bo (hc pins s σ H _ I h) fun d s1 ⟨H1,I1,q1⟩=>?_)
  cases d with
  | true=>exact ha pins s1 σ H1 D I1 q1
  | false=>exact hb pins s1 σ H1 D I1 q1
end
abbrev TG:=V->St->Hp->(St->Hp->Prop)->Prop
abbrev kZ:=List V->St->Hp->(St->Hp->Prop)->Prop
def PG (X:Cx) (target:Expr) (t:TG):Prop :=
  ∀ (pins:List (Addr×Obj)) (s:Shared) (σ:St) (H:Hp) (v:V) (u:Value) (Q:St->Hp->Prop),Inv X pins σ H s->RelV v u->t v σ H Q ->
    wpAny (model X.prog X.w) X.A (assign target X.env u) (fun _ s'=>∃ σ' H',Inv X pins σ' H' s'/\Q σ' H') X.xe s
def PGs (X:Cx) (ts:List Expr) (t:kZ):Prop :=
  ∀ (pins:List (Addr×Obj)) (s:Shared) (σ:St) (H:Hp) (vs:List V) (us:List Value) (Q:St->Hp->Prop),Inv X pins σ H s->Vals vs us->t vs σ H Q ->
    wpAny (model X.prog X.w) X.A (assignInOrder ((assignEach ts X.env).map (·.2)) us) (fun _ s'=>∃ σ' H',Inv X pins σ' H' s'/\Q σ' H') X.xe s
abbrev rS:=V->V->V->Hp->(Hp->Prop)->Prop
def vG (X:Cx) (t:rS):Prop :=
  ∀ (pins:List (Addr×Obj)) (s:Shared) (σ:St) (H:Hp) (o i v:V) (ov iv u:Value) (Q:Hp->Prop),Inv X pins σ H s->RelV o ov->RelV i iv->RelV v u->t o i v H Q ->
    wpAny (model X.prog X.w) X.A (setItem ov iv u) (fun _ s'=>∃ H',Inv X pins σ H' s'/\Q H') X.xe s
section
variable {X:Cx} {pos:Pos}
def xq (i:Nat):TG:=fun v σ H Q=>Q (σ.set i (some v)) H
theorem xX {i:Nat} {x:Str} (hN:X.N.Nodup) (hi:X.N[i]?=some x) (hx:gP X.env.scope x) (hf:X.fn x=true∨X.env.scope.names.lookup x=some .local:=by first|exact .inl rfl|exact .inr rfl|assumption):PG X (.Name x pos) (xq i):=by
  intro pins s σ H v u Q I r h
  exact wpAny_assign_Name (ox I hN hi hx r (fun s' I'=>⟨_,H,I',h⟩) hf)
def CW:kZ:=fun vs σ H Q=>vs=[]/\Q σ H
def BM (t:TG) (u:kZ):kZ:=fun vs σ H Q=>∃ v r,vs=v::r/\t v σ H fun σ' H'=>u r σ' H' Q
theorem xY:PGs X [] CW:=by
  intro pins s σ H vs us Q I r h
  obtain ⟨e,h⟩:=h
  subst e
  cases r
  exact assignInOrder_nil ⟨σ,H,I,h⟩
theorem vH {e:Expr} {es:List Expr} {t:TG} {u:kZ} (h1:PG X e t) (h2:PGs X es u)
    (hs:(assignEach (e::es) X.env).map (·.2)=assign e X.env::(assignEach es X.env).map (·.2):=by rfl):PGs X (e::es) (BM t u):=by
  intro pins s σ H vs us Q I r h
  obtain ⟨v,vr,e1,h⟩:=h
  subst e1
  cases r with
  | cons r rr =>
    rw [hs]
    refine assignInOrder_cons (bo (h1 pins s σ H _ _ _ I r h) fun _ s1 ⟨σ1,H1,I1,q1⟩=>?_)
    exact h2 pins s1 σ1 H1 _ _ Q I1 rr q1
def aS (K:PySem.W.Frag) (n:Nat) (t:kZ):TG:=fun v σ H Q=>∃ a xs,v=.ref a/\SqT K H a xs/\xs.length=n/\t xs σ H Q
theorem zN {es:List Expr} {k:Nat} {t:kZ} {n:Nat} (hc:X.calm=true) (h:PGs X es t)
    (hn:(assignEach es X.env).length=n:=by rfl) (hst:(assignEach es X.env).findIdx? (·.1)=none:=by rfl):PG X (.Tuple es k pos) (aS X.K n t):=by
  intro pins s σ H v u Q I r hw
  obtain ⟨a,xs,e1,hq,hl,hw⟩:=hw
  subst e1
  cases r
  obtain ⟨its,rv,ht,hz⟩:=I.tuple hq
  refine assign_Tuple_tuple (I.ok.hd hc) ht (by simp [hn,<- hl,rv.length]) hst fun h' hx=>?_
  have I1:Inv X pins σ H { s with heap:=h' }:=I.kept (t':=s.toks) fun b o e=>hx b o (Nat.ne_of_lt (Heap.lt_size e)) e
  exact h pins _ σ H xs _ Q I1 (by simpa using rv) hw
def gSub (to ti:TE) (t:rS):TG:=fun v σ H Q=>to σ H fun o H1=>ti σ H1 fun i H2=>t o i v H2 fun H3=>Q σ H3
theorem tt {o i:Expr} {to ti:TE} {t:rS} (ho:PE X o to) (hi:PE X i ti) (hs:vG X t)
    (ha:∀ v,assign (.Subscript o i pos) X.env v=(do
      let ov <- holding [v] (eval o X.env)
      let iv <- holding [v,ov] (eval i X.env)
      standAt pos
      holding [v,ov,iv] (setItem ov iv v)
      release [v,ov,iv] []):=by intro _;rfl):PG X (.Subscript o i pos) (gSub to ti t):=by
  intro pins s σ H v u Q I r h
  rw [ha]
  refine wpAny_bind (wpAny_holding (bo (ho pins s σ H _ I h) fun ov s1 ⟨x,H1,I1,r1,q1⟩=>?_))
  refine wpAny_bind (wpAny_holding (bo (hi pins s1 σ H1 _ I1 q1) fun iv s2 ⟨y,H2,I2,r2,q2⟩=>?_))
  refine wpAny_bind (wpAny_standAt (wpAny_bind (wpAny_holding (bo (hs pins s2 σ H2 x y v ov iv u _ I2 r1 r2 r q2) fun _ s3 ⟨H3,I3,q3⟩=>?_))))
  exact wpAny_release ⟨σ,H3,I3,q3⟩
def zO (te:TE) (g:TG):TS:=fun D σ H=>te σ H fun x H1=>g x σ H1 D.nx
theorem oy {tg e:Expr} {te:TE} {g:TG} (he:PE X e te) (hg:PG X tg g) (hs:swapsWithSole [tg] e pos.line X.env=pure false:=by rfl) (hw:swappedStores [tg] e X.env=pure none:=by rfl)
    (h1:(assignEach [tg] X.env).map (·.2)=[assign tg X.env]:=by rfl):PS X (.Assign [tg] e pos) (zO te g):=by
  intro pins s σ H D I h
  refine wpAny_Assign_stores (bo (he pins s σ H _ I h) fun v s1 ⟨x,H1,I1,r1,q1⟩=>?_) hs hw
  rw [h1]
  exact bo (hg pins s1 σ H1 x v _ I1 r1 q1) fun _ s2 q=>q
theorem lc {i:Nat} {x:Str} {e:Expr} {te:TE} {pos':Pos} (hN:X.N.Nodup) (hi:X.N[i]?=some x) (hx:gP X.env.scope x) (he:PE X e te) (hs:swapsWith e (some (.Name x pos')) pos.line X.env=pure false:=by rfl) (hf:X.fn x=true∨X.env.scope.names.lookup x=some .local:=by first|exact .inl rfl|exact .inr rfl|assumption) :
    PS X (.Assign [.Name x pos'] e pos) (zO te (xq i)):=by
  intro pins s σ H D I h
  refine wpAny_Assign_Name (bo (he pins s σ H _ I h) fun v s1 ⟨y,H1,I1,r1,q1⟩=>?_) hs
  exact ox I1 hN hi hx r1 (fun s2 I2=>⟨_,H1,I2,q1⟩) hf
end
section
variable {X:Cx} {pos:Pos}
end
structure It where
  go:Nat->Hp->Prop
  yld:Nat->Hp->V->Hp->Prop
  stop:Nat->Hp->Prop
def dz (X:Cx) (pins:List (Addr×Obj)) (H:Hp) (b:Addr):Prop :=
  H b=none/\b≠X.env.locals/\b∉X.fs/\(b∈X.ex∨X.s₀.heap.objs.size<=b)/\(∀ x c,X.env.cells.lookup x=some c->c≠b)/\∀ p∈X.pn++pins,p.1≠b
theorem Inv.fpOk {X:Cx} {pins:List (Addr×Obj)} {σ:St} {H H':Hp} {s:Shared} {b:Addr} (I:Inv X pins σ H s) (hb:s.heap.objs.size<=b) (hn:H' b=none):dz X pins H' b:=by
  refine ⟨hn,Nat.ne_of_gt (Nat.lt_of_lt_of_le I.lt hb),I.nofs hb,.inr (Nat.le_trans I.sz hb),fun x c e z=>?_,fun p hp z=>?_⟩
  . obtain ⟨v,q⟩:=I.cell x c e
    exact absurd (Nat.lt_of_lt_of_le q.lt (by rw [z];exact hb)) (Nat.lt_irrefl _)
  . exact absurd (Nat.lt_of_lt_of_le (Heap.lt_size (I.pin p hp).1) (by rw [z];exact hb)) (Nat.lt_irrefl _)
structure Turn (P:Program) (w:World) (K:PySem.W.Frag) (tg:Expr) (J:It) (fp:List Addr) (it:Addr) (tn:Nat->Heap->Prop):Prop where
  mem:it∈fp
  obj:∀ i h,tn i h->∀ b∈fp,∃ o,h.get? b=some o/\∀ v,o.data≠.cell v
  keep:∀ i h h',tn i h->(∀ b∈fp,∀ o,h.get? b=some o->h'.get? b=some o)->tn i h'
  item:∀ (X:Cx),X.prog=P->X.w=w->X.K=K->X.calm=true->∀ (i:Nat) (pins:List (Addr×Obj)) (s:Shared) (σ:St) (H:Hp) (E:Value->Shared->Prop),Inv X pins σ H s->(∀ b∈fp,dz X pins H b)->tn i s.heap->J.go i H ->
    wpAny (model P w) X.A (pyNext (.ref it)) (fun r s1=>∃ u,r=some u /\
      wpAny (model P w) X.A (letOwnedTupleGo tg (.ref it) u) (fun _ s2=>∃ x H',Inv X pins σ H' s2/\RelV x u/\J.yld i H x H'/\tn (i + 1) s2.heap/\∀ b∈fp,H' b=none) E s1) E s
  done : ∀ (X : Cx), X.prog = P -> X.w = w -> X.K = K -> X.calm = true -> ∀ (i : Nat) (pins : List (Addr × Obj)) (s : Shared) (σ : St) (H : Hp) (E : Value -> Shared -> Prop), Inv X pins σ H s -> (∀ b ∈ fp, dz X pins H b) -> tn i s.heap -> J.stop i H ->
    wpAny (model P w) X.A (pyNext (.ref it)) (fun r s1=>r=none/\Inv X pins σ H s1) E s
  self:∀ (A:Around) (i:Nat) (s:Shared) (Q:Value->Shared->Prop) (E:Value->Shared->Prop),tn i s.heap->Q (.ref it) s->wpAny (model P w) A (pyIter (.ref it)) Q E s
abbrev TI:=St->Hp->(It->Hp->Prop)->Prop
def CD (X:Cx) (pins:List (Addr×Obj)) (σ:St) (tg:Expr) (R:It->Hp->Prop) (itv:Value) (s2:Shared):Prop :=
  ∃ (it:Addr) (fp:List Addr) (tn:Nat->Heap->Prop) (J:It) (H':Hp),itv=.ref it/\Inv X pins σ H' s2/\Turn X.prog X.w X.K tg J fp it tn/\tn 0 s2.heap/\(∀ b∈fp,dz X pins H' b)/\R J H'
def PI (X:Cx) (tg iter:Expr) (wi:TI):Prop :=
  ∀ (pins:List (Addr×Obj)) (s:Shared) (σ:St) (H:Hp) (R:It->Hp->Prop),Inv X pins σ H s->wi σ H R ->
    wpAny (model X.prog X.w) X.A (eval iter X.env) (fun v s1=>wpAny (model X.prog X.w) X.A (pyIter v) (CD X pins σ tg R) X.xe s1) X.xe s
theorem rT {M:Model} {A:Around} {E:Value->Shared->Prop} {s:Shared} {tg:Expr} {it:Addr} {u:Value} {o:Obj} {n:String} {vs:Array Value} {Q:Unit->Shared->Prop} (ho:s.heap.get? it=some o) (hc:o.cls=.type n) (hd:o.data=.fields vs)
    (hn:["enumerate","zip","dict_itemiterator","dict_reverseitemiterator","odict_iterator","itertools.zip_longest","itertools.pairwise"].contains n=false) (hQ:Q () s):wpAny M A (letOwnedTupleGo tg (.ref it) u) Q E s:=by
  unfold letOwnedTupleGo
  cases tg <;> first
    | exact wpAny_pure hQ
    | (cases u <;> first
        | exact wpAny_pure hQ
        | (refine wpAny_bind (wpAny_load ho ?_)
           rw [hc,hd]
           show wpAny M A (if (["enumerate","zip","dict_itemiterator","dict_reverseitemiterator","odict_iterator","itertools.zip_longest","itertools.pairwise"].contains n && vs[0]? == some (rawInt _))=true then _ else _) Q E s
           rw [if_neg (by intro h;rw [hn,Bool.false_and] at h;cases h)]
           exact wpAny_pure hQ))
def tu (K:PySem.W.Frag) (a:Addr):It :=
  ⟨fun i H=>∃ xs x,SqL K H a xs/\xs[i]?=some x,fun i H x H'=>H'=H/\∀ xs,SqL K H a xs->xs[i]?=some x,fun i H=>∃ xs,SqL K H a xs/\xs.length<=i⟩
def qS (K:PySem.W.Frag) (a:Addr):It :=
  ⟨fun i H=>∃ xs x,SqT K H a xs/\xs[i]?=some x,fun i H x H'=>H'=H/\∀ xs,SqT K H a xs->xs[i]?=some x,fun i H=>∃ xs,SqT K H a xs/\xs.length<=i⟩
def lf (lo:Int) (n:Nat):It:=⟨fun i _=>i < n,fun i H x H'=>H'=H/\x=.int (lo + i),fun i _=>n<=i⟩
theorem tx {P:Program} {w:World} {K:PySem.W.Frag} {tg:Expr} (a it:Addr):Turn P w K tg (tu K a) [it] it (fun i h=>h.IsListIter it a i) where
  mem:=by simp
  obj:=fun i h st b hb=>by
    have e:b=it:=by simpa using hb
    subst e
    obtain ⟨o,e,c,d⟩:=st
    exact ⟨o,e,fun v z=>by rw [d] at z;cases z⟩
  keep:=fun i h h' st k=>st.at fun o e=>k it (by simp) o e
  item:=by
    intro X hP hw hK hc i pins s σ H E I hf st hg
    subst hP hw hK
    obtain ⟨xs,x,hq,hx⟩:=hg
    obtain ⟨its,rv,p,hz⟩:=I.list hq
    obtain ⟨u,hu,ru⟩:=rv.get hx
    obtain ⟨f0,f1,f2,f3,f4,f5⟩:=hf it (by simp)
    refine wpAny_pyNext_list_item st p.isList (x:=u) (by simpa using hu) fun h' st' sb=>?_
    have I1:Inv X pins σ H { s with heap:=h' }:=I.turned (t':=s.toks) (fun b o hb e=>(sb.2 b hb).trans e) f0 f1 f3 f4 f5
    obtain ⟨o,e,c,d⟩:=id st'
    exact ⟨u,rfl,rT (s:={ s with heap:=h' }) e c d (by decide) ⟨x,H,I1,ru,⟨rfl,fun ys hy=>by rw [I.list_inj hy hq];exact hx⟩,st',fun b hb=>(hf b hb).1⟩⟩
  done := by
    intro X hP hw hK hc i pins s σ H E I hf st hg
    subst hP hw hK
    obtain ⟨xs,hq,hx⟩:=hg
    obtain ⟨its,rv,p,hz⟩:=I.list hq
    obtain ⟨f0,f1,f2,f3,f4,f5⟩:=hf it (by simp)
    have hl:=rv.length
    exact wpAny_pyNext_list_end (I.ok.hd hc) st p.isList (by simp;omega) fun h' eb=>⟨rfl,I.turned (t':=s.toks) (fun b o hb e=>eb b o hb e) f0 f1 f3 f4 f5⟩
  self:=fun _ _ _ _ _ st h=>wpAny_pyIter_listiter st h
theorem rV {P:Program} {w:World} {K:PySem.W.Frag} {tg:Expr} (a it:Addr):Turn P w K tg (qS K a) [it] it (fun i h=>h.IsTupleIter it a i) where
  mem:=by simp
  obj:=fun i h st b hb=>by
    have e:b=it:=by simpa using hb
    subst e
    obtain ⟨o,e,c,d⟩:=st
    exact ⟨o,e,fun v z=>by rw [d] at z;cases z⟩
  keep:=fun i h h' st k=>st.at fun o e=>k it (by simp) o e
  item:=by
    intro X hP hw hK hc i pins s σ H E I hf st hg
    subst hP hw hK
    obtain ⟨xs,x,hq,hx⟩:=hg
    obtain ⟨its,rv,p,hz⟩:=I.tuple hq
    obtain ⟨u,hu,ru⟩:=rv.get hx
    obtain ⟨f0,f1,f2,f3,f4,f5⟩:=hf it (by simp)
    refine wpAny_pyNext_tuple_item st (show s.heap.IsTuple a its.toArray from p) (x:=u) (by simpa using hu) fun h' st' sb=>?_
    have I1:Inv X pins σ H { s with heap:=h' }:=I.turned (t':=s.toks) (fun b o hb e=>(sb.2 b hb).trans e) f0 f1 f3 f4 f5
    obtain ⟨o,e,c,d⟩:=id st'
    exact ⟨u,rfl,rT (s:={ s with heap:=h' }) e c d (by decide) ⟨x,H,I1,ru,⟨rfl,fun ys hy=>by rw [I.tuple_inj hy hq];exact hx⟩,st',fun b hb=>(hf b hb).1⟩⟩
  done := by
    intro X hP hw hK hc i pins s σ H E I hf st hg
    subst hP hw hK
    obtain ⟨xs,hq,hx⟩:=hg
    obtain ⟨its,rv,p,hz⟩:=I.tuple hq
    obtain ⟨f0,f1,f2,f3,f4,f5⟩:=hf it (by simp)
    have hl:=rv.length
    exact wpAny_pyNext_tuple_end (I.ok.hd hc) st (show s.heap.IsTuple a its.toArray from p) (by simp;omega) fun h' eb=>⟨rfl,I.turned (t':=s.toks) (fun b o hb e=>eb b o hb e) f0 f1 f3 f4 f5⟩
  self:=fun _ _ _ _ _ st h=>wpAny_pyIter_tupleiter st h
theorem rW {P:Program} {w:World} {K:PySem.W.Frag} {tg:Expr} (it:Addr) (lo:Int) (n:Nat):Turn P w K tg (lf lo n) [it] it (fun i h=>IsRangeIter h it (lo + (i:Nat) * 1) ((n:Int) - (i:Nat)) 1) where
  mem:=by simp
  obj:=fun i h st b hb=>by
    have e:b=it:=by simpa using hb
    subst e
    exact ⟨_,st,fun v z=>by
      have z':Data.fields _=Data.cell v:=z
      cases z'⟩
  keep:=fun i h h' st k=>k it (by simp) _ st
  item:=by
    intro X hP hw hK hc i pins s σ H E I hf st hg
    subst hP hw hK
    obtain ⟨f0,f1,f2,f3,f4,f5⟩:=hf it (by simp)
    have W:=Walks.range (prog:=X.prog) (w:=X.w) (I.ok.hd hc) it lo 1 n
    refine W.item i s _ _ hg st fun v h' tk hv st' kk=>?_
    obtain ⟨t,rfl⟩:=hv
    have I1:Inv X pins σ H { s with heap:=h',toks:=tk }:=I.turned (fun b o hb e=>kk b o (by simpa using hb) e) f0 f1 f3 f4 f5
    refine ⟨_,rfl,rT (s:={ s with heap:=h',toks:=tk }) (n:="range_iterator") st' rfl rfl (by decide) ⟨.int (lo + i),H,I1,⟨t,?_⟩,⟨rfl,rfl⟩,st',fun b hb=>(hf b hb).1⟩⟩
    rw [Int.mul_one]
  done := by
    intro X hP hw hK hc i pins s σ H E I hf st hg
    subst hP hw hK
    obtain ⟨f0,f1,f2,f3,f4,f5⟩:=hf it (by simp)
    exact wpAny_pyNext_range_end (I.ok.hd hc) st (by have:n<=i:=hg;omega) fun h' eb=>⟨rfl,I.turned (t':=s.toks) (fun b o hb e=>eb b o hb e) f0 f1 f3 f4 f5⟩
  self:=fun _ _ _ _ _ st h=>wpAny_pyIter_rangeiter st h
end L2
namespace L2
open PySem PySem.Spec PyProof.Rows
section
variable {X:Cx} {tg:Expr}
def BN (K:PySem.W.Frag) (tl:TE):TI:=fun σ H R=>tl σ H fun x H1=>∃ a,x=.ref a/\(∃ xs,SqL K H1 a xs)/\R (tu K a) H1
def CY (K:PySem.W.Frag) (tl:TE):TI:=fun σ H R=>tl σ H fun x H1=>∃ a,x=.ref a/\(∃ xs,SqT K H1 a xs)/\R (qS K a) H1
theorem qT {l:Expr} {tl:TE} (hl:PE X l tl):PI X tg l (BN X.K tl):=by
  intro pins s σ H R I h
  refine bo (hl pins s σ H _ I h) fun v s1 ⟨x,H1,I1,r1,q1⟩=>?_
  obtain ⟨a,e,⟨xs,hq⟩,q⟩:=q1
  subst e
  cases r1
  obtain ⟨its,rv,p,hz⟩:=I1.list hq
  refine wpAny_pyIter_list p.isList ?_
  refine ⟨s1.heap.objs.size,[s1.heap.objs.size],_,_,H1,rfl,I1.kept (t':=s1.toks) fun b o e=>Heap.get?_push_of_some _ e,tx a _,⟨_,Heap.get?_push_size _ rfl,rfl,rfl⟩,fun b hb=>?_,q⟩
  have e:b=s1.heap.objs.size:=by simpa using hb
  subst e
  exact I1.fpOk (Nat.le_refl _) (I1.hok.fresh (Nat.le_refl _))
theorem tz {l:Expr} {tl:TE} (hl:PE X l tl):PI X tg l (CY X.K tl):=by
  intro pins s σ H R I h
  refine bo (hl pins s σ H _ I h) fun v s1 ⟨x,H1,I1,r1,q1⟩=>?_
  obtain ⟨a,e,⟨xs,hq⟩,q⟩:=q1
  subst e
  cases r1
  obtain ⟨its,rv,p,hz⟩:=I1.tuple hq
  refine wpAny_pyIter_tuple (show s1.heap.IsTuple a its.toArray from p) ?_
  refine ⟨s1.heap.objs.size,[s1.heap.objs.size],_,_,H1,rfl,I1.kept (t':=s1.toks) fun b o e=>Heap.get?_push_of_some _ e,rV a _,⟨_,Heap.get?_push_size _ rfl,rfl,rfl⟩,fun b hb=>?_,q⟩
  have e:b=s1.heap.objs.size:=by simpa using hb
  subst e
  exact I1.fpOk (Nat.le_refl _) (I1.hok.fresh (Nat.le_refl _))
theorem vI {pins:List (Addr×Obj)} {σ:St} {H:Hp} {s:Shared} {R:It->Hp->Prop} {E:Value->Shared->Prop} {lo hi:Int} {t u v:Tok} {tk:Nat} (I:Inv X pins σ H s) (h1:-(2 ^ 62)<=lo) (h2:lo < 2 ^ 62) (h3:-(2 ^ 62)<=hi) (h4:hi < 2 ^ 62)
    (q:R (lf lo (hi - lo).toNat) H):wpAny (model X.prog X.w) X.A (pyIter (.ref s.heap.objs.size)) (CD X pins σ tg R) E { s with heap:=s.heap.push { cls:=.type "range",data:=.fields #[.int lo t,.int hi u,.int 1 v] },toks:=tk }:=by
  refine wpAny_pyIter_range (IsRange.new ..) (small_one h1 h2 h3 h4) ?_
  have I1:Inv X pins σ H { s with heap:=s.heap.push { cls:=.type "range",data:=.fields #[.int lo t,.int hi u,.int 1 v] },toks:=tk }:=I.kept fun b o e=>Heap.get?_push_of_some _ e
  refine ⟨(s.heap.push { cls:=.type "range",data:=.fields #[.int lo t,.int hi u,.int 1 v] }).objs.size,[(s.heap.push { cls:=.type "range",data:=.fields #[.int lo t,.int hi u,.int 1 v] }).objs.size],_,_,H,rfl,
    I1.kept (t':=tk) fun b o e=>Heap.get?_push_of_some _ e,rW _ lo (hi - lo).toNat,?_,fun b hb=>?_,q⟩
  . have e1:lo + ((0:Nat):Int) * 1=lo:=by simp
    have e2:(((hi - lo).toNat:Nat):Int) - ((0:Nat):Int)=Builtin.Range.rangeSize lo hi 1:=by rw [rangeSize_one];split <;> omega
    show IsRangeIter _ _ (lo + ((0:Nat):Int) * 1) ((((hi - lo).toNat:Nat):Int) - ((0:Nat):Int)) 1
    rw [e1,e2]
    exact Heap.get?_push_size _ rfl
  . have e:b=(s.heap.push { cls:=.type "range",data:=.fields #[.int lo t,.int hi u,.int 1 v] }).objs.size:=by simpa using hb
    subst e
    exact I1.fpOk (Nat.le_refl _) (I1.hok.fresh (Nat.le_refl _))
def BO (ta:TA):TI:=fun σ H R=>ta σ H fun vs H1=>∃ j:Int,vs=[.int j]/\-(2 ^ 62)<=j/\j < 2 ^ 62/\R (lf 0 j.toNat) H1
theorem tD {a:Expr} {ta:TA} {p pos:Pos} (hg:Gl X "range") (hm:X.mg "range"=none) (ha:PA X [a] ta) (hs:starEach [a] X.env=[(false,eval a X.env)]:=by rfl):PI X tg (.Call (.Name "range" p) [a] [] pos) (BO ta):=by
  intro pins s σ H R I h
  refine Call_ (jD I hg hm boot_range (PyProof.Rows.callWith_type1 (bo (ha pos pins s σ H _ I h) fun us s1 ⟨vs,H1,I1,r1,q1⟩=>?_) hs rfl))
  obtain ⟨j,e,q1,q2,q⟩:=q1
  subst e
  cases r1 with
  | cons r rr =>
    cases rr
    obtain ⟨t,rfl⟩:=r
    exact call_range_1 (vI I1 (by omega) (by omega) q1 q2 (by simpa using q))
def CZ (wi:TI) (g:TG) (tb:TS):TS:=fun D σ H=>wi σ H fun J H1=>∃ W:Nat->Nat->St->Hp->Prop,(∃ m,W 0 m σ H1)/\∀ i m σ H,W i m σ H ->
  (J.stop i H/\D.nx σ H)∨(J.go i H/\∃ N:St->Hp->Prop,(∀ σ' H',N σ' H'->∃ m',m' < m/\W (i + 1) m' σ' H')/\∀ x H',J.yld i H x H'->g x σ H' fun σ2 H2=>tb { D with nx:=N,ct:=N,bk:=D.nx } σ2 H2)
def iL (fp:List Addr) (h:Heap):List (Addr×Obj):=fp.filterMap fun b=>(h.get? b).map fun o=>(b,o)
theorem gQ {fp:List Addr} {h:Heap} {b:Addr} {o:Obj} (hb:b∈fp) (e:h.get? b=some o):(b,o)∈iL fp h:=List.mem_filterMap.mpr ⟨b,hb,by rw [e];rfl⟩
theorem tE {fp:List Addr} {h:Heap} {p:Addr×Obj} (hp:p∈iL fp h):p.1∈fp/\h.get? p.1=some p.2:=by
  obtain ⟨b,hb,e⟩:=List.mem_filterMap.mp hp
  cases q:h.get? b with
  | none=>rw [q] at e;cases e
  | some o =>
    rw [q] at e
    have e':(b,o)=p:=Option.some.inj e
    subst e'
    exact ⟨hb,q⟩
theorem Inv.pinned {pins:List (Addr×Obj)} {σ:St} {H:Hp} {s:Shared} {fp:List Addr} (I:Inv X pins σ H s) (hf:∀ b∈fp,dz X pins H b) (ho:∀ b∈fp,∃ o,s.heap.get? b=some o/\∀ v,o.data≠.cell v):Inv X (pins++iL fp s.heap) σ H s :=
  I.pins_of fun p hp=>(List.mem_append.mp hp).elim (fun z=>I.pin p (List.mem_append_right _ z)) fun z=>by
    obtain ⟨hb,e⟩:=tE z
    obtain ⟨f0,f1,f2,_⟩:=hf p.1 hb
    obtain ⟨o,e',d⟩:=ho p.1 hb
    rw [e] at e';cases e'
    exact ⟨e,f0,f1,f2,d⟩
theorem Inv.unpinned {pins pl:List (Addr×Obj)} {σ:St} {H:Hp} {s:Shared} (I:Inv X (pins++pl) σ H s):Inv X pins σ H s:=I.pins_of fun p hp=>I.pin p (List.mem_append_right _ (List.mem_append_left _ hp))
theorem lg {iter:Expr} {body:List Stmt} {wi:TI} {g:TG} {tb:TS} {pos:Pos} (hp:PassesOwn (model X.prog X.w) X.A X.env X.xe) (hc:X.calm=true) (hi:PI X tg iter wi) (hg:PG X tg g) (hb:PSs X body tb)
    (hs:∀ x,foldedSetIterable iter X.env x=pure x:=by intro _;rfl):PS X (.For tg iter body [] pos) (CZ wi g tb):=by
  intro pins s σ H D I h
  refine wpAny_For (bo (hi pins s σ H _ I h) fun v s1 h1=>bo h1 fun itv s2 h2=>?_) hs
  obtain ⟨it,fp,tn,J,H2,e,I2,T,st2,f2,W,⟨m0,w0⟩,turn⟩:=h2
  subst e
  have stat:∀ {H':Hp},(∀ b∈fp,H' b=none)->∀ b∈fp,dz X pins H' b:=fun hn b hb=>⟨hn b hb,(f2 b hb).2⟩
  refine codeAny_forLoop_any (fun n s'=>∃ i σ' H',Inv X pins σ' H' s'/\tn i s'.heap/\(∀ b∈fp,H' b=none)/\W i n σ' H') ?_ m0 ⟨0,σ,H2,I2,st2,fun b hb=>(f2 b hb).1,w0⟩
  rintro n s3 ⟨i,σ3,H3,I3,st3,fr3,w3⟩
  rcases turn i n σ3 H3 w3 with ⟨stop,qn⟩|⟨go,N,hN,step⟩
  . refine wpAny_passesOwn hp (bo (T.done X rfl rfl rfl hc i pins s3 σ3 H3 X.xe I3 (stat fr3) st3 stop) fun r s4 ⟨hr,I4⟩=>?_)
    subst hr
    exact wpAny_execs_nil ⟨σ3,H3,I4,qn⟩
  . refine wpAny_passesOwn hp (bo (T.item X rfl rfl rfl hc i pins s3 σ3 H3 X.xe I3 (stat fr3) st3 go) fun r s4 ⟨u,hr,h4⟩=>?_)
    subst hr
    refine wpAny_passesOwn hp (bo h4 fun _ s5 ⟨x,H5,I5,r5,y5,st5,fr5⟩=>?_)
    have I5':=I5.pinned (stat fr5) (T.obj _ _ st5)
    refine wpAny_passesOwn hp (bo (hg _ s5 σ3 H5 x u _ I5' r5 (step x H5 y5)) fun _ s6 ⟨σ6,H6,I6,q6⟩=>?_)
    refine wpAny_passesOwn hp (bo (hb _ s6 σ6 H6 _ I6 q6) fun f s7 q7=>?_)
    have again:∀ {σ7:St} {H7:Hp},Inv X (pins++iL fp s5.heap) σ7 H7 s7->N σ7 H7->∃ m,m < n/\∃ i σ' H',Inv X pins σ' H' s7/\tn i s7.heap/\(∀ b∈fp,H' b=none)/\W i m σ' H':=fun {σ7 H7} I7 n7=>by
      obtain ⟨m',hm,w7⟩:=hN σ7 H7 n7
      refine ⟨m',hm,i + 1,σ7,H7,I7.unpinned,T.keep _ _ _ st5 fun b hb o e=>(I7.pin (b,o) (List.mem_append_right _ (List.mem_append_right _ (gQ hb e)))).1,fun b hb=>?_,w7⟩
      obtain ⟨o,e,d⟩:=T.obj _ _ st5 b hb
      exact (I7.pin (b,o) (List.mem_append_right _ (List.mem_append_right _ (gQ hb e)))).2.1
    cases f with
    | next=>obtain ⟨σ7,H7,I7,n7⟩:=q7;exact again I7 n7
    | cont=>obtain ⟨σ7,H7,I7,n7⟩:=q7;exact again I7 n7
    | brk=>obtain ⟨σ7,H7,I7,q7⟩:=q7;exact ⟨σ7,H7,I7.unpinned,q7⟩
    | ret v=>obtain ⟨x7,σ7,H7,I7,r7,q7⟩:=q7;exact ⟨x7,σ7,H7,I7.unpinned,r7,q7⟩
end
theorem vJ {K:PySem.W.Frag} {a:Addr} {xs:List V} {g:TG} {tb:TS} {D:Ends} {σ:St} {H:Hp} (Pv:Nat->St->Hp->Prop) (h0:Pv 0 σ H) (hl:∀ i σ H,i<=xs.length->Pv i σ H->SqL K H a xs)
    (hs:∀ i x σ H,xs[i]?=some x->Pv i σ H->g x σ H fun σ2 H2=>tb { D with nx:=Pv (i + 1),ct:=Pv (i + 1),bk:=D.nx } σ2 H2) (hd:∀ σ H,Pv xs.length σ H->D.nx σ H) :
    ∃ W:Nat->Nat->St->Hp->Prop,(∃ m,W 0 m σ H)/\∀ i m σ H,W i m σ H ->
      ((tu K a).stop i H/\D.nx σ H)∨((tu K a).go i H/\∃ N:St->Hp->Prop,(∀ σ' H',N σ' H'->∃ m',m' < m/\W (i + 1) m' σ' H')/\∀ x H',(tu K a).yld i H x H'->g x σ H' fun σ2 H2=>tb { D with nx:=N,ct:=N,bk:=D.nx } σ2 H2):=by
  refine ⟨fun i m σ H=>m=xs.length - i/\i<=xs.length/\Pv i σ H,⟨xs.length,by simp,Nat.zero_le _,h0⟩,?_⟩
  rintro i m σ H ⟨rfl,hi,p⟩
  have q:=hl i σ H hi p
  by_cases hlt:i < xs.length
  . refine .inr ⟨⟨xs,xs[i],q,by simp [hlt]⟩,Pv (i + 1),fun σ' H' p'=>⟨xs.length - (i + 1),by omega,rfl,hlt,p'⟩,fun x H' y=>?_⟩
    obtain ⟨e,y⟩:=y
    subst e
    exact hs i x σ _ (y xs q) p
  . have e:i=xs.length:=by omega
    subst e
    exact .inl ⟨⟨xs,q,Nat.le_refl _⟩,hd σ H p⟩
theorem xZ {K:PySem.W.Frag} {a:Addr} {xs:List V} {g:TG} {tb:TS} {D:Ends} {σ:St} {H:Hp} (Pv:Nat->St->Hp->Prop) (h0:Pv 0 σ H) (hl:∀ i σ H,i<=xs.length->Pv i σ H->SqT K H a xs)
    (hs:∀ i x σ H,xs[i]?=some x->Pv i σ H->g x σ H fun σ2 H2=>tb { D with nx:=Pv (i + 1),ct:=Pv (i + 1),bk:=D.nx } σ2 H2) (hd:∀ σ H,Pv xs.length σ H->D.nx σ H) :
    ∃ W:Nat->Nat->St->Hp->Prop,(∃ m,W 0 m σ H)/\∀ i m σ H,W i m σ H ->
      ((qS K a).stop i H/\D.nx σ H)∨((qS K a).go i H/\∃ N:St->Hp->Prop,(∀ σ' H',N σ' H'->∃ m',m' < m/\W (i + 1) m' σ' H')/\∀ x H',(qS K a).yld i H x H'->g x σ H' fun σ2 H2=>tb { D with nx:=N,ct:=N,bk:=D.nx } σ2 H2):=by
  refine ⟨fun i m σ H=>m=xs.length - i/\i<=xs.length/\Pv i σ H,⟨xs.length,by simp,Nat.zero_le _,h0⟩,?_⟩
  rintro i m σ H ⟨rfl,hi,p⟩
  have q:=hl i σ H hi p
  by_cases hlt:i < xs.length
  . refine .inr ⟨⟨xs,xs[i],q,by simp [hlt]⟩,Pv (i + 1),fun σ' H' p'=>⟨xs.length - (i + 1),by omega,rfl,hlt,p'⟩,fun x H' y=>?_⟩
    obtain ⟨e,y⟩:=y
    subst e
    exact hs i x σ _ (y xs q) p
  . have e:i=xs.length:=by omega
    subst e
    exact .inl ⟨⟨xs,q,Nat.le_refl _⟩,hd σ H p⟩
theorem tH {lo:Int} {n:Nat} {g:TG} {tb:TS} {D:Ends} {σ:St} {H:Hp} (Pv:Nat->St->Hp->Prop) (h0:Pv 0 σ H)
    (hs:∀ i σ H,i < n->Pv i σ H->g (.int (lo + i)) σ H fun σ2 H2=>tb { D with nx:=Pv (i + 1),ct:=Pv (i + 1),bk:=D.nx } σ2 H2) (hd:∀ σ H,Pv n σ H->D.nx σ H) :
    ∃ W:Nat->Nat->St->Hp->Prop,(∃ m,W 0 m σ H)/\∀ i m σ H,W i m σ H ->
      ((lf lo n).stop i H/\D.nx σ H)∨((lf lo n).go i H/\∃ N:St->Hp->Prop,(∀ σ' H',N σ' H'->∃ m',m' < m/\W (i + 1) m' σ' H')/\∀ x H',(lf lo n).yld i H x H'->g x σ H' fun σ2 H2=>tb { D with nx:=N,ct:=N,bk:=D.nx } σ2 H2):=by
  refine ⟨fun i m σ H=>m=n - i/\i<=n/\Pv i σ H,⟨n,by simp,Nat.zero_le _,h0⟩,?_⟩
  rintro i m σ H ⟨rfl,hi,p⟩
  by_cases hlt:i < n
  . refine .inr ⟨hlt,Pv (i + 1),fun σ' H' p'=>⟨n - (i + 1),by omega,rfl,hlt,p'⟩,fun x H' y=>?_⟩
    obtain ⟨e,y⟩:=y
    subst e y
    exact hs i σ _ hlt p
  . have e:i=n:=by omega
    subst e
    exact .inl ⟨Nat.le_refl _,hd σ H p⟩
end L2
namespace L2
open PySem PySem.Spec PyProof.Rows
abbrev R2:=V->V->Hp->VK->Prop
def OpR (X:Cx) (f:Value->Value->Sem Value) (r:R2):Prop :=
  ∀ (pins:List (Addr×Obj)) (s:Shared) (σ:St) (H:Hp) (x y:V) (v u:Value) (Q:VK),Inv X pins σ H s->RelV x v->RelV y u->r x y H Q ->
    wpAny (model X.prog X.w) X.A (f v u) (EP X pins σ Q) X.xe s
def zP (X:Cx) (f:Value->Sem Value) (r:V->Hp->VK->Prop):Prop :=
  ∀ (pins:List (Addr×Obj)) (s:Shared) (σ:St) (H:Hp) (x:V) (v:Value) (Q:VK),Inv X pins σ H s->RelV x v->r x H Q ->
    wpAny (model X.prog X.w) X.A (f v) (EP X pins σ Q) X.xe s
def cW (X:Cx) (f:Value) (r:List V->Hp->VK->Prop):Prop :=
  ∀ (pins:List (Addr×Obj)) (s:Shared) (σ:St) (H:Hp) (xs:List V) (us:List Value) (Q:VK),Inv X pins σ H s->Vals xs us->r xs H Q ->
    wpAny (model X.prog X.w) X.A (call f us) (EP X pins σ Q) X.xe s
def tJ (r:R2) (ta tb:TE):TE:=fun σ H Q=>ta σ H fun x H1=>tb σ H1 fun y H2=>r x y H2 Q
def Dj (r:V->Hp->VK->Prop) (ta:TE):TE:=fun σ H Q=>ta σ H fun x H1=>r x H1 Q
def rI (C:Int->Int->Prop) (g:Int->Int->V):R2:=fun x y H Q=>∃ i j,x=.int i/\y=.int j/\C i j/\Q (g i j) H
def kw (g:Int->Int->V):R2:=fun x y H Q=>∃ i j,x=.int i/\y=.int j/\Q (g i j) H
def rU (g:Int->V):V->Hp->VK->Prop:=fun x H Q=>∃ i,x=.int i/\Q (g i) H
section
variable {X:Cx} {a b c:Expr} {ta tb tc:TE} {pos:Pos}
theorem vK (ha:PE X a ta) (hb:PE X b tb) {pins:List (Addr×Obj)} {s:Shared} {σ:St} {H:Hp} {R:V->V->Hp->Prop} (I:Inv X pins σ H s)
    (h:ta σ H fun x H1=>tb σ H1 fun y H2=>R x y H2) {Q:Value->Shared->Prop} {f:Value->Value->Sem Value}
    (hf:∀ v u s2 x y H2,Inv X pins σ H2 s2->RelV x v->RelV y u->R x y H2->wpAny (model X.prog X.w) X.A (f v u) Q X.xe s2) :
    wpAny (model X.prog X.w) X.A (eval a X.env) (fun v s₁=>wpAny (model X.prog X.w) X.A (eval b X.env) (fun u s₂=>wpAny (model X.prog X.w) X.A (f v u) Q X.xe s₂) X.xe s₁) X.xe s:=by
  refine bo (ha pins s σ H _ I h) fun v s1 ⟨x,H1,I1,r1,q1⟩=>?_
  refine bo (hb pins s1 σ H1 _ I1 q1) fun u s2 ⟨y,H2,I2,r2,q2⟩=>?_
  exact hf v u s2 x y H2 I2 r1 r2 q2
theorem rX {op:Operator} {r:R2} (ho:OpR X (binaryOp op) r) (ha:PE X a ta) (hb:PE X b tb):PE X (.BinOp a op b pos) (tJ r ta tb):=by
  intro pins s σ H Q I h
  exact wpAny_BinOp (vK ha hb I h fun v u s2 x y H2 I2 rx ry q=>ho pins s2 σ H2 x y v u Q I2 rx ry q)
theorem BP {op:UnaryOp} {r:V->Hp->VK->Prop} (ho:zP X (unaryOp op) r) (ha:PE X a ta):PE X (.UnaryOp op a pos) (Dj r ta):=by
  intro pins s σ H Q I h
  exact UnaryOp_ (bo (ha pins s σ H _ I h) fun v s1 ⟨x,H1,I1,r1,q1⟩=>ho pins s1 σ H1 x v Q I1 r1 q1)
theorem xr {f:Value->Value->Sem Value} {C:Int->Int->Prop} {g:Int->Int->Int}
    (rule:∀ (i j:Int) (t u:Tok) (s:Shared) (Q:Value->Shared->Prop) (E:Value->Shared->Prop),C i j->Q (.int (g i j) s.toks) { s with toks:=s.toks + 1 }->wpAny (model X.prog X.w) X.A (f (.int i t) (.int j u)) Q E s) :
    OpR X f (rI C fun i j=>.int (g i j)):=by
  intro pins s σ H x y v u Q I rx ry h
  obtain ⟨i,j,rfl,rfl,hc,q⟩:=h
  obtain ⟨t,rfl⟩:=rx
  obtain ⟨t',rfl⟩:=ry
  exact rule i j t t' s _ _ hc ⟨.int (g i j),H,I.tok _,⟨_,rfl⟩,q⟩
theorem zQ {f:Value->Value->Sem Value} {g:Int->Int->Int}
    (rule:∀ (i j:Int) (t u:Tok) (s:Shared) (Q:Value->Shared->Prop) (E:Value->Shared->Prop),Q (.int (g i j) s.toks) { s with toks:=s.toks + 1 }->wpAny (model X.prog X.w) X.A (f (.int i t) (.int j u)) Q E s) :
    OpR X f (kw fun i j=>.int (g i j)):=by
  intro pins s σ H x y v u Q I rx ry h
  obtain ⟨i,j,rfl,rfl,q⟩:=h
  obtain ⟨t,rfl⟩:=rx
  obtain ⟨t',rfl⟩:=ry
  exact rule i j t t' s _ _ ⟨.int (g i j),H,I.tok _,⟨_,rfl⟩,q⟩
theorem vL {f:Value->Value->Sem Value} {g:Int->Int->Bool}
    (rule:∀ (i j:Int) (t u:Tok) (s:Shared) (Q:Value->Shared->Prop) (E:Value->Shared->Prop),Q (.bool (g i j)) s->wpAny (model X.prog X.w) X.A (f (.int i t) (.int j u)) Q E s) :
    OpR X f (kw fun i j=>.bl (g i j)):=by
  intro pins s σ H x y v u Q I rx ry h
  obtain ⟨i,j,rfl,rfl,q⟩:=h
  obtain ⟨t,rfl⟩:=rx
  obtain ⟨t',rfl⟩:=ry
  exact rule i j t t' s _ _ ⟨.bl (g i j),H,I,rfl,q⟩
def oz (i j:Int):Prop:=0<=j/\j<=1000000/\i.natAbs < 2 ^ 64
def CMul (i j:Int):Prop:=(-(2 ^ 64) < i/\i < 2 ^ 64)∨(-(2 ^ 64) < j/\j < 2 ^ 64)
theorem CMul.ok {i j:Int} (h:CMul i j):IntMulOk i j:=by
  rcases h with ⟨h1,h2⟩|⟨h1,h2⟩
  . exact .of_left (intBits_le_64 h1 h2)
  . exact .of_right (intBits_le_64 h1 h2)
theorem op_add:OpR X (binaryOp .Add) (kw fun i j=>.int (i + j)):=zQ fun _ _ _ _ _ _ _ q=>add_int q
theorem zR:OpR X (binaryOp .Sub) (kw fun i j=>.int (i - j)):=zQ fun _ _ _ _ _ _ _ q=>sub_int q
theorem zS:OpR X (binaryOp .Mult) (rI CMul fun i j=>.int (i * j)):=xr fun _ _ _ _ _ _ _ hc q=>mul_int q hc.ok
theorem zT:OpR X (binaryOp .Mod) (rI (fun _ j=>0 < j) fun i j=>.int (i % j)):=xr fun i j _ _ _ _ _ hc q=>by
  have h1:(0:Int) < j:=hc
  exact mod_int' (by omega) (by rw [Int.fmod_eq_emod_of_nonneg i (by omega)];exact q)
theorem zU:OpR X (binaryOp .Pow) (rI oz fun i j=>.int (i ^ j.toNat)):=xr fun _ _ _ _ _ _ _ hc q=>pow_int_small hc.1 hc.2.1 hc.2.2 q
theorem Dl {f:Value->Sem Value} {g:Int->Int}
    (rule:∀ (i:Int) (t:Tok) (s:Shared) (Q:Value->Shared->Prop) (E:Value->Shared->Prop),Q (.int (g i) s.toks) { s with toks:=s.toks + 1 }->wpAny (model X.prog X.w) X.A (f (.int i t)) Q E s) :
    zP X f (rU fun i=>.int (g i)):=by
  intro pins s σ H x v Q I rx h
  obtain ⟨i,rfl,q⟩:=h
  obtain ⟨t,rfl⟩:=rx
  exact rule i t s _ _ ⟨.int (g i),H,I.tok _,⟨_,rfl⟩,q⟩
theorem zV:zP X (unaryOp .USub) (rU fun i=>.int (-i)):=Dl fun _ _ _ _ _ q=>neg_int q
end
section
variable {X:Cx} {a b c:Expr} {ta tb tc:TE} {pos:Pos}
theorem BQ:OpR X (compareOp .Lt) (kw fun i j=>.bl (decide (i < j))):=vL fun _ _ _ _ _ _ _ q=>lt_int q
theorem BR:OpR X (compareOp .Gt) (kw fun i j=>.bl (decide (j < i))):=vL fun _ _ _ _ _ _ _ q=>gt_int q
theorem BS:OpR X (compareOp .GtE) (kw fun i j=>.bl (decide (j<=i))):=vL fun _ _ _ _ _ _ _ q=>ge_int q
theorem OpR.or {f:Value->Value->Sem Value} {r r':R2} (h:OpR X f r) (h':OpR X f r'):OpR X f (fun x y H Q=>r x y H Q∨r' x y H Q):=by
  intro pins s σ H x y v u Q I rx ry q
  rcases q with q|q
  . exact h pins s σ H x y v u Q I rx ry q
  . exact h' pins s σ H x y v u Q I rx ry q
theorem ic (b:Expr) {op:CmpOp} (h:op≠.In:=by decide) (h2:op≠.NotIn:=by decide):behindInMarks op b=false:=by
  have e1:(op == CmpOp.In)=false:=by cases op <;> first|rfl|exact absurd rfl h
  have e2:(op == CmpOp.NotIn)=false:=by cases op <;> first|rfl|exact absurd rfl h2
  cases b <;> simp [behindInMarks,e1,e2]
theorem ya {op:CmpOp} {r:R2} (ho:OpR X (compareOp op) r) (ha:PE X a ta) (hb:PE X b tb) (hm:behindInMarks op b=false):PE X (.Compare a [op] [b] pos) (tJ r ta tb):=by
  intro pins s σ H Q I h
  exact wpAny_Compare1 (vK ha hb I h fun v u s2 x y H2 I2 rx ry q=>ho pins s2 σ H2 x y v u Q I2 rx ry q) hm
def BT (t:TE):TT:=fun σ H Q=>t σ H fun x H'=>∃ k,x=.bl k/\Q k H'
theorem yb {op:CmpOp} {r:R2} (ho:OpR X (compareOp op) r) (ha:PE X a ta) (hb:PE X b tb) (hm:behindInMarks op b=false):PT X (.Compare a [op] [b] pos) (BT (tJ r ta tb)):=by
  intro pins s σ H Q I h
  refine wpAny_isTrue_Compare1 (bo (ha pins s σ H _ I h) fun v s1 ⟨x,H1,I1,r1,q1⟩=>bo (hb pins s1 σ H1 _ I1 q1) fun u s2 ⟨y,H2,I2,r2,q2⟩ =>
    bo (ho pins s2 σ H2 x y v u _ I2 r1 r2 q2) fun c s3 ⟨z,H3,I3,r3,k,e,q3⟩=>?_) hm
  subst e
  cases r3
  exact wpAny_truthy_bool ⟨H3,I3,q3⟩
theorem jE:(sizeLine:Nat) < 2 ^ 63:=by rw [sizeLine_eq];decide
theorem rY {x:V} {us:List Value} (r:Vals [x] us):∃ u,us=[u]/\RelV x u:=by
  cases r with
  | cons r1 r2=>cases r2;exact ⟨_,rfl,r1⟩
theorem nZ {x y:V} {us:List Value} (r:Vals [x,y] us):∃ u w',us=[u,w']/\RelV x u/\RelV y w':=by
  cases r with
  | cons r1 r2 =>
    cases r2 with
    | cons r3 r4=>cases r4;exact ⟨_,_,rfl,r1,r3⟩
theorem tL (hc:X.calm=true):cW X (.builtin "max") (fun xs H Q=>∃ i j,xs=[.int i,.int j]/\Q (.int (if j > i then j else i)) H):=by
  intro pins s σ H xs us Q I r h
  obtain ⟨i,j,rfl,q⟩:=h
  obtain ⟨u,w',rfl,⟨t,rfl⟩,⟨t',rfl⟩⟩:=nZ r
  refine max_two_ints (I.ok.hd hc) fun h' tk k=>⟨_,H,I.kept k,?_,q⟩
  by_cases hj:j > i
  . rw [if_pos hj,if_pos hj];exact ⟨_,rfl⟩
  . rw [if_neg hj,if_neg hj];exact ⟨_,rfl⟩
theorem tM (hc:X.calm=true):cW X (.builtin "min") (fun xs H Q=>∃ i j,xs=[.int i,.int j]/\Q (.int (if j < i then j else i)) H):=by
  intro pins s σ H xs us Q I r h
  obtain ⟨i,j,rfl,q⟩:=h
  obtain ⟨u,w',rfl,⟨t,rfl⟩,⟨t',rfl⟩⟩:=nZ r
  refine min_two_ints (I.ok.hd hc) fun h' tk k=>⟨_,H,I.kept k,?_,q⟩
  by_cases hj:j < i
  . rw [if_pos hj,if_pos hj];exact ⟨_,rfl⟩
  . rw [if_neg hj,if_neg hj];exact ⟨_,rfl⟩
end
end L2
namespace L2
open PySem PySem.Spec PyProof.Rows
structure ObjM (h:Heap) (x dx C:Addr) (mA:Str->Option Value):Prop where
  obj:h.get? x=some (PySem.W.instObj C dx)
  ns:h.Ns1 dx mA
  ne:dx≠x
section
variable {prog:Program} {w:World} {A:Around} {E:Value->Shared->Prop} {s:Shared} {K:PySem.W.Frag} {x dx C f:Addr} {mA:Str->Option Value} {name:Str} {v:Value}
end
section
variable {P:Program} {w:World} {H H':Hp} {h h':Heap} {a C dx:Addr} {fs fs':List (Str×V)}
end
structure Cls (K:PySem.W.Frag) (C:Addr):Prop where
  pg:PySem.W.plainGet K C Str.empty=true
  hd:PySem.W.hasDictIn K C=true
  po:PySem.W.plainOver K C=true
  sa:PySem.W.findIn K (.ref C) "__setattr__"=some (some (.builtin "object.__setattr__"))
structure Con (K:PySem.W.Frag) (C:Addr) (f:Str) (v:V) (u:Value):Prop where
  at_:PySem.W.findIn K (.ref C) f=some (some u)
  rel:RelV v u
  get:PySem.W.specialIn K u "__get__"=some none
  cp:PySem.W.copiedNames.contains f=false
structure Meth (K:PySem.W.Frag) (C:Addr) (m:Str) (f:Addr):Prop where
  at_:PySem.W.findIn K (.ref C) m=some (some (.ref f))
  fn:PySem.W.isFn K (.ref f)=true
  kp:PySem.W.keepIn K (.ref f)=true
section
variable {X:Cx} {pins:List (Addr×Obj)} {σ:St} {H:Hp} {s:Shared} {a C dx:Addr} {fs:List (Str×V)} {f:Str} {v:V} {A:Around} {E:Value->Shared->Prop}
end
section
variable {X:Cx} {o e value:Expr} {f:Str} {pos pos' tpos:Pos} {ta tv:TE}
end
section
variable {X:Cx} {pins:List (Addr×Obj)} {σ:St} {H:Hp} {s:Shared} {A:Around} {E:Value->Shared->Prop} {Q:Value->Shared->Prop} {c:Value} {b:Bool}
inductive TyOf (K:PySem.W.Frag) (H:Hp):V->Value->Prop where
  | non:TyOf K H .non (.type "NoneType")
  | bl (x:Bool):TyOf K H (.bl x) (.type "bool")
  | int (i:Int):TyOf K H (.int i) (.type "int")
  | str (x:Str):TyOf K H (.str x) (.type "str")
  | flt (x:UInt64):TyOf K H (.flt x) (.type "float")
  | lst {a:Addr} {xs:List V} (e:H a=some (.lst xs)):TyOf K H (.ref a) (.type "list")
  | frz {a:Addr} {o:Obj} {xs:List V} (e:H a=some (.frz o (.lst xs))):TyOf K H (.ref a) (.type "list")
  | tup {a:Addr} {xs:List V} (e:H a=some (.tup xs)):TyOf K H (.ref a) (.type "tuple")
  | dK {a:Addr} {kvs:List (fW×V)} (e:H a=some (.dK kvs)):TyOf K H (.ref a) (.type "dict")
  | dT {a:Addr} {kvs:List (List fW×V)} (e:H a=some (.dT kvs)):TyOf K H (.ref a) (.type "dict")
  | ins {a C dx:Addr} {fs:List (Str×V)} (e:H a=some (.ins C dx fs)) (cl:Cls K C) (ha:PySem.W.findIn K (.ref C) "__class__"=some (some (.builtin "object.__class__")))
      (hn:PySem.W.specialIn K (.builtin "object.__class__") "__get__"=some (some (.builtin "getset_descriptor.__get__"))) (htk:PySem.W.takesIn K (.builtin "object.__class__")=some true)
      (hm:PySem.W.mroIn K C (.type "object")=some true):TyOf K H (.ref a) (.ref C)
end
end L2
namespace L2
open PySem PySem.Spec PyProof.Rows
structure Room (k:Nat) (A:Around):Prop where
  hd:A.handled=none
  dp:A.depth + 3 * k + 5 < recursionLimit
  un:A.units + 16 * k + 200 < cLine
theorem Room.mono {j k:Nat} {A:Around} (r:Room k A) (h:j<=k):Room j A:=⟨r.hd,by have:=r.dp;omega,by have:=r.un;omega⟩
theorem Room.deeper {k:Nat} {A:Around} (r:Room (k + 1) A) (env:Env):Room k (A.deeper env) :=
  ⟨r.hd,by have:=r.dp;show A.depth + 1 + 3 * k + 5 < _;omega,by have:=r.un;show A.units + 3 + 16 * k + 200 < _;omega⟩
theorem Room.depth {k:Nat} {A:Around} (r:Room k A):A.depth < recursionLimit:=by have:=r.dp;omega
def zW:TA:=fun _ H Q=>Q [] H
def xt (ta:TE) (tr:TA):TA:=fun σ H Q=>ta σ H fun x H1=>tr σ H1 fun xs H2=>Q (x::xs) H2
section
variable {X:Cx} {e:Expr} {es:List Expr} {te:TE} {t:TA} {pos:Pos}
theorem eA:PA X [] zW:=fun _ _ _ _ H Q I h=>Calls.spliced_nil ⟨[],H,I,.nil,h⟩
theorem cT (ha:PE X e te) (hr:PA X es t) (hs:starEach (e::es) X.env=(false,eval e X.env)::starEach es X.env:=by rfl):PA X (e::es) (xt te t):=by
  intro pos pins s σ H Q I h
  rw [hs]
  show wpAny _ _ (spliced ((false,eval e X.env)::backTo pos (starEach es X.env))) _ _ s
  refine Calls.spliced_cons (bo (ha pins s σ H _ I h) fun u s1 ⟨x,H1,I1,r1,q1⟩=>?_)
  exact bo (hr pos pins s1 σ H1 _ I1 q1) fun us s2 ⟨xs,H2,I2,r2,q2⟩=>⟨x::xs,H2,I2,.cons r1 r2,q2⟩
def Da (t:TA):TE:=fun σ H Q=>t σ H fun xs H1=>xs.length<=sizeLine/\∀ p,H1 p=none->Q (.ref p) (bc H1 p (.tup xs))
def Db (t:TA):TE:=fun σ H Q=>t σ H fun xs H1=>xs.length<=sizeLine/\∀ p,H1 p=none->Q (.ref p) (bc H1 p (.lst xs))
theorem zX {x1} (h:PA X es t):PE X (.Tuple es x1 pos) (Da t):=by
  intro pins s σ H Q I hq
  refine wpAny_Tuple_spliced (bo (h pos pins s σ H _ I hq) fun us s1 ⟨xs,H1,I1,r,z,q⟩=>⟨by rw [<- r.length];exact z,?_⟩)
  have hf:H1 s1.heap.objs.size=none:=I1.hok.fresh (Nat.le_refl _)
  refine ⟨.ref s1.heap.objs.size,bc H1 s1.heap.objs.size (.tup xs),I1.laid (t':=s1.toks) (fun b u e=>Heap.get?_push_of_some _ e) (Nat.le_refl _) ?_,rfl,q _ hf⟩
  exact ⟨z,us,r,⟨_,Heap.get?_push_size _ rfl,rfl,_,rfl⟩⟩
theorem tN (h:PA X es t):PE X (.List es pos) (Db t):=by
  intro pins s σ H Q I hq
  refine wpAny_List_spliced (bo (h pos pins s σ H _ I hq) fun us s1 ⟨xs,H1,I1,r,z,q⟩=>⟨by rw [<- r.length];exact z,?_⟩)
  have hf:H1 s1.heap.objs.size=none:=I1.hok.fresh (Nat.le_refl _)
  refine ⟨.ref s1.heap.objs.size,bc H1 s1.heap.objs.size (.lst xs),I1.laid (t':=s1.toks) (fun b u e=>Heap.get?_push_of_some _ e) (Nat.le_refl _) ?_,rfl,q _ hf⟩
  exact ⟨z,us,0,r,Heap.get?_push_size _ rfl⟩
end
abbrev Sp:=List V->Hp->VK->XK->Prop
abbrev ky:=List Env->Hp->Shared->XK->Value->Shared->Prop
structure Env0 (P:Program) (w:World) (K:PySem.W.Frag) (mg:Str->Option Value) (base:Heap) (A:Around) (outer:List Env) (s:Shared) (H:Hp):Prop where
  frames:A.frames=some outer
  mod:Mod K mg base
  bs:∀ b o,base.get? b=some o->s.heap.get? b=some o/\H b=none
  bsz:base.objs.size<=s.heap.objs.size
  funs:s.heap.FunFrames base outer
  frf:∀ b∈cV outer,H b=none
  hok:HOk P w H s.heap
  bare:AllBare s.gens
def CE (outer:List Env) (P:Program) (w:World) (H:Hp) (s:Shared) (Q:VK) (u:Value) (s':Shared):Prop :=
  ∃ v H',s'.os=s.os/\AllBare s'.gens/\Un (cV outer) [] H H' s.heap s'.heap/\HOk P w H' s'.heap/\RelV v u/\Q v H'
def CR (CX:ky) (outer:List Env) (P:Program) (w:World) (H:Hp) (s:Shared) (Q:VK) (E:XK) (r:Result) (s':Shared):Prop :=
  match r with
  | .ok (.ret u)=>CE outer P w H s Q u s'
  | .ok _=>False
  | .error e=>CX outer H s E e s'
structure FnOk (P:Program) (w:World) (K:PySem.W.Frag) (mg:Str->Option Value) (base:Heap) (CX:ky) (k:Nat) (f:Addr) (fd:FuncData) (ps:List Str) (sp:Sp):Prop where
  len:∀ vs H Q E,sp vs H Q E->vs.length=ps.length
  run:∀ (A:Around) (outer:List Env) (s:Shared) (H:Hp) (args:Args) (us:List Value) (vs:List V) (Q:VK) (E:XK),Room k A->Env0 P w K mg base A outer s H->BindsTo s fd args (ps.zip us)->Vals vs us->sp vs H Q E ->
    codeAny (model P w) A (.call (.ref f) args) (CR CX outer P w H s Q E) s
section
variable {X:Cx} {pins:List (Addr×Obj)} {σ:St} {H:Hp} {s s':Shared}
theorem Inv.env0 (I:Inv X pins σ H s):Env0 X.prog X.w X.K X.mg X.base X.A X.stack s H :=
  ⟨I.ok.frames,I.ok.mod,I.bs,Nat.le_trans I.ok.bsz I.sz,I.stack,I.stkFree,I.hok,I.bare⟩
theorem Inv.after {Q:VK} {u:Value} (I:Inv X pins σ H s) (h:CE X.stack X.prog X.w H s Q u s'):EP X pins σ Q u s':=by
  obtain ⟨v,H',os,bare,un,hok,r,q⟩:=h
  obtain ⟨hh,g,d,t,os'⟩:=s'
  obtain rfl:os'=s.os:=os
  exact ⟨v,H',I.call (h':=hh) (g':=g) (d':=d) (t':=t) (ch:=[]) un hok bare (fun b z=>absurd z (by simp)),r,q⟩
end
def Binds (K:PySem.W.Frag) (fd:FuncData) (ps:List Str) (ds:List Value):Prop :=
  ∀ (s:Shared) (us:List Value),K.In s.heap->(us++ds).length=ps.length->BindsTo s fd ⟨us,[]⟩ (ps.zip (us++ds))
theorem Binds.all {K:PySem.W.Frag} {fd:FuncData} {ps:List Str} (h:∀ us:List Value,us.length=ps.length->bindArgs fd ⟨us,[]⟩=pure (ps.zip us)):Binds K fd ps []:=fun s us _ hl=>by
  rw [List.append_nil] at hl ⊢
  exact .of_eq (h us hl)
section
variable {X:Cx} {CX:ky} {k:Nat} {f C:Addr} {fd:FuncData} {ps:List Str} {sp:Sp} {dvs:List V} {ds:List Value} {E:XK} {x m:Str} {p pos apos:Pos} {e o:Expr} {es:List Expr} {ta:TE} {t:TA}
structure Mk (K:PySem.W.Frag) (C f:Addr):Prop where
  makes:PySem.W.makesIn K C=true
  init:PySem.W.findIn K (.ref C) "__init__"=some (some (.ref f))
  fn:PySem.W.isFn K (.ref f)=true
  kp:PySem.W.keepIn K (.ref C)=true
end
section
variable {X:Cx} {CX:ky} {k:Nat} {f C:Addr} {fd:FuncData} {ps ks:List Str} {sp:Sp} {E:XK} {x m:Str} {p pos apos kpos:Pos} {e o:Expr} {es:List Expr} {kws:List Keyword} {te ta:TE} {t tk:TA} {nm:Option Str}
structure KBinds (K:PySem.W.Frag) (fd:FuncData) (ps ks:List Str) (g:List Value->List Value->List Value) (gV:List V->List V->List V):Prop where
  to:∀ (s:Shared) (us ws:List Value),K.In s.heap->(g us ws).length=ps.length->BindsTo s fd ⟨us,ks.zip ws⟩ (ps.zip (g us ws))
  rel:∀ {vs:List V} {us:List Value} {zs:List V} {ws:List Value},Vals vs us->Vals zs ws->Vals (gV vs zs) (g us ws)
variable {g:List Value->List Value->List Value} {gV:List V->List V->List V}
end
structure FnScope (N P:List Str) (sc:Scope):Prop where
  kind:sc.kind=.function
  co:sc.isCoroutine=false
  gen:sc.isGenerator=false
  nd:N.Nodup
  pre:N.take P.length=P
  par:∀ x∈P,sc.names.lookup x=some .local∨sc.names.lookup x=some .cell
  nofree:∀ y∈sc.names,y.2≠.free
theorem mT {kindOf:Str->Option NameKind} {x:Str}:∀ {binds:List (Str×Value)} {m:Str->Option Value},(∀ v,(x,v)∉binds)->bindL kindOf binds m x=m x
  | [],_,_=>rfl
  | (n,v)::r,m,h=>by
    unfold bindL
    rw [mT fun w hw=>h w (List.mem_cons_of_mem _ hw)]
    split
    . have:x≠n:=by rintro rfl;exact h v List.mem_cons_self
      simp [this]
    . rfl
theorem mU {kindOf:Str->Option NameKind} {x:Str}:∀ {binds:List (Str×Value)} {m:Str->Option Value},(∀ v,(x,v)∉binds)->bindC kindOf binds m x=m x
  | [],_,_=>rfl
  | (n,v)::r,m,h=>by
    unfold bindC
    rw [mU fun w hw=>h w (List.mem_cons_of_mem _ hw)]
    split
    . rfl
    . have:x≠n:=by rintro rfl;exact h v List.mem_cons_self
      simp [this]
theorem mV {kindOf:Str->Option NameKind} {x:Str} {v:Value}:∀ {P:List Str} {vs:List Value} {i:Nat} {m:Str->Option Value},P.Nodup->P[i]?=some x->vs[i]?=some v->kindOf x=some .local ->
    bindL kindOf (P.zip vs) m x=some v
  | [],_,_,_,_,h,_,_=>by simp at h
  | _::_,[],_,_,_,_,h,_=>by simp at h
  | p::P,w::vs,0,m,nd,h1,h2,hk=>by
    simp at h1 h2;subst h1;subst h2
    show bindL kindOf ((p,w)::P.zip vs) m p=_
    unfold bindL
    rw [mT fun v hv=>(List.nodup_cons.mp nd).1 (List.of_mem_zip hv).1,if_pos hk]
    simp
  | p::P,w::vs,i + 1,m,nd,h1,h2,hk=>by
    show bindL kindOf ((p,w)::P.zip vs) m x=_
    unfold bindL
    exact mV (i:=i) (List.nodup_cons.mp nd).2 (by simpa using h1) (by simpa using h2) hk
theorem mW {kindOf:Str->Option NameKind} {x:Str} {v:Value}:∀ {P:List Str} {vs:List Value} {i:Nat} {m:Str->Option Value},P.Nodup->P[i]?=some x->vs[i]?=some v->kindOf x≠some .local ->
    bindC kindOf (P.zip vs) m x=some v
  | [],_,_,_,_,h,_,_=>by simp at h
  | _::_,[],_,_,_,_,h,_=>by simp at h
  | p::P,w::vs,0,m,nd,h1,h2,hk=>by
    simp at h1 h2;subst h1;subst h2
    show bindC kindOf ((p,w)::P.zip vs) m p=_
    unfold bindC
    rw [mU fun v hv=>(List.nodup_cons.mp nd).1 (List.of_mem_zip hv).1,if_neg hk]
    simp
  | p::P,w::vs,i + 1,m,nd,h1,h2,hk=>by
    show bindC kindOf ((p,w)::P.zip vs) m x=_
    unfold bindC
    exact mW (i:=i) (List.nodup_cons.mp nd).2 (by simpa using h1) (by simpa using h2) hk
def start (N:List Str) (vs:List V):St:=vs.map some++List.replicate (N.length - vs.length) none
def ie (CX:ky) (P:Program) (w:World) (K:PySem.W.Frag) (mg:Str->Option Value) (base:Heap) (N:List Str) (qual:Str) (scope:Scope) (f:Addr) (cd:Value) (A:Around) (outer:List Env) (s:Shared) (H:Hp) (E:XK):Cx where
  prog:=P
  w:=w
  K:=K
  mg:=mg
  base:=base
  A:=A.deeper (envOfC qual scope s.heap.objs.size f cd)
  N:=N
  s₀:=s
  H₀:=H
  env:=envOfC qual scope s.heap.objs.size f cd
  outer:=outer
  stack:=envOfC qual scope s.heap.objs.size f cd::outer
  ex:=[]
  calm:=true
  fn:=fun _=>true
  pn:=[]
  xe:=fun e s'=>wpAny (model P w) (A.deeper (envOfC qual scope s.heap.objs.size f cd)) (leaving (envOfC qual scope s.heap.objs.size f cd) e) (fun _ s''=>CX outer H s E e s'') (fun e' s''=>CX outer H s E e' s'') s'
theorem oA {sc:Scope} {n:Nat} {x:Str} (h:sc.names.lookup x=some .cell):∃ c,(cellsFrom n sc.names []).lookup x=some c:=by
  have q:=PySem.W.cellsFrom_some sc.names n [] (.inl h)
  exact Option.isSome_iff_exists.mp q
theorem tP {CX:ky} {P:Program} {w:World} {K:PySem.W.Frag} {mg:Str->Option Value} {base:Heap} {N ps:List Str} {qual:Str} {scope:Scope} {f:Addr} {cd:Value} {A:Around} {outer:List Env} {s s1:Shared} {H:Hp} {E:XK} {us:List Value} {vs:List V}
    (S:FnScope N ps scope) (hd:A.handled=none) (e0:Env0 P w K mg base A outer s H) (hl:vs.length=ps.length) (r:Vals vs us)
    (x:InCallC s s.heap.objs.size (bindL (envOfC qual scope s.heap.objs.size f cd).kindOf (ps.zip us) fun _=>none) (cellsFrom (s.heap.objs.size + 1) scope.names []) (bindC (envOfC qual scope s.heap.objs.size f cd).kindOf (ps.zip us) fun _=>none) s1) :
    Inv (ie CX P w K mg base N qual scope f cd A outer s H E) [] (start N vs) H s1:=by
  have hpl:ps.length<=N.length:=by have:=congrArg List.length S.pre;rw [List.length_take] at this;omega
  obtain ⟨h1,tk,rfl,hk⟩:=x.done
  have noA:∀ b:Addr,b∉(ie CX P w K mg base N qual scope f cd A outer s H E).ex:=fun b z=>absurd (show b∈([]:List Addr) from z) (by simp)
  refine ⟨⟨e0.mod,S.kind,rfl,rfl,Nat.le_refl _,fun y z c h1 h2=>?_,fun y hy=>?_,fun y c _ h=>?_,fun _=>hd,Around.frames_deeper e0.frames,.inr ⟨rfl,rfl⟩,fun b z=>absurd z (noA b),e0.bs,e0.bsz,fun b _ _=>noA b,fun b z=>absurd z (noA b),e0.funs,e0.frf⟩,
    rfl,e0.bare,Un.kept hk,⟨_,x.toInCall.ns,fun i y v h1 h2 h3=>?_⟩,fun y c h=>⟨_,x.cell y c h⟩,e0.hok.fresh (Nat.le_refl _),fun y c h=>?_,fun p hp=>absurd (show p∈([]:List (Addr×Obj)) from hp) (by simp),e0.hok.kept hk,?_⟩
  . exact name_of_addr x.apart (PySem.mem_of_lookup h1) (PySem.mem_of_lookup h2)
  . have hy:scope.names.lookup y=some .cell∨scope.names.lookup y=some .free:=hy
    rcases hy with hy|hy
    . exact oA hy
    . exact absurd rfl (S.nofree _ (PySem.mem_of_lookup hy))
  . exact Nat.le_of_lt (x.above y c (PySem.mem_of_lookup h))
  . have hi:i < vs.length:=by
      unfold start at h2
      by_cases hi:i < vs.length
      . exact hi
      . rw [List.getElem?_append_right (by simpa using hi)] at h2
        rw [List.getElem?_replicate] at h2
        split at h2 <;> cases h2
    have ha:vs[i]?=some v:=by
      unfold start at h2
      rw [List.getElem?_append_left (by simpa using hi),List.getElem?_map] at h2
      cases e:vs[i]? with
      | none=>rw [e] at h2;cases h2
      | some a=>rw [e] at h2;cases h2;rfl
    obtain ⟨u,hu,rv⟩:=r.get ha
    have hp:ps[i]?=some y:=by
      rw [<- S.pre,List.getElem?_take_of_lt (by omega)];exact h1
    have ndP:ps.Nodup:=by rw [<- S.pre];exact S.nd.sublist (List.take_sublist _ _)
    refine ⟨u,rv,?_⟩
    rcases S.par y (List.mem_of_getElem? hp) with k|k
    . exact .inl ⟨k,mV ndP hp hu k⟩
    . obtain ⟨c,e⟩:=oA (n:=s.heap.objs.size + 1) k
      refine .inr ⟨.inl k,c,e,?_⟩
      have q:=x.cell y c e
      rw [mW ndP hp hu (by show scope.names.lookup y≠_;rw [k];decide)] at q
      exact q
  . exact e0.hok.fresh (Nat.le_of_lt (x.above y c (PySem.mem_of_lookup h)))
  . unfold start
    show _=N.length
    rw [List.length_append,List.length_map,List.length_replicate]
    omega
theorem BU {CX:ky} {P:Program} {w:World} {K:PySem.W.Frag} {mg:Str->Option Value} {base:Heap} {k:Nat} {f:Addr} {name qual:Str} {params:Arguments} {body:List Stmt} {scope:Scope} {dV kV doc pm cdv ct oc:Value} {an od:Option Addr}
    {osl:Array (Option Value)} {N ps:List Str} {sp:Sp} (lk:K.lookup f=some ⟨oc,od,.func (PySem.W.fnOf name qual params body scope dV kV doc pm an cdv ct),osl⟩) (hcd:PySem.W.codeIn K cdv qual=true) (S:FnScope N ps scope)
    (len:∀ vs H Q E,sp vs H Q E->vs.length=ps.length)
    (hbody:∀ (A:Around) (outer:List Env) (s:Shared) (H:Hp) (vs:List V) (Q:VK) (E:XK),Room k (A.deeper (envOfC qual scope s.heap.objs.size f cdv))->sp vs H Q E ->
      ∃ t,PSs (ie CX P w K mg base N qual scope f cdv A outer s H E) body t/\t { nx:=fun _ H'=>Q .non H',rt:=Q } (start N vs) H) :
    FnOk P w K mg base CX (k + 1) f (PySem.W.fnOf name qual params body scope dV kV doc pm an cdv ct) ps sp:=by
  refine ⟨len,fun A outer s H args us vs Q E hr e0 hb r hsp=>?_⟩
  have hl:=len _ _ _ _ hsp
  have KX:K.In s.heap:=e0.mod.kin.keeps fun b o e=>(e0.bs b o e).1
  have lim:s.heap.NoLimit:=e0.mod.nolimit.keeps fun b o e=>(e0.bs b o e).1
  have hkind:∀ y∈ps.zip us,scope.names.lookup y.1=some .local∨(scope.names.lookup y.1=some .cell/\((cellsFrom (s.heap.objs.size + 1) scope.names []).lookup y.1).isSome=true):=fun ⟨n,v⟩ hy=>by
    rcases S.par n (List.of_mem_zip hy).1 with q|q
    . exact .inl q
    . exact .inr ⟨q,PySem.W.cellsFrom_some _ _ _ (.inl q)⟩
  refine codeAny_call_function hr.depth (KX _ _ lk) rfl S.co S.gen rfl (PySem.W.codeRec_of KX hcd) (hb _ _ _ _ ?_)
  refine wpAny_newFunctionEnv_cells S.kind hkind fun env he s1 x=>?_
  subst he
  refine ⟨lim.keeps x.toInCall.keep,codeAny_func ?_⟩
  obtain ⟨t,ht,hq⟩:=hbody A outer s H vs Q E (hr.deeper _) hsp
  have I:Inv (ie CX P w K mg base N qual scope f cdv A outer s H E) [] (start N vs) H s1:=tP S hr.hd e0 hl r x
  refine wpAny_mono (ht [] s1 (start N vs) H _ I hq) (fun fl s' hs=>?_) fun e s' hs=>hs
  have be:∀ {σ':St} {H':Hp} {v:V} {u:Value},Inv (ie CX P w K mg base N qual scope f cdv A outer s H E) [] σ' H' s'->RelV v u->Q v H'->CE outer P w H s Q u s' :=
    fun {σ' H' v u} J rv q=>⟨v,H',J.os,J.bare,J.base,J.hok,rv,q⟩
  cases fl with
  | ret u =>
    obtain ⟨v,σ',H',J,rv,q⟩:=hs
    exact be J rv q
  | next =>
    obtain ⟨σ',H',J,q⟩:=hs
    exact be (v:=V.non) (u:=Value.none) J rfl q
  | brk =>
    obtain ⟨_,_,_,q⟩:=hs
    exact False.elim q
  | cont =>
    obtain ⟨_,_,_,q⟩:=hs
    exact False.elim q
end L2
namespace L2
open PySem PySem.Spec PyProof.Rows
section
variable {X:Cx} {x:Str} {p pos:Pos} {e:Expr} {es:List Expr} {t:TA} {id T:String} {r:List V->Hp->VK->Prop}
def CF (r:List V->Hp->VK->Prop) (t:TA):TE:=fun σ H Q=>t σ H fun vs H1=>r vs H1 Q
theorem fY (hc:cW X (.builtin id) r) (hg:Gl X x) (hm:X.mg x=none) (hv:bootBuiltins x=some (.builtin id)) (ha:PA X (e::es) t) (hn:x≠"__name__":=by decide) (hdb:(x == ("__debug__":Str))=false:=by decide)
    (he:starEach (e::es) X.env=(false,eval e X.env)::starEach es X.env:=by rfl) (hpl:(backTo pos (starEach es X.env)).any (·.1)=false:=by rfl):PE X (.Call (.Name x p) (e::es) [] pos) (CF r t):=by
  intro pins s σ H Q I h
  refine wpAny_Call_Name_kw (jD I hg hm hv ?_ hn hdb)
  exact PyProof.Rows.callWith_builtin1 (bo (ha pos pins s σ H _ I h) fun us s1 ⟨vs,H1,I1,r1,q1⟩=>hc pins s1 σ H1 vs us Q I1 r1 q1) he hpl
theorem jF (hc:cW X (.type T) r) (hg:Gl X x) (hm:X.mg x=none) (hv:bootBuiltins x=some (.type T)) (ha:PA X (e::es) t) (hn:x≠"__name__":=by decide) (hdb:(x == ("__debug__":Str))=false:=by decide)
    (he:starEach (e::es) X.env=(false,eval e X.env)::starEach es X.env:=by rfl) (hpl:(backTo pos (starEach es X.env)).any (·.1)=false:=by rfl):PE X (.Call (.Name x p) (e::es) [] pos) (CF r t):=by
  intro pins s σ H Q I h
  refine wpAny_Call_Name_kw (jD I hg hm hv ?_ hn hdb)
  exact PyProof.Rows.callWith_type1 (bo (ha pos pins s σ H _ I h) fun us s1 ⟨vs,H1,I1,r1,q1⟩=>hc pins s1 σ H1 vs us Q I1 r1 q1) he hpl
end
end L2
namespace HT
open PySem PyProof.Rows
section
open PySem.SeqAt
open PySem.AutoSeq1 (wpAny_loadPart')
open PySem.MeetsSeq PySem.MeetsSeq2 PySem.MeetsSeq3
end
section
variable {prog:Program} {w:World} {A:Around} {E:Value->Shared->Prop} {s:Shared}
def sIx (n d:Nat):Option Int->Nat
  | none=>d
  | some v=>if v < 0 then (v + (n:Int)).toNat else min v.toNat n
end
end HT
namespace L2
open PySem PySem.Spec PyProof.Rows
abbrev TO:=St->Hp->(Option Int->Hp->Prop)->Prop
def PO (X:Cx) (e:Option Expr) (t:TO):Prop :=
  ∀ (pins:List (Addr×Obj)) (s:Shared) (σ:St) (H:Hp) (Q:Option Int->Hp->Prop),Inv X pins σ H s->t σ H Q ->
    wpAny (model X.prog X.w) X.A (evalPart e X.env) (fun u s'=>∃ o H',Inv X pins σ H' s'/\IsPart u o/\Q o H') X.xe s
def yc:TO:=fun _ H Q=>Q none H
def BV (t:TE):TO:=fun σ H Q=>t σ H fun x H1=>∃ i,x=.int i/\Q (some i) H1
section
variable {X:Cx} {e:Expr} {te:TE} {lo hi:Option Expr} {tl th:TO} {pos p2:Pos}
theorem yf:PO X none yc:=by
  intro pins s σ H Q I h
  rw [evalPart_none]
  exact wpAny_pure ⟨none,H,I,.none,h⟩
theorem yg (h:PE X e te):PO X (some e) (BV te):=by
  intro pins s σ H Q I hw
  rw [evalPart_some]
  refine bo (h pins s σ H _ I hw) fun u s1 ⟨x,H1,I1,r1,q1⟩=>?_
  obtain ⟨i,rfl,q⟩:=q1
  obtain ⟨t,rfl⟩:=r1
  exact ⟨some i,H1,I1,.int i t,q⟩
def CG (X:Cx) (r:V->Option Int->Option Int->Hp->VK->Prop):Prop :=
  ∀ (pins:List (Addr×Obj)) (s:Shared) (σ:St) (H:Hp) (x:V) (v vl vu:Value) (lo hi:Option Int) (sl:Addr) (Q:VK),Inv X pins σ H s->RelV x v->s.heap.IsSliceOf sl vl vu .none->IsPart vl lo->IsPart vu hi->r x lo hi H Q ->
    ∃ T id,typeLookup (.type T) "__getitem__"=pure (some (.builtin id))/\s.TypeIs v T/\wpAny (model X.prog X.w) X.A (getItem v (.ref sl)) (EP X pins σ Q) X.xe s
def Dm (r:V->Option Int->Option Int->Hp->VK->Prop) (te:TE) (tl th:TO):TE:=fun σ H Q=>te σ H fun x H1=>tl σ H1 fun l H2=>th σ H2 fun u H3=>r x l u H3 Q
theorem vM {r:V->Option Int->Option Int->Hp->VK->Prop} (hr:CG X r) (he:PE X e te) (hl:PO X lo tl) (hu:PO X hi th):PE X (.Subscript e (.Slice lo hi none p2) pos) (Dm r te tl th):=by
  intro pins s σ H Q I h
  refine Subscript_ (bo (he pins s σ H _ I h) fun v s1 ⟨x,H1,I1,r1,q1⟩=>?_)
  refine wpAny_Slice (bo (hl pins s1 σ H1 _ I1 q1) fun vl s2 ⟨l,H2,I2,pl,q2⟩=>bo (hu pins s2 σ H2 _ I2 q2) fun vu s3 ⟨u,H3,I3,pu,q3⟩=>?_)
  rw [evalPart_none]
  refine wpAny_pure ?_
  have I4:Inv X pins σ H3 { s3 with heap:=s3.heap.push { cls:=.type "slice",data:=.fields #[vl,vu,.none] } }:=I3.kept (t':=s3.toks) fun b ob q=>Heap.get?_push_of_some _ q
  obtain ⟨T,id,hT,ht,hg⟩:=hr pins { s3 with heap:=s3.heap.push { cls:=.type "slice",data:=.fields #[vl,vu,.none] } } σ H3 x v vl vu l u s3.heap.objs.size Q I4 r1 (Heap.IsSliceOf.new ..) pl pu q3
  show wpAny (model X.prog X.w) X.A (subscriptTail e (.Slice lo hi none p2) v (.ref s3.heap.objs.size)) (EP X pins σ Q) X.xe { s3 with heap:=s3.heap.push { cls:=.type "slice",data:=.fields #[vl,vu,.none] } }
  exact tail_any (ops:=[.ref s3.heap.objs.size,v]) ht hT hg (by with_unfolding_all rfl)
def kF (xs:List V) (lo hi:Option Int):List V:=(xs.drop (HT.sIx xs.length 0 lo)).take (HT.sIx xs.length xs.length hi - HT.sIx xs.length 0 lo)
theorem qt (xs:List V) (lo hi:Option Int):(kF xs lo hi).length<=xs.length:=by
  unfold kF
  rw [List.length_take,List.length_drop]
  omega
end
end L2
namespace L2
open PySem PySem.Spec PyProof.Rows
def eB (n:Nat) (i:Int):Option Nat:=if 0<=i then (if i < n then some i.toNat else none) else if -(n:Int)<=i then some (i + n).toNat else none
def dh {α:Type} (xs:List α) (i:Int):Option α:=(eB xs.length i).bind fun j=>xs[j]?
theorem qU {n:Nat} {i:Int} {j:Nat} (h:eB n i=some j):seqIndex? i n=some j/\j < n/\-(n:Int)<=i/\i < n:=by
  unfold eB at h
  by_cases h0:0<=i
  . rw [if_pos h0] at h
    by_cases h1:i < n
    . rw [if_pos h1] at h
      have e:i.toNat=j:=Option.some.inj h
      exact ⟨by rw [seqIndex_of h0 h1,e],by omega,by omega,h1⟩
    . rw [if_neg h1] at h;cases h
  . rw [if_neg h0] at h
    by_cases h1:-(n:Int)<=i
    . rw [if_pos h1] at h
      have e:(i + n).toNat=j:=Option.some.inj h
      exact ⟨by rw [seqIndex_neg (by omega) h1,e],by omega,h1,by omega⟩
    . rw [if_neg h1] at h;cases h
theorem mt {α:Type} {xs:List α} {i:Int} {v:α} (h:dh xs i=some v):∃ j,seqIndex? i xs.length=some j/\xs[j]?=some v/\j < xs.length/\-(xs.length:Int)<=i/\i < xs.length:=by
  unfold dh at h
  cases e:eB xs.length i with
  | none=>rw [e] at h;cases h
  | some j =>
    rw [e] at h
    obtain ⟨h1,h2,h3,h4⟩:=qU e
    exact ⟨j,h1,h,h2,h3,h4⟩
def qV (b:Expr):Prop:=∀ o i,subscripted b false o i=operate [o,i] (getItem o i)
def IxR (X:Cx) (r:R2):Prop :=
  ∀ (value slice:Expr) (pins:List (Addr×Obj)) (s:Shared) (σ:St) (H:Hp) (x y:V) (v u:Value) (Q:VK),Inv X pins σ H s->RelV x v->RelV y u->r x y H Q ->
    subscripted slice false v u=operate [v,u] (getItem v u)->wpAny (model X.prog X.w) X.A (subscriptTail value slice v u) (EP X pins σ Q) X.xe s
def CH (X:Cx) (id:String) (r:V->List V->Hp->VK->Prop):Prop :=
  ∀ (pins:List (Addr×Obj)) (s:Shared) (σ:St) (H:Hp) (x:V) (xs:List V) (v:Value) (us:List Value) (Q:VK),Inv X pins σ H s->RelV x v->Vals xs us->r x xs H Q ->
    wpAny (model X.prog X.w) X.A (call (.builtin id) (v::us)) (EP X pins σ Q) X.xe s
section
variable {X:Cx} {a b:Expr} {ta tb:TE} {pos:Pos}
theorem IxR.or {r r':R2} (h:IxR X r) (h':IxR X r'):IxR X (fun x y H Q=>r x y H Q∨r' x y H Q):=by
  intro value slice pins s σ H x y v u Q I rx ry q hs
  rcases q with q|q
  . exact h value slice pins s σ H x y v u Q I rx ry q hs
  . exact h' value slice pins s σ H x y v u Q I rx ry q hs
theorem BW {r:R2} (hr:IxR X r) (ha:PE X a ta) (hb:PE X b tb) (hs:qV b):PE X (.Subscript a b pos) (tJ r ta tb):=by
  intro pins s σ H Q I h
  exact Subscript_ (vK ha hb I h fun v u s2 x y H2 I2 rx ry q=>hr a b pins s2 σ H2 x y v u Q I2 rx ry q (hs _ _))
def zY (K:PySem.W.Frag):R2:=fun x y H Q=>∃ p xs i v,x=.ref p/\y=.int i/\SqL K H p xs/\dh xs i=some v/\Q v H
def zZ (K:PySem.W.Frag):R2:=fun x y H Q=>∃ p xs i v,x=.ref p/\y=.int i/\SqT K H p xs/\dh xs i=some v/\Q v H
def Aa:R2:=fun x y H Q=>∃ z i c,x=.str z/\y=.int i/\z.length<=sizeLine/\dh z.cps.toList i=some c/\Q (.str ⟨#[c]⟩) H
theorem ix_list:IxR X (zY X.K):=by
  intro value slice pins s σ H x y v u Q I rx ry h hs
  obtain ⟨p,xs,i,z,rfl,rfl,hq,he,q⟩:=h
  cases rx
  obtain ⟨t,rfl⟩:=ry
  obtain ⟨its,r,pl,hz⟩:=I.list hq
  obtain ⟨j,h1,h2,h3,h4,h5⟩:=mt he
  obtain ⟨w,ew,rw'⟩:=r.get h2
  have hl:=r.length
  have hn:=jE
  have be:EP X pins σ Q w s:=⟨z,H,I,rw',q⟩
  by_cases h0:0<=i
  . have hj:i.toNat=j:=by
      rw [seqIndex_of h0 h5] at h1
      exact Option.some.inj h1
    exact item_listR pl.isList h0 (by omega) (by rw [hj];simpa using ew) be hs
  . have hj:(i + (its.toArray.size:Int)).toNat=j:=by
      rw [seqIndex_neg (by omega) h4] at h1
      rw [List.size_toArray,<- hl]
      exact Option.some.inj h1
    exact subscriptTail_builtinR (x:=w) pl.isList.typeIs slot_list_getitem.lookup
      (wpAny_getItem_list_neg (Q:=fun r s'=>r=w/\EP X pins σ Q r s') pl.isList (by omega) (by rw [List.size_toArray] <;> omega) (by omega) (by rw [hj];simpa using ew) ⟨rfl,be⟩) hs
theorem ix_tup:IxR X (zZ X.K):=by
  intro value slice pins s σ H x y v u Q I rx ry h hs
  obtain ⟨p,xs,i,z,rfl,rfl,hq,he,q⟩:=h
  cases rx
  obtain ⟨t,rfl⟩:=ry
  obtain ⟨its,r,pl,hz⟩:=I.tuple hq
  obtain ⟨j,h1,h2,h3,h4,h5⟩:=mt he
  obtain ⟨w,ew,rw'⟩:=r.get h2
  have hl:=r.length
  have hn:=jE
  have be:EP X pins σ Q w s:=⟨z,H,I,rw',q⟩
  exact subscriptTail_builtinR (x:=w) pl.typeIs slot_tuple_getitem.lookup
    (getItem_tuple (j:=j) (Q:=fun r s'=>r=w/\EP X pins σ Q r s') pl (by omega) (by omega) (by rw [List.size_toArray,<- hl];exact h1) (by simpa using ew) ⟨rfl,be⟩) hs
theorem Ab:IxR X Aa:=by
  intro value slice pins s σ H x y v u Q I rx ry h hs
  obtain ⟨z,i,c,rfl,rfl,hz,he,q⟩:=h
  obtain ⟨t,rfl⟩:=rx
  obtain ⟨t',rfl⟩:=ry
  obtain ⟨j,h1,h2,h3,h4,h5⟩:=mt he
  have hl:z.cps.toList.length=z.length:=by simp [Str.length]
  rw [hl] at h1 h4 h5
  have hn:=jE
  exact tail_any (typeIs_str s z t) slot_str_getitem.lookup (getItem_str (c:=c) (by
    have e1:decide (i < -(2 ^ 63:Int))=false:=decide_eq_false (by omega)
    have e2:decide (i ≥ 2 ^ 63)=false:=decide_eq_false (by omega)
    rw [e1,e2,Bool.or_false]) (by rw [h1];simpa using h2) ⟨.str ⟨#[c]⟩,H,I.tok _,⟨_,rfl⟩,q⟩) hs
def CI (K:PySem.W.Frag):R2:=fun x y H Q=>zY K x y H Q∨zZ K x y H Q∨Aa x y H Q
theorem Ac:IxR X (CI X.K):=ix_list.or (ix_tup.or Ab)
theorem rZ (its:List Value) (n j:Nat) (u:Value):Obj.mapSeq (·.setIfInBounds j u) { cls:=.type "list",data:=.seq its.toArray n }={ cls:=.type "list",data:=.seq (its.set j u).toArray n }:=by
  simp [Obj.mapSeq]
theorem Inv.lst {pins:List (Addr×Obj)} {σ:St} {H:Hp} {s:Shared} {p:Addr} {xs:List V} (I:Inv X pins σ H s) (h:H p=some (.lst xs)) :
    ∃ (its:List Value) (n:Nat),Vals xs its/\s.heap.get? p=some { cls:=.type "list",data:=.seq its.toArray n }/\xs.length<=sizeLine:=by
  obtain ⟨z,its,n,r,e⟩:=I.hok p _ h
  exact ⟨its,n,r,e,z⟩
theorem Inv.lstUpd {pins:List (Addr×Obj)} {σ:St} {H:Hp} {s:Shared} {p:Addr} {xs ys:List V} {its its':List Value} {n n':Nat} {f:Obj->Obj} (I:Inv X pins σ H s) (h:H p=some (.lst xs))
    (ho:s.heap.get? p=some { cls:=.type "list",data:=.seq its.toArray n }) (hf:f { cls:=.type "list",data:=.seq its.toArray n }={ cls:=.type "list",data:=.seq its'.toArray n' }) (r:Vals ys its') (hz:ys.length<=sizeLine) (t:Nat) :
    Inv X pins σ (bc H p (.lst ys)) { s with heap:=s.heap.update p f,toks:=t }:=by
  have e:(s.heap.update p f).get? p=some { cls:=.type "list",data:=.seq its'.toArray n' }:=by
    rw [Heap.get?_update_self f ho (by rw [hf] <;> rfl),hf]
  refine I.write (x:=p) (e:=p) (by rw [h];trivial) (.inl rfl) (fun b u hb q=>(Heap.get?_update_other _ _ (Ne.symm hb)).trans q) ⟨_,e⟩ ?_
  exact ⟨hz,its',n',r,e⟩
def BX:V->V->V->Hp->(Hp->Prop)->Prop:=fun o i v H Q=>∃ p xs k j,o=.ref p/\i=.int k/\H p=some (.lst xs)/\eB xs.length k=some j/\Q (bc H p (.lst (xs.set j v)))
theorem vN:vG X BX:=by
  intro pins s σ H o i v ov iv u Q I ro ri rv h
  obtain ⟨p,xs,k,j,rfl,rfl,hp,hj,q⟩:=h
  cases ro
  obtain ⟨t,rfl⟩:=ri
  obtain ⟨its,n,r,ho,hz⟩:=I.lst hp
  obtain ⟨h1,h2,h3,h4⟩:=qU hj
  have hl:=r.length
  have hn:=jE
  have I':Inv X pins σ (bc H p (.lst (xs.set j v))) { s with heap:=s.heap.update p (Obj.mapSeq (·.setIfInBounds j u)) } :=
    I.lstUpd hp ho (rZ its n j u) (r.set rv j) (by rw [List.length_set];exact hz) s.toks
  by_cases h0:0<=k
  . have hk:k.toNat=j:=by
      rw [seqIndex_of h0 h4] at h1
      exact Option.some.inj h1
    exact PySem.W.ki_setAt ho h0 (by omega) (by rw [List.size_toArray,<- hl];exact h4) (by rw [hk];exact ⟨_,I',q⟩)
  . have hk:(k + (its.toArray.size:Int)).toNat=j:=by
      rw [seqIndex_neg (by omega) h3] at h1
      rw [List.size_toArray,<- hl]
      exact Option.some.inj h1
    exact PySem.W.ki_setBack ho (by omega) (by rw [List.size_toArray,<- hl];exact h3) (by omega) (by rw [hk];exact ⟨_,I',q⟩)
theorem oB (lo hi:Option Int) (n:Nat):(sliceBounds lo hi none n).1=((HT.sIx n 0 lo:Nat):Int)/\(sliceBounds lo hi none n).2.1=((HT.sIx n n hi:Nat):Int)/\(sliceBounds lo hi none n).2.2=1:=by
  refine ⟨?_,?_,rfl⟩
  . cases lo with
    | none=>simp [sliceBounds,HT.sIx]
    | some i =>
      simp only [sliceBounds,HT.sIx,Option.getD_none,show (1:Int) > 0 by decide,if_true]
      by_cases h:i < 0
      . simp only [h,if_true] <;> omega
      . simp only [h,if_false] <;> omega
  . cases hi with
    | none=>simp [sliceBounds,HT.sIx]
    | some i =>
      simp only [sliceBounds,HT.sIx,Option.getD_none,show (1:Int) > 0 by decide,if_true]
      by_cases h:i < 0
      . simp only [h,if_true] <;> omega
      . simp only [h,if_false] <;> omega
theorem nJ (its:List Value) (lo hi:Option Int):slicePick its.toArray lo hi none=((its.drop (HT.sIx its.length 0 lo)).take (HT.sIx its.length its.length hi - HT.sIx its.length 0 lo)).toArray:=by
  obtain ⟨h1,h2,h3⟩:=oB lo hi its.toArray.size
  unfold slicePick
  rw [h1,h2,h3]
  simp only [sliceRange_one,pick_run,List.size_toArray] <;> rfl
def Ad (K:PySem.W.Frag):V->Option Int->Option Int->Hp->VK->Prop:=fun x lo hi H Q=>∃ a xs,x=.ref a/\SqL K H a xs/\∀ p,H p=none->Q (.ref p) (bc H p (.lst (kF xs lo hi)))
theorem yh:CG X (Ad X.K):=by
  intro pins s σ H x v vl vu lo hi sl Q I rx hs pl pu h
  obtain ⟨a,xs,rfl,hx,q⟩:=h
  cases rx
  obtain ⟨its,r,ht,hz⟩:=I.list hx
  have hlen:=r.length
  refine ⟨"list",_,slot_list_getitem.lookup,ht.isList.typeIs,?_⟩
  refine wpAny_getItem_list_slice ht.isList hs pl pu .none (by simp) ?_ (by rw [List.size_toArray] <;> omega)
  rw [nJ,<- hlen]
  refine ⟨.ref s.heap.objs.size,_,I.laid (t':=s.toks) (o:=.lst (kF xs lo hi)) (fun b ob q=>Heap.get?_push_of_some _ q) (Nat.le_refl _) ?_,rfl,q _ (I.hok.fresh (Nat.le_refl _))⟩
  exact ⟨Nat.le_trans (qt xs lo hi) hz,_,0,(r.drop (HT.sIx xs.length 0 lo)).take (HT.sIx xs.length xs.length hi - HT.sIx xs.length 0 lo),Heap.get?_push_size _ rfl⟩
theorem oC:cW X (.builtin "len") (fun xs H Q=>∃ p ys,xs=[.ref p]/\(SqL X.K H p ys∨SqT X.K H p ys)/\Q (.int ys.length) H):=by
  intro pins s σ H xs us Q I r h
  obtain ⟨p,ys,rfl,hq,q⟩:=h
  obtain ⟨u,rfl,rx⟩:=rY r
  cases rx
  have hn:=jE
  rcases hq with hq|hq
  . obtain ⟨its,r',pl,hz⟩:=I.list hq
    have hlen:=r'.length
    exact Calls.call_len_list pl.isList (by simp only [List.size_toArray] <;> omega) ⟨.int ys.length,H,I.tok _,⟨s.toks + 1,by rw [List.size_toArray,hlen]⟩,q⟩
  . obtain ⟨its,r',pl,hz⟩:=I.tuple hq
    have hlen:=r'.length
    exact len_tuple pl (by simp only [List.size_toArray] <;> omega) ⟨.int ys.length,H,I.tok _,⟨s.toks + 1,by rw [List.size_toArray,hlen]⟩,q⟩
theorem jG:cW X (.type "list") (fun xs H Q=>∃ p ys,xs=[.ref p]/\(SqL X.K H p ys∨SqT X.K H p ys)/\∀ l,H l=none->Q (.ref l) (bc H l (.lst ys))):=by
  intro pins s σ H xs us Q I r h
  obtain ⟨p,ys,rfl,hq,q⟩:=h
  obtain ⟨u,rfl,rx⟩:=rY r
  cases rx
  have be:∀ (its:List Value),Vals ys its->ys.length<=sizeLine->∀ (h':Heap) (c':Nat),(∀ b o',s.heap.get? b=some o'->h'.get? b=some o') ->
      h'.get? s.heap.objs.size=some { cls:=.type "list",dict:=none,data:=.seq its.toArray c',slots:=#[] }->EP X pins σ Q (.ref s.heap.objs.size) { s with heap:=h' }:=fun its r' hz h' c' kp e =>
    ⟨.ref s.heap.objs.size,_,I.laid (t':=s.toks) kp (Nat.le_refl _) (show ObjOk X.prog X.w _ h' _ (.lst ys) from ⟨hz,its,c',r',e⟩),rfl,q _ (I.hok.fresh (Nat.le_refl _))⟩
  rcases hq with hq|hq
  . obtain ⟨its,r',pl,hz⟩:=I.list hq
    have hlen:=r'.length
    obtain ⟨o,ho,hc,n,hd⟩:=pl.isList
    exact call_list_seq p (.inl rfl) ho hc hd (fun h' c' kp e=>be its r' hz h' c' kp e) (by simp only [List.size_toArray] <;> omega)
  . obtain ⟨its,r',pl,hz⟩:=I.tuple hq
    have hlen:=r'.length
    obtain ⟨o,ho,hc,n,hd⟩:=pl
    exact call_list_seq p (.inr rfl) ho hc hd (fun h' c' kp e=>be its r' hz h' c' kp e) (by simp only [List.size_toArray] <;> omega)
theorem nK:cW X (.type "tuple") (fun xs H Q=>∃ p ys,xs=[.ref p]/\((SqL X.K H p ys/\∀ l,H l=none->Q (.ref l) (bc H l (.tup ys)))∨(SqT X.K H p ys/\Q (.ref p) H))):=by
  intro pins s σ H xs us Q I r h
  obtain ⟨p,ys,rfl,h⟩:=h
  obtain ⟨u,rfl,rx⟩:=rY r
  cases rx
  rcases h with ⟨hq,q⟩|⟨hq,q⟩
  . obtain ⟨its,r',pl,hz⟩:=I.list hq
    have hlen:=r'.length
    refine call_tuple_list pl.isList (fun h' kp=>?_) (by simp only [List.size_toArray] <;> omega)
    have I1:Inv X pins σ H { s with heap:=h' }:=I.kept (t':=s.toks) kp
    have I2:Inv X pins σ (bc H h'.objs.size (.tup ys)) { s with heap:=h'.push { cls:=.type "tuple",data:=.seq its.toArray } } :=
      I1.laid (t':=s.toks) (fun b o e=>Heap.get?_push_of_some _ e) (Nat.le_refl _) (show ObjOk X.prog X.w _ _ _ (.tup ys) from ⟨hz,its,r',IsTup.new _ _⟩)
    exact ⟨.ref h'.objs.size,_,I2,rfl,q _ (I1.hok.fresh (Nat.le_refl _))⟩
  . obtain ⟨its,r',pl,hz⟩:=I.tuple hq
    exact call_tuple_same pl ⟨.ref p,H,I,rfl,q⟩
def CJ (K:PySem.W.Frag) (T:String) (x:V) (H:Hp):Prop:=match x with
  | .str _=>T="str"
  | .int _=>T="int"
  | .ref p=>(T="list"/\∃ xs,SqL K H p xs)∨(T="tuple"/\∃ o,K.lookup p=some o/\o.cls=.type "tuple"/\o.dict=none) ∨
      (T="dict"/\((∃ kvs,H p=some (.dK kvs))∨∃ kvs,H p=some (.dT kvs)))∨(T="set"/\∃ S n,H p=some (.set S n))
  | _=>False
theorem Ae {pins:List (Addr×Obj)} {σ:St} {H:Hp} {s:Shared} {T:String} {x:V} {v:Value} (I:Inv X pins σ H s) (r:RelV x v) (ty:CJ X.K T x H) :
    s.TypeIs v T/\∀ a,v=.ref a->∃ ob,s.heap.get? a=some ob/\ob.dict=none:=by
  cases x with
  | str z =>
    obtain ⟨t,rfl⟩:=r
    cases (show T="str" from ty)
    exact ⟨typeIs_str s z t,fun _ e=>nomatch e⟩
  | int i =>
    obtain ⟨t,rfl⟩:=r
    cases (show T="int" from ty)
    exact ⟨typeIs_int s i t,fun _ e=>nomatch e⟩
  | ref p =>
    cases r
    rcases ty with ⟨rfl,xs,hq⟩|⟨rfl,o,hk,hc,hd⟩|⟨rfl,hk⟩|⟨rfl,S,n,hk⟩
    . obtain ⟨its,_,pl,_⟩:=I.list hq
      refine ⟨pl.isList.typeIs,fun a e=>?_⟩
      cases e
      obtain ⟨o,n,e,c,hd,_⟩:=pl
      exact ⟨o,e,hd⟩
    . refine ⟨⟨o,I.kIn p o hk,hc⟩,fun a e=>?_⟩
      cases e
      exact ⟨o,I.kIn _ o hk,hd⟩
    . have z:∃ o,s.heap.get? p=some o/\o.ExactDict:=by
        rcases hk with ⟨kvs,hk⟩|⟨kvs,hk⟩
        . obtain ⟨_,_,_,_,o,_,_,e,ex,_⟩:=I.hok p _ hk
          exact ⟨o,e,ex⟩
        . obtain ⟨_,_,_,_,o,_,_,e,ex,_⟩:=I.hok p _ hk
          exact ⟨o,e,ex⟩
      obtain ⟨o,e,ex⟩:=z
      refine ⟨⟨o,e,ex.1⟩,fun a e2=>?_⟩
      cases e2
      exact ⟨o,e,ex.2.1⟩
    . obtain ⟨o,_,_,_,e,ex,_⟩:=I.hok p _ hk
      refine ⟨⟨o,e,ex.1⟩,fun a e2=>?_⟩
      cases e2
      exact ⟨o,e,ex.2.1⟩
  | _=>exact False.elim ty
def CK (K:PySem.W.Frag) (T:String) (r:V->List V->Hp->VK->Prop) (to:TE) (t:TA):TE:=fun σ H Q=>to σ H fun x H1=>CJ K T x H1/\t σ H1 fun xs H2=>r x xs H2 Q
variable {o e:Expr} {es:List Expr} {to:TE} {t:TA} {name:Str} {apos cpos:Pos} {T id:String} {r:V->List V->Hp->VK->Prop}
theorem BY (pa:PlainAttrs T) (slot:Slot T name id) (hty:typeOf (.builtin id)=pure (.type "method_descriptor")) (hm:CH X id r) (ho:PE X o to) (ha:PA X (e::es) t)
    (hbase:attributeBase o name X.env (eval o X.env)=eval o X.env:=by rfl)
    (hfew:((backTo cpos (starEach (e::es) X.env)).all (fun x=>!x.1) && (backToKw cpos (keywordEach [] X.env)).all (fun x=>x.1.isSome)
      && decide ((e::es).length + ([]:List Keyword).length + (if ([]:List Keyword).isEmpty then 0 else 1) < 30))=true:=by rfl)
    (hline:(apos.endLine == cpos.line)=true:=by rfl) (hs:starEach (e::es) X.env=(false,eval e X.env)::starEach es X.env:=by rfl) (hplain:(backTo cpos (starEach es X.env)).any (·.1)=false:=by rfl) :
    PE X (.Call (.Attribute o name apos) (e::es) [] cpos) (CK X.K T r to t):=by
  intro pins s σ H Q I h
  refine wpAny_Call_method_late hbase hfew hline rfl (bo (ho pins s σ H _ I h) fun v s1 ⟨x,H1,I1,r1,ty,q1⟩=>?_)
  obtain ⟨h1,h2⟩:=Ae I1 r1 ty
  refine ⟨T,id,pa,slot,hty,h1,h2,?_⟩
  have hA:=ha cpos pins s1 σ H1 _ I1 q1
  rw [hs] at hA ⊢
  refine Calls.callWith_builtin (by show (false || (backTo cpos (starEach es X.env)).any (·.1))=false;rw [hplain] <;> rfl) (Calls.evalArgs_plain ?_)
  exact bo hA fun us s2 ⟨vs,H2,I2,r2,q2⟩=>hm pins s2 σ H2 x vs v us Q I2 r1 r2 q2
end
end L2
namespace L2
open PySem PySem.Spec PyProof.Rows
def Do (X:Cx) (id:String) (r:V->List V->Hp->VK->Prop):Prop :=
  ∀ (pins:List (Addr×Obj)) (s:Shared) (σ:St) (H:Hp) (x:V) (xs:List V) (v:Value) (us:List Value) (Q:VK),Inv X pins σ H s->RelV x v->Vals xs us->r x xs H Q ->
    wpAny (model X.prog X.w) X.A (call (.builtin id) (v::us)) (EP X pins σ Q) X.xe s
theorem Vals.one:∀ {x:V} {us:List Value},Vals [x] us->∃ u,us=[u]/\RelV x u
  | _,_,.cons r .nil=>⟨_,rfl,r⟩
section
variable {X:Cx} {pins:List (Addr×Obj)} {σ:St} {H:Hp} {s:Shared} {l b:Addr} {xs ys zs:List V}
theorem Inv.lset {its its':List Value} {n:Nat} {f:Array Value->Array Value} {t':Nat} (I:Inv X pins σ H s) (hH:H l=some (.lst xs))
    (e:s.heap.get? l=some { cls:=.type "list",data:=.seq its.toArray n }) (hf:f its.toArray=its'.toArray) (hv:Vals ys its') (hz:ys.length<=sizeLine) :
    Inv X pins σ (bc H l (.lst ys)) { s with heap:=s.heap.update l (Obj.mapSeq f),toks:=t' }:=by
  have q:=PySem.IsL.update e f
  rw [hf] at q
  refine I.write (x:=l) (e:=l) (by rw [hH];exact trivial) (.inl rfl) (fun b' u hb hu=>(Heap.get?_update_other s.heap (Obj.mapSeq f) (Ne.symm hb)).trans hu) ⟨_,q⟩ ?_
  exact ⟨hz,its',_,hv,q⟩
theorem Inv.lnew {its:List Value} {t':Nat} (I:Inv X pins σ H s) (hv:Vals ys its) (hz:ys.length<=sizeLine) :
    Inv X pins σ (bc H s.heap.objs.size (.lst ys)) { s with heap:=s.heap.push { cls:=.type "list",data:=.seq its.toArray },toks:=t' } :=
  I.laid (fun _ _ q=>Heap.get?_push_of_some _ q) (Nat.le_refl _) ⟨hz,its,0,hv,Heap.get?_push_size _ rfl⟩
theorem Inv.fresh (I:Inv X pins σ H s):H s.heap.objs.size=none:=I.hok.fresh (Nat.le_refl _)
theorem Inv.lstM (I:Inv X pins σ H s) (hH:H l=some (.lst xs)):xs.length<=sizeLine/\∃ (its:List Value) (n:Nat),Vals xs its/\xs.length=its.length/\s.heap.get? l=some { cls:=.type "list",data:=.seq its.toArray n }:=by
  obtain ⟨z,its,n,r,e⟩:=I.hok l _ hH
  exact ⟨z,its,n,r,r.length,e⟩
end
section
variable {X:Cx}
def qW:V->List V->Hp->VK->Prop:=fun x vs H Q=>∃ l xs y,x=.ref l/\vs=[y]/\H l=some (.lst xs)/\xs.length < sizeLine/\Q .non (bc H l (.lst (xs++[y])))
theorem mX:Do X "list.append" qW:=by
  intro pins s σ H x vs v us Q I rx rv h
  obtain ⟨l,xs,y,rfl,rfl,hH,hz,q⟩:=h
  cases rx
  obtain ⟨u,rfl,ru⟩:=rv.one
  obtain ⟨z,its,n,r,hl,e⟩:=I.lstM hH
  refine call_meets F.slot_list_append ⟨_,e,rfl⟩ F.entry_list_append (F.args_list_append_2 _ _) (PySem.list_append l its.toArray n u (by rw [List.size_toArray];omega)) ⟨e,?_⟩
  refine ⟨.non,_,I.lset (its':=its++[u]) hH e (by simp) (r.append (.cons ru .nil)) ?_,rfl,q⟩
  rw [List.length_append,List.length_singleton]
  omega
end
section
variable {prog:Program} {w:World} {A:Around} {E:Value->Shared->Prop} {s:Shared}
end
section
variable {X:Cx}
end
end L2
namespace Att
open PySem PySem.W PySem.Calls PyProof.Rows
theorem lh {P:Params} {h:Heap}:∀ (ns:List Int) (vs:List Value),WellAll P h vs (ns.map WData.int)->IntsAre vs ns:=by
  intro ns
  induction ns with
  | nil =>
    intro vs w
    rw [List.map_nil] at w
    cases w
    exact .nil
  | cons n ns ih =>
    intro vs w
    rw [List.map_cons] at w
    cases w with
    | cons a b =>
      cases a
      exact .cons _ _ (ih _ b)
theorem tQ {l:OpenLaw} {n:Nat} (hn:l.most=some n) {P:Params} {h:Heap} {args:List WData} {vals:List Value}
    (hpre:l.row.toRowW.claim.pre args=true) (hwl:WellAll P h vals args) :
    ∃ a vs ns,vals=[Value.ref a]/\args=[WData.list (ns.map WData.int)]/\h.get? a=some { cls:=.type "list",data:=.seq vs.toArray }/\IntsAre vs ns/\ns.length<=n:=by
  have hsh:WShape.hasAll [] args [.list .int]=true:=(pre_splitW hpre).1
  have hc:l.pre.holds [] { args:=args }=true:=(pre_splitW hpre).2
  obtain ⟨d,r,rfl,h1,h2⟩:=hasAllW_cons hsh
  obtain rfl:=hasAllW_nil h2
  obtain ⟨xs,rfl,h3⟩:=hasW_list h1
  obtain ⟨ns,rfl⟩:=items_int h3
  have hlen:ns.length<=n:=by
    unfold OpenLaw.pre at hc
    have h4:(WTm.not (.lt (.lit (.int (n:Int))) (.len (.arg 0)))).holds [] { args:=[.list (ns.map .int)] }=true:=by
      have h4:=(holds_andW hc).1
      rw [hn] at h4
      exact h4
    have h5:=condW_of h4 (w_not (w_lt w_lit (w_len_list (w_arg rfl))))
    rw [List.length_map] at h5
    refine Nat.le_of_not_lt fun q=>?_
    have q':(n:Int) < ((ns.length:Nat):Int):=by omega
    first
      | (rw [decide_eq_true q'] at h5;exact absurd h5 (by decide))
      | (simp at h5;omega)
  cases hwl with
  | cons w1 w2 =>
    cases w2
    cases w1 with
    | list ho hall=>exact ⟨_,_,ns,rfl,rfl,ho,lh ns _ hall,hlen⟩
theorem tR (l:OpenLaw) (args:List WData):l.row.toRowW.claim.post args (.bool true) args=true :=
  postW_of (r:=l.row.toRowW) (X:=(true == true))
    (show WShape.has [] (.bool true) .bool=true by first|rfl|decide|simp [WShape.has,WShape.arms,WShape.armsAll])
    (show (WTm.eq .res (.lit (.bool true))).value [] { args:=args,res:=some (.bool true),after:=args }=some (.bool (true == true)) from w_eq_bool (w_res rfl) w_lit) rfl
theorem attach_call {l:OpenLaw} {n:Nat} {q:Program} {loose:List Str} {XP:(Str->Option Value)->Heap->Prop} {YP:World->Heap->Prop} {d:DefRec}
    (hn:l.most=some n) (hdf:d.params.defaults=[])
    (call:∀ (w:World) (s₀ s₁:Shared) (mg mb:Str->Option Value) (fa:Addr) (o:Obj) (pm cd doc:Value) (a:Addr) (vs:List Value) (ns:List Int),
      Ground q loose [] XP w s₀ mg mb s₁.heap->YP w s₁.heap ->
      s₁.heap.get? fa=some o->o.data=.func (docDef d.name d.params d.body d.scope pm cd doc)->s₁.heap.CodeRec cd d.name->mg d.name=some (.ref fa) ->
      s₁.heap.get? a=some { cls:=.type "list",data:=.seq vs.toArray }->IntsAre vs ns->ns.length<=n->s₁.gens=#[] ->
      codeAny (model l.prog w) callerA (.call (.ref fa) ⟨[.ref a],[]⟩) (fun r s'=>r=.ok (.ret (.bool true))/\OldK s₁.heap s'.heap/\s'.os=s₁.os/\AllBare s'.gens) s₁) :
    WalkO q loose XP YP l.row.toRowW d [] (fun f vs=>PySem.call f vs):=by
  intro w s₀ s₁ mg mb G Y fa o pm cd doc dV kV ho hd hcd hD hmg hg args vals as hpre hlay hrd hwl hlo
  obtain rfl:dV=.none:=Dflts.none hD hdf
  obtain rfl:kV=.none:=Dflts.noKw hD
  obtain ⟨a,vs,ns,rfl,rfl,hobj,hints,hlen⟩:=tQ hn hpre hwl
  refine enter_call (codeAny_mono (call w s₀ s₁ mg mb fa o pm cd doc a vs ns G Y ho (fd_plain hd) hcd hmg hobj hints hlen hg) fun r s' hq=>?_)
  obtain ⟨rfl,h2,h3,h4⟩:=hq
  exact ⟨.inl ⟨.bool true,.bool true,[],rfl,fun _=>rfl,.bool true,tR l _,fun _=>⟨List.Pairwise.nil,fun _ hm=>(nomatch hm)⟩⟩,h2,h3,h4⟩
section
variable {prog:Program} {w:World} {A:Around} {E:Value->Shared->Prop} {s:Shared} {K:Frag}
def Dp (h:Heap) (L d:Addr):List (Addr×Obj):=(List.range h.objs.size).filterMap fun a=>if a=L∨a=d then none else (h.get? a).map fun o=>(a,o)
end
end Att
namespace L2
open PySem PySem.Spec PyProof.Rows
theorem jH:∀ {vs:List Value} {ns:List Int},IntsAre vs ns->Vals (ns.map V.int) vs
  | _,_,.nil=>.nil
  | _,_,.cons n t h=>.cons ⟨t,rfl⟩ (jH h)
def vO (H:Hp):Prop:=∀ b,H b=none∨∃ o xs,H b=some (.frz o (.lst xs))
theorem vP {P:Program} {w:World} {K:PySem.W.Frag} {mg mb:Str->Option Value} {CX:ky} {k:Nat} {fa a:Addr} {fd:FuncData} {x:Str} {sp:Sp} {s₁:Shared} {vs:List Value} {ns:List Int}
    (KX:K.In s₁.heap) (hns:s₁.heap.Ns mainGlobals mg) (hb:s₁.heap.Ns builtinsNs mb) (hbb:∀ x:Str,x≠"__name__"->mb x=bootBuiltins x) (hlim:s₁.heap.NoLimit) (hg:s₁.gens=#[])
    (ha:s₁.heap.get? a=some { cls:=.type "list",data:=.seq vs.toArray }) (hi:IntsAre vs ns) (hl:ns.length<=sizeLine) (hr:Room k callerA)
    (F:∀ base:Heap,K.In base->base.Ns mainGlobals mg->FnOk P w K mg base CX k fa fd [x] sp) (hbind:∀ (s:Shared) (u:Value),BindsTo s fd ⟨[u],[]⟩ [(x,u)])
    (hsp:∀ H:Hp,vO H->SqL K H a (ns.map V.int)->sp [.ref a] H (fun v _=>v=.bl true) fun _ _ _=>False)
    (hCX:∀ H e s',CX [] H s₁ (fun _ _ _=>False) e s'->False) :
    codeAny (model P w) callerA (.call (.ref fa) ⟨[.ref a],[]⟩) (fun r s'=>r=.ok (.ret (.bool true))/\OldK s₁.heap s'.heap/\s'.os=s₁.os/\AllBare s'.gens) s₁:=by
  have rv:=jH hi
  have lenV:=hi.length
  have core:∀ H:Hp,vO H->SqL K H a (ns.map V.int)->HOk P w H s₁.heap->(∀ b,H b≠none->b=a)->(H a≠none->K.lookup a=none) ->
      codeAny (model P w) callerA (.call (.ref fa) ⟨[.ref a],[]⟩) (fun r s'=>r=.ok (.ret (.bool true))/\OldK s₁.heap s'.heap/\s'.os=s₁.os/\AllBare s'.gens) s₁:=by
    intro H hO hS hok hA hK
    have base_of:∀ {b:Addr} {o:Obj},s₁.heap.get? b=some o->H b=none->(jc s₁.heap H).get? b=some o:=fun e n=>vE e n
    have noA:∀ {b:Addr} {o:Obj} {es:Array DictEntry} {ep:Nat},s₁.heap.get? b=some o->o.data=.dict es ep->H b=none:=fun {b o es ep} e d=>by
      cases q:H b with
      | none=>rfl
      | some u =>
        have e':b=a:=hA b (by rw [q];simp)
        subst e'
        rw [ha] at e;cases e
        have d':Data.seq vs.toArray _=Data.dict es ep:=d
        cases d'
    have nsK:∀ {b:Addr} {m:Str->Option Value},s₁.heap.Ns b m->(jc s₁.heap H).Ns b m:=fun {b m} ⟨o,es,ep,e,d,r⟩=>⟨o,es,ep,base_of e (noA e d),d,r⟩
    have hKb:K.In (jc s₁.heap H):=fun b o e=>base_of (KX b o e) (by
      cases q:H b with
      | none=>rfl
      | some u =>
        have e':b=a:=hA b (by rw [q];simp)
        subst e'
        rw [hK (by rw [q];simp)] at e;cases e)
    have hM:Mod K mg (jc s₁.heap H):=⟨hKb,nsK hns,⟨mb,nsK hb,hbb⟩,let ⟨mc,h1,h2⟩:=hlim;⟨mc,nsK h1,h2⟩⟩
    have e0:Env0 P w K mg (jc s₁.heap H) callerA [] s₁ H:=⟨rfl,hM,fun b o e=>xQ e,Nat.le_of_eq (tq _ _),trivial,fun b hb=>absurd (show b∈([]:List Addr) from hb) (by simp),hok,.of_eq hg⟩
    refine codeAny_mono ((F _ hKb (nsK hns)).run callerA [] s₁ H ⟨[.ref a],[]⟩ [.ref a] [.ref a] _ _ hr e0 (hbind s₁ (.ref a)) (.cons rfl .nil) (hsp H hO hS)) fun r s' h=>?_
    cases r with
    | error e=>exact (hCX H e s' h).elim
    | ok fl =>
      cases fl with
      | next=>exact False.elim h
      | brk=>exact False.elim h
      | cont=>exact False.elim h
      | ret u =>
        obtain ⟨v,H',os,bare,un,hok',r',q⟩:=h
        have q':v=.bl true:=q
        subst q'
        obtain rfl:u=Value.bool true:=r'
        refine ⟨rfl,OldK.of_keep fun b o e=>?_,os,bare⟩
        cases q:H b with
        | none=>exact un.keep b o e q (by intro z;exact absurd (show b∈([]:List Addr) from z) (by simp)) (by simp)
        | some u =>
          rcases hO b with z|⟨ob,xs,z⟩
          . rw [q] at z;cases z
          . have z2:=un.frzs b ob _ z
            obtain ⟨e1,_⟩:=hok b _ z
            obtain ⟨e2,_⟩:=hok' b _ z2
            rw [e] at e1;cases e1
            exact e2
  cases hk:K.lookup a with
  | some o =>
    have e:=KX a o hk
    rw [ha] at e
    cases e
    refine core (fun _=>none) (fun _=>.inl rfl) (.inr ⟨_,vs.toArray,_,hk,rfl,rfl,rfl,by rw [List.size_toArray,lenV];exact hl,by simpa using rv⟩) (fun b u z=>by have z':(none:Option HO)=some u:=z;cases z') (fun b z=>absurd rfl z) fun z=>absurd rfl z
  | none =>
    refine core (fun b=>if b=a then some (.frz { cls:=.type "list",data:=.seq vs.toArray } (.lst (ns.map V.int))) else none) (fun b=>?_) (.inl (.inr ⟨{ cls:=.type "list",data:=.seq vs.toArray },if_pos rfl⟩)) (fun b u z=>?_) (fun b z=>?_) fun _=>hk
    . by_cases hb:b=a
      . exact .inr ⟨_,_,if_pos hb⟩
      . exact .inl (if_neg hb)
    . by_cases hb:b=a
      . have z':=(if_pos hb).symm.trans z
        cases z'
        subst hb
        exact ⟨ha,by rw [List.length_map];exact hl,vs,_,rv,ha⟩
      . have z':=(if_neg hb).symm.trans z
        cases z'
    . by_cases hb:b=a
      . exact hb
      . exact absurd (if_neg hb) z
end L2
namespace L2
open PySem PySem.Spec PyProof.Rows
abbrev Dy {K:PySem.W.Frag} {h:Heap} (_:K.In h):PySem.W.Frag:=K
theorem walk_of {l:PySem.W.OpenLaw} {n k:Nat} {q:Program} {loose:List Str} {XP:(Str->Option Value)->Heap->Prop} {YP:World->Heap->Prop} {d:DefRec} {K:Params->PySem.W.Frag} {CX:World->ky} {sp:World->Sp} {x:Str}
    (hn:l.most=some n) (hn2:n<=sizeLine) (hdf:d.params.defaults=[]) (hr:Room k callerA)
    (hY:∀ (w:World) (h:Heap),YP w h->(K w.params).In h)
    (F:∀ (w:World) (mg:Str->Option Value) (fa:Addr) (h:Heap),(K w.params).In h->h.Ns mainGlobals mg->mg d.name=some (.ref fa) ->
      ∃ fd:FuncData,(∀ (s:Shared) (u:Value),BindsTo s fd ⟨[u],[]⟩ [(x,u)]) /\
        ∀ base:Heap,(K w.params).In base->base.Ns mainGlobals mg->FnOk l.prog w (K w.params) mg base (CX w) k fa fd [x] (sp w))
    (hsp:∀ (w:World) (H:Hp) (a:Addr) (ns:List Int),ns.length<=n->vO H->SqL (K w.params) H a (ns.map V.int)->sp w [.ref a] H (fun v _=>v=.bl true) fun _ _ _=>False)
    (hCX:∀ (w:World) (H:Hp) (s:Shared) (e:Value) (s':Shared),CX w [] H s (fun _ _ _=>False) e s'->False) :
    PySem.W.WalkO q loose XP YP l.row.toRowW d [] (fun f vs=>PySem.call f vs):=by
  refine Att.attach_call hn hdf fun w s₀ s₁ mg mb fa o pm cd doc a vs ns G Y ho hd hcd hmg hobj hints hlen hg=>?_
  have KX:=hY w _ Y
  obtain ⟨fd,hb,hF⟩:=F w mg fa _ KX G.T.g hmg
  exact vP KX G.T.g G.T.b G.T.builtins G.T.nolimit hg hobj hints (Nat.le_trans hlen hn2) hr hF hb (fun H hO hS=>hsp w H a ns hlen hO hS) fun H e s'=>hCX w H s₁ e s'
end L2
namespace L2
open PySem PySem.Spec PyProof.Rows
def aX (s:Stmt):Arguments:=match s with
  | .FunctionDef _ a _ _ _ _ _ _ _ _=>a
  | _=>{ posonlyargs:=[],args:=[],vararg:=none,kwonlyargs:=[],kw_defaults:=[],kwarg:=none,defaults:=[] }
def aT (s:Stmt):List Stmt:=match s with
  | .FunctionDef _ _ b _ _ _ _ _ _ _=>b
  | _=>[]
def au (s:Stmt):Scope:=match s with
  | .FunctionDef _ _ _ _ _ _ sc _ _ _=>sc
  | _=>{ kind:=.function,names:=[],isGenerator:=false,isCoroutine:=false }
structure Fun (K:PySem.W.Frag) (x qual:Str) (st:Stmt) (f:Addr) (fd:FuncData):Prop where
  ex:∃ (oc:Value) (od:Option Addr) (kV doc pm:Value) (an:Option Addr) (cdv ct:Value) (osl:Array (Option Value)),
    fd=PySem.W.fnOf x qual (aX st) (aT st) (au st) .none kV doc pm an cdv ct/\K.lookup f=some ⟨oc,od,.func fd,osl⟩/\PySem.W.codeIn K cdv qual=true
  kp:PySem.W.keepIn K (.ref f)=true
section
variable {P:Program} {w:World} {K:PySem.W.Frag} {mg:Str->Option Value} {base:Heap}
theorem Fun.binds {x qual:Str} {st:Stmt} {f:Addr} {fd:FuncData} {ps:List Str} (F:Fun K x qual st f fd)
    (h:∀ (kV doc pm:Value) (an:Option Addr) (cdv ct:Value) (us:List Value),us.length=ps.length->bindArgs (PySem.W.fnOf x qual (aX st) (aT st) (au st) .none kV doc pm an cdv ct) ⟨us,[]⟩=pure (ps.zip us)):Binds K fd ps []:=by
  obtain ⟨oc,od,kV,doc,pm,an,cdv,ct,osl,rfl,lk,hcd⟩:=F.ex
  exact .all (h kV doc pm an cdv ct)
theorem bw {x qual:Str} {st:Stmt} {f:Addr} {oc:Value} {od an:Option Addr} {osl:Array (Option Value)} {kV doc pm cdv ct:Value} (l:K.lookup f=some ⟨oc,od,.func (PySem.W.fnOf x qual (aX st) (aT st) (au st) .none kV doc pm an cdv ct),osl⟩)
    (c:PySem.W.codeIn K cdv qual=true) (k:PySem.W.keepIn K (.ref f)=true):Fun K x qual st f (PySem.W.fnOf x qual (aX st) (aT st) (au st) .none kV doc pm an cdv ct):=⟨⟨oc,od,kV,doc,pm,an,cdv,ct,osl,rfl,l,c⟩,k⟩
end
theorem tU {n:Nat} (h:n<=1000):n < sizeLine:=Nat.lt_of_le_of_lt h (by decide)
section
variable {X:Cx}
end
def Same (H H':Hp):Prop:=∀ b o,H b=some o->H' b=some o
theorem Same.refl (H:Hp):Same H H:=fun _ _ h=>h
theorem Same.trans {H H1 H2:Hp} (a:Same H H1) (b:Same H1 H2):Same H H2:=fun c o h=>b c o (a c o h)
theorem Same.free {H H':Hp} (e:Same H H') {l:Addr} (h:H' l=Option.none):H l=Option.none:=by
  cases q:H l with
  | none=>rfl
  | some o =>
    rw [e l o q] at h
    cases h
theorem Same.seq {K:PySem.W.Frag} {H H':Hp} {a:Addr} {xs:List V} (e:Same H H') (h:SqL K H a xs):SqL K H' a xs:=by
  rcases h with (h|⟨o,h⟩)|h
  . exact .inl (.inl (e _ _ h))
  . exact .inl (.inr ⟨o,e _ _ h⟩)
  . exact .inr h
end L2
namespace Vl
open PySem PySem.Spec L2
inductive D where
  | non|bl (b:Bool)|int (i:Int)|str (x:Str)|tup (xs:List D)|lst (xs:List D)|exn (c:Str) (n:Int)
def xu (a C:Addr) (n:Int):Heap->Prop:=fun h=>∃ o vs,h.get? a=some o/\o.cls=.ref C/\o.data=.fields vs/\n=0
mutual
def Rep (K:PySem.W.Frag) (G:Hp):D->V->Prop
  | .non,v=>v=.non
  | .bl b,v=>v=.bl b
  | .int i,v=>v=.int i
  | .str x,v=>v=.str x
  | .tup ds,v=>∃ a vs,v=.ref a/\SqT K G a vs/\Reps K G ds vs
  | .lst ds,v=>∃ a vs,v=.ref a/\SqL K G a vs/\Reps K G ds vs
  | .exn c n,v=>∃ a C,v=.ref a/\PySem.W.nsIn K mainGlobals c=some (some (.ref C))/\G a=some (.ext (xu a C n))
def Reps (K:PySem.W.Frag) (G:Hp):List D->List V->Prop
  | [],vs=>vs=[]
  | d::ds,vs=>∃ v vs',vs=v::vs'/\Rep K G d v/\Reps K G ds vs'
end
theorem Same.seqT {K:PySem.W.Frag} {H H':Hp} {a:Addr} {xs:List V} (e:Same H H') (h:SqT K H a xs):SqT K H' a xs:=by
  rcases h with (h|⟨o,h⟩)|h
  . exact .inl (.inl (e _ _ h))
  . exact .inl (.inr ⟨o,e _ _ h⟩)
  . exact .inr h
mutual
theorem Rep.mono {K:PySem.W.Frag} {G G':Hp} (e:Same G G'):∀ {d:D} {v:V},Rep K G d v->Rep K G' d v
  | .non,_,h=>by simp only [Rep] at h ⊢;exact h
  | .bl _,_,h=>by simp only [Rep] at h ⊢;exact h
  | .int _,_,h=>by simp only [Rep] at h ⊢;exact h
  | .str _,_,h=>by simp only [Rep] at h ⊢;exact h
  | .tup ds,_,h=>by
    simp only [Rep] at h ⊢
    obtain ⟨a,vs,e1,h1,h2⟩:=h
    exact ⟨a,vs,e1,Same.seqT e h1,Reps.mono e h2⟩
  | .lst ds,_,h=>by
    simp only [Rep] at h ⊢
    obtain ⟨a,vs,e1,h1,h2⟩:=h
    exact ⟨a,vs,e1,e.seq h1,Reps.mono e h2⟩
  | .exn c n,_,h=>by
    simp only [Rep] at h ⊢
    obtain ⟨a,C,e1,h1,h2⟩:=h
    exact ⟨a,C,e1,h1,e _ _ h2⟩
theorem Reps.mono {K:PySem.W.Frag} {G G':Hp} (e:Same G G'):∀ {ds:List D} {vs:List V},Reps K G ds vs->Reps K G' ds vs
  | [],_,h=>by simp only [Reps] at h ⊢;exact h
  | d::ds,_,h=>by
    simp only [Reps] at h ⊢
    obtain ⟨v,vs',e1,h1,h2⟩:=h
    exact ⟨v,vs',e1,Rep.mono e h1,Reps.mono e h2⟩
end
section
variable {K:PySem.W.Frag} {G:Hp}
theorem rep_int {i:Int} {v:V}:Rep K G (.int i) v↔v=.int i:=by simp only [Rep]
theorem rep_bl {i:Bool} {v:V}:Rep K G (.bl i) v↔v=.bl i:=by simp only [Rep]
theorem rep_non {v:V}:Rep K G .non v↔v=.non:=by simp only [Rep]
theorem rep_str {x:Str} {v:V}:Rep K G (.str x) v↔v=.str x:=by simp only [Rep]
theorem rep_tup {ds:List D} {v:V}:Rep K G (.tup ds) v↔∃ a vs,v=.ref a/\SqT K G a vs/\Reps K G ds vs:=by simp only [Rep]
theorem rep_lst {ds:List D} {v:V}:Rep K G (.lst ds) v↔∃ a vs,v=.ref a/\SqL K G a vs/\Reps K G ds vs:=by simp only [Rep]
theorem rep_exn {c:Str} {n:Int} {v:V}:Rep K G (.exn c n) v↔∃ a C,v=.ref a/\PySem.W.nsIn K mainGlobals c=some (some (.ref C))/\G a=some (.ext (xu a C n)):=by simp only [Rep]
theorem reps_nil {vs:List V}:Reps K G [] vs↔vs=[]:=by simp only [Reps]
theorem reps_cons {d:D} {ds:List D} {vs:List V}:Reps K G (d::ds) vs↔∃ v vs',vs=v::vs'/\Rep K G d v/\Reps K G ds vs':=by simp only [Reps]
theorem Reps.length:∀ {ds:List D} {vs:List V},Reps K G ds vs->ds.length=vs.length
  | [],_,h=>by rw [reps_nil.mp h];rfl
  | d::ds,_,h=>by
    obtain ⟨v,vs',rfl,_,h2⟩:=reps_cons.mp h
    simp [Reps.length h2]
theorem Reps.get:∀ {ds:List D} {vs:List V} {i:Nat} {d:D},Reps K G ds vs->ds[i]?=some d->∃ v,vs[i]?=some v/\Rep K G d v
  | [],_,_,_,h,e=>by simp at e
  | d::ds,_,i,x,h,e=>by
    obtain ⟨v,vs',rfl,h1,h2⟩:=reps_cons.mp h
    cases i with
    | zero=>simp at e;subst e;exact ⟨v,by simp,h1⟩
    | succ i=>obtain ⟨u,q1,q2⟩:=Reps.get (i:=i) h2 (by simpa using e);exact ⟨u,by simpa using q1,q2⟩
theorem Reps.get':∀ {ds:List D} {vs:List V} {i:Nat} {v:V},Reps K G ds vs->vs[i]?=some v->∃ d,ds[i]?=some d/\Rep K G d v
  | [],_,_,_,h,e=>by rw [reps_nil.mp h] at e;simp at e
  | d::ds,_,i,x,h,e=>by
    obtain ⟨v,vs',rfl,h1,h2⟩:=reps_cons.mp h
    cases i with
    | zero=>simp at e;subst e;exact ⟨d,by simp,h1⟩
    | succ i=>obtain ⟨u,q1,q2⟩:=Reps.get' (i:=i) h2 (by simpa using e);exact ⟨u,by simpa using q1,q2⟩
theorem Reps.append:∀ {ds es:List D} {vs us:List V},Reps K G ds vs->Reps K G es us->Reps K G (ds++es) (vs++us)
  | [],_,_,_,h,h'=>by rw [reps_nil.mp h];exact h'
  | d::ds,_,_,_,h,h'=>by
    obtain ⟨v,vs',rfl,h1,h2⟩:=reps_cons.mp h
    exact reps_cons.mpr ⟨v,_,rfl,h1,Reps.append h2 h'⟩
theorem Reps.one {d:D} {v:V} (h:Rep K G d v):Reps K G [d] [v]:=reps_cons.mpr ⟨v,[],rfl,h,reps_nil.mpr rfl⟩
theorem Reps.drop:∀ {ds:List D} {vs:List V} (n:Nat),Reps K G ds vs->Reps K G (ds.drop n) (vs.drop n)
  | ds,vs,0,h=>by simpa using h
  | [],_,n + 1,h=>by rw [reps_nil.mp h];simpa using reps_nil.mpr rfl
  | d::ds,_,n + 1,h=>by
    obtain ⟨v,vs',rfl,h1,h2⟩:=reps_cons.mp h
    simpa using Reps.drop n h2
theorem Reps.take:∀ {ds:List D} {vs:List V} (n:Nat),Reps K G ds vs->Reps K G (ds.take n) (vs.take n)
  | ds,vs,0,h=>by simpa using reps_nil.mpr rfl
  | [],_,n + 1,h=>by rw [reps_nil.mp h];simpa using reps_nil.mpr rfl
  | d::ds,_,n + 1,h=>by
    obtain ⟨v,vs',rfl,h1,h2⟩:=reps_cons.mp h
    simpa using reps_cons.mpr ⟨v,_,rfl,h1,Reps.take n h2⟩
theorem mY (ns:List Int):Reps K G (ns.map D.int) (ns.map V.int):=by
  induction ns with
  | nil=>exact reps_nil.mpr rfl
  | cons n ns ih=>exact reps_cons.mpr ⟨_,_,rfl,rep_int.mpr rfl,ih⟩
end
inductive Rs (α:Type) where
  | ok (a:α)|ex (c:Str) (n:Int)|no
def Rs.bind {α β:Type}:Rs α->(α->Rs β)->Rs β
  | .ok a,k=>k a
  | .ex c n,_=>.ex c n
  | .no,_=>.no
inductive Sl where
  | no|fz (d:D)|ow (ds:List D)|od (kvs:List (List Int×D))
def Sl.own:Sl->Bool
  | .ow _=>true
  | .od _=>true
  | _=>false
def UG (K:PySem.W.Frag) (G:Hp):Addr->List Int->Prop:=fun b ks=>SqT K G b (ks.map V.int)
def yi (ks:List Int):Int:=reduceHash (Builtin.Tuple.tupleHashOf (ks.map hashInt))
def DicH (U:Addr->List Int->Prop) (a:Addr) (kvs:List (List Int×V)):Heap->Prop:=fun h=>∃ (o:Obj) (es:Array DictEntry) (ep:Nat) (xs:List (List Int×Addr×Value)),h.get? a=some o/\o.ExactDict/\o.data=.dict es ep/\(a == sysModules)=false /\
  es.toList=xs.map (fun x=>⟨yi x.1,.ref x.2.1,x.2.2⟩)/\(xs.map (·.1)).Nodup/\Paired (fun (p:List Int×V) (q:List Int×Addr×Value)=>p.1=q.1/\U q.2.1 q.1/\RelV p.2 q.2.2) kvs xs
inductive KReps (K:PySem.W.Frag) (G:Hp):List (List Int×D)->List (List Int×V)->Prop
  | nil:KReps K G [] []
  | cons {k:List Int} {d:D} {v:V} {kvs:List (List Int×D)} {kvv:List (List Int×V)}:Rep K G d v->KReps K G kvs kvv->KReps K G ((k,d)::kvs) ((k,v)::kvv)
theorem KReps.mono {K:PySem.W.Frag} {G G':Hp} (e:Same G G') {kvs:List (List Int×D)} {kvv:List (List Int×V)} (h:KReps K G kvs kvv):KReps K G' kvs kvv:=by
  induction h with
  | nil=>exact .nil
  | cons r _ ih=>exact .cons (r.mono e) ih
def OwnAt (K:PySem.W.Frag) (G:Hp) (a:Addr):Sl->HO->Prop
  | .ow ds,o=>∃ vs,o=.lst vs/\Reps K G ds vs
  | .od kvs,o=>∃ U kvv,o=.ext (DicH U a kvv)/\(∀ b ks,U b ks->UG K G b ks)/\KReps K G kvs kvv
  | _,_=>False
theorem OwnAt.mono {K:PySem.W.Frag} {G G':Hp} (e:Same G G') {a:Addr} {z:Sl} {o:HO} (h:OwnAt K G a z o):OwnAt K G' a z o:=by
  cases z with
  | ow ds=>obtain ⟨vs,h1,h2⟩:=h;exact ⟨vs,h1,h2.mono e⟩
  | od kvs=>obtain ⟨U,kvv,h1,h2,h3⟩:=h;exact ⟨U,kvv,h1,fun b ks q=>Same.seqT e (h2 b ks q),h3.mono e⟩
  | _=>exact h.elim
theorem OwnAt.tup {K:PySem.W.Frag} {G:Hp} {a:Addr} {z:Sl} {xs:List V} (h:OwnAt K G a z (.tup xs)):False:=by
  cases z with
  | ow ds=>obtain ⟨vs,h1,h2⟩:=h;cases h1
  | od kvs=>obtain ⟨U,kvv,h1,h2,h3⟩:=h;cases h1
  | _=>exact h
abbrev ah:=List Sl
abbrev Wi:=Str->Int->St->Hp->Prop
structure Ext (G H G' H':Hp):Prop where
  gg:Same G G'
  hh:Same H H'
  gh:Same G' H'
  tp:∀ a xs,H' a=some (.tup xs)->G' a=some (.tup xs)
  nw:∀ b o,H b=some o->G b=none->G' b=none
theorem Ext.trans {G H G1 H1 G2 H2:Hp} (a:Ext G H G1 H1) (b:Ext G1 H1 G2 H2):Ext G H G2 H2 :=
  ⟨a.gg.trans b.gg,a.hh.trans b.hh,b.gh,b.tp,fun c o h n=>b.nw c o (a.hh c o h) (a.nw c o h n)⟩
theorem Ext.refl {G H:Hp} (gh:Same G H) (tp:∀ a xs,H a=some (.tup xs)->G a=some (.tup xs)):Ext G H G H:=⟨.refl _,.refl _,gh,tp,fun _ _ _ n=>n⟩
structure SR (K:PySem.W.Frag) (B:Hp×Hp) (σ:St) (H:Hp) (ρ:ah) (G:Hp):Prop where
  en:Ext B.1 B.2 G H
  len:ρ.length=σ.length
  fz:∀ (i:Nat) (d:D),ρ[i]?=some (.fz d)->∃ v,σ[i]?=some (some v)/\Rep K G d v
  own:∀ (i:Nat) (z:Sl),ρ[i]?=some z->z.own=true->∃ a o,σ[i]?=some (some (.ref a))/\H a=some o/\G a=none/\B.2 a=none/\OwnAt K G a z o
  ap:∀ (i j:Nat) (z z':Sl) (a:Addr),ρ[i]?=some z->z.own=true->ρ[j]?=some z'->z'.own=true->σ[i]?=some (some (.ref a))->σ[j]?=some (some (.ref a))->i=j
section
variable {K:PySem.W.Frag} {B:Hp×Hp} {σ:St} {H H' G G':Hp} {ρ:ah}
theorem SR.ext0 (h:SR K B σ H ρ G):Ext G H G H:=.refl h.en.gh h.en.tp
theorem SR.ext (h:SR K B σ H ρ G) (e:Ext G H G' H'):SR K B σ H' ρ G' where
  en:=h.en.trans e
  len:=h.len
  fz:=fun i d q=>let ⟨v,h1,h2⟩:=h.fz i d q;⟨v,h1,h2.mono e.gg⟩
  own:=fun i z q w=>let ⟨a,o,h1,h2,h3,h4,h5⟩:=h.own i z q w;⟨a,o,h1,e.hh _ _ h2,e.nw _ _ h2 h3,h4,h5.mono e.gg⟩
  ap:=h.ap
theorem SR.set (h:SR K B σ H ρ G) {i:Nat} {d:D} {v:V} (r:Rep K G d v):SR K B (σ.set i (some v)) H (ρ.set i (.fz d)) G where
  en:=h.en
  len:=by simp [h.len]
  fz:=fun j d' q=>by
    by_cases e:i=j
    . subst e
      have hl:i < ρ.length:=by
        have:=(List.getElem?_eq_some_iff.mp q).1;simpa using this
      rw [List.getElem?_set_self hl] at q
      cases q
      exact ⟨v,List.getElem?_set_self (by rw [<- h.len];exact hl),r⟩
    . rw [List.getElem?_set_ne e] at q
      rw [List.getElem?_set_ne e]
      exact h.fz j d' q
  own:=fun j z q w=>by
    by_cases e:i=j
    . subst e
      have hl:i < ρ.length:=by
        have:=(List.getElem?_eq_some_iff.mp q).1;simpa using this
      rw [List.getElem?_set_self hl] at q
      cases q;cases w
    . rw [List.getElem?_set_ne e] at q
      rw [List.getElem?_set_ne e]
      exact h.own j z q w
  ap:=fun j k z z' a q1 w1 q2 w2 q3 q4=>by
    have ne:∀ (l:Nat) (z:Sl),(ρ.set i (.fz d))[l]?=some z->z.own=true->i≠l:=fun l z q w e=>by
      subst e
      have hl:i < ρ.length:=by
        have:=(List.getElem?_eq_some_iff.mp q).1;simpa using this
      rw [List.getElem?_set_self hl] at q
      cases q;cases w
    have n1:=ne j z q1 w1
    have n2:=ne k z' q2 w2
    rw [List.getElem?_set_ne n1] at q1 q3
    rw [List.getElem?_set_ne n2] at q2 q4
    exact h.ap j k z z' a q1 w1 q2 w2 q3 q4
theorem SR.ow (h:SR K B σ H ρ G) (i:Nat) (ds:List D) (q:ρ[i]?=some (.ow ds)):∃ a vs,σ[i]?=some (some (.ref a))/\H a=some (.lst vs)/\G a=none/\B.2 a=none/\Reps K G ds vs:=by
  obtain ⟨a,o,h1,h2,h3,h4,vs,rfl,h5⟩:=h.own i _ q rfl
  exact ⟨a,vs,h1,h2,h3,h4,h5⟩
theorem kg (gh:Same G H) (tp:∀ a xs,H a=some (.tup xs)->G a=some (.tup xs)) {p:Addr} {xs:List V} (hp:H p=none):Ext G H (bc G p (.tup xs)) (bc H p (.tup xs)) where
  gg:=fun b o e=>by rw [aI (aR (gh _ _ e) hp)];exact e
  hh:=fun b o e=>by rw [aI (aR e hp)];exact e
  gh:=fun b o e=>by
    by_cases q:b=p
    . subst q;rw [aO] at e ⊢;exact e
    . rw [aI q] at e ⊢;exact gh _ _ e
  tp:=fun b ys e=>by
    by_cases q:b=p
    . subst q;rw [aO] at e ⊢;exact e
    . rw [aI q] at e ⊢;exact tp _ _ e
  nw:=fun b o e n=>by rw [aI (aR e hp)];exact n
theorem fq (gh:Same G H) (tp:∀ a xs,H a=some (.tup xs)->G a=some (.tup xs)) {p:Addr} {xs:List V} (hp:H p=none):Ext G H (bc G p (.lst xs)) (bc H p (.lst xs)) where
  gg:=fun b o e=>by rw [aI (aR (gh _ _ e) hp)];exact e
  hh:=fun b o e=>by rw [aI (aR e hp)];exact e
  gh:=fun b o e=>by
    by_cases q:b=p
    . subst q;rw [aO] at e ⊢;exact e
    . rw [aI q] at e ⊢;exact gh _ _ e
  tp:=fun b ys e=>by
    by_cases q:b=p
    . subst q;rw [aO] at e;cases e
    . rw [aI q] at e ⊢;exact tp _ _ e
  nw:=fun b o e n=>by rw [aI (aR e hp)];exact n
theorem yj (gh:Same G H) (tp:∀ a xs,H a=some (.tup xs)->G a=some (.tup xs)) {p:Addr} {o:HO} (ho:∀ xs,o≠.tup xs) (hp:H p=none):Ext G H G (bc H p o) where
  gg:=.refl _
  hh:=fun b o e=>by rw [aI (aR e hp)];exact e
  gh:=fun b o e=>by rw [aI (aR (gh _ _ e) hp)];exact gh _ _ e
  tp:=fun b ys e=>by
    by_cases q:b=p
    . subst q;rw [aO] at e;cases e;exact absurd rfl (ho ys)
    . rw [aI q] at e;exact tp _ _ e
  nw:=fun b o e n=>n
theorem yk (gh:Same G H) (tp:∀ a xs,H a=some (.tup xs)->G a=some (.tup xs)) {p:Addr} {xs:List V} (hp:H p=none):Ext G H G (bc H p (.lst xs)) where
  gg:=.refl _
  hh:=fun b o e=>by rw [aI (aR e hp)];exact e
  gh:=fun b o e=>by rw [aI (aR (gh _ _ e) hp)];exact gh _ _ e
  tp:=fun b ys e=>by
    by_cases q:b=p
    . subst q;rw [aO] at e;cases e
    . rw [aI q] at e;exact tp _ _ e
  nw:=fun b o e n=>n
end
def Post (K:PySem.W.Frag) (W:Wi) (σ:St) (G H:Hp) (r:Rs D) (Q:VK):Prop :=
  match r with
  | .ok d=>∀ v H' G',Ext G H G' H'->Rep K G' d v->Q v H'
  | .ex c n=>∀ H' G',Ext G H G' H'->W c n σ H'
  | .no=>False
def tF (K:PySem.W.Frag) (B:Hp×Hp) (W:Wi) (f:ah->Rs D):TE:=fun σ H Q=>∃ ρ G,SR K B σ H ρ G/\Post K W σ G H (f ρ) Q
def SE (X:Cx) (B:Hp×Hp) (W:Wi) (e:Expr) (f:ah->Rs D):Prop:=PE X e (tF X.K B W f)
theorem PE.imp {X:Cx} {e:Expr} {t t':TE} (h:PE X e t) (i:∀ σ H Q,t' σ H Q->t σ H Q):PE X e t':=fun pins s σ H Q I q=>h pins s σ H Q I (i σ H Q q)
theorem PT.imp {X:Cx} {e:Expr} {t t':TT} (h:PT X e t) (i:∀ σ H Q,t' σ H Q->t σ H Q):PT X e t':=fun pins s σ H Q I q=>h pins s σ H Q I (i σ H Q q)
theorem PA.imp {X:Cx} {e:List Expr} {t t':TA} (h:PA X e t) (i:∀ σ H Q,t' σ H Q->t σ H Q):PA X e t':=fun pos pins s σ H Q I q=>h pos pins s σ H Q I (i σ H Q q)
theorem PS.imp {X:Cx} {e:Stmt} {t t':TS} (h:PS X e t) (i:∀ De σ H,t' De σ H->t De σ H):PS X e t':=fun pins s σ H De I q=>h pins s σ H De I (i De σ H q)
theorem PSs.imp {X:Cx} {e:List Stmt} {t t':TS} (h:PSs X e t) (i:∀ De σ H,t' De σ H->t De σ H):PSs X e t':=fun pins s σ H De I q=>h pins s σ H De I (i De σ H q)
section
variable {X:Cx} {K:PySem.W.Frag} {B:Hp×Hp} {W:Wi} {σ:St} {G H:Hp} {ρ:ah} {Q Q':VK}
theorem Post.mono {r:Rs D} (h:Post K W σ G H r Q) (i:∀ v H',Q v H'->Q' v H'):Post K W σ G H r Q':=by
  cases r with
  | ok d=>exact fun v H' G' e r=>i _ _ (h v H' G' e r)
  | ex c n=>exact h
  | no=>exact h
theorem Post.ext {r:Rs D} {G' H':Hp} (e:Ext G H G' H') (h:Post K W σ G H r Q):Post K W σ G' H' r Q:=by
  cases r with
  | ok d=>exact fun v H'' G'' e' r=>h v H'' G'' (e.trans e') r
  | ex c n=>exact fun H'' G'' e'=>h H'' G'' (e.trans e')
  | no=>exact h
theorem Post.bind {r:Rs D} {k:D->Rs D} (h:Post K W σ G H (r.bind k) Q) :
    Post K W σ G H r fun v H1=>∃ G1 d,Ext G H G1 H1/\Rep K G1 d v/\Post K W σ G1 H1 (k d) Q:=by
  cases r with
  | ok d=>exact fun v H' G' e r=>⟨G',d,e,r,Post.ext e h⟩
  | ex c n=>exact h
  | no=>exact h
theorem Post.ok {d:D} {v:V} (s:SR K B σ H ρ G) (h:Post K W σ G H (.ok d) Q) (r:Rep K G d v):Q v H:=h v H G s.ext0 r
theorem gX {f:ah->Rs D} {k:ah->D->Rs D} (h:tF K B W (fun ρ=>(f ρ).bind (k ρ)) σ H Q) :
    tF K B W f σ H fun v H1=>∃ ρ G1 d,SR K B σ H1 ρ G1/\Rep K G1 d v/\Post K W σ G1 H1 (k ρ d) Q:=by
  obtain ⟨ρ,G,s,p⟩:=h
  exact ⟨ρ,G,s,p.bind.mono fun v H1 ⟨G1,d,e,r,q⟩=>⟨ρ,G1,d,s.ext e,r,q⟩⟩
theorem vQ {f:ah->Rs D} {k:D->D->Rs D} {v:V} (h:∃ ρ G1 d,SR K B σ H ρ G1/\Rep K G1 d v/\Post K W σ G1 H ((f ρ).bind (k d)) Q) :
    tF K B W f σ H fun u H1=>∃ ρ G1 d d',SR K B σ H1 ρ G1/\Rep K G1 d v/\Rep K G1 d' u/\Post K W σ G1 H1 (k d d') Q:=by
  obtain ⟨ρ,G,d,s,r,p⟩:=h
  exact ⟨ρ,G,s,p.bind.mono fun u H1 ⟨G1,d',e,r',q⟩=>⟨ρ,G1,d,d',s.ext e,r.mono e.gg,r',q⟩⟩
def ab (i:Nat):ah->Rs D:=fun ρ=>match ρ[i]? with|some (.fz d)=>.ok d|_=>.no
def fC (d:D):ah->Rs D:=fun _=>.ok d
theorem Af {e:Expr} {i:Nat} (h:PE X e (ms i)):SE X B W e (ab i):=PE.imp h fun σ H Q ⟨ρ,G,s,p⟩=>by
  unfold ab at p
  cases q:ρ[i]? with
  | none=>rw [q] at p;exact p.elim
  | some x =>
    rw [q] at p
    cases x with
    | no=>exact p.elim
    | ow _=>exact p.elim
    | od _=>exact p.elim
    | fz d =>
      obtain ⟨v,h1,h2⟩:=s.fz i d q
      exact ⟨v,h1,Post.ok s p h2⟩
theorem sv (i:Nat) {x:Str} {pos:Pos} (hN:X.N[i]?=some x:=by rfl) (hv:kY X.env.scope x:=by first|exact Or.inl rfl|exact Or.inr (Or.inl rfl)|exact Or.inr (Or.inr rfl)) (hd:(x == ("__debug__":Str))=false:=by decide)
    (hcd:(x == ("__classdict__":Str))=false:=by decide):SE X B W (.Name x pos) (ab i):=Af (gB hN hv hd hcd)
theorem vR {e:Expr} {v:V} {d:D} (h:PE X e (tC v)) (r:∀ G,Rep X.K G d v):SE X B W e (fC d):=PE.imp h fun σ H Q ⟨ρ,G,s,p⟩=>Post.ok s p (r G)
theorem ag {i:Int} {j pos}:SE X B W (.Constant (.int i) j pos) (fC (.int i)):=vR zD fun _=>rep_int.mpr rfl
theorem cS {b:Bool} {j pos}:SE X B W (.Constant (.bool b) j pos) (fC (.bl b)):=vR BF fun _=>rep_bl.mpr rfl
theorem jI {x j pos}:SE X B W (.Constant (.str x) j pos) (fC (.str x)):=vR zE fun _=>rep_str.mpr rfl
def ai (g:D->D->Rs D) (fa fb:ah->Rs D):ah->Rs D:=fun ρ=>(fa ρ).bind fun x=>(fb ρ).bind fun y=>g x y
def jJ (K:PySem.W.Frag) (r:R2) (g:D->D->Rs D):Prop :=
  ∀ (B:Hp×Hp) (W:Wi) (σ:St) (ρ:ah) (G H:Hp) (x y:D) (v u:V) (Q:VK),SR K B σ H ρ G->Rep K G x v->Rep K G y u->Post K W σ G H (g x y) Q->r v u H Q
theorem lj {r:R2} {g:D->D->Rs D} {fa fb:ah->Rs D} (ho:jJ K r g) (h:tF K B W (ai g fa fb) σ H Q):tJ r (tF K B W fa) (tF K B W fb) σ H Q:=by
  obtain ⟨ρ,G,s,p⟩:=gX (k:=fun ρ x=>(fb ρ).bind fun y=>g x y) h
  refine ⟨ρ,G,s,p.mono fun v H1 h1=>?_⟩
  obtain ⟨ρ,G,s,p⟩:=vQ (k:=g) h1
  exact ⟨ρ,G,s,p.mono fun u H2 ⟨ρ2,G2,d,d',s2,r1,r2,p2⟩=>ho B W σ ρ2 G2 H2 d d' v u Q s2 r1 r2 p2⟩
theorem kh {a b:Expr} {op:Operator} {pos:Pos} {r:R2} {g:D->D->Rs D} {fa fb:ah->Rs D} (ho:OpR X (binaryOp op) r) (hg:jJ X.K r g) (ha:SE X B W a fa) (hb:SE X B W b fb):SE X B W (.BinOp a op b pos) (ai g fa fb) :=
  PE.imp (rX ho ha hb) fun _ _ _ h=>lj hg h
def gI (C:Int->Int->Prop) [∀ i j,Decidable (C i j)] (g:Int->Int->D):D->D->Rs D
  | .int i,.int j=>if C i j then .ok (g i j) else .no
  | _,_=>.no
theorem oa {C:Int->Int->Prop} [∀ i j,Decidable (C i j)] {gv:Int->Int->V} {g:Int->Int->D} (hg:∀ G i j,Rep K G (g i j) (gv i j)):jJ K (rI C gv) (gI C g):=by
  intro B W σ ρ G H x y v u Q s rx ry p
  cases x <;> first|exact p.elim|skip
  rename_i i
  cases y <;> first|exact p.elim|skip
  rename_i j
  simp only [gI] at p
  by_cases c:C i j
  . rw [if_pos c] at p
    exact ⟨i,j,rep_int.mp rx,rep_int.mp ry,c,Post.ok s p (hg G i j)⟩
  . rw [if_neg c] at p;exact p.elim
def qX (g:Int->Int->D):D->D->Rs D
  | .int i,.int j=>.ok (g i j)
  | _,_=>.no
theorem lm {gv:Int->Int->V} {g:Int->Int->D} (hg:∀ G i j,Rep K G (g i j) (gv i j)):jJ K (kw gv) (qX g):=by
  intro B W σ ρ G H x y v u Q s rx ry p
  cases x <;> first|exact p.elim|skip
  rename_i i
  cases y <;> first|exact p.elim|skip
  rename_i j
  exact ⟨i,j,rep_int.mp rx,rep_int.mp ry,Post.ok s p (hg G i j)⟩
end
end Vl
namespace Vl
open PySem PySem.Spec L2
mutual
def cx:D->D->Bool
  | .tup a,.tup b=>fZ a b
  | .lst a,.lst b=>fZ a b
  | .non,.non=>true
  | .bl a,.bl b=>a == b
  | .bl a,.int b=>(if a then 1 else 0) == b
  | .int a,.bl b=>a == (if b then 1 else 0)
  | .int a,.int b=>a == b
  | .str a,.str b=>a == b
  | .exn a b,.exn c d=>a == c && b == d
  | _,_=>false
def fZ:List D->List D->Bool
  | [],[]=>true
  | a::as,b::bs=>cx a b && fZ as bs
  | _,_=>false
end
mutual
def aL:D->Nat
  | .tup a=>bB a + 1
  | .lst a=>bB a + 1
  | .exn _ _=>cLine
  | _=>0
def bB:List D->Nat
  | []=>0
  | a::as=>Nat.max (aL a) (bB as)
end
mutual
theorem jd:∀ d:D,cx d d=true
  | .non=>by simp [cx]
  | .bl _=>by simp [cx]
  | .int _=>by simp [cx]
  | .str _=>by simp [cx]
  | .tup a=>by simp [cx,jK a]
  | .lst a=>by simp [cx,jK a]
  | .exn _ _=>by simp [cx]
theorem jK:∀ d:List D,fZ d d=true
  | []=>by simp [fZ]
  | a::as=>by simp [fZ,jd a,jK as]
end
theorem cv:∀ (a b:List D),((List.range (min a.length b.length)).all (fun j=>cx (a.getD j .non) (b.getD j .non)) && a.length == b.length)=fZ a b
  | [],[]=>by simp [fZ]
  | [],b::bs=>by simp [fZ]
  | a::as,[]=>by simp [fZ]
  | a::as,b::bs=>by
    have ih:=cv as bs
    rw [fZ,<- ih]
    rw [show min (a::as).length (b::bs).length=min as.length bs.length + 1 by simp]
    rw [List.range_succ_eq_map,List.all_cons,List.all_map]
    simp [Function.comp_def,Bool.and_assoc]
theorem iM {d:D}:∀ {ds:List D},d∈ds->aL d<=bB ds
  | [],h=>by cases h
  | x::xs,h=>by
    rw [bB]
    rcases List.mem_cons.mp h with rfl|h
    . exact Nat.le_max_left _ _
    . exact Nat.le_trans (iM h) (Nat.le_max_right _ _)
section
variable {X:Cx} {pins:List (Addr×Obj)} {σ:St} {H:Hp} {s:Shared}
theorem oD (I:Inv X pins σ H s) {a:Addr} {xs ys:List V} (h:SqL X.K H a xs) (h':SqT X.K H a ys):False:=by
  obtain ⟨_,_,⟨o,n,e,c,_,_⟩,_⟩:=I.list h
  obtain ⟨_,_,⟨o',e',c',_⟩,_⟩:=I.tuple h'
  rw [e] at e';cases e'
  rw [c] at c';exact absurd c' (by decide)
theorem vS (I:Inv X pins σ H s) {a:Addr} {xs:List V} {φ:Heap->Prop} (h:SqT X.K H a xs) (h':H a=some (.ext φ)):False:=by
  rcases h with (h|⟨o,h⟩)|⟨o,its,n,hk,_⟩
  . rw [h'] at h;cases h
  . rw [h'] at h;cases h
  . have:=(I.bs a o (I.mod.kin a o hk)).2
    rw [h'] at this;cases this
theorem vT (I:Inv X pins σ H s) {a:Addr} {xs:List V} {φ:Heap->Prop} (h:SqL X.K H a xs) (h':H a=some (.ext φ)):False:=by
  rcases h with (h|⟨o,h⟩)|⟨o,its,n,hk,_⟩
  . rw [h'] at h;cases h
  . rw [h'] at h;cases h
  . have:=(I.bs a o (I.mod.kin a o hk)).2
    rw [h'] at this;cases this
mutual
theorem Rep.inj (I:Inv X pins σ H s):∀ {d d':D} {v:V},aL d < cLine->Rep X.K H d v->Rep X.K H d' v->d=d'
  | .non,d',v,_,h,h'=>by
    rw [rep_non.mp h] at h'
    cases d' <;> simp only [Rep] at h' <;> first|rfl|(obtain ⟨a,vs,e,_⟩:=h';cases e;done)|(cases h';rfl)|cases h'
  | .bl _,d',v,_,h,h'=>by
    rw [rep_bl.mp h] at h'
    cases d' <;> simp only [Rep] at h' <;> first|rfl|(obtain ⟨a,vs,e,_⟩:=h';cases e;done)|(cases h';rfl)|cases h'
  | .int _,d',v,_,h,h'=>by
    rw [rep_int.mp h] at h'
    cases d' <;> simp only [Rep] at h' <;> first|rfl|(obtain ⟨a,vs,e,_⟩:=h';cases e;done)|(cases h';rfl)|cases h'
  | .str _,d',v,_,h,h'=>by
    rw [rep_str.mp h] at h'
    cases d' <;> simp only [Rep] at h' <;> first|rfl|(obtain ⟨a,vs,e,_⟩:=h';cases e;done)|(cases h';rfl)|cases h'
  | .tup ds,d',v,hd,h,h'=>by
    obtain ⟨a,vs,rfl,q,r⟩:=rep_tup.mp h
    cases d' with
    | tup es =>
      obtain ⟨b,us,e,q',r'⟩:=rep_tup.mp h'
      cases e
      rw [I.tuple_inj q' q] at r'
      rw [Reps.inj I (by simp only [aL] at hd;omega) r r']
    | lst es =>
      obtain ⟨b,us,e,q',r'⟩:=rep_lst.mp h'
      cases e
      exact (oD I q' q).elim
    | exn c n =>
      obtain ⟨b,C,e,_,q'⟩:=rep_exn.mp h'
      cases e
      exact (vS I q q').elim
    | _=>simp only [Rep] at h';cases h'
  | .lst ds,d',v,hd,h,h'=>by
    obtain ⟨a,vs,rfl,q,r⟩:=rep_lst.mp h
    cases d' with
    | lst es =>
      obtain ⟨b,us,e,q',r'⟩:=rep_lst.mp h'
      cases e
      rw [I.list_inj q' q] at r'
      rw [Reps.inj I (by simp only [aL] at hd;omega) r r']
    | tup es =>
      obtain ⟨b,us,e,q',r'⟩:=rep_tup.mp h'
      cases e
      exact (oD I q q').elim
    | exn c n =>
      obtain ⟨b,C,e,_,q'⟩:=rep_exn.mp h'
      cases e
      exact (vT I q q').elim
    | _=>simp only [Rep] at h';cases h'
  | .exn _ _,d',v,hd,h,h'=>by simp only [aL] at hd;exact absurd hd (Nat.lt_irrefl _)
theorem Reps.inj (I:Inv X pins σ H s):∀ {ds es:List D} {vs:List V},bB ds < cLine->Reps X.K H ds vs->Reps X.K H es vs->ds=es
  | [],es,vs,_,h,h'=>by
    rw [reps_nil.mp h] at h'
    cases es with
    | nil=>rfl
    | cons e es=>obtain ⟨v,vs',e1,_⟩:=reps_cons.mp h';cases e1
  | d::ds,es,vs,hd,h,h'=>by
    obtain ⟨v,vs',rfl,r1,r2⟩:=reps_cons.mp h
    simp only [bB] at hd
    cases es with
    | nil=>have:=reps_nil.mp h';cases this
    | cons e es =>
      obtain ⟨v',vs'',e1,r1',r2'⟩:=reps_cons.mp h'
      cases e1
      rw [Rep.inj I (Nat.lt_of_le_of_lt (Nat.le_max_left _ _) hd) r1 r1',Reps.inj I (Nat.lt_of_le_of_lt (Nat.le_max_right _ _) hd) r2 r2']
end
theorem kG (I:Inv X pins σ H s) {m:Nat} {A:Around} {ds es:List D} {vs us:List V} {its its2:List Value}
    (ih:∀ {d d':D} {v v':V} {u u':Value} {A:Around},aL d<=m->aL d'<=m->A.units + m < cLine->Rep X.K H d v->Rep X.K H d' v'->RelV v u->RelV v' u'->SeqAt.EqAt A s u u' (cx d d'))
    (hn:bB ds<=m) (hn':bB es<=m) (hu:A.in1.units + m < cLine) (r1:Reps X.K H ds vs) (r2:Reps X.K H es us) (a1:Vals vs its) (a2:Vals us its2) :
    ∀ j (h1:j < its.toArray.size) (h2:j < its2.toArray.size),SeqAt.EqAt A.in1 s its.toArray[j] its2.toArray[j] (cx (ds.getD j .non) (es.getD j .non)):=by
  intro j h1 h2
  have l1:j < ds.length:=by rw [r1.length,a1.length];simpa using h1
  have l2:j < es.length:=by rw [r2.length,a2.length];simpa using h2
  obtain ⟨x,hx,rx⟩:=r1.get (i:=j) (d:=ds[j]) (by simp [l1])
  obtain ⟨y,hy,ry⟩:=r2.get (i:=j) (d:=es[j]) (by simp [l2])
  obtain ⟨p,hp,rp⟩:=a1.get hx
  obtain ⟨q,hq,rq⟩:=a2.get hy
  have e1:its.toArray[j]=p:=by
    have:=(List.getElem?_eq_some_iff.mp hp).2;simpa using this
  have e2:its2.toArray[j]=q:=by
    have:=(List.getElem?_eq_some_iff.mp hq).2;simpa using this
  rw [e1,e2,List.getD_eq_getElem?_getD,List.getD_eq_getElem?_getD,List.getElem?_eq_getElem l1,List.getElem?_eq_getElem l2]
  exact ih (Nat.le_trans (iM (List.getElem_mem l1)) hn) (Nat.le_trans (iM (List.getElem_mem l2)) hn') hu rx ry rp rq
open SeqAt in
theorem tV (I:Inv X pins σ H s):∀ (n:Nat) {d d':D} {v v':V} {u u':Value} {A:Around},aL d<=n->aL d'<=n->A.units + n < cLine->Rep X.K H d v->Rep X.K H d' v'->RelV v u->RelV v' u'->EqAt A s u u' (cx d d'):=by
  intro n
  induction n with
  | zero =>
    intro d d' v v' u u' A hd hd' hu r r' e e'
    have hu0:A.units < cLine:=by omega
    cases d with
    | non =>
      rw [rep_non.mp r] at e;cases e
      cases d' with
      | non =>
        rw [rep_non.mp r'] at e';cases e'
        exact EqAt.same _
      | bl b =>
        rw [rep_bl.mp r'] at e';cases e'
        exact EqAt.none_bool b
      | int b =>
        rw [rep_int.mp r'] at e';obtain ⟨t',rfl⟩:=e'
        exact EqAt.none_int b t'
      | str b =>
        rw [rep_str.mp r'] at e';obtain ⟨t',rfl⟩:=e'
        exact EqAt.none_str b t'
      | tup es =>
        obtain ⟨b,us,rfl,q',rr'⟩:=rep_tup.mp r'
        cases e'
        obtain ⟨its2,av2,t2,_⟩:=I.tuple q'
        exact EqAt.none_tuple t2 hu0
      | lst es =>
        obtain ⟨b,us,rfl,q',rr'⟩:=rep_lst.mp r'
        cases e'
        obtain ⟨its2,av2,t3,_⟩:=I.list q'
        have t2:=t3.isList
        exact EqAt.none_list t2 hu0
      | exn c m =>
        simp only [aL] at hd';exact absurd hu (by omega)
    | bl x =>
      rw [rep_bl.mp r] at e;cases e
      cases d' with
      | non =>
        rw [rep_non.mp r'] at e';cases e'
        exact EqAt.bool_none x
      | bl b =>
        rw [rep_bl.mp r'] at e';cases e'
        exact EqAt.bool_bool x b
      | int b =>
        rw [rep_int.mp r'] at e';obtain ⟨t',rfl⟩:=e'
        exact EqAt.bool_int x b t'
      | str b =>
        rw [rep_str.mp r'] at e';obtain ⟨t',rfl⟩:=e'
        exact EqAt.bool_str x b t'
      | tup es =>
        obtain ⟨b,us,rfl,q',rr'⟩:=rep_tup.mp r'
        cases e'
        obtain ⟨its2,av2,t2,_⟩:=I.tuple q'
        exact EqAt.bool_tuple x t2 hu0
      | lst es =>
        obtain ⟨b,us,rfl,q',rr'⟩:=rep_lst.mp r'
        cases e'
        obtain ⟨its2,av2,t3,_⟩:=I.list q'
        have t2:=t3.isList
        exact EqAt.bool_list x t2 hu0
      | exn c m =>
        simp only [aL] at hd';exact absurd hu (by omega)
    | int x =>
      rw [rep_int.mp r] at e;obtain ⟨t0,rfl⟩:=e
      cases d' with
      | non =>
        rw [rep_non.mp r'] at e';cases e'
        exact EqAt.int_none x t0
      | bl b =>
        rw [rep_bl.mp r'] at e';cases e'
        exact EqAt.int_bool x t0 b
      | int b =>
        rw [rep_int.mp r'] at e';obtain ⟨t',rfl⟩:=e'
        exact EqAt.int_int x t0 b t'
      | str b =>
        rw [rep_str.mp r'] at e';obtain ⟨t',rfl⟩:=e'
        exact EqAt.int_str x t0 b t'
      | tup es =>
        obtain ⟨b,us,rfl,q',rr'⟩:=rep_tup.mp r'
        cases e'
        obtain ⟨its2,av2,t2,_⟩:=I.tuple q'
        exact EqAt.int_tuple x t0 t2 hu0
      | lst es =>
        obtain ⟨b,us,rfl,q',rr'⟩:=rep_lst.mp r'
        cases e'
        obtain ⟨its2,av2,t3,_⟩:=I.list q'
        have t2:=t3.isList
        exact EqAt.int_list x t0 t2 hu0
      | exn c m =>
        simp only [aL] at hd';exact absurd hu (by omega)
    | str x =>
      rw [rep_str.mp r] at e;obtain ⟨t0,rfl⟩:=e
      cases d' with
      | non =>
        rw [rep_non.mp r'] at e';cases e'
        exact EqAt.str_none x t0
      | bl b =>
        rw [rep_bl.mp r'] at e';cases e'
        exact EqAt.str_bool x t0 b
      | int b =>
        rw [rep_int.mp r'] at e';obtain ⟨t',rfl⟩:=e'
        exact EqAt.str_int x t0 b t'
      | str b =>
        rw [rep_str.mp r'] at e';obtain ⟨t',rfl⟩:=e'
        exact EqAt.str_str x t0 b t'
      | tup es =>
        obtain ⟨b,us,rfl,q',rr'⟩:=rep_tup.mp r'
        cases e'
        obtain ⟨its2,av2,t2,_⟩:=I.tuple q'
        exact EqAt.str_tuple x t0 t2 hu0
      | lst es =>
        obtain ⟨b,us,rfl,q',rr'⟩:=rep_lst.mp r'
        cases e'
        obtain ⟨its2,av2,t3,_⟩:=I.list q'
        have t2:=t3.isList
        exact EqAt.str_list x t0 t2 hu0
      | exn c m =>
        simp only [aL] at hd';exact absurd hu (by omega)
    | tup ds =>
      obtain ⟨a,vs,rfl,q,rr⟩:=rep_tup.mp r
      cases e
      obtain ⟨its,av,t,_⟩:=I.tuple q
      cases d' with
      | non =>
        rw [rep_non.mp r'] at e';cases e'
        exact EqAt.tuple_none t hu0
      | bl b =>
        rw [rep_bl.mp r'] at e';cases e'
        exact EqAt.tuple_bool b t hu0
      | int b =>
        rw [rep_int.mp r'] at e';obtain ⟨t',rfl⟩:=e'
        exact EqAt.tuple_int b t' t hu0
      | str b =>
        rw [rep_str.mp r'] at e';obtain ⟨t',rfl⟩:=e'
        exact EqAt.tuple_str b t' t hu0
      | tup es =>
        obtain ⟨b,us,rfl,q',rr'⟩:=rep_tup.mp r'
        cases e'
        obtain ⟨its2,av2,t2,_⟩:=I.tuple q'
        simp only [aL] at hd;omega
      | lst es =>
        obtain ⟨b,us,rfl,q',rr'⟩:=rep_lst.mp r'
        cases e'
        obtain ⟨its2,av2,t3,_⟩:=I.list q'
        have t2:=t3.isList
        exact EqAt.tuple_list t t2 hu0
      | exn c m =>
        simp only [aL] at hd';exact absurd hu (by omega)
    | lst ds =>
      obtain ⟨a,vs,rfl,q,rr⟩:=rep_lst.mp r
      cases e
      obtain ⟨its,av,t1,_⟩:=I.list q
      have t:=t1.isList
      cases d' with
      | non =>
        rw [rep_non.mp r'] at e';cases e'
        exact EqAt.list_none t hu0
      | bl b =>
        rw [rep_bl.mp r'] at e';cases e'
        exact EqAt.list_bool b t hu0
      | int b =>
        rw [rep_int.mp r'] at e';obtain ⟨t',rfl⟩:=e'
        exact EqAt.list_int b t' t hu0
      | str b =>
        rw [rep_str.mp r'] at e';obtain ⟨t',rfl⟩:=e'
        exact EqAt.list_str b t' t hu0
      | tup es =>
        obtain ⟨b,us,rfl,q',rr'⟩:=rep_tup.mp r'
        cases e'
        obtain ⟨its2,av2,t2,_⟩:=I.tuple q'
        exact EqAt.list_tuple t t2 hu0
      | lst es =>
        obtain ⟨b,us,rfl,q',rr'⟩:=rep_lst.mp r'
        cases e'
        obtain ⟨its2,av2,t3,_⟩:=I.list q'
        have t2:=t3.isList
        simp only [aL] at hd;omega
      | exn c m =>
        simp only [aL] at hd';exact absurd hu (by omega)
    | exn c m =>
      simp only [aL] at hd;exact absurd hu (by omega)
  | succ m ih =>
    intro d d' v v' u u' A hd hd' hu r r' e e'
    have hu0:A.units < cLine:=by omega
    cases d with
    | non =>
      rw [rep_non.mp r] at e;cases e
      cases d' with
      | non =>
        rw [rep_non.mp r'] at e';cases e'
        exact EqAt.same _
      | bl b =>
        rw [rep_bl.mp r'] at e';cases e'
        exact EqAt.none_bool b
      | int b =>
        rw [rep_int.mp r'] at e';obtain ⟨t',rfl⟩:=e'
        exact EqAt.none_int b t'
      | str b =>
        rw [rep_str.mp r'] at e';obtain ⟨t',rfl⟩:=e'
        exact EqAt.none_str b t'
      | tup es =>
        obtain ⟨b,us,rfl,q',rr'⟩:=rep_tup.mp r'
        cases e'
        obtain ⟨its2,av2,t2,_⟩:=I.tuple q'
        exact EqAt.none_tuple t2 hu0
      | lst es =>
        obtain ⟨b,us,rfl,q',rr'⟩:=rep_lst.mp r'
        cases e'
        obtain ⟨its2,av2,t3,_⟩:=I.list q'
        have t2:=t3.isList
        exact EqAt.none_list t2 hu0
      | exn c m =>
        simp only [aL] at hd';exact absurd hu (by omega)
    | bl x =>
      rw [rep_bl.mp r] at e;cases e
      cases d' with
      | non =>
        rw [rep_non.mp r'] at e';cases e'
        exact EqAt.bool_none x
      | bl b =>
        rw [rep_bl.mp r'] at e';cases e'
        exact EqAt.bool_bool x b
      | int b =>
        rw [rep_int.mp r'] at e';obtain ⟨t',rfl⟩:=e'
        exact EqAt.bool_int x b t'
      | str b =>
        rw [rep_str.mp r'] at e';obtain ⟨t',rfl⟩:=e'
        exact EqAt.bool_str x b t'
      | tup es =>
        obtain ⟨b,us,rfl,q',rr'⟩:=rep_tup.mp r'
        cases e'
        obtain ⟨its2,av2,t2,_⟩:=I.tuple q'
        exact EqAt.bool_tuple x t2 hu0
      | lst es =>
        obtain ⟨b,us,rfl,q',rr'⟩:=rep_lst.mp r'
        cases e'
        obtain ⟨its2,av2,t3,_⟩:=I.list q'
        have t2:=t3.isList
        exact EqAt.bool_list x t2 hu0
      | exn c m =>
        simp only [aL] at hd';exact absurd hu (by omega)
    | int x =>
      rw [rep_int.mp r] at e;obtain ⟨t0,rfl⟩:=e
      cases d' with
      | non =>
        rw [rep_non.mp r'] at e';cases e'
        exact EqAt.int_none x t0
      | bl b =>
        rw [rep_bl.mp r'] at e';cases e'
        exact EqAt.int_bool x t0 b
      | int b =>
        rw [rep_int.mp r'] at e';obtain ⟨t',rfl⟩:=e'
        exact EqAt.int_int x t0 b t'
      | str b =>
        rw [rep_str.mp r'] at e';obtain ⟨t',rfl⟩:=e'
        exact EqAt.int_str x t0 b t'
      | tup es =>
        obtain ⟨b,us,rfl,q',rr'⟩:=rep_tup.mp r'
        cases e'
        obtain ⟨its2,av2,t2,_⟩:=I.tuple q'
        exact EqAt.int_tuple x t0 t2 hu0
      | lst es =>
        obtain ⟨b,us,rfl,q',rr'⟩:=rep_lst.mp r'
        cases e'
        obtain ⟨its2,av2,t3,_⟩:=I.list q'
        have t2:=t3.isList
        exact EqAt.int_list x t0 t2 hu0
      | exn c m =>
        simp only [aL] at hd';exact absurd hu (by omega)
    | str x =>
      rw [rep_str.mp r] at e;obtain ⟨t0,rfl⟩:=e
      cases d' with
      | non =>
        rw [rep_non.mp r'] at e';cases e'
        exact EqAt.str_none x t0
      | bl b =>
        rw [rep_bl.mp r'] at e';cases e'
        exact EqAt.str_bool x t0 b
      | int b =>
        rw [rep_int.mp r'] at e';obtain ⟨t',rfl⟩:=e'
        exact EqAt.str_int x t0 b t'
      | str b =>
        rw [rep_str.mp r'] at e';obtain ⟨t',rfl⟩:=e'
        exact EqAt.str_str x t0 b t'
      | tup es =>
        obtain ⟨b,us,rfl,q',rr'⟩:=rep_tup.mp r'
        cases e'
        obtain ⟨its2,av2,t2,_⟩:=I.tuple q'
        exact EqAt.str_tuple x t0 t2 hu0
      | lst es =>
        obtain ⟨b,us,rfl,q',rr'⟩:=rep_lst.mp r'
        cases e'
        obtain ⟨its2,av2,t3,_⟩:=I.list q'
        have t2:=t3.isList
        exact EqAt.str_list x t0 t2 hu0
      | exn c m =>
        simp only [aL] at hd';exact absurd hu (by omega)
    | tup ds =>
      obtain ⟨a,vs,rfl,q,rr⟩:=rep_tup.mp r
      cases e
      obtain ⟨its,av,t,_⟩:=I.tuple q
      cases d' with
      | non =>
        rw [rep_non.mp r'] at e';cases e'
        exact EqAt.tuple_none t hu0
      | bl b =>
        rw [rep_bl.mp r'] at e';cases e'
        exact EqAt.tuple_bool b t hu0
      | int b =>
        rw [rep_int.mp r'] at e';obtain ⟨t',rfl⟩:=e'
        exact EqAt.tuple_int b t' t hu0
      | str b =>
        rw [rep_str.mp r'] at e';obtain ⟨t',rfl⟩:=e'
        exact EqAt.tuple_str b t' t hu0
      | tup es =>
        obtain ⟨b,us,rfl,q',rr'⟩:=rep_tup.mp r'
        cases e'
        obtain ⟨its2,av2,t2,_⟩:=I.tuple q'
        have hn:bB ds<=m:=by simp only [aL] at hd;omega
        have hn':bB es<=m:=by simp only [aL] at hd';omega
        by_cases hab:a=b
        . subst hab
          rw [Rep.inj I (by omega) r r',jd]
          exact EqAt.same _
        have items:=kG I ih hn hn' (show A.in1.units + m < cLine by show A.units + 1 + m < _;omega) rr rr' av av2
        have h:=RcAt.tuples (A:=A) t t2 hu0 items
        rw [List.size_toArray,List.size_toArray,<- av.length,<- av2.length,<- rr.length,<- rr'.length,cv] at h
        exact EqAt.of_refs hab h
      | lst es =>
        obtain ⟨b,us,rfl,q',rr'⟩:=rep_lst.mp r'
        cases e'
        obtain ⟨its2,av2,t3,_⟩:=I.list q'
        have t2:=t3.isList
        exact EqAt.tuple_list t t2 hu0
      | exn c m =>
        simp only [aL] at hd';exact absurd hu (by omega)
    | lst ds =>
      obtain ⟨a,vs,rfl,q,rr⟩:=rep_lst.mp r
      cases e
      obtain ⟨its,av,t1,_⟩:=I.list q
      have t:=t1.isList
      cases d' with
      | non =>
        rw [rep_non.mp r'] at e';cases e'
        exact EqAt.list_none t hu0
      | bl b =>
        rw [rep_bl.mp r'] at e';cases e'
        exact EqAt.list_bool b t hu0
      | int b =>
        rw [rep_int.mp r'] at e';obtain ⟨t',rfl⟩:=e'
        exact EqAt.list_int b t' t hu0
      | str b =>
        rw [rep_str.mp r'] at e';obtain ⟨t',rfl⟩:=e'
        exact EqAt.list_str b t' t hu0
      | tup es =>
        obtain ⟨b,us,rfl,q',rr'⟩:=rep_tup.mp r'
        cases e'
        obtain ⟨its2,av2,t2,_⟩:=I.tuple q'
        exact EqAt.list_tuple t t2 hu0
      | lst es =>
        obtain ⟨b,us,rfl,q',rr'⟩:=rep_lst.mp r'
        cases e'
        obtain ⟨its2,av2,t3,_⟩:=I.list q'
        have t2:=t3.isList
        have hn:bB ds<=m:=by simp only [aL] at hd;omega
        have hn':bB es<=m:=by simp only [aL] at hd';omega
        by_cases hab:a=b
        . subst hab
          rw [Rep.inj I (by omega) r r',jd]
          exact EqAt.same _
        have items:=kG I ih hn hn' (show A.in1.units + m < cLine by show A.units + 1 + m < _;omega) rr rr' av av2
        by_cases hl:its.toArray.size=its2.toArray.size
        . have h:=RcAt.lists (A:=A) t t2 hl hu0 items
          rw [List.size_toArray,<- av.length,<- rr.length] at h
          have hl':ds.length=es.length:=by rw [rr.length,rr'.length,av.length,av2.length];simpa using hl
          have e1:=cv ds es
          rw [hl',Nat.min_self] at e1
          simp only [beq_self_eq_true,Bool.and_true] at e1
          rw [hl',e1] at h
          exact EqAt.of_refs hab h
        . have h:=RcAt.lists_lengths (A:=A) t t2 (by simpa using hl) hu0
          have hl':ds.length≠es.length:=by rw [rr.length,rr'.length,av.length,av2.length];simpa using hl
          have e1:=cv ds es
          rw [show (ds.length == es.length)=false by simpa using hl',Bool.and_false] at e1
          rw [show cx (.lst ds) (.lst es)=false by rw [cx,<- e1]]
          exact EqAt.of_refs hab h
      | exn c m =>
        simp only [aL] at hd';exact absurd hu (by omega)
    | exn c m =>
      simp only [aL] at hd;exact absurd hu (by omega)
end
end Vl
namespace Vl
open PySem PySem.Spec L2
section
variable {X:Cx} {pins:List (Addr×Obj)} {σ:St} {H:Hp} {s:Shared}
theorem je (I:Inv X pins σ H s) {m:Nat} {A:Around} {ds es:List D} {vs us:List V} {its its2:List Value} (hn:bB ds<=m) (hn':bB es<=m) (hu:A.in1.units + m < cLine) (r1:Reps X.K H ds vs) (r2:Reps X.K H es us) (a1:Vals vs its) (a2:Vals us its2) :
    ∀ j (h1:j < its.toArray.size) (h2:j < its2.toArray.size),SeqAt.EqAt A.in1 s its.toArray[j] its2.toArray[j] (cx (ds.getD j .non) (es.getD j .non)) :=
  kG I (fun a b c d e f g=>tV I m a b c d e f g) hn hn' hu r1 r2 a1 a2
open SeqAt in
theorem Ag (I:Inv X pins σ H s) {n:Nat} {d d':D} {v v':V} {u u':Value} {A:Around} (hd:aL d<=n) (hd':aL d'<=n) (hu:A.units + n < cLine) (r:Rep X.K H d v) (r':Rep X.K H d' v') (e:RelV v u) (e':RelV v' u'):RcAt A s u u' (cx d d'):=by
  have hu0:A.units < cLine:=by omega
  cases d with
  | non =>
    rw [rep_non.mp r] at e;cases e
    cases d' with
    | non =>
      rw [rep_non.mp r'] at e';cases e'
      exact RcAt.none_none
    | bl b =>
      rw [rep_bl.mp r'] at e';cases e'
      exact RcAt.none_bool b
    | int b =>
      rw [rep_int.mp r'] at e';obtain ⟨t',rfl⟩:=e'
      exact RcAt.none_int b t'
    | str b =>
      rw [rep_str.mp r'] at e';obtain ⟨t',rfl⟩:=e'
      exact RcAt.none_str b t'
    | tup es =>
      obtain ⟨b,us,rfl,q',rr'⟩:=rep_tup.mp r'
      cases e'
      obtain ⟨its2,av2,t2,_⟩:=I.tuple q'
      exact RcAt.none_tuple t2 hu0
    | lst es =>
      obtain ⟨b,us,rfl,q',rr'⟩:=rep_lst.mp r'
      cases e'
      obtain ⟨its2,av2,t3,_⟩:=I.list q'
      have t2:=t3.isList
      exact RcAt.none_list t2 hu0
    | exn c m =>
      simp only [aL] at hd';exact absurd hu (by omega)
  | bl x =>
    rw [rep_bl.mp r] at e;cases e
    cases d' with
    | non =>
      rw [rep_non.mp r'] at e';cases e'
      exact RcAt.bool_none x
    | bl b =>
      rw [rep_bl.mp r'] at e';cases e'
      exact RcAt.bool_bool x b
    | int b =>
      rw [rep_int.mp r'] at e';obtain ⟨t',rfl⟩:=e'
      exact RcAt.bool_int x b t'
    | str b =>
      rw [rep_str.mp r'] at e';obtain ⟨t',rfl⟩:=e'
      exact RcAt.bool_str x b t'
    | tup es =>
      obtain ⟨b,us,rfl,q',rr'⟩:=rep_tup.mp r'
      cases e'
      obtain ⟨its2,av2,t2,_⟩:=I.tuple q'
      exact RcAt.bool_tuple x t2 hu0
    | lst es =>
      obtain ⟨b,us,rfl,q',rr'⟩:=rep_lst.mp r'
      cases e'
      obtain ⟨its2,av2,t3,_⟩:=I.list q'
      have t2:=t3.isList
      exact RcAt.bool_list x t2 hu0
    | exn c m =>
      simp only [aL] at hd';exact absurd hu (by omega)
  | int x =>
    rw [rep_int.mp r] at e;obtain ⟨t0,rfl⟩:=e
    cases d' with
    | non =>
      rw [rep_non.mp r'] at e';cases e'
      exact RcAt.int_none x t0
    | bl b =>
      rw [rep_bl.mp r'] at e';cases e'
      exact RcAt.int_bool x t0 b
    | int b =>
      rw [rep_int.mp r'] at e';obtain ⟨t',rfl⟩:=e'
      exact RcAt.int_int x t0 b t'
    | str b =>
      rw [rep_str.mp r'] at e';obtain ⟨t',rfl⟩:=e'
      exact RcAt.int_str x t0 b t'
    | tup es =>
      obtain ⟨b,us,rfl,q',rr'⟩:=rep_tup.mp r'
      cases e'
      obtain ⟨its2,av2,t2,_⟩:=I.tuple q'
      exact RcAt.int_tuple x t0 t2 hu0
    | lst es =>
      obtain ⟨b,us,rfl,q',rr'⟩:=rep_lst.mp r'
      cases e'
      obtain ⟨its2,av2,t3,_⟩:=I.list q'
      have t2:=t3.isList
      exact RcAt.int_list x t0 t2 hu0
    | exn c m =>
      simp only [aL] at hd';exact absurd hu (by omega)
  | str x =>
    rw [rep_str.mp r] at e;obtain ⟨t0,rfl⟩:=e
    cases d' with
    | non =>
      rw [rep_non.mp r'] at e';cases e'
      exact RcAt.str_none x t0
    | bl b =>
      rw [rep_bl.mp r'] at e';cases e'
      exact RcAt.str_bool x t0 b
    | int b =>
      rw [rep_int.mp r'] at e';obtain ⟨t',rfl⟩:=e'
      exact RcAt.str_int x t0 b t'
    | str b =>
      rw [rep_str.mp r'] at e';obtain ⟨t',rfl⟩:=e'
      exact RcAt.str_str x t0 b t'
    | tup es =>
      obtain ⟨b,us,rfl,q',rr'⟩:=rep_tup.mp r'
      cases e'
      obtain ⟨its2,av2,t2,_⟩:=I.tuple q'
      exact RcAt.str_tuple x t0 t2 hu0
    | lst es =>
      obtain ⟨b,us,rfl,q',rr'⟩:=rep_lst.mp r'
      cases e'
      obtain ⟨its2,av2,t3,_⟩:=I.list q'
      have t2:=t3.isList
      exact RcAt.str_list x t0 t2 hu0
    | exn c m =>
      simp only [aL] at hd';exact absurd hu (by omega)
  | tup ds =>
    obtain ⟨a,vs,rfl,q,rr⟩:=rep_tup.mp r
    cases e
    obtain ⟨its,av,t,_⟩:=I.tuple q
    cases d' with
    | non =>
      rw [rep_non.mp r'] at e';cases e'
      exact RcAt.tuple_none t hu0
    | bl b =>
      rw [rep_bl.mp r'] at e';cases e'
      exact RcAt.tuple_bool b t hu0
    | int b =>
      rw [rep_int.mp r'] at e';obtain ⟨t',rfl⟩:=e'
      exact RcAt.tuple_int b t' t hu0
    | str b =>
      rw [rep_str.mp r'] at e';obtain ⟨t',rfl⟩:=e'
      exact RcAt.tuple_str b t' t hu0
    | tup es =>
      obtain ⟨b,us,rfl,q',rr'⟩:=rep_tup.mp r'
      cases e'
      obtain ⟨its2,av2,t2,_⟩:=I.tuple q'
      obtain ⟨m,rfl⟩:∃ m,n=m + 1:=⟨n - 1,by simp only [aL] at hd;omega⟩
      have hn:bB ds<=m:=by simp only [aL] at hd;omega
      have hn':bB es<=m:=by simp only [aL] at hd';omega
      have items:=je I hn hn' (show A.in1.units + m < cLine by show A.units + 1 + m < _;omega) rr rr' av av2
      have h:=RcAt.tuples (A:=A) t t2 hu0 items
      rw [List.size_toArray,List.size_toArray,<- av.length,<- av2.length,<- rr.length,<- rr'.length,cv] at h
      exact h
    | lst es =>
      obtain ⟨b,us,rfl,q',rr'⟩:=rep_lst.mp r'
      cases e'
      obtain ⟨its2,av2,t3,_⟩:=I.list q'
      have t2:=t3.isList
      exact RcAt.tuple_list t t2 hu0
    | exn c m =>
      simp only [aL] at hd';exact absurd hu (by omega)
  | lst ds =>
    obtain ⟨a,vs,rfl,q,rr⟩:=rep_lst.mp r
    cases e
    obtain ⟨its,av,t1,_⟩:=I.list q
    have t:=t1.isList
    cases d' with
    | non =>
      rw [rep_non.mp r'] at e';cases e'
      exact RcAt.list_none t hu0
    | bl b =>
      rw [rep_bl.mp r'] at e';cases e'
      exact RcAt.list_bool b t hu0
    | int b =>
      rw [rep_int.mp r'] at e';obtain ⟨t',rfl⟩:=e'
      exact RcAt.list_int b t' t hu0
    | str b =>
      rw [rep_str.mp r'] at e';obtain ⟨t',rfl⟩:=e'
      exact RcAt.list_str b t' t hu0
    | tup es =>
      obtain ⟨b,us,rfl,q',rr'⟩:=rep_tup.mp r'
      cases e'
      obtain ⟨its2,av2,t2,_⟩:=I.tuple q'
      exact RcAt.list_tuple t t2 hu0
    | lst es =>
      obtain ⟨b,us,rfl,q',rr'⟩:=rep_lst.mp r'
      cases e'
      obtain ⟨its2,av2,t3,_⟩:=I.list q'
      have t2:=t3.isList
      obtain ⟨m,rfl⟩:∃ m,n=m + 1:=⟨n - 1,by simp only [aL] at hd;omega⟩
      have hn:bB ds<=m:=by simp only [aL] at hd;omega
      have hn':bB es<=m:=by simp only [aL] at hd';omega
      have items:=je I hn hn' (show A.in1.units + m < cLine by show A.units + 1 + m < _;omega) rr rr' av av2
      by_cases hl:its.toArray.size=its2.toArray.size
      . have h:=RcAt.lists (A:=A) t t2 hl hu0 items
        rw [List.size_toArray,<- av.length,<- rr.length] at h
        have hl':ds.length=es.length:=by rw [rr.length,rr'.length,av.length,av2.length];simpa using hl
        have e1:=cv ds es
        rw [hl',Nat.min_self] at e1
        simp only [beq_self_eq_true,Bool.and_true] at e1
        rw [hl',e1] at h
        exact h
      . have h:=RcAt.lists_lengths (A:=A) t t2 (by simpa using hl) hu0
        have hl':ds.length≠es.length:=by rw [rr.length,rr'.length,av.length,av2.length];simpa using hl
        have e1:=cv ds es
        rw [show (ds.length == es.length)=false by simpa using hl',Bool.and_false] at e1
        rw [show cx (.lst ds) (.lst es)=false by rw [cx,<- e1]]
        exact h
    | exn c m =>
      simp only [aL] at hd';exact absurd hu (by omega)
  | exn c m =>
    simp only [aL] at hd;exact absurd hu (by omega)
open SeqAt in
theorem vU (I:Inv X pins σ H s) {n:Nat} {d d':D} {v v':V} {u u':Value} {A:Around} (hd:aL d<=n) (hd':aL d'<=n) (hu:A.units + n < cLine) (r:Rep X.K H d v) (r':Rep X.K H d' v') (e:RelV v u) (e':RelV v' u'):RcNeAt A s u u' (!cx d d'):=by
  have hu0:A.units < cLine:=by omega
  cases d with
  | non =>
    rw [rep_non.mp r] at e;cases e
    cases d' with
    | non =>
      rw [rep_non.mp r'] at e';cases e'
      exact RcNeAt.none_none
    | bl b =>
      rw [rep_bl.mp r'] at e';cases e'
      exact RcNeAt.none_bool b
    | int b =>
      rw [rep_int.mp r'] at e';obtain ⟨t',rfl⟩:=e'
      exact RcNeAt.none_int b t'
    | str b =>
      rw [rep_str.mp r'] at e';obtain ⟨t',rfl⟩:=e'
      exact RcNeAt.none_str b t'
    | tup es =>
      obtain ⟨b,us,rfl,q',rr'⟩:=rep_tup.mp r'
      cases e'
      obtain ⟨its2,av2,t2,_⟩:=I.tuple q'
      exact RcNeAt.none_tuple t2 hu0
    | lst es =>
      obtain ⟨b,us,rfl,q',rr'⟩:=rep_lst.mp r'
      cases e'
      obtain ⟨its2,av2,t3,_⟩:=I.list q'
      have t2:=t3.isList
      exact RcNeAt.none_list t2 hu0
    | exn c m =>
      simp only [aL] at hd';exact absurd hu (by omega)
  | bl x =>
    rw [rep_bl.mp r] at e;cases e
    cases d' with
    | non =>
      rw [rep_non.mp r'] at e';cases e'
      exact RcNeAt.bool_none x
    | bl b =>
      rw [rep_bl.mp r'] at e';cases e'
      exact RcNeAt.bool_bool x b
    | int b =>
      rw [rep_int.mp r'] at e';obtain ⟨t',rfl⟩:=e'
      exact RcNeAt.bool_int x b t'
    | str b =>
      rw [rep_str.mp r'] at e';obtain ⟨t',rfl⟩:=e'
      exact RcNeAt.bool_str x b t'
    | tup es =>
      obtain ⟨b,us,rfl,q',rr'⟩:=rep_tup.mp r'
      cases e'
      obtain ⟨its2,av2,t2,_⟩:=I.tuple q'
      exact RcNeAt.bool_tuple x t2 hu0
    | lst es =>
      obtain ⟨b,us,rfl,q',rr'⟩:=rep_lst.mp r'
      cases e'
      obtain ⟨its2,av2,t3,_⟩:=I.list q'
      have t2:=t3.isList
      exact RcNeAt.bool_list x t2 hu0
    | exn c m =>
      simp only [aL] at hd';exact absurd hu (by omega)
  | int x =>
    rw [rep_int.mp r] at e;obtain ⟨t0,rfl⟩:=e
    cases d' with
    | non =>
      rw [rep_non.mp r'] at e';cases e'
      exact RcNeAt.int_none x t0
    | bl b =>
      rw [rep_bl.mp r'] at e';cases e'
      exact RcNeAt.int_bool x t0 b
    | int b =>
      rw [rep_int.mp r'] at e';obtain ⟨t',rfl⟩:=e'
      exact RcNeAt.int_int x t0 b t'
    | str b =>
      rw [rep_str.mp r'] at e';obtain ⟨t',rfl⟩:=e'
      exact RcNeAt.int_str x t0 b t'
    | tup es =>
      obtain ⟨b,us,rfl,q',rr'⟩:=rep_tup.mp r'
      cases e'
      obtain ⟨its2,av2,t2,_⟩:=I.tuple q'
      exact RcNeAt.int_tuple x t0 t2 hu0
    | lst es =>
      obtain ⟨b,us,rfl,q',rr'⟩:=rep_lst.mp r'
      cases e'
      obtain ⟨its2,av2,t3,_⟩:=I.list q'
      have t2:=t3.isList
      exact RcNeAt.int_list x t0 t2 hu0
    | exn c m =>
      simp only [aL] at hd';exact absurd hu (by omega)
  | str x =>
    rw [rep_str.mp r] at e;obtain ⟨t0,rfl⟩:=e
    cases d' with
    | non =>
      rw [rep_non.mp r'] at e';cases e'
      exact RcNeAt.str_none x t0
    | bl b =>
      rw [rep_bl.mp r'] at e';cases e'
      exact RcNeAt.str_bool x t0 b
    | int b =>
      rw [rep_int.mp r'] at e';obtain ⟨t',rfl⟩:=e'
      exact RcNeAt.str_int x t0 b t'
    | str b =>
      rw [rep_str.mp r'] at e';obtain ⟨t',rfl⟩:=e'
      exact RcNeAt.str_str x t0 b t'
    | tup es =>
      obtain ⟨b,us,rfl,q',rr'⟩:=rep_tup.mp r'
      cases e'
      obtain ⟨its2,av2,t2,_⟩:=I.tuple q'
      exact RcNeAt.str_tuple x t0 t2 hu0
    | lst es =>
      obtain ⟨b,us,rfl,q',rr'⟩:=rep_lst.mp r'
      cases e'
      obtain ⟨its2,av2,t3,_⟩:=I.list q'
      have t2:=t3.isList
      exact RcNeAt.str_list x t0 t2 hu0
    | exn c m =>
      simp only [aL] at hd';exact absurd hu (by omega)
  | tup ds =>
    obtain ⟨a,vs,rfl,q,rr⟩:=rep_tup.mp r
    cases e
    obtain ⟨its,av,t,_⟩:=I.tuple q
    cases d' with
    | non =>
      rw [rep_non.mp r'] at e';cases e'
      exact RcNeAt.tuple_none t hu0
    | bl b =>
      rw [rep_bl.mp r'] at e';cases e'
      exact RcNeAt.tuple_bool b t hu0
    | int b =>
      rw [rep_int.mp r'] at e';obtain ⟨t',rfl⟩:=e'
      exact RcNeAt.tuple_int b t' t hu0
    | str b =>
      rw [rep_str.mp r'] at e';obtain ⟨t',rfl⟩:=e'
      exact RcNeAt.tuple_str b t' t hu0
    | tup es =>
      obtain ⟨b,us,rfl,q',rr'⟩:=rep_tup.mp r'
      cases e'
      obtain ⟨its2,av2,t2,_⟩:=I.tuple q'
      obtain ⟨m,rfl⟩:∃ m,n=m + 1:=⟨n - 1,by simp only [aL] at hd;omega⟩
      have hn:bB ds<=m:=by simp only [aL] at hd;omega
      have hn':bB es<=m:=by simp only [aL] at hd';omega
      have items:=je I hn hn' (show A.in1.units + m < cLine by show A.units + 1 + m < _;omega) rr rr' av av2
      have h:=RcNeAt.tuples (A:=A) t t2 hu0 items
      rw [List.size_toArray,List.size_toArray,<- av.length,<- av2.length,<- rr.length,<- rr'.length,cv] at h
      exact h
    | lst es =>
      obtain ⟨b,us,rfl,q',rr'⟩:=rep_lst.mp r'
      cases e'
      obtain ⟨its2,av2,t3,_⟩:=I.list q'
      have t2:=t3.isList
      exact RcNeAt.tuple_list t t2 hu0
    | exn c m =>
      simp only [aL] at hd';exact absurd hu (by omega)
  | lst ds =>
    obtain ⟨a,vs,rfl,q,rr⟩:=rep_lst.mp r
    cases e
    obtain ⟨its,av,t1,_⟩:=I.list q
    have t:=t1.isList
    cases d' with
    | non =>
      rw [rep_non.mp r'] at e';cases e'
      exact RcNeAt.list_none t hu0
    | bl b =>
      rw [rep_bl.mp r'] at e';cases e'
      exact RcNeAt.list_bool b t hu0
    | int b =>
      rw [rep_int.mp r'] at e';obtain ⟨t',rfl⟩:=e'
      exact RcNeAt.list_int b t' t hu0
    | str b =>
      rw [rep_str.mp r'] at e';obtain ⟨t',rfl⟩:=e'
      exact RcNeAt.list_str b t' t hu0
    | tup es =>
      obtain ⟨b,us,rfl,q',rr'⟩:=rep_tup.mp r'
      cases e'
      obtain ⟨its2,av2,t2,_⟩:=I.tuple q'
      exact RcNeAt.list_tuple t t2 hu0
    | lst es =>
      obtain ⟨b,us,rfl,q',rr'⟩:=rep_lst.mp r'
      cases e'
      obtain ⟨its2,av2,t3,_⟩:=I.list q'
      have t2:=t3.isList
      obtain ⟨m,rfl⟩:∃ m,n=m + 1:=⟨n - 1,by simp only [aL] at hd;omega⟩
      have hn:bB ds<=m:=by simp only [aL] at hd;omega
      have hn':bB es<=m:=by simp only [aL] at hd';omega
      have items:=je I hn hn' (show A.in1.units + m < cLine by show A.units + 1 + m < _;omega) rr rr' av av2
      by_cases hl:its.toArray.size=its2.toArray.size
      . have h:=RcNeAt.lists (A:=A) t t2 hl hu0 items
        rw [List.size_toArray,<- av.length,<- rr.length] at h
        have hl':ds.length=es.length:=by rw [rr.length,rr'.length,av.length,av2.length];simpa using hl
        have e1:=cv ds es
        rw [hl',Nat.min_self] at e1
        simp only [beq_self_eq_true,Bool.and_true] at e1
        rw [hl',e1] at h
        exact h
      . have h:=RcNeAt.lists_lengths (A:=A) t t2 (by simpa using hl) hu0
        have hl':ds.length≠es.length:=by rw [rr.length,rr'.length,av.length,av2.length];simpa using hl
        have e1:=cv ds es
        rw [show (ds.length == es.length)=false by simpa using hl',Bool.and_false] at e1
        rw [show cx (.lst ds) (.lst es)=false by rw [cx,<- e1]]
        exact h
    | exn c m =>
      simp only [aL] at hd';exact absurd hu (by omega)
  | exn c m =>
    simp only [aL] at hd;exact absurd hu (by omega)
end
end Vl
namespace Vl
open PySem PySem.Spec L2
def PostT (W:Wi) (σ:St) (G H:Hp) (r:Rs Bool) (Q:Bool->Hp->Prop):Prop :=
  match r with
  | .ok b=>∀ H' G',Ext G H G' H'->Q b H'
  | .ex c n=>∀ H' G',Ext G H G' H'->W c n σ H'
  | .no=>False
def tT (K:PySem.W.Frag) (B:Hp×Hp) (W:Wi) (f:ah->Rs Bool):TT:=fun σ H Q=>∃ ρ G,SR K B σ H ρ G/\PostT W σ G H (f ρ) Q
def ST (X:Cx) (B:Hp×Hp) (W:Wi) (e:Expr) (f:ah->Rs Bool):Prop:=PT X e (tT X.K B W f)
def SW (X:Cx) (B:Hp×Hp) (W:Wi) (e:Expr) (f:ah->Rs Bool):Prop:=PW X e (tT X.K B W f)
def xv (K:PySem.W.Frag) (W:Wi) (σ:St) (G H:Hp) (r:Rs (List D)) (Q:List V->Hp->Prop):Prop :=
  match r with
  | .ok ds=>∀ vs H' G',Ext G H G' H'->Reps K G' ds vs->Q vs H'
  | .ex c n=>∀ H' G',Ext G H G' H'->W c n σ H'
  | .no=>False
def Ah (K:PySem.W.Frag) (B:Hp×Hp) (W:Wi) (f:ah->Rs (List D)):TA:=fun σ H Q=>∃ ρ G,SR K B σ H ρ G/\xv K W σ G H (f ρ) Q
def SA (X:Cx) (B:Hp×Hp) (W:Wi) (es:List Expr) (f:ah->Rs (List D)):Prop:=PA X es (Ah X.K B W f)
theorem PW.imp {X:Cx} {e:Expr} {t t':TT} (h:PW X e t) (i:∀ σ H Q,t' σ H Q->t σ H Q):PW X e t':=fun wh pins s σ H Q I q=>h wh pins s σ H Q I (i σ H Q q)
def ln:D->Rs Bool
  | .bl b=>.ok b
  | _=>.no
def fT (f:ah->Rs D):ah->Rs Bool:=fun ρ=>(f ρ).bind ln
def gc (a b:ah->Rs Bool):ah->Rs Bool:=fun ρ=>(a ρ).bind fun x=>if x=true then b ρ else .ok false
def fy (a b:ah->Rs Bool):ah->Rs Bool:=fun ρ=>(a ρ).bind fun x=>if x=true then .ok true else b ρ
def jf (a:ah->Rs Bool):ah->Rs Bool:=fun ρ=>(a ρ).bind fun x=>.ok (!x)
def aa (a:ah->Rs D) (r:ah->Rs (List D)):ah->Rs (List D):=fun ρ=>(a ρ).bind fun x=>(r ρ).bind fun xs=>.ok (x::xs)
def aj:ah->Rs (List D):=fun _=>.ok []
def fA (a:ah->Rs (List D)) (g:List D->Rs D):ah->Rs D:=fun ρ=>(a ρ).bind g
section
variable {X:Cx} {K:PySem.W.Frag} {B:Hp×Hp} {W:Wi} {σ:St} {G H:Hp} {ρ:ah}
theorem PostT.ext {r:Rs Bool} {Q:Bool->Hp->Prop} {G' H':Hp} (e:Ext G H G' H') (h:PostT W σ G H r Q):PostT W σ G' H' r Q:=by
  cases r with
  | ok d=>exact fun H'' G'' e'=>h H'' G'' (e.trans e')
  | ex c n=>exact fun H'' G'' e'=>h H'' G'' (e.trans e')
  | no=>exact h
theorem xw {f:ah->Rs D} {Q:Bool->Hp->Prop} (h:tT K B W (fT f) σ H Q):tF K B W f σ H fun x H1=>∃ c,x=.bl c/\Q c H1:=by
  obtain ⟨ρ,G,s,p⟩:=h
  refine ⟨ρ,G,s,?_⟩
  unfold fT at p
  cases e:f ρ with
  | ok d =>
    rw [e] at p
    cases d with
    | bl b=>exact fun v H' G' e r=>⟨b,rep_bl.mp r,p H' G' e⟩
    | _=>exact p.elim
  | ex c n=>rw [e] at p;exact p
  | no=>rw [e] at p;exact p
theorem gC {e:Expr} {f:ah->Rs D} (h:SE X B W e f) (he:∀ whole,isTrue e X.env whole=(do let v <- whole;standAt e.pos;holding [v] (truthy v)):=by intro _;rfl):ST X B W e (fT f) :=
  PT.imp (zF h he) fun _ _ _ h=>xw h
theorem iN {a b:Expr} {op:CmpOp} {pos:Pos} {r:R2} {g:D->D->Rs D} {fa fb:ah->Rs D} (ho:OpR X (compareOp op) r) (hg:jJ X.K r g) (ha:SE X B W a fa) (hb:SE X B W b fb) (hm:behindInMarks op b=false) :
    ST X B W (.Compare a [op] [b] pos) (fT (ai g fa fb)):=by
  refine PT.imp (yb ho ha hb hm) fun σ H Q h=>?_
  exact lj hg (xw h)
theorem oE {a b:Expr} {op:CmpOp} {pos:Pos} {r:R2} {g:D->D->Rs D} {fa fb:ah->Rs D} (ho:OpR X (compareOp op) r) (hg:jJ X.K r g) (ha:SE X B W a fa) (hb:SE X B W b fb) (hm:behindInMarks op b=false) :
    SE X B W (.Compare a [op] [b] pos) (ai g fa fb):=PE.imp (ya ho ha hb hm) fun _ _ _ h=>lj hg h
theorem qY {a:Expr} {pos:Pos} {fa:ah->Rs Bool} (ha:ST X B W a fa):SW X B W (.BoolOp .And [a] pos) fa:=xU ha
theorem oF {a:Expr} {pos:Pos} {fa:ah->Rs Bool} (ha:ST X B W a fa):SW X B W (.BoolOp .Or [a] pos) fa:=zG ha
theorem tX {a b:Expr} {rest:List Expr} {pos:Pos} {fa fb:ah->Rs Bool} (ha:ST X B W a fa) (hb:SW X B W (.BoolOp .And (b::rest) pos) fb):SW X B W (.BoolOp .And (a::b::rest) pos) (gc fa fb):=by
  refine PW.imp (zH ha hb) fun σ H Q ⟨ρ,G,s,p⟩=>⟨ρ,G,s,?_⟩
  unfold gc at p
  cases e:fa ρ with
  | ok x =>
    rw [e] at p
    intro H' G' ee
    cases x with
    | true=>rw [if_pos rfl];exact ⟨ρ,G',s.ext ee,PostT.ext ee (show PostT W σ G H (fb ρ) Q from p)⟩
    | false=>rw [if_neg (by simp)];exact (show PostT W σ G H (.ok false) Q from p) H' G' ee
  | ex c n=>rw [e] at p;exact p
  | no=>rw [e] at p;exact p
theorem og {a b:Expr} {rest:List Expr} {pos:Pos} {fa fb:ah->Rs Bool} (ha:ST X B W a fa) (hb:SW X B W (.BoolOp .Or (b::rest) pos) fb):SW X B W (.BoolOp .Or (a::b::rest) pos) (fy fa fb):=by
  refine PW.imp (BG ha hb) fun σ H Q ⟨ρ,G,s,p⟩=>⟨ρ,G,s,?_⟩
  unfold fy at p
  cases e:fa ρ with
  | ok x =>
    rw [e] at p
    intro H' G' ee
    cases x with
    | true=>rw [if_pos rfl];exact (show PostT W σ G H (.ok true) Q from p) H' G' ee
    | false=>rw [if_neg (by simp)];exact ⟨ρ,G',s.ext ee,PostT.ext ee (show PostT W σ G H (fb ρ) Q from p)⟩
  | ex c n=>rw [e] at p;exact p
  | no=>rw [e] at p;exact p
theorem oG {e:Expr} {f:ah->Rs Bool} (h:SW X B W e f):ST X B W e f:=PW.pt h
theorem tY {a:Expr} {pos:Pos} {fa:ah->Rs Bool} (ha:ST X B W a fa):ST X B W (.UnaryOp .Not a pos) (jf fa):=by
  refine PT.imp (zI ha) fun σ H Q ⟨ρ,G,s,p⟩=>⟨ρ,G,s,?_⟩
  unfold jf at p
  cases e:fa ρ with
  | ok x=>rw [e] at p;exact p
  | ex c n=>rw [e] at p;exact p
  | no=>rw [e] at p;exact p
def eY (a b:ah->Rs D):ah->Rs D:=fun ρ=>(a ρ).bind fun x=>(ln x).bind fun c=>if c=true then b ρ else .ok (.bl false)
def vV (a b:ah->Rs D):ah->Rs D:=fun ρ=>(a ρ).bind fun x=>(ln x).bind fun c=>if c=true then .ok (.bl true) else b ρ
def lq (a:ah->Rs D):ah->Rs D:=fun ρ=>(a ρ).bind fun x=>(ln x).bind fun c=>.ok (.bl !c)
theorem oH {op} {a:Expr} {pos:Pos} {fa:ah->Rs D} (ha:SE X B W a fa):SE X B W (.BoolOp op [a] pos) fa:=zJ ha
theorem oI {a b:Expr} {rest:List Expr} {pos:Pos} {fa fb:ah->Rs D} (ha:SE X B W a fa) (hb:SE X B W (.BoolOp .And (b::rest) pos) fb):SE X B W (.BoolOp .And (a::b::rest) pos) (eY fa fb):=by
  refine PE.imp (zK ha hb) fun σ H Q h=>?_
  obtain ⟨ρ,G,s,p⟩:=gX (k:=fun ρ x=>(ln x).bind fun c=>if c=true then fb ρ else .ok (.bl false)) h
  refine ⟨ρ,G,s,p.mono fun v H1 ⟨ρ1,G1,d,s1,r,q⟩=>?_⟩
  cases d with
  | bl c =>
    refine ⟨c,rep_bl.mp r,?_⟩
    cases c with
    | true=>rw [if_pos rfl];exact ⟨ρ1,G1,s1,q⟩
    | false=>rw [if_neg (by simp)];exact Post.ok s1 q (rep_bl.mpr rfl)
  | _=>exact q.elim
theorem Ai {a:Expr} {pos:Pos} {fa:ah->Rs D} (ha:SE X B W a fa):SE X B W (.UnaryOp .Not a pos) (lq fa):=by
  refine PE.imp (zL ha) fun σ H Q h=>?_
  obtain ⟨ρ,G,s,p⟩:=gX (k:=fun ρ x=>(ln x).bind fun c=>.ok (.bl !c)) h
  refine ⟨ρ,G,s,p.mono fun v H1 ⟨ρ1,G1,d,s1,r,q⟩=>?_⟩
  cases d with
  | bl c=>exact ⟨c,rep_bl.mp r,Post.ok s1 q (rep_bl.mpr rfl)⟩
  | _=>exact q.elim
theorem aq:SA X B W [] aj:=PA.imp eA fun σ H Q ⟨ρ,G,s,p⟩=>p [] H G s.ext0 (reps_nil.mpr rfl)
theorem ae {e:Expr} {es:List Expr} {fe:ah->Rs D} {fs:ah->Rs (List D)} (ha:SE X B W e fe) (hr:SA X B W es fs) (hs:starEach (e::es) X.env=(false,eval e X.env)::starEach es X.env:=by rfl):SA X B W (e::es) (aa fe fs):=by
  refine PA.imp (cT ha hr hs) fun σ H Q ⟨ρ,G,s,p⟩=>⟨ρ,G,s,?_⟩
  unfold aa at p
  cases e1:fe ρ with
  | ok d =>
    rw [e1] at p
    intro v H1 G1 x1 r1
    refine ⟨ρ,G1,s.ext x1,?_⟩
    have p':xv X.K W σ G H ((fs ρ).bind fun xs=>.ok (d::xs)) Q:=p
    cases e2:fs ρ with
    | ok ds =>
      rw [e2] at p'
      intro vs H2 G2 x2 r2
      exact p' (v::vs) H2 G2 (x1.trans x2) (reps_cons.mpr ⟨v,vs,rfl,r1.mono x2.gg,r2⟩)
    | ex c n=>rw [e2] at p';exact fun H2 G2 x2=>p' H2 G2 (x1.trans x2)
    | no=>rw [e2] at p';exact p'
  | ex c n=>rw [e1] at p;exact p
  | no=>rw [e1] at p;exact p
def gp (K:PySem.W.Frag) (r:List V->Hp->VK->Prop) (g:List D->Rs D):Prop :=
  ∀ (B:Hp×Hp) (W:Wi) (σ:St) (ρ:ah) (G H:Hp) (ds:List D) (vs:List V) (Q:VK),SR K B σ H ρ G->Reps K G ds vs->Post K W σ G H (g ds) Q->r vs H Q
theorem oh {t:ah->Rs (List D)} {g:List D->Rs D} {r:List V->Hp->VK->Prop} {Q:VK} (hg:gp K r g) (h:tF K B W (fA t g) σ H Q):Ah K B W t σ H fun vs H1=>r vs H1 Q:=by
  obtain ⟨ρ,G,s,p⟩:=h
  refine ⟨ρ,G,s,?_⟩
  unfold fA at p
  cases e:t ρ with
  | ok ds=>rw [e] at p;exact fun vs H1 G1 x r=>hg B W σ ρ G1 H1 ds vs Q (s.ext x) r (Post.ext x p)
  | ex c n=>rw [e] at p;exact p
  | no=>rw [e] at p;exact p
def aS:List D->Rs D:=fun ds=>if ds.length<=1000 then .ok (.tup ds) else .no
def bE:List D->Rs D:=fun ds=>if ds.length<=1000 then .ok (.lst ds) else .no
theorem oJ {n:Nat} (h:n<=1000):n<=sizeLine:=Nat.le_of_lt (tU h)
theorem aW {es:List Expr} {x1} {pos:Pos} {f:ah->Rs (List D)} (h:SA X B W es f):SE X B W (.Tuple es x1 pos) (fA f aS):=by
  refine PE.imp (zX h) fun σ H Q q=>oh (r:=fun xs H1 Q=>xs.length<=sizeLine/\∀ p,H1 p=none->Q (.ref p) (bc H1 p (.tup xs))) ?_ q
  intro B W σ ρ G H ds vs Q s r p
  unfold aS at p
  by_cases hl:ds.length<=1000
  . rw [if_pos hl] at p
    refine ⟨by rw [<- r.length];exact oJ hl,fun a ha=>?_⟩
    have x:=kg (xs:=vs) s.en.gh s.en.tp ha
    exact p _ _ _ x (rep_tup.mpr ⟨a,vs,rfl,.of aO,r.mono x.gg⟩)
  . rw [if_neg hl] at p;exact p.elim
theorem cX {es:List Expr} {pos:Pos} {f:ah->Rs (List D)} (h:SA X B W es f):SE X B W (.List es pos) (fA f bE):=by
  refine PE.imp (tN h) fun σ H Q q=>oh (r:=fun xs H1 Q=>xs.length<=sizeLine/\∀ p,H1 p=none->Q (.ref p) (bc H1 p (.lst xs))) ?_ q
  intro B W σ ρ G H ds vs Q s r p
  unfold bE at p
  by_cases hl:ds.length<=1000
  . rw [if_pos hl] at p
    refine ⟨by rw [<- r.length];exact oJ hl,fun a ha=>?_⟩
    have x:=fq (xs:=vs) s.en.gh s.en.tp ha
    exact p _ _ _ x (rep_lst.mpr ⟨a,vs,rfl,.of aO,r.mono x.gg⟩)
  . rw [if_neg hl] at p;exact p.elim
def aA:D->D->Rs D
  | .tup ds,.int i=>match dh ds i with|some d=>.ok d|none=>.no
  | .lst ds,.int i=>match dh ds i with|some d=>.ok d|none=>.no
  | _,_=>.no
theorem oK {ds:List D} {vs:List V} {i:Int} {d:D} (r:Reps K G ds vs) (h:dh ds i=some d):∃ v,dh vs i=some v/\Rep K G d v:=by
  unfold dh at h ⊢
  rw [<- r.length]
  cases e:eB ds.length i with
  | none=>rw [e] at h;cases h
  | some j=>rw [e] at h;exact r.get (i:=j) h
theorem Aj:jJ K (CI K) aA:=by
  intro B W σ ρ G H x y v u Q s rx ry p
  cases y <;> first|(cases x <;> exact p.elim)|skip
  rename_i i
  cases x with
  | tup ds =>
    simp only [aA] at p
    obtain ⟨a,vs,rfl,q,rr⟩:=rep_tup.mp rx
    cases e:dh ds i with
    | none=>rw [e] at p;exact p.elim
    | some d =>
      rw [e] at p
      obtain ⟨w,e2,rw'⟩:=oK rr e
      exact .inr (.inl ⟨a,vs,i,w,rfl,rep_int.mp ry,Same.seqT s.en.gh q,e2,Post.ok s p rw'⟩)
  | lst ds =>
    simp only [aA] at p
    obtain ⟨a,vs,rfl,q,rr⟩:=rep_lst.mp rx
    cases e:dh ds i with
    | none=>rw [e] at p;exact p.elim
    | some d =>
      rw [e] at p
      obtain ⟨w,e2,rw'⟩:=oK rr e
      exact .inl ⟨a,vs,i,w,rfl,rep_int.mp ry,s.en.gh.seq q,e2,Post.ok s p rw'⟩
  | _=>exact p.elim
theorem aB {a b:Expr} {pos:Pos} {fa fb:ah->Rs D} (ha:SE X B W a fa) (hb:SE X B W b fb) (hs:qV b:=by intro _ _;rfl):SE X B W (.Subscript a b pos) (ai aA fa fb) :=
  PE.imp (BW Ac ha hb hs) fun _ _ _ h=>lj Aj h
instance (i j:Int):Decidable (CMul i j):=by unfold CMul;exact inferInstance
instance (i j:Int):Decidable (oz i j):=by unfold oz;exact inferInstance
def CDB (i j:Int):Prop:=0 < j/\j < 2 ^ 200
instance (i j:Int):Decidable (CDB i j):=by unfold CDB;exact inferInstance
theorem CDB.py {i j:Int} (h:CDB i j):Builtin.divisionGoesByPylong i j=false:=by
  refine PyProof.noPylong_of_log2 ?_
  have h1:j.natAbs < 2 ^ 200:=by
    have:=h.1;have:=h.2
    omega
  have h2:j.natAbs.log2 < 200:=(Nat.log2_lt (by have:=h.1;omega)).mpr h1
  omega
theorem vW:OpR X (binaryOp .FloorDiv) (rI CDB fun i j=>.int (i / j)):=xr fun i j _ _ _ _ _ hc q=>by
  have h1:=hc.1
  rw [<- Int.fdiv_eq_ediv_of_nonneg i (by omega)] at q
  exact PyProof.Rows.floordiv_int (by omega) q (.inl hc.py)
def gSub:=qX fun i j=>D.int (i - j)
def bm:=gI CMul fun i j=>D.int (i * j)
def fD:=gI CDB fun i j=>D.int (i / j)
instance (i j:Int):Decidable ((fun (_:Int) (j:Int)=>0 < j) i j):=inferInstanceAs (Decidable (0 < j))
def cf:=gI (fun _ j=>0 < j) fun i j=>D.int (i % j)
def bH:=gI oz fun i j=>D.int (i ^ j.toNat)
variable {a b:Expr} {pos:Pos} {fa fb:ah->Rs D}
theorem cy (ha:SE X B W a fa) (hb:SE X B W b fb):SE X B W (.BinOp a .Sub b pos) (ai gSub fa fb):=kh zR (lm fun _ _ _=>rep_int.mpr rfl) ha hb
theorem cz (ha:SE X B W a fa) (hb:SE X B W b fb):SE X B W (.BinOp a .Mult b pos) (ai bm fa fb):=kh zS (oa fun _ _ _=>rep_int.mpr rfl) ha hb
theorem jL (ha:SE X B W a fa) (hb:SE X B W b fb):SE X B W (.BinOp a .FloorDiv b pos) (ai fD fa fb):=kh vW (oa fun _ _ _=>rep_int.mpr rfl) ha hb
theorem eQ (ha:SE X B W a fa) (hb:SE X B W b fb):SE X B W (.BinOp a .Mod b pos) (ai cf fa fb):=kh zT (oa fun _ _ _=>rep_int.mpr rfl) ha hb
theorem bZ (ha:SE X B W a fa) (hb:SE X B W b fb):SE X B W (.BinOp a .Pow b pos) (ai bH fa fb):=kh zU (oa fun _ _ _=>rep_int.mpr rfl) ha hb
def se:D->Rs D
  | .int i=>.ok (.int (-i))
  | _=>.no
theorem Ak (ha:SE X B W a fa):SE X B W (.UnaryOp .USub a pos) (fun ρ=>(fa ρ).bind se):=by
  refine PE.imp (BP zV ha) fun σ H Q h=>?_
  obtain ⟨ρ,G,s,p⟩:=gX (k:=fun _=>se) h
  refine ⟨ρ,G,s,p.mono fun v H1 ⟨ρ1,G1,d,s1,r,q⟩=>?_⟩
  cases d with
  | int i=>exact ⟨i,rep_int.mp r,Post.ok s1 q (rep_int.mpr rfl)⟩
  | _=>exact q.elim
def aD:D->D->Rs D
  | .int i,.int j=>.ok (.int (i + j))
  | .lst a,.lst b=>if a.length + b.length<=1000000 then .ok (.lst (a++b)) else .no
  | _,_=>.no
theorem Al {n:Nat} (h:n<=1000000):n<=sizeLine:=Nat.le_trans h (by rw [sizeLine_eq];decide)
end
end Vl
namespace Vl
open PySem PySem.Spec L2
section
variable {X:Cx} {K:PySem.W.Frag} {B:Hp×Hp} {W:Wi} {σ:St} {G H:Hp} {ρ:ah} {a b:Expr} {pos:Pos} {fa fb:ah->Rs D}
def sf (K:PySem.W.Frag):R2:=fun x y H Q=>∃ l b xs zs,x=.ref l/\y=.ref b/\SqL K H l xs/\SqL K H b zs/\xs.length + zs.length<=sizeLine/\∀ p,H p=none->Q (.ref p) (bc H p (.lst (xs++zs)))
open PyProof.Rows in
theorem ym:OpR X (binaryOp .Add) (sf X.K):=by
  intro pins s σ H x y v u Q I rx ry h
  obtain ⟨l,b,xs,zs,rfl,rfl,hH,hB,hz,q⟩:=h
  cases rx
  cases ry
  obtain ⟨vs,r,pl,_⟩:=I.list hH
  obtain ⟨ws,r2,pl2,_⟩:=I.list hB
  obtain ⟨⟨cls,dd,data,sl⟩,ho,hc,n,hd⟩:=pl.isList
  obtain ⟨⟨cls2,dd2,data2,sl2⟩,ho2,hc2,n2,hd2⟩:=pl2.isList
  simp only at hc hd hc2 hd2
  subst hc hd hc2 hd2
  have e:vs.toArray++ws.toArray=(vs++ws).toArray:=by simp
  have l1:=r.length
  have l2:=r2.length
  refine concat_meets ⟨_,ho,rfl⟩ ⟨_,ho2,rfl⟩ noFill_list_add seq_list_add PySem.F.slot_list_add PySem.F.entry_list_add (PySem.F.args_list_add_2 _ _) (list_addW l b vs.toArray ws.toArray n n2 dd dd2 sl sl2 (by simp only [List.size_toArray];omega)) ⟨ho,ho2,?_⟩
  rw [e]
  exact ⟨.ref _,_,I.lnew (t':=s.toks) (r.append r2) (by rw [List.length_append];omega),rfl,q _ I.fresh⟩
theorem yn:OpR X (binaryOp .Add) (fun x y H Q=>kw (fun i j=>V.int (i + j)) x y H Q∨sf X.K x y H Q):=op_add.or ym
theorem vX:jJ K (fun x y H Q=>kw (fun i j=>V.int (i + j)) x y H Q∨sf K x y H Q) aD:=by
  intro B W σ ρ G H x y v u Q s rx ry p
  cases x with
  | int i =>
    cases y with
    | int j=>exact .inl ⟨i,j,rep_int.mp rx,rep_int.mp ry,Post.ok s p (rep_int.mpr rfl)⟩
    | _=>exact p.elim
  | lst ds =>
    cases y with
    | lst es =>
      simp only [aD] at p
      by_cases hl:ds.length + es.length<=1000000
      . rw [if_pos hl] at p
        obtain ⟨a,vs,rfl,q,r⟩:=rep_lst.mp rx
        obtain ⟨b,us,rfl,q',r'⟩:=rep_lst.mp ry
        refine .inr ⟨a,b,vs,us,rfl,rfl,s.en.gh.seq q,s.en.gh.seq q',by rw [<- r.length,<- r'.length];exact Al hl,fun c hc=>?_⟩
        have x:=fq (xs:=vs++us) s.en.gh s.en.tp hc
        exact p _ _ _ x (rep_lst.mpr ⟨c,vs++us,rfl,.of aO,(r.append r').mono x.gg⟩)
      . rw [if_neg hl] at p;exact p.elim
    | _=>exact p.elim
  | _=>cases y <;> exact p.elim
theorem aV (ha:SE X B W a fa) (hb:SE X B W b fb):SE X B W (.BinOp a .Add b pos) (ai aD fa fb):=kh yn vX ha hb
def xx:D->Rs Int
  | .int i=>.ok i
  | _=>.no
def ge (xs:List D) (lo hi:Option Int):List D:=(xs.drop (HT.sIx xs.length 0 lo)).take (HT.sIx xs.length xs.length hi - HT.sIx xs.length 0 lo)
theorem vY {ds:List D} {vs:List V} {lo hi:Option Int} (r:Reps K G ds vs):Reps K G (ge ds lo hi) (kF vs lo hi):=by
  unfold ge kF
  rw [r.length]
  exact (r.drop _).take _
def xy (lo hi:Option Int):D->Rs D
  | .lst ds=>.ok (.lst (ge ds lo hi))
  | _=>.no
def BZ (W:Wi) (σ:St) (G H:Hp) (r:Rs (Option Int)) (Q:Option Int->Hp->Prop):Prop :=
  match r with
  | .ok b=>∀ H' G',Ext G H G' H'->Q b H'
  | .ex c n=>∀ H' G',Ext G H G' H'->W c n σ H'
  | .no=>False
def tO (K:PySem.W.Frag) (B:Hp×Hp) (W:Wi) (f:ah->Rs (Option Int)):TO:=fun σ H Q=>∃ ρ G,SR K B σ H ρ G/\BZ W σ G H (f ρ) Q
def SO (X:Cx) (B:Hp×Hp) (W:Wi) (e:Option Expr) (f:ah->Rs (Option Int)):Prop:=PO X e (tO X.K B W f)
def bL:ah->Rs (Option Int):=fun _=>.ok none
def fP (f:ah->Rs D):ah->Rs (Option Int):=fun ρ=>(f ρ).bind fun d=>(xx d).bind fun i=>.ok (some i)
theorem PO.imp {e:Option Expr} {t t':TO} (h:PO X e t) (i:∀ σ H Q,t' σ H Q->t σ H Q):PO X e t':=fun pins s σ H Q I q=>h pins s σ H Q I (i σ H Q q)
theorem cU:SO X B W none bL:=PO.imp yf fun σ H Q ⟨ρ,G,s,p⟩=>p H G s.ext0
theorem cE {e:Expr} {f:ah->Rs D} (h:SE X B W e f):SO X B W (some e) (fP f):=by
  refine PO.imp (yg h) fun σ H Q ⟨ρ,G,s,p⟩=>⟨ρ,G,s,?_⟩
  unfold fP at p
  cases e1:f ρ with
  | ok d =>
    rw [e1] at p
    cases d with
    | int i=>exact fun w H' G' e r'=>⟨i,rep_int.mp r',p H' G' e⟩
    | _=>exact p.elim
  | ex c n=>rw [e1] at p;exact p
  | no=>rw [e1] at p;exact p
def cr (fe:ah->Rs D) (fl fh:ah->Rs (Option Int)):ah->Rs D:=fun ρ=>(fe ρ).bind fun x=>(fl ρ).bind fun l=>(fh ρ).bind fun h=>xy l h x
theorem Am {x:D} {v:V} {l h:Option Int} {Q:VK} (s:SR K B σ H ρ G) (r:Rep K G x v) (p:Post K W σ G H (xy l h x) Q):Ad K v l h H Q:=by
  cases x with
  | lst ds =>
    obtain ⟨a,vs,rfl,q,rr⟩:=rep_lst.mp r
    refine ⟨a,vs,rfl,s.en.gh.seq q,fun c hc=>?_⟩
    have x:=fq (xs:=kF vs l h) s.en.gh s.en.tp hc
    exact p _ _ _ x (rep_lst.mpr ⟨c,_,rfl,.of aO,(vY rr).mono x.gg⟩)
  | _=>exact p.elim
theorem cg {e:Expr} {lo hi:Option Expr} {p2:Pos} {fe:ah->Rs D} {fl fh:ah->Rs (Option Int)} (he:SE X B W e fe) (hl:SO X B W lo fl) (hh:SO X B W hi fh) :
    SE X B W (.Subscript e (.Slice lo hi none p2) pos) (cr fe fl fh):=by
  refine PE.imp (vM yh he hl hh) fun σ H Q h=>?_
  obtain ⟨ρ,G,s,p⟩:=gX (k:=fun ρ x=>(fl ρ).bind fun l=>(fh ρ).bind fun h=>xy l h x) h
  refine ⟨ρ,G,s,p.mono fun v H1 ⟨ρ1,G1,d,s1,r,q⟩=>⟨ρ1,G1,s1,?_⟩⟩
  cases e1:fl ρ1 with
  | ok l =>
    rw [e1] at q
    intro H2 G2 x2
    have q':Post X.K W σ G1 H1 ((fh ρ1).bind fun h=>xy l h d) Q:=q
    refine ⟨ρ1,G2,s1.ext x2,?_⟩
    cases e2:fh ρ1 with
    | ok h =>
      rw [e2] at q'
      exact fun H3 G3 x3=>Am ((s1.ext x2).ext x3) ((r.mono x2.gg).mono x3.gg) (Post.ext (x2.trans x3) q')
    | ex c n=>rw [e2] at q';exact fun H3 G3 x3=>q' H3 G3 (x2.trans x3)
    | no=>rw [e2] at q';exact q'
  | ex c n=>rw [e1] at q;exact q
  | no=>rw [e1] at q;exact q
variable {x:Str} {p:Pos} {e:Expr} {es:List Expr} {id T:String} {r:List V->Hp->VK->Prop} {g:List D->Rs D} {fs:ah->Rs (List D)}
theorem ig (hc:cW X (.builtin id) r) (hd:gp X.K r g) (hg:Gl X x) (hm:X.mg x=none) (hv:bootBuiltins x=some (.builtin id)) (ha:SA X B W (e::es) fs) (hn:x≠"__name__":=by decide) (hdb:(x == ("__debug__":Str))=false:=by decide)
    (he:starEach (e::es) X.env=(false,eval e X.env)::starEach es X.env:=by rfl) (hpl:(backTo pos (starEach es X.env)).any (·.1)=false:=by rfl):SE X B W (.Call (.Name x p) (e::es) [] pos) (fA fs g) :=
  PE.imp (fY hc hg hm hv ha hn hdb he hpl) fun _ _ _ h=>oh hd h
theorem mZ (hc:cW X (.type T) r) (hd:gp X.K r g) (hg:Gl X x) (hm:X.mg x=none) (hv:bootBuiltins x=some (.type T)) (ha:SA X B W (e::es) fs) (hn:x≠"__name__":=by decide) (hdb:(x == ("__debug__":Str))=false:=by decide)
    (he:starEach (e::es) X.env=(false,eval e X.env)::starEach es X.env:=by rfl) (hpl:(backTo pos (starEach es X.env)).any (·.1)=false:=by rfl):SE X B W (.Call (.Name x p) (e::es) [] pos) (fA fs g) :=
  PE.imp (jF hc hg hm hv ha hn hdb he hpl) fun _ _ _ h=>oh hd h
def bR:List D->Rs D
  | [.lst ds]=>.ok (.int ds.length)
  | [.tup ds]=>.ok (.int ds.length)
  | _=>.no
theorem An:gp K (fun xs H Q=>∃ p ys,xs=[.ref p]/\(SqL K H p ys∨SqT K H p ys)/\Q (.int ys.length) H) bR:=by
  intro B W σ ρ G H ds vs Q s r p
  match ds,p with
  | [.lst ds],p =>
    obtain ⟨v,vs',rfl,r1,r2⟩:=reps_cons.mp r
    obtain ⟨a,us,rfl,q,rr⟩:=rep_lst.mp r1
    rw [reps_nil.mp r2]
    refine ⟨a,us,rfl,.inl (s.en.gh.seq q),Post.ok s p ?_⟩
    rw [<- rr.length];exact rep_int.mpr rfl
  | [.tup ds],p =>
    obtain ⟨v,vs',rfl,r1,r2⟩:=reps_cons.mp r
    obtain ⟨a,us,rfl,q,rr⟩:=rep_tup.mp r1
    rw [reps_nil.mp r2]
    refine ⟨a,us,rfl,.inr (Same.seqT s.en.gh q),Post.ok s p ?_⟩
    rw [<- rr.length];exact rep_int.mpr rfl
  | [],p=>exact p.elim
  | [.non],p=>exact p.elim
  | [.bl _],p=>exact p.elim
  | [.int _],p=>exact p.elim
  | [.str _],p=>exact p.elim
  | [.exn _ _],p=>exact p.elim
  | _::_::_,p=>exact (by simp only [bR] at p;exact p.elim)
theorem dk (hm:X.mg "len"=none) (ha:SE X B W e fa) (hg:Gl X "len":=by rfl) (he:starEach [e] X.env=[(false,eval e X.env)]:=by rfl):SE X B W (.Call (.Name "len" p) [e] [] pos) (fA (aa fa aj) bR) :=
  ig oC An hg hm PySem.boot_len (ae ha aq he)  (by decide) (by decide) he rfl
def dG:List D->Rs D
  | [.lst ds]=>.ok (.tup ds)
  | [.tup ds]=>.ok (.tup ds)
  | _=>.no
theorem vZ:gp K (fun xs H Q=>∃ p ys,xs=[.ref p]/\((SqL K H p ys/\∀ l,H l=none->Q (.ref l) (bc H l (.tup ys)))∨(SqT K H p ys/\Q (.ref p) H))) dG:=by
  intro B W σ ρ G H ds vs Q s r p
  match ds,p with
  | [.lst ds],p =>
    obtain ⟨v,vs',rfl,r1,r2⟩:=reps_cons.mp r
    obtain ⟨a,us,rfl,q,rr⟩:=rep_lst.mp r1
    rw [reps_nil.mp r2]
    refine ⟨a,us,rfl,.inl ⟨s.en.gh.seq q,fun c hc=>?_⟩⟩
    have x:=kg (xs:=us) s.en.gh s.en.tp hc
    exact p _ _ _ x (rep_tup.mpr ⟨c,us,rfl,.of aO,rr.mono x.gg⟩)
  | [.tup ds],p =>
    obtain ⟨v,vs',rfl,r1,r2⟩:=reps_cons.mp r
    obtain ⟨a,us,rfl,q,rr⟩:=rep_tup.mp r1
    rw [reps_nil.mp r2]
    exact ⟨a,us,rfl,.inr ⟨Same.seqT s.en.gh q,Post.ok s p r1⟩⟩
  | [],p=>exact p.elim
  | [.non],p=>exact p.elim
  | [.bl _],p=>exact p.elim
  | [.int _],p=>exact p.elim
  | [.str _],p=>exact p.elim
  | [.exn _ _],p=>exact p.elim
  | _::_::_,p=>exact (by simp only [dG] at p;exact p.elim)
open PyProof.Rows in
theorem oM:cW X (.builtin "divmod") (fun xs H Q=>∃ i j,xs=[.int i,.int j]/\CDB i j/\∀ p,H p=none->Q (.ref p) (bc H p (.tup [.int (i / j),.int (i % j)]))):=by
  intro pins s σ H xs us Q I r h
  obtain ⟨i,j,rfl,hc,q⟩:=h
  have h1:=hc.1
  obtain ⟨u,w',rfl,⟨t,rfl⟩,⟨t',rfl⟩⟩:=nZ r
  refine divmod_int (by omega) ?_ (.inl hc.py)
  rw [Int.fdiv_eq_ediv_of_nonneg i (by omega),Int.fmod_eq_emod_of_nonneg i (by omega)]
  have hn:H s.heap.objs.size=none:=I.hok.fresh (Nat.le_refl _)
  refine ⟨.ref s.heap.objs.size,_,?_,rfl,q _ hn⟩
  refine I.laid (fun b o e=>Heap.get?_push_of_some _ e) (Nat.le_refl _) ⟨by simp only [List.length_cons,List.length_nil];rw [sizeLine_eq];decide,[.int (i / j) s.toks,.int (i % j) (s.toks + 1)],.cons ⟨_,rfl⟩ (.cons ⟨_,rfl⟩ .nil),?_⟩
  exact ⟨_,Heap.get?_push_size s.heap rfl,rfl,0,rfl⟩
def cO:List D->Rs D
  | [.int i,.int j]=>if CDB i j then .ok (.tup [.int (i / j),.int (i % j)]) else .no
  | _=>.no
theorem Ca:gp K (fun xs H Q=>∃ i j,xs=[.int i,.int j]/\CDB i j/\∀ p,H p=none->Q (.ref p) (bc H p (.tup [.int (i / j),.int (i % j)]))) cO:=by
  intro B W σ ρ G H ds vs Q s r p
  unfold cO at p
  split at p
  . rename_i i j
    obtain ⟨v,vs',rfl,r1,r2⟩:=reps_cons.mp r
    obtain ⟨v2,vs'',rfl,r3,r4⟩:=reps_cons.mp r2
    rw [rep_int.mp r1,rep_int.mp r3,reps_nil.mp r4]
    by_cases hc:CDB i j
    . rw [if_pos hc] at p
      refine ⟨i,j,rfl,hc,fun c hc=>?_⟩
      have x:=kg (xs:=[.int (i / j),.int (i % j)]) s.en.gh s.en.tp hc
      exact p _ _ _ x (rep_tup.mpr ⟨c,_,rfl,.of aO,reps_cons.mpr ⟨_,_,rfl,rep_int.mpr rfl,.one (rep_int.mpr rfl)⟩⟩)
    . rw [if_neg hc] at p;exact p.elim
  . exact p.elim
end
end Vl
namespace Vl
open PySem PySem.Spec L2
inductive Ou where
  | nx (ρ:ah)|rt (d:D)|bk (ρ:ah)|ct (ρ:ah)|ex (c:Str) (n:Int) (ρ:ah)|no
def PostS (K:PySem.W.Frag) (B:Hp×Hp) (W:Wi) (G:Hp) (o:Ou) (De:Ends):Prop :=
  match o with
  | .nx ρ'=>∀ σ' H' G',SR K B σ' H' ρ' G'->Same G G'->De.nx σ' H'
  | .bk ρ'=>∀ σ' H' G',SR K B σ' H' ρ' G'->Same G G'->De.bk σ' H'
  | .ct ρ'=>∀ σ' H' G',SR K B σ' H' ρ' G'->Same G G'->De.ct σ' H'
  | .rt d=>∀ v H' G',Ext B.1 B.2 G' H'->Same G G'->Rep K G' d v->De.rt v H'
  | .ex c n ρ'=>∀ σ' H' G',SR K B σ' H' ρ' G'->Same G G'->W c n σ' H'
  | .no=>False
def tS (K:PySem.W.Frag) (B:Hp×Hp) (W:Wi) (g:ah->Ou):TS:=fun De σ H=>∃ ρ G,SR K B σ H ρ G/\PostS K B W G (g ρ) De
def SS (X:Cx) (B:Hp×Hp) (W:Wi) (st:Stmt) (g:ah->Ou):Prop:=PS X st (tS X.K B W g)
def eC (X:Cx) (B:Hp×Hp) (W:Wi) (st:List Stmt) (g:ah->Ou):Prop:=PSs X st (tS X.K B W g)
def oN (o:Ou) (k:ah->Ou):Ou:=match o with
  | .nx ρ=>k ρ
  | o=>o
def oR {α:Type} (r:Rs α) (ρ:ah) (k:α->Ou):Ou:=match r with
  | .ok a=>k a
  | .ex c n=>.ex c n ρ
  | .no=>.no
section
variable {X:Cx} {K:PySem.W.Frag} {B:Hp×Hp} {W:Wi} {σ:St} {G G' H:Hp} {ρ:ah} {De De':Ends}
theorem PostS.same {o:Ou} (h:PostS K B W G o De) (e:Same G G'):PostS K B W G' o De:=by
  cases o with
  | nx ρ'=>exact fun σ' H' G'' s q=>h σ' H' G'' s (e.trans q)
  | bk ρ'=>exact fun σ' H' G'' s q=>h σ' H' G'' s (e.trans q)
  | ct ρ'=>exact fun σ' H' G'' s q=>h σ' H' G'' s (e.trans q)
  | rt d=>exact fun v H' G'' x q=>h v H' G'' x (e.trans q)
  | ex c n ρ'=>exact fun σ' H' G'' s q=>h σ' H' G'' s (e.trans q)
  | no=>exact h
theorem cN {r:Rs D} {k:D->Ou} {Q:VK} (s:SR K B σ H ρ G) (p:PostS K B W G (oR r ρ k) De) (h:∀ d v H' G',r=.ok d->Ext G H G' H'->Rep K G' d v->PostS K B W G' (k d) De->Q v H'):Post K W σ G H r Q:=by
  cases r with
  | ok d=>exact fun v H' G' e r=>h d v H' G' rfl e r (PostS.same p e.gg)
  | ex c n=>exact fun H' G' e=>p σ H' G' (s.ext e) e.gg
  | no=>exact p
theorem Ao:eC X B W [] .nx:=PSs.imp xV fun De σ H ⟨ρ,G,s,p⟩=>p σ H G s (.refl _)
theorem yo {st:Stmt} {rest:List Stmt} {g k:ah->Ou} (h1:SS X B W st g) (h2:eC X B W rest k):eC X B W (st::rest) (fun ρ=>oN (g ρ) k):=by
  refine PSs.imp (vF h1 h2) fun De σ H ⟨ρ,G,s,p⟩=>⟨ρ,G,s,?_⟩
  dsimp only at p
  cases e:g ρ with
  | nx ρ'=>rw [e] at p;exact fun σ' H' G' s' q=>⟨ρ',G',s',PostS.same (show PostS X.K B W G (k ρ') De from p) q⟩
  | bk ρ'=>rw [e] at p;exact p
  | ct ρ'=>rw [e] at p;exact p
  | rt d=>rw [e] at p;exact p
  | ex c n ρ'=>rw [e] at p;exact p
  | no=>rw [e] at p;exact p
theorem Aq {st:Stmt} {g:ah->Ou} (h1:SS X B W st g):eC X B W [st] g:=xW h1
theorem As {e:Expr} {pos} {f:ah->Rs D} (h:SE X B W e f):SS X B W (.Return (some e) pos) (fun ρ=>oR (f ρ) ρ .rt) :=
  PS.imp (zM h) fun De σ H ⟨ρ,G,s,p⟩=>⟨ρ,G,s,cN s p fun d v H' G' _ e r q=>q v H' G' (s.en.trans e) (.refl _) r⟩
theorem Cb {c:Expr} {a b:List Stmt} {pos:Pos} {fc:ah->Rs Bool} {ga gb:ah->Ou} (hc:ST X B W c fc) (ha:eC X B W a ga) (hb:eC X B W b gb):SS X B W (.If c a b pos) (fun ρ=>oR (fc ρ) ρ fun x=>if x=true then ga ρ else gb ρ):=by
  refine PS.imp (BL hc ha hb) fun De σ H ⟨ρ,G,s,p⟩=>⟨ρ,G,s,?_⟩
  dsimp only at p
  cases e:fc ρ with
  | ok x =>
    rw [e] at p
    intro H' G' ee
    have p':PostS X.K B W G (if x=true then ga ρ else gb ρ) De:=p
    cases x with
    | true=>rw [if_pos rfl] at p' ⊢;exact ⟨ρ,G',s.ext ee,p'.same ee.gg⟩
    | false=>rw [if_neg (by simp)] at p' ⊢;exact ⟨ρ,G',s.ext ee,p'.same ee.gg⟩
  | ex c n=>rw [e] at p;exact fun H' G' ee=>p σ H' G' (s.ext ee) ee.gg
  | no=>rw [e] at p;exact p
abbrev Tg:=D->ah->Option ah
def tG (K:PySem.W.Frag) (B:Hp×Hp) (h:Tg):TG:=fun v σ H Q=>∃ ρ G d,SR K B σ H ρ G/\Rep K G d v/\∃ ρ',h d ρ=some ρ'/\∀ σ',SR K B σ' H ρ' G->Q σ' H
def Dq (K:PySem.W.Frag) (B:Hp×Hp) (h:List D->ah->Option ah):kZ:=fun vs σ H Q=>∃ ρ G ds,SR K B σ H ρ G/\Reps K G ds vs/\∃ ρ',h ds ρ=some ρ'/\∀ σ',SR K B σ' H ρ' G->Q σ' H
def SG (X:Cx) (B:Hp×Hp) (tg:Expr) (h:Tg):Prop:=PG X tg (tG X.K B h)
def xz (X:Cx) (B:Hp×Hp) (tg:List Expr) (h:List D->ah->Option ah):Prop:=PGs X tg (Dq X.K B h)
theorem PG.imp {e:Expr} {t t':TG} (h:PG X e t) (i:∀ v σ H Q,t' v σ H Q->t v σ H Q):PG X e t':=fun pins s σ H v u Q I r q=>h pins s σ H v u Q I r (i v σ H Q q)
theorem PGs.imp {e:List Expr} {t t':kZ} (h:PGs X e t) (i:∀ v σ H Q,t' v σ H Q->t v σ H Q):PGs X e t':=fun pins s σ H v u Q I r q=>h pins s σ H v u Q I r (i v σ H Q q)
def ar (i:Nat):Tg:=fun d ρ=>some (ρ.set i (.fz d))
def bz:List D->ah->Option ah:=fun ds ρ=>match ds with|[]=>some ρ|_=>none
def aE (h:Tg) (k:List D->ah->Option ah):List D->ah->Option ah:=fun ds ρ=>match ds with|d::ds=>(h d ρ).bind (k ds)|[]=>none
def bv (n:Nat) (k:List D->ah->Option ah):Tg:=fun d ρ=>match d with|.tup ds=>if ds.length=n then k ds ρ else none|_=>none
theorem yp {i:Nat} {x:Str} {pos:Pos} (hN:X.N.Nodup) (hi:X.N[i]?=some x) (hx:gP X.env.scope x) (hf:X.fn x=true∨X.env.scope.names.lookup x=some .local:=by first|exact .inl rfl|exact .inr rfl|assumption):SG X B (.Name x pos) (ar i) :=
  PG.imp (xX hN hi hx hf) fun v σ H Q ⟨ρ,G,d,s,r,ρ',e,q⟩=>by
    cases e
    exact q _ (s.set r)
theorem ba:xz X B [] bz:=PGs.imp xY fun v σ H Q ⟨ρ,G,ds,s,r,ρ',e,q⟩=>by
  cases ds with
  | nil=>cases e;exact ⟨reps_nil.mp r,q _ s⟩
  | cons d ds=>cases e
theorem ay {e:Expr} {es:List Expr} {h:Tg} {k:List D->ah->Option ah} (h1:SG X B e h) (h2:xz X B es k) (hs:(assignEach (e::es) X.env).map (·.2)=assign e X.env::(assignEach es X.env).map (·.2):=by rfl):xz X B (e::es) (aE h k) :=
  PGs.imp (vH h1 h2 hs) fun v σ H Q ⟨ρ,G,ds,s,r,ρ',e,q⟩=>by
    cases ds with
    | nil=>cases e
    | cons d ds =>
      obtain ⟨w,ws,rfl,r1,r2⟩:=reps_cons.mp r
      unfold aE at e
      dsimp only at e
      cases e1:h d ρ with
      | none=>rw [e1] at e;cases e
      | some ρ1 =>
        rw [e1] at e
        exact ⟨w,ws,rfl,ρ,G,d,s,r1,ρ1,e1,fun σ1 s1=>⟨ρ1,G,ds,s1,r2,ρ',e,q⟩⟩
theorem bg {es:List Expr} {k:Nat} {pos:Pos} {n:Nat} {h:List D->ah->Option ah} (hc:X.calm=true) (hh:xz X B es h)
    (hn:(assignEach es X.env).length=n:=by rfl) (hst:(assignEach es X.env).findIdx? (·.1)=none:=by rfl):SG X B (.Tuple es k pos) (bv n h) :=
  PG.imp (zN hc hh hn hst) fun v σ H Q ⟨ρ,G,d,s,r,ρ',e,q⟩=>by
    cases d with
    | tup ds =>
      unfold bv at e
      dsimp only at e
      by_cases hl:ds.length=n
      . simp only [if_pos hl] at e
        obtain ⟨a,vs,rfl,q1,rr⟩:=rep_tup.mp r
        exact ⟨a,vs,rfl,Same.seqT s.en.gh q1,by rw [<- rr.length];exact hl,ρ,G,ds,s,rr,ρ',e,q⟩
      . simp only [if_neg hl] at e;cases e
    | _=>cases e
def oO (o:Option ah):Ou:=match o with|some ρ=>.nx ρ|none=>.no
theorem At {tg e:Expr} {pos:Pos} {f:ah->Rs D} {h:Tg} (he:SE X B W e f) (hg:SG X B tg h) (hs:swapsWithSole [tg] e pos.line X.env=pure false:=by rfl) (hw:swappedStores [tg] e X.env=pure none:=by rfl)
    (h1:(assignEach [tg] X.env).map (·.2)=[assign tg X.env]:=by rfl):SS X B W (.Assign [tg] e pos) (fun ρ=>oR (f ρ) ρ fun d=>oO (h d ρ)) :=
  PS.imp (oy he hg hs hw h1) fun De σ H ⟨ρ,G,s,p⟩=>⟨ρ,G,s,cN s p fun d v H' G' _ e r q=>by
    cases e1:h d ρ with
    | none=>rw [e1] at q;exact q.elim
    | some ρ'=>rw [e1] at q;exact ⟨ρ,G',d,s.ext e,r,ρ',e1,fun σ' s'=>q σ' H' G' s' (.refl _)⟩⟩
theorem Au {i:Nat} {x:Str} {e:Expr} {pos pos':Pos} {f:ah->Rs D} (hN:X.N.Nodup) (hi:X.N[i]?=some x) (hx:gP X.env.scope x) (he:SE X B W e f) (hs:swapsWith e (some (.Name x pos')) pos.line X.env=pure false:=by rfl) (hf:X.fn x=true∨X.env.scope.names.lookup x=some .local:=by first|exact .inl rfl|exact .inr rfl|assumption) :
    SS X B W (.Assign [.Name x pos'] e pos) (fun ρ=>oR (f ρ) ρ fun d=>.nx (ρ.set i (.fz d))) :=
  PS.imp (lc hN hi hx he hs hf) fun De σ H ⟨ρ,G,s,p⟩=>⟨ρ,G,s,cN s p fun d v H' G' _ e r q=>q _ H' G' ((s.ext e).set r) (.refl _)⟩
theorem SR.setOwn (h:SR K B σ H ρ G) {i:Nat} {z:Sl} {o:HO} {p:Addr} (w:z.own=true) (r:OwnAt K G p z o) (hp:H p=none):SR K B (σ.set i (some (.ref p))) (bc H p o) (ρ.set i z) G:=by
  have x:=yj (o:=o) h.en.gh h.en.tp (fun xs e=>by subst e;exact r.tup) hp
  have h':=h.ext x
  have at_i:∀ {j:Nat} {y:Sl},(ρ.set i z)[j]?=some y->(i=j/\y=z/\i < ρ.length)∨(i≠j/\ρ[j]?=some y):=fun {j y} q=>by
    by_cases e:i=j
    . subst e
      have hl:i < ρ.length:=by
        have:=(List.getElem?_eq_some_iff.mp q).1;simpa using this
      rw [List.getElem?_set_self hl] at q
      cases q
      exact .inl ⟨rfl,rfl,hl⟩
    . rw [List.getElem?_set_ne e] at q
      exact .inr ⟨e,q⟩
  refine ⟨h'.en,by simp [h.len],fun j d q=>?_,fun j y q wy=>?_,fun j k y y' a q1 w1 q2 w2 q3 q4=>?_⟩
  . rcases at_i q with ⟨_,e,_⟩|⟨e,q⟩
    . rw [<- e] at w;cases w
    . rw [List.getElem?_set_ne e];exact h'.fz j d q
  . rcases at_i q with ⟨e,e2,hl⟩|⟨e,q⟩
    . subst e;subst e2
      exact ⟨p,o,List.getElem?_set_self (by rw [<- h.len];exact hl),aO,h.en.gh.free hp,h.en.hh.free hp,r⟩
    . rw [List.getElem?_set_ne e];exact h'.own j y q wy
  . have fresh:∀ {l:Nat} {y:Sl},ρ[l]?=some y->y.own=true->σ[l]?≠some (some (.ref p)):=fun {l y} q wy z=>by
      obtain ⟨a,vs',h1,h2,_⟩:=h.own l y q wy
      rw [h1] at z
      have:a=p:=by injection z with z;injection z with z;injection z
      rw [this,hp] at h2;cases h2
    rcases at_i q1 with ⟨e1,_,l1⟩|⟨n1,z1⟩
    . rcases at_i q2 with ⟨e2,_⟩|⟨n2,z2⟩
      . exact e1.symm.trans e2
      . subst e1
        rw [List.getElem?_set_self (by rw [<- h.len];exact l1)] at q3
        have:a=p:=by injection q3 with z;injection z with z;injection z with z;exact z.symm
        subst this
        rw [List.getElem?_set_ne n2] at q4
        exact (fresh z2 w2 q4).elim
    . rcases at_i q2 with ⟨e2,_,l2⟩|⟨n2,z2⟩
      . subst e2
        rw [List.getElem?_set_self (by rw [<- h.len];exact l2)] at q4
        have:a=p:=by injection q4 with z;injection z with z;injection z with z;exact z.symm
        subst this
        rw [List.getElem?_set_ne n1] at q3
        exact (fresh z1 w1 q3).elim
      . rw [List.getElem?_set_ne n1] at q3
        rw [List.getElem?_set_ne n2] at q4
        exact h.ap j k y y' a z1 w1 z2 w2 q3 q4
theorem SR.setOw (h:SR K B σ H ρ G) {i:Nat} {ds:List D} {vs:List V} {p:Addr} (r:Reps K G ds vs) (hp:H p=none):SR K B (σ.set i (some (.ref p))) (bc H p (.lst vs)) (ρ.set i (.ow ds)) G:=h.setOwn rfl ⟨vs,rfl,r⟩ hp
theorem SR.writeOwn (h:SR K B σ H ρ G) {i:Nat} {y z:Sl} {o:HO} {a:Addr} (q:ρ[i]?=some y) (wy:y.own=true) (ha:σ[i]?=some (some (.ref a))) (wz:z.own=true) (r:OwnAt K G a z o):SR K B σ (bc H a o) (ρ.set i z) G:=by
  obtain ⟨a',o0,e1,h2,h3,h4,h5⟩:=h.own i y q wy
  have ea:a'=a:=by rw [e1] at ha;injection ha with z;injection z with z;injection z
  subst ea
  have hl:i < ρ.length:=(List.getElem?_eq_some_iff.mp q).1
  have at_i:∀ {j:Nat} {x:Sl},(ρ.set i z)[j]?=some x->(i=j/\x=z)∨(i≠j/\ρ[j]?=some x):=fun {j x} q=>by
    by_cases e:i=j
    . subst e
      rw [List.getElem?_set_self hl] at q
      cases q
      exact .inl ⟨rfl,rfl⟩
    . rw [List.getElem?_set_ne e] at q
      exact .inr ⟨e,q⟩
  have ne:∀ b o,G b=some o->b≠a':=fun b o z w=>by rw [w,h3] at z;cases z
  refine ⟨⟨h.en.gg,fun b o z=>?_,fun b o z=>?_,fun b xs z=>?_,h.en.nw⟩,by simp [h.len],fun j d z'=>?_,fun j x z' wx=>?_,fun j k x x' c z1 w1 z2 w2 z3 z4=>?_⟩
  . rw [aI (aR z h4)];exact h.en.hh b o z
  . rw [aI (ne b o z)];exact h.en.gh b o z
  . by_cases w:b=a'
    . subst w;rw [aO] at z;cases z;exact r.tup.elim
    . rw [aI w] at z;exact h.en.tp b xs z
  . rcases at_i z' with ⟨_,e⟩|⟨_,z'⟩
    . rw [<- e] at wz;cases wz
    . exact h.fz j d z'
  . rcases at_i z' with ⟨e,e2⟩|⟨e,z'⟩
    . subst e;subst e2
      exact ⟨a',o,ha,aO,h3,h4,r⟩
    . obtain ⟨b,us,w1,w2,w3,w4,w5⟩:=h.own j x z' wx
      have hne:b≠a':=fun w=>by subst w;exact e (h.ap i j y x b q wy z' wx ha w1)
      exact ⟨b,us,w1,by rw [aI hne];exact w2,w3,w4,w5⟩
  . rcases at_i z1 with ⟨e1,_⟩|⟨_,z1⟩ <;> rcases at_i z2 with ⟨e2,_⟩|⟨_,z2⟩
    . exact e1.symm.trans e2
    . subst e1;exact h.ap i k y x' c q wy z2 w2 z3 z4
    . subst e2;exact h.ap j i x y c z1 w1 q wy z3 z4
    . exact h.ap j k x x' c z1 w1 z2 w2 z3 z4
theorem SR.write (h:SR K B σ H ρ G) {i:Nat} {ds es:List D} {vs:List V} {a:Addr} (q:ρ[i]?=some (.ow ds)) (ha:σ[i]?=some (some (.ref a))) (r:Reps K G es vs):SR K B σ (bc H a (.lst vs)) (ρ.set i (.ow es)) G:=h.writeOwn q rfl ha rfl ⟨vs,rfl,r⟩
def frz (i:Nat) (ρ:ah):ah:=match ρ[i]? with|some (.ow ds)=>ρ.set i (.fz (.lst ds))|_=>ρ
theorem SR.frz (h:SR K B σ H ρ G) (i:Nat):∃ G',Same G G'/\SR K B σ H (frz i ρ) G':=by
  unfold Vl.frz
  split
  . rename_i ds q
    obtain ⟨a,vs,e1,h2,h3,h4,h5⟩:=h.ow i ds q
    have hl:i < ρ.length:=(List.getElem?_eq_some_iff.mp q).1
    have gg:Same G (bc G a (.lst vs)):=fun b o z=>by rw [aI (aR z h3)];exact z
    refine ⟨bc G a (.lst vs),gg,⟨h.en.gg.trans gg,h.en.hh,fun b o z=>?_,fun b xs z=>?_,fun b o z w=>?_⟩,by simp [h.len],fun j d z=>?_,fun j fs z wz=>?_,fun j k fs gs c z1 w1 z2 w2 z3 z4=>?_⟩
    . by_cases w:b=a
      . subst w;rw [aO] at z;cases z;exact h2
      . rw [aI w] at z;exact h.en.gh b o z
    . by_cases w:b=a
      . subst w;rw [h2] at z;cases z
      . rw [aI w];exact h.en.tp b xs z
    . rw [aI (aR z h4)];exact h.en.nw b o z w
    . by_cases e:i=j
      . subst e
        rw [List.getElem?_set_self hl] at z
        cases z
        exact ⟨_,e1,rep_lst.mpr ⟨a,vs,rfl,.of aO,h5.mono gg⟩⟩
      . rw [List.getElem?_set_ne e] at z
        obtain ⟨v,w1,w2⟩:=h.fz j d z
        exact ⟨v,w1,w2.mono gg⟩
    . by_cases e:i=j
      . subst e;rw [List.getElem?_set_self hl] at z;cases z;cases wz
      . rw [List.getElem?_set_ne e] at z
        obtain ⟨b,us,w1,w2,w3,w4,w5⟩:=h.own j fs z wz
        have hne:b≠a:=fun w=>by subst w;exact e (h.ap i j _ fs b q rfl z wz e1 w1)
        exact ⟨b,us,w1,w2,by rw [aI hne];exact w3,w4,w5.mono gg⟩
    . have nj:i≠j:=fun e=>by subst e;rw [List.getElem?_set_self hl] at z1;cases z1;cases w1
      have nk:i≠k:=fun e=>by subst e;rw [List.getElem?_set_self hl] at z2;cases z2;cases w2
      rw [List.getElem?_set_ne nj] at z1
      rw [List.getElem?_set_ne nk] at z2
      exact h.ap j k fs gs c z1 w1 z2 w2 z3 z4
  . exact ⟨G,.refl _,h⟩
theorem yq {st:List Stmt} {g:ah->Ou} (i:Nat) (h:eC X B W st g):eC X B W st (fun ρ=>g (frz i ρ)) :=
  PSs.imp h fun De σ H ⟨ρ,G,s,p⟩=>let ⟨G',gg,s'⟩:=s.frz i;⟨_,G',s',PostS.same p gg⟩
theorem Av {i:Nat} {x:Str} {es:List Expr} {pos pos' lp:Pos} {f:ah->Rs (List D)} (hN:X.N.Nodup) (hi:X.N[i]?=some x) (hx:gP X.env.scope x) (he:SA X B W es f) (hs:swapsWith (.List es lp) (some (.Name x pos')) pos.line X.env=pure false:=by rfl) (hf:X.fn x=true∨X.env.scope.names.lookup x=some .local:=by first|exact .inl rfl|exact .inr rfl|assumption) :
    SS X B W (.Assign [.Name x pos'] (.List es lp) pos) (fun ρ=>oR (f ρ) ρ fun ds=>if ds.length<=1000 then .nx (ρ.set i (.ow ds)) else .no):=by
  refine PS.imp (lc hN hi hx (tN he) hs hf) fun De σ H ⟨ρ,G,s,p⟩=>⟨ρ,G,s,?_⟩
  dsimp only at p
  cases e:f ρ with
  | ok ds =>
    rw [e] at p
    have p':PostS X.K B W G (if ds.length<=1000 then .nx (ρ.set i (.ow ds)) else .no) De:=p
    by_cases hl:ds.length<=1000
    . rw [if_pos hl] at p'
      exact fun vs H' G' x r=>⟨by rw [<- r.length];exact oJ hl,fun c hc=>p' _ _ G' ((s.ext x).setOw r hc) x.gg⟩
    . rw [if_neg hl] at p';exact p'.elim
  | ex c n=>rw [e] at p;exact fun H' G' x=>p σ H' G' (s.ext x) x.gg
  | no=>rw [e] at p;exact p
theorem tZ {i:Nat} {x:Str} {e:Expr} {pos p1 p2 cp:Pos} {f:ah->Rs D} (hv:PE X (.Name x p1) (ms i)) (he:SE X B W e f)
    (hst:starEach [e] X.env=[(false,eval e X.env)]) {pe:PE X (.Call (.Attribute (.Name x p1) "append" p2) [e] [] cp) (CK X.K "list" qW (ms i) (xt (tF X.K B W f) zW))}
    (hs:swapsWith (.Call (.Attribute (.Name x p1) "append" p2) [e] [] cp) none pos.line X.env=pure false:=by rfl) :
    SS X B W (.Expr (.Call (.Attribute (.Name x p1) "append" p2) [e] [] cp) pos) (fun ρ=>match ρ[i]? with|some (.ow ds)=>oR (f ρ) ρ fun d=>if ds.length < 1000000 then .nx (ρ.set i (.ow (ds++[d]))) else .no|_=>.no):=by
  refine PS.imp (qR pe hs) fun De σ H ⟨ρ,G,s,p⟩=>?_
  dsimp only at p
  cases q:ρ[i]? with
  | none=>rw [q] at p;exact p.elim
  | some z =>
    rw [q] at p
    cases z with
    | no=>exact p.elim
    | fz d=>exact p.elim
    | od _=>exact p.elim
    | ow ds =>
      obtain ⟨a,vs,e1,h2,h3,h4,h5⟩:=s.ow i ds q
      refine ⟨_,e1,.inl ⟨rfl,vs,.of h2⟩,ρ,G,s,cN s p fun d v H' G' _ x r p'=>?_⟩
      by_cases hl:ds.length < 1000000
      . rw [if_pos hl] at p'
        have s':=s.ext x
        refine ⟨a,vs,v,rfl,rfl,x.hh _ _ h2,by rw [<- h5.length];exact Nat.lt_of_lt_of_le hl (by rw [sizeLine_eq];decide),?_⟩
        exact p' σ _ G' (s'.write q e1 ((h5.mono x.gg).append (.one r))) (.refl _)
      . rw [if_neg hl] at p';exact p'.elim
end
end Vl
namespace Vl
open PySem PySem.Spec L2
def bp (h:Tg) (gb:ah->Ou):List D->ah->Ou
  | [],ρ=>.nx ρ
  | d::ds,ρ=>match h d ρ with
    | none=>.no
    | some ρ1=>match gb ρ1 with
      | .nx ρ2=>bp h gb ds ρ2
      | .ct ρ2=>bp h gb ds ρ2
      | .bk ρ2=>.nx ρ2
      | o=>o
def WF:Wi:=fun _ _ _ _=>False
section
variable {X:Cx} {K:PySem.W.Frag} {B:Hp×Hp} {W:Wi} {σ:St} {G G' H:Hp} {ρ:ah} {De De':Ends}
theorem jg {h:Tg} {gb:ah->Ou} {d:D} {ds:List D} {v:V} {Pv:St->Hp->Prop} (s:SR K B σ H ρ G) (r:Rep K G d v) (p:PostS K B W G (bp h gb (d::ds) ρ) De)
    (hP:∀ σ' H' ρ' G',SR K B σ' H' ρ' G'->Same G G'->PostS K B W G' (bp h gb ds ρ') De->Pv σ' H') :
    tG K B h v σ H fun σ2 H2=>tS K B W gb { De with nx:=Pv,ct:=Pv,bk:=De.nx } σ2 H2:=by
  unfold bp at p
  cases e:h d ρ with
  | none=>rw [e] at p;exact p.elim
  | some ρ1 =>
    rw [e] at p
    refine ⟨ρ,G,d,s,r,ρ1,e,fun σ1 s1=>⟨ρ1,G,s1,?_⟩⟩
    dsimp only at p
    cases e2:gb ρ1 with
    | nx ρ2=>rw [e2] at p;exact fun σ' H' G' s' q=>hP σ' H' ρ2 G' s' q (PostS.same p q)
    | ct ρ2=>rw [e2] at p;exact fun σ' H' G' s' q=>hP σ' H' ρ2 G' s' q (PostS.same p q)
    | bk ρ2=>rw [e2] at p;exact p
    | rt d=>rw [e2] at p;exact p
    | ex c n ρ2=>rw [e2] at p;exact p
    | no=>rw [e2] at p;exact p
def lr (h:Tg) (gb:ah->Ou) (f:ah->Rs D):ah->Ou:=fun ρ=>oR (f ρ) ρ fun d=>match d with|.lst ds=>bp h gb ds ρ|_=>.no
def lu (h:Tg) (gb:ah->Ou) (f:ah->Rs D):ah->Ou:=fun ρ=>oR (f ρ) ρ fun d=>match d with|.tup ds=>bp h gb ds ρ|_=>.no
def fE (h:Tg) (gb:ah->Ou) (f:ah->Rs D):ah->Ou:=fun ρ=>oR (f ρ) ρ fun d=>match d with|.int n=>if -(2 ^ 62)<=n/\n < 2 ^ 62 then bp h gb ((List.range n.toNat).map fun (i:Nat)=>.int i) ρ else .no|_=>.no
theorem qZ {tg iter:Expr} {body:List Stmt} {pos:Pos} {f:ah->Rs D} {h:Tg} {gb:ah->Ou} (hp:PassesOwn (model X.prog X.w) X.A X.env X.xe) (hc:X.calm=true) (hi:SE X B W iter f) (hg:SG X B tg h) (hb:eC X B W body gb)
    (hs:∀ x,foldedSetIterable iter X.env x=pure x:=by intro _;rfl):SS X B W (.For tg iter body [] pos) (lr h gb f):=by
  refine PS.imp (lg hp hc (qT hi) hg hb hs) fun De σ H ⟨ρ,G,s,p⟩=>?_
  refine ⟨ρ,G,s,cN s p fun d v H1 G1 _ e r p1=>?_⟩
  cases d with
  | lst ds =>
    obtain ⟨a,vs,rfl,q,rr⟩:=rep_lst.mp r
    refine ⟨a,rfl,⟨vs,e.gh.seq q⟩,vJ (fun i σ H=>∃ ρ G,SR X.K B σ H ρ G/\SqL X.K G a vs/\Reps X.K G ds vs/\PostS X.K B W G (bp h gb (ds.drop i) ρ) De) ⟨ρ,G1,s.ext e,q,rr,by simpa using p1⟩ (fun i σ H _ ⟨ρ,G,s,q,_⟩=>s.en.gh.seq q) ?_ ?_⟩
    . rintro i x σ2 H2 hx ⟨ρ2,G2,s2,q2,r2,p2⟩
      obtain ⟨d,hd,rd⟩:=r2.get' hx
      have hl:=(List.getElem?_eq_some_iff.mp hd).1
      rw [List.drop_eq_getElem_cons hl,(List.getElem?_eq_some_iff.mp hd).2] at p2
      exact jg s2 rd p2 fun σ' H' ρ' G' s' q' p'=>⟨ρ',G',s',q'.seq q2,r2.mono q',p'⟩
    . rintro σ2 H2 ⟨ρ2,G2,s2,q2,r2,p2⟩
      rw [<- r2.length,List.drop_length] at p2
      exact p2 σ2 H2 G2 s2 (.refl _)
  | _=>exact p1.elim
theorem rc {tg iter:Expr} {body:List Stmt} {pos:Pos} {f:ah->Rs D} {h:Tg} {gb:ah->Ou} (hp:PassesOwn (model X.prog X.w) X.A X.env X.xe) (hc:X.calm=true) (hi:SE X B W iter f) (hg:SG X B tg h) (hb:eC X B W body gb)
    (hs:∀ x,foldedSetIterable iter X.env x=pure x:=by intro _;rfl):SS X B W (.For tg iter body [] pos) (lu h gb f):=by
  refine PS.imp (lg hp hc (tz hi) hg hb hs) fun De σ H ⟨ρ,G,s,p⟩=>?_
  refine ⟨ρ,G,s,cN s p fun d v H1 G1 _ e r p1=>?_⟩
  cases d with
  | tup ds =>
    obtain ⟨a,vs,rfl,q,rr⟩:=rep_tup.mp r
    refine ⟨a,rfl,⟨vs,Same.seqT e.gh q⟩,xZ (fun i σ H=>∃ ρ G,SR X.K B σ H ρ G/\SqT X.K G a vs/\Reps X.K G ds vs/\PostS X.K B W G (bp h gb (ds.drop i) ρ) De) ⟨ρ,G1,s.ext e,q,rr,by simpa using p1⟩ (fun i σ H _ ⟨ρ,G,s,q,_⟩=>Same.seqT s.en.gh q) ?_ ?_⟩
    . rintro i x σ2 H2 hx ⟨ρ2,G2,s2,q2,r2,p2⟩
      obtain ⟨d,hd,rd⟩:=r2.get' hx
      have hl:=(List.getElem?_eq_some_iff.mp hd).1
      rw [List.drop_eq_getElem_cons hl,(List.getElem?_eq_some_iff.mp hd).2] at p2
      exact jg s2 rd p2 fun σ' H' ρ' G' s' q' p'=>⟨ρ',G',s',Same.seqT q' q2,r2.mono q',p'⟩
    . rintro σ2 H2 ⟨ρ2,G2,s2,q2,r2,p2⟩
      rw [<- r2.length,List.drop_length] at p2
      exact p2 σ2 H2 G2 s2 (.refl _)
  | _=>exact p1.elim
theorem sg {h:Tg} {gb:ah->Ou} {lo:Int} {n:Nat} (s:SR K B σ H ρ G) (p:PostS K B W G (bp h gb ((List.range n).map fun (i:Nat)=>.int (lo + i)) ρ) De) :
    ∃ W0:Nat->Nat->St->Hp->Prop,(∃ m,W0 0 m σ H)/\∀ i m σ H,W0 i m σ H ->
      ((lf lo n).stop i H/\De.nx σ H)∨((lf lo n).go i H/\∃ N:St->Hp->Prop,(∀ σ' H',N σ' H'->∃ m',m' < m/\W0 (i + 1) m' σ' H')/\∀ x H',(lf lo n).yld i H x H'->tG K B h x σ H' fun σ2 H2=>tS K B W gb { De with nx:=N,ct:=N,bk:=De.nx } σ2 H2):=by
  refine tH (fun i σ H=>∃ ρ G,SR K B σ H ρ G/\PostS K B W G (bp h gb (((List.range n).map fun (i:Nat)=>D.int (lo + i)).drop i) ρ) De) ⟨ρ,G,s,by simpa using p⟩ ?_ ?_
  . rintro i σ2 H2 hi ⟨ρ2,G2,s2,p2⟩
    have hl:i < ((List.range n).map fun (i:Nat)=>D.int (lo + i)).length:=by simpa using hi
    rw [List.drop_eq_getElem_cons hl] at p2
    rw [show ((List.range n).map fun (i:Nat)=>D.int (lo + i))[i]=D.int (lo + i) by simp] at p2
    exact jg s2 (rep_int.mpr rfl) p2 fun σ' H' ρ' G' s' q' p'=>⟨ρ',G',s',p'⟩
  . rintro σ2 H2 ⟨ρ2,G2,s2,p2⟩
    rw [List.drop_eq_nil_of_le (by simp)] at p2
    exact p2 σ2 H2 G2 s2 (.refl _)
theorem gY {tg e:Expr} {body:List Stmt} {pos p1 p2:Pos} {f:ah->Rs D} {h:Tg} {gb:ah->Ou} (hp:PassesOwn (model X.prog X.w) X.A X.env X.xe) (hc:X.calm=true) (hm:X.mg "range"=none) (hi:SE X B W e f) (hg:SG X B tg h) (hb:eC X B W body gb)
    (hgl:Gl X "range":=by rfl) (hst:starEach [e] X.env=[(false,eval e X.env)]:=by rfl)
    (hs:∀ x,foldedSetIterable (.Call (.Name "range" p1) [e] [] p2) X.env x=pure x:=by intro _;rfl):SS X B W (.For tg (.Call (.Name "range" p1) [e] [] p2) body [] pos) (fE h gb f):=by
  refine PS.imp (lg hp hc (tD hgl hm (cT hi eA (by rw [hst];rfl)) hst) hg hb hs) fun De σ H ⟨ρ,G,s,p⟩=>?_
  refine ⟨ρ,G,s,cN s p fun d v H1 G1 _ e r p1=>?_⟩
  cases d with
  | int n =>
    dsimp only at p1
    by_cases c:-(2 ^ 62)<=n/\n < 2 ^ 62
    . rw [if_pos c] at p1
      refine ⟨n,by rw [rep_int.mp r],c.1,c.2,sg (s.ext e) ?_⟩
      simpa using p1
    . rw [if_neg c] at p1;exact p1.elim
  | _=>exact p1.elim
def oP:Ou->Ou
  | .ex _ _ _=>.no
  | o=>o
theorem ua {o:Ou} (p:PostS K B W G (oP o) De):PostS K B WF G o De:=by
  cases o with
  | ex c n ρ=>exact p.elim
  | _=>exact p
theorem PS.nox {st:Stmt} {t:TS} (h:PS X.nox st t):PS X st t:=fun pins s σ H D I hw =>
  wpAny_mono (h pins s σ H D (I.wish _) hw) (fun _ _ q=>q.unwish) fun _ _ z=>False.elim z
theorem Aw {st:Stmt} {g:ah->Ou} (h:SS X.nox B WF st g):SS X B W st (fun ρ=>oP (g ρ)) :=
  PS.imp (PS.nox h) fun De σ H ⟨ρ,G,s,p⟩=>⟨ρ,G,s,ua p⟩
def xA (n:Int):Nat:=if 0<=n then 2 * n.toNat else 2 * (-n).toNat + 1
def fX (c:Str) (n:Int):Value:=.str c (xA n)
def RP (K:PySem.W.Frag) (G H:Hp) (Q:VK) (E:XK) (r:Rs D):Prop:=match r with
  | .ok d=>∀ v H' G',Ext G H G' H'->Rep K G' d v->Q v H'
  | .ex c n=>∀ H' G',Ext G H G' H'->E (fX c n) none H'
  | .no=>False
def oQ (K:PySem.W.Frag) (k:Nat) (g:List D->Rs D):Sp:=fun vs H Q E=>vs.length=k/\∃ G ds,Ext G H G H/\Reps K G ds vs/\RP K G H Q E (g ds)
def be:Ou->Rs D
  | .nx _=>.ok .non
  | .rt d=>.ok d
  | .ex c n _=>.ex c n
  | _=>.no
def jh {α:Type}:Rs α->Rs α
  | .ex _ _=>.no
  | o=>o
def aG (N:List Str) (ds:List D):ah:=ds.map .fz++List.replicate (N.length - ds.length) .no
theorem wa {N:List Str} {ds:List D} {vs:List V} (e:Ext G H G H) (r:Reps K G ds vs):SR K (G,H) (L2.start N vs) H (aG N ds) G:=by
  have no_ow:∀ (i:Nat) (z:Sl),(aG N ds)[i]?=some z->z.own=true->False:=fun i z q w=>by
    unfold aG at q
    by_cases hi:i < (ds.map Sl.fz).length
    . rw [List.getElem?_append_left hi,List.getElem?_map] at q
      cases e1:ds[i]? with
      | none=>rw [e1] at q;cases q
      | some d=>rw [e1] at q;cases q;cases w
    . rw [List.getElem?_append_right (by omega),List.getElem?_replicate] at q
      split at q <;> cases q
      cases w
  refine ⟨e,?_,fun i d q=>?_,fun i z q w=>(no_ow i z q w).elim,fun i j z z' a q w=>(no_ow i z q w).elim⟩
  . unfold aG L2.start
    simp [r.length]
  . unfold aG at q
    unfold L2.start
    by_cases hi:i < (ds.map Sl.fz).length
    . rw [List.getElem?_append_left hi,List.getElem?_map] at q
      cases e1:ds[i]? with
      | none=>rw [e1] at q;cases q
      | some d' =>
        rw [e1] at q
        cases q
        obtain ⟨v,h1,h2⟩:=r.get e1
        refine ⟨v,?_,h2⟩
        rw [List.getElem?_append_left (by rw [List.length_map,<- r.length];simpa using hi),List.getElem?_map,h1]
        rfl
    . rw [List.getElem?_append_right (by omega),List.getElem?_replicate] at q
      split at q <;> cases q
theorem wb {o:Ou} {Q:VK} {E:XK} (h:RP K B.1 B.2 Q E (be o)):PostS K B (fun c n _ H'=>E (fX c n) none H') G o { nx:=fun _ H'=>Q .non H',rt:=Q }:=by
  cases o with
  | nx ρ'=>exact fun σ' H' G' s q=>h .non H' G' s.en (rep_non.mpr rfl)
  | rt d=>exact fun v H' G' x q r=>h v H' G' x r
  | ex c n ρ'=>exact fun σ' H' G' s q=>h H' G' s.en
  | bk _=>exact h.elim
  | ct _=>exact h.elim
  | no=>exact h.elim
section
variable {P:Program} {w:World} {mg:Str->Option Value} {base:Heap} {x qual:Str} {st:Stmt} {f:Addr} {fd:FuncData} {N ps:List Str} {k:Nat}
end
end
end Vl
namespace Vl
open PySem PySem.Spec L2
theorem oS {prog:Program} {w:World} {A:Around} {s:Shared} {R:Result->Shared->Prop} {elt target iter:Expr} {ifs:List Expr} {scope:Scope} {pos:Pos} {it acc:Value} {env:Env} (J:Nat->Shared->Prop)
    (turn:∀ k t,J k t->wpAny (model prog w) A (pyNext it) (fun o t1=>match o with
      | none=>R (.ok .next) t1
      | some x=>wpAny (model prog w) A (letOwnedTupleGo target it x) (fun _ t2=>wpAny (model prog w) A (assign target env x) (fun _ t3 =>
          wpAny (model prog w) A (forIn ifs true fun c go=>if go=true then do { let y <- isTrue c env (eval c env);pure (ForInStep.yield y) } else pure (ForInStep.yield go)) (fun yes t4 =>
            if yes=true then wpAny (model prog w) A (eval elt env) (fun y t5 =>
              wpAny (model prog w) A (call (.builtin "list.append") [acc,y]) (fun _ t6=>∃ j,j < k/\J j t6) (fun _ _=>False) t5) (fun _ _=>False) t4
            else ∃ j,j < k/\J j t4) (fun _ _=>False) t3) (fun _ _=>False) t2) (fun _ _=>False) t1) (fun _ _=>False) t)
    (n:Nat) (h:J n s):codeAny (model prog w) A (.compLoop (.ListComp elt [⟨target,iter,ifs,0⟩] scope pos) 0 it acc env) R s:=by
  refine codeAny_loop rfl J (fun k t hJ=>?_) n h
  show wpAny _ A (Sem.onRaise (compTurn (.ListComp elt [⟨target,iter,ifs,0⟩] scope pos) 0 it acc env) (fun x=>do noteFrame x env;theTreesLotGoes x)) _ _ t
  refine wpAny_noted ?_
  rw [compTurn_list]
  refine wpAny_bind (wpAny_standAt (wpAny_bind (wpAny_mono (turn k t hJ) (fun o t1 g1=>?_) fun _ _ z=>z.elim)))
  cases o with
  | none=>exact wpAny_pure g1
  | some x =>
    refine wpAny_bind (wpAny_mono g1 (fun _ t2 g2=>?_) fun _ _ z=>z.elim)
    refine wpAny_bind (wpAny_mono g2 (fun _ t3 g3=>wpAny_bind (wpAny_mono g3 (fun yes t4 g4=>?_) fun _ _ z=>z.elim)) fun _ _ z=>z.elim)
    cases yes with
    | true=>exact wpAny_bind (wpAny_bind (wpAny_mono g4 (fun y t5 g5=>wpAny_bind (wpAny_mono g5 (fun _ t6 g6=>wpAny_pure (wpAny_pure ⟨rfl,g6⟩)) fun _ _ z=>z.elim)) fun _ _ z=>z.elim))
    | false=>exact wpAny_pure ⟨rfl,g4⟩
abbrev cK (X:Cx) (N:List Str) (s₀:Shared) (H₀:Hp) (sc:Scope) (cl:List (Str×Addr)) (C:Addr) (ex:List Addr) (pins:List (Addr×Obj)):Cx where
  prog:=X.prog
  w:=X.w
  K:=X.K
  mg:=X.mg
  base:=X.base
  A:=X.A
  N:=N
  s₀:=s₀
  H₀:=H₀
  env:=compEnvC sc cl C X.env
  outer:=X.stack
  stack:=X.stack
  ex:=ex
  fn:=fun _=>false
  calm:=X.calm
  pn:=X.pn++pins
  xe:=fun _ _=>False
def cj (sc:Scope) (env:Env):List (Str×Addr):=sc.names.foldl (fun cs y=>if y.2 == .free then (y.1,(env.cells.lookup y.1).getD 0)::cs else cs) []
theorem lw {sc:Scope} {env:Env} (h:∀ y∈sc.names,y.2=.free->∃ c,env.cells.lookup y.1=some c):closureFor sc env=pure (cj sc env):=by
  unfold closureFor cj
  have key:∀ (l:List (Str×NameKind)) (cs:List (Str×Addr)),(∀ y∈l,y.2=.free->∃ c,env.cells.lookup y.1=some c) ->
      (forIn l cs (fun (x:Str×NameKind) (r:List (Str×Addr))=>if (x.2 == NameKind.free)=true then do let a <- cellOf env x.1;pure (ForInStep.yield ((x.1,a)::r)) else pure (ForInStep.yield r)):Sem (List (Str×Addr))) =
        pure (l.foldl (fun cs y=>if y.2 == .free then (y.1,(env.cells.lookup y.1).getD 0)::cs else cs) cs):=by
    intro l
    induction l with
    | nil=>intro cs _;rfl
    | cons y l ih =>
      intro cs hl
      rw [List.forIn_cons,List.foldl_cons]
      by_cases hk:(y.2 == NameKind.free)=true
      . obtain ⟨c,hc⟩:=hl y List.mem_cons_self (by simpa using hk)
        rw [if_pos hk,if_pos hk]
        unfold cellOf
        rw [hc]
        exact ih _ fun z hz=>hl z (List.mem_cons_of_mem _ hz)
      . rw [if_neg hk,if_neg hk]
        exact ih _ fun z hz=>hl z (List.mem_cons_of_mem _ hz)
  have:=key sc.names [] h
  simp only [] at this ⊢
  rw [this]
  rfl
theorem wc {sc:Scope} {env:Env}:∀ y∈cj sc env,(∃ k∈sc.names,k.1=y.1/\k.2=.free)/\y.2=(env.cells.lookup y.1).getD 0:=by
  unfold cj
  have key:∀ (l:List (Str×NameKind)) (cs:List (Str×Addr)) (y:Str×Addr),y∈l.foldl (fun cs y=>if y.2 == .free then (y.1,(env.cells.lookup y.1).getD 0)::cs else cs) cs ->
      y∈cs∨((∃ k∈l,k.1=y.1/\k.2=.free)/\y.2=(env.cells.lookup y.1).getD 0):=by
    intro l
    induction l with
    | nil=>intro cs y h;exact .inl h
    | cons z l ih =>
      intro cs y h
      rw [List.foldl_cons] at h
      rcases ih _ y h with h|⟨⟨k,hk,e⟩,e2⟩
      . by_cases hz:(z.2 == NameKind.free)=true
        . rw [if_pos hz] at h
          rcases List.mem_cons.mp h with e|h
          . subst e
            exact .inr ⟨⟨z,List.mem_cons_self,rfl,by simpa using hz⟩,rfl⟩
          . exact .inl h
        . rw [if_neg hz] at h;exact .inl h
      . exact .inr ⟨⟨k,List.mem_cons_of_mem _ hk,e⟩,e2⟩
  intro y hy
  rcases key sc.names [] y hy with h|h
  . cases h
  . exact h
theorem oU {sc:Scope} {env:Env} {n:Str} (h:(n,NameKind.free)∈sc.names):∃ c,(cj sc env).lookup n=some c:=by
  have key:∀ (l:List (Str×NameKind)) (cs:List (Str×Addr)),((n,NameKind.free)∈l∨∃ c,cs.lookup n=some c)->∃ c,(l.foldl (fun cs y=>if y.2 == .free then (y.1,(env.cells.lookup y.1).getD 0)::cs else cs) cs).lookup n=some c:=by
    intro l
    induction l with
    | nil =>
      intro cs h
      rcases h with h|h
      . cases h
      . exact h
    | cons z l ih =>
      intro cs h
      rw [List.foldl_cons]
      refine ih _ ?_
      rcases h with h|⟨c,hc⟩
      . rcases List.mem_cons.mp h with e|h
        . subst e
          refine .inr ⟨(env.cells.lookup n).getD 0,?_⟩
          rw [if_pos (by rfl),List.lookup_cons_self]
        . exact .inl h
      . right
        by_cases hz:(z.2 == NameKind.free)=true
        . rw [if_pos hz]
          by_cases e:n=z.1
          . subst e;exact ⟨_,List.lookup_cons_self⟩
          . exact ⟨c,by rw [List.lookup_cons,show (n == z.1)=false by simpa using e];exact hc⟩
        . rw [if_neg hz];exact ⟨c,hc⟩
  exact key sc.names [] (.inl h)
section
variable {X:Cx} {pins:List (Addr×Obj)} {σ:St} {H:Hp} {s:Shared}
theorem gf {sc:Scope} {env:Env} {x:Str} {k:NameKind} (h:(relabel sc env).names.lookup x=some k):(∃ k',sc.names.lookup x=some k'/\(k'=k∨(k'=.free/\k=.cell))):=by
  have key:∀ l:List (Str×NameKind),List.lookup x (l.map fun (n,k)=>if (k == .free && env.scope.kind == .function && env.kindOf n == some .cell) then (n,NameKind.cell) else (n,k))=some k ->
      ∃ k',l.lookup x=some k'/\(k'=k∨(k'=.free/\k=.cell)):=by
    intro l
    induction l with
    | nil=>intro h;cases h
    | cons y l ih =>
      intro h
      obtain ⟨n,kk⟩:=y
      rw [List.map_cons] at h
      by_cases e:(x == n)=true
      . refine ⟨kk,by rw [List.lookup_cons,e],?_⟩
        dsimp only at h
        split at h
        . rename_i hc
          rw [List.lookup_cons,e] at h
          have h':NameKind.cell=k:=Option.some.inj h
          exact .inr ⟨by simp only [Bool.and_eq_true,beq_iff_eq] at hc;exact hc.1.1,h'.symm⟩
        . rw [List.lookup_cons,e] at h
          exact .inl (Option.some.inj h)
      . have e':(x == n)=false:=by simpa using e
        obtain ⟨k',a,b⟩:=ih (by
          dsimp only at h
          split at h <;> (rw [List.lookup_cons,e'] at h;exact h))
        exact ⟨k',by rw [List.lookup_cons,e'];exact a,b⟩
  exact key sc.names h
structure Caps (X:Cx) (sc:Scope) (N:List Str) (nt:Nat) (caps:List Nat):Prop where
  kind:sc.kind=.function
  nocell:∀ y∈sc.names,y.2≠.cell
  fr:∀ y∈sc.names,y.2=.free->X.env.kindOf y.1=some .cell∨X.env.kindOf y.1=some .free
  len:N.length=nt + caps.length
  cap:∀ (j i:Nat) (x:Str),caps[j]?=some i->N[nt + j]?=some x->X.N[i]?=some x/\sc.names.lookup x=some .free
theorem Caps.cells {sc:Scope} {N:List Str} {nt:Nat} {caps:List Nat} (c:Caps X sc N nt caps) (I:Inv X pins σ H s):∀ y∈sc.names,y.2=.free->∃ a,X.env.cells.lookup y.1=some a :=
  fun y hy hf=>I.ok.has y.1 (c.fr y hy hf)
theorem Caps.cl {sc:Scope} {N:List Str} {nt:Nat} {caps:List Nat} (c:Caps X sc N nt caps) (I:Inv X pins σ H s) {x:Str} {a:Addr} (h:(cj sc X.env).lookup x=some a):X.env.cells.lookup x=some a:=by
  have hm:=PySem.mem_of_lookup h
  obtain ⟨⟨k,hk,e1,e2⟩,e3⟩:=wc _ hm
  obtain ⟨b,hb⟩:=c.cells I k hk e2
  rw [e1] at hb
  dsimp only at e3 hb
  rw [hb] at e3
  rw [hb,e3];rfl
def gD (nt:Nat) (caps:List Nat) (σ:St):St:=List.replicate nt none++caps.map fun i=>(σ[i]?).getD none
theorem si {sc:Scope} {N:List Str} {nt:Nat} {caps:List Nat} {fp:List Addr} {h':Heap} {tk:Nat} (c:Caps X sc N nt caps) (I:Inv X pins σ H s) (hfp:∀ b∈fp,dz X pins H b/\b < s.heap.objs.size)
    (hn:h'.Ns s.heap.objs.size fun _=>none) (hk:∀ b o,s.heap.get? b=some o->h'.get? b=some o) :
    Inv (cK X N s H sc (cj sc X.env) s.heap.objs.size fp pins) [] (gD nt caps σ) H { s with heap:=h',toks:=tk }:=by
  have clX:∀ {x:Str} {a:Addr},(cj sc X.env).lookup x=some a->X.env.cells.lookup x=some a:=fun h=>c.cl I h
  have stk:∀ b,b≠X.env.locals->b∉X.fs->b∉cV X.stack:=fun b h1 h2 h3=>(List.mem_cons.mp (I.stkSub b h3)).elim h1 h2
  refine ⟨⟨I.ok.mod,c.kind,I.ok.glob,I.ok.blt,Nat.le_refl _,fun x y a h1 h2=>I.ok.inj x y a (clX h1) (clX h2),fun x hx=>?_,fun x a hf=>absurd (show false=true from hf) Bool.false_ne_true,I.ok.hd,I.ok.frames,.inl rfl,fun b hb=>⟨Nat.ne_of_lt (hfp b hb).2,fun x a ha=>(hfp b hb).1.2.2.2.2.1 x a (clX ha)⟩,
    fun b o e=>I.bs b o e,Nat.le_trans I.ok.bsz I.sz,fun b o e hb=>?_,fun b hb=>stk b (hfp b hb).1.2.1 (hfp b hb).1.2.2.1,I.stack,I.stkFree⟩,
    rfl,I.bare,Un.kept hk,⟨_,hn,fun i x v h1 h2 h3=>?_⟩,fun x a ha=>?_,I.hok.fresh (Nat.le_refl _),fun x a ha=>I.freeC x a (clX ha),fun p hp=>?_,I.hok.kept hk,?_⟩
  . -- has
    have hx':(relabel sc X.env).names.lookup x=some .cell∨(relabel sc X.env).names.lookup x=some .free:=hx
    have:sc.names.lookup x=some .free:=by
      rcases hx' with hx'|hx'
      . obtain ⟨k',h1,h2⟩:=gf hx'
        rcases h2 with h2|⟨h2,_⟩
        . subst h2;exact (c.nocell _ (PySem.mem_of_lookup h1) rfl).elim
        . rw [h1,h2]
      . obtain ⟨k',h1,h2⟩:=gf hx'
        rcases h2 with h2|⟨h2,e⟩
        . rw [h1,h2]
        . cases e
    exact oU (PySem.mem_of_lookup this)
  . -- noex
    obtain ⟨_,_,_,h4,_⟩:=(hfp b hb).1
    rcases h4 with h4|h4
    . exact I.ok.noex b o e h4
    . exact absurd (Nat.lt_of_lt_of_le (Heap.lt_size e) (Nat.le_trans I.ok.bsz h4)) (Nat.lt_irrefl _)
  . -- loc
    unfold gD at h2
    by_cases hi:i < (List.replicate nt (none:Option V)).length
    . rw [List.getElem?_append_left hi,List.getElem?_replicate] at h2
      split at h2 <;> cases h2
    . rw [List.getElem?_append_right (by omega),List.getElem?_map] at h2
      rw [List.length_replicate] at h2 hi
      cases e:caps[i - nt]? with
      | none=>rw [e] at h2;cases h2
      | some k =>
        rw [e] at h2
        have h2':(σ[k]?).getD none=some v:=Option.some.inj h2
        have hs:σ[k]?=some (some v):=by
          cases e3:σ[k]? with
          | none=>rw [e3] at h2';cases h2'
          | some z=>rw [e3] at h2';exact congrArg some h2'
        obtain ⟨hX,hl0⟩:=c.cap (i - nt) k x e (by rw [show nt + (i - nt)=i by omega];exact h1)
        have hf:(x,NameKind.free)∈sc.names:=PySem.mem_of_lookup hl0
        obtain ⟨m,_,hl⟩:=I.loc
        have hkind:=c.fr _ hf rfl
        obtain ⟨u,r,l⟩:=hl k x v hX hs (by rcases hkind with q|q;exact .inr (.inl q);exact .inr (.inr q))
        refine ⟨u,r,.inr ⟨?_,?_⟩⟩
        . have h3':(relabel sc X.env).names.lookup x=some .local∨(relabel sc X.env).names.lookup x=some .cell∨(relabel sc X.env).names.lookup x=some .free:=h3
          rcases h3' with q|q|q
          . obtain ⟨k',a1,a2⟩:=gf q
            exfalso
            rw [hl0] at a1
            cases a1
            rcases a2 with a2|⟨_,a2⟩ <;> cases a2
          . exact .inl q
          . exact .inr q
        . obtain ⟨cc,hcc⟩:=oU (env:=X.env) hf
          refine ⟨cc,hcc,?_⟩
          rcases l with ⟨q,_⟩|⟨_,c2,hc2,z⟩
          . rcases hkind with q'|q' <;> (rw [q] at q';cases q')
          . rw [clX hcc] at hc2
            cases hc2
            obtain ⟨o,ho,hd⟩:=z
            exact ⟨o,hk _ _ ho,hd⟩
  . obtain ⟨v,o,ho,hd⟩:=I.cell x a (clX ha)
    exact ⟨v,o,hk _ _ ho,hd⟩
  . rw [List.append_nil] at hp
    obtain ⟨e,n,ne,nf,d⟩:=I.pin p hp
    exact ⟨hk _ _ e,n,Nat.ne_of_lt (Heap.lt_size e),stk _ ne nf,d⟩
  . unfold gD
    rw [List.length_append,List.length_replicate,List.length_map]
    exact c.len.symm
end
end Vl
namespace Vl
open PySem PySem.Spec L2
def Yl (K:PySem.W.Frag) (J:It) (ds:List D) (G:Hp):Prop:=∀ (i:Nat) (G1 H1:Hp),Same G G1->Ext G1 H1 G1 H1 ->
  (∀ d,ds[i]?=some d->J.go i H1/\∀ x H2,J.yld i H1 x H2->∃ G2,Ext G1 H1 G2 H2/\Rep K G2 d x)/\(ds.length<=i->J.stop i H1)
def oi (K:PySem.W.Frag) (W:Wi) (σ:St) (G H:Hp) (r:Rs (List D)) (R:It->Hp->Prop):Prop :=
  match r with
  | .ok ds=>∀ J H' G',Ext G H G' H'->Yl K J ds G'->R J H'
  | .ex c n=>∀ H' G',Ext G H G' H'->W c n σ H'
  | .no=>False
def tI (K:PySem.W.Frag) (B:Hp×Hp) (W:Wi) (f:ah->Rs (List D)):TI:=fun σ H R=>∃ ρ G,SR K B σ H ρ G/\oi K W σ G H (f ρ) R
def SI (X:Cx) (B:Hp×Hp) (W:Wi) (tg iter:Expr) (f:ah->Rs (List D)):Prop:=PI X tg iter (tI X.K B W f)
def xB:D->Rs (List D)
  | .lst ds=>.ok ds
  | _=>.no
def jx:D->Rs (List D)
  | .tup ds=>.ok ds
  | _=>.no
section
variable {X:Cx} {K:PySem.W.Frag} {B:Hp×Hp} {W:Wi} {σ:St} {G H:Hp} {ρ:ah} {tg iter:Expr} {f:ah->Rs D}
theorem PI.imp {t t':TI} (h:PI X tg iter t) (i:∀ σ H R,t' σ H R->t σ H R):PI X tg iter t':=fun pins s σ H R I q=>h pins s σ H R I (i σ H R q)
theorem Ax {a:Addr} {ds:List D} {vs:List V} (q:SqT K G a vs) (r:Reps K G ds vs):Yl K (qS K a) ds G:=by
  intro i G1 H1 gg e
  have q1:=Same.seqT e.gh (Same.seqT gg q)
  refine ⟨fun d hd=>?_,fun hl=>⟨vs,q1,by rw [<- r.length];exact hl⟩⟩
  obtain ⟨v,hv,rv⟩:=r.get hd
  refine ⟨⟨vs,v,q1,hv⟩,fun x H2 y=>?_⟩
  obtain ⟨e2,y⟩:=y
  subst e2
  have:=y vs q1
  rw [hv] at this
  cases this
  exact ⟨G1,e,rv.mono gg⟩
theorem re {as:D->Rs (List D)} {r:Rs D} {R:It->Hp->Prop} {Q:VK} (p:oi K W σ G H (r.bind as) R) (h:∀ d v H' G' ds,as d=.ok ds->Ext G H G' H'->Rep K G' d v->(∀ J H'' G'',Ext G' H' G'' H''->Yl K J ds G''->R J H'')->Q v H') (hn:∀ d c n,as d≠.ex c n):Post K W σ G H r Q:=by
  cases r with
  | ok d =>
    intro v H' G' e rv
    have p':oi K W σ G H (as d) R:=p
    cases e1:as d with
    | ok ds=>rw [e1] at p';exact h d v H' G' ds e1 e rv fun J H'' G'' e' y=>p' J H'' G'' (e.trans e') y
    | ex c n=>exact (hn d c n e1).elim
    | no=>rw [e1] at p';exact p'.elim
  | ex c n=>exact p
  | no=>exact p
theorem yr (hi:SE X B W iter f):SI X B W tg iter (fun ρ=>(f ρ).bind xB):=by
  refine PI.imp (qT hi) fun σ H R ⟨ρ,G,s,p⟩=>⟨ρ,G,s,re p (fun d v H' G' ds e1 e rv k=>?_) (fun d c n z=>by cases d <;> cases z)⟩
  cases d with
  | lst es =>
    cases e1
    obtain ⟨a,vs,rfl,q,rr⟩:=rep_lst.mp rv
    refine ⟨a,rfl,⟨vs,e.gh.seq q⟩,k _ H' G' (.refl e.gh e.tp) ?_⟩
    intro i G1 H1 gg e'
    have q1:=e'.gh.seq (gg.seq q)
    refine ⟨fun d hd=>?_,fun hl=>⟨vs,q1,by rw [<- rr.length];exact hl⟩⟩
    obtain ⟨v,hv,rv⟩:=rr.get hd
    refine ⟨⟨vs,v,q1,hv⟩,fun x H2 y=>?_⟩
    obtain ⟨e2,y⟩:=y
    subst e2
    have:=y vs q1
    rw [hv] at this
    cases this
    exact ⟨G1,e',rv.mono gg⟩
  | _=>cases e1
theorem Ay (hi:SE X B W iter f):SI X B W tg iter (fun ρ=>(f ρ).bind jx):=by
  refine PI.imp (tz hi) fun σ H R ⟨ρ,G,s,p⟩=>⟨ρ,G,s,re p (fun d v H' G' ds e1 e rv k=>?_) (fun d c n z=>by cases d <;> cases z)⟩
  cases d with
  | tup es =>
    cases e1
    obtain ⟨a,vs,rfl,q,rr⟩:=rep_tup.mp rv
    exact ⟨a,rfl,⟨vs,Same.seqT e.gh q⟩,k _ H' G' (.refl e.gh e.tp) (Ax q rr)⟩
  | _=>cases e1
def oV (ρ:ah):Prop:=∀ (i:Nat) (z:Sl),ρ[i]?=some z->z.own=true->False
def ii (h:Tg):Prop:=∀ d ρ ρ',oV ρ->h d ρ=some ρ'->oV ρ'
def cb (nt:Nat) (caps:List Nat) (ρ:ah):ah:=List.replicate nt .no++caps.map fun i=>match ρ[i]? with|some (.fz d)=>.fz d|_=>.no
def cF (h:Tg) (ft:ah->Rs Bool) (fe:ah->Rs D):List D->ah->Rs (List D)
  | [],_=>.ok []
  | d::ds,ρ=>match h d ρ with
    | none=>.no
    | some ρ1=>(ft ρ1).bind fun b=>if b=true then (fe ρ1).bind fun y=>(cF h ft fe ds ρ1).bind fun ys=>.ok (y::ys) else cF h ft fe ds ρ1
theorem ji {nt:Nat} {caps:List Nat} {ρ:ah}:oV (cb nt caps ρ):=fun i z q w=>by
  unfold cb at q
  by_cases hi:i < (List.replicate nt Sl.no).length
  . rw [List.getElem?_append_left hi,List.getElem?_replicate] at q
    split at q <;> cases q
    cases w
  . rw [List.getElem?_append_right (by omega),List.getElem?_map] at q
    cases e:caps[i - (List.replicate nt Sl.no).length]? with
    | none=>rw [e] at q;cases q
    | some k =>
      rw [e] at q
      have q':(match ρ[k]? with|some (.fz d)=>Sl.fz d|_=>.no)=z:=Option.some.inj q
      split at q' <;> (subst q';cases w)
theorem yt {nt:Nat} {caps:List Nat} {p:Addr} (s:SR K B σ H ρ G) (hp:H p=none):SR K (G,H) (gD nt caps σ) (bc H p (.lst [])) (cb nt caps ρ) G:=by
  refine ⟨yk s.en.gh s.en.tp hp,by simp [gD,cb],fun i d q=>?_,fun i z q w=>(ji i z q w).elim,fun i j z z' a q w=>(ji i z q w).elim⟩
  unfold cb at q
  unfold gD
  by_cases hi:i < nt
  . rw [List.getElem?_append_left (by simpa using hi),List.getElem?_replicate] at q
    split at q <;> cases q
  . rw [List.getElem?_append_right (by simpa using hi),List.getElem?_map,List.length_replicate] at q
    rw [List.getElem?_append_right (by simpa using hi),List.getElem?_map,List.length_replicate]
    cases e:caps[i - nt]? with
    | none=>rw [e] at q;cases q
    | some k =>
      rw [e] at q
      have q':(match ρ[k]? with|some (.fz d)=>Sl.fz d|_=>.no)=.fz d:=Option.some.inj q
      cases e2:ρ[k]? with
      | none=>rw [e2] at q';cases q'
      | some z =>
        rw [e2] at q'
        cases z with
        | fz d' =>
          cases q'
          obtain ⟨v,h1,h2⟩:=s.fz k _ e2
          exact ⟨v,by simp [h1],h2⟩
        | no=>cases q'
        | ow _=>cases q'
        | od _=>cases q'
theorem SR.off {p:Addr} {vs us:List V} (s:SR K B σ H ρ G) (hn:oV ρ) (hp:H p=some (.lst vs)) (g:G p=none) (b:B.2 p=none):SR K B σ (bc H p (.lst us)) ρ G:=by
  refine ⟨⟨s.en.gg,fun c o z=>?_,fun c o z=>?_,fun c xs z=>?_,s.en.nw⟩,s.len,s.fz,fun i z q w=>(hn i z q w).elim,fun i j z z' a q w=>(hn i z q w).elim⟩
  . rw [aI (aR z b)];exact s.en.hh c o z
  . rw [aI (aR z g)];exact s.en.gh c o z
  . by_cases w:c=p
    . subst w;rw [aO] at z;cases z
    . rw [aI w] at z;exact s.en.tp c xs z
def bM (h:Tg) (ft:ah->Rs Bool) (fe:ah->Rs D) (nt:Nat) (caps:List Nat) (f:ah->Rs (List D)):ah->Rs D:=fun ρ =>
  (f ρ).bind fun ds=>jh ((cF h ft fe ds (cb nt caps ρ)).bind fun ys=>if ys.length<=1000000 then .ok (.lst ys) else .no)
theorem oW {prog:Program} {w:World} {A:Around} {E:Value->Shared->Prop} {s:Shared} {env:Env} {Q:Bool->Shared->Prop} (h:Q true s) :
    wpAny (model prog w) A (forIn ([]:List Expr) true fun c r=>if r=true then do let ok <- isTrue c env (eval c env);pure (ForInStep.yield ok) else pure (ForInStep.yield r)) Q E s:=by
  simp only [List.forIn_nil]
  exact wpAny_pure h
set_option maxHeartbeats 8000000 in
theorem nc {elt:Expr} {ifs:List Expr} {sc:Scope} {pos:Pos} {N:List Str} {nt:Nat} {caps:List Nat} {h:Tg} {ft:ah->Rs Bool} {fe:ah->Rs D} {fi:ah->Rs (List D)}
    (c:Caps X sc N nt caps) (hc:X.calm=true) (hnames:∀ y∈sc.names,y.2=.local->sc.names.lookup y.1=some .local) (hi:SI X B W tg iter fi) (hno:ii h)
    (ht:∀ s₀ H₀ C ex pins B',SG (cK X N s₀ H₀ sc (cj sc X.env) C ex pins) B' tg h)
    (hif:(ifs=[]/\ft=fun _=>.ok true)∨∃ c,ifs=[c]/\∀ s₀ H₀ C ex pins B',ST (cK X N s₀ H₀ sc (cj sc X.env) C ex pins) B' WF c ft)
    (he:∀ s₀ H₀ C ex pins B',SE (cK X N s₀ H₀ sc (cj sc X.env) C ex pins) B' WF elt fe)
    (hs:∀ x,foldedSetIterable iter X.env x=pure x)
    {use:Option (Value->Sem Unit)} {QQ:Value->Shared->Prop} {pins:List (Addr×Obj)} {s:Shared} {σ:St} {H G:Hp} {ρ:ah} (I:Inv X pins σ H s) (sr:SR X.K B σ H ρ G)
    (p:match bM h ft fe nt caps fi ρ with
      | .ok d=>∀ (D' C:Addr) (H' G':Hp) (s5:Shared) (fl:Flow),Ext G H G' H'->Rep X.K G' d (.ref D')->(∃ m,s5.heap.Ns C m)->dz X pins H' C->(∀ h',Heap.SameBut C s5.heap h'->Inv X pins σ H' { s5 with heap:=h' })->compPost (model X.prog X.w) X.A X.xe use QQ (.ref D') C (.ok fl) s5
      | .ex c n=>∀ H' G',Ext G H G' H'->W c n σ H'
      | .no=>False) :
    wpAny (model X.prog X.w) X.A (comprehension (.ListComp elt [⟨tg,iter,ifs,0⟩] sc pos) sc X.env (firstIterPos [⟨tg,iter,ifs,0⟩] pos) (newList []) (firstAsync [⟨tg,iter,ifs,0⟩]) (firstIter [⟨tg,iter,ifs,0⟩] X.env) use) QQ X.xe s:=by
  refine wpAny_comprehension_free (use:=use) (cl:=cj sc X.env) rfl hs (lw (c.cells I)) c.kind hnames ?_
  show wpAny (model X.prog X.w) X.A (eval iter X.env) _ X.xe s
  refine wpAny_mono (hi pins s σ H (fun J H2=>∃ G2 ds,Ext G H G2 H2/\Yl X.K J ds G2/\∃ YS,cF h ft fe ds (cb nt caps ρ)=.ok YS/\YS.length<=1000000/\∀ (D' C:Addr) (H' G':Hp) (s5:Shared) (fl:Flow),Ext G H G' H'->Rep X.K G' (.lst YS) (.ref D')->(∃ m,s5.heap.Ns C m)->dz X pins H' C->(∀ h',Heap.SameBut C s5.heap h'->Inv X pins σ H' { s5 with heap:=h' })->compPost (model X.prog X.w) X.A X.xe use QQ (.ref D') C (.ok fl) s5) I ⟨ρ,G,sr,?_⟩) (fun v s1 h1=>wpAny_mono h1 (fun itv s2 h2=>?_) fun _ _ z=>z) fun _ _ z=>z
  . unfold bM at p
    cases e:fi ρ with
    | ok ds =>
      rw [e] at p
      have p2:match jh ((cF h ft fe ds (cb nt caps ρ)).bind fun ys=>if ys.length<=1000000 then .ok (.lst ys) else .no) with
        | .ok d=>∀ (D' C:Addr) (H' G':Hp) (s5:Shared) (fl:Flow),Ext G H G' H'->Rep X.K G' d (.ref D')->(∃ m,s5.heap.Ns C m)->dz X pins H' C->(∀ h',Heap.SameBut C s5.heap h'->Inv X pins σ H' { s5 with heap:=h' })->compPost (model X.prog X.w) X.A X.xe use QQ (.ref D') C (.ok fl) s5
        | .ex c n=>∀ H' G',Ext G H G' H'->W c n σ H'
        | .no=>False:=p
      refine fun J H' G' x y=>⟨G',ds,x,y,?_⟩
      cases e:cF h ft fe ds (cb nt caps ρ) with
      | ok YS =>
        rw [e] at p2
        by_cases hl:YS.length<=1000000
        . simp only [Rs.bind,if_pos hl,jh] at p2
          exact ⟨YS,rfl,hl,p2⟩
        . simp only [Rs.bind,if_neg hl,jh] at p2
      | ex c n=>rw [e] at p2;exact p2.elim
      | no=>rw [e] at p2;exact p2.elim
    | ex c n=>rw [e] at p;exact p
    | no=>rw [e] at p;exact p
  obtain ⟨it,fp,tn,J,H2,e,I2,T,st2,f2,G2,ds,x2,yl,YS,hYS,hlen,hQ⟩:=h2
  subst e
  refine wpAny_newObj_type (wpAny_newFunctionEnv c.nocell (by intro y hy;simp at hy) (fun h₁ hns₁ hsb₁=>?_) c.kind)
  have hD2:H2 s2.heap.objs.size=none:=I2.fresh
  have I3:=I2.lnew (ys:=[]) (its:=[]) (t':=s2.toks) .nil (by simp)
  have sr2:SR X.K B σ H2 ρ G2:=sr.ext x2
  have fpl:∀ b∈fp,b < s2.heap.objs.size:=fun b hb=>by
    obtain ⟨o,ho,_⟩:=T.obj 0 _ st2 b hb
    exact Heap.lt_size ho
  have hk:∀ b o,(s2.heap.push { cls:=.type "list",data:=.seq ([]:List Value).toArray }).get? b=some o->h₁.get? b=some o:=fun b o z =>
    (hsb₁.2 b (Nat.ne_of_lt (Heap.lt_size z))).trans (Heap.get?_push_of_some _ z)
  have fpok:∀ b∈fp,dz X pins (bc H2 s2.heap.objs.size (.lst [])) b/\b < (s2.heap.push { cls:=.type "list",data:=.seq ([]:List Value).toArray }).objs.size:=fun b hb=>by
    obtain ⟨g1,g2⟩:=f2 b hb
    refine ⟨⟨?_,g2⟩,?_⟩
    . rw [aI (Nat.ne_of_lt (fpl b hb))];exact g1
    . rw [Heap.size_push];exact Nat.lt_succ_of_lt (fpl b hb)
  have IY:=si (h':=h₁) (tk:=s2.toks + ([]:List (Str×Value)).length) c I3 fpok hns₁ hk
  generalize hC:(s2.heap.push { cls:=.type "list",data:=.seq ([]:List Value).toArray }).objs.size=C at *
  have srY:=yt (nt:=nt) (caps:=caps) sr2 hD2
  have stk:∀ b,b≠X.env.locals->b∉X.fs->b∉cV X.stack:=fun b h1 h2 h3=>(List.mem_cons.mp (I2.stkSub b h3)).elim h1 h2
  have hCl:s2.heap.objs.size + 1=C:=by rw [<- hC,Heap.size_push]
  have stat:∀ {H':Hp},(∀ b∈fp,H' b=none)->∀ b∈fp,dz (cK X N { s2 with heap:=s2.heap.push { cls:=.type "list",data:=.seq ([]:List Value).toArray },toks:=s2.toks } (bc H2 s2.heap.objs.size (.lst [])) sc (cj sc X.env) C fp pins) [] H' b:=fun {H'} hn b hb=>by
    obtain ⟨_,g2,g3,g4,g5,g6⟩:=f2 b hb
    refine ⟨hn b hb,?_,stk b g2 g3,.inl hb,fun x a ha=>g5 x a (c.cl I2 ha),fun p hp=>?_⟩
    . show b≠C
      exact Nat.ne_of_lt (hCl▸Nat.lt_succ_of_lt (fpl b hb))
    . rw [List.append_nil] at hp;exact g6 p hp
  let Y:=cK X N { s2 with heap:=s2.heap.push { cls:=.type "list",data:=.seq ([]:List Value).toArray },toks:=s2.toks } (bc H2 s2.heap.objs.size (.lst [])) sc (cj sc X.env) C fp pins
  let D':=s2.heap.objs.size
  let Jn:Nat->Shared->Prop:=fun n s4=>∃ (i:Nat) (ρ':ah) (σ':St) (H' G':Hp) (yds:List D) (yvs:List V) (rest:List D),Inv Y [] σ' H' s4/\tn i s4.heap/\(∀ b∈fp,H' b=none)/\SR X.K (G2,H2) σ' H' ρ' G'/\oV ρ'/\H' D'=some (.lst yvs)/\G' D'=none /\
    Reps X.K G' yds yvs/\i<=ds.length/\n=ds.length - i/\cF h ft fe (ds.drop i) ρ'=.ok rest/\yds++rest=YS
  have loop:∀ (n:Nat) (s4:Shared),Jn n s4->codeAny (model X.prog X.w) X.A (.compLoop (.ListComp elt [⟨tg,iter,ifs,0⟩] sc pos) 0 (.ref it) (.ref D') Y.env) (compPost (model X.prog X.w) X.A X.xe use QQ (.ref D') C) s4:=by
    intro n0 s40 h0
    refine oS (J:=Jn) ?_ n0 h0
    rintro n s4 ⟨i,ρ',σ',H',G',yds,yvs,rest,I4,st4,fr4,sr4,no4,hD4,hG4,ry4,hi4,rfl,hcd,hY⟩
    by_cases hlt:i < ds.length
    . obtain ⟨yes,_⟩:=yl i G' H' sr4.en.gg sr4.ext0
      obtain ⟨go,yields⟩:=yes ds[i] (by simp [hlt])
      rw [List.drop_eq_getElem_cons hlt] at hcd
      unfold cF at hcd
      cases eh:h ds[i] ρ' with
      | none=>rw [eh] at hcd;cases hcd
      | some ρ1 =>
        rw [eh] at hcd
        dsimp only at hcd
        refine bo (T.item Y rfl rfl rfl hc i [] s4 σ' H' (fun _ _=>False) I4 (stat fr4) st4 go) fun r s5 ⟨u,hr,h5⟩=>?_
        subst hr
        refine bo h5 fun _ s6 ⟨x,H6,I6,r6,y6,st6,fr6⟩=>?_
        obtain ⟨G6,e6,rep6⟩:=yields x H6 y6
        have sr6:=sr4.ext e6
        have I6':=I6.pinned (stat fr6) (T.obj _ _ st6)
        refine bo (ht _ _ _ _ _ (G2,H2) _ s6 σ' H6 x u (fun σ7 H7=>H7=H6/\SR X.K (G2,H2) σ7 H6 ρ1 G6) I6' r6 ⟨ρ',G6,ds[i],sr6,rep6,ρ1,eh,fun σ7 z=>⟨rfl,z⟩⟩) fun _ s7 ⟨σ7,H7,I7,eH7,sr7⟩=>?_
        subst eH7
        have no7:=hno _ _ _ no4 eh
        have again:∀ {σ8:St} {H8:Hp} {s8:Shared},Inv Y ([]++iL fp s6.heap) σ8 H8 s8->Inv Y [] σ8 H8 s8/\tn (i + 1) s8.heap/\∀ b∈fp,H8 b=none:=fun {σ8 H8 s8} I8=>by
          refine ⟨I8.unpinned,T.keep _ _ _ st6 fun b hb o e=>(I8.pin (b,o) (List.mem_append_right _ (List.mem_append_right _ (gQ hb e)))).1,fun b hb=>?_⟩
          obtain ⟨o,e,d⟩:=T.obj _ _ st6 b hb
          exact (I8.pin (b,o) (List.mem_append_right _ (List.mem_append_right _ (gQ hb e)))).2.1
        obtain ⟨b,hb,hcd⟩:∃ b,ft ρ1=.ok b/\(if b=true then (fe ρ1).bind fun y=>(cF h ft fe (ds.drop (i + 1)) ρ1).bind fun ys=>.ok (y::ys) else cF h ft fe (ds.drop (i + 1)) ρ1)=.ok rest:=by
          cases e:ft ρ1 with
          | ok b=>rw [e] at hcd;exact ⟨b,rfl,hcd⟩
          | ex c n=>rw [e] at hcd;cases hcd
          | no=>rw [e] at hcd;cases hcd
        have test:wpAny (model X.prog X.w) X.A (forIn ifs true fun c r=>if r=true then do let ok <- isTrue c Y.env (eval c Y.env);pure (ForInStep.yield ok) else pure (ForInStep.yield r)) (TP Y ([]++iL fp s6.heap) σ7 fun b' H8=>b'=b/\∃ G8,Ext G6 H7 G8 H8) (fun _ _=>False) s7:=by
          rcases hif with ⟨e1,e2⟩|⟨cc,e1,hst⟩
          . subst e1 e2
            cases hb
            exact oW ⟨H7,I7,rfl,G6,sr7.ext0⟩
          . subst e1
            refine wpAny_tests_one (hst _ _ _ _ _ (G2,H2) _ s7 σ7 H7 _ I7 ⟨ρ1,G6,sr7,?_⟩)
            rw [hb]
            exact fun H8 G8 e8=>⟨rfl,G8,e8⟩
        refine bo test fun ok s8 ⟨H8,I8,eb,G8,e8⟩=>?_
        subst eb
        have sr8:=sr7.ext e8
        have hD8:H8 D'=some (.lst yvs):=e8.hh _ _ (e6.hh _ _ hD4)
        have hG8:G8 D'=none:=e8.nw _ _ (e6.hh _ _ hD4) (e6.nw _ _ hD4 hG4)
        have ry8:=(ry4.mono e6.gg).mono e8.gg
        cases ok with
        | true =>
          rw [if_pos rfl] at hcd ⊢
          obtain ⟨y,ys,hy,hys,hr⟩:∃ y ys,fe ρ1=.ok y/\cF h ft fe (ds.drop (i + 1)) ρ1=.ok ys/\rest=y::ys:=by
            cases e:fe ρ1 with
            | ok y =>
              rw [e] at hcd
              have hcd':((cF h ft fe (ds.drop (i + 1)) ρ1).bind fun ys=>Rs.ok (y::ys))=.ok rest:=hcd
              cases e3:cF h ft fe (ds.drop (i + 1)) ρ1 with
              | ok ys=>rw [e3] at hcd';cases hcd';exact ⟨y,ys,rfl,rfl,rfl⟩
              | ex c n=>rw [e3] at hcd';cases hcd'
              | no=>rw [e3] at hcd';cases hcd'
            | ex c n=>rw [e] at hcd;cases hcd
            | no=>rw [e] at hcd;cases hcd
          subst hr
          refine bo (he _ _ _ _ _ (G2,H2) _ s8 σ7 H8 (fun v H9=>∃ G9,Ext G8 H8 G9 H9/\Rep X.K G9 y v) I8 ⟨ρ1,G8,sr8,?_⟩) fun u9 s9 ⟨v9,H9,I9,r9,G9,e9,rep9⟩=>?_
          . rw [hy];exact fun v H9 G9 e9 r=>⟨G9,e9,r⟩
          have hD9:=e9.hh _ _ hD8
          have hG9:=e9.nw _ _ hD8 hG8
          have ryl:=ry8.length
          have hYl:yds.length < 1000000:=by
            have:=congrArg List.length hY
            rw [List.length_append,List.length_cons] at this
            omega
          refine bo (mX (X:=Y) _ s9 σ7 H9 (.ref D') [v9] (.ref D') [u9] (fun _ H10=>H10=bc H9 D' (.lst (yvs++[v9]))) I9 rfl (.cons r9 .nil) ⟨D',yvs,v9,rfl,rfl,hD9,by rw [<- ryl];exact Nat.lt_of_lt_of_le hYl (by rw [sizeLine_eq];decide),rfl⟩) fun _ s10 ⟨_,H10,I10,_,e10⟩=>?_
          subst e10
          obtain ⟨J1,J2,J3⟩:=again I10
          refine ⟨ds.length - (i + 1),by omega,i + 1,ρ1,σ7,_,G9,yds++[y],yvs++[v9],ys,J1,J2,J3,(sr8.ext e9).off no7 hD9 hG9 hD2,no7,aO,hG9,(ry8.mono e9.gg).append (.one rep9),hlt,rfl,hys,by rw [List.append_assoc];exact hY⟩
        | false =>
          rw [if_neg (by simp)] at hcd ⊢
          obtain ⟨J1,J2,J3⟩:=again I8
          exact ⟨ds.length - (i + 1),by omega,i + 1,ρ1,σ7,H8,G8,yds,yvs,rest,J1,J2,J3,sr8,no7,hD8,hG8,ry8,hlt,rfl,hcd,hY⟩
    . have ei:i=ds.length:=by omega
      subst ei
      obtain ⟨_,no⟩:=yl ds.length G' H' sr4.en.gg sr4.ext0
      rw [List.drop_length] at hcd
      cases hcd
      rw [List.append_nil] at hY
      subst hY
      refine bo (T.done Y rfl rfl rfl hc ds.length [] s4 σ' H' (fun _ _=>False) I4 (stat fr4) st4 (no (Nat.le_refl _))) fun r s5 ⟨hr,I5⟩=>?_
      subst hr
      obtain ⟨m,hm,_⟩:=I5.loc
      have ne:∀ b o,(s2.heap.push { cls:=.type "list",data:=.seq ([]:List Value).toArray }).get? b=some o->b≠C:=fun b o e z=>by
        have:=Heap.lt_size e
        rw [hC,z] at this
        exact Nat.lt_irrefl _ this
      have U:=I5.base
      have fC0:H' C=none:=I5.free
      have IX:∀ h',Heap.SameBut C s5.heap h'->Inv X pins σ H' { s5 with heap:=h' }:=fun h' hs'=>by
        refine I3.call' (ch:=fp) (s':={ s5 with heap:=h' }) I5.os ⟨fun b o e n hb hx=>?_,fun b o e n hb hx=>?_,U.free,fun b o e hx=>?_,U.tups,U.frzs,U.tbls⟩ (fun b o e=>?_) I5.bare fun b hb=>?_
        . exact (hs'.2 b (ne b o e)).trans (U.keep b o e n hb hx)
        . obtain ⟨sl,q⟩:=U.slot b o e n hb hx
          exact ⟨sl,(hs'.2 b (ne b o e)).trans q⟩
        . obtain ⟨o',q⟩:=U.there b o e hx
          exact ⟨o',(hs'.2 b (ne b o e)).trans q⟩
        . have fC:H' C=none:=I5.free
          refine (I5.hok b o e).stay (fun c' u' hc' q=>(hs'.2 c' ?_).trans q) (fun _ q=>q) fun _ _ q=>q
          rintro rfl
          rcases hc' with rfl|hc'
          . rw [fC] at e;cases e
          . rw [fC] at hc';cases hc'
        . obtain ⟨_,g2,_,g4,g5,g6⟩:=f2 b hb
          exact ⟨g4,g2,g5,g6⟩
      refine hQ D' C H' (bc G' D' (.lst yvs)) s5 _ ?_ ?_ ⟨m,hm⟩ (I3.fpOk (Nat.le_of_eq hC) fC0) IX
      . have gg:Same G' (bc G' D' (.lst yvs)):=fun b o z=>by rw [aI (aR z hG4)];exact z
        refine ⟨(x2.gg.trans sr4.en.gg).trans gg,x2.hh.trans sr4.en.hh,fun b o z=>?_,fun b xs z=>?_,fun b o z w=>?_⟩
        . by_cases e:b=D'
          . subst e;rw [aO] at z;cases z;exact hD4
          . rw [aI e] at z;exact sr4.en.gh b o z
        . by_cases e:b=D'
          . subst e;rw [hD4] at z;cases z
          . rw [aI e];exact sr4.en.tp b xs z
        . have z2:=x2.hh b o z
          rw [aI (aR z2 hD2)]
          exact sr4.en.nw b o z2 (x2.nw b o z w)
      . have gg:Same G' (bc G' D' (.lst yvs)):=fun b o z=>by rw [aI (aR z hG4)];exact z
        exact rep_lst.mpr ⟨D',yvs,rfl,.of aO,ry4.mono gg⟩
  have first:∀ tk,Jn ds.length { s2 with heap:=h₁,toks:=tk }:=fun tk=>by
    have IY':Inv Y [] (gD nt caps σ) (bc H2 s2.heap.objs.size (.lst [])) { s2 with heap:=h₁,toks:=tk }:=IY.tok tk
    refine ⟨0,cb nt caps ρ,gD nt caps σ,bc H2 D' (.lst []),G2,[],[],YS,IY',T.keep _ _ _ st2 fun b hb o e=>hk b o (Heap.get?_push_of_some _ e),fun b hb=>(fpok b hb).1.1,srY,ji,aO,sr2.en.gh.free hD2,reps_nil.mpr rfl,Nat.zero_le _,rfl,by simpa using hYS,rfl⟩
  exact codeAny_compStart_list (loop _ _ (first _)) (T.self _ 0 _ _ _ (T.keep _ _ _ st2 fun b hb o e=>hk b o (Heap.get?_push_of_some _ e)) (loop _ _ (first _)))
theorem yu {elt:Expr} {ifs:List Expr} {sc:Scope} {pos:Pos} {N:List Str} {nt:Nat} {caps:List Nat} {h:Tg} {ft:ah->Rs Bool} {fe:ah->Rs D} {fi:ah->Rs (List D)}
    (c:Caps X sc N nt caps) (hc:X.calm=true) (hnames:∀ y∈sc.names,y.2=.local->sc.names.lookup y.1=some .local) (hi:SI X B W tg iter fi) (hno:ii h)
    (ht:∀ s₀ H₀ C ex pins B',SG (cK X N s₀ H₀ sc (cj sc X.env) C ex pins) B' tg h)
    (hif:(ifs=[]/\ft=fun _=>.ok true)∨∃ c,ifs=[c]/\∀ s₀ H₀ C ex pins B',ST (cK X N s₀ H₀ sc (cj sc X.env) C ex pins) B' WF c ft)
    (he:∀ s₀ H₀ C ex pins B',SE (cK X N s₀ H₀ sc (cj sc X.env) C ex pins) B' WF elt fe)
    (hs:∀ x,foldedSetIterable iter X.env x=pure x:=by intro _;rfl) :
    SE X B W (.ListComp elt [⟨tg,iter,ifs,0⟩] sc pos) (bM h ft fe nt caps fi):=by
  intro pins s σ H Q I hw
  obtain ⟨ρ,G,sr,p⟩:=hw
  rw [eval_ListComp]
  refine nc c hc hnames hi hno ht hif he hs I sr ?_
  cases e:bM h ft fe nt caps fi ρ with
  | ok d =>
    rw [e] at p
    intro D' C H' G' s5 fl x r ⟨m,hm⟩ _ IX
    exact ⟨m,hm,fun h' hs'=>⟨.ref D',H',IX h' hs',rfl,p _ _ _ x r⟩⟩
  | ex c n=>rw [e] at p;exact p
  | no=>rw [e] at p;exact p
theorem lB {i:Nat} {y:Str} {py spos:Pos} {elt:Expr} {ifs:List Expr} {sc:Scope} {pos:Pos} {N:List Str} {nt:Nat} {caps:List Nat} {h:Tg} {ft:ah->Rs Bool} {fe:ah->Rs D} {fi:ah->Rs (List D)}
    (hN:X.N.Nodup) (hi':X.N[i]?=some y) (hx:gP X.env.scope y)
    (c:Caps X sc N nt caps) (hc:X.calm=true) (hnames:∀ y∈sc.names,y.2=.local->sc.names.lookup y.1=some .local) (hi:SI X B W tg iter fi) (hno:ii h)
    (ht:∀ s₀ H₀ C ex pins B',SG (cK X N s₀ H₀ sc (cj sc X.env) C ex pins) B' tg h)
    (hif:(ifs=[]/\ft=fun _=>.ok true)∨∃ c,ifs=[c]/\∀ s₀ H₀ C ex pins B',ST (cK X N s₀ H₀ sc (cj sc X.env) C ex pins) B' WF c ft)
    (he:∀ s₀ H₀ C ex pins B',SE (cK X N s₀ H₀ sc (cj sc X.env) C ex pins) B' WF elt fe)
    (hs:∀ x,foldedSetIterable iter X.env x=pure x) (hsw:swapsWith (.ListComp elt [⟨tg,iter,ifs,0⟩] sc pos) (some (.Name y py)) spos.line X.env=pure true)
    (hf:X.fn y=true∨X.env.scope.names.lookup y=some .local) :
    SS X B W (.Assign [.Name y py] (.ListComp elt [⟨tg,iter,ifs,0⟩] sc pos) spos) (fun ρ=>oR (bM h ft fe nt caps fi ρ) ρ fun d=>.nx (ρ.set i (.fz d))):=by
  intro pins s σ H De I hw
  obtain ⟨ρ,G,sr,p⟩:=hw
  dsimp only at p
  rw [exec_Assign_Name_used _ _ _ _ hsw]
  refine wpAny_bind (wpAny_standAt (wpAny_bind ?_))
  show wpAny _ X.A (do let _ <- comprehension (.ListComp elt [⟨tg,iter,ifs,0⟩] sc pos) sc X.env _ (newList []) _ _ (some (assign (.Name y py) X.env))) _ _ s
  refine wpAny_bind (wpAny_mono (nc (QQ:=fun _ s'=>_) c hc hnames hi hno ht hif he hs I sr ?_) (fun _ s' hq=>wpAny_pure (wpAny_pure hq)) fun _ _ e=>e)
  cases e:bM h ft fe nt caps fi ρ with
  | ok d =>
    rw [e] at p
    intro D' C H' G' s5 fl x r ⟨m,hm⟩ fp IX
    have I5:Inv X pins σ H' s5:=IX s5.heap (Heap.SameBut.refl C s5.heap)
    refine wpAny_assign_Name (mS I5 hN hi' hx (show RelV (.ref D') (.ref D') from rfl) (fun s6 I6 ⟨a,hs6,ha⟩=>?_) hf)
    have hCa:C≠a:=by
      rcases ha with rfl|ha
      . exact fp.2.1
      . exact Ne.symm (fp.2.2.2.2.1 _ _ ha)
    refine ⟨m,hm.sameBut hs6 hCa,fun h' hs'=>?_⟩
    exact ⟨_,H',I6.turned (t':=s6.toks) (fun b o hb e=>(hs'.2 b hb).trans e) fp.1 fp.2.1 fp.2.2.2.1 fp.2.2.2.2.1 fp.2.2.2.2.2,p _ _ G' ((sr.ext x).set r) x.gg⟩
  | ex c n=>rw [e] at p;exact fun H' G' x=>p σ H' G' (sr.ext x) x.gg
  | no=>rw [e] at p;exact p
end
end Vl
namespace Vl
open PySem PySem.Spec L2
section
variable {X:Cx} {K:PySem.W.Frag} {B:Hp×Hp} {W:Wi} {σ:St} {G H:Hp} {ρ:ah} {a b:Expr} {pos p:Pos} {fa fb:ah->Rs D}
def Az (K:PySem.W.Frag) (n:Nat):R2:=fun x y H Q=>∃ d d',Rep K H d x/\Rep K H d' y/\aL d<=n/\aL d'<=n/\Q (.bl (cx d d')) H
def AA (K:PySem.W.Frag) (n:Nat):R2:=fun x y H Q=>∃ d d',Rep K H d x/\Rep K H d' y/\aL d<=n/\aL d'<=n/\Q (.bl (!cx d d')) H
theorem ub {n:Nat} (hu:X.A.units + n < cLine):OpR X (compareOp .Eq) (Az X.K n):=by
  intro pins s σ H x y v u Q I rx ry ⟨d,d',r,r',hd,hd',q⟩
  exact Ag I hd hd' hu r r' rx ry X.prog X.w X.xe _ ⟨.bl _,H,I,rfl,q⟩
theorem uc {n:Nat} (hu:X.A.units + n < cLine):OpR X (compareOp .NotEq) (AA X.K n):=by
  intro pins s σ H x y v u Q I rx ry ⟨d,d',r,r',hd,hd',q⟩
  exact vU I hd hd' hu r r' rx ry X.prog X.w X.xe _ ⟨.bl _,H,I,rfl,q⟩
def bV:D->D->Rs D:=fun x y=>if aL x<=8/\aL y<=8 then .ok (.bl (cx x y)) else .no
def di:D->D->Rs D:=fun x y=>if aL x<=8/\aL y<=8 then .ok (.bl (!cx x y)) else .no
theorem ud:jJ K (Az K 8) bV:=by
  intro B W σ ρ G H x y v u Q s rx ry p
  unfold bV at p
  by_cases h:aL x<=8/\aL y<=8
  . rw [if_pos h] at p;exact ⟨x,y,rx.mono s.en.gh,ry.mono s.en.gh,h.1,h.2,Post.ok s p (rep_bl.mpr rfl)⟩
  . rw [if_neg h] at p;exact p.elim
theorem ue:jJ K (AA K 8) di:=by
  intro B W σ ρ G H x y v u Q s rx ry p
  unfold di at p
  by_cases h:aL x<=8/\aL y<=8
  . rw [if_pos h] at p;exact ⟨x,y,rx.mono s.en.gh,ry.mono s.en.gh,h.1,h.2,Post.ok s p (rep_bl.mpr rfl)⟩
  . rw [if_neg h] at p;exact p.elim
theorem aY {k:Nat} (hr:Room k X.A):X.A.units + 8 < cLine:=by have:=hr.un;omega
theorem sj (hu:X.A.units + 8 < cLine) (ha:SE X B W a fa) (hb:SE X B W b fb):SE X B W (.Compare a [.Eq] [b] pos) (ai bV fa fb):=oE (ub hu) ud ha hb (ic _)
theorem Cc (hu:X.A.units + 8 < cLine) (ha:SE X B W a fa) (hb:SE X B W b fb):SE X B W (.Compare a [.NotEq] [b] pos) (ai di fa fb):=oE (uc hu) ue ha hb (ic _)
theorem eu (hu:X.A.units + 8 < cLine) (ha:SE X B W a fa) (hb:SE X B W b fb):ST X B W (.Compare a [.Eq] [b] pos) (fT (ai bV fa fb)):=iN (ub hu) ud ha hb (ic _)
theorem iu (hu:X.A.units + 8 < cLine) (ha:SE X B W a fa) (hb:SE X B W b fb):ST X B W (.Compare a [.NotEq] [b] pos) (fT (ai di fa fb)):=iN (uc hu) ue ha hb (ic _)
def AB:=qX fun i j=>D.bl (decide (i < j))
def Dr:=qX fun i j=>D.bl (decide (i<=j))
def AC:=qX fun i j=>D.bl (decide (j < i))
def AD:=qX fun i j=>D.bl (decide (j<=i))
theorem Cd (ha:SE X B W a fa) (hb:SE X B W b fb):ST X B W (.Compare a [.Lt] [b] pos) (fT (ai AB fa fb)):=iN BQ (lm fun _ _ _=>rep_bl.mpr rfl) ha hb (ic _)
theorem Ce (ha:SE X B W a fa) (hb:SE X B W b fb):ST X B W (.Compare a [.Gt] [b] pos) (fT (ai AC fa fb)):=iN BR (lm fun _ _ _=>rep_bl.mpr rfl) ha hb (ic _)
theorem Cf (ha:SE X B W a fa) (hb:SE X B W b fb):ST X B W (.Compare a [.GtE] [b] pos) (fT (ai AD fa fb)):=iN BS (lm fun _ _ _=>rep_bl.mpr rfl) ha hb (ic _)
inductive Ty where
  | int|bool|str|tuple|list|dict
def Ty.nm:Ty->String
  | .int=>"int"|.bool=>"bool"|.str=>"str"|.tuple=>"tuple"|.list=>"list"|.dict=>"dict"
def xC:D->Ty->Bool
  | .int _,.int=>true
  | .bl _,.bool=>true
  | .bl _,.int=>true
  | .str _,.str=>true
  | .tup _,.tuple=>true
  | .lst _,.list=>true
  | _,_=>false
def Ds:D->String
  | .non=>"NoneType"|.bl _=>"bool"|.int _=>"int"|.str _=>"str"|.tup _=>"tuple"|.lst _=>"list"|.exn _ _=>""
def uf:D->Bool
  | .exn _ _=>true
  | _=>false
theorem Cg (d:D) (t:Ty) (hx:uf d=false):PySem.W.kitOne K (.type (Ds d)) (.type t.nm)=some (xC d t):=by
  cases d <;> first|(cases hx;done)|(cases t <;> kernel_rfl)
theorem AE {pins:List (Addr×Obj)} {s:Shared} {A:Around} {E Q:Value->Shared->Prop} {d:D} {v:V} {u:Value} {t:Ty} (I:Inv X pins σ H s) (hx:uf d=false) (r:Rep X.K H d v) (rv:RelV v u) (h:∀ tk,Q (.bool (xC d t)) { s with toks:=tk }) :
    wpAny (model X.prog X.w) A (call (.builtin "isinstance") [u,.type t.nm]) Q E s:=by
  have e:=Cg (K:=X.K) d t hx
  cases d with
  | non=>rw [rep_non.mp r] at rv;cases rv;exact PySem.W.kia_one PySem.W.kitx_none I.kIn True.intro e (fun z=>nomatch z) h
  | bl y=>rw [rep_bl.mp r] at rv;cases rv;exact PySem.W.kia_one PySem.W.kitx_bool I.kIn True.intro e (fun z=>nomatch z) h
  | int i=>rw [rep_int.mp r] at rv;obtain ⟨t,rfl⟩:=rv;exact PySem.W.kia_one PySem.W.kitx_int I.kIn True.intro e (fun z=>nomatch z) h
  | str i=>rw [rep_str.mp r] at rv;obtain ⟨t,rfl⟩:=rv;exact PySem.W.kia_one PySem.W.kitx_str I.kIn True.intro e (fun z=>nomatch z) h
  | tup ds =>
    obtain ⟨a,vs,rfl,q,_⟩:=rep_tup.mp r
    cases rv
    obtain ⟨_,_,⟨o,h1,h2,_⟩,_⟩:=I.tuple q
    exact PySem.W.kia_one PySem.W.kitx_tuple I.kIn ⟨o,h1,h2⟩ e (fun z=>nomatch z) h
  | lst ds =>
    obtain ⟨a,vs,rfl,q,_⟩:=rep_lst.mp r
    cases rv
    obtain ⟨_,_,⟨o,n,h1,h2,_⟩,_⟩:=I.list q
    exact PySem.W.kia_one PySem.W.kitx_list I.kIn ⟨o,h1,h2⟩ e (fun z=>nomatch z) h
  | exn c n=>cases hx
def Dc (K:PySem.W.Frag) (t:Ty):List V->Hp->VK->Prop:=fun xs H Q=>∃ v d,xs=[v,.ty t.nm]/\uf d=false/\Rep K H d v/\Q (.bl (xC d t)) H
theorem we {t:Ty}:cW X (.builtin "isinstance") (Dc X.K t):=by
  intro pins s σ H xs us Q I r ⟨v,d,e,hx,rd,q⟩
  subst e
  cases r with
  | cons r1 r2 =>
    cases r2 with
    | cons r3 r4 =>
      cases r4
      cases r3
      exact AE I hx rd r1 fun tk=>⟨.bl _,H,I.tok tk,rfl,q⟩
def rf (t:Ty):D->Rs D:=fun d=>if uf d=false then .ok (.bl (xC d t)) else .no
theorem Ch {t:Ty} {x:Str} {e:Expr} {p1 p2:Pos} {f:ah->Rs D} (hm:X.mg "isinstance"=none) (hmt:X.mg x=none) (he:SE X B W e f) (hv:bootBuiltins x=some (.type t.nm)) (hg:Gl X "isinstance":=by rfl) (hgx:Gl X x:=by rfl)
    (hst:starEach [e,.Name x p2] X.env=[(false,eval e X.env),(false,eval (.Name x p2) X.env)]:=by rfl) (hst2:starEach [.Name x p2] X.env=[(false,eval (.Name x p2) X.env)]:=by rfl) (hn:x≠"__name__":=by decide) (hd:(x == ("__debug__":Str))=false:=by decide) :
    SE X B W (.Call (.Name "isinstance" p1) [e,.Name x p2] [] pos) (fun ρ=>(f ρ).bind (rf t)):=by
  refine PE.imp (fY (we (t:=t)) hg hm PyProof.Rows.boot_isinstance (cT he (cT (xT (v:=.ty t.nm) hgx hmt hv rfl hn hd) eA (by rw [hst2];rfl)) (by rw [hst,hst2])) (by decide) (by decide) (by rw [hst,hst2]) (by rw [hst2];rfl)) fun σ H Q h=>?_
  obtain ⟨ρ,G,s,p⟩:=gX (k:=fun _=>rf t) h
  refine ⟨ρ,G,s,p.mono fun v H1 ⟨ρ1,G1,d,s1,r,q⟩=>?_⟩
  unfold rf at q
  by_cases hx:uf d=false
  . rw [if_pos hx] at q;exact ⟨v,d,rfl,hx,r.mono s1.en.gh,Post.ok s1 q (rep_bl.mpr rfl)⟩
  . rw [if_neg hx] at q;exact q.elim
def jj:List D->Option (List Bool)
  | []=>some []
  | .bl b::ds=>(jj ds).map (b::·)
  | _=>none
theorem lC:∀ {ds:List D} {vs:List V} {bs:List Bool},Reps K G ds vs->jj ds=some bs->vs=bs.map V.bl
  | [],_,bs,r,e=>by cases e;rw [reps_nil.mp r];rfl
  | .bl b::ds,_,bs,r,e=>by
    obtain ⟨v,vs',rfl,r1,r2⟩:=reps_cons.mp r
    simp only [jj] at e
    cases e1:jj ds with
    | none=>rw [e1] at e;cases e
    | some cs=>rw [e1] at e;cases e;rw [rep_bl.mp r1,lC r2 e1];rfl
  | .non::_,_,_,_,e=>by cases e
  | .int _::_,_,_,_,e=>by cases e
  | .str _::_,_,_,_,e=>by cases e
  | .tup _::_,_,_,_,e=>by cases e
  | .lst _::_,_,_,_,e=>by cases e
  | .exn _ _::_,_,_,_,e=>by cases e
theorem lD:∀ {bs:List Bool} {us:List Value},Vals (bs.map V.bl) us->us=bs.map Value.bool
  | [],_,.nil=>rfl
  | b::bs,_,.cons r t=>by rw [lD t];cases r;rfl
theorem ug (bs:List Bool):(List.range bs.length).all (fun i=>bs.getD i false)=bs.all id:=by
  induction bs with
  | nil=>rfl
  | cons b bs ih =>
    rw [List.length_cons,List.range_succ_eq_map,List.all_cons,List.all_map,List.all_cons,<- ih]
    simp [Function.comp_def]
theorem qu {prog:Program} {w:World} {A:Around} (bs:List Bool):TruthOf prog w A (fun i v=>(bs.map Value.bool).toArray[i]?=some v) fun i=>bs.getD i false:=by
  intro i v s Q E hP hQ
  have hP':(bs.map Value.bool)[i]?=some v:=by simpa using hP
  rw [List.getElem?_map] at hP'
  cases e:bs[i]? with
  | none=>rw [e] at hP';cases hP'
  | some b =>
    rw [e] at hP'
    cases hP'
    dsimp only at hQ
    rw [List.getD_eq_getElem?_getD,e] at hQ
    exact wpAny_truthy_bool hQ
theorem uh (hc:X.calm=true):cW X (.builtin "all") (fun xs H Q=>∃ (p:Addr) (bs:List Bool),xs=[.ref p]/\SqL X.K H p (bs.map V.bl)/\Q (.bl (bs.all id)) H):=by
  intro pins s σ H xs us Q I r ⟨p,bs,e,q,k⟩
  subst e
  obtain ⟨u,rfl,rx⟩:=r.one
  cases rx
  obtain ⟨its,rv,pl,_⟩:=I.list q
  have ei:=lD rv
  subst ei
  refine call_all_walk (wpAny_pyIter_list pl.isList ?_)
  refine ⟨_,_,_,_,_,_,fun i=>bs.getD i false,rfl,Walks.list (by show X.A.handled=none;exact I.ok.hd hc) _ p (Nat.ne_of_lt (by obtain ⟨o,_,e,_⟩:=pl;exact Heap.lt_size e)) (bs.map Value.bool).toArray,⟨⟨_,Heap.get?_push_size _ rfl,rfl,rfl⟩,pl.isList.push _⟩,qu bs,fun h' tk hk=>?_⟩
  have e:(List.range (bs.map Value.bool).toArray.size).all (fun i=>bs.getD i false)=bs.all id:=by
    rw [List.size_toArray,List.length_map];exact ug bs
  rw [e]
  refine ⟨.bl _,H,I.kept (t':=tk) (h':=h') fun b o z=>hk b o ?_ (Heap.get?_push_of_some _ z),rfl,k⟩
  intro hb
  have:b=s.heap.objs.size:=by simpa using hb
  rw [this] at z
  exact absurd (Heap.lt_size z) (Nat.lt_irrefl _)
def mv:List D->Rs D
  | [.lst ds]=>match jj ds with|some bs=>.ok (.bl (bs.all id))|none=>.no
  | _=>.no
theorem AF:gp K (fun xs H Q=>∃ (p:Addr) (bs:List Bool),xs=[.ref p]/\SqL K H p (bs.map V.bl)/\Q (.bl (bs.all id)) H) mv:=by
  intro B W σ ρ G H ds vs Q s r p
  unfold mv at p
  split at p
  . rename_i es
    split at p
    . rename_i bs e
      obtain ⟨v,vs',rfl,r1,r2⟩:=reps_cons.mp r
      obtain ⟨a,us,rfl,q,rr⟩:=rep_lst.mp r1
      rw [reps_nil.mp r2]
      have e2:=lC rr e
      subst e2
      exact ⟨a,bs,rfl,s.en.gh.seq q,Post.ok s p (rep_bl.mpr rfl)⟩
    . exact p.elim
  . exact p.elim
end
end Vl
namespace Vl
open PySem PySem.Spec L2
theorem Inv.moved {X:Cx} {pins:List (Addr×Obj)} {σ:St} {H:Hp} {s:Shared} {h':Heap} {t':Nat} (I:Inv X pins σ H s) (ch:List Addr)
    (hch:∀ b∈ch,X.s₀.heap.get? b=none/\b≠X.env.locals/\(∀ x c,X.env.cells.lookup x=some c->c≠b)/\(∀ p∈X.pn++pins,p.1≠b)/\H b=none)
    (keep:∀ b o,b∉cV X.stack->b∉ch->s.heap.get? b=some o->h'.get? b=some o)
    (slot:∀ b o,b∈cV X.stack->s.heap.get? b=some o->∃ sl,h'.get? b=some { o with slots:=sl }):Inv X pins σ H { s with heap:=h',toks:=t' }:=by
  have sub:=I.stkSub
  have sup:∀ b∈X.fs,b∈cV X.stack:=fun b hb=>by
    rcases I.ok.stk with e|⟨e,hf⟩
    . rw [e];exact hb
    . rw [e];unfold cV;rw [List.filterMap_cons,hf];exact List.mem_cons_of_mem _ hb
  have neL:∀ b o,X.s₀.heap.get? b=some o->b≠X.env.locals:=fun b o e=>Nat.ne_of_lt (Nat.lt_of_lt_of_le (Heap.lt_size e) I.ok.above)
  have nch:∀ b o,X.s₀.heap.get? b=some o->b∉ch:=fun b o e z=>by rw [(hch b z).1] at e;cases e
  have any:∀ b o,b∉ch->s.heap.get? b=some o->∃ sl,h'.get? b=some { o with slots:=sl }:=fun b o hc e=>by
    by_cases hb:b∈cV X.stack
    . exact slot b o hb e
    . exact ⟨o.slots,keep b o hb hc e⟩
  have lch:X.env.locals∉ch:=fun z=>(hch _ z).2.1 rfl
  have cch:∀ x c,X.env.cells.lookup x=some c->c∉ch:=fun x c e z=>(hch c z).2.2.1 x c e rfl
  have cellK:∀ x c v,X.env.cells.lookup x=some c->s.heap.IsCell c v->h'.IsCell c v:=fun x c v e ⟨o,ho,hd⟩=>by
    obtain ⟨sl,q⟩:=any c o (cch x c e) ho
    exact ⟨_,q,hd⟩
  refine ⟨I.ok,I.os,I.bare,⟨fun b o e n hb hx=>?_,fun b o e n hb hx=>?_,I.base.free,fun b o e hx=>?_,I.base.tups,I.base.frzs,I.base.tbls⟩,?_,fun x c e=>?_,I.free,I.freeC,fun p hp=>?_,fun b o e=>?_,I.len⟩
  . exact keep b o (fun z=>(List.mem_cons.mp (sub b z)).elim (neL b o e) hb) (nch b o e) (I.base.keep b o e n hb hx)
  . obtain ⟨sl,q⟩:=I.base.slot b o e n hb hx
    obtain ⟨sl',q'⟩:=slot b _ (sup b hb) q
    exact ⟨sl',q'⟩
  . obtain ⟨o',q⟩:=I.base.there b o e hx
    obtain ⟨sl,q'⟩:=any b o' (nch b o e) q
    exact ⟨_,q'⟩
  . obtain ⟨m,⟨o,es,ep,ho,r⟩,hl⟩:=I.loc
    obtain ⟨sl,q⟩:=any _ o lch ho
    refine ⟨m,⟨_,es,ep,q,r⟩,fun i x v h1 h2 h3=>?_⟩
    obtain ⟨u,ru,l⟩:=hl i x v h1 h2 h3
    refine ⟨u,ru,?_⟩
    rcases l with l|⟨k,c,e,z⟩
    . exact .inl l
    . exact .inr ⟨k,c,e,cellK x c _ e z⟩
  . obtain ⟨v,z⟩:=I.cell x c e
    exact ⟨v,cellK x c v e z⟩
  . obtain ⟨e,n,ne,nf,d⟩:=I.pin p hp
    exact ⟨keep _ _ (fun z=>(List.mem_cons.mp (sub _ z)).elim ne nf) (fun z=>(hch _ z).2.2.2.1 p hp rfl) e,n,ne,nf,d⟩
  . have tr:∀ c u,H c=some u->c∉cV X.stack/\c∉ch:=fun c u z=>⟨fun w=>(by rw [I.stkFree c w] at z;cases z),fun w=>(by rw [(hch c w).2.2.2.2] at z;cases z)⟩
    refine (I.hok b o e).stay (fun c u hc q=>?_) (fun _ q=>q) fun _ _ q=>q
    rcases hc with hc|hc
    . subst hc;exact keep c u (tr c _ e).1 (tr c _ e).2 q
    . exact keep c u (tr c _ hc).1 (tr c _ hc).2 q
def Tr (h:Heap) (H:Hp) (old:Heap) (av:List Addr) (ea:Addr) (vs:Array Value):Prop:=∃ T oT ts,vs[1]?=some (.ref T)/\T≠ea/\h.get? T=some oT/\oT.data=.fields ts/\ts[3]?=some .none/\H T=none/\old.get? T=none/\T∉av
def ui (K:PySem.W.Frag) (old:Heap) (av:List Addr) (ea:Addr) (c:Str) (n:Int) (h:Heap) (H:Hp) (tr:Bool):Prop :=
  ∃ C oe vs a0,PySem.W.nsIn K mainGlobals c=some (some (.ref C))/\h.get? ea=some oe/\oe.cls=.ref C/\oe.data=.fields vs/\vs[0]?=some a0/\H ea=none/\old.get? ea=none/\ea∉av/\n=0 /\
    (if tr=true then Tr h H old av ea vs else vs[1]?=some .none)
def iP (P:Program) (w:World) (K:PySem.W.Frag):ky:=fun outer H s E e s'=>∃ ea c n H',e=.ref ea/\s'.os=s.os/\PyProof.Rows.AllBare s'.gens/\Un (cV outer) [] H H' s.heap s'.heap/\HOk P w H' s'.heap/\ui K s.heap [] ea c n s'.heap H' true/\E (fX c n) none H'
def xD (X:Cx) (W:Wi):Prop:=∀ pins σ H s ea c n tr,Inv X pins σ H s->ui X.K X.s₀.heap ((X.pn++pins).map (·.1)) ea c n s.heap H tr->W c n σ H->X.xe (.ref ea) s
section
variable {X:Cx} {pins:List (Addr×Obj)} {σ:St} {H:Hp} {s:Shared} {ea:Addr} {c:Str} {n:Int} {tr:Bool}
theorem AG (I:Inv X pins σ H s) {b:Addr} {o:Obj} {vs:Array Value} (e:s.heap.get? b=some o) (d:o.data=.fields vs) (hold:X.s₀.heap.get? b=none) (hn:H b=none) (hp:∀ p∈X.pn++pins,p.1≠b) :
    X.s₀.heap.get? b=none/\b≠X.env.locals/\(∀ x c,X.env.cells.lookup x=some c->c≠b)/\(∀ p∈X.pn++pins,p.1≠b)/\H b=none:=by
  refine ⟨hold,fun z=>?_,fun x c hc z=>?_,hp,hn⟩
  . obtain ⟨m,⟨o',es,ep,ho,hd,_⟩,_⟩:=I.loc
    rw [<- z,e] at ho;cases ho;rw [d] at hd;cases hd
  . obtain ⟨v,o',ho,hd⟩:=I.cell x c hc
    rw [z,e] at ho;cases ho;rw [d] at hd;cases hd
theorem sk {P:Program} {w:World} {H:Hp} {h:Heap} {a:Addr} {o:HO} (x:ObjOk P w H h a o):∃ u,h.get? a=some u:=by
  induction o with
  | lst xs=>obtain ⟨z,its,n,r,e⟩:=x;exact ⟨_,e⟩
  | tup xs=>obtain ⟨z,its,r,ob,e,c⟩:=x;exact ⟨_,e⟩
  | dK kvs=>obtain ⟨z,y,vs,r,ob,es,ep,e,c⟩:=x;exact ⟨_,e⟩
  | dT kvs=>obtain ⟨z,y,xs,r,ob,es,ep,e,c⟩:=x;exact ⟨_,e⟩
  | set S n=>obtain ⟨ob,es,ep,t,e,c⟩:=x;exact ⟨_,e⟩
  | ins C dx fs=>obtain ⟨d,z,ne,e,_⟩:=x;exact ⟨_,e⟩
  | own y=>obtain ⟨ob,e⟩:=x;exact ⟨_,e⟩
  | xd fs=>obtain ⟨mA,⟨od,es,ep,e,c⟩,r⟩:=x;exact ⟨_,e⟩
  | rng lo hi=>obtain ⟨t,u,v,e⟩:=x;exact ⟨_,e⟩
  | frz ob u ih=>obtain ⟨e,q⟩:=x;exact ⟨_,e⟩
  | tbl ps=>exact ⟨_,(show h.get? a=some { cls:=.none,data:=.fields ps } from x)⟩
  | met f y=>exact ⟨_,(show h.get? a=some (PySem.W.methodObj (.ref f) (.ref y)) from x)⟩
  | ext φ=>obtain ⟨p,⟨o,e⟩,st⟩:=x;exact ⟨_,e⟩
theorem uj (I:Inv X pins σ H s) {ch:List Addr} {h':Heap} {t':Nat} (hch:∀ b∈ch,∃ o vs,s.heap.get? b=some o/\o.data=.fields vs/\X.s₀.heap.get? b=none/\H b=none/\b∉(X.pn++pins).map (·.1))
    (st:(PySem.W.hideAll s.heap (cV X.stack++ch)).StaysIn h') (up:s.heap.UpToSlots h'):Inv X pins σ H { s with heap:=h',toks:=t' }:=by
  refine Inv.moved I ch (fun b hb=>?_) (fun b o h1 h2 e=>st b o (PySem.W.hideAll_get _ e (by rw [List.mem_append];exact fun z=>z.elim h1 h2))) (fun b o hb e=>?_)
  . obtain ⟨o,vs,e,d,h1,h2,h3⟩:=hch b hb
    exact AG I e d h1 h2 fun p hp z=>h3 (List.mem_map.mpr ⟨p,hp,z⟩)
  . obtain ⟨_,o',ho,hnf⟩:=I.stack.mem hb
    rw [e] at ho;cases ho
    exact up b o e hnf
theorem yw (I:Inv X pins σ H s) (hex:X.ex=[]) {ch:List Addr} {h':Heap} {T:Addr} {oT:Obj} {ts:Array Value} (hch:∀ b∈ch,∃ o vs,s.heap.get? b=some o/\o.data=.fields vs/\X.s₀.heap.get? b=none/\H b=none/\b∉(X.pn++pins).map (·.1))
    (up:s.heap.UpToSlots h') (hT:h'.get? T=some oT) (dT:oT.data=.fields ts) (hn:(PySem.W.hideAll s.heap (cV X.stack++ch)).get? T=none) :
    H T=none/\X.s₀.heap.get? T=none/\T∉(X.pn++pins).map (·.1):=by
  by_cases hc:T∈ch
  . obtain ⟨o,vs,e,d,h1,h2,h3⟩:=hch T hc
    exact ⟨h2,h1,h3⟩
  have hf:T∉cV X.stack:=fun z=>by
    obtain ⟨_,o',ho,hnf⟩:=I.stack.mem z
    obtain ⟨sl,q⟩:=up T o' ho hnf
    rw [hT] at q;cases q
    exact hnf ts dT
  have hs:s.heap.get? T=none:=by
    cases e:s.heap.get? T with
    | none=>rfl
    | some o=>rw [PySem.W.hideAll_get _ e (by rw [List.mem_append];exact fun z=>z.elim hf hc)] at hn;cases hn
  refine ⟨?_,?_,fun z=>?_⟩
  . cases e:H T with
    | none=>rfl
    | some u =>
      obtain ⟨o,z⟩:=sk (I.hok T u e)
      rw [hs] at z;cases z
  . cases e:X.s₀.heap.get? T with
    | none=>rfl
    | some o =>
      obtain ⟨o',q⟩:=I.base.there T o e (by rw [hex];simp)
      rw [hs] at q;cases q
  . obtain ⟨p,hp,e⟩:=List.mem_map.mp z
    have:=(I.pin p hp).1
    rw [e,hs] at this;cases this
end
end Vl
namespace Vl
open PySem PySem.Spec L2
section
variable {X:Cx} {pins:List (Addr×Obj)} {σ:St} {H:Hp} {s:Shared} {ea:Addr} {c:Str} {n:Int} {tr:Bool}
theorem AH (I:Inv X pins σ H s) (F:ui X.K X.s₀.heap ((X.pn++pins).map (·.1)) ea c n s.heap H tr) :
    ∃ ch:List Addr,ea∈ch/\(∀ b∈ch,∃ o vs,s.heap.get? b=some o/\o.data=.fields vs/\X.s₀.heap.get? b=none/\H b=none/\b∉(X.pn++pins).map (·.1)) /\
      ∃ C oe vs a0,PySem.W.nsIn X.K mainGlobals c=some (some (.ref C))/\s.heap.get? ea=some oe/\oe.cls=.ref C/\oe.data=.fields vs/\vs[0]?=some a0/\n=0/\X.s₀.heap.get? ea=none/\H ea=none/\ea∉(X.pn++pins).map (·.1) /\
        (if tr=true then ∃ T oT ts,vs[1]?=some (.ref T)/\T∈ch/\T≠ea/\s.heap.get? T=some oT/\oT.data=.fields ts/\ts[3]?=some .none else vs[1]?=some .none):=by
  obtain ⟨C,oe,vs,a0,h1,h2,h3,h4,h5,h6,h7,h8,h9,h10⟩:=F
  cases tr with
  | false =>
    refine ⟨[ea],by simp,fun b hb=>?_,C,oe,vs,a0,h1,h2,h3,h4,h5,h9,h7,h6,h8,h10⟩
    obtain rfl:b=ea:=by simpa using hb
    exact ⟨oe,vs,h2,h4,h7,h6,h8⟩
  | true =>
    rw [if_pos rfl] at h10
    obtain ⟨T,oT,ts,t1,t2,t3,t4,t5,t6,t7,t8⟩:=h10
    refine ⟨[ea,T],by simp,fun b hb=>?_,C,oe,vs,a0,h1,h2,h3,h4,h5,h9,h7,h6,h8,?_⟩
    . rcases List.mem_cons.mp hb with rfl|hb
      . exact ⟨oe,vs,h2,h4,h7,h6,h8⟩
      . obtain rfl:b=T:=by simpa using hb
        exact ⟨oT,ts,t3,t4,t7,t6,t8⟩
    . rw [if_pos rfl]
      exact ⟨T,oT,ts,t1,by simp,t2,t3,t4,t5⟩
theorem yx {M:Model} {Q:Unit->Shared->Prop} {E:Value->Shared->Prop} {outer:List Env} {L:Addr} (hst:X.stack=X.env::outer) (hf:X.env.frame=some L) (hex:X.ex=[]) (I:Inv X pins σ H s) (F:ui X.K X.s₀.heap ((X.pn++pins).map (·.1)) ea c n s.heap H tr)
    (hQ:∀ h',Inv X pins σ H { s with heap:=h' }->ui X.K X.s₀.heap ((X.pn++pins).map (·.1)) ea c n h' H true->Q () { s with heap:=h' }):wpAny M X.A (leaving X.env (.ref ea)) Q E s:=by
  obtain ⟨ch,he,hch,C,oe,vs,a0,h1,h2,h3,h4,h5,h9,h7,h6,h8,h10⟩:=AH I F
  have hfr:X.A.frames=some (X.env::outer):=by rw [<- hst];exact I.ok.frames
  have hl:s.heap.FunFrames (PySem.W.hideAll s.heap (cV X.stack++ch)) (X.env::outer):=by
    have:=PySem.W.funFrames_hide (as:=cV X.stack++ch) I.stack fun env he b hb=>List.mem_append_left _ (List.mem_filterMap.mpr ⟨env,he,hb⟩)
    rw [hst] at this ⊢;exact this
  have hkb:(PySem.W.hideAll s.heap (cV X.stack++ch)).StaysIn s.heap:=fun b o e=>PySem.W.of_hideAll _ e
  have hn:∀ b∈ch,(PySem.W.hideAll s.heap (cV X.stack++ch)).get? b=none:=fun b hb=>PySem.W.hideAll_none _ (List.mem_append_right _ hb)
  have be:∀ h',(PySem.W.hideAll s.heap (cV X.stack++ch)).StaysIn h'->h'.TracedW (PySem.W.hideAll s.heap (cV X.stack++ch)) ea oe.cls a0->s.heap.UpToSlots h'->Q () { s with heap:=h' }:=fun h' k1 k2 k3=>by
    have I':=uj (t':=s.toks) I hch k1 k3
    obtain ⟨oe',vs',T,oT,ts,e1,⟨e2,e3⟩,e4,e5,e6,e7,e8,e9,e10⟩:=k2
    obtain ⟨n1,n2,n3⟩:=yw I hex hch k3 e8 e9 e6
    refine hQ h' I' ⟨C,oe',vs',a0,h1,e1,e2.trans h3,e4,e3,h6,h7,h8,h9,?_⟩
    rw [if_pos rfl]
    exact ⟨T,oT,ts,e5,e7,e8,e9,e10,n1,n2,n3⟩
  cases tr with
  | false =>
    rw [if_neg (by decide)] at h10
    exact wpAny_leaving_firstW hfr hl hf h2 hkb (hn _ he) h4 h10 h5 fun h' ⟨k1,_,k2,k3⟩=>be h' k1 k2 k3
  | true =>
    rw [if_pos rfl] at h10
    obtain ⟨T,oT,ts,t1,t0,t2,t3,t4,t5⟩:=h10
    exact wpAny_leaves_onW hfr hf ⟨hkb,hn _ he,hl,oe,vs,T,oT,ts,h2,⟨rfl,h5⟩,h4,t1,hn _ t0,t2,t3,t4,t5⟩ fun h' ⟨k1,_,_,k2⟩ k3=>be h' k1 k2 k3
end
section
variable {P:Program} {w:World} {K:PySem.W.Frag} {mg:Str->Option Value} {base:Heap} {x qual:Str} {st:Stmt} {f:Addr} {fd:FuncData} {N ps:List Str} {k:Nat}
theorem ng {scope:Scope} {cdv:Value} {A:Around} {outer:List Env} {s:Shared} {H:Hp} {E:XK}:xD (ie (iP P w K) P w K mg base N qual scope f cdv A outer s H E) (fun c n _ H'=>E (fX c n) none H'):=by
  intro pins σ H1 s1 ea c n tr I F w1
  refine yx (L:=s.heap.objs.size) (outer:=outer) rfl rfl rfl I F fun h' I' F'=>?_
  obtain ⟨C,oe,vs,a0,h1,h2,h3,h4,h5,h6,h7,h8,h9,h10⟩:=F'
  refine ⟨ea,c,n,H1,rfl,I'.os,I'.bare,I'.base,I'.hok,⟨C,oe,vs,a0,h1,h2,h3,h4,h5,h6,h7,by simp,h9,?_⟩,w1⟩
  rw [if_pos rfl] at h10 ⊢
  obtain ⟨T,oT,ts,t1,t2,t3,t4,t5,t6,t7,t8⟩:=h10
  exact ⟨T,oT,ts,t1,t2,t3,t4,t5,t6,t7,by simp⟩
end
end Vl
namespace Vl
open PySem PySem.Spec L2
theorem yy {a b:Int} (h:xA a=xA b):a=b:=by
  unfold xA at h
  split at h <;> split at h <;> omega
theorem yz {c c':Str} {n n':Int} (h:fX c n=fX c' n'):c=c'/\n=n':=by
  unfold fX at h
  injection h with h1 h2
  exact ⟨h1,yy h2⟩
def ki (X:Cx) (W:Wi):Prop:=∀ (pins:List (Addr×Obj)) (σ:St) (H:Hp) (s:Shared) (e:Value) (s':Shared),Inv X pins σ H s ->
  iP X.prog X.w X.K X.stack H s (fun v _ H'=>∃ c n,v=fX c n/\W c n σ H') e s'->X.xe e s'
theorem br {X:Cx}:ki X WF:=fun pins σ H s e s' I ⟨ea,c,n,H',_,_,_,_,_,_,_,_,_,w⟩=>w.elim
theorem oX {X:Cx} {W:Wi} (hp:xD X W) (hex:X.ex=[]):ki X W:=by
  intro pins σ H s e s' I ⟨ea,c,n,H',e1,os,bare,un,hok,F,c0,n0,e2,w⟩
  subst e1
  obtain ⟨rfl,rfl⟩:=yz e2
  have I':Inv X pins σ H' s':=I.call' (ch:=[]) os un hok bare (fun b z=>absurd z (by simp))
  obtain ⟨C,oe,vs,a0,h1,h2,h3,h4,h5,h6,h7,h8,h9,h10⟩:=F
  have old:∀ b,s.heap.get? b=none->X.s₀.heap.get? b=none:=fun b hb=>by
    cases q:X.s₀.heap.get? b with
    | none=>rfl
    | some o =>
      obtain ⟨o',z⟩:=I.base.there b o q (by rw [hex];simp)
      rw [hb] at z;cases z
  have npin:∀ b,s.heap.get? b=none->b∉(X.pn++pins).map (·.1):=fun b hb z=>by
    obtain ⟨p,hp,e⟩:=List.mem_map.mp z
    have:=(I.pin p hp).1
    rw [e,hb] at this;cases this
  refine hp pins σ H' s' ea c n true I' ⟨C,oe,vs,a0,h1,h2,h3,h4,h5,h6,old _ h7,npin _ h7,h9,?_⟩ w
  rw [if_pos rfl] at h10 ⊢
  obtain ⟨T,oT,ts,t1,t2,t3,t4,t5,t6,t7,t8⟩:=h10
  exact ⟨T,oT,ts,t1,t2,t3,t4,t5,t6,old _ t7,npin _ t7⟩
section
variable {P:Program} {w:World} {K:PySem.W.Frag} {mg:Str->Option Value} {base:Heap} {x qual:Str} {st:Stmt} {f:Addr} {fd:FuncData} {N ps:List Str} {k:Nat}
theorem AI {g:ah->Ou} (F:Fun K x qual st f fd) (S:FnScope N ps (au st))
    (hb:∀ (cdv:Value) (A:Around) (outer:List Env) (s:Shared) (H:Hp) (E:XK) (B:Hp×Hp),Room k (A.deeper (PyProof.Rows.envOfC qual (au st) s.heap.objs.size f cdv)) ->
      eC (ie (iP P w K) P w K mg base N qual (au st) f cdv A outer s H E) B (fun c n _ H'=>E (fX c n) none H') (aT st) g) :
    FnOk P w K mg base (iP P w K) (k + 1) f fd ps (oQ K ps.length fun ds=>be (g (aG N ds))):=by
  obtain ⟨oc,od,kV,doc,pm,an,cdv,ct,osl,rfl,lk,hcd⟩:=F.ex
  refine BU lk hcd S (fun vs H Q E h=>h.1) fun A outer s H vs Q E hr h=>?_
  obtain ⟨_,G,ds,e,r,h⟩:=h
  dsimp only at h
  exact ⟨_,hb cdv A outer s H E (G,H) hr,aG N ds,G,wa e r,wb (B:=(G,H)) h⟩
end
def aH (n:Nat) (g:List D->Rs D):List D->Rs D:=fun ds=>if ds.length=n then g ds else .no
section
variable {X:Cx} {B:Hp×Hp} {W:Wi}
theorem yA {x:Str} {p pos:Pos} {e:Expr} {es:List Expr} {fs:ah->Rs (List D)} {f:Addr} {fd:FuncData} {ps:List Str} {k n:Nat} {g:List D->Rs D} (F:FnOk X.prog X.w X.K X.mg X.base (iP X.prog X.w X.K) k f fd ps (oQ X.K n g)) (hr:Room k X.A) (hg:Gl X x) (hm:X.mg x=some (.ref f)) (hk:PySem.W.keepIn X.K (.ref f)=true) (hb:Binds X.K fd ps [])
    (hx:ki X W) (ha:SA X B W (e::es) fs) (hdb:(x == ("__debug__":Str))=false:=by decide) (he:starEach (e::es) X.env=(false,eval e X.env)::starEach es X.env:=by rfl) (hpl:(backTo pos (starEach es X.env)).any (·.1)=false:=by rfl) :
    SE X B W (.Call (.Name x p) (e::es) [] pos) (fA fs (aH n g)):=by
  intro pins s σ H Q I h
  refine wpAny_Call_Name_kw (xS I hg hm ?_ hdb)
  have h2:Ah X.K B W fs σ H fun vs H1=>oQ X.K n g vs H1 Q fun v _ H'=>∃ c n,v=fX c n/\W c n σ H':=by
    obtain ⟨ρ,G,s,p⟩:=h
    refine ⟨ρ,G,s,?_⟩
    unfold fA at p
    cases e:fs ρ with
    | ex c n=>rw [e] at p;exact p
    | no=>rw [e] at p;exact p
    | ok ds =>
      rw [e] at p
      intro vs H1 G1 x r
      have p:=Post.ext x p
      unfold aH at p;dsimp only [Rs.bind] at p
      by_cases hl:ds.length=n
      . rw [if_pos hl] at p
        refine ⟨by rw [<- r.length];exact hl,G1,ds,(s.ext x).ext0,r,?_⟩
        cases e1:g ds with
        | ok d=>rw [e1] at p;exact p
        | ex c n=>rw [e1] at p;exact fun H' G' y=>⟨c,n,rfl,p H' G' y⟩
        | no=>rw [e1] at p;exact p.elim
      . rw [if_neg hl] at p;exact p.elim
  refine PySem.W.callWith_K (h₀:=X.base) I.ok.mod.kin hk (bo (ha pos pins s σ H _ I h2) fun us s1 ⟨vs,H1,I1,r,q⟩=>⟨I1.kIn,?_⟩) he hpl
  have hl:(us++[]).length=ps.length:=by rw [List.append_nil,<- r.length];exact F.len _ _ _ _ q
  have hbb:=hb s1 us I1.kIn hl
  rw [List.append_nil] at hbb
  refine wpAny_call (codeAny_mono (F.run X.A X.stack s1 H1 ⟨us,[]⟩ us vs Q _ hr I1.env0 hbb r q) fun r s' hq=>?_)
  cases r with
  | error e=>exact hx pins σ H1 s1 e s' I1 hq
  | ok fl =>
    cases fl with
    | ret u=>exact I1.after hq
    | next=>exact False.elim hq
    | brk=>exact False.elim hq
    | cont=>exact False.elim hq
end
end Vl
namespace Vl
open PySem PySem.Spec L2
section
variable {X:Cx} {pins:List (Addr×Obj)} {σ:St} {H:Hp} {s:Shared} {ea:Addr} {c:Str} {n:Int} {tr:Bool}
end
section
variable {X:Cx} {pins:List (Addr×Obj)} {σ:St} {H:Hp} {s:Shared} {ea:Addr}
end
end Vl
namespace Vl
open PySem PySem.Spec PySem.Calls PySem.W L2
section
variable {K:PySem.W.Frag}
end
section
variable {X:Cx} {B:Hp×Hp} {W:Wi}
end
end Vl
namespace Vl
open PySem PySem.Spec PySem.Calls PySem.W L2
def bQ:ah->Ou:=fun ρ=>.nx ρ
def aC (g k:ah->Ou):ah->Ou:=fun ρ=>oN (g ρ) k
def aQ (f:ah->Rs D):ah->Ou:=fun ρ=>oR (f ρ) ρ .rt
def wf (f:ah->Rs D):ah->Ou:=fun ρ=>oR (f ρ) ρ fun _=>.nx ρ
def bJ (c:ah->Rs Bool) (a b:ah->Ou):ah->Ou:=fun ρ=>oR (c ρ) ρ fun x=>if x=true then a ρ else b ρ
def bF (f:ah->Rs D) (h:Tg):ah->Ou:=fun ρ=>oR (f ρ) ρ fun d=>oO (h d ρ)
def bI (i:Nat) (f:ah->Rs D):ah->Ou:=fun ρ=>oR (f ρ) ρ fun d=>.nx (ρ.set i (.fz d))
def wg (x:Str) (fs:ah->Rs (List D)):ah->Ou:=fun ρ=>oR (fs ρ) ρ fun ds=>if ds.length<=1000 then .ex x 0 ρ else .no
def eD (g:ah->Ou):ah->Ou:=fun ρ=>oP (g ρ)
def jM (f:ah->Rs D):ah->Rs D:=fun ρ=>(f ρ).bind se
def fB (f:ah->Rs D) (g:D->Rs D):ah->Rs D:=fun ρ=>(f ρ).bind g
def fL (f:ah->Rs D) (g:D->Rs (List D)):ah->Rs (List D):=fun ρ=>(f ρ).bind g
section
variable {X:Cx} {B:Hp×Hp} {W:Wi}
theorem bA:eC X B W [] bQ:=Ao
theorem aw {st:Stmt} {rest:List Stmt} {g k:ah->Ou} (h1:SS X B W st g) (h2:eC X B W rest k):eC X B W (st::rest) (aC g k):=yo h1 h2
theorem aF {st:Stmt} {g:ah->Ou} (h1:SS X B W st g):eC X B W [st] g:=Aq h1
theorem aM {e:Expr} {pos} {f:ah->Rs D} (h:SE X B W e f):SS X B W (.Return (some e) pos) (aQ f):=As h
theorem bN {c:Expr} {a b:List Stmt} {pos:Pos} {fc:ah->Rs Bool} {ga gb:ah->Ou} (hc:ST X B W c fc) (ha:eC X B W a ga) (hb:eC X B W b gb):SS X B W (.If c a b pos) (bJ fc ga gb):=Cb hc ha hb
theorem bj {tg e:Expr} {pos:Pos} {f:ah->Rs D} {h:Tg} (he:SE X B W e f) (hg:SG X B tg h) (hs:swapsWithSole [tg] e pos.line X.env=pure false:=by rfl) (hw:swappedStores [tg] e X.env=pure none:=by rfl)
    (h1:(assignEach [tg] X.env).map (·.2)=[assign tg X.env]:=by rfl):SS X B W (.Assign [tg] e pos) (bF f h):=At he hg hs hw h1
theorem bW (i:Nat) {x:Str} {e:Expr} {pos pos':Pos} {f:ah->Rs D} (hN:X.N.Nodup) (he:SE X B W e f) (hi:X.N[i]?=some x:=by rfl) (hx:gP X.env.scope x:=by first|exact Or.inl rfl|exact Or.inr rfl) (hs:swapsWith e (some (.Name x pos')) pos.line X.env=pure false:=by rfl) (hf:X.fn x=true∨X.env.scope.names.lookup x=some .local:=by first|exact .inl rfl|exact .inr rfl|assumption) :
    SS X B W (.Assign [.Name x pos'] e pos) (bI i f):=Au hN hi hx he hs hf
theorem fF {st:Stmt} {g:ah->Ou} (h:SS X.nox B WF st g):SS X B W st (eD g):=Aw h
theorem uk {a:Expr} {pos:Pos} {fa:ah->Rs D} (ha:SE X B W a fa):SE X B W (.UnaryOp .USub a pos) (jM fa):=Ak ha
theorem rg (i:Nat) {x:Str} {pos:Pos} (hN:X.N.Nodup) (hi:X.N[i]?=some x:=by rfl) (hx:gP X.env.scope x:=by first|exact Or.inl rfl|exact Or.inr rfl) (hf:X.fn x=true∨X.env.scope.names.lookup x=some .local:=by first|exact .inl rfl|exact .inr rfl|assumption):SG X B (.Name x pos) (ar i) :=
  yp hN hi hx hf
theorem Ci {t:Ty} {x:Str} {e:Expr} {p1 p2 pos:Pos} {f:ah->Rs D} (hm:X.mg "isinstance"=none) (hmt:X.mg x=none) (he:SE X B W e f) (hv:bootBuiltins x=some (.type t.nm)) (hg:Gl X "isinstance":=by rfl) (hgx:Gl X x:=by rfl)
    (hst:starEach [e,.Name x p2] X.env=[(false,eval e X.env),(false,eval (.Name x p2) X.env)]:=by rfl) (hst2:starEach [.Name x p2] X.env=[(false,eval (.Name x p2) X.env)]:=by rfl) (hn:x≠"__name__":=by decide) (hd:(x == ("__debug__":Str))=false:=by decide) :
    SE X B W (.Call (.Name "isinstance" p1) [e,.Name x p2] [] pos) (fB f (rf t)):=Ch hm hmt he hv hg hgx hst hst2 hn hd
theorem yB {tg iter:Expr} {f:ah->Rs D} (hi:SE X B W iter f):SI X B W tg iter (fL f xB):=yr hi
theorem jN {tg iter:Expr} {f:ah->Rs D} (hi:SE X B W iter f):SI X B W tg iter (fL f jx):=Ay hi
theorem AJ {e:Expr} {p pos:Pos} {fa:ah->Rs D} (hc:X.calm=true) (hm:X.mg "all"=none) (ha:SE X B W e fa) (hg:Gl X "all":=by rfl) (he:starEach [e] X.env=[(false,eval e X.env)]:=by rfl):SE X B W (.Call (.Name "all" p) [e] [] pos) (fA (aa fa aj) mv) :=
  ig (uh hc) AF hg hm rfl (ae ha aq he) (by decide) (by decide) he rfl
theorem aZ {e e':Expr} {p pos:Pos} {fa fb:ah->Rs D} (hm:X.mg "divmod"=none) (ha:SE X B W e fa) (hb:SE X B W e' fb) (hg:Gl X "divmod":=by rfl) (he:starEach [e,e'] X.env=[(false,eval e X.env),(false,eval e' X.env)]:=by rfl) (he':starEach [e'] X.env=[(false,eval e' X.env)]:=by rfl) :
    SE X B W (.Call (.Name "divmod" p) [e,e'] [] pos) (fA (aa fa (aa fb aj)) cO) :=
  ig oM Ca hg hm rfl (ae ha (ae hb aq he') (by rw [he,he'])) (by decide) (by decide) (by rw [he,he']) (by rw [he'];rfl)
end
def bf (P:Program) (w:World) (K:PySem.W.Frag) (mg:Str->Option Value) (base:Heap) (x:Str) (k n:Nat) (v:List D->Rs D):Prop :=
  ∃ f fd ps,FnOk P w K mg base (iP P w K) k f fd ps (oQ K n v)/\mg x=some (.ref f)/\PySem.W.keepIn K (.ref f)=true/\Binds K fd ps []
theorem bC {P:Program} {w:World} {K:PySem.W.Frag} {mg:Str->Option Value} {base:Heap} {x:Str} {st:Stmt} {f:Addr} {fd:FuncData} {N ps:List Str} {k:Nat} {g:ah->Ou} (F:Fun K x x st f fd) (hm:mg x=some (.ref f)) (S:FnScope N ps (au st))
    (hbi:∀ (kV doc pm:Value) (an:Option Addr) (cdv ct:Value) (us:List Value),us.length=ps.length->bindArgs (PySem.W.fnOf x x (aX st) (aT st) (au st) .none kV doc pm an cdv ct) ⟨us,[]⟩=pure (ps.zip us))
    (hb:∀ (cdv:Value) (A:Around) (outer:List Env) (s:Shared) (H:Hp) (E:XK) (B:Hp×Hp),Room k (A.deeper (PyProof.Rows.envOfC x (au st) s.heap.objs.size f cdv)) ->
      ki (ie (iP P w K) P w K mg base N x (au st) f cdv A outer s H E) (fun c n _ H'=>E (fX c n) none H') ->
      eC (ie (iP P w K) P w K mg base N x (au st) f cdv A outer s H E) B (fun c n _ H'=>E (fX c n) none H') (aT st) g) :
    bf P w K mg base x (k + 1) ps.length (fun ds=>be (g (aG N ds))) :=
  ⟨f,fd,ps,AI F S fun cdv A outer s H E B hr=>hb cdv A outer s H E B hr (oX ng rfl),hm,F.kp,F.binds hbi⟩
section
variable {X:Cx} {B:Hp×Hp} {W:Wi}
theorem aK {x:Str} {p pos:Pos} {e:Expr} {es:List Expr} {fs:ah->Rs (List D)} {k n:Nat} {g:List D->Rs D} (O:bf X.prog X.w X.K X.mg X.base x k n g) (hr:Room k X.A) (hx:ki X W) (ha:SA X B W (e::es) fs) (hg:Gl X x:=by rfl) (hdb:(x == ("__debug__":Str))=false:=by decide)
    (he:starEach (e::es) X.env=(false,eval e X.env)::starEach es X.env:=by rfl) (hpl:(backTo pos (starEach es X.env)).any (·.1)=false:=by rfl):SE X B W (.Call (.Name x p) (e::es) [] pos) (fA fs (aH n g)):=by
  obtain ⟨f,fd,ps,F,hm,hk,hb⟩:=O
  exact yA F hr hg hm hk hb hx ha hdb he hpl
end
end Vl
namespace Vl
open PySem PySem.Spec PySem.Calls PySem.W L2
def xE (S sc:Scope) (NX N:List Str) (nt:Nat) (caps:List Nat):Bool :=
  decide (sc.kind=.function) && sc.names.all (fun y=>y.2 != .cell) && sc.names.all (fun y=>y.2 != .free || S.names.lookup y.1 == some .cell || S.names.lookup y.1 == some .free) && decide (N.length=nt + caps.length) &&
    (List.range caps.length).all fun j=>match caps[j]?,N[nt + j]? with|some i,some x=>NX[i]? == some x && sc.names.lookup x == some .free|_,_=>true
theorem gZ {X:Cx} {sc:Scope} {N:List Str} {nt:Nat} {caps:List Nat} (S:Scope) (NX:List Str) (h:xE S sc NX N nt caps=true) (hS:X.env.scope=S:=by rfl) (hX:X.N=NX:=by rfl):Caps X sc N nt caps:=by
  unfold xE at h
  simp only [Bool.and_eq_true,decide_eq_true_eq,List.all_eq_true,bne_iff_ne,Bool.or_eq_true,beq_iff_eq,ne_eq] at h
  obtain ⟨⟨⟨⟨h1,h2⟩,h3⟩,h4⟩,h5⟩:=h
  refine ⟨h1,fun y hy=>h2 y hy,fun y hy hf=>?_,h4,fun j i x e1 e2=>?_⟩
  . have:=h3 y hy
    unfold Env.kindOf
    rw [hS]
    rcases this with (h|h)|h
    . exact absurd hf h
    . exact .inl h
    . exact .inr h
  . have:=h5 j (by rw [List.mem_range];exact (List.getElem?_eq_some_iff.mp e1).1)
    rw [e1,e2] at this
    simp only [Bool.and_eq_true,beq_iff_eq] at this
    rw [hX]
    exact this
theorem fu {i:Nat}:ii (ar i):=by
  intro d ρ ρ' no e j ds q
  unfold ar at e
  cases e
  by_cases c:i=j
  . subst c
    have hl:i < ρ.length:=by
      have:=(List.getElem?_eq_some_iff.mp q).1;simpa using this
    rw [List.getElem?_set_self hl] at q
    cases q;exact fun w=>by cases w
  . rw [List.getElem?_set_ne c] at q;exact no j ds q
theorem rh {X:Cx} {B:Hp×Hp} {W:Wi} {tg iter:Expr} {elt:Expr} {sc:Scope} {pos:Pos} {N:List Str} {nt:Nat} {caps:List Nat} {h:Tg} {fe:ah->Rs D} {fi:ah->Rs (List D)}
    (c:Caps X sc N nt caps) (hc:X.calm=true) (hnames:sc.names.all (fun y=>y.2 != .local || sc.names.lookup y.1 == some .local)=true) (hi:SI X B W tg iter fi) (hno:ii h)
    (ht:∀ s₀ H₀ C ex pins B',SG (cK X N s₀ H₀ sc (cj sc X.env) C ex pins) B' tg h)
    (he:∀ s₀ H₀ C ex pins B',SE (cK X N s₀ H₀ sc (cj sc X.env) C ex pins) B' WF elt fe)
    (hs:∀ x,foldedSetIterable iter X.env x=pure x:=by intro _;rfl) :
    SE X B W (.ListComp elt [⟨tg,iter,[],0⟩] sc pos) (bM h (fun _=>.ok true) fe nt caps fi) :=
  yu c hc (fun y hy hl=>by
    have:=List.all_eq_true.mp hnames y hy
    simp only [Bool.or_eq_true,bne_iff_ne,beq_iff_eq,ne_eq] at this
    exact this.elim (fun z=>absurd hl z) id) hi hno ht (.inl ⟨rfl,rfl⟩) he hs
def wj (i j:Nat) (fs:ah->Rs (List D)):ah->Ou:=fun ρ=>oR (fs ρ) ρ fun ds=>match ds with
  | [d,e]=>.nx ((ρ.set i (.fz d)).set j (.fz e))
  | _=>.no
end Vl
namespace Vl
open PySem PySem.Spec PySem.Calls PySem.W L2
theorem walk_v {l:OpenLaw} {k:Nat} {q:Program} {loose:List Str} {XP:(Str->Option Value)->Heap->Prop} {YP:World->Heap->Prop} {d:DefRec} {K:Params->Frag} {v:List D->Rs D} (hn:l.most=some 63) (hdf:d.params.defaults=[]) (hr:Room k callerA)
    (hY:∀ (w:World) (h:Heap),YP w h->(K w.params).In h) (hv:∀ ns:List Int,ns.length<=63->v [.lst (ns.map D.int)]=.ok (.bl true))
    (F:∀ (w:World) (mg:Str->Option Value) (fa:Addr) (h:Heap),(K w.params).In h->h.Ns mainGlobals mg->mg d.name=some (.ref fa) ->
      ∃ fd:FuncData,(∀ (s:Shared) (u:Value),BindsTo s fd ⟨[u],[]⟩ [("script",u)])/\∀ base:Heap,(K w.params).In base->base.Ns mainGlobals mg->FnOk l.prog w (K w.params) mg base (iP l.prog w (K w.params)) k fa fd ["script"] (oQ (K w.params) 1 v)) :
    WalkO q loose XP YP l.row.toRowW d [] (fun f vs=>PySem.call f vs):=by
  refine L2.walk_of (n:=63) (k:=k) (x:="script") (CX:=fun w=>iP l.prog w (K w.params)) (sp:=fun w=>oQ (K w.params) 1 v) hn (by decide) hdf hr hY F (fun w H a ns hl _ hS=>?_) fun w H s e s' h=>?_
  . refine ⟨rfl,H,[.lst (ns.map D.int)],.refl (.refl _) (fun _ _ e=>e),Reps.one (rep_lst.mpr ⟨a,_,rfl,hS,mY ns⟩),?_⟩
    rw [hv ns hl]
    exact fun u H' G' _ r=>rep_bl.mp r
  . obtain ⟨_,_,_,_,_,_,_,_,_,_,z⟩:=h
    exact z.elim
end Vl
namespace Vl
open PySem PySem.Spec PySem.Calls PySem.W L2
section
variable {ρ ρ1:ah} {d x y z:D} {f fa fb:ah->Rs D} {g k a b:ah->Ou} {r:Ou} {ds:List D} {fs:ah->Rs (List D)} {c c1 c2:ah->Rs Bool} {t u:Bool} {i j:Nat}
theorem ao (h:g ρ=.nx ρ1) (h2:k ρ1=r):aC g k ρ=r:=by unfold aC;rw [h];exact h2
theorem cA (h:g ρ=.rt d):aC g k ρ=.rt d:=by unfold aC;rw [h];rfl
theorem ax:fC d ρ=.ok d:=rfl
theorem af (h:ρ[i]?=some (.fz d)):ab i ρ=.ok d:=by unfold ab;rw [h]
theorem am {o:D->D->Rs D} {r:Rs D} (h1:fa ρ=.ok x) (h2:fb ρ=.ok y) (h3:o x y=r):ai o fa fb ρ=r:=by unfold ai;rw [h1];show (fb ρ).bind _=_;rw [h2];exact h3
theorem xF {n:Int} (h1:fa ρ=.ok (.int n)):jM fa ρ=.ok (.int (-n)):=by unfold jM;rw [h1];rfl
theorem ak:aj ρ=.ok []:=rfl
theorem ac (h1:fa ρ=.ok x) (h2:fs ρ=.ok ds):aa fa fs ρ=.ok (x::ds):=by unfold aa;rw [h1];show (fs ρ).bind _=_;rw [h2];rfl
theorem az {o:List D->Rs D} {r:Rs D} (h1:fs ρ=.ok ds) (h2:o ds=r):fA fs o ρ=r:=by unfold fA;rw [h1];exact h2
theorem Dt {o:D->Rs D} {r:Rs D} (h1:fa ρ=.ok x) (h2:o x=r):fB fa o ρ=r:=by unfold fB;rw [h1];exact h2
theorem aP {n:Nat} {v:List D->Rs D} {r:Rs D} (hl:ds.length=n) (h:v ds=r):aH n v ds=r:=by unfold aH;rw [if_pos hl];exact h
theorem oj (hl:ds.length<=1000):aS ds=.ok (.tup ds):=by unfold aS;rw [if_pos hl]
theorem gq (hl:ds.length<=1000):bE ds=.ok (.lst ds):=by unfold bE;rw [if_pos hl]
theorem bU (h:fa ρ=.ok (.bl t)):fT fa ρ=.ok t:=by unfold fT;rw [h];rfl
theorem xG (h:c ρ=.ok t):jf c ρ=.ok (!t):=by unfold jf;rw [h];rfl
theorem AK (h:c1 ρ=.ok true):fy c1 c2 ρ=.ok true:=by unfold fy;rw [h];rfl
theorem ul (h:c1 ρ=.ok false) (h2:c2 ρ=.ok t):fy c1 c2 ρ=.ok t:=by unfold fy;rw [h];exact h2
theorem mw (h:c1 ρ=.ok false):gc c1 c2 ρ=.ok false:=by unfold gc;rw [h];rfl
theorem rj (h:c1 ρ=.ok true) (h2:c2 ρ=.ok t):gc c1 c2 ρ=.ok t:=by unfold gc;rw [h];exact h2
theorem bP (h:c ρ=.ok true) (h2:a ρ=r):bJ c a b ρ=r:=by unfold bJ;rw [h];exact h2
theorem aJ (h:c ρ=.ok false) (h2:b ρ=r):bJ c a b ρ=r:=by unfold bJ;rw [h];exact h2
theorem cw (h:fa ρ=.ok x):bI i fa ρ=.nx (ρ.set i (.fz x)):=by unfold bI;rw [h];rfl
theorem bh (h:fa ρ=.ok x):aQ fa ρ=.rt x:=by unfold aQ;rw [h];rfl
theorem bn {h:Tg} (h1:fa ρ=.ok x) (h2:h x ρ=some ρ1):bF fa h ρ=.nx ρ1:=by unfold bF;rw [h1];show oO (h x ρ)=_;rw [h2];rfl
theorem bb:bQ ρ=.nx ρ:=rfl
theorem iw (h:g ρ=.nx ρ1):eD g ρ=.nx ρ1:=by unfold eD;rw [h];rfl
theorem iQ {h:Tg} {n:Int} {N:Nat} (h1:fa ρ=.ok (.int n)) (hb:n < 2 ^ 62) (hN:n=(N:Int)) (h2:bp h g ((List.range N).map fun (i:Nat)=>.int i) ρ=r):fE h g fa ρ=r:=by
  have hc:-(2 ^ 62)<=n/\n < 2 ^ 62:=⟨by subst hN;omega,hb⟩
  unfold fE;rw [h1]
  simp only [oR]
  rw [if_pos hc,hN,Int.toNat_natCast]
  exact h2
theorem um {h:Tg} (h1:fa ρ=.ok (.lst ds)) (h2:bp h g ds ρ=r):lr h g fa ρ=r:=by unfold lr;rw [h1];exact h2
theorem uo {h:Tg} (h1:fa ρ=.ok (.tup ds)) (h2:bp h g ds ρ=r):lu h g fa ρ=r:=by unfold lu;rw [h1];exact h2
theorem kH {h:Tg} (P:ah->Prop):∀ {ds:List D} {ρ:ah},P ρ->(∀ d∈ds,∀ ρ,P ρ->∃ ρ1 ρ',h d ρ=some ρ1/\g ρ1=.nx ρ'/\P ρ')->∃ ρ',bp h g ds ρ=.nx ρ'/\P ρ'
  | [],ρ,p,_=>⟨ρ,rfl,p⟩
  | d::ds,ρ,p,st=>by
    obtain ⟨ρ1,ρ2,e1,e2,p2⟩:=st d (by simp) ρ p
    obtain ⟨ρ',e,p'⟩:=kH (ds:=ds) P p2 fun d' hd=>st d' (by simp [hd])
    refine ⟨ρ',?_,p'⟩
    simp only [bp,e1,e2]
    exact e
theorem uq {h:Tg} {ft:ah->Rs Bool} {fe:ah->Rs D} {nt:Nat} {caps:List Nat} {fi:ah->Rs (List D)} {ys:List D} (h1:fi ρ=.ok ds) (h2:cF h ft fe ds (cb nt caps ρ)=.ok ys) (hl:ys.length<=1000000):bM h ft fe nt caps fi ρ=.ok (.lst ys):=by
  unfold bM;rw [h1]
  show jh ((cF h ft fe ds (cb nt caps ρ)).bind _)=_
  rw [h2]
  show jh (if ys.length<=1000000 then _ else _)=_
  rw [if_pos hl];rfl
variable {m n:Int}
theorem Cj (h:CMul m n):bm (.int m) (.int n)=.ok (.int (m * n)):=by simp [bm,gI,h]
theorem gr (h:0 < n):cf (.int m) (.int n)=.ok (.int (m % n)):=by simp [cf,gI,h]
theorem lE (h:CDB m n):fD (.int m) (.int n)=.ok (.int (m / n)):=by simp [fD,gI,h]
theorem kj (h:oz m n):bH (.int m) (.int n)=.ok (.int (m ^ n.toNat)):=by simp [bH,gI,h]
theorem cI:aD (.int m) (.int n)=.ok (.int (m + n)):=rfl
theorem iy {a b:List D} (h:a.length + b.length<=1000000):aD (.lst a) (.lst b)=.ok (.lst (a++b)):=by simp only [aD];rw [if_pos h]
theorem cY:Vl.gSub (.int m) (.int n)=.ok (.int (m - n)):=rfl
theorem cG (h:CDB m n):cO [.int m,.int n]=.ok (.tup [.int (m / n),.int (m % n)]):=by simp [cO,h]
theorem oY:AB (.int m) (.int n)=.ok (.bl (decide (m < n))):=rfl
theorem wk:Dr (.int m) (.int n)=.ok (.bl (decide (m<=n))):=rfl
theorem oZ:AC (.int m) (.int n)=.ok (.bl (decide (n < m))):=rfl
theorem wl:AD (.int m) (.int n)=.ok (.bl (decide (n<=m))):=rfl
theorem eZ:bV (.int m) (.int n)=.ok (.bl (decide (m=n))):=by simp [bV,aL,cx];rfl
theorem jk:di (.int m) (.int n)=.ok (.bl (!decide (m=n))):=by simp [di,aL,cx];rfl
theorem AL (h1:aL x<=8) (h2:aL y<=8):bV x y=.ok (.bl (cx x y)):=by unfold bV;rw [if_pos ⟨h1,h2⟩]
theorem sm (h1:aL x<=8) (h2:aL y<=8):di x y=.ok (.bl (!cx x y)):=by unfold di;rw [if_pos ⟨h1,h2⟩]
theorem ur (h1:aL x<=8) (e:x=y):di x y=.ok (.bl false):=by subst e;rw [sm h1 h1,jd];rfl
theorem iz (h:dh ds m=some d):aA (.lst ds) (.int m)=.ok d:=by simp [aA,h]
theorem kz (h:0 < n) (h2:n < 2 ^ 200):CDB m n:=⟨h,h2⟩
end
end Vl
namespace Tb
open PySem
def it:Nat->Nat->Nat
  | 0,x=>x
  | m + 1,x=>5 * it m x + 1
theorem ut (m n x:Nat):it (m + n) x=it m (it n x):=by
  induction m with
  | zero=>simp [it]
  | succ m ih=>rw [Nat.succ_add];simp only [it];rw [ih]
theorem AM (k:Nat):∃ w,w % 2=1/\∀ y,it (2 ^ k) y=y + 2 ^ k * w * (4 * y + 1):=by
  induction k with
  | zero=>exact ⟨1,rfl,fun y=>by simp [it];omega⟩
  | succ k ih =>
    obtain ⟨w,hw,h⟩:=ih
    refine ⟨w * (1 + 2 ^ (k + 1) * w),?_,fun y=>?_⟩
    . have e:2 ^ (k + 1)=2 * 2 ^ k:=by rw [Nat.pow_succ];omega
      rw [e,Nat.mul_add,Nat.mul_one,Nat.add_mod]
      have:w * (2 * 2 ^ k * w) % 2=0:=by
        have:w * (2 * 2 ^ k * w)=2 * (w * 2 ^ k * w):=by grind
        rw [this];exact Nat.mul_mod_right _ _
      omega
    . have e:2 ^ (k + 1)=2 ^ k + 2 ^ k:=by rw [Nat.pow_succ];omega
      rw [e,ut,h,h]
      grind
theorem Ck (k:Nat):∀ x e:Nat,∃ m,m < 2 ^ k/\it m x % 2 ^ k=e % 2 ^ k:=by
  induction k with
  | zero=>exact fun x e=>⟨0,by decide,by simp [Nat.mod_one]⟩
  | succ k ih =>
    intro x e
    obtain ⟨m,hm,he⟩:=ih x e
    obtain ⟨w,hw,hp⟩:=AM k
    have e2:2 ^ (k + 1)=2 ^ k * 2:=Nat.pow_succ ..
    by_cases c:it m x % 2 ^ (k + 1)=e % 2 ^ (k + 1)
    . exact ⟨m,by rw [e2];omega,c⟩
    . refine ⟨2 ^ k + m,by rw [e2];omega,?_⟩
      rw [ut,hp]
      have pos:0 < 2 ^ k:=Nat.pos_of_ne_zero (by simp)
      generalize it m x=a at he c
      obtain ⟨q,hq⟩:∃ q,w * (4 * a + 1)=2 * q + 1:=by
        refine ⟨w * (4 * a + 1) / 2,?_⟩
        have:w * (4 * a + 1) % 2=1:=by
          rw [Nat.mul_mod]
          have:(4 * a + 1) % 2=1:=by omega
          rw [hw,this]
        omega
      have hq':2 ^ k * w * (4 * a + 1)=2 ^ k * 2 * q + 2 ^ k:=by rw [Nat.mul_assoc,hq];grind
      rw [hq',e2]
      rw [e2] at c
      generalize 2 ^ k=M at *
      have h1:(a + (M * 2 * q + M)) % (M * 2)=(a + M) % (M * 2):=by
        have:a + (M * 2 * q + M)=a + M + M * 2 * q:=by omega
        rw [this,Nat.add_mul_mod_self_left]
      rw [h1]
      have a1:=Nat.mod_add_div a (M * 2)
      have b1:=Nat.mod_add_div e (M * 2)
      have al:=Nat.mod_lt a (show 0 < M * 2 by omega)
      have bl:=Nat.mod_lt e (show 0 < M * 2 by omega)
      generalize a % (M * 2)=ra at a1 al c
      generalize e % (M * 2)=rb at b1 bl c ⊢
      have ham:a % M=ra % M:=by rw [<- a1,Nat.mul_assoc,Nat.add_mul_mod_self_left]
      have hbm:e % M=rb % M:=by rw [<- b1,Nat.mul_assoc,Nat.add_mul_mod_self_left]
      have hrr:ra % M=rb % M:=by rw [<- ham,<- hbm];exact he
      have hA:(a + M) % (M * 2)=(ra + M) % (M * 2):=by
        rw [<- a1]
        have:ra + M * 2 * (a / (M * 2)) + M=ra + M + M * 2 * (a / (M * 2)):=by omega
        rw [this,Nat.add_mul_mod_self_left]
      rw [hA]
      by_cases ha:ra < M
      . have e3:ra % M=ra:=Nat.mod_eq_of_lt ha
        have hb:¬ rb < M:=fun z=>c (by rw [Nat.mod_eq_of_lt z] at hrr;omega)
        have e4:rb % M=rb - M:=by rw [Nat.mod_eq_sub_mod (by omega),Nat.mod_eq_of_lt (by omega)]
        rw [Nat.mod_eq_of_lt (by omega)];omega
      . have e3:ra % M=ra - M:=by rw [Nat.mod_eq_sub_mod (by omega),Nat.mod_eq_of_lt (by omega)]
        have hb:rb < M:=Nat.lt_of_not_le fun z=>c (by
          have e4:rb % M=rb - M:=by rw [Nat.mod_eq_sub_mod (by omega),Nat.mod_eq_of_lt (by omega)]
          omega)
        have e4:rb % M=rb:=Nat.mod_eq_of_lt hb
        rw [Nat.mod_eq_sub_mod (by omega),Nat.mod_eq_of_lt (by omega)];omega
end Tb
namespace Tb
open PySem PySem.SetTable
def bD (t:SetTable):Nat->Probe->Probe
  | 0,p=>p
  | s + 1,p=>bD t s (t.advance p)
theorem hV (t:SetTable) (a b:Nat) (p:Probe):bD t (a + b) p=bD t b (bD t a p):=by
  induction a generalizing p with
  | zero=>simp [bD]
  | succ a ih=>rw [Nat.succ_add];simp only [bD];exact ih _
theorem dA (t:SetTable) (s:Nat) (p:Probe):bD t (s + 1) p=t.advance (bD t s p):=by
  rw [hV];rfl
def ff (mask i pt:Nat) (d:Option Nat):Probe:={ j:=i,more:=runEnd mask i - i,i:=i,perturb:=pt,dummy:=d }
theorem wm (mask i:Nat):runEnd mask i - i<=9:=by unfold runEnd;split <;> omega
theorem rk (t:SetTable):∀ (m:Nat) (p:Probe),m<=p.more->bD t m p={ p with j:=p.j + m,more:=p.more - m }:=by
  intro m
  induction m with
  | zero=>intro p _;simp [bD]
  | succ m ih =>
    intro p h
    rw [dA,ih p (by omega)]
    unfold advance
    simp only
    rw [if_pos (by omega)]
    simp only [Probe.mk.injEq,and_true,true_and]
    omega
theorem kI (t:SetTable) (p:Probe):bD t (p.more + 1) p=ff t.mask (leap t.mask p.i p.perturb).1 (leap t.mask p.i p.perturb).2 p.dummy:=by
  rw [dA,rk t p.more p (Nat.le_refl _)]
  unfold advance ff
  simp only [Nat.sub_self,Nat.lt_irrefl,gt_iff_lt,if_false]
def lp (mask:Nat):Nat->Nat×Nat->Nat×Nat
  | 0,x=>x
  | n + 1,x=>leap mask (lp mask n x).1 (lp mask n x).2
theorem AN (t:SetTable) (d:Option Nat) (i pt:Nat):∀ n,∃ s,s<=10 * n/\bD t s (ff t.mask i pt d)=ff t.mask (lp t.mask n (i,pt)).1 (lp t.mask n (i,pt)).2 d:=by
  intro n
  induction n with
  | zero=>exact ⟨0,by omega,rfl⟩
  | succ n ih =>
    obtain ⟨s,hs,e⟩:=ih
    refine ⟨s + ((ff t.mask (lp t.mask n (i,pt)).1 (lp t.mask n (i,pt)).2 d).more + 1),?_,?_⟩
    . have:=wm t.mask (lp t.mask n (i,pt)).1
      simp only [ff];omega
    . rw [hV,e,kI];rfl
theorem Cl (mask:Nat) (x:Nat×Nat):∀ n,(lp mask n x).2=x.2 / 32 ^ n:=by
  intro n
  induction n with
  | zero=>simp [lp]
  | succ n ih=>simp only [lp,leap,ih];rw [Nat.div_div_eq_div_mul,Nat.pow_succ]
theorem Cm (mask:Nat) (x:Nat×Nat) (n:Nat):(lp mask (n + 1) x).1 < mask + 1:=Nat.mod_lt _ (by omega)
theorem uv (mask:Nat) (x:Nat×Nat) (a b:Nat):lp mask (a + b) x=lp mask b (lp mask a x):=by
  induction b with
  | zero=>rfl
  | succ b ih=>rw [Nat.add_succ];simp only [lp,ih]
theorem yC (mask i:Nat) (hi:i < mask + 1):∀ n,lp mask n (i,0)=(it n i % (mask + 1),0):=by
  intro n
  induction n with
  | zero=>simp [lp,it,Nat.mod_eq_of_lt hi]
  | succ n ih =>
    simp only [lp,ih,leap,it,Prod.mk.injEq,Nat.zero_div,Nat.add_zero,and_true]
    rw [Nat.mul_comm,Nat.add_mod,Nat.mul_mod,Nat.mod_mod,<- Nat.mul_mod,<- Nat.add_mod]
theorem uw {mask k:Nat} (hk:mask + 1=2 ^ k) (i pt:Nat) (hp:pt < 2 ^ 64) {e:Nat} (he:e<=mask):∃ n,n<=mask + 13/\(lp mask n (i,pt)).1=e:=by
  have h13:(lp mask 13 (i,pt)).2=0:=by rw [Cl];exact Nat.div_eq_of_lt (Nat.lt_trans hp (by decide))
  have hl:=Cm mask (i,pt) 12
  obtain ⟨m,hm,e1⟩:=Ck k (lp mask 13 (i,pt)).1 e
  refine ⟨13 + m,by omega,?_⟩
  rw [uv]
  have e2:lp mask 13 (i,pt)=((lp mask 13 (i,pt)).1,0):=by rw [<- h13]
  rw [e2,yC _ _ hl,hk,e1,Nat.mod_eq_of_lt (by omega)]
theorem hit {t:SetTable} {k:Nat} (hk:t.mask + 1=2 ^ k) (p:Probe) (h9:p.more<=9) (hp:p.perturb < 2 ^ 64) {e:Nat} (he:e<=t.mask):∃ s,s<=10 * (t.mask + 14)/\(bD t s p).j=e:=by
  have hq:(leap t.mask p.i p.perturb).2 < 2 ^ 64:=Nat.lt_of_le_of_lt (Nat.div_le_self _ _) hp
  obtain ⟨n,hn,e1⟩:=uw hk (leap t.mask p.i p.perturb).1 (leap t.mask p.i p.perturb).2 hq he
  obtain ⟨s,hs,e2⟩:=AN t p.dummy (leap t.mask p.i p.perturb).1 (leap t.mask p.i p.perturb).2 n
  refine ⟨p.more + 1 + s,by omega,?_⟩
  rw [hV,kI,e2]
  exact e1
theorem AO (t:SetTable) (p:Probe) (h9:p.more<=9) (hp:p.perturb < 2 ^ 64):∀ s,(bD t s p).more<=9/\(bD t s p).perturb < 2 ^ 64/\(bD t s p).dummy=p.dummy:=by
  intro s
  induction s with
  | zero=>exact ⟨h9,hp,rfl⟩
  | succ s ih =>
    rw [dA]
    obtain ⟨a,b,c⟩:=ih
    unfold advance
    split
    . exact ⟨by simp only;omega,b,c⟩
    . exact ⟨wm _ _,Nat.lt_of_le_of_lt (Nat.div_le_self _ _) b,c⟩
theorem rl (h:Int):bits h < 2 ^ 64:=by
  unfold bits
  have:=Int.emod_lt_of_pos h (show (0:Int) < 2 ^ 64 by decide)
  have:=Int.emod_nonneg h (show (2 ^ 64:Int)≠0 by decide)
  omega
def pos (t:SetTable) (h:Int) (s:Nat):Nat:=(bD t s (t.probeStart h)).j
theorem jO (t:SetTable) (h:Int) (s:Nat):(bD t s (t.probeStart h)).more<=9/\(bD t s (t.probeStart h)).perturb < 2 ^ 64/\(bD t s (t.probeStart h)).dummy=none :=
  AO t _ (wm _ _) (rl h) s
theorem my {t:SetTable} {k:Nat} (hk:t.mask + 1=2 ^ k) (h:Int) (s0:Nat) {e:Nat} (he:e<=t.mask):∃ s,s0<=s/\s<=s0 + 10 * (t.mask + 14)/\pos t h s=e:=by
  obtain ⟨a,b,_⟩:=jO t h s0
  obtain ⟨s,hs,e1⟩:=hit hk (bD t s0 (t.probeStart h)) a b he
  exact ⟨s0 + s,by omega,by omega,by unfold pos;rw [hV];exact e1⟩
end Tb
namespace Tb
open PySem PySem.SetTable
def dZ (xs:Array Nat):Prop:=∀ a b,a < b->b < xs.size->xs.getD a 0 < xs.getD b 0
theorem yD {xs:Array Nat} {a:Nat} (h:a < xs.size) (d:Nat):xs.getD a d=xs.getD a 0:=by simp [Array.getD,h]
theorem wn {xs:Array Nat} {j:Nat} (R:dZ xs):∀ (fuel lo hi:Nat),lo<=hi->hi<=xs.size->hi<=lo + fuel->(∀ a,a < lo->xs.getD a 0 < j)->(∀ a,hi<=a->a < xs.size->j<=xs.getD a 0) ->
    below.go xs j fuel lo hi<=xs.size/\(∀ a,a < below.go xs j fuel lo hi->xs.getD a 0 < j)/\(∀ a,below.go xs j fuel lo hi<=a->a < xs.size->j<=xs.getD a 0):=by
  intro fuel
  induction fuel with
  | zero =>
    intro lo hi h1 h2 h3 h4 h5
    obtain rfl:lo=hi:=by omega
    exact ⟨h2,h4,h5⟩
  | succ fuel ih =>
    intro lo hi h1 h2 h3 h4 h5
    unfold below.go
    by_cases c:lo < hi
    . rw [if_pos c]
      simp only
      have hm:(lo + hi) / 2 < xs.size:=by omega
      rw [yD hm]
      by_cases d:xs.getD ((lo + hi) / 2) 0 < j
      . rw [if_pos d]
        refine ih _ _ (by omega) h2 (by omega) (fun a ha=>?_) h5
        by_cases e:a=(lo + hi) / 2
        . rw [e];exact d
        . exact Nat.lt_trans (R a ((lo + hi) / 2) (by omega) hm) d
      . rw [if_neg d]
        refine ih _ _ (by omega) (by omega) (by omega) h4 fun a ha hs=>?_
        by_cases e:a=(lo + hi) / 2
        . rw [e];omega
        . exact Nat.le_trans (by omega) (Nat.le_of_lt (R ((lo + hi) / 2) a (by omega) hs))
    . rw [if_neg c]
      obtain rfl:lo=hi:=by omega
      exact ⟨h2,h4,h5⟩
theorem gS {xs:Array Nat} (R:dZ xs) (j:Nat):below xs j<=xs.size/\(∀ a,a < below xs j->xs.getD a 0 < j)/\(∀ a,below xs j<=a->a < xs.size->j<=xs.getD a 0) :=
  wn R xs.size 0 xs.size (Nat.zero_le _) (Nat.le_refl _) (by omega) (fun a h=>absurd h (by omega)) fun a h1 h2=>absurd h1 (by omega)
theorem pc {xs:Array Nat} (R:dZ xs) {i:Nat} (hi:i < xs.size):below xs (xs.getD i 0)=i:=by
  obtain ⟨h1,h2,h3⟩:=gS R (xs.getD i 0)
  by_cases c:below xs (xs.getD i 0) < i
  . have:=h3 _ (Nat.le_refl _) (by omega)
    have:=R _ i c hi
    omega
  . by_cases d:i < below xs (xs.getD i 0)
    . have:=h2 i d;omega
    . omega
def dB (t:SetTable) (j:Nat):Prop:=∃ i,i < t.place.size/\t.place.getD i 0=j
theorem pd {xs:Array Nat} {i:Nat} (hi:i < xs.size):xs[i]?=some (xs.getD i 0):=by simp [Array.getD,hi]
theorem iA {t:SetTable} (R:dZ t.place) {i:Nat} (hi:i < t.place.size):t.slot (t.place.getD i 0)=.live i:=by
  unfold slot
  simp only
  rw [pc R hi,pd hi]
  simp
theorem sn {t:SetTable} (nd:t.dummies=#[]) {j:Nat} (h:¬ dB t j):t.slot j=.empty:=by
  unfold slot
  simp only
  rw [if_neg,if_neg]
  . unfold has;rw [nd];simp
  . intro c
    apply h
    have c':t.place[below t.place j]?=some j:=by simpa using c
    obtain ⟨hl,e⟩:=Array.getElem?_eq_some_iff.mp c'
    exact ⟨_,hl,by simp [Array.getD,hl,e]⟩
theorem jP {t:SetTable} (R:dZ t.place) {j:Nat} (h:dB t j):∃ i,i < t.place.size/\t.place.getD i 0=j/\t.slot j=.live i:=by
  obtain ⟨i,hi,e⟩:=h
  exact ⟨i,hi,e,by rw [<- e];exact iA R hi⟩
theorem yE {xs:Array Nat} (R:dZ xs):∀ i,i < xs.size->i<=xs.getD i 0:=by
  intro i
  induction i with
  | zero=>intro _;exact Nat.zero_le _
  | succ i ih=>intro h;have:=ih (by omega);have:=R i (i + 1) (by omega) h;omega
theorem lG {t:SetTable} (R:dZ t.place) (hs:t.place.size<=t.mask):∃ e,e<=t.mask/\¬ dB t e:=by
  have key:∀ n,n<=t.place.size->(∀ a,a < n->t.place.getD a 0=a)∨∃ e,e < n/\t.place.getD e 0≠e/\∀ a,a < e->t.place.getD a 0=a:=by
    intro n
    induction n with
    | zero=>intro _;exact .inl fun a h=>absurd h (by omega)
    | succ n ih =>
      intro h
      rcases ih (by omega) with h1|⟨e,h1,h2,h3⟩
      . by_cases c:t.place.getD n 0=n
        . refine .inl fun a ha=>?_
          by_cases d:a=n
          . rw [d];exact c
          . exact h1 a (by omega)
        . exact .inr ⟨n,by omega,c,h1⟩
      . exact .inr ⟨e,by omega,h2,h3⟩
  rcases key t.place.size (Nat.le_refl _) with h|⟨e,h1,h2,h3⟩
  . refine ⟨t.place.size,hs,fun ⟨i,hi,e⟩=>?_⟩
    have:=h i hi;omega
  . refine ⟨e,by omega,fun ⟨i,hi,e'⟩=>?_⟩
    by_cases c:i < e
    . have:=h3 i c;omega
    . have hge:=yE R e h1
      by_cases d:i=e
      . subst d;exact h2 e'
      . have:=R e i (by omega) hi;omega
theorem pf {t:SetTable} (R:dZ t.place) (nd:t.dummies=#[]) (hashAt:Nat->Int) (h:Int):∀ (fuel s0 s1:Nat),s0<=s1->s1 < s0 + fuel->¬ dB t (pos t h s1) ->
    ∃ s2,s0<=s2/\s2<=s1/\(∀ s,s0<=s->s < s2->∃ i,i < t.place.size/\t.place.getD i 0=pos t h s/\hashAt i≠h) /\
      ((¬ dB t (pos t h s2) /\ probe.go t hashAt h fuel (bD t s0 (t.probeStart h)) = some (.empty (pos t h s2) none)) ∨
       ∃ i,i < t.place.size/\t.place.getD i 0=pos t h s2/\hashAt i=h/\probe.go t hashAt h fuel (bD t s0 (t.probeStart h))=some (.candidate (pos t h s2) i (bD t (s2 + 1) (t.probeStart h)))):=by
  intro fuel
  induction fuel with
  | zero=>intro s0 s1 h1 h2;omega
  | succ fuel ih =>
    intro s0 s1 h1 h2 hl
    have hd:=(jO t h s0).2.2
    unfold probe.go
    by_cases c:dB t (pos t h s0)
    . obtain ⟨i,hi,e1,e2⟩:=jP R c
      have e2':t.slot (bD t s0 (t.probeStart h)).j=.live i:=e2
      rw [e2']
      simp only
      by_cases d:hashAt i=h
      . refine ⟨s0,Nat.le_refl _,h1,fun s a b=>absurd a (by omega),.inr ⟨i,hi,e1,d,?_⟩⟩
        rw [if_pos (by simp [d]),dA];rfl
      . rw [if_neg (by simp [d]),<- dA]
        have hne:s0≠s1:=fun z=>hl (z▸c)
        obtain ⟨s2,a1,a2,a3,a4⟩:=ih (s0 + 1) s1 (by omega) (by omega) hl
        refine ⟨s2,by omega,a2,fun s b1 b2=>?_,a4⟩
        by_cases z:s=s0
        . subst z;exact ⟨i,hi,e1,d⟩
        . exact a3 s (by omega) b2
    . refine ⟨s0,Nat.le_refl _,h1,fun s a b=>absurd a (by omega),.inl ⟨c,?_⟩⟩
      have e2:t.slot (bD t s0 (t.probeStart h)).j=.empty:=sn nd c
      rw [e2]
      simp only
      rw [hd];rfl
end Tb
namespace Tb
open PySem PySem.SetTable
theorem wo {t t':SetTable} (e:t.mask=t'.mask):∀ s p,bD t s p=bD t' s p:=by
  intro s
  induction s with
  | zero=>intro p;rfl
  | succ s ih =>
    intro p
    simp only [bD]
    have:t.advance p=t'.advance p:=by unfold advance;rw [e]
    rw [this,ih]
theorem ij {t t':SetTable} (e:t.mask=t'.mask) (h:Int) (s:Nat):pos t h s=pos t' h s:=by
  unfold pos
  have:t.probeStart h=t'.probeStart h:=by unfold probeStart;rw [e]
  rw [this,wo e]
abbrev bu:=Nat×Int×Value
structure Good (t:SetTable) (L:List bu):Prop where
  pw:∃ k,t.mask + 1=2 ^ k
  m7:7<=t.mask
  nd:t.dummies=#[]
  pl:t.place=(L.map (·.1)).toArray
  so:(L.map (·.1)).Pairwise (· < ·)
  le:∀ e∈L,e.1<=t.mask
  reach:∀ e∈L,∃ s,pos t e.2.1 s=e.1/\∀ s',s' < s->∃ e'∈L,e'.1=pos t e.2.1 s'
section
variable {t:SetTable} {L:List bu}
theorem Good.sz (g:Good t L):t.place.size=L.length:=by rw [g.pl];simp
theorem Good.at (g:Good t L) {i:Nat} (hi:i < L.length):t.place.getD i 0=L[i].1:=by rw [g.pl];simp [Array.getD,hi]
theorem Good.rise (g:Good t L):dZ t.place:=by
  intro a b hab hb
  rw [g.sz] at hb
  rw [g.at (show a < L.length by omega),g.at hb]
  have:=(List.pairwise_iff_getElem.mp g.so) a b (by simpa using (show a < L.length by omega)) (by simpa using hb) hab
  simpa using this
theorem Good.live (g:Good t L) {j:Nat}:dB t j↔∃ e∈L,e.1=j:=by
  constructor
  . rintro ⟨i,hi,e⟩
    rw [g.sz] at hi
    rw [g.at hi] at e
    exact ⟨L[i],List.getElem_mem hi,e⟩
  . rintro ⟨e,he,q⟩
    obtain ⟨i,hi,e1⟩:=List.mem_iff_getElem.mp he
    exact ⟨i,by rw [g.sz];exact hi,by rw [g.at hi,e1];exact q⟩
theorem Good.uniq (g:Good t L) {e e':bu} (h:e∈L) (h':e'∈L) (q:e.1=e'.1):e=e':=by
  obtain ⟨i,hi,rfl⟩:=List.mem_iff_getElem.mp h
  obtain ⟨j,hj,rfl⟩:=List.mem_iff_getElem.mp h'
  have R:=g.rise
  by_cases c:i < j
  . have:=R i j c (by rw [g.sz];exact hj);rw [g.at hi,g.at hj] at this;omega
  . by_cases d:j < i
    . have:=R j i d (by rw [g.sz];exact hi);rw [g.at hi,g.at hj] at this;omega
    . obtain rfl:i=j:=by omega
      rfl
end
theorem gM {α:Type} (xs:List α) (p:Nat) (hp:p<=xs.length) (x:α):insertAt xs.toArray p x=(xs.take p++x::xs.drop p).toArray:=by
  unfold insertAt
  apply Array.toList_inj.mp
  simp only [List.extract_toArray,List.size_toArray,Array.toList_append,Array.toList_push,List.extract_eq_take_drop,Nat.sub_zero,List.drop_zero]
  rw [List.take_of_length_le (l:=xs.drop p) (by simp)]
  simp
theorem lH (t:SetTable) (nd:t.dummies=#[]) (j:Nat):t.put j=({ t with place:=insertAt t.place (below t.place j) j },below t.place j):=by
  unfold put
  have:has t.dummies j=false:=by unfold has;rw [nd];simp
  simp only [this,Bool.false_eq_true,if_false]
theorem Good.put {t:SetTable} {L:List bu} (g:Good t L) {j:Nat} {h:Int} {x:Value} (hj:j<=t.mask) (hn:¬ dB t j) (hr:∃ s,pos t h s=j/\∀ s',s' < s->∃ e'∈L,e'.1=pos t h s') :
    (t.put j).2<=L.length/\Good (t.put j).1 (L.take (t.put j).2++(j,h,x)::L.drop (t.put j).2):=by
  rw [lH t g.nd]
  obtain ⟨b1,b2,b3⟩:=gS g.rise j
  rw [g.sz] at b1 b3
  simp only
  generalize hp:below t.place j=p at *
  refine ⟨b1,?_⟩
  have mem:∀ e:bu,e∈L.take p++(j,h,x)::L.drop p↔e=(j,h,x)∨e∈L:=fun e=>by
    have:L=L.take p++L.drop p:=(List.take_append_drop p L).symm
    constructor
    . intro z
      rcases List.mem_append.mp z with z|z
      . exact .inr (List.mem_of_mem_take z)
      . rcases List.mem_cons.mp z with z|z
        . exact .inl z
        . exact .inr (List.mem_of_mem_drop z)
    . rintro (z|z)
      . subst z;simp
      . rw [this] at z
        rcases List.mem_append.mp z with z|z
        . exact List.mem_append_left _ z
        . exact List.mem_append_right _ (List.mem_cons_of_mem _ z)
  have pm:∀ (hh:Int) (s:Nat),pos { t with place:=insertAt t.place p j } hh s=pos t hh s:=fun hh s=>ij (by rfl) hh s
  refine ⟨g.pw,g.m7,g.nd,?_,?_,fun e he=>?_,fun e he=>?_⟩
  . show insertAt t.place p j=_
    rw [g.pl,gM _ _ (by simpa using b1)]
    simp [List.map_take,List.map_drop]
  . simp only [List.map_append,List.map_cons]
    rw [List.pairwise_append]
    refine ⟨?_,?_,?_⟩
    . rw [List.map_take];exact List.Pairwise.sublist (List.take_sublist _ _) g.so
    . rw [List.pairwise_cons]
      refine ⟨fun a ha=>?_,?_⟩
      . obtain ⟨e,he,rfl⟩:=List.mem_map.mp ha
        obtain ⟨i,hi,rfl⟩:=List.mem_iff_getElem.mp he
        have hi':p + i < L.length:=by simp at hi;omega
        have q:=b3 (p + i) (by omega) hi'
        rw [g.at hi'] at q
        have ne:L[p + i].1≠j:=fun z=>hn (g.live.mpr ⟨_,List.getElem_mem hi',z⟩)
        simp only [List.getElem_drop]
        show j < _
        omega
      . rw [List.map_drop];exact List.Pairwise.sublist (List.drop_sublist _ _) g.so
    . intro a ha b hb
      obtain ⟨e,he,rfl⟩:=List.mem_map.mp ha
      obtain ⟨i,hi,rfl⟩:=List.mem_iff_getElem.mp he
      have hi':i < p:=by simp at hi;omega
      have q:=b2 i hi'
      rw [g.at (show i < L.length by omega)] at q
      simp only [List.getElem_take]
      rcases List.mem_cons.mp hb with z|z
      . rw [z];exact q
      . obtain ⟨e',he',rfl⟩:=List.mem_map.mp z
        obtain ⟨i',hi2,rfl⟩:=List.mem_iff_getElem.mp he'
        have hi3:p + i' < L.length:=by simp at hi2;omega
        have:=b3 (p + i') (by omega) hi3
        rw [g.at hi3] at this
        simp only [List.getElem_drop]
        omega
  . rcases (mem e).mp he with z|z
    . rw [z];exact hj
    . exact g.le e z
  . rcases (mem e).mp he with z|z
    . subst z
      obtain ⟨s,e1,e2⟩:=hr
      refine ⟨s,by rw [pm];exact e1,fun s' hs=>?_⟩
      obtain ⟨e',h1,h2⟩:=e2 s' hs
      exact ⟨e',(mem e').mpr (.inr h1),by rw [pm];exact h2⟩
    . obtain ⟨s,e1,e2⟩:=g.reach e z
      refine ⟨s,by rw [pm];exact e1,fun s' hs=>?_⟩
      obtain ⟨e',h1,h2⟩:=e2 s' hs
      exact ⟨e',(mem e').mpr (.inr h1),by rw [pm];exact h2⟩
end Tb
namespace Tb
open PySem PySem.SetTable
def cZ (owner:Array (Option Nat)) (j:Nat):Prop:=owner.getD j (some 0)=none
theorem ux {mask:Nat} {t:SetTable} (ht:t.mask=mask) (owner:Array (Option Nat)):∀ (fuel i pt n:Nat),n < fuel->cZ owner (lp mask n (i,pt)).1 ->
    ∃ j s,layClean.free mask owner fuel i pt=some j/\(bD t s (ff mask i pt none)).j=j/\cZ owner j/\∀ s',s' < s->¬ cZ owner (bD t s' (ff mask i pt none)).j:=by
  intro fuel
  induction fuel with
  | zero=>intro i pt n h;omega
  | succ fuel ih =>
    intro i pt n hn hN
    unfold layClean.free
    have run:∀ s,s<=runEnd mask i - i->(bD t s (ff mask i pt none)).j=i + s:=fun s hs=>by rw [rk t s _ hs];rfl
    have hre:i<=runEnd mask i:=by unfold runEnd;split <;> omega
    cases e:(List.range (runEnd mask i + 1 - i)).find? fun k=>(owner.getD (i + k) (some 0)).isNone with
    | some k =>
      simp only
      have h1:=List.find?_some e
      have h2:=List.mem_of_find?_eq_some e
      have h3:=List.mem_range.mp h2
      refine ⟨i + k,k,rfl,run k (by omega),by simpa [cZ] using h1,fun s' hs z=>?_⟩
      rw [run s' (by omega)] at z
      have:=List.find?_eq_some_iff_append.mp e
      obtain ⟨_,as,bs,e1,e2⟩:=this
      have hs':s'∈as:=by
        have hm:s'∈List.range (runEnd mask i + 1 - i):=List.mem_range.mpr (by omega)
        have ps:=List.pairwise_lt_range (n:=runEnd mask i + 1 - i)
        rw [e1] at hm ps
        rcases List.mem_append.mp hm with hm|hm
        . exact hm
        . rcases List.mem_cons.mp hm with hm|hm
          . omega
          . have:=(List.pairwise_cons.mp (List.pairwise_append.mp ps).2.1).1 s' hm;omega
      have:=e2 s' hs'
      rw [show owner.getD (i + s') (some 0)=none from z] at this
      simp at this
    | none =>
      simp only
      have h1:=List.find?_eq_none.mp e
      have no:∀ s,s<=runEnd mask i - i->¬ cZ owner (i + s):=fun s hs z=>by
        have:=h1 s (List.mem_range.mpr (by omega))
        rw [show owner.getD (i + s) (some 0)=none from z] at this
        simp at this
      cases n with
      | zero=>exact absurd hN (no 0 (by omega))
      | succ n =>
        have e3:lp mask (n + 1) (i,pt)=lp mask n (leap mask i pt):=by
          rw [Nat.add_comm,uv];rfl
        rw [e3] at hN
        obtain ⟨j,s,a1,a2,a3,a4⟩:=ih (leap mask i pt).1 (leap mask i pt).2 n (by omega) hN
        have hl:bD t (runEnd mask i - i + 1) (ff mask i pt none)=ff mask (leap mask i pt).1 (leap mask i pt).2 none:=by
          have:=kI t (ff mask i pt none)
          rw [ht] at this
          exact this
        refine ⟨j,runEnd mask i - i + 1 + s,a1,by rw [hV,hl];exact a2,a3,fun s' hs z=>?_⟩
        by_cases c:s'<=runEnd mask i - i
        . rw [run s' c] at z;exact no s' c z
        . obtain ⟨q,rfl⟩:∃ q,s'=runEnd mask i - i + 1 + q:=⟨s' - (runEnd mask i - i + 1),by omega⟩
          rw [hV,hl] at z
          exact a4 q (by omega) z
theorem jl {α β:Type} {f g:α->Option β}:∀ {l:List α},(∀ a∈l,f a=g a)->l.filterMap f=l.filterMap g
  | [],_=>rfl
  | a::l,h=>by
    have ih:=jl (l:=l) fun b hb=>h b (List.mem_cons_of_mem _ hb)
    simp only [List.filterMap_cons,ih,h a List.mem_cons_self]
def cB (M:Nat) (owner:Array (Option Nat)):List (Nat×Nat):=(List.range M).filterMap fun j=>(owner.getD j none).map (j,·)
theorem mem_liveOf {M:Nat} {owner:Array (Option Nat)} {j i:Nat}:(j,i)∈cB M owner↔j < M/\owner.getD j none=some i:=by
  unfold cB
  simp only [List.mem_filterMap,List.mem_range,Option.map_eq_some_iff,Prod.mk.injEq]
  constructor
  . rintro ⟨a,h1,b,h2,rfl,rfl⟩;exact ⟨h1,h2⟩
  . rintro ⟨h1,h2⟩;exact ⟨j,h1,i,h2,rfl,rfl⟩
theorem nL {M:Nat} {owner:Array (Option Nat)}:((cB M owner).map (·.1)).Pairwise (· < ·):=by
  have e:(cB M owner).map (·.1)=(List.range M).filter fun j=>(owner.getD j none).isSome:=by
    unfold cB
    rw [List.map_filterMap,<- List.filterMap_eq_filter]
    congr 1
    funext j
    generalize hz:owner.getD j none=o
    cases o <;> simp [Option.guard,hz]
  rw [e]
  exact List.Pairwise.sublist List.filter_sublist List.pairwise_lt_range
theorem ph {f f':Nat->Option (Nat×Nat)} {j:Nat} {v:Nat×Nat}:∀ {l:List Nat},l.Nodup->j∈l->f j=none->f' j=some v->(∀ a,a≠j->f' a=f a)->(l.filterMap f').Perm (v::l.filterMap f)
  | [],_,h,_,_,_=>by cases h
  | a::l,nd,h,h1,h2,h3=>by
    have nd':=List.nodup_cons.mp nd
    by_cases c:a=j
    . subst c
      have same:l.filterMap f'=l.filterMap f:=jl fun b hb=>h3 b fun z=>nd'.1 (z▸hb)
      rw [List.filterMap_cons_some h2,List.filterMap_cons_none h1,same]
    . have hm:j∈l:=(List.mem_cons.mp h).resolve_left (Ne.symm c)
      have ih:=ph nd'.2 hm h1 h2 h3
      cases e:f a with
      | none =>
        rw [List.filterMap_cons_none (by rw [h3 a c];exact e),List.filterMap_cons_none e];exact ih
      | some b =>
        rw [List.filterMap_cons_some (by rw [h3 a c];exact e),List.filterMap_cons_some e]
        exact (ih.cons b).trans (List.Perm.swap ..)
theorem sq {M:Nat} {owner:Array (Option Nat)} (hs:owner.size=M) {j k:Nat} (hj:j < M) (hn:owner.getD j none=none):(cB M (owner.setIfInBounds j (some k))).Perm ((j,k)::cB M owner):=by
  unfold cB
  refine ph (j:=j) List.nodup_range (List.mem_range.mpr hj) (by rw [hn];rfl) ?_ fun a ha=>?_
  . have:(owner.setIfInBounds j (some k)).getD j none=some k:=by simp [Array.getD,hs,hj]
    rw [this];rfl
  . have:(owner.setIfInBounds j (some k)).getD a none=owner.getD a none:=by
      simp only [Array.getD_eq_getD_getElem?]
      rw [Array.getElem?_setIfInBounds_ne (Ne.symm ha)]
    rw [this]
structure LC (t:SetTable) (hs:List Int) (owner:Array (Option Nat)) (k:Nat):Prop where
  sz:owner.size=t.mask + 1
  pm:((cB (t.mask + 1) owner).map (·.2)).Perm (List.range k)
  reach:∀ j i,(j,i)∈cB (t.mask + 1) owner->∃ h,hs[i]?=some h/\∃ s,pos t h s=j/\∀ s',s' < s->¬ cZ owner (pos t h s')
theorem rm {owner:Array (Option Nat)} {j:Nat} (h:cZ owner j):j < owner.size/\owner.getD j none=none:=by
  unfold cZ at h
  by_cases c:j < owner.size
  . simp only [Array.getD,c,dif_pos] at h ⊢;exact ⟨trivial,h⟩
  . simp [Array.getD,c] at h
theorem LC.step {t:SetTable} {hs:List Int} {owner:Array (Option Nat)} {k:Nat} (g:LC t hs owner k) (pw:∃ q,t.mask + 1=2 ^ q) (hk:k<=t.mask) {h:Int} (hh:hs[k]?=some h) :
    ∃ j,layClean.free t.mask owner (turns t.mask) (bits h % (t.mask + 1)) (bits h)=some j/\LC t hs (owner.setIfInBounds j (some k)) (k + 1):=by
  obtain ⟨q,hq⟩:=pw
  have emp:∃ e,e<=t.mask/\cZ owner e:=by
    refine Classical.byContradiction fun c=>?_
    have all:∀ e,e < t.mask + 1->∃ i,(e,i)∈cB (t.mask + 1) owner:=fun e he=>by
      cases z:owner.getD e none with
      | some i=>exact ⟨i,mem_liveOf.mpr ⟨he,z⟩⟩
      | none =>
        refine absurd ⟨e,by omega,?_⟩ c
        have hl:e < owner.size:=by rw [g.sz];exact he
        simp only [cZ,Array.getD,hl,dif_pos] at z ⊢;exact z
    have l1:(cB (t.mask + 1) owner).length=k:=by have:=g.pm.length_eq;simpa using this
    have l2:((cB (t.mask + 1) owner).map (·.1))=List.range (t.mask + 1):=by
      unfold cB
      rw [List.map_filterMap]
      have:(List.range (t.mask + 1)).filterMap (fun x=>Option.map (·.1) (Option.map (x,·) (owner.getD x none)))=(List.range (t.mask + 1)).filterMap some:=by
        refine jl fun x hx=>?_
        obtain ⟨i,hi⟩:=all x (List.mem_range.mp hx)
        rw [(mem_liveOf.mp hi).2];rfl
      rw [this];simp
    have l3:=congrArg List.length l2
    simp at l3
    omega
  obtain ⟨e,he,hN⟩:=emp
  obtain ⟨n,hn,en⟩:=uw hq (bits h % (t.mask + 1)) (bits h) (rl h) he
  obtain ⟨j,s,f1,f2,f3,f4⟩:=ux (t:=t) rfl owner (turns t.mask) (bits h % (t.mask + 1)) (bits h) n (by unfold turns;omega) (by rw [en];exact hN)
  obtain ⟨hj,hjn⟩:=rm f3
  have hp:=sq (k:=k) g.sz (by rw [<- g.sz];exact hj) hjn
  have stays:∀ a,¬ cZ owner a->¬ cZ (owner.setIfInBounds j (some k)) a:=fun a ha z=>by
    by_cases c:a=j
    . subst c
      have:=rm z
      simp [Array.getD,hj] at this
    . apply ha
      unfold cZ at z ⊢
      simp only [Array.getD_eq_getD_getElem?] at z ⊢
      rw [Array.getElem?_setIfInBounds_ne (Ne.symm c)] at z
      exact z
  refine ⟨j,f1,⟨by simp [g.sz],?_,fun j' i' hm=>?_⟩⟩
  . have:=(hp.map (fun (x:Nat×Nat)=>x.2)).trans (List.Perm.cons k g.pm)
    refine this.trans ?_
    rw [List.range_succ]
    exact List.perm_append_comm (l₁:=[k]) (l₂:=List.range k)
  . rcases List.mem_cons.mp (hp.mem_iff.mp hm) with z|z
    . cases z
      exact ⟨h,hh,s,f2,fun s' hs'=>stays _ (f4 s' hs')⟩
    . obtain ⟨h',e1,s1,e2,e3⟩:=g.reach j' i' z
      exact ⟨h',e1,s1,e2,fun s' hs'=>stays _ (e3 s' hs')⟩
end Tb
namespace Tb
open PySem PySem.SetTable
theorem uy {mask i:Nat} (h:i<=mask):i + (runEnd mask i - i)<=mask:=by unfold runEnd;split <;> omega
theorem AQ (t:SetTable) (p:Probe) (h:p.j + p.more<=t.mask):∀ s,(bD t s p).j + (bD t s p).more<=t.mask:=by
  intro s
  induction s with
  | zero=>exact h
  | succ s ih =>
    rw [dA]
    unfold advance
    split
    . simp only;omega
    . exact uy (Nat.le_of_lt_succ (Nat.mod_lt _ (by omega)))
theorem uz (t:SetTable) (h:Int) (s:Nat):pos t h s<=t.mask:=by
  have:=AQ t (t.probeStart h) (uy (Nat.le_of_lt_succ (Nat.mod_lt _ (by omega)))) s
  unfold pos;omega
theorem wq {t:SetTable} (pw:∃ q,t.mask + 1=2 ^ q) (hs:List Int) (hn:hs.length<=t.mask):∀ (rest pre:List Int) (owner:Array (Option Nat)),hs=pre++rest->LC t hs owner pre.length ->
    ∃ owner',rest.foldl (init:=some (owner,pre.length)) (fun acc h=>do
        let (owner,k) <- acc
        let j <- layClean.free t.mask owner (turns t.mask) (bits h % (t.mask + 1)) (bits h)
        pure (owner.setIfInBounds j (some k),k + 1))=some (owner',hs.length)/\LC t hs owner' hs.length:=by
  intro rest
  induction rest with
  | nil =>
    intro pre owner e g
    rw [List.append_nil] at e
    subst e
    exact ⟨owner,rfl,g⟩
  | cons h rest ih =>
    intro pre owner e g
    have hk:hs[pre.length]?=some h:=by rw [e];simp
    have hl:pre.length<=t.mask:=by rw [e] at hn;simp at hn;omega
    obtain ⟨j,f1,g1⟩:=g.step pw hl hk
    obtain ⟨owner',e1,g2⟩:=ih (pre++[h]) (owner.setIfInBounds j (some pre.length)) (by rw [e];simp) (by simpa using g1)
    refine ⟨owner',?_,g2⟩
    rw [List.foldl_cons]
    have:(some (owner,pre.length) >>= fun x=>match x with
        | (owner,k)=>layClean.free t.mask owner (turns t.mask) (bits h % (t.mask + 1)) (bits h) >>= fun j=>pure (owner.setIfInBounds j (some k),k + 1))=some (owner.setIfInBounds j (some pre.length),(pre++[h]).length):=by
      show (layClean.free t.mask owner (turns t.mask) (bits h % (t.mask + 1)) (bits h) >>= fun j=>pure (owner.setIfInBounds j (some pre.length),pre.length + 1))=_
      rw [f1]
      simp
    exact (congrArg (fun o=>rest.foldl _ o) this).trans e1
theorem LC.start (t:SetTable) (hs:List Int):LC t hs (Array.replicate (t.mask + 1) none) 0:=by
  have e:cB (t.mask + 1) (Array.replicate (t.mask + 1) none)=[]:=by
    unfold cB
    rw [List.filterMap_eq_nil_iff]
    intro j hj
    have:(Array.replicate (t.mask + 1) (none:Option Nat)).getD j none=none:=by
      simp only [Array.getD_eq_getD_getElem?,Array.getElem?_replicate]
      split <;> rfl
    rw [this];rfl
  refine ⟨by simp,by rw [e];exact .refl _,fun j i h=>?_⟩
  rw [e] at h;cases h
theorem qv {t:SetTable} (pw:∃ q,t.mask + 1=2 ^ q) (hs:Array Int) (hn:hs.size<=t.mask):∃ owner,layClean t.mask hs=some owner/\LC t hs.toList owner hs.size:=by
  obtain ⟨owner,e,g⟩:=wq pw hs.toList (by simpa using hn) hs.toList [] (Array.replicate (t.mask + 1) none) rfl (LC.start t _)
  refine ⟨owner,?_,by simpa using g⟩
  unfold layClean
  rw [<- Array.foldl_toList]
  have e':=congrArg (Option.map (·.1)) e
  exact e'
theorem pi:∀ (fuel size n:Nat),(∃ q,size=2 ^ q)->8<=size->n < size * 2 ^ fuel->∃ q,sizeAbove.go n fuel size=2 ^ q/\8<=sizeAbove.go n fuel size/\n < sizeAbove.go n fuel size/\(sizeAbove.go n fuel size=size∨sizeAbove.go n fuel size<=2 * n):=by
  intro fuel
  induction fuel with
  | zero=>intro size n ⟨q,hq⟩ h8 h;exact ⟨q,hq,h8,by simpa [sizeAbove.go] using h,.inl rfl⟩
  | succ fuel ih =>
    intro size n ⟨q,hq⟩ h8 h
    unfold sizeAbove.go
    by_cases c:size<=n
    . rw [if_pos c]
      obtain ⟨q',a1,a2,a3,a4⟩:=ih (size * 2) n ⟨q + 1,by rw [hq,Nat.pow_succ]⟩ (by omega) (by rw [Nat.mul_assoc,<- Nat.pow_succ'];exact h)
      refine ⟨q',a1,a2,a3,.inr ?_⟩
      rcases a4 with a4|a4
      . rw [a4];omega
      . exact a4
    . rw [if_neg c]
      exact ⟨q,hq,h8,by omega,.inl rfl⟩
theorem fG (n:Nat) (hn:n < 2 ^ 60):(∃ q,sizeAbove n - 1 + 1=2 ^ q)/\7<=sizeAbove n - 1/\n<=sizeAbove n - 1/\(sizeAbove n - 1=7∨sizeAbove n<=2 * n):=by
  obtain ⟨q,a1,a2,a3,a4⟩:=pi 64 8 n ⟨3,rfl⟩ (Nat.le_refl _) (Nat.lt_trans hn (by decide))
  unfold sizeAbove
  refine ⟨⟨q,by rw [<- a1];omega⟩,by omega,by omega,?_⟩
  rcases a4 with a4|a4
  . left;omega
  . right;exact a4
theorem iB {mask:Nat} (pw:∃ q,mask + 1=2 ^ q) (m7:7<=mask) (finger moves:Nat) (led plain:Bool) (es:List (Int×Value)) (hn:es.length<=mask) :
    ∃ t' order L,laid mask finger moves led plain (es.map (·.1)).toArray=some (t',order)/\t'.mask=mask/\t'.led=led/\t'.plain=plain/\t'.moves=moves/\Good t' L/\order.filterMap (fun i=>es.toArray[i]?)=(L.map (·.2)).toArray/\(L.map (·.2)).Perm es:=by
  let t0:SetTable:={ mask,place:=#[],dummies:=#[],finger,led,moves,plain }
  obtain ⟨owner,e1,g⟩:=qv (t:=t0) pw (es.map (·.1)).toArray (by simpa using hn)
  let live:=cB (mask + 1) owner
  let t1:SetTable:={ mask,place:=(live.map (·.1)).toArray,dummies:=#[],finger,led,moves,plain }
  have hi:∀ j i,(j,i)∈live->∃ e,es[i]?=some e:=fun j i h=>by
    obtain ⟨hh,a1,_⟩:=g.reach j i h
    simp only [List.getElem?_map,Option.map_eq_some_iff] at a1
    obtain ⟨e,a2,_⟩:=a1
    exact ⟨e,a2⟩
  let L:List bu:=live.filterMap fun x=>(es[x.2]?).map fun e=>(x.1,e)
  have hL1:∀ l:List (Nat×Nat),(∀ x∈l,∃ e,es[x.2]?=some e)->(l.filterMap fun x=>(es[x.2]?).map fun e=>((x.1,e):bu)).map (·.1)=l.map (·.1):=by
    intro l
    induction l with
    | nil=>intro _;rfl
    | cons x l ih =>
      intro h
      obtain ⟨e,he⟩:=h x List.mem_cons_self
      rw [List.filterMap_cons_some (by rw [he];rfl),List.map_cons,List.map_cons,ih fun y hy=>h y (List.mem_cons_of_mem _ hy)]
  have hL2:∀ l:List (Nat×Nat),(l.filterMap fun x=>(es[x.2]?).map fun e=>((x.1,e):bu)).map (·.2)=(l.map (·.2)).filterMap fun i=>es[i]?:=by
    intro l
    rw [List.map_filterMap,List.filterMap_map]
    refine jl fun x _=>?_
    simp only [Function.comp]
    cases es[x.2]? <;> rfl
  have rg:∀ l:List (Int×Value),(List.range l.length).filterMap (fun i=>l[i]?)=l:=by
    intro l
    induction l with
    | nil=>rfl
    | cons a l ih =>
      rw [List.length_cons,List.range_succ_eq_map,List.filterMap_cons_some (by rfl),List.filterMap_map]
      congr 1
  have pmL:(L.map (·.2)).Perm es:=by
    show ((live.filterMap fun x=>(es[x.2]?).map fun e=>((x.1,e):bu)).map (·.2)).Perm es
    rw [hL2]
    have:=(g.pm.filterMap fun i=>es[i]?)
    have e2:(es.map (·.1)).toArray.size=es.length:=by simp
    rw [e2] at this
    rw [rg] at this
    exact this
  refine ⟨t1,(live.map (·.2)).toArray,L,?_,rfl,rfl,rfl,rfl,⟨pw,m7,rfl,?_,?_,fun e he=>?_,fun e he=>?_⟩,?_,pmL⟩
  . unfold laid
    have e1':layClean mask (es.map (·.1)).toArray=some owner:=e1
    rw [e1']
    rfl
  . show (live.map (·.1)).toArray=_
    rw [show L.map (·.1)=live.map (·.1) from hL1 live fun x hx=>hi x.1 x.2 hx]
  . rw [show L.map (·.1)=live.map (·.1) from hL1 live fun x hx=>hi x.1 x.2 hx]
    exact nL
  . obtain ⟨x,hx,h2⟩:=List.mem_filterMap.mp he
    obtain ⟨e',_,rfl⟩:=Option.map_eq_some_iff.mp h2
    have:=(mem_liveOf (j:=x.1) (i:=x.2)).mp hx
    show x.1<=mask
    omega
  . obtain ⟨x,hx,h2⟩:=List.mem_filterMap.mp he
    obtain ⟨e',h3,rfl⟩:=Option.map_eq_some_iff.mp h2
    obtain ⟨hh,a1,s,a2,a3⟩:=g.reach x.1 x.2 hx
    simp only [List.getElem?_map,h3,Option.map_some,Option.some.injEq] at a1
    subst a1
    have pm:∀ s,pos t1 e'.1 s=pos t0 e'.1 s:=fun s=>ij (t:=t1) (t':=t0) rfl _ s
    refine ⟨s,by rw [pm];exact a2,fun s' hs=>?_⟩
    have nn:=a3 s' hs
    have hlt:pos t0 e'.1 s' < mask + 1:=Nat.lt_succ_of_le (uz t0 e'.1 s')
    cases z:owner.getD (pos t0 e'.1 s') none with
    | none =>
      refine absurd ?_ nn
      have hl:pos t0 e'.1 s' < owner.size:=by rw [g.sz];exact hlt
      simp only [cZ,Array.getD,hl,dif_pos] at z ⊢;exact z
    | some i =>
      have hm:(pos t0 e'.1 s',i)∈live:=mem_liveOf.mpr ⟨hlt,z⟩
      obtain ⟨e2,he2⟩:=hi _ _ hm
      refine ⟨(pos t0 e'.1 s',e2),List.mem_filterMap.mpr ⟨_,hm,by rw [he2];rfl⟩,by rw [pm]⟩
  . rw [show L.map (·.2)=(live.map (·.2)).filterMap fun i=>es[i]? from hL2 live]
    simp
end Tb
namespace Tb
open PySem PySem.Spec PySem.SetTable
abbrev TK (prog:Program) (w:World):=tupleKind (intKind prog w)
abbrev hK (prog:Program) (w:World) (ks:List Int):Int:=tupleKeyHash (intKind prog w) ks
def jm (prog:Program) (w:World) (h:Heap) (e:bu) (ks:List Int):Prop:=∃ b,e.2.2=.ref b/\IsTupleKey (intKind prog w) h ks b/\e.2.1=hK prog w ks
section
variable {prog:Program} {w:World} {A:Around} {E:Value->Shared->Prop} {s:Shared}
theorem pj {n:Nat} {v:Value} (h:carriedByValue v=true):ofAClassStatement n v=pure false:=by
  cases v with
  | ref a=>simp [carriedByValue] at h
  | _=>first|rfl|(unfold ofAClassStatement;rfl)
theorem jQ {ks:List Int} {b:Addr} {Q:Bool->Shared->Prop} (hk:IsTupleKey (intKind prog w) s.heap ks b) (h:Q false s):wpAny (model prog w) A (ofAClassStatement 8 (.ref b)) Q E s:=by
  have hT:=hk.typeIs
  obtain ⟨o,items,n,ho,hc,hd,hi⟩:=hk
  unfold ofAClassStatement
  refine wpAny_bind (wpAny_typeOf hT ?_)
  simp only [beq_self_eq_true,if_true]
  refine wpAny_bind (wpAny_pure ?_)
  simp only [Bool.not_true,Bool.false_eq_true,if_false]
  refine wpAny_bind (wpAny_seqItems ho hd ?_)
  refine wpAny_bind ?_
  show wpAny _ _ (forIn items _ _) _ _ s
  rw [<- Array.forIn_toList]
  refine wpAny_forIn_list _ (fun rest r s'=>r.1=none/\s'=s/\∀ v∈rest,carriedByValue v=true) _ ?_ ?_ _ _ ⟨rfl,rfl,hi.byValue⟩
  . rintro v rest r s' ⟨hr,rfl,hall⟩
    rw [pj (hall v List.mem_cons_self)]
    refine wpAny_bind (wpAny_pure ?_)
    simp only [Bool.false_eq_true,if_false]
    exact wpAny_pure ⟨rfl,rfl,fun u hu'=>hall u (List.mem_cons_of_mem _ hu')⟩
  . rintro ⟨r1,r2⟩ s' ⟨hr,rfl,_⟩
    simp only at hr
    subst hr
    exact wpAny_pure h
theorem mz {ks:List Int} {b:Addr} {Q:Bool->Shared->Prop} (hk:IsTupleKey (intKind prog w) s.heap ks b) (ys:List Value) (hy:∀ y∈ys,∃ k' b',y=.ref b'/\IsTupleKey (intKind prog w) s.heap k' b') (h:Q false s) :
    wpAny (model prog w) A (searchCouldBeSeen (.ref b) ys) Q E s:=by
  unfold searchCouldBeSeen
  refine wpAny_bind ?_
  refine wpAny_forIn_list _ (fun rest r s'=>r.1=none/\s'=s/\∀ y∈rest,∃ k' b',y=.ref b'/\IsTupleKey (intKind prog w) s.heap k' b') _ ?_ ?_ _ _ ⟨rfl,rfl,hy⟩
  . rintro v rest r s' ⟨hr,rfl,hall⟩
    obtain ⟨k',b',rfl,hk'⟩:=hall v List.mem_cons_self
    have rest_ok:∀ y∈rest,∃ k' b',y=Value.ref b'/\IsTupleKey (intKind prog w) s'.heap k' b':=fun y hy=>hall y (List.mem_cons_of_mem _ hy)
    dsimp only
    by_cases c:b=b'
    . subst c
      simp only [beq_self_eq_true,Bool.true_or,if_true]
      exact wpAny_pure ⟨rfl,rfl,rest_ok⟩
    . have hc:(b == b')=false:=by simpa using c
      simp only [hc,carriedByValue,Bool.false_and,Bool.or_self,Bool.false_eq_true,if_false]
      refine wpAny_bind (wpAny_eqIsQuiet_tuple hk ?_)
      simp only [Bool.not_true,Bool.false_eq_true,if_false]
      refine wpAny_bind (wpAny_eqIsQuiet_tuple hk' ?_)
      simp only [Bool.not_true,Bool.false_eq_true,if_false]
      refine wpAny_bind (jQ hk ?_)
      simp only [Bool.false_eq_true,if_false]
      refine wpAny_bind (jQ hk' ?_)
      simp only [Bool.false_eq_true,if_false]
      exact wpAny_pure ⟨rfl,rfl,rest_ok⟩
  . rintro ⟨r1,r2⟩ s' ⟨hr,rfl,_⟩
    simp only at hr
    subst hr
    exact wpAny_pure h
theorem iH {a:Addr} {Q:Bool->Shared->Prop} (h:Q true s):wpAny (model prog w) A (isSame (.ref a) (.ref a)) Q E s:=by
  unfold isSame
  simp only [beq_self_eq_true,if_true]
  exact wpAny_pure h
end
end Tb
namespace Tb
open PySem PySem.Spec PySem.SetTable
section
variable {prog:Program} {w:World} {A:Around} {E:Value->Shared->Prop} {s:Shared}
abbrev bd (L:List bu) (ep:Nat) (t:SetTable):Obj:={ cls:=.type "set",dict:=none,data:=.set (L.map (·.2)).toArray ep t }
theorem Good.fits {t:SetTable} {L:List bu} (g:Good t L) (hl:L.length<=t.mask):t.fits ((L.map (·.2)).toArray).size=true:=by
  unfold PySem.SetTable.fits
  have h1:t.fill<=t.mask:=by unfold fill;rw [g.nd,g.sz];simpa using hl
  simp [g.sz,h1]
theorem Good.odd {t:SetTable} {L:List bu} (g:Good t L):t.gaveWay=false:=by
  obtain ⟨k,hk⟩:=g.pw
  have h7:=g.m7
  unfold gaveWay
  cases k with
  | zero=>simp at hk;omega
  | succ k =>
    have:t.mask % 2=1:=by rw [Nat.pow_succ] at hk;omega
    simp [this]
theorem ss {a b:Addr} {ks:List Int} {L:List bu} {ep:Nat} {t:SetTable} {f:bu->List Int} {Q:SetFound->Shared->Prop} (ho:s.heap.get? a=some (bd L ep t)) (g:Good t L) (hl:L.length<=t.mask) (hf:∀ e∈L,jm prog w s.heap e (f e))
    (hb:IsTupleKey (intKind prog w) s.heap ks b) (hu:A.units < cLine) (q1:(∃ e∈L,f e=ks)->Q (.there none) s)
    (q2:∀ j,j<=t.mask->¬ dB t j->(∃ n,pos t (hK prog w ks) n=j/\∀ n',n' < n->∃ e'∈L,e'.1=pos t (hK prog w ks) n')->(∀ e∈L,f e≠ks)->Q (.free j false) s) :
    ∀ (fuel s0 sE:Nat) (stnd:Option Probe),s0<=sE->sE < s0 + fuel->sE < s0 + 10 * turns t.mask->¬ dB t (pos t (hK prog w ks) sE)->stnd.getD (t.probeStart (hK prog w ks))=bD t s0 (t.probeStart (hK prog w ks)) ->
      (∀ n,n < s0->∃ e∈L,e.1=pos t (hK prog w ks) n/\f e≠ks)->wpAny (model prog w) A (setSearchFrom a (.ref b) (hK prog w ks) true fuel stnd) Q E s:=by
  intro fuel
  induction fuel with
  | zero=>intro s0 sE _ h1 h2;omega
  | succ fuel ih =>
    intro s0 sE stnd h1 h2 h2' hE hst hpre
    unfold setSearchFrom
    refine wpAny_bind (wpAny_setState_of ho rfl (g.fits hl) ?_)
    simp only [g.odd,Bool.false_eq_true,if_false]
    obtain ⟨s2,a1,a2,a3,a4⟩:=pf g.rise g.nd (fun i=>((((L.map (·.2)).toArray)[i]?).map (·.1)).getD 0) (hK prog w ks) (10 * turns t.mask) s0 sE h1 h2' hE
    have hh:∀ i (hi:i < L.length),((((L.map (·.2)).toArray)[i]?).map (·.1)).getD 0=L[i].2.1:=fun i hi=>by simp [hi]
    have passed:∀ n,n < s2->∃ e∈L,e.1=pos t (hK prog w ks) n/\f e≠ks:=fun n hn=>by
      by_cases c:n < s0
      . exact hpre n c
      . obtain ⟨i,hi,e1,e2⟩:=a3 n (by omega) hn
        rw [g.sz] at hi
        rw [g.at hi] at e1
        rw [hh i hi] at e2
        refine ⟨L[i],List.getElem_mem hi,e1,fun z=>e2 ?_⟩
        obtain ⟨b',_,_,e3⟩:=hf _ (List.getElem_mem hi)
        rw [e3,z]
    rcases a4 with ⟨hne,hp⟩|⟨i,hi,e1,e2,hp⟩
    . -- an empty slot
      have hp':t.probe (fun i=>((((L.map (·.2)).toArray)[i]?).map (·.1)).getD 0) (hK prog w ks) (stnd.getD (t.probeStart (hK prog w ks)))=some (.empty (pos t (hK prog w ks) s2) none):=by rw [hst];exact hp
      generalize hr:t.probe _ (hK prog w ks) (stnd.getD (t.probeStart (hK prog w ks)))=r
      obtain rfl:r=_:=hr.symm.trans hp'
      simp only
      refine wpAny_pure (q2 _ (uz t _ _) hne ⟨s2,rfl,fun n hn=>?_⟩ fun e he z=>?_)
      . obtain ⟨e,he,q,_⟩:=passed n hn;exact ⟨e,he,q⟩
      . obtain ⟨b',_,_,e3⟩:=hf e he
        obtain ⟨n,r1,r2⟩:=g.reach e he
        rw [e3,z] at r1 r2
        by_cases c:n < s2
        . obtain ⟨e',he',q,ne⟩:=passed n c
          have:=g.uniq he' he (q.trans r1)
          subst this
          exact ne z
        . by_cases d:s2 < n
          . obtain ⟨e',he',q⟩:=r2 s2 d
            exact hne (g.live.mpr ⟨e',he',q⟩)
          . obtain rfl:n=s2:=by omega
            exact hne (g.live.mpr ⟨e,he,r1.symm⟩)
    . -- a key with the same hash
      rw [g.sz] at hi
      have e1':=e1
      rw [g.at hi] at e1
      obtain ⟨b',hv,hk',hx⟩:=hf _ (List.getElem_mem hi)
      have hp':t.probe (fun i=>((((L.map (·.2)).toArray)[i]?).map (·.1)).getD 0) (hK prog w ks) (stnd.getD (t.probeStart (hK prog w ks)))=some (.candidate (pos t (hK prog w ks) s2) i (bD t (s2 + 1) (t.probeStart (hK prog w ks)))):=by rw [hst];exact hp
      generalize hr:t.probe _ (hK prog w ks) (stnd.getD (t.probeStart (hK prog w ks)))=r
      obtain rfl:r=_:=hr.symm.trans hp'
      simp only
      have ei:((L.map (·.2)).toArray)[i]?=some (L[i].2.1,.ref b'):=by
        have:((L.map (·.2)).toArray)[i]?=some L[i].2:=by simp [hi]
        rw [this,<- hv]
      have rest:wpAny (model prog w) A (do
          let some (_,y):=((L.map (·.2)).toArray)[i]?|unsupported "internal:set-entry"
          let equal <- holding [y] (eqBool y (.ref b))
          let (es',_,t') <- setState a
          if true && equal then return .there none
          let some same:=t'.sameMemory t.moves t.mask|unsupported "set.changed-during-lookup:is-the-new-block-at-the-old-address"
          let still <- match (if same then t'.slot (pos t (hK prog w ks) s2) else .empty) with
            | .live i'=>match es'[i']? with
              | some (_,y')=>do pure (if <- isSame y' y then some i' else none)
              | none=>pure none
            | _=>pure none
          match still with
          | none=>rule "set.search.anew";setSearchFrom a (.ref b) (hK prog w ks) true fuel none
          | some i'=>if equal then return .there (some i') else setSearchFrom a (.ref b) (hK prog w ks) true fuel (some (bD t (s2 + 1) (t.probeStart (hK prog w ks))))) Q E s:=by
        rw [ei]
        simp only
        refine wpAny_bind (wpAny_holding ((TK prog w).eqBool hu hk' hb ?_))
        refine wpAny_bind (wpAny_setState_of ho rfl (g.fits hl) ?_)
        by_cases c:f L[i]=ks
        . simp only [c,decide_true,Bool.and_self,if_true]
          exact wpAny_pure (q1 ⟨_,List.getElem_mem hi,c⟩)
        . simp only [c,decide_false,Bool.and_false,Bool.false_eq_true,if_false]
          have hsm:t.sameMemory t.moves t.mask=some true:=by unfold sameMemory;simp
          rw [hsm]
          simp only [if_true]
          have hsl:t.slot (pos t (hK prog w ks) s2)=.live i:=by rw [<- e1'];exact iA g.rise (by rw [g.sz];exact hi)
          rw [hsl]
          simp only [ei]
          refine wpAny_bind (iH (wpAny_bind (wpAny_pure ?_)))
          simp only [if_true]
          have hne:s2≠sE:=fun z=>hE (z▸g.live.mpr ⟨_,List.getElem_mem hi,e1⟩)
          refine ih (s2 + 1) sE _ (by omega) (by omega) (by omega) hE rfl fun n hn=>?_
          by_cases d:n=s2
          . subst d;exact ⟨_,List.getElem_mem hi,e1,c⟩
          . exact passed n (by omega)
      cases hled:t.led with
      | true=>simp only [Bool.not_true,Bool.false_eq_true,if_false];exact rest
      | false =>
        simp only [Bool.not_false,if_true]
        refine wpAny_bind (mz hb _ (fun y hy=>?_) ?_)
        . obtain ⟨e,he,rfl⟩:=List.mem_map.mp hy
          have he':e∈(L.map (·.2)):=by
            have:=Array.mem_toList_iff.mp he
            have:=(Array.mem_filter.mp this).1
            simpa using this
          obtain ⟨e0,h0,rfl⟩:=List.mem_map.mp he'
          obtain ⟨b2,hv2,hk2,_⟩:=hf e0 h0
          exact ⟨_,b2,hv2,hk2⟩
        . simp only [Bool.false_eq_true,if_false];exact rest
end
end Tb
namespace Tb
open PySem PySem.Spec PySem.SetTable
section
variable {prog:Program} {w:World} {A:Around} {E:Value->Shared->Prop} {s:Shared}
theorem qw {ks:List Int} {b:Addr} {Q:Bool->Shared->Prop} (hk:IsTupleKey (intKind prog w) s.heap ks b) (h:Q true s):wpAny (model prog w) A (hashByValue 8 (.ref b)) Q E s:=by
  have hT:=hk.typeIs
  obtain ⟨o,items,n,ho,hc,hd,hi⟩:=hk
  have allI:∀ v∈items.toList,∃ i t,v=.int i t:=by
    clear hd
    generalize items.toList=l at hi
    induction hi with
    | nil=>intro v hv;cases hv
    | cons h1 _ ih =>
      intro v hv
      rcases List.mem_cons.mp hv with rfl|hv
      . cases v with
        | int i t=>exact ⟨i,t,rfl⟩
        | _=>simp [intKind,Value.isInt] at h1
      . exact ih v hv
  unfold hashByValue
  refine wpAny_bind (wpAny_specialOf hT F.slot_tuple_hash.lookup ?_)
  simp only
  refine wpAny_bind (wpAny_seqItems ho hd ?_)
  simp only [Option.getD_some]
  refine wpAny_bind ?_
  rw [<- Array.forIn_toList]
  refine wpAny_forIn_list _ (fun rest r s'=>r.1=none/\s'=s/\∀ v∈rest,∃ i t,v=.int i t) _ ?_ ?_ _ _ ⟨rfl,rfl,allI⟩
  . rintro v rest r s' ⟨hr,rfl,hall⟩
    obtain ⟨i,t,rfl⟩:=hall v List.mem_cons_self
    have:hashByValue 7 (.int i t)=pure true:=by unfold hashByValue;rfl
    rw [this]
    refine wpAny_bind (wpAny_pure ?_)
    simp only [Bool.not_true,Bool.false_eq_true,if_false]
    exact wpAny_pure ⟨rfl,rfl,fun u hu'=>hall u (List.mem_cons_of_mem _ hu')⟩
  . rintro ⟨r1,r2⟩ s' ⟨hr,rfl,_⟩
    simp only at hr
    subst hr
    exact wpAny_pure h
abbrev bG (w:World):Bool:=w.params.followText "set-order"
def SetAt (prog:Program) (w:World) (U:Addr->List Int->Prop) (h:Heap) (a:Addr) (kss:List (List Int)):Prop :=
  ∃ (L:List bu) (ep:Nat) (t:SetTable) (f:Int×Value->List Int),h.get? a=some (bd L ep t)/\Good t L/\L.length * 5 < t.mask * 3/\t.mask < 8000/\(t.plain=true/\t.led=!bG w)/\(∀ e∈L,jm prog w h e (f e.2))/\(L.map fun e=>f e.2).Perm kss/\kss.Nodup/\∀ e∈L,∀ b,e.2.2=.ref b->U b (f e.2)
theorem eE {h h':Heap} {a:Addr} {L:List bu} {ep:Nat} {t:SetTable} {ks:List Int} {b:Addr} (ho:h.get? a=some (bd L ep t)) (hs:Heap.SameBut a h h') (hk:IsTupleKey (intKind prog w) h ks b):IsTupleKey (intKind prog w) h' ks b:=by
  obtain ⟨o,items,n,h1,h2,h3,h4⟩:=hk
  have ne:b≠a:=fun z=>by
    subst z;rw [ho] at h1;cases h1;cases h3
  exact ⟨o,items,n,(hs.2 b ne).trans h1,h2,h3,h4⟩
theorem fm {a:Addr} {L L':List bu} {ep:Nat} {t t':SetTable} {Q:Unit->Shared->Prop} (ho:s.heap.get? a=some (bd L ep t)) (hz:L'.length<=1000000) (h:∀ h',Heap.SameBut a s.heap h'->h'.get? a=some (bd L' (ep + 1) t')->Q () { s with heap:=h' }) :
    wpAny (model prog w) A (storeSet a (L'.map (·.2)).toArray t') Q E s:=by
  refine wpAny_storeSet_of ho rfl (h _ (Heap.SameBut.update s.heap a _) ?_) (by rw [sizeLine_eq];simp;omega)
  have hd:(bd L ep t).data=.set (L.map (·.2)).toArray ep t:=rfl
  have:=Heap.get?_update_self (Obj.putSet (L'.map (·.2)).toArray t') ho (by rw [putSet_of _ _ hd];rfl)
  rw [putSet_of _ _ hd] at this
  exact this
theorem wt {a:Addr} {L:List bu} {ep:Nat} {t:SetTable} {Q:Unit->Shared->Prop} (ho:s.heap.get? a=some (bd L ep t)) (g:Good t L) (hl:L.length<=t.mask) (h1:1<=L.length) (hz:L.length<=1000) (hp:t.plain=true)
    (h:∀ h' L' t',Heap.SameBut a s.heap h'->h'.get? a=some (bd L' (ep + 1) t')->Good t' L'->L'.length * 5 < t'.mask * 3->(t'.mask=7∨t'.mask + 1<=8 * L'.length)->(t'.plain=true/\t'.led=t.led)->(L'.map (·.2)).Perm (L.map (·.2))->Q () { s with heap:=h' }) :
    wpAny (model prog w) A (setRelay a (grown L.length)) Q E s:=by
  have hg:grown L.length=L.length * 4:=by unfold grown;rw [if_neg (by omega)]
  rw [hg]
  obtain ⟨s1,s2,s3,s4⟩:=fG (L.length * 4) (by omega)
  unfold setRelay
  refine wpAny_bind (wpAny_setState_of ho rfl (g.fits hl) ?_)
  have hsz:¬ sizeAbove (L.length * 4) > sizeLine:=by rw [sizeLine_eq];omega
  simp only [hsz,if_false]
  obtain ⟨t',order,L',e1,e2,e3,e4,e5,g',e6,e7⟩:=iB s1 s2 t.finger (t.movedTo (sizeAbove (L.length * 4) - 1)) t.led t.plain (L.map (·.2)) (by simp;omega)
  have hlen:L'.length=L.length:=by have:=e7.length_eq;simpa using this
  have er:t.relaid (((L.map (·.2)).toArray).map (·.1)) (L.length * 4)=some (t',order):=by
    unfold relaid
    have:((L.map (·.2)).toArray).map (·.1)=((L.map (·.2)).map (·.1)).toArray:=by simp
    rw [this];exact e1
  have main:wpAny (model prog w) A (do
      let some (t,order):=t.relaid (((L.map (·.2)).toArray).map (·.1)) (L.length * 4)|unsupported "internal:set-table-without-room"
      let es':=order.filterMap (((L.map (·.2)).toArray)[·]?)
      if es'.size != ((L.map (·.2)).toArray).size then unsupported "internal:set-table-lost-an-element"
      pure (es',t)) (fun r s'=>wpAny (model prog w) A (storeSet a r.1 r.2) Q E s') E s:=by
    rw [er]
    simp only
    rw [e6]
    have:((L'.map (·.2)).toArray.size != ((L.map (·.2)).toArray).size)=false:=by simp [hlen]
    rw [this]
    simp only [Bool.false_eq_true,if_false]
    refine wpAny_pure ?_
    refine fm (t':=t') ho (by omega) fun h' hs hg=>h h' L' t' hs hg g' (by rw [e2,hlen];omega) ?_ ⟨e4.trans hp,e3⟩ e7
    rw [e2,hlen]
    rcases s4 with s4|s4
    . exact .inl s4
    . right;omega
  exact wpAny_bind main
end
end Tb
namespace Tb
open PySem PySem.Spec PySem.SetTable
section
variable {prog:Program} {w:World} {U:Addr->List Int->Prop} {A:Around} {E:Value->Shared->Prop} {s:Shared}
theorem SetAt.len {h:Heap} {a:Addr} {kss:List (List Int)} (x:SetAt prog w U h a kss):∃ (L:List bu) (ep:Nat) (t:SetTable),h.get? a=some (bd L ep t)/\L.length=kss.length:=by
  obtain ⟨L,ep,t,f,ho,_,_,_,_,_,hp,_⟩:=x
  exact ⟨L,ep,t,ho,by have:=hp.length_eq;simpa using this⟩
theorem ik {a b:Addr} {ks:List Int} {kss:List (List Int)} {Q:Bool->Shared->Prop} (hS:SetAt prog w U s.heap a kss) (hn:kss.length < 1000) (hb:IsTupleKey (intKind prog w) s.heap ks b) (hU:U b ks) (hu:A.units < cLine)
    (h:∀ h' added,Heap.SameBut a s.heap h'->SetAt prog w U h' a (if ks∈kss then kss else ks::kss)->Q added { s with heap:=h' }):wpAny (model prog w) A (setAddHashed a (.ref b) (hK prog w ks)) Q E s:=by
  have hS0:=hS
  obtain ⟨L,ep,t,f,ho,g,room,mb,⟨pl,ld⟩,hf,hp,nd,uu⟩:=hS
  have hlen:L.length=kss.length:=by have:=hp.length_eq;simpa using this
  have h7:=g.m7
  have hl:L.length<=t.mask:=by omega
  have hmask:t.mask < 8000:=mb
  have self:∀ added,(ks∈kss)->Q added s:=fun added hm=>by
    have:=h s.heap added (Heap.SameBut.refl a s.heap) (by rw [if_pos hm];exact hS0)
    cases s;exact this
  unfold setAddHashed
  refine wpAny_holding ?_
  unfold setAddHashedIn
  refine wpAny_bind (wpAny_setState_of ho rfl (g.fits hl) ?_)
  have hby:byScan (.ref b) (L.map (·.2)).toArray=false:=by simp [byScan,Value.scannable]
  simp only [hby,Bool.false_eq_true,if_false]
  obtain ⟨e0,he0,hE0⟩:=lG g.rise (by rw [g.sz];exact hl)
  obtain ⟨k,hk⟩:=g.pw
  obtain ⟨sE,_,hsE,pE⟩:=my hk (hK prog w ks) 0 he0
  refine wpAny_bind ?_
  unfold setSearch
  refine ss (f:=fun e=>f e.2) (Q:=fun r s'=>wpAny (model prog w) A (match r with
    | .free slot wasDummy=>_
    | _=>_) Q E s') ho g hl hf hb hu (fun hm=>?_) (fun j hj hnl hr hno=>?_) 100000 0 sE none (Nat.zero_le _) (by omega) (by unfold turns;omega) (by rw [pE];exact hE0) rfl (fun n hn=>absurd hn (by omega))
  . obtain ⟨e,he,q⟩:=hm
    exact wpAny_pure (self false (hp.mem_iff.mp (List.mem_map.mpr ⟨e,he,q⟩)))
  . have hnk:¬ ks∈kss:=fun z=>by
      obtain ⟨e,he,q⟩:=List.mem_map.mp (hp.mem_iff.mpr z)
      exact hno e he q
    obtain ⟨p1,g'⟩:=g.put (h:=hK prog w ks) (x:=.ref b) hj hnl hr
    simp only
    refine wpAny_bind (wpAny_setState_of ho rfl (g.fits hl) ?_)
    have epl:(t.put j).1.plain=true:=by rw [lH t g.nd];exact pl
    have emk:(t.put j).1.mask=t.mask:=by rw [lH t g.nd]
    have eld:(t.put j).1.led=!bG w:=by rw [lH t g.nd];exact ld
    generalize hpt:t.put j=tp at p1 g' epl emk eld
    obtain ⟨t',p⟩:=tp
    simp only at p1 g' epl emk eld ⊢
    simp only [epl,if_true]
    refine wpAny_bind (qw hb ?_)
    simp only [if_true]
    have ein:insertAt (L.map (·.2)).toArray p (hK prog w ks,Value.ref b)=((L.take p++(j,hK prog w ks,Value.ref b)::L.drop p).map (·.2)).toArray:=by
      rw [gM _ _ (by simpa using p1)]
      simp [List.map_take,List.map_drop]
    rw [ein]
    generalize hL':L.take p++(j,hK prog w ks,Value.ref b)::L.drop p=L' at g' ⊢
    have hlen':L'.length=L.length + 1:=by rw [<- hL'];simp;omega
    have perm':L'.Perm ((j,hK prog w ks,Value.ref b)::L):=by
      rw [<- hL']
      refine (List.perm_middle).trans ?_
      rw [List.take_append_drop]
    have hfj:∀ e∈L,e.2≠(hK prog w ks,Value.ref b):=fun e he z=>by
      obtain ⟨b',h1,h2,h3⟩:=hf e he
      rw [z] at h1
      cases h1
      exact hno e he (h2.inj hb)
    let f':Int×Value->List Int:=fun x=>if x=(hK prog w ks,Value.ref b) then ks else f x
    have keys:∀ {h':Heap},Heap.SameBut a s.heap h'->∀ e∈L',jm prog w h' e (f' e.2):=fun {h'} hs e he=>by
      rcases List.mem_cons.mp (perm'.mem_iff.mp he) with z|z
      . subst z
        exact ⟨b,rfl,by simp only [f',if_true];exact eE ho hs hb,by simp only [f',if_true]⟩
      . obtain ⟨b',h1,h2,h3⟩:=hf e z
        have:f' e.2=f e.2:=by simp only [f'];rw [if_neg (hfj e z)]
        exact ⟨b',h1,by rw [this];exact eE ho hs h2,by rw [this];exact h3⟩
    have kperm:(L'.map fun e=>f' e.2).Perm (ks::kss):=by
      refine (perm'.map _).trans ?_
      simp only [List.map_cons,f',if_true]
      refine List.Perm.cons _ ?_
      have:(L.map fun e=>if e.2=(hK prog w ks,Value.ref b) then ks else f e.2)=L.map fun e=>f e.2:=List.map_congr_left fun e he=>by rw [if_neg (hfj e he)]
      rw [this];exact hp
    have nd':(ks::kss).Nodup:=List.nodup_cons.mpr ⟨hnk,nd⟩
    have uu':∀ e∈L',∀ c,e.2.2=.ref c->U c (f' e.2):=fun e he c ec=>by
      rcases List.mem_cons.mp (perm'.mem_iff.mp he) with z|z
      . subst z;cases ec;simp only [f',if_true];exact hU
      . rw [show f' e.2=f e.2 by simp only [f'];rw [if_neg (hfj e z)]];exact uu e z c ec
    refine wpAny_bind (fm (t':=t') ho (by omega) fun h1 hs1 ho1=>?_)
    have hfill:t'.fill=L'.length:=by unfold fill;rw [g'.nd,g'.sz];simp
    have esz:(L.map (·.2)).toArray.size + 1=L'.length:=by simp [hlen']
    cases htf:t'.tooFull with
    | false =>
      simp only [Bool.not_false,Bool.and_false,Bool.false_eq_true,if_false]
      refine wpAny_pure (h h1 true hs1 ?_)
      rw [if_neg hnk]
      have hroom:L'.length * 5 < t'.mask * 3:=by
        unfold tooFull at htf
        rw [hfill] at htf
        simpa using htf
      exact ⟨L',ep + 1,t',f',ho1,g',hroom,by rw [emk];exact mb,⟨epl,eld⟩,keys hs1,kperm,nd',uu'⟩
    | true =>
      simp only [Bool.not_false,Bool.and_true,if_true]
      rw [esz]
      refine wpAny_bind (wt (s:={ s with heap:=h1 }) ho1 g' (by rw [emk];omega) (by omega) (by omega) epl fun h2 L2 t2 hs2 ho2 g2 r2 m2 p2 pm2=>?_)
      refine wpAny_pure (h h2 true (hs1.trans hs2) ?_)
      rw [if_neg hnk]
      have hv:∀ e∈L2,∃ e1∈L',e1.2=e.2:=fun e he=>by
        have:e.2∈L'.map (·.2):=pm2.mem_iff.mp (List.mem_map.mpr ⟨e,he,rfl⟩)
        obtain ⟨e1,h1,h2⟩:=List.mem_map.mp this
        exact ⟨e1,h1,h2⟩
      have hl2:L2.length=L'.length:=by have:=pm2.length_eq;simpa using this
      refine ⟨L2,ep + 1 + 1,t2,f',ho2,g2,r2,(by rcases m2 with z|z <;> omega),⟨p2.1,p2.2.trans eld⟩,fun e he=>?_,?_,nd',fun e he c ec=>let ⟨e1,h1,q⟩:=hv e he;by rw [<- q];exact uu' e1 h1 c (by rw [q];exact ec)⟩
      . obtain ⟨e1,he1,q⟩:=hv e he
        obtain ⟨b',k1,k2,k3⟩:=keys (hs1.trans hs2) e1 he1
        rw [q] at k1 k2 k3
        exact ⟨b',k1,k2,k3⟩
      . have:=(pm2.map f')
        rw [List.map_map,List.map_map] at this
        exact this.trans kperm
theorem uA {a b:Addr} {ks:List Int} {kss:List (List Int)} {Q:Bool->Shared->Prop} (hS:SetAt prog w U s.heap a kss) (hn:kss.length < 1000) (hb:IsTupleKey (intKind prog w) s.heap ks b) (hU:U b ks) (hu:A.units < cLine)
    (h:∀ h' added tk,Heap.SameBut a s.heap h'->SetAt prog w U h' a (if ks∈kss then kss else ks::kss)->Q added { s with heap:=h',toks:=s.toks + tk }):wpAny (model prog w) A (setAdd a (.ref b)) Q E s:=by
  unfold setAdd
  refine wpAny_holding (wpAny_bind (wpAny_pyHash_tuple hu hb ?_))
  exact ik (s:={ s with toks:=s.toks + (ks.length + 1) }) hS hn hb hU hu fun h' added hs hS'=>h h' added _ hs hS'
end
end Tb
namespace Tb
open PySem PySem.Spec PySem.SetTable
def ins (acc:List (List Int)) (k:List Int):List (List Int):=if k∈acc then acc else k::acc
def insAll (l:List (List Int)):List (List Int):=l.foldl ins []
theorem yF (acc:List (List Int)) (k:List Int):(ins acc k).length<=acc.length + 1:=by unfold ins;split <;> simp
theorem insAll_len (l:List (List Int)):(insAll l).length<=l.length:=by
  unfold insAll
  have:∀ (l acc:List (List Int)),(l.foldl ins acc).length<=acc.length + l.length:=by
    intro l
    induction l with
    | nil=>intro acc;simp
    | cons a l ih=>intro acc;rw [List.foldl_cons];have:=ih (ins acc a);have:=yF acc a;simp only [List.length_cons];omega
  simpa using this l []
theorem qx (l:List (List Int)) (k:List Int):insAll (l++[k])=ins (insAll l) k:=by unfold insAll;rw [List.foldl_append];rfl
section
variable {prog:Program} {w:World} {U:Addr->List Int->Prop} {A:Around} {R:Result->Shared->Prop} {I:Addr} {fp wr:List Addr} {G:Array GenState->Array GenState->Prop} {n:Nat} {P:Nat->Value->Prop} {St:Nat->Shared->Prop}
theorem SetAt.moved {h h':Heap} {a:Addr} {kss:List (List Int)} (x:SetAt prog w U h a kss) (k:∀ b o,(b=a∨∃ ks,IsTupleKey (intKind prog w) h ks b)->h.get? b=some o->h'.get? b=some o):SetAt prog w U h' a kss:=by
  obtain ⟨L,ep,t,f,ho,g,room,mb,pl,hf,hp,nd⟩:=x
  refine ⟨L,ep,t,f,k _ _ (.inl rfl) ho,g,room,mb,pl,fun e he=>?_,hp,nd⟩
  obtain ⟨b,h1,h2,h3⟩:=hf e he
  have h2':=h2
  obtain ⟨o,items,m,q1,q2,q3,q4⟩:=h2
  exact ⟨b,h1,⟨o,items,m,k _ _ (.inr ⟨_,h2'⟩) q1,q2,q3,q4⟩,h3⟩
theorem pk {h:Heap} {b c:Addr} {ks:List Int} {o:Obj} (hk:IsTupleKey (intKind prog w) h ks b) (hc:h.get? c=some o) (hd:∀ xs m,o.data≠.seq xs m):b≠c:=fun z=>by
  subst z
  obtain ⟨o',items,m,q1,q2,q3,q4⟩:=hk
  rw [hc] at q1;cases q1;exact hd _ _ q3
theorem xH (W:WalksS prog w A.in1 I fp wr G n P St) (D:Addr) (hDf:D∉fp) (hu:A.in1.units < cLine) (ks:Nat->List Int) (hn:n < 1000) (hwt:∀ i s,St i s->∀ b∈wr,∀ o,s.heap.get? b=some o->∀ xs m,o.data≠.seq xs m) :
    ∀ (k i:Nat) (s:Shared),n - i=k->i<=n->St i s->(∀ j v,P j v->∃ b,v=.ref b/\b∉wr/\IsTupleKey (intKind prog w) s.heap (ks j) b/\U b (ks j)) ->
      SetAt prog w U s.heap D (insAll ((List.range i).map ks)) ->
      (∀ s',Moved (D::wr) G s s'->SetAt prog w U s'.heap D (insAll ((List.range n).map ks))->R (.ok (.ret .none)) s') ->
      codeAny (model prog w) A (.builtin "set.update.loop" ⟨[.ref D,.ref I],[]⟩) R s:=by
  have hDw:D∉wr:=fun h=>hDf (W.sub _ h)
  have sub:∀ b∈wr,b∈D::wr:=fun b hb=>List.mem_cons_of_mem _ hb
  intro k
  induction k with
  | zero =>
    intro i s hk hi st hP hS hR
    have hw:=hwt i s st
    obtain rfl:i=n:=by omega
    refine codeAny_builtin PyProof.Rows.F.entry_set_update_loop ?_
    rw [Around.under_plainId PyProof.Rows.F.plain_set_update_loop _]
    show wpAny _ A.in1 (pyNext (.ref I) >>= _) _ _ s
    refine wpAny_bind (W.done s _ _ st fun s1 hm=>?_)
    show wpAny _ A.in1 (ret Value.none) _ _ s1
    refine wpAny_pure (hR s1 (hm.mono sub) (hS.moved fun b o hb e=>hm.heap b o (fun hbw=>?_) e))
    rcases hb with rfl|⟨k',hk'⟩
    . exact hDw hbw
    . exact pk hk' e (hw b hbw o e) rfl
  | succ k ih =>
    intro i s hk hi st hP hS hR
    have hw:=hwt i s st
    refine codeAny_builtin PyProof.Rows.F.entry_set_update_loop ?_
    rw [Around.under_plainId PyProof.Rows.F.plain_set_update_loop _]
    show wpAny _ A.in1 (pyNext (.ref I) >>= _) _ _ s
    refine wpAny_bind (W.item i s _ _ (by omega) st fun v s1 hv st1 hm=>?_)
    have nw:∀ b o,(b=D∨∃ k',IsTupleKey (intKind prog w) s.heap k' b)->s.heap.get? b=some o->b∉wr:=fun b o hb e hbw=>by
      rcases hb with rfl|⟨k',hk'⟩
      . exact hDw hbw
      . exact pk hk' e (hw b hbw o e) rfl
    have key1:∀ {b:Addr} {k':List Int},IsTupleKey (intKind prog w) s.heap k' b->IsTupleKey (intKind prog w) s1.heap k' b:=fun {b k'} hk'=>by
      have hk0:=hk'
      obtain ⟨o,items,m,q1,q2,q3,q4⟩:=hk'
      exact ⟨o,items,m,hm.heap b o (nw b o (.inr ⟨_,hk0⟩) q1) q1,q2,q3,q4⟩
    have hS1:SetAt prog w U s1.heap D (insAll ((List.range i).map ks)):=hS.moved fun b o hb e=>hm.heap b o (nw b o hb e) e
    obtain ⟨b,rfl,hbw,hbk,hbU⟩:=hP i v hv
    show wpAny _ A.in1 (holding [Value.ref b] (setAdd D (.ref b)) >>= _) _ _ s1
    have hlen:(insAll ((List.range i).map ks)).length < 1000:=by have:=insAll_len ((List.range i).map ks);simp at this;omega
    refine wpAny_bind (wpAny_holding (uA hS1 hlen (key1 hbk) hbU hu fun h2 added tk hs2 hS2=>?_))
    have hS2':SetAt prog w U h2 D (insAll ((List.range (i + 1)).map ks)):=by
      rw [List.range_succ,List.map_append,List.map_singleton,qx];exact hS2
    obtain ⟨L1,ep1,t1,ho1,_⟩:=hS1.len
    refine wpAny_pure ⟨plainId_quiet PyProof.Rows.F.plain_set_update_loop _,ih (i + 1) _ (by omega) (by omega) (W.frame _ s1 _ _ st1 (Nat.le_add_right _ _) fun b hb o e=>?_) (fun j v hv=>?_) hS2' fun s3 hm3 hS3=>?_⟩
    . rw [hs2.2 b (fun z:b=D=>hDf (z▸hb))];exact e
    . obtain ⟨b,rfl,q1,q2,q3⟩:=hP j v hv
      exact ⟨b,rfl,q1,eE ho1 hs2 (key1 q2),q3⟩
    . refine hR s3 (Moved.trans W.gtrans ((hm.mono sub).then_heap (Nat.le_add_right _ _) fun b o hb e=>?_) hm3) hS3
      rw [hs2.2 b (fun z:b=D=>hb (by rw [z];exact List.mem_cons_self))];exact e
end
end Tb
namespace Tb
open PySem PySem.Spec PySem.SetTable
section
variable {prog:Program} {w:World} {A:Around} {E:Value->Shared->Prop} {s:Shared}
abbrev aU (led:Bool):Obj:={ cls:=.type "set",dict:=none,data:=.set #[] 0 (.fresh 0 0 led) }
theorem wu (v:Value) {Q₁:Value->Shared->Prop} (h:Q₁ (.ref s.heap.objs.size) { s with heap:=s.heap.push (aU (!bG w)) }) :
    codeAny (model prog w) A (.call (.builtin "set.__new__") ⟨[.type "set",v],[]⟩) (wants Q₁ E) s:=by
  refine codeAny_of_tree ?_
  show wpAny _ A.in1 (do { checkBuiltinCall "set.__new__" ⟨[.type "set",v],[]⟩;again (.builtin "set.__new__" ⟨[.type "set",v],[]⟩) }) _ _ s
  refine wpAny_bind (wpAny_of_eq (F.newCall_set_1 v) (wpAny_pure ⟨plainId_quiet F.plain_set_new _,codeAny_builtin F.entry_set_new ?_⟩))
  rw [Around.under_plainId F.plain_set_new _]
  have e:=sub_set_self
  obtain ⟨hp,g,d,tk,os⟩:=s
  unfold Builtin.«set.__new__» Builtin.Frozenset.newClass
  dsimp only
  wp_walk
  refine wpAny_askSetting (wpAny_pure ?_)
  simp only [newObj]
  exact wpAny_bind (wpAny_alloc (wpAny_pure (wpAny_pure h)))
theorem qy {v:Value} {Q:Value->Shared->Prop}
    (hup:wpAny (model prog w) A.in1.in1 (Builtin.Frozenset.updateFrom "set.__init__" s.heap.objs.size v) (fun _ s2=>Q (.ref s.heap.objs.size) s2) E { s with heap:=s.heap.push (aU (!bG w)) }) :
    wpAny (model prog w) A (call (.type "set") [v]) Q E s:=by
  obtain ⟨cc,tl,hmro⟩:=F.called_set.mro
  have hmade:=F.called_set.made
  have hsub:=F.called_set.sub
  have nt:=F.called_set.notType
  have cc:=F.called_set.canCreate
  have tc:=F.typeCall_set_1 v
  refine wpAny_call (codeAny_of_tree ?_)
  show wpAny _ _ (callAny (.type "set") _) _ _ _
  refine wpAny_pure ⟨Code.quiet_builtin _ (by decide +kernel),codeAny_builtin F.entry_type_call ?_⟩
  rw [Around.under_plain (weight_type_call_type "set" [v] []) rfl]
  repeat (any_goals (first|assumption|wp_step))
  refine codeAny_mono (wu v (E:=E) (Q₁:=fun obj s1=>obj=.ref s.heap.objs.size/\s1={ s with heap:=s.heap.push (aU (!bG w)) }) ⟨rfl,rfl⟩) fun r s1 hr=>?_
  cases r with
  | error e=>exact hr
  | ok fl =>
    cases fl with
    | ret obj =>
      obtain ⟨e1,e2⟩:=hr
      subst e1 e2
      have hget:(s.heap.push (aU (!bG w))).get? s.heap.objs.size=some (aU (!bG w)):=Heap.get?_push_size _ rfl
      have hty:Shared.TypeIs { s with heap:=s.heap.push (aU (!bG w)) } (.ref s.heap.objs.size) "set":=⟨_,hget,rfl⟩
      have li:=F.called_set.init.lookup
      have bi:=F.called_set.init.bind (.ref s.heap.objs.size)
      repeat (any_goals (first|assumption|wp_step))
      refine codeAny_mono (codeAny_call_builtin (R:=wants (fun r s2=>r=.none/\Q (.ref s.heap.objs.size) s2) E) F.called_set.init.plain F.entry_set_init (check_set_init_1 hty ?_)) fun r2 s2 hr2=>?_
      . unfold Builtin.«set.__init__» noKeywords
        have hu:=hup
        generalize hU:Builtin.Frozenset.updateFrom=U at hu ⊢
        wp_walk
        exact wpAny_mono hu (fun _ s2 hq=>wpAny_pure ⟨rfl,hq⟩) fun _ _ x=>x
      . cases r2 with
        | error e=>exact hr2
        | ok fl2 =>
          cases fl2 with
          | ret r =>
            obtain ⟨rfl,hq⟩:=hr2
            repeat (any_goals (first|assumption|wp_step))
          | _=>exact hr2.elim
    | _=>exact hr.elim
end
end Tb
namespace Tb
open PySem PySem.Spec PySem.SetTable
namespace F
theorem sub_tuple_set:isSubtype (.type "tuple") (.type "set")=pure false:=by rw [isSubtype_type];kernel_rfl
theorem sub_tuple_frozenset:isSubtype (.type "tuple") (.type "frozenset")=pure false:=by rw [isSubtype_type];kernel_rfl
end F
section
variable {prog:Program} {w:World} {U:Addr->List Int->Prop} {A:Around} {E:Value->Shared->Prop} {s:Shared}
theorem kl {h:Heap} {D:Addr} (ho:h.get? D=some (aU (!bG w))):SetAt prog w U h D []:=by
  have no:∀ (e:bu) (p:Prop),e∈([]:List bu)->p:=fun e p he=>by cases he
  exact ⟨[],0,.fresh 0 0 (!bG w),fun _=>[],ho,⟨⟨3,rfl⟩,Nat.le_refl 7,rfl,rfl,List.Pairwise.nil,fun e he=>no e _ he,fun e he=>no e _ he⟩,(show 0 < 21 by decide),(show (7:Nat) < 8000 by decide),⟨rfl,rfl⟩,fun e he=>no e _ he,List.Perm.refl _,List.nodup_nil,fun e he=>no e _ he⟩
theorem qz {l D:Addr} {items:Array Value} {kss:List (List Int)} {Q:Unit->Shared->Prop} (hh:A.handled=none) (hu:A.units + 2 < cLine) (hl:s.heap.IsList l items) (hS:SetAt prog w U s.heap D []) (hlD:l≠D) (hz:items.size < 1000)
    (hk:∀ (i:Nat) v,items[i]?=some v->∃ b,v=.ref b/\IsTupleKey (intKind prog w) s.heap (kss.getD i []) b/\U b (kss.getD i [])) (hlen:kss.length=items.size)
    (h:∀ h' tk,(∀ b o,b≠D->s.heap.get? b=some o->h'.get? b=some o)->SetAt prog w U h' D (insAll kss)->Q () { s with heap:=h',toks:=tk }) :
    wpAny (model prog w) A (Builtin.Frozenset.updateFrom "set.__init__" D (.ref l)) Q E s:=by
  have hl0:=hl
  obtain ⟨ol,hol,hcl,nl,hdl⟩:=hl
  obtain ⟨oc,od,odt,osl⟩:=ol
  simp only at hcl hdl
  subst hcl hdl
  have e1:=F.sub_list_set
  have e2:=F.sub_list_frozenset
  have e3:(Value.type "list" == Value.type "dict")=false:=by decide
  unfold Builtin.Frozenset.updateFrom
  generalize hPI:pyIter=PI
  wp_walk
  subst hPI
  refine wpAny_pyIter_list hl0 ?_
  refine wpAny_bind (wpAny_runValue ?_)
  have hlt:l < s.heap.objs.size:=Heap.lt_size hol
  obtain ⟨L0,ep0,t0,hD0,_⟩:=hS.len
  have hDlt:D < s.heap.objs.size:=Heap.lt_size hD0
  have push:∀ b o,s.heap.get? b=some o->(s.heap.push { cls:=.type "list_iterator",data:=.fields #[.ref l,.int 0 0] }).get? b=some o:=fun b o e=>Heap.get?_push_of_some _ e
  have W:=(Walks.list (prog:=prog) (w:=w) (A:=A.in1) (by simpa using hh) s.heap.objs.size l (Nat.ne_of_lt hlt) items).toS
  refine xH W D (fun z=>?_) (by show A.units + 1 < cLine;omega) (fun i=>kss.getD i []) hz (fun i s' st b hb o e xs m=>?_) (items.size - 0) 0 _ rfl (Nat.zero_le _) ⟨⟨_,Heap.get?_push_size _ rfl,rfl,rfl⟩,hl0.push _⟩ (fun j v hv=>?_) (hS.moved fun b o _ e=>push b o e) fun s' hm hS'=>?_
  . simp only [List.mem_cons,List.not_mem_nil,or_false] at z
    rcases z with z|z
    . exact absurd z (Nat.ne_of_lt hDlt)
    . exact hlD z.symm
  . obtain rfl:b=s.heap.objs.size:=by simpa using hb
    obtain ⟨⟨o',h1,h2,h3⟩,_⟩:=st
    rw [e] at h1;cases h1
    rw [h3];intro z;cases z
  . obtain ⟨b,rfl,hb,hU⟩:=hk j v hv
    have hb0:=hb
    obtain ⟨o,its,m,q1,q2,q3,q4⟩:=hb
    refine ⟨b,rfl,?_,⟨o,its,m,push _ _ q1,q2,q3,q4⟩,hU⟩
    simp only [List.mem_cons,List.not_mem_nil,or_false]
    exact Nat.ne_of_lt (Heap.lt_size q1)
  . obtain ⟨h',g',d',tk',os'⟩:=s'
    have eg:g'=s.gens:=hm.gens
    have ed:d'=s.drawn:=hm.drawn
    have eo:os'=s.os:=hm.os
    subst eg ed eo
    have er:(List.range items.size).map (fun i=>kss.getD i [])=kss:=by
      rw [<- hlen]
      apply List.ext_getElem
      . simp
      . intro i h1 h2;simp at h1;simp [List.getD,h1]
    rw [er] at hS'
    refine wpAny_pure (h h' tk' (fun b o hb e=>hm.heap b o ?_ (push b o e)) hS')
    simp only [List.mem_cons,List.not_mem_nil,or_false,not_or]
    exact ⟨hb,Nat.ne_of_lt (Heap.lt_size e)⟩
theorem pq {l D:Addr} {items:Array Value} {kss:List (List Int)} {Q:Unit->Shared->Prop} (hh:A.handled=none) (hu:A.units + 2 < cLine) (hl:s.heap.IsTuple l items) (hS:SetAt prog w U s.heap D []) (hlD:l≠D) (hz:items.size < 1000)
    (hk:∀ (i:Nat) v,items[i]?=some v->∃ b,v=.ref b/\IsTupleKey (intKind prog w) s.heap (kss.getD i []) b/\U b (kss.getD i [])) (hlen:kss.length=items.size)
    (h:∀ h' tk,(∀ b o,b≠D->s.heap.get? b=some o->h'.get? b=some o)->SetAt prog w U h' D (insAll kss)->Q () { s with heap:=h',toks:=tk }) :
    wpAny (model prog w) A (Builtin.Frozenset.updateFrom "set.__init__" D (.ref l)) Q E s:=by
  have hl0:=hl
  obtain ⟨ol,hol,hcl,nl,hdl⟩:=hl
  obtain ⟨oc,od,odt,osl⟩:=ol
  simp only at hcl hdl
  subst hcl hdl
  have e1:=F.sub_tuple_set
  have e2:=F.sub_tuple_frozenset
  have e3:(Value.type "tuple" == Value.type "dict")=false:=by decide
  unfold Builtin.Frozenset.updateFrom
  generalize hPI:pyIter=PI
  wp_walk
  subst hPI
  refine wpAny_pyIter_tuple hl0 ?_
  refine wpAny_bind (wpAny_runValue ?_)
  have hlt:l < s.heap.objs.size:=Heap.lt_size hol
  obtain ⟨L0,ep0,t0,hD0,_⟩:=hS.len
  have hDlt:D < s.heap.objs.size:=Heap.lt_size hD0
  have push:∀ b o,s.heap.get? b=some o->(s.heap.push { cls:=.type "tuple_iterator",data:=.fields #[.ref l,.int 0 0] }).get? b=some o:=fun b o e=>Heap.get?_push_of_some _ e
  have W:=(Walks.tuple (prog:=prog) (w:=w) (A:=A.in1) (by simpa using hh) s.heap.objs.size l (Nat.ne_of_lt hlt) items).toS
  refine xH W D (fun z=>?_) (by show A.units + 1 < cLine;omega) (fun i=>kss.getD i []) hz (fun i s' st b hb o e xs m=>?_) (items.size - 0) 0 _ rfl (Nat.zero_le _) ⟨⟨_,Heap.get?_push_size _ rfl,rfl,rfl⟩,hl0.push _⟩ (fun j v hv=>?_) (hS.moved fun b o _ e=>push b o e) fun s' hm hS'=>?_
  . simp only [List.mem_cons,List.not_mem_nil,or_false] at z
    rcases z with z|z
    . exact absurd z (Nat.ne_of_lt hDlt)
    . exact hlD z.symm
  . obtain rfl:b=s.heap.objs.size:=by simpa using hb
    obtain ⟨⟨o',h1,h2,h3⟩,_⟩:=st
    rw [e] at h1;cases h1
    rw [h3];intro z;cases z
  . obtain ⟨b,rfl,hb,hU⟩:=hk j v hv
    have hb0:=hb
    obtain ⟨o,its,m,q1,q2,q3,q4⟩:=hb
    refine ⟨b,rfl,?_,⟨o,its,m,push _ _ q1,q2,q3,q4⟩,hU⟩
    simp only [List.mem_cons,List.not_mem_nil,or_false]
    exact Nat.ne_of_lt (Heap.lt_size q1)
  . obtain ⟨h',g',d',tk',os'⟩:=s'
    have eg:g'=s.gens:=hm.gens
    have ed:d'=s.drawn:=hm.drawn
    have eo:os'=s.os:=hm.os
    subst eg ed eo
    have er:(List.range items.size).map (fun i=>kss.getD i [])=kss:=by
      rw [<- hlen]
      apply List.ext_getElem
      . simp
      . intro i h1 h2;simp at h1;simp [List.getD,h1]
    rw [er] at hS'
    refine wpAny_pure (h h' tk' (fun b o hb e=>hm.heap b o ?_ (push b o e)) hS')
    simp only [List.mem_cons,List.not_mem_nil,or_false,not_or]
    exact ⟨hb,Nat.ne_of_lt (Heap.lt_size e)⟩
theorem pv {l:Addr} {items:Array Value} {kss:List (List Int)} {Q:Value->Shared->Prop} (hh:A.handled=none) (hu:A.units + 8 < cLine) (hl:s.heap.IsList l items∨s.heap.IsTuple l items) (hz:items.size < 1000)
    (hk:∀ (i:Nat) v,items[i]?=some v->∃ b,v=.ref b/\IsTupleKey (intKind prog w) s.heap (kss.getD i []) b/\U b (kss.getD i [])) (hlen:kss.length=items.size)
    (h:∀ h' tk,(∀ b o,s.heap.get? b=some o->h'.get? b=some o)->SetAt prog w U h' s.heap.objs.size (insAll kss)->Q (.ref s.heap.objs.size) { s with heap:=h',toks:=tk }) :
    wpAny (model prog w) A (call (.type "set") [.ref l]) Q E s:=by
  refine qy ?_
  have push:∀ b o,s.heap.get? b=some o->(s.heap.push (aU (!bG w))).get? b=some o:=fun b o e=>Heap.get?_push_of_some _ e
  have hlt:l < s.heap.objs.size:=by
    rcases hl with ⟨o,e,_⟩|⟨o,e,_⟩ <;> exact Heap.lt_size e
  have hk':∀ (i:Nat) v,items[i]?=some v->∃ b,v=.ref b/\IsTupleKey (intKind prog w) (s.heap.push (aU (!bG w))) (kss.getD i []) b/\U b (kss.getD i []):=fun i v hv=>by
    obtain ⟨b,e,⟨o,its,m,q1,q2,q3,q4⟩,hU⟩:=hk i v hv
    exact ⟨b,e,⟨o,its,m,push _ _ q1,q2,q3,q4⟩,hU⟩
  have hS:SetAt prog w U (s.heap.push (aU (!bG w))) s.heap.objs.size []:=kl (Heap.get?_push_size _ rfl)
  have be:∀ h' tk,(∀ b o,b≠s.heap.objs.size->(s.heap.push (aU (!bG w))).get? b=some o->h'.get? b=some o)->SetAt prog w U h' s.heap.objs.size (insAll kss)->Q (.ref s.heap.objs.size) { s with heap:=h',toks:=tk }:=fun h' tk k hS' =>
    h h' tk (fun b o e=>k b o (Nat.ne_of_lt (Heap.lt_size e)) (push b o e)) hS'
  rcases hl with hl|hl
  . exact qz (s:={ s with heap:=s.heap.push (aU (!bG w)) }) (by simpa using hh) (by show A.units + 1 + 1 + 2 < cLine;omega) (hl.push _) hS (Nat.ne_of_lt hlt) hz hk' hlen be
  . exact pq (s:={ s with heap:=s.heap.push (aU (!bG w)) }) (by simpa using hh) (by show A.units + 1 + 1 + 2 < cLine;omega) (hl.push _) hS (Nat.ne_of_lt hlt) hz hk' hlen be
end
end Tb
namespace Tb
open PySem PySem.Spec PySem.SetTable
theorem fH {α:Type}:∀ {l:List α} {n:Nat} (h:n < l.length),(l[n]::l.eraseIdx n).Perm l
  | a::l,0,_=>by simp
  | a::l,n + 1,h=>by
    have ih:=fH (l:=l) (n:=n) (by simpa using h)
    simp only [List.getElem_cons_succ,List.eraseIdx_cons_succ]
    exact (List.Perm.swap ..).trans (ih.cons a)
theorem yG {α:Type} (next:Nat->Nat):∀ (fuel k:Nat) (left:List α) (out:Array α),left.length<=fuel->(pickOrder.go next fuel k left out).toList.Perm (out.toList++left):=by
  intro fuel
  induction fuel with
  | zero =>
    intro k left out h
    obtain rfl:left=[]:=List.length_eq_zero_iff.mp (by omega)
    unfold pickOrder.go
    simp
  | succ fuel ih =>
    intro k left out h
    unfold pickOrder.go
    cases left with
    | nil=>simp
    | cons a l =>
      have hlt:next k % (a::l).length < (a::l).length:=Nat.mod_lt _ (by simp)
      rw [List.getElem?_eq_getElem hlt]
      simp only
      have hlen:((a::l).eraseIdx (next k % (a::l).length)).length<=fuel:=by
        rw [List.length_eraseIdx_of_lt hlt]
        simp only [List.length_cons] at h ⊢
        omega
      refine (ih (k + 1) _ _ hlen).trans ?_
      rw [Array.toList_push,List.append_assoc]
      exact List.Perm.append_left _ (fH hlt)
theorem uB {α:Type} (next:Nat->Nat) (xs:Array α):(pickOrder next xs).toList.Perm xs.toList:=by
  unfold pickOrder
  simpa using yG next xs.size 0 xs.toList #[] (by simp)
def bq (w:World) (D:Addr) (ep:Nat) (L:List bu):Array (Int×Value):=if bG w=true then pickOrder (w.params.setOrder D ep) (L.map (·.2)).toArray else (L.map (·.2)).toArray
theorem iC (w:World) (D:Addr) (ep:Nat) (L:List bu):(bq w D ep L).toList.Perm (L.map (·.2)):=by
  unfold bq
  split
  . simpa using uB (w.params.setOrder D ep) (L.map (·.2)).toArray
  . exact .refl _
theorem dy (w:World) (D:Addr) (ep:Nat) (L:List bu):(bq w D ep L).size=L.length:=by
  have:=(iC w D ep L).length_eq
  simpa using this
structure Lies (t:SetTable) (L:List bu):Prop where
  pl:t.place=(L.map (·.1)).toArray
  so:(L.map (·.1)).Pairwise (· < ·)
  fl:t.fill<=t.mask
theorem Lies.sz {t:SetTable} {L:List bu} (g:Lies t L):t.place.size=L.length:=by rw [g.pl];simp
theorem Lies.at {t:SetTable} {L:List bu} (g:Lies t L) {i:Nat} (hi:i < L.length):t.place.getD i 0=L[i].1:=by rw [g.pl];simp [Array.getD,hi]
theorem Lies.rise {t:SetTable} {L:List bu} (g:Lies t L):dZ t.place:=by
  intro a b hab hb
  rw [g.sz] at hb
  rw [g.at (show a < L.length by omega),g.at hb]
  have:=(List.pairwise_iff_getElem.mp g.so) a b (by simpa using (show a < L.length by omega)) (by simpa using hb) hab
  simpa using this
theorem Lies.fits {t:SetTable} {L:List bu} (g:Lies t L) (hl:L.length<=t.mask):t.fits ((L.map (·.2)).toArray).size=true:=by
  unfold PySem.SetTable.fits
  have h1:=g.fl
  simp [g.sz,h1]
theorem Good.lies {t:SetTable} {L:List bu} (g:Good t L) (hl:L.length<=t.mask):Lies t L:=⟨g.pl,g.so,by unfold fill;rw [g.nd,g.sz];simpa using hl⟩
def cJ (w:World) (t:SetTable) (i:Nat):Nat:=if bG w=true then 0 else if i=0 then 0 else t.place.getD (i - 1) 0 + 1
section
variable {prog:Program} {w:World} {A:Around} {E:Value->Shared->Prop} {s:Shared}
theorem rn {D:Addr} {L:List bu} {ep:Nat} {t:SetTable} {i:Nat} {Q:Option (Value×Nat)->Shared->Prop} (ho:s.heap.get? D=some (bd L ep t)) (g:Lies t L) (hl:L.length<=t.mask) (pl:t.plain=true) (ld:t.led=!bG w) (hi:i<=L.length)
    (h:Q (((bq w D ep L)[i]?).map fun e=>(e.2,cJ w t (i + 1))) s):wpAny (model prog w) A (setNext D (cJ w t i) i ep) Q E s:=by
  unfold setNext
  refine wpAny_bind (wpAny_setState_of ho rfl (g.fits hl) ?_)
  unfold setsByText
  refine wpAny_bind (wpAny_bind (wpAny_askSetting (wpAny_pure ?_)))
  cases hb:bG w with
  | true =>
    have hb':((model prog w).w.params.followText "set-order")=true:=hb
    simp only [hb',if_true,bne_self_eq_false,Bool.false_eq_true,if_false]
    unfold setWalk setsByText
    refine wpAny_bind (wpAny_bind (wpAny_setState_of ho rfl (g.fits hl) ?_))
    refine wpAny_bind (wpAny_bind (wpAny_askSetting (wpAny_pure ?_)))
    simp only [hb',if_true]
    refine wpAny_bind (wpAny_askSetting (wpAny_pure (wpAny_pure ?_)))
    unfold bq cJ at h
    simp only [hb,if_true] at h
    simp only [cJ,hb,if_true]
    exact h
  | false =>
    have hb':((model prog w).w.params.followText "set-order")=false:=hb
    simp only [hb',Bool.false_eq_true,if_false]
    rw [hb] at ld
    have hbl:below t.place (cJ w t i)=i:=by
      unfold cJ
      rw [hb]
      simp only [Bool.false_eq_true,if_false]
      obtain ⟨b1,b2,b3⟩:=gS g.rise (if i=0 then 0 else t.place.getD (i - 1) 0 + 1)
      by_cases c:i=0
      . subst c
        simp only [if_true] at b2 ⊢
        cases hz:below t.place 0 with
        | zero=>rfl
        | succ n=>have:=b2 0 (by omega);omega
      . rw [if_neg c] at b1 b2 b3 ⊢
        have him:i - 1 < t.place.size:=by rw [g.sz];omega
        have c1:¬ below t.place (t.place.getD (i - 1) 0 + 1) < i:=fun z=>by
          have:=b3 (i - 1) (by omega) him;omega
        have c2:¬ i < below t.place (t.place.getD (i - 1) 0 + 1):=fun z=>by
          have h1:=b2 i z
          have h2:=g.rise (i - 1) i (by omega) (by omega)
          omega
        omega
    have be:wpAny (model prog w) A (pure (match ((L.map (·.2)).toArray)[below t.place (cJ w t i)]?,t.place[below t.place (cJ w t i)]? with
        | some (_,x),some j=>some (x,j + 1)
        | _,_=>none):Sem (Option (Value×Nat))) Q E s:=by
      rw [hbl]
      refine wpAny_pure ?_
      unfold bq cJ at h
      simp only [hb,Bool.false_eq_true,if_false,Nat.add_eq_zero_iff,Nat.succ_ne_self,and_false,Nat.add_sub_cancel] at h
      by_cases c:i < L.length
      . have e1:((L.map (·.2)).toArray)[i]?=some L[i].2:=by simp [c]
        have e2:t.place[i]?=some (t.place.getD i 0):=pd (by rw [g.sz];exact c)
        rw [e1] at h ⊢
        rw [e2]
        exact h
      . have e1:((L.map (·.2)).toArray)[i]?=none:=by simp;omega
        rw [e1] at h ⊢
        exact h
    have hdr:∀ c:Bool,(!t.plain && c)=false:=fun c=>by rw [pl];rfl
    have hld:∀ c:Bool,(!t.led && c)=false:=fun c=>by rw [ld];rfl
    have drop:∀ {c:Bool} {x y:Sem (Option (Value×Nat))},c=false->wpAny (model prog w) A y Q E s->wpAny (model prog w) A (if c=true then x else y) Q E s:=fun {c x y} hc hy=>by rw [hc];exact hy
    refine drop (hdr _) ?_
    refine wpAny_bind ?_
    show wpAny _ _ (if (!t.led && !((L.map (·.2)).toArray).isEmpty)=true then unsupported "set:maker-not-led" else pure ()) _ _ _
    rw [hld]
    exact wpAny_pure be
end
end Tb
namespace Tb
open PySem PySem.Spec PySem.SetTable
theorem slot_sit_next:Slot "set_iterator" "__next__" "set_iterator.__next__" :=
  .of (owner:="set_iterator") (n:="__next__") (by rw [typeLookup_type,builtinLookup_eq_fast];kernel_rfl) (by decide +kernel) (by decide +kernel) (by decide +kernel) (by first|exact .inl (by decide +kernel)|exact .inr (by decide +kernel)) (by rw [isSubtype_type];kernel_rfl)
theorem iS:entryFor table "set_iterator.__next__"=some Builtin.«set_iterator.__next__»:=entryFor_of_tree (by kernel_rfl)
theorem jy (a:Value):argsOk "set_iterator.__next__" ⟨[a],[]⟩:=by unfold argsOk;kernel_rfl
theorem pz:entryFor table "set.__iter__"=some Builtin.«frozenset.__iter__»:=entryFor_alias (id':="frozenset.__iter__") (by kernel_rfl) rfl (by decide +kernel) (by kernel_rfl)
theorem jz:Slot "set_iterator" "__iter__" "set_iterator.__iter__" :=
  .of (owner:="set_iterator") (n:="__iter__") (by rw [typeLookup_type,builtinLookup_eq_fast];kernel_rfl) (by decide +kernel) (by decide +kernel) (by decide +kernel) (by first|exact .inl (by decide +kernel)|exact .inr (by decide +kernel)) (by rw [isSubtype_type];kernel_rfl)
theorem mB:entryFor table "set_iterator.__iter__"=some Builtin.«dict_keyiterator.__iter__»:=entryFor_alias (id':="dict_keyiterator.__iter__") (by kernel_rfl) rfl (by decide +kernel) (by kernel_rfl)
theorem nM (a:Value):argsOk "set_iterator.__iter__" ⟨[a],[]⟩:=by unfold argsOk;kernel_rfl
def cm (w:World) (t:SetTable) (D:Addr) (n ep i:Nat):Obj:={ cls:=.type "set_iterator",data:=.fields #[rawInt (cJ w t i),rawInt i,.ref D,rawInt n,rawInt ep] }
section
variable {prog:Program} {w:World} {A:Around} {E:Value->Shared->Prop} {s:Shared} {D I:Addr} {L:List bu} {ep:Nat} {t:SetTable}
structure Goes (w:World) (L:List bu) (t:SetTable):Prop where
  g:Lies t L
  hl:L.length<=t.mask
  pl:t.plain=true
  ld:t.led=!bG w
theorem wv {Q:Value->Shared->Prop} (ho:s.heap.get? D=some (bd L ep t)) (g:Goes w L t) (h:Q (.ref s.heap.objs.size) { s with heap:=s.heap.push (cm w t D L.length ep 0) }):wpAny (model prog w) A (pyIter (.ref D)) Q E s:=by
  have hT:s.TypeIs (.ref D) "set":=⟨_,ho,rfl⟩
  refine wpAny_pyIter_slot hT F.slot_set_iter (wpAny_call_entry F.slot_set_iter hT pz ?_ (F.args_set_iter_1 _))
  unfold Builtin.«frozenset.__iter__» Builtin.Frozenset.slot0 Builtin.Frozenset.sizeOf Builtin.Frozenset.addrOf
  simp only [slotArgs,List.isEmpty_nil,Bool.not_true,Bool.false_eq_true,if_false,List.length_nil,bne_self_eq_false]
  refine wpAny_bind (wpAny_bind (wpAny_pure (wpAny_pure ?_)))
  refine wpAny_bind (wpAny_bind (wpAny_setEntries_of ho rfl (g.g.fits g.hl) (wpAny_pure ?_)))
  have hdr:wpAny (model prog w) A.in1 (setDrawn D) (fun b s'=>b=false/\s'=s) E s:=by
    unfold setDrawn setsByText
    refine wpAny_bind (wpAny_setState_of ho rfl (g.g.fits g.hl) ?_)
    refine wpAny_bind (wpAny_bind (wpAny_askSetting (wpAny_pure (wpAny_pure ⟨?_,rfl⟩))))
    show (_ && (!t.plain && _))=false
    rw [g.pl];simp
  refine wpAny_bind (wpAny_mono hdr (fun b s' hb=>?_) fun _ _ z=>z)
  obtain ⟨rfl,rfl⟩:=hb
  simp only [Bool.false_eq_true,if_false]
  refine wpAny_bind (wpAny_pure ?_)
  refine wpAny_bind (wpAny_setEpoch_of ho rfl (g.g.fits g.hl) ?_)
  have e0:cJ w t 0=0:=by unfold cJ;simp
  have eo:(cm w t D L.length ep 0)={ cls:=.type "set_iterator",data:=.fields ([rawInt 0,rawInt 0,Value.ref D,rawInt ((L.map (·.2)).toArray.size:Nat),rawInt (ep:Nat)]:List Value).toArray }:=by
    unfold cm;rw [e0];simp
  rw [eo] at h
  exact wpAny_bind (wpAny_newObj_type (wpAny_pure ⟨_,rfl,"set_iterator",_,⟨_,Heap.get?_push_size _ rfl,rfl⟩,slot_sit_next.lookup,h⟩))
theorem jR {i:Nat} {Q:Option Value->Shared->Prop} {e:Int×Value} (hI:s.heap.get? I=some (cm w t D L.length ep i)) (ho:s.heap.get? D=some (bd L ep t)) (g:Goes w L t) (hi:i < L.length) (he:(bq w D ep L)[i]?=some e)
    (h:∀ h',Heap.SameBut I s.heap h'->h'.get? I=some (cm w t D L.length ep (i + 1))->Q (some e.2) { s with heap:=h' }):wpAny (model prog w) A (pyNext (.ref I)) Q E s:=by
  have hT:s.TypeIs (.ref I) "set_iterator":=⟨_,hI,rfl⟩
  unfold pyNext
  refine wpAny_bind (wpAny_attempt (wpAny_callSpecial?_slot (name:=Str.ofString "__next__") hT slot_sit_next (wpAny_call_entry slot_sit_next hT iS ?_ (jy _))))
  unfold Builtin.«set_iterator.__next__»
  simp only [slotArgs,List.isEmpty_nil,Bool.not_true,Bool.false_eq_true,if_false,List.length_nil,bne_self_eq_false]
  refine wpAny_bind (wpAny_pure ?_)
  refine wpAny_bind (wpAny_fieldsOf hI rfl ?_)
  simp only [rawInt]
  refine wpAny_bind (wpAny_setEntries_of ho rfl (g.g.fits g.hl) ?_)
  have hz:((((L.map (·.2)).toArray.size:Nat):Int) != ((L.length:Nat):Int))=false:=by simp
  simp only [hz,Bool.false_eq_true,if_false,Int.toNat_natCast]
  refine wpAny_bind (rn ho g.g g.hl g.pl g.ld (Nat.le_of_lt hi) ?_)
  rw [he]
  simp only [Option.map_some]
  have hd0:(cm w t D L.length ep i).data=.fields #[rawInt (cJ w t i),rawInt i,.ref D,rawInt L.length,rawInt ep]:=rfl
  refine wpAny_bind (wpAny_setField hI hd0 (by simp) ?_)
  have hd1:=Obj.data_mapFields hd0 (·.setIfInBounds 0 (rawInt (cJ w t (i + 1))))
  have hI1:=Heap.get?_update_self (Obj.mapFields (·.setIfInBounds 0 (rawInt (cJ w t (i + 1))))) hI (Obj.isFreed_of_fields hd1)
  refine wpAny_bind (wpAny_setField hI1 hd1 (by simp) ?_)
  have hd2:=Obj.data_mapFields hd1 (·.setIfInBounds 1 (rawInt (i + 1:Nat)))
  have hI2:=Heap.get?_update_self (Obj.mapFields (·.setIfInBounds 1 (rawInt (i + 1:Nat)))) hI1 (Obj.isFreed_of_fields hd2)
  refine wpAny_pure ⟨_,rfl,wpAny_pure (h _ ((Heap.SameBut.update ..).trans (Heap.SameBut.update ..)) ?_)⟩
  refine hI2.trans ?_
  unfold cm Obj.mapFields
  simp [rawInt]
theorem uC {Q:Option Value->Shared->Prop} (hh:A.handled=none) (hI:s.heap.get? I=some (cm w t D L.length ep L.length)) (ho:s.heap.get? D=some (bd L ep t)) (g:Goes w L t)
    (h:∀ h',Heap.ExtBut I s.heap h'->Q none { s with heap:=h' }):wpAny (model prog w) A (pyNext (.ref I)) Q E s:=by
  have hT:s.TypeIs (.ref I) "set_iterator":=⟨_,hI,rfl⟩
  unfold pyNext
  refine wpAny_bind (wpAny_attempt (wpAny_callSpecial?_slot (name:=Str.ofString "__next__") hT slot_sit_next (wpAny_call_entry slot_sit_next hT iS ?_ (jy _))))
  unfold Builtin.«set_iterator.__next__»
  simp only [slotArgs,List.isEmpty_nil,Bool.not_true,Bool.false_eq_true,if_false,List.length_nil,bne_self_eq_false]
  refine wpAny_bind (wpAny_pure ?_)
  refine wpAny_bind (wpAny_fieldsOf hI rfl ?_)
  simp only [rawInt]
  refine wpAny_bind (wpAny_setEntries_of ho rfl (g.g.fits g.hl) ?_)
  have hz:((((L.map (·.2)).toArray.size:Nat):Int) != ((L.length:Nat):Int))=false:=by simp
  simp only [hz,Bool.false_eq_true,if_false,Int.toNat_natCast]
  refine wpAny_bind (rn ho g.g g.hl g.pl g.ld (Nat.le_refl _) ?_)
  have he:(bq w D ep L)[L.length]?=none:=by
    rw [Array.getElem?_eq_none];rw [dy];exact Nat.le_refl _
  rw [he]
  simp only [Option.map_none]
  have hd0:(cm w t D L.length ep L.length).data=.fields #[rawInt (cJ w t L.length),rawInt L.length,.ref D,rawInt L.length,rawInt ep]:=rfl
  refine wpAny_bind (wpAny_setField hI hd0 (by simp) ?_)
  refine wpAny_bind ?_
  simp only [newExc,newTuple]
  refine wpAny_bind (wpAny_newObj_type ?_ (by size_fits))
  refine wpAny_bind (m:=firstArgMember _ _) (wpAny_of_eq (a:=Value.none) (by first|rfl|(simp only [firstArgMember];rfl)) ?_)
  refine wpAny_newObj_type ?_ (by size_fits)
  simp only [raiseNew]
  refine wpAny_bind (wpAny_handled ?_)
  rw [show A.in1.handled=none from hh]
  refine wpAny_bind (wpAny_pure (wpAny_throw ?_))
  refine wpAny_bind (wpAny_isInstance (T:="StopIteration") (b:=true) ⟨_,Heap.get?_push_size _ rfl,rfl⟩ isSubtype_stop ?_)
  exact wpAny_pure (h _ (((Heap.SameBut.update ..).extBut.push _).push _))
theorem uD (hh:A.handled=none) (hne:D≠I) (g:Goes w L t) :
    Walks prog w A I [I,D] [I] L.length (fun i v=>∃ e,(bq w D ep L)[i]?=some e/\v=e.2) (fun i h=>h.get? I=some (cm w t D L.length ep i)/\h.get? D=some (bd L ep t)) where
  sub:=fun b hb=>by simp at hb;simp [hb]
  frame:=fun _ _ _ st hk=>⟨hk I (by simp) _ st.1,hk D (by simp) _ st.2⟩
  item:=fun i s Q E hi st hQ=>by
    have hlt:i < (bq w D ep L).size:=by rw [dy];exact hi
    refine jR st.1 st.2 g hi (Array.getElem?_eq_getElem hlt) fun h' hs hI'=>?_
    exact hQ _ h' s.toks ⟨_,Array.getElem?_eq_getElem hlt,rfl⟩ ⟨hI',(hs.2 D hne).trans st.2⟩ fun b o hb e=>(hs.2 b (fun z=>hb (by simp [z]))).trans e
  done:=fun s Q E st hQ=>uC hh st.1 st.2 g fun h' he=>hQ h' s.toks fun b o hb e=>he b o (fun z=>hb (by simp [z])) e
  self:=fun i s Q E st hQ=>by
    have hT:s.TypeIs (.ref I) "set_iterator":=⟨_,st.1,rfl⟩
    refine wpAny_pyIter_slot hT jz (wpAny_call_entry jz hT mB ?_ (nM _))
    show wpAny _ _ (ret (.ref I)) _ _ s
    exact wpAny_pure ⟨_,rfl,"set_iterator",_,hT,slot_sit_next.lookup,hQ⟩
end
end Tb
namespace Tb
open PySem PySem.Spec PySem.SetTable
section
variable {prog:Program} {w:World} {A:Around} {E:Value->Shared->Prop} {s:Shared} {D I:Addr} {L:List bu} {ep:Nat} {t:SetTable}
abbrev nilObj:Obj:={ cls:=.type "list",data:=.seq ([]:List Value).toArray }
theorem ww {Q:Bool->Shared->Prop} (ho:s.heap.get? D=some (bd L ep t)) (h:Q false s):wpAny (model prog w) A (Builtin.List.listLengthHint (.ref D)) Q E s:=by
  have hT:s.TypeIs (.ref D) "set":=⟨_,ho,rfl⟩
  unfold Builtin.List.listLengthHint
  refine wpAny_bind (wpAny_specialOf hT F.slot_set_len.lookup ?_)
  have e1:splitId "set.__len__"=some ("set","__len__"):=by kernel_rfl
  simp only [e1]
  refine wpAny_bind (wpAny_isInstance hT sub_set_self ?_)
  simp only [Bool.not_true,Bool.false_eq_true,if_false]
  have pick:∀ {c:Bool} {x y:Sem Bool},c=true->wpAny (model prog w) A x Q E s->wpAny (model prog w) A (if c=true then x else y) Q E s:=fun {c x y} hc hy=>by rw [hc];exact hy
  refine pick (by decide +kernel) ?_
  refine wpAny_bind (wpAny_typeOf hT ?_)
  exact wpAny_pure h
theorem kA {Q:List Value->Shared->Prop} (hh:A.handled=none) (ho:s.heap.get? D=some (bd L ep t)) (g:Goes w L t) (hn:L.length<=1000)
    (hQ:∀ h' tk,(∀ b o,s.heap.get? b=some o->h'.get? b=some o)->s.heap.objs.size<=h'.objs.size->Q ((bq w D ep L).toList.map (·.2)) { s with heap:=h',toks:=tk }):wpAny (model prog w) A (collect (.ref D)) Q E s:=by
  have hDlt:D < s.heap.objs.size:=Heap.lt_size ho
  unfold collect
  refine wpAny_bind (wpAny_runValue (codeAny_builtin F.entry_proto_collect ?_))
  rw [Around.under_plainId F.plain_proto_collect _]
  show wpAny _ A.in1 (newList [] >>= fun l=>again (.builtin "list.__iadd__" ⟨[l,.ref D],[]⟩)) _ _ s
  refine wpAny_bind (wpAny_newObj_type ?_)
  refine wpAny_pure ⟨plainId_quiet F.plain_list_iadd _,codeAny_builtin F.entry_list_iadd ?_⟩
  rw [Around.under_plainId F.plain_list_iadd _]
  have p1:∀ b o,s.heap.get? b=some o->(s.heap.push nilObj).get? b=some o:=fun b o e=>Heap.get?_push_of_some _ e
  have hD1:(s.heap.push nilObj).get? D=some (bd L ep t):=p1 _ _ ho
  have hS1:(s.heap.push nilObj).get? s.heap.objs.size=some nilObj:=Heap.get?_push_size _ rfl
  show wpAny _ A.in1 (Builtin.List.listExtendWith (.ref s.heap.objs.size) (.ref D) (.ref s.heap.objs.size)) _ _ _
  unfold Builtin.List.listExtendWith
  have hT:Shared.TypeIs { s with heap:=s.heap.push nilObj } (.ref D) "set":=⟨_,hD1,rfl⟩
  refine wpAny_bind (wpAny_typeOf hT ?_)
  have k1:Builtin.List.listSameRef (.ref s.heap.objs.size) (.ref D)=false:=by simp [Builtin.List.listSameRef];exact Nat.ne_of_gt hDlt
  have k2:(Value.type "set" == Value.type "list")=false:=by decide
  have k3:(Value.type "set" == Value.type "tuple")=false:=by decide
  simp only [k1,k2,k3,Bool.or_self,Bool.false_eq_true,if_false]
  refine wpAny_bind (wv hD1 g ?_)
  have p2:∀ b o,(s.heap.push nilObj).get? b=some o->((s.heap.push nilObj).push (cm w t D L.length ep 0)).get? b=some o:=fun b o e=>Heap.get?_push_of_some _ e
  have hD2:=p2 _ _ hD1
  have hS2:=p2 _ _ hS1
  have hI2:((s.heap.push nilObj).push (cm w t D L.length ep 0)).get? (s.heap.push nilObj).objs.size=some (cm w t D L.length ep 0):=Heap.get?_push_size _ rfl
  have hIsz:(s.heap.push nilObj).objs.size=s.heap.objs.size + 1:=Heap.size_push ..
  refine wpAny_bind (wpAny_holding (ww hD2 ?_))
  have pick:∀ {c:Bool} {x y:Sem PySem.Fin} {R:PySem.Fin->Shared->Prop} {F':Value->Shared->Prop} {s':Shared},c=true->wpAny (model prog w) A.in1 x R F' s'->wpAny (model prog w) A.in1 (if c=true then x else y) R F' s':=fun {c x y R F' s'} hc hy=>by rw [hc];exact hy
  refine pick (by decide +kernel) ?_
  refine wpAny_bind (wpAny_rule ?_)
  refine wpAny_bind ?_
  show wpAny _ A.in1 (updateSeq s.heap.objs.size (·.push .none) >>= fun _=>updateSeq s.heap.objs.size (·.pop)) _ _ _
  refine wpAny_bind (wpAny_updateSeq hS2 rfl ?_)
  have hS3:=Heap.get?_update_self (Obj.mapSeq (·.push Value.none)) hS2 rfl
  refine wpAny_updateSeq hS3 rfl ?_
  have hS4:=Heap.get?_update_self (Obj.mapSeq (·.pop)) hS3 rfl
  generalize hH:(((s.heap.push nilObj).push (cm w t D L.length ep 0)).update s.heap.objs.size (Obj.mapSeq (·.push Value.none))).update s.heap.objs.size (Obj.mapSeq (·.pop))=H at hS4
  have oth:∀ b o,b≠s.heap.objs.size->((s.heap.push nilObj).push (cm w t D L.length ep 0)).get? b=some o->H.get? b=some o:=fun b o hb e=>by
    rw [<- hH];exact (Heap.get?_update_other _ _ (Ne.symm hb)).trans ((Heap.get?_update_other _ _ (Ne.symm hb)).trans e)
  have W:=(uD (prog:=prog) (w:=w) (A:=A.in1) (D:=D) (I:=(s.heap.push nilObj).objs.size) (ep:=ep) (by simpa using hh) (by rw [hIsz];exact Nat.ne_of_lt (Nat.lt_succ_of_lt hDlt)) g).toS
  have hSf:s.heap.objs.size∉[(s.heap.push nilObj).objs.size,D]:=by
    simp only [List.mem_cons,List.not_mem_nil,or_false,not_or]
    exact ⟨by rw [hIsz];exact Nat.ne_of_lt (Nat.lt_succ_self _),Nat.ne_of_gt hDlt⟩
  refine wpAny_pure ⟨plainId_quiet F.plain_extend_loop _,codeAny_extend_loopS W (by rw [sizeLine_eq];omega) s.heap.objs.size hSf _ L.length 0 _ _ _ rfl (Nat.zero_le _) ⟨oth _ _ (by rw [hIsz];exact Nat.succ_ne_self _) hI2,oth _ _ (Nat.ne_of_lt hDlt) hD2⟩ hS4 (ItemsOf.nil _) fun s' acc c hm hS' hacc=>?_⟩
  show wpAny _ A (load s.heap.objs.size >>= _) _ _ s'
  refine wpAny_bind (wpAny_load hS' ?_)
  have hacc':acc.toList=(bq w D ep L).toList.map (·.2):=by
    apply List.ext_getElem?
    intro i
    rw [List.getElem?_map,Array.getElem?_toList,Array.getElem?_toList]
    cases e:acc[i]? with
    | some v =>
      obtain ⟨x,hx,rfl⟩:=hacc.2 i v e
      rw [hx];rfl
    | none =>
      have:acc.size<=i:=by simpa using e
      rw [hacc.1] at this
      rw [Array.getElem?_eq_none (by rw [dy];exact this)];rfl
  obtain ⟨h',g',d',tk',os'⟩:=s'
  have eg:g'=s.gens:=hm.gens
  have ed:d'=s.drawn:=hm.drawn
  have eo:os'=s.os:=hm.os
  subst eg ed eo
  show wpAny _ _ (pure acc.toList) _ _ _
  rw [hacc']
  refine wpAny_pure (hQ h' tk' (fun b o e=>hm.heap b o ?_ (oth b o (Nat.ne_of_lt (Heap.lt_size e)) (p2 _ _ (p1 _ _ e)))) (Nat.le_of_lt (Heap.lt_size hS')))
  simp only [List.mem_cons,List.not_mem_nil,or_false,not_or]
  exact ⟨Nat.ne_of_lt (Heap.lt_size e),by rw [hIsz];exact Nat.ne_of_lt (Nat.lt_succ_of_lt (Heap.lt_size e))⟩
end
end Tb
namespace Tb
open PySem PySem.Spec PySem.SetTable
section
variable {prog:Program} {w:World} {A:Around} {E:Value->Shared->Prop} {s:Shared}
theorem qA {a b:Addr} {ks:List Int} {L:List bu} {ep:Nat} {t:SetTable} {f:bu->List Int} {Q:SetFound->Shared->Prop} (ho:s.heap.get? a=some (bd L ep t)) (g:Good t L) (hl:L.length<=t.mask) (hf:∀ e∈L,jm prog w s.heap e (f e))
    (hb:IsTupleKey (intKind prog w) s.heap ks b) (hu:A.units < cLine) (q1:∀ i (hi:i < L.length),f L[i]=ks->Q (.there (some i)) s)
    (q2:∀ j,(∀ e∈L,f e≠ks)->Q (.free j false) s) :
    ∀ (fuel s0 sE:Nat) (stnd:Option Probe),s0<=sE->sE < s0 + fuel->sE < s0 + 10 * turns t.mask->¬ dB t (pos t (hK prog w ks) sE)->stnd.getD (t.probeStart (hK prog w ks))=bD t s0 (t.probeStart (hK prog w ks)) ->
      (∀ n,n < s0->∃ e∈L,e.1=pos t (hK prog w ks) n/\f e≠ks)->wpAny (model prog w) A (setSearchFrom a (.ref b) (hK prog w ks) false fuel stnd) Q E s:=by
  intro fuel
  induction fuel with
  | zero=>intro s0 sE _ h1 h2;omega
  | succ fuel ih =>
    intro s0 sE stnd h1 h2 h2' hE hst hpre
    unfold setSearchFrom
    refine wpAny_bind (wpAny_setState_of ho rfl (g.fits hl) ?_)
    simp only [g.odd,Bool.false_eq_true,if_false]
    obtain ⟨s2,a1,a2,a3,a4⟩:=pf g.rise g.nd (fun i=>((((L.map (·.2)).toArray)[i]?).map (·.1)).getD 0) (hK prog w ks) (10 * turns t.mask) s0 sE h1 h2' hE
    have hh:∀ i (hi:i < L.length),((((L.map (·.2)).toArray)[i]?).map (·.1)).getD 0=L[i].2.1:=fun i hi=>by simp [hi]
    have passed:∀ n,n < s2->∃ e∈L,e.1=pos t (hK prog w ks) n/\f e≠ks:=fun n hn=>by
      by_cases c:n < s0
      . exact hpre n c
      . obtain ⟨i,hi,e1,e2⟩:=a3 n (by omega) hn
        rw [g.sz] at hi
        rw [g.at hi] at e1
        rw [hh i hi] at e2
        refine ⟨L[i],List.getElem_mem hi,e1,fun z=>e2 ?_⟩
        obtain ⟨b',_,_,e3⟩:=hf _ (List.getElem_mem hi)
        rw [e3,z]
    rcases a4 with ⟨hne,hp⟩|⟨i,hi,e1,e2,hp⟩
    . -- an empty slot
      have hp':t.probe (fun i=>((((L.map (·.2)).toArray)[i]?).map (·.1)).getD 0) (hK prog w ks) (stnd.getD (t.probeStart (hK prog w ks)))=some (.empty (pos t (hK prog w ks) s2) none):=by rw [hst];exact hp
      generalize hr:t.probe _ (hK prog w ks) (stnd.getD (t.probeStart (hK prog w ks)))=r
      obtain rfl:r=_:=hr.symm.trans hp'
      simp only
      refine wpAny_pure (q2 _ fun e he z=>?_)
      . obtain ⟨b',_,_,e3⟩:=hf e he
        obtain ⟨n,r1,r2⟩:=g.reach e he
        rw [e3,z] at r1 r2
        by_cases c:n < s2
        . obtain ⟨e',he',q,ne⟩:=passed n c
          have:=g.uniq he' he (q.trans r1)
          subst this
          exact ne z
        . by_cases d:s2 < n
          . obtain ⟨e',he',q⟩:=r2 s2 d
            exact hne (g.live.mpr ⟨e',he',q⟩)
          . obtain rfl:n=s2:=by omega
            exact hne (g.live.mpr ⟨e,he,r1.symm⟩)
    . -- a key with the same hash
      rw [g.sz] at hi
      have e1':=e1
      rw [g.at hi] at e1
      obtain ⟨b',hv,hk',hx⟩:=hf _ (List.getElem_mem hi)
      have hp':t.probe (fun i=>((((L.map (·.2)).toArray)[i]?).map (·.1)).getD 0) (hK prog w ks) (stnd.getD (t.probeStart (hK prog w ks)))=some (.candidate (pos t (hK prog w ks) s2) i (bD t (s2 + 1) (t.probeStart (hK prog w ks)))):=by rw [hst];exact hp
      generalize hr:t.probe _ (hK prog w ks) (stnd.getD (t.probeStart (hK prog w ks)))=r
      obtain rfl:r=_:=hr.symm.trans hp'
      simp only
      have ei:((L.map (·.2)).toArray)[i]?=some (L[i].2.1,.ref b'):=by
        have:((L.map (·.2)).toArray)[i]?=some L[i].2:=by simp [hi]
        rw [this,<- hv]
      have rest:wpAny (model prog w) A (do
          let some (_,y):=((L.map (·.2)).toArray)[i]?|unsupported "internal:set-entry"
          let equal <- holding [y] (eqBool y (.ref b))
          let (es',_,t') <- setState a
          if false && equal then return .there none
          let some same:=t'.sameMemory t.moves t.mask|unsupported "set.changed-during-lookup:is-the-new-block-at-the-old-address"
          let still <- match (if same then t'.slot (pos t (hK prog w ks) s2) else .empty) with
            | .live i'=>match es'[i']? with
              | some (_,y')=>do pure (if <- isSame y' y then some i' else none)
              | none=>pure none
            | _=>pure none
          match still with
          | none=>rule "set.search.anew";setSearchFrom a (.ref b) (hK prog w ks) false fuel none
          | some i'=>if equal then return .there (some i') else setSearchFrom a (.ref b) (hK prog w ks) false fuel (some (bD t (s2 + 1) (t.probeStart (hK prog w ks))))) Q E s:=by
        rw [ei]
        simp only
        refine wpAny_bind (wpAny_holding ((TK prog w).eqBool hu hk' hb ?_))
        refine wpAny_bind (wpAny_setState_of ho rfl (g.fits hl) ?_)
        simp only [Bool.false_and,Bool.false_eq_true,if_false]
        have hsm:t.sameMemory t.moves t.mask=some true:=by unfold sameMemory;simp
        rw [hsm]
        simp only [if_true]
        have hsl:t.slot (pos t (hK prog w ks) s2)=.live i:=by rw [<- e1'];exact iA g.rise (by rw [g.sz];exact hi)
        rw [hsl]
        simp only [ei]
        refine wpAny_bind (iH (wpAny_bind (wpAny_pure ?_)))
        simp only [if_true]
        by_cases c:f L[i]=ks
        . simp only [c,decide_true,if_true]
          exact wpAny_pure (q1 i hi c)
        . simp only [c,decide_false,Bool.false_eq_true,if_false]
          have hne:s2≠sE:=fun z=>hE (z▸g.live.mpr ⟨_,List.getElem_mem hi,e1⟩)
          refine ih (s2 + 1) sE _ (by omega) (by omega) (by omega) hE rfl fun n hn=>?_
          by_cases d:n=s2
          . subst d;exact ⟨_,List.getElem_mem hi,e1,c⟩
          . exact passed n (by omega)
      cases hled:t.led with
      | true=>simp only [Bool.not_true,Bool.false_eq_true,if_false];exact rest
      | false =>
        simp only [Bool.not_false,if_true]
        refine wpAny_bind (mz hb _ (fun y hy=>?_) ?_)
        . obtain ⟨e,he,rfl⟩:=List.mem_map.mp hy
          have he':e∈(L.map (·.2)):=by
            have:=Array.mem_toList_iff.mp he
            have:=(Array.mem_filter.mp this).1
            simpa using this
          obtain ⟨e0,h0,rfl⟩:=List.mem_map.mp he'
          obtain ⟨b2,hv2,hk2,_⟩:=hf e0 h0
          exact ⟨_,b2,hv2,hk2⟩
        . simp only [Bool.false_eq_true,if_false];exact rest
theorem yH {U:Addr->List Int->Prop} {a b:Addr} {ks:List Int} {kss:List (List Int)} {Q:Option Nat->Shared->Prop} (hS:SetAt prog w U s.heap a kss) (hn:kss.length < 1000) (hb:IsTupleKey (intKind prog w) s.heap ks b) (hu:A.units < cLine)
    (h:∀ r,r.isSome=decide (ks∈kss)->Q r s):wpAny (model prog w) A (setFind a (.ref b) (hK prog w ks)) Q E s:=by
  obtain ⟨L,ep,t,f,ho,g,room,mb,⟨pl,ld⟩,hf,hp,nd,uu⟩:=hS
  have hlen:L.length=kss.length:=by have:=hp.length_eq;simpa using this
  have h7:=g.m7
  have hl:L.length<=t.mask:=by omega
  have hmask:t.mask < 8000:=mb
  have hmem:∀ x,x∈kss↔∃ e∈L,f e.2=x:=fun x=>by rw [<- hp.mem_iff,List.mem_map]
  unfold setFind
  show wpAny (model prog w) A (setFindIn a (.ref b) (hK prog w ks) (99999 + 1)) Q E s
  unfold setFindIn
  refine wpAny_bind (wpAny_setState_of ho rfl (g.fits hl) ?_)
  have hby:byScan (.ref b) (L.map (·.2)).toArray=false:=by simp [byScan,Value.scannable]
  simp only [hby,Bool.false_eq_true,if_false]
  obtain ⟨e0,he0,hE0⟩:=lG g.rise (by rw [g.sz];exact hl)
  obtain ⟨k,hk⟩:=g.pw
  obtain ⟨sE,_,hsE,pE⟩:=my hk (hK prog w ks) 0 he0
  refine wpAny_bind ?_
  unfold setSearch
  refine qA (f:=fun e=>f e.2) (Q:=fun r s'=>wpAny (model prog w) A (match r with
    | .there i=>_
    | .free ..=>_) Q E s') ho g hl hf hb hu (fun i hi c=>?_) (fun j hno=>?_) 100000 0 sE none (Nat.zero_le _) (by omega) (by unfold turns;omega) (by rw [pE];exact hE0) rfl (fun n hn=>absurd hn (by omega))
  . exact wpAny_pure (h _ (by simp only [Option.isSome_some];exact (decide_eq_true ((hmem ks).mpr ⟨_,List.getElem_mem hi,c⟩)).symm))
  . exact wpAny_pure (h _ (by simp only [Option.isSome_none];exact (decide_eq_false fun z=>by obtain ⟨e,he,q⟩:=(hmem ks).mp z;exact hno e he q).symm))
theorem yI {D:Addr} {L:List bu} {ep:Nat} {t:SetTable} {Q:Array (Int×Value)->Shared->Prop} (ho:s.heap.get? D=some (bd L ep t)) (g:Goes w L t) (h:Q (bq w D ep L) s):wpAny (model prog w) A (setWalk D) Q E s:=by
  unfold setWalk setsByText
  refine wpAny_bind (wpAny_setState_of ho rfl (g.g.fits g.hl) ?_)
  refine wpAny_bind (wpAny_bind (wpAny_askSetting (wpAny_pure ?_)))
  unfold bq at h
  cases hb:bG w with
  | true =>
    have hb':((model prog w).w.params.followText "set-order")=true:=hb
    simp only [hb,if_true] at h
    simp only [hb',if_true]
    exact wpAny_bind (wpAny_askSetting (wpAny_pure h))
  | false =>
    have hb':((model prog w).w.params.followText "set-order")=false:=hb
    simp only [hb,Bool.false_eq_true,if_false] at h
    simp only [hb',Bool.false_eq_true,if_false]
    have ld:t.led=true:=by rw [g.ld,hb];rfl
    have hdr:∀ c:Bool,(!t.plain && c)=false:=fun c=>by rw [g.pl];rfl
    have hld:∀ c:Bool,(!t.led && c)=false:=fun c=>by rw [ld];rfl
    have drop:∀ {c:Bool} {x y:Sem (Array (Int×Value))},c=false->wpAny (model prog w) A y Q E s->wpAny (model prog w) A (if c=true then x else y) Q E s:=fun {c x y} hc hy=>by rw [hc];exact hy
    refine drop (hdr _) ?_
    refine wpAny_bind ?_
    show wpAny _ _ (if (!t.led && decide (((L.map (·.2)).toArray).size > 1))=true then unsupported "set:maker-not-led" else pure ()) _ _ _
    rw [hld]
    exact wpAny_pure (wpAny_pure h)
theorem il {D:Addr} {os:List Addr} {fl:Option Addr} {L:List bu} {ep:Nat} {t:SetTable} {Q:Array (Int×Value)->Shared->Prop} (ho:s.heap.get? D=some (bd L ep t)) (g:Goes w L t) (h:Q (bq w D ep L) s):wpAny (model prog w) A (setWalkUnseen D os fl) Q E s:=by
  unfold setWalkUnseen setsByText
  refine wpAny_bind (wpAny_setState_of ho rfl (g.g.fits g.hl) ?_)
  refine wpAny_bind (wpAny_bind (wpAny_askSetting (wpAny_pure ?_)))
  have hc:∀ c:Bool,(((model prog w).w.params.followText "set-order") || (t.led && t.plain) || c)=true:=fun c=>by
    rw [g.pl,g.ld]
    show (bG w || (!bG w && true) || c)=true
    cases bG w <;> simp
  have take:∀ {c:Bool} {x y:Sem (Array (Int×Value))},c=true->wpAny (model prog w) A x Q E s->wpAny (model prog w) A (if c=true then x else y) Q E s:=fun {c x y} hc hy=>by rw [hc];exact hy
  exact take (hc _) (yI ho g h)
theorem SetAt.goes {U:Addr->List Int->Prop} {h:Heap} {D:Addr} {kss:List (List Int)} (x:SetAt prog w U h D kss) (hn:kss.length < 1000):∃ (L:List bu) (ep:Nat) (t:SetTable) (f:Int×Value->List Int),h.get? D=some (bd L ep t)/\Goes w L t/\L.length=kss.length /\
    ((bq w D ep L).toList.map f).Perm kss/\∀ e∈(bq w D ep L).toList,∃ b,e=(hK prog w (f e),.ref b)/\IsTupleKey (intKind prog w) h (f e) b/\U b (f e):=by
  obtain ⟨L,ep,t,f,ho,g,room,mb,pl,hf,hp,nd,uu⟩:=x
  have hlen:L.length=kss.length:=by have:=hp.length_eq;simpa using this
  have h7:=g.m7
  have op:=iC w D ep L
  refine ⟨L,ep,t,f,ho,⟨g.lies (by omega),by omega,pl.1,pl.2⟩,hlen,((op.map f).trans (List.Perm.of_eq (by rw [List.map_map];rfl))).trans hp,fun e he=>?_⟩
  obtain ⟨e0,h0,rfl⟩:=List.mem_map.mp (op.mem_iff.mp he)
  obtain ⟨b,h1,h2,h3⟩:=hf e0 h0
  exact ⟨b,by rw [<- h1,<- h3],h2,uu e0 h0 b h1⟩
end
end Tb
namespace Tb
open PySem PySem.Spec PySem.SetTable
section
variable {prog:Program} {w:World} {U:Addr->List Int->Prop} {A:Around} {E:Value->Shared->Prop} {s:Shared}
theorem uE {a:Addr} {L:List bu} {ep:Nat} {t:SetTable} {Q:Unit->Shared->Prop} {wanted:Nat} (ho:s.heap.get? a=some (bd L ep t)) (g:Good t L) (hl:L.length<=t.mask) (hw:wanted<=100000) (hw2:L.length<=wanted) (hp:t.plain=true)
    (h:∀ h' L' t',Heap.SameBut a s.heap h'->h'.get? a=some (bd L' (ep + 1) t')->Good t' L'->t'.mask=sizeAbove wanted - 1->(t'.plain=true/\t'.led=t.led)->(L'.map (·.2)).Perm (L.map (·.2))->Q () { s with heap:=h' }) :
    wpAny (model prog w) A (setRelay a wanted) Q E s:=by
  obtain ⟨s1,s2,s3,s4⟩:=fG wanted (by omega)
  unfold setRelay
  refine wpAny_bind (wpAny_setState_of ho rfl (g.fits hl) ?_)
  have hsz:¬ sizeAbove wanted > sizeLine:=by rw [sizeLine_eq];omega
  simp only [hsz,if_false]
  obtain ⟨t',order,L',e1,e2,e3,e4,e5,g',e6,e7⟩:=iB s1 s2 t.finger (t.movedTo (sizeAbove wanted - 1)) t.led t.plain (L.map (·.2)) (by simp;omega)
  have hlen:L'.length=L.length:=by have:=e7.length_eq;simpa using this
  have er:t.relaid (((L.map (·.2)).toArray).map (·.1)) wanted=some (t',order):=by
    unfold relaid
    have:((L.map (·.2)).toArray).map (·.1)=((L.map (·.2)).map (·.1)).toArray:=by simp
    rw [this];exact e1
  have main:wpAny (model prog w) A (do
      let some (t,order):=t.relaid (((L.map (·.2)).toArray).map (·.1)) wanted|unsupported "internal:set-table-without-room"
      let es':=order.filterMap (((L.map (·.2)).toArray)[·]?)
      if es'.size != ((L.map (·.2)).toArray).size then unsupported "internal:set-table-lost-an-element"
      pure (es',t)) (fun r s'=>wpAny (model prog w) A (storeSet a r.1 r.2) Q E s') E s:=by
    rw [er]
    simp only
    rw [e6]
    have:((L'.map (·.2)).toArray.size != ((L.map (·.2)).toArray).size)=false:=by simp [hlen]
    rw [this]
    simp only [Bool.false_eq_true,if_false]
    refine wpAny_pure ?_
    exact fm (t':=t') ho (by omega) fun h' hs hg=>h h' L' t' hs hg g' e2 ⟨e4.trans hp,e3⟩ e7
  exact wpAny_bind main
theorem SetAt.perm {h:Heap} {a:Addr} {kss kss':List (List Int)} (x:SetAt prog w U h a kss) (p:kss.Perm kss'):SetAt prog w U h a kss':=by
  obtain ⟨L,ep,t,f,ho,g,room,mb,pl,hf,hp,nd,uu⟩:=x
  exact ⟨L,ep,t,f,ho,g,room,mb,pl,hf,hp.trans p,p.nodup_iff.mp nd,uu⟩
def gt (keep:List Int->Bool) (acc:List (List Int)) (ks:List Int):List (List Int):=if keep ks=true then (if ks∈acc then acc else ks::acc) else acc
theorem uF (keep:List Int->Bool) (acc:List (List Int)) (ks:List Int):(gt keep acc ks).length<=acc.length + 1:=by
  unfold gt
  split
  . split <;> simp
  . simp
theorem uG {keep:List Int->Bool} {acc:List (List Int)} {ks x:List Int}:x∈gt keep acc ks↔x∈acc∨(x=ks/\keep ks=true):=by
  unfold gt
  split
  . rename_i hk
    split
    . rename_i hm
      constructor
      . exact .inl
      . rintro (h|⟨rfl,_⟩)
        . exact h
        . exact hm
    . rw [List.mem_cons]
      constructor
      . rintro (h|h)
        . exact .inr ⟨h,hk⟩
        . exact .inl h
      . rintro (h|⟨h,_⟩)
        . exact .inr h
        . exact .inl h
  . rename_i hk
    constructor
    . exact .inl
    . rintro (h|⟨_,h⟩)
      . exact h
      . exact absurd h hk
theorem jn {keep:List Int->Bool} {x:List Int}:∀ {l acc:List (List Int)},x∈l.foldl (gt keep) acc↔x∈acc∨(x∈l/\keep x=true)
  | [],acc=>by simp
  | k::l,acc=>by
    rw [List.foldl_cons,jn,uG,List.mem_cons]
    constructor
    . rintro ((h|⟨rfl,h⟩)|⟨h,h'⟩)
      . exact .inl h
      . exact .inr ⟨.inl rfl,h⟩
      . exact .inr ⟨.inr h,h'⟩
    . rintro (h|⟨rfl|h,h'⟩)
      . exact .inl (.inl h)
      . exact .inl (.inr ⟨rfl,h'⟩)
      . exact .inr ⟨h,h'⟩
theorem jS {r:Addr} {keep:List Int->Bool} {f:Int×Value->List Int} {body:Int×Value->PUnit->Sem (ForInStep PUnit)} {s0:Shared} {Q:PUnit->Shared->Prop}
    (hbody:∀ (e:Int×Value) (b:Addr) (acc:List (List Int)) (s':Shared) (R:ForInStep PUnit->Shared->Prop),e=(hK prog w (f e),.ref b)->IsTupleKey (intKind prog w) s'.heap (f e) b->U b (f e)->Heap.SameBut r s0.heap s'.heap->SetAt prog w U s'.heap r acc->acc.length < 999 ->
      (∀ h' tk,Heap.SameBut r s'.heap h'->SetAt prog w U h' r (gt keep acc (f e))->R (.yield ⟨⟩) { s' with heap:=h',toks:=tk })->wpAny (model prog w) A (body e ⟨⟩) R E s') :
    ∀ (es:List (Int×Value)) (acc:List (List Int)) (s':Shared),(∀ e∈es,∃ b,e=(hK prog w (f e),.ref b)/\IsTupleKey (intKind prog w) s0.heap (f e) b/\U b (f e))->Heap.SameBut r s0.heap s'.heap->SetAt prog w U s'.heap r acc->acc.length + es.length < 999 ->
      (∃ o,s0.heap.get? r=some o/\∀ xs m,o.data≠.seq xs m) ->
      (∀ h' tk,Heap.SameBut r s0.heap h'->SetAt prog w U h' r ((es.map f).foldl (gt keep) acc)->Q ⟨⟩ { s' with heap:=h',toks:=tk })->wpAny (model prog w) A (forIn es PUnit.unit body) Q E s'
  | [],acc,s',_,hs,hS,_,_,h=>by
    rw [List.forIn_nil]
    exact wpAny_pure (h s'.heap s'.toks hs hS)
  | e::es,acc,s',he,hs,hS,hl,hr,h=>by
    rw [List.forIn_cons]
    obtain ⟨b,e1,k1,u1⟩:=he e (.head _)
    have key':IsTupleKey (intKind prog w) s'.heap (f e) b:=by
      obtain ⟨o,its,n,q1,q2,q3,q4⟩:=k1
      obtain ⟨ro,g1,g2⟩:=hr
      have ne:b≠r:=fun z=>by subst z;rw [g1] at q1;cases q1;exact g2 _ _ q3
      exact ⟨o,its,n,(hs.2 b ne).trans q1,q2,q3,q4⟩
    refine wpAny_bind (hbody e b acc s' _ e1 key' u1 hs hS (by simp at hl;omega) fun h' tk hs' hS'=>?_)
    refine jS hbody es _ { s' with heap:=h',toks:=tk } (fun e' h'=>he e' (.tail _ h')) (hs.trans hs') hS' (by have:=uF keep acc (f e);simp at hl;omega) hr fun h2 tk2 hs2 hS2=>?_
    exact h h2 tk2 hs2 hS2
end
end Tb
namespace Tb
open PySem PySem.Spec PySem.SetTable
section
variable {prog:Program} {w:World} {U:Addr->List Int->Prop} {A:Around} {E:Value->Shared->Prop} {s:Shared}
def SetRoom (prog:Program) (w:World) (U:Addr->List Int->Prop) (n:Nat) (h:Heap) (a:Addr) (kss:List (List Int)):Prop :=
  ∃ (L:List bu) (ep:Nat) (t:SetTable) (f:Int×Value->List Int),h.get? a=some (bd L ep t)/\Good t L/\(L.length + n) * 5 < t.mask * 3/\t.mask < 8000/\(t.plain=true/\t.led=!bG w)/\(∀ e∈L,jm prog w h e (f e.2))/\(L.map fun e=>f e.2).Perm kss/\kss.Nodup/\∀ e∈L,∀ b,e.2.2=.ref b->U b (f e.2)
theorem SetRoom.at {n:Nat} {h:Heap} {a:Addr} {kss:List (List Int)} (x:SetRoom prog w U n h a kss):SetAt prog w U h a kss:=by
  obtain ⟨L,ep,t,f,ho,g,room,r⟩:=x
  exact ⟨L,ep,t,f,ho,g,by omega,r⟩
theorem yJ {r:Addr} {kss:List (List Int)} {n:Nat} {Q:Unit->Shared->Prop} (hS:SetAt prog w U s.heap r kss) (hn:kss.length + n < 400) (h1:1<=n)
    (h:∀ h',Heap.SameBut r s.heap h'->SetRoom prog w U n h' r kss->Q () { s with heap:=h' }):wpAny (model prog w) A (setRoomFor r n) Q E s:=by
  obtain ⟨L,ep,t,f,ho,g,room,mb,pl,hf,hp,nd,uu⟩:=hS
  have hlen:L.length=kss.length:=by have:=hp.length_eq;simpa using this
  have h7:=g.m7
  have hl:L.length<=t.mask:=by omega
  have hfill:t.fill=L.length:=by unfold fill;rw [g.nd,g.sz];simp
  unfold setRoomFor
  refine wpAny_bind (wpAny_setState_of ho rfl (g.fits hl) ?_)
  simp only [roomFor,hfill,g.sz]
  by_cases c:(L.length + n) * 5 ≥ t.mask * 3
  . rw [if_pos c]
    simp only
    obtain ⟨s1,s2,s3,s4⟩:=fG ((L.length + n) * 2) (by omega)
    refine uE ho g hl (by omega) (by omega) pl.1 fun h' L' t' hs hg g' em p2 pm=>h h' hs ?_
    have hl2:L'.length=L.length:=by have:=pm.length_eq;simpa using this
    have hv:∀ e∈L',∃ e1∈L,e1.2=e.2:=fun e he=>by
      have:e.2∈L.map (·.2):=pm.mem_iff.mp (List.mem_map.mpr ⟨e,he,rfl⟩)
      obtain ⟨e1,h1,h2⟩:=List.mem_map.mp this
      exact ⟨e1,h1,h2⟩
    refine ⟨L',ep + 1,t',f,hg,g',by rw [em,hl2];omega,by rw [em];omega,⟨p2.1,p2.2.trans pl.2⟩,fun e he=>?_,?_,nd,fun e he b hb=>?_⟩
    . obtain ⟨e1,he1,q⟩:=hv e he
      obtain ⟨b',k1,k2,k3⟩:=hf e1 he1
      rw [q] at k1 k2 k3
      exact ⟨b',k1,eE ho hs k2,k3⟩
    . have:=(pm.map f)
      rw [List.map_map,List.map_map] at this
      exact this.trans hp
    . obtain ⟨e1,he1,q⟩:=hv e he
      rw [<- q];exact uu e1 he1 b (by rw [q];exact hb)
  . rw [if_neg c]
    simp only
    have:=h s.heap (Heap.SameBut.refl r s.heap) ⟨L,ep,t,f,ho,g,by omega,mb,pl,hf,hp,nd,uu⟩
    exact wpAny_pure (by cases s;exact this)
theorem Good.as {t t':SetTable} {L:List bu} (g:Good t L) (e1:t'.mask=t.mask) (e2:t'.dummies=t.dummies) (e3:t'.place=t.place):Good t' L where
  pw:=by rw [e1];exact g.pw
  m7:=by rw [e1];exact g.m7
  nd:=by rw [e2];exact g.nd
  pl:=by rw [e3];exact g.pl
  so:=g.so
  le:=fun e he=>by rw [e1];exact g.le e he
  reach:=fun e he=>by
    obtain ⟨n,r1,r2⟩:=g.reach e he
    exact ⟨n,by rw [ij e1];exact r1,fun n' h=>by obtain ⟨e',h1,h2⟩:=r2 n' h;exact ⟨e',h1,by rw [ij e1];exact h2⟩⟩
theorem pA {r o:Addr} {kss js:List (List Int)} {each:Sem Unit} {Q:Unit->Shared->Prop} (hS:SetAt prog w U s.heap r kss) (hO:SetAt prog w U s.heap o js) (hne:r≠o) (hn:kss.length + js.length < 400) (hu:A.units < cLine)
    (heach:∀ (s':Shared) (R:Unit->Shared->Prop),Heap.SameBut r s.heap s'.heap->R () s'->wpAny (model prog w) A each R E s')
    (h:∀ h' tk kss',Heap.SameBut r s.heap h'->kss'.Nodup->(∀ x,x∈kss'↔x∈kss∨x∈js)->SetAt prog w U h' r kss'->Q () { s with heap:=h',toks:=tk }):wpAny (model prog w) A (setMerge r o each) Q E s:=by
  have hO0:=hO
  obtain ⟨L2,ep2,t2,f2,ho2,g2,room2,mb2,pl2,hf2,hp2,nd2,uu2⟩:=hO
  have nd1:kss.Nodup:=by obtain ⟨_,_,_,_,_,_,_,_,_,_,_,z,_⟩:=hS;exact z
  have hlen2:L2.length=js.length:=by have:=hp2.length_eq;simpa using this
  have h72:=g2.m7
  have hl2:L2.length<=t2.mask:=by omega
  unfold setMerge
  have hb:(r == o)=false:=by simp [hne]
  simp only [hb,Bool.false_eq_true,if_false]
  refine wpAny_bind (wpAny_setState_of ho2 rfl (g2.fits hl2) ?_)
  by_cases hz:L2=[]
  . subst hz
    have:js=[]:=List.length_eq_zero_iff.mp hlen2.symm
    subst this
    simp only [List.map_nil,List.isEmpty_toArray,List.isEmpty_nil,if_true]
    exact wpAny_pure (by have:=h s.heap s.toks kss (Heap.SameBut.refl r s.heap) nd1 (fun x=>by simp) hS;cases s;exact this)
  have hpos:1<=L2.length:=by cases L2 with|nil=>exact absurd rfl hz|cons a l=>simp
  have hem:((L2.map (·.2)).toArray.isEmpty)=false:=by
    cases L2 with
    | nil=>exact absurd rfl hz
    | cons a l=>simp
  simp only [hem,Bool.false_eq_true,if_false]
  have hsz:(L2.map (·.2)).toArray.size=L2.length:=by simp
  rw [hsz]
  refine wpAny_bind (yJ hS (by omega) hpos fun h1 hs1 hR=>?_)
  have hR0:=hR.at
  obtain ⟨L,ep,t,f,ho,g,room,mb,pl,hf,hp,nd,uu⟩:=hR
  have hlen:L.length=kss.length:=by have:=hp.length_eq;simpa using this
  have h7:=g.m7
  have hl:L.length<=t.mask:=by omega
  have hfill:t.fill=L.length:=by unfold fill;rw [g.nd,g.sz];simp
  have ho2':h1.get? o=some (bd L2 ep2 t2):=(hs1.2 o (Ne.symm hne)).trans ho2
  refine wpAny_bind (wpAny_setState_of (s:={ s with heap:=h1 }) ho rfl (g.fits hl) ?_)
  have key2:∀ {h':Heap},Heap.SameBut r h1 h'->∀ e∈L2,jm prog w h' e (f2 e.2):=fun {h'} hs' e he=>by
    obtain ⟨b,k1,k2,k3⟩:=hf2 e he
    obtain ⟨_,_,_,ro,_⟩:=hS.len
    exact ⟨b,k1,eE ho hs' (eE ro hs1 k2),k3⟩
  by_cases hL:L=[]
  . subst hL
    have hk0:kss=[]:=List.length_eq_zero_iff.mp hlen.symm
    subst hk0
    have be:∀ h' tk,Heap.SameBut r h1 h'->SetAt prog w U h' r js->Q () { s with heap:=h',toks:=tk }:=fun h' tk hs' hS'=>h h' tk js (hs1.trans hs') nd2 (fun x=>by simp) hS'
    by_cases hm:t.mask=t2.mask
    . have hroad:t.road t2=.slotForSlot:=by unfold road;rw [hfill,g2.nd];simp [hm]
      rw [hroad]
      simp only
      refine fm (s:={ s with heap:=h1 }) (L':=L2) ho (by omega) fun h' hs' hg=>be h' s.toks hs' ⟨L2,ep + 1,_,f2,hg,g2.as rfl rfl rfl,room2,mb2,⟨?_,?_⟩,key2 hs',hp2,nd2,uu2⟩
      . show (t.plain && t2.plain)=true;rw [pl.1,pl2.1];rfl
      . show (t.led && t2.led)=!bG w;rw [pl.2,pl2.2];cases bG w <;> rfl
    . have hroad:t.road t2=.clean:=by unfold road;rw [hfill];simp [hm]
      rw [hroad]
      simp only
      obtain ⟨t',order,L',e1,e2,e3,e4,e5,g',e6,e7⟩:=iB g.pw g.m7 t.finger t.moves (t.led && t2.led) (t.plain && t2.plain) (L2.map (·.2)) (by simp at room ⊢;omega)
      have hl':L'.length=L2.length:=by have:=e7.length_eq;simpa using this
      have main:wpAny (model prog w) A (do
          let some (t,order):=(SetTable.laid t.mask t.finger t.moves (led:=t.led && t2.led) (plain:=t.plain && t2.plain) (((L2.map (·.2)).toArray).map (·.1)))|unsupported "internal:set-table-without-room"
          let es':=order.filterMap (((L2.map (·.2)).toArray)[·]?)
          if es'.size != ((L2.map (·.2)).toArray).size then unsupported "internal:set-table-lost-an-element"
          pure (es',t)) (fun q s'=>wpAny (model prog w) A (storeSet r q.1 q.2) Q E s') E { s with heap:=h1 }:=by
        have er:SetTable.laid t.mask t.finger t.moves (led:=t.led && t2.led) (plain:=t.plain && t2.plain) (((L2.map (·.2)).toArray).map (·.1))=some (t',order):=by
          have:((L2.map (·.2)).toArray).map (·.1)=((L2.map (·.2)).map (·.1)).toArray:=by simp
          rw [this];exact e1
        rw [er]
        simp only
        rw [e6]
        have:((L'.map (·.2)).toArray.size != ((L2.map (·.2)).toArray).size)=false:=by simp [hl']
        rw [this]
        simp only [Bool.false_eq_true,if_false]
        refine wpAny_pure ?_
        have hv:∀ e∈L',∃ e1∈L2,e1.2=e.2:=fun e he=>by
          have:e.2∈L2.map (·.2):=e7.mem_iff.mp (List.mem_map.mpr ⟨e,he,rfl⟩)
          obtain ⟨e1,h1,h2⟩:=List.mem_map.mp this
          exact ⟨e1,h1,h2⟩
        refine fm (s:={ s with heap:=h1 }) (t':=t') ho (by omega) fun h' hs' hg=>be h' s.toks hs' ⟨L',ep + 1,t',f2,hg,g',?_,by rw [e2];exact mb,⟨?_,?_⟩,fun e he=>?_,?_,nd2,fun e he b hb=>?_⟩
        . rw [e2,hl'];simp at room;omega
        . rw [e4,pl.1,pl2.1];rfl
        . rw [e3,pl.2,pl2.2];cases bG w <;> rfl
        . obtain ⟨e1,he1,q⟩:=hv e he
          obtain ⟨b',k1,k2,k3⟩:=key2 hs' e1 he1
          rw [q] at k1 k2 k3
          exact ⟨b',k1,k2,k3⟩
        . have:=(e7.map f2)
          rw [List.map_map,List.map_map] at this
          exact this.trans hp2
        . obtain ⟨e1,he1,q⟩:=hv e he
          rw [<- q];exact uu2 e1 he1 b (by rw [q];exact hb)
      exact wpAny_bind main
  . have hroad:t.road t2=.oneByOne:=by
      unfold road
      rw [hfill]
      have:L.length≠0:=fun z=>hL (List.length_eq_zero_iff.mp z)
      simp [this]
    rw [hroad]
    simp only
    have hO1:SetAt prog w U h1 o js:=hO0.moved fun b o' hb e=>by
      have:b≠r:=by
        rcases hb with rfl|⟨ks,hk⟩
        . exact Ne.symm hne
        . obtain ⟨_,_,_,ro,_⟩:=hS.len
          exact fun z=>by
            subst z
            obtain ⟨q,its,n,q1,q2,q3,q4⟩:=hk
            rw [ro] at q1;cases q1;cases q3
      exact (hs1.2 b this).trans e
    obtain ⟨L3,ep3,t3,f3,ho3,gs3,hl3,hp3,he3⟩:=hO1.goes (by omega)
    have osz:(bq w o ep3 L3).toList.length=L3.length:=(Array.length_toList).trans (dy w o ep3 L3)
    refine wpAny_bind (il (s:={ s with heap:=h1 }) ho3 gs3 ?_)
    have hep:ep3=ep2:=by rw [ho2'] at ho3;injection ho3 with z;injection z with _ _ z2 _;injection z2 with _ z3 _;exact z3.symm
    refine wpAny_bind ?_
    rw [<- Array.forIn_toList]
    refine jS (U:=U) (r:=r) (keep:=fun _=>true) (f:=f3) (s0:={ s with heap:=h1 }) (fun e b acc s' R e1 k1 u1 hs' hS' hl' hR'=>?_) (bq w o ep3 L3).toList kss { s with heap:=h1 } he3 (Heap.SameBut.refl r h1) hR0 (by rw [osz];omega) ⟨_,ho,fun xs m z=>by cases z⟩ fun h' tk hs' hS'=>?_
    . rw [e1]
      simp only
      refine wpAny_bind (wpAny_holding (ik hS' (by omega) k1 u1 hu fun h2 added hs2 hS2=>?_))
      refine wpAny_bind (heach _ _ (hs1.trans (hs'.trans hs2)) ?_)
      have ho4:h2.get? o=some (bd L3 ep3 t3):=(hs2.2 o (Ne.symm hne)).trans ((hs'.2 o (Ne.symm hne)).trans ho3)
      refine wpAny_bind (wpAny_setState_of (s:={ s' with heap:=h2 }) ho4 rfl (gs3.g.fits gs3.hl) ?_)
      rw [hep]
      simp only [bne_self_eq_false,Bool.false_eq_true,if_false]
      refine wpAny_pure (hR' h2 s'.toks hs2 ?_)
      unfold gt
      rw [if_pos rfl]
      exact hS2
    . refine wpAny_pure (h h' tk _ (hs1.trans hs') (by obtain ⟨_,_,_,_,_,_,_,_,_,_,_,z,_⟩:=hS';exact z) (fun x=>?_) hS')
      rw [jn,hp3.mem_iff]
      simp
end
end Tb
namespace Tb
open PySem PySem.Spec PySem.SetTable
theorem su:entryFor table "set.__or__"=some Builtin.«frozenset.__or__»:=entryFor_alias (id':="frozenset.__or__") (by kernel_rfl) rfl (by decide +kernel) (by kernel_rfl)
theorem qB:entryFor table "set.__and__"=some Builtin.«frozenset.__and__»:=entryFor_alias (id':="frozenset.__and__") (by kernel_rfl) rfl (by decide +kernel) (by kernel_rfl)
theorem qC:entryFor table "set.__sub__"=some Builtin.«frozenset.__sub__»:=entryFor_alias (id':="frozenset.__sub__") (by kernel_rfl) rfl (by decide +kernel) (by kernel_rfl)
section
variable {prog:Program} {w:World} {U:Addr->List Int->Prop} {A:Around} {E:Value->Shared->Prop} {s:Shared}
theorem jT {Q:Value->Shared->Prop} (h:Q (.ref s.heap.objs.size) { s with heap:=s.heap.push (aU (!bG w)) }):wpAny (model prog w) A (newSet (.type "set")) Q E s:=by
  unfold newSet setsByText
  refine wpAny_bind (wpAny_bind (wpAny_askSetting (wpAny_pure ?_)))
  simp only [newObj]
  exact wpAny_bind (wpAny_alloc (wpAny_pure h))
theorem mC {D:Addr} {Q:Value->Shared->Prop} (hT:s.TypeIs (.ref D) "set") (h:Q (.type "set") s):wpAny (model prog w) A (Builtin.Frozenset.baseOf D) Q E s:=by
  unfold Builtin.Frozenset.baseOf
  exact wpAny_bind (wpAny_isInstance hT sub_set_self (wpAny_pure h))
theorem gE {D:Addr} {Q:Bool->Shared->Prop} (hT:s.TypeIs (.ref D) "set") (h:Q true s):wpAny (model prog w) A (Builtin.Frozenset.isAnySet (.ref D)) Q E s:=by
  unfold Builtin.Frozenset.isAnySet
  refine wpAny_bind (wpAny_isInstance hT sub_set_self ?_)
  exact wpAny_pure h
theorem SetAt.ty {D:Addr} {kss:List (List Int)} (hS:SetAt prog w U s.heap D kss):s.TypeIs (.ref D) "set":=by
  obtain ⟨L,ep,t,ho,_⟩:=hS.len
  exact ⟨_,ho,rfl⟩
theorem kJ {h':Heap} {o:Obj} (hs:Heap.SameBut s.heap.objs.size (s.heap.push o) h'):∀ b x,s.heap.get? b=some x->h'.get? b=some x:=fun b x e =>
  (hs.2 b (Nat.ne_of_lt (Heap.lt_size e))).trans (Heap.get?_push_of_some _ e)
theorem SetAt.pushed {D:Addr} {kss:List (List Int)} (hS:SetAt prog w U s.heap D kss) (o:Obj):SetAt prog w U (s.heap.push o) D kss:=hS.moved fun b x _ e=>Heap.get?_push_of_some _ e
theorem mD {D:Addr} {kss:List (List Int)} {Q:Value->Shared->Prop} (hS:SetAt prog w U s.heap D kss) (hn:kss.length < 400) (hu:A.units < cLine)
    (h:∀ h' tk kss',(∀ b o,s.heap.get? b=some o->h'.get? b=some o)->kss'.Nodup->(∀ x,x∈kss'↔x∈kss)->SetAt prog w U h' s.heap.objs.size kss'->Q (.ref s.heap.objs.size) { s with heap:=h',toks:=tk }):wpAny (model prog w) A (Builtin.Frozenset.copyOf D) Q E s:=by
  have hlt:D < s.heap.objs.size:=by obtain ⟨L,ep,t,ho,_⟩:=hS.len;exact Heap.lt_size ho
  unfold Builtin.Frozenset.copyOf
  refine wpAny_bind (mC hS.ty (wpAny_bind (jT ?_)))
  refine wpAny_bind (m:=Builtin.Frozenset.addrOf _) (wpAny_pure ?_)
  refine wpAny_bind (pA (U:=U) (s:={ s with heap:=s.heap.push (aU (!bG w)) }) (kl (Heap.get?_push_size _ rfl)) (hS.pushed _) (Nat.ne_of_gt hlt) (by simpa using hn) hu (fun s' R _ q=>wpAny_pure q) fun h' tk kss' hs nd hm hS'=>?_)
  exact wpAny_pure (h h' tk kss' (kJ hs) nd (fun x=>by rw [hm x];simp) hS')
theorem dL {D:Addr} {kss:List (List Int)} {Q:Nat->Shared->Prop} (hS:SetAt prog w U s.heap D kss) (hn:kss.length < 1000) (h:Q kss.length s):wpAny (model prog w) A (Builtin.Frozenset.sizeOf D) Q E s:=by
  obtain ⟨L,ep,t,f,ho,gs,hl,_⟩:=hS.goes hn
  unfold Builtin.Frozenset.sizeOf
  refine wpAny_bind (wpAny_setEntries_of ho rfl (gs.g.fits gs.hl) (wpAny_pure ?_))
  rw [show ((L.map (·.2)).toArray).size=kss.length by simp [hl]]
  exact h
theorem AR {D r:Addr} {id:String} {kss js:List (List Int)} {Q:Unit->Shared->Prop} (hS:SetAt prog w U s.heap r kss) (hO:SetAt prog w U s.heap D js) (hne:r≠D) (hn:kss.length + js.length < 400) (hu:A.units < cLine)
    (h:∀ h' tk kss',Heap.SameBut r s.heap h'->kss'.Nodup->(∀ x,x∈kss'↔x∈kss∨x∈js)->SetAt prog w U h' r kss'->Q () { s with heap:=h',toks:=tk }):wpAny (model prog w) A (Builtin.Frozenset.updateFrom id r (.ref D)) Q E s:=by
  obtain ⟨L,ep,t,f,ho,gs,hl,_⟩:=hO.goes (by omega)
  unfold Builtin.Frozenset.updateFrom
  refine wpAny_bind (gE hO.ty ?_)
  simp only [if_true]
  refine wpAny_bind (m:=Builtin.Frozenset.addrOf _) (wpAny_pure ?_)
  unfold Builtin.Frozenset.merge
  refine wpAny_bind (wpAny_setEpoch_of ho rfl (gs.g.fits gs.hl) ?_)
  refine pA hS hO hne hn hu (fun s' R hs q=>?_) h
  unfold Builtin.Frozenset.unchanged
  have ho':s'.heap.get? D=some (bd L ep t):=(hs.2 D (Ne.symm hne)).trans ho
  refine wpAny_bind (wpAny_setEpoch_of ho' rfl (gs.g.fits gs.hl) ?_)
  simp only [bne_self_eq_false,Bool.false_eq_true,if_false]
  exact wpAny_pure q
theorem pB {name:String} {f:String->Addr->Value->Sem Value} {l r:Addr} {P:PySem.Fin->Shared->Prop} (hl:s.TypeIs (.ref l) "set") (hr:s.TypeIs (.ref r) "set") (h:wpAny (model prog w) A (f s!"frozenset.{name}" l (.ref r)) (fun v s'=>P (.done (.ret v)) s') E s) :
    wpAny (model prog w) A ((fun args=>do
      let (self,other) <- Builtin.Frozenset.slot1 name args
      let (l,r):=if false then (other,self) else (self,other)
      if !(<- Builtin.Frozenset.isAnySet l <&&> Builtin.Frozenset.isAnySet r) then rule s!"frozenset.{name}.declined";return <- ret .notImplemented
      ret (<- f s!"frozenset.{name}" (<- Builtin.Frozenset.addrOf l) r):Builtin) ⟨[.ref l,.ref r],[]⟩) P E s:=by
  unfold Builtin.Frozenset.slot1
  simp only [slotArgs,List.isEmpty_nil,Bool.not_true,Bool.false_eq_true,if_false,List.length_cons,List.length_nil,bne_self_eq_false]
  refine wpAny_bind (wpAny_bind (wpAny_pure (wpAny_pure ?_)))
  simp only
  refine wpAny_bind (wpAny_bind (gE hl ?_))
  show wpAny (model prog w) A (Builtin.Frozenset.isAnySet (.ref r)) _ _ _
  refine gE hr ?_
  simp only [Bool.not_true,Bool.false_eq_true,if_false]
  refine wpAny_bind (m:=Builtin.Frozenset.addrOf _) (wpAny_pure ?_)
  exact wpAny_bind (wpAny_mono h (fun v s' hv=>wpAny_pure hv) fun _ _ x=>x)
end
end Tb
namespace Tb
open PySem PySem.Spec PySem.SetTable
theorem de {α:Type} [DecidableEq α]:∀ {l l':List α},l.Nodup->l'.Nodup->(∀ x,x∈l↔x∈l')->l.Perm l'
  | [],l',_,_,h=>by
    cases l' with
    | nil=>exact .refl _
    | cons a t=>exact absurd ((h a).mpr (.head _)) (by simp)
  | a::t,l',nd,nd',h=>by
    obtain ⟨n1,n2⟩:=List.nodup_cons.mp nd
    have ha:a∈l':=(h a).mp (.head _)
    refine (List.Perm.cons a (de n2 (nd'.erase a) fun x=>?_)).trans (List.perm_cons_erase ha).symm
    rw [nd'.mem_erase_iff]
    constructor
    . intro hx
      exact ⟨fun z=>n1 (z▸hx),(h x).mp (.tail _ hx)⟩
    . rintro ⟨hx,hm⟩
      rcases List.mem_cons.mp ((h x).mpr hm) with z|z
      . exact absurd z hx
      . exact z
section
variable {prog:Program} {w:World} {U:Addr->List Int->Prop} {A:Around} {E:Value->Shared->Prop} {s:Shared}
theorem SetAt.nd {D:Addr} {h:Heap} {kss:List (List Int)} (hS:SetAt prog w U h D kss):kss.Nodup:=by obtain ⟨_,_,_,_,_,_,_,_,_,_,_,z,_⟩:=hS;exact z
theorem Dd {id:String} {l r:Addr} {kss js:List (List Int)} {Q:Value->Shared->Prop} (hl:SetAt prog w U s.heap l kss) (hr:SetAt prog w U s.heap r js) (hne:l≠r) (hn:kss.length + js.length < 400) (hu:A.units < cLine)
    (h:∀ h' tk ls,(∀ b o,s.heap.get? b=some o->h'.get? b=some o)->ls.Nodup->(∀ x,x∈ls↔x∈kss∨x∈js)->SetAt prog w U h' s.heap.objs.size ls->Q (.ref s.heap.objs.size) { s with heap:=h',toks:=tk }) :
    wpAny (model prog w) A (do
      let result <- Builtin.Frozenset.copyOf l
      if Value.ref r != .ref l then holding [result] (Builtin.Frozenset.updateFrom id (<- Builtin.Frozenset.addrOf result) (.ref r))
      return result) Q E s:=by
  have hlt:r < s.heap.objs.size:=by obtain ⟨L,ep,t,ho,_⟩:=hr.len;exact Heap.lt_size ho
  refine wpAny_bind (mD hl (by omega) hu fun h1 tk1 k1 kp nd1 hm1 hS1=>?_)
  have hb:(Value.ref r != Value.ref l)=true:=by rw [bne_iff_ne];intro e;injection e with e;exact hne e.symm
  have hp:k1.length=kss.length:=(de nd1 hl.nd hm1).length_eq
  have hr1:SetAt prog w U h1 r js:=hr.moved fun b o _ e=>kp b o e
  simp only [hb,if_true]
  refine wpAny_bind (m:=Builtin.Frozenset.addrOf _) (wpAny_pure ?_)
  refine wpAny_bind (wpAny_holding (AR (s:={ s with heap:=h1,toks:=tk1 }) hS1 hr1 (Nat.ne_of_gt hlt) (by omega) hu fun h2 tk2 ls hs2 nd2 hm2 hS2=>?_))
  refine wpAny_pure (h h2 tk2 ls (fun b o e=>(hs2.2 b (Nat.ne_of_lt (Heap.lt_size e))).trans (kp b o e)) nd2 (fun x=>?_) hS2)
  rw [hm2,hm1]
theorem Cn {l r:Addr} {kss js:List (List Int)} {Q:Value->Shared->Prop} (hl:SetAt prog w U s.heap l kss) (hr:SetAt prog w U s.heap r js) (hne:l≠r) (hn:kss.length + js.length < 400) (hu:A.units + 4 < cLine)
    (h:∀ h' tk ls,(∀ b o,s.heap.get? b=some o->h'.get? b=some o)->ls.Nodup->(∀ x,x∈ls↔x∈kss∨x∈js)->SetAt prog w U h' s.heap.objs.size ls->Q (.ref s.heap.objs.size) { s with heap:=h',toks:=tk }) :
    wpAny (model prog w) A (binaryOp .BitOr (.ref l) (.ref r)) Q E s:=by
  refine wpAny_binaryOp_same (op:=.BitOr) (T:="set") hl.ty hr.ty F.fills_set_or F.slot_set_or (wpAny_call_entry F.slot_set_or hl.ty su ?_ (F.args_set_or_2 _ _))
  refine pB (name:="__or__") hl.ty hr.ty (Dd hl hr hne hn (by show A.units + 1 < cLine;omega) fun h' tk ls k nd hm hS=>⟨_,rfl,by simp,h h' tk ls k nd hm hS⟩)
theorem nh {r o D:Addr} {id:String} {kss js:List (List Int)} {pos:Bool} {Q:PUnit->Shared->Prop} {L:List bu} {ep:Nat} {t:SetTable} {f:Int×Value->List Int}
    (hS:SetAt prog w U s.heap r []) (hO:SetAt prog w U s.heap o js) (hD:s.heap.get? D=some (bd L ep t)) (gs:Goes w L t) (hrD:r≠D) (hro:r≠o) (hjs:js.length < 400) (hL:L.length < 400) (hp:((bq w D ep L).toList.map f).Perm kss) (hu:A.units < cLine)
    (he:∀ e∈(bq w D ep L).toList,∃ b,e=(hK prog w (f e),.ref b)/\IsTupleKey (intKind prog w) s.heap (f e) b/\U b (f e))
    (h:∀ h' tk ls,Heap.SameBut r s.heap h'->(∀ x,x∈ls↔x∈kss/\decide (x∈js)=pos)->SetAt prog w U h' r ls->Q ⟨⟩ { s with heap:=h',toks:=tk }) :
    wpAny (model prog w) A (forIn (bq w D ep L) PUnit.unit fun (e:Int×Value) _=>do
      holding [e.2] (do
        if ((<- setFind o e.2 e.1).isSome == pos)=true then
          let _ <- setAddHashed r e.2 e.1
          pure PUnit.unit)
      Builtin.Frozenset.unchanged id D ep
      pure (ForInStep.yield PUnit.unit)) Q E s:=by
  have osz:(bq w D ep L).toList.length=L.length:=(Array.length_toList).trans (dy w D ep L)
  obtain ⟨Lr,er,tr,hor,_⟩:=hS.len
  rw [<- Array.forIn_toList]
  refine jS (U:=U) (r:=r) (keep:=fun k=>decide (k∈js) == pos) (f:=f) (s0:=s) (fun e b acc s' R e1 k1 u1 hs' hS' hl' hR'=>?_) _ [] s he (Heap.SameBut.refl r s.heap) hS (by rw [osz];simp;omega) ⟨_,hor,fun xs m z=>by cases z⟩ fun h' tk hs' hS'=>h h' tk _ hs' (fun x=>?_) hS'
  . have hO':SetAt prog w U s'.heap o js:=hO.moved fun b o' hb e=>by
      have:b≠r:=by
        rcases hb with rfl|⟨ks,hk⟩
        . exact Ne.symm hro
        . exact pk hk hor (fun xs m z=>by cases z)
      exact (hs'.2 b this).trans e
    have hD':∀ {h2:Heap},Heap.SameBut r s'.heap h2->h2.get? D=some (bd L ep t):=fun hs2=>(hs2.2 D (Ne.symm hrD)).trans ((hs'.2 D (Ne.symm hrD)).trans hD)
    rw [e1]
    simp only
    have last:∀ (h2:Heap) (tk:Nat),Heap.SameBut r s'.heap h2->R (.yield ⟨⟩) { s' with heap:=h2,toks:=tk }->wpAny (model prog w) A (do Builtin.Frozenset.unchanged id D ep;pure (ForInStep.yield PUnit.unit)) R E { s' with heap:=h2,toks:=tk }:=fun h2 tk hs2 q=>by
      unfold Builtin.Frozenset.unchanged
      refine wpAny_bind (wpAny_bind (wpAny_setEpoch_of (s:={ s' with heap:=h2,toks:=tk }) (hD' hs2) rfl (gs.g.fits gs.hl) ?_))
      simp only [bne_self_eq_false,Bool.false_eq_true,if_false]
      exact wpAny_pure (wpAny_pure q)
    refine wpAny_bind (wpAny_holding (wpAny_bind (yH hO' (by omega) k1 hu fun fr hfr=>?_)))
    rw [hfr]
    by_cases c:(decide (f e∈js) == pos)=true
    . rw [if_pos c]
      refine wpAny_bind (ik hS' (by omega) k1 u1 hu fun h2 added hs2 hS2=>wpAny_pure (last h2 s'.toks hs2 (hR' h2 s'.toks hs2 ?_)))
      unfold gt
      rw [if_pos c];exact hS2
    . rw [if_neg c]
      have:=last s'.heap s'.toks (Heap.SameBut.refl r s'.heap) (hR' s'.heap s'.toks (Heap.SameBut.refl r s'.heap) (by unfold gt;rw [if_neg c];exact hS'))
      exact wpAny_pure this
  . rw [jn,hp.mem_iff]
    simp
theorem lI {α:Type} {c:Bool} {x y:Sem α} {Q:α->Shared->Prop} (hc:c=false) (hy:wpAny (model prog w) A y Q E s):wpAny (model prog w) A (if c=true then x else y) Q E s:=by rw [hc];exact hy
theorem Co {id:String} {l r:Addr} {kss js:List (List Int)} {Q:Value->Shared->Prop} (hl:SetAt prog w U s.heap l kss) (hr:SetAt prog w U s.heap r js) (hne:l≠r) (hk:kss.length < 400) (hj:js.length < 400) (hu:A.units < cLine)
    (h:∀ h' tk ls,(∀ b o,s.heap.get? b=some o->h'.get? b=some o)->(∀ x,x∈ls↔x∈kss/\x∈js)->SetAt prog w U h' s.heap.objs.size ls->Q (.ref s.heap.objs.size) { s with heap:=h',toks:=tk }) :
    wpAny (model prog w) A (Builtin.Frozenset.intersection id l (.ref r)) Q E s:=by
  have lt:∀ {D:Addr} {k:List (List Int)},SetAt prog w U s.heap D k->D < s.heap.objs.size:=fun hS=>by obtain ⟨L,ep,t,ho,_⟩:=hS.len;exact Heap.lt_size ho
  unfold Builtin.Frozenset.intersection
  refine lI (by rw [beq_eq_false_iff_ne];intro e;injection e with e;exact hne e.symm) ?_
  refine wpAny_bind (mC hl.ty (wpAny_bind (jT ?_)))
  refine wpAny_bind (m:=Builtin.Frozenset.addrOf _) (wpAny_pure ?_)
  have hS0:SetAt prog w U (s.heap.push (aU (!bG w))) s.heap.objs.size []:=kl (Heap.get?_push_size _ rfl)
  have hl1:=hl.pushed (aU (!bG w))
  have hr1:=hr.pushed (aU (!bG w))
  refine wpAny_bind (wpAny_holding ?_)
  refine wpAny_bind (gE (s:={ s with heap:=s.heap.push (aU (!bG w)) }) hr1.ty ?_)
  simp only [if_true]
  refine wpAny_bind (m:=Builtin.Frozenset.addrOf _) (wpAny_pure ?_)
  refine wpAny_bind (dL (s:={ s with heap:=s.heap.push (aU (!bG w)) }) hr1 (by omega) (wpAny_bind (dL (s:={ s with heap:=s.heap.push (aU (!bG w)) }) hl1 (by omega) ?_)))
  have go:∀ {d o:Addr} {ds os:List (List Int)},SetAt prog w U s.heap d ds->SetAt prog w U s.heap o os->ds.length < 400->os.length < 400->(∀ x,(x∈ds/\x∈os)↔(x∈kss/\x∈js)) ->
      wpAny (model prog w) A (do
        let was <- setEpoch d
        for (h,x) in <- setWalkUnseen d [o,s.heap.objs.size] (some s.heap.objs.size) do
          holding [x] do
            if (<- setFind o x h).isSome then
              let _ <- setAddHashed s.heap.objs.size x h
          Builtin.Frozenset.unchanged id d was) (fun _ s'=>wpAny (model prog w) A (pure (Value.ref s.heap.objs.size)) Q E s') E { s with heap:=s.heap.push (aU (!bG w)) }:=by
    intro d o ds os hd ho hdl hol hm
    obtain ⟨L,ep,t,f,hoD,gs,hlen,hp,he⟩:=(hd.pushed (aU (!bG w))).goes (by omega)
    refine wpAny_bind (wpAny_setEpoch_of (s:={ s with heap:=s.heap.push (aU (!bG w)) }) hoD rfl (gs.g.fits gs.hl) ?_)
    refine wpAny_bind (il (s:={ s with heap:=s.heap.push (aU (!bG w)) }) hoD gs ?_)
    have fl:=nh (prog:=prog) (w:=w) (U:=U) (A:=A) (E:=E) (s:={ s with heap:=s.heap.push (aU (!bG w)) }) (id:=id) (pos:=true) (Q:=fun _ s'=>wpAny (model prog w) A (pure ()) (fun _ s''=>wpAny (model prog w) A (pure (Value.ref s.heap.objs.size)) Q E s'') E s') hS0 (ho.pushed (aU (!bG w))) hoD gs (Nat.ne_of_gt (lt hd)) (Nat.ne_of_gt (lt ho)) hol (by omega) hp hu he fun h' tk ls hs hmm hS' =>
      wpAny_pure (wpAny_pure (h h' tk ls (kJ hs) (fun x=>by rw [hmm x,<- hm x];simp) hS'))
    simp only [beq_true] at fl
    exact wpAny_bind fl
  by_cases c:js.length > kss.length
  . rw [if_pos c]
    exact go hl hr hk hj fun x=>Iff.rfl
  . rw [if_neg c]
    exact go hr hl hj hk fun x=>⟨fun z=>⟨z.2,z.1⟩,fun z=>⟨z.2,z.1⟩⟩
theorem AS {l r:Addr} {kss js:List (List Int)} {Q:Value->Shared->Prop} (hl:SetAt prog w U s.heap l kss) (hr:SetAt prog w U s.heap r js) (hne:l≠r) (hk:kss.length < 400) (hj:js.length < 400) (hu:A.units + 4 < cLine)
    (h:∀ h' tk ls,(∀ b o,s.heap.get? b=some o->h'.get? b=some o)->(∀ x,x∈ls↔x∈kss/\x∈js)->SetAt prog w U h' s.heap.objs.size ls->Q (.ref s.heap.objs.size) { s with heap:=h',toks:=tk }) :
    wpAny (model prog w) A (binaryOp .BitAnd (.ref l) (.ref r)) Q E s:=by
  refine wpAny_binaryOp_same (op:=.BitAnd) (T:="set") hl.ty hr.ty F.fills_set_and F.slot_set_and (wpAny_call_entry F.slot_set_and hl.ty qB ?_ (F.args_set_and_2 _ _))
  exact pB (name:="__and__") hl.ty hr.ty (Co hl hr hne hk hj (by show A.units + 1 < cLine;omega) fun h' tk ls k hm hS=>⟨_,rfl,by simp,h h' tk ls k hm hS⟩)
end
end Tb
namespace Tb
open PySem PySem.Spec PySem.SetTable
section
variable {prog:Program} {w:World} {U:Addr->List Int->Prop} {A:Around} {E:Value->Shared->Prop} {s:Shared}
theorem yK {D:Addr} {kss:List (List Int)} {Q:Unit->Shared->Prop} (hS:SetAt prog w U s.heap D kss) (hn:kss.length < 1000) (h:Q () s):wpAny (model prog w) A (setTidy D) Q E s:=by
  obtain ⟨L,ep,t,f,ho,g,room,_⟩:=hS
  have h7:=g.m7
  unfold setTidy
  refine wpAny_bind (wpAny_setState_of ho rfl (g.fits (by omega)) ?_)
  refine lI (by unfold tooManyDummies;rw [g.nd];simp) (wpAny_pure h)
theorem yL {id:String} {r o:Addr} {kss:List (List Int)} {Q:Unit->Shared->Prop} (hr:SetAt prog w U s.heap r kss) (ho:SetAt prog w U s.heap o []) (hne:r≠o) (hk:kss.length < 400) (h:Q () s):wpAny (model prog w) A (Builtin.Frozenset.differenceUpdate id r (.ref o)) Q E s:=by
  obtain ⟨L,ep,t,f,hoD,gs,hlen,hp,he⟩:=ho.goes (by simp)
  have hL:L=[]:=List.length_eq_zero_iff.mp (by simpa using hlen)
  subst hL
  unfold Builtin.Frozenset.differenceUpdate
  refine lI (by rw [beq_eq_false_iff_ne];intro e;injection e with e;exact hne e.symm) ?_
  refine wpAny_bind (gE ho.ty ?_)
  simp only [if_true]
  refine wpAny_bind (m:=Builtin.Frozenset.addrOf _) (wpAny_pure ?_)
  refine wpAny_bind (dL ho (by simp) (wpAny_bind (dL hr (by omega) ?_)))
  have hc:¬ ([]:List (List Int)).length / 8 > kss.length:=by simp
  rw [if_neg hc]
  refine wpAny_bind (wpAny_setEpoch_of hoD rfl (gs.g.fits gs.hl) ?_)
  refine wpAny_bind (wpAny_holding (wpAny_bind (il hoD gs ?_)))
  have h0:(bq w o ep []).toList=[]:=by
    have:=dy w o ep []
    exact List.length_eq_zero_iff.mp (by rw [Array.length_toList];exact this)
  rw [<- Array.forIn_toList,h0,List.forIn_nil]
  refine wpAny_bind (wpAny_pure (wpAny_pure ?_))
  exact yK hr (by omega) h
theorem Cp {id:String} {l r:Addr} {kss js:List (List Int)} {Q:Value->Shared->Prop} (hl:SetAt prog w U s.heap l kss) (hr:SetAt prog w U s.heap r js) (hk:kss.length < 400) (hj:js.length < 400) (hc:js=[]∨¬ kss.length / 4 > js.length) (hu:A.units < cLine)
    (h:∀ h' tk ls,(∀ b o,s.heap.get? b=some o->h'.get? b=some o)->(∀ x,x∈ls↔x∈kss/\x∉js)->SetAt prog w U h' s.heap.objs.size ls->Q (.ref s.heap.objs.size) { s with heap:=h',toks:=tk }) :
    wpAny (model prog w) A (Builtin.Frozenset.difference id l (.ref r)) Q E s:=by
  have lt:∀ {D:Addr} {k:List (List Int)},SetAt prog w U s.heap D k->D < s.heap.objs.size:=fun hS=>by obtain ⟨L,ep,t,ho,_⟩:=hS.len;exact Heap.lt_size ho
  unfold Builtin.Frozenset.difference
  refine wpAny_bind (gE hr.ty ?_)
  simp only [Bool.not_true,Bool.false_eq_true,if_false,Bool.false_and,if_true]
  refine wpAny_bind (m:=Builtin.Frozenset.addrOf _) (wpAny_pure ?_)
  refine wpAny_bind (dL hr (by omega) (wpAny_bind (dL hl (by omega) ?_)))
  by_cases c:kss.length / 4 > js.length
  . rw [if_pos c]
    have hz:js=[]:=hc.elim (fun z=>z) fun z=>absurd c z
    subst hz
    refine wpAny_bind (wpAny_rule ?_)
    refine wpAny_bind (mD hl (by omega) hu fun h1 tk1 k1 kp nd1 hm1 hS1=>?_)
    have hp:k1.length=kss.length:=(de nd1 hl.nd hm1).length_eq
    refine wpAny_bind (m:=Builtin.Frozenset.addrOf _) (wpAny_pure ?_)
    refine wpAny_bind (wpAny_holding (yL (s:={ s with heap:=h1,toks:=tk1 }) hS1 (hr.moved fun b o _ e=>kp b o e) (Nat.ne_of_gt (lt hr)) (by omega) ?_))
    exact wpAny_pure (h h1 tk1 k1 kp (fun x=>by rw [hm1 x];simp) hS1)
  . rw [if_neg c]
    refine wpAny_bind (mC hl.ty (wpAny_bind (jT ?_)))
    refine wpAny_bind (m:=Builtin.Frozenset.addrOf _) (wpAny_pure ?_)
    obtain ⟨L,ep,t,f,hoD,gs,hlen,hp,he⟩:=(hl.pushed (aU (!bG w))).goes (by omega)
    refine wpAny_bind (wpAny_setEpoch_of (s:={ s with heap:=s.heap.push (aU (!bG w)) }) hoD rfl (gs.g.fits gs.hl) ?_)
    refine wpAny_bind (wpAny_holding (wpAny_bind (il (s:={ s with heap:=s.heap.push (aU (!bG w)) }) hoD gs ?_)))
    have fl:=nh (prog:=prog) (w:=w) (U:=U) (A:=A) (E:=E) (s:={ s with heap:=s.heap.push (aU (!bG w)) }) (id:=id) (pos:=false) (Q:=fun _ s'=>wpAny (model prog w) A (pure ()) (fun _ s''=>wpAny (model prog w) A (pure (Value.ref s.heap.objs.size)) Q E s'') E s') (kl (Heap.get?_push_size _ rfl)) (hr.pushed (aU (!bG w))) hoD gs (Nat.ne_of_gt (lt hl)) (Nat.ne_of_gt (lt hr)) hj (by omega) hp hu he fun h' tk ls hs hmm hS' =>
      wpAny_pure (wpAny_pure (h h' tk ls (kJ hs) (fun x=>by rw [hmm x];simp) hS'))
    simp only [beq_false] at fl
    exact wpAny_bind fl
end
end Tb
namespace So
open PySem PySem.W PyProof.Rows
def Sp (lt:Nat->Nat->Bool) (n:Nat) {α:Type}:KasT α->(α->Prop)->Prop
  | .ret a,Q=>Q a
  | .ask i j k,Q=>i < n/\j < n/\Sp lt n (k (lt i j)) Q
section
variable {lt:Nat->Nat->Bool} {n:Nat} {α β:Type}
theorem Sp.bind:∀ {t:KasT α} {f:α->KasT β} {Q:α->Prop} {R:β->Prop},Sp lt n t Q->(∀ a,Q a->Sp lt n (f a) R)->Sp lt n (t.bind f) R
  | .ret a,f,Q,R,h,hf=>hf a h
  | .ask i j k,f,Q,R,h,hf=>⟨h.1,h.2.1,Sp.bind (t:=k (lt i j)) h.2.2 hf⟩
theorem Sp.imp:∀ {t:KasT α} {Q R:α->Prop},Sp lt n t Q->(∀ a,Q a->R a)->Sp lt n t R
  | .ret a,Q,R,h,hf=>hf a h
  | .ask i j k,Q,R,h,hf=>⟨h.1,h.2.1,Sp.imp (t:=k (lt i j)) h.2.2 hf⟩
theorem Sp.wp {cmp:Nat->Nat->(Bool->Shared->Prop)->Shared->Prop} {s:Shared} (hc:∀ i j C,i < n->j < n->C (lt i j) s->cmp i j C s):∀ {t:KasT α} {Q:α->Prop} {G:α->Shared->Prop},Sp lt n t Q->(∀ a,Q a->G a s)->t.kasWp cmp G s
  | .ret a,Q,G,h,hG=>hG a h
  | .ask i j k,Q,G,h,hG=>hc i j _ h.1 h.2.1 (Sp.wp hc (t:=k (lt i j)) h.2.2 hG)
structure Ar (n:Nat) (p:Array Nat):Prop where
  sz:p.size=n
  lt:∀ i,p.getD i 0 < n
  pm:p.toList.Perm (List.range n)
def Up (lt:Nat->Nat->Bool) (p:Array Nat) (m:Nat):Prop:=∀ i j,i < j->j < m->lt (p.getD j 0) (p.getD i 0)=false
def Dn (lt:Nat->Nat->Bool) (p:Array Nat) (m:Nat):Prop:=∀ i j,i < j->j < m->lt (p.getD i 0) (p.getD j 0)=false
structure Ord (lt:Nat->Nat->Bool):Prop where
  tr:∀ a b c,lt b a=false->lt c b=false->lt c a=false
  as:∀ a b,lt a b=true->lt b a=false
theorem uH (O:Ord lt) {p:Array Nat} (hp:Ar n p):∀ (f m:Nat),1<=m->Up lt p m->Sp lt n (kas_asc p f m) fun r=>m<=r/\r<=m + f/\Up lt p r/\(r=m + f∨lt (p.getD r 0) (p.getD (r - 1) 0)=true):=by
  intro f
  induction f with
  | zero=>intro m _ hu;exact ⟨Nat.le_refl _,Nat.le_refl _,hu,.inl rfl⟩
  | succ f ih =>
    intro m h1 hu
    refine ⟨hp.lt _,hp.lt _,?_⟩
    cases c:lt (p.getD m 0) (p.getD (m - 1) 0) with
    | true=>exact ⟨Nat.le_refl _,by omega,hu,.inr c⟩
    | false =>
      have hu':Up lt p (m + 1):=fun i j hij hj=>by
        by_cases e:j=m
        . subst e
          by_cases d:i=j - 1
          . subst d;exact c
          . exact O.tr _ _ _ (hu i (j - 1) (by omega) (by omega)) c
        . exact hu i j hij (by omega)
      have:=ih (m + 1) (by omega) hu'
      simp only [Bool.false_eq_true,if_false]
      refine Sp.imp this fun r ⟨a,b,cc,d⟩=>⟨by omega,by omega,cc,?_⟩
      rcases d with d|d
      . exact .inl (by omega)
      . exact .inr d
theorem eR {xs ys:Array Nat} {i j:Nat} (h:xs[i]?=ys[j]?):xs.getD i 0=ys.getD j 0:=by
  rw [Array.getD_eq_getD_getElem?,Array.getD_eq_getD_getElem?,h]
theorem iT {p:Array Nat} {i j:Nat} (hj:j<=p.size) (k:Nat):(kas_rev p i j).getD k 0=if i<=k/\k < j then p.getD (i + j - 1 - k) 0 else p.getD k 0:=by
  have:=getElem?_mirror_all (xs:=p) (i:=i) hj k
  unfold kas_rev
  split
  . rename_i c;rw [if_pos c] at this;exact eR this
  . rename_i c;rw [if_neg c] at this;exact eR this
theorem Ar.rev {p:Array Nat} (hp:Ar n p) {i j:Nat} (hj:j<=n):Ar n (kas_rev p i j) where
  sz:=by rw [kas_rev_size];exact hp.sz
  lt:=fun k=>by rw [iT (by rw [hp.sz];exact hj)];split <;> exact hp.lt _
  pm:=(Array.perm_iff_toList_perm.mp (mirror_perm p i j ((j - i) / 2))).trans hp.pm
def Bl (lt:Nat->Nat->Bool) (p:Array Nat) (m q:Nat):Prop:=q + 1<=m/\∀ i j,m<=i + (q + 1)->i < m->m<=j + (q + 1)->j < m->lt (p.getD i 0) (p.getD j 0)=false
theorem rs (O:Ord lt) (a:Nat):lt a a=false:=by
  cases h:lt a a with
  | false=>rfl
  | true=>have:=O.as a a h;rw [h] at this;cases this
theorem yM (O:Ord lt):∀ (f:Nat) (p:Array Nat) (m q:Nat),Ar n p->1<=m->m + f<=n->Dn lt p m->Bl lt p m q->Sp lt n (kas_desc f p m q) fun r=>Ar n r.1/\m<=r.2.1/\r.2.1<=n/\Dn lt r.1 r.2.1/\Bl lt r.1 r.2.1 r.2.2:=by
  intro f
  induction f with
  | zero=>intro p m q hp h1 hm hd hb;exact ⟨hp,Nat.le_refl _,by simpa using hm,hd,hb⟩
  | succ f ih =>
    intro p m q hp h1 hm hd hb
    refine ⟨hp.lt _,hp.lt _,?_⟩
    cases c:lt (p.getD m 0) (p.getD (m - 1) 0) with
    | true =>
      simp only [if_true]
      have below:∀ i,i < m->lt (p.getD i 0) (p.getD m 0)=false:=fun i hi=>by
        by_cases e:i=m - 1
        . subst e;exact O.as _ _ c
        . exact O.tr _ _ _ (O.as _ _ c) (hd i (m - 1) (by omega) (by omega))
      by_cases hq:q > 0
      . rw [if_pos hq]
        have at':∀ k,(kas_rev p (m - (q + 1)) m).getD k 0=if m - (q + 1)<=k/\k < m then p.getD (m - (q + 1) + m - 1 - k) 0 else p.getD k 0:=fun k=>iT (by rw [hp.sz];omega) k
        refine Sp.imp (ih _ (m + 1) 0 (hp.rev (by omega)) (by omega) (by omega) (fun i j hij hj=>?_) ⟨by omega,fun i j a1 a2 a3 a4=>?_⟩) fun r ⟨a,b,cc,d,e⟩=>⟨a,by omega,cc,d,e⟩
        . obtain ⟨hq1,hbl⟩:=hb
          rw [at',at']
          by_cases e:j=m
          . subst e
            rw [if_neg (show ¬ (j - (q + 1)<=j/\j < j) by omega)]
            split
            . exact below _ (by omega)
            . exact below _ (by omega)
          . by_cases ci:m - (q + 1)<=i/\i < m
            . rw [if_pos ci,if_pos (show m - (q + 1)<=j/\j < m by omega)]
              exact hbl _ _ (by omega) (by omega) (by omega) (by omega)
            . rw [if_neg ci]
              split
              . exact hd _ _ (by omega) (by omega)
              . exact hd _ _ hij (by omega)
        . obtain rfl:i=m:=by omega
          obtain rfl:j=i:=by omega
          exact rs O _
      . rw [if_neg hq]
        refine Sp.imp (ih _ (m + 1) 0 hp (by omega) (by omega) (fun i j hij hj=>?_) ⟨by omega,fun i j a1 a2 a3 a4=>?_⟩) fun r ⟨a,b,cc,d,e⟩=>⟨a,by omega,cc,d,e⟩
        . by_cases e:j=m
          . subst e;exact below i hij
          . exact hd i j hij (by omega)
        . obtain rfl:i=m:=by omega
          obtain rfl:j=i:=by omega
          exact rs O _
    | false =>
      simp only [Bool.false_eq_true,if_false]
      refine ⟨hp.lt _,hp.lt _,?_⟩
      cases d:lt (p.getD (m - 1) 0) (p.getD m 0) with
      | true=>simp only [if_true];exact ⟨hp,Nat.le_refl _,(show m<=n by omega),hd,hb⟩
      | false =>
        simp only [Bool.false_eq_true,if_false]
        have hd':Dn lt p (m + 1):=fun i j hij hj=>by
          by_cases e:j=m
          . subst e
            by_cases e':i=j - 1
            . subst e';exact d
            . exact O.tr _ _ _ d (hd i (j - 1) (by omega) (by omega))
          . exact hd i j hij (by omega)
        obtain ⟨hq1,hbl⟩:=hb
        refine Sp.imp (ih p (m + 1) (q + 1) hp (by omega) (by omega) hd' ⟨by omega,fun i j a1 a2 a3 a4=>?_⟩) fun r ⟨a,b,cc,d,e⟩=>⟨a,by omega,cc,d,e⟩
        have last:∀ k,m<=k + (q + 1)->k < m->lt (p.getD k 0) (p.getD (m - 1) 0)=false/\lt (p.getD (m - 1) 0) (p.getD k 0)=false:=fun k b1 b2=>⟨hbl k (m - 1) b1 b2 (by omega) (by omega),hbl (m - 1) k (by omega) (by omega) b1 b2⟩
        by_cases ei:i=m
        . subst ei
          by_cases ej:j=i
          . subst ej;exact rs O _
          . exact O.tr _ _ _ (last j (by omega) (by omega)).2 c
        . by_cases ej:j=m
          . subst ej;exact O.tr _ _ _ d (last i (by omega) (by omega)).1
          . exact hbl i j (by omega) (by omega) (by omega) (by omega)
theorem rz (O:Ord lt) {p:Array Nat} {m:Nat} (hp:Ar n p) (h1:1<=m) (hm:m<=n) (hd:Dn lt p m):Sp lt n (kas_tail3 m n p) fun r=>Ar n r.2/\r.1<=n/\Up lt r.2 r.1:=by
  have hu:Up lt (kas_rev p 0 m) m:=fun i j hij hj=>by
    rw [iT (by rw [hp.sz];exact hm),iT (by rw [hp.sz];exact hm),if_pos ⟨by omega,hj⟩,if_pos ⟨by omega,by omega⟩]
    exact hd _ _ (by omega) (by omega)
  unfold kas_tail3
  exact Sp.bind (uH O (hp.rev hm) (n - m) m h1 hu) fun r ⟨a,b,c,_⟩=>⟨hp.rev hm,by omega,c⟩
theorem rA (O:Ord lt) {p:Array Nat} {m:Nat} (hp:Ar n p) (h1:1<=m) (hm:m < n) (hd:Dn lt p (m + 1)):Sp lt n (kas_descPart m n p) fun r=>Ar n r.2/\r.1<=n/\Up lt r.2 r.1:=by
  unfold kas_descPart
  refine Sp.bind (yM O (n - (m + 1)) p (m + 1) 0 hp (by omega) (by omega) hd ⟨by omega,fun i j a1 a2 a3 a4=>by
    obtain rfl:i=m:=by omega
    obtain rfl:j=i:=by omega
    exact rs O _⟩) fun r ⟨a,b,c,d,e⟩=>?_
  split
  . refine rz O (a.rev c) (by omega) c fun i j hij hj=>?_
    obtain ⟨hq1,hbl⟩:=e
    have at':∀ k,(kas_rev r.1 (r.2.1 - (r.2.2 + 1)) r.2.1).getD k 0=if r.2.1 - (r.2.2 + 1)<=k/\k < r.2.1 then r.1.getD (r.2.1 - (r.2.2 + 1) + r.2.1 - 1 - k) 0 else r.1.getD k 0:=fun k=>iT (by rw [a.sz];exact c) k
    rw [at',at']
    by_cases ci:r.2.1 - (r.2.2 + 1)<=i/\i < r.2.1
    . rw [if_pos ci,if_pos (show r.2.1 - (r.2.2 + 1)<=j/\j < r.2.1 by omega)]
      exact hbl _ _ (by omega) (by omega) (by omega) (by omega)
    . rw [if_neg ci]
      split
      . exact d _ _ (by omega) (by omega)
      . exact d _ _ hij (by omega)
  . exact rz O a (by omega) c d
theorem wA (O:Ord lt) {p:Array Nat} (hp:Ar n p) (h1:1<=n):Sp lt n (kas_count n p) fun r=>Ar n r.2/\r.1<=n/\Up lt r.2 r.1:=by
  unfold kas_count
  refine Sp.bind (uH O hp (n - 1) 1 (Nat.le_refl _) (fun i j h1 h2=>by omega)) fun m ⟨a,b,c,d⟩=>?_
  by_cases e:m=n
  . subst e;simp only [beq_self_eq_true,if_true];exact ⟨hp,Nat.le_refl _,c⟩
  . have e':(m == n)=false:=by simpa using e
    simp only [e',Bool.false_eq_true,if_false]
    have hlt:lt (p.getD m 0) (p.getD (m - 1) 0)=true:=by
      rcases d with d|d
      . omega
      . exact d
    by_cases g:m > 1
    . rw [if_pos g]
      refine ⟨hp.lt _,hp.lt _,?_⟩
      cases z:lt (p.getD 0 0) (p.getD (m - 1) 0) with
      | true=>simp only [if_true];exact ⟨hp,by omega,c⟩
      | false =>
        simp only [Bool.false_eq_true,if_false]
        have all:∀ i j,i < m->j < m->lt (p.getD i 0) (p.getD j 0)=false:=fun i j hi hj=>by
          have hi0:lt (p.getD i 0) (p.getD 0 0)=false:=by
            by_cases q:i=0
            . subst q;exact rs O _
            . exact c 0 i (by omega) hi
          have hj0:lt (p.getD 0 0) (p.getD j 0)=false:=by
            by_cases q:j=m - 1
            . subst q;exact z
            . exact O.tr _ _ _ (c j (m - 1) (by omega) (by omega)) z
          exact O.tr _ _ _ hj0 hi0
        have at':∀ k,(kas_rev p 0 m).getD k 0=if 0<=k/\k < m then p.getD (0 + m - 1 - k) 0 else p.getD k 0:=fun k=>iT (by rw [hp.sz];omega) k
        refine rA O (hp.rev (by omega)) (by omega) (by omega) fun i j hij hj=>?_
        rw [at',at',if_pos (show 0<=i/\i < m by omega)]
        by_cases ej:j=m
        . subst ej
          rw [if_neg (by omega)]
          exact O.tr _ _ _ (O.as _ _ hlt) (all _ _ (by omega) (by omega))
        . rw [if_pos (show 0<=j/\j < m by omega)]
          exact all _ _ (by omega) (by omega)
    . rw [if_neg g]
      obtain rfl:m=1:=by omega
      refine rA O hp (Nat.le_refl _) (by omega) fun i j hij hj=>?_
      obtain rfl:j=1:=by omega
      obtain rfl:i=0:=by omega
      exact O.as _ _ hlt
theorem uI {p:Array Nat} {k d:Nat} (hk:k < p.size) (hd:d<=k) (i:Nat):(bubble p k d).getD i 0=if i=k - d then p.getD k 0 else if k - d < i/\i<=k then p.getD (i - 1) 0 else p.getD i 0:=by
  have:=getElem?_bubble hk d hd i
  by_cases c:i=k - d
  . rw [if_pos c] at this ⊢;exact eR this
  . rw [if_neg c] at this ⊢
    by_cases e:k - d < i/\i<=k
    . rw [if_pos e] at this ⊢;exact eR this
    . rw [if_neg e] at this ⊢;exact eR this
theorem Ar.bub {p:Array Nat} (hp:Ar n p) {k d:Nat} (hk:k < n) (hd:d<=k):Ar n (bubble p k d) where
  sz:=by rw [bubble_size];exact hp.sz
  lt:=fun i=>by
    rw [uI (by rw [hp.sz];exact hk) hd]
    split
    . exact hp.lt _
    . split <;> exact hp.lt _
  pm:=(Array.perm_iff_toList_perm.mp (bubble_perm p k d)).trans hp.pm
theorem wB (O:Ord lt) {p:Array Nat} (hp:Ar n p) {k:Nat} (hu:Up lt p k):∀ (f l r:Nat),l<=r->r<=k->r<=l + f->(∀ i,i < l->lt (p.getD k 0) (p.getD i 0)=false)->(∀ i,r<=i->i < k->lt (p.getD i 0) (p.getD k 0)=false) ->
    Sp lt n (kas_place p k f l r) fun x=>x<=k/\(∀ i,i < x->lt (p.getD k 0) (p.getD i 0)=false)/\(∀ i,x<=i->i < k->lt (p.getD i 0) (p.getD k 0)=false):=by
  intro f
  induction f with
  | zero =>
    intro l r h1 h2 h3 h4 h5
    obtain rfl:l=r:=by omega
    exact ⟨h2,h4,h5⟩
  | succ f ih =>
    intro l r h1 h2 h3 h4 h5
    unfold kas_place
    by_cases c:l ≥ r
    . rw [if_pos c]
      obtain rfl:l=r:=by omega
      exact ⟨h2,h4,h5⟩
    . rw [if_neg c]
      refine ⟨hp.lt _,hp.lt _,?_⟩
      cases z:lt (p.getD k 0) (p.getD ((l + r) / 2) 0) with
      | true =>
        simp only [if_true]
        refine ih _ _ (by omega) (by omega) (by omega) h4 fun i hi hik=>?_
        by_cases e:i=(l + r) / 2
        . subst e;exact O.as _ _ z
        . by_cases g:i < r
          . exact O.tr _ _ _ (O.as _ _ z) (O.tr _ _ _ (rs O _) (hu ((l + r) / 2) i (by omega) hik)) |> fun _=>O.tr _ _ _ (O.as _ _ z) (hu ((l + r) / 2) i (by omega) hik)
          . exact h5 i (by omega) hik
      | false =>
        simp only [Bool.false_eq_true,if_false]
        refine ih _ _ (by omega) (by omega) (by omega) (fun i hi=>?_) h5
        by_cases e:i=(l + r) / 2
        . subst e;exact z
        . exact O.tr _ _ _ (hu i ((l + r) / 2) (by omega) (by omega)) z
theorem AT (O:Ord lt):∀ (f:Nat) (p:Array Nat) (k:Nat),Ar n p->1<=k->k + f=n->Up lt p k->Sp lt n (kas_bin f p k) fun r=>Ar n r/\Up lt r n:=by
  intro f
  induction f with
  | zero =>
    intro p k hp h1 hk hu
    have e:k=n:=by omega
    subst e
    exact ⟨hp,hu⟩
  | succ f ih =>
    intro p k hp h1 hk hu
    unfold kas_bin
    refine Sp.bind (wB O hp hu k 0 k (Nat.zero_le _) (Nat.le_refl _) (by omega) (fun i hi=>by omega) fun i hi hik=>by omega) fun x ⟨a,b,c⟩=>?_
    refine ih _ (k + 1) (hp.bub (by omega) (by omega)) (by omega) (by omega) fun i j hij hj=>?_
    have at':∀ q,(bubble p k (k - x)).getD q 0=if q=k - (k - x) then p.getD k 0 else if k - (k - x) < q/\q<=k then p.getD (q - 1) 0 else p.getD q 0:=fun q=>uI (by rw [hp.sz];omega) (by omega) q
    have ex:k - (k - x)=x:=by omega
    rw [ex] at at'
    rw [at',at']
    by_cases ei:i=x
    . rw [if_pos ei,if_neg (show ¬ j=x by omega),if_pos (show x < j/\j<=k by omega)]
      exact c _ (by omega) (by omega)
    . rw [if_neg ei]
      by_cases gi:x < i/\i<=k
      . rw [if_pos gi,if_neg (show ¬ j=x by omega),if_pos (show x < j/\j<=k by omega)]
        exact hu _ _ (by omega) (by omega)
      . rw [if_neg gi]
        by_cases ej:j=x
        . rw [if_pos ej];exact b i (by omega)
        . rw [if_neg ej]
          by_cases gj:x < j/\j<=k
          . rw [if_pos gj];exact hu _ _ (by omega) (by omega)
          . rw [if_neg gj];exact hu _ _ hij (by omega)
theorem yN (O:Ord lt) (h1:1<=n):Sp lt n (kas_sort n) fun r=>Ar n r/\Up lt r n:=by
  have h0:Ar n (List.toArray (List.range n)):=⟨by simp,fun i=>by
    rw [Array.getD_eq_getD_getElem?]
    by_cases c:i < n
    . simp [c]
    . simp [c];omega,.refl _⟩
  unfold kas_sort
  refine Sp.bind (wA O h0 h1) fun r ⟨a,b,c⟩=>?_
  split
  . refine AT O _ _ _ a (by omega) (by omega) fun i j hij hj=>?_
    exact c i j hij (by omega)
  . obtain e:r.1=n:=by omega
    rw [e] at c
    exact ⟨a,c⟩
end
end So
namespace So
open PySem PySem.W PyProof.Rows PySem.Calls
def eG:List Int->List Int->Bool
  | [],[]=>false
  | [],_::_=>true
  | _::_,[]=>false
  | a::as,b::bs=>if a=b then eG as bs else decide (a < b)
theorem pC:∀ a b:List Int,eG a b=true->eG b a=false
  | [],[],h=>by cases h
  | [],_::_,h=>rfl
  | _::_,[],h=>by cases h
  | a::as,b::bs,h=>by
    unfold eG at h ⊢
    by_cases c:a=b
    . subst c;simp only [if_true] at h ⊢;exact pC as bs h
    . rw [if_neg c] at h
      rw [if_neg (Ne.symm c)]
      have:=of_decide_eq_true h
      exact decide_eq_false (by omega)
theorem pD:∀ a b c:List Int,eG b a=false->eG c b=false->eG c a=false
  | [],[],[],_,_=>rfl
  | [],[],_::_,_,_=>rfl
  | [],_::_,[],_,h=>by cases h
  | [],_::_,_::_,_,_=>rfl
  | _::_,[],_,h,_=>by cases h
  | a::as,b::bs,[],_,h=>by cases h
  | a::as,b::bs,c::cs,h1,h2=>by
    unfold eG at h1 h2 ⊢
    by_cases e1:b=a
    . subst e1
      simp only [if_true] at h1
      by_cases e2:c=b
      . subst e2;simp only [if_true] at h2 ⊢;exact pD as bs cs h1 h2
      . rw [if_neg e2] at h2 ⊢;exact h2
    . rw [if_neg e1] at h1
      have g1:=of_decide_eq_false h1
      by_cases e2:c=b
      . subst e2;rw [if_neg e1];exact h1
      . rw [if_neg e2] at h2
        have g2:=of_decide_eq_false h2
        rw [if_neg (by omega)]
        exact decide_eq_false (by omega)
theorem uJ:∀ a b:List Int,eG a b=false->eG b a=false->a=b
  | [],[],_,_=>rfl
  | [],_::_,h,_=>by cases h
  | _::_,[],_,h=>by cases h
  | a::as,b::bs,h1,h2=>by
    unfold eG at h1 h2
    by_cases c:a=b
    . subst c;simp only [if_true] at h1 h2;rw [uJ as bs h1 h2]
    . rw [if_neg c] at h1;rw [if_neg (Ne.symm c)] at h2
      have:=of_decide_eq_false h1;have:=of_decide_eq_false h2;omega
theorem AU (kss:List (List Int)):Ord fun i j=>eG (kss.getD i []) (kss.getD j []):=⟨fun a b c h1 h2=>pD _ _ _ h1 h2,fun a b h=>pC _ _ h⟩
end So
namespace So
open PySem PySem.W PyProof.Rows PySem.Calls
section
variable {prog:Program} {w:World} {A:Around} {E:Value->Shared->Prop} {s:Shared}
def AV (prog:Program) (w:World) (A:Around) (κ:SortKind) (vs:List Value) (lt:Nat->Nat->Bool) (s:Shared):Prop :=
  ∀ i j (C:Bool->Shared->Prop) (E:Value->Shared->Prop),i < vs.length->j < vs.length->C (lt i j) s->wpAny (model prog w) A (keyLt' κ (vs.getD i Value.none) (vs.getD j Value.none)) C E s
def uK (lt:Nat->Nat->Bool) (vs:List Value) (st:SortSt):Prop:=∃ p:Array Nat,Ar vs.length p/\Up lt p vs.length/\(arrOf st).map (·.2)=List.toArray (p.toList.map fun i=>vs.getD i Value.none)/\failedOf st=none
theorem qD {lt:Nat->Nat->Bool} {κ:SortKind} {vs:List Value} {Q:SortSt->Shared->Prop} (O:Ord lt) (h2:2<=vs.length) (h64:vs.length < 64) (ha:AV prog w A κ vs lt s)
    (h:∀ st,uK lt vs st->Q st s):wpAny (model prog w) A ((sortRuns').run (SortSt.mk' κ (vs.toArray.zip vs.toArray) #[] 7 none)) (fun r s'=>Q r.2 s') E s:=by
  refine kat_run (ks:=vs) (vs:=vs) (Q:=Q) (G:=fun p s'=>s'=s/\Ar vs.length p/\Up lt p vs.length) rfl h2 h64 (fun p st' s' hp har hf hG=>?_) ?_
  . obtain ⟨rfl,a,u⟩:=hG
    exact h st' ⟨p,a,u,kat_snds rfl har,hf⟩
  . refine Sp.wp (fun i j C hi hj hC=>?_) (yN O (by omega)) (fun p hp=>⟨rfl,hp.1,hp.2⟩)
    exact ha i j C _ hi hj hC
theorem wC {b:Bool} {Q:Bool->Shared->Prop}:∀ {ks js:List Int} {xs ys:List Value} (i:Nat),ItemsAre (intKind prog w) ks xs->ItemsAre (intKind prog w) js ys->Q (eG ks js) s ->
    KatLex prog w A b (decide (xs.length < ys.length)) Q (xs.zip ys) i s:=by
  have gen:∀ (d:Bool) {ks js:List Int} {xs ys:List Value} (i:Nat),ItemsAre (intKind prog w) ks xs->ItemsAre (intKind prog w) js ys->d=decide (xs.length < ys.length)->Q (eG ks js) s->KatLex prog w A b d Q (xs.zip ys) i s:=by
    intro d ks
    induction ks with
    | nil =>
      intro js xs ys i hx hy hd hq
      cases hx
      cases hy with
      | nil=>subst hd;exact kat_nil hq
      | cons h1 h2=>subst hd;exact kat_nil hq
    | cons k ks ih =>
      intro js xs ys i hx hy hd hq
      cases hx with
      | cons h1 h2 =>
        cases hy with
        | nil=>subst hd;exact kat_nil hq
        | @cons j v js vs h3 h4 =>
          obtain ⟨t,rfl⟩:=Value.isInt_shape h1
          obtain ⟨u,rfl⟩:=Value.isInt_shape h3
          refine kat_cons (wpAny_eqBool_int ?_)
          by_cases e:k=j
          . subst e
            rw [show (k == k)=true from by simp]
            refine kat_yes (ih (i + 1) h2 h4 (by rw [hd];simp) ?_)
            unfold eG at hq;rw [if_pos rfl] at hq;exact hq
          . rw [show (k == j)=false from by simp [e]]
            unfold eG at hq;rw [if_neg e] at hq
            refine kat_no ?_
            cases (b && i == 0) with
            | true=>exact oneLt_int hq
            | false=>exact kat_one _ _ (wpAny_lt_int hq)
  intro ks js xs ys i hx hy hq
  exact gen _ i hx hy rfl hq
theorem yO {a b:Addr} {ks js:List Int} {f:Bool} {Q:Bool->Shared->Prop} (ha:IsTupleKey (intKind prog w) s.heap ks a) (hb:IsTupleKey (intKind prog w) s.heap js b) (hq:Q (eG ks js) s) :
    wpAny (model prog w) A (keyLt' (tuples' f) (.ref a) (.ref b)) Q E s:=by
  obtain ⟨o,xs,n,h1,h2,h3,h4⟩:=ha
  obtain ⟨o',ys,n',h1',h2',h3',h4'⟩:=hb
  refine kat_lt h1 h3 h1' h3' ?_
  have:=wC (prog:=prog) (w:=w) (A:=A) (b:=f) 0 h4 h4' hq
  simpa using this
def KeysAre (prog:Program) (w:World) (h:Heap) (vs:List Value) (kss:List (List Int)):Prop :=
  kss.length=vs.length/\∀ (i:Nat) v,vs[i]?=some v->∃ b,v=.ref b/\IsTupleKey (intKind prog w) h (kss.getD i []) b
theorem KeysAre.moved {h h':Heap} {vs:List Value} {kss:List (List Int)} (k:KeysAre prog w h vs kss) (hm:∀ b o,h.get? b=some o->o.cls=.type "tuple"->h'.get? b=some o):KeysAre prog w h' vs kss :=
  ⟨k.1,fun i v hv=>let ⟨b,e,o,its,m,q1,q2,q3,q4⟩:=k.2 i v hv;⟨b,e,o,its,m,hm _ _ q1 q2,q2,q3,q4⟩⟩
theorem KeysAre.asks {f:Bool} {vs:List Value} {kss:List (List Int)} (k:KeysAre prog w s.heap vs kss):AV prog w A (tuples' f) vs (fun i j=>eG (kss.getD i []) (kss.getD j [])) s:=by
  intro i j C E hi hj hC
  obtain ⟨b,e,hb⟩:=k.2 i vs[i] (List.getElem?_eq_getElem hi)
  obtain ⟨b',e',hb'⟩:=k.2 j vs[j] (List.getElem?_eq_getElem hj)
  rw [show vs.getD i Value.none=.ref b by simp [hi,e],show vs.getD j Value.none=.ref b' by simp [hj,e']]
  exact yO hb hb' hC
theorem KeysAre.tups {h:Heap}:∀ {vs:List Value} {kss:List (List Int)},KeysAre prog w h vs kss->(∀ ks∈kss,ks≠[])->∃ fs:List Value,KatTups h vs fs/\fs.length=vs.length/\∀ v∈fs,∃ i t,v=.int i t
  | [],kss,k,hn=>⟨[],.nil,rfl,fun v hv=>by cases hv⟩
  | v::vs,[],k,hn=>by cases k.1
  | v::vs,ks::kss,k,hn=>by
    obtain ⟨fs,t,l,e⟩:=KeysAre.tups (vs:=vs) (kss:=kss) ⟨by have:=k.1;simpa using this,fun i u hu=>by have:=k.2 (i + 1) u (by simpa using hu);simpa using this⟩ fun x hx=>hn x (.tail _ hx)
    obtain ⟨b,rfl,o,its,m,q1,q2,q3,q4⟩:=k.2 0 v (by simp)
    have hne:=hn ks (.head _)
    simp at q4
    generalize hits:its.toList=L at q4
    cases q4 with
    | nil=>exact absurd rfl hne
    | @cons i v' ks' vs' h1 h2 =>
      obtain ⟨tk,rfl⟩:=Value.isInt_shape h1
      have h0:its[0]?=some (Value.int i tk):=by rw [<- Array.getElem?_toList,hits];rfl
      refine ⟨.int i tk::fs,.cons q1 q2 q3 h0 t,by simp [l],fun u hu=>?_⟩
      rcases List.mem_cons.mp hu with rfl|hu
      . exact ⟨_,_,rfl⟩
      . exact e u hu
def pF (a b:List Int):Prop:=eG b a=false
def kK (x:List Int):List (List Int)->List (List Int)
  | []=>[x]
  | y::ys=>if eG y x=true then y::kK x ys else x::y::ys
def sortK (l:List (List Int)):List (List Int):=l.foldr kK []
theorem jU (x:List Int):∀ l,(kK x l).Perm (x::l)
  | []=>.refl _
  | y::ys=>by
    unfold kK
    split
    . exact ((jU x ys).cons y).trans (List.Perm.swap x y ys)
    . exact .refl _
theorem da:∀ l,(sortK l).Perm l
  | []=>.refl _
  | x::l=>(jU x (sortK l)).trans ((da l).cons x)
theorem rB (x:List Int):∀ l,l.Pairwise pF->(kK x l).Pairwise pF
  | [],_=>by simp [kK]
  | y::ys,h=>by
    obtain ⟨h1,h2⟩:=List.pairwise_cons.mp h
    unfold kK
    split
    . rename_i c
      refine List.pairwise_cons.mpr ⟨fun z hz=>?_,rB x ys h2⟩
      rcases List.mem_cons.mp ((jU x ys).mem_iff.mp hz) with rfl|hz
      . exact pC _ _ c
      . exact h1 z hz
    . rename_i c
      have c':eG y x=false:=by simpa using c
      refine List.pairwise_cons.mpr ⟨fun z hz=>?_,h⟩
      rcases List.mem_cons.mp hz with rfl|hz
      . exact c'
      . exact pD _ _ _ c' (h1 z hz)
theorem kL:∀ l,(sortK l).Pairwise pF
  | []=>.nil
  | x::l=>rB x _ (kL l)
theorem ni:∀ {l l':List (List Int)},l.Perm l'->l.Pairwise pF->l'.Pairwise pF->l=l'
  | [],l',p,_,_=>(List.nil_perm.mp p).symm
  | x::l,[],p,_,_=>by cases List.perm_nil.mp p
  | x::l,y::l',p,h,h'=>by
    obtain ⟨h1,h2⟩:=List.pairwise_cons.mp h
    obtain ⟨h1',h2'⟩:=List.pairwise_cons.mp h'
    have e:x=y:=by
      have m1:=List.mem_cons.mp (p.mem_iff.mp (List.mem_cons_self (a:=x) (l:=l)))
      have m2:=List.mem_cons.mp (p.mem_iff.mpr (List.mem_cons_self (a:=y) (l:=l')))
      rcases m1 with m1|m1
      . exact m1
      . rcases m2 with m2|m2
        . exact m2.symm
        . exact uJ _ _ (h1' x m1) (h1 y m2)
    subst e
    rw [ni (p.cons_inv) h2 h2']
theorem kM {l l':List (List Int)} (p:l.Perm l') (h:l.Pairwise pF):l=sortK l':=ni (p.trans (da l').symm) h (kL l')
def lJ (kss:List (List Int)) (p:Array Nat):Prop:=p.toList.Perm (List.range kss.length)/\(p.toList.map fun i=>kss.getD i [])=sortK kss
theorem wD {kss:List (List Int)} {p:Array Nat} (a:Ar kss.length p) (u:Up (fun i j=>eG (kss.getD i []) (kss.getD j [])) p kss.length):lJ kss p:=by
  refine ⟨a.pm,kM ?_ ?_⟩
  . have:=a.pm.map fun i=>kss.getD i []
    refine this.trans (List.Perm.of_eq ?_)
    apply List.ext_getElem
    . simp
    . intro i h1 h2;simp at h1;simp [h1]
  . rw [List.pairwise_iff_getElem]
    intro i j hi hj hij
    simp only [List.length_map,Array.length_toList] at hi hj
    have:=u i j hij (by rw [<- a.sz];exact hj)
    simp only [List.getElem_map,Array.getElem_toList]
    unfold pF
    rw [Array.getD_eq_getD_getElem?,Array.getD_eq_getD_getElem?,Array.getElem?_eq_getElem hi,Array.getElem?_eq_getElem hj] at this
    exact this
theorem qE {kss:List (List Int)} (h:kss.length < 2):lJ kss (List.toArray (List.range kss.length)):=by
  refine ⟨.refl _,kM ?_ ?_⟩
  . refine List.Perm.of_eq ?_
    apply List.ext_getElem
    . simp
    . intro i h1 h2;simp at h1;simp [h1]
  . rw [List.pairwise_iff_getElem]
    intro i j hi hj hij
    simp at hi hj;omega
theorem mE {a:Addr} {vs:List Value} {kss:List (List Int)} {n:Nat} {P:PySem.Fin->Shared->Prop} (ho:s.heap.get? a=some (seqObj "list" vs.toArray n))
    (hk:KeysAre prog w s.heap vs kss) (hne:∀ ks∈kss,ks≠[]) (h64:vs.length < 64)
    (h:∀ (p:Array Nat),lJ kss p->P (.done (.ret .none)) { s with heap:=sortedHeap s.heap a vs (List.toArray (p.toList.map fun i=>vs.getD i Value.none)) }) :
    wpAny (model prog w) A (Builtin.«list.sort» ⟨[.ref a],[]⟩) P E s:=by
  rw [list_sort_plain]
  have ha:a < s.heap.objs.size:=Heap.lt_size ho
  refine wpAny_bind (listItems_at ho rfl ?_)
  refine wpAny_bind (listUpdate_at ho rfl ?_ (by rw [List.size_toArray,sizeLine_eq];omega) (Nat.zero_le _))
  obtain ⟨e1,ho1⟩:∃ e1,(s.heap.update a (Obj.mapSeq fun _=>#[])).get? a=some (seqObj "list" #[] e1):=⟨_,get?_update_seq ho (fun _=>#[])⟩
  refine wpAny_bind (seqEpoch_at ho1 rfl ?_)
  refine wpAny_bind (wpAny_newTuple ?_ (by show vs.length<=_;rw [sizeLine_eq];omega))
  refine wpAny_bind (wpAny_newList ?_ (Nat.zero_le _))
  refine wpAny_holding ?_
  have ho6:(((s.heap.update a (Obj.mapSeq fun _=>#[])).push (seqObj "tuple" vs.toArray 0)).push (seqObj "list" #[] 0)).get? a=some (seqObj "list" #[] e1):=by
    rw [Heap.get?_push_ne _ _ _ (by rw [size_push',Heap.size_update];exact Nat.ne_of_lt (Nat.lt_succ_of_lt ha)),Heap.get?_push_ne _ _ _ (by rw [Heap.size_update];exact Nat.ne_of_lt ha)]
    exact ho1
  show wpAny (model prog w) A _ P E { s with heap:=((s.heap.update a (Obj.mapSeq fun _=>#[])).push (seqObj "tuple" vs.toArray 0)).push (seqObj "list" #[] 0) }
  dsimp only
  have hsz:vs.toArray.size=vs.length:=by simp
  have hk6:KeysAre prog w (((s.heap.update a (Obj.mapSeq fun _=>#[])).push (seqObj "tuple" vs.toArray 0)).push (seqObj "list" #[] 0)) vs kss:=hk.moved fun b o e c=>by
    refine Heap.get?_push_of_some _ (Heap.get?_push_of_some _ ?_)
    have:b≠a:=fun z=>by subst z;rw [ho] at e;cases e;exact absurd (Value.type.inj (show Value.type "list"=Value.type "tuple" from c)) (by decide)
    rw [Heap.get?_update_ne _ _ _ _ this];exact e
  by_cases h2:vs.toArray.size < 2
  . rw [if_pos h2,if_pos h2]
    refine wpAny_bind (wpAny_pure ?_)
    rw [StateT.run_pure]
    refine wpAny_bind (wpAny_pure ?_)
    dsimp only
    refine wpAny_bind (seqEpoch_at ho6 rfl ?_)
    refine wpAny_bind (listUpdate_at ho6 rfl ?_ (hsz2:=by rw [Array.size_map];show (pairsOf vs).size<=_;rw [pairsOf_size,sizeLine_eq];omega))
    simp only [bne_self_eq_false,Bool.false_eq_true,if_false]
    have hz:kss.length < 2:=by rw [hk.1,<- hsz];exact h2
    have hq:=h (List.toArray (List.range kss.length)) (qE hz)
    have e:(arrOf (SortSt.mk' general' (vs.toArray.zip vs.toArray) #[] 7 none)).map (·.2)=List.toArray ((List.toArray (List.range kss.length)).toList.map fun i=>vs.getD i Value.none):=by
      rw [hk.1]
      show (vs.toArray.zip vs.toArray).map (·.2)=_
      apply Array.toList_inj.mp
      apply List.ext_getElem?
      intro i
      simp
      by_cases hi:i < vs.length <;> simp [hi]
    exact wpAny_pure (by rw [e];exact hq)
  . rw [if_neg h2,if_neg h2]
    obtain ⟨fs,ht,hl,hfi⟩:=hk6.tups hne
    have h2':2<=vs.length:=by rw [<- hsz];omega
    refine wpAny_bind (kat_kind (T:=.type "int") ht (by omega) (fun v hv=>?_) rfl ?_)
    . obtain ⟨i,t,rfl⟩:=hfi v hv
      exact Looks.now
    . refine wpAny_bind (wpAny_mono (qD (E:=E) (Q:=fun st' s'=>s'={ s with heap:=((s.heap.update a (Obj.mapSeq fun _=>#[])).push (seqObj "tuple" vs.toArray 0)).push (seqObj "list" #[] 0) }/\uK (fun i j=>eG (kss.getD i []) (kss.getD j [])) vs st') (AU kss) h2' h64 hk6.asks fun st' hs=>⟨rfl,hs⟩) ?_ fun _ _ e=>e)
      rintro ⟨⟨⟩,st'⟩ s' ⟨rfl,p,a1,a2,a3,hf⟩
      dsimp only at a3 hf ⊢
      refine wpAny_bind (seqEpoch_at ho6 rfl ?_)
      rw [a3]
      refine wpAny_bind (listUpdate_at ho6 rfl ?_ (hsz2:=by simp only [List.size_toArray,List.length_map,Array.length_toList,a1.sz];rw [sizeLine_eq];omega))
      rw [hf]
      simp only [bne_self_eq_false,Bool.false_eq_true,if_false]
      rw [<- hk.1] at a1 a2
      exact wpAny_pure (h p (wD a1 a2))
end
end So
namespace So
open PySem PySem.Spec PySem.W PyProof.Rows PySem.Calls PySem.SetTable Tb
section
variable {prog:Program} {w:World} {A:Around} {E:Value->Shared->Prop} {s:Shared} {U:Addr->List Int->Prop}
def SetO (prog:Program) (w:World) (U:Addr->List Int->Prop) (o:Obj) (kss:List (List Int)):Prop :=
  ∃ (L:List bu) (ep:Nat) (t:SetTable) (f:Int×Value->List Int),o=bd L ep t/\Good t L/\L.length * 5 < t.mask * 3/\t.mask < 8000/\(t.plain=true/\t.led=!bG w)/\(∀ e∈L,∃ b,e.2.2=.ref b/\e.2.1=hK prog w (f e.2)/\U b (f e.2))/\(L.map fun e=>f e.2).Perm kss/\kss.Nodup
theorem SetAt.obj {h:Heap} {a:Addr} {kss:List (List Int)} (x:SetAt prog w U h a kss):∃ o,h.get? a=some o/\SetO prog w U o kss:=by
  obtain ⟨L,ep,t,f,ho,g,room,mb,pl,hf,hp,nd,uu⟩:=x
  refine ⟨_,ho,L,ep,t,f,rfl,g,room,mb,pl,fun e he=>?_,hp,nd⟩
  obtain ⟨b,h1,h2,h3⟩:=hf e he
  exact ⟨b,h1,h3,uu e he b h1⟩
theorem SetO.at {h:Heap} {a:Addr} {o:Obj} {kss:List (List Int)} (x:SetO prog w U o kss) (ho:h.get? a=some o) (hU:∀ b ks,U b ks->IsTupleKey (intKind prog w) h ks b):SetAt prog w U h a kss:=by
  obtain ⟨L,ep,t,f,rfl,g,room,mb,pl,hf,hp,nd⟩:=x
  refine ⟨L,ep,t,f,ho,g,room,mb,pl,fun e he=>?_,hp,nd,fun e he b hb=>?_⟩
  . obtain ⟨b,h1,h2,h3⟩:=hf e he
    exact ⟨b,h1,hU _ _ h3,h2⟩
  . obtain ⟨b',h1,h2,h3⟩:=hf e he
    rw [hb] at h1;cases h1;exact h3
def lK (U:Addr->List Int->Prop) (out:List Value) (kss:List (List Int)):Prop:=out.length=kss.length/\∀ (i:Nat) v,out[i]?=some v->∃ b,v=.ref b/\U b (kss.getD i [])
theorem nN {l l':List (List Int)} (p:l.Perm l'):sortK l=sortK l':=kM ((da l).trans p) (kL l)
theorem jo {vs:List Value} {kss kss':List (List Int)} {p:Array Nat} (ho:lK U vs kss') (hp:lJ kss' p) (pm:kss'.Perm kss):lK U (p.toList.map fun i=>vs.getD i Value.none) (sortK kss):=by
  rw [<- nN pm,<- hp.2]
  refine ⟨by simp,fun i v hv=>?_⟩
  rw [List.getElem?_map] at hv
  cases e:p.toList[i]? with
  | none=>rw [e] at hv;cases hv
  | some j =>
    rw [e] at hv
    simp at hv
    have hj:j < kss'.length:=by
      have:j∈List.range kss'.length:=hp.1.mem_iff.mp (List.mem_of_getElem? e)
      simpa using this
    have hj':j < vs.length:=by rw [ho.1];exact hj
    obtain ⟨b,q1,q2⟩:=ho.2 j vs[j] (List.getElem?_eq_getElem hj')
    refine ⟨b,?_,?_⟩
    . rw [<- hv];simp [hj',q1]
    . have:((p.toList.map fun i=>kss'.getD i []).getD i [])=kss'.getD j []:=by
        rw [List.getD_eq_getElem?_getD,List.getElem?_map,e];rfl
      rw [this];exact q2
theorem sorted_of {x:Value} {vs:List Value} {kss:List (List Int)} {Q:Value->Shared->Prop}
    (hcol:∀ (Q':List Value->Shared->Prop) (E':Value->Shared->Prop),(∀ h' tk,(∀ b o,s.heap.get? b=some o->h'.get? b=some o)->s.heap.objs.size<=h'.objs.size->Q' vs { s with heap:=h',toks:=tk })->wpAny (model prog w) A.in1 (collect x) Q' E' s)
    (hk:KeysAre prog w s.heap vs kss) (hne:∀ ks∈kss,ks≠[]) (h64:vs.length < 64)
    (h:∀ h' tk l n p,(∀ b o,s.heap.get? b=some o->h'.get? b=some o)->s.heap.objs.size<=l->lJ kss p->h'.get? l=some (seqObj "list" (List.toArray (p.toList.map fun i=>vs.getD i Value.none)) n)->Q (.ref l) { s with heap:=h',toks:=tk }) :
    wpAny (model prog w) A (call (.builtin "sorted") [x]) Q E s:=by
  refine Calls.call_function_entry kind_sorted plain_sorted entry_sorted (args_sorted1 _) ?_
  unfold Builtin.«sorted»
  refine wpAny_bind (m:=checkCount "sorted" 1 1 _) (wpAny_pure ?_)
  refine wpAny_bind (hcol _ _ fun h1 tk k1 z1=>?_)
  refine wpAny_bind (wpAny_newList ?_ (by rw [sizeLine_eq];omega))
  have hoL:(h1.push (seqObj "list" vs.toArray 0)).get? h1.objs.size=some (seqObj "list" vs.toArray 0):=Heap.get?_push_size _ rfl
  have k2:∀ b o,s.heap.get? b=some o->(h1.push (seqObj "list" vs.toArray 0)).get? b=some o:=fun b o e=>Heap.get?_push_of_some _ (k1 b o e)
  show wpAny _ _ _ _ _ { s with heap:=h1.push (seqObj "list" vs.toArray 0),toks:=tk }
  refine wpAny_bind (wpAny_holding (wpAny_call_entry slot_list_sort ⟨_,hoL,rfl⟩ entry_list_sort (mE hoL (hk.moved fun b o e _=>k2 b o e) hne h64 fun p hp=>⟨_,rfl,?_⟩) (args_list_sort _)))
  refine wpAny_pure ⟨_,rfl,?_⟩
  unfold sortedHeap
  have ne1:∀ b o,s.heap.get? b=some o->b≠h1.objs.size:=fun b o e=>Nat.ne_of_lt (Nat.lt_of_lt_of_le (Heap.lt_size e) z1)
  have g0:=Heap.get?_push_of_some (seqObj "list" #[] 0) (Heap.get?_push_of_some (seqObj "tuple" vs.toArray 0) (get?_update_seq hoL (fun _=>#[])))
  refine h _ _ _ _ p (fun b o e=>?_) z1 hp (get?_update_seq g0 (fun _=>List.toArray (p.toList.map fun i=>vs.getD i Value.none)))
  rw [Heap.get?_update_ne _ _ _ _ (ne1 b o e)]
  refine Heap.get?_push_of_some _ (Heap.get?_push_of_some _ ?_)
  rw [Heap.get?_update_ne _ _ _ _ (ne1 b o e)]
  exact k2 b o e
theorem sorted_set {D:Addr} {kss:List (List Int)} {Q:Value->Shared->Prop} (hh:A.handled=none) (hS:SetAt prog w U s.heap D kss) (hne:∀ ks∈kss,ks≠[]) (h64:kss.length < 64)
    (h:∀ h' tk l n (out:List Value),(∀ b o,s.heap.get? b=some o->h'.get? b=some o)->s.heap.objs.size<=l->lK U out (sortK kss)->h'.get? l=some (seqObj "list" out.toArray n)->Q (.ref l) { s with heap:=h',toks:=tk }) :
    wpAny (model prog w) A (call (.builtin "sorted") [.ref D]) Q E s:=by
  obtain ⟨L,ep,t,f,ho,g,room,mb,pl,hf,hp,nd,uu⟩:=hS
  have hlen:L.length=kss.length:=by have:=hp.length_eq;simpa using this
  have h7:=g.m7
  have gs:Goes w L t:=⟨g.lies (by omega),by omega,pl.1,pl.2⟩
  have op:=iC w D ep L
  have osz:(bq w D ep L).toList.length=L.length:=by rw [Array.length_toList,dy]
  have kp:((bq w D ep L).toList.map f).Perm kss:=((op.map f).trans (List.Perm.of_eq (by rw [List.map_map];rfl))).trans hp
  have each:∀ x∈(bq w D ep L).toList,∃ b,x.2=.ref b/\IsTupleKey (intKind prog w) s.heap (f x) b/\U b (f x):=fun x hx=>by
    obtain ⟨e,he,rfl⟩:=List.mem_map.mp (op.mem_iff.mp hx)
    obtain ⟨b,h1,h2,h3⟩:=hf e he
    exact ⟨b,h1,h2,uu e he b h1⟩
  have at_:∀ (i:Nat) v,((bq w D ep L).toList.map (·.2))[i]?=some v->∃ x,x∈(bq w D ep L).toList/\v=x.2/\((bq w D ep L).toList.map f).getD i []=f x:=fun i v hv=>by
    rw [List.getElem?_map] at hv
    cases e:(bq w D ep L).toList[i]? with
    | none=>rw [e] at hv;cases hv
    | some x =>
      rw [e] at hv
      refine ⟨x,List.mem_of_getElem? e,(Option.some.inj hv).symm,?_⟩
      rw [List.getD_eq_getElem?_getD,List.getElem?_map,e];rfl
  refine sorted_of (vs:=(bq w D ep L).toList.map (·.2)) (kss:=(bq w D ep L).toList.map f) (fun Q' E' hq=>?_) ⟨by simp,fun i v hv=>?_⟩ (fun ks hks=>?_) (by rw [List.length_map,osz];omega) fun h' tk l n p k hl hsp hg=>?_
  . exact kA (by simpa using hh) ho gs (by omega) hq
  . obtain ⟨x,hx,rfl,e⟩:=at_ i v hv
    obtain ⟨b,h1,h2,h3⟩:=each x hx
    exact ⟨b,h1,by rw [e];exact h2⟩
  . exact hne ks (kp.mem_iff.mp hks)
  . refine h h' tk l n _ k hl (jo ⟨by simp,fun i v hv=>?_⟩ hsp kp) hg
    obtain ⟨x,hx,rfl,e⟩:=at_ i v hv
    obtain ⟨b,h1,h2,h3⟩:=each x hx
    exact ⟨b,h1,by rw [e];exact h3⟩
end
end So
namespace Vl
open PySem PySem.Spec L2 So Tb
def gN (P:Program) (w:World) (U:Addr->List Int->Prop) (a:Addr) (kss:List (List Int)):Heap->Prop:=fun h=>∃ o,h.get? a=some o/\SetO P w U o kss
theorem SetO.mono {P:Program} {w:World} {U U':Addr->List Int->Prop} {o:Obj} {kss:List (List Int)} (x:SetO P w U o kss) (h:∀ b ks,U b ks->U' b ks):SetO P w U' o kss:=by
  obtain ⟨L,ep,t,f,e,g,room,mb,pl,hf,r⟩:=x
  exact ⟨L,ep,t,f,e,g,room,mb,pl,fun e he=>let ⟨b,h1,h2,h3⟩:=hf e he;⟨b,h1,h2,h _ _ h3⟩,r⟩
section
variable {X:Cx} {B:Hp×Hp} {W:Wi}
theorem jV {pins:List (Addr×Obj)} {σ:St} {H:Hp} {s:Shared} {b:Addr} {ks:List Int} (I:Inv X pins σ H s) (h:SqT X.K H b (ks.map V.int)):IsTupleKey (intKind X.prog X.w) s.heap ks b:=by
  obtain ⟨its,r,⟨o,ho,hc,n,hd⟩,hz⟩:=I.tuple h
  refine ⟨o,its.toArray,n,ho,hc,hd,?_⟩
  show ItemsAre _ ks its
  clear hd h hz
  induction ks generalizing its with
  | nil=>cases r;exact .nil
  | cons k ks ih =>
    cases r with
    | cons r1 r2 =>
      obtain ⟨t,rfl⟩:=r1
      exact .cons (intKind_is X.prog X.w k t) (ih _ r2)
def xI (P:Program) (w:World) (K:PySem.W.Frag):List V->Hp->VK->Prop:=fun xs H Q=>∃ (p:Addr) (ys:List V) (kss:List (List Int)) (U:Addr->List Int->Prop),xs=[.ref p]/\(SqL K H p ys∨SqT K H p ys)/\kss.length=ys.length/\ys.length < 1000 /\
  (∀ (i:Nat) v,ys[i]?=some v->∃ b,v=.ref b/\SqT K H b ((kss.getD i []).map V.int)/\U b (kss.getD i []))/\∀ l,H l=none->Q (.ref l) (bc H l (.ext (gN P w U l (insAll kss))))
theorem Vals.get' {xs:List V} {us:List Value} (r:Vals xs us) {i:Nat} {u:Value} (h:us[i]?=some u):∃ x,xs[i]?=some x/\RelV x u:=by
  cases e:xs[i]? with
  | none=>have:=r.none_of e;rw [this] at h;cases h
  | some x=>obtain ⟨u',h1,h2⟩:=r.get e;rw [h] at h1;cases h1;exact ⟨x,rfl,h2⟩
theorem uL (hc:X.calm=true) (hu:X.A.units + 8 < cLine):cW X (.type "set") (xI X.prog X.w X.K):=by
  intro pins s σ H xs us Q I r h
  obtain ⟨p,ys,kss,U,rfl,hs,hlen,hz,hk,q⟩:=h
  obtain ⟨u,rfl,rx⟩:=r.one
  cases rx
  obtain ⟨its,rv,hseq⟩:∃ its:List Value,Vals ys its/\(s.heap.IsList p its.toArray∨s.heap.IsTuple p its.toArray):=by
    rcases hs with hs|hs
    . obtain ⟨its,rv,pl,_⟩:=I.list hs;exact ⟨its,rv,.inl pl.isList⟩
    . obtain ⟨its,rv,pl,_⟩:=I.tuple hs;exact ⟨its,rv,.inr pl⟩
  have hl:=rv.length
  refine pv (U:=U) (kss:=kss) (I.ok.hd hc) hu hseq (by rw [List.size_toArray];omega) (fun i v hv=>?_) (by rw [List.size_toArray];omega) fun h' tk k hS=>?_
  . obtain ⟨x,h1,h2⟩:=Vals.get' rv (i:=i) (u:=v) (by simpa using hv)
    obtain ⟨b,rfl,h3,h4⟩:=hk i x h1
    exact ⟨b,h2,jV I h3,h4⟩
  . refine ⟨.ref s.heap.objs.size,_,I.laid (t':=tk) k (Nat.le_refl _) (show ObjOk X.prog X.w _ h' _ (.ext (gN X.prog X.w U s.heap.objs.size (insAll kss))) from ⟨So.SetAt.obj hS,?_,?_⟩),rfl,q _ I.fresh⟩
    . obtain ⟨o,ho,_⟩:=So.SetAt.obj hS;exact ⟨o,ho⟩
    . rintro h1 h2 ⟨o,ho,x⟩ hk';exact ⟨o,hk' o ho,x⟩
def yP (P:Program) (w:World) (K:PySem.W.Frag):List V->Hp->VK->Prop:=fun xs H Q=>∃ (p:Addr) (kss:List (List Int)) (U:Addr->List Int->Prop),xs=[.ref p]/\H p=some (.ext (gN P w U p kss))/\(∀ b ks,U b ks->SqT K H b (ks.map V.int))/\(∀ ks∈kss,ks≠[])/\kss.length < 64 /\
  ∀ l ys,H l=none->ys.length=(sortK kss).length->(∀ (i:Nat) v,ys[i]?=some v->∃ b,v=.ref b/\U b ((sortK kss).getD i []))->Q (.ref l) (bc H l (.lst ys))
theorem pG (hc:X.calm=true):cW X (.builtin "sorted") (yP X.prog X.w X.K):=by
  intro pins s σ H xs us Q I r h
  obtain ⟨p,kss,U,rfl,hp,hU,hne,h64,q⟩:=h
  obtain ⟨u,rfl,rx⟩:=r.one
  cases rx
  obtain ⟨⟨o,ho,x⟩,_⟩:=I.hok _ _ hp
  have hS:=So.SetO.at x ho (fun b ks hb=>jV I (hU b ks hb))
  refine So.sorted_set (I.ok.hd hc) hS hne h64 fun h' tk l n out k hl ho hg=>?_
  have hln:H l=none:=I.hok.fresh hl
  have hv:∃ ys:List V,Vals ys out/\ys.length=(sortK kss).length/\∀ (i:Nat) v,ys[i]?=some v->∃ b,v=.ref b/\U b ((sortK kss).getD i []):=by
    refine ⟨out.map fun v=>match v with|.ref b=>V.ref b|_=>V.non,?_,by simp [ho.1],fun i v hv=>?_⟩
    . have:∀ v∈out,∃ b,v=Value.ref b:=fun v hv=>by
        obtain ⟨i,hi⟩:=List.mem_iff_getElem?.mp hv
        obtain ⟨b,e,_⟩:=ho.2 i v hi;exact ⟨b,e⟩
      clear ho hg
      induction out with
      | nil=>exact .nil
      | cons a out ih =>
        obtain ⟨b,rfl⟩:=this a (.head _)
        exact .cons rfl (ih fun v hv=>this v (.tail _ hv))
    . rw [List.getElem?_map] at hv
      cases e:out[i]? with
      | none=>rw [e] at hv;cases hv
      | some v' =>
        rw [e] at hv
        obtain ⟨b,rfl,h2⟩:=ho.2 i v' e
        exact ⟨b,(Option.some.inj hv).symm,h2⟩
  obtain ⟨ys,rv,yl,yv⟩:=hv
  have e0:s.heap.objs.size<=l:=hl
  refine ⟨.ref l,_,I.laid (t':=tk) k hl (show ObjOk X.prog X.w _ h' _ (.lst ys) from ⟨?_,out,n,rv,hg⟩),rfl,q l ys hln yl yv⟩
  have:(sortK kss).length=kss.length:=(da kss).length_eq
  rw [yl,this,sizeLine_eq];omega
def dC:List D->Option (List Int)
  | []=>some []
  | .int i::ds=>(dC ds).map (i::·)
  | _=>none
def dD:List D->Option (List (List Int))
  | []=>some []
  | .tup ds::es=>match dC ds with|some k=>(dD es).map (k::·)|none=>none
  | _=>none
def tupK (ks:List Int):D:=.tup (ks.map .int)
theorem uM (ks:List Int):dC (ks.map .int)=some ks:=by
  induction ks with
  | nil=>rfl
  | cons k ks ih=>simp [dC,ih]
theorem pH:∀ {ds:List D} {ks:List Int},dC ds=some ks->ds=ks.map .int
  | [],ks,h=>by simp [dC] at h;subst h;rfl
  | .int i::ds,ks,h=>by
    simp only [dC] at h
    cases e:dC ds with
    | none=>rw [e] at h;cases h
    | some k=>rw [e] at h;simp at h;subst h;rw [pH e];rfl
  | .non::ds,ks,h=>by simp [dC] at h
  | .bl _::ds,ks,h=>by simp [dC] at h
  | .str _::ds,ks,h=>by simp [dC] at h
  | .tup _::ds,ks,h=>by simp [dC] at h
  | .lst _::ds,ks,h=>by simp [dC] at h
  | .exn _ _::ds,ks,h=>by simp [dC] at h
theorem uN (kss:List (List Int)):dD (kss.map tupK)=some kss:=by
  induction kss with
  | nil=>rfl
  | cons k kss ih=>simp [dD,tupK,uM] at ih ⊢;exact ih
theorem kN:∀ {ds:List D} {kss:List (List Int)},dD ds=some kss->ds=kss.map tupK
  | [],ks,h=>by simp [dD] at h;subst h;rfl
  | .tup es::ds,ks,h=>by
    simp only [dD] at h
    cases e:dC es with
    | none=>rw [e] at h;cases h
    | some k =>
      rw [e] at h
      cases e2:dD ds with
      | none=>rw [e2] at h;cases h
      | some k2=>rw [e2] at h;simp at h;subst h;rw [kN e2,pH e];rfl
  | .int i::ds,ks,h=>by simp [dD] at h
  | .non::ds,ks,h=>by simp [dD] at h
  | .bl _::ds,ks,h=>by simp [dD] at h
  | .str _::ds,ks,h=>by simp [dD] at h
  | .lst _::ds,ks,h=>by simp [dD] at h
  | .exn _ _::ds,ks,h=>by simp [dD] at h
theorem jW {K:PySem.W.Frag} {G:Hp}:∀ {ks:List Int} {vs:List V},Reps K G (ks.map .int) vs->vs=ks.map V.int
  | [],vs,r=>reps_nil.mp r
  | k::ks,vs,r=>by
    obtain ⟨v,vs',rfl,r1,r2⟩:=reps_cons.mp r
    rw [rep_int.mp r1,jW r2];rfl
theorem rep_tupK {K:PySem.W.Frag} {G:Hp} {ks:List Int} {v:V}:Rep K G (tupK ks) v↔∃ b,v=.ref b/\UG K G b ks:=by
  unfold tupK UG
  constructor
  . intro h
    obtain ⟨a,vs,rfl,q,r⟩:=rep_tup.mp h
    rw [jW r] at q
    exact ⟨a,rfl,q⟩
  . rintro ⟨b,rfl,q⟩
    exact rep_tup.mpr ⟨b,_,rfl,q,mY ks⟩
theorem uO {K:PySem.W.Frag} {G:Hp} {kss:List (List Int)} {vs:List V} (r:Reps K G (kss.map tupK) vs):kss.length=vs.length/\∀ (i:Nat) v,vs[i]?=some v->∃ b,v=.ref b/\UG K G b (kss.getD i []):=by
  refine ⟨by have:=r.length;simpa using this,fun i v hv=>?_⟩
  obtain ⟨d,h1,h2⟩:=r.get' hv
  rw [List.getElem?_map] at h1
  cases e:kss[i]? with
  | none=>rw [e] at h1;cases h1
  | some ks =>
    rw [e] at h1
    cases h1
    obtain ⟨b,q1,q2⟩:=rep_tupK.mp h2
    exact ⟨b,q1,by rw [List.getD_eq_getElem?_getD,e];exact q2⟩
theorem iD {K:PySem.W.Frag} {G:Hp}:∀ {kss:List (List Int)} {vs:List V},vs.length=kss.length->(∀ (i:Nat) v,vs[i]?=some v->∃ b,v=.ref b/\UG K G b (kss.getD i []))->Reps K G (kss.map tupK) vs
  | [],vs,h,_=>reps_nil.mpr (List.length_eq_zero_iff.mp h)
  | k::kss,[],h,_=>by cases h
  | k::kss,v::vs,h,a=>by
    refine reps_cons.mpr ⟨v,vs,rfl,rep_tupK.mpr (a 0 v rfl),iD (by simpa using h) fun i u hu=>?_⟩
    exact a (i + 1) u hu
def lL (P:Program) (w:World) (K:PySem.W.Frag) (W:Wi) (σ:St) (G H:Hp) (r:Rs (List (List Int))) (Q:VK):Prop :=
  match r with
  | .ok kss=>∀ a H' G',Ext G H G' H'->H a=none->H' a=some (.ext (gN P w (UG K G') a kss))->Q (.ref a) H'
  | .ex c n=>∀ H' G',Ext G H G' H'->W c n σ H'
  | .no=>False
def tK (P:Program) (w:World) (K:PySem.W.Frag) (B:Hp×Hp) (W:Wi) (f:ah->Rs (List (List Int))):TE:=fun σ H Q=>∃ ρ G,SR K B σ H ρ G/\lL P w K W σ G H (f ρ) Q
def SK (X:Cx) (B:Hp×Hp) (W:Wi) (e:Expr) (f:ah->Rs (List (List Int))):Prop:=PE X e (tK X.prog X.w X.K B W f)
def lM:D->Rs (List (List Int))
  | .lst ds=>match dD ds with|some kss=>if ds.length < 1000 then .ok kss else .no|none=>.no
  | .tup ds=>match dD ds with|some kss=>if ds.length < 1000 then .ok kss else .no|none=>.no
  | _=>.no
def fK (f:ah->Rs D):ah->Rs (List (List Int)):=fun ρ=>(f ρ).bind fun d=>(lM d).bind fun kss=>.ok (insAll kss)
theorem mF {G H:Hp} (gh:Same G H) (tp:∀ a xs,H a=some (.tup xs)->G a=some (.tup xs)) {p:Addr} {φ:Heap->Prop} (hp:H p=none):Ext G H G (bc H p (.ext φ)) where
  gg:=.refl _
  hh:=fun b o e=>by rw [aI (aR e hp)];exact e
  gh:=fun b o e=>by rw [aI (aR (gh _ _ e) hp)];exact gh _ _ e
  tp:=fun b ys e=>by
    by_cases q:b=p
    . subst q;rw [aO] at e;cases e
    . rw [aI q] at e;exact tp _ _ e
  nw:=fun b o e n=>n
theorem gF {e:Expr} {p pos:Pos} {f:ah->Rs D} (hc:X.calm=true) (hu:X.A.units + 8 < cLine) (hm:X.mg "set"=none) (he:SE X B W e f) (hg:Gl X "set":=by rfl) (hst:starEach [e] X.env=[(false,eval e X.env)]:=by rfl) :
    SK X B W (.Call (.Name "set" p) [e] [] pos) (fK f):=by
  refine PE.imp (jF (uL hc hu) hg hm PyProof.Rows.boot_set (cT he eA hst) (by decide) (by decide) hst rfl) fun σ H Q h=>?_
  obtain ⟨ρ,G,s,p⟩:=h
  refine ⟨ρ,G,s,?_⟩
  unfold fK at p
  cases e1:f ρ with
  | ok d =>
    rw [e1] at p
    have p':lL X.prog X.w X.K W σ G H ((lM d).bind fun kss=>.ok (insAll kss)) Q:=p
    intro v H' G' x r
    have be:∀ (a:Addr) (vs:List V) (kss:List (List Int)),v=.ref a->(SqL X.K H' a vs∨SqT X.K H' a vs)->Reps X.K G' (kss.map tupK) vs->vs.length < 1000->lL X.prog X.w X.K W σ G H (.ok (insAll kss)) Q->xI X.prog X.w X.K [v] H' Q:=by
      intro a vs kss ea hs rr hz pp
      obtain ⟨hl,hk⟩:=uO rr
      refine ⟨a,vs,kss,UG X.K G',by rw [ea],hs,hl,hz,fun i u hu'=>?_,fun l hl'=>?_⟩
      . obtain ⟨b,q1,q2⟩:=hk i u hu'
        exact ⟨b,q1,Same.seqT x.gh q2,q2⟩
      . exact pp l _ G' (x.trans (mF x.gh x.tp hl')) (by cases e:H l with|none=>rfl|some o=>have:=x.hh _ _ e;rw [hl'] at this;cases this) aO
    unfold lM at p'
    split at p'
    . rename_i ds
      split at p'
      . rename_i kss ek
        by_cases hz:ds.length < 1000
        . rw [if_pos hz] at p'
          obtain ⟨a,vs,rfl,q,rr⟩:=rep_lst.mp r
          have hl:=rr.length
          rw [kN ek] at rr
          exact be a vs kss rfl (.inl (x.gh.seq q)) rr (by omega) p'
        . rw [if_neg hz] at p';exact p'.elim
      . exact p'.elim
    . rename_i ds
      split at p'
      . rename_i kss ek
        by_cases hz:ds.length < 1000
        . rw [if_pos hz] at p'
          obtain ⟨a,vs,rfl,q,rr⟩:=rep_tup.mp r
          have hl:=rr.length
          rw [kN ek] at rr
          exact be a vs kss rfl (.inr (Same.seqT x.gh q)) rr (by omega) p'
        . rw [if_neg hz] at p';exact p'.elim
      . exact p'.elim
    . exact p'.elim
  | ex c n=>rw [e1] at p;exact p
  | no=>rw [e1] at p;exact p
instance (kss:List (List Int)):Decidable (∀ ks∈kss,ks≠[]):=inferInstance
def iU:List (List Int)->Rs D:=fun kss=>if (∀ ks∈kss,ks≠[])/\kss.length < 64 then .ok (.lst ((sortK kss).map tupK)) else .no
def eS (f:ah->Rs (List (List Int))):ah->Rs D:=fun ρ=>(f ρ).bind iU
theorem lN {e:Expr} {p pos:Pos} {f:ah->Rs (List (List Int))} (hc:X.calm=true) (hm:X.mg "sorted"=none) (he:SK X B W e f) (hg:Gl X "sorted":=by rfl) (hst:starEach [e] X.env=[(false,eval e X.env)]:=by rfl) :
    SE X B W (.Call (.Name "sorted" p) [e] [] pos) (eS f):=by
  refine PE.imp (fY (pG hc) hg hm PyProof.Rows.boot_sorted (cT he eA hst) (by decide) (by decide) hst rfl) fun σ H Q h=>?_
  obtain ⟨ρ,G,s,p⟩:=h
  refine ⟨ρ,G,s,?_⟩
  unfold eS at p
  cases e1:f ρ with
  | ok kss =>
    rw [e1] at p
    intro a H' G' x _ ha
    have p':Post X.K W σ G H (iU kss) Q:=p
    unfold iU at p'
    by_cases hc':(∀ ks∈kss,ks≠[])/\kss.length < 64
    . rw [if_pos hc'] at p'
      refine ⟨a,kss,UG X.K G',rfl,ha,fun b ks hb=>Same.seqT x.gh hb,hc'.1,hc'.2,fun l ys hl hy hv=>?_⟩
      have x2:=fq (xs:=ys) x.gh x.tp hl
      refine p' _ _ _ (x.trans x2) (rep_lst.mpr ⟨l,ys,rfl,.of aO,?_⟩)
      exact (iD hy hv).mono x2.gg
    . rw [if_neg hc'] at p';exact p'.elim
  | ex c n=>rw [e1] at p;exact p
  | no=>rw [e1] at p;exact p
end
end Vl
namespace Vl
open PySem PySem.Spec L2 So Tb
def rC (a b:List (List Int)):List (List Int):=a++b.filter fun x=>!decide (x∈a)
def mG (a b:List (List Int)):List (List Int):=a.filter fun x=>decide (x∈b)
def kO (a b:List (List Int)):List (List Int):=a.filter fun x=>!decide (x∈b)
theorem yQ {a b:List (List Int)} {x:List Int}:x∈rC a b↔x∈a∨x∈b:=by
  unfold rC
  rw [List.mem_append,List.mem_filter]
  by_cases h:x∈a <;> simp [h]
theorem andL_mem {a b:List (List Int)} {x:List Int}:x∈mG a b↔x∈a/\x∈b:=by unfold mG;rw [List.mem_filter];simp
theorem subL_mem {a b:List (List Int)} {x:List Int}:x∈kO a b↔x∈a/\x∉b:=by unfold kO;rw [List.mem_filter];simp
theorem AW {a b:List (List Int)} (ha:a.Nodup) (hb:b.Nodup):(rC a b).Nodup:=by
  unfold rC
  refine List.nodup_append.mpr ⟨ha,hb.filter _,fun x hx y hy e=>?_⟩
  subst e
  have:=(List.mem_filter.mp hy).2
  simp [hx] at this
section
variable {X:Cx} {B:Hp×Hp} {W:Wi}
def AX (P:Program) (w:World) (K:PySem.W.Frag) (C:List (List Int)->List (List Int)->Prop) (g:List (List Int)->List (List Int)->List (List Int)):R2:=fun x y H Q=>∃ (p p2:Addr) (a b:List (List Int)) (U1 U2 U:Addr->List Int->Prop),x=.ref p/\y=.ref p2/\p≠p2/\H p=some (.ext (gN P w U1 p a))/\H p2=some (.ext (gN P w U2 p2 b)) /\
  (∀ c ks,U1 c ks->U c ks)/\(∀ c ks,U2 c ks->U c ks)/\(∀ c ks,U c ks->SqT K H c (ks.map V.int))/\C a b/\∀ l,H l=none->Q (.ref l) (bc H l (.ext (gN P w U l (g a b))))
theorem iV {pins:List (Addr×Obj)} {σ:St} {H:Hp} {s:Shared} {p:Addr} {a:List (List Int)} {U1 U:Addr->List Int->Prop} (I:Inv X pins σ H s) (h:H p=some (.ext (gN X.prog X.w U1 p a))) (u:∀ c ks,U1 c ks->U c ks) (hU:∀ c ks,U c ks->SqT X.K H c (ks.map V.int)):SetAt X.prog X.w U s.heap p a:=by
  obtain ⟨⟨o,ho,x⟩,_⟩:=I.hok _ _ h
  exact So.SetO.at (SetO.mono x u) ho fun b ks hb=>jV I (hU b ks hb)
theorem pI {pins:List (Addr×Obj)} {σ:St} {H:Hp} {s:Shared} {Q:VK} {U:Addr->List Int->Prop} {ls a:List (List Int)} {h':Heap} {tk:Nat} (I:Inv X pins σ H s) (k:∀ b o,s.heap.get? b=some o->h'.get? b=some o) (hS:SetAt X.prog X.w U h' s.heap.objs.size ls) (p:ls.Perm a)
    (q:∀ l,H l=none->Q (.ref l) (bc H l (.ext (gN X.prog X.w U l a)))):EP X pins σ Q (.ref s.heap.objs.size) { s with heap:=h',toks:=tk }:=by
  have hS':=hS.perm p
  refine ⟨.ref s.heap.objs.size,_,I.laid (t':=tk) k (Nat.le_refl _) (show ObjOk X.prog X.w _ h' _ (.ext (gN X.prog X.w U s.heap.objs.size a)) from ⟨So.SetAt.obj hS',?_,?_⟩),rfl,q _ I.fresh⟩
  . obtain ⟨o,ho,_⟩:=So.SetAt.obj hS';exact ⟨o,ho⟩
  . rintro h1 h2 ⟨o,ho,x⟩ hk';exact ⟨o,hk' o ho,x⟩
def xJ (a b:List (List Int)):Prop:=a.length + b.length < 400
def iI (a b:List (List Int)):Prop:=a.length < 400/\b.length < 400
def AY (a b:List (List Int)):Prop:=a.length < 400/\b.length < 400/\(b=[]∨¬ a.length / 4 > b.length)
instance (a b:List (List Int)):Decidable (xJ a b):=by unfold xJ;exact inferInstance
instance (a b:List (List Int)):Decidable (iI a b):=by unfold iI;exact inferInstance
instance (a b:List (List Int)):Decidable (AY a b):=by unfold AY;exact inferInstance
theorem AZ (hu:X.A.units + 8 < cLine):OpR X (binaryOp .BitOr) (AX X.prog X.w X.K xJ rC):=by
  intro pins s σ H x y v u Q I rx ry ⟨p,p2,a,b,U1,U2,U,ex,ey,ne,h1,h2,u1,u2,hU,hc,q⟩
  subst ex ey
  cases rx
  cases ry
  have A1:=iV I h1 u1 hU
  have A2:=iV I h2 u2 hU
  exact Cn A1 A2 ne hc (by omega) fun h' tk ls k nd hm hS=>pI I k hS (de nd (AW A1.nd A2.nd) fun x=>by rw [hm x,yQ]) q
theorem yR (hu:X.A.units + 8 < cLine):OpR X (binaryOp .BitAnd) (AX X.prog X.w X.K iI mG):=by
  intro pins s σ H x y v u Q I rx ry ⟨p,p2,a,b,U1,U2,U,ex,ey,ne,h1,h2,u1,u2,hU,hc,q⟩
  subst ex ey
  cases rx
  cases ry
  have A1:=iV I h1 u1 hU
  have A2:=iV I h2 u2 hU
  exact AS A1 A2 ne hc.1 hc.2 (by omega) fun h' tk ls k hm hS=>pI I k hS (de hS.nd (A1.nd.filter _) fun x=>by rw [hm x];exact andL_mem.symm) q
def gK (C:List (List Int)->List (List Int)->Prop) [∀ a b,Decidable (C a b)] (g:List (List Int)->List (List Int)->List (List Int)):List (List Int)->List (List Int)->Rs (List (List Int)):=fun a b=>if C a b then .ok (g a b) else .no
abbrev CL:=gK xJ rC
abbrev Ba:=gK iI mG
def jA (g:List (List Int)->List (List Int)->Rs (List (List Int))) (fa fb:ah->Rs (List (List Int))):ah->Rs (List (List Int)):=fun ρ=>(fa ρ).bind fun a=>(fb ρ).bind fun b=>g a b
theorem xK {a b:Expr} {op:Operator} {pos:Pos} {C:List (List Int)->List (List Int)->Prop} [∀ a b,Decidable (C a b)] {g:List (List Int)->List (List Int)->List (List Int)} {fa fb:ah->Rs (List (List Int))} (ho:OpR X (binaryOp op) (AX X.prog X.w X.K C g)) (ha:SK X B W a fa) (hb:SK X B W b fb) :
    SK X B W (.BinOp a op b pos) (jA (gK C g) fa fb):=by
  refine PE.imp (rX ho ha hb) fun σ H Q h=>?_
  obtain ⟨ρ,G,s,p⟩:=h
  refine ⟨ρ,G,s,?_⟩
  unfold jA at p
  cases e1:fa ρ with
  | ok l =>
    rw [e1] at p
    have p':lL X.prog X.w X.K W σ G H ((fb ρ).bind fun m=>gK C g l m) Q:=p
    intro p1 H1 G1 x1 n1 h1
    refine ⟨ρ,G1,s.ext x1,?_⟩
    cases e2:fb ρ with
    | ok m =>
      rw [e2] at p'
      have p2':lL X.prog X.w X.K W σ G H (if C l m then .ok (g l m) else .no) Q:=p'
      intro p2 H2 G2 x2 n2 h2
      have ne:p1≠p2:=fun z=>by subst z;rw [h1] at n2;cases n2
      by_cases hc:C l m
      . rw [if_pos hc] at p2'
        refine ⟨p1,p2,l,m,UG X.K G1,UG X.K G2,UG X.K G2,rfl,rfl,ne,x2.hh _ _ h1,h2,fun c ks q=>Same.seqT x2.gg q,fun c ks q=>q,fun c ks q=>Same.seqT x2.gh q,hc,fun l' hl'=>?_⟩
        have x12:=x1.trans x2
        exact p2' l' _ G2 (x12.trans (mF x2.gh x2.tp hl')) (by cases e:H l' with|none=>rfl|some o=>have:=x12.hh _ _ e;rw [hl'] at this;cases this) aO
      . rw [if_neg hc] at p2';exact p2'.elim
    | ex c n=>rw [e2] at p';exact fun H2 G2 x2=>p' H2 G2 (x1.trans x2)
    | no=>rw [e2] at p';exact p'
  | ex c n=>rw [e1] at p;exact p
  | no=>rw [e1] at p;exact p
theorem Cq {a b:Expr} {pos:Pos} {fa fb:ah->Rs (List (List Int))} (hc:X.calm=true) (hu:X.A.units + 8 < cLine) (ha:SK X B W a fa) (hb:SK X B W b fb):SK X B W (.BinOp a .BitOr b pos) (jA CL fa fb):=xK (AZ hu) ha hb
theorem Bb {a b:Expr} {pos:Pos} {fa fb:ah->Rs (List (List Int))} (hc:X.calm=true) (hu:X.A.units + 8 < cLine) (ha:SK X B W a fa) (hb:SK X B W b fb):SK X B W (.BinOp a .BitAnd b pos) (jA Ba fa fb):=xK (yR hu) ha hb
end
end Vl
namespace Vl
open PySem PySem.Spec L2
def pJ (i:Nat) (fs:ah->Rs (List D)):ah->Ou:=fun ρ=>oR (fs ρ) ρ fun ds=>if ds.length<=1000 then .nx (ρ.set i (.ow ds)) else .no
def kP (i:Nat) (f:ah->Rs D):ah->Ou:=fun ρ=>match ρ[i]? with|some (.ow ds)=>oR (f ρ) ρ fun d=>if ds.length < 1000000 then .nx (ρ.set i (.ow (ds++[d]))) else .no|_=>.no
def mH (i:Nat) (g:ah->Ou):ah->Ou:=fun ρ=>g (frz i ρ)
section
variable {X:Cx} {K:PySem.W.Frag} {B:Hp×Hp} {W:Wi} {σ:St} {G H:Hp} {ρ:ah}
theorem Bc (i:Nat) {x:Str} {es:List Expr} {pos pos' lp:Pos} {f:ah->Rs (List D)} (hN:X.N.Nodup) (he:SA X B W es f) (hi:X.N[i]?=some x:=by rfl) (hx:gP X.env.scope x:=by first|exact Or.inl rfl|exact Or.inr rfl) (hs:swapsWith (.List es lp) (some (.Name x pos')) pos.line X.env=pure false:=by rfl) (hf:X.fn x=true∨X.env.scope.names.lookup x=some .local:=by first|exact .inl rfl|exact .inr rfl|assumption) :
    SS X B W (.Assign [.Name x pos'] (.List es lp) pos) (pJ i f):=Av hN hi hx he hs hf
theorem Bd (i:Nat) {x:Str} {e:Expr} {pos p1 p2 cp:Pos} {f:ah->Rs D} (he:SE X B W e f) (hN:X.N[i]?=some x:=by rfl) (hv:kY X.env.scope x:=by first|exact Or.inl rfl|exact Or.inr (Or.inl rfl)|exact Or.inr (Or.inr rfl)) (hd:(x == ("__debug__":Str))=false:=by decide)
    (hcd:(x == ("__classdict__":Str))=false:=by decide) (hst:starEach [e] X.env=[(false,eval e X.env)]:=by rfl)
    (hbase:attributeBase (.Name x p1) "append" X.env (eval (.Name x p1) X.env)=eval (.Name x p1) X.env:=by rfl)
    (hfew:((backTo cp (starEach [e] X.env)).all (fun x=>!x.1) && (backToKw cp (keywordEach [] X.env)).all (fun x=>x.1.isSome)
      && decide (([e]:List Expr).length + ([]:List Keyword).length + (if ([]:List Keyword).isEmpty then 0 else 1) < 30))=true:=by rfl)
    (hline:(p2.endLine == cp.line)=true:=by rfl) (hplain:(backTo cp (starEach [] X.env)).any (·.1)=false:=by rfl)
    (hs:swapsWith (.Call (.Attribute (.Name x p1) "append" p2) [e] [] cp) none pos.line X.env=pure false:=by rfl) :
    SS X B W (.Expr (.Call (.Attribute (.Name x p1) "append" p2) [e] [] cp) pos) (kP i f) :=
  tZ (pe:=BY PySem.F.plainAttrs_list PySem.F.slot_list_append PySem.F.type_list_append mX (gB hN hv hd hcd) (cT he eA hst) hbase hfew hline hst hplain) (gB hN hv hd hcd) he hst hs
theorem uP (i:Nat) {st:List Stmt} {g:ah->Ou} (h:eC X B W st g):eC X B W st (mH i g):=yq i h
theorem fo {e:Expr} {p pos:Pos} {fa:ah->Rs D} (hm:X.mg "tuple"=none) (ha:SE X B W e fa) (hg:Gl X "tuple":=by rfl) (he:starEach [e] X.env=[(false,eval e X.env)]:=by rfl):SE X B W (.Call (.Name "tuple" p) [e] [] pos) (fA (aa fa aj) dG) :=
  mZ nK vZ hg hm PyProof.Rows.boot_tuple (ae ha aq he) (by decide) (by decide) he rfl
def gG:List D->Rs D
  | [.lst ds]=>.ok (.lst ds)
  | [.tup ds]=>.ok (.lst ds)
  | _=>.no
theorem wE:gp K (fun xs H Q=>∃ p ys,xs=[.ref p]/\(SqL K H p ys∨SqT K H p ys)/\∀ l,H l=none->Q (.ref l) (bc H l (.lst ys))) gG:=by
  intro B W σ ρ G H ds vs Q s r p
  unfold gG at p
  split at p
  . rename_i ds
    obtain ⟨v,vs',rfl,r1,r2⟩:=reps_cons.mp r
    obtain ⟨a,us,rfl,q,rr⟩:=rep_lst.mp r1
    rw [reps_nil.mp r2]
    refine ⟨a,us,rfl,.inl (s.en.gh.seq q),fun c hc=>?_⟩
    have x:=fq (xs:=us) s.en.gh s.en.tp hc
    exact p _ _ _ x (rep_lst.mpr ⟨c,us,rfl,.of aO,rr.mono x.gg⟩)
  . rename_i ds
    obtain ⟨v,vs',rfl,r1,r2⟩:=reps_cons.mp r
    obtain ⟨a,us,rfl,q,rr⟩:=rep_tup.mp r1
    rw [reps_nil.mp r2]
    refine ⟨a,us,rfl,.inr (Same.seqT s.en.gh q),fun c hc=>?_⟩
    have x:=fq (xs:=us) s.en.gh s.en.tp hc
    exact p _ _ _ x (rep_lst.mpr ⟨c,us,rfl,.of aO,rr.mono x.gg⟩)
  . exact p.elim
theorem rD {e:Expr} {p pos:Pos} {fa:ah->Rs D} (hm:X.mg "list"=none) (ha:SE X B W e fa) (hg:Gl X "list":=by rfl) (he:starEach [e] X.env=[(false,eval e X.env)]:=by rfl):SE X B W (.Call (.Name "list" p) [e] [] pos) (fA (aa fa aj) gG) :=
  mZ jG wE hg hm PyProof.Rows.boot_list (ae ha aq he) (by decide) (by decide) he rfl
def Be:List D->Rs D
  | [.int i]=>.ok (.int i)
  | [.bl b]=>.ok (.int (if b then 1 else 0))
  | _=>.no
def gT:D->Bool
  | .non=>true
  | _=>false
def Df:D->D->Rs D:=fun x y=>match y with|.non=>.ok (.bl (gT x))|_=>.no
def Cr:D->D->Rs D:=fun x y=>match y with|.non=>.ok (.bl (!gT x))|_=>.no
variable {a b:Expr} {pos:Pos} {fa fb:ah->Rs D}
def jB (x:D) (ds:List D):Bool:=ds.any fun d=>cx d x
def wF (K:PySem.W.Frag) (neg:Bool):R2:=fun x y H Q=>∃ d p ys ds,y=.ref p/\(SqL K H p ys∨SqT K H p ys)/\Rep K H d x/\Reps K H ds ys/\aL d<=7/\bB ds<=7/\Q (.bl (if neg then !jB d ds else jB d ds)) H
open Classical in
theorem om {pins:List (Addr×Obj)} {s:Shared} {A:Around} {x:V} {v:Value} {d:D} (I:Inv X pins σ H s) (hu:A.units + 7 < cLine) (rx:RelV x v) (rd:Rep X.K H d x) (hd:aL d<=7):∀ {ds:List D} {ys:List V} {its:List Value},Vals ys its->Reps X.K H ds ys->bB ds<=7 ->
    ∃ f:Value->Bool,(∀ u∈its,SeqAt.EqAt A s u v (f u))/\its.any f=jB d ds:=by
  intro ds ys its rv rr hds
  refine ⟨fun u=>if h:∃ d' v',Rep X.K H d' v'/\RelV v' u/\aL d'<=7 then cx (choose h) d else false,fun u hu'=>?_,?_⟩
  . obtain ⟨i,hi⟩:=List.mem_iff_getElem?.mp hu'
    obtain ⟨y,h1,h2⟩:=Vals.get' rv hi
    obtain ⟨d',h3,h4⟩:=rr.get' h1
    have hx:∃ d' v',Rep X.K H d' v'/\RelV v' u/\aL d'<=7:=⟨d',y,h4,h2,Nat.le_trans (iM (List.mem_of_getElem? h3)) hds⟩
    dsimp only
    rw [dif_pos hx]
    obtain ⟨v',q1,q2,q3⟩:=choose_spec hx
    exact tV I 7 q3 hd (by omega) q1 rd q2 rx
  . unfold jB
    induction ds generalizing ys its with
    | nil =>
      cases reps_nil.mp rr
      cases rv
      rfl
    | cons d0 ds ih =>
      obtain ⟨y,ys',rfl,r1,r2⟩:=reps_cons.mp rr
      cases rv with
      | @cons _ u _ us r3 r4 =>
        rw [List.any_cons,List.any_cons,ih r4 r2 (Nat.le_trans (by simp only [bB];exact Nat.le_max_right _ _) hds)]
        congr 1
        have hd0:aL d0<=7:=Nat.le_trans (iM (List.mem_cons_self)) hds
        have hx:∃ d' v',Rep X.K H d' v'/\RelV v' u/\aL d'<=7:=⟨d0,y,r1,r3,hd0⟩
        rw [dif_pos hx]
        obtain ⟨v',q1,q2,q3⟩:=choose_spec hx
        have:v'=y:=by
          have z1:=Vals.inj (xs:=[v']) (ys:=[y]) (us:=[u]) (.cons q2 .nil) (.cons r3 .nil)
          exact (List.cons.inj z1).1
        subst this
        rw [Rep.inj I (by omega) q1 r1]
theorem Bf (hu:X.A.units + 8 < cLine):OpR X (compareOp .In) (wF X.K false):=by
  intro pins s σ H x y v u Q I rx ry h
  obtain ⟨d,p,ys,ds,rfl,hq,rd,rr,hd,hds,q⟩:=h
  cases ry
  rcases hq with hq|hq
  . obtain ⟨its,r,pl,hz⟩:=I.list hq
    obtain ⟨f,h1,h2⟩:=om (A:=X.A.in1) I (by show X.A.units + 1 + 7 < cLine;omega) rx rd hd r rr hds
    refine SeqAt.in_listAt f pl.isList (fun w hw=>h1 w (by simpa using hw)) ⟨.bl _,H,I,rfl,?_⟩
    rw [show its.toArray.any f=its.any f by simp,h2]
    exact q
  . obtain ⟨its,r,pl,hz⟩:=I.tuple hq
    obtain ⟨f,h1,h2⟩:=om (A:=X.A.in1) I (by show X.A.units + 1 + 7 < cLine;omega) rx rd hd r rr hds
    refine SeqAt.in_tupleAt f pl (fun w hw=>h1 w (by simpa using hw)) ⟨.bl _,H,I,rfl,?_⟩
    rw [show its.toArray.any f=its.any f by simp,h2]
    exact q
theorem uQ (hu:X.A.units + 8 < cLine):OpR X (compareOp .NotIn) (wF X.K true):=by
  intro pins s σ H x y v u Q I rx ry h
  obtain ⟨d,p,ys,ds,rfl,hq,rd,rr,hd,hds,q⟩:=h
  cases ry
  rcases hq with hq|hq
  . obtain ⟨its,r,pl,hz⟩:=I.list hq
    obtain ⟨f,h1,h2⟩:=om (A:=X.A.in1) I (by show X.A.units + 1 + 7 < cLine;omega) rx rd hd r rr hds
    refine SeqAt.notIn_listAt f pl.isList (fun w hw=>h1 w (by simpa using hw)) ⟨.bl _,H,I,rfl,?_⟩
    rw [show its.toArray.any f=its.any f by simp,h2]
    exact q
  . obtain ⟨its,r,pl,hz⟩:=I.tuple hq
    obtain ⟨f,h1,h2⟩:=om (A:=X.A.in1) I (by show X.A.units + 1 + 7 < cLine;omega) rx rd hd r rr hds
    refine SeqAt.notIn_tupleAt f pl (fun w hw=>h1 w (by simpa using hw)) ⟨.bl _,H,I,rfl,?_⟩
    rw [show its.toArray.any f=its.any f by simp,h2]
    exact q
def iJ (neg:Bool):D->D->Rs D:=fun x y=>match y with
  | .lst ds=>if aL x<=7/\bB ds<=7 then .ok (.bl (if neg then !jB x ds else jB x ds)) else .no
  | .tup ds=>if aL x<=7/\bB ds<=7 then .ok (.bl (if neg then !jB x ds else jB x ds)) else .no
  | _=>.no
abbrev uR:=iJ false
abbrev gH:=iJ true
theorem uS {neg:Bool}:jJ K (wF K neg) (iJ neg):=by
  intro B W σ ρ G H x y v u Q s rx ry p
  unfold iJ at p
  split at p
  . rename_i ds
    split at p
    . rename_i hc
      obtain ⟨a,vs,rfl,q,rr⟩:=rep_lst.mp ry
      exact ⟨x,a,vs,ds,rfl,.inl (s.en.gh.seq q),rx.mono s.en.gh,rr.mono s.en.gh,hc.1,hc.2,Post.ok s p (rep_bl.mpr rfl)⟩
    . exact p.elim
  . rename_i ds
    split at p
    . rename_i hc
      obtain ⟨a,vs,rfl,q,rr⟩:=rep_tup.mp ry
      exact ⟨x,a,vs,ds,rfl,.inr (Same.seqT s.en.gh q),rx.mono s.en.gh,rr.mono s.en.gh,hc.1,hc.2,Post.ok s p (rep_bl.mpr rfl)⟩
    . exact p.elim
  . exact p.elim
theorem sw (hu:X.A.units + 8 < cLine) (ha:SE X B W a fa) (hb:SE X B W b fb) (hm:behindInMarks .In b=false:=by rfl):SE X B W (.Compare a [.In] [b] pos) (ai uR fa fb):=oE (Bf hu) uS ha hb hm
theorem pK (hu:X.A.units + 8 < cLine) (ha:SE X B W a fa) (hb:SE X B W b fb) (hm:behindInMarks .NotIn b=false:=by rfl):ST X B W (.Compare a [.NotIn] [b] pos) (fT (ai gH fa fb)):=iN (uQ hu) uS ha hb hm
end
end Vl
namespace Vl
open PySem PySem.Spec L2 So Tb
section
variable {X:Cx} {B:Hp×Hp} {W:Wi} {K:PySem.W.Frag}
theorem Bg {U:Addr->List Int->Prop} {out:List Value} {kss:List (List Int)} (ho:lK U out kss):∃ ys:List V,Vals ys out/\ys.length=kss.length/\∀ (i:Nat) v,ys[i]?=some v->∃ b,v=.ref b/\U b (kss.getD i []):=by
  refine ⟨out.map fun v=>match v with|.ref b=>V.ref b|_=>V.non,?_,by simp [ho.1],fun i v hv=>?_⟩
  . have:∀ v∈out,∃ b,v=Value.ref b:=fun v hv=>by
      obtain ⟨i,hi⟩:=List.mem_iff_getElem?.mp hv
      obtain ⟨b,e,_⟩:=ho.2 i v hi;exact ⟨b,e⟩
    clear ho
    induction out with
    | nil=>exact .nil
    | cons a out ih =>
      obtain ⟨b,rfl⟩:=this a (.head _)
      exact .cons rfl (ih fun v hv=>this v (.tail _ hv))
  . rw [List.getElem?_map] at hv
    cases e:out[i]? with
    | none=>rw [e] at hv;cases hv
    | some v' =>
      rw [e] at hv
      obtain ⟨b,rfl,h2⟩:=ho.2 i v' e
      exact ⟨b,(Option.some.inj hv).symm,h2⟩
theorem jH:∀ {us:List Value} {ns:List Int},PyProof.Rows.IntsAre us ns->Vals (ns.map V.int) us:=by
  intro us ns h
  induction h with
  | nil=>exact .nil
  | cons n t _ ih=>exact .cons ⟨t,rfl⟩ ih
end
end Vl
namespace Vl
open PySem PySem.Spec L2
section
variable {X:Cx} {B:Hp×Hp} {W:Wi} {K:PySem.W.Frag}
end
end Vl
namespace Vl
open PySem PySem.Spec L2
theorem rE (i:Nat) {X:Cx} {B:Hp×Hp} {W:Wi} {y:Str} {py spos:Pos} {tg iter:Expr} {elt:Expr} {sc:Scope} {pos:Pos} {N:List Str} {nt:Nat} {caps:List Nat} {h:Tg} {fe:ah->Rs D} {fi:ah->Rs (List D)} (hN:X.N.Nodup)
    (c:Caps X sc N nt caps) (hc:X.calm=true) (hnames:sc.names.all (fun y=>y.2 != .local || sc.names.lookup y.1 == some .local)=true) (hi:SI X B W tg iter fi) (hno:ii h)
    (ht:∀ s₀ H₀ C ex pins B',SG (cK X N s₀ H₀ sc (cj sc X.env) C ex pins) B' tg h)
    (he:∀ s₀ H₀ C ex pins B',SE (cK X N s₀ H₀ sc (cj sc X.env) C ex pins) B' WF elt fe)
    (hs:∀ x,foldedSetIterable iter X.env x=pure x:=by intro _;rfl) (hi':X.N[i]?=some y:=by rfl) (hx:gP X.env.scope y:=by first|exact Or.inl rfl|exact Or.inr rfl)
    (hsw:swapsWith (.ListComp elt [⟨tg,iter,[],0⟩] sc pos) (some (.Name y py)) spos.line X.env=pure true:=by rfl)
    (hf:X.fn y=true∨X.env.scope.names.lookup y=some .local:=by first|exact .inl rfl|exact .inr rfl|assumption) :
    SS X B W (.Assign [.Name y py] (.ListComp elt [⟨tg,iter,[],0⟩] sc pos) spos) (bI i (bM h (fun _=>.ok true) fe nt caps fi)) :=
  lB hN hi' hx c hc (fun y hy hl=>by
    have:=List.all_eq_true.mp hnames y hy
    simp only [Bool.or_eq_true,bne_iff_ne,beq_iff_eq,ne_eq] at this
    exact this.elim (fun z=>absurd hl z) id) hi hno ht (.inl ⟨rfl,rfl⟩) he hs hsw hf
theorem np (i:Nat) {X:Cx} {B:Hp×Hp} {W:Wi} {y:Str} {py spos:Pos} {tg iter:Expr} {elt cnd:Expr} {sc:Scope} {pos:Pos} {N:List Str} {nt:Nat} {caps:List Nat} {h:Tg} {ft:ah->Rs Bool} {fe:ah->Rs D} {fi:ah->Rs (List D)} (hN:X.N.Nodup)
    (c:Caps X sc N nt caps) (hc:X.calm=true) (hnames:sc.names.all (fun y=>y.2 != .local || sc.names.lookup y.1 == some .local)=true) (hi:SI X B W tg iter fi) (hno:ii h)
    (ht:∀ s₀ H₀ C ex pins B',SG (cK X N s₀ H₀ sc (cj sc X.env) C ex pins) B' tg h)
    (hif:∀ s₀ H₀ C ex pins B',ST (cK X N s₀ H₀ sc (cj sc X.env) C ex pins) B' WF cnd ft)
    (he:∀ s₀ H₀ C ex pins B',SE (cK X N s₀ H₀ sc (cj sc X.env) C ex pins) B' WF elt fe)
    (hs:∀ x,foldedSetIterable iter X.env x=pure x:=by intro _;rfl) (hi':X.N[i]?=some y:=by rfl) (hx:gP X.env.scope y:=by first|exact Or.inl rfl|exact Or.inr rfl)
    (hsw:swapsWith (.ListComp elt [⟨tg,iter,[cnd],0⟩] sc pos) (some (.Name y py)) spos.line X.env=pure true:=by rfl)
    (hf:X.fn y=true∨X.env.scope.names.lookup y=some .local:=by first|exact .inl rfl|exact .inr rfl|assumption) :
    SS X B W (.Assign [.Name y py] (.ListComp elt [⟨tg,iter,[cnd],0⟩] sc pos) spos) (bI i (bM h ft fe nt caps fi)) :=
  lB hN hi' hx c hc (fun y hy hl=>by
    have:=List.all_eq_true.mp hnames y hy
    simp only [Bool.or_eq_true,bne_iff_ne,beq_iff_eq,ne_eq] at this
    exact this.elim (fun z=>absurd hl z) id) hi hno ht (.inr ⟨cnd,rfl,hif⟩) he hs hsw hf
end Vl
namespace Vl
open PySem PySem.Spec L2
section
variable {X:Cx} {B:Hp×Hp} {W:Wi} {K:PySem.W.Frag} {a b:Expr} {pos:Pos} {fa fb:ah->Rs D}
end
end Vl
namespace Vl
open PySem PySem.Spec L2
section
variable {X:Cx} {B:Hp×Hp} {W:Wi}
theorem mI {pins:List (Addr×Obj)} {σ:St} {H:Hp} {s:Shared} {b:Addr} {ks:List Int} (I:Inv X pins σ H s) (h:SqT X.K H b (ks.map V.int)):IsTupleKey (intKind X.prog X.w) s.heap ks b:=by
  obtain ⟨its,r,⟨o,ho,hc,n,hd⟩,hz⟩:=I.tuple h
  refine ⟨o,its.toArray,n,ho,hc,hd,?_⟩
  show ItemsAre _ ks its
  clear hd h hz
  induction ks generalizing its with
  | nil=>cases r;exact .nil
  | cons k ks ih =>
    cases r with
    | cons r1 r2 =>
      obtain ⟨t,rfl⟩:=r1
      exact .cons (intKind_is X.prog X.w k t) (ih _ r2)
abbrev DP (U:Addr->List Int->Prop):=Paired (fun (p:List Int×V) (q:List Int×Addr×Value)=>p.1=q.1/\U q.2.1 q.1/\RelV p.2 q.2.2)
theorem pL {pins:List (Addr×Obj)} {σ:St} {H:Hp} {s:Shared} {d:Addr} {U:Addr->List Int->Prop} {kvv:List (List Int×V)} (I:Inv X pins σ H s) (hd:H d=some (.ext (DicH U d kvv))) (hU:∀ b ks,U b ks->UG X.K H b ks) :
    ∃ xs,s.heap.DictOfH (tupleKind (intKind X.prog X.w)) d xs/\(d == sysModules)=false/\DP U kvv xs/\(xs.map (·.1)).Nodup:=by
  obtain ⟨⟨o,es,ep,xs,h1,h2,h3,h4,h5,h6,h7⟩,_,_⟩:=(show ObjOk X.prog X.w H s.heap d (.ext (DicH U d kvv)) from I.hok d _ hd)
  refine ⟨xs,⟨o,es,ep,h1,h2,h3,h5,fun x hx=>?_,h6⟩,h4,h7,h6⟩
  have:∀ {kvv:List (List Int×V)} {xs:List (List Int×Addr×Value)},DP U kvv xs->∀ x∈xs,U x.2.1 x.1:=by
    intro kvv xs r
    induction r with
    | nil=>intro x hx;cases hx
    | cons r1 _ ih =>
      intro x hx
      rcases List.mem_cons.mp hx with rfl|hx
      . exact r1.2.1
      . exact ih x hx
  exact mI I (hU _ _ (this h7 x hx))
def fI (kvv:List (List Int×V)) (ks:List Int):Option V:=(kvv.find? fun p=>decide (p.1=ks)).map (·.2)
def kQ (kvv:List (List Int×V)) (ks:List Int) (v:V):List (List Int×V):=if (fI kvv ks).isSome then kvv.map (fun p=>if p.1=ks then (p.1,v) else p) else kvv++[(ks,v)]
theorem kR {U:Addr->List Int->Prop} {ks:List Int}:∀ {kvv:List (List Int×V)} {xs:List (List Int×Addr×Value)},DP U kvv xs->(fI kvv ks=none/\atKey xs ks=none)∨∃ v q,fI kvv ks=some v/\atKey xs ks=some q/\RelV v q.2
  | [],_,.nil=>.inl ⟨rfl,rfl⟩
  | p::kvv,q::xs,.cons r t=>by
    by_cases c:p.1=ks
    . have c':q.1=ks:=r.1▸c
      exact .inr ⟨p.2,q.2,by simp [fI,List.find?_cons,c],by simp [atKey,List.find?_cons,c'],r.2.2⟩
    . have c':¬ q.1=ks:=fun z=>c (r.1.trans z)
      have e1:fI (p::kvv) ks=fI kvv ks:=by simp [fI,List.find?_cons,c]
      have e2:atKey (q::xs) ks=atKey xs ks:=by simp [atKey,List.find?_cons,c']
      rw [e1,e2]
      exact kR t
theorem Paired.app {α β:Type} {F:α->β->Prop}:∀ {l₁ l₁':List α} {l₂ l₂':List β},Paired F l₁ l₂->Paired F l₁' l₂'->Paired F (l₁++l₁') (l₂++l₂')
  | _,_,_,_,.nil,t'=>t'
  | _,_,_,_,.cons r t,t'=>.cons r (Paired.app t t')
theorem wG {U:Addr->List Int->Prop} {ks:List Int} {b:Addr} {v:V} {u:Value} {kvv:List (List Int×V)} {xs:List (List Int×Addr×Value)} (r:DP U kvv xs) (hb:U b ks) (rv:RelV v u):DP U (kQ kvv ks v) (storedH xs ks b u):=by
  rcases kR (ks:=ks) r with ⟨e1,e2⟩|⟨v',q,e1,e2,_⟩
  . unfold kQ storedH
    rw [e1,e2]
    exact Paired.app r (.cons ⟨rfl,hb,rv⟩ .nil)
  . unfold kQ storedH
    rw [e1,e2]
    show DP U (kvv.map _) (xs.map _)
    clear e1 e2
    induction r with
    | nil=>exact .nil
    | cons r1 _ ih =>
      refine .cons ?_ ih
      rename_i p q' _ _ _
      by_cases c:p.1=ks
      . have c':q'.1=ks:=r1.1▸c
        unfold putAt
        dsimp only
        rw [if_pos c,if_pos c']
        exact ⟨r1.1,r1.2.1,rv⟩
      . have c':¬ q'.1=ks:=fun z=>c (r1.1.trans z)
        unfold putAt
        dsimp only
        rw [if_neg c,if_neg c']
        exact r1
theorem mJ {U:Addr->List Int->Prop} {P:Program} {w:World} {d:Addr} {h':Heap} {xs:List (List Int×Addr×Value)} {kvv:List (List Int×V)} {H:Hp} (hm:h'.DictOfH (tupleKind (intKind P w)) d xs) (hs:(d == sysModules)=false) (hp:DP U kvv xs):ObjOk P w H h' d (.ext (DicH U d kvv)):=by
  obtain ⟨o,es,ep,h1,h2,h3,h4,h5,h6⟩:=hm
  refine ⟨⟨o,es,ep,xs,h1,h2,h3,hs,h4,h6,hp⟩,⟨o,h1⟩,?_⟩
  rintro g1 g2 ⟨o,es,ep,xs,h1,h2,h3,hs,h4,h6,hp⟩ k
  exact ⟨o,es,ep,xs,k _ h1,h2,h3,hs,h4,h6,hp⟩
end
end Vl
namespace Vl
open PySem PySem.Spec L2
section
variable {X:Cx} {B:Hp×Hp} {W:Wi}
theorem DicH.mono {U U':Addr->List Int->Prop} {a:Addr} {kvv:List (List Int×V)} {xs:List (List Int×Addr×Value)} (h:∀ b ks,U b ks->U' b ks) (r:DP U kvv xs):DP U' kvv xs:=Paired.mapP r fun p q z=>⟨z.1,h _ _ z.2.1,z.2.2⟩
def Cs (K:PySem.W.Frag):rS:=fun o i v H Q=>∃ (b d:Addr) (ks:List Int) (U U':Addr->List Int->Prop) (kvv:List (List Int×V)),o=.ref d/\i=.ref b/\SqT K H b (ks.map V.int)/\H d=some (.ext (DicH U d kvv))/\(∀ b ks,U b ks->U' b ks)/\(∀ b ks,U' b ks->UG K H b ks)/\U' b ks/\kvv.length<=1000000 /\
  Q (bc H d (.ext (DicH U' d (kQ kvv ks v))))
theorem Bh (hu:X.A.units + 1 < cLine):vG X (Cs X.K):=by
  intro pins s σ H o i v ov iv u Q I ro ri rv ⟨b,d,ks,U,U',kvv,e1,e2,hb,hd,hm,hU,hk,hz,q⟩
  subst e1;subst e2
  cases ro;cases ri
  obtain ⟨xs,hx,hs,hp,_⟩:=pL I hd fun b ks z=>hU b ks (hm b ks z)
  refine wpAny_setItem_heap (tupleKind_room_in1 hu) (mI I hb) hx (fun h' hx' sb=>?_) (by rw [<- Paired.length hp];exact Al hz)
  refine ⟨_,I.write (x:=d) (e:=d) (t':=_) (by rw [hd];trivial) (.inl rfl) (fun b' u' ne e=>?_) ?_ (mJ hx' hs (wG (DicH.mono (a:=d) hm hp) hk rv)),q⟩
  . exact (sb.2 b' ne).symm▸e
  . obtain ⟨o,_,_,e,_⟩:=hx';exact ⟨o,e⟩
theorem yS {pos:Pos}:PE X (.Dict [] [] pos) (fun _ H Q=>∀ l,H l=none->Q (.ref l) (bc H l (.ext (DicH (fun _ _=>False) l [])))):=by
  intro pins s σ H Q I h
  have far:sysModules≠s.heap.objs.size:=fun z=>by
    have lt:=(I.mod.glob.keeps I.bk).lt
    rw [<- z] at lt
    exact absurd lt (by decide)
  refine wpAny_Dict_empty ⟨.ref s.heap.objs.size,_,I.laid (t':=s.toks) (fun b u e=>Heap.get?_push_of_some _ e) (Nat.le_refl _) (mJ (.new s.heap) (by simpa using Ne.symm far) .nil),rfl,h _ I.fresh⟩
theorem yT {i:Nat} {x:Str} {pos pos' lp:Pos} (hN:X.N.Nodup) (hi:X.N[i]?=some x) (hx:gP X.env.scope x) (hs:swapsWith (.Dict [] [] lp) (some (.Name x pos')) pos.line X.env=pure false:=by rfl) (hf:X.fn x=true∨X.env.scope.names.lookup x=some .local:=by first|exact .inl rfl|exact .inr rfl|assumption) :
    SS X B W (.Assign [.Name x pos'] (.Dict [] [] lp) pos) (fun ρ=>.nx (ρ.set i (.od []))):=by
  refine PS.imp (lc hN hi hx yS hs hf) fun De σ H ⟨ρ,G,s,p⟩=>fun l hl=>?_
  exact p _ _ G (s.setOwn rfl ⟨_,[],rfl,fun _ _ z=>z.elim,.nil⟩ hl) (.refl _)
def im:List D->Option (List Int)
  | []=>some []
  | .int i::ds=>(im ds).map (i::·)
  | _::_=>none
def jp:D->Option (List Int)
  | .tup ds=>im ds
  | _=>none
theorem lP {K:PySem.W.Frag} {G:Hp}:∀ {ds:List D} {vs:List V} {ks:List Int},Reps K G ds vs->im ds=some ks->vs=ks.map V.int
  | [],vs,ks,r,e=>by
    cases e;exact reps_nil.mp r
  | d::ds,vs,ks,r,e=>by
    obtain ⟨v,vs',rfl,r1,r2⟩:=reps_cons.mp r
    cases d with
    | int i =>
      simp only [im] at e
      cases e2:im ds with
      | none=>rw [e2] at e;cases e
      | some js =>
        rw [e2] at e;cases e
        rw [rep_int.mp r1,lP r2 e2];rfl
    | _=>cases e
theorem yU {K:PySem.W.Frag} {G:Hp} {d:D} {v:V} {ks:List Int} (r:Rep K G d v) (e:jp d=some ks):∃ b,v=.ref b/\SqT K G b (ks.map V.int):=by
  cases d with
  | tup ds =>
    obtain ⟨a,vs,rfl,h,rr⟩:=rep_tup.mp r
    exact ⟨a,rfl,lP rr e▸h⟩
  | _=>cases e
def eK (kvs:List (List Int×D)) (ks:List Int):Option D:=(kvs.find? fun p=>decide (p.1=ks)).map (·.2)
def ef (kvs:List (List Int×D)) (ks:List Int) (d:D):List (List Int×D):=if (eK kvs ks).isSome then kvs.map (fun p=>if p.1=ks then (p.1,d) else p) else kvs++[(ks,d)]
theorem KReps.get {K:PySem.W.Frag} {G:Hp} {ks:List Int} {kvs:List (List Int×D)} {kvv:List (List Int×V)} (h:KReps K G kvs kvv):(eK kvs ks=none/\fI kvv ks=none)∨∃ d v,eK kvs ks=some d/\fI kvv ks=some v/\Rep K G d v:=by
  induction h with
  | nil=>exact .inl ⟨rfl,rfl⟩
  | @cons k d v kvs kvv r t ih =>
    by_cases c:k=ks
    . exact .inr ⟨d,v,by simp [eK,List.find?_cons,c],by simp [fI,List.find?_cons,c],r⟩
    . have e1:eK ((k,d)::kvs) ks=eK kvs ks:=by simp [eK,List.find?_cons,c]
      have e2:fI ((k,v)::kvv) ks=fI kvv ks:=by simp [fI,List.find?_cons,c]
      rw [e1,e2];exact ih
theorem KReps.app {K:PySem.W.Frag} {G:Hp} {k:List Int} {d:D} {v:V} {kvs:List (List Int×D)} {kvv:List (List Int×V)} (h:KReps K G kvs kvv) (r:Rep K G d v):KReps K G (kvs++[(k,d)]) (kvv++[(k,v)]):=by
  induction h with
  | nil=>exact .cons r .nil
  | cons r1 _ ih=>exact .cons r1 ih
theorem KReps.len {K:PySem.W.Frag} {G:Hp} {kvs:List (List Int×D)} {kvv:List (List Int×V)} (h:KReps K G kvs kvv):kvs.length=kvv.length:=by
  induction h with
  | nil=>rfl
  | cons _ _ ih=>simp [ih]
theorem KReps.put {K:PySem.W.Frag} {G:Hp} {ks:List Int} {d:D} {v:V} {kvs:List (List Int×D)} {kvv:List (List Int×V)} (h:KReps K G kvs kvv) (r:Rep K G d v):KReps K G (ef kvs ks d) (kQ kvv ks v):=by
  rcases h.get (ks:=ks) with ⟨e1,e2⟩|⟨_,_,e1,e2,_⟩
  . unfold ef kQ;rw [e1,e2];exact h.app r
  . unfold ef kQ;rw [e1,e2]
    show KReps K G (kvs.map _) (kvv.map _)
    clear e1 e2
    induction h with
    | nil=>exact .nil
    | @cons k d' v' kvs kvv r1 _ ih =>
      by_cases c:k=ks
      . simpa [c] using KReps.cons r ih
      . simpa [c] using KReps.cons r1 ih
theorem SR.od {K:PySem.W.Frag} {σ:St} {H G:Hp} {ρ:ah} (h:SR K B σ H ρ G) {i:Nat} {kvs:List (List Int×D)} (q:ρ[i]?=some (.od kvs)) :
    ∃ a U kvv,σ[i]?=some (some (.ref a))/\H a=some (.ext (DicH U a kvv))/\G a=none/\B.2 a=none/\(∀ b ks,U b ks->UG K G b ks)/\KReps K G kvs kvv:=by
  obtain ⟨a,o,h1,h2,h3,h4,U,kvv,rfl,h5,h6⟩:=h.own i _ q rfl
  exact ⟨a,U,kvv,h1,h2,h3,h4,h5,h6⟩
end
end Vl
namespace Vl
open PySem PySem.Spec L2
section
variable {X:Cx} {B:Hp×Hp} {W:Wi}
theorem uT {K:PySem.W.Frag} {σ:St} {H G H' G':Hp} {ρ:ah} {j:Nat} {kvs:List (List Int×D)} {k:D} {v:V} {ks:List Int} (s:SR K B σ H ρ G) (q:ρ[j]?=some (.od kvs)) (y:Ext G H G' H') (r:Rep K G' k v) (e:jp k=some ks) :
    ∃ b d U kvv,v=.ref b/\σ[j]?=some (some (.ref d))/\SqT K H' b (ks.map V.int)/\UG K G' b ks/\H' d=some (.ext (DicH U d kvv))/\(∀ b ks,U b ks->UG K G' b ks)/\(∀ b ks,UG K G' b ks->UG K H' b ks)/\KReps K G' kvs kvv:=by
  obtain ⟨b,rfl,hb⟩:=yU r e
  obtain ⟨d,U,kvv,h1,h2,h3,h4,h5,h6⟩:=s.od q
  exact ⟨b,d,U,kvv,rfl,h1,Same.seqT y.gh hb,hb,y.hh _ _ h2,fun c js z=>Same.seqT y.gg (h5 c js z),fun c js z=>Same.seqT y.gh z,h6.mono y.gg⟩
def iE (j:Nat) (fe fk:ah->Rs D):ah->Ou:=fun ρ=>oR (fe ρ) ρ fun v=>match ρ[j]? with
  | some (.od kvs)=>oR (fk ρ) ρ fun k=>(match jp k with
    | some ks=>if kvs.length<=1000000 then .nx (ρ.set j (.od (ef kvs ks v))) else .no
    | none=>.no)
  | _=>.no
theorem yV {e b:Expr} {x:Str} {p1 tp pos:Pos} {j:Nat} {fe fk:ah->Rs D} (hu:X.A.units + 1 < cLine) (he:SE X B W e fe) (hv:PE X (.Name x p1) (ms j)) (hb:SE X B W b fk)
    (hs:swapsWithSole [.Subscript (.Name x p1) b tp] e pos.line X.env=pure false:=by rfl) (hw:swappedStores [.Subscript (.Name x p1) b tp] e X.env=pure none:=by rfl)
    (h1:(assignEach [.Subscript (.Name x p1) b tp] X.env).map (·.2)=[assign (.Subscript (.Name x p1) b tp) X.env]:=by rfl)
    (ha:∀ v,assign (.Subscript (.Name x p1) b tp) X.env v=(do
      let ov <- holding [v] (eval (.Name x p1) X.env)
      let iv <- holding [v,ov] (eval b X.env)
      standAt tp
      holding [v,ov,iv] (setItem ov iv v)
      release [v,ov,iv] []):=by intro _;rfl) :
    SS X B W (.Assign [.Subscript (.Name x p1) b tp] e pos) (iE j fe fk):=by
  refine PS.imp (oy he (tt hv hb (Bh hu) ha) hs hw h1) fun De σ H ⟨ρ,G,s,p⟩=>?_
  unfold iE at p
  refine ⟨ρ,G,s,cN s p fun d v H' G' _ y r p'=>?_⟩
  cases e2:ρ[j]? with
  | none=>rw [e2] at p';exact p'.elim
  | some z =>
    rw [e2] at p'
    cases z with
    | od kvs =>
      have s':=s.ext y
      obtain ⟨d0,U0,kvv0,h1,h2,_⟩:=s'.od e2
      refine ⟨_,h1,ρ,G',s',cN s' p' fun k v2 H2 G2 _ y2 r2 p2=>?_⟩
      cases e1:jp k with
      | none=>rw [e1] at p2;exact p2.elim
      | some ks =>
        rw [e1] at p2
        dsimp only at p2
        by_cases hl:kvs.length<=1000000
        . rw [if_pos hl] at p2
          obtain ⟨b',d1,U,kvv,rfl,q1,q2,q3,q4,q5,q6,q7⟩:=uT s' e2 y2 r2 e1
          rw [h1] at q1
          cases q1
          refine ⟨b',d0,ks,U,UG X.K G2,kvv,rfl,rfl,q2,q4,q5,q6,q3,by rw [<- q7.len];exact hl,?_⟩
          exact p2 σ _ G2 ((s'.ext y2).writeOwn e2 rfl h1 rfl ⟨UG X.K G2,_,rfl,fun _ _ z=>z,q7.put (r.mono y2.gg)⟩) (.refl _)
        . rw [if_neg hl] at p2;exact p2.elim
    | _=>exact p'.elim
end
end Vl
namespace Vl
open PySem PySem.Spec L2
section
variable {X:Cx} {B:Hp×Hp} {W:Wi}
end
end Vl
namespace Vl
open PySem PySem.Spec L2
def wH (i:Nat):ah->Ou:=fun ρ=>.nx (ρ.set i (.od []))
section
variable {X:Cx} {B:Hp×Hp} {W:Wi}
theorem uU (i:Nat) {x:Str} {pos pos' lp:Pos} (hN:X.N.Nodup) (hi:X.N[i]?=some x:=by rfl) (hx:gP X.env.scope x:=by first|exact Or.inl rfl|exact Or.inr rfl) (hs:swapsWith (.Dict [] [] lp) (some (.Name x pos')) pos.line X.env=pure false:=by rfl) (hf:X.fn x=true∨X.env.scope.names.lookup x=some .local:=by first|exact .inl rfl|exact .inr rfl|assumption) :
    SS X B W (.Assign [.Name x pos'] (.Dict [] [] lp) pos) (wH i):=yT hN hi hx hs hf
theorem Ct (h:X.A.units + 8 < cLine):X.A.units + 1 < cLine:=by omega
theorem mK (j:Nat) {e b:Expr} {x:Str} {p1 tp pos:Pos} {fe fk:ah->Rs D} (hu:X.A.units + 8 < cLine) (he:SE X B W e fe) (hb:SE X B W b fk) (hN:X.N[j]?=some x:=by rfl) (hv:kY X.env.scope x:=by first|exact Or.inl rfl|exact Or.inr (Or.inl rfl)|exact Or.inr (Or.inr rfl)) (hd:(x == ("__debug__":Str))=false:=by decide)
    (hcd:(x == ("__classdict__":Str))=false:=by decide)
    (hs:swapsWithSole [.Subscript (.Name x p1) b tp] e pos.line X.env=pure false:=by rfl) (hw:swappedStores [.Subscript (.Name x p1) b tp] e X.env=pure none:=by rfl)
    (h1:(assignEach [.Subscript (.Name x p1) b tp] X.env).map (·.2)=[assign (.Subscript (.Name x p1) b tp) X.env]:=by rfl)
    (ha:∀ v,assign (.Subscript (.Name x p1) b tp) X.env v=(do
      let ov <- holding [v] (eval (.Name x p1) X.env)
      let iv <- holding [v,ov] (eval b X.env)
      standAt tp
      holding [v,ov,iv] (setItem ov iv v)
      release [v,ov,iv] []):=by intro _;rfl) :
    SS X B W (.Assign [.Subscript (.Name x p1) b tp] e pos) (iE j fe fk):=yV (Ct hu) he (gB hN hv hd hcd) hb hs hw h1 ha
end
end Vl
namespace Vl
open PySem PySem.Spec L2
section
variable {X:Cx} {K:PySem.W.Frag} {B:Hp×Hp} {W:Wi} {σ:St} {G H:Hp} {ρ:ah} {a b c:Expr} {pos:Pos} {fa fb fc:ah->Rs D}
def iF:List D->Rs D
  | [.int i,.int j]=>.ok (.int (if j < i then j else i))
  | _=>.no
theorem yW:gp K (fun xs H Q=>∃ i j,xs=[V.int i,.int j]/\Q (.int (if j < i then j else i)) H) iF:=by
  intro B W σ ρ G H ds vs Q s r p
  match ds,p,r with
  | [.int i,.int j],p,r =>
    obtain ⟨v1,vs1,rfl,r1,r2⟩:=reps_cons.mp r
    obtain ⟨v2,vs2,rfl,r3,r4⟩:=reps_cons.mp r2
    cases reps_nil.mp r4
    exact ⟨i,j,by rw [rep_int.mp r1,rep_int.mp r3],p _ H G s.ext0 (rep_int.mpr rfl)⟩
theorem mL {e e':Expr} {p pos:Pos} (hc:X.calm=true) (hm:X.mg "min"=none) (ha:SE X B W e fa) (hb:SE X B W e' fb) (hg:Gl X "min":=by rfl) (he:starEach [e,e'] X.env=[(false,eval e X.env),(false,eval e' X.env)]:=by rfl) (he':starEach [e'] X.env=[(false,eval e' X.env)]:=by rfl) :
    SE X B W (.Call (.Name "min" p) [e,e'] [] pos) (fA (aa fa (aa fb aj)) iF) :=
  ig (tM hc) yW hg hm rfl (ae ha (ae hb aq he') (by rw [he,he'])) (by decide) (by decide) (by rw [he,he']) (by rw [he'];rfl)
end
end Vl
namespace Vl
open PySem PySem.Spec L2
section
variable {X:Cx} {B:Hp×Hp} {W:Wi}
end
end Vl
namespace L2
open PySem PySem.Spec PyProof.Rows
section
variable {X:Cx} {pins:List (Addr×Obj)} {σ:List (Option V)} {H:Hp} {s:Shared} {h':Heap}
theorem Inv.turnLaid {t':Nat} {ch:List Addr} {T:Addr} {o:HO} (I:Inv X pins σ H s) (k:∀ b u,b∉ch->s.heap.get? b=some u->h'.get? b=some u) (hf:∀ b∈ch,dz X pins H b) (hT:s.heap.objs.size<=T)
    (new:ObjOk X.prog X.w (bc H T o) h' T o):Inv X pins σ (bc H T o) { s with heap:=h',toks:=t' }:=by
  have fr:H T=none:=I.hok.fresh hT
  have neT:∀ b u,s.heap.get? b=some u->b≠T:=fun b u e=>Nat.ne_of_lt (Nat.lt_of_lt_of_le (Heap.lt_size e) hT)
  have tr:∀ b u,H b=some u->b≠T:=fun b u e=>aR e fr
  have nch:∀ b u,H b=some u->b∉ch:=fun b u e z=>by rw [(hf b z).1] at e;cases e
  refine I.step (g':=s.gens) (d':=s.drawn) (ch:=ch) (fun b hb=>⟨(hf b hb).2.2.2.1,(hf b hb).2.1,(hf b hb).2.2.2.2.1,(hf b hb).2.2.2.2.2⟩) (fun b o _ _ hc e _=>k b o hc e) (fun b o _ _ hc e _=>⟨o.slots,k b o hc e⟩) (fun b o _ e n=>by rw [aI (neT b o e)];exact n)
    (fun b o hc e=>⟨o,k b o hc e⟩) (fun b xs e=>by rw [aI (tr _ _ e)];exact e) (fun b o u e=>by rw [aI (tr _ _ e)];exact e) (fun b ps e=>⟨#[],by rw [aI (tr _ _ e),e];simp⟩) (fun m hm=>?_) (fun b u e=>?_) I.bare
  . obtain ⟨o,es,ep,ho,r⟩:=hm
    exact ⟨o,es,ep,k _ o (fun z=>(hf _ z).2.1 rfl) ho,r⟩
  . by_cases hb:b=T
    . subst hb;rw [aO] at e;cases e;exact new
    . rw [aI hb] at e
      refine (I.hok b u e).stay (fun c v hc q=>k c v ?_ q) (fun c q=>by rw [aI (tr _ _ q)];exact q) fun c xs q=>by rw [aI (tr _ _ q)];exact q
      rcases hc with z|z
      . rw [z];exact nch b u e
      . exact nch c _ z
theorem Inv.turnedL {t':Nat} {ch:List Addr} (I:Inv X pins σ H s) (k:∀ b u,b∉ch->s.heap.get? b=some u->h'.get? b=some u) (hf:∀ b∈ch,dz X pins H b):Inv X pins σ H { s with heap:=h',toks:=t' }:=by
  have nch:∀ b u,H b=some u->b∉ch:=fun b u e z=>by rw [(hf b z).1] at e;cases e
  refine I.step (g':=s.gens) (d':=s.drawn) (ch:=ch) (fun b hb=>⟨(hf b hb).2.2.2.1,(hf b hb).2.1,(hf b hb).2.2.2.2.1,(hf b hb).2.2.2.2.2⟩) (fun b o _ _ hc e _=>k b o hc e) (fun b o _ _ hc e _=>⟨o.slots,k b o hc e⟩) (fun _ _ _ _ n=>n)
    (fun b o hc e=>⟨o,k b o hc e⟩) (fun _ _ e=>e) (fun _ _ _ e=>e) (fun b ps e=>⟨#[],by rw [e];simp⟩) (fun m hm=>?_) (fun b u e=>?_) I.bare
  . obtain ⟨o,es,ep,ho,r⟩:=hm
    exact ⟨o,es,ep,k _ o (fun z=>(hf _ z).2.1 rfl) ho,r⟩
  . refine (I.hok b u e).stay (fun c v hc q=>k c v ?_ q) (fun _ q=>q) fun _ _ q=>q
    rcases hc with z|z
    . rw [z];exact nch b u e
    . exact nch c _ z
end
section
variable {X:Cx}
end
end L2
namespace Vl
open PySem PySem.Spec L2
section
variable {X:Cx} {B:Hp×Hp} {W:Wi}
end
end Vl
namespace PySem
namespace Rvd
theorem uV:Slot "reversed" "__init__" "object.__init__" :=
  .of (owner:="object") (n:="__init__") (by rw [typeLookup_type,builtinLookup_eq_fast];kernel_rfl) (by decide +kernel) (by decide +kernel) (by decide +kernel)
    (by first|exact .inl (by decide +kernel)|exact .inr (by decide +kernel)) (by rw [isSubtype_type];kernel_rfl)
theorem Du:TypeCalled "reversed" "reversed.__new__" "object.__init__" :=
  ⟨by decide +kernel,by decide +kernel,⟨_,_,F.mro_reversed⟩,F.made_reversed,by decide +kernel,by rw [isSubtype_type];kernel_rfl,uV⟩
end Rvd
section
variable {prog:Program} {w:World} {A:Around} {E:Value->Shared->Prop} {s:Shared}
end
end PySem
namespace PySem
open PyProof.Rows (IsTup)
section
variable {prog:Program} {w:World} {A:Around} {E:Value->Shared->Prop} {s:Shared}
end
section
variable {prog:Program} {w:World} {A:Around} {E:Value->Shared->Prop} {s:Shared}
end
end PySem
namespace Vl
open PySem PySem.Spec L2
section
variable {X:Cx} {B:Hp×Hp} {W:Wi} {K:PySem.W.Frag}
end
end Vl
namespace Vl
open PySem PySem.Spec PySem.Calls PySem.W L2
structure FunD (K:PySem.W.Frag) (x:Str) (st:Stmt) (f:Addr) (fd:FuncData) (ps:List Str):Prop where
  ex:∃ (oc:Value) (od:Option Addr) (dV kV doc pm:Value) (an:Option Addr) (cdv ct:Value) (osl:Array (Option Value)),
    fd=PySem.W.fnOf x x (aX st) (aT st) (au st) dV kV doc pm an cdv ct/\K.lookup f=some ⟨oc,od,.func fd,osl⟩/\PySem.W.codeIn K cdv x=true
  kp:PySem.W.keepIn K (.ref f)=true
  bi:Binds K fd ps []
end Vl
namespace Vl
open PySem PySem.Spec L2
section
variable {X:Cx} {K:PySem.W.Frag} {B:Hp×Hp} {W:Wi} {σ:St} {G H:Hp} {ρ:ah} {a b c:Expr} {pos:Pos} {fa fb fc:ah->Rs D}
def lQ:List D->Rs D
  | [.int i,.int j]=>.ok (.int (if j > i then j else i))
  | _=>.no
theorem yX:gp K (fun xs H Q=>∃ i j,xs=[V.int i,.int j]/\Q (.int (if j > i then j else i)) H) lQ:=by
  intro B W σ ρ G H ds vs Q s r p
  match ds,p,r with
  | [.int i,.int j],p,r =>
    obtain ⟨v1,vs1,rfl,r1,r2⟩:=reps_cons.mp r
    obtain ⟨v2,vs2,rfl,r3,r4⟩:=reps_cons.mp r2
    cases reps_nil.mp r4
    exact ⟨i,j,by rw [rep_int.mp r1,rep_int.mp r3],p _ H G s.ext0 (rep_int.mpr rfl)⟩
theorem rF {e e':Expr} {p pos:Pos} (hc:X.calm=true) (hm:X.mg "max"=none) (ha:SE X B W e fa) (hb:SE X B W e' fb) (hg:Gl X "max":=by rfl) (he:starEach [e,e'] X.env=[(false,eval e X.env),(false,eval e' X.env)]:=by rfl) (he':starEach [e'] X.env=[(false,eval e' X.env)]:=by rfl) :
    SE X B W (.Call (.Name "max" p) [e,e'] [] pos) (fA (aa fa (aa fb aj)) lQ) :=
  ig (tL hc) yX hg hm rfl (ae ha (ae hb aq he') (by rw [he,he'])) (by decide) (by decide) (by rw [he,he']) (by rw [he'];rfl)
end
def uW (fs:ah->Rs (List D)) (g:List D->Rs (List D)):ah->Rs (List D):=fun ρ=>(fs ρ).bind g
section
variable {X:Cx} {B:Hp×Hp} {W:Wi}
end
end Vl
namespace Dk
open PySem PySem.Spec
section
variable {prog:Program} {w:World} {A:Around} {E:Value->Shared->Prop} {s:Shared} {d it:Addr} {es:Array DictEntry} {ep:Nat}
def RawD (h:Heap) (d:Addr) (es:Array DictEntry) (ep:Nat):Prop:=∃ o,h.get? d=some o/\o.ExactDict/\o.data=.dict es ep
theorem RawD.ty (x:RawD s.heap d es ep):s.TypeIs (.ref d) "dict":=let ⟨o,ho,hc,_⟩:=x;⟨o,ho,hc.1⟩
theorem RawD.go {h h':Heap} (x:RawD h d es ep) (e:∀ o,h.get? d=some o->h'.get? d=some o):RawD h' d es ep:=let ⟨o,ho,r⟩:=x;⟨o,e o ho,r⟩
def nq (d:Addr) (i n ep:Nat):Obj:={ cls:=.type "dict_keyiterator",data:=.fields #[.ref d,.int i 0,.int n 0,.int ep 0] }
theorem Bi {h:Heap} {i n:Nat} (e:h.get? it=some (nq d i n ep)):h.IsKeyIter it d i n ep:=⟨_,e,rfl,rfl⟩
theorem Cu {Q:Value->Shared->Prop} (hd:(d == sysModules)=false) (hm:RawD s.heap d es ep) (hQ:Q (.ref s.heap.objs.size) { s with heap:=s.heap.push (nq d 0 es.size ep) }):wpAny (model prog w) A (pyIter (.ref d)) Q E s:=by
  obtain ⟨o,ho,hc,hdat⟩:=id hm
  refine wpAny_pyIter_slot hm.ty F.slot_dict_iter (wpAny_call_entry F.slot_dict_iter hm.ty F.entry_dict_iter ?_ (F.args_dict_iter_1 _))
  unfold Builtin.«dict.__iter__» Builtin.Dict.dictSlotNone
  refine wpAny_bind (wpAny_bind (wpAny_notOrdered_dict hm.ty ?_))
  show wpAny _ _ (pure (Value.ref d)) _ _ s
  refine wpAny_pure ?_
  show wpAny _ _ (Builtin.Dict.showsAll d >>= _) _ _ s
  unfold Builtin.Dict.showsAll
  rw [if_neg (by rw [hd];exact Bool.false_ne_true)]
  refine wpAny_bind (wpAny_pure (wpAny_bind (wpAny_dictEntries ho hdat (wpAny_bind (wpAny_dictEpoch ho hdat ?_)))))
  exact wpAny_bind (wpAny_newObj_type (wpAny_pure ⟨_,rfl,"dict_keyiterator",_,⟨_,Heap.get?_push_size _ rfl,rfl⟩,F.slot_dict_keyiterator_next.lookup,hQ⟩))
theorem Cv {i:Nat} {Q:Option Value->Shared->Prop} (hit:s.heap.IsKeyIter it d i es.size ep) (hm:RawD s.heap d es ep) (hx:i < es.size)
    (hQ:∀ h',h'.IsKeyIter it d (i + 1) es.size ep->Heap.SameBut it s.heap h'->Q (some es[i].key) { s with heap:=h' }):wpAny (model prog w) A (pyNext (.ref it)) Q E s:=by
  obtain ⟨o,ho,hc,hd⟩:=id hit
  obtain ⟨od,hod,hcd,hdd⟩:=id hm
  unfold pyNext
  refine wpAny_bind (wpAny_attempt (wpAny_callSpecial?_slot (name:=Str.ofString "__next__") hit.typeIs F.slot_dict_keyiterator_next (wpAny_call_entry F.slot_dict_keyiterator_next hit.typeIs F.entry_dict_keyiterator_next ?_ (F.args_dict_keyiterator_next_1 _))))
  refine wpAny_bind (wpAny_pure (wpAny_bind (wpAny_bind (wpAny_bind ?_))))
  first|refine wpAny_typeNameOfWhole_keyiter hit.typeIs (wpAny_pure ?_)|refine wpAny_typeNameOf_keyiter hit.typeIs (wpAny_pure ?_)
  refine wpAny_bind (wpAny_fieldsOf ho hd ?_)
  simp only [show Builtin.Dict_items.ownsTuple "dict_keyiterator"=false by decide,Bool.false_eq_true,if_false]
  show wpAny _ _ (if (Value.ref d == Value.none)=true then _ else _) _ _ s
  rw [if_neg (by intro z;cases z)]
  refine wpAny_bind (wpAny_pure (wpAny_bind (wpAny_dictEntries hod hdd ?_)))
  rw [if_neg (by simp)]
  refine wpAny_bind (wpAny_pure (wpAny_bind (wpAny_dictEpoch hod hdd ?_)))
  rw [if_neg (by simp)]
  refine wpAny_pure ?_
  simp only [show ¬ ((i:Int) < 0) from by omega,if_false,Int.toNat_natCast,Array.getElem?_eq_getElem hx]
  refine wpAny_bind (wpAny_bind ?_)
  first|refine wpAny_typeNameOfWhole_keyiter hit.typeIs (wpAny_pure ?_)|refine wpAny_typeNameOf_keyiter hit.typeIs (wpAny_pure ?_)
  refine wpAny_bind (wpAny_isOneOf_keyiter hit.typeIs ?_)
  show wpAny _ _ (setField (.ref it) 1 (rawInt ((i:Int) + 1)) >>= _) _ _ s
  refine wpAny_bind (wpAny_setField ho hd (by simp) ?_)
  have hit':(s.heap.update it (Obj.mapFields (·.setIfInBounds 1 (rawInt ((i:Int) + 1))))).IsKeyIter it d (i + 1) es.size ep :=
    ⟨_,Heap.get?_update_self _ ho (Obj.isFreed_of_fields (Obj.data_mapFields hd _)),(Obj.cls_mapFields ..).trans hc,by rw [Obj.data_mapFields hd];simp [rawInt]⟩
  refine wpAny_bind (wpAny_holding (wpAny_bind ?_))
  refine wpAny_isOneOf_keyiter (s:={ s with heap:=s.heap.update it (Obj.mapFields (·.setIfInBounds 1 (rawInt ((i:Int) + 1)))) }) hit'.typeIs ?_
  show wpAny _ _ (pure es[i].key) _ _ _
  exact wpAny_pure (wpAny_pure ⟨_,rfl,wpAny_pure (hQ _ hit' (Heap.SameBut.update ..))⟩)
theorem Dg {Q:Option Value->Shared->Prop} (hh:A.handled=none) (hit:s.heap.IsKeyIter it d es.size es.size ep) (hm:RawD s.heap d es ep)
    (hQ:∀ h',Heap.ExtBut it s.heap h'->Q none { s with heap:=h' }):wpAny (model prog w) A (pyNext (.ref it)) Q E s:=by
  obtain ⟨o,ho,hc,hd⟩:=id hit
  obtain ⟨od,hod,hcd,hdd⟩:=id hm
  unfold pyNext
  refine wpAny_bind (wpAny_attempt (wpAny_callSpecial?_slot (name:=Str.ofString "__next__") hit.typeIs F.slot_dict_keyiterator_next (wpAny_call_entry F.slot_dict_keyiterator_next hit.typeIs F.entry_dict_keyiterator_next ?_ (F.args_dict_keyiterator_next_1 _))))
  refine wpAny_bind (wpAny_pure (wpAny_bind (wpAny_bind (wpAny_bind ?_))))
  first|refine wpAny_typeNameOfWhole_keyiter hit.typeIs (wpAny_pure ?_)|refine wpAny_typeNameOf_keyiter hit.typeIs (wpAny_pure ?_)
  refine wpAny_bind (wpAny_fieldsOf ho hd ?_)
  simp only [show Builtin.Dict_items.ownsTuple "dict_keyiterator"=false by decide,Bool.false_eq_true,if_false]
  show wpAny _ _ (if (Value.ref d == Value.none)=true then _ else _) _ _ s
  rw [if_neg (by intro z;cases z)]
  refine wpAny_bind (wpAny_pure (wpAny_bind (wpAny_dictEntries hod hdd ?_)))
  rw [if_neg (by simp)]
  refine wpAny_bind (wpAny_pure (wpAny_bind (wpAny_dictEpoch hod hdd ?_)))
  rw [if_neg (by simp)]
  refine wpAny_pure ?_
  simp only [show ¬ ((es.size:Int) < 0) from by omega,if_false,Int.toNat_natCast,Array.getElem?_eq_none (Nat.le_refl _)]
  refine wpAny_bind (wpAny_bind ?_)
  first|refine wpAny_typeNameOfWhole_keyiter hit.typeIs (wpAny_pure ?_)|refine wpAny_typeNameOf_keyiter hit.typeIs (wpAny_pure ?_)
  show wpAny _ _ (setField (.ref it) 0 .none >>= _) _ _ s
  refine wpAny_bind (wpAny_setField ho hd (by simp) ?_)
  show wpAny _ _ (newExc (.type "StopIteration") [] >>= _) _ _ _
  refine wpAny_bind ?_
  simp only [newExc,newTuple]
  refine wpAny_bind (wpAny_newObj_type ?_ (by size_fits))
  refine wpAny_bind (m:=firstArgMember _ _) (wpAny_of_eq (a:=Value.none) (by first|rfl|(simp only [firstArgMember];rfl)) ?_)
  refine wpAny_newObj_type ?_ (by size_fits)
  simp only [raiseNew]
  refine wpAny_bind (wpAny_handled ?_)
  rw [show A.in1.handled=none from hh]
  refine wpAny_bind (wpAny_pure (wpAny_throw ?_))
  refine wpAny_bind (wpAny_isInstance (T:="StopIteration") (b:=true) ⟨_,Heap.get?_push_size _ rfl,rfl⟩ isSubtype_stop ?_)
  exact wpAny_pure (hQ _ (((Heap.SameBut.update ..).extBut.push _).push _))
theorem Bj (hh:A.handled=none) (hne:d≠it) :
    Walks prog w A it [it,d] [it] es.size (fun i v=>∃ e,es[i]?=some e/\v=e.key) (fun i h=>h.IsKeyIter it d i es.size ep/\RawD h d es ep) where
  sub:=fun b hb=>by simp at hb;simp [hb]
  frame:=fun _ _ _ st hk=>⟨st.1.at fun o e=>hk it (by simp) o e,st.2.go fun o e=>hk d (by simp) o e⟩
  item:=fun i s Q E hi st hQ=>Cv st.1 st.2 hi fun h' hI hs=>hQ _ h' s.toks ⟨_,Array.getElem?_eq_getElem hi,rfl⟩ ⟨hI,st.2.go fun o e=>(hs.2 d hne).trans e⟩ fun b o hb e=>(hs.2 b (fun z=>hb (by simp [z]))).trans e
  done:=fun s Q E st hQ=>Dg hh st.1 st.2 fun h' he=>hQ h' s.toks fun b o hb e=>he b o (fun z=>hb (by simp [z])) e
  self:=fun _ _ _ _ st hQ=>wpAny_pyIter_keyiter st.1 hQ
theorem Cw {Q:Bool->Shared->Prop} (hm:RawD s.heap d es ep) (h:Q false s):wpAny (model prog w) A (Builtin.List.listLengthHint (.ref d)) Q E s:=by
  unfold Builtin.List.listLengthHint
  refine wpAny_bind (wpAny_specialOf hm.ty F.slot_dict_len.lookup ?_)
  have e1:splitId "dict.__len__"=some ("dict","__len__"):=by kernel_rfl
  simp only [e1]
  refine wpAny_bind (wpAny_isInstance (b:=true) hm.ty (by rw [isSubtype_type];kernel_rfl) ?_)
  simp only [Bool.not_true,Bool.false_eq_true,if_false]
  have pick:∀ {c:Bool} {x y:Sem Bool},c=true->wpAny (model prog w) A x Q E s->wpAny (model prog w) A (if c=true then x else y) Q E s:=fun {c x y} hc hy=>by rw [hc];exact hy
  refine pick (by decide +kernel) ?_
  exact wpAny_bind (wpAny_typeOf hm.ty (wpAny_pure h))
abbrev nilObj:Obj:=Tb.nilObj
theorem collectD {D:Addr} {Q:List Value->Shared->Prop} (hh:A.handled=none) (hd:(D == sysModules)=false) (ho:RawD s.heap D es ep) (hn:es.size<=1000)
    (hQ:∀ h' tk,(∀ b o,s.heap.get? b=some o->h'.get? b=some o)->s.heap.objs.size<=h'.objs.size->Q (es.toList.map (·.key)) { s with heap:=h',toks:=tk }):wpAny (model prog w) A (collect (.ref D)) Q E s:=by
  have hDlt:D < s.heap.objs.size:=by obtain ⟨o,e,_⟩:=id ho;exact Heap.lt_size e
  unfold collect
  refine wpAny_bind (wpAny_runValue (codeAny_builtin F.entry_proto_collect ?_))
  rw [Around.under_plainId F.plain_proto_collect _]
  show wpAny _ A.in1 (newList [] >>= fun l=>again (.builtin "list.__iadd__" ⟨[l,.ref D],[]⟩)) _ _ s
  refine wpAny_bind (wpAny_newObj_type ?_)
  refine wpAny_pure ⟨plainId_quiet F.plain_list_iadd _,codeAny_builtin F.entry_list_iadd ?_⟩
  rw [Around.under_plainId F.plain_list_iadd _]
  have p1:∀ b o,s.heap.get? b=some o->(s.heap.push nilObj).get? b=some o:=fun b o e=>Heap.get?_push_of_some _ e
  have hD1:RawD (s.heap.push nilObj) D es ep:=ho.go fun o e=>p1 _ _ e
  have hS1:(s.heap.push nilObj).get? s.heap.objs.size=some nilObj:=Heap.get?_push_size _ rfl
  show wpAny _ A.in1 (Builtin.List.listExtendWith (.ref s.heap.objs.size) (.ref D) (.ref s.heap.objs.size)) _ _ _
  unfold Builtin.List.listExtendWith
  have hT:Shared.TypeIs { s with heap:=s.heap.push nilObj } (.ref D) "dict":=RawD.ty (s:={ s with heap:=s.heap.push nilObj }) hD1
  refine wpAny_bind (wpAny_typeOf hT ?_)
  have k1:Builtin.List.listSameRef (.ref s.heap.objs.size) (.ref D)=false:=by simp [Builtin.List.listSameRef];exact Nat.ne_of_gt hDlt
  have k2:(Value.type "dict" == Value.type "list")=false:=by decide
  have k3:(Value.type "dict" == Value.type "tuple")=false:=by decide
  simp only [k1,k2,k3,Bool.or_self,Bool.false_eq_true,if_false]
  refine wpAny_bind (Cu hd hD1 ?_)
  have p2:∀ b o,(s.heap.push nilObj).get? b=some o->((s.heap.push nilObj).push (nq D 0 es.size ep)).get? b=some o:=fun b o e=>Heap.get?_push_of_some _ e
  have hD2:RawD ((s.heap.push nilObj).push (nq D 0 es.size ep)) D es ep:=hD1.go fun o e=>p2 _ _ e
  have hS2:=p2 _ _ hS1
  have hI2:((s.heap.push nilObj).push (nq D 0 es.size ep)).get? (s.heap.push nilObj).objs.size=some (nq D 0 es.size ep):=Heap.get?_push_size _ rfl
  have hIsz:(s.heap.push nilObj).objs.size=s.heap.objs.size + 1:=Heap.size_push ..
  refine wpAny_bind (wpAny_holding (Cw hD2 ?_))
  have pick:∀ {c:Bool} {x y:Sem PySem.Fin} {R:PySem.Fin->Shared->Prop} {F':Value->Shared->Prop} {s':Shared},c=true->wpAny (model prog w) A.in1 x R F' s'->wpAny (model prog w) A.in1 (if c=true then x else y) R F' s':=fun {c x y R F' s'} hc hy=>by rw [hc];exact hy
  refine pick (by decide +kernel) ?_
  refine wpAny_bind (wpAny_rule ?_)
  refine wpAny_bind ?_
  show wpAny _ A.in1 (updateSeq s.heap.objs.size (·.push .none) >>= fun _=>updateSeq s.heap.objs.size (·.pop)) _ _ _
  refine wpAny_bind (wpAny_updateSeq hS2 rfl ?_)
  have hS3:=Heap.get?_update_self (Obj.mapSeq (·.push Value.none)) hS2 rfl
  refine wpAny_updateSeq hS3 rfl ?_
  have hS4:=Heap.get?_update_self (Obj.mapSeq (·.pop)) hS3 rfl
  generalize hH:(((s.heap.push nilObj).push (nq D 0 es.size ep)).update s.heap.objs.size (Obj.mapSeq (·.push Value.none))).update s.heap.objs.size (Obj.mapSeq (·.pop))=H at hS4
  have oth:∀ b o,b≠s.heap.objs.size->((s.heap.push nilObj).push (nq D 0 es.size ep)).get? b=some o->H.get? b=some o:=fun b o hb e=>by
    rw [<- hH];exact (Heap.get?_update_other _ _ (Ne.symm hb)).trans ((Heap.get?_update_other _ _ (Ne.symm hb)).trans e)
  have W:=(Bj (prog:=prog) (w:=w) (A:=A.in1) (d:=D) (it:=(s.heap.push nilObj).objs.size) (es:=es) (ep:=ep) (by simpa using hh) (by rw [hIsz];exact Nat.ne_of_lt (Nat.lt_succ_of_lt hDlt))).toS
  have hSf:s.heap.objs.size∉[(s.heap.push nilObj).objs.size,D]:=by
    simp only [List.mem_cons,List.not_mem_nil,or_false,not_or]
    exact ⟨by rw [hIsz];exact Nat.ne_of_lt (Nat.lt_succ_self _),Nat.ne_of_gt hDlt⟩
  refine wpAny_pure ⟨plainId_quiet F.plain_extend_loop _,codeAny_extend_loopS W (by rw [sizeLine_eq];omega) s.heap.objs.size hSf _ es.size 0 _ _ _ rfl (Nat.zero_le _) ⟨Bi (oth _ _ (by rw [hIsz];exact Nat.succ_ne_self _) hI2),hD2.go fun o e=>oth _ _ (Nat.ne_of_lt hDlt) e⟩ hS4 (ItemsOf.nil _) fun s' acc c hm hS' hacc=>?_⟩
  show wpAny _ A (load s.heap.objs.size >>= _) _ _ s'
  refine wpAny_bind (wpAny_load hS' ?_)
  have hacc':acc.toList=es.toList.map (·.key):=by
    apply List.ext_getElem?
    intro i
    rw [List.getElem?_map,Array.getElem?_toList,Array.getElem?_toList]
    cases e:acc[i]? with
    | some v =>
      obtain ⟨x,hx,rfl⟩:=hacc.2 i v e
      rw [hx];rfl
    | none =>
      have:acc.size<=i:=by simpa using e
      rw [hacc.1] at this
      rw [Array.getElem?_eq_none this];rfl
  obtain ⟨h',g',d',tk',os'⟩:=s'
  have eg:g'=s.gens:=hm.gens
  have ed:d'=s.drawn:=hm.drawn
  have eo:os'=s.os:=hm.os
  subst eg ed eo
  show wpAny _ _ (pure acc.toList) _ _ _
  rw [hacc']
  refine wpAny_pure (hQ h' tk' (fun b o e=>hm.heap b o ?_ (oth b o (Nat.ne_of_lt (Heap.lt_size e)) (p2 _ _ (p1 _ _ e)))) (Nat.le_of_lt (Heap.lt_size hS')))
  simp only [List.mem_cons,List.not_mem_nil,or_false,not_or]
  exact ⟨Nat.ne_of_lt (Heap.lt_size e),by rw [hIsz];exact Nat.ne_of_lt (Nat.lt_succ_of_lt (Heap.lt_size e))⟩
end
end Dk
namespace Vl
open PySem PySem.Spec L2 So Tb
section
variable {X:Cx} {B:Hp×Hp} {W:Wi} {K:PySem.W.Frag}
def Bk (K:PySem.W.Frag):List V->Hp->VK->Prop:=fun xs H Q=>∃ (a:Addr) (U:Addr->List Int->Prop) (kvv:List (List Int×V)),xs=[.ref a]/\H a=some (.ext (DicH U a kvv))/\(∀ b ks,U b ks->UG K H b ks)/\kvv.length < 64/\(∀ p∈kvv,p.1≠[]) /\
  ∀ l zs,H l=none->zs.length=(sortK (kvv.map (·.1))).length->(∀ (i:Nat) v,zs[i]?=some v->∃ b,v=.ref b/\U b ((sortK (kvv.map (·.1))).getD i []))->Q (.ref l) (bc H l (.lst zs))
theorem kB {U:Addr->List Int->Prop}:∀ {kvv:List (List Int×V)} {xs:List (List Int×Addr×Value)},Paired (fun (p:List Int×V) (q:List Int×Addr×Value)=>p.1=q.1/\U q.2.1 q.1/\RelV p.2 q.2.2) kvv xs ->
    xs.map (·.1)=kvv.map (·.1)/\∀ x∈xs,U x.2.1 x.1
  | [],_,.nil=>⟨rfl,fun _ h=>by cases h⟩
  | p::kvv,q::xs,.cons r t=>by
    obtain ⟨e,m⟩:=kB t
    refine ⟨by rw [List.map_cons,List.map_cons,e,r.1],fun x hx=>?_⟩
    rcases List.mem_cons.mp hx with rfl|hx
    . exact r.2.1
    . exact m x hx
theorem sx (hc:X.calm=true):cW X (.builtin "sorted") (Bk X.K):=by
  intro pins s σ H xs us Q I r h
  obtain ⟨a,U,kvv,rfl,hH,hU,hz,hne,q⟩:=h
  obtain ⟨u,rfl,rx⟩:=r.one
  cases rx
  obtain ⟨⟨o,es,ep,ys,ho,hx,hdat,hsys,hes,hnd,hp⟩,_⟩:=I.hok _ _ hH
  obtain ⟨ek,hu⟩:=kB hp
  have hlen:ys.length=kvv.length:=by have:=congrArg List.length ek;simpa using this
  have hsz:es.size=ys.length:=by have:=congrArg List.length hes;simpa using this
  have evs:es.toList.map (·.key)=ys.map fun x=>Value.ref x.2.1:=by rw [hes,List.map_map];rfl
  have each:∀ (i:Nat) v,(ys.map fun x=>Value.ref x.2.1)[i]?=some v->∃ b,v=.ref b/\IsTupleKey (intKind X.prog X.w) s.heap ((ys.map (·.1)).getD i []) b/\U b ((ys.map (·.1)).getD i []):=fun i v hv=>by
    rw [List.getElem?_map] at hv
    cases e:ys[i]? with
    | none=>rw [e] at hv;cases hv
    | some x =>
      rw [e] at hv
      have hg:(ys.map (·.1)).getD i []=x.1:=by rw [List.getD_eq_getElem?_getD,List.getElem?_map,e];rfl
      rw [hg]
      have hux:=hu x (List.mem_of_getElem? e)
      exact ⟨x.2.1,(Option.some.inj hv).symm,jV I (hU _ _ hux),hux⟩
  have hd0:Dk.RawD s.heap a es ep:=⟨o,ho,hx,hdat⟩
  refine So.sorted_of (vs:=ys.map fun x=>Value.ref x.2.1) (kss:=ys.map (·.1)) (fun Q' E' hq=>?_) ⟨by simp,fun i v hv=>let ⟨b,h1,h2,_⟩:=each i v hv;⟨b,h1,h2⟩⟩ (fun ks hks=>?_) (by simp;omega) fun h' tk l n p' k hl' hsp hg=>?_
  . have:=Dk.collectD (prog:=X.prog) (w:=X.w) (A:=X.A.in1) (E:=E') (Q:=Q') (by simpa using I.ok.hd hc) hsys hd0 (by omega) (by rw [evs];exact hq)
    exact this
  . rw [ek] at hks
    obtain ⟨p,hp',rfl⟩:=List.mem_map.mp hks
    exact hne p hp'
  . have ho':=jo (U:=U) (vs:=ys.map fun x=>Value.ref x.2.1) (kss:=ys.map (·.1)) (kss':=ys.map (·.1)) ⟨by simp,fun i v hv=>let ⟨b,h1,_,h3⟩:=each i v hv;⟨b,h1,h3⟩⟩ hsp (.refl _)
    obtain ⟨zs,r1,zl,zv⟩:=Bg ho'
    rw [ek] at zl zv
    have hln:H l=none:=I.hok.fresh hl'
    refine ⟨.ref l,_,I.laid (t':=tk) k hl' (show ObjOk X.prog X.w _ h' _ (.lst zs) from ⟨?_,_,n,r1,hg⟩),rfl,q l zs hln zl zv⟩
    have:(sortK (kvv.map (·.1))).length=(kvv.map (·.1)).length:=(da _).length_eq
    rw [zl,this,sizeLine_eq];simp;omega
def gJ (j:Nat):ah->Rs D:=fun ρ=>match ρ[j]? with
  | some (.od kvs)=>if kvs.length < 64/\∀ p∈kvs,p.1≠[] then .ok (.lst ((sortK (kvs.map (·.1))).map tupK)) else .no
  | _=>.no
theorem KReps.keys {G:Hp} {kvs:List (List Int×D)} {kvv:List (List Int×V)} (h:KReps K G kvs kvv):kvv.map (·.1)=kvs.map (·.1):=by
  induction h with
  | nil=>rfl
  | cons r t ih=>rw [List.map_cons,List.map_cons,ih]
theorem kS (j:Nat) {x:Str} {p p1 pos:Pos} (hc:X.calm=true) (hm:X.mg "sorted"=none) (hN:X.N[j]?=some x:=by rfl) (hv:kY X.env.scope x:=by first|exact Or.inl rfl|exact Or.inr (Or.inl rfl)|exact Or.inr (Or.inr rfl)) (hd:(x == ("__debug__":Str))=false:=by decide)
    (hcd:(x == ("__classdict__":Str))=false:=by decide) (hg:Gl X "sorted":=by rfl) (he:starEach [.Name x p1] X.env=[(false,eval (.Name x p1) X.env)]:=by rfl) :
    SE X B W (.Call (.Name "sorted" p) [.Name x p1] [] pos) (gJ j):=by
  refine PE.imp (fY (sx hc) hg hm PyProof.Rows.boot_sorted (cT (gB hN hv hd hcd) eA he) (by decide) (by decide) he rfl) fun σ H Q ⟨ρ,G,s,pp⟩=>?_
  unfold gJ at pp
  split at pp
  . rename_i kvs q
    split at pp
    . rename_i hc2
      obtain ⟨a,o,h1,h2,h3,h4,U,kvv,rfl,hU,hk⟩:=s.own j _ q rfl
      have ek:=hk.keys
      have el:kvv.length=kvs.length:=by have:=congrArg List.length ek;simpa using this
      refine ⟨_,h1,a,U,kvv,rfl,h2,fun b ks z=>Same.seqT s.en.gh (hU b ks z),by omega,fun p hp=>?_,fun l zs hl hz hv'=>?_⟩
      . have:p.1∈kvs.map (·.1):=ek▸List.mem_map_of_mem hp
        obtain ⟨p',hp',e⟩:=List.mem_map.mp this
        exact e▸hc2.2 p' hp'
      . rw [ek] at hz hv'
        have x:=fq (xs:=zs) s.en.gh s.en.tp hl
        refine pp _ _ _ x (rep_lst.mpr ⟨l,zs,rfl,.of aO,(iD hz fun i v hv2=>?_).mono x.gg⟩)
        obtain ⟨b,e1,e2⟩:=hv' i v hv2
        exact ⟨b,e1,hU b _ e2⟩
    . exact pp.elim
  . exact pp.elim
end
end Vl
namespace Zp
open PySem PySem.Spec
section
variable {prog:Program} {w:World} {A:Around} {E:Value->Shared->Prop} {s:Shared}
theorem sy {it t:Addr} {i:Nat} {items:Array Value} {x:Value} {Q:Value->Shared->Prop} (hit:s.heap.IsTupleIter it t i) (ht:s.heap.IsTuple t items) (hx:items[i]?=some x)
    (hQ:∀ h',h'.IsTupleIter it t (i + 1)->Heap.SameBut it s.heap h'->Q x { s with heap:=h' }):wpAny (model prog w) A (Builtin.SmallTypes.nextOf (.ref it)) Q E s:=by
  obtain ⟨o,ho,hc,hd⟩:=id hit
  obtain ⟨ot,hot,_,nt,hdt⟩:=ht
  unfold Builtin.SmallTypes.nextOf
  refine wpAny_bind (wpAny_callSpecial?_slot (name:=Str.ofString "__next__") hit.typeIs F.slot_tuple_iterator_next (wpAny_call_entry F.slot_tuple_iterator_next hit.typeIs F.entry_tuple_iterator_next ?_ (F.args_tuple_iterator_next_1 _)))
  refine wpAny_bind (m:=field (.ref it) 0) (wpAny_field ho hd (x:=.ref t) rfl ?_)
  show wpAny _ _ (if (Value.ref t == Value.none)=true then _ else _) _ _ s
  rw [if_neg (by intro z;cases z)]
  refine wpAny_bind (m:=field (.ref it) 1) (wpAny_field ho hd (x:=.int i 0) rfl ?_)
  refine wpAny_bind (m:=seqItems? (.ref t)) (wpAny_seqItems hot hdt ?_)
  simp only [Int.toNat_natCast,hx]
  refine wpAny_bind (wpAny_setField ho hd (by simp) (wpAny_pure ⟨x,rfl,wpAny_pure (hQ _ ?_ (Heap.SameBut.update ..))⟩))
  exact ⟨_,Heap.get?_update_self _ ho (Obj.isFreed_of_fields (Obj.data_mapFields hd _)),(Obj.cls_mapFields ..).trans hc,by rw [Obj.data_mapFields hd];simp [rawInt]⟩
theorem uX {it t:Addr} {i:Nat} {items:Array Value} {Q:Value->Shared->Prop} (hh:A.handled=none) (hit:s.heap.IsTupleIter it t i) (ht:s.heap.IsTuple t items) (hx:items[i]?=none)
    (hE:∀ h' e,Heap.ExtBut it s.heap h'->(∃ o,h'.get? e=some o/\o.cls=.type "StopIteration")->E (.ref e) { s with heap:=h' }):wpAny (model prog w) A (Builtin.SmallTypes.nextOf (.ref it)) Q E s:=by
  obtain ⟨o,ho,hc,hd⟩:=id hit
  obtain ⟨ot,hot,_,nt,hdt⟩:=ht
  unfold Builtin.SmallTypes.nextOf
  refine wpAny_bind (wpAny_callSpecial?_slot (name:=Str.ofString "__next__") hit.typeIs F.slot_tuple_iterator_next (wpAny_call_entry F.slot_tuple_iterator_next hit.typeIs F.entry_tuple_iterator_next ?_ (F.args_tuple_iterator_next_1 _)))
  refine wpAny_bind (m:=field (.ref it) 0) (wpAny_field ho hd (x:=.ref t) rfl ?_)
  show wpAny _ _ (if (Value.ref t == Value.none)=true then _ else _) _ _ s
  rw [if_neg (by intro z;cases z)]
  refine wpAny_bind (m:=field (.ref it) 1) (wpAny_field ho hd (x:=.int i 0) rfl ?_)
  refine wpAny_bind (m:=seqItems? (.ref t)) (wpAny_seqItems hot hdt ?_)
  simp only [Int.toNat_natCast,hx]
  refine wpAny_bind (wpAny_rule (wpAny_bind (wpAny_setField ho hd (by simp) ?_)))
  show wpAny _ _ (newExc (.type "StopIteration") [] >>= _) _ _ _
  refine wpAny_bind ?_
  simp only [newExc,newTuple]
  refine wpAny_bind (wpAny_newObj_type ?_ (by size_fits))
  refine wpAny_bind (m:=firstArgMember _ _) (wpAny_of_eq (a:=Value.none) (by first|rfl|(simp only [firstArgMember];rfl)) ?_)
  refine wpAny_newObj_type ?_ (by size_fits)
  simp only [raiseNew]
  refine wpAny_bind (wpAny_handled ?_)
  first|rw [show A.in1.handled=none from hh]|rw [hh]
  refine wpAny_bind (wpAny_pure (wpAny_throw ?_))
  exact hE _ _ (((Heap.SameBut.update ..).extBut.push _).push _) ⟨_,Heap.get?_push_size _ rfl,rfl⟩
end
theorem drawsT {prog:Program} {w:World} {A:Around} (hh:A.handled=none) (it t:Addr) (hne:t≠it) (items:Array Value) :
    Draws prog w A it [it,t] items.size (fun i v=>items[i]?=some v) (fun i h=>h.IsTupleIter it t i/\h.IsTuple t items) where
  live:=fun _ _ st=>let ⟨o,ho,_⟩:=st.1;⟨o,ho⟩
  frame:=fun _ _ _ st hk=>⟨let ⟨o,ho,r⟩:=st.1;⟨o,hk it (by simp) o ho,r⟩,let ⟨o,ho,r⟩:=st.2;⟨o,hk t (by simp) o ho,r⟩⟩
  item:=fun i s Q E hi st hQ=>sy st.1 st.2 (x:=items[i]) (by simp [hi]) fun h' hit' hs'=>hQ _ h' s.toks (by simp [hi]) ⟨hit',let ⟨o,ho,r⟩:=st.2;⟨o,(hs'.2 t hne).trans ho,r⟩⟩ hs'
  done:=fun s Q E st hE=>uX hh st.1 st.2 (by simp) hE
structure Ap (z TI TO i1 i2:Addr) (f1 f2:List Addr):Prop where
  zTI:TI≠z
  zTO:TO≠z
  TT:TI≠TO
  z1:z∉f1
  z2:z∉f2
  o1:TO∉f1
  o2:TO∉f2
  t1:TI∉f1
  t2:TI∉f2
  m1:i1∈f1
  m2:i2∈f2
  c1:i2∉f1
  c2:i1∉f2
section
variable {prog:Program} {w:World} {A:Around} {E:Value->Shared->Prop} {s:Shared} {z TI TO i1 i2:Addr} {f1 f2:List Addr} {n1 n2 k:Nat} {P1 P2:Nat->Value->Prop} {S1 S2:Nat->Heap->Prop} {a b:Value}
theorem jR {Q:Value->Shared->Prop} (D1:Draws prog w A i1 f1 n1 P1 S1) (D2:Draws prog w A i2 f2 n2 P2 S2) (p:Ap z TI TO i1 i2 f1 f2) (hz:IsZip s.heap z TI TO .none) (hTI:IsPair s.heap TI (.ref i1) (.ref i2)) (hTO:IsPair s.heap TO a b) (h1:S1 k s.heap) (h2:S2 k s.heap) (l1:k < n1) (l2:k < n2)
    (hQ:∀ x y h' tk,P1 k x->P2 k y->IsZip h' z TI TO (rawInt s.heap.objs.size)->IsPair h' TO x y->S1 (k + 1) h'->S2 (k + 1) h'->IsPair h' s.heap.objs.size x y->h'.objs.size=s.heap.objs.size + 1 ->
      (∀ c o,c∉[z,TO,i1,i2]->s.heap.get? c=some o->h'.get? c=some o)->Q (.ref s.heap.objs.size) { s with heap:=h',toks:=tk }) :
    wpAny (model prog w) A (Builtin.«zip.__next__» ⟨[.ref z],[]⟩) (fun be s'=>∃ v,be=.done (.ret v)/\Q v s') E s:=by
  have ne1:i1≠z:=fun e=>p.z1 (e▸p.m1)
  have ne2:i2≠z:=fun e=>p.z2 (e▸p.m2)
  have no1:i1≠TO:=fun e=>p.o1 (e▸p.m1)
  have no2:i2≠TO:=fun e=>p.o2 (e▸p.m2)
  have n12:i1≠i2:=fun e=>p.c2 (e▸p.m2)
  refine wpAny_bind (m:=field (.ref z) 2) (wpAny_field hz rfl (x:=.bool false) rfl ?_)
  refine wpAny_bind (m:=field (.ref z) 3) (wpAny_field hz rfl (x:=.ref TI) rfl (wpAny_bind (wpAny_seqItems hTI rfl ?_)))
  refine wpAny_bind (m:=Builtin.SmallTypes.ownedTupleIsFree (.ref z)) ?_
  unfold Builtin.SmallTypes.ownedTupleIsFree
  refine wpAny_bind (wpAny_field hz rfl (x:=.none) rfl (wpAny_pure ?_))
  simp only [if_true]
  refine wpAny_bind (wpAny_rule (wpAny_bind (wpAny_field hz rfl (x:=.ref TO) rfl (wpAny_bind (wpAny_setField_rec hz (by simp) fun g1 z1 e1=>?_)))))
  replace z1:IsZip g1 z TI TO .ellipsis:=z1
  refine wpAny_bind ?_
  simp only [List.zipIdx_cons,List.zipIdx_nil,List.forIn_cons,List.forIn_nil]
  have a1:S1 k g1:=D1.frame _ _ _ h1 fun b hb o q=>e1.extBut b o (fun e=>p.z1 (e▸hb)) q
  have b1:S2 k g1:=D2.frame _ _ _ h2 fun b hb o q=>e1.extBut b o (fun e=>p.z2 (e▸hb)) q
  refine wpAny_bind (wpAny_bind (wpAny_onRaise ?_))
  refine wpAny_bind (m:=Builtin.SmallTypes.nextOf (.ref i1)) (D1.item k _ _ _ l1 a1 fun x g2 tk2 px a2 e2=>wpAny_pure ?_)
  replace e2:Heap.SameBut i1 g1 g2:=e2
  have t2:IsPair g2 TO a b:=e2.extBut _ _ (Ne.symm no1) (e1.extBut _ _ p.zTO hTO)
  refine wpAny_bind (wpAny_seqItems (s:={ s with heap:=g2,toks:=tk2 }) t2 rfl (wpAny_bind (wpAny_updateSeq_pair (s:={ s with heap:=g2,toks:=tk2 }) t2 fun g3 t3 e3=>?_)))
  replace t3:IsPair g3 TO x b:=t3
  replace e3:Heap.SameBut TO g2 g3:=e3
  refine wpAny_bind (wpAny_letGo (wpAny_pure ?_))
  have b3:S2 k g3:=D2.frame _ _ _ b1 fun b hb o q=>e3.extBut b o (fun e=>p.o2 (e▸hb)) (e2.extBut b o (fun e=>p.c2 (e▸hb)) q)
  refine wpAny_bind (wpAny_bind (wpAny_onRaise ?_))
  refine wpAny_bind (m:=Builtin.SmallTypes.nextOf (.ref i2)) (D2.item k _ _ _ l2 b3 fun y g4 tk4 py b4 e4=>wpAny_pure ?_)
  replace e4:Heap.SameBut i2 g3 g4:=e4
  have t4:IsPair g4 TO x b:=e4.extBut _ _ (Ne.symm no2) t3
  refine wpAny_bind (wpAny_seqItems (s:={ s with heap:=g4,toks:=tk4 }) t4 rfl (wpAny_bind (wpAny_updateSeq_pair (s:={ s with heap:=g4,toks:=tk4 }) t4 fun g5 t5 e5=>?_)))
  replace t5:IsPair g5 TO x y:=t5
  replace e5:Heap.SameBut TO g4 g5:=e5
  refine wpAny_bind (wpAny_letGo (wpAny_pure (wpAny_pure ?_)))
  refine wpAny_bind (wpAny_seqItems (s:={ s with heap:=g5,toks:=tk4 }) t5 rfl (wpAny_bind (wpAny_newTuple ?_)))
  have sz:g5.objs.size=s.heap.objs.size:=by rw [e5.1,e4.1,e3.1,e2.1,e1.1]
  have z5:IsZip g5 z TI TO .ellipsis:=e5.extBut _ _ (Ne.symm p.zTO) (e4.extBut _ _ (Ne.symm ne2) (e3.extBut _ _ (Ne.symm p.zTO) (e2.extBut _ _ (Ne.symm ne1) z1)))
  have kp:∀ c o,c∉[z,TO,i1,i2]->s.heap.get? c=some o->g5.get? c=some o:=fun c o hc q=>by
    simp only [List.mem_cons,List.not_mem_nil,or_false,not_or] at hc
    exact e5.extBut _ _ hc.2.1 (e4.extBut _ _ hc.2.2.2 (e3.extBut _ _ hc.2.1 (e2.extBut _ _ hc.2.2.1 (e1.extBut _ _ hc.1 q))))
  have a5:S1 (k + 1) g5:=D1.frame _ _ _ a2 fun b hb o q=>e5.extBut b o (fun e=>p.o1 (e▸hb)) (e4.extBut b o (fun e=>p.c1 (e▸hb)) (e3.extBut b o (fun e=>p.o1 (e▸hb)) q))
  have b5:S2 (k + 1) g5:=D2.frame _ _ _ b4 fun b hb o q=>e5.extBut b o (fun e=>p.o2 (e▸hb)) q
  have lz:z < g5.objs.size:=Heap.lt_size z5
  refine wpAny_bind (m:=Builtin.SmallTypes.ownedTupleHandOut (.ref z) (.ref g5.objs.size)) ?_
  unfold Builtin.SmallTypes.ownedTupleHandOut
  have z6:IsZip (g5.push { cls:=.type "tuple",data:=.seq #[x,y] }) z TI TO .ellipsis:=Heap.get?_push_of_some _ z5
  refine wpAny_bind (wpAny_setField_rec (s:={ s with heap:=g5.push { cls:=.type "tuple",data:=.seq #[x,y] },toks:=tk4 }) z6 (by simp) fun g7 z7 e7=>?_)
  replace z7:IsZip g7 z TI TO (rawInt g5.objs.size):=z7
  refine wpAny_setField_rec (s:={ s with heap:=g7,toks:=tk4 }) z7 (by simp) fun g8 z8 e8=>?_
  replace z8:IsZip g8 z TI TO (rawInt g5.objs.size):=z8
  have up:∀ c o,c≠z->g5.get? c=some o->g8.get? c=some o:=fun c o hc q=>e8.extBut _ _ hc (e7.extBut _ _ hc (Heap.get?_push_of_some _ q))
  have t8:IsPair g8 g5.objs.size x y:=e8.extBut _ _ (Nat.ne_of_gt lz) (e7.extBut _ _ (Nat.ne_of_gt lz) (Heap.get?_push_size _ rfl))
  have s8:g8.objs.size=g5.objs.size + 1:=by rw [e8.1,e7.1,Heap.size_push]
  rw [sz] at z8 t8 s8
  refine wpAny_pure ⟨_,rfl,?_⟩
  show Q (.ref g5.objs.size) _
  rw [sz]
  exact hQ x y g8 tk4 px py z8 (up _ _ p.zTO t5) (D1.frame _ _ _ a5 fun b hb o q=>up b o (fun e=>p.z1 (e▸hb)) q) (D2.frame _ _ _ b5 fun b hb o q=>up b o (fun e=>p.z2 (e▸hb)) q) t8 s8 fun c o hc q=>up c o (fun e=>hc (by simp [e])) (kp c o hc q)
theorem wI {Q:PySem.Fin->Shared->Prop} (D1:Draws prog w A i1 f1 n1 P1 S1) (p:Ap z TI TO i1 i2 f1 f2) (hz:IsZip s.heap z TI TO .none) (hTI:IsPair s.heap TI (.ref i1) (.ref i2)) (hTO:IsPair s.heap TO a b) (h1:S1 n1 s.heap)
    (hE:∀ h' e,(∀ c o,c∉[z,TO,i1,i2]->s.heap.get? c=some o->h'.get? c=some o)->(∃ o,h'.get? e=some o/\o.cls=.type "StopIteration")->E (.ref e) { s with heap:=h' }) :
    wpAny (model prog w) A (Builtin.«zip.__next__» ⟨[.ref z],[]⟩) Q E s:=by
  have ne1:i1≠z:=fun e=>p.z1 (e▸p.m1)
  refine wpAny_bind (m:=field (.ref z) 2) (wpAny_field hz rfl (x:=.bool false) rfl ?_)
  refine wpAny_bind (m:=field (.ref z) 3) (wpAny_field hz rfl (x:=.ref TI) rfl (wpAny_bind (wpAny_seqItems hTI rfl ?_)))
  refine wpAny_bind (m:=Builtin.SmallTypes.ownedTupleIsFree (.ref z)) ?_
  unfold Builtin.SmallTypes.ownedTupleIsFree
  refine wpAny_bind (wpAny_field hz rfl (x:=.none) rfl (wpAny_pure ?_))
  simp only [if_true]
  refine wpAny_bind (wpAny_rule (wpAny_bind (wpAny_field hz rfl (x:=.ref TO) rfl (wpAny_bind (wpAny_setField_rec hz (by simp) fun g1 z1 e1=>?_)))))
  replace z1:IsZip g1 z TI TO .ellipsis:=z1
  refine wpAny_bind ?_
  simp only [List.zipIdx_cons,List.zipIdx_nil,List.forIn_cons,List.forIn_nil]
  have a1:S1 n1 g1:=D1.frame _ _ _ h1 fun b hb o q=>e1.extBut b o (fun e=>p.z1 (e▸hb)) q
  refine wpAny_bind (wpAny_bind (wpAny_onRaise ?_))
  refine wpAny_bind (m:=Builtin.SmallTypes.nextOf (.ref i1)) (D1.done _ _ _ a1 fun g2 e e2 he=>?_)
  obtain ⟨oe,q1,q2⟩:=he
  have z2:IsZip g2 z TI TO .ellipsis:=e2 _ _ (Ne.symm ne1) z1
  have ez:e≠z:=fun x=>by subst x;rw [z2] at q1;cases q1;simp at q2
  refine wpAny_setField_rec (s:={ s with heap:=g2 }) z2 (by simp) fun g3 _ e3=>hE g3 e (fun c o hc q=>?_) ⟨oe,e3.extBut _ _ ez q1,q2⟩
  simp only [List.mem_cons,List.not_mem_nil,or_false,not_or] at hc
  exact e3.extBut _ _ hc.1 (e2 _ _ hc.2.2.1 (e1.extBut _ _ hc.1 q))
end
theorem walks {prog:Program} {w:World} {A:Around} {z TI TO i1 i2:Addr} {f1 f2:List Addr} {n:Nat} {P1 P2:Nat->Value->Prop} {S1 S2:Nat->Heap->Prop} (D1:Draws prog w A.in1 i1 f1 n P1 S1) (D2:Draws prog w A.in1 i2 f2 n P2 S2) (p:Ap z TI TO i1 i2 f1 f2) :
    WalksT prog w A z (z::TI::TO::(f1++f2)) [z,TO,i1,i2] n
      (fun i vals=>∃ x y,P1 i x/\P2 i y/\vals=#[x,y])
      (fun i h=>IsZip h z TI TO .none/\IsPair h TI (.ref i1) (.ref i2)/\(∃ a b,IsPair h TO a b)/\S1 i h/\S2 i h)
      (fun i T h=>IsZip h z TI TO (rawInt T)/\IsPair h TI (.ref i1) (.ref i2)/\(∃ a b,IsPair h TO a b)/\S1 (i + 1) h/\S2 (i + 1) h/\T∉[z,TO,i1,i2]) where
  sub:=fun b hb=>by
    simp only [List.mem_cons,List.not_mem_nil,or_false,List.mem_append] at hb ⊢
    rcases hb with rfl|rfl|rfl|rfl
    . exact .inl rfl
    . exact .inr (.inr (.inl rfl))
    . exact .inr (.inr (.inr (.inl p.m1)))
    . exact .inr (.inr (.inr (.inr p.m2)))
  frame:=fun i h h' st hk=>by
    obtain ⟨q1,q2,⟨a,b,q3⟩,q4,q5⟩:=st
    exact ⟨hk z (by simp) _ q1,hk TI (by simp) _ q2,⟨a,b,hk TO (by simp) _ q3⟩,D1.frame _ _ _ q4 fun b hb o q=>hk b (by simp [hb]) o q,D2.frame _ _ _ q5 fun b hb o q=>hk b (by simp [hb]) o q⟩
  item:=fun i s Q E hi st hQ=>by
    obtain ⟨q1,q2,⟨a,b,q3⟩,q4,q5⟩:=st
    have hT:s.TypeIs (.ref z) "zip":=⟨_,q1,rfl⟩
    have TIw:TI∉[z,TO,i1,i2]:=by
      simp only [List.mem_cons,List.not_mem_nil,or_false,not_or]
      exact ⟨p.zTI,p.TT,fun e=>p.t1 (e▸p.m1),fun e=>p.t2 (e▸p.m2)⟩
    unfold pyNext
    refine wpAny_bind (wpAny_attempt (wpAny_callSpecial?_slot (name:=Str.ofString "__next__") hT F.slot_zip_next (wpAny_call_entry F.slot_zip_next hT F.entry_zip_next (jR D1 D2 p q1 q2 q3 q4 q5 hi hi fun x y h' tk px py r1 r2 r3 r4 r5 r6 r7=>wpAny_pure ?_) (F.args_zip_next_1 _))))
    have fr:∀ {c:Addr} {o:Obj},s.heap.get? c=some o->s.heap.objs.size≠c:=fun e=>Nat.ne_of_gt (Heap.lt_size e)
    refine hQ s.heap.objs.size #[x,y] h' tk ⟨x,y,px,py,rfl⟩ (Nat.le_refl _) ⟨_,r5,rfl,_,rfl⟩ ⟨r1,r7 TI _ TIw q2,⟨_,_,r2⟩,r3,r4,?_⟩ r7
    simp only [List.mem_cons,List.not_mem_nil,or_false,not_or]
    obtain ⟨o1,l1⟩:=D1.live _ _ q4
    obtain ⟨o2,l2⟩:=D2.live _ _ q5
    exact ⟨fr q1,fr q3,fr l1,fr l2⟩
  go:=fun elts k pos i T s Q E hm hQ=>by
    obtain ⟨q1,q2,⟨a,b,q3⟩,q4,q5,_⟩:=hm
    refine wpAny_letOwnedTupleGo_zip q1 fun h' z' e'=>hQ h' ⟨z',e'.extBut _ _ p.zTI q2,⟨a,b,e'.extBut _ _ p.zTO q3⟩,D1.frame _ _ _ q4 fun b hb o q=>e'.extBut b o (fun e=>p.z1 (e▸hb)) q,D2.frame _ _ _ q5 fun b hb o q=>e'.extBut b o (fun e=>p.z2 (e▸hb)) q⟩ fun c o hc q=>e'.extBut _ _ (fun e=>hc (by simp [e])) q
  apart:=fun i T h hm=>hm.2.2.2.2.2
  done := fun s Q E st hQ => by
    obtain ⟨q1,q2,⟨a,b,q3⟩,q4,q5⟩:=st
    have hT:s.TypeIs (.ref z) "zip":=⟨_,q1,rfl⟩
    unfold pyNext
    refine wpAny_bind (wpAny_attempt (wpAny_callSpecial?_slot (name:=Str.ofString "__next__") hT F.slot_zip_next (wpAny_call_entry F.slot_zip_next hT F.entry_zip_next (wI D1 p q1 q2 q3 q4 fun h' e kk he=>?_) (F.args_zip_next_1 _))))
    obtain ⟨o,ho,hc⟩:=he
    refine wpAny_bind (wpAny_isInstance (T:="StopIteration") (b:=true) ⟨o,ho,hc⟩ isSubtype_stop ?_)
    exact wpAny_pure (hQ h' s.toks kk)
  self:=fun i s Q E st hQ=>wpAny_pyIter_zip st.1 hQ
end Zp
namespace Zp
open PySem PySem.Spec
abbrev Bm (t:Addr):Obj:={ cls:=.type "tuple_iterator",data:=.fields #[.ref t,.int 0 0] }
abbrev rG (x y:Value):Obj:={ cls:=.type "tuple",data:=.seq #[x,y] }
abbrev h1 (h:Heap) (a:Addr):Heap:=h.push (Bm a)
abbrev h2 (h:Heap) (a b:Addr):Heap:=(h1 h a).push (Bm b)
abbrev h3 (h:Heap) (a b:Addr):Heap:=(h2 h a b).push (rG (.ref h.objs.size) (.ref (h1 h a).objs.size))
abbrev h4 (h:Heap) (a b:Addr):Heap:=(h3 h a b).push (rG .none .none)
abbrev h5 (h:Heap) (a b:Addr):Heap:=(h4 h a b).push { cls:=.type "zip",data:=.fields #[.none,.bool false,.bool false,.ref (h2 h a b).objs.size,.ref (h3 h a b).objs.size] }
section
variable {prog:Program} {w:World} {A:Around} {E:Value->Shared->Prop} {s:Shared}
end
end Zp
namespace L2
open PySem PySem.Spec PyProof.Rows
theorem uY {X:Cx} {pins:List (Addr×Obj)} {σ:St} {H:Hp} {s:Shared} {a b:Addr} {xs:List V} (I:Inv X pins σ H s) (hf:dz X pins H b) (hq:SqT X.K H a xs):a≠b:=fun e=>by
  subst e
  rcases hq with (q|⟨o,q⟩)|⟨o,its,n,q,_⟩
  . rw [hf.1] at q;cases q
  . rw [hf.1] at q;cases q
  . have hb:=I.mod.kin a o q
    rcases hf.2.2.2.1 with z|z
    . exact I.ok.noex a o hb z
    . exact absurd (Nat.lt_of_lt_of_le (Heap.lt_size (I.ok.bs a o hb).1) z) (Nat.lt_irrefl _)
section
variable {X:Cx}
theorem wJ:bootBuiltins "zip"=some (.type "zip"):=by decide +kernel
end
end L2
namespace Vl
open PySem PySem.Spec L2
section
variable {X:Cx} {B:Hp×Hp} {W:Wi} {K:PySem.W.Frag} {G:Hp}
def gk (ds es:List D):List D:=(ds.zip es).map fun p=>.tup [p.1,p.2]
end
end Vl
namespace Vl
open PySem PySem.Spec PySem.Calls PySem.W L2
section
variable {X:Cx} {K:PySem.W.Frag} {B:Hp×Hp} {W:Wi} {σ:St} {G H:Hp} {ρ:ah}
def sA (i:Nat) (f:ah->Rs D):ah->Ou:=fun ρ=>oR (f ρ) ρ fun d=>match d with
  | .lst ds=>.nx (ρ.set i (.ow ds))
  | .tup ds=>.nx (ρ.set i (.ow ds))
  | _=>.no
theorem yY (i:Nat) {x:Str} {e:Expr} {pos pos' p cp:Pos} {f:ah->Rs D} (hN:X.N.Nodup) (hm:X.mg "list"=none) (he:SE X B W e f) (hi:X.N[i]?=some x:=by rfl) (hx:gP X.env.scope x:=by first|exact Or.inl rfl|exact Or.inr rfl)
    (hs:swapsWith (.Call (.Name "list" p) [e] [] cp) (some (.Name x pos')) pos.line X.env=pure false:=by rfl) (hf:X.fn x=true∨X.env.scope.names.lookup x=some .local:=by first|exact .inl rfl|exact .inr rfl|assumption) (hg:Gl X "list":=by rfl) (hst:starEach [e] X.env=[(false,eval e X.env)]:=by rfl) :
    SS X B W (.Assign [.Name x pos'] (.Call (.Name "list" p) [e] [] cp) pos) (sA i f):=by
  refine PS.imp (lc hN hi hx (jF jG hg hm PyProof.Rows.boot_list (cT he eA hst) (by decide) (by decide) hst rfl) hs hf) fun De σ H ⟨ρ,G,s,p⟩=>?_
  unfold sA at p
  refine ⟨ρ,G,s,cN s p fun d v H' G' _ y r p'=>?_⟩
  cases d with
  | lst ds =>
    obtain ⟨a,vs,rfl,q,rr⟩:=rep_lst.mp r
    exact ⟨a,vs,rfl,.inl (y.gh.seq q),fun c hc=>p' _ _ G' ((s.ext y).setOw rr hc) (.refl _)⟩
  | tup ds =>
    obtain ⟨a,vs,rfl,q,rr⟩:=rep_tup.mp r
    exact ⟨a,vs,rfl,.inr (Same.seqT y.gh q),fun c hc=>p' _ _ G' ((s.ext y).setOw rr hc) (.refl _)⟩
  | _=>exact p'.elim
theorem Reps.set:∀ {ds:List D} {vs:List V} {d:D} {v:V} (j:Nat),Reps K G ds vs->Rep K G d v->Reps K G (ds.set j d) (vs.set j v)
  | [],_,_,_,_,h,_=>by rw [reps_nil.mp h];exact reps_nil.mpr rfl
  | e::ds,_,d,v,0,h,r=>by
    obtain ⟨u,us,rfl,h1,h2⟩:=reps_cons.mp h
    exact reps_cons.mpr ⟨v,us,rfl,r,h2⟩
  | e::ds,_,d,v,j + 1,h,r=>by
    obtain ⟨u,us,rfl,h1,h2⟩:=reps_cons.mp h
    exact reps_cons.mpr ⟨u,_,rfl,h1,Reps.set j h2 r⟩
def km (i:Nat) (fe fk:ah->Rs D):ah->Ou:=fun ρ=>oR (fe ρ) ρ fun v=>match ρ[i]? with
  | some (.ow ds)=>oR (fk ρ) ρ fun k=>(match k with
    | .int k=>(match eB ds.length k with|some j=>.nx (ρ.set i (.ow (ds.set j v)))|none=>.no)
    | _=>.no)
  | _=>.no
theorem rH (i:Nat) {e b:Expr} {x:Str} {p1 tp pos:Pos} {fe fk:ah->Rs D} (he:SE X B W e fe) (hb:SE X B W b fk) (hN:X.N[i]?=some x:=by rfl) (hv:kY X.env.scope x:=by first|exact Or.inl rfl|exact Or.inr (Or.inl rfl)|exact Or.inr (Or.inr rfl)) (hd:(x == ("__debug__":Str))=false:=by decide)
    (hcd:(x == ("__classdict__":Str))=false:=by decide)
    (hs:swapsWithSole [.Subscript (.Name x p1) b tp] e pos.line X.env=pure false:=by rfl) (hw:swappedStores [.Subscript (.Name x p1) b tp] e X.env=pure none:=by rfl)
    (h1:(assignEach [.Subscript (.Name x p1) b tp] X.env).map (·.2)=[assign (.Subscript (.Name x p1) b tp) X.env]:=by rfl)
    (ha:∀ v,assign (.Subscript (.Name x p1) b tp) X.env v=(do
      let ov <- holding [v] (eval (.Name x p1) X.env)
      let iv <- holding [v,ov] (eval b X.env)
      standAt tp
      holding [v,ov,iv] (setItem ov iv v)
      release [v,ov,iv] []):=by intro _;rfl) :
    SS X B W (.Assign [.Subscript (.Name x p1) b tp] e pos) (km i fe fk):=by
  refine PS.imp (oy he (tt (gB hN hv hd hcd) hb vN ha) hs hw h1) fun De σ H ⟨ρ,G,s,p⟩=>?_
  unfold km at p
  refine ⟨ρ,G,s,cN s p fun d v H' G' _ y r p'=>?_⟩
  cases e2:ρ[i]? with
  | none=>rw [e2] at p';exact p'.elim
  | some z =>
    rw [e2] at p'
    cases z with
    | ow ds =>
      have s':=s.ext y
      obtain ⟨a,vs,q1,q2,q3,q4,q5⟩:=s'.ow i ds e2
      refine ⟨_,q1,ρ,G',s',cN s' p' fun k v2 H2 G2 _ y2 r2 p2=>?_⟩
      cases k with
      | int k =>
        dsimp only at p2
        cases e3:eB ds.length k with
        | none=>rw [e3] at p2;exact p2.elim
        | some j =>
          rw [e3] at p2
          rw [rep_int.mp r2]
          exact ⟨a,vs,k,j,rfl,rfl,y2.hh _ _ q2,by rw [<- q5.length];exact e3,p2 σ _ G2 ((s'.ext y2).write e2 q1 (Reps.set j (q5.mono y2.gg) (r.mono y2.gg))) (.refl _)⟩
      | _=>exact p2.elim
    | _=>exact p'.elim
end
end Vl
namespace Vl
open PySem PySem.Spec L2
section
variable {X:Cx} {B:Hp×Hp} {W:Wi} {K:PySem.W.Frag}
end
end Vl
namespace L2
open PySem PySem.Spec PyProof.Rows
theorem uZ {X:Cx} {pins:List (Addr×Obj)} {σ:St} {H:Hp} {s:Shared} {a b:Addr} {xs:List V} (I:Inv X pins σ H s) (hf:dz X pins H b) (hq:SqL X.K H a xs):a≠b:=fun e=>by
  subst e
  rcases hq with (q|⟨o,q⟩)|⟨o,its,n,q,_⟩
  . rw [hf.1] at q;cases q
  . rw [hf.1] at q;cases q
  . have hb:=I.mod.kin a o q
    rcases hf.2.2.2.1 with z|z
    . exact I.ok.noex a o hb z
    . exact absurd (Nat.lt_of_lt_of_le (Heap.lt_size (I.ok.bs a o hb).1) z) (Nat.lt_irrefl _)
section
variable {X:Cx}
end
end L2
namespace Vl
open PySem PySem.Spec L2
section
variable {X:Cx} {B:Hp×Hp} {W:Wi} {K:PySem.W.Frag} {G:Hp}
end
end Vl
namespace Tb
open PySem PySem.SetTable
def wd (p:Probe) (d:Option Nat):Probe:={ p with dummy:=d }
theorem jq (t:SetTable) (p:Probe) (d:Option Nat):t.advance (wd p d)=wd (t.advance p) d:=by
  unfold advance wd
  simp only
  split <;> rfl
def rJ (t:SetTable) (j:Nat):Prop:=¬ dB t j/\has t.dummies j=false
theorem vc {t:SetTable} {j:Nat} (h:¬ dB t j):¬ (t.place[below t.place j]? == some j)=true:=by
  intro c
  apply h
  have c':t.place[below t.place j]?=some j:=by simpa using c
  obtain ⟨hl,e⟩:=Array.getElem?_eq_some_iff.mp c'
  exact ⟨_,hl,by simp [Array.getD,hl,e]⟩
theorem wK {t:SetTable} {j:Nat} (h:rJ t j):t.slot j=.empty:=by
  unfold slot
  simp only
  rw [if_neg (vc h.1),if_neg (by rw [h.2];simp)]
theorem wL {t:SetTable} {j:Nat} (h:¬ dB t j) (hd:has t.dummies j=true):t.slot j=.dummy:=by
  unfold slot
  simp only
  rw [if_neg (vc h),if_pos hd]
theorem Bn {t:SetTable} (R:dZ t.place) (hashAt:Nat->Int) (h:Int):∀ (fuel s0 s1:Nat) (d:Option Nat),s0<=s1->s1 < s0 + fuel->rJ t (pos t h s1) ->
    ∃ s2 d',s0<=s2/\s2<=s1/\(∀ s,s0<=s->s < s2->(∃ i,i < t.place.size/\t.place.getD i 0=pos t h s/\hashAt i≠h)∨(¬ dB t (pos t h s)/\has t.dummies (pos t h s)=true)) /\
      ((rJ t (pos t h s2) /\ probe.go t hashAt h fuel (wd (bD t s0 (t.probeStart h)) d) = some (.empty (pos t h s2) d')) ∨
       ∃ i,i < t.place.size/\t.place.getD i 0=pos t h s2/\hashAt i=h/\probe.go t hashAt h fuel (wd (bD t s0 (t.probeStart h)) d)=some (.candidate (pos t h s2) i (wd (bD t (s2 + 1) (t.probeStart h)) d'))):=by
  intro fuel
  induction fuel with
  | zero=>intro s0 s1 d h1 h2;omega
  | succ fuel ih =>
    intro s0 s1 d h1 h2 hl
    unfold probe.go
    by_cases c:dB t (pos t h s0)
    . obtain ⟨i,hi,e1,e2⟩:=jP R c
      have e2':t.slot (wd (bD t s0 (t.probeStart h)) d).j=.live i:=e2
      rw [e2']
      simp only
      by_cases q:hashAt i=h
      . refine ⟨s0,d,Nat.le_refl _,h1,fun s a b=>absurd a (by omega),.inr ⟨i,hi,e1,q,?_⟩⟩
        rw [if_pos (by simp [q]),dA,jq];rfl
      . rw [if_neg (by simp [q]),jq,<- dA]
        have hne:s0≠s1:=fun z=>hl.1 (z▸c)
        obtain ⟨s2,d',a1,a2,a3,a4⟩:=ih (s0 + 1) s1 d (by omega) (by omega) hl
        refine ⟨s2,d',by omega,a2,fun s b1 b2=>?_,a4⟩
        by_cases z:s=s0
        . subst z;exact .inl ⟨i,hi,e1,q⟩
        . exact a3 s (by omega) b2
    . cases hd:has t.dummies (pos t h s0) with
      | true =>
        have e2:t.slot (wd (bD t s0 (t.probeStart h)) d).j=.dummy:=wL c hd
        rw [e2]
        simp only
        have e3:t.advance { wd (bD t s0 (t.probeStart h)) d with dummy:=some (wd (bD t s0 (t.probeStart h)) d).j }=wd (bD t (s0 + 1) (t.probeStart h)) (some (pos t h s0)):=by
          rw [dA,<- jq];rfl
        rw [e3]
        have hne:s0≠s1:=fun z=>by have:=hl.2;rw [<- z,hd] at this;cases this
        obtain ⟨s2,d',a1,a2,a3,a4⟩:=ih (s0 + 1) s1 (some (pos t h s0)) (by omega) (by omega) hl
        refine ⟨s2,d',by omega,a2,fun s b1 b2=>?_,a4⟩
        by_cases z:s=s0
        . subst z;exact .inr ⟨c,hd⟩
        . exact a3 s (by omega) b2
      | false =>
        refine ⟨s0,d,Nat.le_refl _,h1,fun s a b=>absurd a (by omega),.inl ⟨⟨c,hd⟩,?_⟩⟩
        have e2:t.slot (wd (bD t s0 (t.probeStart h)) d).j=.empty:=wK ⟨c,hd⟩
        rw [e2]
        rfl
theorem rise_list {l:List Nat}:dZ l.toArray↔l.Pairwise (· < ·):=by
  rw [List.pairwise_iff_getElem]
  constructor
  . intro R i j hi hj hij
    have:=R i j hij (by simpa using hj)
    simpa [Array.getD,hi,hj] using this
  . intro P a b hab hb
    have hb':b < l.length:=by simpa using hb
    have:=P a b (by omega) hb' hab
    have ha':a < l.length:=by omega
    simpa [Array.getD,ha',hb'] using this
theorem hW {l:List Nat} (R:dZ l.toArray) {j:Nat}:has l.toArray j=true↔j∈l:=by
  unfold has
  constructor
  . intro c
    have c':l.toArray[below l.toArray j]?=some j:=by simpa using c
    have:l[below l.toArray j]?=some j:=by simpa using c'
    exact List.mem_of_getElem? this
  . intro hm
    obtain ⟨i,hi,e⟩:=List.mem_iff_getElem.mp hm
    have hi':i < l.toArray.size:=by simpa using hi
    have e1:l.toArray.getD i 0=j:=by simp [Array.getD,hi,e]
    have:=pc R hi'
    rw [e1] at this
    rw [this]
    simp [hi,e]
theorem wM {l:List Nat} (R:dZ l.toArray) {j:Nat} (hn:j∉l):∃ l':List Nat,insertAt l.toArray (below l.toArray j) j=l'.toArray/\dZ l'.toArray/\(∀ x,x∈l'↔x=j∨x∈l)/\l'.length=l.length + 1:=by
  obtain ⟨b1,b2,b3⟩:=gS R j
  generalize hp:below l.toArray j=p at *
  have b1':p<=l.length:=by simpa using b1
  have P:=rise_list.mp R
  refine ⟨l.take p++j::l.drop p,gM l p b1' j,rise_list.mpr ?_,fun x=>?_,by simp;omega⟩
  . rw [List.pairwise_append]
    refine ⟨P.sublist (List.take_sublist _ _),List.pairwise_cons.mpr ⟨fun a ha=>?_,P.sublist (List.drop_sublist _ _)⟩,fun a ha b hb=>?_⟩
    . obtain ⟨i,hi,rfl⟩:=List.mem_iff_getElem.mp ha
      have hi':p + i < l.length:=by simp at hi;omega
      have q:=b3 (p + i) (by omega) (by simpa using hi')
      have e:l.toArray.getD (p + i) 0=l[p + i]:=by simp [Array.getD,hi']
      rw [e] at q
      have ne:l[p + i]≠j:=fun z=>hn (z▸List.getElem_mem hi')
      simp only [List.getElem_drop]
      omega
    . obtain ⟨i,hi,rfl⟩:=List.mem_iff_getElem.mp ha
      have hi':i < p:=by simp at hi;omega
      have q:=b2 i hi'
      have hi2:i < l.length:=by omega
      have e:l.toArray.getD i 0=l[i]:=by simp [Array.getD,hi2]
      rw [e] at q
      simp only [List.getElem_take]
      rcases List.mem_cons.mp hb with z|z
      . rw [z];exact q
      . obtain ⟨i',hi3,rfl⟩:=List.mem_iff_getElem.mp z
        have hi4:p + i' < l.length:=by simp at hi3;omega
        have:=b3 (p + i') (by omega) (by simpa using hi4)
        have e':l.toArray.getD (p + i') 0=l[p + i']:=by simp [Array.getD,hi4]
        rw [e'] at this
        simp only [List.getElem_drop]
        omega
  . have:l=l.take p++l.drop p:=(List.take_append_drop p l).symm
    constructor
    . intro z
      rcases List.mem_append.mp z with z|z
      . exact .inr (List.mem_of_mem_take z)
      . rcases List.mem_cons.mp z with z|z
        . exact .inl z
        . exact .inr (List.mem_of_mem_drop z)
    . rintro (z|z)
      . subst z;simp
      . rw [this] at z
        rcases List.mem_append.mp z with z|z
        . exact List.mem_append_left _ z
        . exact List.mem_append_right _ (List.mem_cons_of_mem _ z)
theorem jX {α:Type} (xs:List α) (i:Nat) (hi:i < xs.length):eraseAt xs.toArray i=(xs.eraseIdx i).toArray:=by
  unfold eraseAt
  apply Array.toList_inj.mp
  simp only [List.extract_toArray,List.size_toArray,Array.toList_append,List.extract_eq_take_drop,Nat.sub_zero,List.drop_zero]
  rw [List.take_of_length_le (l:=xs.drop (i + 1)) (by simp),List.eraseIdx_eq_take_drop_succ]
theorem pM {α β:Type} (f:α->β):∀ (l:List α) (i:Nat),(l.map f).eraseIdx i=(l.eraseIdx i).map f
  | [],_=>by simp
  | a::l,0=>by simp
  | a::l,i + 1=>by simp [pM f l i]
theorem rK:∀ {l l':List Nat},l.Nodup->(∀ x∈l,x∈l')->l.length<=l'.length
  | [],_,_,_=>by simp
  | a::l,l',nd,h=>by
    obtain ⟨n1,n2⟩:=List.nodup_cons.mp nd
    have ha:=h a (.head _)
    have:=rK (l':=l'.erase a) n2 fun x hx=>(List.mem_erase_of_ne (fun (z:x=a)=>n1 (z▸hx))).mpr (h x (.tail _ hx))
    have e:=List.length_erase_of_mem ha
    have hp:0 < l'.length:=List.length_pos_of_mem ha
    simp only [List.length_cons]
    omega
structure Lost (t:SetTable) (L:List bu):Prop where
  pw:∃ k,t.mask + 1=2 ^ k
  m7:7<=t.mask
  pl:t.place=(L.map (·.1)).toArray
  so:(L.map (·.1)).Pairwise (· < ·)
  le:∀ e∈L,e.1<=t.mask
  dr:dZ t.dummies
  dj:∀ e∈L,has t.dummies e.1=false
  fl:t.fill<=t.mask
  reach:∀ e∈L,∃ s,pos t e.2.1 s=e.1/\∀ s',s' < s->¬ rJ t (pos t e.2.1 s')
section
variable {t:SetTable} {L:List bu}
theorem Lost.lies (g:Lost t L):Lies t L:=⟨g.pl,g.so,g.fl⟩
theorem Lost.live (g:Lost t L) {j:Nat}:dB t j↔∃ e∈L,e.1=j:=by
  have y:=g.lies
  constructor
  . rintro ⟨i,hi,e⟩
    rw [y.sz] at hi
    rw [y.at hi] at e
    exact ⟨L[i],List.getElem_mem hi,e⟩
  . rintro ⟨e,he,q⟩
    obtain ⟨i,hi,e1⟩:=List.mem_iff_getElem.mp he
    exact ⟨i,by rw [y.sz];exact hi,by rw [y.at hi,e1];exact q⟩
theorem yZ:∀ {L:List bu},(L.map (·.1)).Pairwise (· < ·)->∀ {e e':bu},e∈L->e'∈L->e.1=e'.1->e=e':=by
  intro L so e e' h h' q
  obtain ⟨i,hi,rfl⟩:=List.mem_iff_getElem.mp h
  obtain ⟨j,hj,rfl⟩:=List.mem_iff_getElem.mp h'
  have P:=List.pairwise_iff_getElem.mp so
  by_cases c:i < j
  . have:=P i j (by simpa using hi) (by simpa using hj) c
    simp only [List.getElem_map] at this;omega
  . by_cases d:j < i
    . have:=P j i (by simpa using hj) (by simpa using hi) d
      simp only [List.getElem_map] at this;omega
    . obtain rfl:i=j:=by omega
      rfl
theorem Good.lost (g:Good t L) (hl:L.length<=t.mask):Lost t L where
  pw:=g.pw
  m7:=g.m7
  pl:=g.pl
  so:=g.so
  le:=g.le
  dr:=by rw [g.nd];intro a b _ h;simp at h
  dj:=fun e _=>by unfold has;rw [g.nd];simp
  fl:=(g.lies hl).fl
  reach:=fun e he=>by
    obtain ⟨s,e1,e2⟩:=g.reach e he
    refine ⟨s,e1,fun s' hs z=>z.1 ?_⟩
    obtain ⟨e',h1,h2⟩:=e2 s' hs
    exact g.live.mpr ⟨e',h1,h2⟩
theorem Lost.emp (g:Lost t L):∃ e,e<=t.mask/\rJ t e:=by
  refine Classical.byContradiction fun c=>?_
  have h:=rK (l:=List.range (t.mask + 1)) (l':=t.place.toList++t.dummies.toList) List.nodup_range fun x hx=>?_
  . have:=g.fl
    unfold fill at this
    simp at h
    omega
  . refine Classical.byContradiction fun d=>c ⟨x,by have:=List.mem_range.mp hx;omega,fun ⟨i,hi,e⟩=>d (List.mem_append_left _ ?_),?_⟩
    . rw [<- e]
      have:t.place.getD i 0=t.place.toList[i]'(by simpa using hi):=by simp [Array.getD,hi]
      rw [this];exact List.getElem_mem _
    . cases e:has t.dummies x with
      | false=>rfl
      | true =>
        refine absurd (List.mem_append_right _ ?_) d
        have R:dZ t.dummies.toList.toArray:=by simpa using g.dr
        exact (hW R).mp (by simpa using e)
theorem Lost.drop (g:Lost t L) {i:Nat} (hi:i < L.length):Lost (t.drop i) (L.eraseIdx i)/\(t.drop i).plain=t.plain/\(t.drop i).led=t.led/\(t.drop i).mask=t.mask:=by
  have ep:t.place[i]?=some L[i].1:=by rw [g.pl];simp [hi]
  obtain ⟨D,hD⟩:∃ D:List Nat,t.dummies=D.toArray:=⟨t.dummies.toList,by simp⟩
  have R:dZ D.toArray:=hD▸g.dr
  have hn:L[i].1∉D:=fun z=>by
    have:=g.dj _ (List.getElem_mem hi)
    rw [hD,(hW R).mpr z] at this
    cases this
  obtain ⟨D',d1,d2,d3,d4⟩:=wM R hn
  have et:t.drop i={ t with place:=((L.eraseIdx i).map (·.1)).toArray,dummies:=D'.toArray }:=by
    unfold PySem.SetTable.drop
    rw [ep]
    simp only
    have q1:eraseAt t.place i=((L.eraseIdx i).map (·.1)).toArray:=by
      rw [g.pl,jX _ _ (by simpa using hi),pM]
    rw [q1,hD,d1]
  have sub:∀ e,e∈L.eraseIdx i->e∈L:=fun e he=>(List.eraseIdx_sublist L i).subset he
  have ne:∀ e∈L.eraseIdx i,e.1≠L[i].1:=fun e he z=>by
    have P:=g.so
    have hp:(L[i]::L.eraseIdx i).Perm L:=fH hi
    have nd:(L.map (·.1)).Nodup:=P.imp fun h=>Nat.ne_of_lt h
    have nd':=((hp.map (·.1)).nodup_iff).mpr nd
    rw [List.map_cons] at nd'
    exact (List.nodup_cons.mp nd').1 (z▸List.mem_map_of_mem he)
  have so':((L.eraseIdx i).map (·.1)).Pairwise (· < ·):=List.Pairwise.sublist ((List.eraseIdx_sublist L i).map _) g.so
  rw [et]
  refine ⟨⟨g.pw,g.m7,rfl,so',fun e he=>g.le e (sub e he),d2,fun e he=>?_,?_,fun e he=>?_⟩,rfl,rfl,rfl⟩
  . show has D'.toArray e.1=false
    cases q:has D'.toArray e.1 with
    | false=>rfl
    | true =>
      rcases (d3 _).mp ((hW d2).mp q) with z|z
      . exact absurd z (ne e he)
      . have:=g.dj e (sub e he)
        rw [hD,(hW R).mpr z] at this
        cases this
  . have:=g.fl
    unfold fill at this ⊢
    rw [g.pl,hD] at this
    simp only [List.size_toArray,List.length_map] at this ⊢
    rw [d4,List.length_eraseIdx_of_lt hi]
    omega
  . obtain ⟨s,e1,e2⟩:=g.reach e (sub e he)
    have pm:∀ s,pos { t with place:=((L.eraseIdx i).map (·.1)).toArray,dummies:=D'.toArray } e.2.1 s=pos t e.2.1 s:=fun s=>ij (by rfl) _ s
    refine ⟨s,by rw [pm];exact e1,fun s' hs z=>e2 s' hs ?_⟩
    rw [pm] at z
    obtain ⟨z1,z2⟩:=z
    have z2':pos t e.2.1 s'∉D':=fun q=>by
      have:=(hW d2).mpr q
      rw [show has D'.toArray _=false from z2] at this;cases this
    refine ⟨fun l=>?_,?_⟩
    . obtain ⟨e',h1,h2⟩:=g.live.mp l
      have hp:(L[i]::L.eraseIdx i).Perm L:=fH hi
      rcases List.mem_cons.mp (hp.mem_iff.mpr h1) with q|q
      . exact z2' ((d3 _).mpr (.inl (by rw [<- h2,q])))
      . obtain ⟨k,hk,ek⟩:=List.mem_iff_getElem.mp q
        exact z1 ⟨k,by simpa using hk,by simp [Array.getD,hk,ek,h2]⟩
    . cases q:has t.dummies (pos t e.2.1 s') with
      | false=>rfl
      | true=>rw [hD] at q;exact absurd ((d3 _).mpr (.inr ((hW R).mp q))) z2'
end
end Tb
namespace Tb
open PySem PySem.Spec PySem.SetTable
theorem Lost.odd {t:SetTable} {L:List bu} (g:Lost t L):t.gaveWay=false:=by
  obtain ⟨k,hk⟩:=g.pw
  have h7:=g.m7
  unfold gaveWay
  cases k with
  | zero=>simp at hk;omega
  | succ k =>
    have:t.mask % 2=1:=by rw [Nat.pow_succ] at hk;omega
    simp [this]
theorem Lost.len {t:SetTable} {L:List bu} (g:Lost t L):L.length<=t.mask:=by
  have:=g.fl
  unfold fill at this
  rw [g.lies.sz] at this
  omega
section
variable {prog:Program} {w:World} {A:Around} {E:Value->Shared->Prop} {s:Shared}
theorem qF {a b:Addr} {ks:List Int} {L:List bu} {ep:Nat} {t:SetTable} {f:bu->List Int} {Q:SetFound->Shared->Prop} (ho:s.heap.get? a=some (bd L ep t)) (g:Lost t L) (hf:∀ e∈L,jm prog w s.heap e (f e))
    (hb:IsTupleKey (intKind prog w) s.heap ks b) (hu:A.units < cLine) (q1:∀ i (hi:i < L.length),f L[i]=ks->Q (.there (some i)) s)
    (q2:∀ j d,(∀ e∈L,f e≠ks)->Q (.free j d) s) :
    ∀ (fuel s0 sE:Nat) (stnd:Option Probe) (d:Option Nat),s0<=sE->sE < s0 + fuel->sE < s0 + 10 * turns t.mask->rJ t (pos t (hK prog w ks) sE)->stnd.getD (t.probeStart (hK prog w ks))=wd (bD t s0 (t.probeStart (hK prog w ks))) d ->
      (∀ n,n < s0->(∃ e∈L,e.1=pos t (hK prog w ks) n/\f e≠ks)∨(¬ dB t (pos t (hK prog w ks) n)/\has t.dummies (pos t (hK prog w ks) n)=true))->wpAny (model prog w) A (setSearchFrom a (.ref b) (hK prog w ks) false fuel stnd) Q E s:=by
  intro fuel
  have y:=g.lies
  induction fuel with
  | zero=>intro s0 sE _ _ h1 h2;omega
  | succ fuel ih =>
    intro s0 sE stnd d h1 h2 h2' hE hst hpre
    unfold setSearchFrom
    refine wpAny_bind (wpAny_setState_of ho rfl (y.fits g.len) ?_)
    simp only [g.odd,Bool.false_eq_true,if_false]
    obtain ⟨s2,d2,a1,a2,a3,a4⟩:=Bn y.rise (fun i=>((((L.map (·.2)).toArray)[i]?).map (·.1)).getD 0) (hK prog w ks) (10 * turns t.mask) s0 sE d h1 h2' hE
    have hh:∀ i (hi:i < L.length),((((L.map (·.2)).toArray)[i]?).map (·.1)).getD 0=L[i].2.1:=fun i hi=>by simp [hi]
    have passed:∀ n,n < s2->(∃ e∈L,e.1=pos t (hK prog w ks) n/\f e≠ks)∨(¬ dB t (pos t (hK prog w ks) n)/\has t.dummies (pos t (hK prog w ks) n)=true):=fun n hn=>by
      by_cases c:n < s0
      . exact hpre n c
      . rcases a3 n (by omega) hn with ⟨i,hi,e1,e2⟩|z
        . rw [y.sz] at hi
          rw [y.at hi] at e1
          rw [hh i hi] at e2
          refine .inl ⟨L[i],List.getElem_mem hi,e1,fun z=>e2 ?_⟩
          obtain ⟨b',_,_,e3⟩:=hf _ (List.getElem_mem hi)
          rw [e3,z]
        . exact .inr z
    rcases a4 with ⟨hne,hp⟩|⟨i,hi,e1,e2,hp⟩
    . -- an empty slot
      have hp':t.probe (fun i=>((((L.map (·.2)).toArray)[i]?).map (·.1)).getD 0) (hK prog w ks) (stnd.getD (t.probeStart (hK prog w ks)))=some (.empty (pos t (hK prog w ks) s2) d2):=by rw [hst];exact hp
      generalize hr:t.probe _ (hK prog w ks) (stnd.getD (t.probeStart (hK prog w ks)))=r
      obtain rfl:r=_:=hr.symm.trans hp'
      have none_:∀ e∈L,f e≠ks:=fun e he z=>by
        obtain ⟨b',_,_,e3⟩:=hf e he
        obtain ⟨n,r1,r2⟩:=g.reach e he
        rw [e3,z] at r1 r2
        by_cases c:n < s2
        . rcases passed n c with ⟨e',he',q,ne⟩|⟨nl,_⟩
          . have:=yZ g.so he' he (q.trans r1)
            subst this
            exact ne z
          . exact nl (g.live.mpr ⟨e,he,r1.symm⟩)
        . by_cases d:s2 < n
          . exact r2 s2 d hne
          . obtain rfl:n=s2:=by omega
            exact hne.1 (g.live.mpr ⟨e,he,r1.symm⟩)
      simp only
      cases d2 with
      | none=>exact wpAny_pure (q2 _ _ none_)
      | some d0 =>
        simp only [Bool.false_and,Bool.false_eq_true,if_false]
        exact wpAny_pure (q2 _ _ none_)
    . -- a key with the same hash
      rw [y.sz] at hi
      have e1':=e1
      rw [y.at hi] at e1
      obtain ⟨b',hv,hk',hx⟩:=hf _ (List.getElem_mem hi)
      have hp':t.probe (fun i=>((((L.map (·.2)).toArray)[i]?).map (·.1)).getD 0) (hK prog w ks) (stnd.getD (t.probeStart (hK prog w ks)))=some (.candidate (pos t (hK prog w ks) s2) i (wd (bD t (s2 + 1) (t.probeStart (hK prog w ks))) d2)):=by rw [hst];exact hp
      generalize hr:t.probe _ (hK prog w ks) (stnd.getD (t.probeStart (hK prog w ks)))=r
      obtain rfl:r=_:=hr.symm.trans hp'
      simp only
      have ei:((L.map (·.2)).toArray)[i]?=some (L[i].2.1,.ref b'):=by
        have:((L.map (·.2)).toArray)[i]?=some L[i].2:=by simp [hi]
        rw [this,<- hv]
      have rest:wpAny (model prog w) A (do
          let some (_,y):=((L.map (·.2)).toArray)[i]?|unsupported "internal:set-entry"
          let equal <- holding [y] (eqBool y (.ref b))
          let (es',_,t') <- setState a
          if false && equal then return .there none
          let some same:=t'.sameMemory t.moves t.mask|unsupported "set.changed-during-lookup:is-the-new-block-at-the-old-address"
          let still <- match (if same then t'.slot (pos t (hK prog w ks) s2) else .empty) with
            | .live i'=>match es'[i']? with
              | some (_,y')=>do pure (if <- isSame y' y then some i' else none)
              | none=>pure none
            | _=>pure none
          match still with
          | none=>rule "set.search.anew";setSearchFrom a (.ref b) (hK prog w ks) false fuel none
          | some i'=>if equal then return .there (some i') else setSearchFrom a (.ref b) (hK prog w ks) false fuel (some (wd (bD t (s2 + 1) (t.probeStart (hK prog w ks))) d2))) Q E s:=by
        rw [ei]
        simp only
        refine wpAny_bind (wpAny_holding ((TK prog w).eqBool hu hk' hb ?_))
        refine wpAny_bind (wpAny_setState_of ho rfl (y.fits g.len) ?_)
        simp only [Bool.false_and,Bool.false_eq_true,if_false]
        have hsm:t.sameMemory t.moves t.mask=some true:=by unfold sameMemory;simp
        rw [hsm]
        simp only [if_true]
        have hsl:t.slot (pos t (hK prog w ks) s2)=.live i:=by rw [<- e1'];exact iA y.rise (by rw [y.sz];exact hi)
        rw [hsl]
        simp only [ei]
        refine wpAny_bind (iH (wpAny_bind (wpAny_pure ?_)))
        simp only [if_true]
        by_cases c:f L[i]=ks
        . simp only [c,decide_true,if_true]
          exact wpAny_pure (q1 i hi c)
        . simp only [c,decide_false,Bool.false_eq_true,if_false]
          have hne:s2≠sE:=fun z=>hE.1 (z▸g.live.mpr ⟨_,List.getElem_mem hi,e1⟩)
          refine ih (s2 + 1) sE _ d2 (by omega) (by omega) (by omega) hE rfl fun n hn=>?_
          by_cases d:n=s2
          . subst d;exact .inl ⟨_,List.getElem_mem hi,e1,c⟩
          . exact passed n (by omega)
      cases hled:t.led with
      | true=>simp only [Bool.not_true,Bool.false_eq_true,if_false];exact rest
      | false =>
        simp only [Bool.not_false,if_true]
        refine wpAny_bind (mz hb _ (fun y hy=>?_) ?_)
        . obtain ⟨e,he,rfl⟩:=List.mem_map.mp hy
          have he':e∈(L.map (·.2)):=by
            have:=Array.mem_toList_iff.mp he
            have:=(Array.mem_filter.mp this).1
            simpa using this
          obtain ⟨e0,h0,rfl⟩:=List.mem_map.mp he'
          obtain ⟨b2,hv2,hk2,_⟩:=hf e0 h0
          exact ⟨_,b2,hv2,hk2⟩
        . simp only [Bool.false_eq_true,if_false];exact rest
theorem vd {a b:Addr} {ks:List Int} {L:List bu} {ep:Nat} {t:SetTable} {f:bu->List Int} {Q:Option Nat->Shared->Prop} (ho:s.heap.get? a=some (bd L ep t)) (g:Lost t L) (mb:t.mask < 8000) (hf:∀ e∈L,jm prog w s.heap e (f e)) (hb:IsTupleKey (intKind prog w) s.heap ks b) (hu:A.units < cLine)
    (q1:∀ i (hi:i < L.length),f L[i]=ks->Q (some i) s) (q2:(∀ e∈L,f e≠ks)->Q none s):wpAny (model prog w) A (setFind a (.ref b) (hK prog w ks)) Q E s:=by
  have hmask:t.mask < 8000:=mb
  unfold setFind
  show wpAny (model prog w) A (setFindIn a (.ref b) (hK prog w ks) (99999 + 1)) Q E s
  unfold setFindIn
  refine wpAny_bind (wpAny_setState_of ho rfl (g.lies.fits g.len) ?_)
  have hby:byScan (.ref b) (L.map (·.2)).toArray=false:=by simp [byScan,Value.scannable]
  simp only [hby,Bool.false_eq_true,if_false]
  obtain ⟨e0,he0,hE0⟩:=g.emp
  obtain ⟨k,hk⟩:=g.pw
  obtain ⟨sE,_,hsE,pE⟩:=my hk (hK prog w ks) 0 he0
  refine wpAny_bind ?_
  unfold setSearch
  refine qF (f:=f) (Q:=fun r s'=>wpAny (model prog w) A (match r with
    | .there i=>_
    | .free ..=>_) Q E s') ho g hf hb hu (fun i hi c=>?_) (fun j d hno=>?_) 100000 0 sE none none (Nat.zero_le _) (by omega) (by unfold turns;omega) (by rw [pE];exact hE0) rfl (fun n hn=>absurd hn (by omega))
  . exact wpAny_pure (q1 i hi c)
  . exact wpAny_pure (q2 hno)
end
end Tb
namespace Tb
open PySem PySem.Spec PySem.SetTable
def LostAt (prog:Program) (w:World) (U:Addr->List Int->Prop) (h:Heap) (a:Addr) (kss:List (List Int)):Prop :=
  ∃ (L:List bu) (ep:Nat) (t:SetTable) (f:Int×Value->List Int),h.get? a=some (bd L ep t)/\Lost t L/\t.mask < 8000/\(t.plain=true/\t.led=!bG w)/\(∀ e∈L,jm prog w h e (f e.2))/\(L.map fun e=>f e.2).Perm kss/\kss.Nodup/\∀ e∈L,∀ b,e.2.2=.ref b->U b (f e.2)
section
variable {prog:Program} {w:World} {U:Addr->List Int->Prop} {A:Around} {E:Value->Shared->Prop} {s:Shared}
theorem SetAt.lost {h:Heap} {a:Addr} {kss:List (List Int)} (x:SetAt prog w U h a kss):LostAt prog w U h a kss:=by
  obtain ⟨L,ep,t,f,ho,g,room,mb,pl,hf,hp,nd,uu⟩:=x
  have:=g.m7
  exact ⟨L,ep,t,f,ho,g.lost (by omega),mb,pl,hf,hp,nd,uu⟩
theorem LostAt.nd {h:Heap} {a:Addr} {kss:List (List Int)} (x:LostAt prog w U h a kss):kss.Nodup:=by
  obtain ⟨_,_,_,_,_,_,_,_,_,_,z,_⟩:=x;exact z
theorem LostAt.perm {h:Heap} {a:Addr} {kss kss':List (List Int)} (x:LostAt prog w U h a kss) (p:kss.Perm kss'):LostAt prog w U h a kss':=by
  obtain ⟨L,ep,t,f,ho,g,mb,pl,hf,hp,nd,uu⟩:=x
  exact ⟨L,ep,t,f,ho,g,mb,pl,hf,hp.trans p,p.nodup_iff.mp nd,uu⟩
theorem sB {a b:Addr} {ks:List Int} {kss:List (List Int)} {Q:Bool->Shared->Prop} (hS:LostAt prog w U s.heap a kss) (hb:IsTupleKey (intKind prog w) s.heap ks b) (hu:A.units < cLine)
    (h:∀ h' r,Heap.SameBut a s.heap h'->LostAt prog w U h' a (kss.erase ks)->Q r { s with heap:=h' }):wpAny (model prog w) A (setDiscardHashed a (.ref b) (hK prog w ks)) Q E s:=by
  obtain ⟨L,ep,t,f,ho,g,mb,pl,hf,hp,nd,uu⟩:=hS
  have hmem:∀ x,x∈kss↔∃ e∈L,f e.2=x:=fun x=>by rw [<- hp.mem_iff,List.mem_map]
  unfold setDiscardHashed
  refine wpAny_bind (vd (f:=fun e=>f e.2) ho g mb hf hb hu (fun i hi c=>?_) fun hno=>?_)
  . simp only
    refine wpAny_bind (wpAny_setState_of ho rfl (g.lies.fits g.len) ?_)
    simp only
    have ee:eraseAt ((L.map (·.2)).toArray) i=(((L.eraseIdx i).map (·.2)).toArray):=by rw [jX _ _ (by simpa using hi),pM]
    rw [ee]
    obtain ⟨g',d1,d2,d3⟩:=g.drop hi
    have hlen:(L.eraseIdx i).length<=1000000:=by have:=g.len;rw [List.length_eraseIdx_of_lt hi];omega
    refine wpAny_bind (fm (L':=L.eraseIdx i) (t':=t.drop i) ho hlen fun h' hs hg=>wpAny_bind (wpAny_point (wpAny_pure (h h' true hs ?_))))
    have sub:∀ e,e∈L.eraseIdx i->e∈L:=fun e he=>(List.eraseIdx_sublist L i).subset he
    refine ⟨L.eraseIdx i,ep + 1,t.drop i,f,hg,g',by rw [d3];exact mb,⟨d1.trans pl.1,d2.trans pl.2⟩,fun e he=>?_,?_,nd.erase _,fun e he=>uu e (sub e he)⟩
    . obtain ⟨b',h1,h2,h3⟩:=hf e (sub e he)
      exact ⟨b',h1,eE ho hs h2,h3⟩
    . have p1:(L[i]::L.eraseIdx i).Perm L:=fH hi
      have p2:=(p1.map fun e=>f e.2).trans hp
      rw [List.map_cons,show f L[i].2=ks from c] at p2
      have:=p2.erase ks
      simpa using this
  . refine wpAny_pure (h s.heap false (Heap.SameBut.refl a s.heap) ?_)
    rw [List.erase_of_not_mem fun z=>by obtain ⟨e,he,q⟩:=(hmem ks).mp z;exact hno e he q]
    exact ⟨L,ep,t,f,ho,g,mb,pl,hf,hp,nd,uu⟩
theorem jY {x:List Int}:∀ (ks kss:List (List Int)),kss.Nodup->((ks.foldl List.erase kss).Nodup/\(x∈ks.foldl List.erase kss↔x∈kss/\x∉ks))
  | [],kss,nd=>⟨nd,by simp⟩
  | k::ks,kss,nd=>by
    obtain ⟨h1,h2⟩:=jY (x:=x) ks (kss.erase k) (nd.erase k)
    refine ⟨h1,?_⟩
    rw [List.foldl_cons,h2,nd.mem_erase_iff]
    simp only [List.mem_cons,not_or]
    constructor
    . rintro ⟨⟨a,b⟩,c⟩;exact ⟨b,a,c⟩
    . rintro ⟨b,a,c⟩;exact ⟨⟨a,b⟩,c⟩
theorem jZ:∀ (ks kss:List (List Int)),(ks.foldl List.erase kss).length<=kss.length
  | [],kss=>Nat.le_refl _
  | k::ks,kss=>by
    rw [List.foldl_cons]
    have h1:=jZ ks (kss.erase k)
    have h2:(kss.erase k).length<=kss.length:=List.length_erase_le
    omega
theorem nu {r:Addr} {f:Int×Value->List Int} {body:Int×Value->PUnit->Sem (ForInStep PUnit)} {s0:Shared} {Q:PUnit->Shared->Prop}
    (hbody:∀ (e:Int×Value) (b:Addr) (acc:List (List Int)) (s':Shared) (R:ForInStep PUnit->Shared->Prop),e=(hK prog w (f e),.ref b)->IsTupleKey (intKind prog w) s'.heap (f e) b->Heap.SameBut r s0.heap s'.heap->LostAt prog w U s'.heap r acc ->
      (∀ h',Heap.SameBut r s'.heap h'->LostAt prog w U h' r (acc.erase (f e))->R (.yield ⟨⟩) { s' with heap:=h' })->wpAny (model prog w) A (body e ⟨⟩) R E s') :
    ∀ (es:List (Int×Value)) (acc:List (List Int)) (s':Shared),(∀ e∈es,∃ b,e=(hK prog w (f e),.ref b)/\IsTupleKey (intKind prog w) s0.heap (f e) b/\U b (f e))->Heap.SameBut r s0.heap s'.heap->LostAt prog w U s'.heap r acc ->
      (∃ o,s0.heap.get? r=some o/\∀ xs m,o.data≠.seq xs m) ->
      (∀ h',Heap.SameBut r s0.heap h'->LostAt prog w U h' r ((es.map f).foldl List.erase acc)->Q ⟨⟩ { s' with heap:=h' })->wpAny (model prog w) A (forIn es PUnit.unit body) Q E s'
  | [],acc,s',_,hs,hS,_,h=>by
    rw [List.forIn_nil]
    exact wpAny_pure (h s'.heap hs hS)
  | e::es,acc,s',he,hs,hS,hr,h=>by
    rw [List.forIn_cons]
    obtain ⟨b,e1,k1,u1⟩:=he e (.head _)
    have key':IsTupleKey (intKind prog w) s'.heap (f e) b:=by
      obtain ⟨o,its,n,q1,q2,q3,q4⟩:=k1
      obtain ⟨ro,g1,g2⟩:=hr
      have ne:b≠r:=fun z=>by subst z;rw [g1] at q1;cases q1;exact g2 _ _ q3
      exact ⟨o,its,n,(hs.2 b ne).trans q1,q2,q3,q4⟩
    refine wpAny_bind (hbody e b acc s' _ e1 key' hs hS fun h' hs' hS'=>?_)
    refine nu hbody es _ { s' with heap:=h' } (fun e' h'=>he e' (.tail _ h')) (hs.trans hs') hS' hr fun h2 hs2 hS2=>?_
    exact h h2 hs2 hS2
theorem ve {a:Addr} {kss:List (List Int)} {Q:Unit->Shared->Prop} (hS:LostAt prog w U s.heap a kss) (hn:kss.length < 1000) (h:∀ h',Heap.SameBut a s.heap h'->LostAt prog w U h' a kss->Q () { s with heap:=h' }):wpAny (model prog w) A (setTidy a) Q E s:=by
  obtain ⟨L,ep,t,f,ho,g,mb,pl,hf,hp,nd,uu⟩:=hS
  have hlen:L.length=kss.length:=by have:=hp.length_eq;simpa using this
  unfold setTidy
  refine wpAny_bind (wpAny_setState_of ho rfl (g.lies.fits g.len) ?_)
  simp only
  cases c:t.tooManyDummies with
  | false =>
    simp only [Bool.false_eq_true,if_false]
    exact wpAny_pure (h s.heap (Heap.SameBut.refl a s.heap) ⟨L,ep,t,f,ho,g,mb,pl,hf,hp,nd,uu⟩)
  | true =>
    simp only [if_true]
    have es:((L.map (·.2)).toArray).size=L.length:=by simp
    rw [es]
    have hg:grown L.length=L.length * 4:=by unfold grown;rw [if_neg (by omega)]
    rw [hg]
    obtain ⟨s1,s2,s3,s4⟩:=fG (L.length * 4) (by omega)
    unfold setRelay
    refine wpAny_bind (wpAny_setState_of ho rfl (g.lies.fits g.len) ?_)
    have hsz:¬ sizeAbove (L.length * 4) > sizeLine:=by rw [sizeLine_eq];omega
    simp only [hsz,if_false]
    obtain ⟨t',order,L',e1,e2,e3,e4,e5,g',e6,e7⟩:=iB s1 s2 t.finger (t.movedTo (sizeAbove (L.length * 4) - 1)) t.led t.plain (L.map (·.2)) (by simp;omega)
    have hlen':L'.length=L.length:=by have:=e7.length_eq;simpa using this
    have er:t.relaid (((L.map (·.2)).toArray).map (·.1)) (L.length * 4)=some (t',order):=by
      unfold relaid
      have:((L.map (·.2)).toArray).map (·.1)=((L.map (·.2)).map (·.1)).toArray:=by simp
      rw [this];exact e1
    have main:wpAny (model prog w) A (do
        let some (t,order):=t.relaid (((L.map (·.2)).toArray).map (·.1)) (L.length * 4)|unsupported "internal:set-table-without-room"
        let es':=order.filterMap (((L.map (·.2)).toArray)[·]?)
        if es'.size != ((L.map (·.2)).toArray).size then unsupported "internal:set-table-lost-an-element"
        pure (es',t)) (fun r s'=>wpAny (model prog w) A (storeSet a r.1 r.2) Q E s') E s:=by
      rw [er]
      simp only
      rw [e6]
      have:((L'.map (·.2)).toArray.size != ((L.map (·.2)).toArray).size)=false:=by simp [hlen']
      rw [this]
      simp only [Bool.false_eq_true,if_false]
      refine wpAny_pure ?_
      refine fm (t':=t') ho (by omega) fun h' hs hg=>h h' hs ⟨L',ep + 1,t',f,hg,g'.lost (by rw [e2];omega),by rw [e2];omega,⟨e4.trans pl.1,e3.trans pl.2⟩,fun e he=>?_,?_,nd,fun e he=>?_⟩
      . obtain ⟨e0,h0,q0⟩:=List.mem_map.mp (e7.mem_iff.mp (List.mem_map_of_mem he))
        obtain ⟨b',h1,h2,h3⟩:=hf e0 h0
        rw [q0] at h1 h2 h3
        exact ⟨b',h1,eE ho hs h2,h3⟩
      . have:=(e7.map f)
        simp only [List.map_map] at this
        exact this.trans hp
      . obtain ⟨e0,h0,q0⟩:=List.mem_map.mp (e7.mem_iff.mp (List.mem_map_of_mem he))
        have:=uu e0 h0
        rw [q0] at this
        exact this
    exact wpAny_bind main
theorem LostAt.keys {h:Heap} {a:Addr} {kss:List (List Int)} (x:LostAt prog w U h a kss):∃ o,h.get? a=some o/\∀ xs m,o.data≠.seq xs m:=by
  obtain ⟨L,ep,t,f,ho,_⟩:=x
  exact ⟨_,ho,fun xs m z=>by cases z⟩
theorem vf {id:String} {r o:Addr} {kss js:List (List Int)} {Q:Unit->Shared->Prop} (hr:SetAt prog w U s.heap r kss) (ho:SetAt prog w U s.heap o js) (hne:r≠o) (hk:kss.length < 400) (hj:js.length<=kss.length) (hu:A.units < cLine)
    (h:∀ h' ls,Heap.SameBut r s.heap h'->(∀ x,x∈ls↔x∈kss/\x∉js)->LostAt prog w U h' r ls->Q () { s with heap:=h' }):wpAny (model prog w) A (Builtin.Frozenset.differenceUpdate id r (.ref o)) Q E s:=by
  obtain ⟨L,ep,t,f,hoD,gs,hlen,hp,he⟩:=ho.goes (by omega)
  unfold Builtin.Frozenset.differenceUpdate
  refine lI (by rw [beq_eq_false_iff_ne];intro e;injection e with e;exact hne e.symm) ?_
  refine wpAny_bind (gE ho.ty ?_)
  simp only [if_true]
  refine wpAny_bind (m:=Builtin.Frozenset.addrOf _) (wpAny_pure ?_)
  refine wpAny_bind (dL ho (by omega) (wpAny_bind (dL hr (by omega) ?_)))
  have hc:¬ js.length / 8 > kss.length:=by omega
  rw [if_neg hc]
  refine wpAny_bind (wpAny_setEpoch_of hoD rfl (gs.g.fits gs.hl) ?_)
  refine wpAny_bind (wpAny_holding (wpAny_bind (il hoD gs ?_)))
  rw [<- Array.forIn_toList]
  refine wpAny_bind (nu (U:=U) (r:=r) (f:=f) (s0:=s) (fun e b acc s' R e1 k1 hs' hS' hR'=>?_) _ kss s he (Heap.SameBut.refl r s.heap) hr.lost hr.lost.keys fun h' hs' hS'=>?_)
  . rw [e1]
    simp only
    refine wpAny_bind (wpAny_holding (sB hS' k1 hu fun h2 q hs2 hS2=>?_))
    unfold Builtin.Frozenset.unchanged
    have hD':h2.get? o=some (bd L ep t):=(hs2.2 o (Ne.symm hne)).trans ((hs'.2 o (Ne.symm hne)).trans hoD)
    refine wpAny_bind (wpAny_bind (wpAny_setEpoch_of (s:={ s' with heap:=h2 }) hD' rfl (gs.g.fits gs.hl) ?_))
    simp only [bne_self_eq_false,Bool.false_eq_true,if_false]
    exact wpAny_pure (wpAny_pure (hR' h2 hs2 hS2))
  . refine wpAny_pure ?_
    have hle:=jZ ((bq w o ep L).toList.map f) kss
    refine ve (s:={ s with heap:=h' }) hS' (by omega) fun h2 hs2 hS2=>h h2 _ (hs'.trans hs2) (fun x=>?_) hS2
    rw [(jY (x:=x) _ kss hr.nd).2,hp.mem_iff]
end
end Tb
namespace Tb
open PySem PySem.Spec PySem.SetTable
section
variable {prog:Program} {w:World} {U:Addr->List Int->Prop} {A:Around} {E:Value->Shared->Prop} {s:Shared}
theorem Bo {id:String} {l r:Addr} {kss js:List (List Int)} {Q:Value->Shared->Prop} (hl:SetAt prog w U s.heap l kss) (hr:SetAt prog w U s.heap r js) (hk:kss.length < 400) (hj:js.length < 400) (hu:A.units < cLine)
    (h:∀ h' tk ls,(∀ b o,s.heap.get? b=some o->h'.get? b=some o)->(∀ x,x∈ls↔x∈kss/\x∉js)->LostAt prog w U h' s.heap.objs.size ls->Q (.ref s.heap.objs.size) { s with heap:=h',toks:=tk }) :
    wpAny (model prog w) A (Builtin.Frozenset.difference id l (.ref r)) Q E s:=by
  have lt:∀ {D:Addr} {k:List (List Int)},SetAt prog w U s.heap D k->D < s.heap.objs.size:=fun hS=>by obtain ⟨L,ep,t,ho,_⟩:=hS.len;exact Heap.lt_size ho
  by_cases c:kss.length / 4 > js.length
  . unfold Builtin.Frozenset.difference
    refine wpAny_bind (gE hr.ty ?_)
    simp only [Bool.not_true,Bool.false_eq_true,if_false,Bool.false_and,if_true]
    refine wpAny_bind (m:=Builtin.Frozenset.addrOf _) (wpAny_pure ?_)
    refine wpAny_bind (dL hr (by omega) (wpAny_bind (dL hl (by omega) ?_)))
    rw [if_pos c]
    refine wpAny_bind (wpAny_rule ?_)
    refine wpAny_bind (mD hl (by omega) hu fun h1 tk1 k1 kp nd1 hm1 hS1=>?_)
    have hp:k1.length=kss.length:=(de nd1 hl.nd hm1).length_eq
    refine wpAny_bind (m:=Builtin.Frozenset.addrOf _) (wpAny_pure ?_)
    refine wpAny_bind (wpAny_holding (vf (s:={ s with heap:=h1,toks:=tk1 }) hS1 (hr.moved fun b o _ e=>kp b o e) (Nat.ne_of_gt (lt hr)) (by omega) (by omega) hu fun h2 ls hs2 hm2 hS2=>?_))
    exact wpAny_pure (h h2 tk1 ls (fun b o e=>(hs2.2 b (Nat.ne_of_lt (Heap.lt_size e))).trans (kp b o e)) (fun x=>by rw [hm2 x,hm1 x]) hS2)
  . exact Cp hl hr hk hj (.inr c) hu fun h' tk ls k hm hS=>h h' tk ls k hm hS.lost
theorem za {l r:Addr} {kss js:List (List Int)} {Q:Value->Shared->Prop} (hl:SetAt prog w U s.heap l kss) (hr:SetAt prog w U s.heap r js) (hk:kss.length < 400) (hj:js.length < 400) (hu:A.units + 4 < cLine)
    (h:∀ h' tk ls,(∀ b o,s.heap.get? b=some o->h'.get? b=some o)->(∀ x,x∈ls↔x∈kss/\x∉js)->LostAt prog w U h' s.heap.objs.size ls->Q (.ref s.heap.objs.size) { s with heap:=h',toks:=tk }) :
    wpAny (model prog w) A (binaryOp .Sub (.ref l) (.ref r)) Q E s:=by
  refine wpAny_binaryOp_same (op:=.Sub) (T:="set") hl.ty hr.ty F.fills_set_sub F.slot_set_sub (wpAny_call_entry F.slot_set_sub hl.ty qC ?_ (F.args_set_sub_2 _ _))
  exact pB (name:="__sub__") hl.ty hr.ty (Bo hl hr hk hj (by show A.units + 1 < cLine;omega) fun h' tk ls k hm hS=>⟨_,rfl,by simp,h h' tk ls k hm hS⟩)
end
end Tb
namespace So
open PySem PySem.Spec PySem.W PyProof.Rows PySem.Calls PySem.SetTable Tb
section
variable {prog:Program} {w:World} {A:Around} {E:Value->Shared->Prop} {s:Shared} {U:Addr->List Int->Prop}
def LostO (prog:Program) (w:World) (U:Addr->List Int->Prop) (o:Obj) (kss:List (List Int)):Prop :=
  ∃ (L:List bu) (ep:Nat) (t:SetTable) (f:Int×Value->List Int),o=bd L ep t/\Lost t L/\t.mask < 8000/\(t.plain=true/\t.led=!bG w)/\(∀ e∈L,∃ b,e.2.2=.ref b/\e.2.1=hK prog w (f e.2)/\U b (f e.2))/\(L.map fun e=>f e.2).Perm kss/\kss.Nodup
theorem LostAt.obj {h:Heap} {a:Addr} {kss:List (List Int)} (x:LostAt prog w U h a kss):∃ o,h.get? a=some o/\LostO prog w U o kss:=by
  obtain ⟨L,ep,t,f,ho,g,mb,pl,hf,hp,nd,uu⟩:=x
  refine ⟨_,ho,L,ep,t,f,rfl,g,mb,pl,fun e he=>?_,hp,nd⟩
  obtain ⟨b,h1,h2,h3⟩:=hf e he
  exact ⟨b,h1,h3,uu e he b h1⟩
theorem LostO.at {h:Heap} {a:Addr} {o:Obj} {kss:List (List Int)} (x:LostO prog w U o kss) (ho:h.get? a=some o) (hU:∀ b ks,U b ks->IsTupleKey (intKind prog w) h ks b):LostAt prog w U h a kss:=by
  obtain ⟨L,ep,t,f,rfl,g,mb,pl,hf,hp,nd⟩:=x
  refine ⟨L,ep,t,f,ho,g,mb,pl,fun e he=>?_,hp,nd,fun e he b hb=>?_⟩
  . obtain ⟨b,h1,h2,h3⟩:=hf e he
    exact ⟨b,h1,hU _ _ h3,h2⟩
  . obtain ⟨b',h1,h2,h3⟩:=hf e he
    rw [hb] at h1;cases h1;exact h3
theorem sorted_lost {D:Addr} {kss:List (List Int)} {Q:Value->Shared->Prop} (hh:A.handled=none) (hS:LostAt prog w U s.heap D kss) (hne:∀ ks∈kss,ks≠[]) (h64:kss.length < 64)
    (h:∀ h' tk l n (out:List Value),(∀ b o,s.heap.get? b=some o->h'.get? b=some o)->s.heap.objs.size<=l->lK U out (sortK kss)->h'.get? l=some (seqObj "list" out.toArray n)->Q (.ref l) { s with heap:=h',toks:=tk }) :
    wpAny (model prog w) A (call (.builtin "sorted") [.ref D]) Q E s:=by
  obtain ⟨L,ep,t,f,ho,g,mb,pl,hf,hp,nd,uu⟩:=hS
  have hlen:L.length=kss.length:=by have:=hp.length_eq;simpa using this
  have gs:Goes w L t:=⟨g.lies,g.len,pl.1,pl.2⟩
  have op:=iC w D ep L
  have osz:(bq w D ep L).toList.length=L.length:=by rw [Array.length_toList,dy]
  have kp:((bq w D ep L).toList.map f).Perm kss:=((op.map f).trans (List.Perm.of_eq (by rw [List.map_map];rfl))).trans hp
  have each:∀ x∈(bq w D ep L).toList,∃ b,x.2=.ref b/\IsTupleKey (intKind prog w) s.heap (f x) b/\U b (f x):=fun x hx=>by
    obtain ⟨e,he,rfl⟩:=List.mem_map.mp (op.mem_iff.mp hx)
    obtain ⟨b,h1,h2,h3⟩:=hf e he
    exact ⟨b,h1,h2,uu e he b h1⟩
  have at_:∀ (i:Nat) v,((bq w D ep L).toList.map (·.2))[i]?=some v->∃ x,x∈(bq w D ep L).toList/\v=x.2/\((bq w D ep L).toList.map f).getD i []=f x:=fun i v hv=>by
    rw [List.getElem?_map] at hv
    cases e:(bq w D ep L).toList[i]? with
    | none=>rw [e] at hv;cases hv
    | some x =>
      rw [e] at hv
      refine ⟨x,List.mem_of_getElem? e,(Option.some.inj hv).symm,?_⟩
      rw [List.getD_eq_getElem?_getD,List.getElem?_map,e];rfl
  refine sorted_of (vs:=(bq w D ep L).toList.map (·.2)) (kss:=(bq w D ep L).toList.map f) (fun Q' E' hq=>?_) ⟨by simp,fun i v hv=>?_⟩ (fun ks hks=>?_) (by rw [List.length_map,osz];omega) fun h' tk l n p k hl hsp hg=>?_
  . exact kA (by simpa using hh) ho gs (by omega) hq
  . obtain ⟨x,hx,rfl,e⟩:=at_ i v hv
    obtain ⟨b,h1,h2,h3⟩:=each x hx
    exact ⟨b,h1,by rw [e];exact h2⟩
  . exact hne ks (kp.mem_iff.mp hks)
  . refine h h' tk l n _ k hl (jo ⟨by simp,fun i v hv=>?_⟩ hsp kp) hg
    obtain ⟨x,hx,rfl,e⟩:=at_ i v hv
    obtain ⟨b,h1,h2,h3⟩:=each x hx
    exact ⟨b,h1,by rw [e];exact h3⟩
end
end So
namespace Vl
open PySem PySem.Spec L2 So Tb
def lS (P:Program) (w:World) (U:Addr->List Int->Prop) (a:Addr) (kss:List (List Int)):Heap->Prop:=fun h=>∃ o,h.get? a=some o/\LostO P w U o kss
section
variable {X:Cx} {B:Hp×Hp} {W:Wi}
def wN (P:Program) (w:World) (K:PySem.W.Frag):List V->Hp->VK->Prop:=fun xs H Q=>∃ (p:Addr) (kss:List (List Int)) (U:Addr->List Int->Prop),xs=[.ref p]/\H p=some (.ext (lS P w U p kss))/\(∀ b ks,U b ks->SqT K H b (ks.map V.int))/\(∀ ks∈kss,ks≠[])/\kss.length < 64 /\
  ∀ l ys,H l=none->ys.length=(sortK kss).length->(∀ (i:Nat) v,ys[i]?=some v->∃ b,v=.ref b/\U b ((sortK kss).getD i []))->Q (.ref l) (bc H l (.lst ys))
theorem pN (hc:X.calm=true):cW X (.builtin "sorted") (wN X.prog X.w X.K):=by
  intro pins s σ H xs us Q I r h
  obtain ⟨p,kss,U,rfl,hp,hU,hne,h64,q⟩:=h
  obtain ⟨u,rfl,rx⟩:=r.one
  cases rx
  obtain ⟨⟨o,ho,x⟩,_⟩:=I.hok _ _ hp
  have hS:=So.LostO.at x ho (fun b ks hb=>jV I (hU b ks hb))
  refine So.sorted_lost (I.ok.hd hc) hS hne h64 fun h' tk l n out k hl ho hg=>?_
  have hln:H l=none:=I.hok.fresh hl
  have hv:∃ ys:List V,Vals ys out/\ys.length=(sortK kss).length/\∀ (i:Nat) v,ys[i]?=some v->∃ b,v=.ref b/\U b ((sortK kss).getD i []):=by
    refine ⟨out.map fun v=>match v with|.ref b=>V.ref b|_=>V.non,?_,by simp [ho.1],fun i v hv=>?_⟩
    . have:∀ v∈out,∃ b,v=Value.ref b:=fun v hv=>by
        obtain ⟨i,hi⟩:=List.mem_iff_getElem?.mp hv
        obtain ⟨b,e,_⟩:=ho.2 i v hi;exact ⟨b,e⟩
      clear ho hg
      induction out with
      | nil=>exact .nil
      | cons a out ih =>
        obtain ⟨b,rfl⟩:=this a (.head _)
        exact .cons rfl (ih fun v hv=>this v (.tail _ hv))
    . rw [List.getElem?_map] at hv
      cases e:out[i]? with
      | none=>rw [e] at hv;cases hv
      | some v' =>
        rw [e] at hv
        obtain ⟨b,rfl,h2⟩:=ho.2 i v' e
        exact ⟨b,(Option.some.inj hv).symm,h2⟩
  obtain ⟨ys,rv,yl,yv⟩:=hv
  have e0:s.heap.objs.size<=l:=hl
  refine ⟨.ref l,_,I.laid (t':=tk) k hl (show ObjOk X.prog X.w _ h' _ (.lst ys) from ⟨?_,out,n,rv,hg⟩),rfl,q l ys hln yl yv⟩
  have:(sortK kss).length=kss.length:=(da kss).length_eq
  rw [yl,this,sizeLine_eq];omega
def sC (P:Program) (w:World) (K:PySem.W.Frag) (W:Wi) (σ:St) (G H:Hp) (r:Rs (List (List Int))) (Q:VK):Prop :=
  match r with
  | .ok kss=>∀ a H' G',Ext G H G' H'->H a=none->H' a=some (.ext (lS P w (UG K G') a kss))->Q (.ref a) H'
  | .ex c n=>∀ H' G',Ext G H G' H'->W c n σ H'
  | .no=>False
def tW (P:Program) (w:World) (K:PySem.W.Frag) (B:Hp×Hp) (W:Wi) (f:ah->Rs (List (List Int))):TE:=fun σ H Q=>∃ ρ G,SR K B σ H ρ G/\sC P w K W σ G H (f ρ) Q
def SL (X:Cx) (B:Hp×Hp) (W:Wi) (e:Expr) (f:ah->Rs (List (List Int))):Prop:=PE X e (tW X.prog X.w X.K B W f)
def Dv (P:Program) (w:World) (K:PySem.W.Frag) (C:List (List Int)->List (List Int)->Prop) (g:List (List Int)->List (List Int)->List (List Int)):R2:=fun x y H Q=>∃ (p p2:Addr) (a b:List (List Int)) (U1 U2 U:Addr->List Int->Prop),x=.ref p/\y=.ref p2/\p≠p2/\H p=some (.ext (gN P w U1 p a))/\H p2=some (.ext (gN P w U2 p2 b)) /\
  (∀ c ks,U1 c ks->U c ks)/\(∀ c ks,U2 c ks->U c ks)/\(∀ c ks,U c ks->SqT K H c (ks.map V.int))/\C a b/\∀ l,H l=none->Q (.ref l) (bc H l (.ext (lS P w U l (g a b))))
theorem vg {pins:List (Addr×Obj)} {σ:St} {H:Hp} {s:Shared} {Q:VK} {U:Addr->List Int->Prop} {ls a:List (List Int)} {h':Heap} {tk:Nat} (I:Inv X pins σ H s) (k:∀ b o,s.heap.get? b=some o->h'.get? b=some o) (hS:LostAt X.prog X.w U h' s.heap.objs.size ls) (p:ls.Perm a)
    (q:∀ l,H l=none->Q (.ref l) (bc H l (.ext (lS X.prog X.w U l a)))):EP X pins σ Q (.ref s.heap.objs.size) { s with heap:=h',toks:=tk }:=by
  have hS':=hS.perm p
  refine ⟨.ref s.heap.objs.size,_,I.laid (t':=tk) k (Nat.le_refl _) (show ObjOk X.prog X.w _ h' _ (.ext (lS X.prog X.w U s.heap.objs.size a)) from ⟨So.LostAt.obj hS',?_,?_⟩),rfl,q _ I.fresh⟩
  . obtain ⟨o,ho,_⟩:=So.LostAt.obj hS';exact ⟨o,ho⟩
  . rintro h1 h2 ⟨o,ho,x⟩ hk';exact ⟨o,hk' o ho,x⟩
theorem zb (hu:X.A.units + 8 < cLine):OpR X (binaryOp .Sub) (Dv X.prog X.w X.K iI kO):=by
  intro pins s σ H x y v u Q I rx ry ⟨p,p2,a,b,U1,U2,U,ex,ey,ne,h1,h2,u1,u2,hU,hc,q⟩
  subst ex ey
  cases rx
  cases ry
  have A1:=iV I h1 u1 hU
  have A2:=iV I h2 u2 hU
  exact za A1 A2 hc.1 hc.2 (by omega) fun h' tk ls k hm hS=>vg I k hS (de hS.nd (A1.nd.filter _) fun x=>by rw [hm x];exact subL_mem.symm) q
abbrev sD:=gK iI kO
theorem vh {a b:Expr} {pos:Pos} {fa fb:ah->Rs (List (List Int))} (hc:X.calm=true) (hu:X.A.units + 8 < cLine) (ha:SK X B W a fa) (hb:SK X B W b fb) :
    SL X B W (.BinOp a .Sub b pos) (jA sD fa fb):=by
  refine PE.imp (rX (zb hu) ha hb) fun σ H Q h=>?_
  obtain ⟨ρ,G,s,p⟩:=h
  refine ⟨ρ,G,s,?_⟩
  unfold jA at p
  cases e1:fa ρ with
  | ok l =>
    rw [e1] at p
    have p':sC X.prog X.w X.K W σ G H ((fb ρ).bind fun m=>sD l m) Q:=p
    intro p1 H1 G1 x1 n1 h1
    refine ⟨ρ,G1,s.ext x1,?_⟩
    cases e2:fb ρ with
    | ok m =>
      rw [e2] at p'
      have p2':sC X.prog X.w X.K W σ G H (if iI l m then .ok (kO l m) else .no) Q:=p'
      intro p2 H2 G2 x2 n2 h2
      have ne:p1≠p2:=fun z=>by subst z;rw [h1] at n2;cases n2
      by_cases hc:iI l m
      . rw [if_pos hc] at p2'
        refine ⟨p1,p2,l,m,UG X.K G1,UG X.K G2,UG X.K G2,rfl,rfl,ne,x2.hh _ _ h1,h2,fun c ks q=>Same.seqT x2.gg q,fun c ks q=>q,fun c ks q=>Same.seqT x2.gh q,hc,fun l' hl'=>?_⟩
        have x12:=x1.trans x2
        exact p2' l' _ G2 (x12.trans (mF x2.gh x2.tp hl')) (by cases e:H l' with|none=>rfl|some o=>have:=x12.hh _ _ e;rw [hl'] at this;cases this) aO
      . rw [if_neg hc] at p2';exact p2'.elim
    | ex c n=>rw [e2] at p';exact fun H2 G2 x2=>p' H2 G2 (x1.trans x2)
    | no=>rw [e2] at p';exact p'
  | ex c n=>rw [e1] at p;exact p
  | no=>rw [e1] at p;exact p
theorem lT {e:Expr} {p pos:Pos} {f:ah->Rs (List (List Int))} (hc:X.calm=true) (hm:X.mg "sorted"=none) (he:SL X B W e f) (hg:Gl X "sorted":=by rfl) (hst:starEach [e] X.env=[(false,eval e X.env)]:=by rfl) :
    SE X B W (.Call (.Name "sorted" p) [e] [] pos) (eS f):=by
  refine PE.imp (fY (pN hc) hg hm PyProof.Rows.boot_sorted (cT he eA hst) (by decide) (by decide) hst rfl) fun σ H Q h=>?_
  obtain ⟨ρ,G,s,p⟩:=h
  refine ⟨ρ,G,s,?_⟩
  unfold eS at p
  cases e1:f ρ with
  | ok kss =>
    rw [e1] at p
    intro a H' G' x _ ha
    have p':Post X.K W σ G H (iU kss) Q:=p
    unfold iU at p'
    by_cases hc':(∀ ks∈kss,ks≠[])/\kss.length < 64
    . rw [if_pos hc'] at p'
      refine ⟨a,kss,UG X.K G',rfl,ha,fun b ks hb=>Same.seqT x.gh hb,hc'.1,hc'.2,fun l ys hl hy hv=>?_⟩
      have x2:=fq (xs:=ys) x.gh x.tp hl
      refine p' _ _ _ (x.trans x2) (rep_lst.mpr ⟨l,ys,rfl,.of aO,?_⟩)
      exact (iD hy hv).mono x2.gg
    . rw [if_neg hc'] at p';exact p'.elim
  | ex c n=>rw [e1] at p;exact p
  | no=>rw [e1] at p;exact p
end
end Vl
namespace Vl
open PySem PySem.Spec L2 Dk
theorem nO:isSubtype (.type "dict") (.type "dict")=pure true:=by rw [isSubtype_type];kernel_rfl
section
variable {prog:Program} {w:World} {A:Around} {E:Value->Shared->Prop} {s:Shared}
theorem kC {d:Addr} {Q:Unit->Shared->Prop} (hd:(d == sysModules)=false) (h:Q () s):wpAny (model prog w) A (Builtin.Dict.showsAll d) Q E s:=by
  unfold Builtin.Dict.showsAll
  rw [if_neg (by rw [hd];exact Bool.false_ne_true)]
  exact wpAny_pure h
theorem pO {d d2:Addr} {es:Array DictEntry} {ep ep2:Nat} {Q:Value->Shared->Prop} (hd:(d == sysModules)=false) (hd2:(d2 == sysModules)=false) (hm:RawD s.heap d es ep) (hm2:RawD s.heap d2 #[] ep2) (hu:A.units < cLine)
    (h:Q (.bool (es.size == 0)) s):wpAny (model prog w) A (compareOp .Eq (.ref d) (.ref d2)) Q E s:=by
  obtain ⟨o,ho,hc,hdat⟩:=id hm
  obtain ⟨o2,ho2,hc2,hdat2⟩:=id hm2
  show wpAny _ _ (richCompare .Eq (.ref d) (.ref d2)) _ _ _
  refine wpAny_richCompare_same_room (op:=.Eq) (T:="dict") hm.ty hm2.ty F.slot_dict_eq (wpAny_call_entry F.slot_dict_eq hm.ty F.entry_dict_eq ?_ (F.args_dict_eq_2 _ _)) hu
  unfold Builtin.«dict.__eq__»
  show wpAny _ _ (Builtin.Dict.dictSlotArgs "__eq__" ⟨[.ref d,.ref d2],[]⟩ >>= _) _ _ _
  unfold Builtin.Dict.dictSlotArgs
  refine wpAny_bind (wpAny_bind (wpAny_notOrdered_dict hm.ty ?_))
  simp only [slotArgs,List.isEmpty_nil,Bool.not_true,Bool.false_eq_true,if_false,List.length_cons,List.length_nil,bne_self_eq_false]
  refine wpAny_bind (wpAny_pure (wpAny_pure ?_))
  refine wpAny_bind (wpAny_isInstance hm2.ty nO ?_)
  simp only [Bool.not_true,Bool.false_eq_true,if_false]
  refine wpAny_bind (wpAny_pure (wpAny_bind (wpAny_pure (wpAny_bind ?_))))
  unfold Builtin.Dict.samePairs
  refine wpAny_bind (kC hd (wpAny_bind (kC hd2 (wpAny_bind (wpAny_dictEntries ho hdat (wpAny_bind (wpAny_dictEntries ho2 hdat2 ?_)))))))
  by_cases c:es.size=0
  . have hc0:(es.size != (#[]:Array DictEntry).size)=false:=by simp [c]
    simp only [hc0,Bool.false_eq_true,if_false]
    refine wpAny_bind (wpAny_dictEpoch ho hdat ?_)
    rw [c]
    refine wpAny_bind ?_
    rw [Std.Legacy.Range.forIn_eq_forIn_range']
    refine wpAny_pure ?_
    refine wpAny_pure (wpAny_pure ⟨_,rfl,by simp,?_⟩)
    rw [c] at h
    exact h
  . have hc0:(es.size != (#[]:Array DictEntry).size)=true:=by simp [c]
    simp only [hc0,if_true]
    refine wpAny_bind (wpAny_rule (wpAny_pure (wpAny_pure ⟨_,rfl,by simp,?_⟩)))
    have:(es.size == 0)=false:=by simp [c]
    rw [this] at h
    exact h
end
section
variable {X:Cx} {B:Hp×Hp} {W:Wi}
end
end Vl
namespace So
open PySem PySem.Spec PySem.W PyProof.Rows PySem.Calls Tb
section
variable {prog:Program} {w:World} {A:Around} {E:Value->Shared->Prop} {s:Shared}
section
variable {I S:Addr} {fp wr:List Addr} {G:Array GenState->Array GenState->Prop} {n:Nat} {P:Nat->Value->Prop} {St:Nat->Shared->Prop} {R:Result->Shared->Prop} {Kp:Heap->Prop} {bt:Nat->Nat->Bool}
def CM (v:Value) (c:Nat):Obj:={ cls:=.type "list",dict:=none,data:=.seq #[v,v] c,slots:=#[] }
end
end
end So
namespace Vl
open PySem PySem.Spec L2 So
section
variable {X:Cx} {B:Hp×Hp} {W:Wi} {K:PySem.W.Frag}
end
end Vl
namespace Vl
open PySem PySem.Spec L2
theorem nv {K:Type} [DecidableEq K] {β:Type} {k:K}:∀ {xs:List (K×β)} {j:Nat} {p:β},(xs.map (·.1)).Nodup->xs[j]?=some (k,p)->xs.eraseIdx j=xs.filter fun x=>!decide (x.1=k)
  | [],j,p,_,h=>by simp at h
  | x::xs,0,p,hn,h=>by
    simp only [List.getElem?_cons_zero,Option.some.injEq] at h
    subst h
    rw [List.map_cons,List.nodup_cons] at hn
    have:∀ y∈xs,(!decide (y.1=k))=true:=fun y hy=>by
      have:y.1≠k:=fun e=>hn.1 (List.mem_map.mpr ⟨y,hy,e⟩)
      simp [this]
    simp only [List.eraseIdx_cons_zero,List.filter_cons,decide_true,Bool.not_true,Bool.false_eq_true,if_false]
    exact (List.filter_eq_self.mpr this).symm
  | x::xs,j + 1,p,hn,h=>by
    simp only [List.getElem?_cons_succ] at h
    rw [List.map_cons,List.nodup_cons] at hn
    have hk:k∈xs.map (·.1):=List.mem_map.mpr ⟨(k,p),List.mem_of_getElem? h,rfl⟩
    have ne:x.1≠k:=fun e=>hn.1 (e▸hk)
    rw [List.eraseIdx_cons_succ,List.filter_cons,if_pos (by simp [ne]),nv hn.2 h]
theorem ny {α β:Type} (f:α->β):∀ (l:List α) (j:Nat),(l.map f).eraseIdx j=(l.eraseIdx j).map f
  | [],_=>rfl
  | _::_,0=>rfl
  | _::l,j + 1=>by simp [List.eraseIdx_cons_succ,ny f l j]
section
variable {prog:Program} {w:World} {K:Type} [DecidableEq K] {knd:HeapKind prog w K} {A:Around} {E:Value->Shared->Prop} {s:Shared}
theorem wO {d a:Addr} {xs:List (K×Addr×Value)} {k:K} {p:Addr×Value} {Q:Option DictEntry->Shared->Prop} (hu:knd.room A) (hkey:knd.is s.heap k a) (hm:s.heap.DictOfH knd d xs) (hp:atKey xs k=some p)
    (h:∀ e h',e.val=p.2->h'.DictOfH knd d (xs.filter fun x=>!decide (x.1=k))->Heap.SameBut d s.heap h'->Q (some e) { s with heap:=h',toks:=s.toks + knd.draws k })
    (hsz:xs.length<=sizeLine):wpAny (model prog w) A (Builtin.Dict.takeOut d (.ref a)) Q E s:=by
  obtain ⟨o,es,ep,ho,hc,hd,he,his,hn⟩:=hm
  have hes:es.size<=sizeLine:=by have:=size_of_entries he;omega
  unfold Builtin.Dict.takeOut
  try with_reducible refine wpAny_holding ?_
  refine wpAny_bind (knd.pyHash hu hkey (wpAny_bind (wpAny_dictFind_heap (s:={ s with toks:=s.toks + knd.draws k }) hu hkey ho hd he his hn ?_ ?_)))
  . intro hno
    rw [atKey_none_of_get hno] at hp
    cases hp
  . intro j q hj
    rw [atKey_of_get hn hj] at hp
    cases hp
    refine wpAny_bind (wpAny_dictEntries (s:={ s with toks:=s.toks + knd.draws k }) ho hd ?_)
    rw [entry_at he j,hj]
    have el:(es.eraseIdxIfInBounds j).toList=(xs.filter fun x=>!decide (x.1=k)).map (entryOfKey knd):=by
      rw [<- nv hn hj,<- ny,<- he]
      obtain ⟨l⟩:=es
      simp
    refine wpAny_bind (wpAny_updateDictKeys (hz:=hes) (s:={ s with toks:=s.toks + knd.draws k }) ho hd (wpAny_pure (h _ _ rfl ⟨_,_,ep + 1,Heap.get?_update_self _ ho (Obj.isFreed_of_dict (Obj.data_mapDictKeys hd _)),
      hc.mapDictKeys _,Obj.data_mapDictKeys hd _,el,fun x hx=>knd.keeps (his x (List.mem_filter.mp hx).1) ho hd (Heap.SameBut.update ..),?_⟩ (Heap.SameBut.update ..))))
    exact hn.sublist (List.Sublist.map _ List.filter_sublist)
theorem sF (knd:HeapKind prog w K) (d a:Addr) :
    MeetsIn prog w (Builtin.«dict.pop» ⟨[.ref d,.ref a],[]⟩) (fun A R s=>knd.room A.in1/\∃ k xs p,knd.is s.heap k a/\s.heap.DictOfH knd d xs/\xs.length<=sizeLine/\atKey xs k=some p /\
      ∀ h',h'.DictOfH knd d (xs.filter fun x=>!decide (x.1=k))->Heap.SameBut d s.heap h'->R (.ok (.ret p.2)) { s with heap:=h',toks:=s.toks + knd.draws k }) :=
  .of_wp fun A R s ⟨hu,k,xs,p,hkey,hm,hsz,hp,h⟩=>by
    unfold Builtin.«dict.pop»
    refine wpAny_bind ?_
    unfold Builtin.Dict.keyAndDefault
    refine wpAny_bind (wpAny_notOrdered_dict hm.typeIs ?_)
    show wpAny _ _ (pure (d,Value.ref a,none)) _ _ s
    refine wpAny_pure ?_
    have hkp:(keyPart (.ref a)).isSome=false:=rfl
    simp only [hkp,Bool.false_eq_true,if_false]
    obtain ⟨o,es,ep,ho,hc,hd,he,his,hn⟩:=id hm
    refine wpAny_bind (wpAny_dictEntries ho hd (wpAny_bind (wpAny_pure ?_)))
    have hne:es.isEmpty=false:=by
      have hs:=size_of_entries he
      cases hx:xs with
      | nil=>rw [hx] at hp;cases hp
      | cons y ys =>
        rw [hx,List.length_cons] at hs
        simp [Array.isEmpty,hs]
    simp only [hne,Bool.false_eq_true,if_false]
    refine wpAny_bind (wO hu hkey hm hp (fun e h' hv hm' hs'=>?_) hsz)
    simp only [Option.isNone_some,Bool.false_eq_true,if_false]
    exact wpAny_bind (wpAny_letGo (wpAny_pure ⟨e.val,rfl,by rw [hv];exact h h' hm' hs'⟩))
theorem sG (knd:HeapKind prog w K) (d:Addr) (hd:(d == sysModules)=false) :
    MeetsIn prog w (Builtin.«dict.__len__» ⟨[.ref d],[]⟩) (fun _ R s=>∃ xs,s.heap.DictOfH knd d xs/\R (.ok (.ret (.int xs.length s.toks))) { s with toks:=s.toks + 1 }) :=
  .of_wp fun A R s ⟨xs,hm,h⟩=>by
    obtain ⟨o,es,ep,ho,hc,hdat,he,his,hn⟩:=hm
    show wpAny _ _ (dictSize d >>= _) _ _ s
    unfold dictSize
    refine wpAny_bind (wpAny_bind (wpAny_dictEntries ho hdat (wpAny_pure ?_)))
    show wpAny _ _ (Builtin.Dict.pendingCount d >>= _) _ _ s
    refine wpAny_bind (wpAny_pendingCount_other hd ?_)
    refine wpAny_ret_mkInt ?_
    have:es.size=xs.length:=size_of_entries he
    rw [Nat.add_zero,this];exact h
theorem Dh {d:Addr} {xs:List (K×Addr×Value)} {Q:Value->Shared->Prop} (hd:(d == sysModules)=false) (hm:s.heap.DictOfH knd d xs) (hfit:(xs.length:Int) < 2 ^ 63)
    (h:Q (.int xs.length (s.toks + 1)) { s with toks:=s.toks + 1 + 1 }):wpAny (model prog w) A (call (.builtin "len") [.ref d]) Q E s:=by
  refine Calls.call_function_entry kind_len plain_len entry_len (args_len1 _) ?_
  unfold Builtin.«len»
  refine wpAny_bind (m:=oneArg "len" _) (wpAny_pure ?_)
  refine wpAny_bind (m:=callSpecial? (.ref d) (Str.ofString "__len__")) (wpAny_callSpecial?_slot (name:=Str.ofString "__len__") hm.typeIs F.slot_dict_len
    (call_meetsIn F.slot_dict_len hm.typeIs F.entry_dict_len (F.args_dict_len_1 _) (sG knd d hd) ⟨xs,hm,?_⟩))
  show wpAny _ _ _ _ _ { s with toks:=s.toks + 1 }
  refine wpAny_bind (wpAny_holding (wpAny_pure ?_))
  refine wpAny_bind (wpAny_letGo ?_)
  show wpAny _ _ (if ((xs.length:Nat):Int) < 0 then _ else _) _ _ _
  rw [if_neg (by omega)]
  show wpAny _ _ (if ((xs.length:Nat):Int) ≥ 2 ^ 63 then _ else _) _ _ _
  rw [if_neg (by omega)]
  exact wpAny_bind (wpAny_mkInt (wpAny_pure ⟨_,rfl,h⟩))
end
section
variable {X:Cx} {B:Hp×Hp} {W:Wi} {K:PySem.W.Frag}
def pP (kvv:List (List Int×V)) (ks:List Int):List (List Int×V):=kvv.filter fun p=>!decide (p.1=ks)
def iK (kvs:List (List Int×D)) (ks:List Int):List (List Int×D):=kvs.filter fun p=>!decide (p.1=ks)
theorem wP {U:Addr->List Int->Prop} {ks:List Int} {kvv:List (List Int×V)} {xs:List (List Int×Addr×Value)} (r:DP U kvv xs):DP U (pP kvv ks) (xs.filter fun x=>!decide (x.1=ks)):=by
  induction r with
  | nil=>exact .nil
  | @cons p q _ _ r1 _ ih =>
    unfold pP at ih ⊢
    by_cases c:p.1=ks
    . have c':q.1=ks:=r1.1▸c
      rw [List.filter_cons,List.filter_cons,if_neg (by simp [c]),if_neg (by simp [c'])]
      exact ih
    . have c':¬ q.1=ks:=fun z=>c (r1.1.trans z)
      rw [List.filter_cons,List.filter_cons,if_pos (by simp [c]),if_pos (by simp [c'])]
      exact .cons r1 ih
theorem KReps.out {G:Hp} {ks:List Int} {kvs:List (List Int×D)} {kvv:List (List Int×V)} (h:KReps K G kvs kvv):KReps K G (iK kvs ks) (pP kvv ks):=by
  induction h with
  | nil=>exact .nil
  | @cons k d v kvs kvv r t ih =>
    unfold pP iK at ih ⊢
    by_cases c:k=ks
    . rw [List.filter_cons,List.filter_cons,if_neg (by simp [c]),if_neg (by simp [c])]
      exact ih
    . rw [List.filter_cons,List.filter_cons,if_pos (by simp [c]),if_pos (by simp [c])]
      exact .cons r ih
def vi (K:PySem.W.Frag):V->List V->Hp->VK->Prop:=fun x vs H Q=>∃ (b d:Addr) (ks:List Int) (U:Addr->List Int->Prop) (kvv:List (List Int×V)) (v:V),x=.ref d/\vs=[.ref b]/\SqT K H b (ks.map V.int)/\H d=some (.ext (DicH U d kvv))/\(∀ b ks,U b ks->UG K H b ks) /\
  kvv.length<=1000000/\fI kvv ks=some v/\Q v (bc H d (.ext (DicH U d (pP kvv ks))))
theorem zc (hu:X.A.units + 1 < cLine):CH X "dict.pop" (vi X.K):=by
  intro pins s σ H x vs v us Q I rx rv ⟨b,d,ks,U,kvv,w,e1,e2,hb,hd,hU,hz,hg,q⟩
  subst e1;subst e2
  cases rx
  obtain ⟨u,rfl,ru⟩:=rv.one
  cases ru
  obtain ⟨xs,hm,hs,hp,_⟩:=pL I hd hU
  rcases kR (ks:=ks) hp with ⟨w1,w2⟩|⟨v',q',w1,w2,w3⟩
  . rw [hg] at w1;cases w1
  . rw [hg] at w1;cases w1
    refine call_meetsIn F.slot_dict_pop hm.typeIs F.entry_dict_pop (F.args_dict_pop_2 _ _) (sF (tupleKind (intKind X.prog X.w)) d b) ⟨tupleKind_room_in1 hu,ks,xs,q',mI I hb,hm,by rw [<- Paired.length hp];exact Al hz,w2,fun h' hx' sb=>?_⟩
    refine ⟨_,_,I.write (x:=d) (e:=d) (t':=_) (by rw [hd];trivial) (.inl rfl) (fun b' u' ne e=>?_) ?_ (mJ hx' hs (wP hp)),w3,q⟩
    . exact (sb.2 b' ne).symm▸e
    . obtain ⟨o,_,_,e,_⟩:=hx';exact ⟨o,e⟩
def lU (j:Nat) (f:ah->Rs D):ah->Ou:=fun ρ=>match ρ[j]? with
  | some (.od kvs)=>oR (f ρ) ρ fun k=>(match jp k with
    | some ks=>if kvs.length<=1000000/\(eK kvs ks).isSome then .nx (ρ.set j (.od (iK kvs ks))) else .no
    | none=>.no)
  | _=>.no
theorem zd {e:Expr} {x:Str} {p1 p2 cp:Pos} {j:Nat} {t:TA} (hu:X.A.units + 1 < cLine) (hv:PE X (.Name x p1) (ms j)) (ha:PA X [e] t)
    (h1:attributeBase (.Name x p1) "pop" X.env (eval (.Name x p1) X.env)=eval (.Name x p1) X.env) (h2:starEach [e] X.env=[(false,eval e X.env)])
    (h3:((backTo cp (starEach [e] X.env)).all (fun q=>!q.1) && (backToKw cp (keywordEach [] X.env)).all (fun q=>q.1.isSome) && decide (([e]:List Expr).length + ([]:List Keyword).length + (if ([]:List Keyword).isEmpty then 0 else 1) < 30))=true)
    (h4:(p2.endLine == cp.line)=true) (h5:(backTo cp (starEach [] X.env)).any (·.1)=false) :
    PE X (.Call (.Attribute (.Name x p1) "pop" p2) [e] [] cp) (fun σ H Q=>∃ (d0:Addr) (U0:Addr->List Int->Prop) (kvv0:List (List Int×V)),σ[j]?=some (some (.ref d0))/\H d0=some (.ext (DicH U0 d0 kvv0))/\t σ H fun vs H2=>vi X.K (.ref d0) vs H2 Q):=by
  intro pins s σ H Q I ⟨d0,U0,kvv0,g1,g2,g3⟩
  refine wpAny_Call_method_late h1 h3 h4 rfl (bo (hv pins s σ H (fun y H1=>y=.ref d0/\H1=H) I ⟨_,g1,rfl,rfl⟩) fun v s1 ⟨y,H1,I1,r1,hy,hH⟩=>?_)
  subst hy;subst hH
  cases r1
  obtain ⟨⟨o',es',ep',xs',w1,w2,_⟩,_,_⟩:=(show ObjOk X.prog X.w H1 s1.heap d0 (.ext (DicH U0 d0 kvv0)) from I1.hok d0 _ g2)
  refine ⟨"dict","dict.pop",F.plainAttrs_dict,F.slot_dict_pop,F.type_dict_pop,⟨o',w1,w2.1⟩,fun a ea=>?_,?_⟩
  . cases ea;exact ⟨o',w1,w2.2.1⟩
  have hA:=ha cp pins s1 σ H1 _ I1 g3
  rw [h2] at hA ⊢
  refine Calls.callWith_builtin (by show (false || (backTo cp (starEach [] X.env)).any (·.1))=false;rw [h5] <;> rfl) (Calls.evalArgs_plain ?_)
  exact bo hA fun us s2 ⟨vs,H2,I2,r2,q2⟩=>zc hu pins s2 σ H2 (.ref d0) vs (.ref d0) us Q I2 rfl r2 q2
theorem ze (j:Nat) {x:Str} {e:Expr} {pos p1 p2 cp:Pos} {f:ah->Rs D} (hu:X.A.units + 8 < cLine) (he:SE X B W e f) (hN:X.N[j]?=some x:=by rfl) (hv:kY X.env.scope x:=by first|exact Or.inl rfl|exact Or.inr (Or.inl rfl)|exact Or.inr (Or.inr rfl)) (hd:(x == ("__debug__":Str))=false:=by decide)
    (hcd:(x == ("__classdict__":Str))=false:=by decide) (hst:starEach [e] X.env=[(false,eval e X.env)]:=by rfl)
    (hbase:attributeBase (.Name x p1) "pop" X.env (eval (.Name x p1) X.env)=eval (.Name x p1) X.env:=by rfl)
    (hfew:((backTo cp (starEach [e] X.env)).all (fun x=>!x.1) && (backToKw cp (keywordEach [] X.env)).all (fun x=>x.1.isSome)
      && decide (([e]:List Expr).length + ([]:List Keyword).length + (if ([]:List Keyword).isEmpty then 0 else 1) < 30))=true:=by rfl)
    (hline:(p2.endLine == cp.line)=true:=by rfl) (hplain:(backTo cp (starEach [] X.env)).any (·.1)=false:=by rfl)
    (hs:swapsWith (.Call (.Attribute (.Name x p1) "pop" p2) [e] [] cp) none pos.line X.env=pure false:=by rfl) :
    SS X B W (.Expr (.Call (.Attribute (.Name x p1) "pop" p2) [e] [] cp) pos) (lU j f):=by
  refine PS.imp (qR (zd (Nat.lt_of_le_of_lt (Nat.add_le_add_left (by decide) _) hu) (gB hN hv hd hcd) (cT he eA hst) hbase hst hfew hline hplain) hs) fun De σ H ⟨ρ,G,s,p⟩=>?_
  unfold lU at p
  cases e2:ρ[j]? with
  | none=>rw [e2] at p;exact p.elim
  | some z =>
    rw [e2] at p
    cases z with
    | od kvs =>
      obtain ⟨d0,U0,kvv0,h1,h2,_⟩:=s.od e2
      refine ⟨d0,U0,kvv0,h1,h2,ρ,G,s,cN s p fun k v H' G' _ y r p'=>?_⟩
      cases e1:jp k with
      | none=>rw [e1] at p';exact p'.elim
      | some ks =>
        rw [e1] at p'
        dsimp only at p'
        by_cases hc:kvs.length<=1000000/\(eK kvs ks).isSome
        . rw [if_pos hc] at p'
          obtain ⟨b',d1,U,kvv,rfl,q1,q2,q3,q4,q5,q6,q7⟩:=uT s e2 y r e1
          rw [h1] at q1
          cases q1
          rcases q7.get (ks:=ks) with ⟨w1,w2⟩|⟨dd,vv,w1,w2,w3⟩
          . rw [w1] at hc;exact absurd hc.2 (by decide)
          . refine ⟨b',d0,ks,U,kvv,vv,rfl,rfl,q2,q4,fun c js z=>q6 c js (q5 c js z),by rw [<- q7.len];exact hc.1,w2,?_⟩
            exact p' σ _ G' ((s.ext y).writeOwn e2 rfl h1 rfl ⟨U,_,rfl,q5,q7.out⟩) (.refl _)
        . rw [if_neg hc] at p';exact p'.elim
    | _=>exact p.elim
theorem vj:cW X (.builtin "len") (fun xs H Q=>∃ (a:Addr) (U:Addr->List Int->Prop) (kvv:List (List Int×V)),xs=[.ref a]/\H a=some (.ext (DicH U a kvv))/\(∀ b ks,U b ks->UG X.K H b ks)/\kvv.length<=1000000/\Q (.int kvv.length) H):=by
  intro pins s σ H xs us Q I r ⟨a,U,kvv,e1,hH,hU,hz,q⟩
  subst e1
  obtain ⟨u,rfl,rx⟩:=r.one
  cases rx
  obtain ⟨ys,hm,hs,hp,_⟩:=pL I hH hU
  have hl:=Paired.length hp
  exact Dh hs hm (by omega) ⟨.int kvv.length,H,I.tok _,⟨s.toks + 1,by rw [hl]⟩,q⟩
def kn (j:Nat):ah->Rs D:=fun ρ=>match ρ[j]? with
  | some (.od kvs)=>if kvs.length<=1000000 then .ok (.int kvs.length) else .no
  | _=>.no
theorem rL (j:Nat) {x:Str} {p p1 pos:Pos} (hm:X.mg "len"=none) (hN:X.N[j]?=some x:=by rfl) (hv:kY X.env.scope x:=by first|exact Or.inl rfl|exact Or.inr (Or.inl rfl)|exact Or.inr (Or.inr rfl)) (hd:(x == ("__debug__":Str))=false:=by decide)
    (hcd:(x == ("__classdict__":Str))=false:=by decide) (hg:Gl X "len":=by rfl) (he:starEach [.Name x p1] X.env=[(false,eval (.Name x p1) X.env)]:=by rfl) :
    SE X B W (.Call (.Name "len" p) [.Name x p1] [] pos) (kn j):=by
  refine PE.imp (fY vj hg hm PySem.boot_len (cT (gB hN hv hd hcd) eA he) (by decide) (by decide) he rfl) fun σ H Q ⟨ρ,G,s,pp⟩=>?_
  unfold kn at pp
  split at pp
  . rename_i kvs q
    split at pp
    . rename_i hc2
      obtain ⟨a,o,h1,h2,h3,h4,U,kvv,rfl,hU,hk⟩:=s.own j _ q rfl
      have el:=hk.len
      refine ⟨_,h1,a,U,kvv,rfl,h2,fun b ks z=>Same.seqT s.en.gh (hU b ks z),by omega,?_⟩
      have:=pp _ H G s.ext0 (rep_int.mpr rfl)
      rw [<- el]
      exact this
    . exact pp.elim
  . exact pp.elim
end
end Vl
namespace Zp
open PySem PySem.Spec
abbrev lit (t:Addr):Obj:={ cls:=.type "list_iterator",data:=.fields #[.ref t,.int 0 0] }
abbrev m2 (h:Heap) (a b:Addr):Heap:=(h1 h a).push (lit b)
abbrev m3 (h:Heap) (a b:Addr):Heap:=(m2 h a b).push (rG (.ref h.objs.size) (.ref (h1 h a).objs.size))
abbrev m4 (h:Heap) (a b:Addr):Heap:=(m3 h a b).push (rG .none .none)
abbrev m5 (h:Heap) (a b:Addr):Heap:=(m4 h a b).push { cls:=.type "zip",data:=.fields #[.none,.bool false,.bool false,.ref (m2 h a b).objs.size,.ref (m3 h a b).objs.size] }
theorem sH (a b:Addr) (xs ys:Array Value) :
    Meets (Builtin.«zip.__new__» ⟨[.type "zip",.ref a,.ref b],[]⟩) (fun _ R s=>s.heap.IsTuple a xs/\s.heap.IsList b ys/\R (.ok (.ret (.ref (m4 s.heap a b).objs.size))) { s with heap:=m5 s.heap a b }) :=
  .of_wp fun prog w A R s h=>by
    obtain ⟨hp,g,d,tk,os⟩:=s;obtain ⟨ha,hb,h⟩:=h
    have hsub:=sub_zip
    have A1:Heap.IsTuple (Shared.heap ⟨hp,g,d,tk,os⟩) a xs:=ha
    have B1:Heap.IsList (Shared.heap ⟨hp.push { cls:=.type "tuple_iterator",data:=.fields #[.ref a,.int 0 0] },g,d,tk,os⟩) b ys:=let ⟨o,e,r⟩:=hb;⟨o,Heap.get?_push_of_some _ e,r⟩
    wp_walk using wpAny_pyIter_tuple A1,wpAny_pyIter_list B1
    exact ⟨_,rfl,h⟩
section
variable {prog:Program} {w:World} {A:Around} {E:Value->Shared->Prop} {s:Shared}
theorem call_zipM {a b:Addr} {xs ys:Array Value} {Q:Value->Shared->Prop} (ha:s.heap.IsTuple a xs) (hb:s.heap.IsList b ys)
    (h:∀ h',IsZip h' (s.heap.objs.size + 4) (s.heap.objs.size + 2) (s.heap.objs.size + 3) .none->IsPair h' (s.heap.objs.size + 2) (.ref s.heap.objs.size) (.ref (s.heap.objs.size + 1))->IsPair h' (s.heap.objs.size + 3) .none .none ->
      h'.IsTupleIter s.heap.objs.size a 0->h'.IsListIter (s.heap.objs.size + 1) b 0->(∀ c o,s.heap.get? c=some o->h'.get? c=some o)->Q (.ref (s.heap.objs.size + 4)) { s with heap:=h' }) :
    wpAny (model prog w) A (call (.type "zip") [.ref a,.ref b]) Q E s:=by
  refine callType_new F.called_zip (by decide) (F.typeCall_zip_2 _ _) (F.newCall_zip_2 _ _) (fun obj=>F.args_object_init_3 obj _ _) F.entry_zip_new (sH a b xs ys) ⟨ha,hb,?_⟩
  have z1:(h1 s.heap a).objs.size=s.heap.objs.size + 1:=Heap.size_push ..
  have z2:(m2 s.heap a b).objs.size=s.heap.objs.size + 2:=by show ((h1 s.heap a).push _).objs.size=_;rw [Heap.size_push,z1]
  have z3:(m3 s.heap a b).objs.size=s.heap.objs.size + 3:=by show ((m2 s.heap a b).push _).objs.size=_;rw [Heap.size_push,z2]
  have z4:(m4 s.heap a b).objs.size=s.heap.objs.size + 4:=by show ((m3 s.heap a b).push _).objs.size=_;rw [Heap.size_push,z3]
  have k5:∀ c o,(m4 s.heap a b).get? c=some o->(m5 s.heap a b).get? c=some o:=fun c o e=>Heap.get?_push_of_some _ e
  have k4:∀ c o,(m3 s.heap a b).get? c=some o->(m5 s.heap a b).get? c=some o:=fun c o e=>k5 c o (Heap.get?_push_of_some _ e)
  have k3:∀ c o,(m2 s.heap a b).get? c=some o->(m5 s.heap a b).get? c=some o:=fun c o e=>k4 c o (Heap.get?_push_of_some _ e)
  have k2:∀ c o,(h1 s.heap a).get? c=some o->(m5 s.heap a b).get? c=some o:=fun c o e=>k3 c o (Heap.get?_push_of_some _ e)
  have g5:(m5 s.heap a b).get? (s.heap.objs.size + 4)=some { cls:=.type "zip",data:=.fields #[.none,.bool false,.bool false,.ref (m2 s.heap a b).objs.size,.ref (m3 s.heap a b).objs.size] }:=by rw [<- z4];exact Heap.get?_push_size _ rfl
  have g4:(m5 s.heap a b).get? (s.heap.objs.size + 3)=some (rG .none .none):=by rw [<- z3];exact k5 _ _ (Heap.get?_push_size _ rfl)
  have g3:(m5 s.heap a b).get? (s.heap.objs.size + 2)=some (rG (.ref s.heap.objs.size) (.ref (h1 s.heap a).objs.size)):=by rw [<- z2];exact k4 _ _ (Heap.get?_push_size _ rfl)
  have g2:(m5 s.heap a b).get? (s.heap.objs.size + 1)=some (lit b):=by rw [<- z1];exact k3 _ _ (Heap.get?_push_size _ rfl)
  have g1:(m5 s.heap a b).get? s.heap.objs.size=some (Bm a):=k2 _ _ (Heap.get?_push_size _ rfl)
  rw [z2,z3] at g5
  rw [z1] at g3
  show _/\_
  rw [z4]
  exact ⟨⟨_,g5,rfl⟩,h _ g5 g3 g4 ⟨_,g1,rfl,rfl⟩ ⟨_,g2,rfl,rfl⟩ fun c o e=>k2 c o (Heap.get?_push_of_some _ e)⟩
end
end Zp
namespace L2
open PySem PySem.Spec PyProof.Rows
def sI (K:PySem.W.Frag) (a b:Addr) (n:Nat):It :=
  ⟨fun i H=>i < n/\∃ xs ys,SqT K H a xs/\SqL K H b ys/\xs.length=n/\ys.length=n,
   fun i H v H'=>∃ T x y,H T=none/\v=.ref T/\H'=bc H T (.tup [x,y])/\(∀ xs,SqT K H a xs->xs[i]?=some x)/\∀ ys,SqL K H b ys->ys[i]?=some y,
   fun i H=>n<=i/\∃ xs ys,SqT K H a xs/\SqL K H b ys/\xs.length=n/\ys.length=n⟩
theorem vk {P:Program} {w:World} {K:PySem.W.Frag} {elts:List Expr} {kx:Nat} {tp:Pos} (a b z TI TO i1 i2:Addr) (n:Nat) (d1:TI≠z) (d2:TO≠z) (d3:TI≠TO) (d4:z≠i1) (d5:z≠i2) (d6:TO≠i1) (d7:TO≠i2) (d8:TI≠i1) (d9:TI≠i2) (d0:i1≠i2) :
    Turn P w K (.Tuple elts kx tp) (sI K a b n) [z,TI,TO,i1,i2] z (fun i h=>i<=n/\IsZip h z TI TO .none/\IsPair h TI (.ref i1) (.ref i2)/\(∃ x y,IsPair h TO x y)/\h.IsTupleIter i1 a i/\h.IsListIter i2 b i) where
  mem:=by simp
  obj:=fun i h st c hc=>by
    obtain ⟨_,q1,q2,⟨x,y,q3⟩,⟨o4,q4,_,e4⟩,⟨o5,q5,_,e5⟩⟩:=st
    simp only [List.mem_cons,List.not_mem_nil,or_false] at hc
    rcases hc with rfl|rfl|rfl|rfl|rfl
    . exact ⟨_,q1,fun v q=>by have q':Data.fields _=Data.cell v:=q;cases q'⟩
    . exact ⟨_,q2,fun v q=>by have q':Data.seq _ _=Data.cell v:=q;cases q'⟩
    . exact ⟨_,q3,fun v q=>by have q':Data.seq _ _=Data.cell v:=q;cases q'⟩
    . exact ⟨o4,q4,fun v q=>by rw [e4] at q;cases q⟩
    . exact ⟨o5,q5,fun v q=>by rw [e5] at q;cases q⟩
  keep:=fun i h h' st k=>by
    obtain ⟨q0,q1,q2,⟨x,y,q3⟩,⟨o4,q4,r4⟩,⟨o5,q5,r5⟩⟩:=st
    exact ⟨q0,k z (by simp) _ q1,k TI (by simp) _ q2,⟨x,y,k TO (by simp) _ q3⟩,⟨o4,k i1 (by simp) _ q4,r4⟩,⟨o5,k i2 (by simp) _ q5,r5⟩⟩
  item:=by
    intro X hP hw hK hc i pins s σ H E I hf st hg
    subst hP hw hK
    obtain ⟨hlt,xs,ys,qa,qb,lx,ly⟩:=hg
    obtain ⟨q0,q1,q2,q3,q4,q5⟩:=id st
    obtain ⟨ia,va,pa,_⟩:=I.tuple qa
    obtain ⟨ib,vb,pb,_⟩:=I.list qb
    have sa:ia.toArray.size=n:=by rw [List.size_toArray,<- va.length,lx]
    have sb:ib.toArray.size=n:=by rw [List.size_toArray,<- vb.length,ly]
    have na:∀ c∈[z,TI,TO,i1,i2],a≠c:=fun c hc'=>uY I (hf c hc') qa
    have nb:∀ c∈[z,TI,TO,i1,i2],b≠c:=fun c hc'=>uZ I (hf c hc') qb
    have D1:=Zp.drawsT (prog:=X.prog) (w:=X.w) (A:=X.A.in1) (by simpa using I.ok.hd hc) i1 a (na _ (by simp)) ia.toArray
    have D2:=Draws.list (prog:=X.prog) (w:=X.w) (A:=X.A.in1) (by simpa using I.ok.hd hc) i2 b (nb _ (by simp)) ib.toArray
    rw [sa] at D1
    rw [sb] at D2
    have ap:Zp.Ap z TI TO i1 i2 [i1,a] [i2,b]:=by
      refine ⟨d1,d2,d3,?_,?_,?_,?_,?_,?_,by simp,by simp,?_,?_⟩ <;> simp only [List.mem_cons,List.not_mem_nil,or_false,not_or]
      . exact ⟨d4,Ne.symm (na _ (by simp))⟩
      . exact ⟨d5,Ne.symm (nb _ (by simp))⟩
      . exact ⟨d6,Ne.symm (na _ (by simp))⟩
      . exact ⟨d7,Ne.symm (nb _ (by simp))⟩
      . exact ⟨d8,Ne.symm (na _ (by simp))⟩
      . exact ⟨d9,Ne.symm (nb _ (by simp))⟩
      . exact ⟨Ne.symm d0,Ne.symm (na _ (by simp))⟩
      . exact ⟨d0,Ne.symm (nb _ (by simp))⟩
    have W:=Zp.walks (A:=X.A) D1 D2 ap
    refine W.item i s _ _ hlt ⟨q1,q2,q3,⟨q4,pa⟩,q5,pb.isList⟩ fun T vals g1 tk hv hT tup nI kk=>?_
    obtain ⟨x',y',hx,hy,rfl⟩:=hv
    have sub:∀ c∈[z,TO,i1,i2],dz X pins H c:=fun c hc'=>hf c (by simp only [List.mem_cons,List.not_mem_nil,or_false] at hc' ⊢;rcases hc' with h|h|h|h <;> simp [h])
    have lxi:i < xs.length:=by omega
    have lyi:i < ys.length:=by omega
    obtain ⟨u,hu,ru⟩:=va.get (List.getElem?_eq_getElem lxi)
    obtain ⟨v,hv2,rv⟩:=vb.get (List.getElem?_eq_getElem lyi)
    have ex:x'=u:=by
      have:ia[i]?=some x':=by simpa using hx
      rw [hu] at this;exact (Option.some.inj this).symm
    have ey:y'=v:=by
      have:ib[i]?=some y':=by simpa using hy
      rw [hv2] at this;exact (Option.some.inj this).symm
    subst ex ey
    refine ⟨.ref T,rfl,W.go elts kx tp i T _ _ _ nI fun g2 st2 kk2=>?_⟩
    have tw:T∉[z,TO,i1,i2]:=W.apart _ _ _ nI
    have I2:Inv X pins σ (bc H T (.tup [xs[i],ys[i]])) { s with heap:=g2,toks:=tk }:=by
      refine I.turnLaid (ch:=[z,TO,i1,i2]) (fun c o hc' q=>kk2 c o hc' (kk c o hc' q)) sub hT ?_
      obtain ⟨o,ho,hoc,m,hod⟩:=tup
      exact ⟨by show 2<=sizeLine;decide,[x',y'],.cons ru (.cons rv .nil),o,kk2 T o tw ho,hoc,m,hod⟩
    have nT:∀ c∈[z,TI,TO,i1,i2],c≠T:=fun c hc' e=>by
      subst e
      obtain ⟨o,ho,_⟩:∃ o,s.heap.get? c=some o/\True:=by
        obtain ⟨x,y,q3'⟩:=q3
        obtain ⟨o4,q4',_⟩:=q4
        obtain ⟨o5,q5',_⟩:=q5
        simp only [List.mem_cons,List.not_mem_nil,or_false] at hc'
        rcases hc' with rfl|rfl|rfl|rfl|rfl
        . exact ⟨_,q1,trivial⟩
        . exact ⟨_,q2,trivial⟩
        . exact ⟨_,q3',trivial⟩
        . exact ⟨_,q4',trivial⟩
        . exact ⟨_,q5',trivial⟩
      exact absurd (Nat.lt_of_lt_of_le (Heap.lt_size ho) hT) (Nat.lt_irrefl _)
    refine ⟨.ref T,_,I2,rfl,⟨T,xs[i],ys[i],I.hok.fresh hT,rfl,rfl,fun zs hz=>by rw [I.tuple_inj hz qa];exact List.getElem?_eq_getElem lxi,fun zs hz=>by rw [I.list_inj hz qb];exact List.getElem?_eq_getElem lyi⟩,⟨hlt,st2.1,st2.2.1,st2.2.2.1,st2.2.2.2.1.1,st2.2.2.2.2.1⟩,fun c hc'=>?_⟩
    rw [aI (nT c hc')]
    exact (hf c hc').1
  done := by
    intro X hP hw hK hc i pins s σ H E I hf st hg
    subst hP hw hK
    obtain ⟨hge,xs,ys,qa,qb,lx,ly⟩:=hg
    obtain ⟨q0,q1,q2,q3,q4,q5⟩:=id st
    have ei:i=n:=by omega
    subst ei
    obtain ⟨ia,va,pa,_⟩:=I.tuple qa
    obtain ⟨ib,vb,pb,_⟩:=I.list qb
    have sa:ia.toArray.size=i:=by rw [List.size_toArray,<- va.length,lx]
    have sb:ib.toArray.size=i:=by rw [List.size_toArray,<- vb.length,ly]
    have na:∀ c∈[z,TI,TO,i1,i2],a≠c:=fun c hc'=>uY I (hf c hc') qa
    have nb:∀ c∈[z,TI,TO,i1,i2],b≠c:=fun c hc'=>uZ I (hf c hc') qb
    have D1:=Zp.drawsT (prog:=X.prog) (w:=X.w) (A:=X.A.in1) (by simpa using I.ok.hd hc) i1 a (na _ (by simp)) ia.toArray
    have D2:=Draws.list (prog:=X.prog) (w:=X.w) (A:=X.A.in1) (by simpa using I.ok.hd hc) i2 b (nb _ (by simp)) ib.toArray
    rw [sa] at D1
    rw [sb] at D2
    have ap:Zp.Ap z TI TO i1 i2 [i1,a] [i2,b]:=by
      refine ⟨d1,d2,d3,?_,?_,?_,?_,?_,?_,by simp,by simp,?_,?_⟩ <;> simp only [List.mem_cons,List.not_mem_nil,or_false,not_or]
      . exact ⟨d4,Ne.symm (na _ (by simp))⟩
      . exact ⟨d5,Ne.symm (nb _ (by simp))⟩
      . exact ⟨d6,Ne.symm (na _ (by simp))⟩
      . exact ⟨d7,Ne.symm (nb _ (by simp))⟩
      . exact ⟨d8,Ne.symm (na _ (by simp))⟩
      . exact ⟨d9,Ne.symm (nb _ (by simp))⟩
      . exact ⟨Ne.symm d0,Ne.symm (na _ (by simp))⟩
      . exact ⟨d0,Ne.symm (nb _ (by simp))⟩
    have W:=Zp.walks (A:=X.A) D1 D2 ap
    have sub:∀ c∈[z,TO,i1,i2],dz X pins H c:=fun c hc'=>hf c (by simp only [List.mem_cons,List.not_mem_nil,or_false] at hc' ⊢;rcases hc' with h|h|h|h <;> simp [h])
    exact W.done s _ _ ⟨q1,q2,q3,⟨q4,pa⟩,q5,pb.isList⟩ fun h' tk kk=>⟨rfl,I.turnedL (t':=tk) (ch:=[z,TO,i1,i2]) kk sub⟩
  self:=fun _ _ _ _ _ st h=>wpAny_pyIter_zip st.2.1 h
section
variable {X:Cx}
def Cy (K:PySem.W.Frag) (ta:TA):TI:=fun σ H R=>ta σ H fun vs H1=>∃ a b xs ys,vs=[.ref a,.ref b]/\SqT K H1 a xs/\SqL K H1 b ys/\xs.length=ys.length/\R (sI K a b xs.length) H1
theorem zf {l1 l2:Expr} {ta:TA} {p pos:Pos} {elts:List Expr} {kx:Nat} {tp:Pos} (hg:Gl X "zip") (hm:X.mg "zip"=none) (ha:PA X [l1,l2] ta) (hs:starEach [l1,l2] X.env=[(false,eval l1 X.env),(false,eval l2 X.env)]:=by rfl) (hs2:starEach [l2] X.env=[(false,eval l2 X.env)]:=by rfl) :
    PI X (.Tuple elts kx tp) (.Call (.Name "zip" p) [l1,l2] [] pos) (Cy X.K ta):=by
  intro pins s σ H R I h
  refine Call_ (jD I hg hm wJ (PyProof.Rows.callWith_type1 (bo (ha pos pins s σ H _ I h) fun us s1 ⟨vs,H1,I1,r1,q1⟩=>?_) (by rw [hs,hs2]) (by rw [hs2];rfl)))
  have five:∀ c∈[s1.heap.objs.size + 4,s1.heap.objs.size + 2,s1.heap.objs.size + 3,s1.heap.objs.size,s1.heap.objs.size + 1],dz X pins H1 c:=fun c hc=>by
    have hc':s1.heap.objs.size<=c:=by
      simp only [List.mem_cons,List.not_mem_nil,or_false] at hc
      rcases hc with rfl|rfl|rfl|rfl|rfl
      . exact Nat.le_add_right _ _
      . exact Nat.le_add_right _ _
      . exact Nat.le_add_right _ _
      . exact Nat.le_refl _
      . exact Nat.le_add_right _ _
    exact I1.fpOk hc' (I1.hok.fresh hc')
  obtain ⟨a,b,xs,ys,e,qa,qb,hl,q⟩:=q1
  subst e
  obtain ⟨u,v,rfl,ru,rv⟩:=nZ r1
  cases ru;cases rv
  obtain ⟨ia,va,pa,_⟩:=I1.tuple qa
  obtain ⟨ib,vb,pb,_⟩:=I1.list qb
  refine Zp.call_zipM (show s1.heap.IsTuple a ia.toArray from pa) pb.isList fun h' q1 q2 q3 q4 q5 kk=>wpAny_pyIter_zip q1 ?_
  refine ⟨s1.heap.objs.size + 4,[s1.heap.objs.size + 4,s1.heap.objs.size + 2,s1.heap.objs.size + 3,s1.heap.objs.size,s1.heap.objs.size + 1],_,sI X.K a b xs.length,H1,rfl,I1.kept (t':=s1.toks) kk,
    vk a b _ _ _ _ _ xs.length ?_ ?_ ?_ ?_ ?_ ?_ ?_ ?_ ?_ ?_,⟨Nat.zero_le _,q1,q2,⟨_,_,q3⟩,q4,q5⟩,five,q⟩
  iterate 10 (intro z;have:=congrArg (fun (n:Nat)=>n) z;revert this;generalize (s1.heap.objs.size:Nat)=m;intro this;omega)
end
end L2
namespace Vl
open PySem PySem.Spec L2
section
variable {X:Cx} {B:Hp×Hp} {W:Wi} {K:PySem.W.Frag} {G:Hp}
theorem zg {a b:Addr} {ds es:List D} {vs us:List V} (qa:SqT K G a vs) (qb:SqL K G b us) (ra:Reps K G ds vs) (rb:Reps K G es us) (hl:ds.length=es.length):Yl K (sI K a b vs.length) (gk ds es) G:=by
  intro i G1 H1 gg e
  have la:=ra.length
  have lb:=rb.length
  have q1:=Same.seqT e.gh (Same.seqT gg qa)
  have q2:=e.gh.seq (gg.seq qb)
  have lz:(gk ds es).length=vs.length:=by unfold gk;rw [List.length_map,List.length_zip];omega
  refine ⟨fun d hd=>?_,fun hge=>⟨by rw [<- lz];exact hge,vs,us,q1,q2,rfl,by omega⟩⟩
  have hlt:i < vs.length:=by rw [<- lz];exact (List.getElem?_eq_some_iff.mp hd).1
  have hd1:ds[i]?=some (ds[i]'(by omega)):=List.getElem?_eq_getElem (by omega)
  have hd2:es[i]?=some (es[i]'(by omega)):=List.getElem?_eq_getElem (by omega)
  have ed:d=.tup [ds[i]'(by omega),es[i]'(by omega)]:=by
    unfold gk at hd
    rw [List.getElem?_map,List.getElem?_zip_eq_some (z:=(ds[i]'(by omega),es[i]'(by omega))) |>.mpr ⟨hd1,hd2⟩] at hd
    exact (Option.some.inj hd).symm
  subst ed
  obtain ⟨x,hx,rx⟩:=ra.get hd1
  obtain ⟨y,hy,ry⟩:=rb.get hd2
  refine ⟨⟨hlt,vs,us,q1,q2,rfl,by omega⟩,fun v H2 yl=>?_⟩
  obtain ⟨T,x',y',hT,rfl,rfl,y1,y2⟩:=yl
  have e1:=y1 vs q1
  have e2:=y2 us q2
  rw [hx] at e1
  rw [hy] at e2
  cases e1;cases e2
  have x2:=kg (xs:=[x,y]) e.gh e.tp hT
  exact ⟨_,e.trans x2,rep_tup.mpr ⟨T,_,rfl,.inl (.of aO),reps_cons.mpr ⟨_,_,rfl,(rx.mono gg).mono x2.gg,Reps.one ((ry.mono gg).mono x2.gg)⟩⟩⟩
def mM:List D->Rs (List D)
  | [.tup ds,.lst es]=>if ds.length=es.length then .ok (gk ds es) else .no
  | _=>.no
theorem zh {e e':Expr} {p1 p2:Pos} {elts:List Expr} {kx:Nat} {tp:Pos} {f f':ah->Rs D} (hm:X.mg "zip"=none) (hi:SE X B W e f) (hi':SE X B W e' f') (hgl:Gl X "zip":=by rfl) (hst:starEach [e,e'] X.env=[(false,eval e X.env),(false,eval e' X.env)]:=by rfl) (hst2:starEach [e'] X.env=[(false,eval e' X.env)]:=by rfl) :
    SI X B W (.Tuple elts kx tp) (.Call (.Name "zip" p1) [e,e'] [] p2) (uW (aa f (aa f' aj)) mM):=by
  refine PI.imp (zf hgl hm (ae hi (ae hi' aq (by rw [hst2];rfl)) (by rw [hst,hst2])) hst hst2) fun σ H R ⟨ρ,G,s,p⟩=>⟨ρ,G,s,?_⟩
  unfold uW at p
  cases e1:aa f (aa f' aj) ρ with
  | ok ds =>
    rw [e1] at p
    intro vs H1 G1 e r
    have p':oi X.K W σ G H (mM ds) R:=p
    unfold mM at p'
    split at p'
    . rename_i ds es
      by_cases c:ds.length=es.length
      . rw [if_pos c] at p'
        obtain ⟨v1,vs1,rfl,r1,r2⟩:=reps_cons.mp r
        obtain ⟨v2,vs2,rfl,r3,r4⟩:=reps_cons.mp r2
        cases reps_nil.mp r4
        obtain ⟨a,xs,rfl,qa,ra⟩:=rep_tup.mp r1
        obtain ⟨b,ys,rfl,qb,rb⟩:=rep_lst.mp r3
        exact ⟨a,b,xs,ys,rfl,Same.seqT e.gh qa,e.gh.seq qb,by rw [<- ra.length,<- rb.length];exact c,p' _ H1 G1 e (zg qa qb ra rb c)⟩
      . rw [if_neg c] at p';exact p'.elim
    . exact p'.elim
  | ex c n=>rw [e1] at p;exact p
  | no=>rw [e1] at p;exact p
def lV (h:Tg) (gb:ah->Ou) (f:ah->Rs (List D)):ah->Ou:=fun ρ=>match f ρ with
  | .ok ds=>bp h gb ds ρ
  | .ex c n=>.ex c n ρ
  | .no=>.no
theorem zi {tg iter:Expr} {body:List Stmt} {pos:Pos} {f:ah->Rs (List D)} {h:Tg} {gb:ah->Ou} (hp:PassesOwn (model X.prog X.w) X.A X.env X.xe) (hc:X.calm=true) (hi:SI X B W tg iter f) (hg:SG X B tg h) (hb:eC X B W body gb)
    (hs:∀ x,foldedSetIterable iter X.env x=pure x:=by intro _;rfl):SS X B W (.For tg iter body [] pos) (lV h gb f):=by
  refine PS.imp (lg hp hc hi hg hb hs) fun De σ H ⟨ρ,G,s,p⟩=>⟨ρ,G,s,?_⟩
  unfold lV at p
  cases e:f ρ with
  | no=>rw [e] at p;exact p.elim
  | ex c n=>rw [e] at p;exact fun H' G' x=>p σ H' G' (s.ext x) x.gg
  | ok ds =>
    rw [e] at p
    intro J H' G' x yl
    refine ⟨fun i m σ H=>m=ds.length - i/\i<=ds.length/\∃ ρ G,SR X.K B σ H ρ G/\Same G' G/\PostS X.K B W G (bp h gb (ds.drop i) ρ) De,⟨ds.length,by simp,Nat.zero_le _,ρ,G',s.ext x,.refl _,by simpa using PostS.same p x.gg⟩,?_⟩
    rintro i m σ2 H2 ⟨rfl,hi',ρ2,G2,s2,gg,p2⟩
    obtain ⟨y1,y2⟩:=yl i G2 H2 gg s2.ext0
    by_cases hlt:i < ds.length
    . obtain ⟨go,y3⟩:=y1 ds[i] (List.getElem?_eq_getElem hlt)
      refine .inr ⟨go,fun σ' H'=>∃ ρ' G3,SR X.K B σ' H' ρ' G3/\Same G' G3/\PostS X.K B W G3 (bp h gb (ds.drop (i + 1)) ρ') De,fun σ' H3 p'=>⟨ds.length - (i + 1),by omega,rfl,hlt,p'⟩,fun v H3 yd=>?_⟩
      obtain ⟨G3,x3,r3⟩:=y3 v H3 yd
      rw [List.drop_eq_getElem_cons hlt] at p2
      exact jg (s2.ext x3) r3 (PostS.same p2 x3.gg) fun σ' H4 ρ' G4 s' q' p'=>⟨ρ',G4,s',gg.trans (x3.gg.trans q'),p'⟩
    . have ei:i=ds.length:=by omega
      subst ei
      rw [List.drop_length] at p2
      exact .inl ⟨y2 (Nat.le_refl _),p2 σ2 H2 G2 s2 (.refl _)⟩
end
end Vl
namespace Vl
open PySem PySem.Spec PySem.Calls PySem.W L2
section
variable {ρ ρ1:ah} {d x y z:D} {f fa fb:ah->Rs D} {g k a b:ah->Ou} {r:Ou} {ds:List D} {fs:ah->Rs (List D)} {c c1 c2:ah->Rs Bool} {t u:Bool} {i j:Nat} {α β:Type} {e:Str} {n:Int}
theorem sJ:oN (.nx ρ) k=k ρ:=rfl
theorem sK:oN (.rt d) k=.rt d:=rfl
theorem sL:oN (.ex e n ρ) k=.ex e n ρ:=rfl
theorem wQ {a:α} {k:α->Ou}:oR (.ok a) ρ k=k a:=rfl
theorem wR {k:α->Ou}:oR (.ex e n) ρ k=.ex e n ρ:=rfl
theorem jr {a:α} {k:α->Rs β}:Rs.bind (.ok a) k=k a:=rfl
theorem sM {k:α->Rs β}:Rs.bind (.ex e n) k=.ex e n:=rfl
theorem wS:oO (some ρ)=.nx ρ:=rfl
theorem sN:be (.nx ρ)=.ok .non:=rfl
theorem sO:be (.rt d)=.ok d:=rfl
theorem sP:be (.ex e n ρ)=.ex e n:=rfl
theorem sQ:oP (.nx ρ)=.nx ρ:=rfl
theorem sR:oP (.rt d)=.rt d:=rfl
theorem pQ {n:Nat} {v:List D->Rs D}:aH n v ds=if ds.length=n then v ds else .no:=rfl
theorem pR {a:α}:jh (.ok a)=.ok a:=rfl
theorem db {m n:Int} (h:-(2 ^ 64) < n/\n < 2 ^ 64):bm (.int m) (.int n)=.ok (.int (m * n)):=Cj (.inr h)
theorem ko {m:Int}:aA (.tup ds) (.int m)=match dh ds m with|some d=>.ok d|none=>.no:=rfl
theorem sS {m:Int}:aA (.lst ds) (.int m)=match dh ds m with|some d=>.ok d|none=>.no:=rfl
theorem eT:bR [.lst ds]=.ok (.int ds.length):=rfl
theorem gL:bR [.tup ds]=.ok (.int ds.length):=rfl
theorem io:dG [.lst ds]=.ok (.tup ds):=rfl
theorem pS:dG [.tup ds]=.ok (.tup ds):=rfl
theorem lW:gG [.lst ds]=.ok (.lst ds):=rfl
theorem lX:gG [.tup ds]=.ok (.lst ds):=rfl
theorem pT:Be [.int n]=.ok (.int n):=rfl
theorem pU:Be [.bl t]=.ok (.int (if t then 1 else 0)):=rfl
theorem sT:Df x .non=.ok (.bl (gT x)):=rfl
theorem pV:Cr x .non=.ok (.bl (!gT x)):=rfl
theorem wT:gT .non=true:=rfl
theorem wU:gT (.bl t)=false:=rfl
theorem wV:gT (.int n)=false:=rfl
theorem wW:gT (.tup ds)=false:=rfl
theorem wX:gT (.lst ds)=false:=rfl
theorem sU:se (.int n)=.ok (.int (-n)):=rfl
theorem lY {d:D}:dh (d::ds) 0=some d:=by
  unfold dh
  have:eB (d::ds).length 0=some 0:=by
    unfold eB;simp
  rw [this];rfl
theorem lZ {d d':D}:dh (d::d'::ds) 1=some d':=by
  unfold dh
  have:eB (d::d'::ds).length 1=some 1:=by
    unfold eB;simp
    omega
  rw [this];rfl
end
section
open So Tb
theorem nz {α:Type} {h:Tg} {fe:ah->Rs D} (P:ah->Prop) (fX:α->D) (F:α->D):∀ {xs:List α} {ρ:ah},P ρ->(∀ x∈xs,∀ ρ,P ρ->∃ ρ1,h (fX x) ρ=some ρ1/\fe ρ1=.ok (F x)/\P ρ1)->cF h (fun _=>.ok true) fe (xs.map fX) ρ=.ok (xs.map F)
  | [],ρ,p,_=>rfl
  | x::xs,ρ,p,st=>by
    obtain ⟨ρ1,e1,e2,p2⟩:=st x (by simp) ρ p
    have e:=nz (xs:=xs) P fX F p2 fun d' hd=>st d' (by simp [hd])
    simp only [List.map_cons,cF,e1,Rs.bind,e2,e,if_true]
theorem zj {acc:List (List Int)} {k x:List Int}:x∈ins acc k↔x=k∨x∈acc:=by
  unfold ins
  split
  . rename_i h
    constructor
    . exact .inr
    . rintro (rfl|h')
      . exact h
      . exact h'
  . exact List.mem_cons
theorem insAll_mem {l:List (List Int)} {x:List Int}:x∈insAll l↔x∈l:=by
  unfold insAll
  have:∀ (l acc:List (List Int)),x∈l.foldl ins acc↔x∈l∨x∈acc:=by
    intro l
    induction l with
    | nil=>intro acc;simp
    | cons a l ih =>
      intro acc
      rw [List.foldl_cons,ih,zj,List.mem_cons]
      constructor
      . rintro (h|h|h)
        . exact .inl (.inr h)
        . exact .inl (.inl h)
        . exact .inr h
      . rintro ((h|h)|h)
        . exact .inr (.inl h)
        . exact .inl h
        . exact .inr (.inr h)
  simpa using this l []
theorem sortK_mem {l:List (List Int)} {x:List Int}:x∈sortK l↔x∈l:=(da l).mem_iff
theorem iG (l:List (List Int)):(sortK l).length=l.length:=(da l).length_eq
abbrev rise (l:List (List Int)):List (List Int):=sortK (insAll l)
def Pair (ks:List Int):Prop:=∃ a b,ks=[a,b]
theorem Pair.ne {ks:List Int} (h:Pair ks):ks≠[]:=by obtain ⟨a,b,rfl⟩:=h;simp
theorem dE (ks:List Int):aL (tupK ks)<=2:=by
  unfold tupK
  have:bB (ks.map D.int)<=1:=by
    induction ks with
    | nil=>simp [bB]
    | cons k ks ih=>simp only [List.map_cons,bB,aL];exact Nat.max_le.mpr ⟨by omega,ih⟩
  simp only [aL];omega
theorem eH (kss:List (List Int)):bB (kss.map tupK)<=2:=by
  induction kss with
  | nil=>simp [bB]
  | cons k kss ih=>simp only [List.map_cons,bB];exact Nat.max_le.mpr ⟨dE k,ih⟩
end
end Vl
namespace K21
open PySem PySem.Spec PySem.Calls PySem.W L2 Vl
def dl (i:Nat):Stmt:=PySem.Challenge.pw_edgemoss_k21_papers_of_staying_judged.main.body.getD i (.Pass ⟨0,0,0,0⟩)
abbrev dm:Stmt:=dl 1
abbrev dM:Stmt:=dl 2
abbrev iW:Stmt:=dl 5
abbrev fv:Stmt:=dl 6
abbrev gl:Stmt:=dl 4
abbrev gm:Stmt:=dl 7
abbrev iX:Stmt:=dl 9
abbrev eL:Stmt:=dl 10
abbrev dn:Stmt:=dl 12
abbrev dq:Stmt:=dl 14
abbrev dt:Stmt:=dl 13
abbrev dN:Stmt:=dl 16
abbrev dO:Stmt:=dl 17
abbrev du:Stmt:=dl 18
abbrev dP:Stmt:=dl 19
abbrev dQ:Stmt:=dl 20
abbrev dR:Stmt:=dl 21
abbrev dS:Stmt:=dl 22
abbrev eM:Stmt:=dl 23
abbrev eO:Stmt:=dl 24
abbrev dU:Stmt:=dl 25
abbrev ca:Stmt:=dl 26
abbrev cP:Stmt:=dl 27
abbrev cL:Stmt:=dl 28
abbrev cn:Stmt:=dl 29
abbrev cH:Stmt:=dl 30
abbrev fg:Stmt:=dl 31
structure Txt (K:Frag) (mg:Str->Option Value) :Prop where
  b_all:mg "all"=none
  b_bool:mg "bool"=none
  b_divmod:mg "divmod"=none
  b_isinstance:mg "isinstance"=none
  b_len:mg "len"=none
  b_list:mg "list"=none
  b_max:mg "max"=none
  b_min:mg "min"=none
  b_range:mg "range"=none
  b_set:mg "set"=none
  b_sorted:mg "sorted"=none
  b_tuple:mg "tuple"=none
  b_zip:mg "zip"=none
section
variable {P:Program} {w:World} {K:Frag} {mg:Str->Option Value} {base:Heap}
theorem nP:FnScope ["cell","step"] ["cell","step"] (au dm):=⟨rfl,rfl,rfl,by decide +kernel,rfl,by decide +kernel,by decide +kernel⟩
def ka:ah->Ou :=
    aQ (fA (aa (ai aD (ai aA (ab 0) (fC (.int 0))) (ai aA (ab 1) (fC (.int 0)))) (aa (ai aD (ai aA (ab 0) (fC (.int 1))) (ai aA (ab 1) (fC (.int 1)))) aj)) aS)
def fJ:List D->Rs D:=fun ds=>be (ka (aG ["cell","step"] ds))
theorem nQ (T:Txt K mg ) {f:Addr} {fd:FuncData} (F:Fun K "cell_moved" "cell_moved" dm f fd) (hm:mg "cell_moved"=some (.ref f)) :bf P w K mg base "cell_moved" 1 2 fJ :=
  bC (k:=0) (g:=ka) F hm nP (fun _ _ _ _ _ _ us hl=>match us,hl with|[_,_],_=>rfl) fun cdv A outer s H E B hr hx =>
    aF (aM (aW (ae (aV (aB (sv 0) ag) (aB (sv 1) ag)) (ae (aV (aB (sv 0) ag) (aB (sv 1) ag)) aq))))
theorem pW:FnScope ["cell","step"] ["cell","step"] (au dM):=⟨rfl,rfl,rfl,by decide +kernel,rfl,by decide +kernel,by decide +kernel⟩
def kD:ah->Ou :=
    aQ (fA (aa (ai gSub (ai aA (ab 0) (fC (.int 0))) (ai aA (ab 1) (fC (.int 0)))) (aa (ai gSub (ai aA (ab 0) (fC (.int 1))) (ai aA (ab 1) (fC (.int 1)))) aj)) aS)
def cM:List D->Rs D:=fun ds=>be (kD (aG ["cell","step"] ds))
theorem pX (T:Txt K mg ) {f:Addr} {fd:FuncData} (F:Fun K "cell_less" "cell_less" dM f fd) (hm:mg "cell_less"=some (.ref f)) :bf P w K mg base "cell_less" 1 2 cM :=
  bC (k:=0) (g:=kD) F hm pW (fun _ _ _ _ _ _ us hl=>match us,hl with|[_,_],_=>rfl) fun cdv A outer s H E B hr hx =>
    aF (aM (aW (ae (cy (aB (sv 0) ag) (aB (sv 1) ag)) (ae (cy (aB (sv 0) ag) (aB (sv 1) ag)) aq))))
theorem zk:FnScope ["one","other"] ["one","other"] (au iW):=⟨rfl,rfl,rfl,by decide +kernel,rfl,by decide +kernel,by decide +kernel⟩
def iY:ah->Ou :=
    aC (bJ (gc (fT (ai aA (ab 0) (fC (.int 1)))) (fT (ai aA (ab 1) (fC (.int 1))))) (aQ (fA (aa (fA (aa (eS (jA CL (fK (ai aA (ab 0) (fC (.int 0)))) (fK (ai aA (ab 1) (fC (.int 0)))))) aj) dG) (aa (fC (.bl true)) aj)) aS)) bQ)
    (aC (bJ (fT (ai aA (ab 0) (fC (.int 1)))) (aQ (fA (aa (fA (aa (eS (jA sD (fK (ai aA (ab 1) (fC (.int 0)))) (fK (ai aA (ab 0) (fC (.int 0)))))) aj) dG) (aa (fC (.bl false)) aj)) aS)) bQ)
    (aC (bJ (fT (ai aA (ab 1) (fC (.int 1)))) (aQ (fA (aa (fA (aa (eS (jA sD (fK (ai aA (ab 0) (fC (.int 0)))) (fK (ai aA (ab 1) (fC (.int 0)))))) aj) dG) (aa (fC (.bl false)) aj)) aS)) bQ)
    (aQ (fA (aa (fA (aa (eS (jA Ba (fK (ai aA (ab 0) (fC (.int 0)))) (fK (ai aA (ab 1) (fC (.int 0)))))) aj) dG) (aa (fC (.bl false)) aj)) aS))))
def eU:List D->Rs D:=fun ds=>be (iY (aG ["one","other"] ds))
theorem zm (T:Txt K mg ) {f:Addr} {fd:FuncData} (F:Fun K "both" "both" iW f fd) (hm:mg "both"=some (.ref f)) :bf P w K mg base "both" 1 2 eU :=
  bC (k:=0) (g:=iY) F hm zk (fun _ _ _ _ _ _ us hl=>match us,hl with|[_,_],_=>rfl) fun cdv A outer s H E B hr hx =>
    aw (bN (oG (tX (gC (aB (sv 0) ag)) (qY (gC (aB (sv 1) ag))))) (aF (aM (aW (ae (fo T.b_tuple (lN rfl T.b_sorted (Cq rfl (aY hr) (gF rfl (aY hr) T.b_set (aB (sv 0) ag)) (gF rfl (aY hr) T.b_set (aB (sv 1) ag))))) (ae cS aq))))) bA)
    (aw (bN (gC (aB (sv 0) ag)) (aF (aM (aW (ae (fo T.b_tuple (lT rfl T.b_sorted (vh rfl (aY hr) (gF rfl (aY hr) T.b_set (aB (sv 1) ag)) (gF rfl (aY hr) T.b_set (aB (sv 0) ag))))) (ae cS aq))))) bA)
    (aw (bN (gC (aB (sv 1) ag)) (aF (aM (aW (ae (fo T.b_tuple (lT rfl T.b_sorted (vh rfl (aY hr) (gF rfl (aY hr) T.b_set (aB (sv 0) ag)) (gF rfl (aY hr) T.b_set (aB (sv 1) ag))))) (ae cS aq))))) bA)
    (aF (aM (aW (ae (fo T.b_tuple (lN rfl T.b_sorted (Bb rfl (aY hr) (gF rfl (aY hr) T.b_set (aB (sv 0) ag)) (gF rfl (aY hr) T.b_set (aB (sv 1) ag))))) (ae cS aq)))))))
theorem sV:FnScope ["shape"] ["shape"] (au fv):=⟨rfl,rfl,rfl,by decide +kernel,rfl,by decide +kernel,by decide +kernel⟩
def nA:ah->Ou :=
    aQ (fA (aa (ai aA (ab 0) (fC (.int 0))) (aa (lq (ai aA (ab 0) (fC (.int 1)))) aj)) aS)
def fw:List D->Rs D:=fun ds=>be (nA (aG ["shape"] ds))
theorem sW (T:Txt K mg ) {f:Addr} {fd:FuncData} (F:Fun K "outside" "outside" fv f fd) (hm:mg "outside"=some (.ref f)) :bf P w K mg base "outside" 1 1 fw :=
  bC (k:=0) (g:=nA) F hm sV (fun _ _ _ _ _ _ us hl=>match us,hl with|[_],_=>rfl) fun cdv A outer s H E B hr hx =>
    aF (aM (aW (ae (aB (sv 0) ag) (ae (Ai (aB (sv 0) ag)) aq))))
theorem vm:FnScope ["one","other"] ["one","other"] (au gl):=⟨rfl,rfl,rfl,by decide +kernel,rfl,by decide +kernel,by decide +kernel⟩
def jt:ah->Ou :=
    aQ (ai bV (fA (aa (ab 0) (aa (fA (aa (ab 1) aj) (aH 1 fw)) aj)) (aH 2 eU)) (fA (aa (fA aj aS) (aa (fC (.bl false)) aj)) aS))
def ip:List D->Rs D:=fun ds=>be (jt (aG ["one","other"] ds))
theorem vn (T:Txt K mg ) {f:Addr} {fd:FuncData} (F:Fun K "within" "within" gl f fd) (hm:mg "within"=some (.ref f)) (O_both:bf P w K mg base "both" 1 2 eU) (O_outside:bf P w K mg base "outside" 1 1 fw):bf P w K mg base "within" 2 2 ip :=
  bC (k:=1) (g:=jt) F hm vm (fun _ _ _ _ _ _ us hl=>match us,hl with|[_,_],_=>rfl) fun cdv A outer s H E B hr hx =>
    aF (aM (sj (aY hr) (aK O_both (hr.mono (by decide)) hx (ae (sv 0) (ae (aK O_outside (hr.mono (by decide)) hx (ae (sv 1) aq)) aq))) (aW (ae (aW aq) (ae cS aq)))))
theorem wY:FnScope ["shape","step"] ["shape","step"] (au gm):=⟨rfl,rfl,rfl,by decide +kernel,rfl,by decide +kernel,by decide +kernel⟩
def nB:ah->Rs D :=
    fA (aa (ab 0) (aa (ab 1) aj)) (aH 2 fJ)
def kq:ah->Ou :=
    aQ (fA (aa (fA (aa (bM (ar 0) (fun _=>.ok true) nB 1 [1] (fL (ai aA (ab 0) (fC (.int 0))) jx)) aj) dG) (aa (ai aA (ab 0) (fC (.int 1))) aj)) aS)
def iZ:List D->Rs D:=fun ds=>be (kq (aG ["shape","step"] ds))
theorem wZ (T:Txt K mg ) {f:Addr} {fd:FuncData} (F:Fun K "moved" "moved" gm f fd) (hm:mg "moved"=some (.ref f)) (O_cell_moved:bf P w K mg base "cell_moved" 1 2 fJ):bf P w K mg base "moved" 2 2 iZ :=
  bC (k:=1) (g:=kq) F hm wY (fun _ _ _ _ _ _ us hl=>match us,hl with|[_,_],_=>rfl) fun cdv A outer s H E B hr hx =>
    aF (aM (aW (ae (fo T.b_tuple (rh (gZ (au gm) ["shape","step"] (N:=["cell","step"]) (nt:=1) (caps:=[1]) (by decide +kernel)) rfl (by decide +kernel) (jN (aB (sv 0) ag)) fu (fun s₀ H₀ C ex pins B1=>rg 0 (show List.Nodup (["cell","step"]:List Str) by decide)) (fun s₀ H₀ C ex pins B1=>aK O_cell_moved (hr.mono (by decide)) br (ae (sv 0) (ae (sv 1) aq))))) (ae (aB (sv 0) ag) aq))))
theorem zn:FnScope ["piece","cell"] ["piece","cell"] (au iX):=⟨rfl,rfl,rfl,by decide +kernel,rfl,by decide +kernel,by decide +kernel⟩
def ma:ah->Ou :=
    aQ (fA (aa (fA (aa (ab 0) (aa (fC (.bl false)) aj)) aS) (aa (ab 1) aj)) (aH 2 iZ))
def iq:List D->Rs D:=fun ds=>be (ma (aG ["piece","cell"] ds))
theorem zo (T:Txt K mg ) {f:Addr} {fd:FuncData} (F:Fun K "laid" "laid" iX f fd) (hm:mg "laid"=some (.ref f)) (O_moved:bf P w K mg base "moved" 2 2 iZ):bf P w K mg base "laid" 3 2 iq :=
  bC (k:=2) (g:=ma) F hm zn (fun _ _ _ _ _ _ us hl=>match us,hl with|[_,_],_=>rfl) fun cdv A outer s H E B hr hx =>
    aF (aM (aK O_moved (hr.mono (by decide)) hx (ae (aW (ae (sv 0) (ae cS aq))) (ae (sv 1) aq))))
theorem qG:FnScope ["shape","piece","cell"] ["shape","piece","cell"] (au eL):=⟨rfl,rfl,rfl,by decide +kernel,rfl,by decide +kernel,by decide +kernel⟩
def gU:ah->Ou :=
    aQ (fA (aa (fA (aa (ab 1) (aa (ab 2) aj)) (aH 2 iq)) (aa (ab 0) aj)) (aH 2 ip))
def eP:List D->Rs D:=fun ds=>be (gU (aG ["shape","piece","cell"] ds))
theorem qH (T:Txt K mg ) {f:Addr} {fd:FuncData} (F:Fun K "whole_at" "whole_at" eL f fd) (hm:mg "whole_at"=some (.ref f)) (O_within:bf P w K mg base "within" 2 2 ip) (O_laid:bf P w K mg base "laid" 3 2 iq):bf P w K mg base "whole_at" 4 3 eP :=
  bC (k:=3) (g:=gU) F hm qG (fun _ _ _ _ _ _ us hl=>match us,hl with|[_,_,_],_=>rfl) fun cdv A outer s H E B hr hx =>
    aF (aM (aK O_within (hr.mono (by decide)) hx (ae (aK O_laid (hr.mono (by decide)) hx (ae (sv 1) (ae (sv 2) aq))) (ae (sv 0) aq))))
theorem nR:FnScope ["shape","piece","place"] ["shape","piece","place"] (au dn):=⟨rfl,rfl,rfl,by decide +kernel,rfl,by decide +kernel,by decide +kernel⟩
def fM:ah->Ou :=
    aQ (ai aA (fA (aa (fA (aa (ab 1) (aa (ab 2) aj)) (aH 2 iq)) (aa (fA (aa (ab 0) aj) (aH 1 fw)) aj)) (aH 2 eU)) (fC (.int 0)))
def cQ:List D->Rs D:=fun ds=>be (fM (aG ["shape","piece","place"] ds))
theorem nS (T:Txt K mg ) {f:Addr} {fd:FuncData} (F:Fun K "lacking_at" "lacking_at" dn f fd) (hm:mg "lacking_at"=some (.ref f)) (O_both:bf P w K mg base "both" 1 2 eU) (O_outside:bf P w K mg base "outside" 1 1 fw) (O_laid:bf P w K mg base "laid" 3 2 iq):bf P w K mg base "lacking_at" 4 3 cQ :=
  bC (k:=3) (g:=fM) F hm nR (fun _ _ _ _ _ _ us hl=>match us,hl with|[_,_,_],_=>rfl) fun cdv A outer s H E B hr hx =>
    aF (aM (aB (aK O_both (hr.mono (by decide)) hx (ae (aK O_laid (hr.mono (by decide)) hx (ae (sv 1) (ae (sv 2) aq))) (ae (aK O_outside (hr.mono (by decide)) hx (ae (sv 0) aq)) aq))) ag))
theorem sc_goes_right:FnScope ["shape","piece","cell","rows","step","row"] ["shape","piece","cell","rows"] (au dq):=⟨rfl,rfl,rfl,by decide +kernel,rfl,by decide +kernel,by decide +kernel⟩
def bX:ah->Ou :=
    bJ (fy (fT (ai di (ai aA (ab 5) (fC (.int 0))) (fA (aa (ab 2) (aa (ab 4) aj)) (aH 2 cM)))) (fT (ai gH (ai aA (ab 5) (fC (.int 1))) (fA (aa (ab 0) (aa (ab 1) (aa (ai aA (ab 5) (fC (.int 0))) aj))) (aH 3 cQ))))) (aQ (fC (.bl false))) bQ
def fN:ah->Ou :=
    aC (bJ (fT (ai di (fA (aa (ab 3) aj) bR) (fA (aa (ab 1) aj) bR))) (aQ (fC (.bl false))) bQ)
    (aC (eD (lV (bv 2 (aE (ar 4) (aE (ar 5) bz))) bX (uW (aa (ab 1) (aa (ab 3) aj)) mM)))
    (aQ (fC (.bl true))))
def eI:List D->Rs D:=fun ds=>be (fN (aG ["shape","piece","cell","rows","step","row"] ds))
theorem nU (T:Txt K mg ) {f:Addr} {fd:FuncData} (F:Fun K "goes_right" "goes_right" dq f fd) (hm:mg "goes_right"=some (.ref f)) (O_cell_less:bf P w K mg base "cell_less" 1 2 cM) (O_lacking_at:bf P w K mg base "lacking_at" 4 3 cQ):bf P w K mg base "goes_right" 5 4 eI :=
  bC (k:=4) (g:=fN) F hm sc_goes_right (fun _ _ _ _ _ _ us hl=>match us,hl with|[_,_,_,_],_=>rfl) fun cdv A outer s H E B hr hx =>
    aw (bN (iu (aY hr) (dk T.b_len (sv 3)) (dk T.b_len (sv 1))) (aF (aM cS)) bA)
    (aw (fF (zi PassesOwn.never rfl (zh T.b_zip (sv 1) (sv 3)) (bg rfl (ay (rg 4 sc_goes_right.nd) (ay (rg 5 sc_goes_right.nd) ba))) (aF (bN (oG (og (iu (aY hr) (aB (sv 5) ag) (aK O_cell_less (hr.mono (by decide)) br (ae (sv 2) (ae (sv 4) aq)))) (oF (pK (aY hr) (aB (sv 5) ag) (aK O_lacking_at (hr.mono (by decide)) br (ae (sv 0) (ae (sv 1) (ae (aB (sv 5) ag) aq)))))))) (aF (aM cS)) bA))))
    (aF (aM cS)))
theorem nV:FnScope ["shape","piece","cell","told"] ["shape","piece","cell","told"] (au dt):=⟨rfl,rfl,rfl,by decide +kernel,rfl,by decide +kernel,by decide +kernel⟩
def dv:ah->Ou :=
    aC (bJ (fT (ai bV (ai aA (ab 3) (fC (.int 0))) (fC (.str "stays")))) (aQ (eY (ai uR (fA (aa (ab 2) (aa (ai aA (ab 3) (fC (.int 1))) aj)) (aH 2 cM)) (ab 1)) (fA (aa (ab 0) (aa (ab 1) (aa (ai aA (ab 3) (fC (.int 1))) aj))) (aH 3 eP)))) bQ)
    (aQ (eY (ai bV (ai aA (ab 3) (fC (.int 0))) (fC (.str "goes"))) (fA (aa (ab 0) (aa (ab 1) (aa (ab 2) (aa (ai aA (ab 3) (fC (.int 1))) aj)))) (aH 4 eI))))
def cC:List D->Rs D:=fun ds=>be (dv (aG ["shape","piece","cell","told"] ds))
theorem nW (T:Txt K mg ) {f:Addr} {fd:FuncData} (F:Fun K "left_right" "left_right" dt f fd) (hm:mg "left_right"=some (.ref f)) (O_cell_less:bf P w K mg base "cell_less" 1 2 cM) (O_whole_at:bf P w K mg base "whole_at" 4 3 eP) (O_goes_right:bf P w K mg base "goes_right" 5 4 eI):bf P w K mg base "left_right" 6 4 cC :=
  bC (k:=5) (g:=dv) F hm nV (fun _ _ _ _ _ _ us hl=>match us,hl with|[_,_,_,_],_=>rfl) fun cdv A outer s H E B hr hx =>
    aw (bN (eu (aY hr) (aB (sv 3) ag) jI) (aF (aM (oI (sw (aY hr) (aK O_cell_less (hr.mono (by decide)) hx (ae (sv 2) (ae (aB (sv 3) ag) aq))) (sv 1)) (oH (aK O_whole_at (hr.mono (by decide)) hx (ae (sv 0) (ae (sv 1) (ae (aB (sv 3) ag) aq)))))))) bA)
    (aF (aM (oI (sj (aY hr) (aB (sv 3) ag) jI) (oH (aK O_goes_right (hr.mono (by decide)) hx (ae (sv 0) (ae (sv 1) (ae (sv 2) (ae (aB (sv 3) ag) aq)))))))))
theorem pY:FnScope ["script","k"] ["script","k"] (au dN):=⟨rfl,rfl,rfl,by decide +kernel,rfl,by decide +kernel,by decide +kernel⟩
def dW:ah->Ou :=
    aC (bJ (fT (ai AB (ab 1) (fA (aa (ab 0) aj) bR))) (aQ (ai aA (ab 0) (ab 1))) bQ)
    (aQ (fC (.int 0)))
def dg:List D->Rs D:=fun ds=>be (dW (aG ["script","k"] ds))
theorem pZ (T:Txt K mg ) {f:Addr} {fd:FuncData} (F:Fun K "_law_cell" "_law_cell" dN f fd) (hm:mg "_law_cell"=some (.ref f)) :bf P w K mg base "_law_cell" 1 2 dg :=
  bC (k:=0) (g:=dW) F hm pY (fun _ _ _ _ _ _ us hl=>match us,hl with|[_,_],_=>rfl) fun cdv A outer s H E B hr hx =>
    aw (bN (Cd (sv 1) (dk T.b_len (sv 0))) (aF (aM (aB (sv 0) (sv 1)))) bA)
    (aF (aM ag))
theorem sc__law_deal:FnScope ["cell","salt","one","number","j"] ["cell","salt"] (au dO):=⟨rfl,rfl,rfl,by decide +kernel,rfl,by decide +kernel,by decide +kernel⟩
def cR:ah->Ou :=
    aC (bI 2 (ai cf (ai bm (ai aD (ai aD (ai aD (ab 2) (ai bm (ai bm (fC (.int 15)) (ab 4)) (ab 4))) (ai bm (fC (.int 31)) (ab 1))) (fC (.int 11))) (fC (.int 48271))) (fC (.int 2147483647))))
    (aC (bI 2 (ai cf (ai bm (ab 2) (ab 2)) (fC (.int 2147483629))))
    (bI 3 (ai aD (ai bm (ab 3) (fC (.int 998244353))) (ai fD (ai cf (ai bm (ab 2) (fC (.int 69621))) (fC (.int 2147483587))) (fC (.int 7))))))
def gu:ah->Ou :=
    aC (bJ (fT (ai AD (ab 0) (ai bH (fC (.int 10)) (fC (.int 18))))) (aQ (ai gSub (ab 0) (ai bH (fC (.int 10)) (fC (.int 18))))) bQ)
    (aC (bI 2 (ai cf (ab 0) (fC (.int 2147483629))))
    (aC (bI 3 (fC (.int 0)))
    (aC (eD (fE (ar 4) cR (fC (.int 24))))
    (aQ (ab 3)))))
def bS:List D->Rs D:=fun ds=>be (gu (aG ["cell","salt","one","number","j"] ds))
theorem qc (T:Txt K mg ) {f:Addr} {fd:FuncData} (F:Fun K "_law_deal" "_law_deal" dO f fd) (hm:mg "_law_deal"=some (.ref f)) :bf P w K mg base "_law_deal" 1 2 bS :=
  bC (k:=0) (g:=gu) F hm sc__law_deal (fun _ _ _ _ _ _ us hl=>match us,hl with|[_,_],_=>rfl) fun cdv A outer s H E B hr hx =>
    aw (bN (Cf (sv 0) (bZ ag ag)) (aF (aM (cy (sv 0) (bZ ag ag)))) bA)
    (aw (bW 2 sc__law_deal.nd (eQ (sv 0) ag))
    (aw (bW 3 sc__law_deal.nd ag)
    (aw (fF (gY PassesOwn.never rfl T.b_range ag (rg 4 sc__law_deal.nd) (aw (bW 2 sc__law_deal.nd (eQ (cz (aV (aV (aV (sv 2) (cz (cz ag (sv 4)) (sv 4))) (cz ag (sv 1))) ag) ag) ag))
    (aw (bW 2 sc__law_deal.nd (eQ (cz (sv 2) (sv 2)) ag))
    (aF (bW 3 sc__law_deal.nd (aV (cz (sv 3) ag) (jL (eQ (cz (sv 2) ag) ag) ag))))))))
    (aF (aM (sv 3))))))
theorem sc__law_piece:FnScope ["number","way","many","steps","k","at","step","row","column"] ["number"] (au du):=⟨rfl,rfl,rfl,by decide +kernel,rfl,by decide +kernel,by decide +kernel⟩
def dH:ah->Ou :=
    aC (bF (fA (aa (ab 0) (aa (fC (.int 25)) aj)) cO) (bv 2 (aE (ar 0) (aE (ar 5) bz))))
    (aC (bI 6 (fA (aa (ai gSub (ai fD (ab 5) (fC (.int 5))) (fC (.int 2))) (aa (ai gSub (ai cf (ab 5) (fC (.int 5))) (fC (.int 2))) aj)) aS))
    (aC (bJ (fT (ai bV (ab 1) (fC (.int 1)))) (aC (bF (fA (aa (ab 0) (aa (ai aD (ai bm (fC (.int 2)) (ai bH (fC (.int 10)) (fC (.int 6)))) (fC (.int 1))) aj)) cO) (bv 2 (aE (ar 0) (aE (ar 7) bz))))
    (aC (bF (fA (aa (ab 0) (aa (ai aD (ai bm (fC (.int 2)) (ai bH (fC (.int 10)) (fC (.int 6)))) (fC (.int 1))) aj)) cO) (bv 2 (aE (ar 0) (aE (ar 8) bz))))
    (bI 6 (fA (aa (ai gSub (ab 7) (ai bH (fC (.int 10)) (fC (.int 6)))) (aa (ai gSub (ab 8) (ai bH (fC (.int 10)) (fC (.int 6)))) aj)) aS)))) bQ)
    (iE 3 (fC (.bl true)) (ab 6))))
def fO:ah->Ou :=
    aC (bF (fA (aa (ab 0) (aa (fC (.int 8)) aj)) cO) (bv 2 (aE (ar 0) (aE (ar 1) bz))))
    (aC (bF (fA (aa (ab 0) (aa (fC (.int 5)) aj)) cO) (bv 2 (aE (ar 0) (aE (ar 2) bz))))
    (aC (bJ (fT (ai bV (ab 1) (fC (.int 0)))) (bF (fA (aa (ab 0) (aa (fC (.int 12)) aj)) cO) (bv 2 (aE (ar 0) (aE (ar 2) bz)))) bQ)
    (aC (wH 3)
    (aC (eD (fE (ar 4) dH (ai aD (fC (.int 1)) (ab 2))))
    (aQ (fA (aa (fA (aa (gJ 3) aj) dG) (aa (ab 0) aj)) aS))))))
def eJ:List D->Rs D:=fun ds=>be (fO (aG ["number","way","many","steps","k","at","step","row","column"] ds))
theorem nX (T:Txt K mg ) {f:Addr} {fd:FuncData} (F:Fun K "_law_piece" "_law_piece" du f fd) (hm:mg "_law_piece"=some (.ref f)) :bf P w K mg base "_law_piece" 1 1 eJ :=
  bC (k:=0) (g:=fO) F hm sc__law_piece (fun _ _ _ _ _ _ us hl=>match us,hl with|[_],_=>rfl) fun cdv A outer s H E B hr hx =>
    aw (bj (aZ T.b_divmod (sv 0) ag) (bg rfl (ay (rg 0 sc__law_piece.nd) (ay (rg 1 sc__law_piece.nd) ba))))
    (aw (bj (aZ T.b_divmod (sv 0) ag) (bg rfl (ay (rg 0 sc__law_piece.nd) (ay (rg 2 sc__law_piece.nd) ba))))
    (aw (bN (eu (aY hr) (sv 1) ag) (aF (bj (aZ T.b_divmod (sv 0) ag) (bg rfl (ay (rg 0 sc__law_piece.nd) (ay (rg 2 sc__law_piece.nd) ba))))) bA)
    (aw (uU 3 sc__law_piece.nd)
    (aw (fF (gY PassesOwn.never rfl T.b_range (aV ag (sv 2)) (rg 4 sc__law_piece.nd) (aw (bj (aZ T.b_divmod (sv 0) ag) (bg rfl (ay (rg 0 sc__law_piece.nd) (ay (rg 5 sc__law_piece.nd) ba))))
    (aw (bW 6 sc__law_piece.nd (aW (ae (cy (jL (sv 5) ag) ag) (ae (cy (eQ (sv 5) ag) ag) aq))))
    (aw (bN (eu (aY hr) (sv 1) ag) (aw (bj (aZ T.b_divmod (sv 0) (aV (cz ag (bZ ag ag)) ag)) (bg rfl (ay (rg 0 sc__law_piece.nd) (ay (rg 7 sc__law_piece.nd) ba))))
    (aw (bj (aZ T.b_divmod (sv 0) (aV (cz ag (bZ ag ag)) ag)) (bg rfl (ay (rg 0 sc__law_piece.nd) (ay (rg 8 sc__law_piece.nd) ba))))
    (aF (bW 6 sc__law_piece.nd (aW (ae (cy (sv 7) (bZ ag ag)) (ae (cy (sv 8) (bZ ag ag)) aq))))))) bA)
    (aF (mK 3 (aY hr) cS (sv 6))))))))
    (aF (aM (aW (ae (fo T.b_tuple (kS 3 rfl T.b_sorted)) (ae (sv 0) aq)))))))))
theorem qd:FnScope ["row","column"] ["row","column"] (au dP):=⟨rfl,rfl,rfl,by decide +kernel,rfl,by decide +kernel,by decide +kernel⟩
def gw:ah->Ou :=
    aQ (fA (aa (fA (aa (jM (ai bH (fC (.int 10)) (fC (.int 12)))) (aa (fA (aa (ai bH (fC (.int 10)) (fC (.int 12))) (aa (ab 0) aj)) iF) aj)) lQ) (aa (fA (aa (jM (ai bH (fC (.int 10)) (fC (.int 12)))) (aa (fA (aa (ai bH (fC (.int 10)) (fC (.int 12))) (aa (ab 1) aj)) iF) aj)) lQ) aj)) aS)
def bY:List D->Rs D:=fun ds=>be (gw (aG ["row","column"] ds))
theorem qe (T:Txt K mg ) {f:Addr} {fd:FuncData} (F:Fun K "_law_kept" "_law_kept" dP f fd) (hm:mg "_law_kept"=some (.ref f)) :bf P w K mg base "_law_kept" 1 2 bY :=
  bC (k:=0) (g:=gw) F hm qd (fun _ _ _ _ _ _ us hl=>match us,hl with|[_,_],_=>rfl) fun cdv A outer s H E B hr hx =>
    aF (aM (aW (ae (rF rfl T.b_max (uk (bZ ag ag)) (mL rfl T.b_min (bZ ag ag) (sv 0))) (ae (rF rfl T.b_max (uk (bZ ag ag)) (mL rfl T.b_min (bZ ag ag) (sv 1))) aq))))
theorem sc__law_base:FnScope ["number","way","row","column","by"] ["number"] (au dQ):=⟨rfl,rfl,rfl,by decide +kernel,rfl,by decide +kernel,by decide +kernel⟩
def dX:ah->Ou :=
    aC (bF (fA (aa (ab 0) (aa (fC (.int 5)) aj)) cO) (bv 2 (aE (ar 0) (aE (ar 1) bz))))
    (aC (bJ (fT (ai AC (ab 1) (fC (.int 1)))) (aQ (fA (aa (fA (aa (fC (.int 0)) (aa (fC (.int 0)) aj)) aS) (aa (ab 0) aj)) aS)) bQ)
    (aC (bF (fA (aa (ab 0) (aa (ai aA (fA (aa (ai aD (ai bm (fC (.int 2)) (ai bH (fC (.int 10)) (fC (.int 12)))) (fC (.int 1))) (aa (fC (.int 2)) aj)) bE) (ab 1)) aj)) cO) (bv 2 (aE (ar 0) (aE (ar 2) bz))))
    (aC (bF (fA (aa (ab 0) (aa (ai aA (fA (aa (ai aD (ai bm (fC (.int 2)) (ai bH (fC (.int 10)) (fC (.int 12)))) (fC (.int 1))) (aa (fC (.int 2)) aj)) bE) (ab 1)) aj)) cO) (bv 2 (aE (ar 0) (aE (ar 3) bz))))
    (aC (bI 4 (ai aA (fA (aa (fC (.int 1)) (aa (ai bm (fC (.int 2)) (ai bH (fC (.int 10)) (fC (.int 12)))) aj)) bE) (ab 1)))
    (aQ (fA (aa (fA (aa (ai gSub (ai bm (ab 2) (ab 4)) (ai bH (fC (.int 10)) (fC (.int 12)))) (aa (ai gSub (ai bm (ab 3) (ab 4)) (ai bH (fC (.int 10)) (fC (.int 12)))) aj)) aS) (aa (ab 0) aj)) aS))))))
def dY:List D->Rs D:=fun ds=>be (dX (aG ["number","way","row","column","by"] ds))
theorem qf (T:Txt K mg ) {f:Addr} {fd:FuncData} (F:Fun K "_law_base" "_law_base" dQ f fd) (hm:mg "_law_base"=some (.ref f)) :bf P w K mg base "_law_base" 1 1 dY :=
  bC (k:=0) (g:=dX) F hm sc__law_base (fun _ _ _ _ _ _ us hl=>match us,hl with|[_],_=>rfl) fun cdv A outer s H E B hr hx =>
    aw (bj (aZ T.b_divmod (sv 0) ag) (bg rfl (ay (rg 0 sc__law_base.nd) (ay (rg 1 sc__law_base.nd) ba))))
    (aw (bN (Ce (sv 1) ag) (aF (aM (aW (ae (aW (ae ag (ae ag aq))) (ae (sv 0) aq))))) bA)
    (aw (bj (aZ T.b_divmod (sv 0) (aB (cX (ae (aV (cz ag (bZ ag ag)) ag) (ae ag aq))) (sv 1))) (bg rfl (ay (rg 0 sc__law_base.nd) (ay (rg 2 sc__law_base.nd) ba))))
    (aw (bj (aZ T.b_divmod (sv 0) (aB (cX (ae (aV (cz ag (bZ ag ag)) ag) (ae ag aq))) (sv 1))) (bg rfl (ay (rg 0 sc__law_base.nd) (ay (rg 3 sc__law_base.nd) ba))))
    (aw (bW 4 sc__law_base.nd (aB (cX (ae ag (ae (cz ag (bZ ag ag)) aq))) (sv 1)))
    (aF (aM (aW (ae (aW (ae (cy (cz (sv 2) (sv 4)) (bZ ag ag)) (ae (cy (cz (sv 3) (sv 4)) (bZ ag ag)) aq))) (ae (sv 0) aq)))))))))
theorem sc__law_heap:FnScope ["number","piece","most","way","base","cells","laid_v","k","at","step","more","gone"] ["number","piece","most"] (au dR):=⟨rfl,rfl,rfl,by decide +kernel,rfl,by decide +kernel,by decide +kernel⟩
def fQ:ah->Ou :=
    iE 5 (fC (.bl true)) (fA (aa (ai aD (ai aD (ai aA (ab 4) (fC (.int 0))) (ai fD (ab 8) (fC (.int 7)))) (ai aA (ab 9) (fC (.int 0)))) (aa (ai aD (ai aD (ai aA (ab 4) (fC (.int 1))) (ai cf (ab 8) (fC (.int 7)))) (ai aA (ab 9) (fC (.int 1)))) aj)) (aH 2 bY))
def fR:ah->Ou :=
    aC (bF (fA (aa (ab 0) (aa (fC (.int 49)) aj)) cO) (bv 2 (aE (ar 0) (aE (ar 8) bz))))
    (lu (ar 9) fQ (ab 1))
def fS:ah->Ou :=
    aC (bF (fA (aa (ab 0) (aa (fC (.int 81)) aj)) cO) (bv 2 (aE (ar 0) (aE (ar 8) bz))))
    (iE 5 (fC (.bl true)) (fA (aa (ai gSub (ai aD (ai aA (ab 4) (fC (.int 0))) (ai fD (ab 8) (fC (.int 9)))) (fC (.int 1))) (aa (ai gSub (ai aD (ai aA (ab 4) (fC (.int 1))) (ai cf (ab 8) (fC (.int 9)))) (fC (.int 1))) aj)) (aH 2 bY)))
def fU:ah->Ou :=
    aC (bF (fA (aa (ab 0) (aa (kn 5) aj)) cO) (bv 2 (aE (ar 0) (aE (ar 8) bz))))
    (lU 5 (ai aA (gJ 5) (ab 8)))
def gx:ah->Ou :=
    aC (bF (fA (aa (ab 0) (aa (fC (.int 4)) aj)) cO) (bv 2 (aE (ar 0) (aE (ar 3) bz))))
    (aC (bF (fA (aa (ab 0) aj) (aH 1 dY)) (bv 2 (aE (ar 4) (aE (ar 0) bz))))
    (aC (wH 5)
    (aC (bF (fA (aa (ab 0) (aa (ai aD (ab 2) (fC (.int 1))) aj)) cO) (bv 2 (aE (ar 0) (aE (ar 6) bz))))
    (aC (eD (fE (ar 7) fR (ab 6)))
    (aC (bF (fA (aa (ab 0) (aa (fC (.int 7)) aj)) cO) (bv 2 (aE (ar 0) (aE (ar 10) bz))))
    (aC (eD (fE (ar 7) fS (ab 10)))
    (aC (bF (fA (aa (ab 0) (aa (fC (.int 4)) aj)) cO) (bv 2 (aE (ar 0) (aE (ar 11) bz))))
    (aC (eD (fE (ar 7) fU (fA (aa (ab 11) (aa (kn 5) aj)) iF)))
    (aQ (fA (aa (fA (aa (fA (aa (gJ 5) aj) dG) (aa (ai bV (ab 3) (fC (.int 0))) aj)) aS) (aa (ab 0) aj)) aS))))))))))
def eV:List D->Rs D:=fun ds=>be (gx (aG ["number","piece","most","way","base","cells","laid_v","k","at","step","more","gone"] ds))
theorem qg (T:Txt K mg ) {f:Addr} {fd:FuncData} (F:Fun K "_law_heap" "_law_heap" dR f fd) (hm:mg "_law_heap"=some (.ref f)) (O__law_base:bf P w K mg base "_law_base" 1 1 dY) (O__law_kept:bf P w K mg base "_law_kept" 1 2 bY):bf P w K mg base "_law_heap" 2 3 eV :=
  bC (k:=1) (g:=gx) F hm sc__law_heap (fun _ _ _ _ _ _ us hl=>match us,hl with|[_,_,_],_=>rfl) fun cdv A outer s H E B hr hx =>
    aw (bj (aZ T.b_divmod (sv 0) ag) (bg rfl (ay (rg 0 sc__law_heap.nd) (ay (rg 3 sc__law_heap.nd) ba))))
    (aw (bj (aK O__law_base (hr.mono (by decide)) hx (ae (sv 0) aq)) (bg rfl (ay (rg 4 sc__law_heap.nd) (ay (rg 0 sc__law_heap.nd) ba))))
    (aw (uU 5 sc__law_heap.nd)
    (aw (bj (aZ T.b_divmod (sv 0) (aV (sv 2) ag)) (bg rfl (ay (rg 0 sc__law_heap.nd) (ay (rg 6 sc__law_heap.nd) ba))))
    (aw (fF (gY PassesOwn.never rfl T.b_range (sv 6) (rg 7 sc__law_heap.nd) (aw (bj (aZ T.b_divmod (sv 0) ag) (bg rfl (ay (rg 0 sc__law_heap.nd) (ay (rg 8 sc__law_heap.nd) ba))))
    (aF (rc PassesOwn.never rfl (sv 1) (rg 9 sc__law_heap.nd) (aF (mK 5 (aY hr) cS (aK O__law_kept (hr.mono (by decide)) br (ae (aV (aV (aB (sv 4) ag) (jL (sv 8) ag)) (aB (sv 9) ag)) (ae (aV (aV (aB (sv 4) ag) (eQ (sv 8) ag)) (aB (sv 9) ag)) aq))))))))))
    (aw (bj (aZ T.b_divmod (sv 0) ag) (bg rfl (ay (rg 0 sc__law_heap.nd) (ay (rg 10 sc__law_heap.nd) ba))))
    (aw (fF (gY PassesOwn.never rfl T.b_range (sv 10) (rg 7 sc__law_heap.nd) (aw (bj (aZ T.b_divmod (sv 0) ag) (bg rfl (ay (rg 0 sc__law_heap.nd) (ay (rg 8 sc__law_heap.nd) ba))))
    (aF (mK 5 (aY hr) cS (aK O__law_kept (hr.mono (by decide)) br (ae (cy (aV (aB (sv 4) ag) (jL (sv 8) ag)) ag) (ae (cy (aV (aB (sv 4) ag) (eQ (sv 8) ag)) ag) aq))))))))
    (aw (bj (aZ T.b_divmod (sv 0) ag) (bg rfl (ay (rg 0 sc__law_heap.nd) (ay (rg 11 sc__law_heap.nd) ba))))
    (aw (fF (gY PassesOwn.never rfl T.b_range (mL rfl T.b_min (sv 11) (rL 5 T.b_len)) (rg 7 sc__law_heap.nd) (aw (bj (aZ T.b_divmod (sv 0) (rL 5 T.b_len)) (bg rfl (ay (rg 0 sc__law_heap.nd) (ay (rg 8 sc__law_heap.nd) ba))))
    (aF (ze 5 (aY hr) (aB (kS 5 rfl T.b_sorted) (sv 8)))))))
    (aF (aM (aW (ae (aW (ae (fo T.b_tuple (kS 5 rfl T.b_sorted)) (ae (sj (aY hr) (sv 3) ag) aq))) (ae (sv 0) aq)))))))))))))
theorem sc__law_spot:FnScope ["number","shape","piece","way","by","near","at","step"] ["number","shape","piece"] (au dS):=⟨rfl,rfl,rfl,by decide +kernel,rfl,by decide +kernel,by decide +kernel⟩
def gy:ah->Ou :=
    aC (bF (fA (aa (ab 0) (aa (fC (.int 4)) aj)) cO) (bv 2 (aE (ar 0) (aE (ar 3) bz))))
    (aC (bF (fA (aa (ab 0) (aa (fC (.int 25)) aj)) cO) (bv 2 (aE (ar 0) (aE (ar 4) bz))))
    (aC (bI 5 (fA (aa (fC (.int 0)) (aa (fC (.int 0)) aj)) aS))
    (aC (bJ (fT (ai di (ai aA (ab 1) (fC (.int 0))) (fA aj aS))) (aC (bF (fA (aa (ab 0) (aa (fA (aa (ai aA (ab 1) (fC (.int 0))) aj) bR) aj)) cO) (bv 2 (aE (ar 0) (aE (ar 6) bz))))
    (bI 5 (ai aA (ai aA (ab 1) (fC (.int 0))) (ab 6)))) bQ)
    (aC (bI 7 (ai aA (fA (aa (fA (aa (fC (.int 0)) (aa (fC (.int 0)) aj)) aS) (aa (fA (aa (ai gSub (ai fD (ab 4) (fC (.int 5))) (fC (.int 2))) (aa (ai gSub (ai cf (ab 4) (fC (.int 5))) (fC (.int 2))) aj)) aS) (aa (ai aA (ab 2) (ai cf (ab 4) (fA (aa (ab 2) aj) bR))) (aa (fA (aa (ai bm (ab 4) (ai bH (fC (.int 10)) (fC (.int 9)))) (aa (ai gSub (fC (.int 7)) (ai bm (ab 4) (ai bH (fC (.int 10)) (fC (.int 8))))) aj)) aS) aj)))) bE) (ab 3)))
    (aQ (fA (aa (ai aD (ai aA (ab 5) (fC (.int 0))) (ai aA (ab 7) (fC (.int 0)))) (aa (ai aD (ai aA (ab 5) (fC (.int 1))) (ai aA (ab 7) (fC (.int 1)))) aj)) (aH 2 bY)))))))
def eW:List D->Rs D:=fun ds=>be (gy (aG ["number","shape","piece","way","by","near","at","step"] ds))
theorem qh (T:Txt K mg ) {f:Addr} {fd:FuncData} (F:Fun K "_law_spot" "_law_spot" dS f fd) (hm:mg "_law_spot"=some (.ref f)) (O__law_kept:bf P w K mg base "_law_kept" 1 2 bY):bf P w K mg base "_law_spot" 2 3 eW :=
  bC (k:=1) (g:=gy) F hm sc__law_spot (fun _ _ _ _ _ _ us hl=>match us,hl with|[_,_,_],_=>rfl) fun cdv A outer s H E B hr hx =>
    aw (bj (aZ T.b_divmod (sv 0) ag) (bg rfl (ay (rg 0 sc__law_spot.nd) (ay (rg 3 sc__law_spot.nd) ba))))
    (aw (bj (aZ T.b_divmod (sv 0) ag) (bg rfl (ay (rg 0 sc__law_spot.nd) (ay (rg 4 sc__law_spot.nd) ba))))
    (aw (bW 5 sc__law_spot.nd (aW (ae ag (ae ag aq))))
    (aw (bN (iu (aY hr) (aB (sv 1) ag) (aW aq)) (aw (bj (aZ T.b_divmod (sv 0) (dk T.b_len (aB (sv 1) ag))) (bg rfl (ay (rg 0 sc__law_spot.nd) (ay (rg 6 sc__law_spot.nd) ba))))
    (aF (bW 5 sc__law_spot.nd (aB (aB (sv 1) ag) (sv 6))))) bA)
    (aw (bW 7 sc__law_spot.nd (aB (cX (ae (aW (ae ag (ae ag aq))) (ae (aW (ae (cy (jL (sv 4) ag) ag) (ae (cy (eQ (sv 4) ag) ag) aq))) (ae (aB (sv 2) (eQ (sv 4) (dk T.b_len (sv 2)))) (ae (aW (ae (cz (sv 4) (bZ ag ag)) (ae (cy ag (cz (sv 4) (bZ ag ag))) aq))) aq))))) (sv 3)))
    (aF (aM (aK O__law_kept (hr.mono (by decide)) hx (ae (aV (aB (sv 5) ag) (aB (sv 7) ag)) (ae (aV (aB (sv 5) ag) (aB (sv 7) ag)) aq)))))))))
theorem qI:FnScope ["shape","cell"] ["shape","cell"] (au eM):=⟨rfl,rfl,rfl,by decide +kernel,rfl,by decide +kernel,by decide +kernel⟩
def gW:ah->Ou :=
    aQ (ai di (ai uR (ab 1) (ai aA (ab 0) (fC (.int 0)))) (ai aA (ab 0) (fC (.int 1))))
def bO:List D->Rs D:=fun ds=>be (gW (aG ["shape","cell"] ds))
theorem qJ (T:Txt K mg ) {f:Addr} {fd:FuncData} (F:Fun K "_law_has" "_law_has" eM f fd) (hm:mg "_law_has"=some (.ref f)) :bf P w K mg base "_law_has" 1 2 bO :=
  bC (k:=0) (g:=gW) F hm qI (fun _ _ _ _ _ _ us hl=>match us,hl with|[_,_],_=>rfl) fun cdv A outer s H E B hr hx =>
    aF (aM (Cc (aY hr) (sw (aY hr) (sv 1) (aB (sv 0) ag)) (aB (sv 0) ag)))
theorem qK:FnScope ["cell","step"] ["cell","step"] (au eO):=⟨rfl,rfl,rfl,by decide +kernel,rfl,by decide +kernel,by decide +kernel⟩
def md:ah->Ou :=
    aQ (fA (aa (ai aD (ai aA (ab 0) (fC (.int 0))) (ai aA (ab 1) (fC (.int 0)))) (aa (ai aD (ai aA (ab 0) (fC (.int 1))) (ai aA (ab 1) (fC (.int 1)))) aj)) aS)
def bT:List D->Rs D:=fun ds=>be (md (aG ["cell","step"] ds))
theorem qL (T:Txt K mg ) {f:Addr} {fd:FuncData} (F:Fun K "_law_led" "_law_led" eO f fd) (hm:mg "_law_led"=some (.ref f)) :bf P w K mg base "_law_led" 1 2 bT :=
  bC (k:=0) (g:=md) F hm qK (fun _ _ _ _ _ _ us hl=>match us,hl with|[_,_],_=>rfl) fun cdv A outer s H E B hr hx =>
    aF (aM (aW (ae (aV (aB (sv 0) ag) (aB (sv 1) ag)) (ae (aV (aB (sv 0) ag) (aB (sv 1) ag)) aq))))
theorem qi:FnScope ["cell","step"] ["cell","step"] (au dU):=⟨rfl,rfl,rfl,by decide +kernel,rfl,by decide +kernel,by decide +kernel⟩
def kE:ah->Ou :=
    aQ (fA (aa (ai gSub (ai aA (ab 0) (fC (.int 0))) (ai aA (ab 1) (fC (.int 0)))) (aa (ai gSub (ai aA (ab 0) (fC (.int 1))) (ai aA (ab 1) (fC (.int 1)))) aj)) aS)
def bK:List D->Rs D:=fun ds=>be (kE (aG ["cell","step"] ds))
theorem qj (T:Txt K mg ) {f:Addr} {fd:FuncData} (F:Fun K "_law_less" "_law_less" dU f fd) (hm:mg "_law_less"=some (.ref f)) :bf P w K mg base "_law_less" 1 2 bK :=
  bC (k:=0) (g:=kE) F hm qi (fun _ _ _ _ _ _ us hl=>match us,hl with|[_,_],_=>rfl) fun cdv A outer s H E B hr hx =>
    aF (aM (aW (ae (cy (aB (sv 0) ag) (aB (sv 1) ag)) (ae (cy (aB (sv 0) ag) (aB (sv 1) ag)) aq))))
theorem kT:FnScope ["shape","piece","place"] ["shape","piece","place"] (au ca):=⟨rfl,rfl,rfl,by decide +kernel,rfl,by decide +kernel,by decide +kernel⟩
def ir:ah->Rs D :=
    fA (aa (ab 1) (aa (fA (aa (ab 2) (aa (ab 0) aj)) (aH 2 bT)) aj)) (aH 2 bO)
def ev:ah->Ou :=
    aQ (fA (aa (bM (ar 0) (fun _=>.ok true) ir 1 [0,2] (fL (ab 1) jx)) aj) mv)
def dc:List D->Rs D:=fun ds=>be (ev (aG ["shape","piece","place"] ds))
theorem kU (T:Txt K mg ) {f:Addr} {fd:FuncData} (F:Fun K "_law_whole_at" "_law_whole_at" ca f fd) (hm:mg "_law_whole_at"=some (.ref f)) (O__law_has:bf P w K mg base "_law_has" 1 2 bO) (O__law_led:bf P w K mg base "_law_led" 1 2 bT):bf P w K mg base "_law_whole_at" 2 3 dc :=
  bC (k:=1) (g:=ev) F hm kT (fun _ _ _ _ _ _ us hl=>match us,hl with|[_,_,_],_=>rfl) fun cdv A outer s H E B hr hx =>
    aF (aM (AJ rfl T.b_all (rh (gZ (au ca) ["shape","piece","place"] (N:=["step","shape","place"]) (nt:=1) (caps:=[0,2]) (by decide +kernel)) rfl (by decide +kernel) (jN (sv 1)) fu (fun s₀ H₀ C ex pins B1=>rg 0 (show List.Nodup (["step","shape","place"]:List Str) by decide)) (fun s₀ H₀ C ex pins B1=>aK O__law_has (hr.mono (by decide)) br (ae (sv 1) (ae (aK O__law_led (hr.mono (by decide)) br (ae (sv 2) (ae (sv 0) aq))) aq))))))
theorem sc__law_right:FnScope ["shape","piece","spot","told","k","place","lacking","there"] ["shape","piece","spot","told"] (au cP):=⟨rfl,rfl,rfl,by decide +kernel,rfl,by decide +kernel,by decide +kernel⟩
def jC:ah->Rs D :=
    fA (aa (ab 1) (aa (ab 0) aj)) (aH 2 bT)
def dI:ah->Ou :=
    aC (bF (ai aA (ai aA (ab 3) (fC (.int 1))) (ab 4)) (bv 2 (aE (ar 5) (aE (ar 6) bz))))
    (aC (bI 7 (bM (ar 0) (fun _=>.ok true) jC 1 [5] (fL (ab 1) jx)))
    (bJ (fy (fT (ai di (ab 5) (fA (aa (ab 2) (aa (ai aA (ab 1) (ab 4)) aj)) (aH 2 bK)))) (fy (fT (ai gH (ab 6) (ab 7))) (fT (fA (aa (ab 0) (aa (ab 6) aj)) (aH 2 bO))))) (aQ (fC (.bl false))) bQ))
def dw:ah->Ou :=
    aC (bJ (fT (ai bV (ai aA (ab 3) (fC (.int 0))) (fC (.str "stays")))) (aQ (eY (ai uR (fA (aa (ab 2) (aa (ai aA (ab 3) (fC (.int 1))) aj)) (aH 2 bK)) (ab 1)) (fA (aa (ab 0) (aa (ab 1) (aa (ai aA (ab 3) (fC (.int 1))) aj))) (aH 3 dc)))) bQ)
    (aC (bJ (fT (ai di (fA (aa (ai aA (ab 3) (fC (.int 1))) aj) bR) (fA (aa (ab 1) aj) bR))) (aQ (fC (.bl false))) bQ)
    (aC (eD (fE (ar 4) dI (fA (aa (ab 1) aj) bR)))
    (aQ (fC (.bl true)))))
def cD:List D->Rs D:=fun ds=>be (dw (aG ["shape","piece","spot","told","k","place","lacking","there"] ds))
theorem nY (T:Txt K mg ) {f:Addr} {fd:FuncData} (F:Fun K "_law_right" "_law_right" cP f fd) (hm:mg "_law_right"=some (.ref f)) (O__law_less:bf P w K mg base "_law_less" 1 2 bK) (O__law_whole_at:bf P w K mg base "_law_whole_at" 2 3 dc) (O__law_led:bf P w K mg base "_law_led" 1 2 bT) (O__law_has:bf P w K mg base "_law_has" 1 2 bO):bf P w K mg base "_law_right" 3 4 cD :=
  bC (k:=2) (g:=dw) F hm sc__law_right (fun _ _ _ _ _ _ us hl=>match us,hl with|[_,_,_,_],_=>rfl) fun cdv A outer s H E B hr hx =>
    aw (bN (eu (aY hr) (aB (sv 3) ag) jI) (aF (aM (oI (sw (aY hr) (aK O__law_less (hr.mono (by decide)) hx (ae (sv 2) (ae (aB (sv 3) ag) aq))) (sv 1)) (oH (aK O__law_whole_at (hr.mono (by decide)) hx (ae (sv 0) (ae (sv 1) (ae (aB (sv 3) ag) aq)))))))) bA)
    (aw (bN (iu (aY hr) (dk T.b_len (aB (sv 3) ag)) (dk T.b_len (sv 1))) (aF (aM cS)) bA)
    (aw (fF (gY PassesOwn.never rfl T.b_range (dk T.b_len (sv 1)) (rg 4 sc__law_right.nd) (aw (bj (aB (aB (sv 3) ag) (sv 4)) (bg rfl (ay (rg 5 sc__law_right.nd) (ay (rg 6 sc__law_right.nd) ba))))
    (aw (rE 7 sc__law_right.nd (gZ (au cP) ["shape","piece","spot","told","k","place","lacking","there"] (N:=["step","place"]) (nt:=1) (caps:=[5]) (by decide +kernel)) rfl (by decide +kernel) (jN (sv 1)) fu (fun s₀ H₀ C ex pins B1=>rg 0 (show List.Nodup (["step","place"]:List Str) by decide)) (fun s₀ H₀ C ex pins B1=>aK O__law_led (hr.mono (by decide)) br (ae (sv 1) (ae (sv 0) aq))))
    (aF (bN (oG (og (iu (aY hr) (sv 5) (aK O__law_less (hr.mono (by decide)) br (ae (sv 2) (ae (aB (sv 1) (sv 4)) aq)))) (og (pK (aY hr) (sv 6) (sv 7)) (oF (gC (aK O__law_has (hr.mono (by decide)) br (ae (sv 0) (ae (sv 6) aq)))))))) (aF (aM cS)) bA))))))
    (aF (aM cS))))
theorem sc__law_rows:FnScope ["shape","piece","spot","number","rows","step","place","there","lacking","at"] ["shape","piece","spot","number"] (au cL):=⟨rfl,rfl,rfl,by decide +kernel,rfl,by decide +kernel,by decide +kernel⟩
def kb:ah->Rs D :=
    fA (aa (ab 1) (aa (ab 0) aj)) (aH 2 bT)
def kc:ah->Rs D :=
    ab 0
def kd:ah->Rs Bool :=
    jf (fT (fA (aa (ab 1) (aa (ab 0) aj)) (aH 2 bO)))
def fV:ah->Ou :=
    aC (bI 6 (fA (aa (ab 2) (aa (ab 5) aj)) (aH 2 bK)))
    (aC (bI 7 (bM (ar 0) (fun _=>.ok true) kb 1 [6] (fL (ab 1) jx)))
    (aC (bI 8 (bM (ar 0) kd kc 1 [0] (fL (ab 7) xB)))
    (aC (bJ (fT (ai bV (ab 8) (fA aj bE))) (bI 8 (ab 7)) bQ)
    (aC (bF (fA (aa (ab 3) (aa (fA (aa (ab 8) aj) bR) aj)) cO) (bv 2 (aE (ar 3) (aE (ar 9) bz))))
    (kP 4 (fA (aa (ab 6) (aa (ai aA (ab 8) (ab 9)) aj)) aS))))))
def gz:ah->Ou :=
    aC (pJ 4 aj)
    (aC (eD (lu (ar 5) fV (ab 1)))
    (mH 4 (aQ (fA (aa (ab 4) (aa (ab 3) aj)) aS))))
def eX:List D->Rs D:=fun ds=>be (gz (aG ["shape","piece","spot","number","rows","step","place","there","lacking","at"] ds))
theorem qk (T:Txt K mg ) {f:Addr} {fd:FuncData} (F:Fun K "_law_rows" "_law_rows" cL f fd) (hm:mg "_law_rows"=some (.ref f)) (O__law_less:bf P w K mg base "_law_less" 1 2 bK) (O__law_led:bf P w K mg base "_law_led" 1 2 bT) (O__law_has:bf P w K mg base "_law_has" 1 2 bO):bf P w K mg base "_law_rows" 2 4 eX :=
  bC (k:=1) (g:=gz) F hm sc__law_rows (fun _ _ _ _ _ _ us hl=>match us,hl with|[_,_,_,_],_=>rfl) fun cdv A outer s H E B hr hx =>
    aw (Bc 4 sc__law_rows.nd aq)
    (aw (fF (rc PassesOwn.never rfl (sv 1) (rg 5 sc__law_rows.nd) (aw (bW 6 sc__law_rows.nd (aK O__law_less (hr.mono (by decide)) br (ae (sv 2) (ae (sv 5) aq))))
    (aw (rE 7 sc__law_rows.nd (gZ (au cL) ["shape","piece","spot","number","rows","step","place","there","lacking","at"] (N:=["one","place"]) (nt:=1) (caps:=[6]) (by decide +kernel)) rfl (by decide +kernel) (jN (sv 1)) fu (fun s₀ H₀ C ex pins B1=>rg 0 (show List.Nodup (["one","place"]:List Str) by decide)) (fun s₀ H₀ C ex pins B1=>aK O__law_led (hr.mono (by decide)) br (ae (sv 1) (ae (sv 0) aq))))
    (aw (np 8 sc__law_rows.nd (gZ (au cL) ["shape","piece","spot","number","rows","step","place","there","lacking","at"] (N:=["one","shape"]) (nt:=1) (caps:=[0]) (by decide +kernel)) rfl (by decide +kernel) (yB (sv 7)) fu (fun s₀ H₀ C ex pins B1=>rg 0 (show List.Nodup (["one","shape"]:List Str) by decide)) (fun s₀ H₀ C ex pins B1=>tY (gC (aK O__law_has (hr.mono (by decide)) br (ae (sv 1) (ae (sv 0) aq))))) (fun s₀ H₀ C ex pins B1=>sv 0))
    (aw (bN (eu (aY hr) (sv 8) (cX aq)) (aF (bW 8 sc__law_rows.nd (sv 7))) bA)
    (aw (bj (aZ T.b_divmod (sv 3) (dk T.b_len (sv 8))) (bg rfl (ay (rg 3 sc__law_rows.nd) (ay (rg 9 sc__law_rows.nd) ba))))
    (aF (Bd 4 (aW (ae (sv 6) (ae (aB (sv 8) (sv 9)) aq))))))))))))
    (uP 4 (aF (aM (aW (ae (sv 4) (ae (sv 3) aq)))))))
theorem sc__law_exchanged:FnScope ["row","at","other","some"] ["row","at","other"] (au cn):=⟨rfl,rfl,rfl,by decide +kernel,rfl,by decide +kernel,by decide +kernel⟩
def dF:ah->Ou :=
    aC (sA 3 (ab 0))
    (aC (km 3 (ai aA (ab 0) (ab 2)) (ab 1))
    (aC (km 3 (ai aA (ab 0) (ab 1)) (ab 2))
    (mH 3 (aQ (ab 3)))))
def cq:List D->Rs D:=fun ds=>be (dF (aG ["row","at","other","some"] ds))
theorem kv (T:Txt K mg ) {f:Addr} {fd:FuncData} (F:Fun K "_law_exchanged" "_law_exchanged" cn f fd) (hm:mg "_law_exchanged"=some (.ref f)) :bf P w K mg base "_law_exchanged" 1 3 cq :=
  bC (k:=0) (g:=dF) F hm sc__law_exchanged (fun _ _ _ _ _ _ us hl=>match us,hl with|[_,_,_],_=>rfl) fun cdv A outer s H E B hr hx =>
    aw (yY 3 sc__law_exchanged.nd T.b_list (sv 0))
    (aw (rH 3 (aB (sv 0) (sv 2)) (sv 1))
    (aw (rH 3 (aB (sv 0) (sv 1)) (sv 2))
    (uP 3 (aF (aM (sv 3))))))
theorem sc__law_spoilt:FnScope ["shape","piece","rows","number","way","at","other","place","lacking","held"] ["shape","piece","rows","number"] (au cH):=⟨rfl,rfl,rfl,by decide +kernel,rfl,by decide +kernel,by decide +kernel⟩
def ja:ah->Rs D :=
    fA (aa (ab 1) (aa (ab 0) aj)) (aH 2 bT)
def jb:ah->Rs Bool :=
    fT (fA (aa (ab 2) (aa (fA (aa (ab 1) (aa (ab 0) aj)) (aH 2 bT)) aj)) (aH 2 bO))
def fj:ah->Ou :=
    aC (bF (fA (aa (ab 3) (aa (fC (.int 10)) aj)) cO) (bv 2 (aE (ar 3) (aE (ar 4) bz))))
    (aC (bF (fA (aa (ab 3) (aa (fA (aa (ab 2) aj) bR) aj)) cO) (bv 2 (aE (ar 3) (aE (ar 5) bz))))
    (aC (bF (fA (aa (ab 3) (aa (fA (aa (ab 2) aj) bR) aj)) cO) (bv 2 (aE (ar 3) (aE (ar 6) bz))))
    (aC (bF (ai aA (ab 2) (ab 5)) (bv 2 (aE (ar 7) (aE (ar 8) bz))))
    (aC (bI 9 (bM (ar 0) jb ja 1 [7,0] (fL (ab 1) jx)))
    (aC (bJ (fT (ai bV (ab 4) (fC (.int 1)))) (aQ (ai aD (cr (ab 2) bL (fP (ab 5))) (cr (ab 2) (fP (ai aD (ab 5) (fC (.int 1)))) bL))) bQ)
    (aC (bJ (fT (ai bV (ab 4) (fC (.int 2)))) (aQ (ai aD (ai aD (cr (ab 2) bL (fP (ab 5))) (fA (aa (ai aA (ab 2) (ab 6)) aj) bE)) (cr (ab 2) (fP (ab 5)) bL))) bQ)
    (aC (bJ (fT (ai bV (ab 4) (fC (.int 3)))) (aQ (fA (aa (ab 2) (aa (ab 5) (aa (ab 6) aj))) (aH 3 cq))) bQ)
    (aC (bJ (fT (ai bV (ab 4) (fC (.int 4)))) (aQ (ai aD (ai aD (cr (ab 2) bL (fP (ab 5))) (fA (aa (fA (aa (fA (aa (ai aD (ai aA (ab 7) (fC (.int 0))) (fC (.int 1))) (aa (ai aA (ab 7) (fC (.int 1))) aj)) aS) (aa (ab 8) aj)) aS) aj) bE)) (cr (ab 2) (fP (ai aD (ab 5) (fC (.int 1)))) bL))) bQ)
    (aC (bJ (gc (fT (ai bV (ab 4) (fC (.int 5)))) (fT (ai di (ab 9) (fA aj bE)))) (aQ (ai aD (ai aD (cr (ab 2) bL (fP (ab 5))) (fA (aa (fA (aa (ab 7) (aa (ai aA (ab 9) (ai cf (ab 6) (fA (aa (ab 9) aj) bR))) aj)) aS) aj) bE)) (cr (ab 2) (fP (ai aD (ab 5) (fC (.int 1)))) bL))) bQ)
    (aC (bJ (fT (ai bV (ab 4) (fC (.int 6)))) (aQ (ai aD (ai aD (cr (ab 2) bL (fP (ab 5))) (fA (aa (fA (aa (ab 7) (aa (fA (aa (ai aA (ab 8) (fC (.int 0))) (aa (ai aD (ai aA (ab 8) (fC (.int 1))) (ai bm (fC (.int 3)) (ai bH (fC (.int 10)) (fC (.int 6))))) aj)) aS) aj)) aS) aj) bE)) (cr (ab 2) (fP (ai aD (ab 5) (fC (.int 1)))) bL))) bQ)
    (aC (bJ (fT (ai bV (ab 4) (fC (.int 7)))) (aQ (ai aD (ai aD (cr (ab 2) bL (fP (ab 5))) (fA (aa (fA (aa (ab 7) (aa (fA (aa (ai gSub (ai aA (ab 8) (fC (.int 0))) (ai bH (fC (.int 10)) (fC (.int 40)))) (aa (ai aA (ab 8) (fC (.int 1))) aj)) aS) aj)) aS) aj) bE)) (cr (ab 2) (fP (ai aD (ab 5) (fC (.int 1)))) bL))) bQ)
    (aC (bJ (fT (ai bV (ab 4) (fC (.int 8)))) (aQ (fA aj bE)) bQ)
    (aQ (ab 2))))))))))))))
def dJ:List D->Rs D:=fun ds=>be (fj (aG ["shape","piece","rows","number","way","at","other","place","lacking","held"] ds))
theorem mN (T:Txt K mg ) {f:Addr} {fd:FuncData} (F:Fun K "_law_spoilt" "_law_spoilt" cH f fd) (hm:mg "_law_spoilt"=some (.ref f)) (O__law_led:bf P w K mg base "_law_led" 1 2 bT) (O__law_has:bf P w K mg base "_law_has" 1 2 bO) (O__law_exchanged:bf P w K mg base "_law_exchanged" 1 3 cq):bf P w K mg base "_law_spoilt" 2 4 dJ :=
  bC (k:=1) (g:=fj) F hm sc__law_spoilt (fun _ _ _ _ _ _ us hl=>match us,hl with|[_,_,_,_],_=>rfl) fun cdv A outer s H E B hr hx =>
    aw (bj (aZ T.b_divmod (sv 3) ag) (bg rfl (ay (rg 3 sc__law_spoilt.nd) (ay (rg 4 sc__law_spoilt.nd) ba))))
    (aw (bj (aZ T.b_divmod (sv 3) (dk T.b_len (sv 2))) (bg rfl (ay (rg 3 sc__law_spoilt.nd) (ay (rg 5 sc__law_spoilt.nd) ba))))
    (aw (bj (aZ T.b_divmod (sv 3) (dk T.b_len (sv 2))) (bg rfl (ay (rg 3 sc__law_spoilt.nd) (ay (rg 6 sc__law_spoilt.nd) ba))))
    (aw (bj (aB (sv 2) (sv 5)) (bg rfl (ay (rg 7 sc__law_spoilt.nd) (ay (rg 8 sc__law_spoilt.nd) ba))))
    (aw (np 9 sc__law_spoilt.nd (gZ (au cH) ["shape","piece","rows","number","way","at","other","place","lacking","held"] (N:=["step","place","shape"]) (nt:=1) (caps:=[7,0]) (by decide +kernel)) rfl (by decide +kernel) (jN (sv 1)) fu (fun s₀ H₀ C ex pins B1=>rg 0 (show List.Nodup (["step","place","shape"]:List Str) by decide)) (fun s₀ H₀ C ex pins B1=>gC (aK O__law_has (hr.mono (by decide)) br (ae (sv 2) (ae (aK O__law_led (hr.mono (by decide)) br (ae (sv 1) (ae (sv 0) aq))) aq)))) (fun s₀ H₀ C ex pins B1=>aK O__law_led (hr.mono (by decide)) br (ae (sv 1) (ae (sv 0) aq))))
    (aw (bN (eu (aY hr) (sv 4) ag) (aF (aM (aV (cg (sv 2) cU (cE (sv 5))) (cg (sv 2) (cE (aV (sv 5) ag)) cU)))) bA)
    (aw (bN (eu (aY hr) (sv 4) ag) (aF (aM (aV (aV (cg (sv 2) cU (cE (sv 5))) (cX (ae (aB (sv 2) (sv 6)) aq))) (cg (sv 2) (cE (sv 5)) cU)))) bA)
    (aw (bN (eu (aY hr) (sv 4) ag) (aF (aM (aK O__law_exchanged (hr.mono (by decide)) hx (ae (sv 2) (ae (sv 5) (ae (sv 6) aq)))))) bA)
    (aw (bN (eu (aY hr) (sv 4) ag) (aF (aM (aV (aV (cg (sv 2) cU (cE (sv 5))) (cX (ae (aW (ae (aW (ae (aV (aB (sv 7) ag) ag) (ae (aB (sv 7) ag) aq))) (ae (sv 8) aq))) aq))) (cg (sv 2) (cE (aV (sv 5) ag)) cU)))) bA)
    (aw (bN (oG (tX (eu (aY hr) (sv 4) ag) (qY (iu (aY hr) (sv 9) (cX aq))))) (aF (aM (aV (aV (cg (sv 2) cU (cE (sv 5))) (cX (ae (aW (ae (sv 7) (ae (aB (sv 9) (eQ (sv 6) (dk T.b_len (sv 9)))) aq))) aq))) (cg (sv 2) (cE (aV (sv 5) ag)) cU)))) bA)
    (aw (bN (eu (aY hr) (sv 4) ag) (aF (aM (aV (aV (cg (sv 2) cU (cE (sv 5))) (cX (ae (aW (ae (sv 7) (ae (aW (ae (aB (sv 8) ag) (ae (aV (aB (sv 8) ag) (cz ag (bZ ag ag))) aq))) aq))) aq))) (cg (sv 2) (cE (aV (sv 5) ag)) cU)))) bA)
    (aw (bN (eu (aY hr) (sv 4) ag) (aF (aM (aV (aV (cg (sv 2) cU (cE (sv 5))) (cX (ae (aW (ae (sv 7) (ae (aW (ae (cy (aB (sv 8) ag) (bZ ag ag)) (ae (aB (sv 8) ag) aq))) aq))) aq))) (cg (sv 2) (cE (aV (sv 5) ag)) cU)))) bA)
    (aw (bN (eu (aY hr) (sv 4) ag) (aF (aM (cX aq))) bA)
    (aF (aM (sv 2)))))))))))))))
theorem sc_law:FnScope ["script","piece","number","shape","cell","at","far","spot","place","rows","told","kept","found"] ["script"] (au fg):=⟨rfl,rfl,rfl,by decide +kernel,rfl,by decide +kernel,by decide +kernel⟩
def mO:ah->Ou :=
    aC (bI 11 (fA (aa (ai aA (ab 10) (fC (.int 0))) (aa (fA (aa (ai aA (ab 10) (fC (.int 1))) aj) gG) aj)) aS))
    (aC (bI 12 (fA (aa (ab 3) (aa (ab 1) (aa (ab 7) (aa (ab 10) aj)))) (aH 4 cC)))
    (aC (bJ (fy (jf (fT (fB (ab 12) (rf .bool)))) (fT (ai di (ab 12) (fA (aa (ab 3) (aa (ab 1) (aa (ab 7) (aa (ab 10) aj)))) (aH 4 cD))))) (aQ (fC (.bl false))) bQ)
    (bJ (fT (ai di (fA (aa (ai aA (ab 10) (fC (.int 1))) aj) gG) (ai aA (ab 11) (fC (.int 1))))) (aQ (fC (.bl false))) bQ)))
def kr:ah->Ou :=
    aC (bI 2 (fA (aa (ab 4) (aa (fC (.int 3)) aj)) (aH 2 bS)))
    (aC (bF (fA (aa (ab 2) (aa (fA (aa (ab 1) aj) bR) aj)) cO) (bv 2 (aE (ar 2) (aE (ar 5) bz))))
    (aC (bF (fA (aa (ab 2) (aa (fC (.int 4)) aj)) cO) (bv 2 (aE (ar 2) (aE (ar 6) bz))))
    (aC (bI 7 (fA (aa (ab 2) (aa (ab 3) (aa (ab 1) aj))) (aH 3 eW)))
    (aC (bI 8 (fA (aa (ab 7) (aa (ai aA (ab 1) (ab 5)) aj)) (aH 2 bK)))
    (aC (bJ (fT (ai bV (ab 6) (fC (.int 1)))) (bI 8 (fA (aa (ai aA (ab 8) (fC (.int 0))) (aa (ai aD (ai aA (ab 8) (fC (.int 1))) (fC (.int 1))) aj)) aS)) bQ)
    (aC (bF (fA (aa (ab 3) (aa (ab 1) (aa (ab 7) (aa (fA (aa (ab 4) (aa (fC (.int 4)) aj)) (aH 2 bS)) aj)))) (aH 4 eX)) (bv 2 (aE (ar 9) (aE (ar 2) bz))))
    (aC (bI 9 (fA (aa (ab 3) (aa (ab 1) (aa (ab 9) (aa (ab 2) aj)))) (aH 4 dJ)))
    (lr (ar 10) mO (fA (aa (fA (aa (fC (.str "stays")) (aa (ab 8) aj)) aS) (aa (fA (aa (fC (.str "goes")) (aa (ab 9) aj)) aS) aj)) bE)))))))))
def on:ah->Ou :=
    aC (bF (fA (aa (fA (aa (fA (aa (ab 0) (aa (fC (.int 0)) aj)) (aH 2 dg)) (aa (fC (.int 1)) aj)) (aH 2 bS)) aj) (aH 1 eJ)) (bv 2 (aE (ar 1) (aE (ar 2) bz))))
    (aC (bF (fA (aa (fA (aa (fA (aa (ab 0) (aa (fC (.int 1)) aj)) (aH 2 dg)) (aa (fC (.int 2)) aj)) (aH 2 bS)) (aa (ab 1) (aa (fC (.int 4)) aj))) (aH 3 eV)) (bv 2 (aE (ar 3) (aE (ar 2) bz))))
    (aC (eD (lr (ar 4) kr (ai aD (fA (aa (fC (.int 0)) aj) bE) (cr (ab 0) (fP (fC (.int 2))) (fP (fC (.int 52)))))))
    (aQ (fC (.bl true)))))
def v_law:List D->Rs D:=fun ds=>be (on (aG ["script","piece","number","shape","cell","at","far","spot","place","rows","told","kept","found"] ds))
theorem Cz (T:Txt K mg ) {f:Addr} (O__law_piece:bf P w K mg base "_law_piece" 1 1 eJ) (O__law_deal:bf P w K mg base "_law_deal" 1 2 bS) (O__law_cell:bf P w K mg base "_law_cell" 1 2 dg) (O__law_heap:bf P w K mg base "_law_heap" 2 3 eV) (O__law_spot:bf P w K mg base "_law_spot" 2 3 eW) (O__law_less:bf P w K mg base "_law_less" 1 2 bK) (O__law_rows:bf P w K mg base "_law_rows" 2 4 eX) (O__law_spoilt:bf P w K mg base "_law_spoilt" 2 4 dJ) (O_left_right:bf P w K mg base "left_right" 6 4 cC) (O__law_right:bf P w K mg base "_law_right" 3 4 cD) {cdv:Value} {A:Around} {outer:List Env} {s:Shared} {H:Hp} {E:XK} {B:Hp×Hp} (hr:Room 6 (A.deeper (PyProof.Rows.envOfC "law" (au fg) s.heap.objs.size f cdv)))
    (hx:ki (ie (iP P w K) P w K mg base ["script","piece","number","shape","cell","at","far","spot","place","rows","told","kept","found"] "law" (au fg) f cdv A outer s H E) (fun c n _ H'=>E (fX c n) none H')) :
    eC (ie (iP P w K) P w K mg base ["script","piece","number","shape","cell","at","far","spot","place","rows","told","kept","found"] "law" (au fg) f cdv A outer s H E) B (fun c n _ H'=>E (fX c n) none H') (aT fg) on :=
    aw (bj (aK O__law_piece (hr.mono (by decide)) hx (ae (aK O__law_deal (hr.mono (by decide)) hx (ae (aK O__law_cell (hr.mono (by decide)) hx (ae (sv 0) (ae ag aq))) (ae ag aq))) aq)) (bg rfl (ay (rg 1 sc_law.nd) (ay (rg 2 sc_law.nd) ba))))
    (aw (bj (aK O__law_heap (hr.mono (by decide)) hx (ae (aK O__law_deal (hr.mono (by decide)) hx (ae (aK O__law_cell (hr.mono (by decide)) hx (ae (sv 0) (ae ag aq))) (ae ag aq))) (ae (sv 1) (ae ag aq)))) (bg rfl (ay (rg 3 sc_law.nd) (ay (rg 2 sc_law.nd) ba))))
    (aw (fF (qZ PassesOwn.never rfl (aV (cX (ae ag aq)) (cg (sv 0) (cE ag) (cE ag))) (rg 4 sc_law.nd) (aw (bW 2 sc_law.nd (aK O__law_deal (hr.mono (by decide)) br (ae (sv 4) (ae ag aq))))
    (aw (bj (aZ T.b_divmod (sv 2) (dk T.b_len (sv 1))) (bg rfl (ay (rg 2 sc_law.nd) (ay (rg 5 sc_law.nd) ba))))
    (aw (bj (aZ T.b_divmod (sv 2) ag) (bg rfl (ay (rg 2 sc_law.nd) (ay (rg 6 sc_law.nd) ba))))
    (aw (bW 7 sc_law.nd (aK O__law_spot (hr.mono (by decide)) br (ae (sv 2) (ae (sv 3) (ae (sv 1) aq)))))
    (aw (bW 8 sc_law.nd (aK O__law_less (hr.mono (by decide)) br (ae (sv 7) (ae (aB (sv 1) (sv 5)) aq))))
    (aw (bN (eu (aY hr) (sv 6) ag) (aF (bW 8 sc_law.nd (aW (ae (aB (sv 8) ag) (ae (aV (aB (sv 8) ag) ag) aq))))) bA)
    (aw (bj (aK O__law_rows (hr.mono (by decide)) br (ae (sv 3) (ae (sv 1) (ae (sv 7) (ae (aK O__law_deal (hr.mono (by decide)) br (ae (sv 4) (ae ag aq))) aq))))) (bg rfl (ay (rg 9 sc_law.nd) (ay (rg 2 sc_law.nd) ba))))
    (aw (bW 9 sc_law.nd (aK O__law_spoilt (hr.mono (by decide)) br (ae (sv 3) (ae (sv 1) (ae (sv 9) (ae (sv 2) aq))))))
    (aF (qZ PassesOwn.never rfl (cX (ae (aW (ae jI (ae (sv 8) aq))) (ae (aW (ae jI (ae (sv 9) aq))) aq))) (rg 10 sc_law.nd) (aw (bW 11 sc_law.nd (aW (ae (aB (sv 10) ag) (ae (rD T.b_list (aB (sv 10) ag)) aq))))
    (aw (bW 12 sc_law.nd (aK O_left_right (hr.mono (by decide)) br (ae (sv 3) (ae (sv 1) (ae (sv 7) (ae (sv 10) aq))))))
    (aw (bN (oG (og (tY (gC (Ci (t:=.bool) T.b_isinstance T.b_bool (sv 12) PyProof.Rows.Boot.«bool»))) (oF (iu (aY hr) (sv 12) (aK O__law_right (hr.mono (by decide)) br (ae (sv 3) (ae (sv 1) (ae (sv 7) (ae (sv 10) aq))))))))) (aF (aM cS)) bA)
    (aF (bN (iu (aY hr) (rD T.b_list (aB (sv 10) ag)) (aB (sv 11) ag)) (aF (aM cS)) bA)))))))))))))))))
    (aF (aM cS))))
end
section
variable {l:OpenLaw} {w:World} {K:Frag} {h:Heap} {mg:Str->Option Value} {fa:Addr}
  {f_cell_moved:Addr} {od_cell_moved an_cell_moved:Option Addr} {sl_cell_moved:Array (Option Value)} {oc_cell_moved kV_cell_moved dc_cell_moved pm_cell_moved cd_cell_moved ct_cell_moved:Value}
  {f_cell_less:Addr} {od_cell_less an_cell_less:Option Addr} {sl_cell_less:Array (Option Value)} {oc_cell_less kV_cell_less dc_cell_less pm_cell_less cd_cell_less ct_cell_less:Value}
  {f_both:Addr} {od_both an_both:Option Addr} {sl_both:Array (Option Value)} {oc_both kV_both dc_both pm_both cd_both ct_both:Value}
  {f_outside:Addr} {od_outside an_outside:Option Addr} {sl_outside:Array (Option Value)} {oc_outside kV_outside dc_outside pm_outside cd_outside ct_outside:Value}
  {f_within:Addr} {od_within an_within:Option Addr} {sl_within:Array (Option Value)} {oc_within kV_within dc_within pm_within cd_within ct_within:Value}
  {f_moved:Addr} {od_moved an_moved:Option Addr} {sl_moved:Array (Option Value)} {oc_moved kV_moved dc_moved pm_moved cd_moved ct_moved:Value}
  {f_laid:Addr} {od_laid an_laid:Option Addr} {sl_laid:Array (Option Value)} {oc_laid kV_laid dc_laid pm_laid cd_laid ct_laid:Value}
  {f_whole_at:Addr} {od_whole_at an_whole_at:Option Addr} {sl_whole_at:Array (Option Value)} {oc_whole_at kV_whole_at dc_whole_at pm_whole_at cd_whole_at ct_whole_at:Value}
  {f_lacking_at:Addr} {od_lacking_at an_lacking_at:Option Addr} {sl_lacking_at:Array (Option Value)} {oc_lacking_at kV_lacking_at dc_lacking_at pm_lacking_at cd_lacking_at ct_lacking_at:Value}
  {f_goes_right:Addr} {od_goes_right an_goes_right:Option Addr} {sl_goes_right:Array (Option Value)} {oc_goes_right kV_goes_right dc_goes_right pm_goes_right cd_goes_right ct_goes_right:Value}
  {f_left_right:Addr} {od_left_right an_left_right:Option Addr} {sl_left_right:Array (Option Value)} {oc_left_right kV_left_right dc_left_right pm_left_right cd_left_right ct_left_right:Value}
  {f__law_cell:Addr} {od__law_cell an__law_cell:Option Addr} {sl__law_cell:Array (Option Value)} {oc__law_cell kV__law_cell dc__law_cell pm__law_cell cd__law_cell ct__law_cell:Value}
  {f__law_deal:Addr} {od__law_deal an__law_deal:Option Addr} {sl__law_deal:Array (Option Value)} {oc__law_deal kV__law_deal dc__law_deal pm__law_deal cd__law_deal ct__law_deal:Value}
  {f__law_piece:Addr} {od__law_piece an__law_piece:Option Addr} {sl__law_piece:Array (Option Value)} {oc__law_piece kV__law_piece dc__law_piece pm__law_piece cd__law_piece ct__law_piece:Value}
  {f__law_kept:Addr} {od__law_kept an__law_kept:Option Addr} {sl__law_kept:Array (Option Value)} {oc__law_kept kV__law_kept dc__law_kept pm__law_kept cd__law_kept ct__law_kept:Value}
  {f__law_base:Addr} {od__law_base an__law_base:Option Addr} {sl__law_base:Array (Option Value)} {oc__law_base kV__law_base dc__law_base pm__law_base cd__law_base ct__law_base:Value}
  {f__law_heap:Addr} {od__law_heap an__law_heap:Option Addr} {sl__law_heap:Array (Option Value)} {oc__law_heap kV__law_heap dc__law_heap pm__law_heap cd__law_heap ct__law_heap:Value}
  {f__law_spot:Addr} {od__law_spot an__law_spot:Option Addr} {sl__law_spot:Array (Option Value)} {oc__law_spot kV__law_spot dc__law_spot pm__law_spot cd__law_spot ct__law_spot:Value}
  {f__law_has:Addr} {od__law_has an__law_has:Option Addr} {sl__law_has:Array (Option Value)} {oc__law_has kV__law_has dc__law_has pm__law_has cd__law_has ct__law_has:Value}
  {f__law_led:Addr} {od__law_led an__law_led:Option Addr} {sl__law_led:Array (Option Value)} {oc__law_led kV__law_led dc__law_led pm__law_led cd__law_led ct__law_led:Value}
  {f__law_less:Addr} {od__law_less an__law_less:Option Addr} {sl__law_less:Array (Option Value)} {oc__law_less kV__law_less dc__law_less pm__law_less cd__law_less ct__law_less:Value}
  {f__law_whole_at:Addr} {od__law_whole_at an__law_whole_at:Option Addr} {sl__law_whole_at:Array (Option Value)} {oc__law_whole_at kV__law_whole_at dc__law_whole_at pm__law_whole_at cd__law_whole_at ct__law_whole_at:Value}
  {f__law_right:Addr} {od__law_right an__law_right:Option Addr} {sl__law_right:Array (Option Value)} {oc__law_right kV__law_right dc__law_right pm__law_right cd__law_right ct__law_right:Value}
  {f__law_rows:Addr} {od__law_rows an__law_rows:Option Addr} {sl__law_rows:Array (Option Value)} {oc__law_rows kV__law_rows dc__law_rows pm__law_rows cd__law_rows ct__law_rows:Value}
  {f__law_exchanged:Addr} {od__law_exchanged an__law_exchanged:Option Addr} {sl__law_exchanged:Array (Option Value)} {oc__law_exchanged kV__law_exchanged dc__law_exchanged pm__law_exchanged cd__law_exchanged ct__law_exchanged:Value}
  {f__law_spoilt:Addr} {od__law_spoilt an__law_spoilt:Option Addr} {sl__law_spoilt:Array (Option Value)} {oc__law_spoilt kV__law_spoilt dc__law_spoilt pm__law_spoilt cd__law_spoilt ct__law_spoilt:Value}
  {f_law:Addr} {od_law an_law:Option Addr} {sl_law:Array (Option Value)} {oc_law kV_law dc_law pm_law cd_law ct_law:Value}
set_option maxHeartbeats 4000000 in
theorem all_mk (X:K.In h) (G:h.Ns mainGlobals mg) (hfa:mg "law"=some (.ref fa))
    (a_cell_moved:nsIn K mainGlobals "cell_moved"=some (some (.ref f_cell_moved)))
    (l_cell_moved:K.lookup f_cell_moved=some ⟨oc_cell_moved,od_cell_moved,.func (fnOf "cell_moved" "cell_moved" (aX dm) (aT dm) (au dm) .none kV_cell_moved dc_cell_moved pm_cell_moved an_cell_moved cd_cell_moved ct_cell_moved),sl_cell_moved⟩)
    (d_cell_moved:codeIn K cd_cell_moved "cell_moved"=true)
    (k_cell_moved:keepIn K (.ref f_cell_moved)=true)
    (a_cell_less:nsIn K mainGlobals "cell_less"=some (some (.ref f_cell_less)))
    (l_cell_less:K.lookup f_cell_less=some ⟨oc_cell_less,od_cell_less,.func (fnOf "cell_less" "cell_less" (aX dM) (aT dM) (au dM) .none kV_cell_less dc_cell_less pm_cell_less an_cell_less cd_cell_less ct_cell_less),sl_cell_less⟩)
    (d_cell_less:codeIn K cd_cell_less "cell_less"=true)
    (k_cell_less:keepIn K (.ref f_cell_less)=true)
    (a_both:nsIn K mainGlobals "both"=some (some (.ref f_both)))
    (l_both:K.lookup f_both=some ⟨oc_both,od_both,.func (fnOf "both" "both" (aX iW) (aT iW) (au iW) .none kV_both dc_both pm_both an_both cd_both ct_both),sl_both⟩)
    (d_both:codeIn K cd_both "both"=true)
    (k_both:keepIn K (.ref f_both)=true)
    (a_outside:nsIn K mainGlobals "outside"=some (some (.ref f_outside)))
    (l_outside:K.lookup f_outside=some ⟨oc_outside,od_outside,.func (fnOf "outside" "outside" (aX fv) (aT fv) (au fv) .none kV_outside dc_outside pm_outside an_outside cd_outside ct_outside),sl_outside⟩)
    (d_outside:codeIn K cd_outside "outside"=true)
    (k_outside:keepIn K (.ref f_outside)=true)
    (a_within:nsIn K mainGlobals "within"=some (some (.ref f_within)))
    (l_within:K.lookup f_within=some ⟨oc_within,od_within,.func (fnOf "within" "within" (aX gl) (aT gl) (au gl) .none kV_within dc_within pm_within an_within cd_within ct_within),sl_within⟩)
    (d_within:codeIn K cd_within "within"=true)
    (k_within:keepIn K (.ref f_within)=true)
    (a_moved:nsIn K mainGlobals "moved"=some (some (.ref f_moved)))
    (l_moved:K.lookup f_moved=some ⟨oc_moved,od_moved,.func (fnOf "moved" "moved" (aX gm) (aT gm) (au gm) .none kV_moved dc_moved pm_moved an_moved cd_moved ct_moved),sl_moved⟩)
    (d_moved:codeIn K cd_moved "moved"=true)
    (k_moved:keepIn K (.ref f_moved)=true)
    (a_laid:nsIn K mainGlobals "laid"=some (some (.ref f_laid)))
    (l_laid:K.lookup f_laid=some ⟨oc_laid,od_laid,.func (fnOf "laid" "laid" (aX iX) (aT iX) (au iX) .none kV_laid dc_laid pm_laid an_laid cd_laid ct_laid),sl_laid⟩)
    (d_laid:codeIn K cd_laid "laid"=true)
    (k_laid:keepIn K (.ref f_laid)=true)
    (a_whole_at:nsIn K mainGlobals "whole_at"=some (some (.ref f_whole_at)))
    (l_whole_at:K.lookup f_whole_at=some ⟨oc_whole_at,od_whole_at,.func (fnOf "whole_at" "whole_at" (aX eL) (aT eL) (au eL) .none kV_whole_at dc_whole_at pm_whole_at an_whole_at cd_whole_at ct_whole_at),sl_whole_at⟩)
    (d_whole_at:codeIn K cd_whole_at "whole_at"=true)
    (k_whole_at:keepIn K (.ref f_whole_at)=true)
    (a_lacking_at:nsIn K mainGlobals "lacking_at"=some (some (.ref f_lacking_at)))
    (l_lacking_at:K.lookup f_lacking_at=some ⟨oc_lacking_at,od_lacking_at,.func (fnOf "lacking_at" "lacking_at" (aX dn) (aT dn) (au dn) .none kV_lacking_at dc_lacking_at pm_lacking_at an_lacking_at cd_lacking_at ct_lacking_at),sl_lacking_at⟩)
    (d_lacking_at:codeIn K cd_lacking_at "lacking_at"=true)
    (k_lacking_at:keepIn K (.ref f_lacking_at)=true)
    (a_goes_right:nsIn K mainGlobals "goes_right"=some (some (.ref f_goes_right)))
    (l_goes_right:K.lookup f_goes_right=some ⟨oc_goes_right,od_goes_right,.func (fnOf "goes_right" "goes_right" (aX dq) (aT dq) (au dq) .none kV_goes_right dc_goes_right pm_goes_right an_goes_right cd_goes_right ct_goes_right),sl_goes_right⟩)
    (d_goes_right:codeIn K cd_goes_right "goes_right"=true)
    (k_goes_right:keepIn K (.ref f_goes_right)=true)
    (a_left_right:nsIn K mainGlobals "left_right"=some (some (.ref f_left_right)))
    (l_left_right:K.lookup f_left_right=some ⟨oc_left_right,od_left_right,.func (fnOf "left_right" "left_right" (aX dt) (aT dt) (au dt) .none kV_left_right dc_left_right pm_left_right an_left_right cd_left_right ct_left_right),sl_left_right⟩)
    (d_left_right:codeIn K cd_left_right "left_right"=true)
    (k_left_right:keepIn K (.ref f_left_right)=true)
    (a__law_cell:nsIn K mainGlobals "_law_cell"=some (some (.ref f__law_cell)))
    (l__law_cell:K.lookup f__law_cell=some ⟨oc__law_cell,od__law_cell,.func (fnOf "_law_cell" "_law_cell" (aX dN) (aT dN) (au dN) .none kV__law_cell dc__law_cell pm__law_cell an__law_cell cd__law_cell ct__law_cell),sl__law_cell⟩)
    (d__law_cell:codeIn K cd__law_cell "_law_cell"=true)
    (k__law_cell:keepIn K (.ref f__law_cell)=true)
    (a__law_deal:nsIn K mainGlobals "_law_deal"=some (some (.ref f__law_deal)))
    (l__law_deal:K.lookup f__law_deal=some ⟨oc__law_deal,od__law_deal,.func (fnOf "_law_deal" "_law_deal" (aX dO) (aT dO) (au dO) .none kV__law_deal dc__law_deal pm__law_deal an__law_deal cd__law_deal ct__law_deal),sl__law_deal⟩)
    (d__law_deal:codeIn K cd__law_deal "_law_deal"=true)
    (k__law_deal:keepIn K (.ref f__law_deal)=true)
    (a__law_piece:nsIn K mainGlobals "_law_piece"=some (some (.ref f__law_piece)))
    (l__law_piece:K.lookup f__law_piece=some ⟨oc__law_piece,od__law_piece,.func (fnOf "_law_piece" "_law_piece" (aX du) (aT du) (au du) .none kV__law_piece dc__law_piece pm__law_piece an__law_piece cd__law_piece ct__law_piece),sl__law_piece⟩)
    (d__law_piece:codeIn K cd__law_piece "_law_piece"=true)
    (k__law_piece:keepIn K (.ref f__law_piece)=true)
    (a__law_kept:nsIn K mainGlobals "_law_kept"=some (some (.ref f__law_kept)))
    (l__law_kept:K.lookup f__law_kept=some ⟨oc__law_kept,od__law_kept,.func (fnOf "_law_kept" "_law_kept" (aX dP) (aT dP) (au dP) .none kV__law_kept dc__law_kept pm__law_kept an__law_kept cd__law_kept ct__law_kept),sl__law_kept⟩)
    (d__law_kept:codeIn K cd__law_kept "_law_kept"=true)
    (k__law_kept:keepIn K (.ref f__law_kept)=true)
    (a__law_base:nsIn K mainGlobals "_law_base"=some (some (.ref f__law_base)))
    (l__law_base:K.lookup f__law_base=some ⟨oc__law_base,od__law_base,.func (fnOf "_law_base" "_law_base" (aX dQ) (aT dQ) (au dQ) .none kV__law_base dc__law_base pm__law_base an__law_base cd__law_base ct__law_base),sl__law_base⟩)
    (d__law_base:codeIn K cd__law_base "_law_base"=true)
    (k__law_base:keepIn K (.ref f__law_base)=true)
    (a__law_heap:nsIn K mainGlobals "_law_heap"=some (some (.ref f__law_heap)))
    (l__law_heap:K.lookup f__law_heap=some ⟨oc__law_heap,od__law_heap,.func (fnOf "_law_heap" "_law_heap" (aX dR) (aT dR) (au dR) .none kV__law_heap dc__law_heap pm__law_heap an__law_heap cd__law_heap ct__law_heap),sl__law_heap⟩)
    (d__law_heap:codeIn K cd__law_heap "_law_heap"=true)
    (k__law_heap:keepIn K (.ref f__law_heap)=true)
    (a__law_spot:nsIn K mainGlobals "_law_spot"=some (some (.ref f__law_spot)))
    (l__law_spot:K.lookup f__law_spot=some ⟨oc__law_spot,od__law_spot,.func (fnOf "_law_spot" "_law_spot" (aX dS) (aT dS) (au dS) .none kV__law_spot dc__law_spot pm__law_spot an__law_spot cd__law_spot ct__law_spot),sl__law_spot⟩)
    (d__law_spot:codeIn K cd__law_spot "_law_spot"=true)
    (k__law_spot:keepIn K (.ref f__law_spot)=true)
    (a__law_has:nsIn K mainGlobals "_law_has"=some (some (.ref f__law_has)))
    (l__law_has:K.lookup f__law_has=some ⟨oc__law_has,od__law_has,.func (fnOf "_law_has" "_law_has" (aX eM) (aT eM) (au eM) .none kV__law_has dc__law_has pm__law_has an__law_has cd__law_has ct__law_has),sl__law_has⟩)
    (d__law_has:codeIn K cd__law_has "_law_has"=true)
    (k__law_has:keepIn K (.ref f__law_has)=true)
    (a__law_led:nsIn K mainGlobals "_law_led"=some (some (.ref f__law_led)))
    (l__law_led:K.lookup f__law_led=some ⟨oc__law_led,od__law_led,.func (fnOf "_law_led" "_law_led" (aX eO) (aT eO) (au eO) .none kV__law_led dc__law_led pm__law_led an__law_led cd__law_led ct__law_led),sl__law_led⟩)
    (d__law_led:codeIn K cd__law_led "_law_led"=true)
    (k__law_led:keepIn K (.ref f__law_led)=true)
    (a__law_less:nsIn K mainGlobals "_law_less"=some (some (.ref f__law_less)))
    (l__law_less:K.lookup f__law_less=some ⟨oc__law_less,od__law_less,.func (fnOf "_law_less" "_law_less" (aX dU) (aT dU) (au dU) .none kV__law_less dc__law_less pm__law_less an__law_less cd__law_less ct__law_less),sl__law_less⟩)
    (d__law_less:codeIn K cd__law_less "_law_less"=true)
    (k__law_less:keepIn K (.ref f__law_less)=true)
    (a__law_whole_at:nsIn K mainGlobals "_law_whole_at"=some (some (.ref f__law_whole_at)))
    (l__law_whole_at:K.lookup f__law_whole_at=some ⟨oc__law_whole_at,od__law_whole_at,.func (fnOf "_law_whole_at" "_law_whole_at" (aX ca) (aT ca) (au ca) .none kV__law_whole_at dc__law_whole_at pm__law_whole_at an__law_whole_at cd__law_whole_at ct__law_whole_at),sl__law_whole_at⟩)
    (d__law_whole_at:codeIn K cd__law_whole_at "_law_whole_at"=true)
    (k__law_whole_at:keepIn K (.ref f__law_whole_at)=true)
    (a__law_right:nsIn K mainGlobals "_law_right"=some (some (.ref f__law_right)))
    (l__law_right:K.lookup f__law_right=some ⟨oc__law_right,od__law_right,.func (fnOf "_law_right" "_law_right" (aX cP) (aT cP) (au cP) .none kV__law_right dc__law_right pm__law_right an__law_right cd__law_right ct__law_right),sl__law_right⟩)
    (d__law_right:codeIn K cd__law_right "_law_right"=true)
    (k__law_right:keepIn K (.ref f__law_right)=true)
    (a__law_rows:nsIn K mainGlobals "_law_rows"=some (some (.ref f__law_rows)))
    (l__law_rows:K.lookup f__law_rows=some ⟨oc__law_rows,od__law_rows,.func (fnOf "_law_rows" "_law_rows" (aX cL) (aT cL) (au cL) .none kV__law_rows dc__law_rows pm__law_rows an__law_rows cd__law_rows ct__law_rows),sl__law_rows⟩)
    (d__law_rows:codeIn K cd__law_rows "_law_rows"=true)
    (k__law_rows:keepIn K (.ref f__law_rows)=true)
    (a__law_exchanged:nsIn K mainGlobals "_law_exchanged"=some (some (.ref f__law_exchanged)))
    (l__law_exchanged:K.lookup f__law_exchanged=some ⟨oc__law_exchanged,od__law_exchanged,.func (fnOf "_law_exchanged" "_law_exchanged" (aX cn) (aT cn) (au cn) .none kV__law_exchanged dc__law_exchanged pm__law_exchanged an__law_exchanged cd__law_exchanged ct__law_exchanged),sl__law_exchanged⟩)
    (d__law_exchanged:codeIn K cd__law_exchanged "_law_exchanged"=true)
    (k__law_exchanged:keepIn K (.ref f__law_exchanged)=true)
    (a__law_spoilt:nsIn K mainGlobals "_law_spoilt"=some (some (.ref f__law_spoilt)))
    (l__law_spoilt:K.lookup f__law_spoilt=some ⟨oc__law_spoilt,od__law_spoilt,.func (fnOf "_law_spoilt" "_law_spoilt" (aX cH) (aT cH) (au cH) .none kV__law_spoilt dc__law_spoilt pm__law_spoilt an__law_spoilt cd__law_spoilt ct__law_spoilt),sl__law_spoilt⟩)
    (d__law_spoilt:codeIn K cd__law_spoilt "_law_spoilt"=true)
    (k__law_spoilt:keepIn K (.ref f__law_spoilt)=true)
    (a_law:nsIn K mainGlobals "law"=some (some (.ref f_law)))
    (l_law:K.lookup f_law=some ⟨oc_law,od_law,.func (fnOf "law" "law" (aX fg) (aT fg) (au fg) .none kV_law dc_law pm_law an_law cd_law ct_law),sl_law⟩)
    (d_law:codeIn K cd_law "law"=true)
    (k_law:keepIn K (.ref f_law)=true)
    (z_all:nsIn K mainGlobals "all"=some none)
    (z_bool:nsIn K mainGlobals "bool"=some none)
    (z_divmod:nsIn K mainGlobals "divmod"=some none)
    (z_isinstance:nsIn K mainGlobals "isinstance"=some none)
    (z_len:nsIn K mainGlobals "len"=some none)
    (z_list:nsIn K mainGlobals "list"=some none)
    (z_max:nsIn K mainGlobals "max"=some none)
    (z_min:nsIn K mainGlobals "min"=some none)
    (z_range:nsIn K mainGlobals "range"=some none)
    (z_set:nsIn K mainGlobals "set"=some none)
    (z_sorted:nsIn K mainGlobals "sorted"=some none)
    (z_tuple:nsIn K mainGlobals "tuple"=some none)
    (z_zip:nsIn K mainGlobals "zip"=some none) :
    ∃ fd:FuncData,(∀ (s:Shared) (v:Value),BindsTo s fd ⟨[v],[]⟩ [("script",v)])/\∀ base:Heap,K.In base->base.Ns mainGlobals mg->FnOk l.prog w K mg base (iP l.prog w K) 7 fa fd ["script"] (oQ K 1 v_law):=by
  have e:=hfa.symm.trans (mg_of X G a_law)
  cases e
  have T:Txt K mg :=⟨mg_none_of X G z_all,
    mg_none_of X G z_bool,
    mg_none_of X G z_divmod,
    mg_none_of X G z_isinstance,
    mg_none_of X G z_len,
    mg_none_of X G z_list,
    mg_none_of X G z_max,
    mg_none_of X G z_min,
    mg_none_of X G z_range,
    mg_none_of X G z_set,
    mg_none_of X G z_sorted,
    mg_none_of X G z_tuple,
    mg_none_of X G z_zip⟩
  have F_cell_moved:=bw (st:=dm) l_cell_moved d_cell_moved k_cell_moved
  have F_cell_less:=bw (st:=dM) l_cell_less d_cell_less k_cell_less
  have F_both:=bw (st:=iW) l_both d_both k_both
  have F_outside:=bw (st:=fv) l_outside d_outside k_outside
  have F_within:=bw (st:=gl) l_within d_within k_within
  have F_moved:=bw (st:=gm) l_moved d_moved k_moved
  have F_laid:=bw (st:=iX) l_laid d_laid k_laid
  have F_whole_at:=bw (st:=eL) l_whole_at d_whole_at k_whole_at
  have F_lacking_at:=bw (st:=dn) l_lacking_at d_lacking_at k_lacking_at
  have F_goes_right:=bw (st:=dq) l_goes_right d_goes_right k_goes_right
  have F_left_right:=bw (st:=dt) l_left_right d_left_right k_left_right
  have F__law_cell:=bw (st:=dN) l__law_cell d__law_cell k__law_cell
  have F__law_deal:=bw (st:=dO) l__law_deal d__law_deal k__law_deal
  have F__law_piece:=bw (st:=du) l__law_piece d__law_piece k__law_piece
  have F__law_kept:=bw (st:=dP) l__law_kept d__law_kept k__law_kept
  have F__law_base:=bw (st:=dQ) l__law_base d__law_base k__law_base
  have F__law_heap:=bw (st:=dR) l__law_heap d__law_heap k__law_heap
  have F__law_spot:=bw (st:=dS) l__law_spot d__law_spot k__law_spot
  have F__law_has:=bw (st:=eM) l__law_has d__law_has k__law_has
  have F__law_led:=bw (st:=eO) l__law_led d__law_led k__law_led
  have F__law_less:=bw (st:=dU) l__law_less d__law_less k__law_less
  have F__law_whole_at:=bw (st:=ca) l__law_whole_at d__law_whole_at k__law_whole_at
  have F__law_right:=bw (st:=cP) l__law_right d__law_right k__law_right
  have F__law_rows:=bw (st:=cL) l__law_rows d__law_rows k__law_rows
  have F__law_exchanged:=bw (st:=cn) l__law_exchanged d__law_exchanged k__law_exchanged
  have F__law_spoilt:=bw (st:=cH) l__law_spoilt d__law_spoilt k__law_spoilt
  have F_law:=bw (st:=fg) l_law d_law k_law
  refine ⟨fnOf "law" "law" (aX fg) (aT fg) (au fg) .none kV_law dc_law pm_law an_law cd_law ct_law,fun s v=>.of_eq rfl,fun base _ _=>?_⟩
  have O_cell_moved:=nQ (P:=l.prog) (w:=w) (base:=base) T F_cell_moved (mg_of X G a_cell_moved)
  have O_cell_less:=pX (P:=l.prog) (w:=w) (base:=base) T F_cell_less (mg_of X G a_cell_less)
  have O_both:=zm (P:=l.prog) (w:=w) (base:=base) T F_both (mg_of X G a_both)
  have O_outside:=sW (P:=l.prog) (w:=w) (base:=base) T F_outside (mg_of X G a_outside)
  have O_within:=vn (P:=l.prog) (w:=w) (base:=base) T F_within (mg_of X G a_within) O_both O_outside
  have O_moved:=wZ (P:=l.prog) (w:=w) (base:=base) T F_moved (mg_of X G a_moved) O_cell_moved
  have O_laid:=zo (P:=l.prog) (w:=w) (base:=base) T F_laid (mg_of X G a_laid) O_moved
  have O_whole_at:=qH (P:=l.prog) (w:=w) (base:=base) T F_whole_at (mg_of X G a_whole_at) O_within O_laid
  have O_lacking_at:=nS (P:=l.prog) (w:=w) (base:=base) T F_lacking_at (mg_of X G a_lacking_at) O_both O_outside O_laid
  have O_goes_right:=nU (P:=l.prog) (w:=w) (base:=base) T F_goes_right (mg_of X G a_goes_right) O_cell_less O_lacking_at
  have O_left_right:=nW (P:=l.prog) (w:=w) (base:=base) T F_left_right (mg_of X G a_left_right) O_cell_less O_whole_at O_goes_right
  have O__law_cell:=pZ (P:=l.prog) (w:=w) (base:=base) T F__law_cell (mg_of X G a__law_cell)
  have O__law_deal:=qc (P:=l.prog) (w:=w) (base:=base) T F__law_deal (mg_of X G a__law_deal)
  have O__law_piece:=nX (P:=l.prog) (w:=w) (base:=base) T F__law_piece (mg_of X G a__law_piece)
  have O__law_kept:=qe (P:=l.prog) (w:=w) (base:=base) T F__law_kept (mg_of X G a__law_kept)
  have O__law_base:=qf (P:=l.prog) (w:=w) (base:=base) T F__law_base (mg_of X G a__law_base)
  have O__law_heap:=qg (P:=l.prog) (w:=w) (base:=base) T F__law_heap (mg_of X G a__law_heap) O__law_base O__law_kept
  have O__law_spot:=qh (P:=l.prog) (w:=w) (base:=base) T F__law_spot (mg_of X G a__law_spot) O__law_kept
  have O__law_has:=qJ (P:=l.prog) (w:=w) (base:=base) T F__law_has (mg_of X G a__law_has)
  have O__law_led:=qL (P:=l.prog) (w:=w) (base:=base) T F__law_led (mg_of X G a__law_led)
  have O__law_less:=qj (P:=l.prog) (w:=w) (base:=base) T F__law_less (mg_of X G a__law_less)
  have O__law_whole_at:=kU (P:=l.prog) (w:=w) (base:=base) T F__law_whole_at (mg_of X G a__law_whole_at) O__law_has O__law_led
  have O__law_right:=nY (P:=l.prog) (w:=w) (base:=base) T F__law_right (mg_of X G a__law_right) O__law_less O__law_whole_at O__law_led O__law_has
  have O__law_rows:=qk (P:=l.prog) (w:=w) (base:=base) T F__law_rows (mg_of X G a__law_rows) O__law_less O__law_led O__law_has
  have O__law_exchanged:=kv (P:=l.prog) (w:=w) (base:=base) T F__law_exchanged (mg_of X G a__law_exchanged)
  have O__law_spoilt:=mN (P:=l.prog) (w:=w) (base:=base) T F__law_spoilt (mg_of X G a__law_spoilt) O__law_led O__law_has O__law_exchanged
  exact AI F_law sc_law fun cdv A outer s H E B hr=>Cz T O__law_piece O__law_deal O__law_cell O__law_heap O__law_spot O__law_less O__law_rows O__law_spoilt O_left_right O__law_right hr (oX ng rfl)
end
end K21
namespace K21
open PySem PySem.Spec PySem.Calls PySem.W L2 Vl
abbrev KL:=List (List Int)
theorem t2 (a b:D):aS [a,b]=.ok (.tup [a,b]):=oj (by simp)
theorem sX {c s o n J A1 A2 A3 A4 q A5 r A6 A7 u A8:Int} (e0:bm (.int 15) (.int J)=.ok (.int A1)) (e1:bm (.int A1) (.int J)=.ok (.int A2)) (e2:bm (.int 31) (.int s)=.ok (.int A3)) (e3:bm (.int (o + A2 + A3 + 11)) (.int 48271)=.ok (.int A4)) (e4:cf (.int A4) (.int 2147483647)=.ok (.int q))
    (e5:bm (.int q) (.int q)=.ok (.int A5)) (e6:cf (.int A5) (.int 2147483629)=.ok (.int r)) (e7:bm (.int n) (.int 998244353)=.ok (.int A6)) (e8:bm (.int r) (.int 69621)=.ok (.int A7)) (e9:cf (.int A7) (.int 2147483587)=.ok (.int u)) (e10:fD (.int u) (.int 7)=.ok (.int A8)) :
    cR [.fz (.int c),.fz (.int s),.fz (.int o),.fz (.int n),.fz (.int J)]=.nx [.fz (.int c),.fz (.int s),.fz (.int r),.fz (.int (A6 + A8)),.fz (.int J)]:=by
  unfold cR
  simp (config:={ decide:=false }) only [aC,sJ,sK,sL,wQ,wR,jr,sM,wS,sN,sO,sP,sQ,sR,pR,bI,aQ,wf,bJ,bF,wj,eD,bQ,pJ,kP,mH,wg,ai,ab,fC,fA,fB,aa,aj,fT,jf,gc,fy,eY,vV,lq,jM,fL,cr,fP,bL,ln,xx,pQ,cI,cY,oY,wk,oZ,wl,eT,gL,io,pS,lW,lX,pT,pU,sT,pV,wT,wU,wV,wW,wX,sU,eZ,jk,ko,sS,lY,lZ,ar,bv,aE,bz,aG,List.map_cons,List.map_nil,List.length_cons,List.length_nil,List.replicate,List.cons_append,List.nil_append,List.getElem?_cons_zero,List.getElem?_cons_succ,List.set_cons_zero,List.set_cons_succ,Nat.reduceAdd,Nat.reduceSub,Nat.reduceEqDiff,Nat.reduceLeDiff,Nat.zero_add,Option.bind_some,if_true,if_false,ite_true,ite_false,decide_true,decide_false,Bool.not_true,Bool.not_false,Bool.false_eq_true,reduceIte,reduceCtorEq,e0,e1,e2,e3,e4,e5,e6,e7,e8,e9,e10]
theorem qM {c s o n:Int} {j:Nat} (hs:0<=s/\s<=9) (hj:j < 24) (h1:0<=o) (h2:o < 2147483647) :
    ∃ o' n':Int,cR [.fz (.int c),.fz (.int s),.fz (.int o),.fz (.int n),.fz (.int j)]=.nx [.fz (.int c),.fz (.int s),.fz (.int o'),.fz (.int n'),.fz (.int j)]/\0<=o'/\o' < 2147483647:=by
  have e0:bm (.int 15) (.int j)=.ok (.int (15 * j)):=db (by omega)
  have e1:bm (.int (15 * (j:Int))) (.int j)=.ok (.int (15 * j * j)):=db (by omega)
  have e2:bm (.int 31) (.int s)=.ok (.int (31 * s)):=db (by omega)
  have e3:bm (.int (o + 15 * j * j + 31 * s + 11)) (.int 48271)=.ok (.int ((o + 15 * j * j + 31 * s + 11) * 48271)):=db (by decide)
  have e4:=gr (m:=(o + 15 * j * j + 31 * s + 11) * 48271) (n:=2147483647) (by decide)
  have b1:0<=(o + 15 * (j:Int) * j + 31 * s + 11) * 48271 % 2147483647:=Int.emod_nonneg _ (by decide)
  have b2:(o + 15 * (j:Int) * j + 31 * s + 11) * 48271 % 2147483647 < 2147483647:=Int.emod_lt_of_pos _ (by decide)
  generalize (o + 15 * (j:Int) * j + 31 * s + 11) * 48271 % 2147483647=q at e4 b1 b2
  have e5:bm (.int q) (.int q)=.ok (.int (q * q)):=db (by omega)
  have e6:=gr (m:=q * q) (n:=2147483629) (by decide)
  have c1:0<=q * q % 2147483629:=Int.emod_nonneg _ (by decide)
  have c2:q * q % 2147483629 < 2147483629:=Int.emod_lt_of_pos _ (by decide)
  generalize q * q % 2147483629=r at e6 c1 c2
  have e7:bm (.int n) (.int 998244353)=.ok (.int (n * 998244353)):=db (by decide)
  have e8:bm (.int r) (.int 69621)=.ok (.int (r * 69621)):=db (by decide)
  have e9:=gr (m:=r * 69621) (n:=2147483587) (by decide)
  generalize r * 69621 % 2147483587=u at e9
  have e10:=lE (m:=u) (n:=7) ⟨by decide,by decide⟩
  exact ⟨_,_,sX e0 e1 e2 e3 e4 e5 e6 e7 e8 e9 e10,c1,by omega⟩
theorem qN (c:Int) {s o:Int} (hs:0<=s/\s<=9) (b1:0<=o) (b2:o < 2147483647):∃ (o' n:Int) (a:Sl),fE (ar 4) cR (fC (.int 24)) [.fz (.int c),.fz (.int s),.fz (.int o),.fz (.int 0),.no]=.nx [.fz (.int c),.fz (.int s),.fz (.int o'),.fz (.int n),a]:=by
  obtain ⟨ρ',e1,o',n,a,rfl,_⟩:=kH (h:=ar 4) (g:=cR) (fun ρ=>∃ (o n:Int) (a:Sl),ρ=[.fz (.int c),.fz (.int s),.fz (.int o),.fz (.int n),a]/\0<=o/\o < 2147483647)
    (ds:=(List.range 24).map fun (i:Nat)=>.int i) (ρ:=[.fz (.int c),.fz (.int s),.fz (.int o),.fz (.int 0),.no]) ⟨_,_,_,rfl,b1,b2⟩ (by
      rintro d hd ρ ⟨o,n,a,rfl,h1,h2⟩
      obtain ⟨j,hj,rfl⟩:=List.mem_map.mp hd
      obtain ⟨o',n',e,h3,h4⟩:=qM (c:=c) (s:=s) (n:=n) (j:=j) hs (List.mem_range.mp hj) h1 h2
      exact ⟨_,_,rfl,e,_,_,_,rfl,h3,h4⟩)
  exact ⟨o',n,a,iQ (N:=24) ax (by decide) rfl e1⟩
theorem xa (c s T:Int) (p1:bH (.int 10) (.int 18)=.ok (.int T)) (h:decide (T<=c)=true):bS [.int c,.int s]=.ok (.int (c - T)):=by
  unfold bS gu
  simp (config:={ decide:=false }) only [aC,sJ,sK,sL,wQ,wR,jr,sM,wS,sN,sO,sP,sQ,sR,pR,bI,aQ,wf,bJ,bF,wj,eD,bQ,pJ,kP,mH,wg,ai,ab,fC,fA,fB,aa,aj,fT,jf,gc,fy,eY,vV,lq,jM,fL,cr,fP,bL,ln,xx,pQ,cI,cY,oY,wk,oZ,wl,eT,gL,io,pS,lW,lX,pT,pU,sT,pV,wT,wU,wV,wW,wX,sU,eZ,jk,ko,sS,lY,lZ,ar,bv,aE,bz,aG,List.map_cons,List.map_nil,List.length_cons,List.length_nil,List.replicate,List.cons_append,List.nil_append,List.getElem?_cons_zero,List.getElem?_cons_succ,List.set_cons_zero,List.set_cons_succ,Nat.reduceAdd,Nat.reduceSub,Nat.reduceEqDiff,Nat.reduceLeDiff,Nat.zero_add,Option.bind_some,if_true,if_false,ite_true,ite_false,decide_true,decide_false,Bool.not_true,Bool.not_false,Bool.false_eq_true,reduceIte,reduceCtorEq,p1,h]
theorem xb (c s T o o' n:Int) (a:Sl) (p1:bH (.int 10) (.int 18)=.ok (.int T)) (p2:cf (.int c) (.int 2147483629)=.ok (.int o))
    (f1:fE (ar 4) cR (fC (.int 24)) [.fz (.int c),.fz (.int s),.fz (.int o),.fz (.int 0),.no]=.nx [.fz (.int c),.fz (.int s),.fz (.int o'),.fz (.int n),a]) (h:decide (T<=c)=false):bS [.int c,.int s]=.ok (.int n):=by
  unfold bS gu
  simp (config:={ decide:=false }) only [aC,sJ,sK,sL,wQ,wR,jr,sM,wS,sN,sO,sP,sQ,sR,pR,bI,aQ,wf,bJ,bF,wj,eD,bQ,pJ,kP,mH,wg,ai,ab,fC,fA,fB,aa,aj,fT,jf,gc,fy,eY,vV,lq,jM,fL,cr,fP,bL,ln,xx,pQ,cI,cY,oY,wk,oZ,wl,eT,gL,io,pS,lW,lX,pT,pU,sT,pV,wT,wU,wV,wW,wX,sU,eZ,jk,ko,sS,lY,lZ,ar,bv,aE,bz,aG,List.map_cons,List.map_nil,List.length_cons,List.length_nil,List.replicate,List.cons_append,List.nil_append,List.getElem?_cons_zero,List.getElem?_cons_succ,List.set_cons_zero,List.set_cons_succ,Nat.reduceAdd,Nat.reduceSub,Nat.reduceEqDiff,Nat.reduceLeDiff,Nat.zero_add,Option.bind_some,if_true,if_false,ite_true,ite_false,decide_true,decide_false,Bool.not_true,Bool.not_false,Bool.false_eq_true,reduceIte,reduceCtorEq,p1,h,p2,f1]
theorem me (c s:Int) (hs:0<=s/\s<=9):∃ n:Int,bS [.int c,.int s]=.ok (.int n):=by
  have p1:bH (.int 10) (.int 18)=.ok (.int (10 ^ Int.toNat 18)):=kj ⟨by decide,by decide,by decide⟩
  generalize (10:Int) ^ Int.toNat 18=T at p1
  have p2:cf (.int c) (.int 2147483629)=.ok (.int (c % 2147483629)):=gr (by decide)
  have b1:0<=c % 2147483629:=Int.emod_nonneg _ (by decide)
  have b2:c % 2147483629 < 2147483629:=Int.emod_lt_of_pos _ (by decide)
  obtain ⟨o',n,a,f1⟩:=qN c hs (o:=c % 2147483629) b1 (by omega)
  cases h:decide (T<=c) with
  | true=>exact ⟨_,xa c s T p1 h⟩
  | false=>exact ⟨_,xb c s T _ o' n a p1 p2 f1 h⟩
theorem nC (ks:List Int):jp (tupK ks)=some ks:=by
  show im (ks.map D.int)=some ks
  induction ks with
  | nil=>rfl
  | cons k ks ih=>rw [List.map_cons];show (im (ks.map D.int)).map _=_;rw [ih];rfl
theorem ju (kvs:List (List Int×D)) (x:List Int):(eK kvs x).isSome=decide (x∈kvs.map (·.1)):=by
  induction kvs with
  | nil=>rfl
  | cons p kvs ih =>
    unfold eK at ih ⊢
    rw [List.find?_cons,List.map_cons]
    by_cases h:p.1=x
    . simp [h]
    . have h':¬ x=p.1:=fun z=>h z.symm
      simp only [h,decide_false]
      rw [ih]
      simp [h']
theorem kW (kvs:List (List Int×D)) (ks x:List Int) (d:D):x∈(ef kvs ks d).map (·.1)↔x=ks∨x∈kvs.map (·.1):=by
  unfold ef
  split
  . rename_i c
    rw [ju] at c
    have hk:=of_decide_eq_true c
    have e:(kvs.map fun p=>if p.1=ks then (p.1,d) else p).map (·.1)=kvs.map (·.1):=by
      rw [List.map_map]
      refine List.map_congr_left fun p _=>?_
      show (if p.1=ks then (p.1,d) else p).1=p.1
      split <;> rfl
    rw [e]
    exact ⟨.inr,fun h=>h.elim (fun z=>z▸hk) id⟩
  . rw [List.map_append,List.mem_append]
    simp [or_comm]
theorem mP (kvs:List (List Int×D)) (ks:List Int) (d:D):(ef kvs ks d).length<=kvs.length + 1:=by
  unfold ef
  split
  . rw [List.length_map];omega
  . simp
theorem oo {ρ:ah} {j:Nat} {kvs:List (List Int×D)} {ks:List Int} {v:D} {fe fk:ah->Rs D} (he:fe ρ=.ok v) (hj:ρ[j]?=some (.od kvs)) (hk:fk ρ=.ok (tupK ks)) (hl:kvs.length<=1000000):iE j fe fk ρ=.nx (ρ.set j (.od (ef kvs ks v))):=by
  unfold iE
  rw [he,hj]
  show oR (fk ρ) ρ _=_
  rw [hk]
  show (match jp (tupK ks) with|some ks=>if kvs.length<=1000000 then Ou.nx _ else .no|none=>.no)=_
  rw [nC]
  show (if kvs.length<=1000000 then Ou.nx _ else .no)=_
  rw [if_pos hl]
theorem p6:bH (.int 10) (.int 6)=.ok (.int 1000000):=by rw [kj ⟨by decide,by decide,by decide⟩];exact congrArg (fun z=>Rs.ok (D.int z)) (by decide)
theorem m6:bm (.int 2) (.int 1000000)=.ok (.int 2000000):=by rw [db (by decide)];exact congrArg (fun z=>Rs.ok (D.int z)) (by decide)
theorem sY {n w m:Int} {kvs:List (List Int×D)} {a4 a5 a6 a7 a8:Sl} (hl:kvs.length<=1000000) :
    ∃ (n' x y:Int) (b5 b6 b7 b8:Sl),dH [.fz (.int n),.fz (.int w),.fz (.int m),.od kvs,a4,a5,a6,a7,a8]=.nx [.fz (.int n'),.fz (.int w),.fz (.int m),.od (ef kvs [x,y] (.bl true)),a4,b5,b6,b7,b8]:=by
  have d1:=cG (m:=n) (n:=25) ⟨by decide,by decide⟩
  generalize n / 25=n1 at d1
  generalize n % 25=at_ at d1
  have v5:fD (.int at_) (.int 5)=.ok (.int (at_ / 5)):=lE ⟨by decide,by decide⟩
  have r5:cf (.int at_) (.int 5)=.ok (.int (at_ % 5)):=gr (by decide)
  have pl:aD (.int 2000000) (.int 1)=.ok (.int 2000001):=rfl
  cases h:decide (w=1) with
  | false =>
    refine ⟨n1,at_ / 5 - 2,at_ % 5 - 2,.fz (.int at_),.fz (tupK [at_ / 5 - 2,at_ % 5 - 2]),a7,a8,?_⟩
    unfold dH
    refine ao (ρ1:=[.fz (.int n1),.fz (.int w),.fz (.int m),.od kvs,a4,.fz (.int at_),a6,a7,a8]) (bn (az (ac (af rfl) (ac ax ak)) d1) rfl) ?_
    refine ao (cw (az (ac (am (am (af rfl) ax v5) ax cY) (ac (am (am (af rfl) ax r5) ax cY) ak)) (t2 _ _))) ?_
    refine ao (aJ (bU (am (af rfl) ax (by rw [eZ,h]))) bb) ?_
    exact oo (ks:=[at_ / 5 - 2,at_ % 5 - 2]) ax rfl (af rfl) hl
  | true =>
    have d2:=cG (m:=n1) (n:=2000001) ⟨by decide,by decide⟩
    generalize n1 / 2000001=n2 at d2
    generalize n1 % 2000001=r at d2
    have d3:=cG (m:=n2) (n:=2000001) ⟨by decide,by decide⟩
    generalize n2 / 2000001=n3 at d3
    generalize n2 % 2000001=c at d3
    refine ⟨n3,r - 1000000,c - 1000000,.fz (.int at_),.fz (tupK [r - 1000000,c - 1000000]),.fz (.int r),.fz (.int c),?_⟩
    unfold dH
    refine ao (ρ1:=[.fz (.int n1),.fz (.int w),.fz (.int m),.od kvs,a4,.fz (.int at_),a6,a7,a8]) (bn (az (ac (af rfl) (ac ax ak)) d1) rfl) ?_
    refine ao (cw (az (ac (am (am (af rfl) ax v5) ax cY) (ac (am (am (af rfl) ax r5) ax cY) ak)) (t2 _ _))) ?_
    refine ao (ρ1:=[.fz (.int n3),.fz (.int w),.fz (.int m),.od kvs,a4,.fz (.int at_),.fz (tupK [r - 1000000,c - 1000000]),.fz (.int r),.fz (.int c)]) (bP (bU (am (af rfl) ax (by rw [eZ,h]))) ?_) ?_
    . refine ao (ρ1:=[.fz (.int n2),.fz (.int w),.fz (.int m),.od kvs,a4,.fz (.int at_),.fz (tupK [at_ / 5 - 2,at_ % 5 - 2]),.fz (.int r),a8]) (bn (az (ac (af rfl) (ac (am (am ax (am ax ax p6) m6) ax pl) ak)) d2) rfl) ?_
      refine ao (ρ1:=[.fz (.int n3),.fz (.int w),.fz (.int m),.od kvs,a4,.fz (.int at_),.fz (tupK [at_ / 5 - 2,at_ % 5 - 2]),.fz (.int r),.fz (.int c)]) (bn (az (ac (af rfl) (ac (am (am ax (am ax ax p6) m6) ax pl) ak)) d3) rfl) ?_
      exact cw (az (ac (am (af rfl) (am ax ax p6) cY) (ac (am (af rfl) (am ax ax p6) cY) ak)) (t2 _ _))
    . exact oo (ks:=[r - 1000000,c - 1000000]) ax rfl (af rfl) hl
def GK (kvs:List (List Int×D)):Prop:=∀ x∈kvs.map (·.1),Pair x
theorem sZ {w m:Int}:∀ (l:List Nat) (n:Int) (kvs:List (List Int×D)) (a4 a5 a6 a7 a8:Sl),GK kvs->kvs.length + l.length<=1000 ->
    ∃ (n':Int) (kvs':List (List Int×D)) (b4 b5 b6 b7 b8:Sl),bp (ar 4) dH (l.map fun (i:Nat)=>.int i) [.fz (.int n),.fz (.int w),.fz (.int m),.od kvs,a4,a5,a6,a7,a8]=.nx [.fz (.int n'),.fz (.int w),.fz (.int m),.od kvs',b4,b5,b6,b7,b8]/\GK kvs'/\kvs'.length<=kvs.length + l.length/\(kvs.map (·.1)≠[]∨l≠[]->kvs'.map (·.1)≠[]):=by
  intro l
  induction l with
  | nil=>intro n kvs a4 a5 a6 a7 a8 hg _;exact ⟨n,kvs,a4,a5,a6,a7,a8,rfl,hg,Nat.le_refl _,fun h=>h.elim id fun z=>(z rfl).elim⟩
  | cons i l ih =>
    intro n kvs a4 a5 a6 a7 a8 hg hl
    simp only [List.length_cons] at hl
    obtain ⟨n1,x,y,b5,b6,b7,b8,e⟩:=sY (n:=n) (w:=w) (m:=m) (kvs:=kvs) (a4:=.fz (.int i)) (a5:=a5) (a6:=a6) (a7:=a7) (a8:=a8) (by omega)
    have lp:=mP kvs [x,y] (.bl true)
    have mem:[x,y]∈(ef kvs [x,y] (.bl true)).map (·.1):=(kW kvs [x,y] [x,y] (.bl true)).mpr (.inl rfl)
    obtain ⟨n2,kvs2,c4,c5,c6,c7,c8,e2,g2,l2,ne⟩:=ih n1 (ef kvs [x,y] (.bl true)) (.fz (.int i)) b5 b6 b7 b8 (fun z hz=>by
      rcases (kW kvs [x,y] z (.bl true)).mp hz with rfl|h
      . exact ⟨x,y,rfl⟩
      . exact hg z h) (by omega)
    refine ⟨n2,kvs2,c4,c5,c6,c7,c8,?_,g2,by simp only [List.length_cons];omega,fun _=>ne (.inl (List.ne_nil_of_mem mem))⟩
    simp only [List.map_cons,bp,ar,List.set_cons_succ,List.set_cons_zero,e]
    exact e2
structure Good (L:KL):Prop where
  pr:∀ ks∈L,Pair ks
  ne:L≠[]
  le:L.length<=12
theorem zp (n:Int):∃ (n':Int) (L:KL),eJ [.int n]=.ok (.tup [.tup (L.map tupK),.int n'])/\Good L:=by
  have d1:=cG (m:=n) (n:=8) ⟨by decide,by decide⟩
  generalize n / 8=n1 at d1
  generalize n % 8=w at d1
  have d2:=cG (m:=n1) (n:=5) ⟨by decide,by decide⟩
  have u0:0<=n1 % 5:=Int.emod_nonneg _ (by decide)
  have u1:n1 % 5 < 5:=Int.emod_lt_of_pos _ (by decide)
  generalize n1 / 5=n2 at d2
  generalize n1 % 5=m at d2 u0 u1
  have iff:∃ (n3 m':Int),(0<=m'/\m' < 12)/\bJ (fT (ai bV (ab 1) (fC (.int 0)))) (bF (fA (aa (ab 0) (aa (fC (.int 12)) aj)) cO) (bv 2 (aE (ar 0) (aE (ar 2) bz)))) bQ [.fz (.int n2),.fz (.int w),.fz (.int m),.no,.no,.no,.no,.no,.no]=.nx [.fz (.int n3),.fz (.int w),.fz (.int m'),.no,.no,.no,.no,.no,.no]:=by
    cases h:decide (w=0) with
    | false=>exact ⟨n2,m,⟨u0,by omega⟩,aJ (bU (am (af rfl) ax (by rw [eZ,h]))) bb⟩
    | true=>exact ⟨n2 / 12,n2 % 12,⟨Int.emod_nonneg _ (by decide),Int.emod_lt_of_pos _ (by decide)⟩,bP (bU (am (af rfl) ax (by rw [eZ,h]))) (bn (az (ac (af rfl) (ac ax ak)) (cG ⟨by decide,by decide⟩)) rfl)⟩
  obtain ⟨n3,m',⟨h0,h12⟩,ei⟩:=iff
  obtain ⟨M,rfl⟩:∃ M:Nat,m'=M:=⟨m'.toNat,by omega⟩
  obtain ⟨n4,kvs,b4,b5,b6,b7,b8,e,g,l,ne⟩:=sZ (w:=w) (m:=M) (List.range (1 + M)) n3 [] .no .no .no .no .no (fun _ h=>by cases h) (by rw [List.length_range];simp only [List.length_nil];omega)
  rw [List.length_range,List.length_nil] at l
  have nn:kvs.map (·.1)≠[]:=ne (.inr (by intro z;have:=congrArg List.length z;rw [List.length_range] at this;simp at this))
  have sd:gJ 3 [.fz (.int n4),.fz (.int w),.fz (.int M),.od kvs,b4,b5,b6,b7,b8]=.ok (.lst ((So.sortK (kvs.map (·.1))).map tupK)):=by
    show (if kvs.length < 64/\∀ p∈kvs,p.1≠[] then Rs.ok (D.lst ((So.sortK (kvs.map (·.1))).map tupK)) else .no)=_
    rw [if_pos ⟨by omega,fun p hp=>(g p.1 (List.mem_map_of_mem hp)).ne⟩]
  refine ⟨n4,So.sortK (kvs.map (·.1)),?_,fun ks hk=>g ks (sortK_mem.mp hk),fun z=>nn ?_,by rw [iG,List.length_map];omega⟩
  . have run:fO (aG ["number","way","many","steps","k","at","step","row","column"] [.int n])=.rt (.tup [.tup ((So.sortK (kvs.map (·.1))).map tupK),.int n4]):=by
      unfold fO
      refine ao (ρ1:=[.fz (.int n1),.fz (.int w),.no,.no,.no,.no,.no,.no,.no]) (bn (az (ac (af rfl) (ac ax ak)) d1) rfl) ?_
      refine ao (ρ1:=[.fz (.int n2),.fz (.int w),.fz (.int m),.no,.no,.no,.no,.no,.no]) (bn (az (ac (af rfl) (ac ax ak)) d2) rfl) ?_
      refine ao ei ?_
      refine ao (ρ1:=[.fz (.int n3),.fz (.int w),.fz (.int M),.od [],.no,.no,.no,.no,.no]) rfl ?_
      refine ao (iw (iQ (n:=1 + (M:Int)) (N:=1 + M) (am ax (af rfl) cI) (by omega) (by omega) e)) ?_
      exact bh (az (ac (az (ac sd ak) rfl) (ac (af rfl) ak)) (t2 _ _))
    unfold eJ;rw [run];rfl
  . have:=congrArg List.length z
    rw [iG] at this
    exact List.length_eq_zero_iff.mp this
end K21
namespace K21
open PySem PySem.Spec PySem.Calls PySem.W L2 Vl
abbrev sh (k:KL) (b:Bool):D:=.tup [.tup (k.map tupK),.bl b]
theorem mf:bH (.int 10) (.int 12)=.ok (.int 1000000000000):=by rw [kj ⟨by decide,by decide,by decide⟩];exact congrArg (fun z=>Rs.ok (D.int z)) (by decide)
theorem p9:bH (.int 10) (.int 9)=.ok (.int 1000000000):=by rw [kj ⟨by decide,by decide,by decide⟩];exact congrArg (fun z=>Rs.ok (D.int z)) (by decide)
theorem p8:bH (.int 10) (.int 8)=.ok (.int 100000000):=by rw [kj ⟨by decide,by decide,by decide⟩];exact congrArg (fun z=>Rs.ok (D.int z)) (by decide)
theorem Bp:bm (.int 2) (.int 1000000000000)=.ok (.int 2000000000000):=by rw [db (by decide)];exact congrArg (fun z=>Rs.ok (D.int z)) (by decide)
theorem Bq:aD (.int 2000000000000) (.int 1)=.ok (.int 2000000000001):=rfl
def kp (a:Int):Int:=if (if a < 1000000000000 then a else 1000000000000) > -1000000000000 then (if a < 1000000000000 then a else 1000000000000) else -1000000000000
theorem ql (a b:Int):∃ x y:Int,bY [.int a,.int b]=.ok (tupK [x,y]):=by
  refine ⟨kp a,kp b,?_⟩
  have mn:∀ z:Int,iF [.int 1000000000000,.int z]=.ok (.int (if z < 1000000000000 then z else 1000000000000)):=fun _=>rfl
  have mx:∀ z:Int,lQ [.int (-1000000000000),.int (if z < 1000000000000 then z else 1000000000000)]=.ok (.int (kp z)):=fun _=>rfl
  have run:gw (aG ["row","column"] [.int a,.int b])=.rt (tupK [kp a,kp b]):=by
    unfold gw
    exact bh (az (ac (az (ac (xF (am ax ax mf)) (ac (az (ac (am ax ax mf) (ac (af rfl) ak)) (mn _)) ak)) (mx _)) (ac (az (ac (xF (am ax ax mf)) (ac (az (ac (am ax ax mf) (ac (af rfl) ak)) (mn _)) ak)) (mx _)) ak)) (t2 _ _))
  unfold bY;rw [run];rfl
theorem Br (n:Int):∃ x y n':Int,dY [.int n]=.ok (.tup [tupK [x,y],.int n']):=by
  have d1:=cG (m:=n) (n:=5) ⟨by decide,by decide⟩
  have u0:0<=n % 5:=Int.emod_nonneg _ (by decide)
  generalize n / 5=n1 at d1
  generalize n % 5=w at d1 u0
  cases h:decide (w > 1) with
  | true =>
    refine ⟨0,0,n1,?_⟩
    have run:dX (aG ["number","way","row","column","by"] [.int n])=.rt (.tup [tupK [0,0],.int n1]):=by
      unfold dX
      refine ao (ρ1:=[.fz (.int n1),.fz (.int w),.no,.no,.no]) (bn (az (ac (af rfl) (ac ax ak)) d1) rfl) ?_
      exact cA (bP (bU (am (af rfl) ax (by rw [oZ,h]))) (bh (az (ac (az (ac ax (ac ax ak)) (t2 _ _)) (ac (af rfl) ak)) (t2 _ _))))
    unfold dY;rw [run];rfl
  | false =>
    have hw:w<=1:=by simpa using of_decide_eq_false h
    have CM:∃ D1 B1:Int,(0 < D1/\D1 < 2 ^ 64)/\(-(2 ^ 64) < B1/\B1 < 2 ^ 64)/\aA (.lst [.int 2000000000001,.int 2]) (.int w)=.ok (.int D1)/\aA (.lst [.int 1,.int 2000000000000]) (.int w)=.ok (.int B1):=by
      rcases (show w=0∨w=1 by omega) with rfl|rfl
      . exact ⟨_,_,by decide,by decide,iz lY,iz lY⟩
      . exact ⟨_,_,by decide,by decide,iz lZ,iz lZ⟩
    obtain ⟨D1,B1,hD,hB,i1,i2⟩:=CM
    have d2:=cG (m:=n1) (n:=D1) (kz hD.1 (by omega))
    generalize n1 / D1=n2 at d2
    generalize n1 % D1=r at d2
    have d3:=cG (m:=n2) (n:=D1) (kz hD.1 (by omega))
    generalize n2 / D1=n3 at d3
    generalize n2 % D1=c at d3
    have e1:bm (.int r) (.int B1)=.ok (.int (r * B1)):=db hB
    have e2:bm (.int c) (.int B1)=.ok (.int (c * B1)):=db hB
    refine ⟨r * B1 - 1000000000000,c * B1 - 1000000000000,n3,?_⟩
    have l2:∀ a b:D,bE [a,b]=.ok (.lst [a,b]):=fun a b=>gq (by simp)
    have run:dX (aG ["number","way","row","column","by"] [.int n])=.rt (.tup [tupK [r * B1 - 1000000000000,c * B1 - 1000000000000],.int n3]):=by
      unfold dX
      refine ao (ρ1:=[.fz (.int n1),.fz (.int w),.no,.no,.no]) (bn (az (ac (af rfl) (ac ax ak)) d1) rfl) ?_
      refine ao (aJ (bU (am (af rfl) ax (by rw [oZ,h]))) bb) ?_
      refine ao (ρ1:=[.fz (.int n2),.fz (.int w),.fz (.int r),.no,.no]) (bn (az (ac (af rfl) (ac (am (az (ac (am (am ax (am ax ax mf) Bp) ax Bq) (ac ax ak)) (l2 _ _)) (af rfl) i1) ak)) d2) rfl) ?_
      refine ao (ρ1:=[.fz (.int n3),.fz (.int w),.fz (.int r),.fz (.int c),.no]) (bn (az (ac (af rfl) (ac (am (az (ac (am (am ax (am ax ax mf) Bp) ax Bq) (ac ax ak)) (l2 _ _)) (af rfl) i1) ak)) d3) rfl) ?_
      refine ao (cw (am (az (ac ax (ac (am ax (am ax ax mf) Bp) ak)) (l2 _ _)) (af rfl) i2)) ?_
      exact bh (az (ac (az (ac (am (am (af rfl) (af rfl) e1) (am ax ax mf) cY) (ac (am (am (af rfl) (af rfl) e2) (am ax ax mf) cY) ak)) (t2 _ _)) (ac (af rfl) ak)) (t2 _ _))
    unfold dY;rw [run];rfl
structure GN (kvs:List (List Int×D)):Prop where
  pr:GK kvs
  nd:(kvs.map (·.1)).Nodup
theorem GN.put {kvs:List (List Int×D)} (h:GN kvs) (x y:Int) (d:D):GN (ef kvs [x,y] d):=by
  refine ⟨fun z hz=>?_,?_⟩
  . rcases (kW kvs [x,y] z d).mp hz with rfl|h'
    . exact ⟨x,y,rfl⟩
    . exact h.pr z h'
  . unfold ef
    split
    . have e:(kvs.map fun p=>if p.1=[x,y] then (p.1,d) else p).map (·.1)=kvs.map (·.1):=by
        rw [List.map_map]
        refine List.map_congr_left fun p _=>?_
        show (if p.1=[x,y] then (p.1,d) else p).1=p.1
        split <;> rfl
      rw [e];exact h.nd
    . rename_i c
      rw [List.map_append,List.nodup_append]
      refine ⟨h.nd,by simp,fun a ha b hb=>?_⟩
      simp only [List.map_cons,List.map_nil,List.mem_singleton] at hb
      subst hb
      rintro rfl
      rw [ju] at c
      exact c (decide_eq_true ha)
theorem GN.nil:GN []:=⟨fun _ h=>(by cases h),List.nodup_nil⟩
theorem GN.out {kvs:List (List Int×D)} (h:GN kvs) (ks:List Int):GN (iK kvs ks)/\(iK kvs ks).length<=kvs.length/\kvs.length<=(iK kvs ks).length + 1:=by
  refine ⟨⟨fun z hz=>?_,h.nd.sublist (List.Sublist.map _ List.filter_sublist)⟩,List.length_filter_le _ _,?_⟩
  . obtain ⟨p,hp,rfl⟩:=List.mem_map.mp hz
    exact h.pr _ (List.mem_map_of_mem ((List.mem_filter.mp hp).1))
  . have nd:=h.nd
    clear h
    unfold iK
    induction kvs with
    | nil=>simp
    | cons p kvs ih =>
      rw [List.map_cons,List.nodup_cons] at nd
      have:=ih nd.2
      rw [List.filter_cons]
      by_cases c:p.1=ks
      . rw [if_neg (by simp [c])]
        have e:kvs.filter (fun p=>!decide (p.1=ks))=kvs:=List.filter_eq_self.mpr fun q hq=>by
          have:q.1≠ks:=fun z=>nd.1 (c.trans z.symm▸List.mem_map_of_mem hq)
          simp [this]
        rw [e];simp
      . rw [if_pos (by simp [c])]
        simp only [List.length_cons];omega
theorem ix_tup (p:List Int) (i:Int) (j:Nat) (hi:i=j) (hj:j < p.length):aA (tupK p) (.int i)=.ok (.int (p.getD j 0)):=by
  subst hi
  show aA (.tup (p.map D.int)) (.int j)=_
  rw [ko]
  unfold dh eB
  rw [if_pos (by omega),if_pos (by rw [List.length_map];omega)]
  simp only [Int.toNat_natCast,Option.bind_some,List.getElem?_map,List.getElem?_eq_getElem hj,Option.map_some,List.getD_eq_getElem?_getD,Option.getD_some]
theorem CA {P M w L k a10 a11:Sl} {bx by_ x y n u v:Int} {kvs:List (List Int×D)} (hl:kvs.length<=1000000) (e1:fD (.int n) (.int 7)=.ok (.int u)) (e2:cf (.int n) (.int 7)=.ok (.int v)) {a0:Sl} :
    ∃ x' y':Int,fQ [a0,P,M,w,.fz (tupK [bx,by_]),.od kvs,L,k,.fz (.int n),.fz (tupK [x,y]),a10,a11]=.nx [a0,P,M,w,.fz (tupK [bx,by_]),.od (ef kvs [x',y'] (.bl true)),L,k,.fz (.int n),.fz (tupK [x,y]),a10,a11]:=by
  obtain ⟨x',y',hk⟩:=ql (bx + u + x) (by_ + v + y)
  refine ⟨x',y',?_⟩
  unfold fQ
  exact oo (ks:=[x',y']) ax rfl (az (ac (am (am (am (af rfl) ax rfl) (am (af rfl) ax e1) cI) (am (af rfl) ax rfl) cI) (ac (am (am (am (af rfl) ax rfl) (am (af rfl) ax e2) cI) (am (af rfl) ax rfl) cI) ak)) (aP rfl hk)) hl
theorem mh {P M w L k a10 a11 a0:Sl} {bx by_ n:Int}:∀ (O:KL) (kvs:List (List Int×D)) (a9:Sl),(∀ ks∈O,Pair ks)->GN kvs->kvs.length + O.length<=1000 ->
    ∃ kvs' b9,bp (ar 9) fQ (O.map tupK) [a0,P,M,w,.fz (tupK [bx,by_]),.od kvs,L,k,.fz (.int n),a9,a10,a11]=.nx [a0,P,M,w,.fz (tupK [bx,by_]),.od kvs',L,k,.fz (.int n),b9,a10,a11]/\GN kvs'/\kvs'.length<=kvs.length + O.length
  | [],kvs,a9,_,g,_=>⟨kvs,a9,rfl,g,by simp⟩
  | s::O,kvs,a9,hp,g,hl=>by
    obtain ⟨x,y,rfl⟩:=hp s (.head _)
    simp only [List.length_cons] at hl
    obtain ⟨x',y',e⟩:=CA (P:=P) (M:=M) (w:=w) (L:=L) (k:=k) (a10:=a10) (a11:=a11) (a0:=a0) (bx:=bx) (by_:=by_) (x:=x) (y:=y) (n:=n) (kvs:=kvs) (by omega) (lE (kz (by decide) (by decide))) (gr (by decide))
    have lp:=mP kvs [x',y'] (.bl true)
    obtain ⟨k2,b9,e2,g2,l2⟩:=mh (P:=P) (M:=M) (w:=w) (L:=L) (k:=k) (a10:=a10) (a11:=a11) (a0:=a0) (bx:=bx) (by_:=by_) (n:=n) O (ef kvs [x',y'] (.bl true)) (.fz (tupK [x,y])) (fun z hz=>hp z (.tail _ hz)) (g.put _ _ _) (by omega)
    refine ⟨k2,b9,?_,g2,by simp only [List.length_cons];omega⟩
    simp only [List.map_cons,bp,ar,List.set_cons_succ,List.set_cons_zero,e]
    exact e2
theorem mj {O:KL} (hO:Good O) {M w L a10 a11:Sl} {bx by_:Int}:∀ (l:List Nat) (n:Int) (kvs:List (List Int×D)) (a7 a8 a9:Sl),GN kvs->kvs.length + l.length * 12<=1000 ->
    ∃ n' kvs' b7 b8 b9,bp (ar 7) fR (l.map fun (i:Nat)=>.int i) [.fz (.int n),.fz (.tup (O.map tupK)),M,w,.fz (tupK [bx,by_]),.od kvs,L,a7,a8,a9,a10,a11]=.nx [.fz (.int n'),.fz (.tup (O.map tupK)),M,w,.fz (tupK [bx,by_]),.od kvs',L,b7,b8,b9,a10,a11]/\GN kvs'/\kvs'.length<=kvs.length + l.length * 12
  | [],n,kvs,a7,a8,a9,g,_=>⟨n,kvs,a7,a8,a9,rfl,g,by simp⟩
  | i::l,n,kvs,a7,a8,a9,g,hl=>by
    have lo:=hO.le
    simp only [List.length_cons] at hl
    have d1:=cG (m:=n) (n:=49) ⟨by decide,by decide⟩
    generalize n / 49=n1 at d1
    generalize n % 49=at_ at d1
    obtain ⟨k1,b9,e1,g1,l1⟩:=mh (P:=.fz (.tup (O.map tupK))) (M:=M) (w:=w) (L:=L) (k:=.fz (.int i)) (a10:=a10) (a11:=a11) (a0:=.fz (.int n1)) (bx:=bx) (by_:=by_) (n:=at_) O kvs a9 hO.pr g (by omega)
    have st:fR [.fz (.int n),.fz (.tup (O.map tupK)),M,w,.fz (tupK [bx,by_]),.od kvs,L,.fz (.int i),a8,a9,a10,a11]=.nx [.fz (.int n1),.fz (.tup (O.map tupK)),M,w,.fz (tupK [bx,by_]),.od k1,L,.fz (.int i),.fz (.int at_),b9,a10,a11]:=by
      unfold fR
      refine ao (ρ1:=[.fz (.int n1),.fz (.tup (O.map tupK)),M,w,.fz (tupK [bx,by_]),.od kvs,L,.fz (.int i),.fz (.int at_),a9,a10,a11]) (bn (az (ac (af rfl) (ac ax ak)) d1) rfl) ?_
      exact uo (af rfl) e1
    obtain ⟨n2,k2,c7,c8,c9,e2,g2,l2⟩:=mj hO (M:=M) (w:=w) (L:=L) (a10:=a10) (a11:=a11) (bx:=bx) (by_:=by_) l n1 k1 (.fz (.int i)) (.fz (.int at_)) b9 g1 (by omega)
    refine ⟨n2,k2,c7,c8,c9,?_,g2,by simp only [List.length_cons];omega⟩
    simp only [List.map_cons,bp,ar,List.set_cons_succ,List.set_cons_zero,st]
    exact e2
theorem ml {P M w L a9 a10 a11:Sl} {bx by_:Int}:∀ (l:List Nat) (n:Int) (kvs:List (List Int×D)) (a7 a8:Sl),GN kvs->kvs.length + l.length<=1000 ->
    ∃ n' kvs' b7 b8,bp (ar 7) fS (l.map fun (i:Nat)=>.int i) [.fz (.int n),P,M,w,.fz (tupK [bx,by_]),.od kvs,L,a7,a8,a9,a10,a11]=.nx [.fz (.int n'),P,M,w,.fz (tupK [bx,by_]),.od kvs',L,b7,b8,a9,a10,a11]/\GN kvs'/\kvs'.length<=kvs.length + l.length
  | [],n,kvs,a7,a8,g,_=>⟨n,kvs,a7,a8,rfl,g,by simp⟩
  | i::l,n,kvs,a7,a8,g,hl=>by
    simp only [List.length_cons] at hl
    have d1:=cG (m:=n) (n:=81) ⟨by decide,by decide⟩
    generalize n / 81=n1 at d1
    generalize n % 81=at_ at d1
    have v9:fD (.int at_) (.int 9)=.ok (.int (at_ / 9)):=lE ⟨by decide,by decide⟩
    have r9:cf (.int at_) (.int 9)=.ok (.int (at_ % 9)):=gr (by decide)
    obtain ⟨x',y',hk⟩:=ql (bx + at_ / 9 - 1) (by_ + at_ % 9 - 1)
    have lp:=mP kvs [x',y'] (.bl true)
    have st:fS [.fz (.int n),P,M,w,.fz (tupK [bx,by_]),.od kvs,L,.fz (.int i),a8,a9,a10,a11]=.nx [.fz (.int n1),P,M,w,.fz (tupK [bx,by_]),.od (ef kvs [x',y'] (.bl true)),L,.fz (.int i),.fz (.int at_),a9,a10,a11]:=by
      unfold fS
      refine ao (ρ1:=[.fz (.int n1),P,M,w,.fz (tupK [bx,by_]),.od kvs,L,.fz (.int i),.fz (.int at_),a9,a10,a11]) (bn (az (ac (af rfl) (ac ax ak)) d1) rfl) ?_
      exact oo (ks:=[x',y']) ax rfl (az (ac (am (am (am (af rfl) ax rfl) (am (af rfl) ax v9) cI) ax cY) (ac (am (am (am (af rfl) ax rfl) (am (af rfl) ax r9) cI) ax cY) ak)) (aP rfl hk)) (by omega)
    obtain ⟨n2,k2,c7,c8,e2,g2,l2⟩:=ml (P:=P) (M:=M) (w:=w) (L:=L) (a9:=a9) (a10:=a10) (a11:=a11) (bx:=bx) (by_:=by_) l n1 (ef kvs [x',y'] (.bl true)) (.fz (.int i)) (.fz (.int at_)) (g.put _ _ _) (by omega)
    refine ⟨n2,k2,c7,c8,?_,g2,by simp only [List.length_cons];omega⟩
    simp only [List.map_cons,bp,ar,List.set_cons_succ,List.set_cons_zero,st]
    exact e2
theorem qm {ρ:ah} {j:Nat} {kvs:List (List Int×D)} (hj:ρ[j]?=some (.od kvs)) (g:GN kvs) (hl:kvs.length < 64):gJ j ρ=.ok (.lst ((So.sortK (kvs.map (·.1))).map tupK)):=by
  unfold gJ
  rw [hj]
  show (if kvs.length < 64/\∀ p∈kvs,p.1≠[] then Rs.ok (D.lst ((So.sortK (kvs.map (·.1))).map tupK)) else .no)=_
  rw [if_pos ⟨hl,fun p hp=>(g.pr p.1 (List.mem_map_of_mem hp)).ne⟩]
theorem rM {ρ:ah} {j:Nat} {kvs:List (List Int×D)} (hj:ρ[j]?=some (.od kvs)) (hl:kvs.length<=1000000):kn j ρ=.ok (.int kvs.length):=by
  unfold kn
  rw [hj]
  show (if kvs.length<=1000000 then Rs.ok (D.int kvs.length) else .no)=_
  rw [if_pos hl]
theorem mQ {L:KL} {i:Int} (h0:0<=i) (h1:i < L.length):∃ x∈L,aA (.lst (L.map tupK)) (.int i)=.ok (tupK x):=by
  have hj:i.toNat < L.length:=by omega
  refine ⟨L[i.toNat],List.getElem_mem hj,iz ?_⟩
  unfold dh eB
  rw [if_pos h0,if_pos (by rw [List.length_map];exact h1)]
  simp [List.getElem?_eq_getElem hj]
theorem mR {L:KL} {i:Int} (h0:0<=i) (h1:i < L.length):∃ x∈L,aA (.tup (L.map tupK)) (.int i)=.ok (tupK x):=by
  have hj:i.toNat < L.length:=by omega
  refine ⟨L[i.toNat],List.getElem_mem hj,?_⟩
  have:dh (L.map tupK) i=some (tupK L[i.toNat]):=by
    unfold dh eB
    rw [if_pos h0,if_pos (by rw [List.length_map];exact h1)]
    simp [List.getElem?_eq_getElem hj]
  rw [ko,this]
theorem Bt {ρ:ah} {j:Nat} {kvs:List (List Int×D)} {ks:List Int} {f:ah->Rs D} (hj:ρ[j]?=some (.od kvs)) (hf:f ρ=.ok (tupK ks)) (hl:kvs.length<=1000000) (hk:ks∈kvs.map (·.1)):lU j f ρ=.nx (ρ.set j (.od (iK kvs ks))):=by
  unfold lU
  rw [hj]
  show oR (f ρ) ρ _=_
  rw [hf]
  show (match jp (tupK ks) with|some ks=>if kvs.length<=1000000/\(eK kvs ks).isSome then Ou.nx _ else .no|none=>.no)=_
  rw [nC]
  show (if kvs.length<=1000000/\(eK kvs ks).isSome then Ou.nx _ else .no)=_
  rw [if_pos ⟨hl,by rw [ju];exact decide_eq_true hk⟩]
theorem mm {P M w Bs L a9 a10 a11:Sl}:∀ (l:List Nat) (n:Int) (kvs:List (List Int×D)) (a7 a8:Sl),GN kvs->kvs.length < 64->l.length<=kvs.length ->
    ∃ n' kvs' b7 b8,bp (ar 7) fU (l.map fun (i:Nat)=>.int i) [.fz (.int n),P,M,w,Bs,.od kvs,L,a7,a8,a9,a10,a11]=.nx [.fz (.int n'),P,M,w,Bs,.od kvs',L,b7,b8,a9,a10,a11]/\GN kvs'/\kvs'.length<=kvs.length
  | [],n,kvs,a7,a8,g,_,_=>⟨n,kvs,a7,a8,rfl,g,Nat.le_refl _⟩
  | i::l,n,kvs,a7,a8,g,h64,hl=>by
    simp only [List.length_cons] at hl
    have hpos:(0:Int) < kvs.length:=by omega
    have d1:=cG (m:=n) (n:=kvs.length) (kz hpos (by omega))
    have u0:0<=n % (kvs.length:Int):=Int.emod_nonneg _ (by omega)
    have u1:n % (kvs.length:Int) < kvs.length:=Int.emod_lt_of_pos _ hpos
    generalize n / (kvs.length:Int)=n1 at d1
    generalize n % (kvs.length:Int)=at_ at d1 u0 u1
    obtain ⟨x,hx,ex⟩:=mQ (L:=So.sortK (kvs.map (·.1))) u0 (by rw [iG,List.length_map];exact u1)
    obtain ⟨g2,l2,l3⟩:=g.out x
    have st:fU [.fz (.int n),P,M,w,Bs,.od kvs,L,.fz (.int i),a8,a9,a10,a11]=.nx [.fz (.int n1),P,M,w,Bs,.od (iK kvs x),L,.fz (.int i),.fz (.int at_),a9,a10,a11]:=by
      unfold fU
      refine ao (ρ1:=[.fz (.int n1),P,M,w,Bs,.od kvs,L,.fz (.int i),.fz (.int at_),a9,a10,a11]) (bn (az (ac (af rfl) (ac (rM rfl (by omega)) ak)) d1) rfl) ?_
      exact Bt rfl (am (qm rfl g h64) (af rfl) ex) (by omega) (sortK_mem.mp hx)
    obtain ⟨n2,k2,c7,c8,e2,g3,l4⟩:=mm (P:=P) (M:=M) (w:=w) (Bs:=Bs) (L:=L) (a9:=a9) (a10:=a10) (a11:=a11) l n1 (iK kvs x) (.fz (.int i)) (.fz (.int at_)) g2 (by omega) (by omega)
    refine ⟨n2,k2,c7,c8,?_,g3,by omega⟩
    simp only [List.map_cons,bp,ar,List.set_cons_succ,List.set_cons_zero,st]
    exact e2
structure Cel (L:KL):Prop where
  pr:∀ ks∈L,Pair ks
  le:L.length<=54
theorem Bu {O:KL} (hO:Good O) (n m:Int) (hm:0<=m/\m<=4):∃ (A:KL) (b:Bool) (n':Int),eV [.int n,.tup (O.map tupK),.int m]=.ok (.tup [sh A b,.int n'])/\Cel A:=by
  have d1:=cG (m:=n) (n:=4) ⟨by decide,by decide⟩
  generalize n / 4=n1 at d1
  generalize n % 4=w at d1
  obtain ⟨bx,by_,n2,hb⟩:=Br n1
  have d3:=cG (m:=n2) (n:=m + 1) (kz (by omega) (by omega))
  have u0:0<=n2 % (m + 1):=Int.emod_nonneg _ (by omega)
  have u1:n2 % (m + 1) < m + 1:=Int.emod_lt_of_pos _ (by omega)
  generalize n2 / (m + 1)=n3 at d3
  generalize n2 % (m + 1)=lv at d3 u0 u1
  obtain ⟨V,rfl⟩:∃ V:Nat,lv=V:=⟨lv.toNat,by omega⟩
  obtain ⟨n4,k4,b7,b8,b9,e4,g4,l4⟩:=mj hO (M:=.fz (.int m)) (w:=.fz (.int w)) (L:=.fz (.int V)) (a10:=.no) (a11:=.no) (bx:=bx) (by_:=by_) (List.range V) n3 [] .no .no .no .nil (by rw [List.length_range,List.length_nil];omega)
  rw [List.length_range,List.length_nil] at l4
  have d5:=cG (m:=n4) (n:=7) ⟨by decide,by decide⟩
  have u2:0<=n4 % 7:=Int.emod_nonneg _ (by omega)
  have u3:n4 % 7 < 7:=Int.emod_lt_of_pos _ (by omega)
  generalize n4 / 7=n5 at d5
  generalize n4 % 7=mr at d5 u2 u3
  obtain ⟨R,rfl⟩:∃ R:Nat,mr=R:=⟨mr.toNat,by omega⟩
  obtain ⟨n6,k6,c7,c8,e6,g6,l6⟩:=ml (P:=.fz (.tup (O.map tupK))) (M:=.fz (.int m)) (w:=.fz (.int w)) (L:=.fz (.int V)) (a9:=b9) (a10:=.fz (.int R)) (a11:=.no) (bx:=bx) (by_:=by_) (List.range R) n5 k4 b7 b8 g4 (by rw [List.length_range];omega)
  rw [List.length_range] at l6
  have d7:=cG (m:=n6) (n:=4) ⟨by decide,by decide⟩
  have u4:0<=n6 % 4:=Int.emod_nonneg _ (by omega)
  have u5:n6 % 4 < 4:=Int.emod_lt_of_pos _ (by omega)
  generalize n6 / 4=n7 at d7
  generalize n6 % 4=gn at d7 u4 u5
  have hN:∃ N:Nat,iF [.int gn,.int k6.length]=.ok (.int N)/\N<=k6.length/\N<=3:=by
    have e:iF [.int gn,.int k6.length]=.ok (.int (if (k6.length:Int) < gn then (k6.length:Int) else gn)):=rfl
    by_cases c:(k6.length:Int) < gn
    . exact ⟨k6.length,by rw [e,if_pos c],Nat.le_refl _,by omega⟩
    . exact ⟨gn.toNat,by rw [e,if_neg c,Int.toNat_of_nonneg u4],by omega,by omega⟩
  obtain ⟨N,eN,hN1,hN2⟩:=hN
  obtain ⟨n8,k8,f7,f8,e8,g8,l8⟩:=mm (P:=.fz (.tup (O.map tupK))) (M:=.fz (.int m)) (w:=.fz (.int w)) (Bs:=.fz (tupK [bx,by_])) (L:=.fz (.int V)) (a9:=b9) (a10:=.fz (.int R)) (a11:=.fz (.int gn)) (List.range N) n7 k6 c7 c8 g6 (by omega) (by rw [List.length_range];exact hN1)
  refine ⟨So.sortK (k8.map (·.1)),decide (w=0),n8,?_,fun ks hk=>g8.pr ks (sortK_mem.mp hk),by rw [iG,List.length_map];omega⟩
  have st:aG ["number","piece","most","way","base","cells","laid_v","k","at","step","more","gone"] [.int n,.tup (O.map tupK),.int m]=[.fz (.int n),.fz (.tup (O.map tupK)),.fz (.int m),.no,.no,.no,.no,.no,.no,.no,.no,.no]:=rfl
  have run:gx [.fz (.int n),.fz (.tup (O.map tupK)),.fz (.int m),.no,.no,.no,.no,.no,.no,.no,.no,.no]=.rt (.tup [sh (So.sortK (k8.map (·.1))) (decide (w=0)),.int n8]):=by
    unfold gx
    refine ao (ρ1:=[.fz (.int n1),.fz (.tup (O.map tupK)),.fz (.int m),.fz (.int w),.no,.no,.no,.no,.no,.no,.no,.no]) (bn (az (ac (af rfl) (ac ax ak)) d1) rfl) ?_
    refine ao (ρ1:=[.fz (.int n2),.fz (.tup (O.map tupK)),.fz (.int m),.fz (.int w),.fz (tupK [bx,by_]),.no,.no,.no,.no,.no,.no,.no]) (bn (az (ac (af rfl) ak) (aP rfl hb)) rfl) ?_
    refine ao (ρ1:=[.fz (.int n2),.fz (.tup (O.map tupK)),.fz (.int m),.fz (.int w),.fz (tupK [bx,by_]),.od [],.no,.no,.no,.no,.no,.no]) rfl ?_
    refine ao (ρ1:=[.fz (.int n3),.fz (.tup (O.map tupK)),.fz (.int m),.fz (.int w),.fz (tupK [bx,by_]),.od [],.fz (.int V),.no,.no,.no,.no,.no]) (bn (az (ac (af rfl) (ac (am (af rfl) ax cI) ak)) d3) rfl) ?_
    refine ao (iw (iQ (n:=(V:Int)) (N:=V) (af rfl) (by omega) (by omega) e4)) ?_
    refine ao (ρ1:=[.fz (.int n5),.fz (.tup (O.map tupK)),.fz (.int m),.fz (.int w),.fz (tupK [bx,by_]),.od k4,.fz (.int V),b7,b8,b9,.fz (.int R),.no]) (bn (az (ac (af rfl) (ac ax ak)) d5) rfl) ?_
    refine ao (iw (iQ (n:=(R:Int)) (N:=R) (af rfl) (by omega) (by omega) e6)) ?_
    refine ao (ρ1:=[.fz (.int n7),.fz (.tup (O.map tupK)),.fz (.int m),.fz (.int w),.fz (tupK [bx,by_]),.od k6,.fz (.int V),c7,c8,b9,.fz (.int R),.fz (.int gn)]) (bn (az (ac (af rfl) (ac ax ak)) d7) rfl) ?_
    refine ao (iw (iQ (n:=(N:Int)) (N:=N) (az (ac (af rfl) (ac (rM rfl (by omega)) ak)) eN) (by omega) (by omega) e8)) ?_
    exact bh (az (ac (az (ac (az (ac (qm rfl g8 (by omega)) ak) io) (ac (am (af rfl) ax eZ) ak)) (t2 _ _)) (ac (af rfl) ak)) (t2 _ _))
  unfold eV;rw [st,run];rfl
end K21
namespace K21
open PySem PySem.Spec PySem.Calls PySem.W L2 Vl
theorem nD:∀ a b:List Int,fZ (a.map D.int) (b.map D.int)=decide (a=b)
  | [],[]=>rfl
  | [],_::_=>rfl
  | _::_,[]=>rfl
  | x::a,y::b=>by
    simp only [List.map_cons,fZ,cx,nD a b]
    by_cases h:x=y <;> by_cases h2:a=b <;> simp [h,h2]
theorem kX (a b:List Int):cx (tupK a) (tupK b)=decide (a=b):=by
  unfold Vl.tupK;simp only [cx];exact nD a b
theorem xc (x:List Int) (k:KL):uR (tupK x) (.tup (k.map tupK))=.ok (.bl (decide (x∈k))):=by
  have e:jB (tupK x) (k.map tupK)=decide (x∈k):=by
    unfold jB
    induction k with
    | nil=>simp
    | cons y k ih =>
      rw [List.map_cons,List.any_cons,ih,kX]
      by_cases h:y=x
      . subst h;simp
      . by_cases h2:x∈k <;> simp [h,h2,Ne.symm h]
  show iJ false _ _=_
  simp only [iJ]
  rw [if_pos ⟨Nat.le_trans (dE x) (by decide),Nat.le_trans (eH k) (by decide)⟩]
  simp only [Bool.false_eq_true,if_false,e]
theorem Bv {f:ah->Rs D} {ρ:ah} {k:KL} (h:f ρ=.ok (.tup (k.map tupK))) (hl:k.length < 1000):fK f ρ=.ok (Tb.insAll k):=by
  unfold fK
  rw [h]
  simp only [jr,lM,uN]
  rw [if_pos (by rw [List.length_map];exact hl)]
  rfl
theorem qo {f:ah->Rs KL} {ρ:ah} {k:KL} (h:f ρ=.ok k) (hp:∀ x∈k,Pair x) (hl:k.length < 64):eS f ρ=.ok (.lst ((So.sortK k).map tupK)):=by
  unfold eS
  rw [h]
  simp only [jr,iU]
  rw [if_pos ⟨fun x hx=>(hp x hx).ne,hl⟩]
theorem xL {C:KL->KL->Prop} [∀ a b,Decidable (C a b)] {g:KL->KL->KL} {fa fb:ah->Rs KL} {ρ:ah} {a b:KL} (ha:fa ρ=.ok a) (hb:fb ρ=.ok b) (hc:C a b):jA (gK C g) fa fb ρ=.ok (g a b):=by
  unfold jA gK;rw [ha];simp only [jr];rw [hb];simp only [jr];rw [if_pos hc]
theorem jv {L:KL} {E:ah->Rs D} {F:List Int->D} {ρ:ah} {fi:ah->Rs (List D)} {caps:List Nat} {cs:List Sl} (hs:cb 1 caps ρ=.no::cs) (hi:fi ρ=.ok (L.map tupK)) (hp:∀ ks∈L,E (.fz (tupK ks)::cs)=.ok (F ks)) (hl:L.length<=1000) :
    bM (ar 0) (fun _=>.ok true) E 1 caps fi ρ=.ok (.lst (L.map F)):=by
  refine uq hi ?_ (by rw [List.length_map];omega)
  rw [hs]
  exact nz (fun ρ=>∃ a,ρ=a::cs) tupK F ⟨_,rfl⟩ (by
    rintro ks hk ρ ⟨a,rfl⟩
    exact ⟨_,rfl,hp ks hk,_,rfl⟩)
theorem rN {X:ah->Rs Bool} {E:ah->Rs D} {t:List Int->Bool} {F:List Int->List Int} {cs:List Sl}:∀ {L:KL},(∀ ks∈L,X (.fz (tupK ks)::cs)=.ok (t ks))->(∀ ks∈L,E (.fz (tupK ks)::cs)=.ok (tupK (F ks)))->∀ a,cF (ar 0) X E (L.map tupK) (a::cs)=.ok (((L.filter t).map F).map tupK)
  | [],_,_,a=>rfl
  | k::L,hx,he,a=>by
    have ih:=rN (L:=L) (fun ks h=>hx ks (.tail _ h)) (fun ks h=>he ks (.tail _ h)) (.fz (tupK k))
    have h1:=hx k (.head _)
    have h2:=he k (.head _)
    cases c:t k with
    | true =>
      rw [c] at h1
      simp only [List.map_cons,cF,ar,List.set_cons_zero,h1,h2,ih,Rs.bind,if_true,List.filter_cons,c]
    | false =>
      rw [c] at h1
      simp only [List.map_cons,cF,ar,List.set_cons_zero,h1,h2,ih,Rs.bind,Bool.false_eq_true,if_false,List.filter_cons,c]
theorem mo {L:KL} {X:ah->Rs Bool} {E:ah->Rs D} {t:List Int->Bool} {F:List Int->List Int} {ρ:ah} {fi:ah->Rs (List D)} {caps:List Nat} {cs:List Sl} (hs:cb 1 caps ρ=.no::cs) (hi:fi ρ=.ok (L.map tupK)) (hx:∀ ks∈L,X (.fz (tupK ks)::cs)=.ok (t ks)) (he:∀ ks∈L,E (.fz (tupK ks)::cs)=.ok (tupK (F ks))) (hl:L.length<=1000) :
    bM (ar 0) X E 1 caps fi ρ=.ok (.lst (((L.filter t).map F).map tupK)):=by
  refine uq hi ?_ (by rw [List.length_map,List.length_map];have:=List.length_filter_le t L;omega)
  rw [hs]
  exact rN hx he _
theorem vo {L:KL} {X:ah->Rs Bool} {E:ah->Rs D} {t:List Int->Bool} {ρ:ah} {fi:ah->Rs (List D)} {caps:List Nat} {cs:List Sl} (hs:cb 1 caps ρ=.no::cs) (hi:fi ρ=.ok (L.map tupK)) (hx:∀ ks∈L,X (.fz (tupK ks)::cs)=.ok (t ks)) (he:∀ ks∈L,E (.fz (tupK ks)::cs)=.ok (tupK ks)) (hl:L.length<=1000) :
    bM (ar 0) X E 1 caps fi ρ=.ok (.lst ((L.filter t).map tupK)):=by
  have:=mo (F:=id) hs hi hx he hl
  rwa [List.map_id] at this
theorem CB (a b r c:Int):bT [tupK [a,b],tupK [r,c]]=.ok (tupK [a + r,b + c]):=by kernel_rfl
theorem Bw (a b r c:Int):bK [tupK [a,b],tupK [r,c]]=.ok (tupK [a - r,b - c]):=by kernel_rfl
def ad (p t:List Int):List Int:=[p.getD 0 0 + t.getD 0 0,p.getD 1 0 + t.getD 1 0]
def mi (s b:List Int):List Int:=[s.getD 0 0 - b.getD 0 0,s.getD 1 0 - b.getD 1 0]
theorem kt (p t:List Int):Pair (mi p t):=⟨_,_,rfl⟩
theorem ke {p t:List Int} (hp:Pair p) (ht:Pair t):bT [tupK p,tupK t]=.ok (tupK (ad p t)):=by
  obtain ⟨a,b,rfl⟩:=hp;obtain ⟨r,c,rfl⟩:=ht;exact CB a b r c
theorem ku {p t:List Int} (hp:Pair p) (ht:Pair t):bK [tupK p,tupK t]=.ok (tupK (mi p t)):=by
  obtain ⟨a,b,rfl⟩:=hp;obtain ⟨r,c,rfl⟩:=ht;exact Bw a b r c
def fx (A:KL) (b:Bool) (x:List Int):Bool:=decide (x∈A) != b
theorem oq (A:KL) (b:Bool) (x:List Int):bO [sh A b,tupK x]=.ok (.bl (fx A b x)):=by
  have e:di (.bl (decide (x∈A))) (.bl b)=.ok (.bl (fx A b x)):=by
    unfold fx
    cases decide (x∈A) <;> cases b <;> rfl
  have run:gW (aG ["shape","cell"] [sh A b,tupK x])=.rt (.bl (fx A b x)):=by
    unfold gW
    exact bh (am (am (af rfl) (am (af rfl) ax rfl) (xc x A)) (am (af rfl) ax rfl) e)
  unfold bO;rw [run];rfl
theorem rO (L:KL):di (.tup (L.map tupK)) (.tup [])=.ok (.bl (!decide (L=[]))):=by
  have hd:aL (.tup (L.map tupK))<=8:=by
    have:=eH L
    simp only [aL]
    omega
  rw [sm hd (by decide)]
  cases L <;> rfl
theorem xf {A:KL} {b:Bool} {O:KL} (hO:Good O) {n w k:Int} (hw:0<=w/\w < 4) {near:List Int} (hn:Pair near) {a6 a7:Sl} {L4:ah->Rs D}
    (hL:∃ d3 d2,Pair d3/\Pair d2/\L4 [.fz (.int n),.fz (sh A b),.fz (.tup (O.map tupK)),.fz (.int w),.fz (.int k),.fz (tupK near),a6,a7]=.ok (.lst [tupK [0,0],tupK [k / 5 - 2,k % 5 - 2],tupK d2,tupK d3])) :
    ∃ x y:Int,(aC (bI 7 (ai aA L4 (ab 3))) (aQ (fA (aa (ai aD (ai aA (ab 5) (fC (.int 0))) (ai aA (ab 7) (fC (.int 0)))) (aa (ai aD (ai aA (ab 5) (fC (.int 1))) (ai aA (ab 7) (fC (.int 1)))) aj)) (aH 2 bY)))) [.fz (.int n),.fz (sh A b),.fz (.tup (O.map tupK)),.fz (.int w),.fz (.int k),.fz (tupK near),a6,a7]=.rt (tupK [x,y]):=by
  obtain ⟨d3,d2,p3,p2,hL⟩:=hL
  have ix:∃ d,Pair d/\aA (.lst [tupK [0,0],tupK [k / 5 - 2,k % 5 - 2],tupK d2,tupK d3]) (.int w)=.ok (tupK d):=by
    rcases (show w=0∨w=1∨w=2∨w=3 by omega) with rfl|rfl|rfl|rfl
    . exact ⟨_,⟨_,_,rfl⟩,rfl⟩
    . exact ⟨_,⟨_,_,rfl⟩,rfl⟩
    . exact ⟨_,p2,rfl⟩
    . exact ⟨_,p3,rfl⟩
  obtain ⟨d,⟨r,c,rfl⟩,ei⟩:=ix
  obtain ⟨a,a',rfl⟩:=hn
  obtain ⟨x,y,hk⟩:=ql (a + r) (a' + c)
  refine ⟨x,y,ao (cw (am hL (af rfl) ei)) ?_⟩
  exact bh (az (ac (am (am (af rfl) ax rfl) (am (af rfl) ax rfl) cI) (ac (am (am (af rfl) ax rfl) (am (af rfl) ax rfl) cI) ak)) (aP rfl hk))
theorem Bx {A:KL} {b:Bool} {O:KL} (hA:Cel A) (hO:Good O) (n:Int):∃ x y:Int,eW [.int n,sh A b,.tup (O.map tupK)]=.ok (tupK [x,y]):=by
  have d1:=cG (m:=n) (n:=4) ⟨by decide,by decide⟩
  have u0:0<=n % 4:=Int.emod_nonneg _ (by omega)
  have u1:n % 4 < 4:=Int.emod_lt_of_pos _ (by omega)
  generalize n / 4=n1 at d1
  generalize n % 4=w at d1 u0 u1
  have d2:=cG (m:=n1) (n:=25) ⟨by decide,by decide⟩
  generalize n1 / 25=n2 at d2
  generalize n1 % 25=k at d2
  have v5:fD (.int k) (.int 5)=.ok (.int (k / 5)):=lE ⟨by decide,by decide⟩
  have r5:cf (.int k) (.int 5)=.ok (.int (k % 5)):=gr (by decide)
  have hp:0 < O.length:=List.length_pos_iff.mpr hO.ne
  have ro:cf (.int k) (.int O.length)=.ok (.int (k % O.length)):=gr (by omega)
  have o0:0<=k % (O.length:Int):=Int.emod_nonneg _ (by omega)
  have o1:k % (O.length:Int) < O.length:=Int.emod_lt_of_pos _ (by omega)
  obtain ⟨d,hd,ed⟩:=mR (L:=O) o0 o1
  have lo:bR [.tup (O.map tupK)]=.ok (.int O.length):=by rw [gL,List.length_map]
  have e9:bm (.int k) (.int 1000000000)=.ok (.int (k * 1000000000)):=db (by decide)
  have e8:bm (.int k) (.int 100000000)=.ok (.int (k * 100000000)):=db (by decide)
  have be:∀ (n':Int) (near:List Int) (a6 a7:Sl),Pair near->∃ x y:Int,(aC (bI 7 (ai aA (fA (aa (fA (aa (fC (.int 0)) (aa (fC (.int 0)) aj)) aS) (aa (fA (aa (ai gSub (ai fD (ab 4) (fC (.int 5))) (fC (.int 2))) (aa (ai gSub (ai cf (ab 4) (fC (.int 5))) (fC (.int 2))) aj)) aS) (aa (ai aA (ab 2) (ai cf (ab 4) (fA (aa (ab 2) aj) bR))) (aa (fA (aa (ai bm (ab 4) (ai bH (fC (.int 10)) (fC (.int 9)))) (aa (ai gSub (fC (.int 7)) (ai bm (ab 4) (ai bH (fC (.int 10)) (fC (.int 8))))) aj)) aS) aj)))) bE) (ab 3))) (aQ (fA (aa (ai aD (ai aA (ab 5) (fC (.int 0))) (ai aA (ab 7) (fC (.int 0)))) (aa (ai aD (ai aA (ab 5) (fC (.int 1))) (ai aA (ab 7) (fC (.int 1)))) aj)) (aH 2 bY)))) [.fz (.int n'),.fz (sh A b),.fz (.tup (O.map tupK)),.fz (.int w),.fz (.int k),.fz (tupK near),a6,a7]=.rt (tupK [x,y]):=by
    intro n' near a6 a7 hn
    refine xf hO ⟨u0,u1⟩ hn ⟨[k * 1000000000,7 - k * 100000000],d,⟨_,_,rfl⟩,hO.pr d hd,?_⟩
    have l4:∀ a b c e:D,bE [a,b,c,e]=.ok (.lst [a,b,c,e]):=fun _ _ _ _=>gq (by simp)
    refine az (ac (az (ac ax (ac ax ak)) (t2 _ _)) (ac (az (ac (am (am (af rfl) ax v5) ax cY) (ac (am (am (af rfl) ax r5) ax cY) ak)) (t2 _ _)) (ac (am (af rfl) (am (af rfl) (az (ac (af rfl) ak) lo) ro) ed) (ac (az (ac (am (af rfl) (am ax ax p9) e9) (ac (am ax (am (af rfl) (am ax ax p8) e8) cY) ak)) (t2 _ _)) ak)))) (l4 _ _ _ _)
  have st:aG ["number","shape","piece","way","by","near","at","step"] [.int n,sh A b,.tup (O.map tupK)]=[.fz (.int n),.fz (sh A b),.fz (.tup (O.map tupK)),.no,.no,.no,.no,.no]:=rfl
  have key:∃ x y:Int,gy [.fz (.int n),.fz (sh A b),.fz (.tup (O.map tupK)),.no,.no,.no,.no,.no]=.rt (tupK [x,y]):=by
    unfold gy
    by_cases h:A=[]
    . obtain ⟨x,y,e⟩:=be n2 [0,0] .no .no ⟨_,_,rfl⟩
      refine ⟨x,y,?_⟩
      refine ao (ρ1:=[.fz (.int n1),.fz (sh A b),.fz (.tup (O.map tupK)),.fz (.int w),.no,.no,.no,.no]) (bn (az (ac (af rfl) (ac ax ak)) d1) rfl) ?_
      refine ao (ρ1:=[.fz (.int n2),.fz (sh A b),.fz (.tup (O.map tupK)),.fz (.int w),.fz (.int k),.no,.no,.no]) (bn (az (ac (af rfl) (ac ax ak)) d2) rfl) ?_
      refine ao (cw (az (ac ax (ac ax ak)) (t2 _ _))) ?_
      refine ao (aJ (bU (am (am (af rfl) ax rfl) (az ak (oj (by simp))) (by rw [rO,decide_eq_true h];rfl))) bb) ?_
      exact e
    . have hq:0 < A.length:=List.length_pos_iff.mpr h
      have la:=hA.le
      have d3:=cG (m:=n2) (n:=A.length) (kz (by omega) (by omega))
      have a0:0<=n2 % (A.length:Int):=Int.emod_nonneg _ (by omega)
      have a1:n2 % (A.length:Int) < A.length:=Int.emod_lt_of_pos _ (by omega)
      generalize n2 / (A.length:Int)=n3 at d3
      generalize n2 % (A.length:Int)=at_ at d3 a0 a1
      obtain ⟨nr,hnr,en⟩:=mR (L:=A) a0 a1
      have lA:bR [.tup (A.map tupK)]=.ok (.int A.length):=by rw [gL,List.length_map]
      obtain ⟨x,y,e⟩:=be n3 nr (.fz (.int at_)) .no (hA.pr nr hnr)
      refine ⟨x,y,?_⟩
      refine ao (ρ1:=[.fz (.int n1),.fz (sh A b),.fz (.tup (O.map tupK)),.fz (.int w),.no,.no,.no,.no]) (bn (az (ac (af rfl) (ac ax ak)) d1) rfl) ?_
      refine ao (ρ1:=[.fz (.int n2),.fz (sh A b),.fz (.tup (O.map tupK)),.fz (.int w),.fz (.int k),.no,.no,.no]) (bn (az (ac (af rfl) (ac ax ak)) d2) rfl) ?_
      refine ao (cw (az (ac ax (ac ax ak)) (t2 _ _))) ?_
      refine ao (ρ1:=[.fz (.int n3),.fz (sh A b),.fz (.tup (O.map tupK)),.fz (.int w),.fz (.int k),.fz (tupK nr),.fz (.int at_),.no]) (bP (bU (am (am (af rfl) ax rfl) (az ak (oj (by simp))) (by rw [rO,decide_eq_false h];rfl))) ?_) ?_
      . refine ao (ρ1:=[.fz (.int n3),.fz (sh A b),.fz (.tup (O.map tupK)),.fz (.int w),.fz (.int k),.fz (tupK [0,0]),.fz (.int at_),.no]) (bn (az (ac (af rfl) (ac (az (ac (am (af rfl) ax rfl) ak) lA) ak)) d3) rfl) ?_
        exact cw (am (am (af rfl) ax rfl) (af rfl) en)
      . exact e
  obtain ⟨x,y,e⟩:=key
  refine ⟨x,y,?_⟩
  unfold eW;rw [st,e];rfl
theorem vp {α:Type} (xs:List α) (f:α->Bool):mv [.lst (xs.map fun x=>.bl (f x))]=.ok (.bl (xs.all f)):=by
  have h:∀ xs:List α,jj (xs.map fun x=>D.bl (f x))=some (xs.map f):=fun xs=>by
    induction xs with
    | nil=>rfl
    | cons x xs ih=>simp only [List.map_cons,jj,ih];rfl
  simp only [mv,h]
  have:(xs.map f).all id=xs.all f:=by rw [List.all_map];rfl
  rw [this]
theorem By {ρ:ah} {i:Nat} {acc:List D} {x:D} {f:ah->Rs D} (hi:ρ[i]?=some (.ow acc)) (hf:f ρ=.ok x) (hl:acc.length < 1000000):kP i f ρ=.nx (ρ.set i (.ow (acc++[x]))):=by
  unfold kP
  rw [hi]
  show oR (f ρ) ρ _=_
  rw [hf]
  show (if acc.length < 1000000 then Ou.nx _ else .no)=_
  rw [if_pos hl]
end K21
namespace K21
open PySem PySem.Spec PySem.Calls PySem.W L2 Vl
theorem qO (a b r c:Int):cM [tupK [a,b],tupK [r,c]]=.ok (tupK [a - r,b - c]):=by kernel_rfl
theorem qp (a b r c:Int):fJ [tupK [a,b],tupK [r,c]]=.ok (tupK [a + r,b + c]):=by kernel_rfl
def wh (A:KL) (b:Bool) (O:KL) (p:List Int):Bool:=O.all fun t=>fx A b (ad p t)
def xM (A:KL) (b:Bool) (L:KL):KL:=if b then mG (Tb.insAll L) (Tb.insAll A) else kO (Tb.insAll L) (Tb.insAll A)
def df (A:KL) (b:Bool) (O:KL) (p:List Int):KL:=So.sortK (xM A b (O.map (ad p)))
theorem zq {A L:KL} {b:Bool} {x:List Int}:x∈xM A b L↔x∈L/\fx A b x=false:=by
  unfold xM fx
  cases b
  . simp only [Bool.false_eq_true,if_false]
    rw [subL_mem,insAll_mem,insAll_mem]
    simp
  . simp only [if_true]
    rw [andL_mem,insAll_mem,insAll_mem]
    simp
theorem df_mem {A O:KL} {b:Bool} {p x:List Int}:x∈df A b O p↔(∃ t∈O,ad p t=x)/\fx A b x=false:=by
  unfold df
  rw [sortK_mem,zq,List.mem_map]
theorem Bz {A O:KL} {b:Bool} {p:List Int}:decide (df A b O p=[])=wh A b O p:=by
  unfold wh
  rw [Bool.eq_iff_iff,decide_eq_true_iff,List.all_eq_true]
  constructor
  . intro h t ht
    cases c:fx A b (ad p t) with
    | true=>rfl
    | false =>
      have:ad p t∈df A b O p:=df_mem.mpr ⟨⟨t,ht,rfl⟩,c⟩
      rw [h] at this;cases this
  . intro h
    refine List.eq_nil_iff_forall_not_mem.mpr fun x hx=>?_
    obtain ⟨⟨t,ht,rfl⟩,c⟩:=df_mem.mp hx
    rw [h t ht] at c;cases c
theorem zr {O:KL} (hO:Good O) (x y:Int):iZ [sh O false,tupK [x,y]]=.ok (sh (O.map (ad [x,y])) false):=by
  have c1:bM (ar 0) (fun _=>.ok true) nB 1 [1] (fL (ai aA (ab 0) (fC (.int 0))) jx) [.fz (sh O false),.fz (tupK [x,y])]=.ok (.lst ((O.map (ad [x,y])).map tupK)):=by
    rw [List.map_map]
    refine jv (cs:=[.fz (tupK [x,y])]) rfl rfl (fun ks hk=>?_) (Nat.le_trans hO.le (by decide))
    obtain ⟨a,b,rfl⟩:=hO.pr ks hk
    have:=qp a b x y
    rw [show [a + x,b + y]=ad [x,y] [a,b] by unfold ad;simp [Int.add_comm]] at this
    exact az (ac (af rfl) (ac (af rfl) ak)) (aP rfl this)
  have run:kq (aG ["shape","step"] [sh O false,tupK [x,y]])=.rt (sh (O.map (ad [x,y])) false):=by
    unfold kq
    exact bh (az (ac (az (ac c1 ak) io) (ac (am (af rfl) ax rfl) ak)) (t2 _ _))
  unfold iZ;rw [run];rfl
theorem vq {O:KL} (hO:Good O) (x y:Int):iq [.tup (O.map tupK),tupK [x,y]]=.ok (sh (O.map (ad [x,y])) false):=by
  have run:ma (aG ["piece","cell"] [.tup (O.map tupK),tupK [x,y]])=.rt (sh (O.map (ad [x,y])) false):=by
    unfold ma
    exact bh (az (ac (az (ac (af rfl) (ac ax ak)) (t2 _ _)) (ac (af rfl) ak)) (aP rfl (zr hO x y)))
  unfold iq;rw [run];rfl
theorem vt {L A:KL} (b:Bool) (hp:∀ x∈L,Pair x) (hl:L.length<=12) (ha:A.length<=54):eU [sh L false,sh A (!b)]=.ok (sh (So.sortK (xM A b L)) false):=by
  have n1:=Tb.insAll_len L
  have n2:=Tb.insAll_len A
  have g1:fK (ai aA (ab 0) (fC (.int 0))) [.fz (sh L false),.fz (sh A (!b))]=.ok (Tb.insAll L):=Bv (am (af rfl) ax rfl) (by omega)
  have g2:fK (ai aA (ab 1) (fC (.int 0))) [.fz (sh L false),.fz (sh A (!b))]=.ok (Tb.insAll A):=Bv (am (af rfl) ax rfl) (by omega)
  cases b with
  | false =>
    have run:iY (aG ["one","other"] [sh L false,sh A true])=.rt (sh (So.sortK (kO (Tb.insAll L) (Tb.insAll A))) false):=by
      unfold iY
      refine ao (aJ (mw (bU (am (af rfl) ax rfl))) bb) (ao (aJ (bU (am (af rfl) ax rfl)) bb) (cA (bP (bU (am (af rfl) ax rfl)) ?_)))
      exact bh (az (ac (az (ac (qo (xL g1 g2 (show iI _ _ from ⟨by omega,by omega⟩)) (fun x hx=>hp x (insAll_mem.mp (subL_mem.mp hx).1)) (Nat.lt_of_le_of_lt (List.length_filter_le _ _) (by omega))) ak) io) (ac ax ak)) (t2 _ _))
    show eU [sh L false,sh A true]=_
    unfold eU;rw [run];rfl
  | true =>
    have run:iY (aG ["one","other"] [sh L false,sh A false])=.rt (sh (So.sortK (mG (Tb.insAll L) (Tb.insAll A))) false):=by
      unfold iY
      refine ao (aJ (mw (bU (am (af rfl) ax rfl))) bb) (ao (aJ (bU (am (af rfl) ax rfl)) bb) (ao (aJ (bU (am (af rfl) ax rfl)) bb) ?_))
      exact bh (az (ac (az (ac (qo (xL g1 g2 (show iI _ _ from ⟨by omega,by omega⟩)) (fun x hx=>hp x (insAll_mem.mp (andL_mem.mp hx).1)) (Nat.lt_of_le_of_lt (List.length_filter_le _ _) (by omega))) ak) io) (ac ax ak)) (t2 _ _))
    show eU [sh L false,sh A false]=_
    unfold eU;rw [run];rfl
theorem nE {k:KL} (b:Bool):fw [sh k b]=.ok (sh k (!b)):=by cases b <;> rfl
theorem pO (L:KL):bV (sh L false) (.tup [.tup [],.bl false])=.ok (.bl (decide (L=[]))):=by
  have hd:aL (sh L false)<=8:=by
    have:=eH L
    simp only [aL,bB]
    have e:(bB (List.map tupK L) + 1).max (Nat.max 0 0)=bB (List.map tupK L) + 1:=Nat.max_eq_left (Nat.zero_le _)
    omega
  rw [AL hd (by decide)]
  cases L <;> rfl
theorem kf (O:KL) (p:List Int):∀ z∈O.map (ad p),Pair z:=fun z hz=>by
  obtain ⟨t,_,rfl⟩:=List.mem_map.mp hz
  exact ⟨_,_,rfl⟩
theorem zt {A O:KL} (b:Bool) (hA:Cel A) (hO:Good O) (x y:Int):eP [sh A b,.tup (O.map tupK),tupK [x,y]]=.ok (.bl (wh A b O [x,y])):=by
  have hb:=vt (L:=O.map (ad [x,y])) (A:=A) b (kf O _) (by rw [List.length_map];exact hO.le) hA.le
  have hw:ip [sh (O.map (ad [x,y])) false,sh A b]=.ok (.bl (wh A b O [x,y])):=by
    have run:jt (aG ["one","other"] [sh (O.map (ad [x,y])) false,sh A b])=.rt (.bl (wh A b O [x,y])):=by
      unfold jt
      rw [<- Bz]
      exact bh (am (az (ac (af rfl) (ac (az (ac (af rfl) ak) (aP rfl (nE b))) ak)) (aP rfl hb)) (az (ac (az ak (oj (by simp))) (ac ax ak)) (t2 _ _)) (pO _))
    unfold ip;rw [run];rfl
  have run:gU (aG ["shape","piece","cell"] [sh A b,.tup (O.map tupK),tupK [x,y]])=.rt (.bl (wh A b O [x,y])):=by
    unfold gU
    exact bh (az (ac (az (ac (af rfl) (ac (af rfl) ak)) (aP rfl (vq hO x y))) (ac (af rfl) ak)) (aP rfl hw))
  unfold eP;rw [run];rfl
theorem vw {A O:KL} (b:Bool) (hA:Cel A) (hO:Good O) (x y:Int):cQ [sh A b,.tup (O.map tupK),tupK [x,y]]=.ok (.tup ((df A b O [x,y]).map tupK)):=by
  have hb:=vt (L:=O.map (ad [x,y])) (A:=A) b (kf O _) (by rw [List.length_map];exact hO.le) hA.le
  have run:fM (aG ["shape","piece","place"] [sh A b,.tup (O.map tupK),tupK [x,y]])=.rt (.tup ((df A b O [x,y]).map tupK)):=by
    unfold fM
    exact bh (am (az (ac (az (ac (af rfl) (ac (af rfl) ak)) (aP rfl (vq hO x y))) (ac (az (ac (af rfl) ak) (aP rfl (nE b))) ak)) (aP rfl hb)) ax rfl)
  unfold cQ;rw [run];rfl
end K21
namespace K21
open PySem PySem.Spec PySem.Calls PySem.W L2 Vl
theorem xg {A O:KL} (b:Bool) (hO:Good O) {p:List Int} (hp:Pair p):dc [sh A b,.tup (O.map tupK),tupK p]=.ok (.bl (wh A b O p)):=by
  have cp:bM (ar 0) (fun _=>.ok true) ir 1 [0,2] (fL (ab 1) jx) [.fz (sh A b),.fz (.tup (O.map tupK)),.fz (tupK p)]=.ok (.lst (O.map fun t=>.bl (fx A b (ad p t)))):=by
    refine jv (cs:=[.fz (sh A b),.fz (tupK p)]) rfl rfl (fun ks hk=>?_) (Nat.le_trans hO.le (by decide))
    exact az (ac (af rfl) (ac (az (ac (af rfl) (ac (af rfl) ak)) (aP rfl (ke hp (hO.pr ks hk)))) ak)) (aP rfl (oq A b _))
  have run:ev (aG ["shape","piece","place"] [sh A b,.tup (O.map tupK),tupK p])=.rt (.bl (wh A b O p)):=by
    unfold ev
    exact bh (az (ac cp ak) (vp O _))
  unfold dc;rw [run];rfl
theorem qq {fa fb:ah->Rs D} {ρ:ah} {r:Rs D} (h1:fa ρ=.ok (.bl true)) (h2:fb ρ=r):eY fa fb ρ=r:=by
  unfold eY
  rw [h1]
  exact h2
theorem xh {fa fb:ah->Rs D} {ρ:ah} (h1:fa ρ=.ok (.bl false)):eY fa fb ρ=.ok (.bl false):=by
  unfold eY
  rw [h1]
  rfl
theorem qr {fa fb:ah->Rs D} {ρ:ah} {c d:Bool} (h1:fa ρ=.ok (.bl c)) (h2:fb ρ=.ok (.bl d)):eY fa fb ρ=.ok (.bl (c && d)):=by
  cases c
  . exact xh h1
  . exact qq h1 h2
theorem qs {fa fb:ah->Rs Bool} {ρ:ah} {c d:Bool} (h1:fa ρ=.ok c) (h2:fb ρ=.ok d):fy fa fb ρ=.ok (c || d):=by
  cases c
  . exact ul h1 h2
  . exact AK h1
theorem xN (x:List Int) (k:KL):jB (tupK x) (k.map tupK)=decide (x∈k):=by
  unfold jB
  induction k with
  | nil=>simp
  | cons y k ih =>
    rw [List.map_cons,List.any_cons,ih,kX]
    by_cases h:y=x
    . subst h;simp
    . by_cases h2:x∈k <;> simp [h,h2,Ne.symm h]
theorem xi (x:List Int) (k:KL):gH (tupK x) (.tup (k.map tupK))=.ok (.bl (!decide (x∈k))):=by
  show iJ true _ _=_
  simp only [iJ]
  rw [if_pos ⟨Nat.le_trans (dE x) (by decide),Nat.le_trans (eH k) (by decide)⟩]
  simp only [if_true,xN]
theorem xj (x:List Int) (k:KL):gH (tupK x) (.lst (k.map tupK))=.ok (.bl (!decide (x∈k))):=by
  show iJ true _ _=_
  simp only [iJ]
  rw [if_pos ⟨Nat.le_trans (dE x) (by decide),Nat.le_trans (eH k) (by decide)⟩]
  simp only [if_true,xN]
theorem BA (x y:List Int):di (tupK x) (tupK y)=.ok (.bl (!decide (x=y))):=by
  rw [sm (Nat.le_trans (dE x) (by decide)) (Nat.le_trans (dE y) (by decide)),kX]
abbrev RL:=List (List Int×List Int)
def aN (r:List Int×List Int):D:=.tup [tupK r.1,tupK r.2]
structure RG (R:RL):Prop where
  pr:∀ r∈R,Pair r.1/\Pair r.2
  le:R.length<=40
def ck (A:KL) (b:Bool) (O:KL) (st t:List Int) (r:List Int×List Int):Bool:=decide (r.1=mi st t) && (decide (r.2∈O.map (ad r.1)) && !fx A b r.2)
theorem xO {st t:List Int} (hs:Pair st) (ht:Pair t):cM [tupK st,tupK t]=.ok (tupK (mi st t)):=by
  obtain ⟨a,b,rfl⟩:=hs;obtain ⟨r,c,rfl⟩:=ht;exact qO a b r c
theorem zu {A O:KL} (b:Bool) (hA:Cel A) (hO:Good O) {p:List Int} (hp:Pair p):cQ [sh A b,.tup (O.map tupK),tupK p]=.ok (.tup ((df A b O p).map tupK)):=by
  obtain ⟨x,y,rfl⟩:=hp;exact vw b hA hO x y
theorem xk {A O:KL} (b:Bool) (hA:Cel A) (hO:Good O) {p:List Int} (hp:Pair p):eP [sh A b,.tup (O.map tupK),tupK p]=.ok (.bl (wh A b O p)):=by
  obtain ⟨x,y,rfl⟩:=hp;exact zt b hA hO x y
theorem CC {A O:KL} {b:Bool} {st t:List Int} {r:List Int×List Int}:(!decide (r.1=mi st t) || !decide (r.2∈df A b O r.1))=!ck A b O st t r:=by
  have e:decide (r.2∈df A b O r.1)=(decide (r.2∈O.map (ad r.1)) && !fx A b r.2):=by
    rw [Bool.eq_iff_iff,decide_eq_true_iff,df_mem,Bool.and_eq_true,decide_eq_true_iff,List.mem_map]
    simp
  rw [e]
  unfold ck
  cases decide (r.1=mi st t) <;> simp
theorem nF {A O:KL} {b:Bool} (hA:Cel A) (hO:Good O) {st:List Int} (hst:Pair st) {a3:Sl}:∀ (L:KL) (R:RL) (a4 a5:Sl),(∀ ks∈L,Pair ks)->(∀ r∈R,Pair r.1/\Pair r.2) ->
    ∃ b4 b5,bp (bv 2 (aE (ar 4) (aE (ar 5) bz))) bX (gk (L.map tupK) (R.map aN)) [.fz (sh A b),.fz (.tup (O.map tupK)),.fz (tupK st),a3,a4,a5] =
      (if (L.zip R).all (fun p=>ck A b O st p.1 p.2) then .nx [.fz (sh A b),.fz (.tup (O.map tupK)),.fz (tupK st),a3,b4,b5] else .rt (.bl false))
  | [],R,a4,a5,_,_=>⟨a4,a5,by simp [gk,bp]⟩
  | t::L,[],a4,a5,_,_=>⟨a4,a5,by simp [gk,bp]⟩
  | t::L,r::R,a4,a5,hL,hR=>by
    have pt:=hL t (.head _)
    obtain ⟨p1,p2⟩:=hR r (.head _)
    have ez:gk ((t::L).map tupK) ((r::R).map aN)=.tup [tupK t,aN r]::gk (L.map tupK) (R.map aN):=rfl
    have i0:aA (aN r) (.int 0)=.ok (tupK r.1):=rfl
    have i1:aA (aN r) (.int 1)=.ok (tupK r.2):=rfl
    have tst:fy (fT (ai di (ai aA (ab 5) (fC (.int 0))) (fA (aa (ab 2) (aa (ab 4) aj)) (aH 2 cM)))) (fT (ai gH (ai aA (ab 5) (fC (.int 1))) (fA (aa (ab 0) (aa (ab 1) (aa (ai aA (ab 5) (fC (.int 0))) aj))) (aH 3 cQ)))) [.fz (sh A b),.fz (.tup (O.map tupK)),.fz (tupK st),a3,.fz (tupK t),.fz (aN r)]=.ok (!ck A b O st t r):=by
      rw [<- CC]
      exact qs (bU (am (am (af rfl) ax i0) (az (ac (af rfl) (ac (af rfl) ak)) (aP rfl (xO hst pt))) (BA _ _))) (bU (am (am (af rfl) ax i1) (az (ac (af rfl) (ac (af rfl) (ac (am (af rfl) ax i0) ak))) (aP rfl (zu b hA hO p1))) (xi _ _)))
    have hh:bv 2 (aE (ar 4) (aE (ar 5) bz)) (.tup [tupK t,aN r]) [.fz (sh A b),.fz (.tup (O.map tupK)),.fz (tupK st),a3,a4,a5]=some [.fz (sh A b),.fz (.tup (O.map tupK)),.fz (tupK st),a3,.fz (tupK t),.fz (aN r)]:=rfl
    rw [ez]
    cases c:ck A b O st t r with
    | false =>
      refine ⟨a4,a5,?_⟩
      rw [c] at tst
      have s1:bX [.fz (sh A b),.fz (.tup (O.map tupK)),.fz (tupK st),a3,.fz (tupK t),.fz (aN r)]=.rt (.bl false):=by
        unfold bX
        exact bP tst (bh ax)
      simp only [bp,hh,s1,List.zip_cons_cons,List.all_cons,c,Bool.false_and,Bool.false_eq_true,if_false]
    | true =>
      rw [c] at tst
      have s1:bX [.fz (sh A b),.fz (.tup (O.map tupK)),.fz (tupK st),a3,.fz (tupK t),.fz (aN r)]=.nx [.fz (sh A b),.fz (.tup (O.map tupK)),.fz (tupK st),a3,.fz (tupK t),.fz (aN r)]:=by
        unfold bX
        exact aJ tst bb
      obtain ⟨b4,b5,ih⟩:=nF (b:=b) hA hO hst (a3:=a3) L R (.fz (tupK t)) (.fz (aN r)) (fun ks hk=>hL ks (.tail _ hk)) (fun q hq=>hR q (.tail _ hq))
      refine ⟨b4,b5,?_⟩
      simp only [bp,hh,s1,List.zip_cons_cons,List.all_cons,c,Bool.true_and]
      exact ih
def gd (A:KL) (b:Bool) (O:KL) (st:List Int) (R:RL):Bool:=decide (R.length=O.length) && (O.zip R).all fun p=>ck A b O st p.1 p.2
theorem BB {A O:KL} {b:Bool} (hA:Cel A) (hO:Good O) {st:List Int} (hst:Pair st) {R:RL} (hR:RG R):eI [sh A b,.tup (O.map tupK),tupK st,.lst (R.map aN)]=.ok (.bl (gd A b O st R)):=by
  have ll:bR [.lst (R.map aN)]=.ok (.int R.length):=by rw [eT,List.length_map]
  have lo:bR [.tup (O.map tupK)]=.ok (.int O.length):=by rw [gL,List.length_map]
  have run:fN (aG ["shape","piece","cell","rows","step","row"] [sh A b,.tup (O.map tupK),tupK st,.lst (R.map aN)])=.rt (.bl (gd A b O st R)):=by
    unfold fN gd
    by_cases h:R.length=O.length
    . rw [decide_eq_true h,Bool.true_and]
      refine ao (ρ1:=[.fz (sh A b),.fz (.tup (O.map tupK)),.fz (tupK st),.fz (.lst (R.map aN)),.no,.no]) (aJ (bU (am (az (ac (af rfl) ak) ll) (az (ac (af rfl) ak) lo) (by rw [jk,decide_eq_true (by omega)];rfl))) bb) ?_
      obtain ⟨b4,b5,lp⟩:=nF (b:=b) hA hO hst (a3:=.fz (.lst (R.map aN))) O R .no .no hO.pr hR.pr
      have fr:lV (bv 2 (aE (ar 4) (aE (ar 5) bz))) bX (uW (aa (ab 1) (aa (ab 3) aj)) mM) [.fz (sh A b),.fz (.tup (O.map tupK)),.fz (tupK st),.fz (.lst (R.map aN)),.no,.no]=bp (bv 2 (aE (ar 4) (aE (ar 5) bz))) bX (gk (O.map tupK) (R.map aN)) [.fz (sh A b),.fz (.tup (O.map tupK)),.fz (tupK st),.fz (.lst (R.map aN)),.no,.no]:=by
        have e:uW (aa (ab 1) (aa (ab 3) aj)) mM [.fz (sh A b),.fz (.tup (O.map tupK)),.fz (tupK st),.fz (.lst (R.map aN)),.no,.no]=.ok (gk (O.map tupK) (R.map aN)):=by
          show (if (O.map tupK).length=(R.map aN).length then Rs.ok (gk (O.map tupK) (R.map aN)) else .no)=_
          rw [if_pos (by rw [List.length_map,List.length_map,h])]
        unfold lV
        rw [e]
      cases c:(O.zip R).all (fun p=>ck A b O st p.1 p.2) with
      | true =>
        rw [c,if_pos rfl] at lp
        exact ao (iw (fr.trans lp)) (bh ax)
      | false =>
        rw [c,if_neg (by decide)] at lp
        refine cA ?_
        unfold eD
        rw [fr,lp]
        rfl
    . rw [decide_eq_false h,Bool.false_and]
      exact cA (bP (bU (am (az (ac (af rfl) ak) ll) (az (ac (af rfl) ak) lo) (by rw [jk,decide_eq_false (by omega)];rfl))) (bh ax))
  unfold eI;rw [run];rfl
theorem td {A O:KL} {b:Bool} (hA:Cel A) (hO:Good O) {st p:List Int} (hst:Pair st) (hp:Pair p):cC [sh A b,.tup (O.map tupK),tupK st,.tup [.str "stays",tupK p]]=.ok (.bl (decide (mi st p∈O) && wh A b O p)):=by
  have run:dv (aG ["shape","piece","cell","told"] [sh A b,.tup (O.map tupK),tupK st,.tup [.str "stays",tupK p]])=.rt (.bl (decide (mi st p∈O) && wh A b O p)):=by
    unfold dv
    refine cA (bP (bU (am (am (af rfl) ax rfl) ax rfl)) (bh ?_))
    exact qr (am (az (ac (af rfl) (ac (am (af rfl) ax rfl) ak)) (aP rfl (xO hst hp))) (af rfl) (xc _ _)) (az (ac (af rfl) (ac (af rfl) (ac (am (af rfl) ax rfl) ak))) (aP rfl (xk b hA hO hp)))
  unfold cC;rw [run];rfl
theorem qP {A O:KL} {b:Bool} (hO:Good O) {st p:List Int} (hst:Pair st) (hp:Pair p):cD [sh A b,.tup (O.map tupK),tupK st,.tup [.str "stays",tupK p]]=.ok (.bl (decide (mi st p∈O) && wh A b O p)):=by
  have run:dw (aG ["shape","piece","spot","told","k","place","lacking","there"] [sh A b,.tup (O.map tupK),tupK st,.tup [.str "stays",tupK p]])=.rt (.bl (decide (mi st p∈O) && wh A b O p)):=by
    unfold dw
    refine cA (bP (bU (am (am (af rfl) ax rfl) ax rfl)) (bh ?_))
    exact qr (am (az (ac (af rfl) (ac (am (af rfl) ax rfl) ak)) (aP rfl (ku hst hp))) (af rfl) (xc _ _)) (az (ac (af rfl) (ac (af rfl) (ac (am (af rfl) ax rfl) ak))) (aP rfl (xg b hO hp)))
  unfold cD;rw [run];rfl
theorem vx {A O:KL} {b:Bool} (hA:Cel A) (hO:Good O) {st:List Int} (hst:Pair st) {R:RL} (hR:RG R):cC [sh A b,.tup (O.map tupK),tupK st,.tup [.str "goes",.lst (R.map aN)]]=.ok (.bl (gd A b O st R)):=by
  have run:dv (aG ["shape","piece","cell","told"] [sh A b,.tup (O.map tupK),tupK st,.tup [.str "goes",.lst (R.map aN)]])=.rt (.bl (gd A b O st R)):=by
    unfold dv
    refine ao (aJ (bU (am (am (af rfl) ax rfl) ax rfl)) bb) (bh ?_)
    exact qq (am (am (af rfl) ax rfl) ax rfl) (az (ac (af rfl) (ac (af rfl) (ac (af rfl) (ac (am (af rfl) ax rfl) ak)))) (aP rfl (BB hA hO hst hR)))
  unfold cC;rw [run];rfl
theorem mq {A O:KL} {b:Bool} (hO:Good O) {st:List Int} (hst:Pair st) {R:RL} (hR:RG R):∀ (l:List Nat) (a4 a5 a6 a7:Sl),(∀ k∈l,k < O.length/\k < R.length) ->
    ∃ b4 b5 b6 b7,bp (ar 4) dI (l.map fun (i:Nat)=>.int i) [.fz (sh A b),.fz (.tup (O.map tupK)),.fz (tupK st),.fz (.tup [.str "goes",.lst (R.map aN)]),a4,a5,a6,a7] =
      (if l.all (fun k=>ck A b O st (O.getD k []) (R.getD k ([],[]))) then .nx [.fz (sh A b),.fz (.tup (O.map tupK)),.fz (tupK st),.fz (.tup [.str "goes",.lst (R.map aN)]),b4,b5,b6,b7] else .rt (.bl false))
  | [],a4,a5,a6,a7,_=>⟨a4,a5,a6,a7,by simp [bp]⟩
  | k::l,a4,a5,a6,a7,hl=>by
    obtain ⟨k1,k2⟩:=hl k (.head _)
    obtain ⟨t,r,pt,pr,iO,iR,ec⟩:∃ (t:List Int) (r:List Int×List Int),Pair t/\(Pair r.1/\Pair r.2)/\aA (.tup (O.map tupK)) (.int k)=.ok (tupK t)/\aA (.lst (R.map aN)) (.int k)=.ok (aN r)/\ck A b O st (O.getD k []) (R.getD k ([],[]))=ck A b O st t r:=by
      refine ⟨O[k],R[k],hO.pr _ (List.getElem_mem k1),hR.pr _ (List.getElem_mem k2),?_,iz ?_,?_⟩
      . have:dh (O.map tupK) (k:Int)=some (tupK O[k]):=by
          unfold dh eB
          rw [if_pos (by omega),if_pos (by rw [List.length_map];omega)]
          simp [List.getElem?_eq_getElem k1]
        rw [ko,this]
      . unfold dh eB
        rw [if_pos (by omega),if_pos (by rw [List.length_map];omega)]
        simp [List.getElem?_eq_getElem k2]
      . rw [List.getD_eq_getElem?_getD,List.getElem?_eq_getElem k1,List.getD_eq_getElem?_getD,List.getElem?_eq_getElem k2];rfl
    have cp:bM (ar 0) (fun _=>.ok true) jC 1 [5] (fL (ab 1) jx) [.fz (sh A b),.fz (.tup (O.map tupK)),.fz (tupK st),.fz (.tup [.str "goes",.lst (R.map aN)]),.fz (.int k),.fz (tupK r.1),.fz (tupK r.2),a7]=.ok (.lst ((O.map (ad r.1)).map tupK)):=by
      rw [List.map_map]
      refine jv (cs:=[.fz (tupK r.1)]) rfl rfl (fun ks hk=>?_) (Nat.le_trans hO.le (by decide))
      exact az (ac (af rfl) (ac (af rfl) ak)) (aP rfl (ke pr.1 (hO.pr ks hk)))
    have ce:(!decide (r.1=mi st t) || (!decide (r.2∈O.map (ad r.1)) || fx A b r.2))=!ck A b O st t r:=by
      unfold ck
      cases decide (r.1=mi st t) <;> cases decide (r.2∈O.map (ad r.1)) <;> cases fx A b r.2 <;> rfl
    have tst:fy (fT (ai di (ab 5) (fA (aa (ab 2) (aa (ai aA (ab 1) (ab 4)) aj)) (aH 2 bK)))) (fy (fT (ai gH (ab 6) (ab 7))) (fT (fA (aa (ab 0) (aa (ab 6) aj)) (aH 2 bO)))) [.fz (sh A b),.fz (.tup (O.map tupK)),.fz (tupK st),.fz (.tup [.str "goes",.lst (R.map aN)]),.fz (.int k),.fz (tupK r.1),.fz (tupK r.2),.fz (.lst ((O.map (ad r.1)).map tupK))]=.ok (!ck A b O st t r):=by
      rw [<- ce]
      exact qs (bU (am (af rfl) (az (ac (af rfl) (ac (am (af rfl) (af rfl) iO) ak)) (aP rfl (ku hst pt))) (BA _ _))) (qs (bU (am (af rfl) (af rfl) (xj _ _))) (bU (az (ac (af rfl) (ac (af rfl) ak)) (aP rfl (oq A b _)))))
    have pre:∀ Z,bJ (fy (fT (ai di (ab 5) (fA (aa (ab 2) (aa (ai aA (ab 1) (ab 4)) aj)) (aH 2 bK)))) (fy (fT (ai gH (ab 6) (ab 7))) (fT (fA (aa (ab 0) (aa (ab 6) aj)) (aH 2 bO))))) (aQ (fC (.bl false))) bQ [.fz (sh A b),.fz (.tup (O.map tupK)),.fz (tupK st),.fz (.tup [.str "goes",.lst (R.map aN)]),.fz (.int k),.fz (tupK r.1),.fz (tupK r.2),.fz (.lst ((O.map (ad r.1)).map tupK))]=Z ->
        dI [.fz (sh A b),.fz (.tup (O.map tupK)),.fz (tupK st),.fz (.tup [.str "goes",.lst (R.map aN)]),.fz (.int k),a5,a6,a7]=Z:=fun Z hZ=>by
      unfold dI
      refine (ao (ρ1:=[.fz (sh A b),.fz (.tup (O.map tupK)),.fz (tupK st),.fz (.tup [.str "goes",.lst (R.map aN)]),.fz (.int k),.fz (tupK r.1),.fz (tupK r.2),a7]) (bn (am (am (af rfl) ax rfl) (af rfl) iR) rfl) ?_)
      exact ao (cw cp) hZ
    cases c:ck A b O st t r with
    | false =>
      refine ⟨a4,a5,a6,a7,?_⟩
      rw [c] at tst
      have s1:=pre _ (bP tst (bh ax))
      simp only [List.map_cons,bp,ar,List.set_cons_succ,List.set_cons_zero,s1,List.all_cons,ec,c,Bool.false_and,Bool.false_eq_true,if_false]
    | true =>
      rw [c] at tst
      have s1:=pre _ (aJ tst bb)
      obtain ⟨b4,b5,b6,b7,ih⟩:=mq (A:=A) (b:=b) hO hst hR l (.fz (.int k)) (.fz (tupK r.1)) (.fz (tupK r.2)) (.fz (.lst ((O.map (ad r.1)).map tupK))) (fun j hj=>hl j (.tail _ hj))
      refine ⟨b4,b5,b6,b7,?_⟩
      simp only [List.map_cons,bp,ar,List.set_cons_succ,List.set_cons_zero,s1,List.all_cons,ec,c,Bool.true_and]
      exact ih
theorem nG {α β:Type} (f:α->β->Bool) (a0:α) (b0:β):∀ (L:List α) (M:List β),M.length=L.length->(List.range L.length).all (fun k=>f (L.getD k a0) (M.getD k b0))=(L.zip M).all (fun p=>f p.1 p.2)
  | [],M,_=>by simp
  | x::L,[],h=>by cases h
  | x::L,y::M,h=>by
    simp only [List.length_cons,Nat.add_right_cancel_iff] at h
    have:=nG f a0 b0 L M h
    rw [List.length_cons,List.range_succ_eq_map,List.all_cons,List.all_map,List.zip_cons_cons,List.all_cons,<- this]
    rfl
theorem tf {A O:KL} {b:Bool} (hO:Good O) {st:List Int} (hst:Pair st) {R:RL} (hR:RG R):cD [sh A b,.tup (O.map tupK),tupK st,.tup [.str "goes",.lst (R.map aN)]]=.ok (.bl (gd A b O st R)):=by
  have lo':=hO.le
  have ll:bR [.lst (R.map aN)]=.ok (.int R.length):=by rw [eT,List.length_map]
  have lo:bR [.tup (O.map tupK)]=.ok (.int O.length):=by rw [gL,List.length_map]
  have run:dw (aG ["shape","piece","spot","told","k","place","lacking","there"] [sh A b,.tup (O.map tupK),tupK st,.tup [.str "goes",.lst (R.map aN)]])=.rt (.bl (gd A b O st R)):=by
    unfold dw gd
    refine ao (ρ1:=[.fz (sh A b),.fz (.tup (O.map tupK)),.fz (tupK st),.fz (.tup [.str "goes",.lst (R.map aN)]),.no,.no,.no,.no]) (aJ (bU (am (am (af rfl) ax rfl) ax rfl)) bb) ?_
    by_cases h:R.length=O.length
    . rw [decide_eq_true h,Bool.true_and,<- nG (ck A b O st) [] ([],[]) O R h]
      refine ao (aJ (bU (am (az (ac (am (af rfl) ax rfl) ak) ll) (az (ac (af rfl) ak) lo) (by rw [jk,decide_eq_true (by omega)];rfl))) bb) ?_
      obtain ⟨b4,b5,b6,b7,lp⟩:=mq (A:=A) (b:=b) hO hst hR (List.range O.length) .no .no .no .no (fun k hk=>by have:=List.mem_range.mp hk;omega)
      have fr:=iQ (h:=ar 4) (g:=dI) (fa:=fA (aa (ab 1) aj) bR) (ρ:=[.fz (sh A b),.fz (.tup (O.map tupK)),.fz (tupK st),.fz (.tup [.str "goes",.lst (R.map aN)]),.no,.no,.no,.no]) (n:=(O.length:Int)) (N:=O.length) (az (ac (af rfl) ak) lo) (by omega) (by omega) lp
      cases c:(List.range O.length).all (fun k=>ck A b O st (O.getD k []) (R.getD k ([],[]))) with
      | true =>
        rw [c,if_pos rfl] at fr
        exact ao (iw fr) (bh ax)
      | false =>
        rw [c,if_neg (by decide)] at fr
        refine cA ?_
        unfold eD
        rw [fr]
        rfl
    . rw [decide_eq_false h,Bool.false_and]
      exact cA (bP (bU (am (az (ac (am (af rfl) ax rfl) ak) ll) (az (ac (af rfl) ak) lo) (by rw [jk,decide_eq_false (by omega)];rfl))) (bh ax))
  unfold cD;rw [run];rfl
end K21
namespace K21
open PySem PySem.Spec PySem.Calls PySem.W L2 Vl
theorem tj {f:ah->Rs D} {lo hi:ah->Rs (Option Int)} {ρ:ah} {ds:List D} {a c:Option Int} (hf:f ρ=.ok (.lst ds)) (hl:lo ρ=.ok a) (hh:hi ρ=.ok c):cr f lo hi ρ=.ok (.lst (ge ds a c)):=by
  unfold cr
  rw [hf]
  show (lo ρ).bind _=_
  rw [hl]
  show (hi ρ).bind _=_
  rw [hh]
  rfl
theorem jw {R:RL} (a c:Option Int):∃ R1:RL,ge (R.map aN) a c=R1.map aN/\(∀ r∈R1,r∈R)/\R1.length<=R.length:=by
  unfold ge
  refine ⟨(R.drop _).take _,by rw [<- List.map_drop,<- List.map_take],fun r hr=>List.mem_of_mem_drop (List.mem_of_mem_take hr),?_⟩
  rw [List.length_take,List.length_drop]
  omega
theorem xl {O:KL} (hO:Good O) {p:List Int} (hp:Pair p) {E:ah->Rs D} (hE:∀ ks,Pair ks->E [.fz (tupK ks),.fz (tupK p)]=.ok (tupK (ad p ks))) {caps:List Nat} {ρ:ah} {fi:ah->Rs (List D)} (hs:cb 1 caps ρ=[.no,.fz (tupK p)]) (hi:fi ρ=.ok (O.map tupK)) :
    bM (ar 0) (fun _=>.ok true) E 1 caps fi ρ=.ok (.lst ((O.map (ad p)).map tupK)):=by
  rw [List.map_map]
  exact jv (cs:=[.fz (tupK p)]) hs hi (fun ks hk=>hE ks (hO.pr ks hk)) (Nat.le_trans hO.le (by decide))
theorem rP (L:KL):bV (.lst (L.map tupK)) (.lst [])=.ok (.bl (decide (L=[]))):=by
  have hd:aL (.lst (L.map tupK))<=8:=by
    have:=eH L
    simp only [aL]
    omega
  rw [AL hd (by decide)]
  cases L <;> rfl
theorem rQ (L:KL):di (.lst (L.map tupK)) (.lst [])=.ok (.bl (!decide (L=[]))):=by
  have hd:aL (.lst (L.map tupK))<=8:=by
    have:=eH L
    simp only [aL]
    omega
  rw [sm hd (by decide)]
  cases L <;> rfl
theorem vy {A O:KL} {b:Bool} (hO:Good O) {st t:List Int} (hst:Pair st) (ht:Pair t) {n:Int} {acc:List D} {a6 a7 a8 a9:Sl} (hl:acc.length < 1000) :
    ∃ (n':Int) (r:List Int×List Int) (b6 b7 b8 b9:Sl),fV [.fz (sh A b),.fz (.tup (O.map tupK)),.fz (tupK st),.fz (.int n),.ow acc,.fz (tupK t),a6,a7,a8,a9]=.nx [.fz (sh A b),.fz (.tup (O.map tupK)),.fz (tupK st),.fz (.int n'),.ow (acc++[aN r]),.fz (tupK t),b6,b7,b8,b9]/\Pair r.1/\Pair r.2:=by
  have lo:=hO.le
  have c1:bM (ar 0) (fun _=>.ok true) kb 1 [6] (fL (ab 1) jx) [.fz (sh A b),.fz (.tup (O.map tupK)),.fz (tupK st),.fz (.int n),.ow acc,.fz (tupK t),.fz (tupK (mi st t)),a7,a8,a9]=.ok (.lst ((O.map (ad (mi st t))).map tupK)) :=
    (by
      refine xl hO (kt st t) (fun ks hk=>?_) rfl rfl
      exact az (ac (af rfl) (ac (af rfl) ak)) (aP rfl (ke (kt st t) hk)))
  have c2:bM (ar 0) kd kc 1 [0] (fL (ab 7) xB) [.fz (sh A b),.fz (.tup (O.map tupK)),.fz (tupK st),.fz (.int n),.ow acc,.fz (tupK t),.fz (tupK (mi st t)),.fz (.lst ((O.map (ad (mi st t))).map tupK)),a8,a9]=.ok (.lst (((O.map (ad (mi st t))).filter fun x=>!fx A b x).map tupK)):=by
    refine vo (cs:=[.fz (sh A b)]) rfl rfl (fun ks hk=>?_) (fun ks hk=>af rfl) (by rw [List.length_map];omega)
    exact xG (bU (az (ac (af rfl) (ac (af rfl) ak)) (aP rfl (oq A b _))))
  obtain ⟨F,hF,eF⟩:∃ F:KL,(F≠[]/\(∀ x∈F,Pair x)/\F.length<=12)/\bJ (fT (ai bV (ab 8) (fA aj bE))) (bI 8 (ab 7)) bQ [.fz (sh A b),.fz (.tup (O.map tupK)),.fz (tupK st),.fz (.int n),.ow acc,.fz (tupK t),.fz (tupK (mi st t)),.fz (.lst ((O.map (ad (mi st t))).map tupK)),.fz (.lst (((O.map (ad (mi st t))).filter fun x=>!fx A b x).map tupK)),a9]=.nx [.fz (sh A b),.fz (.tup (O.map tupK)),.fz (tupK st),.fz (.int n),.ow acc,.fz (tupK t),.fz (tupK (mi st t)),.fz (.lst ((O.map (ad (mi st t))).map tupK)),.fz (.lst (F.map tupK)),a9]:=by
    by_cases h:(O.map (ad (mi st t))).filter (fun x=>!fx A b x)=[]
    . refine ⟨O.map (ad (mi st t)),⟨fun z=>hO.ne (List.map_eq_nil_iff.mp z),kf _ _,by rw [List.length_map];exact lo⟩,?_⟩
      exact bP (bU (am (af rfl) (az ak (gq (by simp))) (by rw [rP,decide_eq_true h]))) (cw (af rfl))
    . refine ⟨_,⟨h,fun x hx=>kf _ _ x (List.mem_filter.mp hx).1,?_⟩,aJ (bU (am (af rfl) (az ak (gq (by simp))) (by rw [rP,decide_eq_false h]))) bb⟩
      have:=List.length_filter_le (fun x=>!fx A b x) (O.map (ad (mi st t)))
      rw [List.length_map] at this
      omega
  obtain ⟨f1,f2,f3⟩:=hF
  have hp:0 < F.length:=List.length_pos_iff.mpr f1
  have d1:=cG (m:=n) (n:=F.length) (kz (by omega) (by omega))
  have u0:0<=n % (F.length:Int):=Int.emod_nonneg _ (by omega)
  have u1:n % (F.length:Int) < F.length:=Int.emod_lt_of_pos _ (by omega)
  generalize n / (F.length:Int)=n1 at d1
  generalize n % (F.length:Int)=at_ at d1 u0 u1
  obtain ⟨x,hx,ex⟩:=mQ (L:=F) u0 u1
  have lF:bR [.lst (F.map tupK)]=.ok (.int F.length):=by rw [eT,List.length_map]
  refine ⟨n1,(mi st t,x),.fz (tupK (mi st t)),.fz (.lst ((O.map (ad (mi st t))).map tupK)),.fz (.lst (F.map tupK)),.fz (.int at_),?_,kt _ _,f2 x hx⟩
  unfold fV
  refine ao (cw (az (ac (af rfl) (ac (af rfl) ak)) (aP rfl (ku hst ht)))) (ao (cw c1) (ao (cw c2) (ao eF ?_)))
  refine ao (ρ1:=[.fz (sh A b),.fz (.tup (O.map tupK)),.fz (tupK st),.fz (.int n1),.ow acc,.fz (tupK t),.fz (tupK (mi st t)),.fz (.lst ((O.map (ad (mi st t))).map tupK)),.fz (.lst (F.map tupK)),.fz (.int at_)]) (bn (az (ac (af rfl) (ac (az (ac (af rfl) ak) lF) ak)) d1) rfl) ?_
  exact By rfl (az (ac (af rfl) (ac (am (af rfl) (af rfl) ex) ak)) (t2 _ _)) (by omega)
theorem nH {A O:KL} {b:Bool} (hO:Good O) {st:List Int} (hst:Pair st):∀ (L:KL) (n:Int) (R:RL) (a5 a6 a7 a8 a9:Sl),(∀ ks∈L,Pair ks)->(∀ r∈R,Pair r.1/\Pair r.2)->R.length + L.length < 1000 ->
    ∃ (n':Int) (R':RL) (b5 b6 b7 b8 b9:Sl),bp (ar 5) fV (L.map tupK) [.fz (sh A b),.fz (.tup (O.map tupK)),.fz (tupK st),.fz (.int n),.ow (R.map aN),a5,a6,a7,a8,a9]=.nx [.fz (sh A b),.fz (.tup (O.map tupK)),.fz (tupK st),.fz (.int n'),.ow (R'.map aN),b5,b6,b7,b8,b9]/\(∀ r∈R',Pair r.1/\Pair r.2)/\R'.length=R.length + L.length
  | [],n,R,a5,a6,a7,a8,a9,_,hR,_=>⟨n,R,a5,a6,a7,a8,a9,rfl,hR,rfl⟩
  | t::L,n,R,a5,a6,a7,a8,a9,hL,hR,hl=>by
    simp only [List.length_cons] at hl
    obtain ⟨n1,r,b6,b7,b8,b9,e,p⟩:=vy (A:=A) (b:=b) hO hst (hL t (.head _)) (n:=n) (acc:=R.map aN) (a6:=a6) (a7:=a7) (a8:=a8) (a9:=a9) (by rw [List.length_map];omega)
    obtain ⟨n2,R2,c5,c6,c7,c8,c9,e2,g2,l2⟩:=nH (A:=A) (b:=b) hO hst L n1 (R++[r]) (.fz (tupK t)) b6 b7 b8 b9 (fun ks hk=>hL ks (.tail _ hk)) (fun q hq=>by
      rcases List.mem_append.mp hq with hq|hq
      . exact hR q hq
      . rw [List.mem_singleton.mp hq];exact p) (by simp only [List.length_append,List.length_cons,List.length_nil];omega)
    refine ⟨n2,R2,c5,c6,c7,c8,c9,?_,g2,by simp only [List.length_append,List.length_cons,List.length_nil] at l2 ⊢;omega⟩
    rw [List.map_append] at e2
    simp only [List.map_cons,bp,ar,List.set_cons_succ,List.set_cons_zero,e]
    exact e2
theorem BC {A O:KL} (b:Bool) (hO:Good O) {st:List Int} (hst:Pair st) (n:Int):∃ (R:RL) (n':Int),eX [sh A b,.tup (O.map tupK),tupK st,.int n]=.ok (.tup [.lst (R.map aN),.int n'])/\RG R/\R.length=O.length:=by
  have lo:=hO.le
  obtain ⟨n1,R,b5,b6,b7,b8,b9,e,g,l⟩:=nH (A:=A) (b:=b) hO hst O n [] .no .no .no .no .no hO.pr (fun _ h=>by cases h) (by simp only [List.length_nil];omega)
  simp only [List.length_nil,Nat.zero_add] at l
  refine ⟨R,n1,?_,⟨g,by omega⟩,l⟩
  have run:gz (aG ["shape","piece","spot","number","rows","step","place","there","lacking","at"] [sh A b,.tup (O.map tupK),tupK st,.int n])=.rt (.tup [.lst (R.map aN),.int n1]):=by
    unfold gz
    refine ao (ρ1:=[.fz (sh A b),.fz (.tup (O.map tupK)),.fz (tupK st),.fz (.int n),.ow [],.no,.no,.no,.no,.no]) rfl (ao (iw (uo (af rfl) e)) ?_)
    show (aQ _) (frz 4 _)=_
    exact bh (az (ac (af rfl) (ac (af rfl) ak)) (t2 _ _))
  unfold eX;rw [run];rfl
end K21
namespace K21
open PySem PySem.Spec PySem.Calls PySem.W L2 Vl
theorem vz {ρ:ah} {i j:Nat} {ds:List D} {v:D} {k:Int} {fe fk:ah->Rs D} (he:fe ρ=.ok v) (hi:ρ[i]?=some (.ow ds)) (hk:fk ρ=.ok (.int k)) (hx:eB ds.length k=some j):km i fe fk ρ=.nx (ρ.set i (.ow (ds.set j v))):=by
  unfold km
  rw [he,hi]
  show oR (fk ρ) ρ _=_
  rw [hk]
  show (match eB ds.length k with|some j=>Ou.nx (ρ.set i (.ow (ds.set j v)))|none=>.no)=_
  rw [hx]
theorem xP {R:RL} {i:Int} (h0:0<=i) (h1:i < R.length):∃ r∈R,aA (.lst (R.map aN)) (.int i)=.ok (aN r):=by
  have hj:i.toNat < R.length:=by omega
  refine ⟨R[i.toNat],List.getElem_mem hj,iz ?_⟩
  unfold dh eB
  rw [if_pos h0,if_pos (by rw [List.length_map];exact h1)]
  simp [List.getElem?_eq_getElem hj]
theorem vA {n:Nat} {i:Int} (h0:0<=i) (h1:i < n):eB n i=some i.toNat:=by unfold eB;rw [if_pos h0,if_pos h1]
theorem BD {R:RL} (hR:RG R) {i j:Int} (i0:0<=i) (i1:i < R.length) (j0:0<=j) (j1:j < R.length):∃ R':RL,cq [.lst (R.map aN),.int i,.int j]=.ok (.lst (R'.map aN))/\RG R':=by
  obtain ⟨r,hr,er⟩:=xP (R:=R) i0 i1
  obtain ⟨q,hq,eq⟩:=xP (R:=R) j0 j1
  refine ⟨(R.set i.toNat q).set j.toNat r,?_,fun x hx=>?_,by rw [List.length_set,List.length_set];exact hR.le⟩
  . have run:dF (aG ["row","at","other","some"] [.lst (R.map aN),.int i,.int j])=.rt (.lst (((R.set i.toNat q).set j.toNat r).map aN)):=by
      unfold dF
      rw [List.map_set,List.map_set]
      refine ao (ρ1:=[.fz (.lst (R.map aN)),.fz (.int i),.fz (.int j),.ow (R.map aN)]) rfl ?_
      refine ao (vz (am (af rfl) (af rfl) eq) rfl (af rfl) (vA i0 (by rw [List.length_map];exact i1))) ?_
      refine ao (vz (am (af rfl) (af rfl) er) rfl (af rfl) (vA j0 (by rw [List.length_set,List.length_map];exact j1))) ?_
      show (aQ _) (frz 3 _)=_
      exact bh (af rfl)
    unfold cq;rw [run];rfl
  . rcases List.mem_or_eq_of_mem_set hx with hx|rfl
    . rcases List.mem_or_eq_of_mem_set hx with hx|rfl
      . exact hR.pr x hx
      . exact hR.pr _ hq
    . exact hR.pr _ hr
theorem nI {R:RL} (hp:∀ r∈R,Pair r.1/\Pair r.2) (hl:R.length<=12) {ρ:ah} {at_:Int} (h2:ab 2 ρ=.ok (.lst (R.map aN))) (h5:ab 5 ρ=.ok (.int at_)) {f:ah->Rs D} {r:List Int×List Int} (hf:f ρ=.ok (.lst [aN r])) (pr:Pair r.1/\Pair r.2) {lo:ah->Rs (Option Int)} {c:Option Int} (hlo:lo ρ=.ok c) :
    ∃ R':RL,RG R'/\(ai aD (ai aD (cr (ab 2) bL (fP (ab 5))) f) (cr (ab 2) lo bL)) ρ=.ok (.lst (R'.map aN)):=by
  obtain ⟨R1,e1,m1,l1⟩:=jw (R:=R) none (some at_)
  obtain ⟨R2,e2,m2,l2⟩:=jw (R:=R) c none
  have p5:fP (ab 5) ρ=.ok (some at_):=by unfold fP;rw [h5];rfl
  have s1:=tj (lo:=bL) (hi:=fP (ab 5)) h2 (a:=none) rfl p5
  have s2:=tj (lo:=lo) (hi:=bL) h2 hlo (c:=none) rfl
  rw [e1] at s1
  rw [e2] at s2
  refine ⟨R1++[r]++R2,⟨fun x hx=>?_,by simp only [List.length_append,List.length_cons,List.length_nil];omega⟩,?_⟩
  . rcases List.mem_append.mp hx with hx|hx
    . rcases List.mem_append.mp hx with hx|hx
      . exact hp x (m1 x hx)
      . rw [List.mem_singleton.mp hx];exact pr
    . exact hp x (m2 x hx)
  . rw [List.map_append,List.map_append]
    exact am (am s1 hf (iy (by rw [List.length_map];simp only [List.length_cons,List.length_nil];omega))) s2 (iy (by simp only [List.length_append,List.length_map,List.length_cons,List.length_nil];omega))
theorem Dw:bH (.int 10) (.int 40)=.ok (.int (10 ^ Int.toNat 40)):=kj ⟨by decide,by decide,by decide⟩
theorem Dx:bm (.int 3) (.int 1000000)=.ok (.int 3000000):=by rw [db (by decide)];exact congrArg (fun z=>Rs.ok (D.int z)) (by decide)
theorem tm {A O:KL} {b:Bool} {R:RL} (hp:∀ r∈R,Pair r.1/\Pair r.2) (hl:R.length<=12) {n w at_ o px py lx ly:Int} (a0:0<=at_) (a1:at_ < R.length) (o0:0<=o) (o1:o < R.length) {F:KL} (hF:∀ x∈F,Pair x) {g:ah->Ou}
    (hg:g=(aC (bJ (fT (ai bV (ab 4) (fC (.int 1)))) (aQ (ai aD (cr (ab 2) bL (fP (ab 5))) (cr (ab 2) (fP (ai aD (ab 5) (fC (.int 1)))) bL))) bQ) (aC (bJ (fT (ai bV (ab 4) (fC (.int 2)))) (aQ (ai aD (ai aD (cr (ab 2) bL (fP (ab 5))) (fA (aa (ai aA (ab 2) (ab 6)) aj) bE)) (cr (ab 2) (fP (ab 5)) bL))) bQ) (aC (bJ (fT (ai bV (ab 4) (fC (.int 3)))) (aQ (fA (aa (ab 2) (aa (ab 5) (aa (ab 6) aj))) (aH 3 cq))) bQ) (aC (bJ (fT (ai bV (ab 4) (fC (.int 4)))) (aQ (ai aD (ai aD (cr (ab 2) bL (fP (ab 5))) (fA (aa (fA (aa (fA (aa (ai aD (ai aA (ab 7) (fC (.int 0))) (fC (.int 1))) (aa (ai aA (ab 7) (fC (.int 1))) aj)) aS) (aa (ab 8) aj)) aS) aj) bE)) (cr (ab 2) (fP (ai aD (ab 5) (fC (.int 1)))) bL))) bQ) (aC (bJ (gc (fT (ai bV (ab 4) (fC (.int 5)))) (fT (ai di (ab 9) (fA aj bE)))) (aQ (ai aD (ai aD (cr (ab 2) bL (fP (ab 5))) (fA (aa (fA (aa (ab 7) (aa (ai aA (ab 9) (ai cf (ab 6) (fA (aa (ab 9) aj) bR))) aj)) aS) aj) bE)) (cr (ab 2) (fP (ai aD (ab 5) (fC (.int 1)))) bL))) bQ) (aC (bJ (fT (ai bV (ab 4) (fC (.int 6)))) (aQ (ai aD (ai aD (cr (ab 2) bL (fP (ab 5))) (fA (aa (fA (aa (ab 7) (aa (fA (aa (ai aA (ab 8) (fC (.int 0))) (aa (ai aD (ai aA (ab 8) (fC (.int 1))) (ai bm (fC (.int 3)) (ai bH (fC (.int 10)) (fC (.int 6))))) aj)) aS) aj)) aS) aj) bE)) (cr (ab 2) (fP (ai aD (ab 5) (fC (.int 1)))) bL))) bQ) (aC (bJ (fT (ai bV (ab 4) (fC (.int 7)))) (aQ (ai aD (ai aD (cr (ab 2) bL (fP (ab 5))) (fA (aa (fA (aa (ab 7) (aa (fA (aa (ai gSub (ai aA (ab 8) (fC (.int 0))) (ai bH (fC (.int 10)) (fC (.int 40)))) (aa (ai aA (ab 8) (fC (.int 1))) aj)) aS) aj)) aS) aj) bE)) (cr (ab 2) (fP (ai aD (ab 5) (fC (.int 1)))) bL))) bQ) (aC (bJ (fT (ai bV (ab 4) (fC (.int 8)))) (aQ (fA aj bE)) bQ) (aQ (ab 2))))))))))) :
    ∃ R':RL,RG R'/\g [.fz (sh A b),.fz (.tup (O.map tupK)),.fz (.lst (R.map aN)),.fz (.int n),.fz (.int w),.fz (.int at_),.fz (.int o),.fz (tupK [px,py]),.fz (tupK [lx,ly]),.fz (.lst (F.map tupK))]=.rt (.lst (R'.map aN)):=by
  subst hg
  have hR:RG R:=⟨hp,by omega⟩
  have pl:fP (ai aD (ab 5) (fC (.int 1))) [.fz (sh A b),.fz (.tup (O.map tupK)),.fz (.lst (R.map aN)),.fz (.int n),.fz (.int w),.fz (.int at_),.fz (.int o),.fz (tupK [px,py]),.fz (tupK [lx,ly]),.fz (.lst (F.map tupK))]=.ok (some (at_ + 1)):=rfl
  have l1:∀ a:D,bE [a]=.ok (.lst [a]):=fun a=>gq (by simp)
  have no:∀ {k:Int},¬ w=k->fT (ai bV (ab 4) (fC (.int k))) [.fz (sh A b),.fz (.tup (O.map tupK)),.fz (.lst (R.map aN)),.fz (.int n),.fz (.int w),.fz (.int at_),.fz (.int o),.fz (tupK [px,py]),.fz (tupK [lx,ly]),.fz (.lst (F.map tupK))]=.ok false:=fun h=>bU (am (af rfl) ax (by rw [eZ,decide_eq_false h]))
  have ye:∀ {k:Int},w=k->fT (ai bV (ab 4) (fC (.int k))) [.fz (sh A b),.fz (.tup (O.map tupK)),.fz (.lst (R.map aN)),.fz (.int n),.fz (.int w),.fz (.int at_),.fz (.int o),.fz (tupK [px,py]),.fz (tupK [lx,ly]),.fz (.lst (F.map tupK))]=.ok true:=fun h=>bU (am (af rfl) ax (by rw [eZ,decide_eq_true h]))
  by_cases h1:w=1
  . obtain ⟨R1,e1,m1,l1'⟩:=jw (R:=R) none (some at_)
    obtain ⟨R2,e2,m2,l2'⟩:=jw (R:=R) (some (at_ + 1)) none
    have s1:=tj (f:=ab 2) (lo:=bL) (hi:=fP (ab 5)) (ρ:=[.fz (sh A b),.fz (.tup (O.map tupK)),.fz (.lst (R.map aN)),.fz (.int n),.fz (.int w),.fz (.int at_),.fz (.int o),.fz (tupK [px,py]),.fz (tupK [lx,ly]),.fz (.lst (F.map tupK))]) (af rfl) (a:=none) rfl (c:=some at_) rfl
    have s2:=tj (f:=ab 2) (lo:=fP (ai aD (ab 5) (fC (.int 1)))) (hi:=bL) (ρ:=[.fz (sh A b),.fz (.tup (O.map tupK)),.fz (.lst (R.map aN)),.fz (.int n),.fz (.int w),.fz (.int at_),.fz (.int o),.fz (tupK [px,py]),.fz (tupK [lx,ly]),.fz (.lst (F.map tupK))]) (af rfl) pl (c:=none) rfl
    rw [e1] at s1
    rw [e2] at s2
    refine ⟨R1++R2,⟨fun x hx=>?_,by rw [List.length_append];omega⟩,cA (bP (ye h1) (bh ?_))⟩
    . rcases List.mem_append.mp hx with hx|hx
      . exact hp x (m1 x hx)
      . exact hp x (m2 x hx)
    . rw [List.map_append]
      exact am s1 s2 (iy (by rw [List.length_map,List.length_map];omega))
  by_cases h2:w=2
  . obtain ⟨q,hq,eq⟩:=xP (R:=R) o0 o1
    obtain ⟨R',g,e⟩:=nI hp hl (ρ:=[.fz (sh A b),.fz (.tup (O.map tupK)),.fz (.lst (R.map aN)),.fz (.int n),.fz (.int w),.fz (.int at_),.fz (.int o),.fz (tupK [px,py]),.fz (tupK [lx,ly]),.fz (.lst (F.map tupK))]) (at_:=at_) (af rfl) (af rfl) (f:=fA (aa (ai aA (ab 2) (ab 6)) aj) bE) (r:=q) (az (ac (am (af rfl) (af rfl) eq) ak) (l1 _)) (hp q hq) (lo:=fP (ab 5)) (c:=some at_) rfl
    exact ⟨R',g,ao (aJ (no h1) bb) (cA (bP (ye h2) (bh e)))⟩
  by_cases h3:w=3
  . obtain ⟨R',e,g⟩:=BD hR a0 a1 o0 o1
    refine ⟨R',g,ao (aJ (no h1) bb) (ao (aJ (no h2) bb) (cA (bP (ye h3) (bh ?_))))⟩
    exact az (ac (af rfl) (ac (af rfl) (ac (af rfl) ak))) (aP rfl e)
  by_cases h4:w=4
  . obtain ⟨R',g,e⟩:=nI hp hl (ρ:=[.fz (sh A b),.fz (.tup (O.map tupK)),.fz (.lst (R.map aN)),.fz (.int n),.fz (.int w),.fz (.int at_),.fz (.int o),.fz (tupK [px,py]),.fz (tupK [lx,ly]),.fz (.lst (F.map tupK))]) (at_:=at_) (af rfl) (af rfl) (f:=(fA (aa (fA (aa (fA (aa (ai aD (ai aA (ab 7) (fC (.int 0))) (fC (.int 1))) (aa (ai aA (ab 7) (fC (.int 1))) aj)) aS) (aa (ab 8) aj)) aS) aj) bE)) (r:=([px + 1,py],[lx,ly])) (az (ac (az (ac (az (ac (am (am (af rfl) ax rfl) ax cI) (ac (am (af rfl) ax rfl) ak)) (t2 _ _)) (ac (af rfl) ak)) (t2 _ _)) ak) (l1 _)) ⟨⟨_,_,rfl⟩,⟨_,_,rfl⟩⟩ pl
    exact ⟨R',g,ao (aJ (no h1) bb) (ao (aJ (no h2) bb) (ao (aJ (no h3) bb) (cA (bP (ye h4) (bh e)))))⟩
  by_cases h5:w=5/\F≠[]
  . obtain ⟨h5,hn⟩:=h5
    have hq:0 < F.length:=List.length_pos_iff.mpr hn
    have ro:cf (.int o) (.int F.length)=.ok (.int (o % F.length)):=gr (by omega)
    obtain ⟨x,hx,ex⟩:=mQ (L:=F) (i:=o % (F.length:Int)) (Int.emod_nonneg _ (by omega)) (Int.emod_lt_of_pos _ (by omega))
    have lF:bR [.lst (F.map tupK)]=.ok (.int F.length):=by rw [eT,List.length_map]
    obtain ⟨R',g,e⟩:=nI hp hl (ρ:=[.fz (sh A b),.fz (.tup (O.map tupK)),.fz (.lst (R.map aN)),.fz (.int n),.fz (.int w),.fz (.int at_),.fz (.int o),.fz (tupK [px,py]),.fz (tupK [lx,ly]),.fz (.lst (F.map tupK))]) (at_:=at_) (af rfl) (af rfl) (f:=(fA (aa (fA (aa (ab 7) (aa (ai aA (ab 9) (ai cf (ab 6) (fA (aa (ab 9) aj) bR))) aj)) aS) aj) bE)) (r:=([px,py],x)) (az (ac (az (ac (af rfl) (ac (am (af rfl) (am (af rfl) (az (ac (af rfl) ak) lF) ro) ex) ak)) (t2 _ _)) ak) (l1 _)) ⟨⟨_,_,rfl⟩,hF x hx⟩ pl
    exact ⟨R',g,ao (aJ (no h1) bb) (ao (aJ (no h2) bb) (ao (aJ (no h3) bb) (ao (aJ (no h4) bb) (cA (bP (rj (ye h5) (bU (am (af rfl) (az ak (gq (by simp))) (by rw [rQ,decide_eq_false hn];rfl)))) (bh e))))))⟩
  have n5:gc (fT (ai bV (ab 4) (fC (.int 5)))) (fT (ai di (ab 9) (fA aj bE))) [.fz (sh A b),.fz (.tup (O.map tupK)),.fz (.lst (R.map aN)),.fz (.int n),.fz (.int w),.fz (.int at_),.fz (.int o),.fz (tupK [px,py]),.fz (tupK [lx,ly]),.fz (.lst (F.map tupK))]=.ok false:=by
    by_cases hw:w=5
    . have hn:F=[]:=Classical.byContradiction fun z=>h5 ⟨hw,z⟩
      exact rj (ye hw) (bU (am (af rfl) (az ak (gq (by simp))) (by rw [rQ,decide_eq_true hn];rfl)))
    . exact mw (no hw)
  by_cases h6:w=6
  . obtain ⟨R',g,e⟩:=nI hp hl (ρ:=[.fz (sh A b),.fz (.tup (O.map tupK)),.fz (.lst (R.map aN)),.fz (.int n),.fz (.int w),.fz (.int at_),.fz (.int o),.fz (tupK [px,py]),.fz (tupK [lx,ly]),.fz (.lst (F.map tupK))]) (at_:=at_) (af rfl) (af rfl) (f:=(fA (aa (fA (aa (ab 7) (aa (fA (aa (ai aA (ab 8) (fC (.int 0))) (aa (ai aD (ai aA (ab 8) (fC (.int 1))) (ai bm (fC (.int 3)) (ai bH (fC (.int 10)) (fC (.int 6))))) aj)) aS) aj)) aS) aj) bE)) (r:=([px,py],[lx,ly + 3000000])) (az (ac (az (ac (af rfl) (ac (az (ac (am (af rfl) ax rfl) (ac (am (am (af rfl) ax rfl) (am ax (am ax ax p6) Dx) cI) ak)) (t2 _ _)) ak)) (t2 _ _)) ak) (l1 _)) ⟨⟨_,_,rfl⟩,⟨_,_,rfl⟩⟩ pl
    exact ⟨R',g,ao (aJ (no h1) bb) (ao (aJ (no h2) bb) (ao (aJ (no h3) bb) (ao (aJ (no h4) bb) (ao (aJ n5 bb) (cA (bP (ye h6) (bh e)))))))⟩
  by_cases h7:w=7
  . obtain ⟨R',g,e⟩:=nI hp hl (ρ:=[.fz (sh A b),.fz (.tup (O.map tupK)),.fz (.lst (R.map aN)),.fz (.int n),.fz (.int w),.fz (.int at_),.fz (.int o),.fz (tupK [px,py]),.fz (tupK [lx,ly]),.fz (.lst (F.map tupK))]) (at_:=at_) (af rfl) (af rfl) (f:=(fA (aa (fA (aa (ab 7) (aa (fA (aa (ai gSub (ai aA (ab 8) (fC (.int 0))) (ai bH (fC (.int 10)) (fC (.int 40)))) (aa (ai aA (ab 8) (fC (.int 1))) aj)) aS) aj)) aS) aj) bE)) (r:=([px,py],[lx - 10 ^ Int.toNat 40,ly])) (az (ac (az (ac (af rfl) (ac (az (ac (am (am (af rfl) ax rfl) (am ax ax Dw) cY) (ac (am (af rfl) ax rfl) ak)) (t2 _ _)) ak)) (t2 _ _)) ak) (l1 _)) ⟨⟨_,_,rfl⟩,⟨_,_,rfl⟩⟩ pl
    exact ⟨R',g,ao (aJ (no h1) bb) (ao (aJ (no h2) bb) (ao (aJ (no h3) bb) (ao (aJ (no h4) bb) (ao (aJ n5 bb) (ao (aJ (no h6) bb) (cA (bP (ye h7) (bh e))))))))⟩
  by_cases h8:w=8
  . refine ⟨[],⟨fun _ h=>(by cases h),by simp⟩,ao (aJ (no h1) bb) (ao (aJ (no h2) bb) (ao (aJ (no h3) bb) (ao (aJ (no h4) bb) (ao (aJ n5 bb) (ao (aJ (no h6) bb) (ao (aJ (no h7) bb) (cA (bP (ye h8) (bh ?_)))))))))⟩
    exact az ak (gq (by simp))
  exact ⟨R,hR,ao (aJ (no h1) bb) (ao (aJ (no h2) bb) (ao (aJ (no h3) bb) (ao (aJ (no h4) bb) (ao (aJ n5 bb) (ao (aJ (no h6) bb) (ao (aJ (no h7) bb) (ao (aJ (no h8) bb) (bh (af rfl)))))))))⟩
theorem xm {A O:KL} (b:Bool) (hO:Good O) {R:RL} (hp:∀ r∈R,Pair r.1/\Pair r.2) (hl:R.length<=12) (hn:R≠[]) (n:Int):∃ R':RL,dJ [sh A b,.tup (O.map tupK),.lst (R.map aN),.int n]=.ok (.lst (R'.map aN))/\RG R':=by
  have lo:=hO.le
  have hq:0 < R.length:=List.length_pos_iff.mpr hn
  have lR:bR [.lst (R.map aN)]=.ok (.int R.length):=by rw [eT,List.length_map]
  have d1:=cG (m:=n) (n:=10) ⟨by decide,by decide⟩
  generalize n / 10=n1 at d1
  generalize n % 10=w at d1
  have d2:=cG (m:=n1) (n:=R.length) (kz (by omega) (by omega))
  have a0:0<=n1 % (R.length:Int):=Int.emod_nonneg _ (by omega)
  have a1:n1 % (R.length:Int) < R.length:=Int.emod_lt_of_pos _ (by omega)
  generalize n1 / (R.length:Int)=n2 at d2
  generalize n1 % (R.length:Int)=at_ at d2 a0 a1
  have d3:=cG (m:=n2) (n:=R.length) (kz (by omega) (by omega))
  have o0:0<=n2 % (R.length:Int):=Int.emod_nonneg _ (by omega)
  have o1:n2 % (R.length:Int) < R.length:=Int.emod_lt_of_pos _ (by omega)
  generalize n2 / (R.length:Int)=n3 at d3
  generalize n2 % (R.length:Int)=o at d3 o0 o1
  obtain ⟨r,hr,er⟩:=xP (R:=R) a0 a1
  obtain ⟨⟨px,py,e1⟩,⟨lx,ly,e2⟩⟩:=hp r hr
  have er':aA (.lst (R.map aN)) (.int at_)=.ok (.tup [tupK [px,py],tupK [lx,ly]]):=by rw [er];unfold aN;rw [e1,e2]
  have cp:bM (ar 0) jb ja 1 [7,0] (fL (ab 1) jx) [.fz (sh A b),.fz (.tup (O.map tupK)),.fz (.lst (R.map aN)),.fz (.int n3),.fz (.int w),.fz (.int at_),.fz (.int o),.fz (tupK [px,py]),.fz (tupK [lx,ly]),.no]=.ok (.lst (((O.filter fun t=>fx A b (ad [px,py] t)).map (ad [px,py])).map tupK)):=by
    refine mo (cs:=[.fz (tupK [px,py]),.fz (sh A b)]) (F:=ad [px,py]) rfl rfl (fun ks hk=>?_) (fun ks hk=>?_) (Nat.le_trans hO.le (by decide))
    . exact bU (az (ac (af rfl) (ac (az (ac (af rfl) (ac (af rfl) ak)) (aP rfl (ke ⟨px,py,rfl⟩ (hO.pr ks hk)))) ak)) (aP rfl (oq A b _)))
    . exact az (ac (af rfl) (ac (af rfl) ak)) (aP rfl (ke ⟨px,py,rfl⟩ (hO.pr ks hk)))
  obtain ⟨R',g,e⟩:=tm (A:=A) (O:=O) (b:=b) hp hl (n:=n3) (w:=w) (px:=px) (py:=py) (lx:=lx) (ly:=ly) a0 a1 o0 o1 (F:=(O.filter fun t=>fx A b (ad [px,py] t)).map (ad [px,py])) (kf _ _) rfl
  refine ⟨R',?_,g⟩
  have st:aG ["shape","piece","rows","number","way","at","other","place","lacking","held"] [sh A b,.tup (O.map tupK),.lst (R.map aN),.int n]=[.fz (sh A b),.fz (.tup (O.map tupK)),.fz (.lst (R.map aN)),.fz (.int n),.no,.no,.no,.no,.no,.no]:=rfl
  have run:fj [.fz (sh A b),.fz (.tup (O.map tupK)),.fz (.lst (R.map aN)),.fz (.int n),.no,.no,.no,.no,.no,.no]=.rt (.lst (R'.map aN)):=by
    unfold fj
    refine ao (ρ1:=[.fz (sh A b),.fz (.tup (O.map tupK)),.fz (.lst (R.map aN)),.fz (.int n1),.fz (.int w),.no,.no,.no,.no,.no]) (bn (az (ac (af rfl) (ac ax ak)) d1) rfl) ?_
    refine ao (ρ1:=[.fz (sh A b),.fz (.tup (O.map tupK)),.fz (.lst (R.map aN)),.fz (.int n2),.fz (.int w),.fz (.int at_),.no,.no,.no,.no]) (bn (az (ac (af rfl) (ac (az (ac (af rfl) ak) lR) ak)) d2) rfl) ?_
    refine ao (ρ1:=[.fz (sh A b),.fz (.tup (O.map tupK)),.fz (.lst (R.map aN)),.fz (.int n3),.fz (.int w),.fz (.int at_),.fz (.int o),.no,.no,.no]) (bn (az (ac (af rfl) (ac (az (ac (af rfl) ak) lR) ak)) d3) rfl) ?_
    refine ao (ρ1:=[.fz (sh A b),.fz (.tup (O.map tupK)),.fz (.lst (R.map aN)),.fz (.int n3),.fz (.int w),.fz (.int at_),.fz (.int o),.fz (tupK [px,py]),.fz (tupK [lx,ly]),.no]) (bn (am (af rfl) (af rfl) er') rfl) ?_
    exact ao (cw cp) e
  unfold dJ;rw [st,run];rfl
theorem BE (r:List Int×List Int):aL (aN r)<=3:=by
  have h1:=dE r.1
  have h2:=dE r.2
  have h:Nat.max (aL (tupK r.1)) (Nat.max (aL (tupK r.2)) 0)<=2:=Nat.max_le.mpr ⟨h1,Nat.max_le.mpr ⟨h2,by decide⟩⟩
  show Nat.max (aL (tupK r.1)) (Nat.max (aL (tupK r.2)) 0) + 1<=3
  omega
theorem rR:∀ R:RL,bB (R.map aN)<=3
  | []=>by simp [bB]
  | r::R=>Nat.max_le.mpr ⟨BE r,rR R⟩
theorem vB {A O:KL} {b:Bool} {a0 a2 a4 a5 a6 a8 a9 a11 a12:Sl} {st T s x:D} {ds:List D} {c:Bool} (i0:aA T (.int 0)=.ok s) (i1:aA T (.int 1)=.ok x) (lx:gG [x]=.ok (.lst ds)) (hd:aL (.lst ds)<=8)
    (hl:cC [sh A b,.tup (O.map tupK),st,T]=.ok (.bl c)) (hr:cD [sh A b,.tup (O.map tupK),st,T]=.ok (.bl c)) :
    mO [a0,.fz (.tup (O.map tupK)),a2,.fz (sh A b),a4,a5,a6,.fz st,a8,a9,.fz T,a11,a12]=.nx [a0,.fz (.tup (O.map tupK)),a2,.fz (sh A b),a4,a5,a6,.fz st,a8,a9,.fz T,.fz (.tup [s,.lst ds]),.fz (.bl c)]:=by
  have eb:rf .bool (.bl c)=.ok (.bl true):=rfl
  have en:di (.bl c) (.bl c)=.ok (.bl false):=by cases c <;> rfl
  unfold mO
  refine ao (cw (az (ac (am (af rfl) ax i0) (ac (az (ac (am (af rfl) ax i1) ak) lx) ak)) (t2 _ _))) ?_
  refine ao (cw (az (ac (af rfl) (ac (af rfl) (ac (af rfl) (ac (af rfl) ak)))) (aP rfl hl))) ?_
  refine ao (aJ (ul (xG (t:=true) (bU (Dt (af rfl) eb))) (bU (am (af rfl) (az (ac (af rfl) (ac (af rfl) (ac (af rfl) (ac (af rfl) ak)))) (aP rfl hr)) en))) bb) ?_
  exact aJ (bU (am (az (ac (am (af rfl) ax i1) ak) lx) (am (af rfl) ax rfl) (ur hd rfl))) bb
end K21
namespace K21
open PySem PySem.Spec PySem.Calls PySem.W L2 Vl
theorem vC (ns:List Int) (k:Nat):∃ z:Int,dg [.lst (ns.map D.int),.int k]=.ok (.int z):=by
  by_cases h:k < ns.length
  . have ix:aA (.lst (ns.map D.int)) (.int k)=.ok (.int ns[k]):=iz (by
      unfold dh eB
      rw [if_pos (by omega),if_pos (by rw [List.length_map];omega)]
      simp [List.getElem?_eq_getElem h])
    refine ⟨ns[k],?_⟩
    have run:dW (aG ["script","k"] [.lst (ns.map D.int),.int k])=.rt (.int ns[k]):=by
      unfold dW
      exact cA (bP (bU (am (af rfl) (az (ac (af rfl) ak) eT) (by rw [oY,decide_eq_true (by rw [List.length_map];omega)]))) (bh (am (af rfl) (af rfl) ix)))
    unfold dg;rw [run];rfl
  . refine ⟨0,?_⟩
    have run:dW (aG ["script","k"] [.lst (ns.map D.int),.int k])=.rt (.int 0):=by
      unfold dW
      exact ao (aJ (bU (am (af rfl) (az (ac (af rfl) ak) eT) (by rw [oY,decide_eq_false (by rw [List.length_map];omega)]))) bb) (bh ax)
    unfold dg;rw [run];rfl
theorem vD {ns:List Int} (a c:Int):∀ d∈([.int 0]:List D)++ge (ns.map D.int) (some a) (some c),∃ x:Int,d=.int x:=by
  intro d hd
  rcases List.mem_append.mp hd with hd|hd
  . exact ⟨0,by simpa using hd⟩
  . have:=List.mem_of_mem_drop (List.mem_of_mem_take hd)
    obtain ⟨x,_,rfl⟩:=List.mem_map.mp this
    exact ⟨x,rfl⟩
theorem zw {ns:List Int} (hn:ns.length<=63) {ρ:ah} {a c:Int} (h0:ρ[0]?=some (.fz (.lst (ns.map D.int)))):(ai aD (fA (aa (fC (.int 0)) aj) bE) (cr (ab 0) (fP (fC (.int a))) (fP (fC (.int c))))) ρ=.ok (.lst ([.int 0]++ge (ns.map D.int) (some a) (some c))):=by
  have v0:ab 0 ρ=.ok (.lst (ns.map D.int)):=by unfold ab;rw [h0]
  have sl:cr (ab 0) (fP (fC (.int a))) (fP (fC (.int c))) ρ=.ok (.lst (ge (ns.map D.int) (some a) (some c))):=by
    unfold cr
    rw [v0]
    rfl
  refine am (x:=.lst [.int 0]) (az (ac ax ak) (gq (by simp))) (y:=.lst (ge (ns.map D.int) (some a) (some c))) sl ?_
  exact iy (by
    have:(ge (ns.map D.int) (some a) (some c)).length<=ns.length:=by
      unfold ge
      rw [List.length_take,List.length_drop,List.length_map]
      omega
    show 1 + _<=_
    omega)
theorem zx {A O:KL} {b:Bool} (hA:Cel A) (hO:Good O) {a0:Sl} (x:Int) (ρ:ah) (h:∃ a2 a4 a5 a6 a7 a8 a9 a10 a11 a12:Sl,ρ=[a0,.fz (.tup (O.map tupK)),a2,.fz (sh A b),a4,a5,a6,a7,a8,a9,a10,a11,a12]) :
    ∃ ρ1 ρ',ar 4 (.int x) ρ=some ρ1/\kr ρ1=.nx ρ'/\∃ a2 a4 a5 a6 a7 a8 a9 a10 a11 a12:Sl,ρ'=[a0,.fz (.tup (O.map tupK)),a2,.fz (sh A b),a4,a5,a6,a7,a8,a9,a10,a11,a12]:=by
  obtain ⟨a2,a4,a5,a6,a7,a8,a9,a10,a11,a12,rfl⟩:=h
  have lo:=hO.le
  have hp:0 < O.length:=List.length_pos_iff.mpr hO.ne
  have lO:bR [.tup (O.map tupK)]=.ok (.int O.length):=by rw [gL,List.length_map]
  obtain ⟨n,hd⟩:=me x 3 (by decide)
  have d1:=cG (m:=n) (n:=O.length) (kz (by omega) (by omega))
  have u0:0<=n % (O.length:Int):=Int.emod_nonneg _ (by omega)
  have u1:n % (O.length:Int) < O.length:=Int.emod_lt_of_pos _ (by omega)
  generalize n / (O.length:Int)=n1 at d1
  generalize n % (O.length:Int)=at_ at d1 u0 u1
  have d2:=cG (m:=n1) (n:=4) ⟨by decide,by decide⟩
  generalize n1 / 4=n2 at d2
  generalize n1 % 4=far at d2
  obtain ⟨u,v,hs⟩:=Bx (b:=b) hA hO n2
  obtain ⟨t,ht,et⟩:=mR (L:=O) u0 u1
  have hl:=ku (p:=[u,v]) ⟨u,v,rfl⟩ (hO.pr t ht)
  obtain ⟨c,c',ec⟩:=kt [u,v] t
  rw [ec] at hl
  obtain ⟨m,hm⟩:=me x 4 (by decide)
  obtain ⟨R,m',hr,gR,lR⟩:=BC (A:=A) b hO (st:=[u,v]) ⟨u,v,rfl⟩ m
  obtain ⟨R',hsp,gR'⟩:=xm (A:=A) b hO gR.pr (by omega) (fun z=>by rw [z] at lR;simp only [List.length_nil] at lR;omega) m'
  obtain ⟨p,pp,ep⟩:∃ p:List Int,Pair p/\bJ (fT (ai bV (ab 6) (fC (.int 1)))) (bI 8 (fA (aa (ai aA (ab 8) (fC (.int 0))) (aa (ai aD (ai aA (ab 8) (fC (.int 1))) (fC (.int 1))) aj)) aS)) bQ [a0,.fz (.tup (O.map tupK)),.fz (.int n2),.fz (sh A b),.fz (.int x),.fz (.int at_),.fz (.int far),.fz (tupK [u,v]),.fz (tupK [c,c']),a9,a10,a11,a12]=.nx [a0,.fz (.tup (O.map tupK)),.fz (.int n2),.fz (sh A b),.fz (.int x),.fz (.int at_),.fz (.int far),.fz (tupK [u,v]),.fz (tupK p),a9,a10,a11,a12]:=by
    cases h:decide (far=1) with
    | true=>exact ⟨[c,c' + 1],⟨_,_,rfl⟩,bP (bU (am (af rfl) ax (by rw [eZ,h]))) (cw (az (ac (am (af rfl) ax rfl) (ac (am (am (af rfl) ax rfl) ax cI) ak)) (t2 _ _)))⟩
    | false=>exact ⟨[c,c'],⟨_,_,rfl⟩,aJ (bU (am (af rfl) ax (by rw [eZ,h]))) bb⟩
  have l2:∀ a b:D,bE [a,b]=.ok (.lst [a,b]):=fun a b=>gq (by simp)
  have o1:=vB (A:=A) (O:=O) (b:=b) (a0:=a0) (a2:=.fz (.int m')) (a4:=.fz (.int x)) (a5:=.fz (.int at_)) (a6:=.fz (.int far)) (a8:=.fz (tupK p)) (a9:=.fz (.lst (R'.map aN))) (a11:=a11) (a12:=a12) (st:=tupK [u,v]) (T:=.tup [.str "stays",tupK p]) (s:=.str "stays") (x:=tupK p) (ds:=p.map D.int) rfl rfl lX (by have:=dE p;exact Nat.le_trans this (by decide)) (td hA hO ⟨u,v,rfl⟩ pp) (qP hO ⟨u,v,rfl⟩ pp)
  have o2:=vB (A:=A) (O:=O) (b:=b) (a0:=a0) (a2:=.fz (.int m')) (a4:=.fz (.int x)) (a5:=.fz (.int at_)) (a6:=.fz (.int far)) (a8:=.fz (tupK p)) (a9:=.fz (.lst (R'.map aN))) (a11:=.fz (.tup [.str "stays",.lst (p.map D.int)])) (a12:=.fz (.bl (decide (mi [u,v] p∈O) && wh A b O p))) (st:=tupK [u,v]) (T:=.tup [.str "goes",.lst (R'.map aN)]) (s:=.str "goes") (x:=.lst (R'.map aN)) (ds:=R'.map aN) rfl rfl lW (by have:=rR R';show bB (R'.map aN) + 1<=8;omega) (vx hA hO ⟨u,v,rfl⟩ gR') (tf hO ⟨u,v,rfl⟩ gR')
  refine ⟨_,[a0,.fz (.tup (O.map tupK)),.fz (.int m'),.fz (sh A b),.fz (.int x),.fz (.int at_),.fz (.int far),.fz (tupK [u,v]),.fz (tupK p),.fz (.lst (R'.map aN)),.fz (.tup [.str "goes",.lst (R'.map aN)]),.fz (.tup [.str "goes",.lst (R'.map aN)]),.fz (.bl (gd A b O [u,v] R'))],rfl,?_,_,_,_,_,_,_,_,_,_,_,rfl⟩
  unfold kr
  refine ao (cw (az (ac (af rfl) (ac ax ak)) (aP rfl hd))) ?_
  refine ao (ρ1:=[a0,.fz (.tup (O.map tupK)),.fz (.int n1),.fz (sh A b),.fz (.int x),.fz (.int at_),a6,a7,a8,a9,a10,a11,a12]) (bn (az (ac (af rfl) (ac (az (ac (af rfl) ak) lO) ak)) d1) rfl) ?_
  refine ao (ρ1:=[a0,.fz (.tup (O.map tupK)),.fz (.int n2),.fz (sh A b),.fz (.int x),.fz (.int at_),.fz (.int far),a7,a8,a9,a10,a11,a12]) (bn (az (ac (af rfl) (ac ax ak)) d2) rfl) ?_
  refine ao (cw (az (ac (af rfl) (ac (af rfl) (ac (af rfl) ak))) (aP rfl hs))) ?_
  refine ao (cw (az (ac (af rfl) (ac (am (af rfl) (af rfl) et) ak)) (aP rfl hl))) ?_
  refine ao ep ?_
  refine ao (ρ1:=[a0,.fz (.tup (O.map tupK)),.fz (.int m'),.fz (sh A b),.fz (.int x),.fz (.int at_),.fz (.int far),.fz (tupK [u,v]),.fz (tupK p),.fz (.lst (R.map aN)),a10,a11,a12]) (bn (az (ac (af rfl) (ac (af rfl) (ac (af rfl) (ac (az (ac (af rfl) (ac ax ak)) (aP rfl hm)) ak)))) (aP rfl hr)) rfl) ?_
  refine ao (cw (az (ac (af rfl) (ac (af rfl) (ac (af rfl) (ac (af rfl) ak)))) (aP rfl hsp))) ?_
  refine um (az (ac (az (ac ax (ac (af rfl) ak)) (t2 _ _)) (ac (az (ac ax (ac (af rfl) ak)) (t2 _ _)) ak)) (l2 _ _)) ?_
  simp only [bp,ar,List.set_cons_succ,List.set_cons_zero,o1,o2]
theorem law_true (ns:List Int) (hn:ns.length<=63):v_law [.lst (ns.map D.int)]=.ok (.bl true):=by
  obtain ⟨z0,hz0⟩:=vC ns 0
  obtain ⟨z1,hz1⟩:=vC ns 1
  obtain ⟨n0,hd0⟩:=me z0 1 (by decide)
  obtain ⟨n1,hd1⟩:=me z1 2 (by decide)
  obtain ⟨m0,O,hp,gO⟩:=zp n0
  obtain ⟨A,b,m1,hh,gA⟩:=Bu gO n1 4 (by decide)
  have e:aG ["script","piece","number","shape","cell","at","far","spot","place","rows","told","kept","found"] [.lst (ns.map D.int)]=[.fz (.lst (ns.map D.int)),.no,.no,.no,.no,.no,.no,.no,.no,.no,.no,.no,.no]:=rfl
  obtain ⟨ρ',e1,_⟩:=kH (h:=ar 4) (g:=kr) (fun ρ=>∃ a2 a4 a5 a6 a7 a8 a9 a10 a11 a12:Sl,ρ=[.fz (.lst (ns.map D.int)),.fz (.tup (O.map tupK)),a2,.fz (sh A b),a4,a5,a6,a7,a8,a9,a10,a11,a12]) (ds:=[.int 0]++ge (ns.map D.int) (some 2) (some 52)) (ρ:=[.fz (.lst (ns.map D.int)),.fz (.tup (O.map tupK)),.fz (.int m1),.fz (sh A b),.no,.no,.no,.no,.no,.no,.no,.no,.no]) ⟨_,_,_,_,_,_,_,_,_,_,rfl⟩ (by
    intro d hd ρ p
    obtain ⟨x,rfl⟩:=vD 2 52 d hd
    exact zx gA gO x ρ p)
  have run:on [.fz (.lst (ns.map D.int)),.no,.no,.no,.no,.no,.no,.no,.no,.no,.no,.no,.no]=.rt (.bl true):=by
    unfold on
    refine ao (ρ1:=[.fz (.lst (ns.map D.int)),.fz (.tup (O.map tupK)),.fz (.int m0),.no,.no,.no,.no,.no,.no,.no,.no,.no,.no]) (bn (az (ac (az (ac (az (ac (af rfl) (ac ax ak)) (aP rfl hz0)) (ac ax ak)) (aP rfl hd0)) ak) (aP rfl hp)) rfl) ?_
    refine ao (ρ1:=[.fz (.lst (ns.map D.int)),.fz (.tup (O.map tupK)),.fz (.int m1),.fz (sh A b),.no,.no,.no,.no,.no,.no,.no,.no,.no]) (bn (az (ac (az (ac (az (ac (af rfl) (ac ax ak)) (aP rfl hz1)) (ac ax ak)) (aP rfl hd1)) (ac (af rfl) (ac ax ak))) (aP rfl hh)) rfl) ?_
    exact ao (iw (um (zw hn rfl) e1)) (bh ax)
  unfold v_law;rw [e,run];rfl
end K21
open PySem PySem.W PyProof.Rows
set_option maxRecDepth 100000 in
set_option maxHeartbeats 0 in
theorem PySem.Challenge.cw_edgemoss_k21_papers_of_staying_judged_holds : PySem.Challenge.rw_edgemoss_k21_papers_of_staying_judged.Holds := by
  w_on;o_law;k_head;(case hw=>w_witness2)
  k_fill
  refine Vl.walk_v (l:=PySem.Challenge.rw_edgemoss_k21_papers_of_staying_judged) (k:=7) (v:=K21.v_law) rfl rfl ⟨rfl,by decide,by decide⟩ (fun w h Y=>PySem.W.kIn_of Y) ?V ?F
  case V=>exact K21.law_true
  case F =>
    intro w mg fa h KX G hmg
    refine' K21.all_mk KX G hmg ?a_cell_moved ?l_cell_moved ?d_cell_moved ?k_cell_moved ?a_cell_less ?l_cell_less ?d_cell_less ?k_cell_less ?a_both ?l_both ?d_both ?k_both ?a_outside ?l_outside ?d_outside ?k_outside ?a_within ?l_within ?d_within ?k_within ?a_moved ?l_moved ?d_moved ?k_moved ?a_laid ?l_laid ?d_laid ?k_laid ?a_whole_at ?l_whole_at ?d_whole_at ?k_whole_at ?a_lacking_at ?l_lacking_at ?d_lacking_at ?k_lacking_at ?a_goes_right ?l_goes_right ?d_goes_right ?k_goes_right ?a_left_right ?l_left_right ?d_left_right ?k_left_right ?a__law_cell ?l__law_cell ?d__law_cell ?k__law_cell ?a__law_deal ?l__law_deal ?d__law_deal ?k__law_deal ?a__law_piece ?l__law_piece ?d__law_piece ?k__law_piece ?a__law_kept ?l__law_kept ?d__law_kept ?k__law_kept ?a__law_base ?l__law_base ?d__law_base ?k__law_base ?a__law_heap ?l__law_heap ?d__law_heap ?k__law_heap ?a__law_spot ?l__law_spot ?d__law_spot ?k__law_spot ?a__law_has ?l__law_has ?d__law_has ?k__law_has ?a__law_led ?l__law_led ?d__law_led ?k__law_led ?a__law_less ?l__law_less ?d__law_less ?k__law_less ?a__law_whole_at ?l__law_whole_at ?d__law_whole_at ?k__law_whole_at ?a__law_right ?l__law_right ?d__law_right ?k__law_right ?a__law_rows ?l__law_rows ?d__law_rows ?k__law_rows ?a__law_exchanged ?l__law_exchanged ?d__law_exchanged ?k__law_exchanged ?a__law_spoilt ?l__law_spoilt ?d__law_spoilt ?k__law_spoilt ?a_law ?l_law ?d_law ?k_law ?z_all ?z_bool ?z_divmod ?z_isinstance ?z_len ?z_list ?z_max ?z_min ?z_range ?z_set ?z_sorted ?z_tuple ?z_zip
    (case a_cell_moved=>k_is)
    (case l_cell_moved=>k_is)
    (case d_cell_moved=>k_is)
    (case k_cell_moved=>k_is)
    (case a_cell_less=>k_is)
    (case l_cell_less=>k_is)
    (case d_cell_less=>k_is)
    (case k_cell_less=>k_is)
    (case a_both=>k_is)
    (case l_both=>k_is)
    (case d_both=>k_is)
    (case k_both=>k_is)
    (case a_outside=>k_is)
    (case l_outside=>k_is)
    (case d_outside=>k_is)
    (case k_outside=>k_is)
    (case a_within=>k_is)
    (case l_within=>k_is)
    (case d_within=>k_is)
    (case k_within=>k_is)
    (case a_moved=>k_is)
    (case l_moved=>k_is)
    (case d_moved=>k_is)
    (case k_moved=>k_is)
    (case a_laid=>k_is)
    (case l_laid=>k_is)
    (case d_laid=>k_is)
    (case k_laid=>k_is)
    (case a_whole_at=>k_is)
    (case l_whole_at=>k_is)
    (case d_whole_at=>k_is)
    (case k_whole_at=>k_is)
    (case a_lacking_at=>k_is)
    (case l_lacking_at=>k_is)
    (case d_lacking_at=>k_is)
    (case k_lacking_at=>k_is)
    (case a_goes_right=>k_is)
    (case l_goes_right=>k_is)
    (case d_goes_right=>k_is)
    (case k_goes_right=>k_is)
    (case a_left_right=>k_is)
    (case l_left_right=>k_is)
    (case d_left_right=>k_is)
    (case k_left_right=>k_is)
    (case a__law_cell=>k_is)
    (case l__law_cell=>k_is)
    (case d__law_cell=>k_is)
    (case k__law_cell=>k_is)
    (case a__law_deal=>k_is)
    (case l__law_deal=>k_is)
    (case d__law_deal=>k_is)
    (case k__law_deal=>k_is)
    (case a__law_piece=>k_is)
    (case l__law_piece=>k_is)
    (case d__law_piece=>k_is)
    (case k__law_piece=>k_is)
    (case a__law_kept=>k_is)
    (case l__law_kept=>k_is)
    (case d__law_kept=>k_is)
    (case k__law_kept=>k_is)
    (case a__law_base=>k_is)
    (case l__law_base=>k_is)
    (case d__law_base=>k_is)
    (case k__law_base=>k_is)
    (case a__law_heap=>k_is)
    (case l__law_heap=>k_is)
    (case d__law_heap=>k_is)
    (case k__law_heap=>k_is)
    (case a__law_spot=>k_is)
    (case l__law_spot=>k_is)
    (case d__law_spot=>k_is)
    (case k__law_spot=>k_is)
    (case a__law_has=>k_is)
    (case l__law_has=>k_is)
    (case d__law_has=>k_is)
    (case k__law_has=>k_is)
    (case a__law_led=>k_is)
    (case l__law_led=>k_is)
    (case d__law_led=>k_is)
    (case k__law_led=>k_is)
    (case a__law_less=>k_is)
    (case l__law_less=>k_is)
    (case d__law_less=>k_is)
    (case k__law_less=>k_is)
    (case a__law_whole_at=>k_is)
    (case l__law_whole_at=>k_is)
    (case d__law_whole_at=>k_is)
    (case k__law_whole_at=>k_is)
    (case a__law_right=>k_is)
    (case l__law_right=>k_is)
    (case d__law_right=>k_is)
    (case k__law_right=>k_is)
    (case a__law_rows=>k_is)
    (case l__law_rows=>k_is)
    (case d__law_rows=>k_is)
    (case k__law_rows=>k_is)
    (case a__law_exchanged=>k_is)
    (case l__law_exchanged=>k_is)
    (case d__law_exchanged=>k_is)
    (case k__law_exchanged=>k_is)
    (case a__law_spoilt=>k_is)
    (case l__law_spoilt=>k_is)
    (case d__law_spoilt=>k_is)
    (case k__law_spoilt=>k_is)
    (case a_law=>k_is)
    (case l_law=>k_is)
    (case d_law=>k_is)
    (case k_law=>k_is)
    (case z_all=>k_is)
    (case z_bool=>k_is)
    (case z_divmod=>k_is)
    (case z_isinstance=>k_is)
    (case z_len=>k_is)
    (case z_list=>k_is)
    (case z_max=>k_is)
    (case z_min=>k_is)
    (case z_range=>k_is)
    (case z_set=>k_is)
    (case z_sorted=>k_is)
    (case z_tuple=>k_is)
    (case z_zip=>k_is)
