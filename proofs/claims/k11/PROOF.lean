import PyProof.Rows.All
import Wide.All
import OpenK.AllK
import Wide.FinOn
import Lean
import PyProof.EqAt
import PyProof.EqKinds
import PyProof.TupleCall
import PyProof.NeKinds
import PyProof.CompUse
import PyProof.NsDelKeeps
import KE.KTryMore
import KE.KIsAll
import KE.RegKTryMore
import PyProof.SetNew
import PyProof.TupleKey
import PyProof.Rows.SetFrom
import PyProof.WalksMore
import PyProof.CollectWalk
import PyProof.FactsAll.set
import PyProof.FactsAll.set_1
import PyProof.FactsAll.set_2
import KE.KSortTup
import PyProof.ListRange
import PyProof.DictRoadsH
import PyProof.WalksEnum
import PyProof.EnumMake
import PyProof.Rows.EnumRows
import KE.KRevIter
import PyProof.DictWalks
import PyProof.ZipIter
import PyProof.Draws
import PyProof.WalkInts
import PyProof.FactsAll.dict_1
import PyProof.FactsAll.tuple_2
import PyProof.ConsumeS
import KE.KLam
import KE.KMinKey
import KE.KNestM
import PyProof.ExcClass3
import OpenK.KCls
import OpenK.KMake
import PyProof.Rows.FStr
import PyProof.StrBlockG
import PyProof.ListMulAny
import PyProof.Rows.ListMulArg
import PyProof.CallStr
import PyProof.Rows.Range3
import PyProof.Rows.TupDisplay
import PySem.Challenge.RW_edgemoss_k11_pieces_refused
set_option Elab.async false
set_option linter.all false
set_option maxRecDepth 100000
set_option maxHeartbeats 4000000
namespace L2
open PySem PySem.Spec PyProof.Rows
noncomputable abbrev Key:=Sum Int Str
noncomputable def keyIs:Key->Value->Bool
  | .inl k,v=>Value.isInt k v
  | .inr x,v=>Value.isStrOf x v
noncomputable def keyH (w:World):Key->Int
  | .inl k=>hashInt k
  | .inr x=>hashStr w x
theorem keyIs_shape:∀ {k:Key} {v:Value},keyIs k v=true->(∃ i t,k=Sum.inl i/\v=Value.int i t)∨(∃ x t,k=Sum.inr x/\v=Value.str x t)
  | .inl i,v,h=>by
    obtain ⟨t,e⟩:=Value.isInt_shape (k:=i) (v:=v) h
    exact .inl ⟨i,t,rfl,e⟩
  | .inr x,v,h=>by
    obtain ⟨t,e⟩:=Value.isStrOf_shape (x:=x) (v:=v) h
    exact .inr ⟨x,t,rfl,e⟩
theorem key_ll (a b:Int):decide ((Sum.inl a:Key)=Sum.inl b)=(a == b):=by
  by_cases e:a=b
  . subst e;simp
  . have h:¬ (Sum.inl a:Key)=Sum.inl b:=fun q=>e (Sum.inl.inj q)
    rw [decide_eq_false h]
    exact (beq_eq_false_iff_ne.mpr e).symm
theorem key_rr (a b:Str):decide ((Sum.inr a:Key)=Sum.inr b)=decide (a=b):=by
  by_cases e:a=b
  . subst e;simp
  . have h:¬ (Sum.inr a:Key)=Sum.inr b:=fun q=>e (Sum.inr.inj q)
    rw [decide_eq_false h,decide_eq_false e]
theorem key_lr (a:Int) (b:Str):decide ((Sum.inl a:Key)=Sum.inr b)=false:=decide_eq_false (fun q=>nomatch q)
theorem key_rl (a:Str) (b:Int):decide ((Sum.inr a:Key)=Sum.inl b)=false:=decide_eq_false (fun q=>nomatch q)
noncomputable def mixKind (prog:Program) (w:World):PySem.KeyKind prog w Key where
  is:=keyIs
  hash:=keyH w
  inj:=fun v a b ha hb=>by
    rcases keyIs_shape ha with ⟨i,t,rfl,rfl⟩|⟨x,t,rfl,rfl⟩
    . rcases keyIs_shape hb with ⟨j,u,rfl,e⟩|⟨y,u,rfl,e⟩
      . injection e with e1 _;rw [e1]
      . exact nomatch e
    . rcases keyIs_shape hb with ⟨j,u,rfl,e⟩|⟨y,u,rfl,e⟩
      . exact nomatch e
      . injection e with e1 _;rw [e1]
  byValue := fun k v h => by
    rcases keyIs_shape h with ⟨i,t,rfl,rfl⟩|⟨x,t,rfl,rfl⟩ <;> rfl
  pyHash:=fun hv h=>by
    rcases keyIs_shape hv with ⟨i,t,rfl,rfl⟩|⟨x,t,rfl,rfl⟩
    . exact wpAny_pyHash_int h
    . exact wpAny_pyHash_str h
  eqBool:=fun hu hv h=>by
    rcases keyIs_shape hu with ⟨i,t,rfl,rfl⟩|⟨x,t,rfl,rfl⟩
    . rcases keyIs_shape hv with ⟨j,u,rfl,rfl⟩|⟨y,u,rfl,rfl⟩
      . rw [key_ll] at h;exact wpAny_eqBool_int h
      . rw [key_lr] at h;exact SeqAt.EqAt.int_str i t y u _ _ _ _ h
    . rcases keyIs_shape hv with ⟨j,u,rfl,rfl⟩|⟨y,u,rfl,rfl⟩
      . rw [key_rl] at h;exact SeqAt.EqAt.str_int x t j u _ _ _ _ h
      . rw [key_rr] at h;exact wpAny_eqBool_str h
  «strs»:=fun k x t v h=>by
    rcases keyIs_shape h with ⟨i,u,rfl,e⟩|⟨y,u,rfl,e⟩
    . exact nomatch e
    . injection e with e1 _
      subst e1
      cases v <;> rfl
end L2
namespace L2
open PySem PySem.Spec PyProof.Rows
inductive V where
  | non|bl (b:Bool)|int (i:Int)|str (x:Str)|byt (b:Array UInt8)|flt (b:UInt64)|ref (a:Addr)|ty (n:String)
  deriving DecidableEq
noncomputable def RelV:V->Value->Prop
  | .non,u=>u=Value.none
  | .bl b,u=>u=Value.bool b
  | .int i,u=>∃ t,u=Value.int i t
  | .str x,u=>∃ t,u=Value.str x t
  | .byt b,u=>∃ t,u=Value.bytes b t
  | .flt b,u=>∃ t,u=Value.float b t
  | .ref a,u=>u=Value.ref a
  | .ty n,u=>u=Value.type n
noncomputable abbrev Vals:List V->List Value->Prop:=Paired RelV
theorem Vals.length {xs:List V} {us:List Value} (r:Vals xs us):xs.length=us.length:=Paired.length r
theorem Vals.get:∀ {xs:List V} {us:List Value} {i:Nat} {x:V},Vals xs us->xs[i]?=some x->∃ u,us[i]?=some u/\RelV x u
  | _,_,_,_,.nil,e=>by simp at e
  | _,_,0,_,.cons r _,e=>by simp at e;subst e;exact ⟨_,rfl,r⟩
  | _,_,i + 1,x,.cons _ t,e=>by
    obtain ⟨u,h1,h2⟩:=Vals.get (i:=i) (x:=x) t (by simpa using e)
    exact ⟨u,by simpa using h1,h2⟩
theorem Vals.set {x:V} {u:Value} (r:RelV x u):∀ {xs:List V} {us:List Value} (i:Nat),Vals xs us->Vals (xs.set i x) (us.set i u)
  | _,_,_,.nil=>.nil
  | _,_,0,.cons _ t=>.cons r t
  | _,_,i + 1,.cons q t=>.cons q (Vals.set r i t)
theorem Vals.append:∀ {xs ys:List V} {us ws:List Value},Vals xs us->Vals ys ws->Vals (xs++ys) (us++ws)
  | _,_,_,_,.nil,s=>s
  | _,_,_,_,.cons r t,s=>.cons r (Vals.append t s)
theorem Vals.take:∀ {xs:List V} {us:List Value} (n:Nat),Vals xs us->Vals (xs.take n) (us.take n)
  | _,_,0,_=>.nil
  | _,_,_ + 1,.nil=>.nil
  | _,_,n + 1,.cons r t=>.cons r (Vals.take n t)
theorem Vals.drop:∀ {xs:List V} {us:List Value} (n:Nat),Vals xs us->Vals (xs.drop n) (us.drop n)
  | _,_,0,r=>r
  | _,_,_ + 1,.nil=>.nil
  | _,_,n + 1,.cons _ t=>Vals.drop n t
theorem Vals.none_of:∀ {xs:List V} {us:List Value} {i:Nat},Vals xs us->xs[i]?=none->us[i]?=none:=fun {xs us i} r e=>by
  have h1:=r.length
  have h2:xs.length<=i:=List.getElem?_eq_none_iff.mp e
  exact List.getElem?_eq_none_iff.mpr (by lia)
noncomputable def RelO:Option V->Option Value->Prop
  | some v,some u=>RelV v u
  | none,none=>True
  | _,_=>False
noncomputable def KV {κ:Type}:List (κ×V)->List (κ×Value)->Prop:=Paired fun (p:κ×V) (q:κ×Value)=>p.1=q.1/\RelV p.2 q.2
noncomputable def kV:Key->V
  | .inl i=>.int i
  | .inr x=>.str x
inductive HO where
  /-- a list -/
  | lst (xs:List V)
  /-- a tuple (never changes) -/
  | tup (xs:List V)
  /-- a dict whose keys are ints and texts;one whose keys are tuples of ints and texts (the empty one is both) -/
  | dK (kvs:List (Key×V))|dT (kvs:List (List Key×V))
  /-- a set of ints: its members,its size -/
  | set (S:Int->Bool) (n:Nat)
  /-- an instance of the class at C,its dict at dx,its attributes -/
  | ins (C dx:Addr) (fs:List (Str×V))
  /-- the dict of the instance at x -/
  | own (x:Addr)
  /-- the dict of an exception -/
  | xd (fs:List (Str×V))
  /-- a bound method,f of x -/
  | met (f x:Addr)
  /-- a range object lo,lo + 1,.. below hi -/
  | rng (lo hi:Int)
  /-- a thing that is known to the object (the script;a dict while a loop walks it): read,never written while it is so -/
  | frz (o:Obj) (u:HO)
  /-- a code object's table -/
  | tbl (ps:Array Value)
  | tab (q:Str)|cod (q:Str)
  /-- any other thing,by what is true of its one object (a def of one's own: SetO a S n:=HO.ext fun h=>..) -/
  | ext (φ:Heap->Prop)
noncomputable abbrev Hp:=Addr->Option HO
noncomputable def upd (H:Hp) (a:Addr) (o:HO):Hp:=fun b=>if b=a then some o else H b
theorem upd_same {H:Hp} {a:Addr} {o:HO}:upd H a o a=some o:=by unfold upd;rw [if_pos rfl]
theorem upd_ne {H:Hp} {a b:Addr} {o:HO} (h:b≠a):upd H a o b=H b:=by unfold upd;rw [if_neg h]
theorem ne_of {H:Hp} {a b:Addr} {o u:HO} (h:H a=some o) (h':H b=some u) (d:o≠u):a≠b:=by
  intro e;subst e;rw [h] at h';exact d (Option.some.inj h')
theorem ne_of_none {H:Hp} {a b:Addr} {o:HO} (h:H a=some o) (h':H b=none):a≠b:=by
  intro e;subst e;rw [h] at h';cases h'
section
variable (P:Program) (w:World)
noncomputable def ObjOk (H:Hp) (h:Heap) (a:Addr):HO->Prop
  | .lst xs=>xs.length<=sizeLine/\∃ (its:List Value) (n:Nat),Vals xs its/\h.get? a=some { cls:=.type "list",data:=.seq its.toArray n }
  | .tup xs=>xs.length<=sizeLine/\∃ its:List Value,Vals xs its/\IsTup h a its.toArray
  | .dK kvs=>kvs.length<=sizeLine/\(a == sysModules)=false/\∃ vs,KV kvs vs/\h.DictOf (mixKind P w) a vs
  | .dT kvs=>kvs.length<=sizeLine/\(a == sysModules)=false/\∃ xs:List (List Key×Addr×Value),
      Paired (fun (p:List Key×V) (q:List Key×Addr×Value)=>p.1=q.1/\H q.2.1=some (.tup (p.1.map kV))/\RelV p.2 q.2.2) kvs xs /\
      ∃ o es ep,h.get? a=some o/\o.ExactDict/\o.data=.dict es ep/\es.toList=xs.map (entryOfKey (tupleKind (mixKind P w)))/\(xs.map (·.1)).Nodup
  | .set S n=>h.SetOf (intKind P w) a S n
  | .ins C dx fs=>H dx=some (.own a)/\fs.length<=1000/\dx≠a/\h.get? a=some (PySem.W.instObj C dx) /\
      ∃ mA,h.Ns1 dx mA/\(∀ f,RelO (fs.lookup f) (mA f))/\PySem.Within mA (fs.map (·.1))
  | .own _=>∃ o,h.get? a=some o
  | .xd fs=>∃ mA,h.Ns1 a mA/\∀ f,RelO (fs.lookup f) (mA f)
  | .rng lo hi=>∃ t u v,h.get? a=some { cls:=.type "range",data:=.fields #[.int lo t,.int hi u,.int 1 v] }
  | .frz o u=>h.get? a=some o/\ObjOk H h a u
  | .tbl ps=>h.get? a=some { cls:=.none,data:=.fields ps }
  | .tab q=>∃ ps:Array Value,h.get? a=some { cls:=.none,data:=.fields ps }/\TriplesOk ps.toList/\∀ pos v,codeAmong pos ps.toList=some v->∃ c,v=.ref c/\H c=some (.cod q)
  | .cod q=>∃ o vs t,h.get? a=some o/\o.data=.fields vs/\vs[1]?=some (.str q t)
  | .met f x=>h.get? a=some (PySem.W.methodObj (.ref f) (.ref x))
  | .ext φ=>φ h/\(∃ o,h.get? a=some o)/\∀ h1 h2:Heap,φ h1->(∀ o,h1.get? a=some o->h2.get? a=some o)->φ h2
noncomputable def HOk (H:Hp) (h:Heap):Prop:=∀ a o,H a=some o->ObjOk P w H h a o
end
section
variable {P:Program} {w:World} {H H':Hp} {h h':Heap} {a:Addr} {o:HO}
theorem ObjOk.lt (x:ObjOk P w H h a o):a < h.objs.size:=by
  cases o with
  | lst xs=>obtain ⟨_,_,_,_,e⟩:=x;exact Heap.lt_size e
  | tup xs=>obtain ⟨_,_,_,p⟩:=x;exact p.lt
  | dK kvs=>obtain ⟨_,_,_,_,o,_,_,e,_⟩:=x;exact Heap.lt_size e
  | dT kvs=>obtain ⟨_,_,_,_,o,_,_,e,_⟩:=x;exact Heap.lt_size e
  | set S n=>obtain ⟨o,_,_,_,e,_⟩:=x;exact Heap.lt_size e
  | ins C dx fs=>obtain ⟨_,_,_,e,_⟩:=x;exact Heap.lt_size e
  | own y=>obtain ⟨_,e⟩:=x;exact Heap.lt_size e
  | xd fs=>obtain ⟨_,⟨_,_,_,e,_⟩,_⟩:=x;exact Heap.lt_size e
  | rng lo hi=>obtain ⟨_,_,_,e⟩:=x;exact Heap.lt_size e
  | frz ob u=>obtain ⟨e,_⟩:=x;exact Heap.lt_size e
  | tbl ps=>exact Heap.lt_size (show h.get? a=some _ from x)
  | tab q=>obtain ⟨_,e,_⟩:=x;exact Heap.lt_size e
  | cod q=>obtain ⟨_,_,_,e,_⟩:=x;exact Heap.lt_size e
  | met f y=>exact Heap.lt_size (show h.get? a=some _ from x)
  | ext φ=>obtain ⟨_,⟨_,e⟩,_⟩:=x;exact Heap.lt_size e
theorem Paired.mapP {α β:Type} {F G:α->β->Prop}:∀ {l₁:List α} {l₂:List β},Paired F l₁ l₂->(∀ a b,F a b->G a b)->Paired G l₁ l₂
  | _,_,.nil,_=>.nil
  | _,_,.cons r t,f=>.cons (f _ _ r) (Paired.mapP t f)
theorem ObjOk.stay (x:ObjOk P w H h a o) (k:∀ b u,(b=a∨H b=some (.own a))->h.get? b=some u->h'.get? b=some u)
    (ho:∀ b,H b=some (.own a)->H' b=some (.own a)) (ht:∀ b xs,H b=some (.tup xs)->H' b=some (.tup xs)) (hcod:∀ b q,H b=some (.cod q)->H' b=some (.cod q)):ObjOk P w H' h' a o:=by
  induction o with
  | lst xs=>obtain ⟨z,its,n,r,e⟩:=x;exact ⟨z,its,n,r,k _ _ (.inl rfl) e⟩
  | tup xs=>obtain ⟨z,its,r,ob,e,c⟩:=x;exact ⟨z,its,r,ob,k _ _ (.inl rfl) e,c⟩
  | dK kvs=>obtain ⟨z,y,vs,r,ob,es,ep,e,c⟩:=x;exact ⟨z,y,vs,r,ob,es,ep,k _ _ (.inl rfl) e,c⟩
  | dT kvs =>
    obtain ⟨z,y,xs,r,ob,es,ep,e,c⟩:=x
    exact ⟨z,y,xs,Paired.mapP r fun p q z=>⟨z.1,ht _ _ z.2.1,z.2.2⟩,ob,es,ep,k _ _ (.inl rfl) e,c⟩
  | set S n=>obtain ⟨ob,es,ep,t,e,c⟩:=x;exact ⟨ob,es,ep,t,k _ _ (.inl rfl) e,c⟩
  | ins C dx fs =>
    obtain ⟨d,z,ne,e,mA,⟨od,es,ep,e2,c⟩,r⟩:=x
    exact ⟨ho _ d,z,ne,k _ _ (.inl rfl) e,mA,⟨od,es,ep,k _ _ (.inr d) e2,c⟩,r⟩
  | own y=>obtain ⟨ob,e⟩:=x;exact ⟨ob,k _ _ (.inl rfl) e⟩
  | xd fs=>obtain ⟨mA,⟨od,es,ep,e,c⟩,r⟩:=x;exact ⟨mA,⟨od,es,ep,k _ _ (.inl rfl) e,c⟩,r⟩
  | rng lo hi=>obtain ⟨t,u,v,e⟩:=x;exact ⟨t,u,v,k _ _ (.inl rfl) e⟩
  | frz ob u ih=>obtain ⟨e,q⟩:=x;exact ⟨k _ _ (.inl rfl) e,ih q⟩
  | tbl ps =>
    have e:h.get? a=some { cls:=.none,data:=.fields ps }:=x
    show h'.get? a=some { cls:=.none,data:=.fields ps }
    exact k a _ (.inl rfl) e
  | tab q =>
    obtain ⟨ps,e,t,c⟩:=x
    exact ⟨ps,k _ _ (.inl rfl) e,t,fun pos v z=>let ⟨c',e1,e2⟩:=c pos v z;⟨c',e1,hcod _ _ e2⟩⟩
  | cod q=>obtain ⟨o,vs,t,e,r⟩:=x;exact ⟨o,vs,t,k _ _ (.inl rfl) e,r⟩
  | met f y =>
    have e:h.get? a=some (PySem.W.methodObj (.ref f) (.ref y)):=x
    show h'.get? a=some (PySem.W.methodObj (.ref f) (.ref y))
    exact k a _ (.inl rfl) e
  | ext φ=>obtain ⟨p,⟨o,e⟩,st⟩:=x;exact ⟨st _ _ p fun o q=>k _ _ (.inl rfl) q,⟨o,k _ _ (.inl rfl) e⟩,st⟩
theorem HOk.lt (x:HOk P w H h) (e:H a=some o):a < h.objs.size:=(x a o e).lt
theorem HOk.fresh (x:HOk P w H h) (e:h.objs.size<=a):H a=none:=by
  cases q:H a with
  | none=>rfl
  | some u=>exact absurd (Nat.lt_of_lt_of_le (x.lt q) e) (Nat.lt_irrefl _)
theorem HOk.kept (x:HOk P w H h) (k:∀ b u,h.get? b=some u->h'.get? b=some u):HOk P w H h':=fun a o e =>
  (x a o e).stay (fun b u _ q=>k b u q) (fun _ q=>q) (fun _ _ q=>q) fun _ _ q=>q
theorem HOk.laid (x:HOk P w H h) (k:∀ b u,h.get? b=some u->h'.get? b=some u) (hp:h.objs.size<=a) (new:ObjOk P w (upd H a o) h' a o):HOk P w (upd H a o) h':=fun b u e=>by
  have hn:=x.fresh hp
  by_cases hb:b=a
  . subst hb;rw [upd_same] at e;cases e;exact new
  . rw [upd_ne hb] at e
    exact (x b u e).stay (fun c v _ q=>k c v q) (fun c q=>by rw [upd_ne (ne_of_none q hn)];exact q) (fun c xs q=>by rw [upd_ne (ne_of_none q hn)];exact q) fun c xs q=>by rw [upd_ne (ne_of_none q hn)];exact q
end
noncomputable def Rd (H:Hp) (a:Addr) (u:HO):Prop:=H a=some u∨∃ o,H a=some (.frz o u)
theorem Rd.ok {P:Program} {w:World} {H:Hp} {h:Heap} {a:Addr} {u:HO} (r:Rd H a u) (x:HOk P w H h):ObjOk P w H h a u:=by
  rcases r with r|⟨o,r⟩
  . exact x a u r
  . obtain ⟨_,q⟩:=x a _ r
    exact q
noncomputable def Mut:Option HO->Prop
  | some (.lst _)=>True
  | some (.dK _)=>True
  | some (.dT _)=>True
  | some (.set _ _)=>True
  | some (.ins _ _ _)=>True
  | some (.ext _)=>True
  | some (.tab _)=>True
  | _=>False
section
variable {P:Program} {w:World} {H:Hp} {h h':Heap} {x e:Addr} {o':HO}
theorem HOk.write (ok:HOk P w H h) (mu:Mut (H x)) (he:e=x∨H e=some (.own x)) (k:∀ b u,b≠e->h.get? b=some u->h'.get? b=some u) (heo:∃ u,h'.get? e=some u)
    (new:ObjOk P w (upd H x o') h' x o'):HOk P w (upd H x o') h':=fun b u q=>by
  have nown:∀ c y,H c=some (.own y)->c≠x:=fun c y r z=>by subst z;rw [r] at mu;exact mu
  have ntup:∀ c xs,H c=some (.tup xs)->c≠x:=fun c xs r z=>by subst z;rw [r] at mu;exact mu
  have ncod:∀ c q,H c=some (.cod q)->c≠x:=fun c q r z=>by subst z;rw [r] at mu;exact mu
  by_cases hb:b=x
  . subst hb;rw [upd_same] at q;cases q;exact new
  . rw [upd_ne hb] at q
    by_cases hbe:b=e
    . have q':H b=some (.own x):=by
        rcases he with z|z
        . exact absurd (hbe.trans z) hb
        . rw [hbe];exact z
      rw [q] at q';cases q'
      obtain ⟨v,hv⟩:=heo
      exact ⟨v,by rw [hbe];exact hv⟩
    . refine (ok b u q).stay (fun c v hc r=>k c v ?_ r) (fun c r=>by rw [upd_ne (nown c b r)];exact r) (fun c xs r=>by rw [upd_ne (ntup c xs r)];exact r) fun c q r=>by rw [upd_ne (ncod c q r)];exact r
      rcases hc with rfl|hc
      . exact hbe
      . rintro rfl
        rcases he with z|z
        . exact nown c b hc z
        . rw [hc] at z;cases z;exact hb rfl
end
structure Un (fs ex:List Addr) (H H':Hp) (h h':Heap):Prop where
  keep:∀ b o,h.get? b=some o->H b=none->b∉fs->b∉ex->h'.get? b=some o
  slot:∀ b o,h.get? b=some o->H b=none->b∈fs->b∉ex->∃ sl,h'.get? b=some { o with slots:=sl }
  free:∀ b o,h.get? b=some o->H b=none->b∉ex->H' b=none
  there:∀ b o,h.get? b=some o->b∉ex->∃ o',h'.get? b=some o'
  tups:∀ b xs,H b=some (.tup xs)->H' b=some (.tup xs)
  frzs:∀ b o u,H b=some (.frz o u)->H' b=some (.frz o u)
  tbls:∀ b ps,H b=some (.tbl ps)->∃ more,H' b=some (.tbl (ps++more))
section
variable {fs fs' ex ex':List Addr} {H H1 H2:Hp} {h h1 h2 h':Heap} {a x e:Addr} {o:HO}
theorem Un.any (u:Un fs ex H H1 h h1) {b:Addr} {ob:Obj} (q:h.get? b=some ob) (n:H b=none) (hx:b∉ex):∃ sl,h1.get? b=some { ob with slots:=sl }:=by
  by_cases hb:b∈fs
  . exact u.slot b ob q n hb hx
  . exact ⟨ob.slots,u.keep b ob q n hb hx⟩
theorem Un.kept (k:∀ b u,h.get? b=some u->h'.get? b=some u):Un fs ex H H h h' :=
  ⟨fun b ob q _ _ _=>k b ob q,fun b ob q _ _ _=>⟨ob.slots,k b ob q⟩,fun _ _ _ n _=>n,fun b ob q _=>⟨ob,k b ob q⟩,fun _ _ q=>q,fun _ _ _ q=>q,fun _ ps q=>⟨#[],by rw [q];simp⟩⟩
theorem Un.refl:Un fs ex H H h h:=Un.kept fun _ _ q=>q
theorem Un.laid (k:∀ b u,h.get? b=some u->h'.get? b=some u) (hp:h.objs.size<=a) (hn:H a=none):Un fs ex H (upd H a o) h h' where
  keep:=fun b u q _ _ _=>k b u q
  slot:=fun b u q _ _ _=>⟨u.slots,k b u q⟩
  free:=fun b u q n _=>by rw [upd_ne (Nat.ne_of_lt (Nat.lt_of_lt_of_le (Heap.lt_size q) hp))];exact n
  there:=fun b u q _=>⟨u,k b u q⟩
  tups:=fun b xs q=>by rw [upd_ne (ne_of_none q hn)];exact q
  frzs:=fun b u xs q=>by rw [upd_ne (ne_of_none q hn)];exact q
  tbls:=fun b ps q=>⟨#[],by rw [upd_ne (ne_of_none q hn),q];simp⟩
theorem Un.write (mu:Mut (H x)) (he:e=x∨H e=some (.own x)) (k:∀ b u,b≠e->h.get? b=some u->h'.get? b=some u) (heo:∃ u,h'.get? e=some u):Un fs ex H (upd H x o) h h':=by
  have hx:∀ b,H b=none->b≠x:=fun b n z=>by subst z;rw [n] at mu;exact mu
  have hb:∀ b,H b=none->b≠e:=fun b n z=>by
    subst z
    rcases he with r|r
    . exact hx b n r
    . rw [n] at r;cases r
  have hm:∀ b u,H b=some u->¬ Mut (some u)->b≠x:=fun b u q nm z=>by subst z;rw [q] at mu;exact nm mu
  refine ⟨fun b u q n _ _=>k b u (hb b n) q,fun b u q n _ _=>⟨u.slots,k b u (hb b n) q⟩,fun b u q n _=>by rw [upd_ne (hx b n)];exact n,fun b u q _=>?_,
    fun b xs q=>by rw [upd_ne (hm b _ q fun z=>z)];exact q,fun b u xs q=>by rw [upd_ne (hm b _ q fun z=>z)];exact q,fun b ps q=>⟨#[],by rw [upd_ne (hm b _ q fun z=>z),q];simp⟩⟩
  by_cases hbe:b=e
  . subst hbe;exact heo
  . exact ⟨u,k b u hbe q⟩
end
noncomputable def trk (h:Heap) (H:Hp):List Addr:=(List.range h.objs.size).filter fun a=>(H a).isSome
noncomputable def hidT (h:Heap) (H:Hp):Heap:=PySem.W.hideAll h (trk h H)
theorem hidT_size (h:Heap) (H:Hp):(hidT h H).objs.size=h.objs.size:=PySem.W.hideAll_size _ _
theorem hidT_get {h:Heap} {H:Hp} {b:Addr} {o:Obj} (e:h.get? b=some o) (n:H b=none):(hidT h H).get? b=some o :=
  PySem.W.hideAll_get _ e fun hm=>by
    have q:(H b).isSome=true:=(List.mem_filter.mp hm).2
    rw [n] at q;simp at q
theorem of_hidT {h:Heap} {H:Hp} {b:Addr} {o:Obj} (e:(hidT h H).get? b=some o):h.get? b=some o/\H b=none:=by
  have e':h.get? b=some o:=PySem.W.of_hideAll (trk h H) e
  refine ⟨e',?_⟩
  cases q:H b with
  | none=>rfl
  | some x =>
    have hm:b∈trk h H:=List.mem_filter.mpr ⟨List.mem_range.mpr (Heap.lt_size e'),by simp [q]⟩
    have z:(hidT h H).get? b=none:=PySem.W.hideAll_none (trk h H) hm
    rw [z] at e;cases e
noncomputable def allNews (g h:Heap) (L:Addr):List (Addr×Obj):=(List.range h.objs.size).filterMap fun a=>if a=L∨(g.get? a).isSome=true then none else (h.get? a).map fun o=>(a,o)
theorem mem_allNews {g h:Heap} {L a:Addr} {o:Obj} (h1:a≠L) (h2:g.get? a=none) (h3:h.get? a=some o):(a,o)∈allNews g h L :=
  List.mem_filterMap.mpr ⟨a,List.mem_range.mpr (Heap.lt_size h3),by simp [h1,h2,h3]⟩
noncomputable def rest (g h:Heap) (L d:Addr):List (Addr×Obj):=(allNews g h L).filter fun p=>decide (p.1≠d)
theorem mem_rest {g h:Heap} {L d a:Addr} {o:Obj} (h1:a≠L) (h2:g.get? a=none) (h3:h.get? a=some o) (h4:a≠d):(a,o)∈rest g h L d :=
  List.mem_filter.mpr ⟨mem_allNews h1 h2 h3,decide_eq_true h4⟩
end L2
namespace L2
open PySem PySem.Spec PyProof.Rows
structure Mod (K:PySem.W.Frag) (mg:Str->Option Value) (base:Heap):Prop where
  kin:K.In base
  glob:base.Ns mainGlobals mg
  blt:∃ mb,base.Ns builtinsNs mb/\∀ x:Str,x≠"__name__"->mb x=bootBuiltins x
  nolimit:base.NoLimit
  bm:∃ bm ob,mg "__builtins__"=some (.ref bm)/\bm≠builtinsNs/\base.get? bm=some ob/\ob.cls=.type "module"/\ob.dict=some builtinsNs/\ob.data=.plain
structure Cx where
  prog:Program
  w:World
  K:PySem.W.Frag
  mg:Str->Option Value
  base:Heap
  A:Around
  N:List Str
  s₀:Shared
  H₀:Hp
  env:Env
  outer:List Env
  stack:List Env
  ex:List Addr
  fn:Str->Bool
  calm:Bool
  pn:List (Addr×Obj)
  xe:Value->Shared->Prop
noncomputable def frs (l:List Env):List Addr:=l.filterMap (·.frame)
noncomputable abbrev Cx.fs (X:Cx):List Addr:=frs X.outer
noncomputable def Vis (sc:Scope) (x:Str):Prop:=sc.names.lookup x=some .local∨sc.names.lookup x=some .cell∨sc.names.lookup x=some .free
noncomputable def Loc (sc:Scope) (x:Str):Prop:=sc.names.lookup x=some .local∨sc.names.lookup x=some .cell
noncomputable def Look (env:Env) (h:Heap) (m:Str->Option Value) (x:Str) (u:Value):Prop :=
  (env.kindOf x=some .local/\m x=some u)∨((env.kindOf x=some .cell∨env.kindOf x=some .free)/\∃ c,env.cells.lookup x=some c/\h.IsCell c (some u))
structure Cx.Ok (X:Cx):Prop where
  mod:Mod X.K X.mg X.base
  kind:X.env.scope.kind=.function
  glob:X.env.globals=mainGlobals
  blt:X.env.builtins=builtinsNs
  above:X.s₀.heap.objs.size<=X.env.locals
  inj:∀ x y c,X.env.cells.lookup x=some c->X.env.cells.lookup y=some c->x=y
  has:∀ x,(X.env.kindOf x=some .cell∨X.env.kindOf x=some .free)->∃ c,X.env.cells.lookup x=some c
  cab:∀ x c,X.fn x=true->X.env.cells.lookup x=some c->X.s₀.heap.objs.size<=c
  hd:X.calm=true->X.A.handled=none
  frames:X.A.frames=some X.stack
  stk:X.stack=X.outer∨(X.stack=X.env::X.outer/\X.env.frame=some X.env.locals)
  exf:∀ b∈X.ex,b≠X.env.locals/\∀ x c,X.env.cells.lookup x=some c->c≠b
  bs:∀ b o,X.base.get? b=some o->X.s₀.heap.get? b=some o/\X.H₀ b=none
  bsz:X.base.objs.size<=X.s₀.heap.objs.size
  noex:∀ b o,X.base.get? b=some o->b∉X.ex
  exfs:∀ b∈X.ex,b∉X.fs
  funs:X.s₀.heap.FunFrames X.base X.outer
  frf:∀ b∈X.fs,X.H₀ b=none
structure Inv (X:Cx) (pins:List (Addr×Obj)) (σ:List (Option V)) (H:Hp) (s:Shared):Prop where
  ok:X.Ok
  os:s.os=X.s₀.os
  bare:AllBare s.gens
  base:Un X.fs X.ex X.H₀ H X.s₀.heap s.heap
  loc:∃ m,s.heap.Ns X.env.locals m/\∀ (i:Nat) (x:Str) (v:V),X.N[i]?=some x->σ[i]?=some (some v)->Vis X.env.scope x->∃ u,RelV v u/\Look X.env s.heap m x u
  cell:∀ x c,X.env.cells.lookup x=some c->∃ v,s.heap.IsCell c v
  free:H X.env.locals=none
  freeC:∀ x c,X.env.cells.lookup x=some c->H c=none
  pin:∀ p∈X.pn++pins,s.heap.get? p.1=some p.2/\H p.1=none/\p.1≠X.env.locals/\p.1∉X.fs/\∀ v,p.2.data≠.cell v
  hok:HOk X.prog X.w H s.heap
  len:σ.length=X.N.length
section
variable {X:Cx} {pins:List (Addr×Obj)} {σ:List (Option V)} {H H':Hp} {s:Shared} {h':Heap}
theorem Cx.Ok.nofr (ok:X.Ok) {b:Addr} {o:Obj} (e:X.base.get? b=some o):b∉X.fs:=fun hb=>by
  have:=(ok.funs.mem hb).1
  rw [e] at this;cases this
theorem Inv.bs (I:Inv X pins σ H s):∀ b o,X.base.get? b=some o->s.heap.get? b=some o/\H b=none:=fun b o e =>
  ⟨I.base.keep b o (I.ok.bs b o e).1 (I.ok.bs b o e).2 (I.ok.nofr e) (I.ok.noex b o e),I.base.free b o (I.ok.bs b o e).1 (I.ok.bs b o e).2 (I.ok.noex b o e)⟩
theorem Inv.bk (I:Inv X pins σ H s):∀ b o,X.base.get? b=some o->s.heap.get? b=some o:=fun b o e=>(I.bs b o e).1
theorem Inv.mod (I:Inv X pins σ H s):Mod X.K X.mg X.base:=I.ok.mod
theorem Inv.kIn (I:Inv X pins σ H s):X.K.In s.heap:=I.ok.mod.kin.keeps I.bk
theorem Inv.lt (I:Inv X pins σ H s):X.env.locals < s.heap.objs.size:=let ⟨_,hn,_⟩:=I.loc;hn.lt
theorem Inv.sz (I:Inv X pins σ H s):X.s₀.heap.objs.size<=s.heap.objs.size:=Nat.le_trans I.ok.above (Nat.le_of_lt I.lt)
theorem Inv.nofs (I:Inv X pins σ H s) {a:Addr} (h:s.heap.objs.size<=a):a∉X.fs:=fun hb=>by
  obtain ⟨_,o,ho,_⟩:=I.ok.funs.mem hb
  exact absurd (Nat.lt_of_lt_of_le (Heap.lt_size ho) (Nat.le_trans I.sz h)) (Nat.lt_irrefl _)
theorem Inv.cne (I:Inv X pins σ H s):∀ x c,X.env.cells.lookup x=some c->c≠X.env.locals:=fun x c e z=>by
  obtain ⟨v,o,ho,hd⟩:=I.cell x c e
  obtain ⟨m,⟨o',es,ep,ho',hd',_⟩,_⟩:=I.loc
  rw [z,ho'] at ho;cases ho;rw [hd'] at hd;cases hd
theorem Inv.funs (I:Inv X pins σ H s):s.heap.FunFrames X.base X.outer:=by
  have all:∀ (l:List Env),(∀ b∈frs l,b∈X.fs)->X.s₀.heap.FunFrames X.base l->s.heap.FunFrames X.base l:=by
    intro l
    induction l with
    | nil=>intro _ _;trivial
    | cons env r ih =>
      intro hs hl
      obtain ⟨hk,⟨L,o,hf,hn,ho,hd⟩,hr⟩:=hl
      have hL:L∈X.fs:=hs L (by unfold frs;rw [List.filterMap_cons,hf];exact List.mem_cons_self)
      obtain ⟨sl,e⟩:=I.base.slot L o ho (I.ok.frf L hL) hL fun z=>I.ok.exfs L z hL
      exact ⟨hk,⟨L,_,hf,hn,e,hd⟩,ih (fun b hb=>hs b (by unfold frs;rw [List.filterMap_cons,hf];exact List.mem_cons_of_mem _ hb)) hr⟩
  exact all X.outer (fun _ hb=>hb) I.ok.funs
theorem Inv.stack (I:Inv X pins σ H s):s.heap.FunFrames X.base X.stack:=by
  rcases I.ok.stk with e|⟨e,hf⟩
  . rw [e];exact I.funs
  . rw [e]
    obtain ⟨m,hn,_⟩:=I.loc
    refine .cons (by rw [I.ok.kind];decide) hf hn ?_ I.funs
    exact Heap.get?_none_of_le (Nat.le_trans I.ok.bsz I.ok.above)
theorem Inv.stkSub (I:Inv X pins σ H s):∀ b∈frs X.stack,b∈X.env.locals::X.fs:=fun b hb=>by
  rcases I.ok.stk with e|⟨e,hf⟩
  . rw [e] at hb;exact List.mem_cons_of_mem _ hb
  . rw [e] at hb
    unfold frs at hb
    rw [List.filterMap_cons,hf] at hb
    exact hb
theorem Inv.stkFree (I:Inv X pins σ H s):∀ b∈frs X.stack,H b=none:=fun b hb=>by
  rcases List.mem_cons.mp (I.stkSub b hb) with e|hb
  . rw [e];exact I.free
  . obtain ⟨_,o,ho,_⟩:=I.ok.funs.mem hb
    exact I.base.free b o ho (I.ok.frf b hb) fun z=>I.ok.exfs b z hb
theorem Inv.step {g':Array GenState} {t':Nat} {d':Drawn} {ch:List Addr} (I:Inv X pins σ H s)
    (hch:∀ b∈ch,(b∈X.ex∨X.s₀.heap.objs.size<=b)/\b≠X.env.locals/\(∀ x c,X.env.cells.lookup x=some c->c≠b)/\∀ p∈X.pn++pins,p.1≠b)
    (keep:∀ b o,b≠X.env.locals->b∉X.fs->b∉ch->s.heap.get? b=some o->H b=none->h'.get? b=some o)
    (slot:∀ b o,b≠X.env.locals->b∈X.fs->b∉ch->s.heap.get? b=some o->H b=none->∃ sl,h'.get? b=some { o with slots:=sl }) (free:∀ b o,b∉ch->s.heap.get? b=some o->H b=none->H' b=none)
    (there:∀ b o,b∉ch->s.heap.get? b=some o->∃ o',h'.get? b=some o')
    (tups:∀ b xs,H b=some (.tup xs)->H' b=some (.tup xs)) (frzs:∀ b o u,H b=some (.frz o u)->H' b=some (.frz o u)) (tbls:∀ b ps,H b=some (.tbl ps)->∃ more,H' b=some (.tbl (ps++more)))
    (ns:∀ m,s.heap.Ns X.env.locals m->h'.Ns X.env.locals m) (hok:HOk X.prog X.w H' h') (hg:AllBare g') :
    Inv X pins σ H' { s with heap:=h',gens:=g',drawn:=d',toks:=t' }:=by
  have neL:∀ b o,X.s₀.heap.get? b=some o->b≠X.env.locals:=fun b o e=>Nat.ne_of_lt (Nat.lt_of_lt_of_le (Heap.lt_size e) I.ok.above)
  have neC:∀ b o,X.s₀.heap.get? b=some o->b∉X.ex->b∉ch:=fun b o e hx hb=>by
    rcases (hch b hb).1 with z|z
    . exact hx z
    . exact absurd (Nat.lt_of_lt_of_le (Heap.lt_size e) z) (Nat.lt_irrefl _)
  have cellK:∀ x c,X.env.cells.lookup x=some c->∀ v,s.heap.IsCell c v->h'.IsCell c v:=fun x c e v ⟨o,ho,hd⟩=>by
    have nch:c∉ch:=fun z=>(hch c z).2.2.1 x c e rfl
    by_cases hc:c∈X.fs
    . obtain ⟨sl,q⟩:=slot c o (I.cne x c e) hc nch ho (I.freeC x c e)
      exact ⟨_,q,hd⟩
    . exact ⟨o,keep c o (I.cne x c e) hc nch ho (I.freeC x c e),hd⟩
  refine ⟨I.ok,I.os,hg,⟨fun b o e n hb hx=>?_,fun b o e n hb hx=>?_,fun b o e n hx=>?_,fun b o e hx=>?_,fun b xs e=>tups b xs (I.base.tups b xs e),fun b o xs e=>frzs b o xs (I.base.frzs b o xs e),fun b ps e=>?_⟩,?_,fun x c e=>?_,?_,fun x c e=>?_,fun p hp=>?_,hok,I.len⟩
  . exact keep b o (neL b o e) hb (neC b o e hx) (I.base.keep b o e n hb hx) (I.base.free b o e n hx)
  . obtain ⟨sl,e1⟩:=I.base.slot b o e n hb hx
    obtain ⟨sl',e2⟩:=slot b _ (neL b o e) hb (neC b o e hx) e1 (I.base.free b o e n hx)
    exact ⟨sl',e2⟩
  . obtain ⟨o',e1⟩:=I.base.there b o e hx
    exact free b o' (neC b o e hx) e1 (I.base.free b o e n hx)
  . obtain ⟨o',e1⟩:=I.base.there b o e hx
    exact there b o' (neC b o e hx) e1
  . obtain ⟨m1,e1⟩:=I.base.tbls b ps e
    obtain ⟨m2,e2⟩:=tbls b _ e1
    exact ⟨m1++m2,by rw [e2,Array.append_assoc]⟩
  . obtain ⟨m,hn,hl⟩:=I.loc
    refine ⟨m,ns m hn,fun i x v e1 e2 e3=>?_⟩
    obtain ⟨u,r,l⟩:=hl i x v e1 e2 e3
    refine ⟨u,r,?_⟩
    rcases l with l|⟨k,c,e,z⟩
    . exact .inl l
    . exact .inr ⟨k,c,e,cellK x c e _ z⟩
  . obtain ⟨v,z⟩:=I.cell x c e
    exact ⟨v,cellK x c e v z⟩
  . obtain ⟨m,⟨o,_,_,ho,_⟩,_⟩:=I.loc
    exact free _ o (fun z=>(hch _ z).2.1 rfl) ho I.free
  . obtain ⟨v,o,ho,hd⟩:=I.cell x c e
    exact free c o (fun z=>(hch c z).2.2.1 x c e rfl) ho (I.freeC x c e)
  . obtain ⟨e,n,ne,nf,d⟩:=I.pin p hp
    have nch:p.1∉ch:=fun z=>(hch p.1 z).2.2.2 p hp rfl
    exact ⟨keep p.1 p.2 ne nf nch e n,free p.1 p.2 nch e n,ne,nf,d⟩
theorem Inv.un {t':Nat} (I:Inv X pins σ H s) (u:Un X.fs [] H H' s.heap h') (hok:HOk X.prog X.w H' h'):Inv X pins σ H' { s with heap:=h',toks:=t' }:=by
  obtain ⟨m,⟨o,es,ep,ho,r⟩,_⟩:=id I.loc
  obtain ⟨sl,hL⟩:=u.any ho I.free (by simp)
  exact I.step (g':=s.gens) (d':=s.drawn) (ch:=[]) (fun _ z=>nomatch z) (fun b o _ hb _ e n=>u.keep b o e n hb (by simp)) (fun b o _ hb _ e n=>u.slot b o e n hb (by simp)) (fun b o _ e n=>u.free b o e n (by simp)) (fun b o _ e=>u.there b o e (by simp)) u.tups u.frzs u.tbls (fun m' hm=>by
    obtain ⟨o',es',ep',ho',r'⟩:=hm
    rw [ho] at ho';cases ho'
    exact ⟨_,es',ep',hL,r'⟩) hok I.bare
theorem Inv.call {g':Array GenState} {t':Nat} {d':Drawn} {ch:List Addr} (I:Inv X pins σ H s) (u:Un (frs X.stack) ch H H' s.heap h') (hok:HOk X.prog X.w H' h') (hg:AllBare g')
    (hch:∀ b∈ch,(b∈X.ex∨X.s₀.heap.objs.size<=b)/\b≠X.env.locals/\(∀ x c,X.env.cells.lookup x=some c->c≠b)/\∀ p∈X.pn++pins,p.1≠b) :
    Inv X pins σ H' { s with heap:=h',gens:=g',drawn:=d',toks:=t' }:=by
  obtain ⟨m,⟨o,es,ep,ho,r⟩,_⟩:=id I.loc
  obtain ⟨sl,hL⟩:=u.any ho I.free fun z=>(hch _ z).2.1 rfl
  exact I.step (ch:=ch) hch (fun b o hL hb hc e n=>u.keep b o e n (fun z=>(List.mem_cons.mp (I.stkSub b z)).elim hL hb) hc) (fun b o _ _ hc e n=>u.any e n hc) (fun b o hc e n=>u.free b o e n hc) (fun b o hc e=>u.there b o e hc) u.tups u.frzs u.tbls (fun m' hm=>by
    obtain ⟨o',es',ep',ho',r'⟩:=hm
    rw [ho] at ho';cases ho'
    exact ⟨_,es',ep',hL,r'⟩) hok hg
theorem Inv.turned {t':Nat} {it:Addr} (I:Inv X pins σ H s) (k:∀ b o,b≠it->s.heap.get? b=some o->h'.get? b=some o) (hn:H it=none) (hL:it≠X.env.locals)
    (h1:it∈X.ex∨X.s₀.heap.objs.size<=it) (h2:∀ x c,X.env.cells.lookup x=some c->c≠it) (h3:∀ p∈X.pn++pins,p.1≠it):Inv X pins σ H { s with heap:=h',toks:=t' }:=by
  have nit:∀ b u,H b=some u->b≠it:=fun b u e z=>by rw [z,hn] at e;cases e
  refine I.step (g':=s.gens) (d':=s.drawn) (ch:=[it]) (fun b hb=>?_) (fun b o _ _ hc e _=>k b o (fun z=>hc (by simp [z])) e) (fun b o _ _ hc e _=>⟨o.slots,k b o (fun z=>hc (by simp [z])) e⟩) (fun _ _ _ _ n=>n)
    (fun b o hc e=>⟨o,k b o (fun z=>hc (by simp [z])) e⟩) (fun _ _ e=>e) (fun _ _ _ e=>e) (fun b ps e=>⟨#[],by rw [e];simp⟩) (fun m hm=>?_) (fun b u e=>?_) I.bare
  . have e:b=it:=by simpa using hb
    subst e
    exact ⟨h1,hL,h2,h3⟩
  . obtain ⟨o,es,ep,ho,r⟩:=hm
    exact ⟨o,es,ep,k _ o (Ne.symm hL) ho,r⟩
  . refine (I.hok b u e).stay (fun c v hc q=>k c v ?_ q) (fun _ q=>q) (fun _ _ q=>q) fun _ _ q=>q
    rcases hc with z|z
    . rw [z];exact nit b u e
    . exact nit c _ z
theorem Inv.tok (I:Inv X pins σ H s) (t:Nat):Inv X pins σ H { s with toks:=t }:=I.un (h':=s.heap) (t':=t) Un.refl I.hok
theorem Inv.kept {t':Nat} (I:Inv X pins σ H s) (k:∀ b u,s.heap.get? b=some u->h'.get? b=some u):Inv X pins σ H { s with heap:=h',toks:=t' }:=I.un (Un.kept k) (I.hok.kept k)
theorem Inv.laid {a:Addr} {o:HO} {t':Nat} (I:Inv X pins σ H s) (k:∀ b u,s.heap.get? b=some u->h'.get? b=some u) (hp:s.heap.objs.size<=a) (new:ObjOk X.prog X.w (upd H a o) h' a o) :
    Inv X pins σ (upd H a o) { s with heap:=h',toks:=t' }:=I.un (Un.laid k hp (I.hok.fresh hp)) (I.hok.laid k hp new)
theorem Inv.write {x e:Addr} {o:HO} {t':Nat} (I:Inv X pins σ H s) (mu:Mut (H x)) (he:e=x∨H e=some (.own x)) (k:∀ b u,b≠e->s.heap.get? b=some u->h'.get? b=some u) (heo:∃ u,h'.get? e=some u)
    (new:ObjOk X.prog X.w (upd H x o) h' x o):Inv X pins σ (upd H x o) { s with heap:=h',toks:=t' }:=I.un (Un.write mu he k heo) (I.hok.write mu he k heo new)
theorem Inv.pins_of {pins':List (Addr×Obj)} (I:Inv X pins σ H s) (h:∀ p∈pins',s.heap.get? p.1=some p.2/\H p.1=none/\p.1≠X.env.locals/\p.1∉X.fs/\∀ v,p.2.data≠.cell v):Inv X pins' σ H s :=
  ⟨I.ok,I.os,I.bare,I.base,I.loc,I.cell,I.free,I.freeC,fun p hp=>(List.mem_append.mp hp).elim (fun z=>I.pin p (List.mem_append_left _ z)) (h p),I.hok,I.len⟩
theorem nodup_ix {N:List Str} (hN:N.Nodup) {i j:Nat} {x:Str} (a:N[i]?=some x) (b:N[j]?=some x):i=j:=by
  obtain ⟨h1,e1⟩:=List.getElem?_eq_some_iff.mp a
  obtain ⟨h2,e2⟩:=List.getElem?_eq_some_iff.mp b
  exact (List.getElem_inj hN).mp (e1.trans e2.symm)
theorem store_ok2 {M:Model} {A:Around} {E:Value->Shared->Prop} {i:Nat} {x:Str} {v:V} {u:Value} {Q:Unit->Shared->Prop} (I:Inv X pins σ H s) (hN:X.N.Nodup) (hi:X.N[i]?=some x) (hx:Loc X.env.scope x) (r:RelV v u)
    (h:∀ s',Inv X pins (σ.set i (some v)) H s'->(∃ a,Heap.SameBut a s.heap s'.heap/\(a=X.env.locals∨X.env.cells.lookup x=some a))->Q () s') (hf:X.fn x=true∨X.env.scope.names.lookup x=some .local:=by first|exact .inl rfl|exact .inr rfl|assumption):wpAny M A (storeName X.env x u) Q E s:=by
  obtain ⟨m,hn,hl⟩:=id I.loc
  have hcls:(X.env.scope.kind == .class || (X.env.scope.kind == .module && X.env.locals != X.env.globals))=false:=by rw [I.ok.kind];rfl
  have hiσ:i < σ.length:=by rw [I.len];exact (List.getElem?_eq_some_iff.mp hi).1
  have cne:=I.cne
  have tracked:∀ {a:Addr} {h':Heap},(∃ o,s.heap.get? a=some o/\H a=none)->Heap.SameBut a s.heap h'->HOk X.prog X.w H h':=fun {a h'} ha hs b ob e=>by
    obtain ⟨_,_,hfree⟩:=ha
    refine (I.hok b ob e).stay (fun c w' hc q=>(hs.2 c ?_).trans q) (fun _ q=>q) (fun _ _ q=>q) fun _ _ q=>q
    rintro rfl
    rcases hc with rfl|hc
    . rw [hfree] at e;cases e
    . rw [hfree] at hc;cases hc
  rcases hx with hk|hk
  . refine wpAny_storeName_local hk hn (fun h' hn' hs=>?_) hcls
    obtain ⟨oL,_,_,hoL,_⟩:=id hn
    refine h _ ⟨I.ok,I.os,I.bare,⟨fun b o e n hb hx=>?_,fun b o e n hb hx=>?_,I.base.free,fun b o e hx=>?_,I.base.tups,I.base.frzs,I.base.tbls⟩,⟨_,hn',fun j y v' e1 e2 e3=>?_⟩,fun y c e=>?_,I.free,I.freeC,fun p hp=>?_,tracked ⟨oL,hoL,I.free⟩ hs,by simpa using I.len⟩ ⟨_,hs,.inl rfl⟩
    . exact (hs.2 b (Nat.ne_of_lt (Nat.lt_of_lt_of_le (Heap.lt_size e) I.ok.above))).trans (I.base.keep b o e n hb hx)
    . obtain ⟨sl,e1⟩:=I.base.slot b o e n hb hx
      exact ⟨sl,(hs.2 b (Nat.ne_of_lt (Nat.lt_of_lt_of_le (Heap.lt_size e) I.ok.above))).trans e1⟩
    . obtain ⟨o',e1⟩:=I.base.there b o e hx
      exact ⟨o',(hs.2 b (Nat.ne_of_lt (Nat.lt_of_lt_of_le (Heap.lt_size e) I.ok.above))).trans e1⟩
    . by_cases hj:j=i
      . subst hj
        rw [hi] at e1;cases e1
        rw [List.getElem?_set_self hiσ] at e2
        cases e2
        exact ⟨u,r,.inl ⟨hk,by simp⟩⟩
      . rw [List.getElem?_set_ne (Ne.symm hj)] at e2
        obtain ⟨u',r',q⟩:=hl j y v' e1 e2 e3
        refine ⟨u',r',?_⟩
        rcases q with ⟨k,e⟩|⟨k,c,e,z⟩
        . refine .inl ⟨k,?_⟩
          have:y≠x:=fun e=>hj (nodup_ix hN e1 (e▸hi))
          simp [this,e]
        . exact .inr ⟨k,c,e,z.sameBut hs (cne y c e)⟩
    . obtain ⟨w',z⟩:=I.cell y c e
      exact ⟨w',z.sameBut hs (cne y c e)⟩
    . obtain ⟨e,n,ne,nf,d⟩:=I.pin p hp
      exact ⟨(hs.2 p.1 ne).trans e,n,ne,nf,d⟩
  . have hfn:X.fn x=true:=by
      rcases hf with z|z
      . exact z
      . rw [z] at hk;cases hk
    obtain ⟨c,hc⟩:=I.ok.has x (.inl hk)
    obtain ⟨w',z⟩:=I.cell x c hc
    refine wpAny_storeName_cell I.ok.kind hk hc z (fun h' hc' hs=>?_)
    obtain ⟨oc,hoc,hocd⟩:=id z
    refine h { s with heap:=h' } ⟨I.ok,I.os,I.bare,⟨fun b o e n hb hx=>?_,fun b o e n hb hx=>?_,I.base.free,fun b o e hx=>?_,I.base.tups,I.base.frzs,I.base.tbls⟩,⟨m,hn.sameBut hs (Ne.symm (cne x c hc)),fun j y v' e1 e2 e3=>?_⟩,fun y c' e=>?_,I.free,I.freeC,fun p hp=>?_,tracked ⟨oc,hoc,I.freeC x c hc⟩ hs,by simpa using I.len⟩ ⟨c,hs,.inr hc⟩
    . exact (hs.2 b (Nat.ne_of_lt (Nat.lt_of_lt_of_le (Heap.lt_size e) (I.ok.cab x c hfn hc)))).trans (I.base.keep b o e n hb hx)
    . obtain ⟨sl,e1⟩:=I.base.slot b o e n hb hx
      exact ⟨sl,(hs.2 b (Nat.ne_of_lt (Nat.lt_of_lt_of_le (Heap.lt_size e) (I.ok.cab x c hfn hc)))).trans e1⟩
    . obtain ⟨o',e1⟩:=I.base.there b o e hx
      exact ⟨o',(hs.2 b (Nat.ne_of_lt (Nat.lt_of_lt_of_le (Heap.lt_size e) (I.ok.cab x c hfn hc)))).trans e1⟩
    . by_cases hj:j=i
      . subst hj
        rw [hi] at e1;cases e1
        rw [List.getElem?_set_self hiσ] at e2
        cases e2
        exact ⟨u,r,.inr ⟨.inl hk,c,hc,hc'⟩⟩
      . rw [List.getElem?_set_ne (Ne.symm hj)] at e2
        obtain ⟨u',r',q⟩:=hl j y v' e1 e2 e3
        refine ⟨u',r',?_⟩
        rcases q with q|⟨k,c',e,z'⟩
        . exact .inl q
        . refine .inr ⟨k,c',e,z'.sameBut hs ?_⟩
          rintro rfl
          exact hj (nodup_ix hN e1 (I.ok.inj _ _ _ e hc▸hi))
    . by_cases hcc:c'=c
      . subst hcc;exact ⟨_,hc'⟩
      . obtain ⟨w2,z2⟩:=I.cell y c' e
        exact ⟨w2,z2.sameBut hs hcc⟩
    . obtain ⟨e,n,ne,nf,d⟩:=I.pin p hp
      refine ⟨(hs.2 p.1 ?_).trans e,n,ne,nf,d⟩
      intro q
      rw [q,hoc] at e
      have q':oc=p.2:=Option.some.inj e
      exact d w' (by rw [<- q'];exact hocd)
theorem store_ok {M:Model} {A:Around} {E:Value->Shared->Prop} {i:Nat} {x:Str} {v:V} {u:Value} {Q:Unit->Shared->Prop} (I:Inv X pins σ H s) (hN:X.N.Nodup) (hi:X.N[i]?=some x) (hx:Loc X.env.scope x) (r:RelV v u)
    (h:∀ s',Inv X pins (σ.set i (some v)) H s'->Q () s') (hf:X.fn x=true∨X.env.scope.names.lookup x=some .local:=by first|exact .inl rfl|exact .inr rfl|assumption):wpAny M A (storeName X.env x u) Q E s :=
  store_ok2 I hN hi hx r (fun s' I' _=>h s' I') hf
theorem Inv.call' {s':Shared} {ch:List Addr} (I:Inv X pins σ H s) (ho:s'.os=s.os) (u:Un (frs X.stack) ch H H' s.heap s'.heap) (hok:HOk X.prog X.w H' s'.heap) (hg:AllBare s'.gens)
    (hch:∀ b∈ch,(b∈X.ex∨X.s₀.heap.objs.size<=b)/\b≠X.env.locals/\(∀ x c,X.env.cells.lookup x=some c->c≠b)/\∀ p∈X.pn++pins,p.1≠b):Inv X pins σ H' s':=by
  obtain ⟨h',g',d',t',o'⟩:=s'
  have e:o'=s.os:=ho
  subst e
  exact I.call (g':=g') (t':=t') (d':=d') u hok hg hch
end
noncomputable abbrev XK:=Value->Option Addr->Hp->Prop
noncomputable abbrev St:=List (Option V)
noncomputable abbrev VK:=V->Hp->Prop
noncomputable abbrev TE:=St->Hp->VK->Prop
noncomputable abbrev TT:=St->Hp->(Bool->Hp->Prop)->Prop
noncomputable abbrev TA:=St->Hp->(List V->Hp->Prop)->Prop
structure Ends where
  nx:St->Hp->Prop
  rt:VK
  bk:St->Hp->Prop:=fun _ _=>False
  ct:St->Hp->Prop:=fun _ _=>False
noncomputable abbrev TS:=Ends->St->Hp->Prop
noncomputable def EP (X:Cx) (pins:List (Addr×Obj)) (σ:St) (Q:VK) (u:Value) (s':Shared):Prop:=∃ v H',Inv X pins σ H' s'/\RelV v u/\Q v H'
noncomputable def TP (X:Cx) (pins:List (Addr×Obj)) (σ:St) (Q:Bool->Hp->Prop) (b:Bool) (s':Shared):Prop:=∃ H',Inv X pins σ H' s'/\Q b H'
noncomputable def AP (X:Cx) (pins:List (Addr×Obj)) (σ:St) (Q:List V->Hp->Prop) (us:List Value) (s':Shared):Prop:=∃ vs H',Inv X pins σ H' s'/\Vals vs us/\Q vs H'
noncomputable def SP (X:Cx) (pins:List (Addr×Obj)) (D:Ends) (f:Flow) (s':Shared):Prop :=
  match f with
  | .next=>∃ σ' H',Inv X pins σ' H' s'/\D.nx σ' H'
  | .brk=>∃ σ' H',Inv X pins σ' H' s'/\D.bk σ' H'
  | .cont=>∃ σ' H',Inv X pins σ' H' s'/\D.ct σ' H'
  | .ret u=>∃ v σ' H',Inv X pins σ' H' s'/\RelV v u/\D.rt v H'
noncomputable def PE (X:Cx) (e:Expr) (t:TE):Prop :=
  ∀ (pins:List (Addr×Obj)) (s:Shared) (σ:St) (H:Hp) (Q:VK),Inv X pins σ H s->t σ H Q->wpAny (model X.prog X.w) X.A (eval e X.env) (EP X pins σ Q) X.xe s
noncomputable def PT (X:Cx) (e:Expr) (t:TT):Prop :=
  ∀ (pins:List (Addr×Obj)) (s:Shared) (σ:St) (H:Hp) (Q:Bool->Hp->Prop),Inv X pins σ H s->t σ H Q->wpAny (model X.prog X.w) X.A (isTrue e X.env (eval e X.env)) (TP X pins σ Q) X.xe s
noncomputable def PW (X:Cx) (e:Expr) (t:TT):Prop :=
  ∀ (whole:Sem Value) (pins:List (Addr×Obj)) (s:Shared) (σ:St) (H:Hp) (Q:Bool->Hp->Prop),Inv X pins σ H s->t σ H Q->wpAny (model X.prog X.w) X.A (isTrue e X.env whole) (TP X pins σ Q) X.xe s
theorem PW.pt {X:Cx} {e:Expr} {t:TT} (h:PW X e t):PT X e t:=h _
noncomputable def PA (X:Cx) (es:List Expr) (t:TA):Prop :=
  ∀ (pos:Pos) (pins:List (Addr×Obj)) (s:Shared) (σ:St) (H:Hp) (Q:List V->Hp->Prop),Inv X pins σ H s->t σ H Q->wpAny (model X.prog X.w) X.A (spliced (backTo pos (starEach es X.env))) (AP X pins σ Q) X.xe s
noncomputable def PS (X:Cx) (st:Stmt) (t:TS):Prop :=
  ∀ (pins:List (Addr×Obj)) (s:Shared) (σ:St) (H:Hp) (D:Ends),Inv X pins σ H s->t D σ H->wpAny (model X.prog X.w) X.A (exec st X.env) (SP X pins D) X.xe s
noncomputable def PSs (X:Cx) (st:List Stmt) (t:TS):Prop :=
  ∀ (pins:List (Addr×Obj)) (s:Shared) (σ:St) (H:Hp) (D:Ends),Inv X pins σ H s->t D σ H->wpAny (model X.prog X.w) X.A (execs st X.env) (SP X pins D) X.xe s
theorem thn {α:Type} {t:Sem α} {Q Q':α->Shared->Prop} {M:Model} {A:Around} {E:Value->Shared->Prop} {s:Shared} (h:wpAny M A t Q E s) (hQ:∀ a s,Q a s->Q' a s):wpAny M A t Q' E s:=wpAny_mono h hQ fun _ _ x=>x
end L2
namespace L2
open PySem PySem.Spec PyProof.Rows
section
variable {X:Cx}
noncomputable def tVar (i:Nat):TE:=fun σ H Q=>∃ v,σ[i]?=some (some v)/\Q v H
noncomputable def tC (v:V):TE:=fun _ H Q=>Q v H
theorem pe_var {i:Nat} {x:Str} {pos:Pos} (hN:X.N[i]?=some x) (hv:Vis X.env.scope x) (hd:(x == ("__debug__":Str))=false:=by decide) (hcd:(x == ("__classdict__":Str))=false:=by decide):PE X (.Name x pos) (tVar i):=by
  intro pins s σ H Q I h
  obtain ⟨v,e,h⟩:=h
  obtain ⟨m,hn,hl⟩:=I.loc
  obtain ⟨u,r,l⟩:=hl i x v hN e hv
  have fin:EP X pins σ Q u s:=⟨v,H,I,r,h⟩
  rcases l with ⟨hk,hm⟩|⟨hk,c,hc,hcell⟩
  . exact wpAny_Name (wpAny_loadName_local I.ok.kind hk hn hm fin) hd
  . rcases hk with hk|hk
    . exact wpAny_Name (wpAny_loadName_cell I.ok.kind hk hc hcell fin) hd
    . exact wpAny_Name (wpAny_loadName_free I.ok.kind hk hc hcell fin hcd) hd
theorem pe_int {i j pos}:PE X (.Constant (.int i) j pos) (tC (.int i)):=fun _ _ _ H _ I h=>wpAny_Constant_int ⟨.int i,H,I.tok _,⟨_,rfl⟩,h⟩
theorem pe_bl {b j pos}:PE X (.Constant (.bool b) j pos) (tC (.bl b)):=fun _ _ _ H _ I h=>Constant_bool ⟨.bl b,H,I,rfl,h⟩
theorem pe_non {j pos}:PE X (.Constant .none j pos) (tC .non):=fun _ _ _ H _ I h=>Constant_none ⟨.non,H,I,rfl,h⟩
theorem pe_str {x j pos}:PE X (.Constant (.str x) j pos) (tC (.str x)):=fun _ _ _ H _ I h=>Calls.Constant_str ⟨.str x,H,I.tok _,⟨_,rfl⟩,h⟩
noncomputable def Gl (X:Cx) (x:Str):Prop:=X.env.kindOf x=some .globalImplicit
theorem ld_glob {E:Value->Shared->Prop} {pins:List (Addr×Obj)} {s:Shared} {σ:St} {H:Hp} {x:Str} {u:Value} {pos:Pos} {Q:Value->Shared->Prop} (I:Inv X pins σ H s) (hg:Gl X x) (hm:X.mg x=some u) (h:Q u s)
    (hd:(x == ("__debug__":Str))=false:=by decide):wpAny (model X.prog X.w) X.A (eval (.Name x pos) X.env) Q E s :=
  Calls.Name_function_global I.ok.kind hg (Calls.loadGlobal_global (by rw [I.ok.glob];exact I.mod.glob.keeps I.bk) hm h) hd
theorem ld_blt {E:Value->Shared->Prop} {pins:List (Addr×Obj)} {s:Shared} {σ:St} {H:Hp} {x:Str} {u:Value} {pos:Pos} {Q:Value->Shared->Prop} (I:Inv X pins σ H s) (hg:Gl X x) (hm:X.mg x=none) (hv:bootBuiltins x=some u) (h:Q u s)
    (hn:x≠"__name__":=by decide) (hd:(x == ("__debug__":Str))=false:=by decide):wpAny (model X.prog X.w) X.A (eval (.Name x pos) X.env) Q E s:=by
  obtain ⟨mb,h1,h2⟩:=I.mod.blt
  exact Calls.Name_function_global I.ok.kind hg (Calls.loadGlobal_builtin (by rw [I.ok.glob];exact I.mod.glob.keeps I.bk) hm (by rw [I.ok.blt];exact h1.keeps I.bk) ((h2 x hn).trans hv) h) hd
theorem pe_glob {x:Str} {v:V} {u:Value} {pos:Pos} (hg:Gl X x) (hm:X.mg x=some u) (r:RelV v u) (hd:(x == ("__debug__":Str))=false:=by decide):PE X (.Name x pos) (tC v) :=
  fun _ _ _ H _ I h=>ld_glob I hg hm ⟨v,H,I,r,h⟩ hd
theorem pe_bltn {x:Str} {v:V} {u:Value} {pos:Pos} (hg:Gl X x) (hm:X.mg x=none) (hv:bootBuiltins x=some u) (r:RelV v u) (hn:x≠"__name__":=by decide) (hd:(x == ("__debug__":Str))=false:=by decide):PE X (.Name x pos) (tC v) :=
  fun _ _ _ H _ I h=>ld_blt I hg hm hv ⟨v,H,I,r,h⟩ hn hd
variable {a b:Expr} {ta tb:TE} {pos:Pos}
noncomputable def tB (t:TE):TT:=fun σ H Q=>t σ H fun x H1=>∃ c,x=.bl c/\Q c H1
theorem pt_val {e:Expr} {t:TE} (h:PE X e t) (he:∀ whole,isTrue e X.env whole=(do let v <- whole;standAt e.pos;holding [v] (truthy v)):=by intro _;rfl):PT X e (tB t):=by
  intro pins s σ H Q I hw
  refine isTrue_plain (thn (h pins s σ H _ I hw) fun v s1 ⟨x,H1,I1,r1,q1⟩=>?_) (he _)
  obtain ⟨d,rfl,q⟩:=q1
  cases r1
  exact wpAny_truthy_bool ⟨H1,I1,q⟩
variable {tA tB':TT} {rest:List Expr}
noncomputable def tAnd (t u:TT):TT:=fun σ H Q=>t σ H fun c H1=>if c=true then u σ H1 Q else Q false H1
noncomputable def tOr (t u:TT):TT:=fun σ H Q=>t σ H fun c H1=>if c=true then Q true H1 else u σ H1 Q
noncomputable def tNot (t:TT):TT:=fun σ H Q=>t σ H fun c H1=>Q (!c) H1
theorem pw_and1 (ha:PT X a tA):PW X (.BoolOp .And [a] pos) tA:=by
  intro wh pins s σ H Q I h
  refine isTrue_and (thn (ha pins s σ H Q I h) fun c s1 e=>?_)
  cases c with
  | true=>exact isTrue_and_nil e
  | false=>exact e
theorem pw_or1 (ha:PT X a tA):PW X (.BoolOp .Or [a] pos) tA:=by
  intro wh pins s σ H Q I h
  refine isTrue_or (thn (ha pins s σ H Q I h) fun c s1 e=>?_)
  cases c with
  | false=>exact isTrue_or_nil e
  | true=>exact e
theorem pw_and (ha:PT X a tA) (hb:PW X (.BoolOp .And (b::rest) pos) tB'):PW X (.BoolOp .And (a::b::rest) pos) (tAnd tA tB'):=by
  intro wh pins s σ H Q I h
  refine isTrue_and (thn (ha pins s σ H _ I h) fun c s1 hq9=>?_)
  obtain ⟨H1,I1,q1⟩:=hq9
  cases c with
  | true=>exact hb wh pins s1 σ H1 Q I1 q1
  | false=>exact ⟨H1,I1,q1⟩
theorem pw_or (ha:PT X a tA) (hb:PW X (.BoolOp .Or (b::rest) pos) tB'):PW X (.BoolOp .Or (a::b::rest) pos) (tOr tA tB'):=by
  intro wh pins s σ H Q I h
  refine isTrue_or (thn (ha pins s σ H _ I h) fun c s1 hq9=>?_)
  obtain ⟨H1,I1,q1⟩:=hq9
  cases c with
  | true=>exact ⟨H1,I1,q1⟩
  | false=>exact hb wh pins s1 σ H1 Q I1 q1
theorem pt_not (ha:PT X a tA):PT X (.UnaryOp .Not a pos) (tNot tA):=by
  intro pins s σ H Q I h
  exact isTrue_not (ha pins s σ H (fun c H1=>Q (!c) H1) I h)
noncomputable def tAndV (ta tb:TE):TE:=fun σ H Q=>ta σ H fun x H1=>∃ c,x=.bl c/\if c=true then tb σ H1 Q else Q (.bl false) H1
theorem pe_one {op} {t:TE} (h:PE X a t):PE X (.BoolOp op [a] pos) t:=fun pins s σ H Q I hw=>BoolOp_one (h pins s σ H Q I hw)
theorem pe_and (ha:PE X a ta) (hb:PE X (.BoolOp .And (b::rest) pos) tb):PE X (.BoolOp .And (a::b::rest) pos) (tAndV ta tb):=by
  intro pins s σ H Q I h
  refine BoolOp_and (thn (ha pins s σ H _ I h) fun v s1 hq9=>?_)
  obtain ⟨x,H1,I1,r1,q1⟩:=hq9
  obtain ⟨c,rfl,q1⟩:=q1
  cases r1
  refine wpAny_truthy_bool ?_
  cases c with
  | true=>exact hb pins s1 σ H1 Q I1 q1
  | false=>exact ⟨.bl false,H1,I1,rfl,q1⟩
end
end L2
namespace L2
open PySem PySem.Spec PyProof.Rows
noncomputable def SqL (K:PySem.W.Frag) (H:Hp) (a:Addr) (xs:List V):Prop :=
  Rd H a (.lst xs) ∨
    ∃ (o:Obj) (its:Array Value) (n:Nat),K.lookup a=some o/\o.cls=.type "list"/\o.dict=none/\o.data=.seq its n/\its.size<=sizeLine/\Vals xs its.toList
noncomputable def SqT (K:PySem.W.Frag) (H:Hp) (a:Addr) (xs:List V):Prop :=
  Rd H a (.tup xs) ∨
    ∃ (o:Obj) (its:Array Value) (n:Nat),K.lookup a=some o/\o.cls=.type "tuple"/\o.data=.seq its n/\its.size<=sizeLine/\Vals xs its.toList
noncomputable def absV:Value->Option V
  | .none=>some .non
  | .bool b=>some (.bl b)
  | .int i _=>some (.int i)
  | .str x _=>some (.str x)
  | .bytes b _=>some (.byt b)
  | .float b _=>some (.flt b)
  | .ref a=>some (.ref a)
  | .type n=>some (.ty n)
  | _=>none
theorem RelV.abs {x:V} {u:Value} (r:RelV x u):absV u=some x:=by
  cases x with
  | non=>cases r;rfl
  | bl _=>cases r;rfl
  | int _=>obtain ⟨t,rfl⟩:=r;rfl
  | str _=>obtain ⟨t,rfl⟩:=r;rfl
  | byt _=>obtain ⟨t,rfl⟩:=r;rfl
  | flt _=>obtain ⟨t,rfl⟩:=r;rfl
  | ref _=>cases r;rfl
  | ty _=>cases r;rfl
theorem RelV.inj {x y:V} {u:Value} (r:RelV x u) (q:RelV y u):x=y:=Option.some.inj (r.abs.symm.trans q.abs)
theorem Vals.inj:∀ {xs ys:List V} {us:List Value},Vals xs us->Vals ys us->xs=ys
  | _,_,_,.nil,.nil=>rfl
  | _,_,_,.cons r t,.cons r' t'=>by rw [r.inj r',Vals.inj t t']
section
variable {X:Cx} {pins:List (Addr×Obj)} {σ:St} {H:Hp} {s:Shared} {a:Addr} {xs ys:List V}
theorem SqL.of {K:PySem.W.Frag} (h:H a=some (.lst xs)):SqL K H a xs:=.inl (.inl h)
theorem SqT.of {K:PySem.W.Frag} (h:H a=some (.tup xs)):SqT K H a xs:=.inl (.inl h)
theorem Inv.list (I:Inv X pins σ H s) (h:SqL X.K H a xs):∃ its:List Value,Vals xs its/\PlainL s.heap a its.toArray/\xs.length<=sizeLine:=by
  rcases h with h|⟨o,its,n,hk,hc,hd,hs,hz,r⟩
  . obtain ⟨z,its,n,r,e⟩:=h.ok I.hok
    exact ⟨its,r,⟨_,n,e,rfl,rfl,rfl⟩,z⟩
  . refine ⟨its.toList,r,⟨o,n,I.kIn a o hk,hc,hd,by simpa using hs⟩,?_⟩
    have e:=r.length
    simp only [Array.length_toList] at e
    lia
theorem Inv.tuple (I:Inv X pins σ H s) (h:SqT X.K H a xs):∃ its:List Value,Vals xs its/\IsTup s.heap a its.toArray/\xs.length<=sizeLine:=by
  rcases h with h|⟨o,its,n,hk,hc,hs,hz,r⟩
  . obtain ⟨z,its,r,p⟩:=h.ok I.hok
    exact ⟨its,r,p,z⟩
  . refine ⟨its.toList,r,⟨o,I.kIn a o hk,hc,n,by simpa using hs⟩,?_⟩
    have e:=r.length
    simp only [Array.length_toList] at e
    lia
theorem Inv.list_inj (I:Inv X pins σ H s) (h:SqL X.K H a xs) (h':SqL X.K H a ys):xs=ys:=by
  obtain ⟨its,r,⟨o,n,e,_,_,d⟩,_⟩:=I.list h
  obtain ⟨its',r',⟨o',n',e',_,_,d'⟩,_⟩:=I.list h'
  rw [e] at e';cases e'
  rw [d] at d'
  injection d' with d1 _
  have:its=its':=by simpa using congrArg Array.toList d1
  subst this
  exact r.inj r'
theorem Inv.tuple_inj (I:Inv X pins σ H s) (h:SqT X.K H a xs) (h':SqT X.K H a ys):xs=ys:=by
  obtain ⟨its,r,⟨o,e,_,n,d⟩,_⟩:=I.tuple h
  obtain ⟨its',r',⟨o',e',_,n',d'⟩,_⟩:=I.tuple h'
  rw [e] at e';cases e'
  rw [d] at d'
  injection d' with d1 _
  have:its=its':=by simpa using congrArg Array.toList d1
  subst this
  exact r.inj r'
end
noncomputable abbrev Cx.wish (X:Cx) (E:Value->Shared->Prop):Cx:={ X with xe:=E }
noncomputable abbrev Cx.nox (X:Cx):Cx:=X.wish fun _ _=>False
theorem Cx.Ok.wish {X:Cx} (ok:X.Ok) (E:Value->Shared->Prop):(X.wish E).Ok :=
  ⟨ok.mod,ok.kind,ok.glob,ok.blt,ok.above,ok.inj,ok.has,ok.cab,ok.hd,ok.frames,ok.stk,ok.exf,ok.bs,ok.bsz,ok.noex,ok.exfs,ok.funs,ok.frf⟩
theorem Cx.Ok.unwish {X:Cx} {E:Value->Shared->Prop} (ok:(X.wish E).Ok):X.Ok :=
  ⟨ok.mod,ok.kind,ok.glob,ok.blt,ok.above,ok.inj,ok.has,ok.cab,ok.hd,ok.frames,ok.stk,ok.exf,ok.bs,ok.bsz,ok.noex,ok.exfs,ok.funs,ok.frf⟩
section
variable {X:Cx} {pins:List (Addr×Obj)} {σ:St} {H:Hp} {s:Shared} {E:Value->Shared->Prop}
theorem Inv.wish (I:Inv X pins σ H s) (E:Value->Shared->Prop):Inv (X.wish E) pins σ H s:=⟨I.ok.wish E,I.os,I.bare,I.base,I.loc,I.cell,I.free,I.freeC,I.pin,I.hok,I.len⟩
theorem Inv.unwish (I:Inv (X.wish E) pins σ H s):Inv X pins σ H s:=⟨I.ok.unwish,I.os,I.bare,I.base,I.loc,I.cell,I.free,I.freeC,I.pin,I.hok,I.len⟩
theorem SP.unwish {D:Ends} {f:Flow} {s':Shared} (h:SP (X.wish E) pins D f s'):SP X pins D f s':=by
  cases f with
  | next=>obtain ⟨σ',H',I,q⟩:=h;exact ⟨σ',H',I.unwish,q⟩
  | brk=>obtain ⟨σ',H',I,q⟩:=h;exact ⟨σ',H',I.unwish,q⟩
  | cont=>obtain ⟨σ',H',I,q⟩:=h;exact ⟨σ',H',I.unwish,q⟩
  | ret u=>obtain ⟨v,σ',H',I,r,q⟩:=h;exact ⟨v,σ',H',I.unwish,r,q⟩
theorem PE.nox {e:Expr} {t:TE} (h:PE X.nox e t):PE X e t:=fun pins s σ H Q I hw =>
  wpAny_mono (h pins s σ H Q (I.wish _) hw) (fun _ _ ⟨v,H',I',r,q⟩=>⟨v,H',I'.unwish,r,q⟩) fun _ _ z=>False.elim z
end
section
variable {X:Cx} {st:Stmt} {rest:List Stmt} {t u:TS} {e:Expr} {te:TE} {pos:Pos}
noncomputable def tNext:TS:=fun D σ H=>D.nx σ H
noncomputable def tSeq (t u:TS):TS:=fun D σ H=>t { D with nx:=u D } σ H
theorem pss_nil:PSs X [] tNext:=fun _ _ σ H _ I h=>wpAny_execs_nil ⟨σ,H,I,h⟩
theorem pss_cons (h1:PS X st t) (h2:PSs X rest u):PSs X (st::rest) (tSeq t u):=by
  intro pins s σ H D I h
  refine wpAny_execs_cons (thn (h1 pins s σ H { D with nx:=u D } I h) fun f s1 q=>?_)
  cases f with
  | next =>
    obtain ⟨σ',H',I',q⟩:=q
    exact h2 pins s1 σ' H' D I' q
  | ret v=>exact q
  | brk=>exact q
  | cont=>exact q
theorem pss_one (h1:PS X st t):PSs X [st] t:=by
  intro pins s σ H D I h
  refine wpAny_execs_cons (thn (h1 pins s σ H D I h) fun f s1 q=>?_)
  cases f with
  | next=>exact wpAny_execs_nil q
  | ret v=>exact q
  | brk=>exact q
  | cont=>exact q
theorem Inv.quiet {pins:List (Addr×Obj)} {σ:St} {H:Hp} {s:Shared} (I:Inv X pins σ H s):interactive X.env=false:=by simp [interactive,I.ok.kind]
noncomputable def tDrop (te:TE):TS:=fun D σ H=>te σ H fun _ H1=>D.nx σ H1
theorem ps_expr (he:PE X e te) (hs:swapsWith e none pos.line X.env=pure false:=by rfl):PS X (.Expr e pos) (tDrop te):=by
  intro pins s σ H D I h
  exact wpAny_Expr_any (thn (he pins s σ H _ I h) fun v s1 ⟨x,H1,I1,r1,q1⟩=>⟨σ,H1,I1,q1⟩) I.quiet hs
noncomputable def tRet (te:TE):TS:=fun D σ H=>te σ H D.rt
theorem ps_ret (he:PE X e te):PS X (.Return (some e) pos) (tRet te):=by
  intro pins s σ H D I h
  exact wpAny_Return_some (thn (he pins s σ H _ I h) fun v s1 ⟨x,H1,I1,r1,q1⟩=>⟨x,σ,H1,I1,r1,q1⟩)
noncomputable def tIfS (c:TT) (t u:TS):TS:=fun D σ H=>c σ H fun b H1=>if b=true then t D σ H1 else u D σ H1
theorem ps_if {c:Expr} {a b:List Stmt} {tc:TT} (hc:PT X c tc) (ha:PSs X a t) (hb:PSs X b u):PS X (.If c a b pos) (tIfS tc t u):=by
  intro pins s σ H D I h
  refine wpAny_If (thn (hc pins s σ H _ I h) fun d s1 hq9=>?_)
  obtain ⟨H1,I1,q1⟩:=hq9
  cases d with
  | true=>exact ha pins s1 σ H1 D I1 q1
  | false=>exact hb pins s1 σ H1 D I1 q1
end
noncomputable abbrev TG:=V->St->Hp->(St->Hp->Prop)->Prop
noncomputable abbrev TGs:=List V->St->Hp->(St->Hp->Prop)->Prop
noncomputable def PG (X:Cx) (target:Expr) (t:TG):Prop :=
  ∀ (pins:List (Addr×Obj)) (s:Shared) (σ:St) (H:Hp) (v:V) (u:Value) (Q:St->Hp->Prop),Inv X pins σ H s->RelV v u->t v σ H Q ->
    wpAny (model X.prog X.w) X.A (assign target X.env u) (fun _ s'=>∃ σ' H',Inv X pins σ' H' s'/\Q σ' H') X.xe s
noncomputable def PGs (X:Cx) (ts:List Expr) (t:TGs):Prop :=
  ∀ (pins:List (Addr×Obj)) (s:Shared) (σ:St) (H:Hp) (vs:List V) (us:List Value) (Q:St->Hp->Prop),Inv X pins σ H s->Vals vs us->t vs σ H Q ->
    wpAny (model X.prog X.w) X.A (assignInOrder ((assignEach ts X.env).map (·.2)) us) (fun _ s'=>∃ σ' H',Inv X pins σ' H' s'/\Q σ' H') X.xe s
noncomputable abbrev TSet:=V->V->V->Hp->(Hp->Prop)->Prop
noncomputable def PSet (X:Cx) (t:TSet):Prop :=
  ∀ (pins:List (Addr×Obj)) (s:Shared) (σ:St) (H:Hp) (o i v:V) (ov iv u:Value) (Q:Hp->Prop),Inv X pins σ H s->RelV o ov->RelV i iv->RelV v u->t o i v H Q ->
    wpAny (model X.prog X.w) X.A (setItem ov iv u) (fun _ s'=>∃ H',Inv X pins σ H' s'/\Q H') X.xe s
section
variable {X:Cx} {pos:Pos}
noncomputable def gName (i:Nat):TG:=fun v σ H Q=>Q (σ.set i (some v)) H
theorem pg_name {i:Nat} {x:Str} (hN:X.N.Nodup) (hi:X.N[i]?=some x) (hx:Loc X.env.scope x) (hf:X.fn x=true∨X.env.scope.names.lookup x=some .local:=by first|exact .inl rfl|exact .inr rfl|assumption):PG X (.Name x pos) (gName i):=by
  intro pins s σ H v u Q I r h
  exact wpAny_assign_Name (store_ok I hN hi hx r (fun s' I'=>⟨_,H,I',h⟩) hf)
noncomputable def gNil:TGs:=fun vs σ H Q=>vs=[]/\Q σ H
noncomputable def gCons (t:TG) (u:TGs):TGs:=fun vs σ H Q=>∃ v r,vs=v::r/\t v σ H fun σ' H'=>u r σ' H' Q
theorem pgs_nil:PGs X [] gNil:=by
  intro pins s σ H vs us Q I r h
  obtain ⟨e,h⟩:=h
  subst e
  cases r
  exact assignInOrder_nil ⟨σ,H,I,h⟩
theorem pgs_cons {e:Expr} {es:List Expr} {t:TG} {u:TGs} (h1:PG X e t) (h2:PGs X es u)
    (hs:(assignEach (e::es) X.env).map (·.2)=assign e X.env::(assignEach es X.env).map (·.2):=by rfl):PGs X (e::es) (gCons t u):=by
  intro pins s σ H vs us Q I r h
  obtain ⟨v,vr,e1,h⟩:=h
  subst e1
  cases r with
  | cons r rr =>
    rw [hs]
    refine assignInOrder_cons (thn (h1 pins s σ H _ _ _ I r h) fun _ s1 hq9=>?_)
    obtain ⟨σ1,H1,I1,q1⟩:=hq9
    exact h2 pins s1 σ1 H1 _ _ Q I1 rr q1
noncomputable def gTup (K:PySem.W.Frag) (n:Nat) (t:TGs):TG:=fun v σ H Q=>∃ a xs,v=.ref a/\SqT K H a xs/\xs.length=n/\t xs σ H Q
theorem pg_tup {es:List Expr} {k:Nat} {t:TGs} {n:Nat} (hc:X.calm=true) (h:PGs X es t)
    (hn:(assignEach es X.env).length=n:=by rfl) (hst:(assignEach es X.env).findIdx? (·.1)=none:=by rfl):PG X (.Tuple es k pos) (gTup X.K n t):=by
  intro pins s σ H v u Q I r hw
  obtain ⟨a,xs,e1,hq,hl,hw⟩:=hw
  subst e1
  cases r
  obtain ⟨its,rv,ht,hz⟩:=I.tuple hq
  refine assign_Tuple_tuple (I.ok.hd hc) ht (by simp [hn,<- hl,rv.length]) hst fun h' hx=>?_
  have I1:Inv X pins σ H { s with heap:=h' }:=I.kept (t':=s.toks) fun b o e=>hx b o (Nat.ne_of_lt (Heap.lt_size e)) e
  exact h pins _ σ H xs _ Q I1 (by simpa using rv) hw
noncomputable def gSub (to ti:TE) (t:TSet):TG:=fun v σ H Q=>to σ H fun o H1=>ti σ H1 fun i H2=>t o i v H2 fun H3=>Q σ H3
theorem pg_sub {o i:Expr} {to ti:TE} {t:TSet} (ho:PE X o to) (hi:PE X i ti) (hs:PSet X t)
    (ha:∀ v,assign (.Subscript o i pos) X.env v=(do
      let ov <- holding [v] (eval o X.env)
      let iv <- holding [v,ov] (eval i X.env)
      standAt pos
      holding [v,ov,iv] (setItem ov iv v)
      release [v,ov,iv] []):=by intro _;rfl):PG X (.Subscript o i pos) (gSub to ti t):=by
  intro pins s σ H v u Q I r h
  rw [ha]
  refine wpAny_bind (wpAny_holding (thn (ho pins s σ H _ I h) fun ov s1 hq9=>?_))
  obtain ⟨x,H1,I1,r1,q1⟩:=hq9
  refine wpAny_bind (wpAny_holding (thn (hi pins s1 σ H1 _ I1 q1) fun iv s2 hq9=>?_))
  obtain ⟨y,H2,I2,r2,q2⟩:=hq9
  refine wpAny_bind (wpAny_standAt (wpAny_bind (wpAny_holding (thn (hs pins s2 σ H2 x y v ov iv u _ I2 r1 r2 r q2) fun _ s3 hq9=>?_))))
  obtain ⟨H3,I3,q3⟩:=hq9
  exact wpAny_release ⟨σ,H3,I3,q3⟩
noncomputable def tAsg (te:TE) (g:TG):TS:=fun D σ H=>te σ H fun x H1=>g x σ H1 D.nx
theorem ps_asg {tg e:Expr} {te:TE} {g:TG} (he:PE X e te) (hg:PG X tg g) (hs:swapsWithSole [tg] e pos.line X.env=pure false:=by rfl) (hw:swappedStores [tg] e X.env=pure none:=by rfl)
    (h1:(assignEach [tg] X.env).map (·.2)=[assign tg X.env]:=by rfl):PS X (.Assign [tg] e pos) (tAsg te g):=by
  intro pins s σ H D I h
  refine wpAny_Assign_stores (thn (he pins s σ H _ I h) fun v s1 ⟨x,H1,I1,r1,q1⟩=>?_) hs hw
  rw [h1]
  exact thn (hg pins s1 σ H1 x v _ I1 r1 q1) fun _ s2 q=>q
theorem ps_set {i:Nat} {x:Str} {e:Expr} {te:TE} {pos':Pos} (hN:X.N.Nodup) (hi:X.N[i]?=some x) (hx:Loc X.env.scope x) (he:PE X e te) (hs:swapsWith e (some (.Name x pos')) pos.line X.env=pure false:=by rfl) (hf:X.fn x=true∨X.env.scope.names.lookup x=some .local:=by first|exact .inl rfl|exact .inr rfl|assumption) :
    PS X (.Assign [.Name x pos'] e pos) (tAsg te (gName i)):=by
  intro pins s σ H D I h
  refine wpAny_Assign_Name (thn (he pins s σ H _ I h) fun v s1 ⟨y,H1,I1,r1,q1⟩=>?_) hs
  exact store_ok I1 hN hi hx r1 (fun s2 I2=>⟨_,H1,I2,q1⟩) hf
end
section
variable {X:Cx} {pos:Pos}
end
structure It where
  go:Nat->Hp->Prop
  yld:Nat->Hp->V->Hp->Prop
  stop:Nat->Hp->Prop
noncomputable def FpOk (X:Cx) (pins:List (Addr×Obj)) (H:Hp) (b:Addr):Prop :=
  H b=none/\b≠X.env.locals/\b∉X.fs/\(b∈X.ex∨X.s₀.heap.objs.size<=b)/\(∀ x c,X.env.cells.lookup x=some c->c≠b)/\∀ p∈X.pn++pins,p.1≠b
theorem Inv.fpOk {X:Cx} {pins:List (Addr×Obj)} {σ:St} {H H':Hp} {s:Shared} {b:Addr} (I:Inv X pins σ H s) (hb:s.heap.objs.size<=b) (hn:H' b=none):FpOk X pins H' b:=by
  refine ⟨hn,Nat.ne_of_gt (Nat.lt_of_lt_of_le I.lt hb),I.nofs hb,.inr (Nat.le_trans I.sz hb),fun x c e z=>?_,fun p hp z=>?_⟩
  . obtain ⟨v,q⟩:=I.cell x c e
    exact absurd (Nat.lt_of_lt_of_le q.lt (by rw [z];exact hb)) (Nat.lt_irrefl _)
  . exact absurd (Nat.lt_of_lt_of_le (Heap.lt_size (I.pin p hp).1) (by rw [z];exact hb)) (Nat.lt_irrefl _)
structure Turn (P:Program) (w:World) (K:PySem.W.Frag) (tg:Expr) (J:It) (fp:List Addr) (it:Addr) (tn:Nat->Heap->Prop):Prop where
  mem:it∈fp
  obj:∀ i h,tn i h->∀ b∈fp,∃ o,h.get? b=some o/\∀ v,o.data≠.cell v
  keep:∀ i h h',tn i h->(∀ b∈fp,∀ o,h.get? b=some o->h'.get? b=some o)->tn i h'
  item:∀ (X:Cx),X.prog=P->X.w=w->X.K=K->X.calm=true->∀ (i:Nat) (pins:List (Addr×Obj)) (s:Shared) (σ:St) (H:Hp) (E:Value->Shared->Prop),Inv X pins σ H s->(∀ b∈fp,FpOk X pins H b)->tn i s.heap->J.go i H ->
    wpAny (model P w) X.A (pyNext (.ref it)) (fun r s1=>∃ u,r=some u /\
      wpAny (model P w) X.A (letOwnedTupleGo tg (.ref it) u) (fun _ s2=>∃ x H',Inv X pins σ H' s2/\RelV x u/\J.yld i H x H'/\tn (i + 1) s2.heap/\∀ b∈fp,H' b=none) E s1) E s
  done : ∀ (X : Cx), X.prog = P -> X.w = w -> X.K = K -> X.calm = true -> ∀ (i : Nat) (pins : List (Addr × Obj)) (s : Shared) (σ : St) (H : Hp) (E : Value -> Shared -> Prop), Inv X pins σ H s -> (∀ b ∈ fp, FpOk X pins H b) -> tn i s.heap -> J.stop i H ->
    wpAny (model P w) X.A (pyNext (.ref it)) (fun r s1=>r=none/\Inv X pins σ H s1) E s
  self:∀ (A:Around) (i:Nat) (s:Shared) (Q:Value->Shared->Prop) (E:Value->Shared->Prop),tn i s.heap->Q (.ref it) s->wpAny (model P w) A (pyIter (.ref it)) Q E s
noncomputable abbrev TI:=St->Hp->(It->Hp->Prop)->Prop
noncomputable def PIE (X:Cx) (pins:List (Addr×Obj)) (σ:St) (tg:Expr) (R:It->Hp->Prop) (itv:Value) (s2:Shared):Prop :=
  ∃ (it:Addr) (fp:List Addr) (tn:Nat->Heap->Prop) (J:It) (H':Hp),itv=.ref it/\Inv X pins σ H' s2/\Turn X.prog X.w X.K tg J fp it tn/\tn 0 s2.heap/\(∀ b∈fp,FpOk X pins H' b)/\R J H'
noncomputable def PI (X:Cx) (tg iter:Expr) (wi:TI):Prop :=
  ∀ (pins:List (Addr×Obj)) (s:Shared) (σ:St) (H:Hp) (R:It->Hp->Prop),Inv X pins σ H s->wi σ H R ->
    wpAny (model X.prog X.w) X.A (eval iter X.env) (fun v s1=>wpAny (model X.prog X.w) X.A (pyIter v) (PIE X pins σ tg R) X.xe s1) X.xe s
theorem go_of {M:Model} {A:Around} {E:Value->Shared->Prop} {s:Shared} {tg:Expr} {it:Addr} {u:Value} {o:Obj} {n:String} {vs:Array Value} {Q:Unit->Shared->Prop} (ho:s.heap.get? it=some o) (hc:o.cls=.type n) (hd:o.data=.fields vs)
    (hn:["enumerate","zip","dict_itemiterator","dict_reverseitemiterator","odict_iterator","itertools.zip_longest","itertools.pairwise"].contains n=false) (hQ:Q () s):wpAny M A (letOwnedTupleGo tg (.ref it) u) Q E s:=by
  unfold letOwnedTupleGo
  cases tg <;> first
    | exact wpAny_pure hQ
    | (cases u <;> first
        | exact wpAny_pure hQ
        | (refine wpAny_bind (wpAny_load ho ?_)
           rw [hc,hd]
           show wpAny M A (if (["enumerate","zip","dict_itemiterator","dict_reverseitemiterator","odict_iterator","itertools.zip_longest","itertools.pairwise"].contains n && vs[0]? == some (rawInt _))=true then _ else _) Q E s
           rw [if_neg (by intro h;rw [hn,Bool.false_and] at h;cases h)]
           exact wpAny_pure hQ))
noncomputable def Itl (K:PySem.W.Frag) (a:Addr):It :=
  ⟨fun i H=>∃ xs x,SqL K H a xs/\xs[i]?=some x,fun i H x H'=>H'=H/\∀ xs,SqL K H a xs->xs[i]?=some x,fun i H=>∃ xs,SqL K H a xs/\xs.length<=i⟩
noncomputable def Itt (K:PySem.W.Frag) (a:Addr):It :=
  ⟨fun i H=>∃ xs x,SqT K H a xs/\xs[i]?=some x,fun i H x H'=>H'=H/\∀ xs,SqT K H a xs->xs[i]?=some x,fun i H=>∃ xs,SqT K H a xs/\xs.length<=i⟩
noncomputable def Itr (lo:Int) (n:Nat):It:=⟨fun i _=>i < n,fun i H x H'=>H'=H/\x=.int (lo + i),fun i _=>n<=i⟩
theorem turn_list {P:Program} {w:World} {K:PySem.W.Frag} {tg:Expr} (a it:Addr):Turn P w K tg (Itl K a) [it] it (fun i h=>h.IsListIter it a i) where
  mem:=by simp
  obj:=fun i h st b hb=>by
    have e:b=it:=by simpa using hb
    subst e
    obtain ⟨o,e,c,d⟩:=st
    exact ⟨o,e,fun v z=>by rw [d] at z;cases z⟩
  keep:=fun i h h' st k=>st.at fun o e=>k it (by simp) o e
  item:=by
    intro X hP hw hK hc i pins s σ H E I hf st hg
    subst hP hw hK
    obtain ⟨xs,x,hq,hx⟩:=hg
    obtain ⟨its,rv,p,hz⟩:=I.list hq
    obtain ⟨u,hu,ru⟩:=rv.get hx
    obtain ⟨f0,f1,f2,f3,f4,f5⟩:=hf it (by simp)
    refine wpAny_pyNext_list_item st p.isList (x:=u) (by simpa using hu) fun h' st' sb=>?_
    have I1:Inv X pins σ H { s with heap:=h' }:=I.turned (t':=s.toks) (fun b o hb e=>(sb.2 b hb).trans e) f0 f1 f3 f4 f5
    obtain ⟨o,e,c,d⟩:=id st'
    exact ⟨u,rfl,go_of (s:={ s with heap:=h' }) e c d (by decide) ⟨x,H,I1,ru,⟨rfl,fun ys hy=>by rw [I.list_inj hy hq];exact hx⟩,st',fun b hb=>(hf b hb).1⟩⟩
  done := by
    intro X hP hw hK hc i pins s σ H E I hf st hg
    subst hP hw hK
    obtain ⟨xs,hq,hx⟩:=hg
    obtain ⟨its,rv,p,hz⟩:=I.list hq
    obtain ⟨f0,f1,f2,f3,f4,f5⟩:=hf it (by simp)
    have hl:=rv.length
    exact wpAny_pyNext_list_end (I.ok.hd hc) st p.isList (by simp;lia) fun h' eb=>⟨rfl,I.turned (t':=s.toks) (fun b o hb e=>eb b o hb e) f0 f1 f3 f4 f5⟩
  self:=fun _ _ _ _ _ st h=>wpAny_pyIter_listiter st h
theorem turn_tuple {P:Program} {w:World} {K:PySem.W.Frag} {tg:Expr} (a it:Addr):Turn P w K tg (Itt K a) [it] it (fun i h=>h.IsTupleIter it a i) where
  mem:=by simp
  obj:=fun i h st b hb=>by
    have e:b=it:=by simpa using hb
    subst e
    obtain ⟨o,e,c,d⟩:=st
    exact ⟨o,e,fun v z=>by rw [d] at z;cases z⟩
  keep:=fun i h h' st k=>st.at fun o e=>k it (by simp) o e
  item:=by
    intro X hP hw hK hc i pins s σ H E I hf st hg
    subst hP hw hK
    obtain ⟨xs,x,hq,hx⟩:=hg
    obtain ⟨its,rv,p,hz⟩:=I.tuple hq
    obtain ⟨u,hu,ru⟩:=rv.get hx
    obtain ⟨f0,f1,f2,f3,f4,f5⟩:=hf it (by simp)
    refine wpAny_pyNext_tuple_item st (show s.heap.IsTuple a its.toArray from p) (x:=u) (by simpa using hu) fun h' st' sb=>?_
    have I1:Inv X pins σ H { s with heap:=h' }:=I.turned (t':=s.toks) (fun b o hb e=>(sb.2 b hb).trans e) f0 f1 f3 f4 f5
    obtain ⟨o,e,c,d⟩:=id st'
    exact ⟨u,rfl,go_of (s:={ s with heap:=h' }) e c d (by decide) ⟨x,H,I1,ru,⟨rfl,fun ys hy=>by rw [I.tuple_inj hy hq];exact hx⟩,st',fun b hb=>(hf b hb).1⟩⟩
  done := by
    intro X hP hw hK hc i pins s σ H E I hf st hg
    subst hP hw hK
    obtain ⟨xs,hq,hx⟩:=hg
    obtain ⟨its,rv,p,hz⟩:=I.tuple hq
    obtain ⟨f0,f1,f2,f3,f4,f5⟩:=hf it (by simp)
    have hl:=rv.length
    exact wpAny_pyNext_tuple_end (I.ok.hd hc) st (show s.heap.IsTuple a its.toArray from p) (by simp;lia) fun h' eb=>⟨rfl,I.turned (t':=s.toks) (fun b o hb e=>eb b o hb e) f0 f1 f3 f4 f5⟩
  self:=fun _ _ _ _ _ st h=>wpAny_pyIter_tupleiter st h
theorem turn_range {P:Program} {w:World} {K:PySem.W.Frag} {tg:Expr} (it:Addr) (lo:Int) (n:Nat):Turn P w K tg (Itr lo n) [it] it (fun i h=>IsRangeIter h it (lo + (i:Nat) * 1) ((n:Int) - (i:Nat)) 1) where
  mem:=by simp
  obj:=fun i h st b hb=>by
    have e:b=it:=by simpa using hb
    subst e
    exact ⟨_,st,fun v z=>by
      have z':Data.fields _=Data.cell v:=z
      cases z'⟩
  keep:=fun i h h' st k=>k it (by simp) _ st
  item:=by
    intro X hP hw hK hc i pins s σ H E I hf st hg
    subst hP hw hK
    obtain ⟨f0,f1,f2,f3,f4,f5⟩:=hf it (by simp)
    have W:=Walks.range (prog:=X.prog) (w:=X.w) (I.ok.hd hc) it lo 1 n
    refine W.item i s _ _ hg st fun v h' tk hv st' kk=>?_
    obtain ⟨t,rfl⟩:=hv
    have I1:Inv X pins σ H { s with heap:=h',toks:=tk }:=I.turned (fun b o hb e=>kk b o (by simpa using hb) e) f0 f1 f3 f4 f5
    refine ⟨_,rfl,go_of (s:={ s with heap:=h',toks:=tk }) (n:="range_iterator") st' rfl rfl (by decide) ⟨.int (lo + i),H,I1,⟨t,?_⟩,⟨rfl,rfl⟩,st',fun b hb=>(hf b hb).1⟩⟩
    rw [Int.mul_one]
  done := by
    intro X hP hw hK hc i pins s σ H E I hf st hg
    subst hP hw hK
    obtain ⟨f0,f1,f2,f3,f4,f5⟩:=hf it (by simp)
    exact wpAny_pyNext_range_end (I.ok.hd hc) st (by have:n<=i:=hg;lia) fun h' eb=>⟨rfl,I.turned (t':=s.toks) (fun b o hb e=>eb b o hb e) f0 f1 f3 f4 f5⟩
  self:=fun _ _ _ _ _ st h=>wpAny_pyIter_rangeiter st h
end L2
namespace L2
open PySem PySem.Spec PyProof.Rows
section
variable {X:Cx} {tg:Expr}
noncomputable def iList (K:PySem.W.Frag) (tl:TE):TI:=fun σ H R=>tl σ H fun x H1=>∃ a,x=.ref a/\(∃ xs,SqL K H1 a xs)/\R (Itl K a) H1
noncomputable def iTup (K:PySem.W.Frag) (tl:TE):TI:=fun σ H R=>tl σ H fun x H1=>∃ a,x=.ref a/\(∃ xs,SqT K H1 a xs)/\R (Itt K a) H1
theorem pi_list {l:Expr} {tl:TE} (hl:PE X l tl):PI X tg l (iList X.K tl):=by
  intro pins s σ H R I h
  refine thn (hl pins s σ H _ I h) fun v s1 hq9=>?_
  obtain ⟨x,H1,I1,r1,q1⟩:=hq9
  obtain ⟨a,e,⟨xs,hq⟩,q⟩:=q1
  subst e
  cases r1
  obtain ⟨its,rv,p,hz⟩:=I1.list hq
  refine wpAny_pyIter_list p.isList ?_
  refine ⟨s1.heap.objs.size,[s1.heap.objs.size],_,_,H1,rfl,I1.kept (t':=s1.toks) fun b o e=>Heap.get?_push_of_some _ e,turn_list a _,⟨_,Heap.get?_push_size _ rfl,rfl,rfl⟩,fun b hb=>?_,q⟩
  have e:b=s1.heap.objs.size:=by simpa using hb
  subst e
  exact I1.fpOk (Nat.le_refl _) (I1.hok.fresh (Nat.le_refl _))
theorem pi_tup {l:Expr} {tl:TE} (hl:PE X l tl):PI X tg l (iTup X.K tl):=by
  intro pins s σ H R I h
  refine thn (hl pins s σ H _ I h) fun v s1 hq9=>?_
  obtain ⟨x,H1,I1,r1,q1⟩:=hq9
  obtain ⟨a,e,⟨xs,hq⟩,q⟩:=q1
  subst e
  cases r1
  obtain ⟨its,rv,p,hz⟩:=I1.tuple hq
  refine wpAny_pyIter_tuple (show s1.heap.IsTuple a its.toArray from p) ?_
  refine ⟨s1.heap.objs.size,[s1.heap.objs.size],_,_,H1,rfl,I1.kept (t':=s1.toks) fun b o e=>Heap.get?_push_of_some _ e,turn_tuple a _,⟨_,Heap.get?_push_size _ rfl,rfl,rfl⟩,fun b hb=>?_,q⟩
  have e:b=s1.heap.objs.size:=by simpa using hb
  subst e
  exact I1.fpOk (Nat.le_refl _) (I1.hok.fresh (Nat.le_refl _))
theorem range_it {pins:List (Addr×Obj)} {σ:St} {H:Hp} {s:Shared} {R:It->Hp->Prop} {E:Value->Shared->Prop} {lo hi:Int} {t u v:Tok} {tk:Nat} (I:Inv X pins σ H s) (h1:-(2 ^ 62)<=lo) (h2:lo < 2 ^ 62) (h3:-(2 ^ 62)<=hi) (h4:hi < 2 ^ 62)
    (q:R (Itr lo (hi - lo).toNat) H):wpAny (model X.prog X.w) X.A (pyIter (.ref s.heap.objs.size)) (PIE X pins σ tg R) E { s with heap:=s.heap.push { cls:=.type "range",data:=.fields #[.int lo t,.int hi u,.int 1 v] },toks:=tk }:=by
  refine wpAny_pyIter_range (IsRange.new ..) (small_one h1 h2 h3 h4) ?_
  have I1:Inv X pins σ H { s with heap:=s.heap.push { cls:=.type "range",data:=.fields #[.int lo t,.int hi u,.int 1 v] },toks:=tk }:=I.kept fun b o e=>Heap.get?_push_of_some _ e
  refine ⟨(s.heap.push { cls:=.type "range",data:=.fields #[.int lo t,.int hi u,.int 1 v] }).objs.size,[(s.heap.push { cls:=.type "range",data:=.fields #[.int lo t,.int hi u,.int 1 v] }).objs.size],_,_,H,rfl,
    I1.kept (t':=tk) fun b o e=>Heap.get?_push_of_some _ e,turn_range _ lo (hi - lo).toNat,?_,fun b hb=>?_,q⟩
  . have e1:lo + ((0:Nat):Int) * 1=lo:=by simp
    have e2:(((hi - lo).toNat:Nat):Int) - ((0:Nat):Int)=Builtin.Range.rangeSize lo hi 1:=by rw [rangeSize_one];split <;> lia
    show IsRangeIter _ _ (lo + ((0:Nat):Int) * 1) ((((hi - lo).toNat:Nat):Int) - ((0:Nat):Int)) 1
    rw [e1,e2]
    exact Heap.get?_push_size _ rfl
  . have e:b=(s.heap.push { cls:=.type "range",data:=.fields #[.int lo t,.int hi u,.int 1 v] }).objs.size:=by simpa using hb
    subst e
    exact I1.fpOk (Nat.le_refl _) (I1.hok.fresh (Nat.le_refl _))
noncomputable def iRng1 (ta:TA):TI:=fun σ H R=>ta σ H fun vs H1=>∃ j:Int,vs=[.int j]/\-(2 ^ 62)<=j/\j < 2 ^ 62/\R (Itr 0 j.toNat) H1
theorem pi_range1 {a:Expr} {ta:TA} {p pos:Pos} (hg:Gl X "range") (hm:X.mg "range"=none) (ha:PA X [a] ta) (hs:starEach [a] X.env=[(false,eval a X.env)]:=by rfl):PI X tg (.Call (.Name "range" p) [a] [] pos) (iRng1 ta):=by
  intro pins s σ H R I h
  refine Call_ (ld_blt I hg hm boot_range (PyProof.Rows.callWith_type1 (thn (ha pos pins s σ H _ I h) fun us s1 ⟨vs,H1,I1,r1,q1⟩=>?_) hs rfl))
  obtain ⟨j,e,q1,q2,q⟩:=q1
  subst e
  cases r1 with
  | cons r rr =>
    cases rr
    obtain ⟨t,rfl⟩:=r
    exact call_range_1 (range_it I1 (by lia) (by lia) q1 q2 (by simpa using q))
noncomputable def tFor (wi:TI) (g:TG) (tb:TS):TS:=fun D σ H=>wi σ H fun J H1=>∃ W:Nat->Nat->St->Hp->Prop,(∃ m,W 0 m σ H1)/\∀ i m σ H,W i m σ H ->
  (J.stop i H/\D.nx σ H)∨(J.go i H/\∃ N:St->Hp->Prop,(∀ σ' H',N σ' H'->∃ m',m' < m/\W (i + 1) m' σ' H')/\∀ x H',J.yld i H x H'->g x σ H' fun σ2 H2=>tb { D with nx:=N,ct:=N,bk:=D.nx } σ2 H2)
noncomputable def pinsAt (fp:List Addr) (h:Heap):List (Addr×Obj):=fp.filterMap fun b=>(h.get? b).map fun o=>(b,o)
theorem mem_pinsAt {fp:List Addr} {h:Heap} {b:Addr} {o:Obj} (hb:b∈fp) (e:h.get? b=some o):(b,o)∈pinsAt fp h:=List.mem_filterMap.mpr ⟨b,hb,by rw [e];rfl⟩
theorem of_pinsAt {fp:List Addr} {h:Heap} {p:Addr×Obj} (hp:p∈pinsAt fp h):p.1∈fp/\h.get? p.1=some p.2:=by
  obtain ⟨b,hb,e⟩:=List.mem_filterMap.mp hp
  cases q:h.get? b with
  | none=>rw [q] at e;cases e
  | some o =>
    rw [q] at e
    have e':(b,o)=p:=Option.some.inj e
    subst e'
    exact ⟨hb,q⟩
theorem Inv.pinned {pins:List (Addr×Obj)} {σ:St} {H:Hp} {s:Shared} {fp:List Addr} (I:Inv X pins σ H s) (hf:∀ b∈fp,FpOk X pins H b) (ho:∀ b∈fp,∃ o,s.heap.get? b=some o/\∀ v,o.data≠.cell v):Inv X (pins++pinsAt fp s.heap) σ H s :=
  I.pins_of fun p hp=>(List.mem_append.mp hp).elim (fun z=>I.pin p (List.mem_append_right _ z)) fun z=>by
    obtain ⟨hb,e⟩:=of_pinsAt z
    obtain ⟨f0,f1,f2,_⟩:=hf p.1 hb
    obtain ⟨o,e',d⟩:=ho p.1 hb
    rw [e] at e';cases e'
    exact ⟨e,f0,f1,f2,d⟩
theorem Inv.unpinned {pins pl:List (Addr×Obj)} {σ:St} {H:Hp} {s:Shared} (I:Inv X (pins++pl) σ H s):Inv X pins σ H s:=I.pins_of fun p hp=>I.pin p (List.mem_append_right _ (List.mem_append_left _ hp))
theorem ps_for {iter:Expr} {body:List Stmt} {wi:TI} {g:TG} {tb:TS} {pos:Pos} (hp:PassesOwn (model X.prog X.w) X.A X.env X.xe) (hc:X.calm=true) (hi:PI X tg iter wi) (hg:PG X tg g) (hb:PSs X body tb)
    (hs:∀ x,foldedSetIterable iter X.env x=pure x:=by intro _;rfl):PS X (.For tg iter body [] pos) (tFor wi g tb):=by
  intro pins s σ H D I h
  refine wpAny_For (thn (hi pins s σ H _ I h) fun v s1 h1=>thn h1 fun itv s2 h2=>?_) hs
  obtain ⟨it,fp,tn,J,H2,e,I2,T,st2,f2,W,⟨m0,w0⟩,turn⟩:=h2
  subst e
  have stat:∀ {H':Hp},(∀ b∈fp,H' b=none)->∀ b∈fp,FpOk X pins H' b:=fun hn b hb=>⟨hn b hb,(f2 b hb).2⟩
  refine codeAny_forLoop_any (fun n s'=>∃ i σ' H',Inv X pins σ' H' s'/\tn i s'.heap/\(∀ b∈fp,H' b=none)/\W i n σ' H') ?_ m0 ⟨0,σ,H2,I2,st2,fun b hb=>(f2 b hb).1,w0⟩
  rintro n s3 ⟨i,σ3,H3,I3,st3,fr3,w3⟩
  rcases turn i n σ3 H3 w3 with ⟨stop,qn⟩|⟨go,N,hN,step⟩
  . refine wpAny_passesOwn hp (thn (T.done X rfl rfl rfl hc i pins s3 σ3 H3 X.xe I3 (stat fr3) st3 stop) fun r s4 hq9=>?_)
    obtain ⟨hr,I4⟩:=hq9
    subst hr
    exact wpAny_execs_nil ⟨σ3,H3,I4,qn⟩
  . refine wpAny_passesOwn hp (thn (T.item X rfl rfl rfl hc i pins s3 σ3 H3 X.xe I3 (stat fr3) st3 go) fun r s4 hq9=>?_)
    obtain ⟨u,hr,h4⟩:=hq9
    subst hr
    refine wpAny_passesOwn hp (thn h4 fun _ s5 hq9=>?_)
    obtain ⟨x,H5,I5,r5,y5,st5,fr5⟩:=hq9
    have I5':=I5.pinned (stat fr5) (T.obj _ _ st5)
    refine wpAny_passesOwn hp (thn (hg _ s5 σ3 H5 x u _ I5' r5 (step x H5 y5)) fun _ s6 hq9=>?_)
    obtain ⟨σ6,H6,I6,q6⟩:=hq9
    refine wpAny_passesOwn hp (thn (hb _ s6 σ6 H6 _ I6 q6) fun f s7 q7=>?_)
    have again:∀ {σ7:St} {H7:Hp},Inv X (pins++pinsAt fp s5.heap) σ7 H7 s7->N σ7 H7->∃ m,m < n/\∃ i σ' H',Inv X pins σ' H' s7/\tn i s7.heap/\(∀ b∈fp,H' b=none)/\W i m σ' H':=fun {σ7 H7} I7 n7=>by
      obtain ⟨m',hm,w7⟩:=hN σ7 H7 n7
      refine ⟨m',hm,i + 1,σ7,H7,I7.unpinned,T.keep _ _ _ st5 fun b hb o e=>(I7.pin (b,o) (List.mem_append_right _ (List.mem_append_right _ (mem_pinsAt hb e)))).1,fun b hb=>?_,w7⟩
      obtain ⟨o,e,d⟩:=T.obj _ _ st5 b hb
      exact (I7.pin (b,o) (List.mem_append_right _ (List.mem_append_right _ (mem_pinsAt hb e)))).2.1
    cases f with
    | next=>obtain ⟨σ7,H7,I7,n7⟩:=q7;exact again I7 n7
    | cont=>obtain ⟨σ7,H7,I7,n7⟩:=q7;exact again I7 n7
    | brk=>obtain ⟨σ7,H7,I7,q7⟩:=q7;exact ⟨σ7,H7,I7.unpinned,q7⟩
    | ret v=>obtain ⟨x7,σ7,H7,I7,r7,q7⟩:=q7;exact ⟨x7,σ7,H7,I7.unpinned,r7,q7⟩
end
theorem for_list {K:PySem.W.Frag} {a:Addr} {xs:List V} {g:TG} {tb:TS} {D:Ends} {σ:St} {H:Hp} (Pv:Nat->St->Hp->Prop) (h0:Pv 0 σ H) (hl:∀ i σ H,i<=xs.length->Pv i σ H->SqL K H a xs)
    (hs:∀ i x σ H,xs[i]?=some x->Pv i σ H->g x σ H fun σ2 H2=>tb { D with nx:=Pv (i + 1),ct:=Pv (i + 1),bk:=D.nx } σ2 H2) (hd:∀ σ H,Pv xs.length σ H->D.nx σ H) :
    ∃ W:Nat->Nat->St->Hp->Prop,(∃ m,W 0 m σ H)/\∀ i m σ H,W i m σ H ->
      ((Itl K a).stop i H/\D.nx σ H)∨((Itl K a).go i H/\∃ N:St->Hp->Prop,(∀ σ' H',N σ' H'->∃ m',m' < m/\W (i + 1) m' σ' H')/\∀ x H',(Itl K a).yld i H x H'->g x σ H' fun σ2 H2=>tb { D with nx:=N,ct:=N,bk:=D.nx } σ2 H2):=by
  refine ⟨fun i m σ H=>m=xs.length - i/\i<=xs.length/\Pv i σ H,⟨xs.length,by simp,Nat.zero_le _,h0⟩,?_⟩
  rintro i m σ H ⟨rfl,hi,p⟩
  have q:=hl i σ H hi p
  by_cases hlt:i < xs.length
  . refine .inr ⟨⟨xs,xs[i],q,by simp [hlt]⟩,Pv (i + 1),fun σ' H' p'=>⟨xs.length - (i + 1),by lia,rfl,hlt,p'⟩,fun x H' y=>?_⟩
    obtain ⟨e,y⟩:=y
    subst e
    exact hs i x σ _ (y xs q) p
  . have e:i=xs.length:=by lia
    subst e
    exact .inl ⟨⟨xs,q,Nat.le_refl _⟩,hd σ H p⟩
theorem for_range {lo:Int} {n:Nat} {g:TG} {tb:TS} {D:Ends} {σ:St} {H:Hp} (Pv:Nat->St->Hp->Prop) (h0:Pv 0 σ H)
    (hs:∀ i σ H,i < n->Pv i σ H->g (.int (lo + i)) σ H fun σ2 H2=>tb { D with nx:=Pv (i + 1),ct:=Pv (i + 1),bk:=D.nx } σ2 H2) (hd:∀ σ H,Pv n σ H->D.nx σ H) :
    ∃ W:Nat->Nat->St->Hp->Prop,(∃ m,W 0 m σ H)/\∀ i m σ H,W i m σ H ->
      ((Itr lo n).stop i H/\D.nx σ H)∨((Itr lo n).go i H/\∃ N:St->Hp->Prop,(∀ σ' H',N σ' H'->∃ m',m' < m/\W (i + 1) m' σ' H')/\∀ x H',(Itr lo n).yld i H x H'->g x σ H' fun σ2 H2=>tb { D with nx:=N,ct:=N,bk:=D.nx } σ2 H2):=by
  refine ⟨fun i m σ H=>m=n - i/\i<=n/\Pv i σ H,⟨n,by simp,Nat.zero_le _,h0⟩,?_⟩
  rintro i m σ H ⟨rfl,hi,p⟩
  by_cases hlt:i < n
  . refine .inr ⟨hlt,Pv (i + 1),fun σ' H' p'=>⟨n - (i + 1),by lia,rfl,hlt,p'⟩,fun x H' y=>?_⟩
    obtain ⟨e,y⟩:=y
    subst e y
    exact hs i σ _ hlt p
  . have e:i=n:=by lia
    subst e
    exact .inl ⟨Nat.le_refl _,hd σ H p⟩
end L2
namespace L2
open PySem PySem.Spec PyProof.Rows
noncomputable abbrev R2:=V->V->Hp->VK->Prop
noncomputable def OpR (X:Cx) (f:Value->Value->Sem Value) (r:R2):Prop :=
  ∀ (pins:List (Addr×Obj)) (s:Shared) (σ:St) (H:Hp) (x y:V) (v u:Value) (Q:VK),Inv X pins σ H s->RelV x v->RelV y u->r x y H Q ->
    wpAny (model X.prog X.w) X.A (f v u) (EP X pins σ Q) X.xe s
noncomputable def UnR (X:Cx) (f:Value->Sem Value) (r:V->Hp->VK->Prop):Prop :=
  ∀ (pins:List (Addr×Obj)) (s:Shared) (σ:St) (H:Hp) (x:V) (v:Value) (Q:VK),Inv X pins σ H s->RelV x v->r x H Q ->
    wpAny (model X.prog X.w) X.A (f v) (EP X pins σ Q) X.xe s
noncomputable def CallR (X:Cx) (f:Value) (r:List V->Hp->VK->Prop):Prop :=
  ∀ (pins:List (Addr×Obj)) (s:Shared) (σ:St) (H:Hp) (xs:List V) (us:List Value) (Q:VK),Inv X pins σ H s->Vals xs us->r xs H Q ->
    wpAny (model X.prog X.w) X.A (call f us) (EP X pins σ Q) X.xe s
noncomputable def tOp (r:R2) (ta tb:TE):TE:=fun σ H Q=>ta σ H fun x H1=>tb σ H1 fun y H2=>r x y H2 Q
noncomputable def tUn (r:V->Hp->VK->Prop) (ta:TE):TE:=fun σ H Q=>ta σ H fun x H1=>r x H1 Q
noncomputable def rI (C:Int->Int->Prop) (g:Int->Int->V):R2:=fun x y H Q=>∃ i j,x=.int i/\y=.int j/\C i j/\Q (g i j) H
noncomputable def rI0 (g:Int->Int->V):R2:=fun x y H Q=>∃ i j,x=.int i/\y=.int j/\Q (g i j) H
noncomputable def rU (g:Int->V):V->Hp->VK->Prop:=fun x H Q=>∃ i,x=.int i/\Q (g i) H
section
variable {X:Cx} {a b c:Expr} {ta tb tc:TE} {pos:Pos}
theorem binT (ha:PE X a ta) (hb:PE X b tb) {pins:List (Addr×Obj)} {s:Shared} {σ:St} {H:Hp} {R:V->V->Hp->Prop} (I:Inv X pins σ H s)
    (h:ta σ H fun x H1=>tb σ H1 fun y H2=>R x y H2) {Q:Value->Shared->Prop} {f:Value->Value->Sem Value}
    (hf:∀ v u s2 x y H2,Inv X pins σ H2 s2->RelV x v->RelV y u->R x y H2->wpAny (model X.prog X.w) X.A (f v u) Q X.xe s2) :
    wpAny (model X.prog X.w) X.A (eval a X.env) (fun v s₁=>wpAny (model X.prog X.w) X.A (eval b X.env) (fun u s₂=>wpAny (model X.prog X.w) X.A (f v u) Q X.xe s₂) X.xe s₁) X.xe s:=by
  refine thn (ha pins s σ H _ I h) fun v s1 hq9=>?_
  obtain ⟨x,H1,I1,r1,q1⟩:=hq9
  refine thn (hb pins s1 σ H1 _ I1 q1) fun u s2 hq9=>?_
  obtain ⟨y,H2,I2,r2,q2⟩:=hq9
  exact hf v u s2 x y H2 I2 r1 r2 q2
theorem pe_op {op:Operator} {r:R2} (ho:OpR X (binaryOp op) r) (ha:PE X a ta) (hb:PE X b tb):PE X (.BinOp a op b pos) (tOp r ta tb):=by
  intro pins s σ H Q I h
  exact wpAny_BinOp (binT ha hb I h fun v u s2 x y H2 I2 rx ry q=>ho pins s2 σ H2 x y v u Q I2 rx ry q)
theorem pe_un {op:UnaryOp} {r:V->Hp->VK->Prop} (ho:UnR X (unaryOp op) r) (ha:PE X a ta):PE X (.UnaryOp op a pos) (tUn r ta):=by
  intro pins s σ H Q I h
  exact UnaryOp_ (thn (ha pins s σ H _ I h) fun v s1 ⟨x,H1,I1,r1,q1⟩=>ho pins s1 σ H1 x v Q I1 r1 q1)
theorem opI {f:Value->Value->Sem Value} {C:Int->Int->Prop} {g:Int->Int->Int}
    (rule:∀ (i j:Int) (t u:Tok) (s:Shared) (Q:Value->Shared->Prop) (E:Value->Shared->Prop),C i j->Q (.int (g i j) s.toks) { s with toks:=s.toks + 1 }->wpAny (model X.prog X.w) X.A (f (.int i t) (.int j u)) Q E s) :
    OpR X f (rI C fun i j=>.int (g i j)):=by
  intro pins s σ H x y v u Q I rx ry h
  obtain ⟨i,j,rfl,rfl,hc,q⟩:=h
  obtain ⟨t,rfl⟩:=rx
  obtain ⟨t',rfl⟩:=ry
  exact rule i j t t' s _ _ hc ⟨.int (g i j),H,I.tok _,⟨_,rfl⟩,q⟩
theorem opI0 {f:Value->Value->Sem Value} {g:Int->Int->Int}
    (rule:∀ (i j:Int) (t u:Tok) (s:Shared) (Q:Value->Shared->Prop) (E:Value->Shared->Prop),Q (.int (g i j) s.toks) { s with toks:=s.toks + 1 }->wpAny (model X.prog X.w) X.A (f (.int i t) (.int j u)) Q E s) :
    OpR X f (rI0 fun i j=>.int (g i j)):=by
  intro pins s σ H x y v u Q I rx ry h
  obtain ⟨i,j,rfl,rfl,q⟩:=h
  obtain ⟨t,rfl⟩:=rx
  obtain ⟨t',rfl⟩:=ry
  exact rule i j t t' s _ _ ⟨.int (g i j),H,I.tok _,⟨_,rfl⟩,q⟩
theorem opB0 {f:Value->Value->Sem Value} {g:Int->Int->Bool}
    (rule:∀ (i j:Int) (t u:Tok) (s:Shared) (Q:Value->Shared->Prop) (E:Value->Shared->Prop),Q (.bool (g i j)) s->wpAny (model X.prog X.w) X.A (f (.int i t) (.int j u)) Q E s) :
    OpR X f (rI0 fun i j=>.bl (g i j)):=by
  intro pins s σ H x y v u Q I rx ry h
  obtain ⟨i,j,rfl,rfl,q⟩:=h
  obtain ⟨t,rfl⟩:=rx
  obtain ⟨t',rfl⟩:=ry
  exact rule i j t t' s _ _ ⟨.bl (g i j),H,I,rfl,q⟩
noncomputable def CPow (i j:Int):Prop:=0<=j/\j<=1000000/\i.natAbs < 2 ^ 64
noncomputable def CMul (i j:Int):Prop:=(-(2 ^ 64) < i/\i < 2 ^ 64)∨(-(2 ^ 64) < j/\j < 2 ^ 64)
theorem CMul.ok {i j:Int} (h:CMul i j):IntMulOk i j:=by
  rcases h with ⟨h1,h2⟩|⟨h1,h2⟩
  . exact .of_left (intBits_le_64 h1 h2)
  . exact .of_right (intBits_le_64 h1 h2)
theorem op_add:OpR X (binaryOp .Add) (rI0 fun i j=>.int (i + j)):=opI0 fun _ _ _ _ _ _ _ q=>add_int q
theorem op_sub:OpR X (binaryOp .Sub) (rI0 fun i j=>.int (i - j)):=opI0 fun _ _ _ _ _ _ _ q=>sub_int q
theorem op_mul:OpR X (binaryOp .Mult) (rI CMul fun i j=>.int (i * j)):=opI fun _ _ _ _ _ _ _ hc q=>mul_int q hc.ok
theorem op_mod:OpR X (binaryOp .Mod) (rI (fun _ j=>0 < j) fun i j=>.int (i % j)):=opI fun i j _ _ _ _ _ hc q=>by
  have h1:(0:Int) < j:=hc
  exact mod_int' (by lia) (by rw [Int.fmod_eq_emod_of_nonneg i (by lia)];exact q)
theorem op_pow:OpR X (binaryOp .Pow) (rI CPow fun i j=>.int (i ^ j.toNat)):=opI fun _ _ _ _ _ _ _ hc q=>pow_int_small hc.1 hc.2.1 hc.2.2 q
theorem unI {f:Value->Sem Value} {g:Int->Int}
    (rule:∀ (i:Int) (t:Tok) (s:Shared) (Q:Value->Shared->Prop) (E:Value->Shared->Prop),Q (.int (g i) s.toks) { s with toks:=s.toks + 1 }->wpAny (model X.prog X.w) X.A (f (.int i t)) Q E s) :
    UnR X f (rU fun i=>.int (g i)):=by
  intro pins s σ H x v Q I rx h
  obtain ⟨i,rfl,q⟩:=h
  obtain ⟨t,rfl⟩:=rx
  exact rule i t s _ _ ⟨.int (g i),H,I.tok _,⟨_,rfl⟩,q⟩
theorem un_neg:UnR X (unaryOp .USub) (rU fun i=>.int (-i)):=unI fun _ _ _ _ _ q=>neg_int q
end
section
variable {X:Cx} {a b c:Expr} {ta tb tc:TE} {pos:Pos}
theorem op_le:OpR X (compareOp .LtE) (rI0 fun i j=>.bl (decide (i<=j))):=opB0 fun _ _ _ _ _ _ _ q=>le_int q
theorem op_gt:OpR X (compareOp .Gt) (rI0 fun i j=>.bl (decide (j < i))):=opB0 fun _ _ _ _ _ _ _ q=>gt_int q
theorem op_ge:OpR X (compareOp .GtE) (rI0 fun i j=>.bl (decide (j<=i))):=opB0 fun _ _ _ _ _ _ _ q=>ge_int q
theorem OpR.or {f:Value->Value->Sem Value} {r r':R2} (h:OpR X f r) (h':OpR X f r'):OpR X f (fun x y H Q=>r x y H Q∨r' x y H Q):=by
  intro pins s σ H x y v u Q I rx ry q
  rcases q with q|q
  . exact h pins s σ H x y v u Q I rx ry q
  . exact h' pins s σ H x y v u Q I rx ry q
theorem nomark (b:Expr) {op:CmpOp} (h:op≠.In:=by decide) (h2:op≠.NotIn:=by decide):behindInMarks op b=false:=by
  have e1:(op == CmpOp.In)=false:=by cases op <;> first|rfl|exact absurd rfl h
  have e2:(op == CmpOp.NotIn)=false:=by cases op <;> first|rfl|exact absurd rfl h2
  cases b <;> simp [behindInMarks,e1,e2]
theorem pe_cmpR {op:CmpOp} {r:R2} (ho:OpR X (compareOp op) r) (ha:PE X a ta) (hb:PE X b tb) (hm:behindInMarks op b=false):PE X (.Compare a [op] [b] pos) (tOp r ta tb):=by
  intro pins s σ H Q I h
  exact wpAny_Compare1 (binT ha hb I h fun v u s2 x y H2 I2 rx ry q=>ho pins s2 σ H2 x y v u Q I2 rx ry q) hm
noncomputable def tTest (t:TE):TT:=fun σ H Q=>t σ H fun x H'=>∃ k,x=.bl k/\Q k H'
theorem pt_cmpR {op:CmpOp} {r:R2} (ho:OpR X (compareOp op) r) (ha:PE X a ta) (hb:PE X b tb) (hm:behindInMarks op b=false):PT X (.Compare a [op] [b] pos) (tTest (tOp r ta tb)):=by
  intro pins s σ H Q I h
  refine wpAny_isTrue_Compare1 (thn (ha pins s σ H _ I h) fun v s1 ⟨x,H1,I1,r1,q1⟩=>thn (hb pins s1 σ H1 _ I1 q1) fun u s2 ⟨y,H2,I2,r2,q2⟩ =>
    thn (ho pins s2 σ H2 x y v u _ I2 r1 r2 q2) fun c s3 ⟨z,H3,I3,r3,k,e,q3⟩=>?_) hm
  subst e
  cases r3
  exact wpAny_truthy_bool ⟨H3,I3,q3⟩
noncomputable def tChain (r r':R2) (ta tb tc:TE):TE:=fun σ H Q=>ta σ H fun x H1=>tb σ H1 fun y H2=>r x y H2 fun z H3=>∃ k,z=.bl k /\
  (if k=true then tc σ H3 fun w' H4=>r' y w' H4 Q else Q (.bl false) H3)
theorem pe_chain {op op':CmpOp} {r r':R2} (ho:OpR X (compareOp op) r) (ho':OpR X (compareOp op') r') (ha:PE X a ta) (hb:PE X b tb) (hc:PE X c tc)
    (hm:lastMarks [op,op'] [b,c]=false:=by with_unfolding_all rfl):PE X (.Compare a [op,op'] [b,c] pos) (tChain r r' ta tb tc):=by
  intro pins s σ H Q I h
  refine Compare_chain (thn (ha pins s σ H _ I h) fun v s1 ⟨x,H1,I1,r1,q1⟩=>chain_link (thn (hb pins s1 σ H1 _ I1 q1) fun u s2 ⟨y,H2,I2,r2,q2⟩ =>
    thn (ho pins s2 σ H2 x y v u _ I2 r1 r2 q2) fun d s3 ⟨z,H3,I3,r3,k,e,q3⟩=>?_)) hm
  subst e
  cases r3
  refine wpAny_truthy_bool ?_
  cases k with
  | false=>exact ite_ff ⟨.bl false,H3,I3,rfl,q3⟩
  | true=>exact ite_tt (chain_last (thn (hc pins s3 σ H3 _ I3 q3) fun w' s4 ⟨z',H4,I4,r4,q4⟩=>ho' pins s4 σ H4 y z' u w' Q I4 r2 r4 q4))
theorem line63:(sizeLine:Nat) < 2 ^ 63:=by rw [sizeLine_eq];decide
theorem vals1 {x:V} {us:List Value} (r:Vals [x] us):∃ u,us=[u]/\RelV x u:=by
  cases r with
  | cons r1 r2=>cases r2;exact ⟨_,rfl,r1⟩
theorem vals2 {x y:V} {us:List Value} (r:Vals [x,y] us):∃ u w',us=[u,w']/\RelV x u/\RelV y w':=by
  cases r with
  | cons r1 r2 =>
    cases r2 with
    | cons r3 r4=>cases r4;exact ⟨_,_,rfl,r1,r3⟩
theorem call_int1:CallR X (.type "int") (fun xs H Q=>(∃ i,xs=[.int i]/\Q (.int i) H)∨∃ k,xs=[.bl k]/\Q (.int (if k then 1 else 0)) H):=by
  intro pins s σ H xs us Q I r h
  rcases h with ⟨i,rfl,q⟩|⟨k,rfl,q⟩
  . obtain ⟨u,rfl,t,rfl⟩:=vals1 r
    exact call_int_int ⟨.int i,H,I,⟨_,rfl⟩,q⟩
  . obtain ⟨u,rfl,r1⟩:=vals1 r
    cases r1
    exact call_int_bool ⟨.int (if k then 1 else 0),H,I.tok _,⟨_,rfl⟩,q⟩
end
end L2
namespace L2
open PySem PySem.Spec PyProof.Rows
structure ObjM (h:Heap) (x dx C:Addr) (mA:Str->Option Value):Prop where
  obj:h.get? x=some (PySem.W.instObj C dx)
  ns:h.Ns1 dx mA
  ne:dx≠x
section
variable {prog:Program} {w:World} {A:Around} {E:Value->Shared->Prop} {s:Shared} {K:PySem.W.Frag} {x dx C f:Addr} {mA:Str->Option Value} {name:Str} {v:Value}
end
section
variable {P:Program} {w:World} {H H':Hp} {h h':Heap} {a C dx:Addr} {fs fs':List (Str×V)}
end
structure Cls (K:PySem.W.Frag) (C:Addr):Prop where
  pg:PySem.W.plainGet K C Str.empty=true
  hd:PySem.W.hasDictIn K C=true
  po:PySem.W.plainOver K C=true
  sa:PySem.W.findIn K (.ref C) "__setattr__"=some (some (.builtin "object.__setattr__"))
structure Con (K:PySem.W.Frag) (C:Addr) (f:Str) (v:V) (u:Value):Prop where
  at_:PySem.W.findIn K (.ref C) f=some (some u)
  rel:RelV v u
  get:PySem.W.specialIn K u "__get__"=some none
  cp:PySem.W.copiedNames.contains f=false
structure Meth (K:PySem.W.Frag) (C:Addr) (m:Str) (f:Addr):Prop where
  at_:PySem.W.findIn K (.ref C) m=some (some (.ref f))
  fn:PySem.W.isFn K (.ref f)=true
  kp:PySem.W.keepIn K (.ref f)=true
section
variable {X:Cx} {pins:List (Addr×Obj)} {σ:St} {H:Hp} {s:Shared} {a C dx:Addr} {fs:List (Str×V)} {f:Str} {v:V} {A:Around} {E:Value->Shared->Prop}
end
section
variable {X:Cx} {o e value:Expr} {f:Str} {pos pos' tpos:Pos} {ta tv:TE}
end
section
variable {X:Cx} {pins:List (Addr×Obj)} {σ:St} {H:Hp} {s:Shared} {A:Around} {E:Value->Shared->Prop} {Q:Value->Shared->Prop} {c:Value} {b:Bool}
inductive TyOf (K:PySem.W.Frag) (H:Hp):V->Value->Prop where
  | non:TyOf K H .non (.type "NoneType")
  | bl (x:Bool):TyOf K H (.bl x) (.type "bool")
  | int (i:Int):TyOf K H (.int i) (.type "int")
  | str (x:Str):TyOf K H (.str x) (.type "str")
  | flt (x:UInt64):TyOf K H (.flt x) (.type "float")
  | lst {a:Addr} {xs:List V} (e:H a=some (.lst xs)):TyOf K H (.ref a) (.type "list")
  | frz {a:Addr} {o:Obj} {xs:List V} (e:H a=some (.frz o (.lst xs))):TyOf K H (.ref a) (.type "list")
  | tup {a:Addr} {xs:List V} (e:H a=some (.tup xs)):TyOf K H (.ref a) (.type "tuple")
  | dK {a:Addr} {kvs:List (Key×V)} (e:H a=some (.dK kvs)):TyOf K H (.ref a) (.type "dict")
  | dT {a:Addr} {kvs:List (List Key×V)} (e:H a=some (.dT kvs)):TyOf K H (.ref a) (.type "dict")
  | ins {a C dx:Addr} {fs:List (Str×V)} (e:H a=some (.ins C dx fs)) (cl:Cls K C) (ha:PySem.W.findIn K (.ref C) "__class__"=some (some (.builtin "object.__class__")))
      (hn:PySem.W.specialIn K (.builtin "object.__class__") "__get__"=some (some (.builtin "getset_descriptor.__get__"))) (htk:PySem.W.takesIn K (.builtin "object.__class__")=some true)
      (hm:PySem.W.mroIn K C (.type "object")=some true):TyOf K H (.ref a) (.ref C)
end
end L2
namespace L2
open PySem PySem.Spec PyProof.Rows
structure Room (k:Nat) (A:Around):Prop where
  hd:A.handled=none
  dp:A.depth + 3 * k + 5 < recursionLimit
  un:A.units + 16 * k + 200 < cLine
theorem Room.mono {j k:Nat} {A:Around} (r:Room k A) (h:j<=k):Room j A:=⟨r.hd,by have:=r.dp;lia,by have:=r.un;lia⟩
theorem Room.deeper {k:Nat} {A:Around} (r:Room (k + 1) A) (env:Env):Room k (A.deeper env) :=
  ⟨r.hd,by have:=r.dp;show A.depth + 1 + 3 * k + 5 < _;lia,by have:=r.un;show A.units + 3 + 16 * k + 200 < _;lia⟩
theorem Room.depth {k:Nat} {A:Around} (r:Room k A):A.depth < recursionLimit:=by have:=r.dp;lia
noncomputable def tNil:TA:=fun _ H Q=>Q [] H
noncomputable def tCons (ta:TE) (tr:TA):TA:=fun σ H Q=>ta σ H fun x H1=>tr σ H1 fun xs H2=>Q (x::xs) H2
section
variable {X:Cx} {e:Expr} {es:List Expr} {te:TE} {t:TA} {pos:Pos}
theorem pa_nil:PA X [] tNil:=fun _ _ _ _ H Q I h=>Calls.spliced_nil ⟨[],H,I,.nil,h⟩
theorem pa_cons (ha:PE X e te) (hr:PA X es t) (hs:starEach (e::es) X.env=(false,eval e X.env)::starEach es X.env:=by rfl):PA X (e::es) (tCons te t):=by
  intro pos pins s σ H Q I h
  rw [hs]
  show wpAny _ _ (spliced ((false,eval e X.env)::backTo pos (starEach es X.env))) _ _ s
  refine Calls.spliced_cons (thn (ha pins s σ H _ I h) fun u s1 hq9=>?_)
  obtain ⟨x,H1,I1,r1,q1⟩:=hq9
  exact thn (hr pos pins s1 σ H1 _ I1 q1) fun us s2 ⟨xs,H2,I2,r2,q2⟩=>⟨x::xs,H2,I2,.cons r1 r2,q2⟩
noncomputable def tTup (t:TA):TE:=fun σ H Q=>t σ H fun xs H1=>xs.length<=sizeLine/\∀ p,H1 p=none->Q (.ref p) (upd H1 p (.tup xs))
noncomputable def tLst (t:TA):TE:=fun σ H Q=>t σ H fun xs H1=>xs.length<=sizeLine/\∀ p,H1 p=none->Q (.ref p) (upd H1 p (.lst xs))
theorem pe_tup {x1} (h:PA X es t):PE X (.Tuple es x1 pos) (tTup t):=by
  intro pins s σ H Q I hq
  refine wpAny_Tuple_spliced (thn (h pos pins s σ H _ I hq) fun us s1 ⟨xs,H1,I1,r,z,q⟩=>⟨by rw [<- r.length];exact z,?_⟩)
  have hf:H1 s1.heap.objs.size=none:=I1.hok.fresh (Nat.le_refl _)
  refine ⟨.ref s1.heap.objs.size,upd H1 s1.heap.objs.size (.tup xs),I1.laid (t':=s1.toks) (fun b u e=>Heap.get?_push_of_some _ e) (Nat.le_refl _) ?_,rfl,q _ hf⟩
  exact ⟨z,us,r,⟨_,Heap.get?_push_size _ rfl,rfl,_,rfl⟩⟩
theorem pe_lst (h:PA X es t):PE X (.List es pos) (tLst t):=by
  intro pins s σ H Q I hq
  refine wpAny_List_spliced (thn (h pos pins s σ H _ I hq) fun us s1 ⟨xs,H1,I1,r,z,q⟩=>⟨by rw [<- r.length];exact z,?_⟩)
  have hf:H1 s1.heap.objs.size=none:=I1.hok.fresh (Nat.le_refl _)
  refine ⟨.ref s1.heap.objs.size,upd H1 s1.heap.objs.size (.lst xs),I1.laid (t':=s1.toks) (fun b u e=>Heap.get?_push_of_some _ e) (Nat.le_refl _) ?_,rfl,q _ hf⟩
  exact ⟨z,us,0,r,Heap.get?_push_size _ rfl⟩
end
noncomputable abbrev Sp:=List V->Hp->VK->XK->Prop
noncomputable abbrev CXT:=List Env->Hp->Shared->XK->Value->Shared->Prop
structure Env0 (P:Program) (w:World) (K:PySem.W.Frag) (mg:Str->Option Value) (base:Heap) (A:Around) (outer:List Env) (s:Shared) (H:Hp):Prop where
  frames:A.frames=some outer
  mod:Mod K mg base
  bs:∀ b o,base.get? b=some o->s.heap.get? b=some o/\H b=none
  bsz:base.objs.size<=s.heap.objs.size
  funs:s.heap.FunFrames base outer
  frf:∀ b∈frs outer,H b=none
  hok:HOk P w H s.heap
  bare:AllBare s.gens
noncomputable def CE (outer:List Env) (P:Program) (w:World) (H:Hp) (s:Shared) (Q:VK) (u:Value) (s':Shared):Prop :=
  ∃ v H',s'.os=s.os/\AllBare s'.gens/\Un (frs outer) [] H H' s.heap s'.heap/\HOk P w H' s'.heap/\RelV v u/\Q v H'
noncomputable def CR (CX:CXT) (outer:List Env) (P:Program) (w:World) (H:Hp) (s:Shared) (Q:VK) (E:XK) (r:Result) (s':Shared):Prop :=
  match r with
  | .ok (.ret u)=>CE outer P w H s Q u s'
  | .ok _=>False
  | .error e=>CX outer H s E e s'
structure FnOk (P:Program) (w:World) (K:PySem.W.Frag) (mg:Str->Option Value) (base:Heap) (CX:CXT) (k:Nat) (f:Addr) (fd:FuncData) (ps:List Str) (sp:Sp):Prop where
  len:∀ vs H Q E,sp vs H Q E->vs.length=ps.length
  run:∀ (A:Around) (outer:List Env) (s:Shared) (H:Hp) (args:Args) (us:List Value) (vs:List V) (Q:VK) (E:XK),Room k A->Env0 P w K mg base A outer s H->BindsTo s fd args (ps.zip us)->Vals vs us->sp vs H Q E ->
    codeAny (model P w) A (.call (.ref f) args) (CR CX outer P w H s Q E) s
section
variable {X:Cx} {pins:List (Addr×Obj)} {σ:St} {H:Hp} {s s':Shared}
theorem Inv.env0 (I:Inv X pins σ H s):Env0 X.prog X.w X.K X.mg X.base X.A X.stack s H :=
  ⟨I.ok.frames,I.ok.mod,I.bs,Nat.le_trans I.ok.bsz I.sz,I.stack,I.stkFree,I.hok,I.bare⟩
theorem Inv.after {Q:VK} {u:Value} (I:Inv X pins σ H s) (h:CE X.stack X.prog X.w H s Q u s'):EP X pins σ Q u s':=by
  obtain ⟨v,H',os,bare,un,hok,r,q⟩:=h
  obtain ⟨hh,g,d,t,os'⟩:=s'
  obtain rfl:os'=s.os:=os
  exact ⟨v,H',I.call (h':=hh) (g':=g) (d':=d) (t':=t) (ch:=[]) un hok bare (fun b z=>absurd z (by simp)),r,q⟩
end
noncomputable def Binds (K:PySem.W.Frag) (fd:FuncData) (ps:List Str) (ds:List Value):Prop :=
  ∀ (s:Shared) (us:List Value),K.In s.heap->(us++ds).length=ps.length->BindsTo s fd ⟨us,[]⟩ (ps.zip (us++ds))
theorem Binds.all {K:PySem.W.Frag} {fd:FuncData} {ps:List Str} (h:∀ us:List Value,us.length=ps.length->bindArgs fd ⟨us,[]⟩=pure (ps.zip us)):Binds K fd ps []:=fun s us _ hl=>by
  rw [List.append_nil] at hl ⊢
  exact .of_eq (h us hl)
section
variable {X:Cx} {CX:CXT} {k:Nat} {f C:Addr} {fd:FuncData} {ps:List Str} {sp:Sp} {dvs:List V} {ds:List Value} {E:XK} {x m:Str} {p pos apos:Pos} {e o:Expr} {es:List Expr} {ta:TE} {t:TA}
structure Mk (K:PySem.W.Frag) (C f:Addr):Prop where
  makes:PySem.W.makesIn K C=true
  init:PySem.W.findIn K (.ref C) "__init__"=some (some (.ref f))
  fn:PySem.W.isFn K (.ref f)=true
  kp:PySem.W.keepIn K (.ref C)=true
end
section
variable {X:Cx} {CX:CXT} {k:Nat} {f C:Addr} {fd:FuncData} {ps ks:List Str} {sp:Sp} {E:XK} {x m:Str} {p pos apos kpos:Pos} {e o:Expr} {es:List Expr} {kws:List Keyword} {te ta:TE} {t tk:TA} {nm:Option Str}
structure KBinds (K:PySem.W.Frag) (fd:FuncData) (ps ks:List Str) (g:List Value->List Value->List Value) (gV:List V->List V->List V):Prop where
  to:∀ (s:Shared) (us ws:List Value),K.In s.heap->(g us ws).length=ps.length->BindsTo s fd ⟨us,ks.zip ws⟩ (ps.zip (g us ws))
  rel:∀ {vs:List V} {us:List Value} {zs:List V} {ws:List Value},Vals vs us->Vals zs ws->Vals (gV vs zs) (g us ws)
variable {g:List Value->List Value->List Value} {gV:List V->List V->List V}
end
structure FnScope (N P:List Str) (sc:Scope):Prop where
  kind:sc.kind=.function
  co:sc.isCoroutine=false
  gen:sc.isGenerator=false
  nd:N.Nodup
  pre:N.take P.length=P
  par:∀ x∈P,sc.names.lookup x=some .local∨sc.names.lookup x=some .cell
  nofree:∀ y∈sc.names,y.2≠.free
theorem bindL_out {kindOf:Str->Option NameKind} {x:Str}:∀ {binds:List (Str×Value)} {m:Str->Option Value},(∀ v,(x,v)∉binds)->bindL kindOf binds m x=m x
  | [],_,_=>rfl
  | (n,v)::r,m,h=>by
    unfold bindL
    rw [bindL_out fun w hw=>h w (List.mem_cons_of_mem _ hw)]
    split
    . have:x≠n:=by rintro rfl;exact h v List.mem_cons_self
      simp [this]
    . rfl
theorem bindC_out {kindOf:Str->Option NameKind} {x:Str}:∀ {binds:List (Str×Value)} {m:Str->Option Value},(∀ v,(x,v)∉binds)->bindC kindOf binds m x=m x
  | [],_,_=>rfl
  | (n,v)::r,m,h=>by
    unfold bindC
    rw [bindC_out fun w hw=>h w (List.mem_cons_of_mem _ hw)]
    split
    . rfl
    . have:x≠n:=by rintro rfl;exact h v List.mem_cons_self
      simp [this]
theorem bindL_get {kindOf:Str->Option NameKind} {x:Str} {v:Value}:∀ {P:List Str} {vs:List Value} {i:Nat} {m:Str->Option Value},P.Nodup->P[i]?=some x->vs[i]?=some v->kindOf x=some .local ->
    bindL kindOf (P.zip vs) m x=some v
  | [],_,_,_,_,h,_,_=>by simp at h
  | _::_,[],_,_,_,_,h,_=>by simp at h
  | p::P,w::vs,0,m,nd,h1,h2,hk=>by
    simp at h1 h2;subst h1;subst h2
    show bindL kindOf ((p,w)::P.zip vs) m p=_
    unfold bindL
    rw [bindL_out fun v hv=>(List.nodup_cons.mp nd).1 (List.of_mem_zip hv).1,if_pos hk]
    simp
  | p::P,w::vs,i + 1,m,nd,h1,h2,hk=>by
    show bindL kindOf ((p,w)::P.zip vs) m x=_
    unfold bindL
    exact bindL_get (i:=i) (List.nodup_cons.mp nd).2 (by simpa using h1) (by simpa using h2) hk
theorem bindC_get {kindOf:Str->Option NameKind} {x:Str} {v:Value}:∀ {P:List Str} {vs:List Value} {i:Nat} {m:Str->Option Value},P.Nodup->P[i]?=some x->vs[i]?=some v->kindOf x≠some .local ->
    bindC kindOf (P.zip vs) m x=some v
  | [],_,_,_,_,h,_,_=>by simp at h
  | _::_,[],_,_,_,_,h,_=>by simp at h
  | p::P,w::vs,0,m,nd,h1,h2,hk=>by
    simp at h1 h2;subst h1;subst h2
    show bindC kindOf ((p,w)::P.zip vs) m p=_
    unfold bindC
    rw [bindC_out fun v hv=>(List.nodup_cons.mp nd).1 (List.of_mem_zip hv).1,if_neg hk]
    simp
  | p::P,w::vs,i + 1,m,nd,h1,h2,hk=>by
    show bindC kindOf ((p,w)::P.zip vs) m x=_
    unfold bindC
    exact bindC_get (i:=i) (List.nodup_cons.mp nd).2 (by simpa using h1) (by simpa using h2) hk
noncomputable def start (N:List Str) (vs:List V):St:=vs.map some++List.replicate (N.length - vs.length) none
noncomputable def cxOf (CX:CXT) (P:Program) (w:World) (K:PySem.W.Frag) (mg:Str->Option Value) (base:Heap) (N:List Str) (qual:Str) (scope:Scope) (f:Addr) (cd:Value) (A:Around) (outer:List Env) (s:Shared) (H:Hp) (E:XK):Cx where
  prog:=P
  w:=w
  K:=K
  mg:=mg
  base:=base
  A:=A.deeper (envOfC qual scope s.heap.objs.size f cd)
  N:=N
  s₀:=s
  H₀:=H
  env:=envOfC qual scope s.heap.objs.size f cd
  outer:=outer
  stack:=envOfC qual scope s.heap.objs.size f cd::outer
  ex:=[]
  calm:=true
  fn:=fun _=>true
  pn:=[]
  xe:=fun e s'=>wpAny (model P w) (A.deeper (envOfC qual scope s.heap.objs.size f cd)) (leaving (envOfC qual scope s.heap.objs.size f cd) e) (fun _ s''=>CX outer H s E e s'') (fun e' s''=>CX outer H s E e' s'') s'
theorem cell_has {sc:Scope} {n:Nat} {x:Str} (h:sc.names.lookup x=some .cell):∃ c,(cellsFrom n sc.names []).lookup x=some c:=by
  have q:=PySem.W.cellsFrom_some sc.names n [] (.inl h)
  exact Option.isSome_iff_exists.mp q
theorem inv_start {CX:CXT} {P:Program} {w:World} {K:PySem.W.Frag} {mg:Str->Option Value} {base:Heap} {N ps:List Str} {qual:Str} {scope:Scope} {f:Addr} {cd:Value} {A:Around} {outer:List Env} {s s1:Shared} {H:Hp} {E:XK} {us:List Value} {vs:List V}
    (S:FnScope N ps scope) (hd:A.handled=none) (e0:Env0 P w K mg base A outer s H) (hl:vs.length=ps.length) (r:Vals vs us)
    (x:InCallC s s.heap.objs.size (bindL (envOfC qual scope s.heap.objs.size f cd).kindOf (ps.zip us) fun _=>none) (cellsFrom (s.heap.objs.size + 1) scope.names []) (bindC (envOfC qual scope s.heap.objs.size f cd).kindOf (ps.zip us) fun _=>none) s1) :
    Inv (cxOf CX P w K mg base N qual scope f cd A outer s H E) [] (start N vs) H s1:=by
  have hpl:ps.length<=N.length:=by have:=congrArg List.length S.pre;rw [List.length_take] at this;lia
  obtain ⟨h1,tk,rfl,hk⟩:=x.done
  have noA:∀ b:Addr,b∉(cxOf CX P w K mg base N qual scope f cd A outer s H E).ex:=fun b z=>absurd (show b∈([]:List Addr) from z) (by simp)
  refine ⟨⟨e0.mod,S.kind,rfl,rfl,Nat.le_refl _,fun y z c h1 h2=>?_,fun y hy=>?_,fun y c _ h=>?_,fun _=>hd,Around.frames_deeper e0.frames,.inr ⟨rfl,rfl⟩,fun b z=>absurd z (noA b),e0.bs,e0.bsz,fun b _ _=>noA b,fun b z=>absurd z (noA b),e0.funs,e0.frf⟩,
    rfl,e0.bare,Un.kept hk,⟨_,x.toInCall.ns,fun i y v h1 h2 h3=>?_⟩,fun y c h=>⟨_,x.cell y c h⟩,e0.hok.fresh (Nat.le_refl _),fun y c h=>?_,fun p hp=>absurd (show p∈([]:List (Addr×Obj)) from hp) (by simp),e0.hok.kept hk,?_⟩
  . exact name_of_addr x.apart (PySem.mem_of_lookup h1) (PySem.mem_of_lookup h2)
  . have hy:scope.names.lookup y=some .cell∨scope.names.lookup y=some .free:=hy
    rcases hy with hy|hy
    . exact cell_has hy
    . exact absurd rfl (S.nofree _ (PySem.mem_of_lookup hy))
  . exact Nat.le_of_lt (x.above y c (PySem.mem_of_lookup h))
  . have hi:i < vs.length:=by
      unfold start at h2
      by_cases hi:i < vs.length
      . exact hi
      . rw [List.getElem?_append_right (by simpa using hi)] at h2
        rw [List.getElem?_replicate] at h2
        split at h2 <;> cases h2
    have ha:vs[i]?=some v:=by
      unfold start at h2
      rw [List.getElem?_append_left (by simpa using hi),List.getElem?_map] at h2
      cases e:vs[i]? with
      | none=>rw [e] at h2;cases h2
      | some a=>rw [e] at h2;cases h2;rfl
    obtain ⟨u,hu,rv⟩:=r.get ha
    have hp:ps[i]?=some y:=by
      rw [<- S.pre,List.getElem?_take_of_lt (by lia)];exact h1
    have ndP:ps.Nodup:=by rw [<- S.pre];exact S.nd.sublist (List.take_sublist _ _)
    refine ⟨u,rv,?_⟩
    rcases S.par y (List.mem_of_getElem? hp) with k|k
    . exact .inl ⟨k,bindL_get ndP hp hu k⟩
    . obtain ⟨c,e⟩:=cell_has (n:=s.heap.objs.size + 1) k
      refine .inr ⟨.inl k,c,e,?_⟩
      have q:=x.cell y c e
      rw [bindC_get ndP hp hu (by show scope.names.lookup y≠_;rw [k];decide)] at q
      exact q
  . exact e0.hok.fresh (Nat.le_of_lt (x.above y c (PySem.mem_of_lookup h)))
  . unfold start
    show _=N.length
    rw [List.length_append,List.length_map,List.length_replicate]
    lia
theorem fn_of {CX:CXT} {P:Program} {w:World} {K:PySem.W.Frag} {mg:Str->Option Value} {base:Heap} {k:Nat} {f:Addr} {name qual:Str} {params:Arguments} {body:List Stmt} {scope:Scope} {dV kV doc pm cdv ct oc:Value} {an od:Option Addr}
    {osl:Array (Option Value)} {N ps:List Str} {sp:Sp} (lk:K.lookup f=some ⟨oc,od,.func (PySem.W.fnOf name qual params body scope dV kV doc pm an cdv ct),osl⟩) (hcd:PySem.W.codeIn K cdv qual=true) (S:FnScope N ps scope)
    (len:∀ vs H Q E,sp vs H Q E->vs.length=ps.length)
    (hbody:∀ (A:Around) (outer:List Env) (s:Shared) (H:Hp) (vs:List V) (Q:VK) (E:XK),Room k (A.deeper (envOfC qual scope s.heap.objs.size f cdv))->HOk P w H s.heap->sp vs H Q E ->
      ∃ t,PSs (cxOf CX P w K mg base N qual scope f cdv A outer s H E) body t/\t { nx:=fun _ H'=>Q .non H',rt:=Q } (start N vs) H) :
    FnOk P w K mg base CX (k + 1) f (PySem.W.fnOf name qual params body scope dV kV doc pm an cdv ct) ps sp:=by
  refine ⟨len,fun A outer s H args us vs Q E hr e0 hb r hsp=>?_⟩
  have hl:=len _ _ _ _ hsp
  have KX:K.In s.heap:=e0.mod.kin.keeps fun b o e=>(e0.bs b o e).1
  have lim:s.heap.NoLimit:=e0.mod.nolimit.keeps fun b o e=>(e0.bs b o e).1
  have hkind:∀ y∈ps.zip us,scope.names.lookup y.1=some .local∨(scope.names.lookup y.1=some .cell/\((cellsFrom (s.heap.objs.size + 1) scope.names []).lookup y.1).isSome=true):=fun ⟨n,v⟩ hy=>by
    rcases S.par n (List.of_mem_zip hy).1 with q|q
    . exact .inl q
    . exact .inr ⟨q,PySem.W.cellsFrom_some _ _ _ (.inl q)⟩
  refine codeAny_call_function hr.depth (KX _ _ lk) rfl S.co S.gen rfl (PySem.W.codeRec_of KX hcd) (hb _ _ _ _ ?_)
  refine wpAny_newFunctionEnv_cells S.kind hkind fun env he s1 x=>?_
  subst he
  refine ⟨lim.keeps x.toInCall.keep,codeAny_func ?_⟩
  obtain ⟨t,ht,hq⟩:=hbody A outer s H vs Q E (hr.deeper _) e0.hok hsp
  have I:Inv (cxOf CX P w K mg base N qual scope f cdv A outer s H E) [] (start N vs) H s1:=inv_start S hr.hd e0 hl r x
  refine wpAny_mono (ht [] s1 (start N vs) H _ I hq) (fun fl s' hs=>?_) fun e s' hs=>hs
  have fin:∀ {σ':St} {H':Hp} {v:V} {u:Value},Inv (cxOf CX P w K mg base N qual scope f cdv A outer s H E) [] σ' H' s'->RelV v u->Q v H'->CE outer P w H s Q u s' :=
    fun {σ' H' v u} J rv q=>⟨v,H',J.os,J.bare,J.base,J.hok,rv,q⟩
  cases fl with
  | ret u =>
    obtain ⟨v,σ',H',J,rv,q⟩:=hs
    exact fin J rv q
  | next =>
    obtain ⟨σ',H',J,q⟩:=hs
    exact fin (v:=V.non) (u:=Value.none) J rfl q
  | brk =>
    obtain ⟨_,_,_,q⟩:=hs
    exact False.elim q
  | cont =>
    obtain ⟨_,_,_,q⟩:=hs
    exact False.elim q
end L2
namespace L2
open PySem PySem.Spec PyProof.Rows
section
variable {X:Cx} {x:Str} {p pos:Pos} {e:Expr} {es:List Expr} {t:TA} {id T:String} {r:List V->Hp->VK->Prop}
noncomputable def tCB (r:List V->Hp->VK->Prop) (t:TA):TE:=fun σ H Q=>t σ H fun vs H1=>r vs H1 Q
theorem pe_callB (hc:CallR X (.builtin id) r) (hg:Gl X x) (hm:X.mg x=none) (hv:bootBuiltins x=some (.builtin id)) (ha:PA X (e::es) t) (hn:x≠"__name__":=by decide) (hdb:(x == ("__debug__":Str))=false:=by decide)
    (he:starEach (e::es) X.env=(false,eval e X.env)::starEach es X.env:=by rfl) (hpl:(backTo pos (starEach es X.env)).any (·.1)=false:=by rfl):PE X (.Call (.Name x p) (e::es) [] pos) (tCB r t):=by
  intro pins s σ H Q I h
  refine wpAny_Call_Name_kw (ld_blt I hg hm hv ?_ hn hdb)
  exact PyProof.Rows.callWith_builtin1 (thn (ha pos pins s σ H _ I h) fun us s1 ⟨vs,H1,I1,r1,q1⟩=>hc pins s1 σ H1 vs us Q I1 r1 q1) he hpl
theorem pe_callTy (hc:CallR X (.type T) r) (hg:Gl X x) (hm:X.mg x=none) (hv:bootBuiltins x=some (.type T)) (ha:PA X (e::es) t) (hn:x≠"__name__":=by decide) (hdb:(x == ("__debug__":Str))=false:=by decide)
    (he:starEach (e::es) X.env=(false,eval e X.env)::starEach es X.env:=by rfl) (hpl:(backTo pos (starEach es X.env)).any (·.1)=false:=by rfl):PE X (.Call (.Name x p) (e::es) [] pos) (tCB r t):=by
  intro pins s σ H Q I h
  refine wpAny_Call_Name_kw (ld_blt I hg hm hv ?_ hn hdb)
  exact PyProof.Rows.callWith_type1 (thn (ha pos pins s σ H _ I h) fun us s1 ⟨vs,H1,I1,r1,q1⟩=>hc pins s1 σ H1 vs us Q I1 r1 q1) he hpl
end
end L2
namespace HT
open PySem PyProof.Rows
section
open PySem.SeqAt
open PySem.AutoSeq1 (wpAny_loadPart')
open PySem.MeetsSeq PySem.MeetsSeq2 PySem.MeetsSeq3
end
section
variable {prog:Program} {w:World} {A:Around} {E:Value->Shared->Prop} {s:Shared}
noncomputable def sIx (n d:Nat):Option Int->Nat
  | none=>d
  | some v=>if v < 0 then (v + (n:Int)).toNat else min v.toNat n
end
end HT
namespace L2
open PySem PySem.Spec PyProof.Rows
noncomputable abbrev TO:=St->Hp->(Option Int->Hp->Prop)->Prop
section
variable {X:Cx} {e:Expr} {te:TE} {lo hi:Option Expr} {tl th:TO} {pos p2:Pos}
end
end L2
namespace L2
open PySem PySem.Spec PyProof.Rows
noncomputable def ixN (n:Nat) (i:Int):Option Nat:=if 0<=i then (if i < n then some i.toNat else none) else if -(n:Int)<=i then some (i + n).toNat else none
noncomputable def atI {α:Type} (xs:List α) (i:Int):Option α:=(ixN xs.length i).bind fun j=>xs[j]?
theorem ixN_seq {n:Nat} {i:Int} {j:Nat} (h:ixN n i=some j):seqIndex? i n=some j/\j < n/\-(n:Int)<=i/\i < n:=by
  unfold ixN at h
  by_cases h0:0<=i
  . rw [if_pos h0] at h
    by_cases h1:i < n
    . rw [if_pos h1] at h
      have e:i.toNat=j:=Option.some.inj h
      exact ⟨by rw [seqIndex_of h0 h1,e],by lia,by lia,h1⟩
    . rw [if_neg h1] at h;cases h
  . rw [if_neg h0] at h
    by_cases h1:-(n:Int)<=i
    . rw [if_pos h1] at h
      have e:(i + n).toNat=j:=Option.some.inj h
      exact ⟨by rw [seqIndex_neg (by lia) h1,e],by lia,h1,by lia⟩
    . rw [if_neg h1] at h;cases h
theorem atI_get {α:Type} {xs:List α} {i:Int} {v:α} (h:atI xs i=some v):∃ j,seqIndex? i xs.length=some j/\xs[j]?=some v/\j < xs.length/\-(xs.length:Int)<=i/\i < xs.length:=by
  unfold atI at h
  cases e:ixN xs.length i with
  | none=>rw [e] at h;cases h
  | some j =>
    rw [e] at h
    obtain ⟨h1,h2,h3,h4⟩:=ixN_seq e
    exact ⟨j,h1,h,h2,h3,h4⟩
theorem atI_nat {α:Type} {xs:List α} {j:Nat} {v:α} (h:xs[j]?=some v):atI xs (j:Int)=some v:=by
  have hj:j < xs.length:=(List.getElem?_eq_some_iff.mp h).1
  have e:ixN xs.length (j:Int)=some j:=by
    unfold ixN
    rw [if_pos (by lia),if_pos (by lia)];simp
  unfold atI;rw [e];exact h
noncomputable def PlainIx (b:Expr):Prop:=∀ o i,subscripted b false o i=operate [o,i] (getItem o i)
noncomputable def IxR (X:Cx) (r:R2):Prop :=
  ∀ (value slice:Expr) (pins:List (Addr×Obj)) (s:Shared) (σ:St) (H:Hp) (x y:V) (v u:Value) (Q:VK),Inv X pins σ H s->RelV x v->RelV y u->r x y H Q ->
    subscripted slice false v u=operate [v,u] (getItem v u)->wpAny (model X.prog X.w) X.A (subscriptTail value slice v u) (EP X pins σ Q) X.xe s
noncomputable def MtR (X:Cx) (id:String) (r:V->List V->Hp->VK->Prop):Prop :=
  ∀ (pins:List (Addr×Obj)) (s:Shared) (σ:St) (H:Hp) (x:V) (xs:List V) (v:Value) (us:List Value) (Q:VK),Inv X pins σ H s->RelV x v->Vals xs us->r x xs H Q ->
    wpAny (model X.prog X.w) X.A (call (.builtin id) (v::us)) (EP X pins σ Q) X.xe s
section
variable {X:Cx} {a b:Expr} {ta tb:TE} {pos:Pos}
theorem IxR.or {r r':R2} (h:IxR X r) (h':IxR X r'):IxR X (fun x y H Q=>r x y H Q∨r' x y H Q):=by
  intro value slice pins s σ H x y v u Q I rx ry q hs
  rcases q with q|q
  . exact h value slice pins s σ H x y v u Q I rx ry q hs
  . exact h' value slice pins s σ H x y v u Q I rx ry q hs
theorem pe_ix {r:R2} (hr:IxR X r) (ha:PE X a ta) (hb:PE X b tb) (hs:PlainIx b):PE X (.Subscript a b pos) (tOp r ta tb):=by
  intro pins s σ H Q I h
  exact Subscript_ (binT ha hb I h fun v u s2 x y H2 I2 rx ry q=>hr a b pins s2 σ H2 x y v u Q I2 rx ry q (hs _ _))
noncomputable def rIxL (K:PySem.W.Frag):R2:=fun x y H Q=>∃ p xs i v,x=.ref p/\y=.int i/\SqL K H p xs/\atI xs i=some v/\Q v H
noncomputable def rIxT (K:PySem.W.Frag):R2:=fun x y H Q=>∃ p xs i v,x=.ref p/\y=.int i/\SqT K H p xs/\atI xs i=some v/\Q v H
noncomputable def rIxS:R2:=fun x y H Q=>∃ z i c,x=.str z/\y=.int i/\z.length<=sizeLine/\atI z.cps.toList i=some c/\Q (.str ⟨#[c]⟩) H
theorem ix_list:IxR X (rIxL X.K):=by
  intro value slice pins s σ H x y v u Q I rx ry h hs
  obtain ⟨p,xs,i,z,rfl,rfl,hq,he,q⟩:=h
  cases rx
  obtain ⟨t,rfl⟩:=ry
  obtain ⟨its,r,pl,hz⟩:=I.list hq
  obtain ⟨j,h1,h2,h3,h4,h5⟩:=atI_get he
  obtain ⟨w,ew,rw'⟩:=r.get h2
  have hl:=r.length
  have hn:=line63
  have fin:EP X pins σ Q w s:=⟨z,H,I,rw',q⟩
  by_cases h0:0<=i
  . have hj:i.toNat=j:=by
      rw [seqIndex_of h0 h5] at h1
      exact Option.some.inj h1
    exact item_listR pl.isList h0 (by lia) (by rw [hj];simpa using ew) fin hs
  . have hj:(i + (its.toArray.size:Int)).toNat=j:=by
      rw [seqIndex_neg (by lia) h4] at h1
      rw [List.size_toArray,<- hl]
      exact Option.some.inj h1
    exact subscriptTail_builtinR (x:=w) pl.isList.typeIs slot_list_getitem.lookup
      (wpAny_getItem_list_neg (Q:=fun r s'=>r=w/\EP X pins σ Q r s') pl.isList (by lia) (by rw [List.size_toArray] <;> lia) (by lia) (by rw [hj];simpa using ew) ⟨rfl,fin⟩) hs
theorem ix_tup:IxR X (rIxT X.K):=by
  intro value slice pins s σ H x y v u Q I rx ry h hs
  obtain ⟨p,xs,i,z,rfl,rfl,hq,he,q⟩:=h
  cases rx
  obtain ⟨t,rfl⟩:=ry
  obtain ⟨its,r,pl,hz⟩:=I.tuple hq
  obtain ⟨j,h1,h2,h3,h4,h5⟩:=atI_get he
  obtain ⟨w,ew,rw'⟩:=r.get h2
  have hl:=r.length
  have hn:=line63
  have fin:EP X pins σ Q w s:=⟨z,H,I,rw',q⟩
  exact subscriptTail_builtinR (x:=w) pl.typeIs slot_tuple_getitem.lookup
    (getItem_tuple (j:=j) (Q:=fun r s'=>r=w/\EP X pins σ Q r s') pl (by lia) (by lia) (by rw [List.size_toArray,<- hl];exact h1) (by simpa using ew) ⟨rfl,fin⟩) hs
theorem ix_str:IxR X rIxS:=by
  intro value slice pins s σ H x y v u Q I rx ry h hs
  obtain ⟨z,i,c,rfl,rfl,hz,he,q⟩:=h
  obtain ⟨t,rfl⟩:=rx
  obtain ⟨t',rfl⟩:=ry
  obtain ⟨j,h1,h2,h3,h4,h5⟩:=atI_get he
  have hl:z.cps.toList.length=z.length:=by simp [Str.length]
  rw [hl] at h1 h4 h5
  have hn:=line63
  exact tail_any (typeIs_str s z t) slot_str_getitem.lookup (getItem_str (c:=c) (by
    have e1:decide (i < -(2 ^ 63:Int))=false:=decide_eq_false (by lia)
    have e2:decide (i ≥ 2 ^ 63)=false:=decide_eq_false (by lia)
    rw [e1,e2,Bool.or_false]) (by rw [h1];simpa using h2) ⟨.str ⟨#[c]⟩,H,I.tok _,⟨_,rfl⟩,q⟩) hs
noncomputable def rIx (K:PySem.W.Frag):R2:=fun x y H Q=>rIxL K x y H Q∨rIxT K x y H Q∨rIxS x y H Q
theorem ix_seq:IxR X (rIx X.K):=ix_list.or (ix_tup.or ix_str)
theorem mapSeq_set (its:List Value) (n j:Nat) (u:Value):Obj.mapSeq (·.setIfInBounds j u) { cls:=.type "list",data:=.seq its.toArray n }={ cls:=.type "list",data:=.seq (its.set j u).toArray n }:=by
  simp [Obj.mapSeq]
theorem Inv.lst {pins:List (Addr×Obj)} {σ:St} {H:Hp} {s:Shared} {p:Addr} {xs:List V} (I:Inv X pins σ H s) (h:H p=some (.lst xs)) :
    ∃ (its:List Value) (n:Nat),Vals xs its/\s.heap.get? p=some { cls:=.type "list",data:=.seq its.toArray n }/\xs.length<=sizeLine:=by
  obtain ⟨z,its,n,r,e⟩:=I.hok p _ h
  exact ⟨its,n,r,e,z⟩
theorem Inv.lstUpd {pins:List (Addr×Obj)} {σ:St} {H:Hp} {s:Shared} {p:Addr} {xs ys:List V} {its its':List Value} {n n':Nat} {f:Obj->Obj} (I:Inv X pins σ H s) (h:H p=some (.lst xs))
    (ho:s.heap.get? p=some { cls:=.type "list",data:=.seq its.toArray n }) (hf:f { cls:=.type "list",data:=.seq its.toArray n }={ cls:=.type "list",data:=.seq its'.toArray n' }) (r:Vals ys its') (hz:ys.length<=sizeLine) (t:Nat) :
    Inv X pins σ (upd H p (.lst ys)) { s with heap:=s.heap.update p f,toks:=t }:=by
  have e:(s.heap.update p f).get? p=some { cls:=.type "list",data:=.seq its'.toArray n' }:=by
    rw [Heap.get?_update_self f ho (by rw [hf] <;> rfl),hf]
  refine I.write (x:=p) (e:=p) (by rw [h];trivial) (.inl rfl) (fun b u hb q=>(Heap.get?_update_other _ _ (Ne.symm hb)).trans q) ⟨_,e⟩ ?_
  exact ⟨hz,its',n',r,e⟩
noncomputable def rSetL:V->V->V->Hp->(Hp->Prop)->Prop:=fun o i v H Q=>∃ p xs k j,o=.ref p/\i=.int k/\H p=some (.lst xs)/\ixN xs.length k=some j/\Q (upd H p (.lst (xs.set j v)))
theorem set_list:PSet X rSetL:=by
  intro pins s σ H o i v ov iv u Q I ro ri rv h
  obtain ⟨p,xs,k,j,rfl,rfl,hp,hj,q⟩:=h
  cases ro
  obtain ⟨t,rfl⟩:=ri
  obtain ⟨its,n,r,ho,hz⟩:=I.lst hp
  obtain ⟨h1,h2,h3,h4⟩:=ixN_seq hj
  have hl:=r.length
  have hn:=line63
  have I':Inv X pins σ (upd H p (.lst (xs.set j v))) { s with heap:=s.heap.update p (Obj.mapSeq (·.setIfInBounds j u)) } :=
    I.lstUpd hp ho (mapSeq_set its n j u) (r.set rv j) (by rw [List.length_set];exact hz) s.toks
  by_cases h0:0<=k
  . have hk:k.toNat=j:=by
      rw [seqIndex_of h0 h4] at h1
      exact Option.some.inj h1
    exact PySem.W.ki_setAt ho h0 (by lia) (by rw [List.size_toArray,<- hl];exact h4) (by rw [hk];exact ⟨_,I',q⟩)
  . have hk:(k + (its.toArray.size:Int)).toNat=j:=by
      rw [seqIndex_neg (by lia) h3] at h1
      rw [List.size_toArray,<- hl]
      exact Option.some.inj h1
    exact PySem.W.ki_setBack ho (by lia) (by rw [List.size_toArray,<- hl];exact h3) (by lia) (by rw [hk];exact ⟨_,I',q⟩)
theorem call_len_seq:CallR X (.builtin "len") (fun xs H Q=>∃ p ys,xs=[.ref p]/\(SqL X.K H p ys∨SqT X.K H p ys)/\Q (.int ys.length) H):=by
  intro pins s σ H xs us Q I r h
  obtain ⟨p,ys,rfl,hq,q⟩:=h
  obtain ⟨u,rfl,rx⟩:=vals1 r
  cases rx
  have hn:=line63
  rcases hq with hq|hq
  . obtain ⟨its,r',pl,hz⟩:=I.list hq
    have hlen:=r'.length
    exact Calls.call_len_list pl.isList (by simp only [List.size_toArray] <;> lia) ⟨.int ys.length,H,I.tok _,⟨s.toks + 1,by rw [List.size_toArray,hlen]⟩,q⟩
  . obtain ⟨its,r',pl,hz⟩:=I.tuple hq
    have hlen:=r'.length
    exact len_tuple pl (by simp only [List.size_toArray] <;> lia) ⟨.int ys.length,H,I.tok _,⟨s.toks + 1,by rw [List.size_toArray,hlen]⟩,q⟩
theorem call_list_of:CallR X (.type "list") (fun xs H Q=>∃ p ys,xs=[.ref p]/\(SqL X.K H p ys∨SqT X.K H p ys)/\∀ l,H l=none->Q (.ref l) (upd H l (.lst ys))):=by
  intro pins s σ H xs us Q I r h
  obtain ⟨p,ys,rfl,hq,q⟩:=h
  obtain ⟨u,rfl,rx⟩:=vals1 r
  cases rx
  have fin:∀ (its:List Value),Vals ys its->ys.length<=sizeLine->∀ (h':Heap) (c':Nat),(∀ b o',s.heap.get? b=some o'->h'.get? b=some o') ->
      h'.get? s.heap.objs.size=some { cls:=.type "list",dict:=none,data:=.seq its.toArray c',slots:=#[] }->EP X pins σ Q (.ref s.heap.objs.size) { s with heap:=h' }:=fun its r' hz h' c' kp e =>
    ⟨.ref s.heap.objs.size,_,I.laid (t':=s.toks) kp (Nat.le_refl _) (show ObjOk X.prog X.w _ h' _ (.lst ys) from ⟨hz,its,c',r',e⟩),rfl,q _ (I.hok.fresh (Nat.le_refl _))⟩
  rcases hq with hq|hq
  . obtain ⟨its,r',pl,hz⟩:=I.list hq
    have hlen:=r'.length
    obtain ⟨o,ho,hc,n,hd⟩:=pl.isList
    exact call_list_seq p (.inl rfl) ho hc hd (fun h' c' kp e=>fin its r' hz h' c' kp e) (by simp only [List.size_toArray] <;> lia)
  . obtain ⟨its,r',pl,hz⟩:=I.tuple hq
    have hlen:=r'.length
    obtain ⟨o,ho,hc,n,hd⟩:=pl
    exact call_list_seq p (.inr rfl) ho hc hd (fun h' c' kp e=>fin its r' hz h' c' kp e) (by simp only [List.size_toArray] <;> lia)
theorem call_tuple_of:CallR X (.type "tuple") (fun xs H Q=>∃ p ys,xs=[.ref p]/\((SqL X.K H p ys/\∀ l,H l=none->Q (.ref l) (upd H l (.tup ys)))∨(SqT X.K H p ys/\Q (.ref p) H))):=by
  intro pins s σ H xs us Q I r h
  obtain ⟨p,ys,rfl,h⟩:=h
  obtain ⟨u,rfl,rx⟩:=vals1 r
  cases rx
  rcases h with ⟨hq,q⟩|⟨hq,q⟩
  . obtain ⟨its,r',pl,hz⟩:=I.list hq
    have hlen:=r'.length
    refine call_tuple_list pl.isList (fun h' kp=>?_) (by simp only [List.size_toArray] <;> lia)
    have I1:Inv X pins σ H { s with heap:=h' }:=I.kept (t':=s.toks) kp
    have I2:Inv X pins σ (upd H h'.objs.size (.tup ys)) { s with heap:=h'.push { cls:=.type "tuple",data:=.seq its.toArray } } :=
      I1.laid (t':=s.toks) (fun b o e=>Heap.get?_push_of_some _ e) (Nat.le_refl _) (show ObjOk X.prog X.w _ _ _ (.tup ys) from ⟨hz,its,r',IsTup.new _ _⟩)
    exact ⟨.ref h'.objs.size,_,I2,rfl,q _ (I1.hok.fresh (Nat.le_refl _))⟩
  . obtain ⟨its,r',pl,hz⟩:=I.tuple hq
    exact call_tuple_same pl ⟨.ref p,H,I,rfl,q⟩
noncomputable def tyV (K:PySem.W.Frag) (T:String) (x:V) (H:Hp):Prop:=match x with
  | .str _=>T="str"
  | .int _=>T="int"
  | .ref p=>(T="list"/\∃ xs,SqL K H p xs)∨(T="tuple"/\∃ o,K.lookup p=some o/\o.cls=.type "tuple"/\o.dict=none) ∨
      (T="dict"/\((∃ kvs,H p=some (.dK kvs))∨∃ kvs,H p=some (.dT kvs)))∨(T="set"/\∃ S n,H p=some (.set S n))
  | _=>False
theorem tyV_is {pins:List (Addr×Obj)} {σ:St} {H:Hp} {s:Shared} {T:String} {x:V} {v:Value} (I:Inv X pins σ H s) (r:RelV x v) (ty:tyV X.K T x H) :
    s.TypeIs v T/\∀ a,v=.ref a->∃ ob,s.heap.get? a=some ob/\ob.dict=none:=by
  cases x with
  | str z =>
    obtain ⟨t,rfl⟩:=r
    cases (show T="str" from ty)
    exact ⟨typeIs_str s z t,fun _ e=>nomatch e⟩
  | int i =>
    obtain ⟨t,rfl⟩:=r
    cases (show T="int" from ty)
    exact ⟨typeIs_int s i t,fun _ e=>nomatch e⟩
  | ref p =>
    cases r
    rcases ty with ⟨rfl,xs,hq⟩|⟨rfl,o,hk,hc,hd⟩|⟨rfl,hk⟩|⟨rfl,S,n,hk⟩
    . obtain ⟨its,_,pl,_⟩:=I.list hq
      refine ⟨pl.isList.typeIs,fun a e=>?_⟩
      cases e
      obtain ⟨o,n,e,c,hd,_⟩:=pl
      exact ⟨o,e,hd⟩
    . refine ⟨⟨o,I.kIn p o hk,hc⟩,fun a e=>?_⟩
      cases e
      exact ⟨o,I.kIn _ o hk,hd⟩
    . have z:∃ o,s.heap.get? p=some o/\o.ExactDict:=by
        rcases hk with ⟨kvs,hk⟩|⟨kvs,hk⟩
        . obtain ⟨_,_,_,_,o,_,_,e,ex,_⟩:=I.hok p _ hk
          exact ⟨o,e,ex⟩
        . obtain ⟨_,_,_,_,o,_,_,e,ex,_⟩:=I.hok p _ hk
          exact ⟨o,e,ex⟩
      obtain ⟨o,e,ex⟩:=z
      refine ⟨⟨o,e,ex.1⟩,fun a e2=>?_⟩
      cases e2
      exact ⟨o,e,ex.2.1⟩
    . obtain ⟨o,_,_,_,e,ex,_⟩:=I.hok p _ hk
      refine ⟨⟨o,e,ex.1⟩,fun a e2=>?_⟩
      cases e2
      exact ⟨o,e,ex.2.1⟩
  | _=>exact False.elim ty
noncomputable def tBM (K:PySem.W.Frag) (T:String) (r:V->List V->Hp->VK->Prop) (to:TE) (t:TA):TE:=fun σ H Q=>to σ H fun x H1=>tyV K T x H1/\t σ H1 fun xs H2=>r x xs H2 Q
variable {o e:Expr} {es:List Expr} {to:TE} {t:TA} {name:Str} {apos cpos:Pos} {T id:String} {r:V->List V->Hp->VK->Prop}
theorem pe_bm (pa:PlainAttrs T) (slot:Slot T name id) (hty:typeOf (.builtin id)=pure (.type "method_descriptor")) (hm:MtR X id r) (ho:PE X o to) (ha:PA X (e::es) t)
    (hbase:attributeBase o name X.env (eval o X.env)=eval o X.env:=by rfl)
    (hfew:((backTo cpos (starEach (e::es) X.env)).all (fun x=>!x.1) && (backToKw cpos (keywordEach [] X.env)).all (fun x=>x.1.isSome)
      && decide ((e::es).length + ([]:List Keyword).length + (if ([]:List Keyword).isEmpty then 0 else 1) < 30))=true:=by rfl)
    (hline:(apos.endLine == cpos.line)=true:=by rfl) (hs:starEach (e::es) X.env=(false,eval e X.env)::starEach es X.env:=by rfl) (hplain:(backTo cpos (starEach es X.env)).any (·.1)=false:=by rfl) :
    PE X (.Call (.Attribute o name apos) (e::es) [] cpos) (tBM X.K T r to t):=by
  intro pins s σ H Q I h
  refine wpAny_Call_method_late hbase hfew hline rfl (thn (ho pins s σ H _ I h) fun v s1 hq9=>?_)
  obtain ⟨x,H1,I1,r1,ty,q1⟩:=hq9
  obtain ⟨h1,h2⟩:=tyV_is I1 r1 ty
  refine ⟨T,id,pa,slot,hty,h1,h2,?_⟩
  have hA:=ha cpos pins s1 σ H1 _ I1 q1
  rw [hs] at hA ⊢
  refine Calls.callWith_builtin (by show (false || (backTo cpos (starEach es X.env)).any (·.1))=false;rw [hplain] <;> rfl) (Calls.evalArgs_plain ?_)
  exact thn hA fun us s2 ⟨vs,H2,I2,r2,q2⟩=>hm pins s2 σ H2 x vs v us Q I2 r1 r2 q2
end
end L2
namespace L2
open PySem PySem.Spec PyProof.Rows
noncomputable def MtM (X:Cx) (id:String) (r:V->List V->Hp->VK->Prop):Prop :=
  ∀ (pins:List (Addr×Obj)) (s:Shared) (σ:St) (H:Hp) (x:V) (xs:List V) (v:Value) (us:List Value) (Q:VK),Inv X pins σ H s->RelV x v->Vals xs us->r x xs H Q ->
    wpAny (model X.prog X.w) X.A (call (.builtin id) (v::us)) (EP X pins σ Q) X.xe s
theorem Vals.one:∀ {x:V} {us:List Value},Vals [x] us->∃ u,us=[u]/\RelV x u
  | _,_,.cons r .nil=>⟨_,rfl,r⟩
theorem Vals.two:∀ {x y:V} {us:List Value},Vals [x,y] us->∃ u v,us=[u,v]/\RelV x u/\RelV y v
  | _,_,_,.cons r (.cons q .nil)=>⟨_,_,rfl,r,q⟩
section
variable {X:Cx} {pins:List (Addr×Obj)} {σ:St} {H:Hp} {s:Shared} {l b:Addr} {xs ys zs:List V}
theorem Inv.lset {its its':List Value} {n:Nat} {f:Array Value->Array Value} {t':Nat} (I:Inv X pins σ H s) (hH:H l=some (.lst xs))
    (e:s.heap.get? l=some { cls:=.type "list",data:=.seq its.toArray n }) (hf:f its.toArray=its'.toArray) (hv:Vals ys its') (hz:ys.length<=sizeLine) :
    Inv X pins σ (upd H l (.lst ys)) { s with heap:=s.heap.update l (Obj.mapSeq f),toks:=t' }:=by
  have q:=PySem.IsL.update e f
  rw [hf] at q
  refine I.write (x:=l) (e:=l) (by rw [hH];exact trivial) (.inl rfl) (fun b' u hb hu=>(Heap.get?_update_other s.heap (Obj.mapSeq f) (Ne.symm hb)).trans hu) ⟨_,q⟩ ?_
  exact ⟨hz,its',_,hv,q⟩
theorem Inv.lnew {its:List Value} {t':Nat} (I:Inv X pins σ H s) (hv:Vals ys its) (hz:ys.length<=sizeLine) :
    Inv X pins σ (upd H s.heap.objs.size (.lst ys)) { s with heap:=s.heap.push { cls:=.type "list",data:=.seq its.toArray },toks:=t' } :=
  I.laid (fun _ _ q=>Heap.get?_push_of_some _ q) (Nat.le_refl _) ⟨hz,its,0,hv,Heap.get?_push_size _ rfl⟩
theorem Inv.fresh (I:Inv X pins σ H s):H s.heap.objs.size=none:=I.hok.fresh (Nat.le_refl _)
theorem Inv.lstM (I:Inv X pins σ H s) (hH:H l=some (.lst xs)):xs.length<=sizeLine/\∃ (its:List Value) (n:Nat),Vals xs its/\xs.length=its.length/\s.heap.get? l=some { cls:=.type "list",data:=.seq its.toArray n }:=by
  obtain ⟨z,its,n,r,e⟩:=I.hok l _ hH
  exact ⟨z,its,n,r,r.length,e⟩
end
section
variable {X:Cx}
noncomputable def rAppend:V->List V->Hp->VK->Prop:=fun x vs H Q=>∃ l xs y,x=.ref l/\vs=[y]/\H l=some (.lst xs)/\xs.length < sizeLine/\Q .non (upd H l (.lst (xs++[y])))
theorem mt_append:MtM X "list.append" rAppend:=by
  intro pins s σ H x vs v us Q I rx rv h
  obtain ⟨l,xs,y,rfl,rfl,hH,hz,q⟩:=h
  cases rx
  obtain ⟨u,rfl,ru⟩:=rv.one
  obtain ⟨z,its,n,r,hl,e⟩:=I.lstM hH
  refine call_meets F.slot_list_append ⟨_,e,rfl⟩ F.entry_list_append (F.args_list_append_2 _ _) (PySem.list_append l its.toArray n u (by rw [List.size_toArray];lia)) ⟨e,?_⟩
  refine ⟨.non,_,I.lset (its':=its++[u]) hH e (by simp) (r.append (.cons ru .nil)) ?_,rfl,q⟩
  rw [List.length_append,List.length_singleton]
  lia
theorem len_rep {α:Type} (xs:List α) (k:Nat):(List.replicate k xs).flatten.length=k * xs.length:=by
  induction k with
  | zero=>simp
  | succ k ih=>rw [List.replicate_succ,List.flatten_cons,List.length_append,ih,Nat.succ_mul,Nat.add_comm]
end
section
variable {prog:Program} {w:World} {A:Around} {E:Value->Shared->Prop} {s:Shared}
end
section
variable {X:Cx}
end
end L2
namespace Att
open PySem PySem.W PySem.Calls PyProof.Rows
theorem ints_of_wellAll {P:Params} {h:Heap}:∀ (ns:List Int) (vs:List Value),WellAll P h vs (ns.map WData.int)->IntsAre vs ns:=by
  intro ns
  induction ns with
  | nil =>
    intro vs w
    rw [List.map_nil] at w
    cases w
    exact .nil
  | cons n ns ih =>
    intro vs w
    rw [List.map_cons] at w
    cases w with
    | cons a b =>
      cases a
      exact .cons _ _ (ih _ b)
theorem script_of {l:OpenLaw} {n:Nat} (hn:l.most=some n) {P:Params} {h:Heap} {args:List WData} {vals:List Value}
    (hpre:l.row.toRowW.claim.pre args=true) (hwl:WellAll P h vals args) :
    ∃ a vs ns,vals=[Value.ref a]/\args=[WData.list (ns.map WData.int)]/\h.get? a=some { cls:=.type "list",data:=.seq vs.toArray }/\IntsAre vs ns/\ns.length<=n:=by
  have hsh:WShape.hasAll [] args [.list .int]=true:=(pre_splitW hpre).1
  have hc:l.pre.holds [] { args:=args }=true:=(pre_splitW hpre).2
  obtain ⟨d,r,rfl,h1,h2⟩:=hasAllW_cons hsh
  obtain rfl:=hasAllW_nil h2
  obtain ⟨xs,rfl,h3⟩:=hasW_list h1
  obtain ⟨ns,rfl⟩:=items_int h3
  have hlen:ns.length<=n:=by
    unfold OpenLaw.pre at hc
    have h4:(WTm.not (.lt (.lit (.int (n:Int))) (.len (.arg 0)))).holds [] { args:=[.list (ns.map .int)] }=true:=by
      have h4:=(holds_andW hc).1
      rw [hn] at h4
      exact h4
    have h5:=condW_of h4 (w_not (w_lt w_lit (w_len_list (w_arg rfl))))
    rw [List.length_map] at h5
    refine Nat.le_of_not_lt fun q=>?_
    have q':(n:Int) < ((ns.length:Nat):Int):=by lia
    first
      | (rw [decide_eq_true q'] at h5;exact absurd h5 (by decide))
      | (simp at h5;lia)
  cases hwl with
  | cons w1 w2 =>
    cases w2
    cases w1 with
    | list ho hall=>exact ⟨_,_,ns,rfl,rfl,ho,ints_of_wellAll ns _ hall,hlen⟩
theorem post_true (l:OpenLaw) (args:List WData):l.row.toRowW.claim.post args (.bool true) args=true :=
  postW_of (r:=l.row.toRowW) (X:=(true == true))
    (show WShape.has [] (.bool true) .bool=true by first|rfl|decide|simp [WShape.has,WShape.arms,WShape.armsAll])
    (show (WTm.eq .res (.lit (.bool true))).value [] { args:=args,res:=some (.bool true),after:=args }=some (.bool (true == true)) from w_eq_bool (w_res rfl) w_lit) rfl
theorem attach_call {l:OpenLaw} {n:Nat} {q:Program} {loose:List Str} {XP:(Str->Option Value)->Heap->Prop} {YP:World->Heap->Prop} {d:DefRec}
    (hn:l.most=some n) (hdf:d.params.defaults=[])
    (call:∀ (w:World) (s₀ s₁:Shared) (mg mb:Str->Option Value) (fa:Addr) (o:Obj) (pm cd doc:Value) (a:Addr) (vs:List Value) (ns:List Int),
      Ground q loose [] XP w s₀ mg mb s₁.heap->YP w s₁.heap ->
      s₁.heap.get? fa=some o->o.data=.func (docDef d.name d.params d.body d.scope pm cd doc)->s₁.heap.CodeRec cd d.name->mg d.name=some (.ref fa) ->
      s₁.heap.get? a=some { cls:=.type "list",data:=.seq vs.toArray }->IntsAre vs ns->ns.length<=n->s₁.gens=#[] ->
      codeAny (model l.prog w) callerA (.call (.ref fa) ⟨[.ref a],[]⟩) (fun r s'=>r=.ok (.ret (.bool true))/\OldK s₁.heap s'.heap/\s'.os=s₁.os/\AllBare s'.gens) s₁) :
    WalkO q loose XP YP l.row.toRowW d [] (fun f vs=>PySem.call f vs):=by
  intro w s₀ s₁ mg mb G Y fa o pm cd doc dV kV ho hd hcd hD hmg hg args vals as hpre hlay hrd hwl hlo
  obtain rfl:dV=.none:=Dflts.none hD hdf
  obtain rfl:kV=.none:=Dflts.noKw hD
  obtain ⟨a,vs,ns,rfl,rfl,hobj,hints,hlen⟩:=script_of hn hpre hwl
  refine enter_call (codeAny_mono (call w s₀ s₁ mg mb fa o pm cd doc a vs ns G Y ho (fd_plain hd) hcd hmg hobj hints hlen hg) fun r s' hq=>?_)
  obtain ⟨rfl,h2,h3,h4⟩:=hq
  exact ⟨.inl ⟨.bool true,.bool true,[],rfl,fun _=>rfl,.bool true,post_true l _,fun _=>⟨List.Pairwise.nil,fun _ hm=>(nomatch hm)⟩⟩,h2,h3,h4⟩
section
variable {prog:Program} {w:World} {A:Around} {E:Value->Shared->Prop} {s:Shared} {K:Frag}
noncomputable def ledger (h:Heap) (L d:Addr):List (Addr×Obj):=(List.range h.objs.size).filterMap fun a=>if a=L∨a=d then none else (h.get? a).map fun o=>(a,o)
end
end Att
namespace L2
open PySem PySem.Spec PyProof.Rows
theorem vals_ints:∀ {vs:List Value} {ns:List Int},IntsAre vs ns->Vals (ns.map V.int) vs
  | _,_,.nil=>.nil
  | _,_,.cons n t h=>.cons ⟨t,rfl⟩ (vals_ints h)
noncomputable def Only (H:Hp):Prop:=∀ b,H b=none∨∃ o xs,H b=some (.frz o (.lst xs))
theorem law_call {P:Program} {w:World} {K:PySem.W.Frag} {mg mb:Str->Option Value} {CX:CXT} {k:Nat} {fa a:Addr} {fd:FuncData} {x:Str} {sp:Sp} {s₁:Shared} {vs:List Value} {ns:List Int}
    (KX:K.In s₁.heap) (hns:s₁.heap.Ns mainGlobals mg) (hb:s₁.heap.Ns builtinsNs mb) (hbb:∀ x:Str,x≠"__name__"->mb x=bootBuiltins x) (hlim:s₁.heap.NoLimit) (hbm:∃ bm ob,mg "__builtins__"=some (.ref bm)/\bm≠builtinsNs/\s₁.heap.get? bm=some ob/\ob.cls=.type "module"/\ob.dict=some builtinsNs/\ob.data=.plain) (hg:s₁.gens=#[])
    (ha:s₁.heap.get? a=some { cls:=.type "list",data:=.seq vs.toArray }) (hi:IntsAre vs ns) (hl:ns.length<=sizeLine) (hr:Room k callerA)
    (F:∀ base:Heap,K.In base->base.Ns mainGlobals mg->FnOk P w K mg base CX k fa fd [x] sp) (hbind:∀ (s:Shared) (u:Value),BindsTo s fd ⟨[u],[]⟩ [(x,u)])
    (hsp:∀ H:Hp,Only H->SqL K H a (ns.map V.int)->sp [.ref a] H (fun v _=>v=.bl true) fun _ _ _=>False)
    (hCX:∀ H e s',CX [] H s₁ (fun _ _ _=>False) e s'->False) :
    codeAny (model P w) callerA (.call (.ref fa) ⟨[.ref a],[]⟩) (fun r s'=>r=.ok (.ret (.bool true))/\OldK s₁.heap s'.heap/\s'.os=s₁.os/\AllBare s'.gens) s₁:=by
  have rv:=vals_ints hi
  have lenV:=hi.length
  have core:∀ H:Hp,Only H->SqL K H a (ns.map V.int)->HOk P w H s₁.heap->(∀ b,H b≠none->b=a)->(H a≠none->K.lookup a=none) ->
      codeAny (model P w) callerA (.call (.ref fa) ⟨[.ref a],[]⟩) (fun r s'=>r=.ok (.ret (.bool true))/\OldK s₁.heap s'.heap/\s'.os=s₁.os/\AllBare s'.gens) s₁:=by
    intro H hO hS hok hA hK
    have base_of:∀ {b:Addr} {o:Obj},s₁.heap.get? b=some o->H b=none->(hidT s₁.heap H).get? b=some o:=fun e n=>hidT_get e n
    have noA:∀ {b:Addr} {o:Obj} {es:Array DictEntry} {ep:Nat},s₁.heap.get? b=some o->o.data=.dict es ep->H b=none:=fun {b o es ep} e d=>by
      cases q:H b with
      | none=>rfl
      | some u =>
        have e':b=a:=hA b (by rw [q];simp)
        subst e'
        rw [ha] at e;cases e
        have d':Data.seq vs.toArray _=Data.dict es ep:=d
        cases d'
    have nsK:∀ {b:Addr} {m:Str->Option Value},s₁.heap.Ns b m->(hidT s₁.heap H).Ns b m:=fun {b m} ⟨o,es,ep,e,d,r⟩=>⟨o,es,ep,base_of e (noA e d),d,r⟩
    have hKb:K.In (hidT s₁.heap H):=fun b o e=>base_of (KX b o e) (by
      cases q:H b with
      | none=>rfl
      | some u =>
        have e':b=a:=hA b (by rw [q];simp)
        subst e'
        rw [hK (by rw [q];simp)] at e;cases e)
    have hM:Mod K mg (hidT s₁.heap H):=⟨hKb,nsK hns,⟨mb,nsK hb,hbb⟩,let ⟨mc,h1,h2⟩:=hlim;⟨mc,nsK h1,h2⟩,let ⟨bm,ob,e1,e2,e3,e4,e5,e6⟩:=hbm;⟨bm,ob,e1,e2,base_of e3 (by
      cases q:H bm with
      | none=>rfl
      | some u =>
        have e':bm=a:=hA bm (by rw [q];simp)
        subst e'
        rw [ha] at e3;cases e3;cases e6),e4,e5,e6⟩⟩
    have e0:Env0 P w K mg (hidT s₁.heap H) callerA [] s₁ H:=⟨rfl,hM,fun b o e=>of_hidT e,Nat.le_of_eq (hidT_size _ _),trivial,fun b hb=>absurd (show b∈([]:List Addr) from hb) (by simp),hok,.of_eq hg⟩
    refine codeAny_mono ((F _ hKb (nsK hns)).run callerA [] s₁ H ⟨[.ref a],[]⟩ [.ref a] [.ref a] _ _ hr e0 (hbind s₁ (.ref a)) (.cons rfl .nil) (hsp H hO hS)) fun r s' h=>?_
    cases r with
    | error e=>exact (hCX H e s' h).elim
    | ok fl =>
      cases fl with
      | next=>exact False.elim h
      | brk=>exact False.elim h
      | cont=>exact False.elim h
      | ret u =>
        obtain ⟨v,H',os,bare,un,hok',r',q⟩:=h
        have q':v=.bl true:=q
        subst q'
        obtain rfl:u=Value.bool true:=r'
        refine ⟨rfl,OldK.of_keep fun b o e=>?_,os,bare⟩
        cases q:H b with
        | none=>exact un.keep b o e q (by intro z;exact absurd (show b∈([]:List Addr) from z) (by simp)) (by simp)
        | some u =>
          rcases hO b with z|⟨ob,xs,z⟩
          . rw [q] at z;cases z
          . have z2:=un.frzs b ob _ z
            obtain ⟨e1,_⟩:=hok b _ z
            obtain ⟨e2,_⟩:=hok' b _ z2
            rw [e] at e1;cases e1
            exact e2
  cases hk:K.lookup a with
  | some o =>
    have e:=KX a o hk
    rw [ha] at e
    cases e
    refine core (fun _=>none) (fun _=>.inl rfl) (.inr ⟨_,vs.toArray,_,hk,rfl,rfl,rfl,by rw [List.size_toArray,lenV];exact hl,by simpa using rv⟩) (fun b u z=>by have z':(none:Option HO)=some u:=z;cases z') (fun b z=>absurd rfl z) fun z=>absurd rfl z
  | none =>
    refine core (fun b=>if b=a then some (.frz { cls:=.type "list",data:=.seq vs.toArray } (.lst (ns.map V.int))) else none) (fun b=>?_) (.inl (.inr ⟨{ cls:=.type "list",data:=.seq vs.toArray },if_pos rfl⟩)) (fun b u z=>?_) (fun b z=>?_) fun _=>hk
    . by_cases hb:b=a
      . exact .inr ⟨_,_,if_pos hb⟩
      . exact .inl (if_neg hb)
    . by_cases hb:b=a
      . have z':=(if_pos hb).symm.trans z
        cases z'
        subst hb
        exact ⟨ha,by rw [List.length_map];exact hl,vs,_,rv,ha⟩
      . have z':=(if_neg hb).symm.trans z
        cases z'
    . by_cases hb:b=a
      . exact hb
      . exact absurd (if_neg hb) z
end L2
namespace L2
open PySem PySem.Spec PyProof.Rows
noncomputable abbrev KOf {K:PySem.W.Frag} {h:Heap} (_:K.In h):PySem.W.Frag:=K
theorem walk_of {l:PySem.W.OpenLaw} {n k:Nat} {q:Program} {loose:List Str} {XP:(Str->Option Value)->Heap->Prop} {YP:World->Heap->Prop} {d:DefRec} {K:Params->PySem.W.Frag} {CX:World->CXT} {sp:World->Sp} {x:Str}
    (hn:l.most=some n) (hn2:n<=sizeLine) (hdf:d.params.defaults=[]) (hr:Room k callerA)
    (hY:∀ (w:World) (h:Heap),YP w h->(K w.params).In h)
    (F:∀ (w:World) (mg:Str->Option Value) (fa:Addr) (h:Heap),(K w.params).In h->h.Ns mainGlobals mg->mg d.name=some (.ref fa) ->
      ∃ fd:FuncData,(∀ (s:Shared) (u:Value),BindsTo s fd ⟨[u],[]⟩ [(x,u)]) /\
        ∀ base:Heap,(K w.params).In base->base.Ns mainGlobals mg->FnOk l.prog w (K w.params) mg base (CX w) k fa fd [x] (sp w))
    (hsp:∀ (w:World) (H:Hp) (a:Addr) (ns:List Int),ns.length<=n->Only H->SqL (K w.params) H a (ns.map V.int)->sp w [.ref a] H (fun v _=>v=.bl true) fun _ _ _=>False)
    (hCX:∀ (w:World) (H:Hp) (s:Shared) (e:Value) (s':Shared),CX w [] H s (fun _ _ _=>False) e s'->False) :
    PySem.W.WalkO q loose XP YP l.row.toRowW d [] (fun f vs=>PySem.call f vs):=by
  refine Att.attach_call hn hdf fun w s₀ s₁ mg mb fa o pm cd doc a vs ns G Y ho hd hcd hmg hobj hints hlen hg=>?_
  have KX:=hY w _ Y
  obtain ⟨fd,hb,hF⟩:=F w mg fa _ KX G.T.g hmg
  exact law_call KX G.T.g G.T.b G.T.builtins G.T.nolimit G.T.bmain hg hobj hints (Nat.le_trans hlen hn2) hr hF hb (fun H hO hS=>hsp w H a ns hlen hO hS) fun H e s'=>hCX w H s₁ e s'
end L2
namespace L2
open PySem PySem.Spec PyProof.Rows
noncomputable def defArgs (s:Stmt):Arguments:=match s with
  | .FunctionDef _ a _ _ _ _ _ _ _ _=>a
  | _=>{ posonlyargs:=[],args:=[],vararg:=none,kwonlyargs:=[],kw_defaults:=[],kwarg:=none,defaults:=[] }
noncomputable def defBody (s:Stmt):List Stmt:=match s with
  | .FunctionDef _ _ b _ _ _ _ _ _ _=>b
  | _=>[]
noncomputable def defScope (s:Stmt):Scope:=match s with
  | .FunctionDef _ _ _ _ _ _ sc _ _ _=>sc
  | _=>{ kind:=.function,names:=[],isGenerator:=false,isCoroutine:=false }
structure Fun (K:PySem.W.Frag) (x qual:Str) (st:Stmt) (f:Addr) (fd:FuncData):Prop where
  ex:∃ (oc:Value) (od:Option Addr) (kV doc pm:Value) (an:Option Addr) (cdv ct:Value) (osl:Array (Option Value)),
    fd=PySem.W.fnOf x qual (defArgs st) (defBody st) (defScope st) .none kV doc pm an cdv ct/\K.lookup f=some ⟨oc,od,.func fd,osl⟩/\PySem.W.codeIn K cdv qual=true
  kp:PySem.W.keepIn K (.ref f)=true
section
variable {P:Program} {w:World} {K:PySem.W.Frag} {mg:Str->Option Value} {base:Heap}
theorem Fun.binds {x qual:Str} {st:Stmt} {f:Addr} {fd:FuncData} {ps:List Str} (F:Fun K x qual st f fd)
    (h:∀ (kV doc pm:Value) (an:Option Addr) (cdv ct:Value) (us:List Value),us.length=ps.length->bindArgs (PySem.W.fnOf x qual (defArgs st) (defBody st) (defScope st) .none kV doc pm an cdv ct) ⟨us,[]⟩=pure (ps.zip us)):Binds K fd ps []:=by
  obtain ⟨oc,od,kV,doc,pm,an,cdv,ct,osl,rfl,lk,hcd⟩:=F.ex
  exact .all (h kV doc pm an cdv ct)
theorem fun_mk {x qual:Str} {st:Stmt} {f:Addr} {oc:Value} {od an:Option Addr} {osl:Array (Option Value)} {kV doc pm cdv ct:Value} (l:K.lookup f=some ⟨oc,od,.func (PySem.W.fnOf x qual (defArgs st) (defBody st) (defScope st) .none kV doc pm an cdv ct),osl⟩)
    (c:PySem.W.codeIn K cdv qual=true) (k:PySem.W.keepIn K (.ref f)=true):Fun K x qual st f (PySem.W.fnOf x qual (defArgs st) (defBody st) (defScope st) .none kV doc pm an cdv ct):=⟨⟨oc,od,kV,doc,pm,an,cdv,ct,osl,rfl,l,c⟩,k⟩
end
theorem small1000 {n:Nat} (h:n<=1000):n < sizeLine:=Nat.lt_of_le_of_lt h (by decide)
section
variable {X:Cx}
end
noncomputable def Same (H H':Hp):Prop:=∀ b o,H b=some o->H' b=some o
theorem Same.refl (H:Hp):Same H H:=fun _ _ h=>h
theorem Same.trans {H H1 H2:Hp} (a:Same H H1) (b:Same H1 H2):Same H H2:=fun c o h=>b c o (a c o h)
theorem Same.free {H H':Hp} (e:Same H H') {l:Addr} (h:H' l=Option.none):H l=Option.none:=by
  cases q:H l with
  | none=>rfl
  | some o =>
    rw [e l o q] at h
    cases h
theorem Same.seq {K:PySem.W.Frag} {H H':Hp} {a:Addr} {xs:List V} (e:Same H H') (h:SqL K H a xs):SqL K H' a xs:=by
  rcases h with (h|⟨o,h⟩)|h
  . exact .inl (.inl (e _ _ h))
  . exact .inl (.inr ⟨o,e _ _ h⟩)
  . exact .inr h
end L2
namespace Vl
open PySem PySem.Spec L2
inductive D where
  | non|bl (b:Bool)|int (i:Int)|str (x:Str)|tup (xs:List D)|lst (xs:List D)|exn (c:Str) (n:Int)|dic (ks:List (List Int)) (ds:List D)|fn (x:Str)|obj (c:Str) (ns:List Str) (ds:List D)
noncomputable def ExnAt (a C:Addr) (dx:Option Addr):Heap->Prop:=fun h=>∃ o vs,h.get? a=some o/\o.cls=.ref C/\o.data=.fields vs/\∀ d,dx=some d->o.dict=some d
noncomputable def attrOf (c:Str):Str:=if c="NoText" then "at" else "place"
noncomputable def XDat (G:Hp) (c:Str) (dx:Option Addr) (n:Int):Prop:=n=0∨∃ d i,n=2 * i + 1/\dx=some d/\G d=some (.xd [(attrOf c,.int i)])
theorem XDat.mono {G G':Hp} (e:Same G G') {c:Str} {dx:Option Addr} {n:Int} (h:XDat G c dx n):XDat G' c dx n:=h.imp id fun ⟨d,i,h1,h2,h3⟩=>⟨d,i,h1,h2,e _ _ h3⟩
noncomputable def UG (K:PySem.W.Frag) (G:Hp):Addr->List Int->Prop:=fun b ks=>SqT K G b (ks.map V.int)
noncomputable def keyHash (ks:List Int):Int:=reduceHash (Builtin.Tuple.tupleHashOf (ks.map hashInt))
noncomputable def DicH (U:Addr->List Int->Prop) (a:Addr) (kvs:List (List Int×V)):Heap->Prop:=fun h=>∃ (o:Obj) (es:Array DictEntry) (ep:Nat) (xs:List (List Int×Addr×Value)),h.get? a=some o/\o.ExactDict/\o.data=.dict es ep/\(a == sysModules)=false /\
  es.toList=xs.map (fun x=>⟨keyHash x.1,.ref x.2.1,x.2.2⟩)/\(xs.map (·.1)).Nodup/\Paired (fun (p:List Int×V) (q:List Int×Addr×Value)=>p.1=q.1/\U q.2.1 q.1/\RelV p.2 q.2.2) kvs xs
noncomputable def DicAt (H:Hp) (d:Addr) (U:Addr->List Int->Prop) (kvv:List (List Int×V)):Prop:=∃ φ:Heap->Prop,H d=some (.ext φ)/\∀ h,φ h->DicH U d kvv h
theorem dicAt {H:Hp} {d:Addr} {U:Addr->List Int->Prop} {kvv:List (List Int×V)} (h:H d=some (.ext (DicH U d kvv))):DicAt H d U kvv:=⟨_,h,fun _ z=>z⟩
noncomputable def PinAt (G:Hp) (a:Addr) (U:Addr->List Int->Prop) (kvv:List (List Int×V)):Prop:=∃ o,G a=some (.ext fun h=>h.get? a=some o/\DicH U a kvv h)
theorem PinAt.mono {G G':Hp} {a:Addr} {U:Addr->List Int->Prop} {kvv:List (List Int×V)} (e:Same G G') (h:PinAt G a U kvv):PinAt G' a U kvv:=let ⟨o,q⟩:=h;⟨o,e _ _ q⟩
theorem PinAt.at {G:Hp} {a:Addr} {U:Addr->List Int->Prop} {kvv:List (List Int×V)} (h:PinAt G a U kvv):DicAt G a U kvv:=let ⟨_,q⟩:=h;⟨_,q,fun _ z=>z.2⟩
mutual
noncomputable def Rep (K:PySem.W.Frag) (G:Hp):D->V->Prop
  | .non,v=>v=.non
  | .bl b,v=>v=.bl b
  | .int i,v=>v=.int i
  | .str x,v=>v=.str x
  | .tup ds,v=>∃ a vs,v=.ref a/\SqT K G a vs/\Reps K G ds vs
  | .lst ds,v=>∃ a vs,v=.ref a/\SqL K G a vs/\Reps K G ds vs
  | .exn c n,v=>∃ a C dx,v=.ref a/\PySem.W.nsIn K mainGlobals c=some (some (.ref C))/\G a=some (.ext (ExnAt a C dx))/\XDat G c dx n
  | .dic ks ds,v=>∃ a U kvv,v=.ref a/\PinAt G a U kvv/\(∀ b js,U b js->UG K G b js)/\kvv.map (·.1)=ks/\Reps K G ds (kvv.map (·.2))
  | .fn x,v=>∃ a o fd,v=.ref a/\PySem.W.nsIn K mainGlobals x=some (some (.ref a))/\K.lookup a=some o/\o.data=.func fd
  | .obj c ns ds,v=>∃ a C dx us,v=.ref a/\PySem.W.nsIn K mainGlobals c=some (some (.ref C))/\G a=some (.ins C dx (ns.zip us))/\G dx=some (.own a)/\us.length=ns.length/\Reps K G ds us
noncomputable def Reps (K:PySem.W.Frag) (G:Hp):List D->List V->Prop
  | [],vs=>vs=[]
  | d::ds,vs=>∃ v vs',vs=v::vs'/\Rep K G d v/\Reps K G ds vs'
end
theorem Same.seqT {K:PySem.W.Frag} {H H':Hp} {a:Addr} {xs:List V} (e:Same H H') (h:SqT K H a xs):SqT K H' a xs:=by
  rcases h with (h|⟨o,h⟩)|h
  . exact .inl (.inl (e _ _ h))
  . exact .inl (.inr ⟨o,e _ _ h⟩)
  . exact .inr h
mutual
theorem Rep.mono {K:PySem.W.Frag} {G G':Hp} (e:Same G G'):∀ {d:D} {v:V},Rep K G d v->Rep K G' d v
  | .non,_,h=>by simp only [Rep] at h ⊢;exact h
  | .bl _,_,h=>by simp only [Rep] at h ⊢;exact h
  | .int _,_,h=>by simp only [Rep] at h ⊢;exact h
  | .str _,_,h=>by simp only [Rep] at h ⊢;exact h
  | .tup ds,_,h=>by
    simp only [Rep] at h ⊢
    obtain ⟨a,vs,e1,h1,h2⟩:=h
    exact ⟨a,vs,e1,Same.seqT e h1,Reps.mono e h2⟩
  | .lst ds,_,h=>by
    simp only [Rep] at h ⊢
    obtain ⟨a,vs,e1,h1,h2⟩:=h
    exact ⟨a,vs,e1,e.seq h1,Reps.mono e h2⟩
  | .exn c n,_,h=>by
    simp only [Rep] at h ⊢
    obtain ⟨a,C,dx,e1,h1,h2,h3⟩:=h
    exact ⟨a,C,dx,e1,h1,e _ _ h2,h3.mono e⟩
  | .fn x,_,h=>by simp only [Rep] at h ⊢;exact h
  | .obj c ns ds,_,h=>by
    simp only [Rep] at h ⊢
    obtain ⟨a,C,dx,us,e1,h1,h2,h3,h4,h5⟩:=h
    exact ⟨a,C,dx,us,e1,h1,e _ _ h2,e _ _ h3,h4,Reps.mono e h5⟩
  | .dic ks ds,_,h=>by
    simp only [Rep] at h ⊢
    obtain ⟨a,U,kvv,e1,h1,h2,h3,h4⟩:=h
    exact ⟨a,U,kvv,e1,h1.mono e,fun b js q=>Same.seqT e (h2 b js q),h3,Reps.mono e h4⟩
theorem Reps.mono {K:PySem.W.Frag} {G G':Hp} (e:Same G G'):∀ {ds:List D} {vs:List V},Reps K G ds vs->Reps K G' ds vs
  | [],_,h=>by simp only [Reps] at h ⊢;exact h
  | d::ds,_,h=>by
    simp only [Reps] at h ⊢
    obtain ⟨v,vs',e1,h1,h2⟩:=h
    exact ⟨v,vs',e1,Rep.mono e h1,Reps.mono e h2⟩
end
section
variable {K:PySem.W.Frag} {G:Hp}
theorem rep_int {i:Int} {v:V}:Rep K G (.int i) v↔v=.int i:=by simp only [Rep]
theorem rep_bl {i:Bool} {v:V}:Rep K G (.bl i) v↔v=.bl i:=by simp only [Rep]
theorem rep_non {v:V}:Rep K G .non v↔v=.non:=by simp only [Rep]
theorem rep_str {x:Str} {v:V}:Rep K G (.str x) v↔v=.str x:=by simp only [Rep]
theorem rep_tup {ds:List D} {v:V}:Rep K G (.tup ds) v↔∃ a vs,v=.ref a/\SqT K G a vs/\Reps K G ds vs:=by simp only [Rep]
theorem rep_lst {ds:List D} {v:V}:Rep K G (.lst ds) v↔∃ a vs,v=.ref a/\SqL K G a vs/\Reps K G ds vs:=by simp only [Rep]
theorem rep_exn {c:Str} {n:Int} {v:V}:Rep K G (.exn c n) v↔∃ a C dx,v=.ref a/\PySem.W.nsIn K mainGlobals c=some (some (.ref C))/\G a=some (.ext (ExnAt a C dx))/\XDat G c dx n:=by simp only [Rep]
theorem rep_fn {x:Str} {v:V}:Rep K G (.fn x) v↔∃ a o fd,v=.ref a/\PySem.W.nsIn K mainGlobals x=some (some (.ref a))/\K.lookup a=some o/\o.data=.func fd:=by simp only [Rep]
theorem rep_obj {c:Str} {ns:List Str} {ds:List D} {v:V}:Rep K G (.obj c ns ds) v↔∃ a C dx us,v=.ref a/\PySem.W.nsIn K mainGlobals c=some (some (.ref C))/\G a=some (.ins C dx (ns.zip us))/\G dx=some (.own a)/\us.length=ns.length/\Reps K G ds us:=by simp only [Rep]
theorem rep_dic {ks:List (List Int)} {ds:List D} {v:V}:Rep K G (.dic ks ds) v↔∃ a U kvv,v=.ref a/\PinAt G a U kvv/\(∀ b js,U b js->UG K G b js)/\kvv.map (·.1)=ks/\Reps K G ds (kvv.map (·.2)):=by simp only [Rep]
theorem reps_nil {vs:List V}:Reps K G [] vs↔vs=[]:=by simp only [Reps]
theorem reps_cons {d:D} {ds:List D} {vs:List V}:Reps K G (d::ds) vs↔∃ v vs',vs=v::vs'/\Rep K G d v/\Reps K G ds vs':=by simp only [Reps]
theorem Reps.length:∀ {ds:List D} {vs:List V},Reps K G ds vs->ds.length=vs.length
  | [],_,h=>by rw [reps_nil.mp h];rfl
  | d::ds,_,h=>by
    obtain ⟨v,vs',rfl,_,h2⟩:=reps_cons.mp h
    simp [Reps.length h2]
theorem Reps.get:∀ {ds:List D} {vs:List V} {i:Nat} {d:D},Reps K G ds vs->ds[i]?=some d->∃ v,vs[i]?=some v/\Rep K G d v
  | [],_,_,_,h,e=>by simp at e
  | d::ds,_,i,x,h,e=>by
    obtain ⟨v,vs',rfl,h1,h2⟩:=reps_cons.mp h
    cases i with
    | zero=>simp at e;subst e;exact ⟨v,by simp,h1⟩
    | succ i=>obtain ⟨u,q1,q2⟩:=Reps.get (i:=i) h2 (by simpa using e);exact ⟨u,by simpa using q1,q2⟩
theorem Reps.get':∀ {ds:List D} {vs:List V} {i:Nat} {v:V},Reps K G ds vs->vs[i]?=some v->∃ d,ds[i]?=some d/\Rep K G d v
  | [],_,_,_,h,e=>by rw [reps_nil.mp h] at e;simp at e
  | d::ds,_,i,x,h,e=>by
    obtain ⟨v,vs',rfl,h1,h2⟩:=reps_cons.mp h
    cases i with
    | zero=>simp at e;subst e;exact ⟨d,by simp,h1⟩
    | succ i=>obtain ⟨u,q1,q2⟩:=Reps.get' (i:=i) h2 (by simpa using e);exact ⟨u,by simpa using q1,q2⟩
theorem Reps.append:∀ {ds es:List D} {vs us:List V},Reps K G ds vs->Reps K G es us->Reps K G (ds++es) (vs++us)
  | [],_,_,_,h,h'=>by rw [reps_nil.mp h];exact h'
  | d::ds,_,_,_,h,h'=>by
    obtain ⟨v,vs',rfl,h1,h2⟩:=reps_cons.mp h
    exact reps_cons.mpr ⟨v,_,rfl,h1,Reps.append h2 h'⟩
theorem Reps.one {d:D} {v:V} (h:Rep K G d v):Reps K G [d] [v]:=reps_cons.mpr ⟨v,[],rfl,h,reps_nil.mpr rfl⟩
theorem Reps.drop:∀ {ds:List D} {vs:List V} (n:Nat),Reps K G ds vs->Reps K G (ds.drop n) (vs.drop n)
  | ds,vs,0,h=>by simpa using h
  | [],_,n + 1,h=>by rw [reps_nil.mp h];simpa using reps_nil.mpr rfl
  | d::ds,_,n + 1,h=>by
    obtain ⟨v,vs',rfl,h1,h2⟩:=reps_cons.mp h
    simpa using Reps.drop n h2
theorem Reps.take:∀ {ds:List D} {vs:List V} (n:Nat),Reps K G ds vs->Reps K G (ds.take n) (vs.take n)
  | ds,vs,0,h=>by simpa using reps_nil.mpr rfl
  | [],_,n + 1,h=>by rw [reps_nil.mp h];simpa using reps_nil.mpr rfl
  | d::ds,_,n + 1,h=>by
    obtain ⟨v,vs',rfl,h1,h2⟩:=reps_cons.mp h
    simpa using reps_cons.mpr ⟨v,_,rfl,h1,Reps.take n h2⟩
theorem reps_ints (ns:List Int):Reps K G (ns.map D.int) (ns.map V.int):=by
  induction ns with
  | nil=>exact reps_nil.mpr rfl
  | cons n ns ih=>exact reps_cons.mpr ⟨_,_,rfl,rep_int.mpr rfl,ih⟩
end
inductive Rs (α:Type) where
  | ok (a:α)|ex (c:Str) (n:Int)|no
noncomputable def Rs.bind {α β:Type}:Rs α->(α->Rs β)->Rs β
  | .ok a,k=>k a
  | .ex c n,_=>.ex c n
  | .no,_=>.no
inductive Sl where
  | no|fz (d:D)|ow (ds:List D)|od (kvs:List (List Int×D))|op (ds:List D)
noncomputable def Sl.own:Sl->Bool
  | .ow _=>true
  | .od _=>true
  | .op _=>true
  | _=>false
inductive KReps (K:PySem.W.Frag) (G:Hp):List (List Int×D)->List (List Int×V)->Prop
  | nil:KReps K G [] []
  | cons {k:List Int} {d:D} {v:V} {kvs:List (List Int×D)} {kvv:List (List Int×V)}:Rep K G d v->KReps K G kvs kvv->KReps K G ((k,d)::kvs) ((k,v)::kvv)
theorem KReps.mono {K:PySem.W.Frag} {G G':Hp} (e:Same G G') {kvs:List (List Int×D)} {kvv:List (List Int×V)} (h:KReps K G kvs kvv):KReps K G' kvs kvv:=by
  induction h with
  | nil=>exact .nil
  | cons r _ ih=>exact .cons (r.mono e) ih
noncomputable def OwnAt (K:PySem.W.Frag) (G:Hp) (a:Addr):Sl->HO->Prop
  | .ow ds,o=>∃ vs,o=.lst vs/\Reps K G ds vs
  | .op ds,o=>∃ vs,o=.lst vs/\Reps K G ds vs
  | .od kvs,o=>∃ U kvv,o=.ext (DicH U a kvv)/\(∀ b ks,U b ks->UG K G b ks)/\KReps K G kvs kvv
  | _,_=>False
theorem OwnAt.mono {K:PySem.W.Frag} {G G':Hp} (e:Same G G') {a:Addr} {z:Sl} {o:HO} (h:OwnAt K G a z o):OwnAt K G' a z o:=by
  cases z with
  | ow ds=>obtain ⟨vs,h1,h2⟩:=h;exact ⟨vs,h1,h2.mono e⟩
  | od kvs=>obtain ⟨U,kvv,h1,h2,h3⟩:=h;exact ⟨U,kvv,h1,fun b ks q=>Same.seqT e (h2 b ks q),h3.mono e⟩
  | op ds=>obtain ⟨vs,h1,h2⟩:=h;exact ⟨vs,h1,h2.mono e⟩
  | _=>exact h.elim
theorem OwnAt.tup {K:PySem.W.Frag} {G:Hp} {a:Addr} {z:Sl} {xs:List V} (h:OwnAt K G a z (.tup xs)):False:=by
  cases z with
  | ow ds=>obtain ⟨vs,h1,h2⟩:=h;cases h1
  | od kvs=>obtain ⟨U,kvv,h1,h2,h3⟩:=h;cases h1
  | op ds=>obtain ⟨vs,h1,h2⟩:=h;cases h1
  | _=>exact h
noncomputable abbrev Rho:=List Sl
structure Bs where
  g:Hp
  h:Hp
  p:Addr
noncomputable abbrev Wi:=Str->Int->St->Hp->Prop
noncomputable def lamBody (fd:FuncData):Bool:=match fd.body with
  | .stmts ss=>(match ss.getLast? with
    | some (.Return (some (.Call _ _ (k::_) _)) _)=>(match k.value with|.Lambda _ _ _ _=>true|_=>false)
    | _=>false)
  | _=>false
noncomputable def lamT (K:PySem.W.Frag):List (Addr×Str):=K.filterMap fun p=>match p.2.data with
  | .func fd=>if lamBody fd then (match fd.code with
    | .ref c=>(match K.lookup c with
      | some oc=>(match oc.data with|.fields vs=>(match (vs[11]?:Option Value) with|some (.ref P)=>some (P,fd.qualname++(".<locals>.<lambda>":Str))|_=>none)|_=>none)
      | none=>none)
    | _=>none) else none
  | _=>none
noncomputable def Cok (K:PySem.W.Frag) (H:Hp):Prop:=∀ x∈lamT K,H x.1=some (.tab x.2)
theorem Cok.same {K:PySem.W.Frag} {H H':Hp} (h:Cok K H) (e:Same H H'):Cok K H':=fun x m=>e _ _ (h x m)
theorem Cok.upd {K:PySem.W.Frag} {H:Hp} {a:Addr} {o u:HO} (h:Cok K H) (e:H a=some u) (n:∀ q,u≠.tab q):Cok K (upd H a o):=fun x m=>by
  have:=h x m
  rw [upd_ne (fun z=>by subst z;rw [e] at this;exact n _ (Option.some.inj this))]
  exact this
theorem OwnAt.tab {K:PySem.W.Frag} {G:Hp} {a:Addr} {z:Sl} {o:HO} (h:OwnAt K G a z o):∀ q,o≠.tab q:=fun q e=>by
  subst e
  cases z with
  | ow ds=>obtain ⟨vs,h1,h2⟩:=h;cases h1
  | od kvs=>obtain ⟨U,kvv,h1,h2,h3⟩:=h;cases h1
  | op ds=>obtain ⟨vs,h1,h2⟩:=h;cases h1
  | _=>exact h
structure Ext (G H G' H':Hp):Prop where
  gg:Same G G'
  hh:Same H H'
  gh:Same G' H'
  tp:∀ a xs,H' a=some (.tup xs)->G' a=some (.tup xs)
  nw:∀ b o,H b=some o->G b=none->G' b=none
theorem Ext.trans {G H G1 H1 G2 H2:Hp} (a:Ext G H G1 H1) (b:Ext G1 H1 G2 H2):Ext G H G2 H2 :=
  ⟨a.gg.trans b.gg,a.hh.trans b.hh,b.gh,b.tp,fun c o h n=>b.nw c o (a.hh c o h) (a.nw c o h n)⟩
theorem Ext.refl {G H:Hp} (gh:Same G H) (tp:∀ a xs,H a=some (.tup xs)->G a=some (.tup xs)):Ext G H G H:=⟨.refl _,.refl _,gh,tp,fun _ _ _ n=>n⟩
structure SR (K:PySem.W.Frag) (B:Bs) (σ:St) (H:Hp) (ρ:Rho) (G:Hp):Prop where
  en:Ext B.1 B.2 G H
  len:ρ.length=σ.length
  fz:∀ (i:Nat) (d:D),ρ[i]?=some (.fz d)->∃ v,σ[i]?=some (some v)/\Rep K G d v
  own:∀ (i:Nat) (z:Sl),ρ[i]?=some z->z.own=true->∃ a o,σ[i]?=some (some (.ref a))/\H a=some o/\G a=none/\B.2 a=none/\OwnAt K G a z o
  ap:∀ (i j:Nat) (z z':Sl) (a:Addr),ρ[i]?=some z->z.own=true->ρ[j]?=some z'->z'.own=true->σ[i]?=some (some (.ref a))->σ[j]?=some (some (.ref a))->i=j
  tie:∀ (i:Nat) (ds:List D) (a:Addr),ρ[i]?=some (.op ds)->σ[i]?=some (some (.ref a))->a=B.3
  co:Cok K H
structure Ex0 (K:PySem.W.Frag) (G H:Hp):Prop extends Ext G H G H where
  co:Cok K H
section
variable {K:PySem.W.Frag} {B:Bs} {σ:St} {H H' G G':Hp} {ρ:Rho}
theorem SR.ext0 (h:SR K B σ H ρ G):Ext G H G H:=.refl h.en.gh h.en.tp
theorem SR.ext (h:SR K B σ H ρ G) (e:Ext G H G' H'):SR K B σ H' ρ G' where
  en:=h.en.trans e
  len:=h.len
  fz:=fun i d q=>let ⟨v,h1,h2⟩:=h.fz i d q;⟨v,h1,h2.mono e.gg⟩
  own:=fun i z q w=>let ⟨a,o,h1,h2,h3,h4,h5⟩:=h.own i z q w;⟨a,o,h1,e.hh _ _ h2,e.nw _ _ h2 h3,h4,h5.mono e.gg⟩
  ap:=h.ap
  tie:=h.tie
  co:=h.co.same e.hh
theorem SR.ex0 (h:SR K B σ H ρ G):Ex0 K G H:=⟨h.ext0,h.co⟩
theorem SR.set (h:SR K B σ H ρ G) {i:Nat} {d:D} {v:V} (r:Rep K G d v):SR K B (σ.set i (some v)) H (ρ.set i (.fz d)) G where
  en:=h.en
  len:=by simp [h.len]
  fz:=fun j d' q=>by
    by_cases e:i=j
    . subst e
      have hl:i < ρ.length:=by
        have:=(List.getElem?_eq_some_iff.mp q).1;simpa using this
      rw [List.getElem?_set_self hl] at q
      cases q
      exact ⟨v,List.getElem?_set_self (by rw [<- h.len];exact hl),r⟩
    . rw [List.getElem?_set_ne e] at q
      rw [List.getElem?_set_ne e]
      exact h.fz j d' q
  own:=fun j z q w=>by
    by_cases e:i=j
    . subst e
      have hl:i < ρ.length:=by
        have:=(List.getElem?_eq_some_iff.mp q).1;simpa using this
      rw [List.getElem?_set_self hl] at q
      cases q;cases w
    . rw [List.getElem?_set_ne e] at q
      rw [List.getElem?_set_ne e]
      exact h.own j z q w
  ap:=fun j k z z' a q1 w1 q2 w2 q3 q4=>by
    have ne:∀ (l:Nat) (z:Sl),(ρ.set i (.fz d))[l]?=some z->z.own=true->i≠l:=fun l z q w e=>by
      subst e
      have hl:i < ρ.length:=by
        have:=(List.getElem?_eq_some_iff.mp q).1;simpa using this
      rw [List.getElem?_set_self hl] at q
      cases q;cases w
    have n1:=ne j z q1 w1
    have n2:=ne k z' q2 w2
    rw [List.getElem?_set_ne n1] at q1 q3
    rw [List.getElem?_set_ne n2] at q2 q4
    exact h.ap j k z z' a q1 w1 q2 w2 q3 q4
  tie:=fun j ds a q1 q2=>by
    have e:i≠j:=fun e=>by
      subst e
      have hl:i < ρ.length:=by
        have:=(List.getElem?_eq_some_iff.mp q1).1;simpa using this
      rw [List.getElem?_set_self hl] at q1
      cases q1
    rw [List.getElem?_set_ne e] at q1 q2
    exact h.tie j ds a q1 q2
  co:=h.co
theorem SR.ow (h:SR K B σ H ρ G) (i:Nat) (ds:List D) (q:ρ[i]?=some (.ow ds)):∃ a vs,σ[i]?=some (some (.ref a))/\H a=some (.lst vs)/\G a=none/\B.2 a=none/\Reps K G ds vs:=by
  obtain ⟨a,o,h1,h2,h3,h4,vs,rfl,h5⟩:=h.own i _ q rfl
  exact ⟨a,vs,h1,h2,h3,h4,h5⟩
theorem ext_tup (gh:Same G H) (tp:∀ a xs,H a=some (.tup xs)->G a=some (.tup xs)) {p:Addr} {xs:List V} (hp:H p=none):Ext G H (upd G p (.tup xs)) (upd H p (.tup xs)) where
  gg:=fun b o e=>by rw [upd_ne (ne_of_none (gh _ _ e) hp)];exact e
  hh:=fun b o e=>by rw [upd_ne (ne_of_none e hp)];exact e
  gh:=fun b o e=>by
    by_cases q:b=p
    . subst q;rw [upd_same] at e ⊢;exact e
    . rw [upd_ne q] at e ⊢;exact gh _ _ e
  tp:=fun b ys e=>by
    by_cases q:b=p
    . subst q;rw [upd_same] at e ⊢;exact e
    . rw [upd_ne q] at e ⊢;exact tp _ _ e
  nw:=fun b o e n=>by rw [upd_ne (ne_of_none e hp)];exact n
theorem ext_lst (gh:Same G H) (tp:∀ a xs,H a=some (.tup xs)->G a=some (.tup xs)) {p:Addr} {xs:List V} (hp:H p=none):Ext G H (upd G p (.lst xs)) (upd H p (.lst xs)) where
  gg:=fun b o e=>by rw [upd_ne (ne_of_none (gh _ _ e) hp)];exact e
  hh:=fun b o e=>by rw [upd_ne (ne_of_none e hp)];exact e
  gh:=fun b o e=>by
    by_cases q:b=p
    . subst q;rw [upd_same] at e ⊢;exact e
    . rw [upd_ne q] at e ⊢;exact gh _ _ e
  tp:=fun b ys e=>by
    by_cases q:b=p
    . subst q;rw [upd_same] at e;cases e
    . rw [upd_ne q] at e ⊢;exact tp _ _ e
  nw:=fun b o e n=>by rw [upd_ne (ne_of_none e hp)];exact n
theorem ext_any (gh:Same G H) (tp:∀ a xs,H a=some (.tup xs)->G a=some (.tup xs)) {p:Addr} {o:HO} (ho:∀ xs,o≠.tup xs) (hp:H p=none):Ext G H G (upd H p o) where
  gg:=.refl _
  hh:=fun b o e=>by rw [upd_ne (ne_of_none e hp)];exact e
  gh:=fun b o e=>by rw [upd_ne (ne_of_none (gh _ _ e) hp)];exact gh _ _ e
  tp:=fun b ys e=>by
    by_cases q:b=p
    . subst q;rw [upd_same] at e;cases e;exact absurd rfl (ho ys)
    . rw [upd_ne q] at e;exact tp _ _ e
  nw:=fun b o e n=>n
theorem ext_own (gh:Same G H) (tp:∀ a xs,H a=some (.tup xs)->G a=some (.tup xs)) {p:Addr} {xs:List V} (hp:H p=none):Ext G H G (upd H p (.lst xs)) where
  gg:=.refl _
  hh:=fun b o e=>by rw [upd_ne (ne_of_none e hp)];exact e
  gh:=fun b o e=>by rw [upd_ne (ne_of_none (gh _ _ e) hp)];exact gh _ _ e
  tp:=fun b ys e=>by
    by_cases q:b=p
    . subst q;rw [upd_same] at e;cases e
    . rw [upd_ne q] at e;exact tp _ _ e
  nw:=fun b o e n=>n
end
noncomputable def Post (K:PySem.W.Frag) (W:Wi) (σ:St) (G H:Hp) (r:Rs D) (Q:VK):Prop :=
  match r with
  | .ok d=>∀ v H' G',Ext G H G' H'->Rep K G' d v->Q v H'
  | .ex c n=>∀ H' G',Ext G H G' H'->W c n σ H'
  | .no=>False
noncomputable def tF (K:PySem.W.Frag) (B:Bs) (W:Wi) (f:Rho->Rs D):TE:=fun σ H Q=>∃ ρ G,SR K B σ H ρ G/\Post K W σ G H (f ρ) Q
noncomputable def SE (X:Cx) (B:Bs) (W:Wi) (e:Expr) (f:Rho->Rs D):Prop:=PE X e (tF X.K B W f)
theorem PE.imp {X:Cx} {e:Expr} {t t':TE} (h:PE X e t) (i:∀ σ H Q,t' σ H Q->t σ H Q):PE X e t':=fun pins s σ H Q I q=>h pins s σ H Q I (i σ H Q q)
theorem PT.imp {X:Cx} {e:Expr} {t t':TT} (h:PT X e t) (i:∀ σ H Q,t' σ H Q->t σ H Q):PT X e t':=fun pins s σ H Q I q=>h pins s σ H Q I (i σ H Q q)
theorem PA.imp {X:Cx} {e:List Expr} {t t':TA} (h:PA X e t) (i:∀ σ H Q,t' σ H Q->t σ H Q):PA X e t':=fun pos pins s σ H Q I q=>h pos pins s σ H Q I (i σ H Q q)
theorem PS.imp {X:Cx} {e:Stmt} {t t':TS} (h:PS X e t) (i:∀ De σ H,t' De σ H->t De σ H):PS X e t':=fun pins s σ H De I q=>h pins s σ H De I (i De σ H q)
theorem PSs.imp {X:Cx} {e:List Stmt} {t t':TS} (h:PSs X e t) (i:∀ De σ H,t' De σ H->t De σ H):PSs X e t':=fun pins s σ H De I q=>h pins s σ H De I (i De σ H q)
section
variable {X:Cx} {K:PySem.W.Frag} {B:Bs} {W:Wi} {σ:St} {G H:Hp} {ρ:Rho} {Q Q':VK}
theorem Post.mono {r:Rs D} (h:Post K W σ G H r Q) (i:∀ v H',Q v H'->Q' v H'):Post K W σ G H r Q':=by
  cases r with
  | ok d=>exact fun v H' G' e r=>i _ _ (h v H' G' e r)
  | ex c n=>exact h
  | no=>exact h
theorem Post.ext {r:Rs D} {G' H':Hp} (e:Ext G H G' H') (h:Post K W σ G H r Q):Post K W σ G' H' r Q:=by
  cases r with
  | ok d=>exact fun v H'' G'' e' r=>h v H'' G'' (e.trans e') r
  | ex c n=>exact fun H'' G'' e'=>h H'' G'' (e.trans e')
  | no=>exact h
theorem Post.bind {r:Rs D} {k:D->Rs D} (h:Post K W σ G H (r.bind k) Q) :
    Post K W σ G H r fun v H1=>∃ G1 d,Ext G H G1 H1/\Rep K G1 d v/\Post K W σ G1 H1 (k d) Q:=by
  cases r with
  | ok d=>exact fun v H' G' e r=>⟨G',d,e,r,Post.ext e h⟩
  | ex c n=>exact h
  | no=>exact h
theorem Post.ok {d:D} {v:V} (s:SR K B σ H ρ G) (h:Post K W σ G H (.ok d) Q) (r:Rep K G d v):Q v H:=h v H G s.ext0 r
theorem tF_bind {f:Rho->Rs D} {k:Rho->D->Rs D} (h:tF K B W (fun ρ=>(f ρ).bind (k ρ)) σ H Q) :
    tF K B W f σ H fun v H1=>∃ ρ G1 d,SR K B σ H1 ρ G1/\Rep K G1 d v/\Post K W σ G1 H1 (k ρ d) Q:=by
  obtain ⟨ρ,G,s,p⟩:=h
  exact ⟨ρ,G,s,p.bind.mono fun v H1 ⟨G1,d,e,r,q⟩=>⟨ρ,G1,d,s.ext e,r,q⟩⟩
theorem tF_bind2 {f:Rho->Rs D} {k:D->D->Rs D} {v:V} (h:∃ ρ G1 d,SR K B σ H ρ G1/\Rep K G1 d v/\Post K W σ G1 H ((f ρ).bind (k d)) Q) :
    tF K B W f σ H fun u H1=>∃ ρ G1 d d',SR K B σ H1 ρ G1/\Rep K G1 d v/\Rep K G1 d' u/\Post K W σ G1 H1 (k d d') Q:=by
  obtain ⟨ρ,G,d,s,r,p⟩:=h
  exact ⟨ρ,G,s,p.bind.mono fun u H1 ⟨G1,d',e,r',q⟩=>⟨ρ,G1,d,d',s.ext e,r.mono e.gg,r',q⟩⟩
noncomputable def fVar (i:Nat):Rho->Rs D:=fun ρ=>match ρ[i]? with|some (.fz d)=>.ok d|_=>.no
noncomputable def fC (d:D):Rho->Rs D:=fun _=>.ok d
theorem se_var {e:Expr} {i:Nat} (h:PE X e (tVar i)):SE X B W e (fVar i):=PE.imp h fun σ H Q ⟨ρ,G,s,p⟩=>by
  unfold fVar at p
  cases q:ρ[i]? with
  | none=>rw [q] at p;exact p.elim
  | some x =>
    rw [q] at p
    cases x with
    | no=>exact p.elim
    | ow _=>exact p.elim
    | od _=>exact p.elim
    | op _=>exact p.elim
    | fz d =>
      obtain ⟨v,h1,h2⟩:=s.fz i d q
      exact ⟨v,h1,Post.ok s p h2⟩
theorem sv (i:Nat) {x:Str} {pos:Pos} (hN:X.N[i]?=some x:=by rfl) (hv:Vis X.env.scope x:=by first|exact Or.inl rfl|exact Or.inr (Or.inl rfl)|exact Or.inr (Or.inr rfl)) (hd:(x == ("__debug__":Str))=false:=by decide)
    (hcd:(x == ("__classdict__":Str))=false:=by decide):SE X B W (.Name x pos) (fVar i):=se_var (pe_var hN hv hd hcd)
theorem se_c {e:Expr} {v:V} {d:D} (h:PE X e (tC v)) (r:∀ G,Rep X.K G d v):SE X B W e (fC d):=PE.imp h fun σ H Q ⟨ρ,G,s,p⟩=>Post.ok s p (r G)
theorem se_int {i:Int} {j pos}:SE X B W (.Constant (.int i) j pos) (fC (.int i)):=se_c pe_int fun _=>rep_int.mpr rfl
theorem se_bl {b:Bool} {j pos}:SE X B W (.Constant (.bool b) j pos) (fC (.bl b)):=se_c pe_bl fun _=>rep_bl.mpr rfl
theorem se_non {j pos}:SE X B W (.Constant .none j pos) (fC .non):=se_c pe_non fun _=>rep_non.mpr rfl
theorem se_str {x j pos}:SE X B W (.Constant (.str x) j pos) (fC (.str x)):=se_c pe_str fun _=>rep_str.mpr rfl
noncomputable def fOp (g:D->D->Rs D) (fa fb:Rho->Rs D):Rho->Rs D:=fun ρ=>(fa ρ).bind fun x=>(fb ρ).bind fun y=>g x y
noncomputable def OpD (K:PySem.W.Frag) (r:R2) (g:D->D->Rs D):Prop :=
  ∀ (B:Bs) (W:Wi) (σ:St) (ρ:Rho) (G H:Hp) (x y:D) (v u:V) (Q:VK),SR K B σ H ρ G->Rep K G x v->Rep K G y u->Post K W σ G H (g x y) Q->r v u H Q
theorem tOp_of {r:R2} {g:D->D->Rs D} {fa fb:Rho->Rs D} (ho:OpD K r g) (h:tF K B W (fOp g fa fb) σ H Q):tOp r (tF K B W fa) (tF K B W fb) σ H Q:=by
  obtain ⟨ρ,G,s,p⟩:=tF_bind (k:=fun ρ x=>(fb ρ).bind fun y=>g x y) h
  refine ⟨ρ,G,s,p.mono fun v H1 h1=>?_⟩
  obtain ⟨ρ,G,s,p⟩:=tF_bind2 (k:=g) h1
  exact ⟨ρ,G,s,p.mono fun u H2 ⟨ρ2,G2,d,d',s2,r1,r2,p2⟩=>ho B W σ ρ2 G2 H2 d d' v u Q s2 r1 r2 p2⟩
theorem se_op {a b:Expr} {op:Operator} {pos:Pos} {r:R2} {g:D->D->Rs D} {fa fb:Rho->Rs D} (ho:OpR X (binaryOp op) r) (hg:OpD X.K r g) (ha:SE X B W a fa) (hb:SE X B W b fb):SE X B W (.BinOp a op b pos) (fOp g fa fb) :=
  PE.imp (pe_op ho ha hb) fun _ _ _ h=>tOp_of hg h
noncomputable def gI (C:Int->Int->Prop) [∀ i j,Decidable (C i j)] (g:Int->Int->D):D->D->Rs D
  | .int i,.int j=>if C i j then .ok (g i j) else .no
  | _,_=>.no
theorem opd_I {C:Int->Int->Prop} [∀ i j,Decidable (C i j)] {gv:Int->Int->V} {g:Int->Int->D} (hg:∀ G i j,Rep K G (g i j) (gv i j)):OpD K (rI C gv) (gI C g):=by
  intro B W σ ρ G H x y v u Q s rx ry p
  cases x <;> first|exact p.elim|skip
  rename_i i
  cases y <;> first|exact p.elim|skip
  rename_i j
  simp only [gI] at p
  by_cases c:C i j
  . rw [if_pos c] at p
    exact ⟨i,j,rep_int.mp rx,rep_int.mp ry,c,Post.ok s p (hg G i j)⟩
  . rw [if_neg c] at p;exact p.elim
noncomputable def gI0 (g:Int->Int->D):D->D->Rs D
  | .int i,.int j=>.ok (g i j)
  | _,_=>.no
theorem opd_I0 {gv:Int->Int->V} {g:Int->Int->D} (hg:∀ G i j,Rep K G (g i j) (gv i j)):OpD K (rI0 gv) (gI0 g):=by
  intro B W σ ρ G H x y v u Q s rx ry p
  cases x <;> first|exact p.elim|skip
  rename_i i
  cases y <;> first|exact p.elim|skip
  rename_i j
  exact ⟨i,j,rep_int.mp rx,rep_int.mp ry,Post.ok s p (hg G i j)⟩
end
end Vl
namespace Vl
open PySem PySem.Spec L2
mutual
noncomputable def eqD:D->D->Bool
  | .tup a,.tup b=>eqDs a b
  | .lst a,.lst b=>eqDs a b
  | .non,.non=>true
  | .bl a,.bl b=>a == b
  | .bl a,.int b=>(if a then 1 else 0) == b
  | .int a,.bl b=>a == (if b then 1 else 0)
  | .int a,.int b=>a == b
  | .str a,.str b=>a == b
  | .exn a b,.exn c d=>a == c && b == d
  | .dic _ _,.dic _ _=>true
  | .fn a,.fn b=>a == b
  | .obj _ _ _,.obj _ _ _=>true
  | _,_=>false
noncomputable def eqDs:List D->List D->Bool
  | [],[]=>true
  | a::as,b::bs=>eqD a b && eqDs as bs
  | _,_=>false
end
mutual
noncomputable def dep:D->Nat
  | .tup a=>deps a + 1
  | .lst a=>deps a + 1
  | .exn _ _=>cLine
  | .dic _ _=>cLine
  | .fn _=>cLine
  | .obj _ _ _=>cLine
  | _=>0
noncomputable def deps:List D->Nat
  | []=>0
  | a::as=>Nat.max (dep a) (deps as)
end
mutual
theorem eqD_refl:∀ d:D,eqD d d=true
  | .non=>by simp [eqD]
  | .bl _=>by simp [eqD]
  | .int _=>by simp [eqD]
  | .str _=>by simp [eqD]
  | .tup a=>by simp [eqD,eqDs_refl a]
  | .lst a=>by simp [eqD,eqDs_refl a]
  | .exn _ _=>by simp [eqD]
  | .dic _ _=>by simp [eqD]
  | .fn _=>by simp [eqD]
  | .obj _ _ _=>by simp [eqD]
theorem eqDs_refl:∀ d:List D,eqDs d d=true
  | []=>by simp [eqDs]
  | a::as=>by simp [eqDs,eqD_refl a,eqDs_refl as]
end
theorem eqDs_range:∀ (a b:List D),((List.range (min a.length b.length)).all (fun j=>eqD (a.getD j .non) (b.getD j .non)) && a.length == b.length)=eqDs a b
  | [],[]=>by simp [eqDs]
  | [],b::bs=>by simp [eqDs]
  | a::as,[]=>by simp [eqDs]
  | a::as,b::bs=>by
    have ih:=eqDs_range as bs
    rw [eqDs,<- ih]
    rw [show min (a::as).length (b::bs).length=min as.length bs.length + 1 by simp]
    rw [List.range_succ_eq_map,List.all_cons,List.all_map]
    simp [Function.comp_def,Bool.and_assoc]
theorem mem_dep {d:D}:∀ {ds:List D},d∈ds->dep d<=deps ds
  | [],h=>by cases h
  | x::xs,h=>by
    rw [deps]
    rcases List.mem_cons.mp h with rfl|h
    . exact Nat.le_max_left _ _
    . exact Nat.le_trans (mem_dep h) (Nat.le_max_right _ _)
section
variable {X:Cx} {pins:List (Addr×Obj)} {σ:St} {H:Hp} {s:Shared}
theorem not_both (I:Inv X pins σ H s) {a:Addr} {xs ys:List V} (h:SqL X.K H a xs) (h':SqT X.K H a ys):False:=by
  obtain ⟨_,_,⟨o,n,e,c,_,_⟩,_⟩:=I.list h
  obtain ⟨_,_,⟨o',e',c',_⟩,_⟩:=I.tuple h'
  rw [e] at e';cases e'
  rw [c] at c';exact absurd c' (by decide)
theorem not_exnT (I:Inv X pins σ H s) {a:Addr} {xs:List V} {φ:Heap->Prop} (h:SqT X.K H a xs) (h':H a=some (.ext φ)):False:=by
  rcases h with (h|⟨o,h⟩)|⟨o,its,n,hk,_⟩
  . rw [h'] at h;cases h
  . rw [h'] at h;cases h
  . have:=(I.bs a o (I.mod.kin a o hk)).2
    rw [h'] at this;cases this
theorem not_exnL (I:Inv X pins σ H s) {a:Addr} {xs:List V} {φ:Heap->Prop} (h:SqL X.K H a xs) (h':H a=some (.ext φ)):False:=by
  rcases h with (h|⟨o,h⟩)|⟨o,its,n,hk,_⟩
  . rw [h'] at h;cases h
  . rw [h'] at h;cases h
  . have:=(I.bs a o (I.mod.kin a o hk)).2
    rw [h'] at this;cases this
theorem not_fnT {a:Addr} {xs:List V} {o:Obj} {fd:FuncData} (I:Inv X pins σ H s) (h:SqT X.K H a xs) (hk:X.K.lookup a=some o) (hd:o.data=.func fd):False:=by
  have hn:=(I.bs a o (I.mod.kin a o hk)).2
  rcases h with (h|⟨o',h⟩)|⟨o',its,n,hk',hs⟩
  . rw [hn] at h;cases h
  . rw [hn] at h;cases h
  . rw [hk] at hk';cases hk';rcases hs with ⟨_,hs,_⟩;rw [hd] at hs;cases hs
theorem not_fnL {a:Addr} {xs:List V} {o:Obj} {fd:FuncData} (I:Inv X pins σ H s) (h:SqL X.K H a xs) (hk:X.K.lookup a=some o) (hd:o.data=.func fd):False:=by
  have hn:=(I.bs a o (I.mod.kin a o hk)).2
  rcases h with (h|⟨o',h⟩)|⟨o',its,n,hk',hs⟩
  . rw [hn] at h;cases h
  . rw [hn] at h;cases h
  . rw [hk] at hk';cases hk';rcases hs with ⟨_,_,hs,_⟩;rw [hd] at hs;cases hs
theorem not_insT (I:Inv X pins σ H s) {a C dx:Addr} {xs:List V} {fs:List (Str×V)} (h:SqT X.K H a xs) (h':H a=some (.ins C dx fs)):False:=by
  rcases h with (h|⟨o,h⟩)|⟨o,its,n,hk,_⟩
  . rw [h'] at h;cases h
  . rw [h'] at h;cases h
  . have:=(I.bs a o (I.mod.kin a o hk)).2
    rw [h'] at this;cases this
theorem not_insL (I:Inv X pins σ H s) {a C dx:Addr} {xs:List V} {fs:List (Str×V)} (h:SqL X.K H a xs) (h':H a=some (.ins C dx fs)):False:=by
  rcases h with (h|⟨o,h⟩)|⟨o,its,n,hk,_⟩
  . rw [h'] at h;cases h
  . rw [h'] at h;cases h
  . have:=(I.bs a o (I.mod.kin a o hk)).2
    rw [h'] at this;cases this
mutual
theorem Rep.inj (I:Inv X pins σ H s):∀ {d d':D} {v:V},dep d < cLine->Rep X.K H d v->Rep X.K H d' v->d=d'
  | .non,d',v,_,h,h'=>by
    rw [rep_non.mp h] at h'
    cases d' <;> simp only [Rep] at h' <;> first|rfl|(obtain ⟨a,vs,e,_⟩:=h';cases e;done)|(obtain ⟨a,U,kvv,e,_⟩:=h';cases e;done)|(obtain ⟨a,C,dx,us,e,_⟩:=h';cases e;done)|(cases h';rfl)|cases h'
  | .bl _,d',v,_,h,h'=>by
    rw [rep_bl.mp h] at h'
    cases d' <;> simp only [Rep] at h' <;> first|rfl|(obtain ⟨a,vs,e,_⟩:=h';cases e;done)|(obtain ⟨a,U,kvv,e,_⟩:=h';cases e;done)|(obtain ⟨a,C,dx,us,e,_⟩:=h';cases e;done)|(cases h';rfl)|cases h'
  | .int _,d',v,_,h,h'=>by
    rw [rep_int.mp h] at h'
    cases d' <;> simp only [Rep] at h' <;> first|rfl|(obtain ⟨a,vs,e,_⟩:=h';cases e;done)|(obtain ⟨a,U,kvv,e,_⟩:=h';cases e;done)|(obtain ⟨a,C,dx,us,e,_⟩:=h';cases e;done)|(cases h';rfl)|cases h'
  | .str _,d',v,_,h,h'=>by
    rw [rep_str.mp h] at h'
    cases d' <;> simp only [Rep] at h' <;> first|rfl|(obtain ⟨a,vs,e,_⟩:=h';cases e;done)|(obtain ⟨a,U,kvv,e,_⟩:=h';cases e;done)|(obtain ⟨a,C,dx,us,e,_⟩:=h';cases e;done)|(cases h';rfl)|cases h'
  | .tup ds,d',v,hd,h,h'=>by
    obtain ⟨a,vs,rfl,q,r⟩:=rep_tup.mp h
    cases d' with
    | tup es =>
      obtain ⟨b,us,e,q',r'⟩:=rep_tup.mp h'
      cases e
      rw [I.tuple_inj q' q] at r'
      rw [Reps.inj I (by simp only [dep] at hd;lia) r r']
    | lst es =>
      obtain ⟨b,us,e,q',r'⟩:=rep_lst.mp h'
      cases e
      exact (not_both I q' q).elim
    | exn c n =>
      obtain ⟨b,C,_,e,_,q',_⟩:=rep_exn.mp h'
      cases e
      exact (not_exnT I q q').elim
    | fn c =>
      obtain ⟨b,o,fd,e,_,q1,q2⟩:=rep_fn.mp h'
      cases e
      exact (not_fnT I q q1 q2).elim
    | obj c ns es =>
      obtain ⟨b,C,dx,us,e,_,q',_⟩:=rep_obj.mp h'
      cases e
      exact (not_insT I q q').elim
    | dic c n =>
      obtain ⟨b,U,kvv,e,⟨_,q'⟩,_⟩:=rep_dic.mp h'
      cases e
      exact (not_exnT I q q').elim
    | _=>simp only [Rep] at h';cases h'
  | .lst ds,d',v,hd,h,h'=>by
    obtain ⟨a,vs,rfl,q,r⟩:=rep_lst.mp h
    cases d' with
    | lst es =>
      obtain ⟨b,us,e,q',r'⟩:=rep_lst.mp h'
      cases e
      rw [I.list_inj q' q] at r'
      rw [Reps.inj I (by simp only [dep] at hd;lia) r r']
    | tup es =>
      obtain ⟨b,us,e,q',r'⟩:=rep_tup.mp h'
      cases e
      exact (not_both I q q').elim
    | exn c n =>
      obtain ⟨b,C,_,e,_,q',_⟩:=rep_exn.mp h'
      cases e
      exact (not_exnL I q q').elim
    | fn c =>
      obtain ⟨b,o,fd,e,_,q1,q2⟩:=rep_fn.mp h'
      cases e
      exact (not_fnL I q q1 q2).elim
    | obj c ns es =>
      obtain ⟨b,C,dx,us,e,_,q',_⟩:=rep_obj.mp h'
      cases e
      exact (not_insL I q q').elim
    | dic c n =>
      obtain ⟨b,U,kvv,e,⟨_,q'⟩,_⟩:=rep_dic.mp h'
      cases e
      exact (not_exnL I q q').elim
    | _=>simp only [Rep] at h';cases h'
  | .exn _ _,d',v,hd,h,h'=>by simp only [dep] at hd;exact absurd hd (Nat.lt_irrefl _)
  | .dic _ _,d',v,hd,h,h'=>by simp only [dep] at hd;exact absurd hd (Nat.lt_irrefl _)
  | .fn _,d',v,hd,h,h'=>by simp only [dep] at hd;exact absurd hd (Nat.lt_irrefl _)
  | .obj _ _ _,d',v,hd,h,h'=>by simp only [dep] at hd;exact absurd hd (Nat.lt_irrefl _)
theorem Reps.inj (I:Inv X pins σ H s):∀ {ds es:List D} {vs:List V},deps ds < cLine->Reps X.K H ds vs->Reps X.K H es vs->ds=es
  | [],es,vs,_,h,h'=>by
    rw [reps_nil.mp h] at h'
    cases es with
    | nil=>rfl
    | cons e es=>obtain ⟨v,vs',e1,_⟩:=reps_cons.mp h';cases e1
  | d::ds,es,vs,hd,h,h'=>by
    obtain ⟨v,vs',rfl,r1,r2⟩:=reps_cons.mp h
    simp only [deps] at hd
    cases es with
    | nil=>have:=reps_nil.mp h';cases this
    | cons e es =>
      obtain ⟨v',vs'',e1,r1',r2'⟩:=reps_cons.mp h'
      cases e1
      rw [Rep.inj I (Nat.lt_of_le_of_lt (Nat.le_max_left _ _) hd) r1 r1',Reps.inj I (Nat.lt_of_le_of_lt (Nat.le_max_right _ _) hd) r2 r2']
end
theorem items_of (I:Inv X pins σ H s) {m:Nat} {A:Around} {ds es:List D} {vs us:List V} {its its2:List Value}
    (ih:∀ {d d':D} {v v':V} {u u':Value} {A:Around},dep d<=m->dep d'<=m->A.units + m < cLine->Rep X.K H d v->Rep X.K H d' v'->RelV v u->RelV v' u'->SeqAt.EqAt A s u u' (eqD d d'))
    (hn:deps ds<=m) (hn':deps es<=m) (hu:A.in1.units + m < cLine) (r1:Reps X.K H ds vs) (r2:Reps X.K H es us) (a1:Vals vs its) (a2:Vals us its2) :
    ∀ j (h1:j < its.toArray.size) (h2:j < its2.toArray.size),SeqAt.EqAt A.in1 s its.toArray[j] its2.toArray[j] (eqD (ds.getD j .non) (es.getD j .non)):=by
  intro j h1 h2
  have l1:j < ds.length:=by rw [r1.length,a1.length];simpa using h1
  have l2:j < es.length:=by rw [r2.length,a2.length];simpa using h2
  obtain ⟨x,hx,rx⟩:=r1.get (i:=j) (d:=ds[j]) (by simp [l1])
  obtain ⟨y,hy,ry⟩:=r2.get (i:=j) (d:=es[j]) (by simp [l2])
  obtain ⟨p,hp,rp⟩:=a1.get hx
  obtain ⟨q,hq,rq⟩:=a2.get hy
  have e1:its.toArray[j]=p:=by
    have:=(List.getElem?_eq_some_iff.mp hp).2;simpa using this
  have e2:its2.toArray[j]=q:=by
    have:=(List.getElem?_eq_some_iff.mp hq).2;simpa using this
  rw [e1,e2,List.getD_eq_getElem?_getD,List.getD_eq_getElem?_getD,List.getElem?_eq_getElem l1,List.getElem?_eq_getElem l2]
  exact ih (Nat.le_trans (mem_dep (List.getElem_mem l1)) hn) (Nat.le_trans (mem_dep (List.getElem_mem l2)) hn') hu rx ry rp rq
inductive Kd (X:Cx) (H:Hp) (s:Shared):D->Value->Prop
  | n:Kd X H s .non .none
  | b (x:Bool):Kd X H s (.bl x) (.bool x)
  | i (x:Int) (t:Tok):Kd X H s (.int x) (.int x t)
  | s (x:Str) (t:Tok):Kd X H s (.str x) (.str x t)
  | t {a:Addr} {its:List Value} (ds:List D):s.heap.IsTuple a its.toArray->Kd X H s (.tup ds) (.ref a)
  | l {a:Addr} {its:List Value} (ds:List D):s.heap.IsList a its.toArray->Kd X H s (.lst ds) (.ref a)
theorem kd_of (I:Inv X pins σ H s) {n:Nat} {d:D} {v:V} {u:Value} (hd:dep d<=n) (hn:n < cLine) (r:Rep X.K H d v) (e:RelV v u):Kd X H s d u:=by
  cases d with
  | non=>rw [rep_non.mp r] at e;cases e;exact .n
  | bl x=>rw [rep_bl.mp r] at e;cases e;exact .b x
  | int x=>rw [rep_int.mp r] at e;obtain ⟨t,rfl⟩:=e;exact .i x t
  | str x=>rw [rep_str.mp r] at e;obtain ⟨t,rfl⟩:=e;exact .s x t
  | tup ds=>obtain ⟨a,vs,rfl,q,_⟩:=rep_tup.mp r;cases e;obtain ⟨its,_,t,_⟩:=I.tuple q;exact .t ds t
  | lst ds=>obtain ⟨a,vs,rfl,q,_⟩:=rep_lst.mp r;cases e;obtain ⟨its,_,t,_⟩:=I.list q;exact .l ds t.isList
  | _=>simp only [dep] at hd;exact absurd hn (by lia)
noncomputable def sk:D->D->Bool
  | .tup _,.tup _=>true
  | .lst _,.lst _=>true
  | _,_=>false
open SeqAt in
theorem eqD_flat {d d':D} {u u':Value} {A:Around} (k:Kd X H s d u) (k':Kd X H s d' u') (hu:A.units < cLine) (hs:sk d d'=false):EqAt A s u u' (eqD d d'):=by
  cases k with
  | n =>
    cases k' with
    | n=>exact EqAt.same _
    | b y=>exact EqAt.none_bool y
    | i y r=>exact EqAt.none_int y r
    | s y r=>exact EqAt.none_str y r
    | t es g=>exact EqAt.none_tuple g hu
    | l es g=>exact EqAt.none_list g hu
  | b x =>
    cases k' with
    | n=>exact EqAt.bool_none x
    | b y=>exact EqAt.bool_bool x y
    | i y r=>exact EqAt.bool_int x y r
    | s y r=>exact EqAt.bool_str x y r
    | t es g=>exact EqAt.bool_tuple x g hu
    | l es g=>exact EqAt.bool_list x g hu
  | i x t =>
    cases k' with
    | n=>exact EqAt.int_none x t
    | b y=>exact EqAt.int_bool x t y
    | i y r=>exact EqAt.int_int x t y r
    | s y r=>exact EqAt.int_str x t y r
    | t es g=>exact EqAt.int_tuple x t g hu
    | l es g=>exact EqAt.int_list x t g hu
  | s x t =>
    cases k' with
    | n=>exact EqAt.str_none x t
    | b y=>exact EqAt.str_bool x t y
    | i y r=>exact EqAt.str_int x t y r
    | s y r=>exact EqAt.str_str x t y r
    | t es g=>exact EqAt.str_tuple x t g hu
    | l es g=>exact EqAt.str_list x t g hu
  | t ds h =>
    cases k' with
    | n=>exact EqAt.tuple_none h hu
    | b y=>exact EqAt.tuple_bool y h hu
    | i y r=>exact EqAt.tuple_int y r h hu
    | s y r=>exact EqAt.tuple_str y r h hu
    | t es g=>cases hs
    | l es g=>exact EqAt.tuple_list h g hu
  | l ds h =>
    cases k' with
    | n=>exact EqAt.list_none h hu
    | b y=>exact EqAt.list_bool y h hu
    | i y r=>exact EqAt.list_int y r h hu
    | s y r=>exact EqAt.list_str y r h hu
    | t es g=>exact EqAt.list_tuple h g hu
    | l es g=>cases hs
open SeqAt in
theorem eqD_at (I:Inv X pins σ H s):∀ (n:Nat) {d d':D} {v v':V} {u u':Value} {A:Around},dep d<=n->dep d'<=n->A.units + n < cLine->Rep X.K H d v->Rep X.K H d' v'->RelV v u->RelV v' u'->EqAt A s u u' (eqD d d'):=by
  intro n
  induction n with
  | zero =>
    intro d d' v v' u u' A hd hd' hu r r' e e'
    exact eqD_flat (kd_of I hd (by lia) r e) (kd_of I hd' (by lia) r' e') (by lia) (by cases d <;> cases d' <;> first|rfl|(simp only [dep] at hd;lia))
  | succ m ih =>
    intro d d' v v' u u' A hd hd' hu r r' e e'
    have hu0:A.units < cLine:=by lia
    cases hs:sk d d' with
    | false=>exact eqD_flat (kd_of I hd (by lia) r e) (kd_of I hd' (by lia) r' e') hu0 hs
    | true =>
      cases d with
      | tup ds =>
        cases d' with
        | tup es =>
          obtain ⟨a,vs,rfl,q,rr⟩:=rep_tup.mp r
          cases e
          obtain ⟨its,av,t,_⟩:=I.tuple q
          obtain ⟨b,us,rfl,q',rr'⟩:=rep_tup.mp r'
          cases e'
          obtain ⟨its2,av2,t2,_⟩:=I.tuple q'
          have hn:deps ds<=m:=by simp only [dep] at hd;lia
          have hn':deps es<=m:=by simp only [dep] at hd';lia
          by_cases hab:a=b
          . subst hab
            rw [Rep.inj I (by lia) r r',eqD_refl]
            exact EqAt.same _
          have items:=items_of I ih hn hn' (show A.in1.units + m < cLine by show A.units + 1 + m < _;lia) rr rr' av av2
          have h:=RcAt.tuples (A:=A) t t2 hu0 items
          rw [List.size_toArray,List.size_toArray,<- av.length,<- av2.length,<- rr.length,<- rr'.length,eqDs_range] at h
          exact EqAt.of_refs hab h
        | _=>cases hs
      | lst ds =>
        cases d' with
        | lst es =>
          obtain ⟨a,vs,rfl,q,rr⟩:=rep_lst.mp r
          cases e
          obtain ⟨its,av,t1,_⟩:=I.list q
          have t:=t1.isList
          obtain ⟨b,us,rfl,q',rr'⟩:=rep_lst.mp r'
          cases e'
          obtain ⟨its2,av2,t3,_⟩:=I.list q'
          have t2:=t3.isList
          have hn:deps ds<=m:=by simp only [dep] at hd;lia
          have hn':deps es<=m:=by simp only [dep] at hd';lia
          by_cases hab:a=b
          . subst hab
            rw [Rep.inj I (by lia) r r',eqD_refl]
            exact EqAt.same _
          have items:=items_of I ih hn hn' (show A.in1.units + m < cLine by show A.units + 1 + m < _;lia) rr rr' av av2
          by_cases hl:its.toArray.size=its2.toArray.size
          . have h:=RcAt.lists (A:=A) t t2 hl hu0 items
            rw [List.size_toArray,<- av.length,<- rr.length] at h
            have hl':ds.length=es.length:=by rw [rr.length,rr'.length,av.length,av2.length];simpa using hl
            have e1:=eqDs_range ds es
            rw [hl',Nat.min_self] at e1
            simp only [beq_self_eq_true,Bool.and_true] at e1
            rw [hl',e1] at h
            exact EqAt.of_refs hab h
          . have h:=RcAt.lists_lengths (A:=A) t t2 (by simpa using hl) hu0
            have hl':ds.length≠es.length:=by rw [rr.length,rr'.length,av.length,av2.length];simpa using hl
            have e1:=eqDs_range ds es
            rw [show (ds.length == es.length)=false by simpa using hl',Bool.and_false] at e1
            rw [show eqD (.lst ds) (.lst es)=false by rw [eqD,<- e1]]
            exact EqAt.of_refs hab h
        | _=>cases hs
      | _=>cases d' <;> cases hs
end
end Vl
namespace Vl
open PySem PySem.Spec L2
section
variable {X:Cx} {pins:List (Addr×Obj)} {σ:St} {H:Hp} {s:Shared}
theorem items_at (I:Inv X pins σ H s) {m:Nat} {A:Around} {ds es:List D} {vs us:List V} {its its2:List Value} (hn:deps ds<=m) (hn':deps es<=m) (hu:A.in1.units + m < cLine) (r1:Reps X.K H ds vs) (r2:Reps X.K H es us) (a1:Vals vs its) (a2:Vals us its2) :
    ∀ j (h1:j < its.toArray.size) (h2:j < its2.toArray.size),SeqAt.EqAt A.in1 s its.toArray[j] its2.toArray[j] (eqD (ds.getD j .non) (es.getD j .non)) :=
  items_of I (fun a b c d e f g=>eqD_at I m a b c d e f g) hn hn' hu r1 r2 a1 a2
open SeqAt in
theorem rc_flat {d d':D} {u u':Value} {A:Around} (k:Kd X H s d u) (k':Kd X H s d' u') (hu:A.units < cLine) (hs:sk d d'=false):RcAt A s u u' (eqD d d'):=by
  cases k with
  | n =>
    cases k' with
    | n=>exact RcAt.none_none
    | b y=>exact RcAt.none_bool y
    | i y r=>exact RcAt.none_int y r
    | s y r=>exact RcAt.none_str y r
    | t es g=>exact RcAt.none_tuple g hu
    | l es g=>exact RcAt.none_list g hu
  | b x =>
    cases k' with
    | n=>exact RcAt.bool_none x
    | b y=>exact RcAt.bool_bool x y
    | i y r=>exact RcAt.bool_int x y r
    | s y r=>exact RcAt.bool_str x y r
    | t es g=>exact RcAt.bool_tuple x g hu
    | l es g=>exact RcAt.bool_list x g hu
  | i x t =>
    cases k' with
    | n=>exact RcAt.int_none x t
    | b y=>exact RcAt.int_bool x t y
    | i y r=>exact RcAt.int_int x t y r
    | s y r=>exact RcAt.int_str x t y r
    | t es g=>exact RcAt.int_tuple x t g hu
    | l es g=>exact RcAt.int_list x t g hu
  | s x t =>
    cases k' with
    | n=>exact RcAt.str_none x t
    | b y=>exact RcAt.str_bool x t y
    | i y r=>exact RcAt.str_int x t y r
    | s y r=>exact RcAt.str_str x t y r
    | t es g=>exact RcAt.str_tuple x t g hu
    | l es g=>exact RcAt.str_list x t g hu
  | t ds h =>
    cases k' with
    | n=>exact RcAt.tuple_none h hu
    | b y=>exact RcAt.tuple_bool y h hu
    | i y r=>exact RcAt.tuple_int y r h hu
    | s y r=>exact RcAt.tuple_str y r h hu
    | t es g=>cases hs
    | l es g=>exact RcAt.tuple_list h g hu
  | l ds h =>
    cases k' with
    | n=>exact RcAt.list_none h hu
    | b y=>exact RcAt.list_bool y h hu
    | i y r=>exact RcAt.list_int y r h hu
    | s y r=>exact RcAt.list_str y r h hu
    | t es g=>exact RcAt.list_tuple h g hu
    | l es g=>cases hs
open SeqAt in
theorem rcD_at (I:Inv X pins σ H s) {n:Nat} {d d':D} {v v':V} {u u':Value} {A:Around} (hd:dep d<=n) (hd':dep d'<=n) (hu:A.units + n < cLine) (r:Rep X.K H d v) (r':Rep X.K H d' v') (e:RelV v u) (e':RelV v' u'):RcAt A s u u' (eqD d d'):=by
  have hu0:A.units < cLine:=by lia
  cases hs:sk d d' with
  | false=>exact rc_flat (kd_of I hd (by lia) r e) (kd_of I hd' (by lia) r' e') hu0 hs
  | true =>
    obtain ⟨m,rfl⟩:∃ m,n=m + 1:=⟨n - 1,by cases d <;> first|(simp only [dep] at hd;lia)|(cases d' <;> cases hs)⟩
    cases d with
    | tup ds =>
      cases d' with
      | tup es =>
        obtain ⟨a,vs,rfl,q,rr⟩:=rep_tup.mp r
        cases e
        obtain ⟨its,av,t,_⟩:=I.tuple q
        obtain ⟨b,us,rfl,q',rr'⟩:=rep_tup.mp r'
        cases e'
        obtain ⟨its2,av2,t2,_⟩:=I.tuple q'
        have hn:deps ds<=m:=by simp only [dep] at hd;lia
        have hn':deps es<=m:=by simp only [dep] at hd';lia
        have items:=items_at I hn hn' (show A.in1.units + m < cLine by show A.units + 1 + m < _;lia) rr rr' av av2
        have h:=RcAt.tuples (A:=A) t t2 hu0 items
        rw [List.size_toArray,List.size_toArray,<- av.length,<- av2.length,<- rr.length,<- rr'.length,eqDs_range] at h
        exact h
      | _=>cases hs
    | lst ds =>
      cases d' with
      | lst es =>
        obtain ⟨a,vs,rfl,q,rr⟩:=rep_lst.mp r
        cases e
        obtain ⟨its,av,t1,_⟩:=I.list q
        have t:=t1.isList
        obtain ⟨b,us,rfl,q',rr'⟩:=rep_lst.mp r'
        cases e'
        obtain ⟨its2,av2,t3,_⟩:=I.list q'
        have t2:=t3.isList
        have hn:deps ds<=m:=by simp only [dep] at hd;lia
        have hn':deps es<=m:=by simp only [dep] at hd';lia
        have items:=items_at I hn hn' (show A.in1.units + m < cLine by show A.units + 1 + m < _;lia) rr rr' av av2
        by_cases hl:its.toArray.size=its2.toArray.size
        . have h:=RcAt.lists (A:=A) t t2 hl hu0 items
          rw [List.size_toArray,<- av.length,<- rr.length] at h
          have hl':ds.length=es.length:=by rw [rr.length,rr'.length,av.length,av2.length];simpa using hl
          have e1:=eqDs_range ds es
          rw [hl',Nat.min_self] at e1
          simp only [beq_self_eq_true,Bool.and_true] at e1
          rw [hl',e1] at h
          exact h
        . have h:=RcAt.lists_lengths (A:=A) t t2 (by simpa using hl) hu0
          have hl':ds.length≠es.length:=by rw [rr.length,rr'.length,av.length,av2.length];simpa using hl
          have e1:=eqDs_range ds es
          rw [show (ds.length == es.length)=false by simpa using hl',Bool.and_false] at e1
          rw [show eqD (.lst ds) (.lst es)=false by rw [eqD,<- e1]]
          exact h
      | _=>cases hs
    | _=>cases d' <;> cases hs
open SeqAt in
theorem rcne_flat {d d':D} {u u':Value} {A:Around} (k:Kd X H s d u) (k':Kd X H s d' u') (hu:A.units < cLine) (hs:sk d d'=false):RcNeAt A s u u' (!eqD d d'):=by
  cases k with
  | n =>
    cases k' with
    | n=>exact RcNeAt.none_none
    | b y=>exact RcNeAt.none_bool y
    | i y r=>exact RcNeAt.none_int y r
    | s y r=>exact RcNeAt.none_str y r
    | t es g=>exact RcNeAt.none_tuple g hu
    | l es g=>exact RcNeAt.none_list g hu
  | b x =>
    cases k' with
    | n=>exact RcNeAt.bool_none x
    | b y=>exact RcNeAt.bool_bool x y
    | i y r=>exact RcNeAt.bool_int x y r
    | s y r=>exact RcNeAt.bool_str x y r
    | t es g=>exact RcNeAt.bool_tuple x g hu
    | l es g=>exact RcNeAt.bool_list x g hu
  | i x t =>
    cases k' with
    | n=>exact RcNeAt.int_none x t
    | b y=>exact RcNeAt.int_bool x t y
    | i y r=>exact RcNeAt.int_int x t y r
    | s y r=>exact RcNeAt.int_str x t y r
    | t es g=>exact RcNeAt.int_tuple x t g hu
    | l es g=>exact RcNeAt.int_list x t g hu
  | s x t =>
    cases k' with
    | n=>exact RcNeAt.str_none x t
    | b y=>exact RcNeAt.str_bool x t y
    | i y r=>exact RcNeAt.str_int x t y r
    | s y r=>exact RcNeAt.str_str x t y r
    | t es g=>exact RcNeAt.str_tuple x t g hu
    | l es g=>exact RcNeAt.str_list x t g hu
  | t ds h =>
    cases k' with
    | n=>exact RcNeAt.tuple_none h hu
    | b y=>exact RcNeAt.tuple_bool y h hu
    | i y r=>exact RcNeAt.tuple_int y r h hu
    | s y r=>exact RcNeAt.tuple_str y r h hu
    | t es g=>cases hs
    | l es g=>exact RcNeAt.tuple_list h g hu
  | l ds h =>
    cases k' with
    | n=>exact RcNeAt.list_none h hu
    | b y=>exact RcNeAt.list_bool y h hu
    | i y r=>exact RcNeAt.list_int y r h hu
    | s y r=>exact RcNeAt.list_str y r h hu
    | t es g=>exact RcNeAt.list_tuple h g hu
    | l es g=>cases hs
open SeqAt in
theorem rcneD_at (I:Inv X pins σ H s) {n:Nat} {d d':D} {v v':V} {u u':Value} {A:Around} (hd:dep d<=n) (hd':dep d'<=n) (hu:A.units + n < cLine) (r:Rep X.K H d v) (r':Rep X.K H d' v') (e:RelV v u) (e':RelV v' u'):RcNeAt A s u u' (!eqD d d'):=by
  have hu0:A.units < cLine:=by lia
  cases hs:sk d d' with
  | false=>exact rcne_flat (kd_of I hd (by lia) r e) (kd_of I hd' (by lia) r' e') hu0 hs
  | true =>
    obtain ⟨m,rfl⟩:∃ m,n=m + 1:=⟨n - 1,by cases d <;> first|(simp only [dep] at hd;lia)|(cases d' <;> cases hs)⟩
    cases d with
    | tup ds =>
      cases d' with
      | tup es =>
        obtain ⟨a,vs,rfl,q,rr⟩:=rep_tup.mp r
        cases e
        obtain ⟨its,av,t,_⟩:=I.tuple q
        obtain ⟨b,us,rfl,q',rr'⟩:=rep_tup.mp r'
        cases e'
        obtain ⟨its2,av2,t2,_⟩:=I.tuple q'
        have hn:deps ds<=m:=by simp only [dep] at hd;lia
        have hn':deps es<=m:=by simp only [dep] at hd';lia
        have items:=items_at I hn hn' (show A.in1.units + m < cLine by show A.units + 1 + m < _;lia) rr rr' av av2
        have h:=RcNeAt.tuples (A:=A) t t2 hu0 items
        rw [List.size_toArray,List.size_toArray,<- av.length,<- av2.length,<- rr.length,<- rr'.length,eqDs_range] at h
        exact h
      | _=>cases hs
    | lst ds =>
      cases d' with
      | lst es =>
        obtain ⟨a,vs,rfl,q,rr⟩:=rep_lst.mp r
        cases e
        obtain ⟨its,av,t1,_⟩:=I.list q
        have t:=t1.isList
        obtain ⟨b,us,rfl,q',rr'⟩:=rep_lst.mp r'
        cases e'
        obtain ⟨its2,av2,t3,_⟩:=I.list q'
        have t2:=t3.isList
        have hn:deps ds<=m:=by simp only [dep] at hd;lia
        have hn':deps es<=m:=by simp only [dep] at hd';lia
        have items:=items_at I hn hn' (show A.in1.units + m < cLine by show A.units + 1 + m < _;lia) rr rr' av av2
        by_cases hl:its.toArray.size=its2.toArray.size
        . have h:=RcNeAt.lists (A:=A) t t2 hl hu0 items
          rw [List.size_toArray,<- av.length,<- rr.length] at h
          have hl':ds.length=es.length:=by rw [rr.length,rr'.length,av.length,av2.length];simpa using hl
          have e1:=eqDs_range ds es
          rw [hl',Nat.min_self] at e1
          simp only [beq_self_eq_true,Bool.and_true] at e1
          rw [hl',e1] at h
          exact h
        . have h:=RcNeAt.lists_lengths (A:=A) t t2 (by simpa using hl) hu0
          have hl':ds.length≠es.length:=by rw [rr.length,rr'.length,av.length,av2.length];simpa using hl
          have e1:=eqDs_range ds es
          rw [show (ds.length == es.length)=false by simpa using hl',Bool.and_false] at e1
          rw [show eqD (.lst ds) (.lst es)=false by rw [eqD,<- e1]]
          exact h
      | _=>cases hs
    | _=>cases d' <;> cases hs
end
end Vl
namespace Vl
open PySem PySem.Spec L2
noncomputable def PostT (W:Wi) (σ:St) (G H:Hp) (r:Rs Bool) (Q:Bool->Hp->Prop):Prop :=
  match r with
  | .ok b=>∀ H' G',Ext G H G' H'->Q b H'
  | .ex c n=>∀ H' G',Ext G H G' H'->W c n σ H'
  | .no=>False
noncomputable def tT (K:PySem.W.Frag) (B:Bs) (W:Wi) (f:Rho->Rs Bool):TT:=fun σ H Q=>∃ ρ G,SR K B σ H ρ G/\PostT W σ G H (f ρ) Q
noncomputable def ST (X:Cx) (B:Bs) (W:Wi) (e:Expr) (f:Rho->Rs Bool):Prop:=PT X e (tT X.K B W f)
noncomputable def SW (X:Cx) (B:Bs) (W:Wi) (e:Expr) (f:Rho->Rs Bool):Prop:=PW X e (tT X.K B W f)
noncomputable def PostA (K:PySem.W.Frag) (W:Wi) (σ:St) (G H:Hp) (r:Rs (List D)) (Q:List V->Hp->Prop):Prop :=
  match r with
  | .ok ds=>∀ vs H' G',Ext G H G' H'->Reps K G' ds vs->Q vs H'
  | .ex c n=>∀ H' G',Ext G H G' H'->W c n σ H'
  | .no=>False
noncomputable def tAF (K:PySem.W.Frag) (B:Bs) (W:Wi) (f:Rho->Rs (List D)):TA:=fun σ H Q=>∃ ρ G,SR K B σ H ρ G/\PostA K W σ G H (f ρ) Q
noncomputable def SA (X:Cx) (B:Bs) (W:Wi) (es:List Expr) (f:Rho->Rs (List D)):Prop:=PA X es (tAF X.K B W f)
theorem PW.imp {X:Cx} {e:Expr} {t t':TT} (h:PW X e t) (i:∀ σ H Q,t' σ H Q->t σ H Q):PW X e t':=fun wh pins s σ H Q I q=>h wh pins s σ H Q I (i σ H Q q)
noncomputable def toB:D->Rs Bool
  | .bl b=>.ok b
  | _=>.no
noncomputable def fT (f:Rho->Rs D):Rho->Rs Bool:=fun ρ=>(f ρ).bind toB
noncomputable def fAnd (a b:Rho->Rs Bool):Rho->Rs Bool:=fun ρ=>(a ρ).bind fun x=>if x=true then b ρ else .ok false
noncomputable def fOr (a b:Rho->Rs Bool):Rho->Rs Bool:=fun ρ=>(a ρ).bind fun x=>if x=true then .ok true else b ρ
noncomputable def fNot (a:Rho->Rs Bool):Rho->Rs Bool:=fun ρ=>(a ρ).bind fun x=>.ok (!x)
noncomputable def fCons (a:Rho->Rs D) (r:Rho->Rs (List D)):Rho->Rs (List D):=fun ρ=>(a ρ).bind fun x=>(r ρ).bind fun xs=>.ok (x::xs)
noncomputable def fNil:Rho->Rs (List D):=fun _=>.ok []
noncomputable def fA (a:Rho->Rs (List D)) (g:List D->Rs D):Rho->Rs D:=fun ρ=>(a ρ).bind g
section
variable {X:Cx} {K:PySem.W.Frag} {B:Bs} {W:Wi} {σ:St} {G H:Hp} {ρ:Rho}
theorem PostT.ext {r:Rs Bool} {Q:Bool->Hp->Prop} {G' H':Hp} (e:Ext G H G' H') (h:PostT W σ G H r Q):PostT W σ G' H' r Q:=by
  cases r with
  | ok d=>exact fun H'' G'' e'=>h H'' G'' (e.trans e')
  | ex c n=>exact fun H'' G'' e'=>h H'' G'' (e.trans e')
  | no=>exact h
theorem tB_of {f:Rho->Rs D} {Q:Bool->Hp->Prop} (h:tT K B W (fT f) σ H Q):tF K B W f σ H fun x H1=>∃ c,x=.bl c/\Q c H1:=by
  obtain ⟨ρ,G,s,p⟩:=h
  refine ⟨ρ,G,s,?_⟩
  unfold fT at p
  cases e:f ρ with
  | ok d =>
    rw [e] at p
    cases d with
    | bl b=>exact fun v H' G' e r=>⟨b,rep_bl.mp r,p H' G' e⟩
    | _=>exact p.elim
  | ex c n=>rw [e] at p;exact p
  | no=>rw [e] at p;exact p
theorem st_val {e:Expr} {f:Rho->Rs D} (h:SE X B W e f) (he:∀ whole,isTrue e X.env whole=(do let v <- whole;standAt e.pos;holding [v] (truthy v)):=by intro _;rfl):ST X B W e (fT f) :=
  PT.imp (pt_val h he) fun _ _ _ h=>tB_of h
theorem st_cmp {a b:Expr} {op:CmpOp} {pos:Pos} {r:R2} {g:D->D->Rs D} {fa fb:Rho->Rs D} (ho:OpR X (compareOp op) r) (hg:OpD X.K r g) (ha:SE X B W a fa) (hb:SE X B W b fb) (hm:behindInMarks op b=false) :
    ST X B W (.Compare a [op] [b] pos) (fT (fOp g fa fb)):=by
  refine PT.imp (pt_cmpR ho ha hb hm) fun σ H Q h=>?_
  exact tOp_of hg (tB_of h)
theorem se_cmp {a b:Expr} {op:CmpOp} {pos:Pos} {r:R2} {g:D->D->Rs D} {fa fb:Rho->Rs D} (ho:OpR X (compareOp op) r) (hg:OpD X.K r g) (ha:SE X B W a fa) (hb:SE X B W b fb) (hm:behindInMarks op b=false) :
    SE X B W (.Compare a [op] [b] pos) (fOp g fa fb):=PE.imp (pe_cmpR ho ha hb hm) fun _ _ _ h=>tOp_of hg h
theorem sw_and1 {a:Expr} {pos:Pos} {fa:Rho->Rs Bool} (ha:ST X B W a fa):SW X B W (.BoolOp .And [a] pos) fa:=pw_and1 ha
theorem sw_or1 {a:Expr} {pos:Pos} {fa:Rho->Rs Bool} (ha:ST X B W a fa):SW X B W (.BoolOp .Or [a] pos) fa:=pw_or1 ha
theorem sw_and {a b:Expr} {rest:List Expr} {pos:Pos} {fa fb:Rho->Rs Bool} (ha:ST X B W a fa) (hb:SW X B W (.BoolOp .And (b::rest) pos) fb):SW X B W (.BoolOp .And (a::b::rest) pos) (fAnd fa fb):=by
  refine PW.imp (pw_and ha hb) fun σ H Q ⟨ρ,G,s,p⟩=>⟨ρ,G,s,?_⟩
  unfold fAnd at p
  cases e:fa ρ with
  | ok x =>
    rw [e] at p
    intro H' G' ee
    cases x with
    | true=>rw [if_pos rfl];exact ⟨ρ,G',s.ext ee,PostT.ext ee (show PostT W σ G H (fb ρ) Q from p)⟩
    | false=>rw [if_neg (by simp)];exact (show PostT W σ G H (.ok false) Q from p) H' G' ee
  | ex c n=>rw [e] at p;exact p
  | no=>rw [e] at p;exact p
theorem sw_or {a b:Expr} {rest:List Expr} {pos:Pos} {fa fb:Rho->Rs Bool} (ha:ST X B W a fa) (hb:SW X B W (.BoolOp .Or (b::rest) pos) fb):SW X B W (.BoolOp .Or (a::b::rest) pos) (fOr fa fb):=by
  refine PW.imp (pw_or ha hb) fun σ H Q ⟨ρ,G,s,p⟩=>⟨ρ,G,s,?_⟩
  unfold fOr at p
  cases e:fa ρ with
  | ok x =>
    rw [e] at p
    intro H' G' ee
    cases x with
    | true=>rw [if_pos rfl];exact (show PostT W σ G H (.ok true) Q from p) H' G' ee
    | false=>rw [if_neg (by simp)];exact ⟨ρ,G',s.ext ee,PostT.ext ee (show PostT W σ G H (fb ρ) Q from p)⟩
  | ex c n=>rw [e] at p;exact p
  | no=>rw [e] at p;exact p
theorem st_w {e:Expr} {f:Rho->Rs Bool} (h:SW X B W e f):ST X B W e f:=PW.pt h
theorem st_not {a:Expr} {pos:Pos} {fa:Rho->Rs Bool} (ha:ST X B W a fa):ST X B W (.UnaryOp .Not a pos) (fNot fa):=by
  refine PT.imp (pt_not ha) fun σ H Q ⟨ρ,G,s,p⟩=>⟨ρ,G,s,?_⟩
  unfold fNot at p
  cases e:fa ρ with
  | ok x=>rw [e] at p;exact p
  | ex c n=>rw [e] at p;exact p
  | no=>rw [e] at p;exact p
noncomputable def fAndV (a b:Rho->Rs D):Rho->Rs D:=fun ρ=>(a ρ).bind fun x=>(toB x).bind fun c=>if c=true then b ρ else .ok (.bl false)
noncomputable def fOrV (a b:Rho->Rs D):Rho->Rs D:=fun ρ=>(a ρ).bind fun x=>(toB x).bind fun c=>if c=true then .ok (.bl true) else b ρ
noncomputable def fNotV (a:Rho->Rs D):Rho->Rs D:=fun ρ=>(a ρ).bind fun x=>(toB x).bind fun c=>.ok (.bl !c)
theorem se_one {op} {a:Expr} {pos:Pos} {fa:Rho->Rs D} (ha:SE X B W a fa):SE X B W (.BoolOp op [a] pos) fa:=pe_one ha
theorem se_and {a b:Expr} {rest:List Expr} {pos:Pos} {fa fb:Rho->Rs D} (ha:SE X B W a fa) (hb:SE X B W (.BoolOp .And (b::rest) pos) fb):SE X B W (.BoolOp .And (a::b::rest) pos) (fAndV fa fb):=by
  refine PE.imp (pe_and ha hb) fun σ H Q h=>?_
  obtain ⟨ρ,G,s,p⟩:=tF_bind (k:=fun ρ x=>(toB x).bind fun c=>if c=true then fb ρ else .ok (.bl false)) h
  refine ⟨ρ,G,s,p.mono fun v H1 ⟨ρ1,G1,d,s1,r,q⟩=>?_⟩
  cases d with
  | bl c =>
    refine ⟨c,rep_bl.mp r,?_⟩
    cases c with
    | true=>rw [if_pos rfl];exact ⟨ρ1,G1,s1,q⟩
    | false=>rw [if_neg (by simp)];exact Post.ok s1 q (rep_bl.mpr rfl)
  | _=>exact q.elim
theorem sa_nil:SA X B W [] fNil:=PA.imp pa_nil fun σ H Q ⟨ρ,G,s,p⟩=>p [] H G s.ext0 (reps_nil.mpr rfl)
theorem sa_cons {e:Expr} {es:List Expr} {fe:Rho->Rs D} {fs:Rho->Rs (List D)} (ha:SE X B W e fe) (hr:SA X B W es fs) (hs:starEach (e::es) X.env=(false,eval e X.env)::starEach es X.env:=by rfl):SA X B W (e::es) (fCons fe fs):=by
  refine PA.imp (pa_cons ha hr hs) fun σ H Q ⟨ρ,G,s,p⟩=>⟨ρ,G,s,?_⟩
  unfold fCons at p
  cases e1:fe ρ with
  | ok d =>
    rw [e1] at p
    intro v H1 G1 x1 r1
    refine ⟨ρ,G1,s.ext x1,?_⟩
    have p':PostA X.K W σ G H ((fs ρ).bind fun xs=>.ok (d::xs)) Q:=p
    cases e2:fs ρ with
    | ok ds =>
      rw [e2] at p'
      intro vs H2 G2 x2 r2
      exact p' (v::vs) H2 G2 (x1.trans x2) (reps_cons.mpr ⟨v,vs,rfl,r1.mono x2.gg,r2⟩)
    | ex c n=>rw [e2] at p';exact fun H2 G2 x2=>p' H2 G2 (x1.trans x2)
    | no=>rw [e2] at p';exact p'
  | ex c n=>rw [e1] at p;exact p
  | no=>rw [e1] at p;exact p
noncomputable def CallD (K:PySem.W.Frag) (r:List V->Hp->VK->Prop) (g:List D->Rs D):Prop :=
  ∀ (B:Bs) (W:Wi) (σ:St) (ρ:Rho) (G H:Hp) (ds:List D) (vs:List V) (Q:VK),SR K B σ H ρ G->Reps K G ds vs->Post K W σ G H (g ds) Q->r vs H Q
theorem tA_of {t:Rho->Rs (List D)} {g:List D->Rs D} {r:List V->Hp->VK->Prop} {Q:VK} (hg:CallD K r g) (h:tF K B W (fA t g) σ H Q):tAF K B W t σ H fun vs H1=>r vs H1 Q:=by
  obtain ⟨ρ,G,s,p⟩:=h
  refine ⟨ρ,G,s,?_⟩
  unfold fA at p
  cases e:t ρ with
  | ok ds=>rw [e] at p;exact fun vs H1 G1 x r=>hg B W σ ρ G1 H1 ds vs Q (s.ext x) r (Post.ext x p)
  | ex c n=>rw [e] at p;exact p
  | no=>rw [e] at p;exact p
noncomputable def gTup:List D->Rs D:=fun ds=>if ds.length<=1000 then .ok (.tup ds) else .no
noncomputable def gLst:List D->Rs D:=fun ds=>if ds.length<=1000 then .ok (.lst ds) else .no
theorem sz1000 {n:Nat} (h:n<=1000):n<=sizeLine:=Nat.le_of_lt (small1000 h)
theorem se_tup {es:List Expr} {x1} {pos:Pos} {f:Rho->Rs (List D)} (h:SA X B W es f):SE X B W (.Tuple es x1 pos) (fA f gTup):=by
  refine PE.imp (pe_tup h) fun σ H Q q=>tA_of (r:=fun xs H1 Q=>xs.length<=sizeLine/\∀ p,H1 p=none->Q (.ref p) (upd H1 p (.tup xs))) ?_ q
  intro B W σ ρ G H ds vs Q s r p
  unfold gTup at p
  by_cases hl:ds.length<=1000
  . rw [if_pos hl] at p
    refine ⟨by rw [<- r.length];exact sz1000 hl,fun a ha=>?_⟩
    have x:=ext_tup (xs:=vs) s.en.gh s.en.tp ha
    exact p _ _ _ x (rep_tup.mpr ⟨a,vs,rfl,.of upd_same,r.mono x.gg⟩)
  . rw [if_neg hl] at p;exact p.elim
theorem se_lst {es:List Expr} {pos:Pos} {f:Rho->Rs (List D)} (h:SA X B W es f):SE X B W (.List es pos) (fA f gLst):=by
  refine PE.imp (pe_lst h) fun σ H Q q=>tA_of (r:=fun xs H1 Q=>xs.length<=sizeLine/\∀ p,H1 p=none->Q (.ref p) (upd H1 p (.lst xs))) ?_ q
  intro B W σ ρ G H ds vs Q s r p
  unfold gLst at p
  by_cases hl:ds.length<=1000
  . rw [if_pos hl] at p
    refine ⟨by rw [<- r.length];exact sz1000 hl,fun a ha=>?_⟩
    have x:=ext_lst (xs:=vs) s.en.gh s.en.tp ha
    exact p _ _ _ x (rep_lst.mpr ⟨a,vs,rfl,.of upd_same,r.mono x.gg⟩)
  . rw [if_neg hl] at p;exact p.elim
noncomputable def gIx:D->D->Rs D
  | .tup ds,.int i=>match atI ds i with|some d=>.ok d|none=>.no
  | .lst ds,.int i=>match atI ds i with|some d=>.ok d|none=>.no
  | _,_=>.no
theorem atI_reps {ds:List D} {vs:List V} {i:Int} {d:D} (r:Reps K G ds vs) (h:atI ds i=some d):∃ v,atI vs i=some v/\Rep K G d v:=by
  unfold atI at h ⊢
  rw [<- r.length]
  cases e:ixN ds.length i with
  | none=>rw [e] at h;cases h
  | some j=>rw [e] at h;exact r.get (i:=j) h
theorem opd_ix:OpD K (rIx K) gIx:=by
  intro B W σ ρ G H x y v u Q s rx ry p
  cases y <;> first|(cases x <;> exact p.elim)|skip
  rename_i i
  cases x with
  | tup ds =>
    simp only [gIx] at p
    obtain ⟨a,vs,rfl,q,rr⟩:=rep_tup.mp rx
    cases e:atI ds i with
    | none=>rw [e] at p;exact p.elim
    | some d =>
      rw [e] at p
      obtain ⟨w,e2,rw'⟩:=atI_reps rr e
      exact .inr (.inl ⟨a,vs,i,w,rfl,rep_int.mp ry,Same.seqT s.en.gh q,e2,Post.ok s p rw'⟩)
  | lst ds =>
    simp only [gIx] at p
    obtain ⟨a,vs,rfl,q,rr⟩:=rep_lst.mp rx
    cases e:atI ds i with
    | none=>rw [e] at p;exact p.elim
    | some d =>
      rw [e] at p
      obtain ⟨w,e2,rw'⟩:=atI_reps rr e
      exact .inl ⟨a,vs,i,w,rfl,rep_int.mp ry,s.en.gh.seq q,e2,Post.ok s p rw'⟩
  | _=>exact p.elim
theorem se_ix {a b:Expr} {pos:Pos} {fa fb:Rho->Rs D} (ha:SE X B W a fa) (hb:SE X B W b fb) (hs:PlainIx b:=by intro _ _;rfl):SE X B W (.Subscript a b pos) (fOp gIx fa fb) :=
  PE.imp (pe_ix ix_seq ha hb hs) fun _ _ _ h=>tOp_of opd_ix h
instance (i j:Int):Decidable (CMul i j):=by unfold CMul;exact inferInstance
instance (i j:Int):Decidable (CPow i j):=by unfold CPow;exact inferInstance
noncomputable def CDB (i j:Int):Prop:=0 < j/\j < 2 ^ 200
instance (i j:Int):Decidable (CDB i j):=by unfold CDB;exact inferInstance
theorem CDB.py {i j:Int} (h:CDB i j):Builtin.divisionGoesByPylong i j=false:=by
  refine PyProof.noPylong_of_log2 ?_
  have h1:j.natAbs < 2 ^ 200:=by
    have:=h.1;have:=h.2
    lia
  have h2:j.natAbs.log2 < 200:=(Nat.log2_lt (by have:=h.1;lia)).mpr h1
  lia
theorem op_fdivB:OpR X (binaryOp .FloorDiv) (rI CDB fun i j=>.int (i / j)):=opI fun i j _ _ _ _ _ hc q=>by
  have h1:=hc.1
  rw [<- Int.fdiv_eq_ediv_of_nonneg i (by lia)] at q
  exact PyProof.Rows.floordiv_int (by lia) q (.inl hc.py)
noncomputable def gSub:=gI0 fun i j=>D.int (i - j)
noncomputable def gMul:=gI CMul fun i j=>D.int (i * j)
noncomputable def gDiv:=gI CDB fun i j=>D.int (i / j)
instance (i j:Int):Decidable ((fun (_:Int) (j:Int)=>0 < j) i j):=inferInstanceAs (Decidable (0 < j))
noncomputable def gMod:=gI (fun _ j=>0 < j) fun i j=>D.int (i % j)
noncomputable def gPow:=gI CPow fun i j=>D.int (i ^ j.toNat)
variable {a b:Expr} {pos:Pos} {fa fb:Rho->Rs D}
theorem se_sub (ha:SE X B W a fa) (hb:SE X B W b fb):SE X B W (.BinOp a .Sub b pos) (fOp gSub fa fb):=se_op op_sub (opd_I0 fun _ _ _=>rep_int.mpr rfl) ha hb
theorem se_mul (ha:SE X B W a fa) (hb:SE X B W b fb):SE X B W (.BinOp a .Mult b pos) (fOp gMul fa fb):=se_op op_mul (opd_I fun _ _ _=>rep_int.mpr rfl) ha hb
theorem se_div (ha:SE X B W a fa) (hb:SE X B W b fb):SE X B W (.BinOp a .FloorDiv b pos) (fOp gDiv fa fb):=se_op op_fdivB (opd_I fun _ _ _=>rep_int.mpr rfl) ha hb
theorem se_mod (ha:SE X B W a fa) (hb:SE X B W b fb):SE X B W (.BinOp a .Mod b pos) (fOp gMod fa fb):=se_op op_mod (opd_I fun _ _ _=>rep_int.mpr rfl) ha hb
theorem se_pow (ha:SE X B W a fa) (hb:SE X B W b fb):SE X B W (.BinOp a .Pow b pos) (fOp gPow fa fb):=se_op op_pow (opd_I fun _ _ _=>rep_int.mpr rfl) ha hb
noncomputable def gNeg:D->Rs D
  | .int i=>.ok (.int (-i))
  | _=>.no
theorem se_neg (ha:SE X B W a fa):SE X B W (.UnaryOp .USub a pos) (fun ρ=>(fa ρ).bind gNeg):=by
  refine PE.imp (pe_un un_neg ha) fun σ H Q h=>?_
  obtain ⟨ρ,G,s,p⟩:=tF_bind (k:=fun _=>gNeg) h
  refine ⟨ρ,G,s,p.mono fun v H1 ⟨ρ1,G1,d,s1,r,q⟩=>?_⟩
  cases d with
  | int i=>exact ⟨i,rep_int.mp r,Post.ok s1 q (rep_int.mpr rfl)⟩
  | _=>exact q.elim
noncomputable def gPlus:D->D->Rs D
  | .int i,.int j=>.ok (.int (i + j))
  | .lst a,.lst b=>if a.length + b.length<=1000000 then .ok (.lst (a++b)) else .no
  | _,_=>.no
theorem sz6 {n:Nat} (h:n<=1000000):n<=sizeLine:=Nat.le_trans h (by rw [sizeLine_eq];decide)
end
end Vl
namespace Vl
open PySem PySem.Spec L2
section
variable {X:Cx} {K:PySem.W.Frag} {B:Bs} {W:Wi} {σ:St} {G H:Hp} {ρ:Rho} {a b:Expr} {pos:Pos} {fa fb:Rho->Rs D}
noncomputable def rCatS (K:PySem.W.Frag):R2:=fun x y H Q=>∃ l b xs zs,x=.ref l/\y=.ref b/\SqL K H l xs/\SqL K H b zs/\xs.length + zs.length<=sizeLine/\∀ p,H p=none->Q (.ref p) (upd H p (.lst (xs++zs)))
open PyProof.Rows in
theorem op_catS:OpR X (binaryOp .Add) (rCatS X.K):=by
  intro pins s σ H x y v u Q I rx ry h
  obtain ⟨l,b,xs,zs,rfl,rfl,hH,hB,hz,q⟩:=h
  cases rx
  cases ry
  obtain ⟨vs,r,pl,_⟩:=I.list hH
  obtain ⟨ws,r2,pl2,_⟩:=I.list hB
  obtain ⟨⟨cls,dd,data,sl⟩,ho,hc,n,hd⟩:=pl.isList
  obtain ⟨⟨cls2,dd2,data2,sl2⟩,ho2,hc2,n2,hd2⟩:=pl2.isList
  simp only at hc hd hc2 hd2
  subst hc hd hc2 hd2
  have e:vs.toArray++ws.toArray=(vs++ws).toArray:=by simp
  have l1:=r.length
  have l2:=r2.length
  refine concat_meets ⟨_,ho,rfl⟩ ⟨_,ho2,rfl⟩ noFill_list_add seq_list_add PySem.F.slot_list_add PySem.F.entry_list_add (PySem.F.args_list_add_2 _ _) (list_addW l b vs.toArray ws.toArray n n2 dd dd2 sl sl2 (by simp only [List.size_toArray];lia)) ⟨ho,ho2,?_⟩
  rw [e]
  exact ⟨.ref _,_,I.lnew (t':=s.toks) (r.append r2) (by rw [List.length_append];lia),rfl,q _ I.fresh⟩
theorem op_plus:OpR X (binaryOp .Add) (fun x y H Q=>rI0 (fun i j=>V.int (i + j)) x y H Q∨rCatS X.K x y H Q):=op_add.or op_catS
theorem opd_plus:OpD K (fun x y H Q=>rI0 (fun i j=>V.int (i + j)) x y H Q∨rCatS K x y H Q) gPlus:=by
  intro B W σ ρ G H x y v u Q s rx ry p
  cases x with
  | int i =>
    cases y with
    | int j=>exact .inl ⟨i,j,rep_int.mp rx,rep_int.mp ry,Post.ok s p (rep_int.mpr rfl)⟩
    | _=>exact p.elim
  | lst ds =>
    cases y with
    | lst es =>
      simp only [gPlus] at p
      by_cases hl:ds.length + es.length<=1000000
      . rw [if_pos hl] at p
        obtain ⟨a,vs,rfl,q,r⟩:=rep_lst.mp rx
        obtain ⟨b,us,rfl,q',r'⟩:=rep_lst.mp ry
        refine .inr ⟨a,b,vs,us,rfl,rfl,s.en.gh.seq q,s.en.gh.seq q',by rw [<- r.length,<- r'.length];exact sz6 hl,fun c hc=>?_⟩
        have x:=ext_lst (xs:=vs++us) s.en.gh s.en.tp hc
        exact p _ _ _ x (rep_lst.mpr ⟨c,vs++us,rfl,.of upd_same,(r.append r').mono x.gg⟩)
      . rw [if_neg hl] at p;exact p.elim
    | _=>exact p.elim
  | _=>cases y <;> exact p.elim
theorem se_add (ha:SE X B W a fa) (hb:SE X B W b fb):SE X B W (.BinOp a .Add b pos) (fOp gPlus fa fb):=se_op op_plus opd_plus ha hb
noncomputable def toI:D->Rs Int
  | .int i=>.ok i
  | _=>.no
noncomputable def cutD (xs:List D) (lo hi:Option Int):List D:=(xs.drop (HT.sIx xs.length 0 lo)).take (HT.sIx xs.length xs.length hi - HT.sIx xs.length 0 lo)
noncomputable def gSl (lo hi:Option Int):D->Rs D
  | .lst ds=>.ok (.lst (cutD ds lo hi))
  | _=>.no
noncomputable def fNoP:Rho->Rs (Option Int):=fun _=>.ok none
noncomputable def fP (f:Rho->Rs D):Rho->Rs (Option Int):=fun ρ=>(f ρ).bind fun d=>(toI d).bind fun i=>.ok (some i)
noncomputable def fSl (fe:Rho->Rs D) (fl fh:Rho->Rs (Option Int)):Rho->Rs D:=fun ρ=>(fe ρ).bind fun x=>(fl ρ).bind fun l=>(fh ρ).bind fun h=>gSl l h x
variable {x:Str} {p:Pos} {e:Expr} {es:List Expr} {id T:String} {r:List V->Hp->VK->Prop} {g:List D->Rs D} {fs:Rho->Rs (List D)}
theorem se_callB (hc:CallR X (.builtin id) r) (hd:CallD X.K r g) (hg:Gl X x) (hm:X.mg x=none) (hv:bootBuiltins x=some (.builtin id)) (ha:SA X B W (e::es) fs) (hn:x≠"__name__":=by decide) (hdb:(x == ("__debug__":Str))=false:=by decide)
    (he:starEach (e::es) X.env=(false,eval e X.env)::starEach es X.env:=by rfl) (hpl:(backTo pos (starEach es X.env)).any (·.1)=false:=by rfl):SE X B W (.Call (.Name x p) (e::es) [] pos) (fA fs g) :=
  PE.imp (pe_callB hc hg hm hv ha hn hdb he hpl) fun _ _ _ h=>tA_of hd h
theorem se_callTy (hc:CallR X (.type T) r) (hd:CallD X.K r g) (hg:Gl X x) (hm:X.mg x=none) (hv:bootBuiltins x=some (.type T)) (ha:SA X B W (e::es) fs) (hn:x≠"__name__":=by decide) (hdb:(x == ("__debug__":Str))=false:=by decide)
    (he:starEach (e::es) X.env=(false,eval e X.env)::starEach es X.env:=by rfl) (hpl:(backTo pos (starEach es X.env)).any (·.1)=false:=by rfl):SE X B W (.Call (.Name x p) (e::es) [] pos) (fA fs g) :=
  PE.imp (pe_callTy hc hg hm hv ha hn hdb he hpl) fun _ _ _ h=>tA_of hd h
noncomputable def gLen:List D->Rs D
  | [.lst ds]=>.ok (.int ds.length)
  | [.tup ds]=>.ok (.int ds.length)
  | _=>.no
theorem cd_len:CallD K (fun xs H Q=>∃ p ys,xs=[.ref p]/\(SqL K H p ys∨SqT K H p ys)/\Q (.int ys.length) H) gLen:=by
  intro B W σ ρ G H ds vs Q s r p
  match ds,p with
  | [.lst ds],p =>
    obtain ⟨v,vs',rfl,r1,r2⟩:=reps_cons.mp r
    obtain ⟨a,us,rfl,q,rr⟩:=rep_lst.mp r1
    rw [reps_nil.mp r2]
    refine ⟨a,us,rfl,.inl (s.en.gh.seq q),Post.ok s p ?_⟩
    rw [<- rr.length];exact rep_int.mpr rfl
  | [.tup ds],p =>
    obtain ⟨v,vs',rfl,r1,r2⟩:=reps_cons.mp r
    obtain ⟨a,us,rfl,q,rr⟩:=rep_tup.mp r1
    rw [reps_nil.mp r2]
    refine ⟨a,us,rfl,.inr (Same.seqT s.en.gh q),Post.ok s p ?_⟩
    rw [<- rr.length];exact rep_int.mpr rfl
  | [],p=>exact p.elim
  | [.non],p=>exact p.elim
  | [.bl _],p=>exact p.elim
  | [.int _],p=>exact p.elim
  | [.str _],p=>exact p.elim
  | [.exn _ _],p=>exact p.elim
  | [.dic _ _],p=>exact p.elim
  | [.fn _],p=>exact p.elim
  | [.obj _ _ _],p=>exact p.elim
  | _::_::_,p=>exact (by simp only [gLen] at p;exact p.elim)
theorem se_len (hm:X.mg "len"=none) (ha:SE X B W e fa) (hg:Gl X "len":=by rfl) (he:starEach [e] X.env=[(false,eval e X.env)]:=by rfl):SE X B W (.Call (.Name "len" p) [e] [] pos) (fA (fCons fa fNil) gLen) :=
  se_callB call_len_seq cd_len hg hm PySem.boot_len (sa_cons ha sa_nil he)  (by decide) (by decide) he rfl
noncomputable def gTupOf:List D->Rs D
  | [.lst ds]=>.ok (.tup ds)
  | [.tup ds]=>.ok (.tup ds)
  | _=>.no
theorem cd_tupOf:CallD K (fun xs H Q=>∃ p ys,xs=[.ref p]/\((SqL K H p ys/\∀ l,H l=none->Q (.ref l) (upd H l (.tup ys)))∨(SqT K H p ys/\Q (.ref p) H))) gTupOf:=by
  intro B W σ ρ G H ds vs Q s r p
  match ds,p with
  | [.lst ds],p =>
    obtain ⟨v,vs',rfl,r1,r2⟩:=reps_cons.mp r
    obtain ⟨a,us,rfl,q,rr⟩:=rep_lst.mp r1
    rw [reps_nil.mp r2]
    refine ⟨a,us,rfl,.inl ⟨s.en.gh.seq q,fun c hc=>?_⟩⟩
    have x:=ext_tup (xs:=us) s.en.gh s.en.tp hc
    exact p _ _ _ x (rep_tup.mpr ⟨c,us,rfl,.of upd_same,rr.mono x.gg⟩)
  | [.tup ds],p =>
    obtain ⟨v,vs',rfl,r1,r2⟩:=reps_cons.mp r
    obtain ⟨a,us,rfl,q,rr⟩:=rep_tup.mp r1
    rw [reps_nil.mp r2]
    exact ⟨a,us,rfl,.inr ⟨Same.seqT s.en.gh q,Post.ok s p r1⟩⟩
  | [],p=>exact p.elim
  | [.non],p=>exact p.elim
  | [.bl _],p=>exact p.elim
  | [.int _],p=>exact p.elim
  | [.str _],p=>exact p.elim
  | [.exn _ _],p=>exact p.elim
  | [.dic _ _],p=>exact p.elim
  | [.fn _],p=>exact p.elim
  | [.obj _ _ _],p=>exact p.elim
  | _::_::_,p=>exact (by simp only [gTupOf] at p;exact p.elim)
open PyProof.Rows in
theorem call_divmodB:CallR X (.builtin "divmod") (fun xs H Q=>∃ i j,xs=[.int i,.int j]/\CDB i j/\∀ p,H p=none->Q (.ref p) (upd H p (.tup [.int (i / j),.int (i % j)]))):=by
  intro pins s σ H xs us Q I r h
  obtain ⟨i,j,rfl,hc,q⟩:=h
  have h1:=hc.1
  obtain ⟨u,w',rfl,⟨t,rfl⟩,⟨t',rfl⟩⟩:=vals2 r
  refine divmod_int (by lia) ?_ (.inl hc.py)
  rw [Int.fdiv_eq_ediv_of_nonneg i (by lia),Int.fmod_eq_emod_of_nonneg i (by lia)]
  have hn:H s.heap.objs.size=none:=I.hok.fresh (Nat.le_refl _)
  refine ⟨.ref s.heap.objs.size,_,?_,rfl,q _ hn⟩
  refine I.laid (fun b o e=>Heap.get?_push_of_some _ e) (Nat.le_refl _) ⟨by simp only [List.length_cons,List.length_nil];rw [sizeLine_eq];decide,[.int (i / j) s.toks,.int (i % j) (s.toks + 1)],.cons ⟨_,rfl⟩ (.cons ⟨_,rfl⟩ .nil),?_⟩
  exact ⟨_,Heap.get?_push_size s.heap rfl,rfl,0,rfl⟩
noncomputable def gDm:List D->Rs D
  | [.int i,.int j]=>if CDB i j then .ok (.tup [.int (i / j),.int (i % j)]) else .no
  | _=>.no
theorem cd_dm:CallD K (fun xs H Q=>∃ i j,xs=[.int i,.int j]/\CDB i j/\∀ p,H p=none->Q (.ref p) (upd H p (.tup [.int (i / j),.int (i % j)]))) gDm:=by
  intro B W σ ρ G H ds vs Q s r p
  unfold gDm at p
  split at p
  . rename_i i j
    obtain ⟨v,vs',rfl,r1,r2⟩:=reps_cons.mp r
    obtain ⟨v2,vs'',rfl,r3,r4⟩:=reps_cons.mp r2
    rw [rep_int.mp r1,rep_int.mp r3,reps_nil.mp r4]
    by_cases hc:CDB i j
    . rw [if_pos hc] at p
      refine ⟨i,j,rfl,hc,fun c hc=>?_⟩
      have x:=ext_tup (xs:=[.int (i / j),.int (i % j)]) s.en.gh s.en.tp hc
      exact p _ _ _ x (rep_tup.mpr ⟨c,_,rfl,.of upd_same,reps_cons.mpr ⟨_,_,rfl,rep_int.mpr rfl,.one (rep_int.mpr rfl)⟩⟩)
    . rw [if_neg hc] at p;exact p.elim
  . exact p.elim
end
end Vl
namespace Vl
open PySem PySem.Spec L2
inductive Ou where
  | nx (ρ:Rho)|rt (d:D)|bk (ρ:Rho)|ct (ρ:Rho)|ex (c:Str) (n:Int) (ρ:Rho)|no|rx (d:D) (ρ:Rho)|rl (ds:List D)
noncomputable def PostS (K:PySem.W.Frag) (B:Bs) (W:Wi) (G:Hp) (o:Ou) (De:Ends):Prop :=
  match o with
  | .nx ρ'=>∀ σ' H' G',SR K B σ' H' ρ' G'->Same G G'->De.nx σ' H'
  | .bk ρ'=>∀ σ' H' G',SR K B σ' H' ρ' G'->Same G G'->De.bk σ' H'
  | .ct ρ'=>∀ σ' H' G',SR K B σ' H' ρ' G'->Same G G'->De.ct σ' H'
  | .rt d=>∀ v H' G',Ext B.1 B.2 G' H'->Same G G'->Rep K G' d v->De.rt v H'
  | .ex c n ρ'=>∀ σ' H' G',SR K B σ' H' ρ' G'->Same G G'->W c n σ' H'
  | .no=>False
  | .rx d ρ'=>∀ v σ' H' G',SR K B σ' H' ρ' G'->Same G G'->Rep K G' d v->De.rt v H'
  | .rl ds=>∀ a ws H' G',Ext B.1 B.2 G' H'->Same G G'->G' a=none->B.2 a=none->H' a=some (.lst ws)->Reps K G' ds ws->De.rt (.ref a) H'
noncomputable def tS (K:PySem.W.Frag) (B:Bs) (W:Wi) (g:Rho->Ou):TS:=fun De σ H=>∃ ρ G,SR K B σ H ρ G/\PostS K B W G (g ρ) De
noncomputable def SS (X:Cx) (B:Bs) (W:Wi) (st:Stmt) (g:Rho->Ou):Prop:=PS X st (tS X.K B W g)
noncomputable def SSs (X:Cx) (B:Bs) (W:Wi) (st:List Stmt) (g:Rho->Ou):Prop:=PSs X st (tS X.K B W g)
noncomputable def oSeq (o:Ou) (k:Rho->Ou):Ou:=match o with
  | .nx ρ=>k ρ
  | o=>o
noncomputable def oR {α:Type} (r:Rs α) (ρ:Rho) (k:α->Ou):Ou:=match r with
  | .ok a=>k a
  | .ex c n=>.ex c n ρ
  | .no=>.no
section
variable {X:Cx} {K:PySem.W.Frag} {B:Bs} {W:Wi} {σ:St} {G G' H:Hp} {ρ:Rho} {De De':Ends}
theorem PostS.same {o:Ou} (h:PostS K B W G o De) (e:Same G G'):PostS K B W G' o De:=by
  cases o with
  | nx ρ'=>exact fun σ' H' G'' s q=>h σ' H' G'' s (e.trans q)
  | bk ρ'=>exact fun σ' H' G'' s q=>h σ' H' G'' s (e.trans q)
  | ct ρ'=>exact fun σ' H' G'' s q=>h σ' H' G'' s (e.trans q)
  | rt d=>exact fun v H' G'' x q=>h v H' G'' x (e.trans q)
  | ex c n ρ'=>exact fun σ' H' G'' s q=>h σ' H' G'' s (e.trans q)
  | no=>exact h
  | rx d ρ'=>exact fun v σ' H' G'' s q=>h v σ' H' G'' s (e.trans q)
  | rl ds=>exact fun a ws H' G'' s q=>h a ws H' G'' s (e.trans q)
theorem post_of {r:Rs D} {k:D->Ou} {Q:VK} (s:SR K B σ H ρ G) (p:PostS K B W G (oR r ρ k) De) (h:∀ d v H' G',r=.ok d->Ext G H G' H'->Rep K G' d v->PostS K B W G' (k d) De->Q v H'):Post K W σ G H r Q:=by
  cases r with
  | ok d=>exact fun v H' G' e r=>h d v H' G' rfl e r (PostS.same p e.gg)
  | ex c n=>exact fun H' G' e=>p σ H' G' (s.ext e) e.gg
  | no=>exact p
theorem ss_nil:SSs X B W [] .nx:=PSs.imp pss_nil fun De σ H ⟨ρ,G,s,p⟩=>p σ H G s (.refl _)
theorem ss_cons {st:Stmt} {rest:List Stmt} {g k:Rho->Ou} (h1:SS X B W st g) (h2:SSs X B W rest k):SSs X B W (st::rest) (fun ρ=>oSeq (g ρ) k):=by
  refine PSs.imp (pss_cons h1 h2) fun De σ H ⟨ρ,G,s,p⟩=>⟨ρ,G,s,?_⟩
  dsimp only at p
  cases e:g ρ with
  | nx ρ'=>rw [e] at p;exact fun σ' H' G' s' q=>⟨ρ',G',s',PostS.same (show PostS X.K B W G (k ρ') De from p) q⟩
  | bk ρ'=>rw [e] at p;exact p
  | ct ρ'=>rw [e] at p;exact p
  | rt d=>rw [e] at p;exact p
  | ex c n ρ'=>rw [e] at p;exact p
  | no=>rw [e] at p;exact p
  | rx d ρ'=>rw [e] at p;exact p
  | rl ds=>rw [e] at p;exact p
theorem ss_one {st:Stmt} {g:Rho->Ou} (h1:SS X B W st g):SSs X B W [st] g:=pss_one h1
theorem ss_ret {e:Expr} {pos} {f:Rho->Rs D} (h:SE X B W e f):SS X B W (.Return (some e) pos) (fun ρ=>oR (f ρ) ρ .rt) :=
  PS.imp (ps_ret h) fun De σ H ⟨ρ,G,s,p⟩=>⟨ρ,G,s,post_of s p fun d v H' G' _ e r q=>q v H' G' (s.en.trans e) (.refl _) r⟩
theorem ss_expr {e:Expr} {pos:Pos} {f:Rho->Rs D} (h:SE X B W e f) (hs:swapsWith e none pos.line X.env=pure false:=by rfl):SS X B W (.Expr e pos) (fun ρ=>oR (f ρ) ρ fun _=>.nx ρ) :=
  PS.imp (ps_expr h hs) fun De σ H ⟨ρ,G,s,p⟩=>⟨ρ,G,s,post_of s p fun d v H' G' _ e r q=>q σ H' G' (s.ext e) (.refl _)⟩
theorem ss_if {c:Expr} {a b:List Stmt} {pos:Pos} {fc:Rho->Rs Bool} {ga gb:Rho->Ou} (hc:ST X B W c fc) (ha:SSs X B W a ga) (hb:SSs X B W b gb):SS X B W (.If c a b pos) (fun ρ=>oR (fc ρ) ρ fun x=>if x=true then ga ρ else gb ρ):=by
  refine PS.imp (ps_if hc ha hb) fun De σ H ⟨ρ,G,s,p⟩=>⟨ρ,G,s,?_⟩
  dsimp only at p
  cases e:fc ρ with
  | ok x =>
    rw [e] at p
    intro H' G' ee
    have p':PostS X.K B W G (if x=true then ga ρ else gb ρ) De:=p
    cases x with
    | true=>rw [if_pos rfl] at p' ⊢;exact ⟨ρ,G',s.ext ee,p'.same ee.gg⟩
    | false=>rw [if_neg (by simp)] at p' ⊢;exact ⟨ρ,G',s.ext ee,p'.same ee.gg⟩
  | ex c n=>rw [e] at p;exact fun H' G' ee=>p σ H' G' (s.ext ee) ee.gg
  | no=>rw [e] at p;exact p
noncomputable abbrev Tg:=D->Rho->Option Rho
noncomputable def tG (K:PySem.W.Frag) (B:Bs) (h:Tg):TG:=fun v σ H Q=>∃ ρ G d,SR K B σ H ρ G/\Rep K G d v/\∃ ρ',h d ρ=some ρ'/\∀ σ',SR K B σ' H ρ' G->Q σ' H
noncomputable def tGs (K:PySem.W.Frag) (B:Bs) (h:List D->Rho->Option Rho):TGs:=fun vs σ H Q=>∃ ρ G ds,SR K B σ H ρ G/\Reps K G ds vs/\∃ ρ',h ds ρ=some ρ'/\∀ σ',SR K B σ' H ρ' G->Q σ' H
noncomputable def SG (X:Cx) (B:Bs) (tg:Expr) (h:Tg):Prop:=PG X tg (tG X.K B h)
noncomputable def SGs (X:Cx) (B:Bs) (tg:List Expr) (h:List D->Rho->Option Rho):Prop:=PGs X tg (tGs X.K B h)
theorem PG.imp {e:Expr} {t t':TG} (h:PG X e t) (i:∀ v σ H Q,t' v σ H Q->t v σ H Q):PG X e t':=fun pins s σ H v u Q I r q=>h pins s σ H v u Q I r (i v σ H Q q)
theorem PGs.imp {e:List Expr} {t t':TGs} (h:PGs X e t) (i:∀ v σ H Q,t' v σ H Q->t v σ H Q):PGs X e t':=fun pins s σ H v u Q I r q=>h pins s σ H v u Q I r (i v σ H Q q)
noncomputable def hName (i:Nat):Tg:=fun d ρ=>some (ρ.set i (.fz d))
noncomputable def hNil:List D->Rho->Option Rho:=fun ds ρ=>match ds with|[]=>some ρ|_=>none
noncomputable def hCons (h:Tg) (k:List D->Rho->Option Rho):List D->Rho->Option Rho:=fun ds ρ=>match ds with|d::ds=>(h d ρ).bind (k ds)|[]=>none
noncomputable def hTup (n:Nat) (k:List D->Rho->Option Rho):Tg:=fun d ρ=>match d with|.tup ds=>if ds.length=n then k ds ρ else none|_=>none
theorem sg_name {i:Nat} {x:Str} {pos:Pos} (hN:X.N.Nodup) (hi:X.N[i]?=some x) (hx:Loc X.env.scope x) (hf:X.fn x=true∨X.env.scope.names.lookup x=some .local:=by first|exact .inl rfl|exact .inr rfl|assumption):SG X B (.Name x pos) (hName i) :=
  PG.imp (pg_name hN hi hx hf) fun v σ H Q ⟨ρ,G,d,s,r,ρ',e,q⟩=>by
    cases e
    exact q _ (s.set r)
theorem sgs_nil:SGs X B [] hNil:=PGs.imp pgs_nil fun v σ H Q ⟨ρ,G,ds,s,r,ρ',e,q⟩=>by
  cases ds with
  | nil=>cases e;exact ⟨reps_nil.mp r,q _ s⟩
  | cons d ds=>cases e
theorem sgs_cons {e:Expr} {es:List Expr} {h:Tg} {k:List D->Rho->Option Rho} (h1:SG X B e h) (h2:SGs X B es k) (hs:(assignEach (e::es) X.env).map (·.2)=assign e X.env::(assignEach es X.env).map (·.2):=by rfl):SGs X B (e::es) (hCons h k) :=
  PGs.imp (pgs_cons h1 h2 hs) fun v σ H Q ⟨ρ,G,ds,s,r,ρ',e,q⟩=>by
    cases ds with
    | nil=>cases e
    | cons d ds =>
      obtain ⟨w,ws,rfl,r1,r2⟩:=reps_cons.mp r
      unfold hCons at e
      dsimp only at e
      cases e1:h d ρ with
      | none=>rw [e1] at e;cases e
      | some ρ1 =>
        rw [e1] at e
        exact ⟨w,ws,rfl,ρ,G,d,s,r1,ρ1,e1,fun σ1 s1=>⟨ρ1,G,ds,s1,r2,ρ',e,q⟩⟩
theorem sg_tup {es:List Expr} {k:Nat} {pos:Pos} {n:Nat} {h:List D->Rho->Option Rho} (hc:X.calm=true) (hh:SGs X B es h)
    (hn:(assignEach es X.env).length=n:=by rfl) (hst:(assignEach es X.env).findIdx? (·.1)=none:=by rfl):SG X B (.Tuple es k pos) (hTup n h) :=
  PG.imp (pg_tup hc hh hn hst) fun v σ H Q ⟨ρ,G,d,s,r,ρ',e,q⟩=>by
    cases d with
    | tup ds =>
      unfold hTup at e
      dsimp only at e
      by_cases hl:ds.length=n
      . simp only [if_pos hl] at e
        obtain ⟨a,vs,rfl,q1,rr⟩:=rep_tup.mp r
        exact ⟨a,vs,rfl,Same.seqT s.en.gh q1,by rw [<- rr.length];exact hl,ρ,G,ds,s,rr,ρ',e,q⟩
      . simp only [if_neg hl] at e;cases e
    | _=>cases e
noncomputable def oO (o:Option Rho):Ou:=match o with|some ρ=>.nx ρ|none=>.no
theorem ss_asg {tg e:Expr} {pos:Pos} {f:Rho->Rs D} {h:Tg} (he:SE X B W e f) (hg:SG X B tg h) (hs:swapsWithSole [tg] e pos.line X.env=pure false:=by rfl) (hw:swappedStores [tg] e X.env=pure none:=by rfl)
    (h1:(assignEach [tg] X.env).map (·.2)=[assign tg X.env]:=by rfl):SS X B W (.Assign [tg] e pos) (fun ρ=>oR (f ρ) ρ fun d=>oO (h d ρ)) :=
  PS.imp (ps_asg he hg hs hw h1) fun De σ H ⟨ρ,G,s,p⟩=>⟨ρ,G,s,post_of s p fun d v H' G' _ e r q=>by
    cases e1:h d ρ with
    | none=>rw [e1] at q;exact q.elim
    | some ρ'=>rw [e1] at q;exact ⟨ρ,G',d,s.ext e,r,ρ',e1,fun σ' s'=>q σ' H' G' s' (.refl _)⟩⟩
theorem ss_set {i:Nat} {x:Str} {e:Expr} {pos pos':Pos} {f:Rho->Rs D} (hN:X.N.Nodup) (hi:X.N[i]?=some x) (hx:Loc X.env.scope x) (he:SE X B W e f) (hs:swapsWith e (some (.Name x pos')) pos.line X.env=pure false:=by rfl) (hf:X.fn x=true∨X.env.scope.names.lookup x=some .local:=by first|exact .inl rfl|exact .inr rfl|assumption) :
    SS X B W (.Assign [.Name x pos'] e pos) (fun ρ=>oR (f ρ) ρ fun d=>.nx (ρ.set i (.fz d))) :=
  PS.imp (ps_set hN hi hx he hs hf) fun De σ H ⟨ρ,G,s,p⟩=>⟨ρ,G,s,post_of s p fun d v H' G' _ e r q=>q _ H' G' ((s.ext e).set r) (.refl _)⟩
theorem SR.setOwn (h:SR K B σ H ρ G) {i:Nat} {z:Sl} {o:HO} {p:Addr} (w:z.own=true) (r:OwnAt K G p z o) (hp:H p=none) (hz:∀ ds,z≠.op ds:=by intro _ h;cases h):SR K B (σ.set i (some (.ref p))) (upd H p o) (ρ.set i z) G:=by
  have x:=ext_any (o:=o) h.en.gh h.en.tp (fun xs e=>by subst e;exact r.tup) hp
  have h':=h.ext x
  have at_i:∀ {j:Nat} {y:Sl},(ρ.set i z)[j]?=some y->(i=j/\y=z/\i < ρ.length)∨(i≠j/\ρ[j]?=some y):=fun {j y} q=>by
    by_cases e:i=j
    . subst e
      have hl:i < ρ.length:=by
        have:=(List.getElem?_eq_some_iff.mp q).1;simpa using this
      rw [List.getElem?_set_self hl] at q
      cases q
      exact .inl ⟨rfl,rfl,hl⟩
    . rw [List.getElem?_set_ne e] at q
      exact .inr ⟨e,q⟩
  refine ⟨h'.en,by simp [h.len],fun j d q=>?_,fun j y q wy=>?_,fun j k y y' a q1 w1 q2 w2 q3 q4=>?_,fun j ds a q1 q2=>?_,h'.co⟩
  . rcases at_i q with ⟨_,e,_⟩|⟨e,q⟩
    . rw [<- e] at w;cases w
    . rw [List.getElem?_set_ne e];exact h'.fz j d q
  . rcases at_i q with ⟨e,e2,hl⟩|⟨e,q⟩
    . subst e;subst e2
      exact ⟨p,o,List.getElem?_set_self (by rw [<- h.len];exact hl),upd_same,h.en.gh.free hp,h.en.hh.free hp,r⟩
    . rw [List.getElem?_set_ne e];exact h'.own j y q wy
  . have fresh:∀ {l:Nat} {y:Sl},ρ[l]?=some y->y.own=true->σ[l]?≠some (some (.ref p)):=fun {l y} q wy z=>by
      obtain ⟨a,vs',h1,h2,_⟩:=h.own l y q wy
      rw [h1] at z
      have:a=p:=by injection z with z;injection z with z;injection z
      rw [this,hp] at h2;cases h2
    rcases at_i q1 with ⟨e1,_,l1⟩|⟨n1,z1⟩
    . rcases at_i q2 with ⟨e2,_⟩|⟨n2,z2⟩
      . exact e1.symm.trans e2
      . subst e1
        rw [List.getElem?_set_self (by rw [<- h.len];exact l1)] at q3
        have:a=p:=by injection q3 with z;injection z with z;injection z with z;exact z.symm
        subst this
        rw [List.getElem?_set_ne n2] at q4
        exact (fresh z2 w2 q4).elim
    . rcases at_i q2 with ⟨e2,_,l2⟩|⟨n2,z2⟩
      . subst e2
        rw [List.getElem?_set_self (by rw [<- h.len];exact l2)] at q4
        have:a=p:=by injection q4 with z;injection z with z;injection z with z;exact z.symm
        subst this
        rw [List.getElem?_set_ne n1] at q3
        exact (fresh z1 w1 q3).elim
      . rw [List.getElem?_set_ne n1] at q3
        rw [List.getElem?_set_ne n2] at q4
        exact h.ap j k y y' a z1 w1 z2 w2 q3 q4
  . rcases at_i q1 with ⟨_,e,_⟩|⟨e,q⟩
    . exact absurd e.symm (hz ds)
    . rw [List.getElem?_set_ne e] at q2;exact h.tie j ds a q q2
theorem SR.setOw (h:SR K B σ H ρ G) {i:Nat} {ds:List D} {vs:List V} {p:Addr} (r:Reps K G ds vs) (hp:H p=none):SR K B (σ.set i (some (.ref p))) (upd H p (.lst vs)) (ρ.set i (.ow ds)) G:=h.setOwn rfl ⟨vs,rfl,r⟩ hp
theorem SR.writeOwn (h:SR K B σ H ρ G) {i:Nat} {y z:Sl} {o:HO} {a:Addr} (q:ρ[i]?=some y) (wy:y.own=true) (ha:σ[i]?=some (some (.ref a))) (wz:z.own=true) (r:OwnAt K G a z o) (hz:∀ ds,z=.op ds->∃ es,y=.op es:=by intro _ h;cases h):SR K B σ (upd H a o) (ρ.set i z) G:=by
  obtain ⟨a',o0,e1,h2,h3,h4,h5⟩:=h.own i y q wy
  have ea:a'=a:=by rw [e1] at ha;injection ha with z;injection z with z;injection z
  subst ea
  have hl:i < ρ.length:=(List.getElem?_eq_some_iff.mp q).1
  have at_i:∀ {j:Nat} {x:Sl},(ρ.set i z)[j]?=some x->(i=j/\x=z)∨(i≠j/\ρ[j]?=some x):=fun {j x} q=>by
    by_cases e:i=j
    . subst e
      rw [List.getElem?_set_self hl] at q
      cases q
      exact .inl ⟨rfl,rfl⟩
    . rw [List.getElem?_set_ne e] at q
      exact .inr ⟨e,q⟩
  have ne:∀ b o,G b=some o->b≠a':=fun b o z w=>by rw [w,h3] at z;cases z
  refine ⟨⟨h.en.gg,fun b o z=>?_,fun b o z=>?_,fun b xs z=>?_,h.en.nw⟩,by simp [h.len],fun j d z'=>?_,fun j x z' wx=>?_,fun j k x x' c z1 w1 z2 w2 z3 z4=>?_,fun j ds c z1 z2=>?_,h.co.upd h2 h5.tab⟩
  . rw [upd_ne (ne_of_none z h4)];exact h.en.hh b o z
  . rw [upd_ne (ne b o z)];exact h.en.gh b o z
  . by_cases w:b=a'
    . subst w;rw [upd_same] at z;cases z;exact r.tup.elim
    . rw [upd_ne w] at z;exact h.en.tp b xs z
  . rcases at_i z' with ⟨_,e⟩|⟨_,z'⟩
    . rw [<- e] at wz;cases wz
    . exact h.fz j d z'
  . rcases at_i z' with ⟨e,e2⟩|⟨e,z'⟩
    . subst e;subst e2
      exact ⟨a',o,ha,upd_same,h3,h4,r⟩
    . obtain ⟨b,us,w1,w2,w3,w4,w5⟩:=h.own j x z' wx
      have hne:b≠a':=fun w=>by subst w;exact e (h.ap i j y x b q wy z' wx ha w1)
      exact ⟨b,us,w1,by rw [upd_ne hne];exact w2,w3,w4,w5⟩
  . rcases at_i z1 with ⟨e1,_⟩|⟨_,z1⟩ <;> rcases at_i z2 with ⟨e2,_⟩|⟨_,z2⟩
    . exact e1.symm.trans e2
    . subst e1;exact h.ap i k y x' c q wy z2 w2 z3 z4
    . subst e2;exact h.ap j i x y c z1 w1 q wy z3 z4
    . exact h.ap j k x x' c z1 w1 z2 w2 z3 z4
  . rcases at_i z1 with ⟨e1,e2⟩|⟨_,z1⟩
    . subst e1
      obtain ⟨es,e3⟩:=hz ds e2.symm
      rw [e3] at q
      exact h.tie i es c q z2
    . exact h.tie j ds c z1 z2
theorem SR.write (h:SR K B σ H ρ G) {i:Nat} {ds es:List D} {vs:List V} {a:Addr} (q:ρ[i]?=some (.ow ds)) (ha:σ[i]?=some (some (.ref a))) (r:Reps K G es vs):SR K B σ (upd H a (.lst vs)) (ρ.set i (.ow es)) G:=h.writeOwn q rfl ha rfl ⟨vs,rfl,r⟩
noncomputable def frz (i:Nat) (ρ:Rho):Rho:=match ρ[i]? with|some (.ow ds)=>ρ.set i (.fz (.lst ds))|_=>ρ
theorem SR.frz (h:SR K B σ H ρ G) (i:Nat):∃ G',Same G G'/\SR K B σ H (frz i ρ) G':=by
  unfold Vl.frz
  split
  . rename_i ds q
    obtain ⟨a,vs,e1,h2,h3,h4,h5⟩:=h.ow i ds q
    have hl:i < ρ.length:=(List.getElem?_eq_some_iff.mp q).1
    have gg:Same G (upd G a (.lst vs)):=fun b o z=>by rw [upd_ne (ne_of_none z h3)];exact z
    refine ⟨upd G a (.lst vs),gg,⟨h.en.gg.trans gg,h.en.hh,fun b o z=>?_,fun b xs z=>?_,fun b o z w=>?_⟩,by simp [h.len],fun j d z=>?_,fun j fs z wz=>?_,fun j k fs gs c z1 w1 z2 w2 z3 z4=>?_,fun j es c z1 z2=>?_,h.co⟩
    . by_cases w:b=a
      . subst w;rw [upd_same] at z;cases z;exact h2
      . rw [upd_ne w] at z;exact h.en.gh b o z
    . by_cases w:b=a
      . subst w;rw [h2] at z;cases z
      . rw [upd_ne w];exact h.en.tp b xs z
    . rw [upd_ne (ne_of_none z h4)];exact h.en.nw b o z w
    . by_cases e:i=j
      . subst e
        rw [List.getElem?_set_self hl] at z
        cases z
        exact ⟨_,e1,rep_lst.mpr ⟨a,vs,rfl,.of upd_same,h5.mono gg⟩⟩
      . rw [List.getElem?_set_ne e] at z
        obtain ⟨v,w1,w2⟩:=h.fz j d z
        exact ⟨v,w1,w2.mono gg⟩
    . by_cases e:i=j
      . subst e;rw [List.getElem?_set_self hl] at z;cases z;cases wz
      . rw [List.getElem?_set_ne e] at z
        obtain ⟨b,us,w1,w2,w3,w4,w5⟩:=h.own j fs z wz
        have hne:b≠a:=fun w=>by subst w;exact e (h.ap i j _ fs b q rfl z wz e1 w1)
        exact ⟨b,us,w1,w2,by rw [upd_ne hne];exact w3,w4,w5.mono gg⟩
    . have nj:i≠j:=fun e=>by subst e;rw [List.getElem?_set_self hl] at z1;cases z1;cases w1
      have nk:i≠k:=fun e=>by subst e;rw [List.getElem?_set_self hl] at z2;cases z2;cases w2
      rw [List.getElem?_set_ne nj] at z1
      rw [List.getElem?_set_ne nk] at z2
      exact h.ap j k fs gs c z1 w1 z2 w2 z3 z4
    . have nj:i≠j:=fun e=>by subst e;rw [List.getElem?_set_self hl] at z1;cases z1
      rw [List.getElem?_set_ne nj] at z1
      exact h.tie j es c z1 z2
  . exact ⟨G,.refl _,h⟩
theorem sss_frz {st:List Stmt} {g:Rho->Ou} (i:Nat) (h:SSs X B W st g):SSs X B W st (fun ρ=>g (frz i ρ)) :=
  PSs.imp h fun De σ H ⟨ρ,G,s,p⟩=>let ⟨G',gg,s'⟩:=s.frz i;⟨_,G',s',PostS.same p gg⟩
theorem ss_own {i:Nat} {x:Str} {es:List Expr} {pos pos' lp:Pos} {f:Rho->Rs (List D)} (hN:X.N.Nodup) (hi:X.N[i]?=some x) (hx:Loc X.env.scope x) (he:SA X B W es f) (hs:swapsWith (.List es lp) (some (.Name x pos')) pos.line X.env=pure false:=by rfl) (hf:X.fn x=true∨X.env.scope.names.lookup x=some .local:=by first|exact .inl rfl|exact .inr rfl|assumption) :
    SS X B W (.Assign [.Name x pos'] (.List es lp) pos) (fun ρ=>oR (f ρ) ρ fun ds=>if ds.length<=1000 then .nx (ρ.set i (.ow ds)) else .no):=by
  refine PS.imp (ps_set hN hi hx (pe_lst he) hs hf) fun De σ H ⟨ρ,G,s,p⟩=>⟨ρ,G,s,?_⟩
  dsimp only at p
  cases e:f ρ with
  | ok ds =>
    rw [e] at p
    have p':PostS X.K B W G (if ds.length<=1000 then .nx (ρ.set i (.ow ds)) else .no) De:=p
    by_cases hl:ds.length<=1000
    . rw [if_pos hl] at p'
      exact fun vs H' G' x r=>⟨by rw [<- r.length];exact sz1000 hl,fun c hc=>p' _ _ G' ((s.ext x).setOw r hc) x.gg⟩
    . rw [if_neg hl] at p';exact p'.elim
  | ex c n=>rw [e] at p;exact fun H' G' x=>p σ H' G' (s.ext x) x.gg
  | no=>rw [e] at p;exact p
theorem ss_append {i:Nat} {x:Str} {e:Expr} {pos p1 p2 cp:Pos} {f:Rho->Rs D} (hv:PE X (.Name x p1) (tVar i)) (he:SE X B W e f)
    (hst:starEach [e] X.env=[(false,eval e X.env)]) {pe:PE X (.Call (.Attribute (.Name x p1) "append" p2) [e] [] cp) (tBM X.K "list" rAppend (tVar i) (tCons (tF X.K B W f) tNil))}
    (hs:swapsWith (.Call (.Attribute (.Name x p1) "append" p2) [e] [] cp) none pos.line X.env=pure false:=by rfl) :
    SS X B W (.Expr (.Call (.Attribute (.Name x p1) "append" p2) [e] [] cp) pos) (fun ρ=>match ρ[i]? with|some (.ow ds)=>oR (f ρ) ρ fun d=>if ds.length < 1000000 then .nx (ρ.set i (.ow (ds++[d]))) else .no|_=>.no):=by
  refine PS.imp (ps_expr pe hs) fun De σ H hq9=>?_
  obtain ⟨ρ,G,s,p⟩:=hq9
  dsimp only at p
  cases q:ρ[i]? with
  | none=>rw [q] at p;exact p.elim
  | some z =>
    rw [q] at p
    cases z with
    | no=>exact p.elim
    | fz d=>exact p.elim
    | od _=>exact p.elim
    | op _=>exact p.elim
    | ow ds =>
      obtain ⟨a,vs,e1,h2,h3,h4,h5⟩:=s.ow i ds q
      refine ⟨_,e1,.inl ⟨rfl,vs,.of h2⟩,ρ,G,s,post_of s p fun d v H' G' _ x r p'=>?_⟩
      by_cases hl:ds.length < 1000000
      . rw [if_pos hl] at p'
        have s':=s.ext x
        refine ⟨a,vs,v,rfl,rfl,x.hh _ _ h2,by rw [<- h5.length];exact Nat.lt_of_lt_of_le hl (by rw [sizeLine_eq];decide),?_⟩
        exact p' σ _ G' (s'.write q e1 ((h5.mono x.gg).append (.one r))) (.refl _)
      . rw [if_neg hl] at p';exact p'.elim
end
end Vl
namespace Vl
open PySem PySem.Spec L2
noncomputable def forD (h:Tg) (gb:Rho->Ou):List D->Rho->Ou
  | [],ρ=>.nx ρ
  | d::ds,ρ=>match h d ρ with
    | none=>.no
    | some ρ1=>match gb ρ1 with
      | .nx ρ2=>forD h gb ds ρ2
      | .ct ρ2=>forD h gb ds ρ2
      | .bk ρ2=>.nx ρ2
      | o=>o
noncomputable def WF:Wi:=fun _ _ _ _=>False
section
variable {X:Cx} {K:PySem.W.Frag} {B:Bs} {W:Wi} {σ:St} {G G' H:Hp} {ρ:Rho} {De De':Ends}
theorem for_turn {h:Tg} {gb:Rho->Ou} {d:D} {ds:List D} {v:V} {Pv:St->Hp->Prop} (s:SR K B σ H ρ G) (r:Rep K G d v) (p:PostS K B W G (forD h gb (d::ds) ρ) De)
    (hP:∀ σ' H' ρ' G',SR K B σ' H' ρ' G'->Same G G'->PostS K B W G' (forD h gb ds ρ') De->Pv σ' H') :
    tG K B h v σ H fun σ2 H2=>tS K B W gb { De with nx:=Pv,ct:=Pv,bk:=De.nx } σ2 H2:=by
  unfold forD at p
  cases e:h d ρ with
  | none=>rw [e] at p;exact p.elim
  | some ρ1 =>
    rw [e] at p
    refine ⟨ρ,G,d,s,r,ρ1,e,fun σ1 s1=>⟨ρ1,G,s1,?_⟩⟩
    dsimp only at p
    cases e2:gb ρ1 with
    | nx ρ2=>rw [e2] at p;exact fun σ' H' G' s' q=>hP σ' H' ρ2 G' s' q (PostS.same p q)
    | ct ρ2=>rw [e2] at p;exact fun σ' H' G' s' q=>hP σ' H' ρ2 G' s' q (PostS.same p q)
    | bk ρ2=>rw [e2] at p;exact p
    | rt d=>rw [e2] at p;exact p
    | ex c n ρ2=>rw [e2] at p;exact p
    | no=>rw [e2] at p;exact p
    | rx d ρ2=>rw [e2] at p;exact p
    | rl ds=>rw [e2] at p;exact p
noncomputable def gForL (h:Tg) (gb:Rho->Ou) (f:Rho->Rs D):Rho->Ou:=fun ρ=>oR (f ρ) ρ fun d=>match d with|.lst ds=>forD h gb ds ρ|_=>.no
noncomputable def gForR (h:Tg) (gb:Rho->Ou) (f:Rho->Rs D):Rho->Ou:=fun ρ=>oR (f ρ) ρ fun d=>match d with|.int n=>if -(2 ^ 62)<=n/\n < 2 ^ 62 then forD h gb ((List.range n.toNat).map fun (i:Nat)=>.int i) ρ else .no|_=>.no
theorem ss_forL {tg iter:Expr} {body:List Stmt} {pos:Pos} {f:Rho->Rs D} {h:Tg} {gb:Rho->Ou} (hp:PassesOwn (model X.prog X.w) X.A X.env X.xe) (hc:X.calm=true) (hi:SE X B W iter f) (hg:SG X B tg h) (hb:SSs X B W body gb)
    (hs:∀ x,foldedSetIterable iter X.env x=pure x:=by intro _;rfl):SS X B W (.For tg iter body [] pos) (gForL h gb f):=by
  refine PS.imp (ps_for hp hc (pi_list hi) hg hb hs) fun De σ H hq9=>?_
  obtain ⟨ρ,G,s,p⟩:=hq9
  refine ⟨ρ,G,s,post_of s p fun d v H1 G1 _ e r p1=>?_⟩
  cases d with
  | lst ds =>
    obtain ⟨a,vs,rfl,q,rr⟩:=rep_lst.mp r
    refine ⟨a,rfl,⟨vs,e.gh.seq q⟩,for_list (fun i σ H=>∃ ρ G,SR X.K B σ H ρ G/\SqL X.K G a vs/\Reps X.K G ds vs/\PostS X.K B W G (forD h gb (ds.drop i) ρ) De) ⟨ρ,G1,s.ext e,q,rr,by simpa using p1⟩ (fun i σ H _ ⟨ρ,G,s,q,_⟩=>s.en.gh.seq q) ?_ ?_⟩
    . rintro i x σ2 H2 hx ⟨ρ2,G2,s2,q2,r2,p2⟩
      obtain ⟨d,hd,rd⟩:=r2.get' hx
      have hl:=(List.getElem?_eq_some_iff.mp hd).1
      rw [List.drop_eq_getElem_cons hl,(List.getElem?_eq_some_iff.mp hd).2] at p2
      exact for_turn s2 rd p2 fun σ' H' ρ' G' s' q' p'=>⟨ρ',G',s',q'.seq q2,r2.mono q',p'⟩
    . rintro σ2 H2 ⟨ρ2,G2,s2,q2,r2,p2⟩
      rw [<- r2.length,List.drop_length] at p2
      exact p2 σ2 H2 G2 s2 (.refl _)
  | _=>exact p1.elim
theorem range_walk {h:Tg} {gb:Rho->Ou} {lo:Int} {n:Nat} (s:SR K B σ H ρ G) (p:PostS K B W G (forD h gb ((List.range n).map fun (i:Nat)=>.int (lo + i)) ρ) De) :
    ∃ W0:Nat->Nat->St->Hp->Prop,(∃ m,W0 0 m σ H)/\∀ i m σ H,W0 i m σ H ->
      ((Itr lo n).stop i H/\De.nx σ H)∨((Itr lo n).go i H/\∃ N:St->Hp->Prop,(∀ σ' H',N σ' H'->∃ m',m' < m/\W0 (i + 1) m' σ' H')/\∀ x H',(Itr lo n).yld i H x H'->tG K B h x σ H' fun σ2 H2=>tS K B W gb { De with nx:=N,ct:=N,bk:=De.nx } σ2 H2):=by
  refine for_range (fun i σ H=>∃ ρ G,SR K B σ H ρ G/\PostS K B W G (forD h gb (((List.range n).map fun (i:Nat)=>D.int (lo + i)).drop i) ρ) De) ⟨ρ,G,s,by simpa using p⟩ ?_ ?_
  . rintro i σ2 H2 hi ⟨ρ2,G2,s2,p2⟩
    have hl:i < ((List.range n).map fun (i:Nat)=>D.int (lo + i)).length:=by simpa using hi
    rw [List.drop_eq_getElem_cons hl] at p2
    rw [show ((List.range n).map fun (i:Nat)=>D.int (lo + i))[i]=D.int (lo + i) by simp] at p2
    exact for_turn s2 (rep_int.mpr rfl) p2 fun σ' H' ρ' G' s' q' p'=>⟨ρ',G',s',p'⟩
  . rintro σ2 H2 ⟨ρ2,G2,s2,p2⟩
    rw [List.drop_eq_nil_of_le (by simp)] at p2
    exact p2 σ2 H2 G2 s2 (.refl _)
theorem ss_forR {tg e:Expr} {body:List Stmt} {pos p1 p2:Pos} {f:Rho->Rs D} {h:Tg} {gb:Rho->Ou} (hp:PassesOwn (model X.prog X.w) X.A X.env X.xe) (hc:X.calm=true) (hm:X.mg "range"=none) (hi:SE X B W e f) (hg:SG X B tg h) (hb:SSs X B W body gb)
    (hgl:Gl X "range":=by rfl) (hst:starEach [e] X.env=[(false,eval e X.env)]:=by rfl)
    (hs:∀ x,foldedSetIterable (.Call (.Name "range" p1) [e] [] p2) X.env x=pure x:=by intro _;rfl):SS X B W (.For tg (.Call (.Name "range" p1) [e] [] p2) body [] pos) (gForR h gb f):=by
  refine PS.imp (ps_for hp hc (pi_range1 hgl hm (pa_cons hi pa_nil (by rw [hst];rfl)) hst) hg hb hs) fun De σ H hq9=>?_
  obtain ⟨ρ,G,s,p⟩:=hq9
  refine ⟨ρ,G,s,post_of s p fun d v H1 G1 _ e r p1=>?_⟩
  cases d with
  | int n =>
    dsimp only at p1
    by_cases c:-(2 ^ 62)<=n/\n < 2 ^ 62
    . rw [if_pos c] at p1
      refine ⟨n,by rw [rep_int.mp r],c.1,c.2,range_walk (s.ext e) ?_⟩
      simpa using p1
    . rw [if_neg c] at p1;exact p1.elim
  | _=>exact p1.elim
noncomputable def noEx:Ou->Ou
  | .ex _ _ _=>.no
  | o=>o
theorem noEx_post {o:Ou} (p:PostS K B W G (noEx o) De):PostS K B WF G o De:=by
  cases o with
  | ex c n ρ=>exact p.elim
  | _=>exact p
theorem PS.nox {st:Stmt} {t:TS} (h:PS X.nox st t):PS X st t:=fun pins s σ H D I hw =>
  wpAny_mono (h pins s σ H D (I.wish _) hw) (fun _ _ q=>q.unwish) fun _ _ z=>False.elim z
theorem ss_nox {st:Stmt} {g:Rho->Ou} (h:SS X.nox B WF st g):SS X B W st (fun ρ=>noEx (g ρ)) :=
  PS.imp (PS.nox h) fun De σ H ⟨ρ,G,s,p⟩=>⟨ρ,G,s,noEx_post p⟩
noncomputable def zig (n:Int):Nat:=if 0<=n then 2 * n.toNat else 2 * (-n).toNat + 1
noncomputable def enc (c:Str) (n:Int):Value:=.str c (zig n)
noncomputable def RP (K:PySem.W.Frag) (G H:Hp) (Q:VK) (E:XK) (r:Rs D):Prop:=match r with
  | .ok d=>∀ v H' G',Ext G H G' H'->Rep K G' d v->Q v H'
  | .ex c n=>∀ H' G',Ext G H G' H'->E (enc c n) none H'
  | .no=>False
noncomputable def spV (K:PySem.W.Frag) (k:Nat) (g:List D->Rs D):Sp:=fun vs H Q E=>vs.length=k/\∃ G ds,Ex0 K G H/\Reps K G ds vs/\RP K G H Q E (g ds)
noncomputable def fin:Ou->Rs D
  | .nx _=>.ok .non
  | .rt d=>.ok d
  | .ex c n _=>.ex c n
  | _=>.no
noncomputable def noExR {α:Type}:Rs α->Rs α
  | .ex _ _=>.no
  | o=>o
noncomputable def startR (N:List Str) (ds:List D):Rho:=ds.map .fz++List.replicate (N.length - ds.length) .no
theorem sr_start {N:List Str} {ds:List D} {vs:List V} (e:Ex0 K G H) (r:Reps K G ds vs):SR K ⟨G,H,0⟩ (L2.start N vs) H (startR N ds) G:=by
  have no_ow:∀ (i:Nat) (z:Sl),(startR N ds)[i]?=some z->z.own=true->False:=fun i z q w=>by
    unfold startR at q
    by_cases hi:i < (ds.map Sl.fz).length
    . rw [List.getElem?_append_left hi,List.getElem?_map] at q
      cases e1:ds[i]? with
      | none=>rw [e1] at q;cases q
      | some d=>rw [e1] at q;cases q;cases w
    . rw [List.getElem?_append_right (by lia),List.getElem?_replicate] at q
      split at q <;> cases q
      cases w
  refine ⟨e.toExt,?_,fun i d q=>?_,fun i z q w=>(no_ow i z q w).elim,fun i j z z' a q w=>(no_ow i z q w).elim,fun i ds a q=>(no_ow i _ q rfl).elim,e.co⟩
  . unfold startR L2.start
    simp [r.length]
  . unfold startR at q
    unfold L2.start
    by_cases hi:i < (ds.map Sl.fz).length
    . rw [List.getElem?_append_left hi,List.getElem?_map] at q
      cases e1:ds[i]? with
      | none=>rw [e1] at q;cases q
      | some d' =>
        rw [e1] at q
        cases q
        obtain ⟨v,h1,h2⟩:=r.get e1
        refine ⟨v,?_,h2⟩
        rw [List.getElem?_append_left (by rw [List.length_map,<- r.length];simpa using hi),List.getElem?_map,h1]
        rfl
    . rw [List.getElem?_append_right (by lia),List.getElem?_replicate] at q
      split at q <;> cases q
theorem fin_post {o:Ou} {Q:VK} {E:XK} (h:RP K B.1 B.2 Q E (fin o)):PostS K B (fun c n _ H'=>E (enc c n) none H') G o { nx:=fun _ H'=>Q .non H',rt:=Q }:=by
  cases o with
  | nx ρ'=>exact fun σ' H' G' s q=>h .non H' G' s.en (rep_non.mpr rfl)
  | rt d=>exact fun v H' G' x q r=>h v H' G' x r
  | ex c n ρ'=>exact fun σ' H' G' s q=>h H' G' s.en
  | bk _=>exact h.elim
  | ct _=>exact h.elim
  | no=>exact h.elim
  | rx _ _=>exact h.elim
  | rl _=>exact h.elim
section
variable {P:Program} {w:World} {mg:Str->Option Value} {base:Heap} {x qual:Str} {st:Stmt} {f:Addr} {fd:FuncData} {N ps:List Str} {k:Nat}
end
end
end Vl
namespace Vl
open PySem PySem.Spec L2
theorem compLoop_gen {prog:Program} {w:World} {A:Around} {s:Shared} {R:Result->Shared->Prop} {elt target iter:Expr} {ifs:List Expr} {scope:Scope} {pos:Pos} {it acc:Value} {env:Env} (J:Nat->Shared->Prop)
    (turn:∀ k t,J k t->wpAny (model prog w) A (pyNext it) (fun o t1=>match o with
      | none=>R (.ok .next) t1
      | some x=>wpAny (model prog w) A (letOwnedTupleGo target it x) (fun _ t2=>wpAny (model prog w) A (assign target env x) (fun _ t3 =>
          wpAny (model prog w) A (forIn ifs true fun c go=>if go=true then do { let y <- isTrue c env (eval c env);pure (ForInStep.yield y) } else pure (ForInStep.yield go)) (fun yes t4 =>
            if yes=true then wpAny (model prog w) A (eval elt env) (fun y t5 =>
              wpAny (model prog w) A (call (.builtin "list.append") [acc,y]) (fun _ t6=>∃ j,j < k/\J j t6) (fun _ _=>False) t5) (notedBy (model prog w) A env fun x t'=>R (.error x) t') t4
            else ∃ j,j < k/\J j t4) (fun _ _=>False) t3) (fun _ _=>False) t2) (fun _ _=>False) t1) (fun _ _=>False) t)
    (n:Nat) (h:J n s):codeAny (model prog w) A (.compLoop (.ListComp elt [⟨target,iter,ifs,0⟩] scope pos) 0 it acc env) R s:=by
  refine codeAny_loop rfl J (fun k t hJ=>?_) n h
  show wpAny _ A (Sem.onRaise (compTurn (.ListComp elt [⟨target,iter,ifs,0⟩] scope pos) 0 it acc env) (fun x=>do noteFrame x env;theTreesLotGoes x)) _ _ t
  refine wpAny_noted ?_
  rw [compTurn_list]
  refine wpAny_bind (wpAny_standAt (wpAny_bind (wpAny_mono (turn k t hJ) (fun o t1 g1=>?_) fun _ _ z=>z.elim)))
  cases o with
  | none=>exact wpAny_pure g1
  | some x =>
    refine wpAny_bind (wpAny_mono g1 (fun _ t2 g2=>?_) fun _ _ z=>z.elim)
    refine wpAny_bind (wpAny_mono g2 (fun _ t3 g3=>wpAny_bind (wpAny_mono g3 (fun yes t4 g4=>?_) fun _ _ z=>z.elim)) fun _ _ z=>z.elim)
    cases yes with
    | true=>exact wpAny_bind (wpAny_bind (wpAny_mono g4 (fun y t5 g5=>wpAny_bind (wpAny_mono g5 (fun _ t6 g6=>wpAny_pure (wpAny_pure ⟨rfl,g6⟩)) fun _ _ z=>z.elim)) fun _ _ z=>z))
    | false=>exact wpAny_pure ⟨rfl,g4⟩
noncomputable abbrev compX (X:Cx) (N:List Str) (s₀:Shared) (H₀:Hp) (sc:Scope) (cl:List (Str×Addr)) (C:Addr) (ex:List Addr) (pins:List (Addr×Obj)):Cx where
  prog:=X.prog
  w:=X.w
  K:=X.K
  mg:=X.mg
  base:=X.base
  A:=X.A
  N:=N
  s₀:=s₀
  H₀:=H₀
  env:=compEnvC sc cl C X.env
  outer:=X.stack
  stack:=X.stack
  ex:=ex
  fn:=fun _=>false
  calm:=X.calm
  pn:=X.pn++pins
  xe:=fun _ _=>False
noncomputable def clOf (sc:Scope) (env:Env):List (Str×Addr):=sc.names.foldl (fun cs y=>if y.2 == .free then (y.1,(env.cells.lookup y.1).getD 0)::cs else cs) []
theorem closureFor_clOf {sc:Scope} {env:Env} (h:∀ y∈sc.names,y.2=.free->∃ c,env.cells.lookup y.1=some c):closureFor sc env=pure (clOf sc env):=by
  unfold closureFor clOf
  have key:∀ (l:List (Str×NameKind)) (cs:List (Str×Addr)),(∀ y∈l,y.2=.free->∃ c,env.cells.lookup y.1=some c) ->
      (forIn l cs (fun (x:Str×NameKind) (r:List (Str×Addr))=>if (x.2 == NameKind.free)=true then do let a <- cellOf env x.1;pure (ForInStep.yield ((x.1,a)::r)) else pure (ForInStep.yield r)):Sem (List (Str×Addr))) =
        pure (l.foldl (fun cs y=>if y.2 == .free then (y.1,(env.cells.lookup y.1).getD 0)::cs else cs) cs):=by
    intro l
    induction l with
    | nil=>intro cs _;rfl
    | cons y l ih =>
      intro cs hl
      rw [List.forIn_cons,List.foldl_cons]
      by_cases hk:(y.2 == NameKind.free)=true
      . obtain ⟨c,hc⟩:=hl y List.mem_cons_self (by simpa using hk)
        rw [if_pos hk,if_pos hk]
        unfold cellOf
        rw [hc]
        exact ih _ fun z hz=>hl z (List.mem_cons_of_mem _ hz)
      . rw [if_neg hk,if_neg hk]
        exact ih _ fun z hz=>hl z (List.mem_cons_of_mem _ hz)
  have:=key sc.names [] h
  simp only [] at this ⊢
  rw [this]
  rfl
theorem clOf_mem {sc:Scope} {env:Env}:∀ y∈clOf sc env,(∃ k∈sc.names,k.1=y.1/\k.2=.free)/\y.2=(env.cells.lookup y.1).getD 0:=by
  unfold clOf
  have key:∀ (l:List (Str×NameKind)) (cs:List (Str×Addr)) (y:Str×Addr),y∈l.foldl (fun cs y=>if y.2 == .free then (y.1,(env.cells.lookup y.1).getD 0)::cs else cs) cs ->
      y∈cs∨((∃ k∈l,k.1=y.1/\k.2=.free)/\y.2=(env.cells.lookup y.1).getD 0):=by
    intro l
    induction l with
    | nil=>intro cs y h;exact .inl h
    | cons z l ih =>
      intro cs y h
      rw [List.foldl_cons] at h
      rcases ih _ y h with h|⟨⟨k,hk,e⟩,e2⟩
      . by_cases hz:(z.2 == NameKind.free)=true
        . rw [if_pos hz] at h
          rcases List.mem_cons.mp h with e|h
          . subst e
            exact .inr ⟨⟨z,List.mem_cons_self,rfl,by simpa using hz⟩,rfl⟩
          . exact .inl h
        . rw [if_neg hz] at h;exact .inl h
      . exact .inr ⟨⟨k,List.mem_cons_of_mem _ hk,e⟩,e2⟩
  intro y hy
  rcases key sc.names [] y hy with h|h
  . cases h
  . exact h
theorem clOf_has {sc:Scope} {env:Env} {n:Str} (h:(n,NameKind.free)∈sc.names):∃ c,(clOf sc env).lookup n=some c:=by
  have key:∀ (l:List (Str×NameKind)) (cs:List (Str×Addr)),((n,NameKind.free)∈l∨∃ c,cs.lookup n=some c)->∃ c,(l.foldl (fun cs y=>if y.2 == .free then (y.1,(env.cells.lookup y.1).getD 0)::cs else cs) cs).lookup n=some c:=by
    intro l
    induction l with
    | nil =>
      intro cs h
      rcases h with h|h
      . cases h
      . exact h
    | cons z l ih =>
      intro cs h
      rw [List.foldl_cons]
      refine ih _ ?_
      rcases h with h|⟨c,hc⟩
      . rcases List.mem_cons.mp h with e|h
        . subst e
          refine .inr ⟨(env.cells.lookup n).getD 0,?_⟩
          rw [if_pos (by rfl),List.lookup_cons_self]
        . exact .inl h
      . right
        by_cases hz:(z.2 == NameKind.free)=true
        . rw [if_pos hz]
          by_cases e:n=z.1
          . subst e;exact ⟨_,List.lookup_cons_self⟩
          . exact ⟨c,by rw [List.lookup_cons,show (n == z.1)=false by simpa using e];exact hc⟩
        . rw [if_neg hz];exact ⟨c,hc⟩
  exact key sc.names [] (.inl h)
section
variable {X:Cx} {pins:List (Addr×Obj)} {σ:St} {H:Hp} {s:Shared}
theorem relabel_lookup {sc:Scope} {env:Env} {x:Str} {k:NameKind} (h:(relabel sc env).names.lookup x=some k):(∃ k',sc.names.lookup x=some k'/\(k'=k∨(k'=.free/\k=.cell))):=by
  have key:∀ l:List (Str×NameKind),List.lookup x (l.map fun (n,k)=>if (k == .free && env.scope.kind == .function && env.kindOf n == some .cell) then (n,NameKind.cell) else (n,k))=some k ->
      ∃ k',l.lookup x=some k'/\(k'=k∨(k'=.free/\k=.cell)):=by
    intro l
    induction l with
    | nil=>intro h;cases h
    | cons y l ih =>
      intro h
      obtain ⟨n,kk⟩:=y
      rw [List.map_cons] at h
      by_cases e:(x == n)=true
      . refine ⟨kk,by rw [List.lookup_cons,e],?_⟩
        dsimp only at h
        split at h
        . rename_i hc
          rw [List.lookup_cons,e] at h
          have h':NameKind.cell=k:=Option.some.inj h
          exact .inr ⟨by simp only [Bool.and_eq_true,beq_iff_eq] at hc;exact hc.1.1,h'.symm⟩
        . rw [List.lookup_cons,e] at h
          exact .inl (Option.some.inj h)
      . have e':(x == n)=false:=by simpa using e
        obtain ⟨k',a,b⟩:=ih (by
          dsimp only at h
          split at h <;> (rw [List.lookup_cons,e'] at h;exact h))
        exact ⟨k',by rw [List.lookup_cons,e'];exact a,b⟩
  exact key sc.names h
structure Caps (X:Cx) (sc:Scope) (N:List Str) (nt:Nat) (caps:List Nat):Prop where
  kind:sc.kind=.function
  nocell:∀ y∈sc.names,y.2≠.cell
  fr:∀ y∈sc.names,y.2=.free->X.env.kindOf y.1=some .cell∨X.env.kindOf y.1=some .free
  len:N.length=nt + caps.length
  cap:∀ (j i:Nat) (x:Str),caps[j]?=some i->N[nt + j]?=some x->X.N[i]?=some x/\sc.names.lookup x=some .free
theorem Caps.cells {sc:Scope} {N:List Str} {nt:Nat} {caps:List Nat} (c:Caps X sc N nt caps) (I:Inv X pins σ H s):∀ y∈sc.names,y.2=.free->∃ a,X.env.cells.lookup y.1=some a :=
  fun y hy hf=>I.ok.has y.1 (c.fr y hy hf)
theorem Caps.cl {sc:Scope} {N:List Str} {nt:Nat} {caps:List Nat} (c:Caps X sc N nt caps) (I:Inv X pins σ H s) {x:Str} {a:Addr} (h:(clOf sc X.env).lookup x=some a):X.env.cells.lookup x=some a:=by
  have hm:=PySem.mem_of_lookup h
  obtain ⟨⟨k,hk,e1,e2⟩,e3⟩:=clOf_mem _ hm
  obtain ⟨b,hb⟩:=c.cells I k hk e2
  rw [e1] at hb
  dsimp only at e3 hb
  rw [hb] at e3
  rw [hb,e3];rfl
noncomputable def startC (nt:Nat) (caps:List Nat) (σ:St):St:=List.replicate nt none++caps.map fun i=>(σ[i]?).getD none
theorem comp_start {sc:Scope} {N:List Str} {nt:Nat} {caps:List Nat} {fp:List Addr} {h':Heap} {tk:Nat} (c:Caps X sc N nt caps) (I:Inv X pins σ H s) (hfp:∀ b∈fp,FpOk X pins H b/\b < s.heap.objs.size)
    (hn:h'.Ns s.heap.objs.size fun _=>none) (hk:∀ b o,s.heap.get? b=some o->h'.get? b=some o) :
    Inv (compX X N s H sc (clOf sc X.env) s.heap.objs.size fp pins) [] (startC nt caps σ) H { s with heap:=h',toks:=tk }:=by
  have clX:∀ {x:Str} {a:Addr},(clOf sc X.env).lookup x=some a->X.env.cells.lookup x=some a:=fun h=>c.cl I h
  have stk:∀ b,b≠X.env.locals->b∉X.fs->b∉frs X.stack:=fun b h1 h2 h3=>(List.mem_cons.mp (I.stkSub b h3)).elim h1 h2
  refine ⟨⟨I.ok.mod,c.kind,I.ok.glob,I.ok.blt,Nat.le_refl _,fun x y a h1 h2=>I.ok.inj x y a (clX h1) (clX h2),fun x hx=>?_,fun x a hf=>absurd (show false=true from hf) Bool.false_ne_true,I.ok.hd,I.ok.frames,.inl rfl,fun b hb=>⟨Nat.ne_of_lt (hfp b hb).2,fun x a ha=>(hfp b hb).1.2.2.2.2.1 x a (clX ha)⟩,
    fun b o e=>I.bs b o e,Nat.le_trans I.ok.bsz I.sz,fun b o e hb=>?_,fun b hb=>stk b (hfp b hb).1.2.1 (hfp b hb).1.2.2.1,I.stack,I.stkFree⟩,
    rfl,I.bare,Un.kept hk,⟨_,hn,fun i x v h1 h2 h3=>?_⟩,fun x a ha=>?_,I.hok.fresh (Nat.le_refl _),fun x a ha=>I.freeC x a (clX ha),fun p hp=>?_,I.hok.kept hk,?_⟩
  . -- has
    have hx':(relabel sc X.env).names.lookup x=some .cell∨(relabel sc X.env).names.lookup x=some .free:=hx
    have:sc.names.lookup x=some .free:=by
      rcases hx' with hx'|hx'
      . obtain ⟨k',h1,h2⟩:=relabel_lookup hx'
        rcases h2 with h2|⟨h2,_⟩
        . subst h2;exact (c.nocell _ (PySem.mem_of_lookup h1) rfl).elim
        . rw [h1,h2]
      . obtain ⟨k',h1,h2⟩:=relabel_lookup hx'
        rcases h2 with h2|⟨h2,e⟩
        . rw [h1,h2]
        . cases e
    exact clOf_has (PySem.mem_of_lookup this)
  . -- noex
    obtain ⟨_,_,_,h4,_⟩:=(hfp b hb).1
    rcases h4 with h4|h4
    . exact I.ok.noex b o e h4
    . exact absurd (Nat.lt_of_lt_of_le (Heap.lt_size e) (Nat.le_trans I.ok.bsz h4)) (Nat.lt_irrefl _)
  . -- loc
    unfold startC at h2
    by_cases hi:i < (List.replicate nt (none:Option V)).length
    . rw [List.getElem?_append_left hi,List.getElem?_replicate] at h2
      split at h2 <;> cases h2
    . rw [List.getElem?_append_right (by lia),List.getElem?_map] at h2
      rw [List.length_replicate] at h2 hi
      cases e:caps[i - nt]? with
      | none=>rw [e] at h2;cases h2
      | some k =>
        rw [e] at h2
        have h2':(σ[k]?).getD none=some v:=Option.some.inj h2
        have hs:σ[k]?=some (some v):=by
          cases e3:σ[k]? with
          | none=>rw [e3] at h2';cases h2'
          | some z=>rw [e3] at h2';exact congrArg some h2'
        obtain ⟨hX,hl0⟩:=c.cap (i - nt) k x e (by rw [show nt + (i - nt)=i by lia];exact h1)
        have hf:(x,NameKind.free)∈sc.names:=PySem.mem_of_lookup hl0
        obtain ⟨m,_,hl⟩:=I.loc
        have hkind:=c.fr _ hf rfl
        obtain ⟨u,r,l⟩:=hl k x v hX hs (by rcases hkind with q|q;exact .inr (.inl q);exact .inr (.inr q))
        refine ⟨u,r,.inr ⟨?_,?_⟩⟩
        . have h3':(relabel sc X.env).names.lookup x=some .local∨(relabel sc X.env).names.lookup x=some .cell∨(relabel sc X.env).names.lookup x=some .free:=h3
          rcases h3' with q|q|q
          . obtain ⟨k',a1,a2⟩:=relabel_lookup q
            exfalso
            rw [hl0] at a1
            cases a1
            rcases a2 with a2|⟨_,a2⟩ <;> cases a2
          . exact .inl q
          . exact .inr q
        . obtain ⟨cc,hcc⟩:=clOf_has (env:=X.env) hf
          refine ⟨cc,hcc,?_⟩
          rcases l with ⟨q,_⟩|⟨_,c2,hc2,z⟩
          . rcases hkind with q'|q' <;> (rw [q] at q';cases q')
          . rw [clX hcc] at hc2
            cases hc2
            obtain ⟨o,ho,hd⟩:=z
            exact ⟨o,hk _ _ ho,hd⟩
  . obtain ⟨v,o,ho,hd⟩:=I.cell x a (clX ha)
    exact ⟨v,o,hk _ _ ho,hd⟩
  . rw [List.append_nil] at hp
    obtain ⟨e,n,ne,nf,d⟩:=I.pin p hp
    exact ⟨hk _ _ e,n,Nat.ne_of_lt (Heap.lt_size e),stk _ ne nf,d⟩
  . unfold startC
    rw [List.length_append,List.length_replicate,List.length_map]
    exact c.len.symm
end
end Vl
namespace Vl
open PySem PySem.Spec L2
theorem Inv.moved {X:Cx} {pins:List (Addr×Obj)} {σ:St} {H:Hp} {s:Shared} {h':Heap} {t':Nat} (I:Inv X pins σ H s) (ch:List Addr)
    (hch:∀ b∈ch,X.s₀.heap.get? b=none/\b≠X.env.locals/\(∀ x c,X.env.cells.lookup x=some c->c≠b)/\(∀ p∈X.pn++pins,p.1≠b)/\H b=none)
    (keep:∀ b o,b∉frs X.stack->b∉ch->s.heap.get? b=some o->h'.get? b=some o)
    (slot:∀ b o,b∈frs X.stack->s.heap.get? b=some o->∃ sl,h'.get? b=some { o with slots:=sl }):Inv X pins σ H { s with heap:=h',toks:=t' }:=by
  have sub:=I.stkSub
  have sup:∀ b∈X.fs,b∈frs X.stack:=fun b hb=>by
    rcases I.ok.stk with e|⟨e,hf⟩
    . rw [e];exact hb
    . rw [e];unfold frs;rw [List.filterMap_cons,hf];exact List.mem_cons_of_mem _ hb
  have neL:∀ b o,X.s₀.heap.get? b=some o->b≠X.env.locals:=fun b o e=>Nat.ne_of_lt (Nat.lt_of_lt_of_le (Heap.lt_size e) I.ok.above)
  have nch:∀ b o,X.s₀.heap.get? b=some o->b∉ch:=fun b o e z=>by rw [(hch b z).1] at e;cases e
  have any:∀ b o,b∉ch->s.heap.get? b=some o->∃ sl,h'.get? b=some { o with slots:=sl }:=fun b o hc e=>by
    by_cases hb:b∈frs X.stack
    . exact slot b o hb e
    . exact ⟨o.slots,keep b o hb hc e⟩
  have lch:X.env.locals∉ch:=fun z=>(hch _ z).2.1 rfl
  have cch:∀ x c,X.env.cells.lookup x=some c->c∉ch:=fun x c e z=>(hch c z).2.2.1 x c e rfl
  have cellK:∀ x c v,X.env.cells.lookup x=some c->s.heap.IsCell c v->h'.IsCell c v:=fun x c v e ⟨o,ho,hd⟩=>by
    obtain ⟨sl,q⟩:=any c o (cch x c e) ho
    exact ⟨_,q,hd⟩
  refine ⟨I.ok,I.os,I.bare,⟨fun b o e n hb hx=>?_,fun b o e n hb hx=>?_,I.base.free,fun b o e hx=>?_,I.base.tups,I.base.frzs,I.base.tbls⟩,?_,fun x c e=>?_,I.free,I.freeC,fun p hp=>?_,fun b o e=>?_,I.len⟩
  . exact keep b o (fun z=>(List.mem_cons.mp (sub b z)).elim (neL b o e) hb) (nch b o e) (I.base.keep b o e n hb hx)
  . obtain ⟨sl,q⟩:=I.base.slot b o e n hb hx
    obtain ⟨sl',q'⟩:=slot b _ (sup b hb) q
    exact ⟨sl',q'⟩
  . obtain ⟨o',q⟩:=I.base.there b o e hx
    obtain ⟨sl,q'⟩:=any b o' (nch b o e) q
    exact ⟨_,q'⟩
  . obtain ⟨m,⟨o,es,ep,ho,r⟩,hl⟩:=I.loc
    obtain ⟨sl,q⟩:=any _ o lch ho
    refine ⟨m,⟨_,es,ep,q,r⟩,fun i x v h1 h2 h3=>?_⟩
    obtain ⟨u,ru,l⟩:=hl i x v h1 h2 h3
    refine ⟨u,ru,?_⟩
    rcases l with l|⟨k,c,e,z⟩
    . exact .inl l
    . exact .inr ⟨k,c,e,cellK x c _ e z⟩
  . obtain ⟨v,z⟩:=I.cell x c e
    exact ⟨v,cellK x c v e z⟩
  . obtain ⟨e,n,ne,nf,d⟩:=I.pin p hp
    exact ⟨keep _ _ (fun z=>(List.mem_cons.mp (sub _ z)).elim ne nf) (fun z=>(hch _ z).2.2.2.1 p hp rfl) e,n,ne,nf,d⟩
  . have tr:∀ c u,H c=some u->c∉frs X.stack/\c∉ch:=fun c u z=>⟨fun w=>(by rw [I.stkFree c w] at z;cases z),fun w=>(by rw [(hch c w).2.2.2.2] at z;cases z)⟩
    refine (I.hok b o e).stay (fun c u hc q=>?_) (fun _ q=>q) (fun _ _ q=>q) fun _ _ q=>q
    rcases hc with hc|hc
    . subst hc;exact keep c u (tr c _ e).1 (tr c _ e).2 q
    . exact keep c u (tr c _ hc).1 (tr c _ hc).2 q
noncomputable def Tr (h:Heap) (H:Hp) (old:Heap) (av:List Addr) (ea:Addr) (vs:Array Value):Prop:=∃ T oT ts x,vs[1]?=some (.ref T)/\T≠ea/\h.get? T=some oT/\oT.data=.fields ts/\ts[3]?=some x/\H T=none/\old.get? T=none/\T∉av
noncomputable def XFl (H:Hp) (old:Heap) (od:Option Addr) (c:Str) (n:Int):Prop:=n=0∨∃ d i,n=2 * i + 1/\od=some d/\H d=some (.xd [(attrOf c,.int i)])/\old.get? d=none
theorem XFl.old {H:Hp} {old old':Heap} {od:Option Addr} {c:Str} {n:Int} (h:XFl H old od c n) (k:∀ b,old.get? b=none->old'.get? b=none):XFl H old' od c n:=h.imp id fun ⟨d,i,h1,h2,h3,h4⟩=>⟨d,i,h1,h2,h3,k _ h4⟩
noncomputable def Fly (K:PySem.W.Frag) (old:Heap) (av:List Addr) (ea:Addr) (c:Str) (n:Int) (h:Heap) (H:Hp) (tr:Bool):Prop :=
  ∃ C oe vs a0,PySem.W.nsIn K mainGlobals c=some (some (.ref C))/\h.get? ea=some oe/\oe.cls=.ref C/\oe.data=.fields vs/\vs[0]?=some a0/\H ea=none/\old.get? ea=none/\ea∉av/\XFl H old oe.dict c n /\
    (if tr=true then Tr h H old av ea vs else vs[1]?=some .none)
noncomputable def CXv (P:Program) (w:World) (K:PySem.W.Frag):CXT:=fun outer H s E e s'=>∃ ea c n H',e=.ref ea/\s'.os=s.os/\PyProof.Rows.AllBare s'.gens/\Un (frs outer) [] H H' s.heap s'.heap/\HOk P w H' s'.heap/\Fly K s.heap [] ea c n s'.heap H' true/\E (enc c n) none H'
noncomputable def PassV (X:Cx) (W:Wi):Prop:=∀ pins σ H s ea c n tr,Inv X pins σ H s->Fly X.K X.s₀.heap ((X.pn++pins).map (·.1)) ea c n s.heap H tr->W c n σ H->X.xe (.ref ea) s
section
variable {X:Cx} {pins:List (Addr×Obj)} {σ:St} {H:Hp} {s:Shared} {ea:Addr} {c:Str} {n:Int} {tr:Bool}
theorem rec_ok (I:Inv X pins σ H s) {b:Addr} {o:Obj} {vs:Array Value} (e:s.heap.get? b=some o) (d:o.data=.fields vs) (hold:X.s₀.heap.get? b=none) (hn:H b=none) (hp:∀ p∈X.pn++pins,p.1≠b) :
    X.s₀.heap.get? b=none/\b≠X.env.locals/\(∀ x c,X.env.cells.lookup x=some c->c≠b)/\(∀ p∈X.pn++pins,p.1≠b)/\H b=none:=by
  refine ⟨hold,fun z=>?_,fun x c hc z=>?_,hp,hn⟩
  . obtain ⟨m,⟨o',es,ep,ho,hd,_⟩,_⟩:=I.loc
    rw [<- z,e] at ho;cases ho;rw [d] at hd;cases hd
  . obtain ⟨v,o',ho,hd⟩:=I.cell x c hc
    rw [z,e] at ho;cases ho;rw [d] at hd;cases hd
theorem objok_here {P:Program} {w:World} {H:Hp} {h:Heap} {a:Addr} {o:HO} (x:ObjOk P w H h a o):∃ u,h.get? a=some u:=by
  induction o with
  | lst xs=>obtain ⟨z,its,n,r,e⟩:=x;exact ⟨_,e⟩
  | tup xs=>obtain ⟨z,its,r,ob,e,c⟩:=x;exact ⟨_,e⟩
  | dK kvs=>obtain ⟨z,y,vs,r,ob,es,ep,e,c⟩:=x;exact ⟨_,e⟩
  | dT kvs=>obtain ⟨z,y,xs,r,ob,es,ep,e,c⟩:=x;exact ⟨_,e⟩
  | set S n=>obtain ⟨ob,es,ep,t,e,c⟩:=x;exact ⟨_,e⟩
  | ins C dx fs=>obtain ⟨d,z,ne,e,_⟩:=x;exact ⟨_,e⟩
  | own y=>obtain ⟨ob,e⟩:=x;exact ⟨_,e⟩
  | xd fs=>obtain ⟨mA,⟨od,es,ep,e,c⟩,r⟩:=x;exact ⟨_,e⟩
  | rng lo hi=>obtain ⟨t,u,v,e⟩:=x;exact ⟨_,e⟩
  | frz ob u ih=>obtain ⟨e,q⟩:=x;exact ⟨_,e⟩
  | tbl ps=>exact ⟨_,(show h.get? a=some { cls:=.none,data:=.fields ps } from x)⟩
  | tab q=>obtain ⟨_,e,_⟩:=x;exact ⟨_,e⟩
  | cod q=>obtain ⟨_,_,_,e,_⟩:=x;exact ⟨_,e⟩
  | met f y=>exact ⟨_,(show h.get? a=some (PySem.W.methodObj (.ref f) (.ref y)) from x)⟩
  | ext φ=>obtain ⟨p,⟨o,e⟩,st⟩:=x;exact ⟨_,e⟩
theorem fly_moved (I:Inv X pins σ H s) {ch:List Addr} {h':Heap} {t':Nat} (hch:∀ b∈ch,∃ o vs,s.heap.get? b=some o/\o.data=.fields vs/\X.s₀.heap.get? b=none/\H b=none/\b∉(X.pn++pins).map (·.1))
    (st:(PySem.W.hideAll s.heap (frs X.stack++ch)).StaysIn h') (up:s.heap.UpToSlots h'):Inv X pins σ H { s with heap:=h',toks:=t' }:=by
  refine Inv.moved I ch (fun b hb=>?_) (fun b o h1 h2 e=>st b o (PySem.W.hideAll_get _ e (by rw [List.mem_append];exact fun z=>z.elim h1 h2))) (fun b o hb e=>?_)
  . obtain ⟨o,vs,e,d,h1,h2,h3⟩:=hch b hb
    exact rec_ok I e d h1 h2 fun p hp z=>h3 (List.mem_map.mpr ⟨p,hp,z⟩)
  . obtain ⟨_,o',ho,hnf⟩:=I.stack.mem hb
    rw [e] at ho;cases ho
    exact up b o e hnf
theorem fly_new (I:Inv X pins σ H s) (hex:X.ex=[]) {ch:List Addr} {h':Heap} {T:Addr} {oT:Obj} {ts:Array Value} (hch:∀ b∈ch,∃ o vs,s.heap.get? b=some o/\o.data=.fields vs/\X.s₀.heap.get? b=none/\H b=none/\b∉(X.pn++pins).map (·.1))
    (up:s.heap.UpToSlots h') (hT:h'.get? T=some oT) (dT:oT.data=.fields ts) (hn:(PySem.W.hideAll s.heap (frs X.stack++ch)).get? T=none) :
    H T=none/\X.s₀.heap.get? T=none/\T∉(X.pn++pins).map (·.1):=by
  by_cases hc:T∈ch
  . obtain ⟨o,vs,e,d,h1,h2,h3⟩:=hch T hc
    exact ⟨h2,h1,h3⟩
  have hf:T∉frs X.stack:=fun z=>by
    obtain ⟨_,o',ho,hnf⟩:=I.stack.mem z
    obtain ⟨sl,q⟩:=up T o' ho hnf
    rw [hT] at q;cases q
    exact hnf ts dT
  have hs:s.heap.get? T=none:=by
    cases e:s.heap.get? T with
    | none=>rfl
    | some o=>rw [PySem.W.hideAll_get _ e (by rw [List.mem_append];exact fun z=>z.elim hf hc)] at hn;cases hn
  refine ⟨?_,?_,fun z=>?_⟩
  . cases e:H T with
    | none=>rfl
    | some u =>
      obtain ⟨o,z⟩:=objok_here (I.hok T u e)
      rw [hs] at z;cases z
  . cases e:X.s₀.heap.get? T with
    | none=>rfl
    | some o =>
      obtain ⟨o',q⟩:=I.base.there T o e (by rw [hex];simp)
      rw [hs] at q;cases q
  . obtain ⟨p,hp,e⟩:=List.mem_map.mp z
    have:=(I.pin p hp).1
    rw [e,hs] at this;cases this
end
end Vl
namespace Vl
open PySem PySem.Spec L2
section
variable {X:Cx} {pins:List (Addr×Obj)} {σ:St} {H:Hp} {s:Shared} {ea:Addr} {c:Str} {n:Int} {tr:Bool}
theorem fly_ch (I:Inv X pins σ H s) (F:Fly X.K X.s₀.heap ((X.pn++pins).map (·.1)) ea c n s.heap H tr) :
    ∃ ch:List Addr,ea∈ch/\(∀ b∈ch,∃ o vs,s.heap.get? b=some o/\o.data=.fields vs/\X.s₀.heap.get? b=none/\H b=none/\b∉(X.pn++pins).map (·.1)) /\
      ∃ C oe vs a0,PySem.W.nsIn X.K mainGlobals c=some (some (.ref C))/\s.heap.get? ea=some oe/\oe.cls=.ref C/\oe.data=.fields vs/\vs[0]?=some a0/\XFl H X.s₀.heap oe.dict c n/\X.s₀.heap.get? ea=none/\H ea=none/\ea∉(X.pn++pins).map (·.1) /\
        (if tr=true then ∃ T oT ts x,vs[1]?=some (.ref T)/\T∈ch/\T≠ea/\s.heap.get? T=some oT/\oT.data=.fields ts/\ts[3]?=some x else vs[1]?=some .none):=by
  obtain ⟨C,oe,vs,a0,h1,h2,h3,h4,h5,h6,h7,h8,h9,h10⟩:=F
  cases tr with
  | false =>
    refine ⟨[ea],by simp,fun b hb=>?_,C,oe,vs,a0,h1,h2,h3,h4,h5,h9,h7,h6,h8,h10⟩
    obtain rfl:b=ea:=by simpa using hb
    exact ⟨oe,vs,h2,h4,h7,h6,h8⟩
  | true =>
    rw [if_pos rfl] at h10
    obtain ⟨T,oT,ts,x,t1,t2,t3,t4,t5,t6,t7,t8⟩:=h10
    refine ⟨[ea,T],by simp,fun b hb=>?_,C,oe,vs,a0,h1,h2,h3,h4,h5,h9,h7,h6,h8,?_⟩
    . rcases List.mem_cons.mp hb with rfl|hb
      . exact ⟨oe,vs,h2,h4,h7,h6,h8⟩
      . obtain rfl:b=T:=by simpa using hb
        exact ⟨oT,ts,t3,t4,t7,t6,t8⟩
    . rw [if_pos rfl]
      exact ⟨T,oT,ts,x,t1,by simp,t2,t3,t4,t5⟩
theorem dict_mapF (o:Obj) (f):(o.mapFields f).dict=o.dict:=by
  unfold Obj.mapFields
  split <;> rfl
theorem entry_d {M:Model} {A:Around} {base:Heap} {env:Env} {outer:List Env} {L e:Addr} {oe:Obj} {vs:Array Value} {hd0 a0:Value} {b0:Bool} {Q:Unit->Shared->Prop} {E:Value->Shared->Prop} (hfr:A.frames=some (env::outer)) (hl:s.heap.FunFrames base (env::outer)) (hf:env.frame=some L)
    (he:s.heap.get? e=some oe) (hkb:base.StaysIn s.heap) (hen:base.get? e=none) (hd:oe.data=.fields vs) (hsz:1 < vs.size) (h0:vs[0]?=some a0)
    (k:∀ h',Heap.NotedW base (env::outer) e oe.cls a0 (rawInt L) s.heap h'->(∀ o',h'.get? e=some o'->o'.dict=oe.dict)->Q () { s with heap:=h' }) :
    wpAny M A (frameOf env >>= fun fr=>entryPlaceOf L b0 >>= fun pl=>EntryCells.newEntry hd0 fr .none (rawInt L) .none pl >>= fun t=>setField (.ref e) 1 t) Q E s:=by
  have nofr:e∉(env::outer).filterMap (·.frame):=fun z=>by
    obtain ⟨_,o,ho,nf⟩:=hl.mem z
    rw [he] at ho;cases ho;exact nf vs hd
  refine wpAny_bind (wpAny_frameOf_fun hfr hl hf fun g ⟨_,g2,g3⟩=>wpAny_bind (wpAny_entryPlaceOf fun pl hpl=>?_))
  unfold EntryCells.newEntry newFields
  refine wpAny_bind (wpAny_newObj_type ?_ (hpl.sizeOk5 _ _ _ _ _))
  generalize hT:({ cls:=.type "traceback",dict:=none,data:=_ }:Obj)=oT
  have eg:g.get? e=some oe:=(g2 e nofr).trans he
  have kb:base.StaysIn g:=fun b o z=>(g2 b fun w=>by rw [(hl.mem w).1] at z;cases z).trans (hkb b o z)
  have ep:=Heap.get?_push_of_some (h:=g) oT eg
  refine wpAny_setField ep hd hsz ?_
  have ne:g.objs.size≠e:=Nat.ne_of_gt (Heap.lt_size eg)
  have dat:=Obj.data_mapFields hd (·.setIfInBounds 1 (Value.ref g.objs.size))
  have self:=Heap.get?_update_self (Obj.mapFields (·.setIfInBounds 1 (Value.ref g.objs.size))) ep (Obj.isFreed_of_fields dat)
  have other:∀ b o,b≠e->g.get? b=some o->((g.push oT).update e (Obj.mapFields (·.setIfInBounds 1 (Value.ref g.objs.size)))).get? b=some o:=fun b o z w =>
    (Heap.get?_update_other _ _ (Ne.symm z)).trans (Heap.get?_push_of_some _ w)
  have new:((g.push oT).update e (Obj.mapFields (·.setIfInBounds 1 (Value.ref g.objs.size)))).get? g.objs.size=some oT :=
    (Heap.get?_update_other _ _ (Ne.symm ne)).trans (Heap.get?_push_size g (by rw [<- hT];rfl))
  have apart:∀ b o,s.heap.get? b=some o->(∀ ws,o.data≠.fields ws)->b≠e:=fun b o z nf w=>by
    rw [w,he] at z;cases z;exact nf vs hd
  refine k _ ⟨fun b o z=>other b o (fun w=>by rw [w,hen] at z;cases z) (kb b o z),hl.of_keeps fun b o z nf=>?_,?_,fun b o z nf=>?_⟩ fun o' z=>?_
  . obtain ⟨sl,w⟩:=g3 b o z
    exact ⟨_,other b _ (apart b o z nf) w,rfl⟩
  . refine ⟨_,_,g.objs.size,oT,_,self,⟨Obj.cls_mapFields _ _,by rw [Array.getElem?_setIfInBounds_ne (by decide)];exact h0⟩,dat,by simp [hsz],kb.fresh,ne,new,by rw [<- hT],?_⟩
    first|(simp;done)|(rcases hpl with rfl|⟨_,_,_,_,_,_,_,rfl⟩ <;> simp)
  . obtain ⟨sl,w⟩:=g3 b o z
    exact ⟨sl,other b _ (apart b o z nf) w⟩
  . rw [self] at z;cases z;exact dict_mapF _ _
theorem note_any {M:Model} {A:Around} {base:Heap} {env:Env} {outer:List Env} {L e:Addr} {cls a0 fl:Value} {Q:Unit->Shared->Prop} {E:Value->Shared->Prop} (hfr:A.frames=some (env::outer)) (hl:s.heap.FunFrames base (env::outer)) (hf:env.frame=some L)
    {od:Option Addr} (ht:s.heap.TracedAtW base e cls a0 fl) (hod:∀ o',s.heap.get? e=some o'->o'.dict=od) (hkb:base.StaysIn s.heap) (hen:base.get? e=none) (h:∀ h',Heap.NotedW base (env::outer) e cls a0 (rawInt L) s.heap h'->(∀ o',h'.get? e=some o'->o'.dict=od)->Q () { s with heap:=h' }):wpAny M A (noteFrame (.ref e) env) Q E s:=by
  by_cases c:fl=rawInt L
  . subst c;exact wpAny_noteFrame_againW hf ht (h s.heap ⟨hkb,hl,ht,fun b o hb _=>⟨o.slots,hb⟩⟩ hod)
  obtain ⟨oe,vs,T,oT,ts,he,⟨hcls,h0⟩,hd,h1,hnT,hTe,hT,hdT,h3⟩:=ht
  subst hcls
  unfold noteFrame
  simp only [hf]
  refine wpAny_bind (wpAny_field he hd h1 ?_)
  rw [if_pos (show (Value.ref T != Value.none)=true from by simp)]
  refine wpAny_bind (wpAny_field hT hdT h3 ?_)
  rw [if_neg (show ¬ ((fl == rawInt L)=true) from by simpa using c)]
  refine wpAny_bind (wpAny_setField hT hdT (Array.getElem?_eq_some_iff.mp h3).1 ?_)
  have other:∀ b,b≠T->(s.heap.update T (Obj.mapFields (·.setIfInBounds 3 Value.none))).get? b=s.heap.get? b:=fun b hb=>Heap.get?_update_other _ _ (Ne.symm hb)
  have noRecord:∀ b o,s.heap.get? b=some o->(∀ vs,o.data≠.fields vs)->b≠T:=fun b o hb hnf q=>by
    rw [q,hT] at hb;injection hb with hb;subst hb;exact hnf ts hdT
  refine entry_d hfr (hl.of_keeps fun b o hb hnf=>⟨o,(other b (noRecord b o hb hnf)).trans hb,rfl⟩) hf ((other e (Ne.symm hTe)).trans he)
    (fun b o hbo=>(other b fun q=>by rw [q,hnT] at hbo;cases hbo).trans (hkb b o hbo)) hen hd (Array.getElem?_eq_some_iff.mp h1).1 h0
    fun h' ⟨x1,x2,x3,x4⟩ x5=>h h' ⟨x1,x2,x3,fun b o hb hnf=>x4 b o ((other b (noRecord b o hb hnf)).trans hb) hnf⟩ fun o' e'=>(x5 o' e').trans (hod _ he)
theorem look_v {M:Model} {Q:Unit->Shared->Prop} {E:Value->Shared->Prop} {outer:List Env} {L:Addr} (hst:X.stack=X.env::outer) (hf:X.env.frame=some L) (hex:X.ex=[]) (I:Inv X pins σ H s) (F:Fly X.K X.s₀.heap ((X.pn++pins).map (·.1)) ea c n s.heap H tr)
    (hQ:∀ h',Inv X pins σ H { s with heap:=h' }->Fly X.K X.s₀.heap ((X.pn++pins).map (·.1)) ea c n h' H true->s.heap.UpToSlots h'->Q () { s with heap:=h' }):wpAny M X.A (noteFrame (.ref ea) X.env) Q E s:=by
  obtain ⟨ch,he,hch,C,oe,vs,a0,h1,h2,h3,h4,h5,h9,h7,h6,h8,h10⟩:=fly_ch I F
  have hfr:X.A.frames=some (X.env::outer):=by rw [<- hst];exact I.ok.frames
  have hl:s.heap.FunFrames (PySem.W.hideAll s.heap (frs X.stack++ch)) (X.env::outer):=by
    have:=PySem.W.funFrames_hide (as:=frs X.stack++ch) I.stack fun env he b hb=>List.mem_append_left _ (List.mem_filterMap.mpr ⟨env,he,hb⟩)
    rw [hst] at this ⊢;exact this
  have hkb:(PySem.W.hideAll s.heap (frs X.stack++ch)).StaysIn s.heap:=fun b o e=>PySem.W.of_hideAll _ e
  have hn:∀ b∈ch,(PySem.W.hideAll s.heap (frs X.stack++ch)).get? b=none:=fun b hb=>PySem.W.hideAll_none _ (List.mem_append_right _ hb)
  have fin:∀ h',Heap.NotedW (PySem.W.hideAll s.heap (frs X.stack++ch)) (X.env::outer) ea oe.cls a0 (rawInt L) s.heap h'->(∀ o',h'.get? ea=some o'->o'.dict=oe.dict)->Q () { s with heap:=h' }:=fun h' ⟨k1,_,k2,k3⟩ kd=>by
    have I':=fly_moved (t':=s.toks) I hch k1 k3
    obtain ⟨oe',vs',T,oT,ts,e1,⟨e2,e3⟩,e4,e5,e6,e7,e8,e9,e10⟩:=k2
    obtain ⟨n1,n2,n3⟩:=fly_new I hex hch k3 e8 e9 e6
    refine hQ h' I' ⟨C,oe',vs',a0,h1,e1,e2.trans h3,e4,e3,h6,h7,h8,by rw [kd _ e1];exact h9,?_⟩ k3
    rw [if_pos rfl]
    exact ⟨T,oT,ts,_,e5,e7,e8,e9,e10,n1,n2,n3⟩
  cases tr with
  | false =>
    rw [if_neg (by decide)] at h10
    unfold noteFrame
    simp only [hf]
    refine wpAny_bind (wpAny_field h2 h4 h10 ?_)
    rw [if_neg (by decide)]
    exact entry_d hfr hl hf h2 hkb (hn _ he) h4 (Array.getElem?_eq_some_iff.mp h10).1 h5 fin
  | true =>
    rw [if_pos rfl] at h10
    obtain ⟨T,oT,ts,x,t1,t0,t2,t3,t4,t5⟩:=h10
    exact note_any hfr hl hf ⟨oe,vs,T,oT,ts,h2,⟨rfl,h5⟩,h4,t1,hn _ t0,t2,t3,t4,t5⟩ (fun o' e'=>by rw [h2] at e';cases e';rfl) hkb (hn _ he) fin
theorem land_v {M:Model} {A:Around} {fr:Option Addr} {Q:Unit->Shared->Prop} {E:Value->Shared->Prop} (I:Inv X pins σ H s) (F:Fly X.K X.s₀.heap ((X.pn++pins).map (·.1)) ea c n s.heap H true)
    (hQ:∀ h',Inv X pins σ H { s with heap:=h' }->Fly X.K X.s₀.heap ((X.pn++pins).map (·.1)) ea c n h' H true->Q () { s with heap:=h' }) :
    wpAny M A (setFlight (.ref ea) fr) Q E s:=by
  obtain ⟨ch,he,hch,C,oe,vs,a0,h1,h2,h3,h4,h5,h9,h7,h6,h8,h10⟩:=fly_ch I F
  rw [if_pos rfl] at h10
  obtain ⟨T,oT,ts,x,t1,t0,t2,t3,t4,t5⟩:=h10
  have sz:3 < ts.size:=(Array.getElem?_eq_some_iff.mp t5).1
  obtain ⟨_,_,_,_,n2,n1,n3⟩:=hch T t0
  have other:∀ b,b≠T->(s.heap.update T (Obj.mapFields (·.setIfInBounds 3 (fr.elim Value.none fun f=>rawInt f)))).get? b=s.heap.get? b:=fun b hb=>Heap.get?_update_other _ _ (Ne.symm hb)
  unfold setFlight
  refine wpAny_bind (wpAny_field h2 h4 t1 ?_)
  rw [if_pos (show (Value.ref T != Value.none)=true from by simp)]
  refine wpAny_setField t3 t4 sz (hQ _ (fly_moved (t':=s.toks) I hch (fun b o e=>?_) fun b o e hn=>⟨o.slots,(other b fun q=>?_).trans e⟩) ⟨C,oe,vs,a0,h1,(other ea (Ne.symm t2)).trans h2,h3,h4,h5,h6,h7,h8,h9,?_⟩)
  . refine (other b fun q=>?_).trans (PySem.W.of_hideAll _ e)
    rw [q,PySem.W.hideAll_none _ (List.mem_append_right _ t0)] at e;cases e
  . rw [q,t3] at e;cases e;exact hn _ t4
  . rw [if_pos rfl]
    exact ⟨T,_,_,_,t1,t2,Heap.get?_update_self _ t3 (Obj.isFreed_of_fields (Obj.data_mapFields t4 _)),Obj.data_mapFields t4 _,Array.getElem?_setIfInBounds_self_of_lt sz,n1,n2,n3⟩
theorem leave_v {M:Model} {Q:Unit->Shared->Prop} {E:Value->Shared->Prop} {outer:List Env} {L:Addr} (hst:X.stack=X.env::outer) (hf:X.env.frame=some L) (hex:X.ex=[]) (I:Inv X pins σ H s) (F:Fly X.K X.s₀.heap ((X.pn++pins).map (·.1)) ea c n s.heap H tr)
    (hQ:∀ h',Inv X pins σ H { s with heap:=h' }->Fly X.K X.s₀.heap ((X.pn++pins).map (·.1)) ea c n h' H true->Q () { s with heap:=h' }):wpAny M X.A (leaving X.env (.ref ea)) Q E s:=by
  unfold leaving
  exact wpAny_bind (look_v hst hf hex I F fun h' I' F' _=>land_v I' F' hQ)
end
section
variable {P:Program} {w:World} {K:PySem.W.Frag} {mg:Str->Option Value} {base:Heap} {x qual:Str} {st:Stmt} {f:Addr} {fd:FuncData} {N ps:List Str} {k:Nat}
theorem pass_body {scope:Scope} {cdv:Value} {A:Around} {outer:List Env} {s:Shared} {H:Hp} {E:XK}:PassV (cxOf (CXv P w K) P w K mg base N qual scope f cdv A outer s H E) (fun c n _ H'=>E (enc c n) none H'):=by
  intro pins σ H1 s1 ea c n tr I F w1
  refine leave_v (L:=s.heap.objs.size) (outer:=outer) rfl rfl rfl I F fun h' I' F'=>?_
  obtain ⟨C,oe,vs,a0,h1,h2,h3,h4,h5,h6,h7,h8,h9,h10⟩:=F'
  refine ⟨ea,c,n,H1,rfl,I'.os,I'.bare,I'.base,I'.hok,⟨C,oe,vs,a0,h1,h2,h3,h4,h5,h6,h7,by simp,h9,?_⟩,w1⟩
  rw [if_pos rfl] at h10 ⊢
  obtain ⟨T,oT,ts,x,t1,t2,t3,t4,t5,t6,t7,t8⟩:=h10
  exact ⟨T,oT,ts,x,t1,t2,t3,t4,t5,t6,t7,by simp⟩
end
end Vl
namespace Vl
open PySem PySem.Spec L2
theorem zig_inj {a b:Int} (h:zig a=zig b):a=b:=by
  unfold zig at h
  split at h <;> split at h <;> lia
theorem enc_inj {c c':Str} {n n':Int} (h:enc c n=enc c' n'):c=c'/\n=n':=by
  unfold enc at h
  injection h with h1 h2
  exact ⟨h1,zig_inj h2⟩
noncomputable def PassC (X:Cx) (W:Wi):Prop:=∀ (pins:List (Addr×Obj)) (σ:St) (H:Hp) (s:Shared) (e:Value) (s':Shared),Inv X pins σ H s ->
  CXv X.prog X.w X.K X.stack H s (fun v _ H'=>∃ c n,v=enc c n/\W c n σ H') e s'->X.xe e s'
theorem passC_F {X:Cx}:PassC X WF:=fun pins σ H s e s' I ⟨ea,c,n,H',_,_,_,_,_,_,_,_,_,w⟩=>w.elim
theorem fly_up {X:Cx} {pins:List (Addr×Obj)} {σ:St} {H H':Hp} {s:Shared} {ea:Addr} {c:Str} {n:Int} {h:Heap} (I:Inv X pins σ H s) (hex:X.ex=[]) (F:Fly X.K s.heap [] ea c n h H' true):Fly X.K X.s₀.heap ((X.pn++pins).map (·.1)) ea c n h H' true:=by
  obtain ⟨C,oe,vs,a0,h1,h2,h3,h4,h5,h6,h7,h8,h9,h10⟩:=F
  have old:∀ b,s.heap.get? b=none->X.s₀.heap.get? b=none:=fun b hb=>by
    cases q:X.s₀.heap.get? b with
    | none=>rfl
    | some o =>
      obtain ⟨o',z⟩:=I.base.there b o q (by rw [hex];simp)
      rw [hb] at z;cases z
  have npin:∀ b,s.heap.get? b=none->b∉(X.pn++pins).map (·.1):=fun b hb z=>by
    obtain ⟨p,hp,e⟩:=List.mem_map.mp z
    have:=(I.pin p hp).1
    rw [e,hb] at this;cases this
  refine ⟨C,oe,vs,a0,h1,h2,h3,h4,h5,h6,old _ h7,npin _ h7,h9.old old,?_⟩
  rw [if_pos rfl] at h10 ⊢
  obtain ⟨T,oT,ts,x,t1,t2,t3,t4,t5,t6,t7,t8⟩:=h10
  exact ⟨T,oT,ts,x,t1,t2,t3,t4,t5,t6,old _ t7,npin _ t7⟩
theorem passC_of {X:Cx} {W:Wi} (hp:PassV X W) (hex:X.ex=[]):PassC X W:=by
  intro pins σ H s e s' I ⟨ea,c,n,H',e1,os,bare,un,hok,F,c0,n0,e2,w⟩
  subst e1
  obtain ⟨rfl,rfl⟩:=enc_inj e2
  exact hp pins σ H' s' ea c n true (I.call' (ch:=[]) os un hok bare (fun b z=>absurd z (by simp))) (fly_up I hex F) w
section
variable {P:Program} {w:World} {K:PySem.W.Frag} {mg:Str->Option Value} {base:Heap} {x qual:Str} {st:Stmt} {f:Addr} {fd:FuncData} {N ps:List Str} {k:Nat}
theorem fn_vB {g:Rho->Ou} (F:Fun K x qual st f fd) (S:FnScope N ps (defScope st))
    (hb:∀ (cdv:Value) (A:Around) (outer:List Env) (s:Shared) (H:Hp) (E:XK) (B:Bs),Room k (A.deeper (PyProof.Rows.envOfC qual (defScope st) s.heap.objs.size f cdv))->(∀ b,s.heap.get? b=none->B.2 b=none) ->
      SSs (cxOf (CXv P w K) P w K mg base N qual (defScope st) f cdv A outer s H E) B (fun c n _ H'=>E (enc c n) none H') (defBody st) g) :
    FnOk P w K mg base (CXv P w K) (k + 1) f fd ps (spV K ps.length fun ds=>fin (g (startR N ds))):=by
  obtain ⟨oc,od,kV,doc,pm,an,cdv,ct,osl,rfl,lk,hcd⟩:=F.ex
  refine fn_of lk hcd S (fun vs H Q E h=>h.1) fun A outer s H vs Q E hr hok h=>?_
  obtain ⟨_,G,ds,e,r,h⟩:=h
  dsimp only at h
  exact ⟨_,hb cdv A outer s H E ⟨G,H,0⟩ hr (fun b n=>by
    cases z:H b with
    | none=>exact z
    | some u=>obtain ⟨o,w⟩:=objok_here (hok _ _ z);rw [n] at w;cases w),startR N ds,G,sr_start e r,fin_post (B:=⟨G,H,0⟩) h⟩
theorem fn_v {g:Rho->Ou} (F:Fun K x qual st f fd) (S:FnScope N ps (defScope st))
    (hb:∀ (cdv:Value) (A:Around) (outer:List Env) (s:Shared) (H:Hp) (E:XK) (B:Bs),Room k (A.deeper (PyProof.Rows.envOfC qual (defScope st) s.heap.objs.size f cdv)) ->
      SSs (cxOf (CXv P w K) P w K mg base N qual (defScope st) f cdv A outer s H E) B (fun c n _ H'=>E (enc c n) none H') (defBody st) g) :
    FnOk P w K mg base (CXv P w K) (k + 1) f fd ps (spV K ps.length fun ds=>fin (g (startR N ds))):=fn_vB F S fun cdv A outer s H E B hr _=>hb cdv A outer s H E B hr
end
noncomputable def gCallX (n:Nat) (g:List D->Rs D):List D->Rs D:=fun ds=>if ds.length=n then g ds else .no
section
variable {X:Cx} {B:Bs} {W:Wi}
theorem se_call {x:Str} {p pos:Pos} {e:Expr} {es:List Expr} {fs:Rho->Rs (List D)} {f:Addr} {fd:FuncData} {ps:List Str} {k n:Nat} {g:List D->Rs D} (F:FnOk X.prog X.w X.K X.mg X.base (CXv X.prog X.w X.K) k f fd ps (spV X.K n g)) (hr:Room k X.A) (hg:Gl X x) (hm:X.mg x=some (.ref f)) (hk:PySem.W.keepIn X.K (.ref f)=true) (hb:Binds X.K fd ps [])
    (hx:PassC X W) (ha:SA X B W (e::es) fs) (hdb:(x == ("__debug__":Str))=false:=by decide) (he:starEach (e::es) X.env=(false,eval e X.env)::starEach es X.env:=by rfl) (hpl:(backTo pos (starEach es X.env)).any (·.1)=false:=by rfl) :
    SE X B W (.Call (.Name x p) (e::es) [] pos) (fA fs (gCallX n g)):=by
  intro pins s σ H Q I h
  refine wpAny_Call_Name_kw (ld_glob I hg hm ?_ hdb)
  have h2:tAF X.K B W fs σ H fun vs H1=>spV X.K n g vs H1 Q fun v _ H'=>∃ c n,v=enc c n/\W c n σ H':=by
    obtain ⟨ρ,G,s,p⟩:=h
    refine ⟨ρ,G,s,?_⟩
    unfold fA at p
    cases e:fs ρ with
    | ex c n=>rw [e] at p;exact p
    | no=>rw [e] at p;exact p
    | ok ds =>
      rw [e] at p
      intro vs H1 G1 x r
      have p:=Post.ext x p
      unfold gCallX at p;dsimp only [Rs.bind] at p
      by_cases hl:ds.length=n
      . rw [if_pos hl] at p
        refine ⟨by rw [<- r.length];exact hl,G1,ds,(s.ext x).ex0,r,?_⟩
        cases e1:g ds with
        | ok d=>rw [e1] at p;exact p
        | ex c n=>rw [e1] at p;exact fun H' G' y=>⟨c,n,rfl,p H' G' y⟩
        | no=>rw [e1] at p;exact p.elim
      . rw [if_neg hl] at p;exact p.elim
  refine PySem.W.callWith_K (h₀:=X.base) I.ok.mod.kin hk (thn (ha pos pins s σ H _ I h2) fun us s1 ⟨vs,H1,I1,r,q⟩=>⟨I1.kIn,?_⟩) he hpl
  have hl:(us++[]).length=ps.length:=by rw [List.append_nil,<- r.length];exact F.len _ _ _ _ q
  have hbb:=hb s1 us I1.kIn hl
  rw [List.append_nil] at hbb
  refine wpAny_call (codeAny_mono (F.run X.A X.stack s1 H1 ⟨us,[]⟩ us vs Q _ hr I1.env0 hbb r q) fun r s' hq=>?_)
  cases r with
  | error e=>exact hx pins σ H1 s1 e s' I1 hq
  | ok fl =>
    cases fl with
    | ret u=>exact I1.after hq
    | next=>exact False.elim hq
    | brk=>exact False.elim hq
    | cont=>exact False.elim hq
theorem exc_obj {K:PySem.W.Frag} {h:Heap} {C:Addr} {bmB:List Value} {newId:String} (Z:K.In h) (q:PySem.W.excIn K C bmB newId=true) :
    ∃ bm N nm qn bs hd sn sub ab col dd k0 k1 k2 k3 k5 mN,h.get? C=some (excClassObj nm qn C N bs bm hd sn sub ab col dd k0 k1 k2 k3 k5 newId)/\h.Ns N mN/\mN "__init__"=none/\OwnTail h bmB bm:=by
  unfold PySem.W.excIn at q
  split at q
  next dd cl sl ho =>
    split at q
    next C1 tl a0 a1 a2 a3 nw a5 hmro hsl =>
      simp only [Bool.and_eq_true,Bool.not_eq_true',beq_iff_eq] at q
      obtain ⟨⟨⟨⟨⟨q1,q2⟩,q3⟩,q4⟩,q5⟩,q6⟩:=q
      subst q1 q2
      obtain ⟨y1,y2,y3,y4,y5,y6,y7,y8,y9,y10,y11⟩:=cl
      dsimp only at hmro q3 q5 q6
      subst hmro q3
      have e:sl=#[a0,a1,a2,a3,some (.builtin nw),a5]:=by
        cases sl
        exact congrArg Array.mk hsl
      rw [e] at ho
      exact ⟨tl,y4,y1,y5,y2,y6,y7,y8,y9,y10,dd,a0,a1,a2,a3,a5,_,Z _ _ ho,.of_isNs (PySem.W.isNs_of_in Z q5),PySem.W.nsMap_none_of_in Z q5 q6,PySem.W.tail_of_in Z q4⟩
    next=>cases q
  next=>cases q
theorem ss_raise {x:Str} {np cpos pos:Pos} {e:Expr} {es:List Expr} {fs:Rho->Rs (List D)} {C:Addr} {bmB bmN:List Value} {Bn Bb newId nid inN initId:String}
    (hp:PassV X W) (hex:X.ex=[]) (hc:X.calm=true) (hg:Gl X x) (hm:X.mg x=some (.ref C)) (hn:PySem.W.nsIn X.K mainGlobals x=some (some (.ref C))) (q:PySem.W.excIn X.K C bmB newId=true)
    (Fn:ExcBaseFacts Bn newId inN bmN) (hBn:bmB.contains (.type Bn)=true) (FB:ExcBaseFacts Bb nid initId bmB)
    (ha:SA X B W (e::es) fs) (hlen:(e::es).length<=1000) (hdb:(x == ("__debug__":Str))=false:=by decide) (he:starEach (e::es) X.env=(false,eval e X.env)::starEach es X.env:=by rfl) (hpl:(backTo cpos (starEach es X.env)).any (·.1)=false:=by rfl) :
    SS X B W (.Raise (some (.Call (.Name x np) (e::es) [] cpos)) none pos) (fun ρ=>oR (fs ρ) ρ fun ds=>if ds.length<=1000 then .ex x 0 ρ else .no):=by
  intro pins s σ H De I ⟨ρ,G,sr,p⟩
  obtain ⟨tl,N,nm,qn,bs,hdct,sn,sub,ab,col,dd,k0,k1,k2,k3,k5,mN,hC,hN,hni,T⟩:=exc_obj I.ok.mod.kin q
  refine wpAny_Raise_call_subU (C:=C) (nm:=nm) (q:=qn) (N:=N) (bs:=bs) (bm:=tl) (hdct:=hdct) (sn:=sn) (sub:=sub) (ab:=ab) (col:=col) (dd:=dd) (k0:=k0) (k1:=k1) (k2:=k2) (k3:=k3) (k5:=k5)
    Fn hBn FB (mN:=mN) (T.hasType FB.hasBase) (I.ok.hd hc) (by rw [he];show (false || (backTo cpos (starEach es X.env)).any (·.1))=false;rw [hpl];rfl) hni (ld_glob I hg hm ⟨rfl,?_⟩ hdb)
  have h2:tAF X.K B W fs σ H fun vs H1=>vs.length<=1000/\W x 0 σ H1:=by
    refine ⟨ρ,G,sr,?_⟩
    dsimp only at p
    cases e:fs ρ with
    | ok ds =>
      rw [e] at p
      dsimp only [oR] at p
      by_cases hl:ds.length<=1000
      . rw [if_pos hl] at p
        exact fun vs H1 G1 y r=>⟨by rw [<- r.length];exact hl,p σ H1 G1 (sr.ext y) y.gg⟩
      . rw [if_neg hl] at p;exact p.elim
    | ex c n=>rw [e] at p;exact fun H1 G1 y=>p σ H1 G1 (sr.ext y) y.gg
    | no=>rw [e] at p;exact p
  have h3:=ha cpos pins s σ H _ I h2
  rw [he] at h3 ⊢
  refine Calls.evalArgs_plain (wpAny_mono h3 (fun us s2 ⟨vs,H1,I1,r,hl,w⟩=>⟨rfl,by rw [<- r.length];exact sz1000 hl,I1.bk _ _ hC,hN.keeps I1.bk,T.keeps I1.bk,fun h' ea hm'=>?_⟩) fun _ _ y=>y)
  have I2:Inv X pins σ H1 { s2 with heap:=h' }:=I1.kept (t':=s2.toks) hm'.keeps
  obtain ⟨t,h1,h2',h3'⟩:=hm'.there
  have new:s2.heap.get? ea=none:=hm'.new
  refine hp pins σ H1 _ ea x 0 false I2 ⟨C,_,_,_,hn,h1,rfl,rfl,rfl,?_,?_,fun z=>?_,.inl rfl,?_⟩ w
  . cases z:H1 ea with
    | none=>rfl
    | some u=>obtain ⟨o,z⟩:=objok_here (I1.hok _ _ z);rw [new] at z;cases z
  . cases z:X.s₀.heap.get? ea with
    | none=>rfl
    | some o=>obtain ⟨o',z⟩:=I1.base.there _ o z (by rw [hex];simp);rw [new] at z;cases z
  . obtain ⟨p,hp,e⟩:=List.mem_map.mp z
    have:=(I1.pin p hp).1
    rw [e,new] at this;cases this
  . rw [if_neg (by decide)];rfl
end
end Vl
namespace Vl
open PySem PySem.Spec L2
noncomputable def Yl (K:PySem.W.Frag) (J:It) (ds:List D) (G:Hp):Prop:=∀ (i:Nat) (G1 H1:Hp),Same G G1->Ext G1 H1 G1 H1 ->
  (∀ d,ds[i]?=some d->J.go i H1/\∀ x H2,J.yld i H1 x H2->∃ G2,Ext G1 H1 G2 H2/\Rep K G2 d x)/\(ds.length<=i->J.stop i H1)
noncomputable def PostI (K:PySem.W.Frag) (W:Wi) (σ:St) (G H:Hp) (r:Rs (List D)) (R:It->Hp->Prop):Prop :=
  match r with
  | .ok ds=>∀ J H' G',Ext G H G' H'->Yl K J ds G'->R J H'
  | .ex c n=>∀ H' G',Ext G H G' H'->W c n σ H'
  | .no=>False
noncomputable def tI (K:PySem.W.Frag) (B:Bs) (W:Wi) (f:Rho->Rs (List D)):TI:=fun σ H R=>∃ ρ G,SR K B σ H ρ G/\PostI K W σ G H (f ρ) R
noncomputable def SI (X:Cx) (B:Bs) (W:Wi) (tg iter:Expr) (f:Rho->Rs (List D)):Prop:=PI X tg iter (tI X.K B W f)
noncomputable def asL:D->Rs (List D)
  | .lst ds=>.ok ds
  | _=>.no
noncomputable def asT:D->Rs (List D)
  | .tup ds=>.ok ds
  | _=>.no
noncomputable def asR:D->Rs (List D)
  | .int n=>if -(2 ^ 62)<=n/\n < 2 ^ 62 then .ok ((List.range n.toNat).map fun (i:Nat)=>.int i) else .no
  | _=>.no
section
variable {X:Cx} {K:PySem.W.Frag} {B:Bs} {W:Wi} {σ:St} {G H:Hp} {ρ:Rho} {tg iter:Expr} {f:Rho->Rs D}
theorem PI.imp {t t':TI} (h:PI X tg iter t) (i:∀ σ H R,t' σ H R->t σ H R):PI X tg iter t':=fun pins s σ H R I q=>h pins s σ H R I (i σ H R q)
theorem yl_tup {a:Addr} {ds:List D} {vs:List V} (q:SqT K G a vs) (r:Reps K G ds vs):Yl K (Itt K a) ds G:=by
  intro i G1 H1 gg e
  have q1:=Same.seqT e.gh (Same.seqT gg q)
  refine ⟨fun d hd=>?_,fun hl=>⟨vs,q1,by rw [<- r.length];exact hl⟩⟩
  obtain ⟨v,hv,rv⟩:=r.get hd
  refine ⟨⟨vs,v,q1,hv⟩,fun x H2 y=>?_⟩
  obtain ⟨e2,y⟩:=y
  subst e2
  have:=y vs q1
  rw [hv] at this
  cases this
  exact ⟨G1,e,rv.mono gg⟩
theorem yl_range {lo:Int} {n:Nat}:Yl K (Itr lo n) ((List.range n).map fun (i:Nat)=>.int (lo + i)) G:=by
  intro i G1 H1 gg e
  refine ⟨fun d hd=>?_,fun hl=>show n<=i by simpa using hl⟩
  have hi:i < n:=by have:=(List.getElem?_eq_some_iff.mp hd).1;simpa using this
  refine ⟨hi,fun x H2 y=>?_⟩
  obtain ⟨e2,y⟩:=y
  subst e2 y
  rw [List.getElem?_map,List.getElem?_range hi] at hd
  cases hd
  exact ⟨G1,e,rep_int.mpr rfl⟩
theorem post_as {as:D->Rs (List D)} {r:Rs D} {R:It->Hp->Prop} {Q:VK} (p:PostI K W σ G H (r.bind as) R) (h:∀ d v H' G' ds,as d=.ok ds->Ext G H G' H'->Rep K G' d v->(∀ J H'' G'',Ext G' H' G'' H''->Yl K J ds G''->R J H'')->Q v H') (hn:∀ d c n,as d≠.ex c n):Post K W σ G H r Q:=by
  cases r with
  | ok d =>
    intro v H' G' e rv
    have p':PostI K W σ G H (as d) R:=p
    cases e1:as d with
    | ok ds=>rw [e1] at p';exact h d v H' G' ds e1 e rv fun J H'' G'' e' y=>p' J H'' G'' (e.trans e') y
    | ex c n=>exact (hn d c n e1).elim
    | no=>rw [e1] at p';exact p'.elim
  | ex c n=>exact p
  | no=>exact p
theorem si_list (hi:SE X B W iter f):SI X B W tg iter (fun ρ=>(f ρ).bind asL):=by
  refine PI.imp (pi_list hi) fun σ H R ⟨ρ,G,s,p⟩=>⟨ρ,G,s,post_as p (fun d v H' G' ds e1 e rv k=>?_) (fun d c n z=>by cases d <;> cases z)⟩
  cases d with
  | lst es =>
    cases e1
    obtain ⟨a,vs,rfl,q,rr⟩:=rep_lst.mp rv
    refine ⟨a,rfl,⟨vs,e.gh.seq q⟩,k _ H' G' (.refl e.gh e.tp) ?_⟩
    intro i G1 H1 gg e'
    have q1:=e'.gh.seq (gg.seq q)
    refine ⟨fun d hd=>?_,fun hl=>⟨vs,q1,by rw [<- rr.length];exact hl⟩⟩
    obtain ⟨v,hv,rv⟩:=rr.get hd
    refine ⟨⟨vs,v,q1,hv⟩,fun x H2 y=>?_⟩
    obtain ⟨e2,y⟩:=y
    subst e2
    have:=y vs q1
    rw [hv] at this
    cases this
    exact ⟨G1,e',rv.mono gg⟩
  | _=>cases e1
theorem si_tup (hi:SE X B W iter f):SI X B W tg iter (fun ρ=>(f ρ).bind asT):=by
  refine PI.imp (pi_tup hi) fun σ H R ⟨ρ,G,s,p⟩=>⟨ρ,G,s,post_as p (fun d v H' G' ds e1 e rv k=>?_) (fun d c n z=>by cases d <;> cases z)⟩
  cases d with
  | tup es =>
    cases e1
    obtain ⟨a,vs,rfl,q,rr⟩:=rep_tup.mp rv
    exact ⟨a,rfl,⟨vs,Same.seqT e.gh q⟩,k _ H' G' (.refl e.gh e.tp) (yl_tup q rr)⟩
  | _=>cases e1
theorem si_range {e:Expr} {p1 p2:Pos} (hm:X.mg "range"=none) (hi:SE X B W e f) (hgl:Gl X "range":=by rfl) (hst:starEach [e] X.env=[(false,eval e X.env)]:=by rfl):SI X B W tg (.Call (.Name "range" p1) [e] [] p2) (fun ρ=>(f ρ).bind asR):=by
  refine PI.imp (pi_range1 hgl hm (pa_cons hi pa_nil (by rw [hst];rfl)) hst) fun σ H R ⟨ρ,G,s,p⟩=>⟨ρ,G,s,post_as p (fun d v H' G' ds e1 e rv k=>?_) (fun d c n z=>by cases d <;> first|cases z|(simp only [asR] at z;split at z <;> cases z))⟩
  cases d with
  | int n =>
    simp only [asR] at e1
    by_cases c:-(2 ^ 62)<=n/\n < 2 ^ 62
    . rw [if_pos c] at e1
      cases e1
      refine ⟨n,by rw [rep_int.mp rv],c.1,c.2,k _ H' G' (.refl e.gh e.tp) ?_⟩
      have:=yl_range (K:=X.K) (G:=G') (lo:=0) (n:=n.toNat)
      simpa using this
    . rw [if_neg c] at e1;cases e1
  | _=>cases e1
noncomputable def NoOw (ρ:Rho):Prop:=∀ (i:Nat) (z:Sl),ρ[i]?=some z->z.own=true->False
noncomputable def KeepNo (h:Tg):Prop:=∀ d ρ ρ',NoOw ρ->h d ρ=some ρ'->NoOw ρ'
noncomputable def startCR (nt:Nat) (caps:List Nat) (ρ:Rho):Rho:=List.replicate nt .no++caps.map fun i=>match ρ[i]? with|some (.fz d)=>.fz d|_=>.no
noncomputable def compD (h:Tg) (ft:Rho->Rs Bool) (fe:Rho->Rs D):List D->Rho->Rs (List D)
  | [],_=>.ok []
  | d::ds,ρ=>match h d ρ with
    | none=>.no
    | some ρ1=>(ft ρ1).bind fun b=>if b=true then (fe ρ1).bind fun y=>(compD h ft fe ds ρ1).bind fun ys=>.ok (y::ys) else compD h ft fe ds ρ1
theorem noOw_start {nt:Nat} {caps:List Nat} {ρ:Rho}:NoOw (startCR nt caps ρ):=fun i z q w=>by
  unfold startCR at q
  by_cases hi:i < (List.replicate nt Sl.no).length
  . rw [List.getElem?_append_left hi,List.getElem?_replicate] at q
    split at q <;> cases q
    cases w
  . rw [List.getElem?_append_right (by lia),List.getElem?_map] at q
    cases e:caps[i - (List.replicate nt Sl.no).length]? with
    | none=>rw [e] at q;cases q
    | some k =>
      rw [e] at q
      have q':(match ρ[k]? with|some (.fz d)=>Sl.fz d|_=>.no)=z:=Option.some.inj q
      split at q' <;> (subst q';cases w)
theorem sr_comp {nt:Nat} {caps:List Nat} {p:Addr} (s:SR K B σ H ρ G) (hp:H p=none):SR K ⟨G,H,0⟩ (startC nt caps σ) (upd H p (.lst [])) (startCR nt caps ρ) G:=by
  refine ⟨ext_own s.en.gh s.en.tp hp,by simp [startC,startCR],fun i d q=>?_,fun i z q w=>(noOw_start i z q w).elim,fun i j z z' a q w=>(noOw_start i z q w).elim,fun i ds a q=>(noOw_start i _ q rfl).elim,s.co.same (ext_own s.en.gh s.en.tp hp).hh⟩
  unfold startCR at q
  unfold startC
  by_cases hi:i < nt
  . rw [List.getElem?_append_left (by simpa using hi),List.getElem?_replicate] at q
    split at q <;> cases q
  . rw [List.getElem?_append_right (by simpa using hi),List.getElem?_map,List.length_replicate] at q
    rw [List.getElem?_append_right (by simpa using hi),List.getElem?_map,List.length_replicate]
    cases e:caps[i - nt]? with
    | none=>rw [e] at q;cases q
    | some k =>
      rw [e] at q
      have q':(match ρ[k]? with|some (.fz d)=>Sl.fz d|_=>.no)=.fz d:=Option.some.inj q
      cases e2:ρ[k]? with
      | none=>rw [e2] at q';cases q'
      | some z =>
        rw [e2] at q'
        cases z with
        | fz d' =>
          cases q'
          obtain ⟨v,h1,h2⟩:=s.fz k _ e2
          exact ⟨v,by simp [h1],h2⟩
        | no=>cases q'
        | ow _=>cases q'
        | od _=>cases q'
        | op _=>cases q'
theorem SR.off {p:Addr} {vs us:List V} (s:SR K B σ H ρ G) (hn:NoOw ρ) (hp:H p=some (.lst vs)) (g:G p=none) (b:B.2 p=none):SR K B σ (upd H p (.lst us)) ρ G:=by
  refine ⟨⟨s.en.gg,fun c o z=>?_,fun c o z=>?_,fun c xs z=>?_,s.en.nw⟩,s.len,s.fz,fun i z q w=>(hn i z q w).elim,fun i j z z' a q w=>(hn i z q w).elim,fun i ds a q=>(hn i _ q rfl).elim,s.co.upd hp (fun _ z=>by cases z)⟩
  . rw [upd_ne (ne_of_none z b)];exact s.en.hh c o z
  . rw [upd_ne (ne_of_none z g)];exact s.en.gh c o z
  . by_cases w:c=p
    . subst w;rw [upd_same] at z;cases z
    . rw [upd_ne w] at z;exact s.en.tp c xs z
noncomputable def gComp (h:Tg) (ft:Rho->Rs Bool) (fe:Rho->Rs D) (nt:Nat) (caps:List Nat) (f:Rho->Rs (List D)):Rho->Rs D:=fun ρ =>
  (f ρ).bind fun ds=>noExR ((compD h ft fe ds (startCR nt caps ρ)).bind fun ys=>if ys.length<=1000000 then .ok (.lst ys) else .no)
noncomputable def gCompX (h:Tg) (ft:Rho->Rs Bool) (fe:Rho->Rs D) (nt:Nat) (caps:List Nat) (f:Rho->Rs (List D)):Rho->Rs D:=fun ρ =>
  (f ρ).bind fun ds=>match compD h ft fe ds (startCR nt caps ρ) with
    | .ok ys=>if ys.length<=1000000 then .ok (.lst ys) else .no
    | .ex c n=>if ds.length<=1000000 then .ex c n else .no
    | .no=>.no
theorem compD_nox {h:Tg} {ft:Rho->Rs Bool} {fe:Rho->Rs D}:∀ {ds:List D} {ρ:Rho},compD h (fun ρ=>noExR (ft ρ)) (fun ρ=>noExR (fe ρ)) ds ρ=noExR (compD h ft fe ds ρ)
  | [],_=>rfl
  | d::ds,ρ=>by
    unfold compD
    cases h d ρ with
    | none=>rfl
    | some ρ1 =>
      have ih:=compD_nox (h:=h) (ft:=ft) (fe:=fe) (ds:=ds) (ρ:=ρ1)
      dsimp only
      generalize compD h (fun ρ=>noExR (ft ρ)) (fun ρ=>noExR (fe ρ)) ds ρ1=x at ih ⊢
      generalize compD h ft fe ds ρ1=y at ih ⊢
      subst ih
      cases ft ρ1 with
      | ok b =>
        cases b with
        | true =>
          cases fe ρ1 with
          | ok z=>cases y <;> rfl
          | _=>rfl
        | false=>rfl
      | _=>rfl
theorem gComp_X {h:Tg} {ft:Rho->Rs Bool} {fe:Rho->Rs D} {nt:Nat} {caps:List Nat} {f:Rho->Rs (List D)}:gComp h ft fe nt caps f=gCompX h (fun ρ=>noExR (ft ρ)) (fun ρ=>noExR (fe ρ)) nt caps f:=funext fun ρ=>by
  unfold gComp gCompX
  cases f ρ with
  | ok ds =>
    dsimp only [Rs.bind]
    rw [compD_nox]
    cases compD h ft fe ds (startCR nt caps ρ) with
    | ok ys=>show noExR (if ys.length<=1000000 then _ else _)=if ys.length<=1000000 then _ else _;by_cases c:ys.length<=1000000 <;> simp only [c,if_true,if_false] <;> rfl
    | _=>rfl
  | _=>rfl
theorem nox_ne {α:Type} {r:Rs α} {c:Str} {n:Int} (e:noExR r=.ex c n):False:=by cases r <;> cases e
theorem se_noxR {e:Expr} {f:Rho->Rs D} (h:SE X.nox B WF e f):SE X B W e (fun ρ=>noExR (f ρ)) :=
  fun pins s σ H Q I ⟨ρ,G,sr,p⟩=>PE.nox h pins s σ H Q I ⟨ρ,G,sr,by dsimp only at p;cases e:f ρ <;> (rw [e] at p;first|exact p|exact p.elim)⟩
theorem st_noxR {e:Expr} {f:Rho->Rs Bool} (h:ST X B WF e f):ST X B WF e (fun ρ=>noExR (f ρ)) :=
  fun pins s σ H Q I ⟨ρ,G,sr,p⟩=>h pins s σ H Q I ⟨ρ,G,sr,by dsimp only at p;cases e:f ρ <;> (rw [e] at p;first|exact p|exact p.elim)⟩
noncomputable def Px (X:Cx) (W:Wi):Prop:=PassV X W/\X.ex=[]/\∃ outer L,X.stack=X.env::outer/\X.env.frame=some L
theorem fly_but {old h h':Heap} {av:List Addr} {ea C:Addr} {c:Str} {n:Int} {tr:Bool} {m:Str->Option Value} (F:Fly K old av ea c n h H tr) (hn:h.Ns C m) (hs:Heap.SameBut C h h'):Fly K old av ea c n h' H tr:=by
  have ne:∀ b o (vs:Array Value),h.get? b=some o->o.data=.fields vs->h'.get? b=some o:=fun b o vs e d=>(hs.2 b fun z=>by
    obtain ⟨o',es,ep,ho,hd,_⟩:=hn
    rw [z,ho] at e;cases e;rw [hd] at d;cases d).trans e
  obtain ⟨D,oe,vs,a0,h1,h2,h3,h4,h5,h6,h7,h8,h9,h10⟩:=F
  refine ⟨D,oe,vs,a0,h1,ne _ _ _ h2 h4,h3,h4,h5,h6,h7,h8,h9,?_⟩
  cases tr with
  | false=>exact h10
  | true =>
    rw [if_pos rfl] at h10 ⊢
    obtain ⟨T,oT,ts,x,t1,t2,t3,t4,t5⟩:=h10
    exact ⟨T,oT,ts,x,t1,t2,ne _ _ _ t3 t4,t4,t5⟩
theorem wp_tests_nil {prog:Program} {w:World} {A:Around} {E:Value->Shared->Prop} {s:Shared} {env:Env} {Q:Bool->Shared->Prop} (h:Q true s) :
    wpAny (model prog w) A (forIn ([]:List Expr) true fun c r=>if r=true then do let ok <- isTrue c env (eval c env);pure (ForInStep.yield ok) else pure (ForInStep.yield r)) Q E s:=by
  simp only [List.forIn_nil]
  exact wpAny_pure h
set_option maxHeartbeats 8000000 in
theorem comp_core {elt:Expr} {ifs:List Expr} {sc:Scope} {pos:Pos} {N:List Str} {nt:Nat} {caps:List Nat} {h:Tg} {ft:Rho->Rs Bool} {fe:Rho->Rs D} {fi:Rho->Rs (List D)}
    (c:Caps X sc N nt caps) (hc:X.calm=true) (hnames:∀ y∈sc.names,y.2=.local->sc.names.lookup y.1=some .local) (hi:SI X B W tg iter fi) (hno:KeepNo h)
    (ht:∀ s₀ H₀ C ex pins B',SG (compX X N s₀ H₀ sc (clOf sc X.env) C ex pins) B' tg h)
    (hif:(ifs=[]/\ft=fun _=>.ok true)∨∃ c,ifs=[c]/\(∀ ρ c n,ft ρ≠.ex c n)/\∀ s₀ H₀ C ex pins B',ST (compX X N s₀ H₀ sc (clOf sc X.env) C ex pins) B' WF c ft)
    (he:∀ s₀ H₀ C ex pins B' E W',PassC ((compX X N s₀ H₀ sc (clOf sc X.env) C ex pins).wish E) W'->SE ((compX X N s₀ H₀ sc (clOf sc X.env) C ex pins).wish E) B' W' elt fe)
    (hx:(∀ ρ c n,fe ρ≠.ex c n)∨Px X W) (hs:∀ x,foldedSetIterable iter X.env x=pure x)
    {use:Option (Value->Sem Unit)} {QQ:Value->Shared->Prop} {pins:List (Addr×Obj)} {s:Shared} {σ:St} {H G:Hp} {ρ:Rho} (I:Inv X pins σ H s) (sr:SR X.K B σ H ρ G)
    (p:match gCompX h ft fe nt caps fi ρ with
      | .ok d=>∀ (D' C:Addr) (H' G':Hp) (s5:Shared) (fl:Flow),Ext G H G' H'->Rep X.K G' d (.ref D')->(∃ m,s5.heap.Ns C m)->FpOk X pins H' C->(∀ h',Heap.SameBut C s5.heap h'->Inv X pins σ H' { s5 with heap:=h' })->compPost (model X.prog X.w) X.A X.xe use QQ (.ref D') C (.ok fl) s5
      | .ex c n=>∀ H' G',Ext G H G' H'->W c n σ H'
      | .no=>False) :
    wpAny (model X.prog X.w) X.A (comprehension (.ListComp elt [⟨tg,iter,ifs,0⟩] sc pos) sc X.env (firstIterPos [⟨tg,iter,ifs,0⟩] pos) (newList []) (firstAsync [⟨tg,iter,ifs,0⟩]) (firstIter [⟨tg,iter,ifs,0⟩] X.env) use) QQ X.xe s:=by
  refine wpAny_comprehension_free (use:=use) (cl:=clOf sc X.env) rfl hs (closureFor_clOf (c.cells I)) c.kind hnames ?_
  show wpAny (model X.prog X.w) X.A (eval iter X.env) _ X.xe s
  let PP:List D->Rs (List D)->Prop:=fun ds r=>match r with
    | .ok YS=>YS.length<=1000000/\∀ (D' C:Addr) (H' G':Hp) (s5:Shared) (fl:Flow),Ext G H G' H'->Rep X.K G' (.lst YS) (.ref D')->(∃ m,s5.heap.Ns C m)->FpOk X pins H' C->(∀ h',Heap.SameBut C s5.heap h'->Inv X pins σ H' { s5 with heap:=h' })->compPost (model X.prog X.w) X.A X.xe use QQ (.ref D') C (.ok fl) s5
    | .ex c n=>ds.length<=1000000/\∀ H' G',Ext G H G' H'->W c n σ H'
    | .no=>False
  refine wpAny_mono (hi pins s σ H (fun J H2=>∃ G2 ds,Ext G H G2 H2/\Yl X.K J ds G2/\PP ds (compD h ft fe ds (startCR nt caps ρ))) I ⟨ρ,G,sr,?_⟩) (fun v s1 h1=>wpAny_mono h1 (fun itv s2 h2=>?_) fun _ _ z=>z) fun _ _ z=>z
  . unfold gCompX at p
    cases e:fi ρ with
    | ok ds =>
      rw [e] at p
      dsimp only [Rs.bind] at p
      refine fun J H' G' x y=>⟨G',ds,x,y,?_⟩
      cases e:compD h ft fe ds (startCR nt caps ρ) with
      | ok YS =>
        rw [e] at p
        by_cases hl:YS.length<=1000000
        . simp only [if_pos hl] at p;exact ⟨hl,p⟩
        . simp only [if_neg hl] at p
      | ex c n =>
        rw [e] at p
        by_cases hl:ds.length<=1000000
        . simp only [if_pos hl] at p;exact ⟨hl,p⟩
        . simp only [if_neg hl] at p
      | no=>rw [e] at p;exact p.elim
    | ex c n=>rw [e] at p;exact p
    | no=>rw [e] at p;exact p
  obtain ⟨it,fp,tn,J,H2,e,I2,T,st2,f2,G2,ds,x2,yl,hPP⟩:=h2
  subst e
  refine wpAny_newObj_type (wpAny_newFunctionEnv c.nocell (by intro y hy;simp at hy) (fun h₁ hns₁ hsb₁=>?_) c.kind)
  have hD2:H2 s2.heap.objs.size=none:=I2.fresh
  have I3:=I2.lnew (ys:=[]) (its:=[]) (t':=s2.toks) .nil (by simp)
  have sr2:SR X.K B σ H2 ρ G2:=sr.ext x2
  have fpl:∀ b∈fp,b < s2.heap.objs.size:=fun b hb=>by
    obtain ⟨o,ho,_⟩:=T.obj 0 _ st2 b hb
    exact Heap.lt_size ho
  have hk:∀ b o,(s2.heap.push { cls:=.type "list",data:=.seq ([]:List Value).toArray }).get? b=some o->h₁.get? b=some o:=fun b o z =>
    (hsb₁.2 b (Nat.ne_of_lt (Heap.lt_size z))).trans (Heap.get?_push_of_some _ z)
  have fpok:∀ b∈fp,FpOk X pins (upd H2 s2.heap.objs.size (.lst [])) b/\b < (s2.heap.push { cls:=.type "list",data:=.seq ([]:List Value).toArray }).objs.size:=fun b hb=>by
    obtain ⟨g1,g2⟩:=f2 b hb
    refine ⟨⟨?_,g2⟩,?_⟩
    . rw [upd_ne (Nat.ne_of_lt (fpl b hb))];exact g1
    . rw [Heap.size_push];exact Nat.lt_succ_of_lt (fpl b hb)
  have IY:=comp_start (h':=h₁) (tk:=s2.toks + ([]:List (Str×Value)).length) c I3 fpok hns₁ hk
  generalize hC:(s2.heap.push { cls:=.type "list",data:=.seq ([]:List Value).toArray }).objs.size=C at *
  have srY:=sr_comp (nt:=nt) (caps:=caps) sr2 hD2
  have stk:∀ b,b≠X.env.locals->b∉X.fs->b∉frs X.stack:=fun b h1 h2 h3=>(List.mem_cons.mp (I2.stkSub b h3)).elim h1 h2
  have hCl:s2.heap.objs.size + 1=C:=by rw [<- hC,Heap.size_push]
  have stat:∀ {H':Hp},(∀ b∈fp,H' b=none)->∀ b∈fp,FpOk (compX X N { s2 with heap:=s2.heap.push { cls:=.type "list",data:=.seq ([]:List Value).toArray },toks:=s2.toks } (upd H2 s2.heap.objs.size (.lst [])) sc (clOf sc X.env) C fp pins) [] H' b:=fun {H'} hn b hb=>by
    obtain ⟨_,g2,g3,g4,g5,g6⟩:=f2 b hb
    refine ⟨hn b hb,?_,stk b g2 g3,.inl hb,fun x a ha=>g5 x a (c.cl I2 ha),fun p hp=>?_⟩
    . show b≠C
      exact Nat.ne_of_lt (hCl▸Nat.lt_succ_of_lt (fpl b hb))
    . rw [List.append_nil] at hp;exact g6 p hp
  let Y:=compX X N { s2 with heap:=s2.heap.push { cls:=.type "list",data:=.seq ([]:List Value).toArray },toks:=s2.toks } (upd H2 s2.heap.objs.size (.lst [])) sc (clOf sc X.env) C fp pins
  let D':=s2.heap.objs.size
  have toX:∀ {σ5:St} {H5:Hp} {s5:Shared},Inv Y [] σ5 H5 s5->∀ h',Heap.SameBut C s5.heap h'->Inv X pins σ H5 { s5 with heap:=h' }:=fun {σ5 H5 s5} I5 h' hs'=>by
    have ne:∀ b o,(s2.heap.push { cls:=.type "list",data:=.seq ([]:List Value).toArray }).get? b=some o->b≠C:=fun b o e z=>by
      have:=Heap.lt_size e
      rw [hC,z] at this
      exact Nat.lt_irrefl _ this
    have U:=I5.base
    refine I3.call' (ch:=fp) (s':={ s5 with heap:=h' }) I5.os ⟨fun b o e n hb hx=>?_,fun b o e n hb hx=>?_,U.free,fun b o e hx=>?_,U.tups,U.frzs,U.tbls⟩ (fun b o e=>?_) I5.bare fun b hb=>?_
    . exact (hs'.2 b (ne b o e)).trans (U.keep b o e n hb hx)
    . obtain ⟨sl,q⟩:=U.slot b o e n hb hx
      exact ⟨sl,(hs'.2 b (ne b o e)).trans q⟩
    . obtain ⟨o',q⟩:=U.there b o e hx
      exact ⟨o',(hs'.2 b (ne b o e)).trans q⟩
    . have fC:H5 C=none:=I5.free
      refine (I5.hok b o e).stay (fun c' u' hc' q=>(hs'.2 c' ?_).trans q) (fun _ q=>q) (fun _ _ q=>q) fun _ _ q=>q
      rintro rfl
      rcases hc' with rfl|hc'
      . rw [fC] at e;cases e
      . rw [fC] at hc';cases hc'
    . obtain ⟨_,g2,_,g4,g5,g6⟩:=f2 b hb
      exact ⟨g4,g2,g5,g6⟩
  have hfx:∀ ρ c n,ft ρ≠.ex c n:=by
    rcases hif with ⟨_,e2⟩|⟨_,_,h,_⟩
    . subst e2;exact fun _ _ _ z=>nomatch z
    . exact h
  let Jn:Nat->Shared->Prop:=fun n s4=>∃ (i:Nat) (ρ':Rho) (σ':St) (H' G':Hp) (yds:List D) (yvs:List V),Inv Y [] σ' H' s4/\tn i s4.heap/\(∀ b∈fp,H' b=none)/\SR X.K ⟨G2,H2,0⟩ σ' H' ρ' G'/\NoOw ρ'/\H' D'=some (.lst yvs)/\G' D'=none /\
    Reps X.K G' yds yvs/\i<=ds.length/\n=ds.length - i/\yds.length<=i/\PP ds ((compD h ft fe (ds.drop i) ρ').bind fun r=>.ok (yds++r))
  have loop:∀ (n:Nat) (s4:Shared),Jn n s4->codeAny (model X.prog X.w) X.A (.compLoop (.ListComp elt [⟨tg,iter,ifs,0⟩] sc pos) 0 (.ref it) (.ref D') Y.env) (compPost (model X.prog X.w) X.A X.xe use QQ (.ref D') C) s4:=by
    intro n0 s40 h0
    refine compLoop_gen (J:=Jn) ?_ n0 h0
    rintro n s4 ⟨i,ρ',σ',H',G',yds,yvs,I4,st4,fr4,sr4,no4,hD4,hG4,ry4,hi4,rfl,hyi,hcd⟩
    by_cases hlt:i < ds.length
    . obtain ⟨yes,_⟩:=yl i G' H' sr4.en.gg sr4.ext0
      obtain ⟨go,yields⟩:=yes ds[i] (by simp [hlt])
      rw [List.drop_eq_getElem_cons hlt] at hcd
      unfold compD at hcd
      cases eh:h ds[i] ρ' with
      | none=>rw [eh] at hcd;exact hcd.elim
      | some ρ1 =>
        rw [eh] at hcd
        dsimp only at hcd
        refine thn (T.item Y rfl rfl rfl hc i [] s4 σ' H' (fun _ _=>False) I4 (stat fr4) st4 go) fun r s5 hq9=>?_
        obtain ⟨u,hr,h5⟩:=hq9
        subst hr
        refine thn h5 fun _ s6 hq9=>?_
        obtain ⟨x,H6,I6,r6,y6,st6,fr6⟩:=hq9
        obtain ⟨G6,e6,rep6⟩:=yields x H6 y6
        have sr6:=sr4.ext e6
        have I6':=I6.pinned (stat fr6) (T.obj _ _ st6)
        refine thn (ht _ _ _ _ _ ⟨G2,H2,0⟩ _ s6 σ' H6 x u (fun σ7 H7=>H7=H6/\SR X.K ⟨G2,H2,0⟩ σ7 H6 ρ1 G6) I6' r6 ⟨ρ',G6,ds[i],sr6,rep6,ρ1,eh,fun σ7 z=>⟨rfl,z⟩⟩) fun _ s7 hq9=>?_
        obtain ⟨σ7,H7,I7,eH7,sr7⟩:=hq9
        subst eH7
        have no7:=hno _ _ _ no4 eh
        have again:∀ {σ8:St} {H8:Hp} {s8:Shared},Inv Y ([]++pinsAt fp s6.heap) σ8 H8 s8->Inv Y [] σ8 H8 s8/\tn (i + 1) s8.heap/\∀ b∈fp,H8 b=none:=fun {σ8 H8 s8} I8=>by
          refine ⟨I8.unpinned,T.keep _ _ _ st6 fun b hb o e=>(I8.pin (b,o) (List.mem_append_right _ (List.mem_append_right _ (mem_pinsAt hb e)))).1,fun b hb=>?_⟩
          obtain ⟨o,e,d⟩:=T.obj _ _ st6 b hb
          exact (I8.pin (b,o) (List.mem_append_right _ (List.mem_append_right _ (mem_pinsAt hb e)))).2.1
        obtain ⟨b,hb,hcd⟩:∃ b,ft ρ1=.ok b/\PP ds ((if b=true then (fe ρ1).bind fun y=>(compD h ft fe (ds.drop (i + 1)) ρ1).bind fun ys=>.ok (y::ys) else compD h ft fe (ds.drop (i + 1)) ρ1).bind fun r=>.ok (yds++r)):=by
          cases e:ft ρ1 with
          | ok b=>rw [e] at hcd;exact ⟨b,rfl,hcd⟩
          | ex c n=>exact (hfx _ _ _ e).elim
          | no=>rw [e] at hcd;exact hcd.elim
        have test:wpAny (model X.prog X.w) X.A (forIn ifs true fun c r=>if r=true then do let ok <- isTrue c Y.env (eval c Y.env);pure (ForInStep.yield ok) else pure (ForInStep.yield r)) (TP Y ([]++pinsAt fp s6.heap) σ7 fun b' H8=>b'=b/\∃ G8,Ext G6 H7 G8 H8) (fun _ _=>False) s7:=by
          rcases hif with ⟨e1,e2⟩|⟨cc,e1,_,hst⟩
          . subst e1 e2
            cases hb
            exact wp_tests_nil ⟨H7,I7,rfl,G6,sr7.ext0⟩
          . subst e1
            refine wpAny_tests_one (hst _ _ _ _ _ ⟨G2,H2,0⟩ _ s7 σ7 H7 _ I7 ⟨ρ1,G6,sr7,?_⟩)
            rw [hb]
            exact fun H8 G8 e8=>⟨rfl,G8,e8⟩
        refine thn test fun ok s8 hq9=>?_
        obtain ⟨H8,I8,eb,G8,e8⟩:=hq9
        subst eb
        have sr8:=sr7.ext e8
        have hD8:H8 D'=some (.lst yvs):=e8.hh _ _ (e6.hh _ _ hD4)
        have hG8:G8 D'=none:=e8.nw _ _ (e6.hh _ _ hD4) (e6.nw _ _ hD4 hG4)
        have ry8:=(ry4.mono e6.gg).mono e8.gg
        cases ok with
        | true =>
          rw [if_pos rfl] at hcd ⊢
          let W1:Wi:=fun c n _ H9=>fe ρ1=.ex c n/\∃ G9,Ext G8 H8 G9 H9
          let E1:Value->Shared->Prop:=fun e s'=>∃ pins' σ' H' s1,Inv Y pins' σ' H' s1/\CXv X.prog X.w X.K X.stack H' s1 (fun v _ H''=>∃ c n,v=enc c n/\W1 c n σ' H'') e s'
          refine wpAny_mono (he _ _ _ _ _ ⟨G2,H2,0⟩ E1 W1 (fun pins' σ' H' s1 e s' I1 q=>⟨pins',σ',H',s1,I1.unwish,q⟩) _ s8 σ7 H8 (fun v H9=>∃ y G9,fe ρ1=.ok y/\Ext G8 H8 G9 H9/\Rep X.K G9 y v) (I8.wish E1) ⟨ρ1,G8,sr8,?_⟩) (fun u9 s9 ⟨v9,H9,I9,r9,y,G9,hy,e9,rep9⟩=>?_) (fun e s' q=>?_)
          . cases e:fe ρ1 with
            | ok y=>exact fun v H9 G9 e9 r=>⟨y,G9,rfl,e9,r⟩
            | ex c n=>exact fun H9 G9 e9=>⟨e,G9,e9⟩
            | no=>rw [e] at hcd;exact hcd.elim
          rotate_left
          . obtain ⟨pins',σ',H1,s1,I1,ea,c',n,H9,e1,os,bare,un,hok,F,c0,n0,e2,efe,G9,x9⟩:=q
            subst e1
            obtain ⟨rfl,rfl⟩:=enc_inj e2
            rcases hx with hx|⟨hp,hex,outer,L,hst,hf⟩
            . exact (hx _ _ _ efe).elim
            rw [efe] at hcd
            have J1:Inv Y [] σ' H1 s1:=I1.pins_of fun p z=>absurd z (by simp)
            have J9:Inv Y [] σ' H9 s':=J1.call' (ch:=[]) os un hok bare (fun b z=>absurd z (by simp))
            obtain ⟨m,hm,_⟩:=J9.loc
            have fpk:FpOk X pins H9 C:=I3.fpOk (Nat.le_of_eq hC) J9.free
            show wpAny _ X.A (noteFrame (.ref ea) X.env) _ _ s'
            refine look_v hst hf hex (toX J9 s'.heap (.refl C _)) (fly_up (toX J1 s1.heap (.refl C _)) hex F) fun h' K2 F2 up=>?_
            have fin:∃ m,h'.Ns C m/\∀ h'',Heap.SameBut C h' h''->∀ cenv:Env,cenv.locals=C->wpAny (model X.prog X.w) X.A (passOn "comprehension.variables-let-go" (.ref ea) cenv:Sem Value) (fun _ _=>False) X.xe { s' with heap:=h'' }:=⟨m,up.ns hm,fun h'' hs cenv _=>by
              have K3:=K2.turned (t':=s'.toks) (fun b o hb e=>(hs.2 b hb).trans e) fpk.1 fpk.2.1 fpk.2.2.2.1 fpk.2.2.2.2.1 fpk.2.2.2.2.2
              have F3:=fly_but F2 (up.ns hm) hs
              obtain ⟨_,oe,vs,a0,_,g2,_,g4,_,_,_,_,_,g10⟩:=id F3
              rw [if_pos rfl] at g10
              obtain ⟨T,_,_,_,t1,_⟩:=g10
              unfold passOn
              refine wpAny_bind (wpAny_field g2 g4 t1 ?_)
              rw [if_neg (show ¬ ((Value.ref T == Value.none)=true) from by simp)]
              have go:wpAny (model X.prog X.w) X.A (do setFlight (.ref ea) cenv.frame;throw (.ref ea):Sem Value) (fun _ _=>False) X.xe { s' with heap:=h'' }:=wpAny_bind (land_v K3 F3 fun h3 K4 F4=>wpAny_throw (hp pins σ H9 _ ea c' n true K4 F4 (hcd.2 H9 G9 (x2.trans (sr8.en.trans x9)))))
              first|exact go|exact wpAny_bind (wpAny_pure go)⟩
            cases use <;> exact fin
          rw [hy] at hcd
          have hcd2:PP ds ((compD h ft fe (ds.drop (i + 1)) ρ1).bind fun r=>.ok ((yds++[y])++r)):=by
            cases e:compD h ft fe (ds.drop (i + 1)) ρ1 with
            | ok ys=>rw [e] at hcd;dsimp only [Rs.bind] at hcd ⊢;rw [List.append_assoc];exact hcd
            | ex c n=>rw [e] at hcd;exact hcd
            | no=>rw [e] at hcd;exact hcd
          have hD9:=e9.hh _ _ hD8
          have hG9:=e9.nw _ _ hD8 hG8
          have ryl:=ry8.length
          have hYl:yds.length < 1000000:=by
            cases e:compD h ft fe (ds.drop (i + 1)) ρ1 with
            | ok ys =>
              rw [e] at hcd2
              have:=hcd2.1
              simp only [List.length_append,List.length_cons] at this
              lia
            | ex c n=>rw [e] at hcd2;have:=hcd2.1;lia
            | no=>rw [e] at hcd2;exact hcd2.elim
          refine thn (mt_append (X:=Y) _ s9 σ7 H9 (.ref D') [v9] (.ref D') [u9] (fun _ H10=>H10=upd H9 D' (.lst (yvs++[v9]))) I9.unwish rfl (.cons r9 .nil) ⟨D',yvs,v9,rfl,rfl,hD9,by rw [<- ryl];exact Nat.lt_of_lt_of_le hYl (by rw [sizeLine_eq];decide),rfl⟩) fun _ s10 hq9=>?_
          obtain ⟨_,H10,I10,_,e10⟩:=hq9
          subst e10
          obtain ⟨J1,J2,J3⟩:=again I10
          refine ⟨ds.length - (i + 1),by lia,i + 1,ρ1,σ7,_,G9,yds++[y],yvs++[v9],J1,J2,J3,(sr8.ext e9).off no7 hD9 hG9 hD2,no7,upd_same,hG9,(ry8.mono e9.gg).append (.one rep9),hlt,rfl,by rw [List.length_append];exact Nat.succ_le_succ hyi,hcd2⟩
        | false =>
          rw [if_neg (by simp)] at hcd ⊢
          obtain ⟨J1,J2,J3⟩:=again I8
          exact ⟨ds.length - (i + 1),by lia,i + 1,ρ1,σ7,H8,G8,yds,yvs,J1,J2,J3,sr8,no7,hD8,hG8,ry8,hlt,rfl,Nat.le_succ_of_le hyi,hcd⟩
    . have ei:i=ds.length:=by lia
      subst ei
      obtain ⟨_,no⟩:=yl ds.length G' H' sr4.en.gg sr4.ext0
      rw [List.drop_length] at hcd
      dsimp only [compD,Rs.bind] at hcd
      rw [List.append_nil] at hcd
      have hQ:=hcd.2
      refine thn (T.done Y rfl rfl rfl hc ds.length [] s4 σ' H' (fun _ _=>False) I4 (stat fr4) st4 (no (Nat.le_refl _))) fun r s5 hq9=>?_
      obtain ⟨hr,I5⟩:=hq9
      subst hr
      obtain ⟨m,hm,_⟩:=I5.loc
      have fC0:H' C=none:=I5.free
      refine hQ D' C H' (upd G' D' (.lst yvs)) s5 _ ?_ ?_ ⟨m,hm⟩ (I3.fpOk (Nat.le_of_eq hC) fC0) (toX I5)
      . have gg:Same G' (upd G' D' (.lst yvs)):=fun b o z=>by rw [upd_ne (ne_of_none z hG4)];exact z
        refine ⟨(x2.gg.trans sr4.en.gg).trans gg,x2.hh.trans sr4.en.hh,fun b o z=>?_,fun b xs z=>?_,fun b o z w=>?_⟩
        . by_cases e:b=D'
          . subst e;rw [upd_same] at z;cases z;exact hD4
          . rw [upd_ne e] at z;exact sr4.en.gh b o z
        . by_cases e:b=D'
          . subst e;rw [hD4] at z;cases z
          . rw [upd_ne e];exact sr4.en.tp b xs z
        . have z2:=x2.hh b o z
          rw [upd_ne (ne_of_none z2 hD2)]
          exact sr4.en.nw b o z2 (x2.nw b o z w)
      . have gg:Same G' (upd G' D' (.lst yvs)):=fun b o z=>by rw [upd_ne (ne_of_none z hG4)];exact z
        exact rep_lst.mpr ⟨D',yvs,rfl,.of upd_same,ry4.mono gg⟩
  have first:∀ tk,Jn ds.length { s2 with heap:=h₁,toks:=tk }:=fun tk=>by
    have IY':Inv Y [] (startC nt caps σ) (upd H2 s2.heap.objs.size (.lst [])) { s2 with heap:=h₁,toks:=tk }:=IY.tok tk
    refine ⟨0,startCR nt caps ρ,startC nt caps σ,upd H2 D' (.lst []),G2,[],[],IY',T.keep _ _ _ st2 fun b hb o e=>hk b o (Heap.get?_push_of_some _ e),fun b hb=>(fpok b hb).1.1,srY,noOw_start,upd_same,sr2.en.gh.free hD2,reps_nil.mpr rfl,Nat.zero_le _,rfl,Nat.le_refl _,by cases e:compD h ft fe ds (startCR nt caps ρ) <;> (rw [e] at hPP;simpa [e,Rs.bind] using hPP)⟩
  exact codeAny_compStart_list (loop _ _ (first _)) (T.self _ 0 _ _ _ (T.keep _ _ _ st2 fun b hb o e=>hk b o (Heap.get?_push_of_some _ e)) (loop _ _ (first _)))
theorem se_compX {elt:Expr} {ifs:List Expr} {sc:Scope} {pos:Pos} {N:List Str} {nt:Nat} {caps:List Nat} {h:Tg} {ft:Rho->Rs Bool} {fe:Rho->Rs D} {fi:Rho->Rs (List D)}
    (c:Caps X sc N nt caps) (hc:X.calm=true) (hnames:∀ y∈sc.names,y.2=.local->sc.names.lookup y.1=some .local) (hi:SI X B W tg iter fi) (hno:KeepNo h)
    (ht:∀ s₀ H₀ C ex pins B',SG (compX X N s₀ H₀ sc (clOf sc X.env) C ex pins) B' tg h)
    (hif:(ifs=[]/\ft=fun _=>.ok true)∨∃ c,ifs=[c]/\(∀ ρ c n,ft ρ≠.ex c n)/\∀ s₀ H₀ C ex pins B',ST (compX X N s₀ H₀ sc (clOf sc X.env) C ex pins) B' WF c ft)
    (he:∀ s₀ H₀ C ex pins B' E W',PassC ((compX X N s₀ H₀ sc (clOf sc X.env) C ex pins).wish E) W'->SE ((compX X N s₀ H₀ sc (clOf sc X.env) C ex pins).wish E) B' W' elt fe)
    (hx:(∀ ρ c n,fe ρ≠.ex c n)∨Px X W)
    (hs:∀ x,foldedSetIterable iter X.env x=pure x:=by intro _;rfl) :
    SE X B W (.ListComp elt [⟨tg,iter,ifs,0⟩] sc pos) (gCompX h ft fe nt caps fi):=by
  intro pins s σ H Q I hw
  obtain ⟨ρ,G,sr,p⟩:=hw
  rw [eval_ListComp]
  refine comp_core c hc hnames hi hno ht hif he hx hs I sr ?_
  cases e:gCompX h ft fe nt caps fi ρ with
  | ok d =>
    rw [e] at p
    intro D' C H' G' s5 fl x r ⟨m,hm⟩ _ IX
    exact ⟨m,hm,fun h' hs'=>⟨.ref D',H',IX h' hs',rfl,p _ _ _ x r⟩⟩
  | ex c n=>rw [e] at p;exact p
  | no=>rw [e] at p;exact p
theorem se_comp {elt:Expr} {ifs:List Expr} {sc:Scope} {pos:Pos} {N:List Str} {nt:Nat} {caps:List Nat} {h:Tg} {ft:Rho->Rs Bool} {fe:Rho->Rs D} {fi:Rho->Rs (List D)}
    (c:Caps X sc N nt caps) (hc:X.calm=true) (hnames:∀ y∈sc.names,y.2=.local->sc.names.lookup y.1=some .local) (hi:SI X B W tg iter fi) (hno:KeepNo h)
    (ht:∀ s₀ H₀ C ex pins B',SG (compX X N s₀ H₀ sc (clOf sc X.env) C ex pins) B' tg h)
    (hif:(ifs=[]/\ft=fun _=>.ok true)∨∃ c,ifs=[c]/\∀ s₀ H₀ C ex pins B',ST (compX X N s₀ H₀ sc (clOf sc X.env) C ex pins) B' WF c ft)
    (he:∀ s₀ H₀ C ex pins B',SE (compX X N s₀ H₀ sc (clOf sc X.env) C ex pins) B' WF elt fe)
    (hs:∀ x,foldedSetIterable iter X.env x=pure x:=by intro _;rfl) :
    SE X B W (.ListComp elt [⟨tg,iter,ifs,0⟩] sc pos) (gComp h ft fe nt caps fi):=by
  rw [gComp_X]
  exact se_compX c hc hnames hi hno ht (hif.imp (fun ⟨a,b⟩=>⟨a,by rw [b];rfl⟩) fun ⟨c,a,b⟩=>⟨c,a,fun _ _ _=>nox_ne,fun s₀ H₀ C ex pins B'=>st_noxR (b s₀ H₀ C ex pins B')⟩) (fun s₀ H₀ C ex pins B' E W' _=>se_noxR (he s₀ H₀ C ex pins B')) (.inl fun _ _ _=>nox_ne) hs
end
end Vl
namespace Vl
open PySem PySem.Spec L2
section
variable {X:Cx} {K:PySem.W.Frag} {B:Bs} {W:Wi} {σ:St} {G H:Hp} {ρ:Rho} {a b:Expr} {pos p:Pos} {fa fb:Rho->Rs D}
noncomputable def rEqD (K:PySem.W.Frag) (n:Nat):R2:=fun x y H Q=>∃ d d',Rep K H d x/\Rep K H d' y/\dep d<=n/\dep d'<=n/\Q (.bl (eqD d d')) H
noncomputable def rNeD (K:PySem.W.Frag) (n:Nat):R2:=fun x y H Q=>∃ d d',Rep K H d x/\Rep K H d' y/\dep d<=n/\dep d'<=n/\Q (.bl (!eqD d d')) H
theorem op_eqD {n:Nat} (hu:X.A.units + n < cLine):OpR X (compareOp .Eq) (rEqD X.K n):=by
  intro pins s σ H x y v u Q I rx ry ⟨d,d',r,r',hd,hd',q⟩
  exact rcD_at I hd hd' hu r r' rx ry X.prog X.w X.xe _ ⟨.bl _,H,I,rfl,q⟩
theorem op_neD {n:Nat} (hu:X.A.units + n < cLine):OpR X (compareOp .NotEq) (rNeD X.K n):=by
  intro pins s σ H x y v u Q I rx ry ⟨d,d',r,r',hd,hd',q⟩
  exact rcneD_at I hd hd' hu r r' rx ry X.prog X.w X.xe _ ⟨.bl _,H,I,rfl,q⟩
noncomputable def gEq:D->D->Rs D:=fun x y=>if dep x<=8/\dep y<=8 then .ok (.bl (eqD x y)) else .no
noncomputable def gNe:D->D->Rs D:=fun x y=>if dep x<=8/\dep y<=8 then .ok (.bl (!eqD x y)) else .no
theorem opd_eq:OpD K (rEqD K 8) gEq:=by
  intro B W σ ρ G H x y v u Q s rx ry p
  unfold gEq at p
  by_cases h:dep x<=8/\dep y<=8
  . rw [if_pos h] at p;exact ⟨x,y,rx.mono s.en.gh,ry.mono s.en.gh,h.1,h.2,Post.ok s p (rep_bl.mpr rfl)⟩
  . rw [if_neg h] at p;exact p.elim
theorem opd_ne:OpD K (rNeD K 8) gNe:=by
  intro B W σ ρ G H x y v u Q s rx ry p
  unfold gNe at p
  by_cases h:dep x<=8/\dep y<=8
  . rw [if_pos h] at p;exact ⟨x,y,rx.mono s.en.gh,ry.mono s.en.gh,h.1,h.2,Post.ok s p (rep_bl.mpr rfl)⟩
  . rw [if_neg h] at p;exact p.elim
theorem room8 {k:Nat} (hr:Room k X.A):X.A.units + 8 < cLine:=by have:=hr.un;lia
theorem se_eq (hu:X.A.units + 8 < cLine) (ha:SE X B W a fa) (hb:SE X B W b fb):SE X B W (.Compare a [.Eq] [b] pos) (fOp gEq fa fb):=se_cmp (op_eqD hu) opd_eq ha hb (nomark _)
theorem st_eq (hu:X.A.units + 8 < cLine) (ha:SE X B W a fa) (hb:SE X B W b fb):ST X B W (.Compare a [.Eq] [b] pos) (fT (fOp gEq fa fb)):=st_cmp (op_eqD hu) opd_eq ha hb (nomark _)
theorem st_ne (hu:X.A.units + 8 < cLine) (ha:SE X B W a fa) (hb:SE X B W b fb):ST X B W (.Compare a [.NotEq] [b] pos) (fT (fOp gNe fa fb)):=st_cmp (op_neD hu) opd_ne ha hb (nomark _)
noncomputable def gLt:=gI0 fun i j=>D.bl (decide (i < j))
noncomputable def gLe:=gI0 fun i j=>D.bl (decide (i<=j))
noncomputable def gGt:=gI0 fun i j=>D.bl (decide (j < i))
noncomputable def gGe:=gI0 fun i j=>D.bl (decide (j<=i))
theorem se_gt (ha:SE X B W a fa) (hb:SE X B W b fb):SE X B W (.Compare a [.Gt] [b] pos) (fOp gGt fa fb):=se_cmp op_gt (opd_I0 fun _ _ _=>rep_bl.mpr rfl) ha hb (nomark _)
theorem st_gt (ha:SE X B W a fa) (hb:SE X B W b fb):ST X B W (.Compare a [.Gt] [b] pos) (fT (fOp gGt fa fb)):=st_cmp op_gt (opd_I0 fun _ _ _=>rep_bl.mpr rfl) ha hb (nomark _)
theorem st_ge (ha:SE X B W a fa) (hb:SE X B W b fb):ST X B W (.Compare a [.GtE] [b] pos) (fT (fOp gGe fa fb)):=st_cmp op_ge (opd_I0 fun _ _ _=>rep_bl.mpr rfl) ha hb (nomark _)
inductive Ty where
  | int|bool|str|tuple|list|dict
noncomputable def Ty.nm:Ty->String
  | .int=>"int"|.bool=>"bool"|.str=>"str"|.tuple=>"tuple"|.list=>"list"|.dict=>"dict"
noncomputable def isD:D->Ty->Bool
  | .int _,.int=>true
  | .bl _,.bool=>true
  | .bl _,.int=>true
  | .str _,.str=>true
  | .tup _,.tuple=>true
  | .lst _,.list=>true
  | _,_=>false
noncomputable def tyD:D->String
  | .non=>"NoneType"|.bl _=>"bool"|.int _=>"int"|.str _=>"str"|.tup _=>"tuple"|.lst _=>"list"|.exn _ _=>""|.dic _ _=>""|.fn _=>""|.obj _ _ _=>""
noncomputable def isX:D->Bool
  | .exn _ _=>true
  | .dic _ _=>true
  | .fn _=>true
  | .obj _ _ _=>true
  | _=>false
theorem kit_D (d:D) (t:Ty) (hx:isX d=false):PySem.W.kitOne K (.type (tyD d)) (.type t.nm)=some (isD d t):=by
  cases d <;> first|(cases hx;done)|(cases t <;> kernel_rfl)
theorem isD_at {pins:List (Addr×Obj)} {s:Shared} {A:Around} {E Q:Value->Shared->Prop} {d:D} {v:V} {u:Value} {t:Ty} (I:Inv X pins σ H s) (hx:isX d=false) (r:Rep X.K H d v) (rv:RelV v u) (h:∀ tk,Q (.bool (isD d t)) { s with toks:=tk }) :
    wpAny (model X.prog X.w) A (call (.builtin "isinstance") [u,.type t.nm]) Q E s:=by
  have e:=kit_D (K:=X.K) d t hx
  cases d with
  | non=>rw [rep_non.mp r] at rv;cases rv;exact PySem.W.kia_one PySem.W.kitx_none I.kIn True.intro e (fun z=>nomatch z) h
  | bl y=>rw [rep_bl.mp r] at rv;cases rv;exact PySem.W.kia_one PySem.W.kitx_bool I.kIn True.intro e (fun z=>nomatch z) h
  | int i=>rw [rep_int.mp r] at rv;obtain ⟨t,rfl⟩:=rv;exact PySem.W.kia_one PySem.W.kitx_int I.kIn True.intro e (fun z=>nomatch z) h
  | str i=>rw [rep_str.mp r] at rv;obtain ⟨t,rfl⟩:=rv;exact PySem.W.kia_one PySem.W.kitx_str I.kIn True.intro e (fun z=>nomatch z) h
  | tup ds =>
    obtain ⟨a,vs,rfl,q,_⟩:=rep_tup.mp r
    cases rv
    obtain ⟨_,_,⟨o,h1,h2,_⟩,_⟩:=I.tuple q
    exact PySem.W.kia_one PySem.W.kitx_tuple I.kIn ⟨o,h1,h2⟩ e (fun z=>nomatch z) h
  | lst ds =>
    obtain ⟨a,vs,rfl,q,_⟩:=rep_lst.mp r
    cases rv
    obtain ⟨_,_,⟨o,n,h1,h2,_⟩,_⟩:=I.list q
    exact PySem.W.kia_one PySem.W.kitx_list I.kIn ⟨o,h1,h2⟩ e (fun z=>nomatch z) h
  | exn c n=>cases hx
  | dic c n=>cases hx
  | fn c=>cases hx
  | obj c n ds=>cases hx
noncomputable def rIsD (K:PySem.W.Frag) (t:Ty):List V->Hp->VK->Prop:=fun xs H Q=>∃ v d,xs=[v,.ty t.nm]/\isX d=false/\Rep K H d v/\Q (.bl (isD d t)) H
theorem call_isD {t:Ty}:CallR X (.builtin "isinstance") (rIsD X.K t):=by
  intro pins s σ H xs us Q I r ⟨v,d,e,hx,rd,q⟩
  subst e
  cases r with
  | cons r1 r2 =>
    cases r2 with
    | cons r3 r4 =>
      cases r4
      cases r3
      exact isD_at I hx rd r1 fun tk=>⟨.bl _,H,I.tok tk,rfl,q⟩
noncomputable def gIs (t:Ty):D->Rs D:=fun d=>if isX d=false then .ok (.bl (isD d t)) else .no
noncomputable def bools:List D->Option (List Bool)
  | []=>some []
  | .bl b::ds=>(bools ds).map (b::·)
  | _=>none
end
end Vl
namespace Vl
open PySem PySem.Spec L2
section
variable {X:Cx} {pins:List (Addr×Obj)} {σ:St} {H:Hp} {s:Shared} {ea:Addr} {c:Str} {n:Int} {tr:Bool}
theorem catch_v {M:Model} {Q:Unit->Shared->Prop} {E:Value->Shared->Prop} {outer:List Env} {L:Addr} (hst:X.stack=X.env::outer) (hf:X.env.frame=some L) (hex:X.ex=[]) (I:Inv X pins σ H s) (F:Fly X.K X.s₀.heap ((X.pn++pins).map (·.1)) ea c n s.heap H tr)
    (hQ:∀ h',Inv X pins σ H { s with heap:=h' }->Fly X.K X.s₀.heap ((X.pn++pins).map (·.1)) ea c n h' H true->Q () { s with heap:=h' }) :
    wpAny M X.A (noteFrame (.ref ea) X.env) (fun _ s2=>wpAny M X.A (setFlight (.ref ea) none) Q E s2) E s :=
  look_v hst hf hex I F fun h' I' F' _=>land_v I' F' hQ
theorem Inv.track (I:Inv X pins σ H s) {o:HO} (hr:X.s₀.heap.get? ea=none/\ea≠X.env.locals/\(∀ x c,X.env.cells.lookup x=some c->c≠ea)/\(∀ p∈X.pn++pins,p.1≠ea)/\H ea=none)
    (new:ObjOk X.prog X.w (upd H ea o) s.heap ea o):Inv X pins σ (upd H ea o) s:=by
  obtain ⟨r1,r2,r3,r4,r5⟩:=hr
  have ne:∀ b u,H b=some u->b≠ea:=fun b u e=>ne_of_none e r5
  refine ⟨I.ok,I.os,I.bare,⟨I.base.keep,I.base.slot,fun b o' e n hx=>?_,I.base.there,fun b xs e=>?_,fun b o' u e=>?_,fun b ps e=>?_⟩,I.loc,I.cell,?_,fun x c e=>?_,fun p hp=>?_,fun b u e=>?_,I.len⟩
  . rw [upd_ne (fun z=>by rw [z,r1] at e;cases e)];exact I.base.free b o' e n hx
  . have:=I.base.tups b xs e;rw [upd_ne (ne _ _ this)];exact this
  . have:=I.base.frzs b o' u e;rw [upd_ne (ne _ _ this)];exact this
  . obtain ⟨m,this⟩:=I.base.tbls b ps e;exact ⟨m,by rw [upd_ne (ne _ _ this)];exact this⟩
  . rw [upd_ne (Ne.symm r2)];exact I.free
  . rw [upd_ne (r3 x c e)];exact I.freeC x c e
  . obtain ⟨e,n,q⟩:=I.pin p hp
    exact ⟨e,by rw [upd_ne (r4 p hp)];exact n,q⟩
  . by_cases hb:b=ea
    . subst hb;rw [upd_same] at e;cases e;exact new
    . rw [upd_ne hb] at e
      exact (I.hok b u e).stay (fun c v _ q=>q) (fun c q=>by rw [upd_ne (ne_of_none q r5)];exact q) (fun c xs q=>by rw [upd_ne (ne_of_none q r5)];exact q) fun c xs q=>by rw [upd_ne (ne_of_none q r5)];exact q
end
noncomputable abbrev markX (X:Cx) (ea:Addr):Cx:={ X with A:=X.A.mark (some (.ref ea)),calm:=false,xe:=fun _ _=>False }
section
variable {X:Cx} {pins:List (Addr×Obj)} {σ:St} {H:Hp} {s:Shared} {ea:Addr}
theorem Inv.marked (I:Inv X pins σ H s):Inv (markX X ea) pins σ H s :=
  ⟨⟨I.ok.mod,I.ok.kind,I.ok.glob,I.ok.blt,I.ok.above,I.ok.inj,I.ok.has,I.ok.cab,(fun z=>nomatch z),I.ok.frames,I.ok.stk,I.ok.exf,I.ok.bs,I.ok.bsz,I.ok.noex,I.ok.exfs,I.ok.funs,I.ok.frf⟩,
    I.os,I.bare,I.base,I.loc,I.cell,I.free,I.freeC,I.pin,I.hok,I.len⟩
theorem Inv.unmarked {τ:St} {H':Hp} {s':Shared} (I:Inv X pins σ H s) (J:Inv (markX X ea) pins τ H' s'):Inv X pins τ H' s' :=
  ⟨I.ok,J.os,J.bare,J.base,J.loc,J.cell,J.free,J.freeC,J.pin,J.hok,J.len⟩
theorem goes_ok {M:Model} {A:Around} {E:Value->Shared->Prop} {i:Nat} {x:Str} {pos:Pos} {Q:Unit->Shared->Prop} (I:Inv X pins σ H s) (hN:X.N.Nodup) (hi:X.N[i]?=some x) (hk:X.env.kindOf x=some .local)
    (h:∀ s',Inv X pins (σ.set i none) H s'->Q () s'):wpAny M A (do bindName X.env x .none;unbindBehindTheSuite X.env x pos) Q E s:=by
  obtain ⟨m,hn,hl⟩:=id I.loc
  have hcls:(X.env.scope.kind == .class || (X.env.scope.kind == .module && X.env.locals != X.env.globals))=false:=by rw [I.ok.kind];rfl
  refine wpAny_nameGoes_keeps hk hn hcls fun h' v hn' hs=>?_
  have hiσ:i < σ.length:=by rw [I.len];exact (List.getElem?_eq_some_iff.mp hi).1
  have cne:=I.cne
  obtain ⟨oL,_,_,hoL,_⟩:=id hn
  have tracked:HOk X.prog X.w H h':=fun b ob e=>by
    refine (I.hok b ob e).stay (fun c w' hc q=>(hs.2 c ?_).trans q) (fun _ q=>q) (fun _ _ q=>q) fun _ _ q=>q
    rintro rfl
    rcases hc with rfl|hc
    . rw [I.free] at e;cases e
    . rw [I.free] at hc;cases hc
  refine h _ ⟨I.ok,I.os,I.bare,⟨fun b o e n hb hx=>?_,fun b o e n hb hx=>?_,I.base.free,fun b o e hx=>?_,I.base.tups,I.base.frzs,I.base.tbls⟩,⟨_,hn',fun j y v' e1 e2 e3=>?_⟩,fun y c e=>?_,I.free,I.freeC,fun p hp=>?_,tracked,by simpa using I.len⟩
  . exact (hs.2 b (Nat.ne_of_lt (Nat.lt_of_lt_of_le (Heap.lt_size e) I.ok.above))).trans (I.base.keep b o e n hb hx)
  . obtain ⟨sl,e1⟩:=I.base.slot b o e n hb hx
    exact ⟨sl,(hs.2 b (Nat.ne_of_lt (Nat.lt_of_lt_of_le (Heap.lt_size e) I.ok.above))).trans e1⟩
  . obtain ⟨o',e1⟩:=I.base.there b o e hx
    exact ⟨o',(hs.2 b (Nat.ne_of_lt (Nat.lt_of_lt_of_le (Heap.lt_size e) I.ok.above))).trans e1⟩
  . by_cases hj:j=i
    . subst hj
      rw [List.getElem?_set_self hiσ] at e2
      cases e2
    . rw [List.getElem?_set_ne (Ne.symm hj)] at e2
      obtain ⟨u',r',q⟩:=hl j y v' e1 e2 e3
      refine ⟨u',r',?_⟩
      rcases q with ⟨k,e⟩|⟨k,c,e,z⟩
      . refine .inl ⟨k,?_⟩
        have:y≠x:=fun e=>hj (nodup_ix hN e1 (e▸hi))
        simp [this,e]
      . exact .inr ⟨k,c,e,z.sameBut hs (cne y c e)⟩
  . obtain ⟨w',z⟩:=I.cell y c e
    exact ⟨w',z.sameBut hs (cne y c e)⟩
  . obtain ⟨e,n,ne,nf,d⟩:=I.pin p hp
    exact ⟨(hs.2 p.1 ne).trans e,n,ne,nf,d⟩
end
end Vl
namespace Vl
open PySem PySem.Spec PySem.Calls PySem.W L2
section
variable {K:PySem.W.Frag}
end
section
variable {X:Cx} {B:Bs} {W:Wi}
theorem SR.unset {K:PySem.W.Frag} {σ:St} {H G:Hp} {ρ:Rho} (h:SR K B σ H ρ G) (i:Nat):SR K B (σ.set i none) H (ρ.set i .no) G:=by
  have ne:∀ {j:Nat} {x:Sl},(ρ.set i .no)[j]?=some x->x≠.no->i≠j/\ρ[j]?=some x:=fun {j x} q hx=>by
    by_cases e:i=j
    . subst e
      have hl:i < ρ.length:=by
        have:=(List.getElem?_eq_some_iff.mp q).1;simpa using this
      rw [List.getElem?_set_self hl] at q
      cases q;exact absurd rfl hx
    . rw [List.getElem?_set_ne e] at q;exact ⟨e,q⟩
  refine ⟨h.en,by simp [h.len],fun j d q=>?_,fun j z q w=>?_,fun j k z z' a q1 w1 q2 w2 q3 q4=>?_,fun j ds a q1 q2=>?_,h.co⟩
  . obtain ⟨e,q⟩:=ne q (by simp);rw [List.getElem?_set_ne e];exact h.fz j d q
  . obtain ⟨e,q⟩:=ne q (by rintro rfl;cases w);rw [List.getElem?_set_ne e];exact h.own j z q w
  . obtain ⟨e1,q1⟩:=ne q1 (by rintro rfl;cases w1)
    obtain ⟨e2,q2⟩:=ne q2 (by rintro rfl;cases w2)
    rw [List.getElem?_set_ne e1] at q3;rw [List.getElem?_set_ne e2] at q4
    exact h.ap j k z z' a q1 w1 q2 w2 q3 q4
  . obtain ⟨e,q1⟩:=ne q1 (by simp);rw [List.getElem?_set_ne e] at q2;exact h.tie j ds a q1 q2
noncomputable def offI (i:Nat):Ou->Ou
  | .nx ρ=>.nx (ρ.set i .no)
  | .bk ρ=>.bk (ρ.set i .no)
  | .ct ρ=>.ct (ρ.set i .no)
  | .rt d=>.rt d
  | _=>.no
noncomputable def gTry (m:Str->Bool) (i:Nat) (gb gs:Rho->Ou):Rho->Ou:=fun ρ=>match gb ρ with
  | .ex c n ρ'=>if m c=true/\n=0 then offI i (gs (ρ'.set i (.fz (.exn c n)))) else .no
  | o=>o
theorem ext_exn {G H:Hp} (gh:Same G H) (tp:∀ a xs,H a=some (.tup xs)->G a=some (.tup xs)) {p:Addr} {φ:Heap->Prop} (hp:H p=none):Ext G H (upd G p (.ext φ)) (upd H p (.ext φ)) where
  gg:=fun b o e=>by rw [upd_ne (ne_of_none (gh _ _ e) hp)];exact e
  hh:=fun b o e=>by rw [upd_ne (ne_of_none e hp)];exact e
  gh:=fun b o e=>by
    by_cases q:b=p
    . subst q;rw [upd_same] at e ⊢;exact e
    . rw [upd_ne q] at e ⊢;exact gh _ _ e
  tp:=fun b ys e=>by
    by_cases q:b=p
    . subst q;rw [upd_same] at e;cases e
    . rw [upd_ne q] at e ⊢;exact tp _ _ e
  nw:=fun b o e n=>by rw [upd_ne (ne_of_none e hp)];exact n
noncomputable abbrev tryX (X:Cx) (E:Value->Shared->Prop) (pl:List (Addr×Obj)):Cx:={ X with xe:=E,pn:=X.pn++pl }
theorem Inv.tried {pins:List (Addr×Obj)} {σ:St} {H:Hp} {s:Shared} {E:Value->Shared->Prop} (I:Inv X pins σ H s):Inv (tryX X E pins) [] σ H s :=
  ⟨⟨I.ok.mod,I.ok.kind,I.ok.glob,I.ok.blt,I.ok.above,I.ok.inj,I.ok.has,I.ok.cab,I.ok.hd,I.ok.frames,I.ok.stk,I.ok.exf,I.ok.bs,I.ok.bsz,I.ok.noex,I.ok.exfs,I.ok.funs,I.ok.frf⟩,
    I.os,I.bare,I.base,I.loc,I.cell,I.free,I.freeC,fun p hp=>I.pin p (by simpa using hp),I.hok,I.len⟩
theorem Inv.untried {pins pins':List (Addr×Obj)} {σ τ:St} {H H':Hp} {s s':Shared} {E:Value->Shared->Prop} (I:Inv X pins σ H s) (J:Inv (tryX X E pins) pins' τ H' s'):Inv X pins τ H' s' :=
  ⟨I.ok,J.os,J.bare,J.base,J.loc,J.cell,J.free,J.freeC,fun p hp=>J.pin p (List.mem_append_left _ hp),J.hok,J.len⟩
theorem Fly.weak {K:PySem.W.Frag} {old:Heap} {av av':List Addr} {ea:Addr} {c:Str} {n:Int} {h:Heap} {H:Hp} {tr:Bool} (F:Fly K old av ea c n h H tr) (w:∀ b,b∈av'->b∈av):Fly K old av' ea c n h H tr:=by
  obtain ⟨C,oe,vs,a0,h1,h2,h3,h4,h5,h6,h7,h8,h9,h10⟩:=F
  refine ⟨C,oe,vs,a0,h1,h2,h3,h4,h5,h6,h7,fun z=>h8 (w _ z),h9,?_⟩
  cases tr with
  | false=>exact h10
  | true =>
    rw [if_pos rfl] at h10 ⊢
    obtain ⟨T,oT,ts,x,t1,t2,t3,t4,t5,t6,t7,t8⟩:=h10
    exact ⟨T,oT,ts,x,t1,t2,t3,t4,t5,t6,t7,fun z=>t8 (w _ z)⟩
theorem ss_try {body suite:List Stmt} {b₀:Stmt} {x n:Str} {np hpos pos:Pos} {i:Nat} {CB:Addr} {m:Str->Bool} {gb gs:Rho->Ou} {outer:List Env} {L:Addr}
    (hst:X.stack=X.env::outer) (hf:X.env.frame=some L) (hex:X.ex=[]) (hN:X.N.Nodup) (hi:X.N[i]?=some n) (hk:X.env.kindOf n=some .local)
    (hg:Gl X x) (hmx:X.mg x=some (.ref CB)) (hm:∀ c C,m c=true->PySem.W.nsIn X.K mainGlobals c=some (some (.ref C))->PySem.W.exmOne X.K (.ref C) (.ref CB)=some true)
    (hb:∀ (E:Value->Shared->Prop) (pl:List (Addr×Obj)) (W':Wi),PassV (tryX X E pl) W'->SSs (tryX X E pl) B W' body gb) (hs:∀ ea,SSs (markX X ea) B WF (b₀::suite) gs)
    (hd:(x == ("__debug__":Str))=false:=by decide) :
    SS X B W (.Try body [.ExceptHandler (some (.Name x np)) (some n) (b₀::suite) hpos] [] [] pos) (gTry m i gb gs):=by
  intro pins s σ H De I ⟨ρ,G,sr,p⟩
  refine wpAny_Try_except ?_
  let E1:Value->Shared->Prop:=fun e s₁=>wpAny (model X.prog X.w) X.A (noteFrame e X.env) (fun _ s₂=>wpAny (model X.prog X.w) X.A (setFlight e none) (fun _ s₃=>wpAny (model X.prog X.w) X.A (handleBy e X.env [.ExceptHandler (some (.Name x np)) (some n) (b₀::suite) hpos]) (SP X pins De) X.xe s₃) X.xe s₂) X.xe s₁
  let W1:Wi:=fun c k σ' H'=>∃ ρ' G',gb ρ=.ex c k ρ'/\SR X.K B σ' H' ρ' G'/\Same G G'
  have hpost:PostS X.K B W1 G (gb ρ) De:=by
    unfold gTry at p
    cases e:gb ρ with
    | ex c k ρ'=>exact fun σ' H' G' s' q=>⟨ρ',G',e,s',q⟩
    | nx _=>rw [e] at p;exact p
    | bk _=>rw [e] at p;exact p
    | ct _=>rw [e] at p;exact p
    | rt _=>rw [e] at p;exact p
    | no=>rw [e] at p;exact p
    | rx _ _=>rw [e] at p;exact p
    | rl _=>rw [e] at p;exact p
  have hpass:PassV (tryX X E1 pins) W1:=by
    intro pins' σ' H' s1 ea c k tr I1 F1 ⟨ρ',G',e1,sr',sg⟩
    have J1:Inv X pins σ' H' s1:=(Inv.untried I I1)
    have F1':Fly X.K X.s₀.heap ((X.pn++pins).map (·.1)) ea c k s1.heap H' tr:=F1.weak fun b z=>by
      obtain ⟨q,hq,e⟩:=List.mem_map.mp z
      exact List.mem_map.mpr ⟨q,List.mem_append_left _ hq,e⟩
    unfold gTry at p
    rw [e1] at p
    dsimp only at p
    by_cases mc:m c=true/\k=0
    . rw [if_pos mc] at p
      obtain ⟨mc,k0⟩:=mc
      subst k0
      refine catch_v hst hf hex J1 F1' fun h' J2 F2=>?_
      refine wpAny_handleBy_cons (codeAny_handlers_test (ld_glob (X:=markX X ea) (Inv.marked J2) hg hmx ?_ hd)) (by intro q;cases q)
      have LT:∃ C,PySem.W.nsIn X.K mainGlobals c=some (some (.ref C))/\Looks (model X.prog X.w) h' (typeOf (.ref ea)) (.ref C):=by
        obtain ⟨C,oe,vs,a0,h1,h2,h3,_⟩:=F2
        refine ⟨C,h1,?_⟩
        have:Looks (model X.prog X.w) h' (typeOf (.ref ea)) oe.cls:=(Looks.ld h2).andThen .now
        rw [h3] at this
        exact this
      obtain ⟨C,hC,LT⟩:=LT
      refine (PySem.W.exm_one J2.kIn LT (hm c C mc hC)).here ?_
      show codeAny _ _ _ _ _
      refine codeAny_handlers_suite_as ?_
      refine land_v J2 F2 fun h'' J3 F3=>?_
      obtain ⟨C',oe,vs,a0,h1,h2,h3,h4,h5,h6,h7,h8,h9,h10⟩:=F3
      have J4:Inv X pins σ' (upd H' ea (.ext (ExnAt ea C' none))) { s1 with heap:=h'' }:=by
        refine Inv.track J3 (rec_ok J3 h2 h4 h7 h6 fun q hq z=>h8 (List.mem_map.mpr ⟨q,hq,z⟩)) ⟨⟨oe,vs,h2,h3,h4,fun _ z=>nomatch z⟩,⟨oe,h2⟩,?_⟩
        intro a1 a2 ⟨o,ws,b1,b2,b3,b4⟩ kp
        exact ⟨o,ws,kp o b1,b2,b3,b4⟩
      have x4:Ext G' H' (upd G' ea (.ext (ExnAt ea C' none))) (upd H' ea (.ext (ExnAt ea C' none))):=ext_exn sr'.en.gh sr'.en.tp h6
      have sr4:=(sr'.ext x4).set (i:=i) (d:=.exn c 0) (v:=.ref ea) (rep_exn.mpr ⟨ea,C',none,rfl,h1,upd_same,.inl rfl⟩)
      refine store_ok (X:=markX X ea) (Inv.marked J4) hN hi (.inl hk) (v:=.ref ea) rfl (fun s5 J5=>?_) (.inr hk)
      have hpost2:PostS X.K B WF (upd G' ea (.ext (ExnAt ea C' none))) (gs (ρ'.set i (.fz (.exn c 0)))) { nx:=fun σ6 H6=>De.nx (σ6.set i none) H6,bk:=fun σ6 H6=>De.bk (σ6.set i none) H6,ct:=fun σ6 H6=>De.ct (σ6.set i none) H6,rt:=De.rt }:=by
        have sg4:=sg.trans x4.gg
        cases e:gs (ρ'.set i (.fz (.exn c 0))) with
        | nx ρ6=>rw [e] at p;exact fun σ6 H6 G6 s6 q6=>p _ H6 G6 (s6.unset i) (sg4.trans q6)
        | bk ρ6=>rw [e] at p;exact fun σ6 H6 G6 s6 q6=>p _ H6 G6 (s6.unset i) (sg4.trans q6)
        | ct ρ6=>rw [e] at p;exact fun σ6 H6 G6 s6 q6=>p _ H6 G6 (s6.unset i) (sg4.trans q6)
        | rt d=>rw [e] at p;exact fun v H6 G6 s6 q6=>p v H6 G6 s6 (sg4.trans q6)
        | ex c' k' ρ6=>rw [e] at p;exact p.elim
        | no=>rw [e] at p;exact p.elim
        | rx _ _=>rw [e] at p;exact p.elim
        | rl _=>rw [e] at p;exact p.elim
      refine wpAny_mono (hs ea pins s5 _ _ _ J5 ⟨_,_,sr4,hpost2⟩) (fun f s6 h=>?_) fun _ _ z=>z.elim
      show wpAny _ _ _ _ _ _
      cases f with
      | next=>obtain ⟨σ6,H6,J6,d6⟩:=h;exact goes_ok (Inv.unmarked I J6) hN hi hk fun s7 J7=>⟨_,_,J7,d6⟩
      | brk=>obtain ⟨σ6,H6,J6,d6⟩:=h;exact goes_ok (Inv.unmarked I J6) hN hi hk fun s7 J7=>⟨_,_,J7,d6⟩
      | cont=>obtain ⟨σ6,H6,J6,d6⟩:=h;exact goes_ok (Inv.unmarked I J6) hN hi hk fun s7 J7=>⟨_,_,J7,d6⟩
      | ret u=>obtain ⟨v,σ6,H6,J6,rv,d6⟩:=h;exact goes_ok (Inv.unmarked I J6) hN hi hk fun s7 J7=>⟨v,_,_,J7,rv,d6⟩
    . rw [if_neg mc] at p;exact p.elim
  refine wpAny_mono (hb E1 pins W1 hpass [] s σ H De (Inv.tried I) ⟨ρ,G,sr,hpost⟩) (fun f s1 h=>?_) fun _ _ z=>z
  cases f with
  | next=>obtain ⟨σ6,H6,J6,d6⟩:=h;exact wpAny_execs_nil ⟨σ6,H6,(Inv.untried I J6),d6⟩
  | brk=>obtain ⟨σ6,H6,J6,d6⟩:=h;exact ⟨σ6,H6,(Inv.untried I J6),d6⟩
  | cont=>obtain ⟨σ6,H6,J6,d6⟩:=h;exact ⟨σ6,H6,(Inv.untried I J6),d6⟩
  | ret u=>obtain ⟨v,σ6,H6,J6,rv,d6⟩:=h;exact ⟨v,σ6,H6,(Inv.untried I J6),rv,d6⟩
end
end Vl
namespace Vl
open PySem PySem.Spec PySem.Calls PySem.W L2
noncomputable def rNx:Rho->Ou:=fun ρ=>.nx ρ
noncomputable def rSeq (g k:Rho->Ou):Rho->Ou:=fun ρ=>oSeq (g ρ) k
noncomputable def rRet (f:Rho->Rs D):Rho->Ou:=fun ρ=>oR (f ρ) ρ .rt
noncomputable def rExp (f:Rho->Rs D):Rho->Ou:=fun ρ=>oR (f ρ) ρ fun _=>.nx ρ
noncomputable def rIf (c:Rho->Rs Bool) (a b:Rho->Ou):Rho->Ou:=fun ρ=>oR (c ρ) ρ fun x=>if x=true then a ρ else b ρ
noncomputable def rAsg (f:Rho->Rs D) (h:Tg):Rho->Ou:=fun ρ=>oR (f ρ) ρ fun d=>oO (h d ρ)
noncomputable def rSet (i:Nat) (f:Rho->Rs D):Rho->Ou:=fun ρ=>oR (f ρ) ρ fun d=>.nx (ρ.set i (.fz d))
noncomputable def rRse (x:Str) (fs:Rho->Rs (List D)):Rho->Ou:=fun ρ=>oR (fs ρ) ρ fun ds=>if ds.length<=1000 then .ex x 0 ρ else .no
noncomputable def rNox (g:Rho->Ou):Rho->Ou:=fun ρ=>noEx (g ρ)
noncomputable def fNeg (f:Rho->Rs D):Rho->Rs D:=fun ρ=>(f ρ).bind gNeg
noncomputable def fB (f:Rho->Rs D) (g:D->Rs D):Rho->Rs D:=fun ρ=>(f ρ).bind g
noncomputable def fL (f:Rho->Rs D) (g:D->Rs (List D)):Rho->Rs (List D):=fun ρ=>(f ρ).bind g
section
variable {X:Cx} {B:Bs} {W:Wi}
theorem rs_nil:SSs X B W [] rNx:=ss_nil
theorem rs_cons {st:Stmt} {rest:List Stmt} {g k:Rho->Ou} (h1:SS X B W st g) (h2:SSs X B W rest k):SSs X B W (st::rest) (rSeq g k):=ss_cons h1 h2
theorem rs_one {st:Stmt} {g:Rho->Ou} (h1:SS X B W st g):SSs X B W [st] g:=ss_one h1
theorem rs_ret {e:Expr} {pos} {f:Rho->Rs D} (h:SE X B W e f):SS X B W (.Return (some e) pos) (rRet f):=ss_ret h
theorem rs_exp {e:Expr} {pos:Pos} {f:Rho->Rs D} (h:SE X B W e f) (hs:swapsWith e none pos.line X.env=pure false:=by rfl):SS X B W (.Expr e pos) (rExp f):=ss_expr h hs
theorem rs_if {c:Expr} {a b:List Stmt} {pos:Pos} {fc:Rho->Rs Bool} {ga gb:Rho->Ou} (hc:ST X B W c fc) (ha:SSs X B W a ga) (hb:SSs X B W b gb):SS X B W (.If c a b pos) (rIf fc ga gb):=ss_if hc ha hb
theorem rs_asg {tg e:Expr} {pos:Pos} {f:Rho->Rs D} {h:Tg} (he:SE X B W e f) (hg:SG X B tg h) (hs:swapsWithSole [tg] e pos.line X.env=pure false:=by rfl) (hw:swappedStores [tg] e X.env=pure none:=by rfl)
    (h1:(assignEach [tg] X.env).map (·.2)=[assign tg X.env]:=by rfl):SS X B W (.Assign [tg] e pos) (rAsg f h):=ss_asg he hg hs hw h1
theorem rs_set (i:Nat) {x:Str} {e:Expr} {pos pos':Pos} {f:Rho->Rs D} (hN:X.N.Nodup) (he:SE X B W e f) (hi:X.N[i]?=some x:=by rfl) (hx:Loc X.env.scope x:=by first|exact Or.inl rfl|exact Or.inr rfl) (hs:swapsWith e (some (.Name x pos')) pos.line X.env=pure false:=by rfl) (hf:X.fn x=true∨X.env.scope.names.lookup x=some .local:=by first|exact .inl rfl|exact .inr rfl|assumption) :
    SS X B W (.Assign [.Name x pos'] e pos) (rSet i f):=ss_set hN hi hx he hs hf
theorem rs_nox {st:Stmt} {g:Rho->Ou} (h:SS X.nox B WF st g):SS X B W st (rNox g):=ss_nox h
theorem re_neg {a:Expr} {pos:Pos} {fa:Rho->Rs D} (ha:SE X B W a fa):SE X B W (.UnaryOp .USub a pos) (fNeg fa):=se_neg ha
theorem rg (i:Nat) {x:Str} {pos:Pos} (hN:X.N.Nodup) (hi:X.N[i]?=some x:=by rfl) (hx:Loc X.env.scope x:=by first|exact Or.inl rfl|exact Or.inr rfl) (hf:X.fn x=true∨X.env.scope.names.lookup x=some .local:=by first|exact .inl rfl|exact .inr rfl|assumption):SG X B (.Name x pos) (hName i) :=
  sg_name hN hi hx hf
theorem ri_list {tg iter:Expr} {f:Rho->Rs D} (hi:SE X B W iter f):SI X B W tg iter (fL f asL):=si_list hi
theorem ri_tup {tg iter:Expr} {f:Rho->Rs D} (hi:SE X B W iter f):SI X B W tg iter (fL f asT):=si_tup hi
theorem ri_range {tg e:Expr} {p1 p2:Pos} {f:Rho->Rs D} (hm:X.mg "range"=none) (hi:SE X B W e f) (hgl:Gl X "range":=by rfl) (hst:starEach [e] X.env=[(false,eval e X.env)]:=by rfl):SI X B W tg (.Call (.Name "range" p1) [e] [] p2) (fL f asR):=si_range hm hi hgl hst
theorem re_divmod {e e':Expr} {p pos:Pos} {fa fb:Rho->Rs D} (hm:X.mg "divmod"=none) (ha:SE X B W e fa) (hb:SE X B W e' fb) (hg:Gl X "divmod":=by rfl) (he:starEach [e,e'] X.env=[(false,eval e X.env),(false,eval e' X.env)]:=by rfl) (he':starEach [e'] X.env=[(false,eval e' X.env)]:=by rfl) :
    SE X B W (.Call (.Name "divmod" p) [e,e'] [] pos) (fA (fCons fa (fCons fb fNil)) gDm) :=
  se_callB call_divmodB cd_dm hg hm rfl (sa_cons ha (sa_cons hb sa_nil he') (by rw [he,he'])) (by decide) (by decide) (by rw [he,he']) (by rw [he'];rfl)
end
noncomputable def Okd (P:Program) (w:World) (K:PySem.W.Frag) (mg:Str->Option Value) (base:Heap) (x:Str) (k n:Nat) (v:List D->Rs D):Prop :=
  ∃ f fd ps,FnOk P w K mg base (CXv P w K) k f fd ps (spV K n v)/\mg x=some (.ref f)/\PySem.W.keepIn K (.ref f)=true/\Binds K fd ps []
theorem okd_of {P:Program} {w:World} {K:PySem.W.Frag} {mg:Str->Option Value} {base:Heap} {x:Str} {st:Stmt} {f:Addr} {fd:FuncData} {N ps:List Str} {k:Nat} {g:Rho->Ou} (F:Fun K x x st f fd) (hm:mg x=some (.ref f)) (S:FnScope N ps (defScope st))
    (hbi:∀ (kV doc pm:Value) (an:Option Addr) (cdv ct:Value) (us:List Value),us.length=ps.length->bindArgs (PySem.W.fnOf x x (defArgs st) (defBody st) (defScope st) .none kV doc pm an cdv ct) ⟨us,[]⟩=pure (ps.zip us))
    (hb:∀ (cdv:Value) (A:Around) (outer:List Env) (s:Shared) (H:Hp) (E:XK) (B:Bs),Room k (A.deeper (PyProof.Rows.envOfC x (defScope st) s.heap.objs.size f cdv)) ->
      PassC (cxOf (CXv P w K) P w K mg base N x (defScope st) f cdv A outer s H E) (fun c n _ H'=>E (enc c n) none H') ->
      SSs (cxOf (CXv P w K) P w K mg base N x (defScope st) f cdv A outer s H E) B (fun c n _ H'=>E (enc c n) none H') (defBody st) g) :
    Okd P w K mg base x (k + 1) ps.length (fun ds=>fin (g (startR N ds))) :=
  ⟨f,fd,ps,fn_v F S fun cdv A outer s H E B hr=>hb cdv A outer s H E B hr (passC_of pass_body rfl),hm,F.kp,F.binds hbi⟩
section
variable {X:Cx} {B:Bs} {W:Wi}
theorem re_call {x:Str} {p pos:Pos} {e:Expr} {es:List Expr} {fs:Rho->Rs (List D)} {k n kr:Nat} {g:List D->Rs D} (O:Okd X.prog X.w X.K X.mg X.base x k n g) (hr:Room kr X.A) (hx:PassC X W) (ha:SA X B W (e::es) fs) (hg:Gl X x:=by rfl) (hdb:(x == ("__debug__":Str))=false:=by decide)
    (he:starEach (e::es) X.env=(false,eval e X.env)::starEach es X.env:=by rfl) (hpl:(backTo pos (starEach es X.env)).any (·.1)=false:=by rfl) (hkr:k<=kr:=by decide):SE X B W (.Call (.Name x p) (e::es) [] pos) (fA fs (gCallX n g)):=by
  obtain ⟨f,fd,ps,F,hm,hk,hb⟩:=O
  exact se_call F (hr.mono hkr) hg hm hk hb hx ha hdb he hpl
end
end Vl
namespace Vl
open PySem PySem.Spec PySem.Calls PySem.W L2
noncomputable def exk (K:Frag) (C:Addr):Bool :=
  mroIn K C (.type "object") == some true && (mroIn K C (.type "BaseException") == some true && (findIn K (.ref C) "__class__" == some (some (.builtin "object.__class__")) &&
    (specialIn K (.builtin "object.__class__") "__get__" == some (some (.builtin "getset_descriptor.__get__")) && (takesIn K (.builtin "object.__class__") == some true &&
      (findIn K (.ref C) "__getattribute__" == some (some (.builtin "BaseException.__getattribute__")) && (findIn K (.ref C) "__getattr__" == some none && kitCls K (.ref C) (.ref C) == some true))))))
theorem exn_class {prog:Program} {w:World} {A:Around} {s:Shared} {K:Frag} {x C:Addr} {R:Result->Shared->Prop} {tp:Value} (Z:K.In s.heap)
    (LT:∀ M,Looks M s.heap (typeOf (.ref x)) (.ref C)) (hm:mroIn K C (.type "object")=some true) (hR:R (.ok (.ret (.ref C))) s) :
    codeAny (model prog w) A (.call (.builtin "getset_descriptor.__get__") ⟨[.builtin "object.__class__",.ref x,tp],[]⟩) R s:=by
  obtain ⟨h,g,d,t,os⟩:=s
  have LM:Looks (model prog w) h (isSubtype (.ref C) (.type "object")) true:=looks_mroIn Z hm
  have LI:Looks (model prog w) h (isInstance (.ref x) (.type "object")) true:=(LT _).andThen LM
  refine codeAny_call_builtin KF.slot_gs.plain KF.entry_gs (KF.slot_gs.check _ _ _ _ _ _ _ _ KF.type_class (KF.args_gs _ _ _) ?_)
  show wpAny _ _ (Builtin.Getset_descriptor.descrGet _) _ _ _
  unfold Builtin.Getset_descriptor.descrGet
  rw [dga_obj]
  refine wpAny_bind (wpAny_pure ?_)
  show wpAny _ _ (Builtin.Getset_descriptor.descrGetter _ _) _ _ _
  unfold Builtin.Getset_descriptor.descrGetter Builtin.Getset_descriptor.descrCheckInstance Builtin.Getset_descriptor.descrNameAndClass
  simp only [KF.owner_class]
  refine wpAny_bind (wpAny_bind (wpAny_pure ?_))
  refine wpAny_bind (LI.at ?_)
  simp only [Bool.not_true,Bool.false_eq_true,if_false]
  refine wpAny_pure ?_
  refine nd_pure ⟨Code.quiet_builtin _ (by decide +kernel),codeAny_builtin KF.entry_class ?_⟩
  show wpAny _ _ (Bind.bind (shownTypeOf (.ref x)) fun z=>ret z) _ _ _
  unfold shownTypeOf
  refine wpAny_bind (wpAny_bind ((LT _).at ?_))
  rw [if_neg (by simp)]
  exact wpAny_pure (wpAny_pure hR)
theorem exn_check {M:Model} {A:Around} {E:Value->Shared->Prop} {s:Shared} {K:Frag} {x C:Addr} {nv:Value} {Q:Unit->Shared->Prop} (Z:K.In s.heap)
    (LT:∀ M,Looks M s.heap (typeOf (.ref x)) (.ref C)) (hm:mroIn K C (.type "BaseException")=some true) (hQ:Q () s) :
    wpAny M A (checkBuiltinCall "BaseException.__getattribute__" { pos:=[.ref x,nv] }) Q E s:=by
  obtain ⟨h,g,d,t,os⟩:=s
  have LM:Looks M h (isSubtype (.ref C) (.type "BaseException")) true:=looks_mroIn Z hm
  have LI:Looks M h (isInstance (.ref x) (.type "BaseException")) true:=(LT _).andThen LM
  have e1:builtinKind "BaseException.__getattribute__"=some .slot:=by first|rfl|decide +kernel
  have e2:splitId "BaseException.__getattribute__"=some ("BaseException","__getattribute__"):=by first|rfl|decide +kernel
  have e3:=F.args_bexc_ga (.ref x) nv
  unfold argsOk at e3
  unfold checkBuiltinCall
  simp only [e1,e2]
  refine wpAny_bind (LI.at ?_)
  simp only [Bool.not_true,Bool.false_eq_true,if_false]
  cases hs:Manifest.signature? "BaseException.__getattribute__" with
  | none=>exact wpAny_pure hQ
  | some sig=>rw [hs] at e3;dsimp only at e3 ⊢;rw [e3];exact wpAny_pure hQ
theorem exn_ga {prog:Program} {w:World} {A:Around} {s:Shared} {K:Frag} {x C:Addr} {R:Result->Shared->Prop} {tk:Tok} (Z:K.In s.heap)
    (LT:∀ M,Looks M s.heap (typeOf (.ref x)) (.ref C)) (hk:exk K C=true) (hR:R (.ok (.ret (.ref C))) s) :
    codeAny (model prog w) A (.call (.builtin "BaseException.__getattribute__") ⟨[.ref x,.str "__class__" tk],[]⟩) R s:=by
  obtain ⟨h,g,d,t,os⟩:=s
  simp only [exk,Bool.and_eq_true,beq_iff_eq] at hk
  obtain ⟨hm,hb,h1,h2,h3,_⟩:=hk
  refine codeAny_call_builtin (by decide +kernel) F.entry_bexc_ga (exn_check Z LT hb ?_)
  unfold Builtin.«object.__getattribute__» slotArgs
  refine wpAny_bind (wpAny_pure (wpAny_bind (wpAny_pure (wpAny_bind ((LT _).at (wpAny_bind ?_))))))
  unfold Builtin.ObjectAttr.find
  refine wpAny_bind ((looks_findIn Z h1).at (wpAny_bind ((looks_specialIn Z h2).at (wpAny_bind (wpAny_bind ((looks_takesIn Z h3).at (wpAny_pure (wpAny_bind (wpAny_rule (wpAny_pure ?_))))))))))
  show wpAny _ _ (Builtin.ObjectAttr.bindTo _ _ _ _) _ _ _
  unfold Builtin.ObjectAttr.bindTo
  exact wpAny_bind (wpAny_holding (wpAny_call (exn_class Z LT hm (wpAny_pure hR))))
theorem kitx_at {K:Frag} {x C:Addr} {dx:Option Addr} (hk:exk K C=true):KitX K (.ref x) (.ref C) (ExnAt x C dx):=by
  have LT:∀ M h,ExnAt x C dx h->Looks M h (typeOf (.ref x)) (.ref C):=fun M h ⟨o,vs,h1,h2,_⟩=>by
    have:Looks M h (typeOf (.ref x)) o.cls:=(Looks.ld h1).andThen .now
    rw [h2] at this
    exact this
  have hk':=hk
  simp only [exk,Bool.and_eq_true,beq_iff_eq] at hk'
  obtain ⟨_,_,_,_,_,h4,h5,h6⟩:=hk'
  refine ⟨fun M h Z p=>LT M h p,fun M h Z p=>(kit_cls Z h6).2.1,fun h tp dd its n sl Z e=>?_,fun {prog w A E Q s} Z p hQ=>?_⟩
  . cases hh:(Value.ref C == Value.ref tp) with
    | false=>rfl
    | true =>
      exfalso
      have e1:C=tp:=by simpa using hh
      subst e1
      unfold kitCls clsIn at h6
      dsimp only at h6
      cases hl:List.lookup C K with
      | none=>rw [hl] at h6;simp at h6
      | some o=>have:=Z _ _ hl;rw [e] at this;cases this;rw [hl] at h6;simp at h6
  . obtain ⟨h,g,d,t,os⟩:=s
    unfold getAttr? getAttrBy? getAttrBy
    refine wpAny_bind (wpAny_mkText (wpAny_bind (wpAny_attempt (wpAny_holding (wpAny_bind ((LT _ _ p).at (wpAny_bind ((looks_findIn Z h4).at ?_))))))))
    dsimp only
    rw [if_neg (by simp [onTheHeap])]
    unfold getAttrByItsOwn hookBefore
    rw [if_pos (by rfl)]
    refine wpAny_bind ((looks_findIn Z h5).at (wpAny_bind (wpAny_attempt (wpAny_holding ?_))))
    unfold callGetattribute
    rw [if_neg (by simp)]
    unfold boundAndCalled
    rw [show bindSpecial (.builtin "BaseException.__getattribute__") (.ref x)=pure (.builtin "BaseException.__getattribute__",[.ref x]) by first|rfl|kernel_rfl]
    exact wpAny_bind (wpAny_pure (wpAny_call (exn_ga Z (fun M=>LT M _ p) hk (handed_on rfl (wpAny_pure hQ)))))
theorem isx_nil {K:Frag} {Pr:Addr->Bool->Prop}:∀ (c:Str) (b:Bool) (C:Addr),List.lookup c ([]:List (Str×Bool))=some b->nsIn K mainGlobals c=some (some (.ref C))->Pr C b:=fun _ _ _ h=>nomatch h
theorem isx_cons {K:Frag} {Pr:Addr->Bool->Prop} {x:Str} {b₀:Bool} {D:Addr} {l:List (Str×Bool)} (n:nsIn K mainGlobals x=some (some (.ref D))) (p:Pr D b₀) (h:∀ (c:Str) (b:Bool) (C:Addr),List.lookup c l=some b->nsIn K mainGlobals c=some (some (.ref C))->Pr C b) :
    ∀ (c:Str) (b:Bool) (C:Addr),List.lookup c ((x,b₀)::l)=some b->nsIn K mainGlobals c=some (some (.ref C))->Pr C b:=fun c b C e z=>by
  rw [List.lookup_cons] at e
  split at e
  . next q=>obtain rfl:=eq_of_beq q;rw [n] at z;cases z;cases e;exact p
  . exact h c b C e z
section
variable {X:Cx} {B:Bs} {W:Wi}
noncomputable def gIsX (m:Str->Option Bool):D->Rs D
  | .exn c n=>match m c with|some b=>.ok (.bl b)|none=>.no
  | _=>.no
theorem call_isX {m:Str->Option Bool} {u:Value} {v:V} (ru:∀ u',RelV v u'->u'=u) (hm:∀ c b C,m c=some b->nsIn X.K mainGlobals c=some (some (.ref C))->exk X.K C=true/\kitOne X.K (.ref C) u=some b) :
    CallR X (.builtin "isinstance") (fun xs H Q=>∃ y c n b,xs=[y,v]/\m c=some b/\Rep X.K H (.exn c n) y/\Q (.bl b) H):=by
  intro pins s σ H xs us Q I r ⟨y,c,n,b,e,mc,rd,q⟩
  subst e
  cases r with
  | cons r1 r2 =>
    cases r2 with
    | cons r3 r4 =>
      cases r4
      obtain ⟨a,C',_,rfl,hn,hH,_⟩:=rep_exn.mp rd
      cases r1
      obtain rfl:=ru _ r3
      obtain ⟨h1,h2⟩:=hm c b C' mc hn
      exact kia_one (kitx_at h1) I.kIn (I.hok _ _ hH).1 h2 (fun z=>nomatch z) fun tk=>⟨.bl b,H,I.tok tk,rfl,q⟩
theorem vals_ref:∀ {Cs:List Addr} {us:List Value},Vals (Cs.map V.ref) us->us=Cs.map Value.ref
  | [],_,r=>by cases r;rfl
  | C::Cs,_,r=>by
    cases r with
    | cons r1 r2=>rw [vals_ref r2];cases r1;rfl
theorem call_isXT {m:Str->Option Bool} {Cs:List Addr} (hm:∀ c b C,m c=some b->nsIn X.K mainGlobals c=some (some (.ref C))->exk X.K C=true/\kitAny X.K (.ref C) (Cs.map Value.ref)=some b) :
    CallR X (.builtin "isinstance") (fun xs H Q=>∃ y c n b t,xs=[y,.ref t]/\H t=some (.tup (Cs.map V.ref))/\m c=some b/\Rep X.K H (.exn c n) y/\Q (.bl b) H):=by
  intro pins s σ H xs us Q I r ⟨y,c,n,b,t,e,ht,mc,rd,q⟩
  subst e
  cases r with
  | cons r1 r2 =>
    cases r2 with
    | cons r3 r4 =>
      cases r4
      obtain ⟨a,C',_,rfl,hn,hH,_⟩:=rep_exn.mp rd
      cases r1
      cases r3
      obtain ⟨h1,h2⟩:=hm c b C' mc hn
      obtain ⟨its,ri,⟨o,g1,g2,k,g3⟩,_⟩:=I.tuple (.of ht)
      obtain ⟨oc,od,oe,ol⟩:=o
      dsimp only at g2 g3
      subst g2 g3
      rw [<- vals_ref ri] at h2
      exact kia_tup (kitx_at h1) I.kIn (I.hok _ _ hH).1 g1 h2 (fun z=>nomatch z) fun tk=>⟨.bl b,H,I.tok tk,rfl,q⟩
theorem isX_q {m:Str->Option Bool} {d:D} {G H:Hp} {σ:St} {Q:VK} (q:Post X.K W σ G H (gIsX m d) Q):∃ c n b,d=.exn c n/\m c=some b/\Post X.K W σ G H (.ok (.bl b)) Q:=by
  cases d with
  | exn c n =>
    simp only [gIsX] at q
    cases e:m c with
    | none=>rw [e] at q;exact q.elim
    | some b=>rw [e] at q;exact ⟨c,n,b,rfl,e,q⟩
  | _=>exact q.elim
theorem re_isXc {m:Str->Option Bool} {u:Value} {v:V} {e c:Expr} {p1 pos:Pos} {f:Rho->Rs D} (ru:∀ u',RelV v u'->u'=u) (hm:∀ c b C',m c=some b->nsIn X.K mainGlobals c=some (some (.ref C'))->exk X.K C'=true/\kitOne X.K (.ref C') u=some b)
    (hi:X.mg "isinstance"=none) (he:SE X B W e f) (hc:PE X c (tC v)) (hg:Gl X "isinstance") (hst:starEach [e,c] X.env=[(false,eval e X.env),(false,eval c X.env)]) (hst2:starEach [c] X.env=[(false,eval c X.env)]) :
    SE X B W (.Call (.Name "isinstance" p1) [e,c] [] pos) (fB f (gIsX m)):=by
  refine PE.imp (pe_callB (call_isX ru hm) hg hi PyProof.Rows.boot_isinstance (pa_cons he (pa_cons hc pa_nil (by rw [hst2];rfl)) (by rw [hst,hst2])) (by decide) (by decide) (by rw [hst,hst2]) (by rw [hst2];rfl)) fun σ H Q h=>?_
  obtain ⟨ρ,G,s,p⟩:=tF_bind (k:=fun _=>gIsX m) h
  refine ⟨ρ,G,s,p.mono fun v H1 ⟨ρ1,G1,d,s1,r,q⟩=>?_⟩
  obtain ⟨c,n,b,rfl,mc,q⟩:=isX_q q
  exact ⟨v,c,n,b,rfl,mc,r.mono s1.en.gh,Post.ok s1 q (rep_bl.mpr rfl)⟩
theorem re_isX {m:Str->Option Bool} {C:Addr} {x:Str} {e:Expr} {p1 p2 pos:Pos} {f:Rho->Rs D} (hm:∀ c b C',m c=some b->nsIn X.K mainGlobals c=some (some (.ref C'))->exk X.K C'=true/\kitOne X.K (.ref C') (.ref C)=some b)
    (hi:X.mg "isinstance"=none) (hmt:X.mg x=some (.ref C)) (he:SE X B W e f) (hg:Gl X "isinstance":=by rfl) (hgx:Gl X x:=by rfl)
    (hst:starEach [e,.Name x p2] X.env=[(false,eval e X.env),(false,eval (.Name x p2) X.env)]:=by rfl) (hst2:starEach [.Name x p2] X.env=[(false,eval (.Name x p2) X.env)]:=by rfl) (hd:(x == ("__debug__":Str))=false:=by decide) :
    SE X B W (.Call (.Name "isinstance" p1) [e,.Name x p2] [] pos) (fB f (gIsX m)):=re_isXc (v:=.ref C) (fun _ z=>z) hm hi he (pe_glob hgx hmt rfl hd) hg hst hst2
theorem re_isXB {m:Str->Option Bool} {T:String} {x:Str} {e:Expr} {p1 p2 pos:Pos} {f:Rho->Rs D} (hm:∀ c b C',m c=some b->nsIn X.K mainGlobals c=some (some (.ref C'))->exk X.K C'=true/\kitOne X.K (.ref C') (.type T)=some b)
    (hi:X.mg "isinstance"=none) (hmt:X.mg x=none) (he:SE X B W e f) (hv:bootBuiltins x=some (.type T)) (hg:Gl X "isinstance":=by rfl) (hgx:Gl X x:=by rfl)
    (hst:starEach [e,.Name x p2] X.env=[(false,eval e X.env),(false,eval (.Name x p2) X.env)]:=by rfl) (hst2:starEach [.Name x p2] X.env=[(false,eval (.Name x p2) X.env)]:=by rfl) (hn:x≠"__name__":=by decide) (hd:(x == ("__debug__":Str))=false:=by decide) :
    SE X B W (.Call (.Name "isinstance" p1) [e,.Name x p2] [] pos) (fB f (gIsX m)):=re_isXc (v:=.ty T) (fun _ z=>z) hm hi he (pe_bltn hgx hmt hv rfl hn hd) hg hst hst2
noncomputable def tCl (Cs:List Addr):TA:=fun _ H Q=>Q (Cs.map V.ref) H
theorem pc_nil:PA X [] (tCl []):=pa_nil
theorem pc_cons {x:Str} {p:Pos} {C:Addr} {Cs:List Addr} {es:List Expr} (hm:X.mg x=some (.ref C)) (h:PA X es (tCl Cs)) (hg:Gl X x:=by rfl) (hd:(x == ("__debug__":Str))=false:=by decide)
    (hs:starEach (.Name x p::es) X.env=(false,eval (.Name x p) X.env)::starEach es X.env:=by rfl):PA X (.Name x p::es) (tCl (C::Cs)) :=
  pa_cons (pe_glob (v:=.ref C) hg hm rfl hd) h hs
theorem re_isXT {m:Str->Option Bool} {Cs:List Addr} {e:Expr} {es:List Expr} {x1} {p1 p2 pos:Pos} {f:Rho->Rs D} (hm:∀ c b C',m c=some b->nsIn X.K mainGlobals c=some (some (.ref C'))->exk X.K C'=true/\kitAny X.K (.ref C') (Cs.map Value.ref)=some b)
    (hi:X.mg "isinstance"=none) (he:SE X B W e f) (hc:PA X es (tCl Cs)) (hl:Cs.length<=1000:=by simp) (hg:Gl X "isinstance":=by rfl)
    (hst:starEach [e,.Tuple es x1 p2] X.env=[(false,eval e X.env),(false,eval (.Tuple es x1 p2) X.env)]:=by rfl) (hst2:starEach [.Tuple es x1 p2] X.env=[(false,eval (.Tuple es x1 p2) X.env)]:=by rfl) :
    SE X B W (.Call (.Name "isinstance" p1) [e,.Tuple es x1 p2] [] pos) (fB f (gIsX m)):=by
  refine PE.imp (pe_callB (call_isXT hm) hg hi PyProof.Rows.boot_isinstance (pa_cons he (pa_cons (pe_tup hc) pa_nil (by rw [hst2];rfl)) (by rw [hst,hst2])) (by decide) (by decide) (by rw [hst,hst2]) (by rw [hst2];rfl)) fun σ H Q h=>?_
  obtain ⟨ρ,G,s,p⟩:=tF_bind (k:=fun _=>gIsX m) h
  refine ⟨ρ,G,s,p.mono fun v H1 ⟨ρ1,G1,d,s1,r,q⟩=>?_⟩
  obtain ⟨c,n,b,rfl,mc,q⟩:=isX_q q
  refine ⟨by simpa using sz1000 hl,fun a ha=>?_⟩
  have x:=ext_tup (xs:=Cs.map V.ref) s1.en.gh s1.en.tp ha
  exact ⟨v,c,n,b,a,rfl,upd_same,mc,(r.mono x.gg).mono (s1.ext x).en.gh,Post.ok (s1.ext x) (Post.ext x q) (rep_bl.mpr rfl)⟩
end
end Vl
namespace Vl
open PySem PySem.Spec PySem.W L2
section
variable {X:Cx} {B:Bs} {W:Wi} {σ:L2.St} {H:Hp} {K:PySem.W.Frag}
theorem kit_Ds (d:D) (hx:isX d=false):∀ ts:List Ty,PySem.W.kitAny K (.type (tyD d)) (ts.map fun t=>.type t.nm)=some (ts.any (isD d))
  | []=>rfl
  | t::ts=>by
    rw [List.map_cons,List.any_cons]
    unfold PySem.W.kitAny
    rw [kit_D d t hx]
    cases isD d t with
    | true=>rfl
    | false=>rw [Bool.false_or];exact kit_Ds d hx ts
theorem isDT_at {pins:List (Addr×Obj)} {s:Shared} {A:Around} {E Q:Value->Shared->Prop} {d:D} {v:V} {u:Value} {ts:List Ty} {tp:Addr} {dd:Option Addr} {n:Nat} {sl:Array (Option Value)} (I:L2.Inv X pins σ H s) (hx:isX d=false) (r:Rep X.K H d v) (rv:RelV v u)
    (g:s.heap.get? tp=some ⟨.type "tuple",dd,.seq (ts.map fun t=>Value.type t.nm).toArray n,sl⟩) (h:∀ tk,Q (.bool (ts.any (isD d))) { s with toks:=tk }) :
    wpAny (model X.prog X.w) A (call (.builtin "isinstance") [u,.ref tp]) Q E s:=by
  have e:=kit_Ds (K:=X.K) d hx ts
  cases d with
  | non=>rw [rep_non.mp r] at rv;cases rv;exact PySem.W.kia_tup PySem.W.kitx_none I.kIn True.intro g e (fun z=>nomatch z) h
  | bl y=>rw [rep_bl.mp r] at rv;cases rv;exact PySem.W.kia_tup PySem.W.kitx_bool I.kIn True.intro g e (fun z=>nomatch z) h
  | int i=>rw [rep_int.mp r] at rv;obtain ⟨t,rfl⟩:=rv;exact PySem.W.kia_tup PySem.W.kitx_int I.kIn True.intro g e (fun z=>nomatch z) h
  | str i=>rw [rep_str.mp r] at rv;obtain ⟨t,rfl⟩:=rv;exact PySem.W.kia_tup PySem.W.kitx_str I.kIn True.intro g e (fun z=>nomatch z) h
  | tup ds =>
    obtain ⟨a,vs,rfl,q,_⟩:=rep_tup.mp r
    cases rv
    obtain ⟨_,_,⟨o,h1,h2,_⟩,_⟩:=I.tuple q
    exact PySem.W.kia_tup PySem.W.kitx_tuple I.kIn ⟨o,h1,h2⟩ g e (fun z=>nomatch z) h
  | lst ds =>
    obtain ⟨a,vs,rfl,q,_⟩:=rep_lst.mp r
    cases rv
    obtain ⟨_,_,⟨o,n,h1,h2,_⟩,_⟩:=I.list q
    exact PySem.W.kia_tup PySem.W.kitx_list I.kIn ⟨o,h1,h2⟩ g e (fun z=>nomatch z) h
  | exn c n=>cases hx
  | dic c n=>cases hx
  | fn c=>cases hx
  | obj c n ds=>cases hx
theorem vals_ty:∀ {ts:List Ty} {us:List Value},Vals (ts.map fun t=>V.ty t.nm) us->us=ts.map fun t=>Value.type t.nm
  | [],_,r=>by cases r;rfl
  | t::ts,_,r=>by
    cases r with
    | cons r1 r2=>rw [vals_ty r2];cases r1;rfl
theorem call_isDT {ts:List Ty}:CallR X (.builtin "isinstance") (fun xs H Q=>∃ y d t,xs=[y,.ref t]/\H t=some (.tup (ts.map fun t=>V.ty t.nm))/\isX d=false/\Rep X.K H d y/\Q (.bl (ts.any (isD d))) H):=by
  intro pins s σ H xs us Q I r ⟨y,d,t,e,ht,hx,rd,q⟩
  subst e
  cases r with
  | cons r1 r2 =>
    cases r2 with
    | cons r3 r4 =>
      cases r4
      cases r3
      obtain ⟨its,ri,⟨o,g1,g2,k,g3⟩,_⟩:=I.tuple (.of ht)
      obtain ⟨oc,od,oe,ol⟩:=o
      dsimp only at g2 g3
      subst g2 g3
      rw [vals_ty ri] at g1
      exact isDT_at I hx rd r1 g1 fun tk=>⟨.bl _,H,I.tok tk,rfl,q⟩
noncomputable def tTy (ts:List Ty):TA:=fun _ H Q=>Q (ts.map fun t=>V.ty t.nm) H
theorem pt_nil:PA X [] (tTy []):=pa_nil
theorem pt_cons {x:Str} {p:Pos} {t:Ty} {ts:List Ty} {es:List Expr} (hm:X.mg x=none) (hv:bootBuiltins x=some (.type t.nm)) (h:PA X es (tTy ts)) (hg:Gl X x:=by rfl) (hn:x≠"__name__":=by decide) (hd:(x == ("__debug__":Str))=false:=by decide)
    (hs:starEach (.Name x p::es) X.env=(false,eval (.Name x p) X.env)::starEach es X.env:=by rfl):PA X (.Name x p::es) (tTy (t::ts)) :=
  pa_cons (pe_bltn (v:=.ty t.nm) hg hm hv rfl hn hd) h hs
noncomputable def gIsT (ts:List Ty):D->Rs D:=fun d=>if isX d=false then .ok (.bl (ts.any (isD d))) else .no
end
end Vl
namespace Vl
open PySem PySem.Spec PySem.Calls PySem.W L2
noncomputable def capsB (S sc:Scope) (NX N:List Str) (nt:Nat) (caps:List Nat):Bool :=
  decide (sc.kind=.function) && sc.names.all (fun y=>y.2 != .cell) && sc.names.all (fun y=>y.2 != .free || S.names.lookup y.1 == some .cell || S.names.lookup y.1 == some .free) && decide (N.length=nt + caps.length) &&
    (List.range caps.length).all fun j=>match caps[j]?,N[nt + j]? with|some i,some x=>NX[i]? == some x && sc.names.lookup x == some .free|_,_=>true
theorem caps_of {X:Cx} {sc:Scope} {N:List Str} {nt:Nat} {caps:List Nat} (S:Scope) (NX:List Str) (h:capsB S sc NX N nt caps=true) (hS:X.env.scope=S:=by rfl) (hX:X.N=NX:=by rfl):Caps X sc N nt caps:=by
  unfold capsB at h
  simp only [Bool.and_eq_true,decide_eq_true_eq,List.all_eq_true,bne_iff_ne,Bool.or_eq_true,beq_iff_eq,ne_eq] at h
  obtain ⟨⟨⟨⟨h1,h2⟩,h3⟩,h4⟩,h5⟩:=h
  refine ⟨h1,fun y hy=>h2 y hy,fun y hy hf=>?_,h4,fun j i x e1 e2=>?_⟩
  . have:=h3 y hy
    unfold Env.kindOf
    rw [hS]
    rcases this with (h|h)|h
    . exact absurd hf h
    . exact .inl h
    . exact .inr h
  . have:=h5 j (by rw [List.mem_range];exact (List.getElem?_eq_some_iff.mp e1).1)
    rw [e1,e2] at this
    simp only [Bool.and_eq_true,beq_iff_eq] at this
    rw [hX]
    exact this
theorem keep_name {i:Nat}:KeepNo (hName i):=by
  intro d ρ ρ' no e j ds q
  unfold hName at e
  cases e
  by_cases c:i=j
  . subst c
    have hl:i < ρ.length:=by
      have:=(List.getElem?_eq_some_iff.mp q).1;simpa using this
    rw [List.getElem?_set_self hl] at q
    cases q;exact fun w=>by cases w
  . rw [List.getElem?_set_ne c] at q;exact no j ds q
theorem re_comp {X:Cx} {B:Bs} {W:Wi} {tg iter:Expr} {elt:Expr} {sc:Scope} {pos:Pos} {N:List Str} {nt:Nat} {caps:List Nat} {h:Tg} {fe:Rho->Rs D} {fi:Rho->Rs (List D)}
    (c:Caps X sc N nt caps) (hc:X.calm=true) (hnames:sc.names.all (fun y=>y.2 != .local || sc.names.lookup y.1 == some .local)=true) (hi:SI X B W tg iter fi) (hno:KeepNo h)
    (ht:∀ s₀ H₀ C ex pins B',SG (compX X N s₀ H₀ sc (clOf sc X.env) C ex pins) B' tg h)
    (he:∀ s₀ H₀ C ex pins B',SE (compX X N s₀ H₀ sc (clOf sc X.env) C ex pins) B' WF elt fe)
    (hs:∀ x,foldedSetIterable iter X.env x=pure x:=by intro _;rfl) :
    SE X B W (.ListComp elt [⟨tg,iter,[],0⟩] sc pos) (gComp h (fun _=>.ok true) fe nt caps fi) :=
  se_comp c hc (fun y hy hl=>by
    have:=List.all_eq_true.mp hnames y hy
    simp only [Bool.or_eq_true,bne_iff_ne,beq_iff_eq,ne_eq] at this
    exact this.elim (fun z=>absurd hl z) id) hi hno ht (.inl ⟨rfl,rfl⟩) he hs
noncomputable def rPar (i j:Nat) (fs:Rho->Rs (List D)):Rho->Ou:=fun ρ=>oR (fs ρ) ρ fun ds=>match ds with
  | [d,e]=>.nx ((ρ.set i (.fz d)).set j (.fz e))
  | _=>.no
theorem kit_same {K:Frag} (C:Addr):kitOne K (.ref C) (.ref C)=some true:=by unfold kitOne;rw [if_pos (by simp)]
theorem kit_below {K:Frag} {a b:Value} (h:exmOne K a b=some true):kitOne K a b=some true:=by
  unfold exmOne at h
  split at h
  . unfold kitOne;split
    . rfl
    . exact h
  . cases h
end Vl
namespace Vl
open PySem PySem.Spec PySem.Calls PySem.W L2
theorem walk_v {l:OpenLaw} {k:Nat} {q:Program} {loose:List Str} {XP:(Str->Option Value)->Heap->Prop} {YP:World->Heap->Prop} {d:DefRec} {K:Params->Frag} {v:List D->Rs D} (hn:l.most=some 63) (hdf:d.params.defaults=[]) (hr:Room k callerA)
    (hY:∀ (w:World) (h:Heap),YP w h->(K w.params).In h) (hlam:∀ w:World,lamT (K w.params)=[]) (hv:∀ ns:List Int,ns.length<=63->v [.lst (ns.map D.int)]=.ok (.bl true))
    (F:∀ (w:World) (mg:Str->Option Value) (fa:Addr) (h:Heap),(K w.params).In h->h.Ns mainGlobals mg->mg d.name=some (.ref fa) ->
      ∃ fd:FuncData,(∀ (s:Shared) (u:Value),BindsTo s fd ⟨[u],[]⟩ [("script",u)])/\∀ base:Heap,(K w.params).In base->base.Ns mainGlobals mg->FnOk l.prog w (K w.params) mg base (CXv l.prog w (K w.params)) k fa fd ["script"] (spV (K w.params) 1 v)) :
    WalkO q loose XP YP l.row.toRowW d [] (fun f vs=>PySem.call f vs):=by
  refine L2.walk_of (n:=63) (k:=k) (x:="script") (CX:=fun w=>CXv l.prog w (K w.params)) (sp:=fun w=>spV (K w.params) 1 v) hn (by decide) hdf hr hY F (fun w H a ns hl _ hS=>?_) fun w H s e s' h=>?_
  . refine ⟨rfl,H,[.lst (ns.map D.int)],⟨.refl (.refl _) (fun _ _ e=>e),fun x m=>by rw [hlam] at m;cases m⟩,Reps.one (rep_lst.mpr ⟨a,_,rfl,hS,reps_ints ns⟩),?_⟩
    rw [hv ns hl]
    exact fun u H' G' _ r=>rep_bl.mp r
  . obtain ⟨_,_,_,_,_,_,_,_,_,_,z⟩:=h
    exact z.elim
end Vl
namespace Vl
open PySem PySem.Spec PySem.Calls PySem.W L2
section
variable {ρ ρ1:Rho} {d x y z:D} {f fa fb:Rho->Rs D} {g k a b:Rho->Ou} {r:Ou} {ds:List D} {fs:Rho->Rs (List D)} {c c1 c2:Rho->Rs Bool} {t u:Bool} {i j:Nat}
theorem seq_nx (h:g ρ=.nx ρ1) (h2:k ρ1=r):rSeq g k ρ=r:=by unfold rSeq;rw [h];exact h2
theorem seq_rt (h:g ρ=.rt d):rSeq g k ρ=.rt d:=by unfold rSeq;rw [h];rfl
theorem seq_ex {e:Str} {n:Int} (h:g ρ=.ex e n ρ1):rSeq g k ρ=.ex e n ρ1:=by unfold rSeq;rw [h];rfl
theorem v_c:fC d ρ=.ok d:=rfl
theorem v_var (h:ρ[i]?=some (.fz d)):fVar i ρ=.ok d:=by unfold fVar;rw [h]
theorem v_op {o:D->D->Rs D} {r:Rs D} (h1:fa ρ=.ok x) (h2:fb ρ=.ok y) (h3:o x y=r):fOp o fa fb ρ=r:=by unfold fOp;rw [h1];show (fb ρ).bind _=_;rw [h2];exact h3
theorem v_neg {n:Int} (h1:fa ρ=.ok (.int n)):fNeg fa ρ=.ok (.int (-n)):=by unfold fNeg;rw [h1];rfl
theorem v_nil:fNil ρ=.ok []:=rfl
theorem v_cons (h1:fa ρ=.ok x) (h2:fs ρ=.ok ds):fCons fa fs ρ=.ok (x::ds):=by unfold fCons;rw [h1];show (fs ρ).bind _=_;rw [h2];rfl
theorem v_a {o:List D->Rs D} {r:Rs D} (h1:fs ρ=.ok ds) (h2:o ds=r):fA fs o ρ=r:=by unfold fA;rw [h1];exact h2
theorem v_b {o:D->Rs D} {r:Rs D} (h1:fa ρ=.ok x) (h2:o x=r):fB fa o ρ=r:=by unfold fB;rw [h1];exact h2
theorem v_call {n:Nat} {v:List D->Rs D} {r:Rs D} (hl:ds.length=n) (h:v ds=r):gCallX n v ds=r:=by unfold gCallX;rw [if_pos hl];exact h
theorem v_tup (hl:ds.length<=1000):gTup ds=.ok (.tup ds):=by unfold gTup;rw [if_pos hl]
theorem v_lst (hl:ds.length<=1000):gLst ds=.ok (.lst ds):=by unfold gLst;rw [if_pos hl]
theorem v_t (h:fa ρ=.ok (.bl t)):fT fa ρ=.ok t:=by unfold fT;rw [h];rfl
theorem v_not (h:c ρ=.ok t):fNot c ρ=.ok (!t):=by unfold fNot;rw [h];rfl
theorem v_or_t (h:c1 ρ=.ok true):fOr c1 c2 ρ=.ok true:=by unfold fOr;rw [h];rfl
theorem v_or_f (h:c1 ρ=.ok false) (h2:c2 ρ=.ok t):fOr c1 c2 ρ=.ok t:=by unfold fOr;rw [h];exact h2
theorem v_and_f (h:c1 ρ=.ok false):fAnd c1 c2 ρ=.ok false:=by unfold fAnd;rw [h];rfl
theorem v_and_t (h:c1 ρ=.ok true) (h2:c2 ρ=.ok t):fAnd c1 c2 ρ=.ok t:=by unfold fAnd;rw [h];exact h2
theorem s_if_t (h:c ρ=.ok true) (h2:a ρ=r):rIf c a b ρ=r:=by unfold rIf;rw [h];exact h2
theorem s_if_f (h:c ρ=.ok false) (h2:b ρ=r):rIf c a b ρ=r:=by unfold rIf;rw [h];exact h2
theorem s_set (h:fa ρ=.ok x):rSet i fa ρ=.nx (ρ.set i (.fz x)):=by unfold rSet;rw [h];rfl
theorem s_ret (h:fa ρ=.ok x):rRet fa ρ=.rt x:=by unfold rRet;rw [h];rfl
theorem s_exp (h:fa ρ=.ok x):rExp fa ρ=.nx ρ:=by unfold rExp;rw [h];rfl
theorem s_exp_ex {e:Str} {n:Int} (h:fa ρ=.ex e n):rExp fa ρ=.ex e n ρ:=by unfold rExp;rw [h];rfl
theorem s_asg {h:Tg} (h1:fa ρ=.ok x) (h2:h x ρ=some ρ1):rAsg fa h ρ=.nx ρ1:=by unfold rAsg;rw [h1];show oO (h x ρ)=_;rw [h2];rfl
theorem s_nx:rNx ρ=.nx ρ:=rfl
theorem s_nox (h:g ρ=.nx ρ1):rNox g ρ=.nx ρ1:=by unfold rNox;rw [h];rfl
theorem s_forR {h:Tg} {n:Int} {N:Nat} (h1:fa ρ=.ok (.int n)) (hb:n < 2 ^ 62) (hN:n=(N:Int)) (h2:forD h g ((List.range N).map fun (i:Nat)=>.int i) ρ=r):gForR h g fa ρ=r:=by
  have hc:-(2 ^ 62)<=n/\n < 2 ^ 62:=⟨by subst hN;lia,hb⟩
  unfold gForR;rw [h1]
  simp only [oR]
  rw [if_pos hc,hN,Int.toNat_natCast]
  exact h2
theorem s_forL {h:Tg} (h1:fa ρ=.ok (.lst ds)) (h2:forD h g ds ρ=r):gForL h g fa ρ=r:=by unfold gForL;rw [h1];exact h2
theorem forD_all {h:Tg} (P:Rho->Prop):∀ {ds:List D} {ρ:Rho},P ρ->(∀ d∈ds,∀ ρ,P ρ->∃ ρ1 ρ',h d ρ=some ρ1/\g ρ1=.nx ρ'/\P ρ')->∃ ρ',forD h g ds ρ=.nx ρ'/\P ρ'
  | [],ρ,p,_=>⟨ρ,rfl,p⟩
  | d::ds,ρ,p,st=>by
    obtain ⟨ρ1,ρ2,e1,e2,p2⟩:=st d (by simp) ρ p
    obtain ⟨ρ',e,p'⟩:=forD_all (ds:=ds) P p2 fun d' hd=>st d' (by simp [hd])
    refine ⟨ρ',?_,p'⟩
    simp only [forD,e1,e2]
    exact e
theorem s_try_nx {m:Str->Bool} {gs:Rho->Ou} (h:g ρ=.nx ρ1):gTry m i g gs ρ=.nx ρ1:=by unfold gTry;rw [h]
theorem s_try_ex {m:Str->Bool} {gs:Rho->Ou} {e:Str} (h:g ρ=.ex e 0 ρ1) (hm:m e=true) (h2:offI i (gs (ρ1.set i (.fz (.exn e 0))))=r):gTry m i g gs ρ=r:=by unfold gTry;rw [h];show (if _ then _ else _)=_;rw [if_pos ⟨hm,rfl⟩];exact h2
theorem v_comp {h:Tg} {ft:Rho->Rs Bool} {fe:Rho->Rs D} {nt:Nat} {caps:List Nat} {fi:Rho->Rs (List D)} {ys:List D} (h1:fi ρ=.ok ds) (h2:compD h ft fe ds (startCR nt caps ρ)=.ok ys) (hl:ys.length<=1000000):gComp h ft fe nt caps fi ρ=.ok (.lst ys):=by
  unfold gComp;rw [h1]
  show noExR ((compD h ft fe ds (startCR nt caps ρ)).bind _)=_
  rw [h2]
  show noExR (if ys.length<=1000000 then _ else _)=_
  rw [if_pos hl];rfl
theorem v_l {o:D->Rs (List D)} (h1:fa ρ=.ok x) (h2:o x=.ok ds):fL fa o ρ=.ok ds:=by unfold fL;rw [h1];exact h2
variable {m n:Int}
theorem q_mul (h:CMul m n):gMul (.int m) (.int n)=.ok (.int (m * n)):=by simp [gMul,gI,h]
theorem q_mod (h:0 < n):gMod (.int m) (.int n)=.ok (.int (m % n)):=by simp [gMod,gI,h]
theorem q_div (h:CDB m n):gDiv (.int m) (.int n)=.ok (.int (m / n)):=by simp [gDiv,gI,h]
theorem q_pow (h:CPow m n):gPow (.int m) (.int n)=.ok (.int (m ^ n.toNat)):=by simp [gPow,gI,h]
theorem q_plus:gPlus (.int m) (.int n)=.ok (.int (m + n)):=rfl
theorem gPlus_lst {a b:List D} (h:a.length + b.length<=1000000):gPlus (.lst a) (.lst b)=.ok (.lst (a++b)):=by simp only [gPlus];rw [if_pos h]
theorem q_sub:Vl.gSub (.int m) (.int n)=.ok (.int (m - n)):=rfl
theorem q_dm (h:CDB m n):gDm [.int m,.int n]=.ok (.tup [.int (m / n),.int (m % n)]):=by simp [gDm,h]
theorem q_lt:gLt (.int m) (.int n)=.ok (.bl (decide (m < n))):=rfl
theorem q_le:gLe (.int m) (.int n)=.ok (.bl (decide (m<=n))):=rfl
theorem q_gt:gGt (.int m) (.int n)=.ok (.bl (decide (n < m))):=rfl
theorem q_ge:gGe (.int m) (.int n)=.ok (.bl (decide (n<=m))):=rfl
theorem q_eqI:gEq (.int m) (.int n)=.ok (.bl (decide (m=n))):=by simp [gEq,dep,eqD];rfl
theorem q_neI:gNe (.int m) (.int n)=.ok (.bl (!decide (m=n))):=by simp [gNe,dep,eqD];rfl
theorem q_ne (h1:dep x<=8) (h2:dep y<=8):gNe x y=.ok (.bl (!eqD x y)):=by unfold gNe;rw [if_pos ⟨h1,h2⟩]
theorem q_ne_same (h1:dep x<=8) (e:x=y):gNe x y=.ok (.bl false):=by subst e;rw [q_ne h1 h1,eqD_refl];rfl
theorem q_ix (h:atI ds m=some d):gIx (.tup ds) (.int m)=.ok d:=by simp [gIx,h]
end
end Vl
namespace Tb
open PySem
noncomputable def it:Nat->Nat->Nat
  | 0,x=>x
  | m + 1,x=>5 * it m x + 1
theorem it_add (m n x:Nat):it (m + n) x=it m (it n x):=by
  induction m with
  | zero=>simp [it]
  | succ m ih=>rw [Nat.succ_add];simp only [it];rw [ih]
theorem it_pow (k:Nat):∃ w,w % 2=1/\∀ y,it (2 ^ k) y=y + 2 ^ k * w * (4 * y + 1):=by
  induction k with
  | zero=>exact ⟨1,rfl,fun y=>by simp [it];lia⟩
  | succ k ih =>
    obtain ⟨w,hw,h⟩:=ih
    refine ⟨w * (1 + 2 ^ (k + 1) * w),?_,fun y=>?_⟩
    . have e:2 ^ (k + 1)=2 * 2 ^ k:=by rw [Nat.pow_succ];lia
      rw [e,Nat.mul_add,Nat.mul_one,Nat.add_mod]
      have:w * (2 * 2 ^ k * w) % 2=0:=by
        have:w * (2 * 2 ^ k * w)=2 * (w * 2 ^ k * w):=by grind
        rw [this];exact Nat.mul_mod_right _ _
      lia
    . have e:2 ^ (k + 1)=2 ^ k + 2 ^ k:=by rw [Nat.pow_succ];lia
      rw [e,it_add,h,h]
      grind
theorem cover (k:Nat):∀ x e:Nat,∃ m,m < 2 ^ k/\it m x % 2 ^ k=e % 2 ^ k:=by
  induction k with
  | zero=>exact fun x e=>⟨0,by decide,by simp [Nat.mod_one]⟩
  | succ k ih =>
    intro x e
    obtain ⟨m,hm,he⟩:=ih x e
    obtain ⟨w,hw,hp⟩:=it_pow k
    have e2:2 ^ (k + 1)=2 ^ k * 2:=Nat.pow_succ ..
    by_cases c:it m x % 2 ^ (k + 1)=e % 2 ^ (k + 1)
    . exact ⟨m,by rw [e2];lia,c⟩
    . refine ⟨2 ^ k + m,by rw [e2];lia,?_⟩
      rw [it_add,hp]
      have pos:0 < 2 ^ k:=Nat.pos_of_ne_zero (by simp)
      generalize it m x=a at he c
      obtain ⟨q,hq⟩:∃ q,w * (4 * a + 1)=2 * q + 1:=by
        refine ⟨w * (4 * a + 1) / 2,?_⟩
        have:w * (4 * a + 1) % 2=1:=by
          rw [Nat.mul_mod]
          have:(4 * a + 1) % 2=1:=by lia
          rw [hw,this]
        lia
      have hq':2 ^ k * w * (4 * a + 1)=2 ^ k * 2 * q + 2 ^ k:=by rw [Nat.mul_assoc,hq];grind
      rw [hq',e2]
      rw [e2] at c
      generalize 2 ^ k=M at *
      have h1:(a + (M * 2 * q + M)) % (M * 2)=(a + M) % (M * 2):=by
        have:a + (M * 2 * q + M)=a + M + M * 2 * q:=by lia
        rw [this,Nat.add_mul_mod_self_left]
      rw [h1]
      have a1:=Nat.mod_add_div a (M * 2)
      have b1:=Nat.mod_add_div e (M * 2)
      have al:=Nat.mod_lt a (show 0 < M * 2 by lia)
      have bl:=Nat.mod_lt e (show 0 < M * 2 by lia)
      generalize a % (M * 2)=ra at a1 al c
      generalize e % (M * 2)=rb at b1 bl c ⊢
      have ham:a % M=ra % M:=by rw [<- a1,Nat.mul_assoc,Nat.add_mul_mod_self_left]
      have hbm:e % M=rb % M:=by rw [<- b1,Nat.mul_assoc,Nat.add_mul_mod_self_left]
      have hrr:ra % M=rb % M:=by rw [<- ham,<- hbm];exact he
      have hA:(a + M) % (M * 2)=(ra + M) % (M * 2):=by
        rw [<- a1]
        have:ra + M * 2 * (a / (M * 2)) + M=ra + M + M * 2 * (a / (M * 2)):=by lia
        rw [this,Nat.add_mul_mod_self_left]
      rw [hA]
      by_cases ha:ra < M
      . have e3:ra % M=ra:=Nat.mod_eq_of_lt ha
        have hb:¬ rb < M:=fun z=>c (by rw [Nat.mod_eq_of_lt z] at hrr;lia)
        have e4:rb % M=rb - M:=by rw [Nat.mod_eq_sub_mod (by lia),Nat.mod_eq_of_lt (by lia)]
        rw [Nat.mod_eq_of_lt (by lia)];lia
      . have e3:ra % M=ra - M:=by rw [Nat.mod_eq_sub_mod (by lia),Nat.mod_eq_of_lt (by lia)]
        have hb:rb < M:=Nat.lt_of_not_le fun z=>c (by
          have e4:rb % M=rb - M:=by rw [Nat.mod_eq_sub_mod (by lia),Nat.mod_eq_of_lt (by lia)]
          lia)
        have e4:rb % M=rb:=Nat.mod_eq_of_lt hb
        rw [Nat.mod_eq_sub_mod (by lia),Nat.mod_eq_of_lt (by lia)];lia
end Tb
namespace Tb
open PySem PySem.SetTable
noncomputable def adv (t:SetTable):Nat->Probe->Probe
  | 0,p=>p
  | s + 1,p=>adv t s (t.advance p)
theorem adv_add (t:SetTable) (a b:Nat) (p:Probe):adv t (a + b) p=adv t b (adv t a p):=by
  induction a generalizing p with
  | zero=>simp [adv]
  | succ a ih=>rw [Nat.succ_add];simp only [adv];exact ih _
theorem adv_succ (t:SetTable) (s:Nat) (p:Probe):adv t (s + 1) p=t.advance (adv t s p):=by
  rw [adv_add];rfl
noncomputable def stand (mask i pt:Nat) (d:Option Nat):Probe:={ j:=i,more:=runEnd mask i - i,i:=i,perturb:=pt,dummy:=d }
theorem run9 (mask i:Nat):runEnd mask i - i<=9:=by unfold runEnd;split <;> lia
theorem adv_run (t:SetTable):∀ (m:Nat) (p:Probe),m<=p.more->adv t m p={ p with j:=p.j + m,more:=p.more - m }:=by
  intro m
  induction m with
  | zero=>intro p _;simp [adv]
  | succ m ih =>
    intro p h
    rw [adv_succ,ih p (by lia)]
    unfold advance
    simp only
    rw [if_pos (by lia)]
    simp only [Probe.mk.injEq,and_true,true_and]
    lia
theorem adv_leap (t:SetTable) (p:Probe):adv t (p.more + 1) p=stand t.mask (leap t.mask p.i p.perturb).1 (leap t.mask p.i p.perturb).2 p.dummy:=by
  rw [adv_succ,adv_run t p.more p (Nat.le_refl _)]
  unfold advance stand
  simp only [Nat.sub_self,Nat.lt_irrefl,gt_iff_lt,if_false]
noncomputable def lp (mask:Nat):Nat->Nat×Nat->Nat×Nat
  | 0,x=>x
  | n + 1,x=>leap mask (lp mask n x).1 (lp mask n x).2
theorem adv_lp (t:SetTable) (d:Option Nat) (i pt:Nat):∀ n,∃ s,s<=10 * n/\adv t s (stand t.mask i pt d)=stand t.mask (lp t.mask n (i,pt)).1 (lp t.mask n (i,pt)).2 d:=by
  intro n
  induction n with
  | zero=>exact ⟨0,by lia,rfl⟩
  | succ n ih =>
    obtain ⟨s,hs,e⟩:=ih
    refine ⟨s + ((stand t.mask (lp t.mask n (i,pt)).1 (lp t.mask n (i,pt)).2 d).more + 1),?_,?_⟩
    . have:=run9 t.mask (lp t.mask n (i,pt)).1
      simp only [stand];lia
    . rw [adv_add,e,adv_leap];rfl
theorem lp_pt (mask:Nat) (x:Nat×Nat):∀ n,(lp mask n x).2=x.2 / 32 ^ n:=by
  intro n
  induction n with
  | zero=>simp [lp]
  | succ n ih=>simp only [lp,leap,ih];rw [Nat.div_div_eq_div_mul,Nat.pow_succ]
theorem lp_lt (mask:Nat) (x:Nat×Nat) (n:Nat):(lp mask (n + 1) x).1 < mask + 1:=Nat.mod_lt _ (by lia)
theorem lp_add (mask:Nat) (x:Nat×Nat) (a b:Nat):lp mask (a + b) x=lp mask b (lp mask a x):=by
  induction b with
  | zero=>rfl
  | succ b ih=>rw [Nat.add_succ];simp only [lp,ih]
theorem lp_zero (mask i:Nat) (hi:i < mask + 1):∀ n,lp mask n (i,0)=(it n i % (mask + 1),0):=by
  intro n
  induction n with
  | zero=>simp [lp,it,Nat.mod_eq_of_lt hi]
  | succ n ih =>
    simp only [lp,ih,leap,it,Prod.mk.injEq,Nat.zero_div,Nat.add_zero,and_true]
    rw [Nat.mul_comm,Nat.add_mod,Nat.mul_mod,Nat.mod_mod,<- Nat.mul_mod,<- Nat.add_mod]
theorem lp_hit {mask k:Nat} (hk:mask + 1=2 ^ k) (i pt:Nat) (hp:pt < 2 ^ 64) {e:Nat} (he:e<=mask):∃ n,n<=mask + 13/\(lp mask n (i,pt)).1=e:=by
  have h13:(lp mask 13 (i,pt)).2=0:=by rw [lp_pt];exact Nat.div_eq_of_lt (Nat.lt_trans hp (by decide))
  have hl:=lp_lt mask (i,pt) 12
  obtain ⟨m,hm,e1⟩:=cover k (lp mask 13 (i,pt)).1 e
  refine ⟨13 + m,by lia,?_⟩
  rw [lp_add]
  have e2:lp mask 13 (i,pt)=((lp mask 13 (i,pt)).1,0):=by rw [<- h13]
  rw [e2,lp_zero _ _ hl,hk,e1,Nat.mod_eq_of_lt (by lia)]
theorem hit {t:SetTable} {k:Nat} (hk:t.mask + 1=2 ^ k) (p:Probe) (h9:p.more<=9) (hp:p.perturb < 2 ^ 64) {e:Nat} (he:e<=t.mask):∃ s,s<=10 * (t.mask + 14)/\(adv t s p).j=e:=by
  have hq:(leap t.mask p.i p.perturb).2 < 2 ^ 64:=Nat.lt_of_le_of_lt (Nat.div_le_self _ _) hp
  obtain ⟨n,hn,e1⟩:=lp_hit hk (leap t.mask p.i p.perturb).1 (leap t.mask p.i p.perturb).2 hq he
  obtain ⟨s,hs,e2⟩:=adv_lp t p.dummy (leap t.mask p.i p.perturb).1 (leap t.mask p.i p.perturb).2 n
  refine ⟨p.more + 1 + s,by lia,?_⟩
  rw [adv_add,adv_leap,e2]
  exact e1
theorem adv_ok (t:SetTable) (p:Probe) (h9:p.more<=9) (hp:p.perturb < 2 ^ 64):∀ s,(adv t s p).more<=9/\(adv t s p).perturb < 2 ^ 64/\(adv t s p).dummy=p.dummy:=by
  intro s
  induction s with
  | zero=>exact ⟨h9,hp,rfl⟩
  | succ s ih =>
    rw [adv_succ]
    obtain ⟨a,b,c⟩:=ih
    unfold advance
    split
    . exact ⟨by simp only;lia,b,c⟩
    . exact ⟨run9 _ _,Nat.lt_of_le_of_lt (Nat.div_le_self _ _) b,c⟩
theorem bits_lt (h:Int):bits h < 2 ^ 64:=by
  unfold bits
  have:=Int.emod_lt_of_pos h (show (0:Int) < 2 ^ 64 by decide)
  have:=Int.emod_nonneg h (show (2 ^ 64:Int)≠0 by decide)
  lia
noncomputable def pos (t:SetTable) (h:Int) (s:Nat):Nat:=(adv t s (t.probeStart h)).j
theorem adv_start_ok (t:SetTable) (h:Int) (s:Nat):(adv t s (t.probeStart h)).more<=9/\(adv t s (t.probeStart h)).perturb < 2 ^ 64/\(adv t s (t.probeStart h)).dummy=none :=
  adv_ok t _ (run9 _ _) (bits_lt h) s
theorem pos_hit {t:SetTable} {k:Nat} (hk:t.mask + 1=2 ^ k) (h:Int) (s0:Nat) {e:Nat} (he:e<=t.mask):∃ s,s0<=s/\s<=s0 + 10 * (t.mask + 14)/\pos t h s=e:=by
  obtain ⟨a,b,_⟩:=adv_start_ok t h s0
  obtain ⟨s,hs,e1⟩:=hit hk (adv t s0 (t.probeStart h)) a b he
  exact ⟨s0 + s,by lia,by lia,by unfold pos;rw [adv_add];exact e1⟩
end Tb
namespace Tb
open PySem PySem.SetTable
noncomputable def Rise (xs:Array Nat):Prop:=∀ a b,a < b->b < xs.size->xs.getD a 0 < xs.getD b 0
theorem getD_of {xs:Array Nat} {a:Nat} (h:a < xs.size) (d:Nat):xs.getD a d=xs.getD a 0:=by simp [Array.getD,h]
theorem below_go {xs:Array Nat} {j:Nat} (R:Rise xs):∀ (fuel lo hi:Nat),lo<=hi->hi<=xs.size->hi<=lo + fuel->(∀ a,a < lo->xs.getD a 0 < j)->(∀ a,hi<=a->a < xs.size->j<=xs.getD a 0) ->
    below.go xs j fuel lo hi<=xs.size/\(∀ a,a < below.go xs j fuel lo hi->xs.getD a 0 < j)/\(∀ a,below.go xs j fuel lo hi<=a->a < xs.size->j<=xs.getD a 0):=by
  intro fuel
  induction fuel with
  | zero =>
    intro lo hi h1 h2 h3 h4 h5
    obtain rfl:lo=hi:=by lia
    exact ⟨h2,h4,h5⟩
  | succ fuel ih =>
    intro lo hi h1 h2 h3 h4 h5
    unfold below.go
    by_cases c:lo < hi
    . rw [if_pos c]
      simp only
      have hm:(lo + hi) / 2 < xs.size:=by lia
      rw [getD_of hm]
      by_cases d:xs.getD ((lo + hi) / 2) 0 < j
      . rw [if_pos d]
        refine ih _ _ (by lia) h2 (by lia) (fun a ha=>?_) h5
        by_cases e:a=(lo + hi) / 2
        . rw [e];exact d
        . exact Nat.lt_trans (R a ((lo + hi) / 2) (by lia) hm) d
      . rw [if_neg d]
        refine ih _ _ (by lia) (by lia) (by lia) h4 fun a ha hs=>?_
        by_cases e:a=(lo + hi) / 2
        . rw [e];lia
        . exact Nat.le_trans (by lia) (Nat.le_of_lt (R ((lo + hi) / 2) a (by lia) hs))
    . rw [if_neg c]
      obtain rfl:lo=hi:=by lia
      exact ⟨h2,h4,h5⟩
theorem below_spec {xs:Array Nat} (R:Rise xs) (j:Nat):below xs j<=xs.size/\(∀ a,a < below xs j->xs.getD a 0 < j)/\(∀ a,below xs j<=a->a < xs.size->j<=xs.getD a 0) :=
  below_go R xs.size 0 xs.size (Nat.zero_le _) (Nat.le_refl _) (by lia) (fun a h=>absurd h (by lia)) fun a h1 h2=>absurd h1 (by lia)
theorem below_at {xs:Array Nat} (R:Rise xs) {i:Nat} (hi:i < xs.size):below xs (xs.getD i 0)=i:=by
  obtain ⟨h1,h2,h3⟩:=below_spec R (xs.getD i 0)
  by_cases c:below xs (xs.getD i 0) < i
  . have:=h3 _ (Nat.le_refl _) (by lia)
    have:=R _ i c hi
    lia
  . by_cases d:i < below xs (xs.getD i 0)
    . have:=h2 i d;lia
    . lia
noncomputable def Live (t:SetTable) (j:Nat):Prop:=∃ i,i < t.place.size/\t.place.getD i 0=j
theorem get_some {xs:Array Nat} {i:Nat} (hi:i < xs.size):xs[i]?=some (xs.getD i 0):=by simp [Array.getD,hi]
theorem slot_live {t:SetTable} (R:Rise t.place) {i:Nat} (hi:i < t.place.size):t.slot (t.place.getD i 0)=.live i:=by
  unfold slot
  simp only
  rw [below_at R hi,get_some hi]
  simp
theorem slot_empty {t:SetTable} (nd:t.dummies=#[]) {j:Nat} (h:¬ Live t j):t.slot j=.empty:=by
  unfold slot
  simp only
  rw [if_neg,if_neg]
  . unfold has;rw [nd];simp
  . intro c
    apply h
    have c':t.place[below t.place j]?=some j:=by simpa using c
    obtain ⟨hl,e⟩:=Array.getElem?_eq_some_iff.mp c'
    exact ⟨_,hl,by simp [Array.getD,hl,e]⟩
theorem slot_of_live {t:SetTable} (R:Rise t.place) {j:Nat} (h:Live t j):∃ i,i < t.place.size/\t.place.getD i 0=j/\t.slot j=.live i:=by
  obtain ⟨i,hi,e⟩:=h
  exact ⟨i,hi,e,by rw [<- e];exact slot_live R hi⟩
theorem rise_ge {xs:Array Nat} (R:Rise xs):∀ i,i < xs.size->i<=xs.getD i 0:=by
  intro i
  induction i with
  | zero=>intro _;exact Nat.zero_le _
  | succ i ih=>intro h;have:=ih (by lia);have:=R i (i + 1) (by lia) h;lia
theorem some_empty {t:SetTable} (R:Rise t.place) (hs:t.place.size<=t.mask):∃ e,e<=t.mask/\¬ Live t e:=by
  have key:∀ n,n<=t.place.size->(∀ a,a < n->t.place.getD a 0=a)∨∃ e,e < n/\t.place.getD e 0≠e/\∀ a,a < e->t.place.getD a 0=a:=by
    intro n
    induction n with
    | zero=>intro _;exact .inl fun a h=>absurd h (by lia)
    | succ n ih =>
      intro h
      rcases ih (by lia) with h1|⟨e,h1,h2,h3⟩
      . by_cases c:t.place.getD n 0=n
        . refine .inl fun a ha=>?_
          by_cases d:a=n
          . rw [d];exact c
          . exact h1 a (by lia)
        . exact .inr ⟨n,by lia,c,h1⟩
      . exact .inr ⟨e,by lia,h2,h3⟩
  rcases key t.place.size (Nat.le_refl _) with h|⟨e,h1,h2,h3⟩
  . refine ⟨t.place.size,hs,fun ⟨i,hi,e⟩=>?_⟩
    have:=h i hi;lia
  . refine ⟨e,by lia,fun ⟨i,hi,e'⟩=>?_⟩
    by_cases c:i < e
    . have:=h3 i c;lia
    . have hge:=rise_ge R e h1
      by_cases d:i=e
      . subst d;exact h2 e'
      . have:=R e i (by lia) hi;lia
theorem probe_go {t:SetTable} (R:Rise t.place) (nd:t.dummies=#[]) (hashAt:Nat->Int) (h:Int):∀ (fuel s0 s1:Nat),s0<=s1->s1 < s0 + fuel->¬ Live t (pos t h s1) ->
    ∃ s2,s0<=s2/\s2<=s1/\(∀ s,s0<=s->s < s2->∃ i,i < t.place.size/\t.place.getD i 0=pos t h s/\hashAt i≠h) /\
      ((¬ Live t (pos t h s2) /\ probe.go t hashAt h fuel (adv t s0 (t.probeStart h)) = some (.empty (pos t h s2) none)) ∨
       ∃ i,i < t.place.size/\t.place.getD i 0=pos t h s2/\hashAt i=h/\probe.go t hashAt h fuel (adv t s0 (t.probeStart h))=some (.candidate (pos t h s2) i (adv t (s2 + 1) (t.probeStart h)))):=by
  intro fuel
  induction fuel with
  | zero=>intro s0 s1 h1 h2;lia
  | succ fuel ih =>
    intro s0 s1 h1 h2 hl
    have hd:=(adv_start_ok t h s0).2.2
    unfold probe.go
    by_cases c:Live t (pos t h s0)
    . obtain ⟨i,hi,e1,e2⟩:=slot_of_live R c
      have e2':t.slot (adv t s0 (t.probeStart h)).j=.live i:=e2
      rw [e2']
      simp only
      by_cases d:hashAt i=h
      . refine ⟨s0,Nat.le_refl _,h1,fun s a b=>absurd a (by lia),.inr ⟨i,hi,e1,d,?_⟩⟩
        rw [if_pos (by simp [d]),adv_succ];rfl
      . rw [if_neg (by simp [d]),<- adv_succ]
        have hne:s0≠s1:=fun z=>hl (z▸c)
        obtain ⟨s2,a1,a2,a3,a4⟩:=ih (s0 + 1) s1 (by lia) (by lia) hl
        refine ⟨s2,by lia,a2,fun s b1 b2=>?_,a4⟩
        by_cases z:s=s0
        . subst z;exact ⟨i,hi,e1,d⟩
        . exact a3 s (by lia) b2
    . refine ⟨s0,Nat.le_refl _,h1,fun s a b=>absurd a (by lia),.inl ⟨c,?_⟩⟩
      have e2:t.slot (adv t s0 (t.probeStart h)).j=.empty:=slot_empty nd c
      rw [e2]
      simp only
      rw [hd];rfl
end Tb
namespace Tb
open PySem PySem.SetTable
theorem adv_mask {t t':SetTable} (e:t.mask=t'.mask):∀ s p,adv t s p=adv t' s p:=by
  intro s
  induction s with
  | zero=>intro p;rfl
  | succ s ih =>
    intro p
    simp only [adv]
    have:t.advance p=t'.advance p:=by unfold advance;rw [e]
    rw [this,ih]
theorem pos_mask {t t':SetTable} (e:t.mask=t'.mask) (h:Int) (s:Nat):pos t h s=pos t' h s:=by
  unfold pos
  have:t.probeStart h=t'.probeStart h:=by unfold probeStart;rw [e]
  rw [this,adv_mask e]
noncomputable abbrev Ent:=Nat×Int×Value
structure Good (t:SetTable) (L:List Ent):Prop where
  pw:∃ k,t.mask + 1=2 ^ k
  m7:7<=t.mask
  nd:t.dummies=#[]
  pl:t.place=(L.map (·.1)).toArray
  so:(L.map (·.1)).Pairwise (· < ·)
  le:∀ e∈L,e.1<=t.mask
  reach:∀ e∈L,∃ s,pos t e.2.1 s=e.1/\∀ s',s' < s->∃ e'∈L,e'.1=pos t e.2.1 s'
section
variable {t:SetTable} {L:List Ent}
theorem Good.sz (g:Good t L):t.place.size=L.length:=by rw [g.pl];simp
theorem Good.at (g:Good t L) {i:Nat} (hi:i < L.length):t.place.getD i 0=L[i].1:=by rw [g.pl];simp [Array.getD,hi]
theorem Good.rise (g:Good t L):Rise t.place:=by
  intro a b hab hb
  rw [g.sz] at hb
  rw [g.at (show a < L.length by lia),g.at hb]
  have:=(List.pairwise_iff_getElem.mp g.so) a b (by simpa using (show a < L.length by lia)) (by simpa using hb) hab
  simpa using this
theorem Good.live (g:Good t L) {j:Nat}:Live t j↔∃ e∈L,e.1=j:=by
  constructor
  . rintro ⟨i,hi,e⟩
    rw [g.sz] at hi
    rw [g.at hi] at e
    exact ⟨L[i],List.getElem_mem hi,e⟩
  . rintro ⟨e,he,q⟩
    obtain ⟨i,hi,e1⟩:=List.mem_iff_getElem.mp he
    exact ⟨i,by rw [g.sz];exact hi,by rw [g.at hi,e1];exact q⟩
theorem Good.uniq (g:Good t L) {e e':Ent} (h:e∈L) (h':e'∈L) (q:e.1=e'.1):e=e':=by
  obtain ⟨i,hi,rfl⟩:=List.mem_iff_getElem.mp h
  obtain ⟨j,hj,rfl⟩:=List.mem_iff_getElem.mp h'
  have R:=g.rise
  by_cases c:i < j
  . have:=R i j c (by rw [g.sz];exact hj);rw [g.at hi,g.at hj] at this;lia
  . by_cases d:j < i
    . have:=R j i d (by rw [g.sz];exact hi);rw [g.at hi,g.at hj] at this;lia
    . obtain rfl:i=j:=by lia
      rfl
end
theorem insertAt_list {α:Type} (xs:List α) (p:Nat) (hp:p<=xs.length) (x:α):insertAt xs.toArray p x=(xs.take p++x::xs.drop p).toArray:=by
  unfold insertAt
  apply Array.toList_inj.mp
  simp only [List.extract_toArray,List.size_toArray,Array.toList_append,Array.toList_push,List.extract_eq_take_drop,Nat.sub_zero,List.drop_zero]
  rw [List.take_of_length_le (l:=xs.drop p) (by simp)]
  simp
theorem put_eq (t:SetTable) (nd:t.dummies=#[]) (j:Nat):t.put j=({ t with place:=insertAt t.place (below t.place j) j },below t.place j):=by
  unfold put
  have:has t.dummies j=false:=by unfold has;rw [nd];simp
  simp only [this,Bool.false_eq_true,if_false]
theorem Good.put {t:SetTable} {L:List Ent} (g:Good t L) {j:Nat} {h:Int} {x:Value} (hj:j<=t.mask) (hn:¬ Live t j) (hr:∃ s,pos t h s=j/\∀ s',s' < s->∃ e'∈L,e'.1=pos t h s') :
    (t.put j).2<=L.length/\Good (t.put j).1 (L.take (t.put j).2++(j,h,x)::L.drop (t.put j).2):=by
  rw [put_eq t g.nd]
  obtain ⟨b1,b2,b3⟩:=below_spec g.rise j
  rw [g.sz] at b1 b3
  simp only
  generalize hp:below t.place j=p at *
  refine ⟨b1,?_⟩
  have mem:∀ e:Ent,e∈L.take p++(j,h,x)::L.drop p↔e=(j,h,x)∨e∈L:=fun e=>by
    have:L=L.take p++L.drop p:=(List.take_append_drop p L).symm
    constructor
    . intro z
      rcases List.mem_append.mp z with z|z
      . exact .inr (List.mem_of_mem_take z)
      . rcases List.mem_cons.mp z with z|z
        . exact .inl z
        . exact .inr (List.mem_of_mem_drop z)
    . rintro (z|z)
      . subst z;simp
      . rw [this] at z
        rcases List.mem_append.mp z with z|z
        . exact List.mem_append_left _ z
        . exact List.mem_append_right _ (List.mem_cons_of_mem _ z)
  have pm:∀ (hh:Int) (s:Nat),pos { t with place:=insertAt t.place p j } hh s=pos t hh s:=fun hh s=>pos_mask (by rfl) hh s
  refine ⟨g.pw,g.m7,g.nd,?_,?_,fun e he=>?_,fun e he=>?_⟩
  . show insertAt t.place p j=_
    rw [g.pl,insertAt_list _ _ (by simpa using b1)]
    simp [List.map_take,List.map_drop]
  . simp only [List.map_append,List.map_cons]
    rw [List.pairwise_append]
    refine ⟨?_,?_,?_⟩
    . rw [List.map_take];exact List.Pairwise.sublist (List.take_sublist _ _) g.so
    . rw [List.pairwise_cons]
      refine ⟨fun a ha=>?_,?_⟩
      . obtain ⟨e,he,rfl⟩:=List.mem_map.mp ha
        obtain ⟨i,hi,rfl⟩:=List.mem_iff_getElem.mp he
        have hi':p + i < L.length:=by simp at hi;lia
        have q:=b3 (p + i) (by lia) hi'
        rw [g.at hi'] at q
        have ne:L[p + i].1≠j:=fun z=>hn (g.live.mpr ⟨_,List.getElem_mem hi',z⟩)
        simp only [List.getElem_drop]
        show j < _
        lia
      . rw [List.map_drop];exact List.Pairwise.sublist (List.drop_sublist _ _) g.so
    . intro a ha b hb
      obtain ⟨e,he,rfl⟩:=List.mem_map.mp ha
      obtain ⟨i,hi,rfl⟩:=List.mem_iff_getElem.mp he
      have hi':i < p:=by simp at hi;lia
      have q:=b2 i hi'
      rw [g.at (show i < L.length by lia)] at q
      simp only [List.getElem_take]
      rcases List.mem_cons.mp hb with z|z
      . rw [z];exact q
      . obtain ⟨e',he',rfl⟩:=List.mem_map.mp z
        obtain ⟨i',hi2,rfl⟩:=List.mem_iff_getElem.mp he'
        have hi3:p + i' < L.length:=by simp at hi2;lia
        have:=b3 (p + i') (by lia) hi3
        rw [g.at hi3] at this
        simp only [List.getElem_drop]
        lia
  . rcases (mem e).mp he with z|z
    . rw [z];exact hj
    . exact g.le e z
  . rcases (mem e).mp he with z|z
    . subst z
      obtain ⟨s,e1,e2⟩:=hr
      refine ⟨s,by rw [pm];exact e1,fun s' hs=>?_⟩
      obtain ⟨e',h1,h2⟩:=e2 s' hs
      exact ⟨e',(mem e').mpr (.inr h1),by rw [pm];exact h2⟩
    . obtain ⟨s,e1,e2⟩:=g.reach e z
      refine ⟨s,by rw [pm];exact e1,fun s' hs=>?_⟩
      obtain ⟨e',h1,h2⟩:=e2 s' hs
      exact ⟨e',(mem e').mpr (.inr h1),by rw [pm];exact h2⟩
end Tb
namespace Tb
open PySem PySem.SetTable
noncomputable def NoneAt (owner:Array (Option Nat)) (j:Nat):Prop:=owner.getD j (some 0)=none
theorem free_spec {mask:Nat} {t:SetTable} (ht:t.mask=mask) (owner:Array (Option Nat)):∀ (fuel i pt n:Nat),n < fuel->NoneAt owner (lp mask n (i,pt)).1 ->
    ∃ j s,layClean.free mask owner fuel i pt=some j/\(adv t s (stand mask i pt none)).j=j/\NoneAt owner j/\∀ s',s' < s->¬ NoneAt owner (adv t s' (stand mask i pt none)).j:=by
  intro fuel
  induction fuel with
  | zero=>intro i pt n h;lia
  | succ fuel ih =>
    intro i pt n hn hN
    unfold layClean.free
    have run:∀ s,s<=runEnd mask i - i->(adv t s (stand mask i pt none)).j=i + s:=fun s hs=>by rw [adv_run t s _ hs];rfl
    have hre:i<=runEnd mask i:=by unfold runEnd;split <;> lia
    cases e:(List.range (runEnd mask i + 1 - i)).find? fun k=>(owner.getD (i + k) (some 0)).isNone with
    | some k =>
      simp only
      have h1:=List.find?_some e
      have h2:=List.mem_of_find?_eq_some e
      have h3:=List.mem_range.mp h2
      refine ⟨i + k,k,rfl,run k (by lia),by simpa [NoneAt] using h1,fun s' hs z=>?_⟩
      rw [run s' (by lia)] at z
      have:=List.find?_eq_some_iff_append.mp e
      obtain ⟨_,as,bs,e1,e2⟩:=this
      have hs':s'∈as:=by
        have hm:s'∈List.range (runEnd mask i + 1 - i):=List.mem_range.mpr (by lia)
        have ps:=List.pairwise_lt_range (n:=runEnd mask i + 1 - i)
        rw [e1] at hm ps
        rcases List.mem_append.mp hm with hm|hm
        . exact hm
        . rcases List.mem_cons.mp hm with hm|hm
          . lia
          . have:=(List.pairwise_cons.mp (List.pairwise_append.mp ps).2.1).1 s' hm;lia
      have:=e2 s' hs'
      rw [show owner.getD (i + s') (some 0)=none from z] at this
      simp at this
    | none =>
      simp only
      have h1:=List.find?_eq_none.mp e
      have no:∀ s,s<=runEnd mask i - i->¬ NoneAt owner (i + s):=fun s hs z=>by
        have:=h1 s (List.mem_range.mpr (by lia))
        rw [show owner.getD (i + s) (some 0)=none from z] at this
        simp at this
      cases n with
      | zero=>exact absurd hN (no 0 (by lia))
      | succ n =>
        have e3:lp mask (n + 1) (i,pt)=lp mask n (leap mask i pt):=by
          rw [Nat.add_comm,lp_add];rfl
        rw [e3] at hN
        obtain ⟨j,s,a1,a2,a3,a4⟩:=ih (leap mask i pt).1 (leap mask i pt).2 n (by lia) hN
        have hl:adv t (runEnd mask i - i + 1) (stand mask i pt none)=stand mask (leap mask i pt).1 (leap mask i pt).2 none:=by
          have:=adv_leap t (stand mask i pt none)
          rw [ht] at this
          exact this
        refine ⟨j,runEnd mask i - i + 1 + s,a1,by rw [adv_add,hl];exact a2,a3,fun s' hs z=>?_⟩
        by_cases c:s'<=runEnd mask i - i
        . rw [run s' c] at z;exact no s' c z
        . obtain ⟨q,rfl⟩:∃ q,s'=runEnd mask i - i + 1 + q:=⟨s' - (runEnd mask i - i + 1),by lia⟩
          rw [adv_add,hl] at z
          exact a4 q (by lia) z
theorem fm_congr {α β:Type} {f g:α->Option β}:∀ {l:List α},(∀ a∈l,f a=g a)->l.filterMap f=l.filterMap g
  | [],_=>rfl
  | a::l,h=>by
    have ih:=fm_congr (l:=l) fun b hb=>h b (List.mem_cons_of_mem _ hb)
    simp only [List.filterMap_cons,ih,h a List.mem_cons_self]
noncomputable def liveOf (M:Nat) (owner:Array (Option Nat)):List (Nat×Nat):=(List.range M).filterMap fun j=>(owner.getD j none).map (j,·)
theorem mem_liveOf {M:Nat} {owner:Array (Option Nat)} {j i:Nat}:(j,i)∈liveOf M owner↔j < M/\owner.getD j none=some i:=by
  unfold liveOf
  simp only [List.mem_filterMap,List.mem_range,Option.map_eq_some_iff,Prod.mk.injEq]
  constructor
  . rintro ⟨a,h1,b,h2,rfl,rfl⟩;exact ⟨h1,h2⟩
  . rintro ⟨h1,h2⟩;exact ⟨j,h1,i,h2,rfl,rfl⟩
theorem liveOf_sorted {M:Nat} {owner:Array (Option Nat)}:((liveOf M owner).map (·.1)).Pairwise (· < ·):=by
  have e:(liveOf M owner).map (·.1)=(List.range M).filter fun j=>(owner.getD j none).isSome:=by
    unfold liveOf
    rw [List.map_filterMap,<- List.filterMap_eq_filter]
    congr 1
    funext j
    generalize hz:owner.getD j none=o
    cases o <;> simp [Option.guard,hz]
  rw [e]
  exact List.Pairwise.sublist List.filter_sublist List.pairwise_lt_range
theorem perm_add {f f':Nat->Option (Nat×Nat)} {j:Nat} {v:Nat×Nat}:∀ {l:List Nat},l.Nodup->j∈l->f j=none->f' j=some v->(∀ a,a≠j->f' a=f a)->(l.filterMap f').Perm (v::l.filterMap f)
  | [],_,h,_,_,_=>by cases h
  | a::l,nd,h,h1,h2,h3=>by
    have nd':=List.nodup_cons.mp nd
    by_cases c:a=j
    . subst c
      have same:l.filterMap f'=l.filterMap f:=fm_congr fun b hb=>h3 b fun z=>nd'.1 (z▸hb)
      rw [List.filterMap_cons_some h2,List.filterMap_cons_none h1,same]
    . have hm:j∈l:=(List.mem_cons.mp h).resolve_left (Ne.symm c)
      have ih:=perm_add nd'.2 hm h1 h2 h3
      cases e:f a with
      | none =>
        rw [List.filterMap_cons_none (by rw [h3 a c];exact e),List.filterMap_cons_none e];exact ih
      | some b =>
        rw [List.filterMap_cons_some (by rw [h3 a c];exact e),List.filterMap_cons_some e]
        exact (ih.cons b).trans (List.Perm.swap ..)
theorem liveOf_set {M:Nat} {owner:Array (Option Nat)} (hs:owner.size=M) {j k:Nat} (hj:j < M) (hn:owner.getD j none=none):(liveOf M (owner.setIfInBounds j (some k))).Perm ((j,k)::liveOf M owner):=by
  unfold liveOf
  refine perm_add (j:=j) List.nodup_range (List.mem_range.mpr hj) (by rw [hn];rfl) ?_ fun a ha=>?_
  . have:(owner.setIfInBounds j (some k)).getD j none=some k:=by simp [Array.getD,hs,hj]
    rw [this];rfl
  . have:(owner.setIfInBounds j (some k)).getD a none=owner.getD a none:=by
      simp only [Array.getD_eq_getD_getElem?]
      rw [Array.getElem?_setIfInBounds_ne (Ne.symm ha)]
    rw [this]
structure LC (t:SetTable) (hs:List Int) (owner:Array (Option Nat)) (k:Nat):Prop where
  sz:owner.size=t.mask + 1
  pm:((liveOf (t.mask + 1) owner).map (·.2)).Perm (List.range k)
  reach:∀ j i,(j,i)∈liveOf (t.mask + 1) owner->∃ h,hs[i]?=some h/\∃ s,pos t h s=j/\∀ s',s' < s->¬ NoneAt owner (pos t h s')
theorem none_at {owner:Array (Option Nat)} {j:Nat} (h:NoneAt owner j):j < owner.size/\owner.getD j none=none:=by
  unfold NoneAt at h
  by_cases c:j < owner.size
  . simp only [Array.getD,c,dif_pos] at h ⊢;exact ⟨trivial,h⟩
  . simp [Array.getD,c] at h
theorem LC.step {t:SetTable} {hs:List Int} {owner:Array (Option Nat)} {k:Nat} (g:LC t hs owner k) (pw:∃ q,t.mask + 1=2 ^ q) (hk:k<=t.mask) {h:Int} (hh:hs[k]?=some h) :
    ∃ j,layClean.free t.mask owner (turns t.mask) (bits h % (t.mask + 1)) (bits h)=some j/\LC t hs (owner.setIfInBounds j (some k)) (k + 1):=by
  obtain ⟨q,hq⟩:=pw
  have emp:∃ e,e<=t.mask/\NoneAt owner e:=by
    refine Classical.byContradiction fun c=>?_
    have all:∀ e,e < t.mask + 1->∃ i,(e,i)∈liveOf (t.mask + 1) owner:=fun e he=>by
      cases z:owner.getD e none with
      | some i=>exact ⟨i,mem_liveOf.mpr ⟨he,z⟩⟩
      | none =>
        refine absurd ⟨e,by lia,?_⟩ c
        have hl:e < owner.size:=by rw [g.sz];exact he
        simp only [NoneAt,Array.getD,hl,dif_pos] at z ⊢;exact z
    have l1:(liveOf (t.mask + 1) owner).length=k:=by have:=g.pm.length_eq;simpa using this
    have l2:((liveOf (t.mask + 1) owner).map (·.1))=List.range (t.mask + 1):=by
      unfold liveOf
      rw [List.map_filterMap]
      have:(List.range (t.mask + 1)).filterMap (fun x=>Option.map (·.1) (Option.map (x,·) (owner.getD x none)))=(List.range (t.mask + 1)).filterMap some:=by
        refine fm_congr fun x hx=>?_
        obtain ⟨i,hi⟩:=all x (List.mem_range.mp hx)
        rw [(mem_liveOf.mp hi).2];rfl
      rw [this];simp
    have l3:=congrArg List.length l2
    simp at l3
    lia
  obtain ⟨e,he,hN⟩:=emp
  obtain ⟨n,hn,en⟩:=lp_hit hq (bits h % (t.mask + 1)) (bits h) (bits_lt h) he
  obtain ⟨j,s,f1,f2,f3,f4⟩:=free_spec (t:=t) rfl owner (turns t.mask) (bits h % (t.mask + 1)) (bits h) n (by unfold turns;lia) (by rw [en];exact hN)
  obtain ⟨hj,hjn⟩:=none_at f3
  have hp:=liveOf_set (k:=k) g.sz (by rw [<- g.sz];exact hj) hjn
  have stays:∀ a,¬ NoneAt owner a->¬ NoneAt (owner.setIfInBounds j (some k)) a:=fun a ha z=>by
    by_cases c:a=j
    . subst c
      have:=none_at z
      simp [Array.getD,hj] at this
    . apply ha
      unfold NoneAt at z ⊢
      simp only [Array.getD_eq_getD_getElem?] at z ⊢
      rw [Array.getElem?_setIfInBounds_ne (Ne.symm c)] at z
      exact z
  refine ⟨j,f1,⟨by simp [g.sz],?_,fun j' i' hm=>?_⟩⟩
  . have:=(hp.map (fun (x:Nat×Nat)=>x.2)).trans (List.Perm.cons k g.pm)
    refine this.trans ?_
    rw [List.range_succ]
    exact List.perm_append_comm (l₁:=[k]) (l₂:=List.range k)
  . rcases List.mem_cons.mp (hp.mem_iff.mp hm) with z|z
    . cases z
      exact ⟨h,hh,s,f2,fun s' hs'=>stays _ (f4 s' hs')⟩
    . obtain ⟨h',e1,s1,e2,e3⟩:=g.reach j' i' z
      exact ⟨h',e1,s1,e2,fun s' hs'=>stays _ (e3 s' hs')⟩
end Tb
namespace Tb
open PySem PySem.SetTable
theorem run_le {mask i:Nat} (h:i<=mask):i + (runEnd mask i - i)<=mask:=by unfold runEnd;split <;> lia
theorem adv_le (t:SetTable) (p:Probe) (h:p.j + p.more<=t.mask):∀ s,(adv t s p).j + (adv t s p).more<=t.mask:=by
  intro s
  induction s with
  | zero=>exact h
  | succ s ih =>
    rw [adv_succ]
    unfold advance
    split
    . simp only;lia
    . exact run_le (Nat.le_of_lt_succ (Nat.mod_lt _ (by lia)))
theorem pos_le (t:SetTable) (h:Int) (s:Nat):pos t h s<=t.mask:=by
  have:=adv_le t (t.probeStart h) (run_le (Nat.le_of_lt_succ (Nat.mod_lt _ (by lia)))) s
  unfold pos;lia
theorem lay_fold {t:SetTable} (pw:∃ q,t.mask + 1=2 ^ q) (hs:List Int) (hn:hs.length<=t.mask):∀ (rest pre:List Int) (owner:Array (Option Nat)),hs=pre++rest->LC t hs owner pre.length ->
    ∃ owner',rest.foldl (init:=some (owner,pre.length)) (fun acc h=>do
        let (owner,k) <- acc
        let j <- layClean.free t.mask owner (turns t.mask) (bits h % (t.mask + 1)) (bits h)
        pure (owner.setIfInBounds j (some k),k + 1))=some (owner',hs.length)/\LC t hs owner' hs.length:=by
  intro rest
  induction rest with
  | nil =>
    intro pre owner e g
    rw [List.append_nil] at e
    subst e
    exact ⟨owner,rfl,g⟩
  | cons h rest ih =>
    intro pre owner e g
    have hk:hs[pre.length]?=some h:=by rw [e];simp
    have hl:pre.length<=t.mask:=by rw [e] at hn;simp at hn;lia
    obtain ⟨j,f1,g1⟩:=g.step pw hl hk
    obtain ⟨owner',e1,g2⟩:=ih (pre++[h]) (owner.setIfInBounds j (some pre.length)) (by rw [e];simp) (by simpa using g1)
    refine ⟨owner',?_,g2⟩
    rw [List.foldl_cons]
    have:(some (owner,pre.length) >>= fun x=>match x with
        | (owner,k)=>layClean.free t.mask owner (turns t.mask) (bits h % (t.mask + 1)) (bits h) >>= fun j=>pure (owner.setIfInBounds j (some k),k + 1))=some (owner.setIfInBounds j (some pre.length),(pre++[h]).length):=by
      show (layClean.free t.mask owner (turns t.mask) (bits h % (t.mask + 1)) (bits h) >>= fun j=>pure (owner.setIfInBounds j (some pre.length),pre.length + 1))=_
      rw [f1]
      simp
    exact (congrArg (fun o=>rest.foldl _ o) this).trans e1
theorem LC.start (t:SetTable) (hs:List Int):LC t hs (Array.replicate (t.mask + 1) none) 0:=by
  have e:liveOf (t.mask + 1) (Array.replicate (t.mask + 1) none)=[]:=by
    unfold liveOf
    rw [List.filterMap_eq_nil_iff]
    intro j hj
    have:(Array.replicate (t.mask + 1) (none:Option Nat)).getD j none=none:=by
      simp only [Array.getD_eq_getD_getElem?,Array.getElem?_replicate]
      split <;> rfl
    rw [this];rfl
  refine ⟨by simp,by rw [e];exact .refl _,fun j i h=>?_⟩
  rw [e] at h;cases h
theorem layClean_ok {t:SetTable} (pw:∃ q,t.mask + 1=2 ^ q) (hs:Array Int) (hn:hs.size<=t.mask):∃ owner,layClean t.mask hs=some owner/\LC t hs.toList owner hs.size:=by
  obtain ⟨owner,e,g⟩:=lay_fold pw hs.toList (by simpa using hn) hs.toList [] (Array.replicate (t.mask + 1) none) rfl (LC.start t _)
  refine ⟨owner,?_,by simpa using g⟩
  unfold layClean
  rw [<- Array.foldl_toList]
  have e':=congrArg (Option.map (·.1)) e
  exact e'
theorem sizeAbove_go:∀ (fuel size n:Nat),(∃ q,size=2 ^ q)->8<=size->n < size * 2 ^ fuel->∃ q,sizeAbove.go n fuel size=2 ^ q/\8<=sizeAbove.go n fuel size/\n < sizeAbove.go n fuel size/\(sizeAbove.go n fuel size=size∨sizeAbove.go n fuel size<=2 * n):=by
  intro fuel
  induction fuel with
  | zero=>intro size n ⟨q,hq⟩ h8 h;exact ⟨q,hq,h8,by simpa [sizeAbove.go] using h,.inl rfl⟩
  | succ fuel ih =>
    intro size n ⟨q,hq⟩ h8 h
    unfold sizeAbove.go
    by_cases c:size<=n
    . rw [if_pos c]
      obtain ⟨q',a1,a2,a3,a4⟩:=ih (size * 2) n ⟨q + 1,by rw [hq,Nat.pow_succ]⟩ (by lia) (by rw [Nat.mul_assoc,<- Nat.pow_succ'];exact h)
      refine ⟨q',a1,a2,a3,.inr ?_⟩
      rcases a4 with a4|a4
      . rw [a4];lia
      . exact a4
    . rw [if_neg c]
      exact ⟨q,hq,h8,by lia,.inl rfl⟩
theorem sizeAbove_ok (n:Nat) (hn:n < 2 ^ 60):(∃ q,sizeAbove n - 1 + 1=2 ^ q)/\7<=sizeAbove n - 1/\n<=sizeAbove n - 1/\(sizeAbove n - 1=7∨sizeAbove n<=2 * n):=by
  obtain ⟨q,a1,a2,a3,a4⟩:=sizeAbove_go 64 8 n ⟨3,rfl⟩ (Nat.le_refl _) (Nat.lt_trans hn (by decide))
  unfold sizeAbove
  refine ⟨⟨q,by rw [<- a1];lia⟩,by lia,by lia,?_⟩
  rcases a4 with a4|a4
  . left;lia
  . right;exact a4
theorem laid_good {mask:Nat} (pw:∃ q,mask + 1=2 ^ q) (m7:7<=mask) (finger moves:Nat) (led plain:Bool) (es:List (Int×Value)) (hn:es.length<=mask) :
    ∃ t' order L,laid mask finger moves led plain (es.map (·.1)).toArray=some (t',order)/\t'.mask=mask/\t'.led=led/\t'.plain=plain/\t'.moves=moves/\Good t' L/\order.filterMap (fun i=>es.toArray[i]?)=(L.map (·.2)).toArray/\(L.map (·.2)).Perm es:=by
  let t0:SetTable:={ mask,place:=#[],dummies:=#[],finger,led,moves,plain }
  obtain ⟨owner,e1,g⟩:=layClean_ok (t:=t0) pw (es.map (·.1)).toArray (by simpa using hn)
  let live:=liveOf (mask + 1) owner
  let t1:SetTable:={ mask,place:=(live.map (·.1)).toArray,dummies:=#[],finger,led,moves,plain }
  have hi:∀ j i,(j,i)∈live->∃ e,es[i]?=some e:=fun j i h=>by
    obtain ⟨hh,a1,_⟩:=g.reach j i h
    simp only [List.getElem?_map,Option.map_eq_some_iff] at a1
    obtain ⟨e,a2,_⟩:=a1
    exact ⟨e,a2⟩
  let L:List Ent:=live.filterMap fun x=>(es[x.2]?).map fun e=>(x.1,e)
  have hL1:∀ l:List (Nat×Nat),(∀ x∈l,∃ e,es[x.2]?=some e)->(l.filterMap fun x=>(es[x.2]?).map fun e=>((x.1,e):Ent)).map (·.1)=l.map (·.1):=by
    intro l
    induction l with
    | nil=>intro _;rfl
    | cons x l ih =>
      intro h
      obtain ⟨e,he⟩:=h x List.mem_cons_self
      rw [List.filterMap_cons_some (by rw [he];rfl),List.map_cons,List.map_cons,ih fun y hy=>h y (List.mem_cons_of_mem _ hy)]
  have hL2:∀ l:List (Nat×Nat),(l.filterMap fun x=>(es[x.2]?).map fun e=>((x.1,e):Ent)).map (·.2)=(l.map (·.2)).filterMap fun i=>es[i]?:=by
    intro l
    rw [List.map_filterMap,List.filterMap_map]
    refine fm_congr fun x _=>?_
    simp only [Function.comp]
    cases es[x.2]? <;> rfl
  have rg:∀ l:List (Int×Value),(List.range l.length).filterMap (fun i=>l[i]?)=l:=by
    intro l
    induction l with
    | nil=>rfl
    | cons a l ih =>
      rw [List.length_cons,List.range_succ_eq_map,List.filterMap_cons_some (by rfl),List.filterMap_map]
      congr 1
  have pmL:(L.map (·.2)).Perm es:=by
    show ((live.filterMap fun x=>(es[x.2]?).map fun e=>((x.1,e):Ent)).map (·.2)).Perm es
    rw [hL2]
    have:=(g.pm.filterMap fun i=>es[i]?)
    have e2:(es.map (·.1)).toArray.size=es.length:=by simp
    rw [e2] at this
    rw [rg] at this
    exact this
  refine ⟨t1,(live.map (·.2)).toArray,L,?_,rfl,rfl,rfl,rfl,⟨pw,m7,rfl,?_,?_,fun e he=>?_,fun e he=>?_⟩,?_,pmL⟩
  . unfold laid
    have e1':layClean mask (es.map (·.1)).toArray=some owner:=e1
    rw [e1']
    rfl
  . show (live.map (·.1)).toArray=_
    rw [show L.map (·.1)=live.map (·.1) from hL1 live fun x hx=>hi x.1 x.2 hx]
  . rw [show L.map (·.1)=live.map (·.1) from hL1 live fun x hx=>hi x.1 x.2 hx]
    exact liveOf_sorted
  . obtain ⟨x,hx,h2⟩:=List.mem_filterMap.mp he
    obtain ⟨e',_,rfl⟩:=Option.map_eq_some_iff.mp h2
    have:=(mem_liveOf (j:=x.1) (i:=x.2)).mp hx
    show x.1<=mask
    lia
  . obtain ⟨x,hx,h2⟩:=List.mem_filterMap.mp he
    obtain ⟨e',h3,rfl⟩:=Option.map_eq_some_iff.mp h2
    obtain ⟨hh,a1,s,a2,a3⟩:=g.reach x.1 x.2 hx
    simp only [List.getElem?_map,h3,Option.map_some,Option.some.injEq] at a1
    subst a1
    have pm:∀ s,pos t1 e'.1 s=pos t0 e'.1 s:=fun s=>pos_mask (t:=t1) (t':=t0) rfl _ s
    refine ⟨s,by rw [pm];exact a2,fun s' hs=>?_⟩
    have nn:=a3 s' hs
    have hlt:pos t0 e'.1 s' < mask + 1:=Nat.lt_succ_of_le (pos_le t0 e'.1 s')
    cases z:owner.getD (pos t0 e'.1 s') none with
    | none =>
      refine absurd ?_ nn
      have hl:pos t0 e'.1 s' < owner.size:=by rw [g.sz];exact hlt
      simp only [NoneAt,Array.getD,hl,dif_pos] at z ⊢;exact z
    | some i =>
      have hm:(pos t0 e'.1 s',i)∈live:=mem_liveOf.mpr ⟨hlt,z⟩
      obtain ⟨e2,he2⟩:=hi _ _ hm
      refine ⟨(pos t0 e'.1 s',e2),List.mem_filterMap.mpr ⟨_,hm,by rw [he2];rfl⟩,by rw [pm]⟩
  . rw [show L.map (·.2)=(live.map (·.2)).filterMap fun i=>es[i]? from hL2 live]
    simp
end Tb
namespace Tb
open PySem PySem.Spec PySem.SetTable
noncomputable abbrev TK (prog:Program) (w:World):=tupleKind (intKind prog w)
noncomputable abbrev hK (prog:Program) (w:World) (ks:List Int):Int:=tupleKeyHash (intKind prog w) ks
noncomputable def KeyE (prog:Program) (w:World) (h:Heap) (e:Ent) (ks:List Int):Prop:=∃ b,e.2.2=.ref b/\IsTupleKey (intKind prog w) h ks b/\e.2.1=hK prog w ks
section
variable {prog:Program} {w:World} {A:Around} {E:Value->Shared->Prop} {s:Shared}
theorem ofAClass_val {n:Nat} {v:Value} (h:carriedByValue v=true):ofAClassStatement n v=pure false:=by
  cases v with
  | ref a=>simp [carriedByValue] at h
  | _=>first|rfl|(unfold ofAClassStatement;rfl)
theorem ofAClass_tup {ks:List Int} {b:Addr} {Q:Bool->Shared->Prop} (hk:IsTupleKey (intKind prog w) s.heap ks b) (h:Q false s):wpAny (model prog w) A (ofAClassStatement 8 (.ref b)) Q E s:=by
  have hT:=hk.typeIs
  obtain ⟨o,items,n,ho,hc,hd,hi⟩:=hk
  unfold ofAClassStatement
  refine wpAny_bind (wpAny_typeOf hT ?_)
  simp only [beq_self_eq_true,if_true]
  refine wpAny_bind (wpAny_pure ?_)
  simp only [Bool.not_true,Bool.false_eq_true,if_false]
  refine wpAny_bind (wpAny_seqItems ho hd ?_)
  refine wpAny_bind ?_
  show wpAny _ _ (forIn items _ _) _ _ s
  rw [<- Array.forIn_toList]
  refine wpAny_forIn_list _ (fun rest r s'=>r.1=none/\s'=s/\∀ v∈rest,carriedByValue v=true) _ ?_ ?_ _ _ ⟨rfl,rfl,hi.byValue⟩
  . rintro v rest r s' ⟨hr,rfl,hall⟩
    rw [ofAClass_val (hall v List.mem_cons_self)]
    refine wpAny_bind (wpAny_pure ?_)
    simp only [Bool.false_eq_true,if_false]
    exact wpAny_pure ⟨rfl,rfl,fun u hu'=>hall u (List.mem_cons_of_mem _ hu')⟩
  . rintro ⟨r1,r2⟩ s' ⟨hr,rfl,_⟩
    simp only at hr
    subst hr
    exact wpAny_pure h
theorem seen_no {ks:List Int} {b:Addr} {Q:Bool->Shared->Prop} (hk:IsTupleKey (intKind prog w) s.heap ks b) (ys:List Value) (hy:∀ y∈ys,∃ k' b',y=.ref b'/\IsTupleKey (intKind prog w) s.heap k' b') (h:Q false s) :
    wpAny (model prog w) A (searchCouldBeSeen (.ref b) ys) Q E s:=by
  unfold searchCouldBeSeen
  refine wpAny_bind ?_
  refine wpAny_forIn_list _ (fun rest r s'=>r.1=none/\s'=s/\∀ y∈rest,∃ k' b',y=.ref b'/\IsTupleKey (intKind prog w) s.heap k' b') _ ?_ ?_ _ _ ⟨rfl,rfl,hy⟩
  . rintro v rest r s' ⟨hr,rfl,hall⟩
    obtain ⟨k',b',rfl,hk'⟩:=hall v List.mem_cons_self
    have rest_ok:∀ y∈rest,∃ k' b',y=Value.ref b'/\IsTupleKey (intKind prog w) s'.heap k' b':=fun y hy=>hall y (List.mem_cons_of_mem _ hy)
    dsimp only
    by_cases c:b=b'
    . subst c
      simp only [beq_self_eq_true,Bool.true_or,if_true]
      exact wpAny_pure ⟨rfl,rfl,rest_ok⟩
    . have hc:(b == b')=false:=by simpa using c
      simp only [hc,carriedByValue,Bool.false_and,Bool.or_self,Bool.false_eq_true,if_false]
      refine wpAny_bind (wpAny_eqIsQuiet_tuple hk ?_)
      simp only [Bool.not_true,Bool.false_eq_true,if_false]
      refine wpAny_bind (wpAny_eqIsQuiet_tuple hk' ?_)
      simp only [Bool.not_true,Bool.false_eq_true,if_false]
      refine wpAny_bind (ofAClass_tup hk ?_)
      simp only [Bool.false_eq_true,if_false]
      refine wpAny_bind (ofAClass_tup hk' ?_)
      simp only [Bool.false_eq_true,if_false]
      exact wpAny_pure ⟨rfl,rfl,rest_ok⟩
  . rintro ⟨r1,r2⟩ s' ⟨hr,rfl,_⟩
    simp only at hr
    subst hr
    exact wpAny_pure h
theorem isSame_self {a:Addr} {Q:Bool->Shared->Prop} (h:Q true s):wpAny (model prog w) A (isSame (.ref a) (.ref a)) Q E s:=by
  unfold isSame
  simp only [beq_self_eq_true,if_true]
  exact wpAny_pure h
end
end Tb
namespace Tb
open PySem PySem.Spec PySem.SetTable
section
variable {prog:Program} {w:World} {A:Around} {E:Value->Shared->Prop} {s:Shared}
noncomputable abbrev setObj (L:List Ent) (ep:Nat) (t:SetTable):Obj:={ cls:=.type "set",dict:=none,data:=.set (L.map (·.2)).toArray ep t }
theorem Good.fits {t:SetTable} {L:List Ent} (g:Good t L) (hl:L.length<=t.mask):t.fits ((L.map (·.2)).toArray).size=true:=by
  unfold PySem.SetTable.fits
  have h1:t.fill<=t.mask:=by unfold fill;rw [g.nd,g.sz];simpa using hl
  simp [g.sz,h1]
theorem Good.odd {t:SetTable} {L:List Ent} (g:Good t L):t.gaveWay=false:=by
  obtain ⟨k,hk⟩:=g.pw
  have h7:=g.m7
  unfold gaveWay
  cases k with
  | zero=>simp at hk;lia
  | succ k =>
    have:t.mask % 2=1:=by rw [Nat.pow_succ] at hk;lia
    simp [this]
theorem search_add {a b:Addr} {ks:List Int} {L:List Ent} {ep:Nat} {t:SetTable} {f:Ent->List Int} {Q:SetFound->Shared->Prop} (ho:s.heap.get? a=some (setObj L ep t)) (g:Good t L) (hl:L.length<=t.mask) (hf:∀ e∈L,KeyE prog w s.heap e (f e))
    (hb:IsTupleKey (intKind prog w) s.heap ks b) (hu:A.units < cLine) (q1:(∃ e∈L,f e=ks)->Q (.there none) s)
    (q2:∀ j,j<=t.mask->¬ Live t j->(∃ n,pos t (hK prog w ks) n=j/\∀ n',n' < n->∃ e'∈L,e'.1=pos t (hK prog w ks) n')->(∀ e∈L,f e≠ks)->Q (.free j false) s) :
    ∀ (fuel s0 sE:Nat) (stnd:Option Probe),s0<=sE->sE < s0 + fuel->sE < s0 + 10 * turns t.mask->¬ Live t (pos t (hK prog w ks) sE)->stnd.getD (t.probeStart (hK prog w ks))=adv t s0 (t.probeStart (hK prog w ks)) ->
      (∀ n,n < s0->∃ e∈L,e.1=pos t (hK prog w ks) n/\f e≠ks)->wpAny (model prog w) A (setSearchFrom a (.ref b) (hK prog w ks) true fuel stnd) Q E s:=by
  intro fuel
  induction fuel with
  | zero=>intro s0 sE _ h1 h2;lia
  | succ fuel ih =>
    intro s0 sE stnd h1 h2 h2' hE hst hpre
    unfold setSearchFrom
    refine wpAny_bind (wpAny_setState_of ho rfl (g.fits hl) ?_)
    simp only [g.odd,Bool.false_eq_true,if_false]
    obtain ⟨s2,a1,a2,a3,a4⟩:=probe_go g.rise g.nd (fun i=>((((L.map (·.2)).toArray)[i]?).map (·.1)).getD 0) (hK prog w ks) (10 * turns t.mask) s0 sE h1 h2' hE
    have hh:∀ i (hi:i < L.length),((((L.map (·.2)).toArray)[i]?).map (·.1)).getD 0=L[i].2.1:=fun i hi=>by simp [hi]
    have passed:∀ n,n < s2->∃ e∈L,e.1=pos t (hK prog w ks) n/\f e≠ks:=fun n hn=>by
      by_cases c:n < s0
      . exact hpre n c
      . obtain ⟨i,hi,e1,e2⟩:=a3 n (by lia) hn
        rw [g.sz] at hi
        rw [g.at hi] at e1
        rw [hh i hi] at e2
        refine ⟨L[i],List.getElem_mem hi,e1,fun z=>e2 ?_⟩
        obtain ⟨b',_,_,e3⟩:=hf _ (List.getElem_mem hi)
        rw [e3,z]
    rcases a4 with ⟨hne,hp⟩|⟨i,hi,e1,e2,hp⟩
    . -- an empty slot
      have hp':t.probe (fun i=>((((L.map (·.2)).toArray)[i]?).map (·.1)).getD 0) (hK prog w ks) (stnd.getD (t.probeStart (hK prog w ks)))=some (.empty (pos t (hK prog w ks) s2) none):=by rw [hst];exact hp
      generalize hr:t.probe _ (hK prog w ks) (stnd.getD (t.probeStart (hK prog w ks)))=r
      obtain rfl:r=_:=hr.symm.trans hp'
      simp only
      refine wpAny_pure (q2 _ (pos_le t _ _) hne ⟨s2,rfl,fun n hn=>?_⟩ fun e he z=>?_)
      . obtain ⟨e,he,q,_⟩:=passed n hn;exact ⟨e,he,q⟩
      . obtain ⟨b',_,_,e3⟩:=hf e he
        obtain ⟨n,r1,r2⟩:=g.reach e he
        rw [e3,z] at r1 r2
        by_cases c:n < s2
        . obtain ⟨e',he',q,ne⟩:=passed n c
          have:=g.uniq he' he (q.trans r1)
          subst this
          exact ne z
        . by_cases d:s2 < n
          . obtain ⟨e',he',q⟩:=r2 s2 d
            exact hne (g.live.mpr ⟨e',he',q⟩)
          . obtain rfl:n=s2:=by lia
            exact hne (g.live.mpr ⟨e,he,r1.symm⟩)
    . -- a key with the same hash
      rw [g.sz] at hi
      have e1':=e1
      rw [g.at hi] at e1
      obtain ⟨b',hv,hk',hx⟩:=hf _ (List.getElem_mem hi)
      have hp':t.probe (fun i=>((((L.map (·.2)).toArray)[i]?).map (·.1)).getD 0) (hK prog w ks) (stnd.getD (t.probeStart (hK prog w ks)))=some (.candidate (pos t (hK prog w ks) s2) i (adv t (s2 + 1) (t.probeStart (hK prog w ks)))):=by rw [hst];exact hp
      generalize hr:t.probe _ (hK prog w ks) (stnd.getD (t.probeStart (hK prog w ks)))=r
      obtain rfl:r=_:=hr.symm.trans hp'
      simp only
      have ei:((L.map (·.2)).toArray)[i]?=some (L[i].2.1,.ref b'):=by
        have:((L.map (·.2)).toArray)[i]?=some L[i].2:=by simp [hi]
        rw [this,<- hv]
      have rest:wpAny (model prog w) A (do
          let some (_,y):=((L.map (·.2)).toArray)[i]?|unsupported "internal:set-entry"
          let equal <- holding [y] (eqBool y (.ref b))
          let (es',_,t') <- setState a
          if true && equal then return .there none
          let some same:=t'.sameMemory t.moves t.mask|unsupported "set.changed-during-lookup:is-the-new-block-at-the-old-address"
          let still <- match (if same then t'.slot (pos t (hK prog w ks) s2) else .empty) with
            | .live i'=>match es'[i']? with
              | some (_,y')=>do pure (if <- isSame y' y then some i' else none)
              | none=>pure none
            | _=>pure none
          match still with
          | none=>rule "set.search.anew";setSearchFrom a (.ref b) (hK prog w ks) true fuel none
          | some i'=>if equal then return .there (some i') else setSearchFrom a (.ref b) (hK prog w ks) true fuel (some (adv t (s2 + 1) (t.probeStart (hK prog w ks))))) Q E s:=by
        rw [ei]
        simp only
        refine wpAny_bind (wpAny_holding ((TK prog w).eqBool hu hk' hb ?_))
        refine wpAny_bind (wpAny_setState_of ho rfl (g.fits hl) ?_)
        by_cases c:f L[i]=ks
        . simp only [c,decide_true,Bool.and_self,if_true]
          exact wpAny_pure (q1 ⟨_,List.getElem_mem hi,c⟩)
        . simp only [c,decide_false,Bool.and_false,Bool.false_eq_true,if_false]
          have hsm:t.sameMemory t.moves t.mask=some true:=by unfold sameMemory;simp
          rw [hsm]
          simp only [if_true]
          have hsl:t.slot (pos t (hK prog w ks) s2)=.live i:=by rw [<- e1'];exact slot_live g.rise (by rw [g.sz];exact hi)
          rw [hsl]
          simp only [ei]
          refine wpAny_bind (isSame_self (wpAny_bind (wpAny_pure ?_)))
          simp only [if_true]
          have hne:s2≠sE:=fun z=>hE (z▸g.live.mpr ⟨_,List.getElem_mem hi,e1⟩)
          refine ih (s2 + 1) sE _ (by lia) (by lia) (by lia) hE rfl fun n hn=>?_
          by_cases d:n=s2
          . subst d;exact ⟨_,List.getElem_mem hi,e1,c⟩
          . exact passed n (by lia)
      cases hled:t.led with
      | true=>simp only [Bool.not_true,Bool.false_eq_true,if_false];exact rest
      | false =>
        simp only [Bool.not_false,if_true]
        refine wpAny_bind (seen_no hb _ (fun y hy=>?_) ?_)
        . obtain ⟨e,he,rfl⟩:=List.mem_map.mp hy
          have he':e∈(L.map (·.2)):=by
            have:=Array.mem_toList_iff.mp he
            have:=(Array.mem_filter.mp this).1
            simpa using this
          obtain ⟨e0,h0,rfl⟩:=List.mem_map.mp he'
          obtain ⟨b2,hv2,hk2,_⟩:=hf e0 h0
          exact ⟨_,b2,hv2,hk2⟩
        . simp only [Bool.false_eq_true,if_false];exact rest
end
end Tb
namespace Tb
open PySem PySem.Spec PySem.SetTable
section
variable {prog:Program} {w:World} {A:Around} {E:Value->Shared->Prop} {s:Shared}
theorem byValue_tup {ks:List Int} {b:Addr} {Q:Bool->Shared->Prop} (hk:IsTupleKey (intKind prog w) s.heap ks b) (h:Q true s):wpAny (model prog w) A (hashByValue 8 (.ref b)) Q E s:=by
  have hT:=hk.typeIs
  obtain ⟨o,items,n,ho,hc,hd,hi⟩:=hk
  have allI:∀ v∈items.toList,∃ i t,v=.int i t:=by
    clear hd
    generalize items.toList=l at hi
    induction hi with
    | nil=>intro v hv;cases hv
    | cons h1 _ ih =>
      intro v hv
      rcases List.mem_cons.mp hv with rfl|hv
      . cases v with
        | int i t=>exact ⟨i,t,rfl⟩
        | _=>simp [intKind,Value.isInt] at h1
      . exact ih v hv
  unfold hashByValue
  refine wpAny_bind (wpAny_specialOf hT F.slot_tuple_hash.lookup ?_)
  simp only
  refine wpAny_bind (wpAny_seqItems ho hd ?_)
  simp only [Option.getD_some]
  refine wpAny_bind ?_
  rw [<- Array.forIn_toList]
  refine wpAny_forIn_list _ (fun rest r s'=>r.1=none/\s'=s/\∀ v∈rest,∃ i t,v=.int i t) _ ?_ ?_ _ _ ⟨rfl,rfl,allI⟩
  . rintro v rest r s' ⟨hr,rfl,hall⟩
    obtain ⟨i,t,rfl⟩:=hall v List.mem_cons_self
    have:hashByValue 7 (.int i t)=pure true:=by unfold hashByValue;rfl
    rw [this]
    refine wpAny_bind (wpAny_pure ?_)
    simp only [Bool.not_true,Bool.false_eq_true,if_false]
    exact wpAny_pure ⟨rfl,rfl,fun u hu'=>hall u (List.mem_cons_of_mem _ hu')⟩
  . rintro ⟨r1,r2⟩ s' ⟨hr,rfl,_⟩
    simp only at hr
    subst hr
    exact wpAny_pure h
noncomputable abbrev byT (w:World):Bool:=w.params.followText "set-order"
noncomputable def SetAt (prog:Program) (w:World) (U:Addr->List Int->Prop) (h:Heap) (a:Addr) (kss:List (List Int)):Prop :=
  ∃ (L:List Ent) (ep:Nat) (t:SetTable) (f:Int×Value->List Int),h.get? a=some (setObj L ep t)/\Good t L/\L.length * 5 < t.mask * 3/\t.mask < 8192/\(t.plain=true/\t.led=!byT w)/\(∀ e∈L,KeyE prog w h e (f e.2))/\(L.map fun e=>f e.2).Perm kss/\kss.Nodup/\∀ e∈L,∀ b,e.2.2=.ref b->U b (f e.2)
theorem key_same {h h':Heap} {a:Addr} {L:List Ent} {ep:Nat} {t:SetTable} {ks:List Int} {b:Addr} (ho:h.get? a=some (setObj L ep t)) (hs:Heap.SameBut a h h') (hk:IsTupleKey (intKind prog w) h ks b):IsTupleKey (intKind prog w) h' ks b:=by
  obtain ⟨o,items,n,h1,h2,h3,h4⟩:=hk
  have ne:b≠a:=fun z=>by
    subst z;rw [ho] at h1;cases h1;cases h3
  exact ⟨o,items,n,(hs.2 b ne).trans h1,h2,h3,h4⟩
theorem store_at {a:Addr} {L L':List Ent} {ep:Nat} {t t':SetTable} {Q:Unit->Shared->Prop} (ho:s.heap.get? a=some (setObj L ep t)) (hz:L'.length<=1000000) (h:∀ h',Heap.SameBut a s.heap h'->h'.get? a=some (setObj L' (ep + 1) t')->Q () { s with heap:=h' }) :
    wpAny (model prog w) A (storeSet a (L'.map (·.2)).toArray t') Q E s:=by
  refine wpAny_storeSet_of ho rfl (h _ (Heap.SameBut.update s.heap a _) ?_) (by rw [sizeLine_eq];simp;lia)
  have hd:(setObj L ep t).data=.set (L.map (·.2)).toArray ep t:=rfl
  have:=Heap.get?_update_self (Obj.putSet (L'.map (·.2)).toArray t') ho (by rw [putSet_of _ _ hd];rfl)
  rw [putSet_of _ _ hd] at this
  exact this
theorem relay_at {a:Addr} {L:List Ent} {ep:Nat} {t:SetTable} {Q:Unit->Shared->Prop} (ho:s.heap.get? a=some (setObj L ep t)) (g:Good t L) (hl:L.length<=t.mask) (h1:1<=L.length) (hz:L.length<=4900) (hp:t.plain=true)
    (h:∀ h' L' t',Heap.SameBut a s.heap h'->h'.get? a=some (setObj L' (ep + 1) t')->Good t' L'->L'.length * 5 < t'.mask * 3->(t'.mask=7∨t'.mask + 1<=8 * L'.length)/\L'.length * 4<=t'.mask->(t'.plain=true/\t'.led=t.led)->(L'.map (·.2)).Perm (L.map (·.2))->Q () { s with heap:=h' }) :
    wpAny (model prog w) A (setRelay a (grown L.length)) Q E s:=by
  have hg:grown L.length=L.length * 4:=by unfold grown;rw [if_neg (by lia)]
  rw [hg]
  obtain ⟨s1,s2,s3,s4⟩:=sizeAbove_ok (L.length * 4) (by lia)
  unfold setRelay
  refine wpAny_bind (wpAny_setState_of ho rfl (g.fits hl) ?_)
  have hsz:¬ sizeAbove (L.length * 4) > sizeLine:=by rw [sizeLine_eq];lia
  simp only [hsz,if_false]
  obtain ⟨t',order,L',e1,e2,e3,e4,e5,g',e6,e7⟩:=laid_good s1 s2 t.finger (t.movedTo (sizeAbove (L.length * 4) - 1)) t.led t.plain (L.map (·.2)) (by simp;lia)
  have hlen:L'.length=L.length:=by have:=e7.length_eq;simpa using this
  have er:t.relaid (((L.map (·.2)).toArray).map (·.1)) (L.length * 4)=some (t',order):=by
    unfold relaid
    have:((L.map (·.2)).toArray).map (·.1)=((L.map (·.2)).map (·.1)).toArray:=by simp
    rw [this];exact e1
  have main:wpAny (model prog w) A (do
      let some (t,order):=t.relaid (((L.map (·.2)).toArray).map (·.1)) (L.length * 4)|unsupported "internal:set-table-without-room"
      let es':=order.filterMap (((L.map (·.2)).toArray)[·]?)
      if es'.size != ((L.map (·.2)).toArray).size then unsupported "internal:set-table-lost-an-element"
      pure (es',t)) (fun r s'=>wpAny (model prog w) A (storeSet a r.1 r.2) Q E s') E s:=by
    rw [er]
    simp only
    rw [e6]
    have:((L'.map (·.2)).toArray.size != ((L.map (·.2)).toArray).size)=false:=by simp [hlen]
    rw [this]
    simp only [Bool.false_eq_true,if_false]
    refine wpAny_pure ?_
    refine store_at (t':=t') ho (by lia) fun h' hs hg=>h h' L' t' hs hg g' (by rw [e2,hlen];lia) ?_ ⟨e4.trans hp,e3⟩ e7
    rw [e2,hlen]
    refine ⟨?_,s3⟩
    rcases s4 with s4|s4
    . exact .inl s4
    . right;lia
  exact wpAny_bind main
end
end Tb
namespace Tb
open PySem PySem.Spec PySem.SetTable
section
variable {prog:Program} {w:World} {U:Addr->List Int->Prop} {A:Around} {E:Value->Shared->Prop} {s:Shared}
theorem SetAt.len {h:Heap} {a:Addr} {kss:List (List Int)} (x:SetAt prog w U h a kss):∃ (L:List Ent) (ep:Nat) (t:SetTable),h.get? a=some (setObj L ep t)/\L.length=kss.length:=by
  obtain ⟨L,ep,t,f,ho,_,_,_,_,_,hp,_⟩:=x
  exact ⟨L,ep,t,ho,by have:=hp.length_eq;simpa using this⟩
theorem mask_le {m:Nat} (h:∃ k,m + 1=2 ^ k) (hl:m < 16380):m < 8192:=by
  obtain ⟨k,hk⟩:=h
  have:k<=13:=Nat.le_of_not_lt fun z=>by
    have:=Nat.pow_le_pow_right (show 0 < 2 by decide) z
    rw [<- hk] at this
    have e:2 ^ (13 + 1)=16384:=by decide
    lia
  have:=Nat.pow_le_pow_right (show 0 < 2 by decide) this
  rw [<- hk] at this
  have e:2 ^ 13=8192:=by decide
  lia
theorem pow_mid {m:Nat} (n:Nat) (h:∃ k,m + 1=2 ^ k) (lo:2 ^ n < 2 * (m + 1)) (hi:m + 1 < 2 ^ (n + 1)):m + 1=2 ^ n:=by
  obtain ⟨k,hk⟩:=h
  rw [hk] at lo hi ⊢
  have h1:n < k + 1:=(Nat.pow_lt_pow_iff_right (a:=2) (by decide)).mp (by rw [Nat.pow_succ 2 k,Nat.mul_comm];exact lo)
  have h2:k < n + 1:=(Nat.pow_lt_pow_iff_right (a:=2) (by decide)).mp hi
  rw [show k=n by lia]
noncomputable def Mk (h:Heap) (a:Addr):Prop:=∀ L ep t,h.get? a=some (setObj L ep t)->t.mask=7∨t.mask=31∨t.mask=127∨t.mask=511∨t.mask=2047∨t.mask=8191
theorem Mk.of {h:Heap} {a:Addr} {L:List Ent} {ep:Nat} {t:SetTable} (ho:h.get? a=some (setObj L ep t)) (m:t.mask=7∨t.mask=31∨t.mask=127∨t.mask=511∨t.mask=2047∨t.mask=8191):Mk h a:=fun L2 ep2 t2 h2=>by
  rw [ho] at h2
  have:=congrArg Obj.data (Option.some.inj h2)
  have e:Data.set (L.map (·.2)).toArray ep t=.set (L2.map (·.2)).toArray ep2 t2:=this
  injection e with _ _ e
  rw [<- e];exact m
theorem addHashedQ {q:Bool} {a b:Addr} {ks:List Int} {kss:List (List Int)} {Q:Bool->Shared->Prop} (hS:SetAt prog w U s.heap a kss) (hq:q=true->Mk s.heap a) (hn:kss.length < if q then 4900 else 2040) (hb:IsTupleKey (intKind prog w) s.heap ks b) (hU:U b ks) (hu:A.units < cLine)
    (h:∀ h' added,Heap.SameBut a s.heap h'->SetAt prog w U h' a (if ks∈kss then kss else ks::kss)->(q=true->Mk h' a)->Q added { s with heap:=h' }):wpAny (model prog w) A (setAddHashed a (.ref b) (hK prog w ks)) Q E s:=by
  have hS0:=hS
  obtain ⟨L,ep,t,f,ho,g,room,mb,⟨pl,ld⟩,hf,hp,nd,uu⟩:=hS
  have hlen:L.length=kss.length:=by have:=hp.length_eq;simpa using this
  have h7:=g.m7
  have hl:L.length<=t.mask:=by lia
  have hmask:t.mask < 8192:=mb
  have hn4:kss.length < 4900:=by cases q <;> simp at hn <;> lia
  have self:∀ added,(ks∈kss)->Q added s:=fun added hm=>by
    have:=h s.heap added (Heap.SameBut.refl a s.heap) (by rw [if_pos hm];exact hS0) hq
    cases s;exact this
  unfold setAddHashed
  refine wpAny_holding ?_
  unfold setAddHashedIn
  refine wpAny_bind (wpAny_setState_of ho rfl (g.fits hl) ?_)
  have hby:byScan (.ref b) (L.map (·.2)).toArray=false:=by simp [byScan,Value.scannable]
  simp only [hby,Bool.false_eq_true,if_false]
  obtain ⟨e0,he0,hE0⟩:=some_empty g.rise (by rw [g.sz];exact hl)
  obtain ⟨k,hk⟩:=g.pw
  obtain ⟨sE,_,hsE,pE⟩:=pos_hit hk (hK prog w ks) 0 he0
  refine wpAny_bind ?_
  unfold setSearch
  refine search_add (f:=fun e=>f e.2) (Q:=fun r s'=>wpAny (model prog w) A (match r with
    | .free slot wasDummy=>_
    | _=>_) Q E s') ho g hl hf hb hu (fun hm=>?_) (fun j hj hnl hr hno=>?_) 100000 0 sE none (Nat.zero_le _) (by lia) (by unfold turns;lia) (by rw [pE];exact hE0) rfl (fun n hn=>absurd hn (by lia))
  . obtain ⟨e,he,q⟩:=hm
    exact wpAny_pure (self false (hp.mem_iff.mp (List.mem_map.mpr ⟨e,he,q⟩)))
  . have hnk:¬ ks∈kss:=fun z=>by
      obtain ⟨e,he,q⟩:=List.mem_map.mp (hp.mem_iff.mpr z)
      exact hno e he q
    obtain ⟨p1,g'⟩:=g.put (h:=hK prog w ks) (x:=.ref b) hj hnl hr
    simp only
    refine wpAny_bind (wpAny_setState_of ho rfl (g.fits hl) ?_)
    have epl:(t.put j).1.plain=true:=by rw [put_eq t g.nd];exact pl
    have emk:(t.put j).1.mask=t.mask:=by rw [put_eq t g.nd]
    have eld:(t.put j).1.led=!byT w:=by rw [put_eq t g.nd];exact ld
    generalize hpt:t.put j=tp at p1 g' epl emk eld
    obtain ⟨t',p⟩:=tp
    simp only at p1 g' epl emk eld ⊢
    simp only [epl,if_true]
    refine wpAny_bind (byValue_tup hb ?_)
    simp only [if_true]
    have ein:insertAt (L.map (·.2)).toArray p (hK prog w ks,Value.ref b)=((L.take p++(j,hK prog w ks,Value.ref b)::L.drop p).map (·.2)).toArray:=by
      rw [insertAt_list _ _ (by simpa using p1)]
      simp [List.map_take,List.map_drop]
    rw [ein]
    generalize hL':L.take p++(j,hK prog w ks,Value.ref b)::L.drop p=L' at g' ⊢
    have hlen':L'.length=L.length + 1:=by rw [<- hL'];simp;lia
    have perm':L'.Perm ((j,hK prog w ks,Value.ref b)::L):=by
      rw [<- hL']
      refine (List.perm_middle).trans ?_
      rw [List.take_append_drop]
    have hfj:∀ e∈L,e.2≠(hK prog w ks,Value.ref b):=fun e he z=>by
      obtain ⟨b',h1,h2,h3⟩:=hf e he
      rw [z] at h1
      cases h1
      exact hno e he (h2.inj hb)
    let f':Int×Value->List Int:=fun x=>if x=(hK prog w ks,Value.ref b) then ks else f x
    have keys:∀ {h':Heap},Heap.SameBut a s.heap h'->∀ e∈L',KeyE prog w h' e (f' e.2):=fun {h'} hs e he=>by
      rcases List.mem_cons.mp (perm'.mem_iff.mp he) with z|z
      . subst z
        exact ⟨b,rfl,by simp only [f',if_true];exact key_same ho hs hb,by simp only [f',if_true]⟩
      . obtain ⟨b',h1,h2,h3⟩:=hf e z
        have:f' e.2=f e.2:=by simp only [f'];rw [if_neg (hfj e z)]
        exact ⟨b',h1,by rw [this];exact key_same ho hs h2,by rw [this];exact h3⟩
    have kperm:(L'.map fun e=>f' e.2).Perm (ks::kss):=by
      refine (perm'.map _).trans ?_
      simp only [List.map_cons,f',if_true]
      refine List.Perm.cons _ ?_
      have:(L.map fun e=>if e.2=(hK prog w ks,Value.ref b) then ks else f e.2)=L.map fun e=>f e.2:=List.map_congr_left fun e he=>by rw [if_neg (hfj e he)]
      rw [this];exact hp
    have nd':(ks::kss).Nodup:=List.nodup_cons.mpr ⟨hnk,nd⟩
    have uu':∀ e∈L',∀ c,e.2.2=.ref c->U c (f' e.2):=fun e he c ec=>by
      rcases List.mem_cons.mp (perm'.mem_iff.mp he) with z|z
      . subst z;cases ec;simp only [f',if_true];exact hU
      . rw [show f' e.2=f e.2 by simp only [f'];rw [if_neg (hfj e z)]];exact uu e z c ec
    refine wpAny_bind (store_at (t':=t') ho (by lia) fun h1 hs1 ho1=>?_)
    have hfill:t'.fill=L'.length:=by unfold fill;rw [g'.nd,g'.sz];simp
    have esz:(L.map (·.2)).toArray.size + 1=L'.length:=by simp [hlen']
    cases htf:t'.tooFull with
    | false =>
      simp only [Bool.not_false,Bool.and_false,Bool.false_eq_true,if_false]
      have hroom:L'.length * 5 < t'.mask * 3:=by
        unfold tooFull at htf
        rw [hfill] at htf
        simpa using htf
      refine wpAny_pure (h h1 true hs1 ?_ ?_)
      . rw [if_neg hnk]
        exact ⟨L',ep + 1,t',f',ho1,g',hroom,by rw [emk];exact mb,⟨epl,eld⟩,keys hs1,kperm,nd',uu'⟩
      . exact fun z=>.of ho1 (by rw [emk];exact hq z _ _ _ ho)
    | true =>
      simp only [Bool.not_false,Bool.and_true,if_true]
      rw [esz]
      refine wpAny_bind (relay_at (s:={ s with heap:=h1 }) ho1 g' (by rw [emk];lia) (by lia) (by lia) epl fun h2 L2 t2 hs2 ho2 g2 r2 m2 p2 pm2=>?_)
      have hv:∀ e∈L2,∃ e1∈L',e1.2=e.2:=fun e he=>by
        have:e.2∈L'.map (·.2):=pm2.mem_iff.mp (List.mem_map.mpr ⟨e,he,rfl⟩)
        obtain ⟨e1,h1,h2⟩:=List.mem_map.mp this
        exact ⟨e1,h1,h2⟩
      have hl2:L2.length=L'.length:=by have:=pm2.length_eq;simpa using this
      have full:t'.mask * 3<=L'.length * 5:=by
        unfold tooFull at htf
        rw [hfill] at htf
        simpa using htf
      rw [emk] at full
      obtain ⟨m2,m3⟩:=m2
      rw [hl2] at m2 m3
      have mk:q=true->t2.mask=7∨t2.mask=31∨t2.mask=127∨t2.mask=511∨t2.mask=2047∨t2.mask=8191:=fun z=>by
        rcases hq z _ _ _ ho with e|e|e|e|e|e <;> rw [e] at full room
        . have:=pow_mid 5 g2.pw (by lia) (by lia);lia
        . have:=pow_mid 7 g2.pw (by lia) (by lia);lia
        . have:=pow_mid 9 g2.pw (by lia) (by lia);lia
        . have:=pow_mid 11 g2.pw (by lia) (by lia);lia
        . have:=pow_mid 13 g2.pw (by lia) (by lia);lia
        . lia
      refine wpAny_pure (h h2 true (hs1.trans hs2) ?_ fun z=>.of ho2 (mk z))
      rw [if_neg hnk]
      refine ⟨L2,ep + 1 + 1,t2,f',ho2,g2,r2,?_,⟨p2.1,p2.2.trans eld⟩,fun e he=>?_,?_,nd',fun e he c ec=>let ⟨e1,h1,q⟩:=hv e he;by rw [<- q];exact uu' e1 h1 c (by rw [q];exact ec)⟩
      . cases q with
        | true=>have:=mk rfl;lia
        | false=>simp only [Bool.false_eq_true,if_false] at hn;exact mask_le g2.pw (by lia)
      . obtain ⟨e1,he1,q⟩:=hv e he
        obtain ⟨b',k1,k2,k3⟩:=keys (hs1.trans hs2) e1 he1
        rw [q] at k1 k2 k3
        exact ⟨b',k1,k2,k3⟩
      . have:=(pm2.map f')
        rw [List.map_map,List.map_map] at this
        exact this.trans kperm
theorem setAdd_at {a b:Addr} {ks:List Int} {kss:List (List Int)} {Q:Bool->Shared->Prop} (hS:SetAt prog w U s.heap a kss) (hm:Mk s.heap a) (hn:kss.length < 4900) (hb:IsTupleKey (intKind prog w) s.heap ks b) (hU:U b ks) (hu:A.units < cLine)
    (h:∀ h' added tk,Heap.SameBut a s.heap h'->SetAt prog w U h' a (if ks∈kss then kss else ks::kss)->Mk h' a->Q added { s with heap:=h',toks:=s.toks + tk }):wpAny (model prog w) A (setAdd a (.ref b)) Q E s:=by
  unfold setAdd
  refine wpAny_holding (wpAny_bind (wpAny_pyHash_tuple hu hb ?_))
  exact addHashedQ (q:=true) (s:={ s with toks:=s.toks + (ks.length + 1) }) hS (fun _=>hm) hn hb hU hu fun h' added hs hS' hm'=>h h' added _ hs hS' (hm' rfl)
end
end Tb
namespace Tb
open PySem PySem.Spec PySem.SetTable
noncomputable def ins (acc:List (List Int)) (k:List Int):List (List Int):=if k∈acc then acc else k::acc
noncomputable def insAll (l:List (List Int)):List (List Int):=l.foldl ins []
theorem ins_len (acc:List (List Int)) (k:List Int):(ins acc k).length<=acc.length + 1:=by unfold ins;split <;> simp
theorem insAll_len (l:List (List Int)):(insAll l).length<=l.length:=by
  unfold insAll
  have:∀ (l acc:List (List Int)),(l.foldl ins acc).length<=acc.length + l.length:=by
    intro l
    induction l with
    | nil=>intro acc;simp
    | cons a l ih=>intro acc;rw [List.foldl_cons];have:=ih (ins acc a);have:=ins_len acc a;simp only [List.length_cons];lia
  simpa using this l []
theorem ins_ge (acc:List (List Int)) (k:List Int):acc.length<=(ins acc k).length:=by unfold ins;split <;> simp
theorem insAll_snoc (l:List (List Int)) (k:List Int):insAll (l++[k])=ins (insAll l) k:=by unfold insAll;rw [List.foldl_append];rfl
theorem insAll_le (l:List (List Int)):∀ m,(insAll l).length<=(insAll (l++m)).length
  | []=>by simp
  | x::m=>by
    have:=insAll_le (l++[x]) m
    rw [List.append_assoc,List.singleton_append] at this
    exact Nat.le_trans (by rw [insAll_snoc];exact ins_ge _ _) this
section
variable {prog:Program} {w:World} {U:Addr->List Int->Prop} {A:Around} {R:Result->Shared->Prop} {I:Addr} {fp wr:List Addr} {G:Array GenState->Array GenState->Prop} {n:Nat} {P:Nat->Value->Prop} {St:Nat->Shared->Prop}
theorem SetAt.moved {h h':Heap} {a:Addr} {kss:List (List Int)} (x:SetAt prog w U h a kss) (k:∀ b o,(b=a∨∃ ks,IsTupleKey (intKind prog w) h ks b)->h.get? b=some o->h'.get? b=some o):SetAt prog w U h' a kss:=by
  obtain ⟨L,ep,t,f,ho,g,room,mb,pl,hf,hp,nd⟩:=x
  refine ⟨L,ep,t,f,k _ _ (.inl rfl) ho,g,room,mb,pl,fun e he=>?_,hp,nd⟩
  obtain ⟨b,h1,h2,h3⟩:=hf e he
  have h2':=h2
  obtain ⟨o,items,m,q1,q2,q3,q4⟩:=h2
  exact ⟨b,h1,⟨o,items,m,k _ _ (.inr ⟨_,h2'⟩) q1,q2,q3,q4⟩,h3⟩
theorem Mk.moved {h h':Heap} {a:Addr} {kss:List (List Int)} (x:SetAt prog w U h a kss) (m:Mk h a) (k:∀ o,h.get? a=some o->h'.get? a=some o):Mk h' a:=by
  obtain ⟨L,ep,t,ho,_⟩:=x.len
  exact .of (k _ ho) (m _ _ _ ho)
theorem tup_ne {h:Heap} {b c:Addr} {ks:List Int} {o:Obj} (hk:IsTupleKey (intKind prog w) h ks b) (hc:h.get? c=some o) (hd:∀ xs m,o.data≠.seq xs m):b≠c:=fun z=>by
  subst z
  obtain ⟨o',items,m,q1,q2,q3,q4⟩:=hk
  rw [hc] at q1;cases q1;exact hd _ _ q3
theorem loopT (W:WalksS prog w A.in1 I fp wr G n P St) (D:Addr) (hDf:D∉fp) (hu:A.in1.units < cLine) (ks:Nat->List Int) (hn:(insAll ((List.range n).map ks)).length < 4900) (hwt:∀ i s,St i s->∀ b∈wr,∀ o,s.heap.get? b=some o->∀ xs m,o.data≠.seq xs m) :
    ∀ (k i:Nat) (s:Shared),n - i=k->i<=n->St i s->(∀ j v,P j v->∃ b,v=.ref b/\b∉wr/\IsTupleKey (intKind prog w) s.heap (ks j) b/\U b (ks j)) ->
      SetAt prog w U s.heap D (insAll ((List.range i).map ks))->Mk s.heap D ->
      (∀ s',Moved (D::wr) G s s'->SetAt prog w U s'.heap D (insAll ((List.range n).map ks))->R (.ok (.ret .none)) s') ->
      codeAny (model prog w) A (.builtin "set.update.loop" ⟨[.ref D,.ref I],[]⟩) R s:=by
  have hDw:D∉wr:=fun h=>hDf (W.sub _ h)
  have sub:∀ b∈wr,b∈D::wr:=fun b hb=>List.mem_cons_of_mem _ hb
  intro k
  induction k with
  | zero =>
    intro i s hk hi st hP hS hMk hR
    have hw:=hwt i s st
    obtain rfl:i=n:=by lia
    refine codeAny_builtin PyProof.Rows.F.entry_set_update_loop ?_
    rw [Around.under_plainId PyProof.Rows.F.plain_set_update_loop _]
    show wpAny _ A.in1 (pyNext (.ref I) >>= _) _ _ s
    refine wpAny_bind (W.done s _ _ st fun s1 hm=>?_)
    show wpAny _ A.in1 (ret Value.none) _ _ s1
    refine wpAny_pure (hR s1 (hm.mono sub) (hS.moved fun b o hb e=>hm.heap b o (fun hbw=>?_) e))
    rcases hb with rfl|⟨k',hk'⟩
    . exact hDw hbw
    . exact tup_ne hk' e (hw b hbw o e) rfl
  | succ k ih =>
    intro i s hk hi st hP hS hMk hR
    have hw:=hwt i s st
    refine codeAny_builtin PyProof.Rows.F.entry_set_update_loop ?_
    rw [Around.under_plainId PyProof.Rows.F.plain_set_update_loop _]
    show wpAny _ A.in1 (pyNext (.ref I) >>= _) _ _ s
    refine wpAny_bind (W.item i s _ _ (by lia) st fun v s1 hv st1 hm=>?_)
    have nw:∀ b o,(b=D∨∃ k',IsTupleKey (intKind prog w) s.heap k' b)->s.heap.get? b=some o->b∉wr:=fun b o hb e hbw=>by
      rcases hb with rfl|⟨k',hk'⟩
      . exact hDw hbw
      . exact tup_ne hk' e (hw b hbw o e) rfl
    have key1:∀ {b:Addr} {k':List Int},IsTupleKey (intKind prog w) s.heap k' b->IsTupleKey (intKind prog w) s1.heap k' b:=fun {b k'} hk'=>by
      have hk0:=hk'
      obtain ⟨o,items,m,q1,q2,q3,q4⟩:=hk'
      exact ⟨o,items,m,hm.heap b o (nw b o (.inr ⟨_,hk0⟩) q1) q1,q2,q3,q4⟩
    have hS1:SetAt prog w U s1.heap D (insAll ((List.range i).map ks)):=hS.moved fun b o hb e=>hm.heap b o (nw b o hb e) e
    obtain ⟨b,rfl,hbw,hbk,hbU⟩:=hP i v hv
    show wpAny _ A.in1 (holding [Value.ref b] (setAdd D (.ref b)) >>= _) _ _ s1
    have hlen:(insAll ((List.range i).map ks)).length < 4900:=by
      have e:List.range n=List.range i++(List.range (n - i)).map (i + ·):=by rw [<- List.range_add];congr 1;lia
      rw [e,List.map_append] at hn
      exact Nat.lt_of_le_of_lt (insAll_le _ _) hn
    refine wpAny_bind (wpAny_holding (setAdd_at hS1 (hMk.moved hS fun o e=>hm.heap D o hDw e) hlen (key1 hbk) hbU hu fun h2 added tk hs2 hS2 hMk2=>?_))
    have hS2':SetAt prog w U h2 D (insAll ((List.range (i + 1)).map ks)):=by
      rw [List.range_succ,List.map_append,List.map_singleton,insAll_snoc];exact hS2
    obtain ⟨L1,ep1,t1,ho1,_⟩:=hS1.len
    refine wpAny_pure ⟨plainId_quiet PyProof.Rows.F.plain_set_update_loop _,ih (i + 1) _ (by lia) (by lia) (W.frame _ s1 _ _ st1 (Nat.le_add_right _ _) fun b hb o e=>?_) (fun j v hv=>?_) hS2' hMk2 fun s3 hm3 hS3=>?_⟩
    . rw [hs2.2 b (fun z:b=D=>hDf (z▸hb))];exact e
    . obtain ⟨b,rfl,q1,q2,q3⟩:=hP j v hv
      exact ⟨b,rfl,q1,key_same ho1 hs2 (key1 q2),q3⟩
    . refine hR s3 (Moved.trans W.gtrans ((hm.mono sub).then_heap (Nat.le_add_right _ _) fun b o hb e=>?_) hm3) hS3
      rw [hs2.2 b (fun z:b=D=>hb (by rw [z];exact List.mem_cons_self))];exact e
end
end Tb
namespace Tb
open PySem PySem.Spec PySem.SetTable
section
variable {prog:Program} {w:World} {A:Around} {E:Value->Shared->Prop} {s:Shared}
noncomputable abbrev freshSet (led:Bool):Obj:={ cls:=.type "set",dict:=none,data:=.set #[] 0 (.fresh 0 0 led) }
theorem code_new (v:Value) {Q₁:Value->Shared->Prop} (h:Q₁ (.ref s.heap.objs.size) { s with heap:=s.heap.push (freshSet (!byT w)) }) :
    codeAny (model prog w) A (.call (.builtin "set.__new__") ⟨[.type "set",v],[]⟩) (wants Q₁ E) s:=by
  refine codeAny_of_tree ?_
  show wpAny _ A.in1 (do { checkBuiltinCall "set.__new__" ⟨[.type "set",v],[]⟩;again (.builtin "set.__new__" ⟨[.type "set",v],[]⟩) }) _ _ s
  refine wpAny_bind (wpAny_of_eq (F.newCall_set_1 v) (wpAny_pure ⟨plainId_quiet F.plain_set_new _,codeAny_builtin F.entry_set_new ?_⟩))
  rw [Around.under_plainId F.plain_set_new _]
  have e:=sub_set_self
  obtain ⟨hp,g,d,tk,os⟩:=s
  unfold Builtin.«set.__new__» Builtin.Frozenset.newClass
  dsimp only
  wp_walk
  refine wpAny_askSetting (wpAny_pure ?_)
  simp only [newObj]
  exact wpAny_bind (wpAny_alloc (wpAny_pure (wpAny_pure h)))
theorem call_set_of {v:Value} {Q:Value->Shared->Prop}
    (hup:wpAny (model prog w) A.in1.in1 (Builtin.Frozenset.updateFrom "set.__init__" s.heap.objs.size v) (fun _ s2=>Q (.ref s.heap.objs.size) s2) E { s with heap:=s.heap.push (freshSet (!byT w)) }) :
    wpAny (model prog w) A (call (.type "set") [v]) Q E s:=by
  obtain ⟨cc,tl,hmro⟩:=F.called_set.mro
  have hmade:=F.called_set.made
  have hsub:=F.called_set.sub
  have nt:=F.called_set.notType
  have cc:=F.called_set.canCreate
  have tc:=F.typeCall_set_1 v
  refine wpAny_call (codeAny_of_tree ?_)
  show wpAny _ _ (callAny (.type "set") _) _ _ _
  refine wpAny_pure ⟨Code.quiet_builtin _ (by decide +kernel),codeAny_builtin F.entry_type_call ?_⟩
  rw [Around.under_plain (weight_type_call_type "set" [v] []) rfl]
  repeat (any_goals (first|assumption|wp_step))
  refine codeAny_mono (code_new v (E:=E) (Q₁:=fun obj s1=>obj=.ref s.heap.objs.size/\s1={ s with heap:=s.heap.push (freshSet (!byT w)) }) ⟨rfl,rfl⟩) fun r s1 hr=>?_
  cases r with
  | error e=>exact hr
  | ok fl =>
    cases fl with
    | ret obj =>
      obtain ⟨e1,e2⟩:=hr
      subst e1 e2
      have hget:(s.heap.push (freshSet (!byT w))).get? s.heap.objs.size=some (freshSet (!byT w)):=Heap.get?_push_size _ rfl
      have hty:Shared.TypeIs { s with heap:=s.heap.push (freshSet (!byT w)) } (.ref s.heap.objs.size) "set":=⟨_,hget,rfl⟩
      have li:=F.called_set.init.lookup
      have bi:=F.called_set.init.bind (.ref s.heap.objs.size)
      repeat (any_goals (first|assumption|wp_step))
      refine codeAny_mono (codeAny_call_builtin (R:=wants (fun r s2=>r=.none/\Q (.ref s.heap.objs.size) s2) E) F.called_set.init.plain F.entry_set_init (check_set_init_1 hty ?_)) fun r2 s2 hr2=>?_
      . unfold Builtin.«set.__init__» noKeywords
        have hu:=hup
        generalize hU:Builtin.Frozenset.updateFrom=U at hu ⊢
        wp_walk
        exact wpAny_mono hu (fun _ s2 hq=>wpAny_pure ⟨rfl,hq⟩) fun _ _ x=>x
      . cases r2 with
        | error e=>exact hr2
        | ok fl2 =>
          cases fl2 with
          | ret r =>
            obtain ⟨rfl,hq⟩:=hr2
            repeat (any_goals (first|assumption|wp_step))
          | _=>exact hr2.elim
    | _=>exact hr.elim
end
end Tb
namespace Tb
open PySem PySem.Spec PySem.SetTable
namespace F
theorem sub_tuple_set:isSubtype (.type "tuple") (.type "set")=pure false:=by rw [isSubtype_type];kernel_rfl
theorem sub_tuple_frozenset:isSubtype (.type "tuple") (.type "frozenset")=pure false:=by rw [isSubtype_type];kernel_rfl
end F
section
variable {prog:Program} {w:World} {U:Addr->List Int->Prop} {A:Around} {E:Value->Shared->Prop} {s:Shared}
theorem set_new {h:Heap} {D:Addr} (ho:h.get? D=some (freshSet (!byT w))):SetAt prog w U h D []:=by
  have no:∀ (e:Ent) (p:Prop),e∈([]:List Ent)->p:=fun e p he=>by cases he
  exact ⟨[],0,.fresh 0 0 (!byT w),fun _=>[],ho,⟨⟨3,rfl⟩,Nat.le_refl 7,rfl,rfl,List.Pairwise.nil,fun e he=>no e _ he,fun e he=>no e _ he⟩,(show 0 < 21 by decide),(show (7:Nat) < 8192 by decide),⟨rfl,rfl⟩,fun e he=>no e _ he,List.Perm.refl _,List.nodup_nil,fun e he=>no e _ he⟩
theorem mk_new {h:Heap} {D:Addr} (ho:h.get? D=some (freshSet (!byT w))):Mk h D:=.of (L:=[]) (ep:=0) (t:=.fresh 0 0 (!byT w)) ho (.inl rfl)
theorem update_list {l D:Addr} {items:Array Value} {kss:List (List Int)} {Q:Unit->Shared->Prop} (hh:A.handled=none) (hu:A.units + 2 < cLine) (hl:s.heap.IsList l items) (hS:SetAt prog w U s.heap D []) (hMk:Mk s.heap D) (hlD:l≠D) (hz:(insAll kss).length < 4900)
    (hk:∀ (i:Nat) v,items[i]?=some v->∃ b,v=.ref b/\IsTupleKey (intKind prog w) s.heap (kss.getD i []) b/\U b (kss.getD i [])) (hlen:kss.length=items.size)
    (h:∀ h' tk,(∀ b o,b≠D->s.heap.get? b=some o->h'.get? b=some o)->SetAt prog w U h' D (insAll kss)->Q () { s with heap:=h',toks:=tk }) :
    wpAny (model prog w) A (Builtin.Frozenset.updateFrom "set.__init__" D (.ref l)) Q E s:=by
  have hl0:=hl
  have er:(List.range items.size).map (fun i=>kss.getD i [])=kss:=by
    rw [<- hlen]
    apply List.ext_getElem
    . simp
    . intro i h1 h2;simp at h1;simp [List.getD,h1]
  obtain ⟨ol,hol,hcl,nl,hdl⟩:=hl
  obtain ⟨oc,od,odt,osl⟩:=ol
  simp only at hcl hdl
  subst hcl hdl
  have e1:=F.sub_list_set
  have e2:=F.sub_list_frozenset
  have e3:(Value.type "list" == Value.type "dict")=false:=by decide
  unfold Builtin.Frozenset.updateFrom
  generalize hPI:pyIter=PI
  wp_walk
  subst hPI
  refine wpAny_pyIter_list hl0 ?_
  refine wpAny_bind (wpAny_runValue ?_)
  have hlt:l < s.heap.objs.size:=Heap.lt_size hol
  obtain ⟨L0,ep0,t0,hD0,_⟩:=hS.len
  have hDlt:D < s.heap.objs.size:=Heap.lt_size hD0
  have push:∀ b o,s.heap.get? b=some o->(s.heap.push { cls:=.type "list_iterator",data:=.fields #[.ref l,.int 0 0] }).get? b=some o:=fun b o e=>Heap.get?_push_of_some _ e
  have W:=(Walks.list (prog:=prog) (w:=w) (A:=A.in1) (by simpa using hh) s.heap.objs.size l (Nat.ne_of_lt hlt) items).toS
  refine loopT W D (fun z=>?_) (by show A.units + 1 < cLine;lia) (fun i=>kss.getD i []) (by rw [er];exact hz) (fun i s' st b hb o e xs m=>?_) (items.size - 0) 0 _ rfl (Nat.zero_le _) ⟨⟨_,Heap.get?_push_size _ rfl,rfl,rfl⟩,hl0.push _⟩ (fun j v hv=>?_) (hS.moved fun b o _ e=>push b o e) (hMk.moved hS fun o e=>push D o e) fun s' hm hS'=>?_
  . simp only [List.mem_cons,List.not_mem_nil,or_false] at z
    rcases z with z|z
    . exact absurd z (Nat.ne_of_lt hDlt)
    . exact hlD z.symm
  . obtain rfl:b=s.heap.objs.size:=by simpa using hb
    obtain ⟨⟨o',h1,h2,h3⟩,_⟩:=st
    rw [e] at h1;cases h1
    rw [h3];intro z;cases z
  . obtain ⟨b,rfl,hb,hU⟩:=hk j v hv
    have hb0:=hb
    obtain ⟨o,its,m,q1,q2,q3,q4⟩:=hb
    refine ⟨b,rfl,?_,⟨o,its,m,push _ _ q1,q2,q3,q4⟩,hU⟩
    simp only [List.mem_cons,List.not_mem_nil,or_false]
    exact Nat.ne_of_lt (Heap.lt_size q1)
  . obtain ⟨h',g',d',tk',os'⟩:=s'
    have eg:g'=s.gens:=hm.gens
    have ed:d'=s.drawn:=hm.drawn
    have eo:os'=s.os:=hm.os
    subst eg ed eo
    rw [er] at hS'
    refine wpAny_pure (h h' tk' (fun b o hb e=>hm.heap b o ?_ (push b o e)) hS')
    simp only [List.mem_cons,List.not_mem_nil,or_false,not_or]
    exact ⟨hb,Nat.ne_of_lt (Heap.lt_size e)⟩
theorem update_tuple {l D:Addr} {items:Array Value} {kss:List (List Int)} {Q:Unit->Shared->Prop} (hh:A.handled=none) (hu:A.units + 2 < cLine) (hl:s.heap.IsTuple l items) (hS:SetAt prog w U s.heap D []) (hMk:Mk s.heap D) (hlD:l≠D) (hz:(insAll kss).length < 4900)
    (hk:∀ (i:Nat) v,items[i]?=some v->∃ b,v=.ref b/\IsTupleKey (intKind prog w) s.heap (kss.getD i []) b/\U b (kss.getD i [])) (hlen:kss.length=items.size)
    (h:∀ h' tk,(∀ b o,b≠D->s.heap.get? b=some o->h'.get? b=some o)->SetAt prog w U h' D (insAll kss)->Q () { s with heap:=h',toks:=tk }) :
    wpAny (model prog w) A (Builtin.Frozenset.updateFrom "set.__init__" D (.ref l)) Q E s:=by
  have hl0:=hl
  have er:(List.range items.size).map (fun i=>kss.getD i [])=kss:=by
    rw [<- hlen]
    apply List.ext_getElem
    . simp
    . intro i h1 h2;simp at h1;simp [List.getD,h1]
  obtain ⟨ol,hol,hcl,nl,hdl⟩:=hl
  obtain ⟨oc,od,odt,osl⟩:=ol
  simp only at hcl hdl
  subst hcl hdl
  have e1:=F.sub_tuple_set
  have e2:=F.sub_tuple_frozenset
  have e3:(Value.type "tuple" == Value.type "dict")=false:=by decide
  unfold Builtin.Frozenset.updateFrom
  generalize hPI:pyIter=PI
  wp_walk
  subst hPI
  refine wpAny_pyIter_tuple hl0 ?_
  refine wpAny_bind (wpAny_runValue ?_)
  have hlt:l < s.heap.objs.size:=Heap.lt_size hol
  obtain ⟨L0,ep0,t0,hD0,_⟩:=hS.len
  have hDlt:D < s.heap.objs.size:=Heap.lt_size hD0
  have push:∀ b o,s.heap.get? b=some o->(s.heap.push { cls:=.type "tuple_iterator",data:=.fields #[.ref l,.int 0 0] }).get? b=some o:=fun b o e=>Heap.get?_push_of_some _ e
  have W:=(Walks.tuple (prog:=prog) (w:=w) (A:=A.in1) (by simpa using hh) s.heap.objs.size l (Nat.ne_of_lt hlt) items).toS
  refine loopT W D (fun z=>?_) (by show A.units + 1 < cLine;lia) (fun i=>kss.getD i []) (by rw [er];exact hz) (fun i s' st b hb o e xs m=>?_) (items.size - 0) 0 _ rfl (Nat.zero_le _) ⟨⟨_,Heap.get?_push_size _ rfl,rfl,rfl⟩,hl0.push _⟩ (fun j v hv=>?_) (hS.moved fun b o _ e=>push b o e) (hMk.moved hS fun o e=>push D o e) fun s' hm hS'=>?_
  . simp only [List.mem_cons,List.not_mem_nil,or_false] at z
    rcases z with z|z
    . exact absurd z (Nat.ne_of_lt hDlt)
    . exact hlD z.symm
  . obtain rfl:b=s.heap.objs.size:=by simpa using hb
    obtain ⟨⟨o',h1,h2,h3⟩,_⟩:=st
    rw [e] at h1;cases h1
    rw [h3];intro z;cases z
  . obtain ⟨b,rfl,hb,hU⟩:=hk j v hv
    have hb0:=hb
    obtain ⟨o,its,m,q1,q2,q3,q4⟩:=hb
    refine ⟨b,rfl,?_,⟨o,its,m,push _ _ q1,q2,q3,q4⟩,hU⟩
    simp only [List.mem_cons,List.not_mem_nil,or_false]
    exact Nat.ne_of_lt (Heap.lt_size q1)
  . obtain ⟨h',g',d',tk',os'⟩:=s'
    have eg:g'=s.gens:=hm.gens
    have ed:d'=s.drawn:=hm.drawn
    have eo:os'=s.os:=hm.os
    subst eg ed eo
    rw [er] at hS'
    refine wpAny_pure (h h' tk' (fun b o hb e=>hm.heap b o ?_ (push b o e)) hS')
    simp only [List.mem_cons,List.not_mem_nil,or_false,not_or]
    exact ⟨hb,Nat.ne_of_lt (Heap.lt_size e)⟩
theorem call_set_seq {l:Addr} {items:Array Value} {kss:List (List Int)} {Q:Value->Shared->Prop} (hh:A.handled=none) (hu:A.units + 8 < cLine) (hl:s.heap.IsList l items∨s.heap.IsTuple l items) (hz:(insAll kss).length < 4900)
    (hk:∀ (i:Nat) v,items[i]?=some v->∃ b,v=.ref b/\IsTupleKey (intKind prog w) s.heap (kss.getD i []) b/\U b (kss.getD i [])) (hlen:kss.length=items.size)
    (h:∀ h' tk,(∀ b o,s.heap.get? b=some o->h'.get? b=some o)->SetAt prog w U h' s.heap.objs.size (insAll kss)->Q (.ref s.heap.objs.size) { s with heap:=h',toks:=tk }) :
    wpAny (model prog w) A (call (.type "set") [.ref l]) Q E s:=by
  refine call_set_of ?_
  have push:∀ b o,s.heap.get? b=some o->(s.heap.push (freshSet (!byT w))).get? b=some o:=fun b o e=>Heap.get?_push_of_some _ e
  have hlt:l < s.heap.objs.size:=by
    rcases hl with ⟨o,e,_⟩|⟨o,e,_⟩ <;> exact Heap.lt_size e
  have hk':∀ (i:Nat) v,items[i]?=some v->∃ b,v=.ref b/\IsTupleKey (intKind prog w) (s.heap.push (freshSet (!byT w))) (kss.getD i []) b/\U b (kss.getD i []):=fun i v hv=>by
    obtain ⟨b,e,⟨o,its,m,q1,q2,q3,q4⟩,hU⟩:=hk i v hv
    exact ⟨b,e,⟨o,its,m,push _ _ q1,q2,q3,q4⟩,hU⟩
  have hS:SetAt prog w U (s.heap.push (freshSet (!byT w))) s.heap.objs.size []:=set_new (Heap.get?_push_size _ rfl)
  have fin:∀ h' tk,(∀ b o,b≠s.heap.objs.size->(s.heap.push (freshSet (!byT w))).get? b=some o->h'.get? b=some o)->SetAt prog w U h' s.heap.objs.size (insAll kss)->Q (.ref s.heap.objs.size) { s with heap:=h',toks:=tk }:=fun h' tk k hS' =>
    h h' tk (fun b o e=>k b o (Nat.ne_of_lt (Heap.lt_size e)) (push b o e)) hS'
  rcases hl with hl|hl
  . exact update_list (s:={ s with heap:=s.heap.push (freshSet (!byT w)) }) (by simpa using hh) (by show A.units + 1 + 1 + 2 < cLine;lia) (hl.push _) hS (mk_new (w:=w) (Heap.get?_push_size _ rfl)) (Nat.ne_of_lt hlt) hz hk' hlen fin
  . exact update_tuple (s:={ s with heap:=s.heap.push (freshSet (!byT w)) }) (by simpa using hh) (by show A.units + 1 + 1 + 2 < cLine;lia) (hl.push _) hS (mk_new (w:=w) (Heap.get?_push_size _ rfl)) (Nat.ne_of_lt hlt) hz hk' hlen fin
end
end Tb
namespace Tb
open PySem PySem.Spec PySem.SetTable
theorem erase_perm {α:Type}:∀ {l:List α} {n:Nat} (h:n < l.length),(l[n]::l.eraseIdx n).Perm l
  | a::l,0,_=>by simp
  | a::l,n + 1,h=>by
    have ih:=erase_perm (l:=l) (n:=n) (by simpa using h)
    simp only [List.getElem_cons_succ,List.eraseIdx_cons_succ]
    exact (List.Perm.swap ..).trans (ih.cons a)
theorem pick_go {α:Type} (next:Nat->Nat):∀ (fuel k:Nat) (left:List α) (out:Array α),left.length<=fuel->(pickOrder.go next fuel k left out).toList.Perm (out.toList++left):=by
  intro fuel
  induction fuel with
  | zero =>
    intro k left out h
    obtain rfl:left=[]:=List.length_eq_zero_iff.mp (by lia)
    unfold pickOrder.go
    simp
  | succ fuel ih =>
    intro k left out h
    unfold pickOrder.go
    cases left with
    | nil=>simp
    | cons a l =>
      have hlt:next k % (a::l).length < (a::l).length:=Nat.mod_lt _ (by simp)
      rw [List.getElem?_eq_getElem hlt]
      simp only
      have hlen:((a::l).eraseIdx (next k % (a::l).length)).length<=fuel:=by
        rw [List.length_eraseIdx_of_lt hlt]
        simp only [List.length_cons] at h ⊢
        lia
      refine (ih (k + 1) _ _ hlen).trans ?_
      rw [Array.toList_push,List.append_assoc]
      exact List.Perm.append_left _ (erase_perm hlt)
theorem pick_perm {α:Type} (next:Nat->Nat) (xs:Array α):(pickOrder next xs).toList.Perm xs.toList:=by
  unfold pickOrder
  simpa using pick_go next xs.size 0 xs.toList #[] (by simp)
noncomputable def outs (w:World) (D:Addr) (ep:Nat) (L:List Ent):Array (Int×Value):=if byT w=true then pickOrder (w.params.setOrder D ep) (L.map (·.2)).toArray else (L.map (·.2)).toArray
theorem outs_perm (w:World) (D:Addr) (ep:Nat) (L:List Ent):(outs w D ep L).toList.Perm (L.map (·.2)):=by
  unfold outs
  split
  . simpa using pick_perm (w.params.setOrder D ep) (L.map (·.2)).toArray
  . exact .refl _
theorem outs_size (w:World) (D:Addr) (ep:Nat) (L:List Ent):(outs w D ep L).size=L.length:=by
  have:=(outs_perm w D ep L).length_eq
  simpa using this
structure Lies (t:SetTable) (L:List Ent):Prop where
  pl:t.place=(L.map (·.1)).toArray
  so:(L.map (·.1)).Pairwise (· < ·)
  fl:t.fill<=t.mask
theorem Lies.sz {t:SetTable} {L:List Ent} (g:Lies t L):t.place.size=L.length:=by rw [g.pl];simp
theorem Lies.at {t:SetTable} {L:List Ent} (g:Lies t L) {i:Nat} (hi:i < L.length):t.place.getD i 0=L[i].1:=by rw [g.pl];simp [Array.getD,hi]
theorem Lies.rise {t:SetTable} {L:List Ent} (g:Lies t L):Rise t.place:=by
  intro a b hab hb
  rw [g.sz] at hb
  rw [g.at (show a < L.length by lia),g.at hb]
  have:=(List.pairwise_iff_getElem.mp g.so) a b (by simpa using (show a < L.length by lia)) (by simpa using hb) hab
  simpa using this
theorem Lies.fits {t:SetTable} {L:List Ent} (g:Lies t L) (hl:L.length<=t.mask):t.fits ((L.map (·.2)).toArray).size=true:=by
  unfold PySem.SetTable.fits
  have h1:=g.fl
  simp [g.sz,h1]
theorem Good.lies {t:SetTable} {L:List Ent} (g:Good t L) (hl:L.length<=t.mask):Lies t L:=⟨g.pl,g.so,by unfold fill;rw [g.nd,g.sz];simpa using hl⟩
noncomputable def slotAt (w:World) (t:SetTable) (i:Nat):Nat:=if byT w=true then 0 else if i=0 then 0 else t.place.getD (i - 1) 0 + 1
section
variable {prog:Program} {w:World} {A:Around} {E:Value->Shared->Prop} {s:Shared}
theorem next_at {D:Addr} {L:List Ent} {ep:Nat} {t:SetTable} {i:Nat} {Q:Option (Value×Nat)->Shared->Prop} (ho:s.heap.get? D=some (setObj L ep t)) (g:Lies t L) (hl:L.length<=t.mask) (pl:t.plain=true) (ld:t.led=!byT w) (hi:i<=L.length)
    (h:Q (((outs w D ep L)[i]?).map fun e=>(e.2,slotAt w t (i + 1))) s):wpAny (model prog w) A (setNext D (slotAt w t i) i ep) Q E s:=by
  unfold setNext
  refine wpAny_bind (wpAny_setState_of ho rfl (g.fits hl) ?_)
  unfold setsByText
  refine wpAny_bind (wpAny_bind (wpAny_askSetting (wpAny_pure ?_)))
  cases hb:byT w with
  | true =>
    have hb':((model prog w).w.params.followText "set-order")=true:=hb
    simp only [hb',if_true,bne_self_eq_false,Bool.false_eq_true,if_false]
    unfold setWalk setsByText
    refine wpAny_bind (wpAny_bind (wpAny_setState_of ho rfl (g.fits hl) ?_))
    refine wpAny_bind (wpAny_bind (wpAny_askSetting (wpAny_pure ?_)))
    simp only [hb',if_true]
    refine wpAny_bind (wpAny_askSetting (wpAny_pure (wpAny_pure ?_)))
    unfold outs slotAt at h
    simp only [hb,if_true] at h
    simp only [slotAt,hb,if_true]
    exact h
  | false =>
    have hb':((model prog w).w.params.followText "set-order")=false:=hb
    simp only [hb',Bool.false_eq_true,if_false]
    rw [hb] at ld
    have hbl:below t.place (slotAt w t i)=i:=by
      unfold slotAt
      rw [hb]
      simp only [Bool.false_eq_true,if_false]
      obtain ⟨b1,b2,b3⟩:=below_spec g.rise (if i=0 then 0 else t.place.getD (i - 1) 0 + 1)
      by_cases c:i=0
      . subst c
        simp only [if_true] at b2 ⊢
        cases hz:below t.place 0 with
        | zero=>rfl
        | succ n=>have:=b2 0 (by lia);lia
      . rw [if_neg c] at b1 b2 b3 ⊢
        have him:i - 1 < t.place.size:=by rw [g.sz];lia
        have c1:¬ below t.place (t.place.getD (i - 1) 0 + 1) < i:=fun z=>by
          have:=b3 (i - 1) (by lia) him;lia
        have c2:¬ i < below t.place (t.place.getD (i - 1) 0 + 1):=fun z=>by
          have h1:=b2 i z
          have h2:=g.rise (i - 1) i (by lia) (by lia)
          lia
        lia
    have fin:wpAny (model prog w) A (pure (match ((L.map (·.2)).toArray)[below t.place (slotAt w t i)]?,t.place[below t.place (slotAt w t i)]? with
        | some (_,x),some j=>some (x,j + 1)
        | _,_=>none):Sem (Option (Value×Nat))) Q E s:=by
      rw [hbl]
      refine wpAny_pure ?_
      unfold outs slotAt at h
      simp only [hb,Bool.false_eq_true,if_false,Nat.add_eq_zero_iff,Nat.succ_ne_self,and_false,Nat.add_sub_cancel] at h
      by_cases c:i < L.length
      . have e1:((L.map (·.2)).toArray)[i]?=some L[i].2:=by simp [c]
        have e2:t.place[i]?=some (t.place.getD i 0):=get_some (by rw [g.sz];exact c)
        rw [e1] at h ⊢
        rw [e2]
        exact h
      . have e1:((L.map (·.2)).toArray)[i]?=none:=by simp;lia
        rw [e1] at h ⊢
        exact h
    have hdr:∀ c:Bool,(!t.plain && c)=false:=fun c=>by rw [pl];rfl
    have hld:∀ c:Bool,(!t.led && c)=false:=fun c=>by rw [ld];rfl
    have drop:∀ {c:Bool} {x y:Sem (Option (Value×Nat))},c=false->wpAny (model prog w) A y Q E s->wpAny (model prog w) A (if c=true then x else y) Q E s:=fun {c x y} hc hy=>by rw [hc];exact hy
    refine drop (hdr _) ?_
    refine wpAny_bind ?_
    show wpAny _ _ (if (!t.led && !((L.map (·.2)).toArray).isEmpty)=true then unsupported "set:maker-not-led" else pure ()) _ _ _
    rw [hld]
    exact wpAny_pure fin
end
end Tb
namespace Tb
open PySem PySem.Spec PySem.SetTable
theorem slot_sit_next:Slot "set_iterator" "__next__" "set_iterator.__next__" :=
  .of (owner:="set_iterator") (n:="__next__") (by rw [typeLookup_type,builtinLookup_eq_fast];kernel_rfl) (by decide +kernel) (by decide +kernel) (by decide +kernel) (by first|exact .inl (by decide +kernel)|exact .inr (by decide +kernel)) (by rw [isSubtype_type];kernel_rfl)
theorem entry_sit_next:entryFor table "set_iterator.__next__"=some Builtin.«set_iterator.__next__»:=entryFor_of_tree (by kernel_rfl)
theorem args_sit_next (a:Value):argsOk "set_iterator.__next__" ⟨[a],[]⟩:=by unfold argsOk;kernel_rfl
theorem entry_s_iter:entryFor table "set.__iter__"=some Builtin.«frozenset.__iter__»:=entryFor_alias (id':="frozenset.__iter__") (by kernel_rfl) rfl (by decide +kernel) (by kernel_rfl)
theorem slot_sit_iter:Slot "set_iterator" "__iter__" "set_iterator.__iter__" :=
  .of (owner:="set_iterator") (n:="__iter__") (by rw [typeLookup_type,builtinLookup_eq_fast];kernel_rfl) (by decide +kernel) (by decide +kernel) (by decide +kernel) (by first|exact .inl (by decide +kernel)|exact .inr (by decide +kernel)) (by rw [isSubtype_type];kernel_rfl)
theorem entry_sit_iter:entryFor table "set_iterator.__iter__"=some Builtin.«dict_keyiterator.__iter__»:=entryFor_alias (id':="dict_keyiterator.__iter__") (by kernel_rfl) rfl (by decide +kernel) (by kernel_rfl)
theorem args_sit_iter (a:Value):argsOk "set_iterator.__iter__" ⟨[a],[]⟩:=by unfold argsOk;kernel_rfl
noncomputable def iterObj (w:World) (t:SetTable) (D:Addr) (n ep i:Nat):Obj:={ cls:=.type "set_iterator",data:=.fields #[rawInt (slotAt w t i),rawInt i,.ref D,rawInt n,rawInt ep] }
section
variable {prog:Program} {w:World} {A:Around} {E:Value->Shared->Prop} {s:Shared} {D I:Addr} {L:List Ent} {ep:Nat} {t:SetTable}
structure Goes (w:World) (L:List Ent) (t:SetTable):Prop where
  g:Lies t L
  hl:L.length<=t.mask
  pl:t.plain=true
  ld:t.led=!byT w
theorem iter_set {Q:Value->Shared->Prop} (ho:s.heap.get? D=some (setObj L ep t)) (g:Goes w L t) (h:Q (.ref s.heap.objs.size) { s with heap:=s.heap.push (iterObj w t D L.length ep 0) }):wpAny (model prog w) A (pyIter (.ref D)) Q E s:=by
  have hT:s.TypeIs (.ref D) "set":=⟨_,ho,rfl⟩
  refine wpAny_pyIter_slot hT F.slot_set_iter (wpAny_call_entry F.slot_set_iter hT entry_s_iter ?_ (F.args_set_iter_1 _))
  unfold Builtin.«frozenset.__iter__» Builtin.Frozenset.slot0 Builtin.Frozenset.sizeOf Builtin.Frozenset.addrOf
  simp only [slotArgs,List.isEmpty_nil,Bool.not_true,Bool.false_eq_true,if_false,List.length_nil,bne_self_eq_false]
  refine wpAny_bind (wpAny_bind (wpAny_pure (wpAny_pure ?_)))
  refine wpAny_bind (wpAny_bind (wpAny_setEntries_of ho rfl (g.g.fits g.hl) (wpAny_pure ?_)))
  have hdr:wpAny (model prog w) A.in1 (setDrawn D) (fun b s'=>b=false/\s'=s) E s:=by
    unfold setDrawn setsByText
    refine wpAny_bind (wpAny_setState_of ho rfl (g.g.fits g.hl) ?_)
    refine wpAny_bind (wpAny_bind (wpAny_askSetting (wpAny_pure (wpAny_pure ⟨?_,rfl⟩))))
    show (_ && (!t.plain && _))=false
    rw [g.pl];simp
  refine wpAny_bind (wpAny_mono hdr (fun b s' hb=>?_) fun _ _ z=>z)
  obtain ⟨rfl,rfl⟩:=hb
  simp only [Bool.false_eq_true,if_false]
  refine wpAny_bind (wpAny_pure ?_)
  refine wpAny_bind (wpAny_setEpoch_of ho rfl (g.g.fits g.hl) ?_)
  have e0:slotAt w t 0=0:=by unfold slotAt;simp
  have eo:(iterObj w t D L.length ep 0)={ cls:=.type "set_iterator",data:=.fields ([rawInt 0,rawInt 0,Value.ref D,rawInt ((L.map (·.2)).toArray.size:Nat),rawInt (ep:Nat)]:List Value).toArray }:=by
    unfold iterObj;rw [e0];simp
  rw [eo] at h
  exact wpAny_bind (wpAny_newObj_type (wpAny_pure ⟨_,rfl,"set_iterator",_,⟨_,Heap.get?_push_size _ rfl,rfl⟩,slot_sit_next.lookup,h⟩))
theorem next_item {i:Nat} {Q:Option Value->Shared->Prop} {e:Int×Value} (hI:s.heap.get? I=some (iterObj w t D L.length ep i)) (ho:s.heap.get? D=some (setObj L ep t)) (g:Goes w L t) (hi:i < L.length) (he:(outs w D ep L)[i]?=some e)
    (h:∀ h',Heap.SameBut I s.heap h'->h'.get? I=some (iterObj w t D L.length ep (i + 1))->Q (some e.2) { s with heap:=h' }):wpAny (model prog w) A (pyNext (.ref I)) Q E s:=by
  have hT:s.TypeIs (.ref I) "set_iterator":=⟨_,hI,rfl⟩
  unfold pyNext
  refine wpAny_bind (wpAny_attempt (wpAny_callSpecial?_slot (name:=Str.ofString "__next__") hT slot_sit_next (wpAny_call_entry slot_sit_next hT entry_sit_next ?_ (args_sit_next _))))
  unfold Builtin.«set_iterator.__next__»
  simp only [slotArgs,List.isEmpty_nil,Bool.not_true,Bool.false_eq_true,if_false,List.length_nil,bne_self_eq_false]
  refine wpAny_bind (wpAny_pure ?_)
  refine wpAny_bind (wpAny_fieldsOf hI rfl ?_)
  simp only [rawInt]
  refine wpAny_bind (wpAny_setEntries_of ho rfl (g.g.fits g.hl) ?_)
  have hz:((((L.map (·.2)).toArray.size:Nat):Int) != ((L.length:Nat):Int))=false:=by simp
  simp only [hz,Bool.false_eq_true,if_false,Int.toNat_natCast]
  refine wpAny_bind (next_at ho g.g g.hl g.pl g.ld (Nat.le_of_lt hi) ?_)
  rw [he]
  simp only [Option.map_some]
  have hd0:(iterObj w t D L.length ep i).data=.fields #[rawInt (slotAt w t i),rawInt i,.ref D,rawInt L.length,rawInt ep]:=rfl
  refine wpAny_bind (wpAny_setField hI hd0 (by simp) ?_)
  have hd1:=Obj.data_mapFields hd0 (·.setIfInBounds 0 (rawInt (slotAt w t (i + 1))))
  have hI1:=Heap.get?_update_self (Obj.mapFields (·.setIfInBounds 0 (rawInt (slotAt w t (i + 1))))) hI (Obj.isFreed_of_fields hd1)
  refine wpAny_bind (wpAny_setField hI1 hd1 (by simp) ?_)
  have hd2:=Obj.data_mapFields hd1 (·.setIfInBounds 1 (rawInt (i + 1:Nat)))
  have hI2:=Heap.get?_update_self (Obj.mapFields (·.setIfInBounds 1 (rawInt (i + 1:Nat)))) hI1 (Obj.isFreed_of_fields hd2)
  refine wpAny_pure ⟨_,rfl,wpAny_pure (h _ ((Heap.SameBut.update ..).trans (Heap.SameBut.update ..)) ?_)⟩
  refine hI2.trans ?_
  unfold iterObj Obj.mapFields
  simp [rawInt]
theorem next_done {Q:Option Value->Shared->Prop} (hh:A.handled=none) (hI:s.heap.get? I=some (iterObj w t D L.length ep L.length)) (ho:s.heap.get? D=some (setObj L ep t)) (g:Goes w L t)
    (h:∀ h',Heap.ExtBut I s.heap h'->Q none { s with heap:=h' }):wpAny (model prog w) A (pyNext (.ref I)) Q E s:=by
  have hT:s.TypeIs (.ref I) "set_iterator":=⟨_,hI,rfl⟩
  unfold pyNext
  refine wpAny_bind (wpAny_attempt (wpAny_callSpecial?_slot (name:=Str.ofString "__next__") hT slot_sit_next (wpAny_call_entry slot_sit_next hT entry_sit_next ?_ (args_sit_next _))))
  unfold Builtin.«set_iterator.__next__»
  simp only [slotArgs,List.isEmpty_nil,Bool.not_true,Bool.false_eq_true,if_false,List.length_nil,bne_self_eq_false]
  refine wpAny_bind (wpAny_pure ?_)
  refine wpAny_bind (wpAny_fieldsOf hI rfl ?_)
  simp only [rawInt]
  refine wpAny_bind (wpAny_setEntries_of ho rfl (g.g.fits g.hl) ?_)
  have hz:((((L.map (·.2)).toArray.size:Nat):Int) != ((L.length:Nat):Int))=false:=by simp
  simp only [hz,Bool.false_eq_true,if_false,Int.toNat_natCast]
  refine wpAny_bind (next_at ho g.g g.hl g.pl g.ld (Nat.le_refl _) ?_)
  have he:(outs w D ep L)[L.length]?=none:=by
    rw [Array.getElem?_eq_none];rw [outs_size];exact Nat.le_refl _
  rw [he]
  simp only [Option.map_none]
  have hd0:(iterObj w t D L.length ep L.length).data=.fields #[rawInt (slotAt w t L.length),rawInt L.length,.ref D,rawInt L.length,rawInt ep]:=rfl
  refine wpAny_bind (wpAny_setField hI hd0 (by simp) ?_)
  refine wpAny_bind ?_
  simp only [newExc,newTuple]
  refine wpAny_bind (wpAny_newObj_type ?_ (by size_fits))
  refine wpAny_bind (m:=firstArgMember _ _) (wpAny_of_eq (a:=Value.none) (by first|rfl|(simp only [firstArgMember];rfl)) ?_)
  refine wpAny_newObj_type ?_ (by size_fits)
  simp only [raiseNew]
  refine wpAny_bind (wpAny_handled ?_)
  rw [show A.in1.handled=none from hh]
  refine wpAny_bind (wpAny_pure (wpAny_throw ?_))
  refine wpAny_bind (wpAny_isInstance (T:="StopIteration") (b:=true) ⟨_,Heap.get?_push_size _ rfl,rfl⟩ isSubtype_stop ?_)
  exact wpAny_pure (h _ (((Heap.SameBut.update ..).extBut.push _).push _))
theorem walks_set (hh:A.handled=none) (hne:D≠I) (g:Goes w L t) :
    Walks prog w A I [I,D] [I] L.length (fun i v=>∃ e,(outs w D ep L)[i]?=some e/\v=e.2) (fun i h=>h.get? I=some (iterObj w t D L.length ep i)/\h.get? D=some (setObj L ep t)) where
  sub:=fun b hb=>by simp at hb;simp [hb]
  frame:=fun _ _ _ st hk=>⟨hk I (by simp) _ st.1,hk D (by simp) _ st.2⟩
  item:=fun i s Q E hi st hQ=>by
    have hlt:i < (outs w D ep L).size:=by rw [outs_size];exact hi
    refine next_item st.1 st.2 g hi (Array.getElem?_eq_getElem hlt) fun h' hs hI'=>?_
    exact hQ _ h' s.toks ⟨_,Array.getElem?_eq_getElem hlt,rfl⟩ ⟨hI',(hs.2 D hne).trans st.2⟩ fun b o hb e=>(hs.2 b (fun z=>hb (by simp [z]))).trans e
  done:=fun s Q E st hQ=>next_done hh st.1 st.2 g fun h' he=>hQ h' s.toks fun b o hb e=>he b o (fun z=>hb (by simp [z])) e
  self:=fun i s Q E st hQ=>by
    have hT:s.TypeIs (.ref I) "set_iterator":=⟨_,st.1,rfl⟩
    refine wpAny_pyIter_slot hT slot_sit_iter (wpAny_call_entry slot_sit_iter hT entry_sit_iter ?_ (args_sit_iter _))
    show wpAny _ _ (ret (.ref I)) _ _ s
    exact wpAny_pure ⟨_,rfl,"set_iterator",_,hT,slot_sit_next.lookup,hQ⟩
end
end Tb
namespace Tb
open PySem PySem.Spec PySem.SetTable
section
variable {prog:Program} {w:World} {A:Around} {E:Value->Shared->Prop} {s:Shared} {D I:Addr} {L:List Ent} {ep:Nat} {t:SetTable}
noncomputable abbrev nilObj:Obj:={ cls:=.type "list",data:=.seq ([]:List Value).toArray }
theorem hint_set {Q:Bool->Shared->Prop} (ho:s.heap.get? D=some (setObj L ep t)) (h:Q false s):wpAny (model prog w) A (Builtin.List.listLengthHint (.ref D)) Q E s:=by
  have hT:s.TypeIs (.ref D) "set":=⟨_,ho,rfl⟩
  unfold Builtin.List.listLengthHint
  refine wpAny_bind (wpAny_specialOf hT F.slot_set_len.lookup ?_)
  have e1:splitId "set.__len__"=some ("set","__len__"):=by kernel_rfl
  simp only [e1]
  refine wpAny_bind (wpAny_isInstance hT sub_set_self ?_)
  simp only [Bool.not_true,Bool.false_eq_true,if_false]
  have pick:∀ {c:Bool} {x y:Sem Bool},c=true->wpAny (model prog w) A x Q E s->wpAny (model prog w) A (if c=true then x else y) Q E s:=fun {c x y} hc hy=>by rw [hc];exact hy
  refine pick (by decide +kernel) ?_
  refine wpAny_bind (wpAny_typeOf hT ?_)
  exact wpAny_pure h
theorem collect_set {Q:List Value->Shared->Prop} (hh:A.handled=none) (ho:s.heap.get? D=some (setObj L ep t)) (g:Goes w L t) (hn:L.length<=4900)
    (hQ:∀ h' tk,(∀ b o,s.heap.get? b=some o->h'.get? b=some o)->s.heap.objs.size<=h'.objs.size->Q ((outs w D ep L).toList.map (·.2)) { s with heap:=h',toks:=tk }):wpAny (model prog w) A (collect (.ref D)) Q E s:=by
  have hDlt:D < s.heap.objs.size:=Heap.lt_size ho
  unfold collect
  refine wpAny_bind (wpAny_runValue (codeAny_builtin F.entry_proto_collect ?_))
  rw [Around.under_plainId F.plain_proto_collect _]
  show wpAny _ A.in1 (newList [] >>= fun l=>again (.builtin "list.__iadd__" ⟨[l,.ref D],[]⟩)) _ _ s
  refine wpAny_bind (wpAny_newObj_type ?_)
  refine wpAny_pure ⟨plainId_quiet F.plain_list_iadd _,codeAny_builtin F.entry_list_iadd ?_⟩
  rw [Around.under_plainId F.plain_list_iadd _]
  have p1:∀ b o,s.heap.get? b=some o->(s.heap.push nilObj).get? b=some o:=fun b o e=>Heap.get?_push_of_some _ e
  have hD1:(s.heap.push nilObj).get? D=some (setObj L ep t):=p1 _ _ ho
  have hS1:(s.heap.push nilObj).get? s.heap.objs.size=some nilObj:=Heap.get?_push_size _ rfl
  show wpAny _ A.in1 (Builtin.List.listExtendWith (.ref s.heap.objs.size) (.ref D) (.ref s.heap.objs.size)) _ _ _
  unfold Builtin.List.listExtendWith
  have hT:Shared.TypeIs { s with heap:=s.heap.push nilObj } (.ref D) "set":=⟨_,hD1,rfl⟩
  refine wpAny_bind (wpAny_typeOf hT ?_)
  have k1:Builtin.List.listSameRef (.ref s.heap.objs.size) (.ref D)=false:=by simp [Builtin.List.listSameRef];exact Nat.ne_of_gt hDlt
  have k2:(Value.type "set" == Value.type "list")=false:=by decide
  have k3:(Value.type "set" == Value.type "tuple")=false:=by decide
  simp only [k1,k2,k3,Bool.or_self,Bool.false_eq_true,if_false]
  refine wpAny_bind (iter_set hD1 g ?_)
  have p2:∀ b o,(s.heap.push nilObj).get? b=some o->((s.heap.push nilObj).push (iterObj w t D L.length ep 0)).get? b=some o:=fun b o e=>Heap.get?_push_of_some _ e
  have hD2:=p2 _ _ hD1
  have hS2:=p2 _ _ hS1
  have hI2:((s.heap.push nilObj).push (iterObj w t D L.length ep 0)).get? (s.heap.push nilObj).objs.size=some (iterObj w t D L.length ep 0):=Heap.get?_push_size _ rfl
  have hIsz:(s.heap.push nilObj).objs.size=s.heap.objs.size + 1:=Heap.size_push ..
  refine wpAny_bind (wpAny_holding (hint_set hD2 ?_))
  have pick:∀ {c:Bool} {x y:Sem PySem.Fin} {R:PySem.Fin->Shared->Prop} {F':Value->Shared->Prop} {s':Shared},c=true->wpAny (model prog w) A.in1 x R F' s'->wpAny (model prog w) A.in1 (if c=true then x else y) R F' s':=fun {c x y R F' s'} hc hy=>by rw [hc];exact hy
  refine pick (by decide +kernel) ?_
  refine wpAny_bind (wpAny_rule ?_)
  refine wpAny_bind ?_
  show wpAny _ A.in1 (updateSeq s.heap.objs.size (·.push .none) >>= fun _=>updateSeq s.heap.objs.size (·.pop)) _ _ _
  refine wpAny_bind (wpAny_updateSeq hS2 rfl ?_)
  have hS3:=Heap.get?_update_self (Obj.mapSeq (·.push Value.none)) hS2 rfl
  refine wpAny_updateSeq hS3 rfl ?_
  have hS4:=Heap.get?_update_self (Obj.mapSeq (·.pop)) hS3 rfl
  generalize hH:(((s.heap.push nilObj).push (iterObj w t D L.length ep 0)).update s.heap.objs.size (Obj.mapSeq (·.push Value.none))).update s.heap.objs.size (Obj.mapSeq (·.pop))=H at hS4
  have oth:∀ b o,b≠s.heap.objs.size->((s.heap.push nilObj).push (iterObj w t D L.length ep 0)).get? b=some o->H.get? b=some o:=fun b o hb e=>by
    rw [<- hH];exact (Heap.get?_update_other _ _ (Ne.symm hb)).trans ((Heap.get?_update_other _ _ (Ne.symm hb)).trans e)
  have W:=(walks_set (prog:=prog) (w:=w) (A:=A.in1) (D:=D) (I:=(s.heap.push nilObj).objs.size) (ep:=ep) (by simpa using hh) (by rw [hIsz];exact Nat.ne_of_lt (Nat.lt_succ_of_lt hDlt)) g).toS
  have hSf:s.heap.objs.size∉[(s.heap.push nilObj).objs.size,D]:=by
    simp only [List.mem_cons,List.not_mem_nil,or_false,not_or]
    exact ⟨by rw [hIsz];exact Nat.ne_of_lt (Nat.lt_succ_self _),Nat.ne_of_gt hDlt⟩
  refine wpAny_pure ⟨plainId_quiet F.plain_extend_loop _,codeAny_extend_loopS W (by rw [sizeLine_eq];lia) s.heap.objs.size hSf _ L.length 0 _ _ _ rfl (Nat.zero_le _) ⟨oth _ _ (by rw [hIsz];exact Nat.succ_ne_self _) hI2,oth _ _ (Nat.ne_of_lt hDlt) hD2⟩ hS4 (ItemsOf.nil _) fun s' acc c hm hS' hacc=>?_⟩
  show wpAny _ A (load s.heap.objs.size >>= _) _ _ s'
  refine wpAny_bind (wpAny_load hS' ?_)
  have hacc':acc.toList=(outs w D ep L).toList.map (·.2):=by
    apply List.ext_getElem?
    intro i
    rw [List.getElem?_map,Array.getElem?_toList,Array.getElem?_toList]
    cases e:acc[i]? with
    | some v =>
      obtain ⟨x,hx,rfl⟩:=hacc.2 i v e
      rw [hx];rfl
    | none =>
      have:acc.size<=i:=by simpa using e
      rw [hacc.1] at this
      rw [Array.getElem?_eq_none (by rw [outs_size];exact this)];rfl
  obtain ⟨h',g',d',tk',os'⟩:=s'
  have eg:g'=s.gens:=hm.gens
  have ed:d'=s.drawn:=hm.drawn
  have eo:os'=s.os:=hm.os
  subst eg ed eo
  show wpAny _ _ (pure acc.toList) _ _ _
  rw [hacc']
  refine wpAny_pure (hQ h' tk' (fun b o e=>hm.heap b o ?_ (oth b o (Nat.ne_of_lt (Heap.lt_size e)) (p2 _ _ (p1 _ _ e)))) (Nat.le_of_lt (Heap.lt_size hS')))
  simp only [List.mem_cons,List.not_mem_nil,or_false,not_or]
  exact ⟨Nat.ne_of_lt (Heap.lt_size e),by rw [hIsz];exact Nat.ne_of_lt (Nat.lt_succ_of_lt (Heap.lt_size e))⟩
end
end Tb
namespace Tb
open PySem PySem.Spec PySem.SetTable
section
variable {prog:Program} {w:World} {A:Around} {E:Value->Shared->Prop} {s:Shared}
end
end Tb
namespace Tb
open PySem PySem.Spec PySem.SetTable
section
variable {prog:Program} {w:World} {U:Addr->List Int->Prop} {A:Around} {E:Value->Shared->Prop} {s:Shared}
end
end Tb
namespace Tb
open PySem PySem.Spec PySem.SetTable
section
variable {prog:Program} {w:World} {U:Addr->List Int->Prop} {A:Around} {E:Value->Shared->Prop} {s:Shared}
end
end Tb
namespace Tb
open PySem PySem.Spec PySem.SetTable
section
variable {prog:Program} {w:World} {U:Addr->List Int->Prop} {A:Around} {E:Value->Shared->Prop} {s:Shared}
end
end Tb
namespace Tb
open PySem PySem.Spec PySem.SetTable
section
variable {prog:Program} {w:World} {U:Addr->List Int->Prop} {A:Around} {E:Value->Shared->Prop} {s:Shared}
end
end Tb
namespace Tb
open PySem PySem.Spec PySem.SetTable
section
variable {prog:Program} {w:World} {U:Addr->List Int->Prop} {A:Around} {E:Value->Shared->Prop} {s:Shared}
end
end Tb
namespace So
open PySem PySem.W PyProof.Rows
noncomputable def Sp (lt:Nat->Nat->Bool) (n:Nat) {α:Type}:KasT α->(α->Prop)->Prop
  | .ret a,Q=>Q a
  | .ask i j k,Q=>i < n/\j < n/\Sp lt n (k (lt i j)) Q
section
variable {lt:Nat->Nat->Bool} {n:Nat} {α β:Type}
structure Ar (n:Nat) (p:Array Nat):Prop where
  sz:p.size=n
  lt:∀ i,p.getD i 0 < n
  pm:p.toList.Perm (List.range n)
noncomputable def Up (lt:Nat->Nat->Bool) (p:Array Nat) (m:Nat):Prop:=∀ i j,i < j->j < m->lt (p.getD j 0) (p.getD i 0)=false
noncomputable def Dn (lt:Nat->Nat->Bool) (p:Array Nat) (m:Nat):Prop:=∀ i j,i < j->j < m->lt (p.getD i 0) (p.getD j 0)=false
structure Ord (lt:Nat->Nat->Bool):Prop where
  tr:∀ a b c,lt b a=false->lt c b=false->lt c a=false
  as:∀ a b,lt a b=true->lt b a=false
noncomputable def Bl (lt:Nat->Nat->Bool) (p:Array Nat) (m q:Nat):Prop:=q + 1<=m/\∀ i j,m<=i + (q + 1)->i < m->m<=j + (q + 1)->j < m->lt (p.getD i 0) (p.getD j 0)=false
theorem irr (O:Ord lt) (a:Nat):lt a a=false:=by
  cases h:lt a a with
  | false=>rfl
  | true=>have:=O.as a a h;rw [h] at this;cases this
end
end So
namespace So
open PySem PySem.W PyProof.Rows PySem.Calls
noncomputable def ltK:List Int->List Int->Bool
  | [],[]=>false
  | [],_::_=>true
  | _::_,[]=>false
  | a::as,b::bs=>if a=b then ltK as bs else decide (a < b)
theorem ltK_as:∀ a b:List Int,ltK a b=true->ltK b a=false
  | [],[],h=>by cases h
  | [],_::_,h=>rfl
  | _::_,[],h=>by cases h
  | a::as,b::bs,h=>by
    unfold ltK at h ⊢
    by_cases c:a=b
    . subst c;simp only [if_true] at h ⊢;exact ltK_as as bs h
    . rw [if_neg c] at h
      rw [if_neg (Ne.symm c)]
      have:=of_decide_eq_true h
      exact decide_eq_false (by lia)
theorem ltK_tr:∀ a b c:List Int,ltK b a=false->ltK c b=false->ltK c a=false
  | [],[],[],_,_=>rfl
  | [],[],_::_,_,_=>rfl
  | [],_::_,[],_,h=>by cases h
  | [],_::_,_::_,_,_=>rfl
  | _::_,[],_,h,_=>by cases h
  | a::as,b::bs,[],_,h=>by cases h
  | a::as,b::bs,c::cs,h1,h2=>by
    unfold ltK at h1 h2 ⊢
    by_cases e1:b=a
    . subst e1
      simp only [if_true] at h1
      by_cases e2:c=b
      . subst e2;simp only [if_true] at h2 ⊢;exact ltK_tr as bs cs h1 h2
      . rw [if_neg e2] at h2 ⊢;exact h2
    . rw [if_neg e1] at h1
      have g1:=of_decide_eq_false h1
      by_cases e2:c=b
      . subst e2;rw [if_neg e1];exact h1
      . rw [if_neg e2] at h2
        have g2:=of_decide_eq_false h2
        rw [if_neg (by lia)]
        exact decide_eq_false (by lia)
theorem ltK_eq:∀ a b:List Int,ltK a b=false->ltK b a=false->a=b
  | [],[],_,_=>rfl
  | [],_::_,h,_=>by cases h
  | _::_,[],_,h=>by cases h
  | a::as,b::bs,h1,h2=>by
    unfold ltK at h1 h2
    by_cases c:a=b
    . subst c;simp only [if_true] at h1 h2;rw [ltK_eq as bs h1 h2]
    . rw [if_neg c] at h1;rw [if_neg (Ne.symm c)] at h2
      have:=of_decide_eq_false h1;have:=of_decide_eq_false h2;lia
theorem ord_of (kss:List (List Int)):Ord fun i j=>ltK (kss.getD i []) (kss.getD j []):=⟨fun a b c h1 h2=>ltK_tr _ _ _ h1 h2,fun a b h=>ltK_as _ _ h⟩
end So
namespace So
open PySem PySem.W PyProof.Rows PySem.Calls
section
variable {prog:Program} {w:World} {A:Around} {E:Value->Shared->Prop} {s:Shared}
noncomputable def Asks (prog:Program) (w:World) (A:Around) (κ:SortKind) (vs:List Value) (lt:Nat->Nat->Bool) (s:Shared):Prop :=
  ∀ i j (C:Bool->Shared->Prop) (E:Value->Shared->Prop),i < vs.length->j < vs.length->C (lt i j) s->wpAny (model prog w) A (keyLt' κ (vs.getD i Value.none) (vs.getD j Value.none)) C E s
noncomputable def Sorted (lt:Nat->Nat->Bool) (vs:List Value) (st:SortSt):Prop:=∃ p:Array Nat,Ar vs.length p/\Up lt p vs.length/\(arrOf st).map (·.2)=List.toArray (p.toList.map fun i=>vs.getD i Value.none)/\failedOf st=none
theorem lex_ints {b:Bool} {Q:Bool->Shared->Prop}:∀ {ks js:List Int} {xs ys:List Value} (i:Nat),ItemsAre (intKind prog w) ks xs->ItemsAre (intKind prog w) js ys->Q (ltK ks js) s ->
    KatLex prog w A b (decide (xs.length < ys.length)) Q (xs.zip ys) i s:=by
  have gen:∀ (d:Bool) {ks js:List Int} {xs ys:List Value} (i:Nat),ItemsAre (intKind prog w) ks xs->ItemsAre (intKind prog w) js ys->d=decide (xs.length < ys.length)->Q (ltK ks js) s->KatLex prog w A b d Q (xs.zip ys) i s:=by
    intro d ks
    induction ks with
    | nil =>
      intro js xs ys i hx hy hd hq
      cases hx
      cases hy with
      | nil=>subst hd;exact kat_nil hq
      | cons h1 h2=>subst hd;exact kat_nil hq
    | cons k ks ih =>
      intro js xs ys i hx hy hd hq
      cases hx with
      | cons h1 h2 =>
        cases hy with
        | nil=>subst hd;exact kat_nil hq
        | @cons j v js vs h3 h4 =>
          obtain ⟨t,rfl⟩:=Value.isInt_shape h1
          obtain ⟨u,rfl⟩:=Value.isInt_shape h3
          refine kat_cons (wpAny_eqBool_int ?_)
          by_cases e:k=j
          . subst e
            rw [show (k == k)=true from by simp]
            refine kat_yes (ih (i + 1) h2 h4 (by rw [hd];simp) ?_)
            unfold ltK at hq;rw [if_pos rfl] at hq;exact hq
          . rw [show (k == j)=false from by simp [e]]
            unfold ltK at hq;rw [if_neg e] at hq
            refine kat_no ?_
            cases (b && i == 0) with
            | true=>exact oneLt_int hq
            | false=>exact kat_one _ _ (wpAny_lt_int hq)
  intro ks js xs ys i hx hy hq
  exact gen _ i hx hy rfl hq
theorem lt_keys {a b:Addr} {ks js:List Int} {f:Bool} {Q:Bool->Shared->Prop} (ha:IsTupleKey (intKind prog w) s.heap ks a) (hb:IsTupleKey (intKind prog w) s.heap js b) (hq:Q (ltK ks js) s) :
    wpAny (model prog w) A (keyLt' (tuples' f) (.ref a) (.ref b)) Q E s:=by
  obtain ⟨o,xs,n,h1,h2,h3,h4⟩:=ha
  obtain ⟨o',ys,n',h1',h2',h3',h4'⟩:=hb
  refine kat_lt h1 h3 h1' h3' ?_
  have:=lex_ints (prog:=prog) (w:=w) (A:=A) (b:=f) 0 h4 h4' hq
  simpa using this
noncomputable def KeysAre (prog:Program) (w:World) (h:Heap) (vs:List Value) (kss:List (List Int)):Prop :=
  kss.length=vs.length/\∀ (i:Nat) v,vs[i]?=some v->∃ b,v=.ref b/\IsTupleKey (intKind prog w) h (kss.getD i []) b
theorem KeysAre.moved {h h':Heap} {vs:List Value} {kss:List (List Int)} (k:KeysAre prog w h vs kss) (hm:∀ b o,h.get? b=some o->o.cls=.type "tuple"->h'.get? b=some o):KeysAre prog w h' vs kss :=
  ⟨k.1,fun i v hv=>let ⟨b,e,o,its,m,q1,q2,q3,q4⟩:=k.2 i v hv;⟨b,e,o,its,m,hm _ _ q1 q2,q2,q3,q4⟩⟩
theorem KeysAre.asks {f:Bool} {vs:List Value} {kss:List (List Int)} (k:KeysAre prog w s.heap vs kss):Asks prog w A (tuples' f) vs (fun i j=>ltK (kss.getD i []) (kss.getD j [])) s:=by
  intro i j C E hi hj hC
  obtain ⟨b,e,hb⟩:=k.2 i vs[i] (List.getElem?_eq_getElem hi)
  obtain ⟨b',e',hb'⟩:=k.2 j vs[j] (List.getElem?_eq_getElem hj)
  rw [show vs.getD i Value.none=.ref b by simp [hi,e],show vs.getD j Value.none=.ref b' by simp [hj,e']]
  exact lt_keys hb hb' hC
theorem KeysAre.tups {h:Heap}:∀ {vs:List Value} {kss:List (List Int)},KeysAre prog w h vs kss->(∀ ks∈kss,ks≠[])->∃ fs:List Value,KatTups h vs fs/\fs.length=vs.length/\∀ v∈fs,∃ i t,v=.int i t
  | [],kss,k,hn=>⟨[],.nil,rfl,fun v hv=>by cases hv⟩
  | v::vs,[],k,hn=>by cases k.1
  | v::vs,ks::kss,k,hn=>by
    obtain ⟨fs,t,l,e⟩:=KeysAre.tups (vs:=vs) (kss:=kss) ⟨by have:=k.1;simpa using this,fun i u hu=>by have:=k.2 (i + 1) u (by simpa using hu);simpa using this⟩ fun x hx=>hn x (.tail _ hx)
    obtain ⟨b,rfl,o,its,m,q1,q2,q3,q4⟩:=k.2 0 v (by simp)
    have hne:=hn ks (.head _)
    simp at q4
    generalize hits:its.toList=L at q4
    cases q4 with
    | nil=>exact absurd rfl hne
    | @cons i v' ks' vs' h1 h2 =>
      obtain ⟨tk,rfl⟩:=Value.isInt_shape h1
      have h0:its[0]?=some (Value.int i tk):=by rw [<- Array.getElem?_toList,hits];rfl
      refine ⟨.int i tk::fs,.cons q1 q2 q3 h0 t,by simp [l],fun u hu=>?_⟩
      rcases List.mem_cons.mp hu with rfl|hu
      . exact ⟨_,_,rfl⟩
      . exact e u hu
noncomputable def leK (a b:List Int):Prop:=ltK b a=false
noncomputable def insK (x:List Int):List (List Int)->List (List Int)
  | []=>[x]
  | y::ys=>if ltK y x=true then y::insK x ys else x::y::ys
noncomputable def sortK (l:List (List Int)):List (List Int):=l.foldr insK []
theorem insK_perm (x:List Int):∀ l,(insK x l).Perm (x::l)
  | []=>.refl _
  | y::ys=>by
    unfold insK
    split
    . exact ((insK_perm x ys).cons y).trans (List.Perm.swap x y ys)
    . exact .refl _
theorem sortK_perm:∀ l,(sortK l).Perm l
  | []=>.refl _
  | x::l=>(insK_perm x (sortK l)).trans ((sortK_perm l).cons x)
theorem insK_pw (x:List Int):∀ l,l.Pairwise leK->(insK x l).Pairwise leK
  | [],_=>by simp [insK]
  | y::ys,h=>by
    obtain ⟨h1,h2⟩:=List.pairwise_cons.mp h
    unfold insK
    split
    . rename_i c
      refine List.pairwise_cons.mpr ⟨fun z hz=>?_,insK_pw x ys h2⟩
      rcases List.mem_cons.mp ((insK_perm x ys).mem_iff.mp hz) with rfl|hz
      . exact ltK_as _ _ c
      . exact h1 z hz
    . rename_i c
      have c':ltK y x=false:=by simpa using c
      refine List.pairwise_cons.mpr ⟨fun z hz=>?_,h⟩
      rcases List.mem_cons.mp hz with rfl|hz
      . exact c'
      . exact ltK_tr _ _ _ c' (h1 z hz)
theorem sortK_pw:∀ l,(sortK l).Pairwise leK
  | []=>.nil
  | x::l=>insK_pw x _ (sortK_pw l)
theorem sort_uniq:∀ {l l':List (List Int)},l.Perm l'->l.Pairwise leK->l'.Pairwise leK->l=l'
  | [],l',p,_,_=>(List.nil_perm.mp p).symm
  | x::l,[],p,_,_=>by cases List.perm_nil.mp p
  | x::l,y::l',p,h,h'=>by
    obtain ⟨h1,h2⟩:=List.pairwise_cons.mp h
    obtain ⟨h1',h2'⟩:=List.pairwise_cons.mp h'
    have e:x=y:=by
      have m1:=List.mem_cons.mp (p.mem_iff.mp (List.mem_cons_self (a:=x) (l:=l)))
      have m2:=List.mem_cons.mp (p.mem_iff.mpr (List.mem_cons_self (a:=y) (l:=l')))
      rcases m1 with m1|m1
      . exact m1
      . rcases m2 with m2|m2
        . exact m2.symm
        . exact ltK_eq _ _ (h1' x m1) (h1 y m2)
    subst e
    rw [sort_uniq (p.cons_inv) h2 h2']
theorem sortK_of {l l':List (List Int)} (p:l.Perm l') (h:l.Pairwise leK):l=sortK l':=sort_uniq (p.trans (sortK_perm l').symm) h (sortK_pw l')
noncomputable def SortP (kss:List (List Int)) (p:Array Nat):Prop:=p.toList.Perm (List.range kss.length)/\(p.toList.map fun i=>kss.getD i [])=sortK kss
theorem sortP_of {kss:List (List Int)} {p:Array Nat} (a:Ar kss.length p) (u:Up (fun i j=>ltK (kss.getD i []) (kss.getD j [])) p kss.length):SortP kss p:=by
  refine ⟨a.pm,sortK_of ?_ ?_⟩
  . have:=a.pm.map fun i=>kss.getD i []
    refine this.trans (List.Perm.of_eq ?_)
    apply List.ext_getElem
    . simp
    . intro i h1 h2;simp at h1;simp [h1]
  . rw [List.pairwise_iff_getElem]
    intro i j hi hj hij
    simp only [List.length_map,Array.length_toList] at hi hj
    have:=u i j hij (by rw [<- a.sz];exact hj)
    simp only [List.getElem_map,Array.getElem_toList]
    unfold leK
    rw [Array.getD_eq_getD_getElem?,Array.getD_eq_getD_getElem?,Array.getElem?_eq_getElem hi,Array.getElem?_eq_getElem hj] at this
    exact this
theorem sortP_small {kss:List (List Int)} (h:kss.length < 2):SortP kss (List.toArray (List.range kss.length)):=by
  refine ⟨.refl _,sortK_of ?_ ?_⟩
  . refine List.Perm.of_eq ?_
    apply List.ext_getElem
    . simp
    . intro i h1 h2;simp at h1;simp [h1]
  . rw [List.pairwise_iff_getElem]
    intro i j hi hj hij
    simp at hi hj;lia
end
end So
namespace Sb
open PySem PySem.W PyProof.Rows
section
variable {prog:Program} {w:World} {A:Around} {E:Value->Shared->Prop} {s:Shared} {a₀ x0:Array Keyed} {κ:SortKind} {rk:Keyed->Int} {lo:Nat} {p0:Array (Nat×Nat×Nat)}
noncomputable def Ax (prog:Program) (w:World) (A:Around) (s:Shared) (κ:SortKind) (rk:Keyed->Int) (a₀:Array Keyed):Prop :=
  ∀ x y (C:Bool->Shared->Prop) (E:Value->Shared->Prop),x∈a₀.toList->y∈a₀.toList->C (decide (rk x < rk y)) s->wpAny (model prog w) A (keyLt' κ x.1 y.1) C E s
noncomputable def R (rk:Keyed->Int) (xs:Array Keyed) (i:Nat):Int:=match xs[i]? with|some p=>rk p|none=>0
theorem R_congr {xs ys:Array Keyed} {i j:Nat} (h:xs[i]?=ys[j]?):R rk xs i=R rk ys j:=by unfold R;rw [h]
theorem R_at {xs:Array Keyed} {i:Nat} {x:Keyed} (h:xs[i]?=some x):R rk xs i=rk x:=by unfold R;rw [h]
noncomputable def Up (rk:Keyed->Int) (xs:Array Keyed) (lo n:Nat):Prop:=∀ i j,i<=j->j < n->R rk xs (lo + i)<=R rk xs (lo + j)
noncomputable def Dn (rk:Keyed->Int) (xs:Array Keyed) (lo n:Nat):Prop:=∀ i j,i<=j->j < n->R rk xs (lo + j)<=R rk xs (lo + i)
structure SB (κ:SortKind) (a₀ x0:Array Keyed) (p0:Array (Nat×Nat×Nat)) (lo:Nat) (st:SortSt):Prop where
  perm:(arrOf st).Perm a₀
  kind:kindOf st=κ
  failed:failedOf st=none
  pend:pendingOf st=p0
  keep:∀ k,k < lo->(arrOf st)[k]?=x0[k]?
theorem SB.size {st:SortSt} (h:SB κ a₀ x0 p0 lo st):(arrOf st).size=a₀.size:=h.perm.size_eq
theorem SB.setArr {st:SortSt} (h:SB κ a₀ x0 p0 lo st) {xs:Array Keyed} (hp:xs.Perm (arrOf st)) (hk:∀ k,k < lo->xs[k]?=(arrOf st)[k]?):SB κ a₀ x0 p0 lo (setArr st xs) :=
  ⟨hp.trans h.perm,h.kind,h.failed,h.pend,fun k hl=>(hk k hl).trans (h.keep k hl)⟩
theorem mem_of {xs:Array Keyed} (hp:xs.Perm a₀) {i:Nat} {x:Keyed} (h:xs[i]?=some x):x∈a₀.toList:=by
  obtain ⟨hi,rfl⟩:=Array.getElem?_eq_some_iff.mp h
  exact (Array.perm_iff_toList_perm.mp hp).mem_iff.mp (by simp)
theorem wpS_elem {st:SortSt} {xs:Array Keyed} {i:Nat} {x:Keyed} {Q:Keyed->SortSt->Prop} (h:xs[i]?=some x) (hq:Q x st):wpS (model prog w) A E s (elem' xs i) Q st:=by
  rw [elem'_eq,h];exact wpS_pure hq
theorem wpS_lt {st:SortSt} {x y:Keyed} {Q:Option Bool->SortSt->Prop} (ha:Ax prog w A s κ rk a₀) (hk:kindOf st=κ) (hx:x∈a₀.toList) (hy:y∈a₀.toList) (h:Q (some (decide (rk x < rk y))) st) :
    wpS (model prog w) A E s (lt' x y) Q st:=by
  rw [lt'_eq]
  refine wpS_bind (wpS_get ?_)
  rw [hk]
  refine wpS_bind (wpS_lift (wpAny_attempt (ha x y _ _ hx hy ⟨rfl,?_⟩)))
  exact wpS_pure h
theorem wpS_ltR {st:SortSt} {i j:Nat} {Q:Option Bool->SortSt->Prop} (ha:Ax prog w A s κ rk a₀) (hB:SB κ a₀ x0 p0 lo st) (hi:i < a₀.size) (hj:j < a₀.size)
    (h:Q (some (decide (R rk (arrOf st) i < R rk (arrOf st) j))) st):wpS (model prog w) A E s (ltAt' i j) Q st:=by
  have e1:(arrOf st)[i]?=some ((arrOf st)[i]'(by rw [hB.size];exact hi)):=getElem?_pos _ i _
  have e2:(arrOf st)[j]?=some ((arrOf st)[j]'(by rw [hB.size];exact hj)):=getElem?_pos _ j _
  rw [R_at e1,R_at e2] at h
  rw [ltAt'_eq]
  refine wpS_bind (wpS_get ?_)
  exact wpS_bind (wpS_elem e1 (wpS_bind (wpS_elem e2 (wpS_lt ha hB.kind (mem_of hB.perm e1) (mem_of hB.perm e2) h))))
theorem wpS_rev {st:SortSt} {i j:Nat} {Q:Unit->SortSt->Prop} (h:Q () (setArr st (mirror (arrOf st) i j ((j - i) / 2)))) :
    wpS (model prog w) A E s (reverseSlice' i j) Q st:=by
  rw [reverseSlice'_eq];exact wpS_modify h
theorem R_mirror {xs:Array Keyed} {i j:Nat} (hj:j<=xs.size) (k:Nat) :
    R rk (mirror xs i j ((j - i) / 2)) k=if i<=k/\k < j then R rk xs (i + j - 1 - k) else R rk xs k:=by
  have e:=getElem?_mirror_all (i:=i) hj k
  by_cases h1:i<=k/\k < j
  . rw [if_pos h1] at e ⊢;exact R_congr e
  . rw [if_neg h1] at e ⊢;exact R_congr e
theorem R_mirror_equal {xs:Array Keyed} {i j:Nat} (hj:j<=xs.size) (heq:∀ k,i<=k->k < j->R rk xs k=R rk xs (j - 1)) (k:Nat) :
    R rk (mirror xs i j ((j - i) / 2)) k=R rk xs k:=by
  rw [R_mirror hj]
  split
  . rw [heq _ (by lia) (by lia),heq k (by lia) (by lia)]
  . rfl
theorem SB.rev {st:SortSt} (h:SB κ a₀ x0 p0 lo st) {i j:Nat} (hi:lo<=i) (hj:j<=a₀.size):SB κ a₀ x0 p0 lo (PyProof.Rows.setArr st (mirror (arrOf st) i j ((j - i) / 2))) :=
  h.setArr (mirror_perm _ _ _ _) fun k hk=>by rw [getElem?_mirror_all (by rw [h.size];exact hj),if_neg (by lia)]
noncomputable def ascL (lo a nrem:Nat):StateT SortSt Sem AscSt :=
  forIn [a:nrem] ((none,a):AscSt) fun _ __s=>do
    let __x <- ltAt' (lo + __s.snd) (lo + __s.snd - 1)
    match __x with
    | some smaller=>if smaller=true then pure (ForInStep.done (none,__s.snd)) else pure (ForInStep.yield (none,__s.snd + 1))
    | _=>pure (ForInStep.done (some none,__s.snd))
noncomputable def tailL (lo n nrem:Nat):StateT SortSt Sem (Option Nat):=do
  reverseSlice' lo (lo + n)
  let __s <- ascL lo n nrem
  match __s.fst with
  | some r=>pure r
  | none=>pure (some __s.snd)
noncomputable def descL (lo n nrem:Nat):StateT SortSt Sem DescSt :=
  forIn [n:nrem] ((none,n,0):DescSt) fun _ __s=>do
    let __x <- ltAt' (lo + __s.snd.fst) (lo + __s.snd.fst - 1)
    match __x with
    | some smaller =>
      if smaller=true then
        if __s.snd.snd > 0 then do
          reverseSlice' (lo + __s.snd.fst - (__s.snd.snd + 1)) (lo + __s.snd.fst)
          pure (ForInStep.yield (none,__s.snd.fst + 1,0))
        else pure (ForInStep.yield (none,__s.snd.fst + 1,0))
      else do
        let __x <- ltAt' (lo + __s.snd.fst - 1) (lo + __s.snd.fst)
        match __x with
        | some larger =>
          if larger=true then pure (ForInStep.done (none,__s.snd.fst,__s.snd.snd))
          else pure (ForInStep.yield (none,__s.snd.fst + 1,__s.snd.snd + 1))
        | _=>pure (ForInStep.done (some none,__s.snd.fst,__s.snd.snd))
    | _=>pure (ForInStep.done (some none,__s.snd.fst,__s.snd.snd))
noncomputable def partL (lo n nrem:Nat):StateT SortSt Sem (Option Nat):=do
  liftM (rule "list.sort.descending-run")
  let __s <- descL lo (n + 1) nrem
  match __s.fst with
  | some r=>pure r
  | none =>
    if __s.snd.snd > 0 then do
      reverseSlice' (lo + __s.snd.fst - (__s.snd.snd + 1)) (lo + __s.snd.fst)
      tailL lo __s.snd.fst nrem
    else tailL lo __s.snd.fst nrem
theorem count_eq (lo nrem:Nat):countRun' lo nrem=(do
    let __s <- ascL lo 1 nrem
    match __s.fst with
    | some r=>pure r
    | none =>
      if (__s.snd == nrem)=true then pure (some __s.snd)
      else if __s.snd > 1 then do
        let __x <- ltAt' lo (lo + __s.snd - 1)
        match __x with
        | some rose=>if rose=true then pure (some __s.snd) else do
            reverseSlice' lo (lo + __s.snd)
            partL lo __s.snd nrem
        | _=>pure none
      else partL lo __s.snd nrem):=by
  rw [countRun'_eq]
  unfold partL tailL descL ascL
  dsimp only
  congr 1
  funext __s
  obtain ⟨r,n⟩:=__s
  cases r with
  | some r=>rfl
  | none =>
    dsimp only
    split
    . rfl
    . split
      . congr 1
        funext x
        cases x with
        | none=>rfl
        | some rose =>
          dsimp only
          split
          . rfl
          . congr 1
            funext _r
            congr 1;funext _u;congr 1;congr 1;funext s2;obtain ⟨r2,n2,q2⟩:=s2;cases r2 with
            | some r2=>rfl
            | none =>
              dsimp only;split
              . congr 1;funext _v;congr 1;funext _w;congr 1;funext s3;obtain ⟨r3,n3⟩:=s3;cases r3 <;> rfl
              . congr 1;funext _w;congr 1;funext s3;obtain ⟨r3,n3⟩:=s3;cases r3 <;> rfl
      . congr 1;funext _u;congr 1;congr 1;funext s2;obtain ⟨r2,n2,q2⟩:=s2;cases r2 with
        | some r2=>rfl
        | none =>
          dsimp only;split
          . congr 1;funext _v;congr 1;funext _w;congr 1;funext s3;obtain ⟨r3,n3⟩:=s3;cases r3 <;> rfl
          . congr 1;funext _w;congr 1;funext s3;obtain ⟨r3,n3⟩:=s3;cases r3 <;> rfl
end
end Sb
namespace Sb
open PySem PySem.W PyProof.Rows
section
variable {prog:Program} {w:World} {A:Around} {E:Value->Shared->Prop} {s:Shared} {a₀ x0:Array Keyed} {κ:SortKind} {rk:Keyed->Int} {lo:Nat} {p0:Array (Nat×Nat×Nat)}
theorem wpS_asc {st:SortSt} {a nrem:Nat} {Q:AscSt->SortSt->Prop} (h0:Ax prog w A s κ rk a₀) (hn:lo + nrem<=a₀.size) (ha:1<=a) (han:a<=nrem) (hB:SB κ a₀ x0 p0 lo st)
    (hs:Up rk (arrOf st) lo a)
    (h:∀ n,a<=n->n<=nrem->Up rk (arrOf st) lo n->(n=nrem∨R rk (arrOf st) (lo + n) < R rk (arrOf st) (lo + (n - 1)))->Q (none,n) st) :
    wpS (model prog w) A E s (ascL lo a nrem) Q st:=by
  unfold ascL
  refine wpS_forRange (I:=fun x c st'=>st'=st/\c=(none,x)/\Up rk (arrOf st) lo x) ?step ?fin ⟨rfl,rfl,hs⟩
  case fin =>
    rintro c st' ⟨rfl,rfl,hs'⟩
    rw [show max a nrem=nrem by lia] at hs' ⊢
    exact h nrem han (Nat.le_refl _) hs' (.inl rfl)
  case step =>
    rintro x c st' hax hxn ⟨rfl,rfl,hs'⟩
    dsimp only
    rw [show lo + x - 1=lo + (x - 1) by lia]
    refine wpS_bind (wpS_ltR h0 hB (by lia) (by lia) ?_)
    by_cases hless:R rk (arrOf st') (lo + x) < R rk (arrOf st') (lo + (x - 1))
    . simp only [hless,decide_true,if_true]
      exact wpS_pure (h x hax (by lia) hs' (.inr hless))
    . simp only [hless,decide_false,Bool.false_eq_true,if_false]
      refine wpS_pure ⟨rfl,rfl,fun i j hij hj=>?_⟩
      by_cases hjx:j < x
      . exact hs' i j hij hjx
      . have hj':j=x:=by lia
        subst hj'
        by_cases hi':i=j
        . subst hi';exact Int.le_refl _
        . exact Int.le_trans (hs' i (j - 1) (by lia) (by lia)) (Int.not_lt.mp hless)
theorem wpS_tailL {st:SortSt} {n nrem:Nat} {Q:Option Nat->SortSt->Prop} (h0:Ax prog w A s κ rk a₀) (hn:lo + nrem<=a₀.size) (h1:1<=n) (hnn:n<=nrem) (hB:SB κ a₀ x0 p0 lo st)
    (hs:Dn rk (arrOf st) lo n) (h:∀ m st',SB κ a₀ x0 p0 lo st'->1<=m->m<=nrem->Up rk (arrOf st') lo m->Q (some m) st') :
    wpS (model prog w) A E s (tailL lo n nrem) Q st:=by
  unfold tailL
  have hsz:lo + n<=(arrOf st).size:=by rw [hB.size];lia
  refine wpS_bind (wpS_rev ?_)
  have hB':SB κ a₀ x0 p0 lo (setArr st (mirror (arrOf st) lo (lo + n) ((lo + n - lo) / 2))):=hB.rev (Nat.le_refl _) (by lia)
  refine wpS_bind (wpS_asc h0 hn h1 hnn hB' ?_ fun m hm1 hm2 hsm _=>wpS_pure (h m _ hB' (by lia) hm2 hsm))
  intro i j hij hj
  show R rk (mirror (arrOf st) lo (lo + n) ((lo + n - lo) / 2)) (lo + i)<=R rk (mirror (arrOf st) lo (lo + n) ((lo + n - lo) / 2)) (lo + j)
  rw [R_mirror hsz,R_mirror hsz,if_pos (by lia),if_pos (by lia)]
  have:=hs (n - 1 - j) (n - 1 - i) (by lia) (by lia)
  rw [show lo + (lo + n) - 1 - (lo + i)=lo + (n - 1 - i) by lia,show lo + (lo + n) - 1 - (lo + j)=lo + (n - 1 - j) by lia]
  exact this
theorem wpS_desc {st:SortSt} {n nrem:Nat} {Q:DescSt->SortSt->Prop} (h0:Ax prog w A s κ rk a₀) (hn:lo + nrem<=a₀.size) (h1:1<=n) (hnn:n<=nrem) (hB:SB κ a₀ x0 p0 lo st)
    (hs:Dn rk (arrOf st) lo n)
    (h:∀ m neq st',SB κ a₀ x0 p0 lo st'->n<=m->m<=nrem->Dn rk (arrOf st') lo m->neq + 1<=m->(∀ i,lo + m - (neq + 1)<=i->i < lo + m->R rk (arrOf st') i=R rk (arrOf st') (lo + m - 1))->Q (none,m,neq) st') :
    wpS (model prog w) A E s (descL lo n nrem) Q st:=by
  unfold descL
  refine wpS_forRange (I:=fun x c st'=>∃ neq,c=(none,x,neq)/\SB κ a₀ x0 p0 lo st'/\Dn rk (arrOf st') lo x/\neq + 1<=x /\
      (∀ i,lo + x - (neq + 1)<=i->i < lo + x->R rk (arrOf st') i=R rk (arrOf st') (lo + x - 1))) ?step ?fin ⟨0,rfl,hB,hs,by lia,fun i h1 h2=>by congr 1;lia⟩
  case fin =>
    rintro c st' ⟨neq,rfl,hB',hs',hq,he⟩
    rw [show max n nrem=nrem by lia] at hs' hq he ⊢
    exact h nrem neq st' hB' hnn (Nat.le_refl _) hs' hq he
  case step =>
    rintro x c st' hax hxn ⟨neq,rfl,hB',hs',hq,he⟩
    dsimp only
    have hsz:lo + x<=(arrOf st').size:=by rw [hB'.size];lia
    have e1:lo + x - 1=lo + (x - 1):=by lia
    refine wpS_bind (wpS_ltR h0 hB' (by lia) (by lia) ?_)
    by_cases hless:R rk (arrOf st') (lo + x) < R rk (arrOf st') (lo + x - 1)
    . simp only [hless,decide_true,if_true]
      rw [e1] at hless
      have step1:∀ xs:Array Keyed,(∀ k,R rk xs k=R rk (arrOf st') k)->Dn rk xs lo (x + 1):=by
        intro xs hk i j hij hj
        rw [hk,hk]
        by_cases hjx:j < x
        . exact hs' i j hij hjx
        . have hj':j=x:=by lia
          subst hj'
          by_cases hi':i=j
          . subst hi';exact Int.le_refl _
          . exact Int.le_trans (Int.le_of_lt hless) (hs' i (j - 1) (by lia) (by lia))
      by_cases hneq:neq > 0
      . rw [if_pos hneq]
        refine wpS_bind (wpS_rev (wpS_pure ⟨0,rfl,hB'.rev (by lia) (by lia),step1 _ (R_mirror_equal hsz he),by lia,fun i h1 h2=>by congr 1;lia⟩))
      . rw [if_neg hneq]
        exact wpS_pure ⟨0,rfl,hB',step1 _ (fun _=>rfl),by lia,fun i h1 h2=>by congr 1;lia⟩
    . simp only [hless,decide_false,Bool.false_eq_true,if_false]
      refine wpS_bind (wpS_ltR h0 hB' (by lia) (by lia) ?_)
      by_cases hlarger:R rk (arrOf st') (lo + x - 1) < R rk (arrOf st') (lo + x)
      . simp only [hlarger,decide_true,if_true]
        exact wpS_pure (h x neq st' hB' hax (by lia) hs' hq he)
      . simp only [hlarger,decide_false,Bool.false_eq_true,if_false]
        have heqx:R rk (arrOf st') (lo + x)=R rk (arrOf st') (lo + x - 1):=by lia
        refine wpS_pure ⟨neq + 1,rfl,hB',fun i j hij hj=>?_,by lia,fun i h1 h2=>?_⟩
        . by_cases hjx:j < x
          . exact hs' i j hij hjx
          . have hj':j=x:=by lia
            subst hj'
            by_cases hi':i=j
            . subst hi';exact Int.le_refl _
            . rw [heqx,e1];exact hs' i (j - 1) (by lia) (by lia)
        . rw [show lo + (x + 1) - 1=lo + x by lia]
          by_cases hix:i=lo + x
          . subst hix;rfl
          . rw [heqx];exact he i (by lia) (by lia)
theorem wpS_partL {st:SortSt} {n nrem:Nat} {Q:Option Nat->SortSt->Prop} (h0:Ax prog w A s κ rk a₀) (hn:lo + nrem<=a₀.size) (hnn:n + 1<=nrem) (hB:SB κ a₀ x0 p0 lo st)
    (hs:Dn rk (arrOf st) lo (n + 1)) (h:∀ m st',SB κ a₀ x0 p0 lo st'->1<=m->m<=nrem->Up rk (arrOf st') lo m->Q (some m) st') :
    wpS (model prog w) A E s (partL lo n nrem) Q st:=by
  unfold partL
  refine wpS_bind (wpS_lift (wpAny_rule ⟨rfl,?_⟩))
  refine wpS_bind (wpS_desc h0 hn (by lia) hnn hB hs fun m neq st' hB' hm1 hm2 hs' hq he=>?_)
  dsimp only
  have hsz:lo + m<=(arrOf st').size:=by rw [hB'.size];lia
  by_cases hneq:neq > 0
  . rw [if_pos hneq]
    refine wpS_bind (wpS_rev (wpS_tailL h0 hn (by lia) hm2 (hB'.rev (by lia) (by lia)) ?_ h))
    intro i j hij hj
    show R rk (mirror (arrOf st') _ _ _) _<=R rk (mirror (arrOf st') _ _ _) _
    rw [R_mirror_equal hsz he,R_mirror_equal hsz he]
    exact hs' i j hij hj
  . rw [if_neg hneq]
    exact wpS_tailL h0 hn (by lia) hm2 hB' hs' h
theorem wpS_count {st:SortSt} {nrem:Nat} {Q:Option Nat->SortSt->Prop} (h0:Ax prog w A s κ rk a₀) (hn:lo + nrem<=a₀.size) (h1:1<=nrem) (hB:SB κ a₀ x0 p0 lo st)
    (h:∀ m st',SB κ a₀ x0 p0 lo st'->1<=m->m<=nrem->Up rk (arrOf st') lo m->Q (some m) st') :
    wpS (model prog w) A E s (countRun' lo nrem) Q st:=by
  rw [count_eq]
  refine wpS_bind (wpS_asc h0 hn (Nat.le_refl 1) h1 hB (fun i j hij hj=>by have e:i=j:=by { lia };subst e;exact Int.le_refl _) fun n hn1 hn2 hsn hor=>?_)
  dsimp only
  by_cases hnn:n=nrem
  . rw [if_pos (by simpa using hnn)]
    exact wpS_pure (h n st hB hn1 hn2 hsn)
  . rw [if_neg (by simpa using hnn)]
    have hlt:R rk (arrOf st) (lo + n) < R rk (arrOf st) (lo + (n - 1)):=hor.resolve_left hnn
    by_cases hgt:n > 1
    . rw [if_pos hgt,show lo + n - 1=lo + (n - 1) by lia]
      refine wpS_bind (wpS_ltR h0 hB (by lia) (by lia) ?_)
      by_cases hrose:R rk (arrOf st) lo < R rk (arrOf st) (lo + (n - 1))
      . simp only [hrose,decide_true,if_true]
        exact wpS_pure (h n st hB hn1 hn2 hsn)
      . simp only [hrose,decide_false,Bool.false_eq_true,if_false]
        have hsz:lo + n<=(arrOf st).size:=by rw [hB.size];lia
        have hall':∀ k,k < n->R rk (arrOf st) (lo + k)=R rk (arrOf st) (lo + (n - 1)):=by
          intro k hk
          have a1:=hsn 0 k (by lia) hk
          have a2:=hsn k (n - 1) (by lia) (by lia)
          rw [Nat.add_zero] at a1
          lia
        have hall:∀ k,lo<=k->k < lo + n->R rk (arrOf st) k=R rk (arrOf st) (lo + n - 1):=fun k k1 k2=>by
          have:=hall' (k - lo) (by lia)
          rw [show lo + (k - lo)=k by lia] at this
          rw [this];congr 1;lia
        refine wpS_bind (wpS_rev (wpS_partL h0 hn (by lia) (hB.rev (Nat.le_refl _) (by lia)) ?_ h))
        intro i j hij hj
        show R rk (mirror (arrOf st) _ _ _) _<=R rk (mirror (arrOf st) _ _ _) _
        rw [R_mirror_equal hsz hall,R_mirror_equal hsz hall]
        by_cases hjn:j < n
        . rw [hall' i (by lia),hall' j hjn];exact Int.le_refl _
        . obtain rfl:j=n:=by lia
          by_cases hi':i=j
          . subst hi';exact Int.le_refl _
          . rw [hall' i (by lia)];exact Int.le_of_lt hlt
    . rw [if_neg hgt]
      obtain rfl:n=1:=by lia
      refine wpS_partL h0 hn (by lia) hB ?_ h
      intro i j hij hj
      by_cases hi':i=j
      . subst hi';exact Int.le_refl _
      . obtain rfl:i=0:=by lia
        obtain rfl:j=1:=by lia
        exact Int.le_of_lt hlt
theorem R_bubble {xs:Array Keyed} {src d:Nat} (hs:src < xs.size) (hd:d<=src) (k:Nat) :
    R rk (bubble xs src d) k=if k=src - d then R rk xs src else if src - d < k/\k<=src then R rk xs (k - 1) else R rk xs k:=by
  have e:=getElem?_bubble hs d hd k
  by_cases h1:k=src - d
  . rw [if_pos h1] at e ⊢;exact R_congr e
  . rw [if_neg h1] at e ⊢
    by_cases h2:src - d < k/\k<=src
    . rw [if_pos h2] at e ⊢;exact R_congr e
    . rw [if_neg h2] at e ⊢;exact R_congr e
theorem wpS_bin {st:SortSt} {n ok:Nat} {Q:Bool->SortSt->Prop} (h0:Ax prog w A s κ rk a₀) (hn:lo + n<=a₀.size) (hok:ok<=n) (hB:SB κ a₀ x0 p0 lo st) (hs:Up rk (arrOf st) lo ok)
    (h:∀ st',SB κ a₀ x0 p0 lo st'->Up rk (arrOf st') lo n->Q true st'):wpS (model prog w) A E s (binarySort' lo n ok) Q st:=by
  rw [binarySort'_eq]
  refine wpS_bind (wpS_mono (wpS_forRange (I:=fun k c st'=>c=(none,())/\SB κ a₀ x0 p0 lo st'/\Up rk (arrOf st') lo (min k n))
    (Q:=fun c st'=>c=(none,())/\SB κ a₀ x0 p0 lo st'/\Up rk (arrOf st') lo n) ?step ?fin ?init) ?post)
  case post =>
    rintro c st' ⟨rfl,hB',hs'⟩
    exact wpS_pure (h st' hB' hs')
  case init =>
    refine ⟨rfl,hB,fun i j hij hj=>?_⟩
    by_cases h1:ok=0
    . obtain rfl:i=j:=by lia
      exact Int.le_refl _
    . exact hs i j hij (by lia)
  case fin =>
    rintro c st' ⟨hc,hB',hs'⟩
    refine ⟨hc,hB',?_⟩
    rwa [show min (max (max ok 1) n) n=n by lia] at hs'
  case step =>
    rintro k c st' hak hkn ⟨rfl,hB',hs'⟩
    rw [show min k n=k by lia] at hs'
    have hk:lo + k < a₀.size:=by lia
    refine wpS_bind (wpS_mono (wpS_forRange (I:=fun x c st''=>st''=st'/\∃ l r,c=(none,l,r)/\l<=r/\r<=k/\r - l<=k - x /\
        (∀ i,i < l->R rk (arrOf st') (lo + i)<=R rk (arrOf st') (lo + k))/\(∀ i,r<=i->i < k->R rk (arrOf st') (lo + k) < R rk (arrOf st') (lo + i)))
      (Q:=fun c st''=>st''=st'/\∃ l r,c=(none,l,r)/\l<=k /\
        (∀ i,i < l->R rk (arrOf st') (lo + i)<=R rk (arrOf st') (lo + k))/\(∀ i,l<=i->i < k->R rk (arrOf st') (lo + k) < R rk (arrOf st') (lo + i))) ?istep ?ifin ?iinit) ?ipost)
    case iinit=>exact ⟨rfl,0,k,rfl,by lia,by lia,by lia,fun i hi=>by lia,fun i h1 h2=>by lia⟩
    case ifin =>
      rintro c st'' ⟨rfl,l,r,rfl,hlr,hrk,hm,hlo,hhi⟩
      obtain rfl:l=r:=by lia
      exact ⟨rfl,l,l,rfl,hrk,hlo,hhi⟩
    case istep =>
      rintro x c st'' _ hxk ⟨rfl,l,r,rfl,hlr,hrk,hm,hlo,hhi⟩
      dsimp only
      by_cases hge:l ≥ r
      . rw [if_pos hge]
        obtain rfl:l=r:=by lia
        exact wpS_pure ⟨rfl,l,l,rfl,hrk,hlo,hhi⟩
      . rw [if_neg hge]
        refine wpS_bind (wpS_ltR h0 hB' hk (by lia) ?_)
        by_cases hless:R rk (arrOf st'') (lo + k) < R rk (arrOf st'') (lo + (l + r) / 2)
        . simp only [hless,decide_true,if_true]
          refine wpS_pure ⟨rfl,l,(l + r) / 2,rfl,by lia,by lia,by lia,hlo,fun i h1 h2=>?_⟩
          exact Int.lt_of_lt_of_le hless (hs' _ _ h1 h2)
        . simp only [hless,decide_false,Bool.false_eq_true,if_false]
          refine wpS_pure ⟨rfl,(l + r) / 2 + 1,r,rfl,by lia,by lia,by lia,fun i h1=>?_,hhi⟩
          exact Int.le_trans (hs' i ((l + r) / 2) (by lia) (by lia)) (Int.not_lt.mp hless)
    case ipost =>
      rintro c st'' ⟨rfl,l,r,rfl,hlk,hlo,hhi⟩
      show wpS _ _ _ _ (do moveDown' (lo + k) (lo + l);pure (ForInStep.yield (none,()))) _ _
      rw [moveDown'_eq]
      have hks:lo + k < (arrOf st'').size:=by rw [hB'.size];exact hk
      refine wpS_bind (wpS_modify (wpS_pure ⟨rfl,hB'.setArr (bubble_perm _ _ _) (fun q hq=>?_),?_⟩))
      . rw [getElem?_bubble hks _ (by lia),if_neg (by lia),if_neg (by lia)]
      rw [show min (k + 1) n=k + 1 by lia]
      intro i j hij hj
      show R rk (bubble (arrOf st'') (lo + k) (lo + k - (lo + l))) (lo + i)<=R rk (bubble (arrOf st'') (lo + k) (lo + k - (lo + l))) (lo + j)
      rw [R_bubble hks (by lia),R_bubble hks (by lia),show lo + k - (lo + k - (lo + l))=lo + l by lia]
      have pre:∀ q,lo + l < lo + q->lo + q - 1=lo + (q - 1):=fun q hq=>by lia
      repeat' split
      all_goals first
        | (exfalso;lia)
        | exact Int.le_refl _
        | exact hlo _ (by lia)
        | (rw [pre _ (by lia)];exact Int.le_of_lt (hhi _ (by lia) (by lia)))
        | exact hs' _ _ (by lia) (by lia)
        | (rw [pre _ (by lia)];exact hs' _ _ (by lia) (by lia))
        | (rw [pre _ (by lia),pre _ (by lia)];exact hs' _ _ (by lia) (by lia))
end
end Sb
namespace Sb
open PySem PySem.W PyProof.Rows
noncomputable def gallop':Bool->Keyed->Array Keyed->Nat->Nat->Nat->StateT SortSt Sem (Option Nat):=sortPriv% PySem.Builtin.gallop
noncomputable def bey (left:Bool) (key:Keyed) (arr:Array Keyed) (base i:Nat):StateT SortSt Sem (Option Bool):=do
  let x <- elem' arr (base + i)
  if left then lt' x key else return (<- lt' key x).map (!·)
theorem gallop'_eq (left:Bool) (key:Keyed) (arr:Array Keyed) (base n hint:Nat):gallop' left key arr base n hint=(do
  let mut lastofs:=0
  let mut ofs:=1
  let mut lo:=0
  let mut hi:=0
  let some right <- bey left key arr base hint|return none
  if right then
    let maxofs:=n - hint
    for _ in [0:n] do
      if ofs ≥ maxofs then break
      let some more <- bey left key arr base (hint + ofs)|return none
      if !more then break
      lastofs:=ofs
      ofs:=2 * ofs + 1
    lo:=hint + lastofs + 1
    hi:=hint + min ofs maxofs
  else
    let maxofs:=hint + 1
    for _ in [0:n] do
      if ofs ≥ maxofs then break
      let some found <- bey left key arr base (hint - ofs)|return none
      if found then break
      lastofs:=ofs
      ofs:=2 * ofs + 1
    lo:=hint + 1 - min ofs maxofs
    hi:=hint - lastofs
  for _ in [0:n] do
    if lo ≥ hi then break
    let m:=lo + (hi - lo) / 2
    let some more <- bey left key arr base m|return none
    if more then lo:=m + 1 else hi:=m
  return some hi):=rfl
section
variable {prog:Program} {w:World} {A:Around} {E:Value->Shared->Prop} {s:Shared} {a₀ x0:Array Keyed} {κ:SortKind} {rk:Keyed->Int} {lo:Nat} {p0:Array (Nat×Nat×Nat)}
noncomputable def bp (rk:Keyed->Int) (left:Bool) (key:Keyed) (arr:Array Keyed) (base i:Nat):Bool:=if left then decide (R rk arr (base + i) < rk key) else decide (R rk arr (base + i)<=rk key)
theorem wpS_bey {st:SortSt} {left:Bool} {key:Keyed} {arr:Array Keyed} {base i:Nat} {Q:Option Bool->SortSt->Prop} (h0:Ax prog w A s κ rk a₀) (hk:kindOf st=κ) (hm:key∈a₀.toList) (ha:∀ x∈arr.toList,x∈a₀.toList) (hi:base + i < arr.size)
    (h:Q (some (bp rk left key arr base i)) st):wpS (model prog w) A E s (bey left key arr base i) Q st:=by
  have e:arr[base + i]?=some arr[base + i]:=getElem?_pos arr _ hi
  have hx:arr[base + i]∈a₀.toList:=ha _ (by simp)
  unfold bp at h
  rw [R_at e] at h
  unfold bey
  refine wpS_bind (wpS_elem e ?_)
  cases left with
  | true=>simp only [if_true] at h ⊢;exact wpS_lt h0 hk hx hm h
  | false =>
    simp only [Bool.false_eq_true,if_false] at h ⊢
    refine wpS_bind (wpS_lt h0 hk hm hx (wpS_pure ?_))
    have:(some (decide (rk key < rk arr[base + i]))).map (!·)=some (decide (rk arr[base + i]<=rk key)):=by
      simp only [Option.map_some,<- decide_not,Int.not_lt]
    rw [this];exact h
theorem bp_mono {left:Bool} {key:Keyed} {arr:Array Keyed} {base n:Nat} (hu:Up rk arr base n) {i j:Nat} (hij:i<=j) (hj:j < n) (h:bp rk left key arr base j=true):bp rk left key arr base i=true:=by
  have:=hu i j hij hj
  unfold bp at h ⊢
  cases left <;> simp at h ⊢ <;> lia
theorem wpS_gallop {st:SortSt} {left:Bool} {key:Keyed} {arr:Array Keyed} {base n hint:Nat} {Q:Option Nat->SortSt->Prop} (h0:Ax prog w A s κ rk a₀) (hk:kindOf st=κ) (hm:key∈a₀.toList) (ha:∀ x∈arr.toList,x∈a₀.toList)
    (hb:base + n<=arr.size) (hh:hint < n) (hu:Up rk arr base n)
    (h:∀ k,k<=n->(∀ i,i < k->bp rk left key arr base i=true)->(∀ i,k<=i->i < n->bp rk left key arr base i=false)->Q (some k) st) :
    wpS (model prog w) A E s (gallop' left key arr base n hint) Q st:=by
  have mono:=fun {i j:Nat} (hij:i<=j) (hj:j < n)=>bp_mono (left:=left) (key:=key) hu hij hj
  have monoF:∀ {i j:Nat},i<=j->j < n->bp rk left key arr base i=false->bp rk left key arr base j=false:=fun {i j} hij hj hf=>by
    cases c:bp rk left key arr base j with
    | false=>rfl
    | true=>rw [mono hij hj c] at hf;cases hf
  have last:∀ (l0 h0':Nat),l0<=h0'->h0'<=n->(∀ i,i < l0->bp rk left key arr base i=true)->(∀ i,h0'<=i->i < n->bp rk left key arr base i=false) ->
      ∀ (f:Nat->Option (Option Nat)×Nat×Nat->StateT SortSt Sem (ForInStep (Option (Option Nat)×Nat×Nat))) (k:Option (Option Nat)×Nat×Nat->StateT SortSt Sem (Option Nat)),
      (∀ x l hi,f x (none,l,hi)=if l ≥ hi then pure (ForInStep.done (none,l,hi)) else do
        let __x <- bey left key arr base (l + (hi - l) / 2)
        match __x with
        | some more=>if more=true then pure (ForInStep.yield (none,l + (hi - l) / 2 + 1,hi)) else pure (ForInStep.yield (none,l,l + (hi - l) / 2))
        | _=>pure (ForInStep.done (some none,l,hi)))->(∀ l hi,k (none,l,hi)=pure (some hi)) ->
      wpS (model prog w) A E s (do let r <- forIn [0:n] (none,l0,h0') f;k r) Q st:=by
    intro l0 h0' hlh hhn hlo hhi f k hf hkk
    refine wpS_bind (wpS_mono (wpS_forRange (I:=fun x c st'=>st'=st/\∃ l r,c=(none,l,r)/\l<=r/\r<=n/\r - l<=n - x/\(∀ i,i < l->bp rk left key arr base i=true)/\(∀ i,r<=i->i < n->bp rk left key arr base i=false))
      (Q:=fun c st'=>st'=st/\∃ r,c=(none,r,r)/\r<=n/\(∀ i,i < r->bp rk left key arr base i=true)/\(∀ i,r<=i->i < n->bp rk left key arr base i=false)) ?step ?fin ⟨rfl,l0,h0',rfl,hlh,hhn,by lia,hlo,hhi⟩) ?post)
    case post =>
      rintro c st' ⟨rfl,r,rfl,h1,h2,h3⟩
      rw [hkk]
      exact wpS_pure (h r h1 h2 h3)
    case fin =>
      rintro c st' ⟨rfl,l,r,rfl,h1,h2,h3,h4,h5⟩
      obtain rfl:l=r:=by lia
      exact ⟨rfl,l,rfl,h2,h4,h5⟩
    case step =>
      rintro x c st' _ hx ⟨rfl,l,r,rfl,h1,h2,h3,h4,h5⟩
      rw [hf]
      by_cases hge:l ≥ r
      . rw [if_pos hge]
        obtain rfl:l=r:=by lia
        exact wpS_pure ⟨rfl,l,rfl,h2,h4,h5⟩
      . rw [if_neg hge]
        refine wpS_bind (wpS_bey h0 hk hm ha (by lia) ?_)
        cases c:bp rk left key arr base (l + (r - l) / 2) with
        | true =>
          simp only [if_true]
          exact wpS_pure ⟨rfl,_,r,rfl,by lia,h2,by lia,fun i hi=>mono (show i<=l + (r - l) / 2 by lia) (by lia) c,h5⟩
        | false =>
          simp only [Bool.false_eq_true,if_false]
          exact wpS_pure ⟨rfl,l,_,rfl,by lia,by lia,by lia,h4,fun i h6 h7=>monoF h6 h7 c⟩
  rw [gallop'_eq]
  dsimp only
  refine wpS_bind (wpS_bey h0 hk hm ha (by lia) ?_)
  cases c:bp rk left key arr base hint with
  | true =>
    simp only [if_true]
    refine wpS_bind (wpS_mono (wpS_forRange (I:=fun x c st'=>st'=st/\∃ lf of_,c=(none,lf,of_)/\x + 1<=of_/\lf < of_/\hint + lf < n/\bp rk left key arr base (hint + lf)=true)
      (Q:=fun c st'=>st'=st/\∃ lf of_,c=(none,lf,of_)/\lf < of_/\hint + lf < n/\bp rk left key arr base (hint + lf)=true/\(n - hint<=of_∨(hint + of_ < n/\bp rk left key arr base (hint + of_)=false))) ?step ?fin ⟨rfl,0,1,rfl,by lia,by lia,by lia,c⟩) ?post)
    case post =>
      rintro c st' ⟨rfl,lf,of_,rfl,h1,h2,h3,h4⟩
      refine last (hint + lf + 1) (hint + min of_ (n - hint)) (by lia) (by lia) (fun i hi=>mono (show i<=hint + lf by lia) h2 h3) (fun i h5 h6=>?_) _ _ (fun x l hi=>rfl) (fun l hi=>rfl)
      rcases h4 with h4|⟨h7,h8⟩
      . lia
      . exact monoF (show hint + of_<=i by lia) h6 h8
    case fin =>
      rintro c st' ⟨rfl,lf,of_,rfl,h1,h2,h3,h4⟩
      exact ⟨rfl,lf,of_,rfl,h2,h3,h4,.inl (by lia)⟩
    case step =>
      rintro x c st' _ hx ⟨rfl,lf,of_,rfl,h1,h2,h3,h4⟩
      dsimp only
      by_cases hge:of_ ≥ n - hint
      . rw [if_pos hge]
        exact wpS_pure ⟨rfl,lf,of_,rfl,h2,h3,h4,.inl hge⟩
      . rw [if_neg hge]
        refine wpS_bind (wpS_bey h0 hk hm ha (by lia) ?_)
        cases d:bp rk left key arr base (hint + of_) with
        | true =>
          simp only [Bool.not_true,Bool.false_eq_true,if_false]
          exact wpS_pure ⟨rfl,of_,2 * of_ + 1,rfl,by lia,by lia,by lia,d⟩
        | false =>
          simp only [Bool.not_false,if_true]
          exact wpS_pure ⟨rfl,lf,of_,rfl,h2,h3,h4,.inr ⟨by lia,d⟩⟩
  | false =>
    simp only [Bool.false_eq_true,if_false]
    refine wpS_bind (wpS_mono (wpS_forRange (I:=fun x c st'=>st'=st/\∃ lf of_,c=(none,lf,of_)/\x + 1<=of_/\lf < of_/\lf<=hint/\bp rk left key arr base (hint - lf)=false)
      (Q:=fun c st'=>st'=st/\∃ lf of_,c=(none,lf,of_)/\lf < of_/\lf<=hint/\bp rk left key arr base (hint - lf)=false/\(hint + 1<=of_∨(of_<=hint/\bp rk left key arr base (hint - of_)=true))) ?step ?fin ⟨rfl,0,1,rfl,by lia,by lia,by lia,c⟩) ?post)
    case post =>
      rintro c st' ⟨rfl,lf,of_,rfl,h1,h2,h3,h4⟩
      refine last (hint + 1 - min of_ (hint + 1)) (hint - lf) (by lia) (by lia) (fun i hi=>?_) (fun i h5 h6=>monoF h5 h6 h3) _ _ (fun x l hi=>rfl) (fun l hi=>rfl)
      rcases h4 with h4|⟨h7,h8⟩
      . lia
      . exact mono (show i<=hint - of_ by lia) (by lia) h8
    case fin =>
      rintro c st' ⟨rfl,lf,of_,rfl,h1,h2,h3,h4⟩
      exact ⟨rfl,lf,of_,rfl,h2,h3,h4,.inl (by lia)⟩
    case step =>
      rintro x c st' _ hx ⟨rfl,lf,of_,rfl,h1,h2,h3,h4⟩
      dsimp only
      by_cases hge:of_ ≥ hint + 1
      . rw [if_pos hge]
        exact wpS_pure ⟨rfl,lf,of_,rfl,h2,h3,h4,.inl hge⟩
      . rw [if_neg hge]
        refine wpS_bind (wpS_bey h0 hk hm ha (by lia) ?_)
        cases d:bp rk left key arr base (hint - of_) with
        | false =>
          simp only [Bool.false_eq_true,if_false]
          exact wpS_pure ⟨rfl,of_,2 * of_ + 1,rfl,by lia,by lia,by lia,d⟩
        | true =>
          simp only [if_true]
          exact wpS_pure ⟨rfl,lf,of_,rfl,h2,h3,h4,.inr ⟨by lia,d⟩⟩
end
end Sb
namespace Sb
open PySem PySem.W PyProof.Rows
noncomputable abbrev Asc (rk:Keyed->Int) (l:List Keyed):Prop:=l.Pairwise fun x y=>rk x<=rk y
structure Mg (rk:Keyed->Int) (a b out:Array Keyed) (ia ib:Nat):Prop where
  ha:ia<=a.size
  hb:ib<=b.size
  sz:out.size=ia + ib
  pm:(out.toList++(a.toList.drop ia++b.toList.drop ib)).Perm (a.toList++b.toList)
  up:Asc rk out.toList
  bd:∀ x∈out.toList,∀ y∈a.toList.drop ia++b.toList.drop ib,rk x<=rk y
noncomputable def Res (rk:Keyed->Int) (a b m:Array Keyed):Prop:=m.toList.Perm (a.toList++b.toList)/\Asc rk m.toList
section
variable {rk:Keyed->Int} {a b out:Array Keyed} {ia ib k:Nat} {x y:Keyed}
theorem ex_list (a:Array Keyed) (i j:Nat):(a.extract i j).toList=(a.toList.drop i).take (j - i):=by
  rw [Array.toList_extract,List.extract_eq_take_drop]
theorem drop_split (l:List Keyed) (i k:Nat):l.drop i=(l.drop i).take k++l.drop (i + k):=by
  rw [<- List.drop_drop,List.take_append_drop]
theorem Mg.chunkA (h:Mg rk a b out ia ib) (sa:Asc rk a.toList) (hk:ia + k<=a.size) (hc:∀ x∈(a.toList.drop ia).take k,∀ y∈b.toList.drop ib,rk x<=rk y):Mg rk a b (out++a.extract ia (ia + k)) (ia + k) ib:=by
  have e:(a.extract ia (ia + k)).toList=(a.toList.drop ia).take k:=by rw [ex_list];congr 1;lia
  have sp:=drop_split a.toList ia k
  have sd:Asc rk (a.toList.drop ia):=List.Pairwise.sublist (List.drop_sublist _ _) sa
  rw [sp] at sd
  obtain ⟨s1,s2,s3⟩:=List.pairwise_append.mp sd
  refine ⟨hk,h.hb,?_,?_,?_,?_⟩
  . rw [Array.size_append,Array.size_extract,h.sz];lia
  . rw [Array.toList_append,e]
    refine List.Perm.trans (List.Perm.of_eq ?_) h.pm
    conv=>rhs;rw [sp]
    simp only [List.append_assoc]
  . rw [Array.toList_append,e]
    refine List.pairwise_append.mpr ⟨h.up,s1,fun x hx y hy=>h.bd x hx y ?_⟩
    rw [sp];simp [hy]
  . intro x hx y hy
    rw [Array.toList_append,e] at hx
    rcases List.mem_append.mp hx with hx|hx
    . refine h.bd x hx y ?_
      rw [sp]
      rcases List.mem_append.mp hy with hy|hy
      . simp [hy]
      . simp [hy]
    . rcases List.mem_append.mp hy with hy|hy
      . exact s3 x hx y hy
      . exact hc x hx y hy
theorem Mg.swap (h:Mg rk a b out ia ib):Mg rk b a out ib ia:=by
  refine ⟨h.hb,h.ha,by rw [h.sz,Nat.add_comm],?_,h.up,fun x hx y hy=>h.bd x hx y ?_⟩
  . refine (List.Perm.append_left _ List.perm_append_comm).trans (h.pm.trans List.perm_append_comm)
  . rcases List.mem_append.mp hy with hy|hy <;> simp [hy]
theorem Mg.chunkB (h:Mg rk a b out ia ib) (sb:Asc rk b.toList) (hk:ib + k<=b.size) (hc:∀ y∈(b.toList.drop ib).take k,∀ x∈a.toList.drop ia,rk y<=rk x):Mg rk a b (out++b.extract ib (ib + k)) ia (ib + k) :=
  (h.swap.chunkA sb hk hc).swap
theorem push_ex {a:Array Keyed} {i:Nat} {x:Keyed} (h:a[i]?=some x):out.push x=out++a.extract i (i + 1):=by
  apply Array.toList_inj.mp
  rw [Array.toList_push,Array.toList_append,ex_list]
  obtain ⟨hi,rfl⟩:=Array.getElem?_eq_some_iff.mp h
  rw [List.drop_eq_getElem_cons (by simpa using hi),show i + 1 - i=1 by lia]
  simp
theorem take1 {a:Array Keyed} {i:Nat} {x z:Keyed} (h:a[i]?=some x) (hz:z∈(a.toList.drop i).take 1):z=x:=by
  obtain ⟨hi,rfl⟩:=Array.getElem?_eq_some_iff.mp h
  rw [List.drop_eq_getElem_cons (by simpa using hi)] at hz
  simpa using hz
theorem drop_ge {a:Array Keyed} {i:Nat} {x z:Keyed} (sa:Asc rk a.toList) (h:a[i]?=some x) (hz:z∈a.toList.drop i):rk x<=rk z:=by
  obtain ⟨hi,rfl⟩:=Array.getElem?_eq_some_iff.mp h
  have sd:Asc rk (a.toList.drop i):=List.Pairwise.sublist (List.drop_sublist _ _) sa
  rw [List.drop_eq_getElem_cons (by simpa using hi)] at hz sd
  rcases List.mem_cons.mp hz with rfl|hz
  . exact Int.le_refl _
  . have:=(List.pairwise_cons.mp sd).1 z hz
    simpa using this
theorem Mg.pushA (h:Mg rk a b out ia ib) (sa:Asc rk a.toList) (hx:a[ia]?=some x) (hc:∀ y∈b.toList.drop ib,rk x<=rk y):Mg rk a b (out.push x) (ia + 1) ib:=by
  rw [push_ex hx]
  obtain ⟨hi,_⟩:=Array.getElem?_eq_some_iff.mp hx
  exact h.chunkA sa (by lia) fun z hz y hy=>by rw [take1 hx hz];exact hc y hy
theorem Mg.pushB (h:Mg rk a b out ia ib) (sb:Asc rk b.toList) (hx:b[ib]?=some x) (hc:∀ y∈a.toList.drop ia,rk x<=rk y):Mg rk a b (out.push x) ia (ib + 1):=(h.swap.pushA sb hx hc).swap
theorem Mg.done (h:Mg rk a b out ia ib) (sa:Asc rk a.toList) (sb:Asc rk b.toList) (hc:∀ x∈a.toList.drop ia,∀ y∈b.toList.drop ib,rk x<=rk y):Res rk a b (out++a.extract ia a.size++b.extract ib b.size):=by
  have ha:=h.ha;have hb:=h.hb
  have h1:=h.chunkA (k:=a.size - ia) sa (by lia) fun x hx y hy=>hc x (List.mem_of_mem_take hx) y hy
  rw [show ia + (a.size - ia)=a.size by lia] at h1
  have h2:=h1.chunkB (k:=b.size - ib) sb (by lia) fun y hy x hx=>by rw [List.drop_eq_nil_of_le (by simp)] at hx;cases hx
  rw [show ib + (b.size - ib)=b.size by lia] at h2
  refine ⟨?_,h2.up⟩
  have:=h2.pm
  rw [List.drop_eq_nil_of_le (by simp),List.drop_eq_nil_of_le (by simp)] at this
  simpa using this
theorem Mg.doneB (h:Mg rk a b out ia ib) (sa:Asc rk a.toList) (sb:Asc rk b.toList) (hc:∀ y∈b.toList.drop ib,∀ x∈a.toList.drop ia,rk y<=rk x):Res rk a b (out++b.extract ib b.size++a.extract ia a.size):=by
  obtain ⟨h1,h2⟩:=h.swap.done sb sa hc
  exact ⟨h1.trans List.perm_append_comm,h2⟩
theorem mem_chunk {a:Array Keyed} {i k:Nat} {z:Keyed} (hz:z∈(a.toList.drop i).take k):∃ j,j < k/\a[i + j]?=some z:=by
  obtain ⟨j,hj⟩:=List.mem_iff_getElem?.mp hz
  have hk:j < k:=by
    rcases Nat.lt_or_ge j k with h|h
    . exact h
    . rw [List.getElem?_take_eq_none h] at hj;cases hj
  rw [List.getElem?_take_of_lt hk,List.getElem?_drop] at hj
  exact ⟨j,hk,by simpa using hj⟩
theorem mem_rest {a:Array Keyed} {i:Nat} {z:Keyed} (hz:z∈a.toList.drop i):∃ j,i + j < a.size/\a[i + j]?=some z:=by
  obtain ⟨j,hj⟩:=List.mem_iff_getElem?.mp hz
  rw [List.getElem?_drop] at hj
  have h2:a[i + j]?=some z:=by simpa using hj
  exact ⟨j,(Array.getElem?_eq_some_iff.mp h2).1,h2⟩
theorem up_of (sa:Asc rk a.toList) (i n:Nat) (h:i + n<=a.size):Up rk a i n:=by
  intro p q hpq hq
  have hp':i + p < a.size:=by lia
  have hq':i + q < a.size:=by lia
  rw [R_at (getElem?_pos a (i + p) hp'),R_at (getElem?_pos a (i + q) hq')]
  by_cases e:p=q
  . subst e;exact Int.le_refl _
  . have:=List.pairwise_iff_getElem.mp sa (i + p) (i + q) (by simpa using hp') (by simpa using hq') (by lia)
    simpa using this
end
end Sb
namespace Sb
open PySem PySem.W PyProof.Rows
noncomputable def mergeLo':Array Keyed->Array Keyed->StateT SortSt Sem (Array Keyed):=sortPriv% PySem.Builtin.mergeLo
noncomputable def setGallop (g:Nat):StateT SortSt Sem Unit:=modify fun s=>SortSt.mk' (kindOf s) (arrOf s) (pendingOf s) g (failedOf s)
theorem mergeLo'_eq (a b:Array Keyed):mergeLo' a b=(do
  rule "list.sort.merge-lo"
  let total:=a.size + b.size
  let done (out:Array Keyed) (ia ib:Nat):=out++a.extract ia a.size++b.extract ib b.size
  let lastOfA (out:Array Keyed) (ia ib:Nat):=out++b.extract ib b.size++a.extract ia a.size
  let mut out:Array Keyed:=#[<- elem' b 0]
  let mut ia:=0
  let mut ib:=1
  if ib == b.size then return done out ia ib
  if ia + 1 == a.size then return lastOfA out ia ib
  let mut minGallop:=gallopOf (<- get)
  for _ in [0:total] do
    let mut acount:=0
    let mut bcount:=0
    for _ in [0:total] do
      let some bWins <- lt' (<- elem' b ib) (<- elem' a ia)|return done out ia ib
      if bWins then
        out:=out.push (<- elem' b ib);ib:=ib + 1;bcount:=bcount + 1;acount:=0
        if ib == b.size then return done out ia ib
        if bcount ≥ minGallop then break
      else
        out:=out.push (<- elem' a ia);ia:=ia + 1;acount:=acount + 1;bcount:=0
        if ia + 1 == a.size then return lastOfA out ia ib
        if acount ≥ minGallop then break
    rule "list.sort.gallop"
    minGallop:=minGallop + 1
    for _ in [0:total] do
      if minGallop > 1 then minGallop:=minGallop - 1
      setGallop minGallop
      let some k <- gallop' false (<- elem' b ib) a ia (a.size - ia) 0|return done out ia ib
      acount:=k
      if k > 0 then
        out:=out++a.extract ia (ia + k);ia:=ia + k
        if ia + 1 == a.size then return lastOfA out ia ib
        if ia == a.size then return done out ia ib
      out:=out.push (<- elem' b ib);ib:=ib + 1
      if ib == b.size then return done out ia ib
      let some k <- gallop' true (<- elem' a ia) b ib (b.size - ib) 0|return done out ia ib
      bcount:=k
      if k > 0 then
        out:=out++b.extract ib (ib + k);ib:=ib + k
        if ib == b.size then return done out ia ib
      out:=out.push (<- elem' a ia);ia:=ia + 1
      if ia + 1 == a.size then return lastOfA out ia ib
      if acount < 7 && bcount < 7 then break
    minGallop:=minGallop + 1
    setGallop minGallop
  unsupported "internal:list.sort.merge-bound"):=rfl
noncomputable abbrev LoS:=Option (Array Keyed)×Array Keyed×Nat×Nat×Nat×Nat×Nat
noncomputable def loEnd (a b out:Array Keyed) (ia ib mg ac bc:Nat):StateT SortSt Sem (ForInStep LoS):=do
  let x <- elem' a ia
  if (ia + 1 + 1 == a.size)=true then pure (.done (some (out.push x++b.extract ib b.size++a.extract (ia + 1) a.size),out.push x,ia + 1,ib,mg,ac,bc))
  else if (decide (ac < 7) && decide (bc < 7))=true then pure (.done (none,out.push x,ia + 1,ib,mg,ac,bc))
  else pure (.yield (none,out.push x,ia + 1,ib,mg,ac,bc))
noncomputable def loTail (a b out:Array Keyed) (ia ib mg ac bc:Nat):StateT SortSt Sem (ForInStep LoS):=do
  let y <- elem' b ib
  if (ib + 1 == b.size)=true then pure (.done (some (out.push y++a.extract ia a.size++b.extract (ib + 1) b.size),out.push y,ia,ib + 1,mg,ac,bc))
  else do
    let x <- elem' a ia
    let __x <- gallop' true x b (ib + 1) (b.size - (ib + 1)) 0
    match __x with
    | some k =>
      if k > 0 then
        if (ib + 1 + k == b.size)=true then pure (.done (some (out.push y++b.extract (ib + 1) (ib + 1 + k)++a.extract ia a.size++b.extract (ib + 1 + k) b.size),out.push y++b.extract (ib + 1) (ib + 1 + k),ia,ib + 1 + k,mg,ac,k))
        else loEnd a b (out.push y++b.extract (ib + 1) (ib + 1 + k)) ia (ib + 1 + k) mg ac k
      else loEnd a b (out.push y) ia (ib + 1) mg ac k
    | _=>pure (.done (some (out.push y++a.extract ia a.size++b.extract (ib + 1) b.size),out.push y,ia,ib + 1,mg,ac,bc))
noncomputable def SameX (st st':SortSt):Prop:=arrOf st'=arrOf st/\kindOf st'=kindOf st/\pendingOf st'=pendingOf st/\failedOf st'=failedOf st
theorem SameX.refl (st:SortSt):SameX st st:=⟨rfl,rfl,rfl,rfl⟩
theorem SameX.trans {x y z:SortSt} (h:SameX x y) (g:SameX y z):SameX x z:=⟨g.1.trans h.1,g.2.1.trans h.2.1,g.2.2.1.trans h.2.2.1,g.2.2.2.trans h.2.2.2⟩
section
variable {prog:Program} {w:World} {A:Around} {E:Value->Shared->Prop} {s:Shared} {a₀:Array Keyed} {κ:SortKind} {rk:Keyed->Int} {a b:Array Keyed}
theorem wpS_setG {g:Nat} {Q:Unit->SortSt->Prop} {st:SortSt} (h:∀ st',SameX st st'->Q () st'):wpS (model prog w) A E s (setGallop g) Q st :=
  wpS_modify (h _ ⟨rfl,rfl,rfl,rfl⟩)
structure MIn (prog:Program) (w:World) (A:Around) (s:Shared) (κ:SortKind) (rk:Keyed->Int) (a₀ a b:Array Keyed):Prop where
  h0:Ax prog w A s κ rk a₀
  sa:Asc rk a.toList
  sb:Asc rk b.toList
  ma:∀ x∈a.toList,x∈a₀.toList
  mb:∀ x∈b.toList,x∈a₀.toList
  la:0 < a.size
  lb:0 < b.size
  lt0:R rk b 0 < R rk a 0
  last:∀ x∈b.toList,rk x<=R rk a (a.size - 1)
theorem at_mem {xs:Array Keyed} {i:Nat} {x:Keyed} (h:xs[i]?=some x):x∈xs.toList:=by
  obtain ⟨hi,rfl⟩:=Array.getElem?_eq_some_iff.mp h
  simp
theorem get_at {xs:Array Keyed} {i:Nat} (h:i < xs.size):∃ x,xs[i]?=some x:=⟨_,getElem?_pos xs i h⟩
theorem MIn.lastA (m:MIn prog w A s κ rk a₀ a b) {out:Array Keyed} {ia ib:Nat} (h:Mg rk a b out ia ib) (e:ia + 1=a.size):Res rk a b (out++b.extract ib b.size++a.extract ia a.size):=by
  refine h.doneB m.sa m.sb fun y hy x hx=>?_
  obtain ⟨x',hx'⟩:=get_at (xs:=a) (i:=ia) (by lia)
  have e1:=m.last y (List.mem_of_mem_drop hy)
  rw [show a.size - 1=ia by lia,R_at hx'] at e1
  exact Int.le_trans e1 (drop_ge m.sa hx' hx)
theorem MIn.endB (m:MIn prog w A s κ rk a₀ a b) {out:Array Keyed} {ia ib:Nat} (h:Mg rk a b out ia ib) (e:ib=b.size):Res rk a b (out++a.extract ia a.size++b.extract ib b.size):=by
  refine h.done m.sa m.sb fun x hx y hy=>?_
  subst e
  rw [List.drop_eq_nil_of_le (by simp)] at hy;cases hy
noncomputable def LoQ (rk:Keyed->Int) (a b:Array Keyed) (κ:SortKind) (st:SortSt) (n:Nat):ForInStep LoS->SortSt->Prop:=fun r st'=>SameX st st'/\match r with
  | .done c=>(∃ m,c.1=some m/\Res rk a b m)∨(c.1=none/\Mg rk a b c.2.1 c.2.2.1 c.2.2.2.1/\c.2.2.1 + 1 < a.size/\c.2.2.2.1 < b.size/\n<=c.2.1.size)
  | .yield c=>c.1=none/\Mg rk a b c.2.1 c.2.2.1 c.2.2.2.1/\c.2.2.1 + 1 < a.size/\c.2.2.2.1 < b.size/\n < c.2.1.size
theorem wpS_loEnd (m:MIn prog w A s κ rk a₀ a b) {out:Array Keyed} {ia ib mg ac bc n:Nat} {st0 st:SortSt} (hS:SameX st0 st) (h:Mg rk a b out ia ib) (h1:ia + 1 < a.size) (h2:ib < b.size) (hn:n<=out.size) (hc:∀ x y,a[ia]?=some x->y∈b.toList.drop ib->rk x<=rk y) :
    wpS (model prog w) A E s (loEnd a b out ia ib mg ac bc) (LoQ rk a b κ st0 n) st:=by
  unfold loEnd
  obtain ⟨x,hx⟩:=get_at (xs:=a) (i:=ia) (by lia)
  refine wpS_bind (wpS_elem hx ?_)
  have h':=h.pushA m.sa hx (fun y hy=>hc x y hx hy)
  have sz:n < (out.push x).size:=by rw [Array.size_push];lia
  split
  . rename_i e
    exact wpS_pure ⟨hS,.inl ⟨_,rfl,m.lastA h' (by simpa using e)⟩⟩
  . rename_i e
    have e':ia + 1 + 1 < a.size:=by
      have:¬ ia + 1 + 1=a.size:=by simpa using e
      lia
    split
    . exact wpS_pure ⟨hS,.inr ⟨rfl,h',e',h2,Nat.le_of_lt sz⟩⟩
    . exact wpS_pure ⟨hS,rfl,h',e',h2,sz⟩
theorem wpS_loTail (m:MIn prog w A s κ rk a₀ a b) {out:Array Keyed} {ia ib mg ac bc n:Nat} {st0 st:SortSt} (hk:kindOf st=κ) (hS:SameX st0 st) (h:Mg rk a b out ia ib) (h1:ia + 1 < a.size) (h2:ib < b.size) (hn:n<=out.size) (hc:∀ y x,b[ib]?=some y->x∈a.toList.drop ia->rk y<=rk x) :
    wpS (model prog w) A E s (loTail a b out ia ib mg ac bc) (LoQ rk a b κ st0 n) st:=by
  unfold loTail
  obtain ⟨y,hy⟩:=get_at (xs:=b) (i:=ib) h2
  refine wpS_bind (wpS_elem hy ?_)
  have h':=h.pushB m.sb hy (fun x hx=>hc y x hy hx)
  have sz:n < (out.push y).size:=by rw [Array.size_push];lia
  split
  . rename_i e
    exact wpS_pure ⟨hS,.inl ⟨_,rfl,m.endB h' (by simpa using e)⟩⟩
  . rename_i e
    have e':ib + 1 < b.size:=by
      have:¬ ib + 1=b.size:=by simpa using e
      lia
    obtain ⟨x,hx⟩:=get_at (xs:=a) (i:=ia) (by lia)
    refine wpS_bind (wpS_elem hx ?_)
    refine wpS_bind (wpS_gallop m.h0 hk (m.ma x (at_mem hx)) m.mb (by lia) (by lia) (up_of m.sb _ _ (by lia)) fun k k1 k2 k3=>?_)
    have chunk:∀ z∈(b.toList.drop (ib + 1)).take k,∀ v∈a.toList.drop ia,rk z<=rk v:=fun z hz v hv=>by
      obtain ⟨j,hj,ej⟩:=mem_chunk hz
      have:=k2 j hj
      unfold bp at this
      rw [R_at ej] at this
      have q:rk z < rk x:=by simpa using this
      exact Int.le_trans (Int.le_of_lt q) (drop_ge m.sa hx hv)
    have rest:∀ v,v∈b.toList.drop (ib + 1 + k)->rk x<=rk v:=fun v hv=>by
      obtain ⟨j,hj,ej⟩:=mem_rest hv
      rw [Nat.add_assoc (ib + 1) k j] at ej
      have:=k3 (k + j) (by lia) (by lia)
      unfold bp at this
      rw [R_at ej] at this
      simpa using this
    dsimp only
    split
    . rename_i kp
      have h'':=h'.chunkB m.sb (k:=k) (by lia) chunk
      have sz':n<=(out.push y++b.extract (ib + 1) (ib + 1 + k)).size:=by rw [Array.size_append];lia
      split
      . rename_i e2
        exact wpS_pure ⟨hS,.inl ⟨_,rfl,m.endB h'' (by simpa using e2)⟩⟩
      . rename_i e2
        have e2':ib + 1 + k < b.size:=by
          have:¬ ib + 1 + k=b.size:=by simpa using e2
          lia
        exact wpS_loEnd m hS h'' h1 e2' sz' fun x' v hx' hv=>by rw [hx] at hx';cases hx';exact rest v hv
    . rename_i kp
      obtain rfl:k=0:=by lia
      exact wpS_loEnd m hS h' h1 e' (Nat.le_of_lt sz) fun x' v hx' hv=>by rw [hx] at hx';cases hx';exact rest v hv
end
end Sb
namespace Sb
open PySem PySem.W PyProof.Rows
section
variable {prog:Program} {w:World} {A:Around} {E:Value->Shared->Prop} {s:Shared} {a₀:Array Keyed} {κ:SortKind} {rk:Keyed->Int} {a b:Array Keyed}
theorem Mg.nil:Mg rk a b #[] 0 0:=⟨Nat.zero_le _,Nat.zero_le _,rfl,by simp,by simp,fun x hx=>by simp at hx⟩
theorem neq_of {a b:Nat} (h:¬ (a == b)=true):a≠b:=fun e=>h (by simp [e])
theorem eq_of {a b:Nat} (h:(a == b)=true):a=b:=by simpa using h
theorem wpS_ite {α:Type} {c:Prop} [Decidable c] {t f:StateT SortSt Sem α} {Q:α->SortSt->Prop} {st:SortSt} (ht:c->wpS (model prog w) A E s t Q st) (hf:¬ c->wpS (model prog w) A E s f Q st):wpS (model prog w) A E s (if c then t else f) Q st:=by
  by_cases h:c
  . rw [if_pos h];exact ht h
  . rw [if_neg h];exact hf h
theorem wpS_loTurn (m:MIn prog w A s κ rk a₀ a b) {out:Array Keyed} {ia ib n:Nat} {st0 st:SortSt} (hk:kindOf st=κ) (hS:SameX st0 st) (h:Mg rk a b out ia ib) (h1:ia + 1 < a.size) (h2:ib < b.size) (hn:n<=out.size)
    {f:Option Nat->StateT SortSt Sem (ForInStep LoS)} {mg bc:Nat} (hf:∀ k,f (some k)=if k > 0 then
        if (ia + k + 1 == a.size)=true then pure (.done (some (out++a.extract ia (ia + k)++b.extract ib b.size++a.extract (ia + k) a.size),out++a.extract ia (ia + k),ia + k,ib,mg,k,bc))
        else if (ia + k == a.size)=true then pure (.done (some (out++a.extract ia (ia + k)++a.extract (ia + k) a.size++b.extract ib b.size),out++a.extract ia (ia + k),ia + k,ib,mg,k,bc))
        else loTail a b (out++a.extract ia (ia + k)) (ia + k) ib mg k bc
      else loTail a b out ia ib mg k bc) :
    wpS (model prog w) A E s (do let y <- elem' b ib;let r <- gallop' false y a ia (a.size - ia) 0;f r) (LoQ rk a b κ st0 n) st:=by
  obtain ⟨y,hy⟩:=get_at (xs:=b) (i:=ib) h2
  refine wpS_bind (wpS_elem hy ?_)
  refine wpS_bind (wpS_gallop m.h0 hk (m.mb y (at_mem hy)) m.ma (by lia) (by lia) (up_of m.sa _ _ (by lia)) fun k k1 k2 k3=>?_)
  rw [hf]
  have chunk:∀ z∈(a.toList.drop ia).take k,∀ v∈b.toList.drop ib,rk z<=rk v:=fun z hz v hv=>by
    obtain ⟨j,hj,ej⟩:=mem_chunk hz
    have:=k2 j hj
    unfold bp at this
    rw [R_at ej] at this
    have q:rk z<=rk y:=by simpa using this
    exact Int.le_trans q (drop_ge m.sb hy hv)
  have rest:∀ v,v∈a.toList.drop (ia + k)->rk y<=rk v:=fun v hv=>by
    obtain ⟨j,hj,ej⟩:=mem_rest hv
    rw [Nat.add_assoc ia k j] at ej
    have:=k3 (k + j) (by lia) (by lia)
    unfold bp at this
    rw [R_at ej] at this
    have q:rk y < rk v:=by simpa using this
    exact Int.le_of_lt q
  split
  . rename_i kp
    have h':=h.chunkA m.sa (k:=k) (by lia) chunk
    have sz':n<=(out++a.extract ia (ia + k)).size:=by rw [Array.size_append];lia
    split
    . rename_i e
      exact wpS_pure ⟨hS,.inl ⟨_,rfl,m.lastA h' (eq_of e)⟩⟩
    . rename_i e
      have e:=neq_of e
      split
      . rename_i e2
        refine wpS_pure ⟨hS,.inl ⟨_,rfl,h'.done m.sa m.sb fun x hx=>?_⟩⟩
        rw [eq_of e2,List.drop_eq_nil_of_le (by simp)] at hx;cases hx
      . rename_i e2
        have e2:=neq_of e2
        exact wpS_loTail m hk hS h' (by lia) h2 sz' fun y' x hy' hx=>by rw [hy] at hy';cases hy';exact rest x hx
  . rename_i kp
    obtain rfl:k=0:=by lia
    exact wpS_loTail m hk hS h h1 h2 hn fun y' x hy' hx=>by rw [hy] at hy';cases hy';exact rest x hx
theorem wpS_mergeLo (m:MIn prog w A s κ rk a₀ a b) {st:SortSt} (hk:kindOf st=κ) {Q:Array Keyed->SortSt->Prop} (h:∀ mm st',SameX st st'->Res rk a b mm->Q mm st') :
    wpS (model prog w) A E s (mergeLo' a b) Q st:=by
  rw [mergeLo'_eq]
  dsimp only
  refine wpS_bind (wpS_lift (wpAny_rule ⟨rfl,?_⟩))
  obtain ⟨y0,hy0⟩:=get_at (xs:=b) (i:=0) m.lb
  obtain ⟨x0,hx0⟩:=get_at (xs:=a) (i:=0) m.la
  refine wpS_bind (wpS_elem hy0 ?_)
  have l0:=m.lt0
  rw [R_at hy0,R_at hx0] at l0
  have M0:Mg rk a b #[y0] 0 1:=Mg.nil.pushB m.sb hy0 fun v hv=>Int.le_trans (Int.le_of_lt l0) (drop_ge m.sa hx0 hv)
  have la:=m.la
  have lb:=m.lb
  refine wpS_ite (fun e=>wpS_pure (h _ _ (.refl _) (m.endB M0 (eq_of e)))) fun e1=>?_
  have e1:=neq_of e1
  refine wpS_ite (fun e=>wpS_pure (h _ _ (.refl _) (m.lastA M0 (eq_of e)))) fun e2=>?_
  have e2:=neq_of e2
  refine wpS_bind (wpS_get ?_)
  refine wpS_bind (wpS_mono (wpS_forRange (I:=fun x c st'=>SameX st st'/\∃ out ia ib mg,c=(none,out,ia,ib,mg)/\Mg rk a b out ia ib/\ia + 1 < a.size/\ib < b.size/\x + 1<=out.size)
    (Q:=fun c st'=>SameX st st'/\∃ mm rest,c=(some mm,rest)/\Res rk a b mm) ?step ?fin ⟨.refl _,#[y0],0,1,_,rfl,M0,by lia,by lia,by simp⟩) ?post)
  case post =>
    rintro c st' ⟨hS,mm,rest,rfl,hr⟩
    exact wpS_pure (h mm st' hS hr)
  case fin =>
    rintro c st' ⟨hS,out,ia,ib,mg,rfl,hM,h1,h2,h3⟩
    have:=hM.sz
    lia
  case step =>
    rintro x c st' _ hx ⟨hS,out,ia,ib,mg,rfl,hM,h1,h2,h3⟩
    dsimp only
    refine wpS_bind (wpS_mono (wpS_forRange (I:=fun y c st''=>SameX st st''/\∃ out ia ib ac bc,c=(none,out,ia,ib,ac,bc)/\Mg rk a b out ia ib/\ia + 1 < a.size/\ib < b.size/\x + 1 + y<=out.size)
      (Q:=fun c st''=>SameX st st''/\((∃ mm rest,c=(some mm,rest)/\Res rk a b mm)∨∃ out ia ib ac bc,c=(none,out,ia,ib,ac,bc)/\Mg rk a b out ia ib/\ia + 1 < a.size/\ib < b.size/\x + 2<=out.size)) ?istep ?ifin ⟨hS,out,ia,ib,0,0,rfl,hM,h1,h2,by lia⟩) ?ipost)
    case ifin =>
      rintro c st'' ⟨hS,out,ia,ib,ac,bc,rfl,hM,h1,h2,h3⟩
      have:=hM.sz
      lia
    case istep =>
      rintro y c st'' _ hy ⟨hS,out,ia,ib,ac,bc,rfl,hM,h1,h2,h3⟩
      dsimp only
      obtain ⟨p,hp⟩:=get_at (xs:=b) (i:=ib) h2
      obtain ⟨q,hq⟩:=get_at (xs:=a) (i:=ia) (by lia)
      refine wpS_bind (wpS_elem hp (wpS_bind (wpS_elem hq (wpS_bind (wpS_lt m.h0 (hS.2.1.trans hk) (m.mb p (at_mem hp)) (m.ma q (at_mem hq)) ?_)))))
      by_cases c:rk p < rk q
      . simp only [c,decide_true,if_true]
        refine wpS_bind (wpS_elem hp ?_)
        have hM':=hM.pushB m.sb hp fun v hv=>Int.le_trans (Int.le_of_lt c) (drop_ge m.sa hq hv)
        split
        . rename_i e
          exact wpS_pure ⟨hS,.inl ⟨_,_,rfl,m.endB hM' (eq_of e)⟩⟩
        . rename_i e
          have e:=neq_of e
          split
          . exact wpS_pure ⟨hS,.inr ⟨_,_,_,_,_,rfl,hM',h1,by lia,by rw [Array.size_push];lia⟩⟩
          . exact wpS_pure ⟨hS,_,_,_,_,_,rfl,hM',h1,by lia,by rw [Array.size_push];lia⟩
      . simp only [c,decide_false,Bool.false_eq_true,if_false]
        refine wpS_bind (wpS_elem hq ?_)
        have hM':=hM.pushA m.sa hq fun v hv=>Int.le_trans (Int.not_lt.mp c) (drop_ge m.sb hp hv)
        split
        . rename_i e
          exact wpS_pure ⟨hS,.inl ⟨_,_,rfl,m.lastA hM' (eq_of e)⟩⟩
        . rename_i e
          have e:=neq_of e
          split
          . exact wpS_pure ⟨hS,.inr ⟨_,_,_,_,_,rfl,hM',by lia,h2,by rw [Array.size_push];lia⟩⟩
          . exact wpS_pure ⟨hS,_,_,_,_,_,rfl,hM',by lia,h2,by rw [Array.size_push];lia⟩
    case ipost =>
      rintro c st'' ⟨hS,⟨mm,rest,rfl,hr⟩|⟨out,ia,ib,ac,bc,rfl,hM,h1,h2,h3⟩⟩
      . exact wpS_pure ⟨hS,mm,_,rfl,hr⟩
      . dsimp only
        refine wpS_bind (wpS_lift (wpAny_rule ⟨rfl,?_⟩))
        refine wpS_bind (wpS_mono (wpS_forRange (I:=fun y c st3=>SameX st st3/\∃ out ia ib mg ac bc,c=(none,out,ia,ib,mg,ac,bc)/\Mg rk a b out ia ib/\ia + 1 < a.size/\ib < b.size/\x + 2 + y<=out.size)
          (Q:=fun c st3=>SameX st st3/\((∃ mm rest,c=(some mm,rest)/\Res rk a b mm)∨∃ out ia ib mg ac bc,c=(none,out,ia,ib,mg,ac,bc)/\Mg rk a b out ia ib/\ia + 1 < a.size/\ib < b.size/\x + 2<=out.size)) ?gstep ?gfin ⟨hS,out,ia,ib,_,ac,bc,rfl,hM,h1,h2,by lia⟩) ?gpost)
        case gfin =>
          rintro c st3 ⟨hS,out,ia,ib,mg,ac,bc,rfl,hM,h1,h2,h3⟩
          have:=hM.sz
          lia
        case gpost =>
          rintro c st3 ⟨hS,⟨mm,rest,rfl,hr⟩|⟨out,ia,ib,mg,ac,bc,rfl,hM,h1,h2,h3⟩⟩
          . exact wpS_pure ⟨hS,mm,_,rfl,hr⟩
          . dsimp only
            refine wpS_bind (wpS_setG fun st4 hS4=>?_)
            exact wpS_pure ⟨hS.trans hS4,_,_,_,_,rfl,hM,h1,h2,by lia⟩
        case gstep =>
          rintro y c st3 _ hy ⟨hS,out,ia,ib,mg,ac,bc,rfl,hM,h1,h2,h3⟩
          have cD:∀ (c:LoS) (st':SortSt),LoQ rk a b κ st (x + 2 + y) (.done c) st'->SameX st st'/\((∃ mm rest,c=(some mm,rest)/\Res rk a b mm)∨∃ out ia ib mg ac bc,c=(none,out,ia,ib,mg,ac,bc)/\Mg rk a b out ia ib/\ia + 1 < a.size/\ib < b.size/\x + 2<=out.size):=by
            rintro ⟨c1,out,ia,ib,mg,ac,bc⟩ st' ⟨hS,⟨mm,e,hr⟩|⟨e,hM,h1,h2,h3⟩⟩
            . cases e;exact ⟨hS,.inl ⟨mm,_,rfl,hr⟩⟩
            . cases e;dsimp only at h1 h2 h3;exact ⟨hS,.inr ⟨_,_,_,_,_,_,rfl,hM,h1,h2,by lia⟩⟩
          have cY:∀ (c:LoS) (st':SortSt),LoQ rk a b κ st (x + 2 + y) (.yield c) st'->SameX st st'/\∃ out ia ib mg ac bc,c=(none,out,ia,ib,mg,ac,bc)/\Mg rk a b out ia ib/\ia + 1 < a.size/\ib < b.size/\x + 2 + (y + 1)<=out.size:=by
            rintro ⟨c1,out,ia,ib,mg,ac,bc⟩ st' ⟨hS,e,hM,h1,h2,h3⟩
            cases e;dsimp only at h1 h2 h3;exact ⟨hS,_,_,_,_,_,_,rfl,hM,h1,h2,by lia⟩
          dsimp only
          refine wpS_ite (fun _=>?_) (fun _=>?_)
          . refine wpS_bind (wpS_setG fun st4 hS4=>?_)
            exact wpS_mono (wpS_loTurn m ((hS.trans hS4).2.1.trans hk) (hS.trans hS4) hM h1 h2 h3 (fun k=>rfl)) fun r st' hq=>match r,hq with|.done c,hq=>cD c st' hq|.yield c,hq=>cY c st' hq
          . refine wpS_bind (wpS_setG fun st4 hS4=>?_)
            exact wpS_mono (wpS_loTurn m ((hS.trans hS4).2.1.trans hk) (hS.trans hS4) hM h1 h2 h3 (fun k=>rfl)) fun r st' hq=>match r,hq with|.done c,hq=>cD c st' hq|.yield c,hq=>cY c st' hq
end
end Sb
namespace Sb
open PySem PySem.W PyProof.Rows
noncomputable def mergeHi':Array Keyed->Array Keyed->StateT SortSt Sem (Array Keyed):=sortPriv% PySem.Builtin.mergeHi
theorem mergeHi'_eq (a b:Array Keyed):mergeHi' a b=(do
  rule "list.sort.merge-hi"
  let total:=a.size + b.size
  let done (out:Array Keyed) (na nb:Nat):=a.extract 0 na++b.extract 0 nb++out.reverse
  let firstOfB (out:Array Keyed) (na nb:Nat):=b.extract 0 nb++a.extract 0 na++out.reverse
  let mut na:=a.size - 1
  let mut nb:=b.size
  let mut out:Array Keyed:=#[<- elem' a na]
  if na == 0 then return done out na nb
  if nb == 1 then return firstOfB out na nb
  let mut minGallop:=gallopOf (<- get)
  for _ in [0:total] do
    let mut acount:=0
    let mut bcount:=0
    for _ in [0:total] do
      let some aWins <- lt' (<- elem' b (nb - 1)) (<- elem' a (na - 1))|return done out na nb
      if aWins then
        na:=na - 1;out:=out.push (<- elem' a na);acount:=acount + 1;bcount:=0
        if na == 0 then return done out na nb
        if acount ≥ minGallop then break
      else
        nb:=nb - 1;out:=out.push (<- elem' b nb);bcount:=bcount + 1;acount:=0
        if nb == 1 then return firstOfB out na nb
        if bcount ≥ minGallop then break
    rule "list.sort.gallop"
    minGallop:=minGallop + 1
    for _ in [0:total] do
      if minGallop > 1 then minGallop:=minGallop - 1
      setGallop minGallop
      let some at_ <- gallop' false (<- elem' b (nb - 1)) a 0 na (na - 1)|return done out na nb
      let k:=na - at_
      acount:=k
      if k > 0 then
        out:=out++(a.extract at_ na).reverse;na:=at_
        if na == 0 then return done out na nb
      nb:=nb - 1;out:=out.push (<- elem' b nb)
      if nb == 1 then return firstOfB out na nb
      let some at_ <- gallop' true (<- elem' a (na - 1)) b 0 nb (nb - 1)|return done out na nb
      let k:=nb - at_
      bcount:=k
      if k > 0 then
        out:=out++(b.extract at_ nb).reverse;nb:=at_
        if nb == 1 then return firstOfB out na nb
        if nb == 0 then return done out na nb
      na:=na - 1;out:=out.push (<- elem' a na)
      if na == 0 then return done out na nb
      if acount < 7 && bcount < 7 then break
    minGallop:=minGallop + 1
    setGallop minGallop
  unsupported "internal:list.sort.merge-bound"):=rfl
structure Mh (rk:Keyed->Int) (a b out:Array Keyed) (na nb:Nat):Prop where
  ha:na<=a.size
  hb:nb<=b.size
  sz:out.size + (na + nb)=a.size + b.size
  pm:((a.toList.take na++b.toList.take nb)++out.toList.reverse).Perm (a.toList++b.toList)
  up:Asc rk out.toList.reverse
  bd:∀ y∈a.toList.take na++b.toList.take nb,∀ x∈out.toList,rk y<=rk x
section
variable {rk:Keyed->Int} {a b out:Array Keyed} {na nb k:Nat} {x y:Keyed}
theorem take_split (l:List Keyed) {i n:Nat} (h:i<=n):l.take n=l.take i++(l.take n).drop i:=by
  conv=>lhs;rw [<- List.take_append_drop i (l.take n)]
  rw [List.take_take,Nat.min_eq_left h]
theorem Mh.chunkA (h:Mh rk a b out na nb) (sa:Asc rk a.toList) (hk:k<=na) (hc:∀ x∈(a.toList.take na).drop k,∀ y∈b.toList.take nb,rk y<=rk x):Mh rk a b (out++(a.extract k na).reverse) k nb:=by
  have ha:=h.ha
  have e:(a.extract k na).toList=(a.toList.take na).drop k:=by rw [ex_list,List.drop_take]
  have sp:=take_split a.toList hk
  have sd:Asc rk (a.toList.take na):=List.Pairwise.sublist (List.take_sublist _ _) sa
  rw [sp] at sd
  obtain ⟨s1,s2,s3⟩:=List.pairwise_append.mp sd
  have er:(out++(a.extract k na).reverse).toList.reverse=(a.toList.take na).drop k++out.toList.reverse:=by
    rw [Array.toList_append,List.reverse_append,Array.toList_reverse,List.reverse_reverse,e]
  refine ⟨by lia,h.hb,?_,?_,?_,?_⟩
  . have:=h.sz
    rw [Array.size_append,Array.size_reverse,Array.size_extract];lia
  . rw [er]
    refine List.Perm.trans ?_ h.pm
    conv=>rhs;rw [sp]
    simp only [List.append_assoc]
    refine List.Perm.append_left _ ?_
    rw [<- List.append_assoc,<- List.append_assoc]
    exact List.Perm.append_right _ List.perm_append_comm
  . rw [er]
    refine List.pairwise_append.mpr ⟨s2,h.up,fun x hx y hy=>h.bd x ?_ y (List.mem_reverse.mp hy)⟩
    rw [sp];simp [hx]
  . intro y hy x hx
    have hx':x∈(a.toList.take na).drop k++out.toList.reverse:=by rw [<- er];exact List.mem_reverse.mpr hx
    rcases List.mem_append.mp hx' with hx|hx
    . rcases List.mem_append.mp hy with hy|hy
      . exact s3 y hy x hx
      . exact hc x hx y hy
    . refine h.bd y ?_ x (List.mem_reverse.mp hx)
      rw [sp]
      rcases List.mem_append.mp hy with hy|hy <;> simp [hy]
theorem Mh.swap (h:Mh rk a b out na nb):Mh rk b a out nb na:=by
  refine ⟨h.hb,h.ha,by have:=h.sz;lia,?_,h.up,fun y hy x hx=>h.bd y ?_ x hx⟩
  . exact (List.Perm.append_right _ List.perm_append_comm).trans (h.pm.trans List.perm_append_comm)
  . rcases List.mem_append.mp hy with hy|hy <;> simp [hy]
theorem Mh.chunkB (h:Mh rk a b out na nb) (sb:Asc rk b.toList) (hk:k<=nb) (hc:∀ y∈(b.toList.take nb).drop k,∀ x∈a.toList.take na,rk x<=rk y):Mh rk a b (out++(b.extract k nb).reverse) na k :=
  (h.swap.chunkA sb hk hc).swap
theorem push_exR {a:Array Keyed} {n:Nat} {x:Keyed} (hn:0 < n) (h:a[n - 1]?=some x):out.push x=out++(a.extract (n - 1) n).reverse:=by
  have e:=push_ex (out:=#[]) h
  have e2:a.extract (n - 1) n=#[x]:=by
    rw [show n - 1 + 1=n by lia] at e
    simpa using e.symm
  rw [e2];rfl
theorem top1 {a:Array Keyed} {n:Nat} {x z:Keyed} (hn:0 < n) (h:a[n - 1]?=some x) (hz:z∈(a.toList.take n).drop (n - 1)):z=x:=by
  obtain ⟨j,hj⟩:=List.mem_iff_getElem?.mp hz
  rw [List.getElem?_drop] at hj
  have hl:n - 1 + j < n:=by
    rcases Nat.lt_or_ge (n - 1 + j) n with q|q
    . exact q
    . rw [List.getElem?_take_eq_none q] at hj;cases hj
  obtain rfl:j=0:=by lia
  rw [List.getElem?_take_of_lt hl] at hj
  have:a[n - 1]?=some z:=by simpa using hj
  rw [this] at h;cases h;rfl
theorem take_le {a:Array Keyed} {n:Nat} {x z:Keyed} (hn:0 < n) (sa:Asc rk a.toList) (h:a[n - 1]?=some x) (hz:z∈a.toList.take n):rk z<=rk x:=by
  obtain ⟨j,hj⟩:=List.mem_iff_getElem?.mp hz
  have hl:j < n:=by
    rcases Nat.lt_or_ge j n with q|q
    . exact q
    . rw [List.getElem?_take_eq_none q] at hj;cases hj
  rw [List.getElem?_take_of_lt hl] at hj
  have hj':a[j]?=some z:=by simpa using hj
  obtain ⟨q1,_⟩:=Array.getElem?_eq_some_iff.mp hj'
  obtain ⟨q2,_⟩:=Array.getElem?_eq_some_iff.mp h
  have:=up_of sa 0 a.size (by lia) j (n - 1) (by lia) (by lia)
  rw [Nat.zero_add,Nat.zero_add,R_at hj',R_at h] at this
  exact this
theorem Mh.pushA (h:Mh rk a b out na nb) (sa:Asc rk a.toList) (hn:0 < na) (hx:a[na - 1]?=some x) (hc:∀ y∈b.toList.take nb,rk y<=rk x):Mh rk a b (out.push x) (na - 1) nb:=by
  rw [push_exR hn hx]
  exact h.chunkA sa (by lia) fun z hz y hy=>by rw [top1 hn hx hz];exact hc y hy
theorem Mh.pushB (h:Mh rk a b out na nb) (sb:Asc rk b.toList) (hn:0 < nb) (hx:b[nb - 1]?=some x) (hc:∀ y∈a.toList.take na,rk y<=rk x):Mh rk a b (out.push x) na (nb - 1):=(h.swap.pushA sb hn hx hc).swap
theorem Mh.done (h:Mh rk a b out na nb) (sa:Asc rk a.toList) (sb:Asc rk b.toList) (hc:∀ x∈a.toList.take na,∀ y∈b.toList.take nb,rk x<=rk y):Res rk a b (a.extract 0 na++b.extract 0 nb++out.reverse):=by
  have e:(a.extract 0 na++b.extract 0 nb++out.reverse).toList=(a.toList.take na++b.toList.take nb)++out.toList.reverse:=by
    rw [Array.toList_append,Array.toList_append,ex_list,ex_list,Array.toList_reverse]
    simp
  refine ⟨by rw [e];exact h.pm,?_⟩
  rw [e]
  refine List.pairwise_append.mpr ⟨List.pairwise_append.mpr ⟨List.Pairwise.sublist (List.take_sublist _ _) sa,List.Pairwise.sublist (List.take_sublist _ _) sb,hc⟩,h.up,fun y hy x hx=>h.bd y hy x (List.mem_reverse.mp hx)⟩
theorem Mh.doneB (h:Mh rk a b out na nb) (sa:Asc rk a.toList) (sb:Asc rk b.toList) (hc:∀ y∈b.toList.take nb,∀ x∈a.toList.take na,rk y<=rk x):Res rk a b (b.extract 0 nb++a.extract 0 na++out.reverse):=by
  obtain ⟨h1,h2⟩:=h.swap.done sb sa hc
  exact ⟨h1.trans List.perm_append_comm,h2⟩
theorem mem_top {a:Array Keyed} {n k:Nat} {z:Keyed} (hz:z∈(a.toList.take n).drop k):∃ j,k<=j/\j < n/\a[j]?=some z:=by
  obtain ⟨j,hj⟩:=List.mem_iff_getElem?.mp hz
  rw [List.getElem?_drop] at hj
  have hl:k + j < n:=by
    rcases Nat.lt_or_ge (k + j) n with q|q
    . exact q
    . rw [List.getElem?_take_eq_none q] at hj;cases hj
  rw [List.getElem?_take_of_lt hl] at hj
  exact ⟨k + j,by lia,hl,by simpa using hj⟩
theorem mem_low {a:Array Keyed} {n:Nat} {z:Keyed} (hz:z∈a.toList.take n):∃ j,j < n/\a[j]?=some z:=by
  obtain ⟨j,_,h2,h3⟩:=mem_top (k:=0) (by simpa using hz)
  exact ⟨j,h2,h3⟩
theorem Mh.nil:Mh rk a b #[] a.size b.size:=⟨Nat.le_refl _,Nat.le_refl _,by simp,by rw [List.take_of_length_le (by simp),List.take_of_length_le (by simp)];simp,by simp,fun y _ x hx=>by simp at hx⟩
end
end Sb
namespace Sb
open PySem PySem.W PyProof.Rows
noncomputable abbrev HiS:=Option (Array Keyed)×Nat×Nat×Array Keyed×Nat×Nat×Nat
noncomputable def hiEnd (a b out:Array Keyed) (na nb mg ac bc:Nat):StateT SortSt Sem (ForInStep HiS):=do
  let x <- elem' a (na - 1)
  if (na - 1 == 0)=true then pure (.done (some (a.extract 0 (na - 1)++b.extract 0 nb++(out.push x).reverse),na - 1,nb,out.push x,mg,ac,bc))
  else if (decide (ac < 7) && decide (bc < 7))=true then pure (.done (none,na - 1,nb,out.push x,mg,ac,bc))
  else pure (.yield (none,na - 1,nb,out.push x,mg,ac,bc))
noncomputable def hiTail (a b out:Array Keyed) (na nb mg ac bc:Nat):StateT SortSt Sem (ForInStep HiS):=do
  let y <- elem' b (nb - 1)
  if (nb - 1 == 1)=true then pure (.done (some (b.extract 0 (nb - 1)++a.extract 0 na++(out.push y).reverse),na,nb - 1,out.push y,mg,ac,bc))
  else do
    let x <- elem' a (na - 1)
    let __x <- gallop' true x b 0 (nb - 1) (nb - 1 - 1)
    match __x with
    | some k =>
      if nb - 1 - k > 0 then
        if (k == 1)=true then pure (.done (some (b.extract 0 k++a.extract 0 na++(out.push y++(b.extract k (nb - 1)).reverse).reverse),na,k,out.push y++(b.extract k (nb - 1)).reverse,mg,ac,nb - 1 - k))
        else if (k == 0)=true then pure (.done (some (a.extract 0 na++b.extract 0 k++(out.push y++(b.extract k (nb - 1)).reverse).reverse),na,k,out.push y++(b.extract k (nb - 1)).reverse,mg,ac,nb - 1 - k))
        else hiEnd a b (out.push y++(b.extract k (nb - 1)).reverse) na k mg ac (nb - 1 - k)
      else hiEnd a b (out.push y) na (nb - 1) mg ac (nb - 1 - k)
    | _=>pure (.done (some (a.extract 0 na++b.extract 0 (nb - 1)++(out.push y).reverse),na,nb - 1,out.push y,mg,ac,bc))
section
variable {prog:Program} {w:World} {A:Around} {E:Value->Shared->Prop} {s:Shared} {a₀:Array Keyed} {κ:SortKind} {rk:Keyed->Int} {a b:Array Keyed}
theorem MIn.oneB (m:MIn prog w A s κ rk a₀ a b) {out:Array Keyed} {na nb:Nat} (h:Mh rk a b out na nb) (e:nb=1):Res rk a b (b.extract 0 nb++a.extract 0 na++out.reverse):=by
  refine h.doneB m.sa m.sb fun y hy x hx=>?_
  subst e
  obtain ⟨x',hx'⟩:=get_at (xs:=a) (i:=0) m.la
  obtain ⟨y',hy'⟩:=get_at (xs:=b) (i:=0) m.lb
  have e1:=m.lt0
  rw [R_at hx',R_at hy'] at e1
  have e2:=take_le (n:=1) (by lia) m.sb hy' hy
  have e3:=drop_ge (i:=0) m.sa hx' (by simpa using List.mem_of_mem_take hx)
  lia
theorem MIn.noA (m:MIn prog w A s κ rk a₀ a b) {out:Array Keyed} {na nb:Nat} (h:Mh rk a b out na nb) (e:na=0):Res rk a b (a.extract 0 na++b.extract 0 nb++out.reverse):=by
  refine h.done m.sa m.sb fun x hx=>?_
  subst e
  simp at hx
noncomputable def HiQ (rk:Keyed->Int) (a b:Array Keyed) (κ:SortKind) (st:SortSt) (n:Nat):ForInStep HiS->SortSt->Prop:=fun r st'=>SameX st st'/\match r with
  | .done c=>(∃ m,c.1=some m/\Res rk a b m)∨(c.1=none/\Mh rk a b c.2.2.2.1 c.2.1 c.2.2.1/\0 < c.2.1/\1 < c.2.2.1/\n<=c.2.2.2.1.size)
  | .yield c=>c.1=none/\Mh rk a b c.2.2.2.1 c.2.1 c.2.2.1/\0 < c.2.1/\1 < c.2.2.1/\n < c.2.2.2.1.size
theorem wpS_hiEnd (m:MIn prog w A s κ rk a₀ a b) {out:Array Keyed} {na nb mg ac bc n:Nat} {st0 st:SortSt} (hS:SameX st0 st) (h:Mh rk a b out na nb) (h1:0 < na) (h2:1 < nb) (hn:n<=out.size) (hc:∀ x y,a[na - 1]?=some x->y∈b.toList.take nb->rk y<=rk x) :
    wpS (model prog w) A E s (hiEnd a b out na nb mg ac bc) (HiQ rk a b κ st0 n) st:=by
  unfold hiEnd
  have ha:=h.ha
  obtain ⟨x,hx⟩:=get_at (xs:=a) (i:=na - 1) (by lia)
  refine wpS_bind (wpS_elem hx ?_)
  have h':=h.pushA m.sa h1 hx (fun y hy=>hc x y hx hy)
  have sz:n < (out.push x).size:=by rw [Array.size_push];lia
  refine wpS_ite (fun e=>wpS_pure ⟨hS,.inl ⟨_,rfl,m.noA h' (eq_of e)⟩⟩) fun e=>?_
  have e:=neq_of e
  exact wpS_ite (fun _=>wpS_pure ⟨hS,.inr ⟨rfl,h',by show 0 < na - 1;lia,h2,Nat.le_of_lt sz⟩⟩) fun _=>wpS_pure ⟨hS,rfl,h',by show 0 < na - 1;lia,h2,sz⟩
theorem wpS_hiTail (m:MIn prog w A s κ rk a₀ a b) {out:Array Keyed} {na nb mg ac bc n:Nat} {st0 st:SortSt} (hk:kindOf st=κ) (hS:SameX st0 st) (h:Mh rk a b out na nb) (h1:0 < na) (h2:1 < nb) (hn:n<=out.size) (hc:∀ y x,b[nb - 1]?=some y->x∈a.toList.take na->rk x<=rk y) :
    wpS (model prog w) A E s (hiTail a b out na nb mg ac bc) (HiQ rk a b κ st0 n) st:=by
  unfold hiTail
  have ha:=h.ha
  have hb:=h.hb
  obtain ⟨y,hy⟩:=get_at (xs:=b) (i:=nb - 1) (by lia)
  refine wpS_bind (wpS_elem hy ?_)
  have h':=h.pushB m.sb (by lia) hy (fun x hx=>hc y x hy hx)
  have sz:n < (out.push y).size:=by rw [Array.size_push];lia
  refine wpS_ite (fun e=>wpS_pure ⟨hS,.inl ⟨_,rfl,m.oneB h' (eq_of e)⟩⟩) fun e=>?_
  have e:=neq_of e
  obtain ⟨x,hx⟩:=get_at (xs:=a) (i:=na - 1) (by lia)
  refine wpS_bind (wpS_elem hx ?_)
  refine wpS_bind (wpS_gallop m.h0 hk (m.ma x (at_mem hx)) m.mb (by lia) (by lia) (up_of m.sb _ _ (by lia)) fun k k1 k2 k3=>?_)
  have chunk:∀ z∈(b.toList.take (nb - 1)).drop k,∀ v∈a.toList.take na,rk v<=rk z:=fun z hz v hv=>by
    obtain ⟨j,j1,j2,ej⟩:=mem_top hz
    have:=k3 j j1 j2
    unfold bp at this
    rw [Nat.zero_add,R_at ej] at this
    have q:rk x<=rk z:=by simpa using this
    exact Int.le_trans (take_le h1 m.sa hx hv) q
  have rest:∀ v,v∈b.toList.take k->rk v<=rk x:=fun v hv=>by
    obtain ⟨j,hj,ej⟩:=mem_low hv
    have:=k2 j hj
    unfold bp at this
    rw [Nat.zero_add,R_at ej] at this
    have q:rk v < rk x:=by simpa using this
    exact Int.le_of_lt q
  dsimp only
  refine wpS_ite (fun kp=>?_) fun kp=>?_
  . have h'':=h'.chunkB m.sb (k:=k) (by lia) chunk
    have sz':n<=(out.push y++(b.extract k (nb - 1)).reverse).size:=by rw [Array.size_append];lia
    refine wpS_ite (fun e2=>wpS_pure ⟨hS,.inl ⟨_,rfl,m.oneB h'' (eq_of e2)⟩⟩) fun e2=>?_
    have e2:=neq_of e2
    refine wpS_ite (fun e3=>wpS_pure ⟨hS,.inl ⟨_,rfl,h''.done m.sa m.sb fun x _ y hy=>?_⟩⟩) fun e3=>?_
    . rw [eq_of e3] at hy;simp at hy
    . have e3:=neq_of e3
      exact wpS_hiEnd m hS h'' h1 (by lia) sz' fun x' v hx' hv=>by rw [hx] at hx';cases hx';exact rest v hv
  . obtain rfl:k=nb - 1:=by lia
    exact wpS_hiEnd m hS h' h1 (by lia) (Nat.le_of_lt sz) fun x' v hx' hv=>by rw [hx] at hx';cases hx';exact rest v hv
theorem wpS_hiTurn (m:MIn prog w A s κ rk a₀ a b) {out:Array Keyed} {na nb n:Nat} {st0 st:SortSt} (hk:kindOf st=κ) (hS:SameX st0 st) (h:Mh rk a b out na nb) (h1:0 < na) (h2:1 < nb) (hn:n<=out.size)
    {f:Option Nat->StateT SortSt Sem (ForInStep HiS)} {mg bc:Nat} (hf:∀ k,f (some k)=if na - k > 0 then
        if (k == 0)=true then pure (.done (some (a.extract 0 k++b.extract 0 nb++(out++(a.extract k na).reverse).reverse),k,nb,out++(a.extract k na).reverse,mg,na - k,bc))
        else hiTail a b (out++(a.extract k na).reverse) k nb mg (na - k) bc
      else hiTail a b out na nb mg (na - k) bc) :
    wpS (model prog w) A E s (do let y <- elem' b (nb - 1);let r <- gallop' false y a 0 na (na - 1);f r) (HiQ rk a b κ st0 n) st:=by
  have ha:=h.ha
  have hb:=h.hb
  obtain ⟨y,hy⟩:=get_at (xs:=b) (i:=nb - 1) (by lia)
  refine wpS_bind (wpS_elem hy ?_)
  refine wpS_bind (wpS_gallop m.h0 hk (m.mb y (at_mem hy)) m.ma (by lia) (by lia) (up_of m.sa _ _ (by lia)) fun k k1 k2 k3=>?_)
  rw [hf]
  have chunk:∀ z∈(a.toList.take na).drop k,∀ v∈b.toList.take nb,rk v<=rk z:=fun z hz v hv=>by
    obtain ⟨j,j1,j2,ej⟩:=mem_top hz
    have:=k3 j j1 j2
    unfold bp at this
    rw [Nat.zero_add,R_at ej] at this
    have q:rk y < rk z:=by simpa using this
    exact Int.le_trans (take_le (by lia) m.sb hy hv) (Int.le_of_lt q)
  have rest:∀ v,v∈a.toList.take k->rk v<=rk y:=fun v hv=>by
    obtain ⟨j,hj,ej⟩:=mem_low hv
    have:=k2 j hj
    unfold bp at this
    rw [Nat.zero_add,R_at ej] at this
    simpa using this
  refine wpS_ite (fun kp=>?_) fun kp=>?_
  . have h':=h.chunkA m.sa (k:=k) (by lia) chunk
    have sz':n<=(out++(a.extract k na).reverse).size:=by rw [Array.size_append];lia
    refine wpS_ite (fun e=>wpS_pure ⟨hS,.inl ⟨_,rfl,m.noA h' (eq_of e)⟩⟩) fun e=>?_
    have e:=neq_of e
    exact wpS_hiTail m hk hS h' (by lia) h2 sz' fun y' x hy' hx=>by rw [hy] at hy';cases hy';exact rest x hx
  . obtain rfl:k=na:=by lia
    exact wpS_hiTail m hk hS h h1 h2 hn fun y' x hy' hx=>by rw [hy] at hy';cases hy';exact rest x hx
theorem wpS_mergeHi (m:MIn prog w A s κ rk a₀ a b) {st:SortSt} (hk:kindOf st=κ) {Q:Array Keyed->SortSt->Prop} (h:∀ mm st',SameX st st'->Res rk a b mm->Q mm st') :
    wpS (model prog w) A E s (mergeHi' a b) Q st:=by
  rw [mergeHi'_eq]
  dsimp only
  have la:=m.la
  have lb:=m.lb
  refine wpS_bind (wpS_lift (wpAny_rule ⟨rfl,?_⟩))
  obtain ⟨x0,hx0⟩:=get_at (xs:=a) (i:=a.size - 1) (by lia)
  refine wpS_bind (wpS_elem hx0 ?_)
  have M0:Mh rk a b #[x0] (a.size - 1) b.size:=Mh.nil.pushA m.sa la hx0 fun v hv=>by
    have:=m.last v (List.mem_of_mem_take hv)
    rwa [R_at hx0] at this
  refine wpS_ite (fun e=>wpS_pure (h _ _ (.refl _) (m.noA M0 (eq_of e)))) fun e1=>?_
  have e1:=neq_of e1
  refine wpS_ite (fun e=>wpS_pure (h _ _ (.refl _) (m.oneB M0 (eq_of e)))) fun e2=>?_
  have e2:=neq_of e2
  refine wpS_bind (wpS_get ?_)
  refine wpS_bind (wpS_mono (wpS_forRange (I:=fun x c st'=>SameX st st'/\∃ na nb out mg,c=(none,na,nb,out,mg)/\Mh rk a b out na nb/\0 < na/\1 < nb/\x + 1<=out.size)
    (Q:=fun c st'=>SameX st st'/\∃ mm rest,c=(some mm,rest)/\Res rk a b mm) ?step ?fin ⟨.refl _,_,_,#[x0],_,rfl,M0,by lia,by lia,by simp⟩) ?post)
  case post =>
    rintro c st' ⟨hS,mm,rest,rfl,hr⟩
    exact wpS_pure (h mm st' hS hr)
  case fin =>
    rintro c st' ⟨hS,na,nb,out,mg,rfl,hM,h1,h2,h3⟩
    have:=hM.sz
    lia
  case step =>
    rintro x c st' _ hx ⟨hS,na,nb,out,mg,rfl,hM,h1,h2,h3⟩
    dsimp only
    refine wpS_bind (wpS_mono (wpS_forRange (I:=fun y c st''=>SameX st st''/\∃ na nb out ac bc,c=(none,na,nb,out,ac,bc)/\Mh rk a b out na nb/\0 < na/\1 < nb/\x + 1 + y<=out.size)
      (Q:=fun c st''=>SameX st st''/\((∃ mm rest,c=(some mm,rest)/\Res rk a b mm)∨∃ na nb out ac bc,c=(none,na,nb,out,ac,bc)/\Mh rk a b out na nb/\0 < na/\1 < nb/\x + 2<=out.size)) ?istep ?ifin ⟨hS,na,nb,out,0,0,rfl,hM,h1,h2,by lia⟩) ?ipost)
    case ifin =>
      rintro c st'' ⟨hS,na,nb,out,ac,bc,rfl,hM,h1,h2,h3⟩
      have:=hM.sz
      lia
    case istep =>
      rintro y c st'' _ hy ⟨hS,na,nb,out,ac,bc,rfl,hM,h1,h2,h3⟩
      dsimp only
      have ha:=hM.ha
      have hb:=hM.hb
      obtain ⟨p,hp⟩:=get_at (xs:=b) (i:=nb - 1) (by lia)
      obtain ⟨q,hq⟩:=get_at (xs:=a) (i:=na - 1) (by lia)
      refine wpS_bind (wpS_elem hp (wpS_bind (wpS_elem hq (wpS_bind (wpS_lt m.h0 (hS.2.1.trans hk) (m.mb p (at_mem hp)) (m.ma q (at_mem hq)) ?_)))))
      by_cases c:rk p < rk q
      . simp only [c,decide_true,if_true]
        refine wpS_bind (wpS_elem hq ?_)
        have hM':=hM.pushA m.sa h1 hq fun v hv=>Int.le_trans (take_le (by lia) m.sb hp hv) (Int.le_of_lt c)
        refine wpS_ite (fun e=>wpS_pure ⟨hS,.inl ⟨_,_,rfl,m.noA hM' (eq_of e)⟩⟩) fun e=>?_
        have e:=neq_of e
        exact wpS_ite (fun _=>wpS_pure ⟨hS,.inr ⟨_,_,_,_,_,rfl,hM',by lia,h2,by rw [Array.size_push];lia⟩⟩) fun _=>wpS_pure ⟨hS,_,_,_,_,_,rfl,hM',by lia,h2,by rw [Array.size_push];lia⟩
      . simp only [c,decide_false,Bool.false_eq_true,if_false]
        refine wpS_bind (wpS_elem hp ?_)
        have hM':=hM.pushB m.sb (by lia) hp fun v hv=>Int.le_trans (take_le h1 m.sa hq hv) (Int.not_lt.mp c)
        refine wpS_ite (fun e=>wpS_pure ⟨hS,.inl ⟨_,_,rfl,m.oneB hM' (eq_of e)⟩⟩) fun e=>?_
        have e:=neq_of e
        exact wpS_ite (fun _=>wpS_pure ⟨hS,.inr ⟨_,_,_,_,_,rfl,hM',h1,by lia,by rw [Array.size_push];lia⟩⟩) fun _=>wpS_pure ⟨hS,_,_,_,_,_,rfl,hM',h1,by lia,by rw [Array.size_push];lia⟩
    case ipost =>
      rintro c st'' ⟨hS,⟨mm,rest,rfl,hr⟩|⟨na,nb,out,ac,bc,rfl,hM,h1,h2,h3⟩⟩
      . exact wpS_pure ⟨hS,mm,_,rfl,hr⟩
      . dsimp only
        refine wpS_bind (wpS_lift (wpAny_rule ⟨rfl,?_⟩))
        refine wpS_bind (wpS_mono (wpS_forRange (I:=fun y c st3=>SameX st st3/\∃ na nb out mg ac bc,c=(none,na,nb,out,mg,ac,bc)/\Mh rk a b out na nb/\0 < na/\1 < nb/\x + 2 + y<=out.size)
          (Q:=fun c st3=>SameX st st3/\((∃ mm rest,c=(some mm,rest)/\Res rk a b mm)∨∃ na nb out mg ac bc,c=(none,na,nb,out,mg,ac,bc)/\Mh rk a b out na nb/\0 < na/\1 < nb/\x + 2<=out.size)) ?gstep ?gfin ⟨hS,na,nb,out,_,ac,bc,rfl,hM,h1,h2,by lia⟩) ?gpost)
        case gfin =>
          rintro c st3 ⟨hS,na,nb,out,mg,ac,bc,rfl,hM,h1,h2,h3⟩
          have:=hM.sz
          lia
        case gpost =>
          rintro c st3 ⟨hS,⟨mm,rest,rfl,hr⟩|⟨na,nb,out,mg,ac,bc,rfl,hM,h1,h2,h3⟩⟩
          . exact wpS_pure ⟨hS,mm,_,rfl,hr⟩
          . dsimp only
            refine wpS_bind (wpS_setG fun st4 hS4=>?_)
            exact wpS_pure ⟨hS.trans hS4,_,_,_,_,rfl,hM,h1,h2,by lia⟩
        case gstep =>
          rintro y c st3 _ hy ⟨hS,na,nb,out,mg,ac,bc,rfl,hM,h1,h2,h3⟩
          have cD:∀ (c:HiS) (st':SortSt),HiQ rk a b κ st (x + 2 + y) (.done c) st'->SameX st st'/\((∃ mm rest,c=(some mm,rest)/\Res rk a b mm)∨∃ na nb out mg ac bc,c=(none,na,nb,out,mg,ac,bc)/\Mh rk a b out na nb/\0 < na/\1 < nb/\x + 2<=out.size):=by
            rintro ⟨c1,na,nb,out,mg,ac,bc⟩ st' ⟨hS,⟨mm,e,hr⟩|⟨e,hM,h1,h2,h3⟩⟩
            . cases e;exact ⟨hS,.inl ⟨mm,_,rfl,hr⟩⟩
            . cases e;dsimp only at h1 h2 h3;exact ⟨hS,.inr ⟨_,_,_,_,_,_,rfl,hM,h1,h2,by lia⟩⟩
          have cY:∀ (c:HiS) (st':SortSt),HiQ rk a b κ st (x + 2 + y) (.yield c) st'->SameX st st'/\∃ na nb out mg ac bc,c=(none,na,nb,out,mg,ac,bc)/\Mh rk a b out na nb/\0 < na/\1 < nb/\x + 2 + (y + 1)<=out.size:=by
            rintro ⟨c1,na,nb,out,mg,ac,bc⟩ st' ⟨hS,e,hM,h1,h2,h3⟩
            cases e;dsimp only at h1 h2 h3;exact ⟨hS,_,_,_,_,_,_,rfl,hM,h1,h2,by lia⟩
          dsimp only
          refine wpS_ite (fun _=>?_) (fun _=>?_)
          . refine wpS_bind (wpS_setG fun st4 hS4=>?_)
            exact wpS_mono (wpS_hiTurn m ((hS.trans hS4).2.1.trans hk) (hS.trans hS4) hM h1 h2 h3 (fun k=>rfl)) fun r st' hq=>match r,hq with|.done c,hq=>cD c st' hq|.yield c,hq=>cY c st' hq
          . refine wpS_bind (wpS_setG fun st4 hS4=>?_)
            exact wpS_mono (wpS_hiTurn m ((hS.trans hS4).2.1.trans hk) (hS.trans hS4) hM h1 h2 h3 (fun k=>rfl)) fun r st' hq=>match r,hq with|.done c,hq=>cD c st' hq|.yield c,hq=>cY c st' hq
end
end Sb
namespace Sb
open PySem PySem.W PyProof.Rows
theorem mergeAt'_eq (i:Nat):mergeAt' i=(do
  let s <- get
  let (some (sa,na,power),some (sb,nb,_)):=((pendingOf s)[i]?,(pendingOf s)[i + 1]?)|unsupported "internal:list.sort.pending"
  set (setPending s (((pendingOf s).setIfInBounds i (sa,na + nb,power)).eraseIdxIfInBounds (i + 1)))
  let some k <- gallop' false (<- elem' (arrOf s) sb) (arrOf s) sa na 0|return false
  let (sa,na):=(sa + k,na - k)
  if na == 0 then return true
  let some nb <- gallop' true (<- elem' (arrOf s) (sa + na - 1)) (arrOf s) sb nb (nb - 1)|return false
  if nb == 0 then return true
  let x:=(arrOf s).extract sa sb
  let y:=(arrOf s).extract sb (sb + nb)
  let merged <- if na<=nb then mergeLo' x y else mergeHi' x y
  modify fun s=>setArr s (merged.toList.zipIdx.foldl (fun a (p,j)=>a.setIfInBounds (sa + j) p) (arrOf s))
  return (failedOf (<- get)).isNone):=rfl
section
variable {prog:Program} {w:World} {A:Around} {E:Value->Shared->Prop} {s:Shared} {a₀:Array Keyed} {κ:SortKind} {rk:Keyed->Int}
theorem put_list {base:Nat}:∀ (M:List Keyed) (n:Nat) (Pre Z T:List Keyed) (arr:Array Keyed),arr.toList=Pre++(Z++T)->base + n=Pre.length->M.length=Z.length ->
    ((M.zipIdx n).foldl (fun a (p:Keyed×Nat)=>a.setIfInBounds (base + p.2) p.1) arr).toList=Pre++(M++T)
  | [],n,Pre,Z,T,arr,h,_,hl=>by
    obtain rfl:Z=[]:=List.length_eq_zero_iff.mp hl.symm
    simpa using h
  | m::M,n,Pre,Z,T,arr,h,hb,hl=>by
    cases Z with
    | nil=>cases hl
    | cons z Z =>
      have e:(arr.setIfInBounds (base + n) m).toList=(Pre++[m])++(Z++T):=by
        rw [Array.toList_setIfInBounds,h,hb]
        simp [List.set_append]
      have:=put_list (base:=base) M (n + 1) (Pre++[m]) Z T _ e (by simp;lia) (by simpa using hl)
      rw [List.zipIdx_cons,List.foldl_cons,this]
      simp
theorem R_list {xs:Array Keyed} {P L S:List Keyed} (h:xs.toList=P++(L++S)) {i:Nat} (hi:i < L.length):R rk xs (P.length + i)=rk L[i]:=by
  refine R_at ?_
  rw [<- Array.getElem?_toList,h,List.getElem?_append_right (by lia),List.getElem?_append_left (by lia)]
  rw [show P.length + i - P.length=i by lia,List.getElem?_eq_getElem hi]
theorem up_iff {xs:Array Keyed} {P L S:List Keyed} (h:xs.toList=P++(L++S)):Up rk xs P.length L.length↔Asc rk L:=by
  constructor
  . intro u
    refine List.pairwise_iff_getElem.mpr ?_
    intro i j hi hj hij
    have:=u i j (by lia) hj
    rwa [R_list h hi,R_list h hj] at this
  . intro u i j hij hj
    rw [R_list h (by lia),R_list h hj]
    by_cases e:i=j
    . subst e;exact Int.le_refl _
    . exact List.pairwise_iff_getElem.mp u i j (by lia) hj (by lia)
theorem wpS_mergeAt {st:SortSt} {i sa na nb pw pw2:Nat} {Q:Bool->SortSt->Prop} (h0:Ax prog w A s κ rk a₀) (hp:(arrOf st).Perm a₀) (hk:kindOf st=κ) (hf:failedOf st=none)
    (hi:(pendingOf st)[i]?=some (sa,na,pw)) (hj:(pendingOf st)[i + 1]?=some (sa + na,nb,pw2)) (na1:1<=na) (nb1:1<=nb) (hz:sa + na + nb<=a₀.size) (ua:Up rk (arrOf st) sa na) (ub:Up rk (arrOf st) (sa + na) nb)
    (h:∀ st',(arrOf st').Perm a₀->kindOf st'=κ->failedOf st'=none->pendingOf st'=((pendingOf st).setIfInBounds i (sa,na + nb,pw)).eraseIdxIfInBounds (i + 1)->(∀ q,q < sa∨sa + na + nb<=q->(arrOf st')[q]?=(arrOf st)[q]?)->Up rk (arrOf st') sa (na + nb)->Q true st') :
    wpS (model prog w) A E s (mergeAt' i) Q st:=by
  rw [mergeAt'_eq]
  refine wpS_bind (wpS_get ?_)
  dsimp only
  rw [hi,hj]
  dsimp only
  have hset:∀ (st1:SortSt) (Q':PUnit->SortSt->Prop),Q' ⟨⟩ st1->wpS (model prog w) A E s (set st1:StateT SortSt Sem PUnit) Q' st:=fun st1 Q' hq=>by
    unfold wpS
    rw [StateT.run_set]
    exact wpAny_pure ⟨rfl,hq⟩
  refine wpS_bind (hset _ _ ?_)
  have sz:(arrOf st).size=a₀.size:=hp.size_eq
  have mem:∀ x∈(arrOf st).toList,x∈a₀.toList:=fun x hx=>(Array.perm_iff_toList_perm.mp hp).mem_iff.mp hx
  generalize hst1:setPending st (((pendingOf st).setIfInBounds i (sa,na + nb,pw)).eraseIdxIfInBounds (i + 1))=st1
  have k1:kindOf st1=κ:=by rw [<- hst1];exact hk
  have f1:failedOf st1=none:=by rw [<- hst1];exact hf
  have a1:arrOf st1=arrOf st:=by rw [<- hst1]
  have p1:pendingOf st1=((pendingOf st).setIfInBounds i (sa,na + nb,pw)).eraseIdxIfInBounds (i + 1):=by rw [<- hst1]
  obtain ⟨y,hy⟩:=get_at (xs:=arrOf st) (i:=sa + na) (by lia)
  obtain ⟨z,hz'⟩:=get_at (xs:=arrOf st) (i:=sa + na - 1) (by lia)
  generalize arrOf st=xs at *
  refine wpS_bind (wpS_elem hy ?_)
  refine wpS_bind (wpS_gallop h0 k1 (mem y (at_mem hy)) mem (by lia) (by lia) ua fun k kn kl kr=>?_)
  have kl':∀ q,q < k->R rk xs (sa + q)<=rk y:=fun q hq=>by
    have:=kl q hq;unfold bp at this;simpa using this
  have kr':∀ q,k<=q->q < na->rk y < R rk xs (sa + q):=fun q h1 h2=>by
    have:=kr q h1 h2;unfold bp at this;simpa using this
  have ub0:∀ q,q < nb->rk y<=R rk xs (sa + na + q):=fun q hq=>by
    have:=ub 0 q (by lia) hq
    rwa [Nat.add_zero,R_at hy] at this
  have whole:(∀ q,q < na->∀ q',q' < nb->R rk xs (sa + q)<=R rk xs (sa + na + q'))->Up rk xs sa (na + nb):=fun hq i j hij hj=>by
    by_cases c:j < na
    . exact ua i j hij c
    . by_cases d:i < na
      . have:=hq i d (j - na) (by lia)
        rwa [show sa + na + (j - na)=sa + j by lia] at this
      . have:=ub (i - na) (j - na) (by lia) (by lia)
        rwa [show sa + na + (j - na)=sa + j by lia,show sa + na + (i - na)=sa + i by lia] at this
  dsimp only
  refine wpS_ite (fun e=>wpS_pure ?_) fun e=>?_
  . have e:=eq_of e
    refine h st1 (by rw [a1];exact hp) k1 f1 p1 (fun _ _=>by rw [a1]) ?_
    rw [a1]
    exact whole fun q hq q' hq'=>Int.le_trans (kl' q (by lia)) (ub0 q' hq')
  have e:=neq_of e
  rw [show sa + k + (na - k) - 1=sa + na - 1 by lia]
  refine wpS_bind (wpS_elem hz' ?_)
  refine wpS_bind (wpS_gallop h0 k1 (mem z (at_mem hz')) mem (by lia) (by lia) ub fun n nn nl nr=>?_)
  have nl':∀ q,q < n->R rk xs (sa + na + q) < rk z:=fun q hq=>by
    have:=nl q hq;unfold bp at this;simpa using this
  have nr':∀ q,n<=q->q < nb->rk z<=R rk xs (sa + na + q):=fun q h1 h2=>by
    have:=nr q h1 h2;unfold bp at this;simpa using this
  have uaz:∀ q,q < na->R rk xs (sa + q)<=rk z:=fun q hq=>by
    have:=ua q (na - 1) (by lia) (by lia)
    rwa [show sa + (na - 1)=sa + na - 1 by lia,R_at hz'] at this
  refine wpS_ite (fun e2=>wpS_pure ?_) fun e2=>?_
  . have e2:=eq_of e2
    refine h st1 (by rw [a1];exact hp) k1 f1 p1 (fun _ _=>by rw [a1]) ?_
    rw [a1]
    exact whole fun q hq q' hq'=>Int.le_trans (uaz q hq) (nr' q' (by lia) hq')
  have e2:=neq_of e2
  have hxl:xs.toList.length=a₀.size:=by rw [Array.length_toList];exact sz
  obtain ⟨P,hP⟩:∃ P,P=xs.toList.take sa:=⟨_,rfl⟩
  obtain ⟨A1,hA1⟩:∃ P,P=(xs.toList.drop sa).take k:=⟨_,rfl⟩
  obtain ⟨X,hX⟩:∃ P,P=(xs.toList.drop (sa + k)).take (na - k):=⟨_,rfl⟩
  obtain ⟨Y,hY⟩:∃ P,P=(xs.toList.drop (sa + na)).take n:=⟨_,rfl⟩
  obtain ⟨B2,hB2⟩:∃ P,P=(xs.toList.drop (sa + na + n)).take (nb - n):=⟨_,rfl⟩
  obtain ⟨S,hS⟩:∃ P,P=xs.toList.drop (sa + na + nb):=⟨_,rfl⟩
  have lP:P.length=sa:=by rw [hP,List.length_take];lia
  have lA:A1.length=k:=by rw [hA1,List.length_take,List.length_drop];lia
  have lX:X.length=na - k:=by rw [hX,List.length_take,List.length_drop];lia
  have lY:Y.length=n:=by rw [hY,List.length_take,List.length_drop];lia
  have lB:B2.length=nb - n:=by rw [hB2,List.length_take,List.length_drop];lia
  have hl:xs.toList=P++(A1++(X++(Y++(B2++S)))):=by
    rw [hP,hA1,hX,hY,hB2,hS]
    have s5:=drop_split xs.toList (sa + na + n) (nb - n)
    rw [show sa + na + n + (nb - n)=sa + na + nb by lia] at s5
    rw [<- s5,<- drop_split xs.toList (sa + na) n]
    have s3:=drop_split xs.toList (sa + k) (na - k)
    rw [show sa + k + (na - k)=sa + na by lia] at s3
    rw [<- s3,<- drop_split xs.toList sa k,List.take_append_drop]
  have eX:(xs.extract (sa + k) (sa + na)).toList=X:=by rw [ex_list,hX];congr 1;lia
  have eY:(xs.extract (sa + na) (sa + na + n)).toList=Y:=by rw [ex_list,hY];congr 1;lia
  have aA:Asc rk (A1++X):=by
    have:xs.toList=P++((A1++X)++(Y++(B2++S))):=by rw [hl];simp
    refine (up_iff this).mp ?_
    rw [lP,List.length_append,lA,lX,show k + (na - k)=na by lia]
    exact ua
  have aB:Asc rk (Y++B2):=by
    have:xs.toList=(P++(A1++X))++((Y++B2)++S):=by rw [hl];simp
    have u:=up_iff (rk:=rk) this
    rw [List.length_append,List.length_append,lP,lA,lX,List.length_append,lY,lB,show sa + (k + (na - k))=sa + na by lia,show n + (nb - n)=nb by lia] at u
    exact u.mp ub
  obtain ⟨sA,sX,sAX⟩:=List.pairwise_append.mp aA
  obtain ⟨sY,sB,sYB⟩:=List.pairwise_append.mp aB
  have memA:∀ v∈A1,rk v<=rk y:=fun v hv=>by
    rw [hA1] at hv
    obtain ⟨j,hj,ej⟩:=mem_chunk hv
    have:=kl' j hj
    rwa [R_at ej] at this
  have memX:∀ v∈X,rk v<=rk z:=fun v hv=>by
    rw [hX] at hv
    obtain ⟨j,hj,ej⟩:=mem_chunk hv
    have:=uaz (k + j) (by lia)
    rwa [<- Nat.add_assoc,R_at ej] at this
  have memY:∀ v∈Y,rk y<=rk v/\rk v < rk z:=fun v hv=>by
    rw [hY] at hv
    obtain ⟨j,hj,ej⟩:=mem_chunk hv
    have q1:=ub0 j (by lia)
    have q2:=nl' j hj
    rw [R_at ej] at q1 q2
    exact ⟨q1,q2⟩
  have memB:∀ v∈B2,rk z<=rk v:=fun v hv=>by
    rw [hB2] at hv
    obtain ⟨j,hj,ej⟩:=mem_chunk hv
    have:=nr' (n + j) (by lia) (by lia)
    rwa [<- Nat.add_assoc,R_at ej] at this
  have gX:∀ q,q < na - k->(xs.extract (sa + k) (sa + na))[q]?=xs[sa + k + q]?:=fun q hq=>by
    rw [Array.getElem?_extract,if_pos (by lia)]
  have gY:∀ q,q < n->(xs.extract (sa + na) (sa + na + n))[q]?=xs[sa + na + q]?:=fun q hq=>by
    rw [Array.getElem?_extract,if_pos (by lia)]
  have szX:(xs.extract (sa + k) (sa + na)).size=na - k:=by rw [Array.size_extract];lia
  have szY:(xs.extract (sa + na) (sa + na + n)).size=n:=by rw [Array.size_extract];lia
  have m:MIn prog w A s κ rk a₀ (xs.extract (sa + k) (sa + na)) (xs.extract (sa + na) (sa + na + n)):=by
    refine ⟨h0,by rw [eX];exact sX,by rw [eY];exact sY,fun v hv=>mem v ?_,fun v hv=>mem v ?_,by lia,by lia,?_,fun v hv=>?_⟩
    . rw [eX] at hv;rw [hl];simp [hv]
    . rw [eY] at hv;rw [hl];simp [hv]
    . rw [R_congr (gX 0 (by lia)),R_congr (gY 0 (by lia)),Nat.add_zero,Nat.add_zero,R_at hy]
      exact kr' k (Nat.le_refl _) (by lia)
    . rw [szX,R_congr (gX (na - k - 1) (by lia)),show sa + k + (na - k - 1)=sa + na - 1 by lia,R_at hz']
      rw [eY] at hv
      exact Int.le_of_lt (memY v hv).2
  have fin:∀ (mm:Array Keyed) (st2:SortSt),SameX st1 st2->Res rk (xs.extract (sa + k) (sa + na)) (xs.extract (sa + na) (sa + na + n)) mm->wpS (model prog w) A E s (do
      modify fun s=>setArr s (mm.toList.zipIdx.foldl (fun a (p,j)=>a.setIfInBounds (sa + k + j) p) (arrOf s))
      let s <- get
      pure (failedOf s).isNone) Q st2:=fun mm st2 hS2 ⟨hr,hu⟩=>by
    rw [eX,eY] at hr
    have lm:mm.toList.length=(X++Y).length:=hr.length_eq
    have put:=put_list (base:=sa + k) mm.toList 0 (P++A1) (X++Y) (B2++S) xs (by rw [hl];simp) (by rw [List.length_append,lP,lA];lia) lm
    refine wpS_bind (wpS_modify (wpS_bind (wpS_get ?_)))
    have e3:arrOf st2=xs:=hS2.1.trans a1
    have key:∀ ys:Array Keyed,ys.toList=P++(A1++(mm.toList++(B2++S)))->∀ st',arrOf st'=ys->kindOf st'=κ->failedOf st'=none->pendingOf st'=pendingOf st1->Q true st':=by
      intro ys hys st' e4 e5 e6 e7
      refine h st' ?_ e5 e6 (e7.trans p1) ?_ ?_
      . rw [e4]
        refine Array.Perm.trans (Array.perm_iff_toList_perm.mpr ?_) hp
        rw [hys,hl]
        refine List.Perm.append_left _ (List.Perm.append_left _ ?_)
        rw [<- List.append_assoc X Y]
        exact List.Perm.append_right _ hr
      . intro q hq
        rw [e4,<- Array.getElem?_toList,<- Array.getElem?_toList,hys,hl]
        rw [List.length_append,lX,lY] at lm
        rcases hq with hq|hq
        . rw [List.getElem?_append_left (by lia),List.getElem?_append_left (by lia)]
        . have e8:P++(A1++(mm.toList++(B2++S)))=(P++(A1++(mm.toList++B2)))++S:=by simp
          have e9:P++(A1++(X++(Y++(B2++S))))=(P++(A1++(X++(Y++B2))))++S:=by simp
          have l1:(P++(A1++(mm.toList++B2))).length=sa + na + nb:=by simp only [List.length_append];lia
          have l2:(P++(A1++(X++(Y++B2)))).length=sa + na + nb:=by simp only [List.length_append];lia
          rw [e8,e9,List.getElem?_append_right (by lia),List.getElem?_append_right (by lia),l1,l2]
      . rw [e4]
        have e8:ys.toList=P++((A1++(mm.toList++B2))++S):=by rw [hys];simp
        have u:=up_iff (rk:=rk) e8
        have l1:(A1++(mm.toList++B2)).length=na + nb:=by simp only [List.length_append] at lm ⊢;lia
        rw [lP,l1] at u
        refine u.mpr (List.pairwise_append.mpr ⟨sA,List.pairwise_append.mpr ⟨hu,sB,fun v hv t ht=>?_⟩,fun v hv t ht=>?_⟩)
        . rcases List.mem_append.mp (hr.mem_iff.mp hv) with hv|hv
          . exact Int.le_trans (memX v hv) (memB t ht)
          . exact Int.le_trans (Int.le_of_lt (memY v hv).2) (memB t ht)
        . rcases List.mem_append.mp ht with ht|ht
          . rcases List.mem_append.mp (hr.mem_iff.mp ht) with ht|ht
            . exact sAX v hv t ht
            . exact Int.le_trans (memA v hv) (memY t ht).1
          . have q1:=memA v hv
            have q2:=(memY y (by
              have:=List.getElem?_eq_some_iff.mp (show Y[0]?=some y by rw [hY,List.getElem?_take_of_lt (by lia),List.getElem?_drop,Nat.add_zero];simpa using hy)
              obtain ⟨q,rfl⟩:=this
              exact List.getElem_mem q)).2
            have q3:=memB t ht
            lia
    rw [<- e3] at put
    have:=key _ (by rw [put];simp) (setArr st2 (mm.toList.zipIdx.foldl (fun a (p,j)=>a.setIfInBounds (sa + k + j) p) (arrOf st2))) rfl (hS2.2.1.trans k1) (hS2.2.2.2.trans f1) hS2.2.2.1
    have e10:(failedOf (setArr st2 (mm.toList.zipIdx.foldl (fun a (p,j)=>a.setIfInBounds (sa + k + j) p) (arrOf st2)))).isNone=true:=by
      show (failedOf st2).isNone=true
      rw [hS2.2.2.2.trans f1];rfl
    rw [e10]
    exact wpS_pure this
  exact wpS_ite (fun _=>wpS_bind (wpS_mergeLo m k1 fin)) fun _=>wpS_bind (wpS_mergeHi m k1 fin)
end
end Sb
namespace Sb
open PySem PySem.W PyProof.Rows
noncomputable def Rn (rk:Keyed->Int) (xs:Array Keyed):Nat->List (Nat×Nat×Nat)->Nat->Prop
  | a,[],e=>a=e
  | a,t::l,e=>t.1=a/\1<=t.2.1/\Up rk xs a t.2.1/\Rn rk xs (a + t.2.1) l e
section
variable {rk:Keyed->Int} {xs ys:Array Keyed}
theorem Rn.le:∀ {l:List (Nat×Nat×Nat)} {a e:Nat},Rn rk xs a l e->a + l.length<=e
  | [],a,e,h=>by simp only [Rn] at h;simp;lia
  | t::l,a,e,h=>by
    obtain ⟨h1,h2,h3,h4⟩:=h
    have:=Rn.le h4
    simp only [List.length_cons];lia
theorem Rn.app:∀ {l l':List (Nat×Nat×Nat)} {a e:Nat},Rn rk xs a (l++l') e↔∃ m,Rn rk xs a l m/\Rn rk xs m l' e
  | [],l',a,e=>by
    constructor
    . intro h;exact ⟨a,rfl,h⟩
    . rintro ⟨m,rfl,h⟩;exact h
  | t::l,l',a,e=>by
    constructor
    . rintro ⟨h1,h2,h3,h4⟩
      obtain ⟨m,g1,g2⟩:=Rn.app.mp h4
      exact ⟨m,⟨h1,h2,h3,g1⟩,g2⟩
    . rintro ⟨m,⟨h1,h2,h3,h4⟩,g⟩
      exact ⟨h1,h2,h3,Rn.app.mpr ⟨m,h4,g⟩⟩
theorem Up.congr {a n:Nat} (h:Up rk xs a n) (hc:∀ q,a<=q->q < a + n->ys[q]?=xs[q]?):Up rk ys a n:=fun i j hij hj=>by
  rw [R_congr (hc (a + i) (by lia) (by lia)),R_congr (hc (a + j) (by lia) (by lia))]
  exact h i j hij hj
theorem Rn.congr:∀ {l:List (Nat×Nat×Nat)} {a e:Nat},Rn rk xs a l e->(∀ q,a<=q->q < e->ys[q]?=xs[q]?)->Rn rk ys a l e
  | [],a,e,h,_=>h
  | t::l,a,e,⟨h1,h2,h3,h4⟩,hc=>by
    have:=h4.le
    exact ⟨h1,h2,h3.congr fun q q1 q2=>hc q q1 (by lia),h4.congr fun q q1 q2=>hc q (by lia) q2⟩
theorem Rn.pow:∀ {l l':List (Nat×Nat×Nat)} {a e:Nat},Rn rk xs a l e->l'.map (fun t=>(t.1,t.2.1))=l.map (fun t=>(t.1,t.2.1))->Rn rk xs a l' e
  | [],l',a,e,h,hm=>by
    obtain rfl:l'=[]:=by simpa using hm
    exact h
  | t::l,[],a,e,h,hm=>by cases hm
  | t::l,t'::l',a,e,⟨h1,h2,h3,h4⟩,hm=>by
    simp only [List.map_cons,List.cons.injEq,Prod.mk.injEq] at hm
    obtain ⟨⟨m1,m2⟩,m3⟩:=hm
    exact ⟨m1.trans h1,by rw [m2];exact h2,by rw [m2];exact h3,by rw [m2];exact h4.pow m3⟩
theorem map_modify (f:Nat×Nat×Nat->Nat×Nat×Nat) (hf:∀ t,((f t).1,(f t).2.1)=(t.1,t.2.1)):∀ (l:List (Nat×Nat×Nat)) (i:Nat),(l.modify i f).map (fun t=>(t.1,t.2.1))=l.map (fun t=>(t.1,t.2.1))
  | [],i=>by simp
  | t::l,0=>by simp only [List.modify_zero_cons,List.map_cons,hf]
  | t::l,i + 1=>by simp only [List.modify_succ_cons,List.map_cons,map_modify f hf l i]
theorem split2 {α:Type} (l:List α) (i:Nat) (h:i + 1 < l.length):l=l.take i++(l[i]::l[i + 1]::l.drop (i + 2)):=by
  conv=>lhs;rw [<- List.take_append_drop i l,List.drop_eq_getElem_cons (by lia),List.drop_eq_getElem_cons (by lia)]
theorem put2 {α:Type} (P:List α) (t u v:α) (S:List α) (i:Nat) (hP:P.length=i):((P++(t::u::S)).set i v).eraseIdx (i + 1)=P++(v::S):=by
  subst hP
  induction P with
  | nil=>rfl
  | cons p P ih =>
    simp only [List.cons_append,List.length_cons,List.set_cons_succ,List.eraseIdx_cons_succ,ih]
end
section
variable {prog:Program} {w:World} {A:Around} {E:Value->Shared->Prop} {s:Shared} {a₀:Array Keyed} {κ:SortKind} {rk:Keyed->Int}
structure Sr (κ:SortKind) (rk:Keyed->Int) (a₀:Array Keyed) (lo:Nat) (st:SortSt):Prop where
  perm:(arrOf st).Perm a₀
  kind:kindOf st=κ
  failed:failedOf st=none
  runs:Rn rk (arrOf st) 0 (pendingOf st).toList lo
theorem wpS_mergeR {st:SortSt} {i e:Nat} {Q:Bool->SortSt->Prop} (h0:Ax prog w A s κ rk a₀) (h:Sr κ rk a₀ e st) (he:e<=a₀.size) (hi:i + 1 < (pendingOf st).size)
    (hq:∀ st',Sr κ rk a₀ e st'->(pendingOf st').size + 1=(pendingOf st).size->(∀ q,e<=q->(arrOf st')[q]?=(arrOf st)[q]?)->Q true st'):wpS (model prog w) A E s (mergeAt' i) Q st:=by
  have hr:=h.runs
  have sp:=split2 (pendingOf st).toList i (by simpa using hi)
  generalize hpre:(pendingOf st).toList.take i=pre at sp
  generalize (pendingOf st).toList.drop (i + 2)=post at sp
  have lp:pre.length=i:=by rw [<- hpre,List.length_take];simp;lia
  rw [sp] at hr
  obtain ⟨m,r1,h1,h2,h3,h4,h5,h6,h7⟩:=Rn.app.mp hr
  simp only [Array.getElem_toList] at h1 h2 h3 h4 h5 h6 h7 sp
  have e1:(pendingOf st)[i]?=some (m,(pendingOf st)[i].2.1,(pendingOf st)[i].2.2):=by
    rw [getElem?_pos _ i (by lia)]
    exact congrArg some (Prod.ext h1 rfl)
  have e2:(pendingOf st)[i + 1]?=some (m + (pendingOf st)[i].2.1,(pendingOf st)[i + 1].2.1,(pendingOf st)[i + 1].2.2):=by
    rw [getElem?_pos _ (i + 1) (by lia)]
    exact congrArg some (Prod.ext h4 rfl)
  have l7:=h7.le
  refine wpS_mergeAt h0 h.perm h.kind h.failed e1 e2 h2 h5 (by lia) h3 h6 fun st' p1 p2 p3 p4 p5 p6=>?_
  have e3:(pendingOf st').toList=pre++((m,(pendingOf st)[i].2.1 + (pendingOf st)[i + 1].2.1,(pendingOf st)[i].2.2)::post):=by
    rw [p4,Array.toList_eraseIdxIfInBounds,Array.toList_setIfInBounds,sp]
    exact put2 _ _ _ _ _ _ lp
  refine hq st' ⟨p1,p2,p3,?_⟩ ?_ fun q hq=>p5 q (.inr (by lia))
  . rw [e3]
    have l1:=r1.le
    refine Rn.app.mpr ⟨m,r1.congr fun q _ q2=>p5 q (.inl q2),rfl,by show 1<=_ + _;lia,p6,?_⟩
    show Rn rk (arrOf st') (m + (_ + _)) post e
    rw [<- Nat.add_assoc]
    exact h7.congr fun q q1 _=>p5 q (.inr q1)
  . have q1:=congrArg List.length e3
    have q2:=congrArg List.length sp
    simp only [Array.length_toList,List.length_append,List.length_cons] at q1 q2
    lia
theorem Sr.push {st:SortSt} {lo n:Nat} (h:Sr κ rk a₀ lo st) (hn:1<=n) (hu:Up rk (arrOf st) lo n):Sr κ rk a₀ (lo + n) (setPending st ((pendingOf st).push (lo,n,0))):=by
  refine ⟨h.perm,h.kind,h.failed,?_⟩
  show Rn rk (arrOf st) 0 ((pendingOf st).push (lo,n,0)).toList (lo + n)
  rw [Array.toList_push]
  exact Rn.app.mpr ⟨lo,h.runs,rfl,hn,hu,rfl⟩
theorem Sr.repow {st:SortSt} {lo:Nat} (h:Sr κ rk a₀ lo st) (f:Nat×Nat×Nat->Nat×Nat×Nat) (hf:∀ t,((f t).1,(f t).2.1)=(t.1,t.2.1)) {i:Nat}:Sr κ rk a₀ lo (setPending st ((pendingOf st).modify i f)):=by
  refine ⟨h.perm,h.kind,h.failed,h.runs.pow ?_⟩
  show ((pendingOf st).modify _ _).toList.map _=_
  rw [Array.toList_modify]
  exact map_modify f hf _ _
theorem minRun_pos:∀ (f n r:Nat),1<=n + r->1<=minRun' f n r
  | 0,n,r,h=>h
  | f + 1,n,r,h=>by
    rw [minRun'_succ]
    split
    . exact h
    . exact minRun_pos f (n / 2) (max r (n % 2)) (by lia)
theorem wpS_sortRuns {st:SortSt} {Q:Unit->SortSt->Prop} (h0:Ax prog w A s κ rk a₀) (hp:arrOf st=a₀) (hk:kindOf st=κ) (hf:failedOf st=none) (hpd:pendingOf st=#[]) (h2:2<=a₀.size)
    (hq:∀ st',(arrOf st').Perm a₀->failedOf st'=none->Up rk (arrOf st') 0 a₀.size->Q () st'):wpS (model prog w) A E s sortRuns' Q st:=by
  rw [sortRuns'_eq]
  refine wpS_bind (wpS_get ?_)
  dsimp only
  rw [hp]
  have mr:1<=minRun' a₀.size a₀.size 0:=minRun_pos _ _ _ (by lia)
  refine wpS_bind (wpS_mono (wpS_forRange (I:=fun x c st'=>∃ lo,c=(none,lo)/\x<=lo/\lo<=a₀.size/\Sr κ rk a₀ lo st')
    (Q:=fun c st'=>c=(none,a₀.size)/\Sr κ rk a₀ a₀.size st') ?step ?fin ⟨0,rfl,Nat.le_refl _,by lia,by rw [hp],hk,hf,by rw [hpd];rfl⟩) ?post)
  case fin =>
    rintro c st' ⟨lo,rfl,h1,h2,hS⟩
    obtain rfl:lo=a₀.size:=by lia
    exact ⟨rfl,hS⟩
  case post =>
    rintro c st' ⟨rfl,hS⟩
    dsimp only
    refine wpS_bind (wpS_mono (wpS_forRange (I:=fun x c st''=>c=(none,())/\Sr κ rk a₀ a₀.size st''/\((pendingOf st'').size<=1∨(pendingOf st'').size + x<=a₀.size))
      (Q:=fun c st''=>c=(none,())/\Sr κ rk a₀ a₀.size st''/\(pendingOf st'').size<=1) ?s2 ?f2 ⟨rfl,hS,.inr (by have:=hS.runs.le;simpa using this)⟩) ?p2)
    case f2 =>
      rintro c st'' ⟨rfl,hS,hl⟩
      exact ⟨rfl,hS,by lia⟩
    case s2 =>
      rintro x c st'' _ hx ⟨rfl,hS,hl⟩
      refine wpS_bind (wpS_get ?_)
      refine wpS_ite (fun e=>wpS_pure ⟨rfl,hS,e⟩) fun e=>?_
      have ite_le:∀ (c:Prop) [Decidable c],(if c then (pendingOf st'').size - 2 - 1 else (pendingOf st'').size - 2) + 1 < (pendingOf st'').size:=fun c _=>by split <;> lia
      refine wpS_bind (wpS_mergeR h0 hS (Nat.le_refl _) ?_ fun st2 hS2 hz _=>?_)
      . exact ite_le _
      . simp only [Bool.not_true,Bool.false_eq_true,if_false]
        exact wpS_pure ⟨rfl,hS2,by lia⟩
    case p2 =>
      rintro c st'' ⟨rfl,hS,hl⟩
      dsimp only
      refine wpS_pure (hq st'' hS.perm hS.failed ?_)
      have hr:=hS.runs
      cases e:(pendingOf st'').toList with
      | nil=>rw [e] at hr;simp only [Rn] at hr;lia
      | cons t l =>
        have:l=[]:=by
          have:=congrArg List.length e
          simp only [Array.length_toList,List.length_cons] at this
          exact List.length_eq_zero_iff.mp (by lia)
        subst this
        rw [e] at hr
        obtain ⟨_,_,r3,r4⟩:=hr
        simp only [Rn] at r4
        rw [show t.2.1=a₀.size by lia] at r3
        exact r3
  case step =>
    rintro x c st' _ hx ⟨lo,rfl,h1,h3,hS⟩
    dsimp only
    refine wpS_ite (fun e=>?_) fun e=>?_
    . obtain rfl:lo=a₀.size:=by lia
      exact wpS_pure ⟨rfl,hS⟩
    . have hB:SB κ a₀ (arrOf st') (pendingOf st') lo st':=⟨hS.perm,hS.kind,hS.failed,rfl,fun _ _=>rfl⟩
      have back:∀ st2,SB κ a₀ (arrOf st') (pendingOf st') lo st2->Sr κ rk a₀ lo st2:=fun st2 hB2=>⟨hB2.perm,hB2.kind,hB2.failed,by
        rw [hB2.pend]
        exact hS.runs.congr fun q _ q2=>hB2.keep q q2⟩
      refine wpS_bind (wpS_count h0 (show lo + (a₀.size - lo)<=a₀.size by lia) (by lia) hB fun m st2 hB2 m1 m2 um=>?_)
      dsimp only
      refine wpS_ite (fun c=>?_) fun c=>?_
      . refine wpS_bind (wpS_lift (wpAny_rule ⟨rfl,?_⟩))
        refine wpS_bind (wpS_bin h0 (show lo + min (a₀.size - lo) (minRun' a₀.size a₀.size 0)<=a₀.size by lia) (by lia) hB2 um fun st3 hB3 u3=>?_)
        simp only [Bool.not_true,Bool.false_eq_true,if_false]
        have hS0:=back st3 hB3
        have hcong:∀ st4,Sr κ rk a₀ lo st4->(∀ q,lo<=q->(arrOf st4)[q]?=(arrOf st3)[q]?)->Sr κ rk a₀ (lo + min (a₀.size - lo) (minRun' a₀.size a₀.size 0)) (setPending st4 ((pendingOf st4).push (lo,min (a₀.size - lo) (minRun' a₀.size a₀.size 0),0))):=fun st4 h4 hk4=>h4.push (by lia) (u3.congr fun q q1 _=>hk4 q q1)
        refine wpS_bind (wpS_get ?_)
        cases cc:(pendingOf st3).back? with
        | none =>
          dsimp only
          exact wpS_bind (wpS_modify (wpS_pure ⟨_,rfl,by lia,by lia,hcong _ hS0 fun _ _=>rfl⟩))
        | some t =>
          obtain ⟨s1,n1,p1⟩:=t
          dsimp only
          refine wpS_bind (wpS_mono (wpS_forRange (I:=fun _ c st'=>c=(none,())/\Sr κ rk a₀ lo st'/\∀ q,lo<=q->(arrOf st')[q]?=(arrOf st3)[q]?)
            (Q:=fun c st'=>c=(none,())/\Sr κ rk a₀ lo st'/\∀ q,lo<=q->(arrOf st')[q]?=(arrOf st3)[q]?) ?stepv (fun _ _ hh=>hh) ⟨rfl,hS0,fun _ _=>rfl⟩) ?postv)
          case postv =>
            rintro c st' ⟨rfl,hS,hk⟩
            dsimp only
            refine wpS_bind (wpS_modify (wpS_bind (wpS_modify (wpS_pure ⟨_,rfl,by lia,by lia,hcong _ (hS.repow _ ?_) hk⟩))))
            exact fun t=>rfl
          case stepv =>
            rintro x c st' _ hx ⟨rfl,hS,hk⟩
            refine wpS_bind (wpS_get ?_)
            by_cases c:(pendingOf st').size > 1
            . rw [if_pos c,getElem?_pos (pendingOf st') ((pendingOf st').size - 2) (by lia)]
              dsimp only
              refine wpS_ite (fun _=>wpS_pure ⟨rfl,hS,hk⟩) fun _=>?_
              refine wpS_bind (wpS_mergeR h0 hS (by lia) (by lia) fun st2 hS2 _ hk2=>?_)
              simp only [Bool.not_true,Bool.false_eq_true,if_false]
              exact wpS_pure ⟨rfl,hS2,fun q hq=>(hk2 q hq).trans (hk q hq)⟩
            . rw [if_neg c]
              exact wpS_pure ⟨rfl,hS,hk⟩
      . have hS0:=back st2 hB2
        have hcong:∀ st4,Sr κ rk a₀ lo st4->(∀ q,lo<=q->(arrOf st4)[q]?=(arrOf st2)[q]?)->Sr κ rk a₀ (lo + m) (setPending st4 ((pendingOf st4).push (lo,m,0))):=fun st4 h4 hk4=>h4.push (by lia) (um.congr fun q q1 _=>hk4 q q1)
        refine wpS_bind (wpS_get ?_)
        cases cc:(pendingOf st2).back? with
        | none =>
          dsimp only
          exact wpS_bind (wpS_modify (wpS_pure ⟨_,rfl,by lia,by lia,hcong _ hS0 fun _ _=>rfl⟩))
        | some t =>
          obtain ⟨s1,n1,p1⟩:=t
          dsimp only
          refine wpS_bind (wpS_mono (wpS_forRange (I:=fun _ c st'=>c=(none,())/\Sr κ rk a₀ lo st'/\∀ q,lo<=q->(arrOf st')[q]?=(arrOf st2)[q]?)
            (Q:=fun c st'=>c=(none,())/\Sr κ rk a₀ lo st'/\∀ q,lo<=q->(arrOf st')[q]?=(arrOf st2)[q]?) ?stepv (fun _ _ hh=>hh) ⟨rfl,hS0,fun _ _=>rfl⟩) ?postv)
          case postv =>
            rintro c st' ⟨rfl,hS,hk⟩
            dsimp only
            refine wpS_bind (wpS_modify (wpS_bind (wpS_modify (wpS_pure ⟨_,rfl,by lia,by lia,hcong _ (hS.repow _ ?_) hk⟩))))
            exact fun t=>rfl
          case stepv =>
            rintro x c st' _ hx ⟨rfl,hS,hk⟩
            refine wpS_bind (wpS_get ?_)
            by_cases c:(pendingOf st').size > 1
            . rw [if_pos c,getElem?_pos (pendingOf st') ((pendingOf st').size - 2) (by lia)]
              dsimp only
              refine wpS_ite (fun _=>wpS_pure ⟨rfl,hS,hk⟩) fun _=>?_
              refine wpS_bind (wpS_mergeR h0 hS (by lia) (by lia) fun st2 hS2 _ hk2=>?_)
              simp only [Bool.not_true,Bool.false_eq_true,if_false]
              exact wpS_pure ⟨rfl,hS2,fun q hq=>(hk2 q hq).trans (hk q hq)⟩
            . rw [if_neg c]
              exact wpS_pure ⟨rfl,hS,hk⟩
end
end Sb
namespace Sb
open PySem PySem.W PyProof.Rows So
noncomputable def rkI (lt:Nat->Nat->Bool) (n i:Nat):Int:=((List.range n).filter fun j=>lt j i).length
theorem sub_len {α:Type} {p q:α->Bool}:∀ {l:List α},(∀ x∈l,p x=true->q x=true)->(l.filter p).length<=(l.filter q).length
  | [],_=>Nat.le_refl _
  | x::l,h=>by
    have ih:=sub_len (l:=l) fun y hy=>h y (.tail _ hy)
    have hx:=h x (.head _)
    rw [List.filter_cons,List.filter_cons]
    cases c:p x with
    | false =>
      simp only [Bool.false_eq_true,if_false]
      split
      . simp only [List.length_cons];lia
      . exact ih
    | true =>
      rw [hx c]
      simp only [if_true,List.length_cons];lia
theorem sub_lt {α:Type} {p q:α->Bool}:∀ {l:List α} {z:α},(∀ x∈l,p x=true->q x=true)->z∈l->p z=false->q z=true->(l.filter p).length < (l.filter q).length
  | [],_,_,hz,_,_=>by cases hz
  | x::l,z,h,hz,pz,qz=>by
    have ih0:=sub_len (l:=l) fun y hy=>h y (.tail _ hy)
    have hx:=h x (.head _)
    rw [List.filter_cons,List.filter_cons]
    rcases List.mem_cons.mp hz with rfl|hz
    . rw [pz,qz]
      simp only [Bool.false_eq_true,if_false,if_true,List.length_cons];lia
    . have ih:=sub_lt (l:=l) (fun y hy=>h y (.tail _ hy)) hz pz qz
      cases c:p x with
      | false =>
        simp only [Bool.false_eq_true,if_false]
        split
        . simp only [List.length_cons];lia
        . exact ih
      | true =>
        rw [hx c]
        simp only [if_true,List.length_cons];lia
theorem rk_lt {lt:Nat->Nat->Bool} (O:Ord lt) {n i j:Nat} (hi:i < n):decide (rkI lt n i < rkI lt n j)=lt i j:=by
  unfold rkI
  cases c:lt i j with
  | true =>
    refine decide_eq_true (Int.ofNat_lt.mpr (sub_lt (z:=i) (fun k _ hk=>?_) (List.mem_range.mpr hi) (irr O i) c))
    cases d:lt k j with
    | true=>rfl
    | false =>
      have h1:lt i k=false:=O.as k i hk
      have h2:=O.tr j k i d h1
      rw [c] at h2;cases h2
  | false =>
    refine decide_eq_false fun q=>?_
    have q:=Int.ofNat_lt.mp q
    have:=sub_len (p:=fun k=>lt k j) (q:=fun k=>lt k i) (l:=List.range n) fun k _ hk=>by
      cases d:lt k i with
      | true=>rfl
      | false =>
        have h2:=O.tr j i k c d
        rw [hk] at h2;cases h2
    lia
theorem perm_idx {α:Type} {d:α} {l1 l2:List α} (h:l1.Perm l2):∃ q:List Nat,q.Perm (List.range l2.length)/\l1=q.map fun i=>l2.getD i d:=by
  induction h with
  | nil=>exact ⟨[],.refl _,rfl⟩
  | cons x h ih =>
    obtain ⟨q,hq,e⟩:=ih
    refine ⟨0::q.map (· + 1),?_,?_⟩
    . rw [List.length_cons,List.range_succ_eq_map]
      exact (hq.map _).cons 0
    . rw [List.map_cons,List.map_map,e]
      simp [Function.comp_def]
  | swap x y l =>
    refine ⟨1::0::(List.range l.length).map (· + 2),?_,?_⟩
    . rw [List.length_cons,List.length_cons,List.range_succ_eq_map,List.range_succ_eq_map,List.map_cons,List.map_map]
      exact List.Perm.swap 0 1 _
    . rw [List.map_cons,List.map_cons,List.map_map]
      have:l=(List.range l.length).map fun i=>l.getD i d:=by
        apply List.ext_getElem
        . simp
        . intro i h1 h2;simp [h1]
      simp only [Function.comp_def]
      rw [List.getD_cons_succ,List.getD_cons_zero,List.getD_cons_zero]
      congr 2
  | trans h1 h2 ih1 ih2 =>
    obtain ⟨q1,p1,e1⟩:=ih1
    obtain ⟨q2,p2,e2⟩:=ih2
    have l2:=h2.length_eq
    have lq:=p2.length_eq
    rw [List.length_range] at lq
    refine ⟨q1.map fun i=>q2.getD i 0,?_,?_⟩
    . refine (p1.map _).trans (List.Perm.trans (List.Perm.of_eq ?_) p2)
      apply List.ext_getElem
      . simp;lia
      . intro i h1 h2
        simp only [List.length_map,List.length_range] at h1
        simp only [List.getElem_map,List.getElem_range,List.getD_eq_getElem?_getD]
        rw [List.getElem?_eq_getElem h2];rfl
    . rw [e1,List.map_map]
      refine List.map_congr_left fun i hi=>?_
      have hi':i < q2.length:=by
        have:=List.mem_range.mp (p1.mem_iff.mp hi)
        lia
      show List.getD _ i d=List.getD _ (List.getD q2 i 0) d
      rw [e2]
      simp only [List.getD_eq_getElem?_getD,List.getElem?_map,List.getElem?_eq_getElem hi',Option.map_some,Option.getD_some]
section
variable {prog:Program} {w:World} {A:Around} {E:Value->Shared->Prop} {s:Shared}
theorem runs_any {lt:Nat->Nat->Bool} {κ:SortKind} {vs:List Value} {Q:SortSt->Shared->Prop} (O:Ord lt) (h2:2<=vs.length) (ha:Asks prog w A κ vs lt s)
    (hd:∀ i i',i < vs.length->i' < vs.length->vs.getD i Value.none=vs.getD i' Value.none->∀ j,lt j i=lt j i')
    (h:∀ st,Sorted lt vs st->Q st s):wpAny (model prog w) A ((sortRuns').run (SortSt.mk' κ (vs.toArray.zip vs.toArray) #[] 7 none)) (fun r s'=>Q r.2 s') E s:=by
  classical
  let it:Nat->Keyed:=fun i=>(vs.getD i Value.none,vs.getD i Value.none)
  let rk:Keyed->Int:=fun x=>if h:∃ i,i < vs.length/\it i=x then rkI lt vs.length (Classical.choose h) else 0
  have rki:∀ i,i < vs.length->rk (it i)=rkI lt vs.length i:=fun i hi=>by
    have ex:∃ j,j < vs.length/\it j=it i:=⟨i,hi,rfl⟩
    show (if h:∃ j,j < vs.length/\it j=it i then rkI lt vs.length (Classical.choose h) else 0)=_
    rw [dif_pos ex]
    obtain ⟨c1,c2⟩:=Classical.choose_spec ex
    unfold rkI
    have:=hd _ i c1 hi (congrArg Prod.fst c2)
    rw [show (fun j=>lt j (Classical.choose ex))=fun j=>lt j i from funext this]
  have hz:(vs.toArray.zip vs.toArray).toList=(List.range vs.length).map it:=by
    apply List.ext_getElem
    . simp
    . intro i h1 h2
      simp at h1
      simp [it,h1]
  have hsz:(vs.toArray.zip vs.toArray).size=vs.length:=by simp
  have hA:Ax prog w A s κ rk (vs.toArray.zip vs.toArray):=by
    intro x y C E' hx hy hC
    rw [hz] at hx hy
    obtain ⟨i,hi,rfl⟩:=List.mem_map.mp hx
    obtain ⟨j,hj,rfl⟩:=List.mem_map.mp hy
    have hi:=List.mem_range.mp hi
    have hj:=List.mem_range.mp hj
    rw [rki i hi,rki j hj,rk_lt O hi] at hC
    exact ha i j C E' hi hj hC
  have main:=wpS_sortRuns (prog:=prog) (w:=w) (A:=A) (E:=E) (s:=s) (st:=SortSt.mk' κ (vs.toArray.zip vs.toArray) #[] 7 none) (Q:=fun _ st=>Sorted lt vs st) hA rfl rfl rfl rfl (by rw [hsz];exact h2) fun st p1 p2 p3=>?_
  . exact wpAny_mono main (fun r s' ⟨e,hs⟩=>by subst e;exact h _ hs) fun _ _ e=>e
  . obtain ⟨q,hq,e⟩:=perm_idx (d:=it 0) (Array.perm_iff_toList_perm.mp p1)
    have ln:(vs.toArray.zip vs.toArray).toList.length=vs.length:=by simp
    rw [ln] at hq
    have lq:=hq.length_eq
    rw [List.length_range] at lq
    have qlt:∀ i∈q,i < vs.length:=fun i hi=>List.mem_range.mp (hq.mem_iff.mp hi)
    have e':(arrOf st).toList=q.map it:=by
      rw [e]
      refine List.map_congr_left fun i hi=>?_
      rw [hz,List.getD_eq_getElem?_getD,List.getElem?_map,List.getElem?_range (qlt i hi)];rfl
    refine ⟨q.toArray,⟨by simp [lq],fun i=>?_,by simpa using hq⟩,fun i j hij hj=>?_,?_,p2⟩
    . rw [Array.getD_eq_getD_getElem?]
      by_cases c:i < q.length
      . have:q.toArray[i]?=some q[i]:=by simp [c]
        rw [this];exact qlt _ (List.getElem_mem c)
      . have:q.toArray[i]?=none:=by simp;lia
        rw [this];show 0 < vs.length;lia
    . have hi':i < q.length:=by lia
      have hj':j < q.length:=by lia
      have g:∀ k (hk:k < q.length),R rk (arrOf st) k=rkI lt vs.length q[k]:=fun k hk=>by
        rw [<- rki _ (qlt _ (List.getElem_mem hk))]
        refine R_at ?_
        rw [<- Array.getElem?_toList,e',List.getElem?_map,List.getElem?_eq_getElem hk];rfl
      have u:=p3 i j (by lia) (by rw [hsz];exact hj)
      rw [Nat.zero_add,Nat.zero_add,g i hi',g j hj'] at u
      have e1:q.toArray.getD i 0=q[i]:=by simp [Array.getD_eq_getD_getElem?,hi']
      have e2:q.toArray.getD j 0=q[j]:=by simp [Array.getD_eq_getD_getElem?,hj']
      rw [e1,e2,<- rk_lt O (qlt _ (List.getElem_mem hj'))]
      exact decide_eq_false (by lia)
    . apply Array.toList_inj.mp
      rw [Array.toList_map,e',List.map_map]
      rfl
end
end Sb
namespace So
open PySem PySem.W PyProof.Rows PySem.Calls
section
variable {prog:Program} {w:World} {A:Around} {E:Value->Shared->Prop} {s:Shared}
theorem items_inj:∀ {ks js:List Int} {xs:List Value},ItemsAre (intKind prog w) ks xs->ItemsAre (intKind prog w) js xs->ks=js
  | _,_,_,.nil,.nil=>rfl
  | _,_,_,.cons h1 h2,.cons h3 h4=>by
    obtain ⟨t,e1⟩:=Value.isInt_shape h1
    obtain ⟨u,e2⟩:=Value.isInt_shape h3
    rw [e1] at e2
    cases e2
    rw [items_inj h2 h4]
theorem KeysAre.det {h:Heap} {vs:List Value} {kss:List (List Int)} (k:KeysAre prog w h vs kss):∀ i i',i < vs.length->i' < vs.length->vs.getD i Value.none=vs.getD i' Value.none->∀ j,ltK (kss.getD j []) (kss.getD i [])=ltK (kss.getD j []) (kss.getD i' []):=by
  intro i i' hi hi' he j
  obtain ⟨b,e1,o,its,n,q1,q2,q3,q4⟩:=k.2 i vs[i] (List.getElem?_eq_getElem hi)
  obtain ⟨b',e2,o',its',n',r1,r2,r3,r4⟩:=k.2 i' vs[i'] (List.getElem?_eq_getElem hi')
  rw [List.getD_eq_getElem?_getD,List.getD_eq_getElem?_getD,List.getElem?_eq_getElem hi,List.getElem?_eq_getElem hi',Option.getD_some,Option.getD_some,e1,e2] at he
  cases he
  rw [q1] at r1;cases r1
  rw [q3] at r3;cases r3
  rw [items_inj q4 r4]
theorem list_sort_keys {a:Addr} {vs:List Value} {kss:List (List Int)} {n:Nat} {P:PySem.Fin->Shared->Prop} (ho:s.heap.get? a=some (seqObj "list" vs.toArray n))
    (hk:KeysAre prog w s.heap vs kss) (hne:∀ ks∈kss,ks≠[]) (h64:vs.length < 4900)
    (h:∀ (p:Array Nat),SortP kss p->P (.done (.ret .none)) { s with heap:=sortedHeap s.heap a vs (List.toArray (p.toList.map fun i=>vs.getD i Value.none)) }) :
    wpAny (model prog w) A (Builtin.«list.sort» ⟨[.ref a],[]⟩) P E s:=by
  rw [list_sort_plain]
  have ha:a < s.heap.objs.size:=Heap.lt_size ho
  refine wpAny_bind (listItems_at ho rfl ?_)
  refine wpAny_bind (listUpdate_at ho rfl ?_ (by rw [List.size_toArray,sizeLine_eq];lia) (Nat.zero_le _))
  obtain ⟨e1,ho1⟩:∃ e1,(s.heap.update a (Obj.mapSeq fun _=>#[])).get? a=some (seqObj "list" #[] e1):=⟨_,get?_update_seq ho (fun _=>#[])⟩
  refine wpAny_bind (seqEpoch_at ho1 rfl ?_)
  refine wpAny_bind (wpAny_newTuple ?_ (by show vs.length<=_;rw [sizeLine_eq];lia))
  refine wpAny_bind (wpAny_newList ?_ (Nat.zero_le _))
  refine wpAny_holding ?_
  have ho6:(((s.heap.update a (Obj.mapSeq fun _=>#[])).push (seqObj "tuple" vs.toArray 0)).push (seqObj "list" #[] 0)).get? a=some (seqObj "list" #[] e1):=by
    rw [Heap.get?_push_ne _ _ _ (by rw [size_push',Heap.size_update];exact Nat.ne_of_lt (Nat.lt_succ_of_lt ha)),Heap.get?_push_ne _ _ _ (by rw [Heap.size_update];exact Nat.ne_of_lt ha)]
    exact ho1
  show wpAny (model prog w) A _ P E { s with heap:=((s.heap.update a (Obj.mapSeq fun _=>#[])).push (seqObj "tuple" vs.toArray 0)).push (seqObj "list" #[] 0) }
  dsimp only
  have hsz:vs.toArray.size=vs.length:=by simp
  have hk6:KeysAre prog w (((s.heap.update a (Obj.mapSeq fun _=>#[])).push (seqObj "tuple" vs.toArray 0)).push (seqObj "list" #[] 0)) vs kss:=hk.moved fun b o e c=>by
    refine Heap.get?_push_of_some _ (Heap.get?_push_of_some _ ?_)
    have:b≠a:=fun z=>by subst z;rw [ho] at e;cases e;exact absurd (Value.type.inj (show Value.type "list"=Value.type "tuple" from c)) (by decide)
    rw [Heap.get?_update_ne _ _ _ _ this];exact e
  by_cases h2:vs.toArray.size < 2
  . rw [if_pos h2,if_pos h2]
    refine wpAny_bind (wpAny_pure ?_)
    rw [StateT.run_pure]
    refine wpAny_bind (wpAny_pure ?_)
    dsimp only
    refine wpAny_bind (seqEpoch_at ho6 rfl ?_)
    refine wpAny_bind (listUpdate_at ho6 rfl ?_ (hsz2:=by rw [Array.size_map];show (pairsOf vs).size<=_;rw [pairsOf_size,sizeLine_eq];lia))
    simp only [bne_self_eq_false,Bool.false_eq_true,if_false]
    have hz:kss.length < 2:=by rw [hk.1,<- hsz];exact h2
    have hq:=h (List.toArray (List.range kss.length)) (sortP_small hz)
    have e:(arrOf (SortSt.mk' general' (vs.toArray.zip vs.toArray) #[] 7 none)).map (·.2)=List.toArray ((List.toArray (List.range kss.length)).toList.map fun i=>vs.getD i Value.none):=by
      rw [hk.1]
      show (vs.toArray.zip vs.toArray).map (·.2)=_
      apply Array.toList_inj.mp
      apply List.ext_getElem?
      intro i
      simp
      by_cases hi:i < vs.length <;> simp [hi]
    exact wpAny_pure (by rw [e];exact hq)
  . rw [if_neg h2,if_neg h2]
    obtain ⟨fs,ht,hl,hfi⟩:=hk6.tups hne
    have h2':2<=vs.length:=by rw [<- hsz];lia
    refine wpAny_bind (kat_kind (T:=.type "int") ht (by lia) (fun v hv=>?_) rfl ?_)
    . obtain ⟨i,t,rfl⟩:=hfi v hv
      exact Looks.now
    . refine wpAny_bind (wpAny_mono (Sb.runs_any (E:=E) (Q:=fun st' s'=>s'={ s with heap:=((s.heap.update a (Obj.mapSeq fun _=>#[])).push (seqObj "tuple" vs.toArray 0)).push (seqObj "list" #[] 0) }/\Sorted (fun i j=>ltK (kss.getD i []) (kss.getD j [])) vs st') (ord_of kss) h2' hk6.asks hk6.det fun st' hs=>⟨rfl,hs⟩) ?_ fun _ _ e=>e)
      rintro ⟨⟨⟩,st'⟩ s' ⟨rfl,p,a1,a2,a3,hf⟩
      dsimp only at a3 hf ⊢
      refine wpAny_bind (seqEpoch_at ho6 rfl ?_)
      rw [a3]
      refine wpAny_bind (listUpdate_at ho6 rfl ?_ (hsz2:=by simp only [List.size_toArray,List.length_map,Array.length_toList,a1.sz];rw [sizeLine_eq];lia))
      rw [hf]
      simp only [bne_self_eq_false,Bool.false_eq_true,if_false]
      rw [<- hk.1] at a1 a2
      exact wpAny_pure (h p (sortP_of a1 a2))
end
end So
namespace So
open PySem PySem.Spec PySem.W PyProof.Rows PySem.Calls PySem.SetTable Tb
section
variable {prog:Program} {w:World} {A:Around} {E:Value->Shared->Prop} {s:Shared} {U:Addr->List Int->Prop}
noncomputable def SetO (prog:Program) (w:World) (U:Addr->List Int->Prop) (o:Obj) (kss:List (List Int)):Prop :=
  ∃ (L:List Ent) (ep:Nat) (t:SetTable) (f:Int×Value->List Int),o=setObj L ep t/\Good t L/\L.length * 5 < t.mask * 3/\t.mask < 8192/\(t.plain=true/\t.led=!byT w)/\(∀ e∈L,∃ b,e.2.2=.ref b/\e.2.1=hK prog w (f e.2)/\U b (f e.2))/\(L.map fun e=>f e.2).Perm kss/\kss.Nodup
theorem SetAt.obj {h:Heap} {a:Addr} {kss:List (List Int)} (x:SetAt prog w U h a kss):∃ o,h.get? a=some o/\SetO prog w U o kss:=by
  obtain ⟨L,ep,t,f,ho,g,room,mb,pl,hf,hp,nd,uu⟩:=x
  refine ⟨_,ho,L,ep,t,f,rfl,g,room,mb,pl,fun e he=>?_,hp,nd⟩
  obtain ⟨b,h1,h2,h3⟩:=hf e he
  exact ⟨b,h1,h3,uu e he b h1⟩
theorem SetO.at {h:Heap} {a:Addr} {o:Obj} {kss:List (List Int)} (x:SetO prog w U o kss) (ho:h.get? a=some o) (hU:∀ b ks,U b ks->IsTupleKey (intKind prog w) h ks b):SetAt prog w U h a kss:=by
  obtain ⟨L,ep,t,f,rfl,g,room,mb,pl,hf,hp,nd⟩:=x
  refine ⟨L,ep,t,f,ho,g,room,mb,pl,fun e he=>?_,hp,nd,fun e he b hb=>?_⟩
  . obtain ⟨b,h1,h2,h3⟩:=hf e he
    exact ⟨b,h1,hU _ _ h3,h2⟩
  . obtain ⟨b',h1,h2,h3⟩:=hf e he
    rw [hb] at h1;cases h1;exact h3
noncomputable def OutOf (U:Addr->List Int->Prop) (out:List Value) (kss:List (List Int)):Prop:=out.length=kss.length/\∀ (i:Nat) v,out[i]?=some v->∃ b,v=.ref b/\U b (kss.getD i [])
theorem sortK_perm_eq {l l':List (List Int)} (p:l.Perm l'):sortK l=sortK l':=sortK_of ((sortK_perm l).trans p) (sortK_pw l)
theorem out_sorted {vs:List Value} {kss kss':List (List Int)} {p:Array Nat} (ho:OutOf U vs kss') (hp:SortP kss' p) (pm:kss'.Perm kss):OutOf U (p.toList.map fun i=>vs.getD i Value.none) (sortK kss):=by
  rw [<- sortK_perm_eq pm,<- hp.2]
  refine ⟨by simp,fun i v hv=>?_⟩
  rw [List.getElem?_map] at hv
  cases e:p.toList[i]? with
  | none=>rw [e] at hv;cases hv
  | some j =>
    rw [e] at hv
    simp at hv
    have hj:j < kss'.length:=by
      have:j∈List.range kss'.length:=hp.1.mem_iff.mp (List.mem_of_getElem? e)
      simpa using this
    have hj':j < vs.length:=by rw [ho.1];exact hj
    obtain ⟨b,q1,q2⟩:=ho.2 j vs[j] (List.getElem?_eq_getElem hj')
    refine ⟨b,?_,?_⟩
    . rw [<- hv];simp [hj',q1]
    . have:((p.toList.map fun i=>kss'.getD i []).getD i [])=kss'.getD j []:=by
        rw [List.getD_eq_getElem?_getD,List.getElem?_map,e];rfl
      rw [this];exact q2
theorem sorted_of {x:Value} {vs:List Value} {kss:List (List Int)} {Q:Value->Shared->Prop}
    (hcol:∀ (Q':List Value->Shared->Prop) (E':Value->Shared->Prop),(∀ h' tk,(∀ b o,s.heap.get? b=some o->h'.get? b=some o)->s.heap.objs.size<=h'.objs.size->Q' vs { s with heap:=h',toks:=tk })->wpAny (model prog w) A.in1 (collect x) Q' E' s)
    (hk:KeysAre prog w s.heap vs kss) (hne:∀ ks∈kss,ks≠[]) (h64:vs.length < 4900)
    (h:∀ h' tk l n p,(∀ b o,s.heap.get? b=some o->h'.get? b=some o)->s.heap.objs.size<=l->SortP kss p->h'.get? l=some (seqObj "list" (List.toArray (p.toList.map fun i=>vs.getD i Value.none)) n)->Q (.ref l) { s with heap:=h',toks:=tk }) :
    wpAny (model prog w) A (call (.builtin "sorted") [x]) Q E s:=by
  refine Calls.call_function_entry kind_sorted plain_sorted entry_sorted (args_sorted1 _) ?_
  unfold Builtin.«sorted»
  refine wpAny_bind (m:=checkCount "sorted" 1 1 _) (wpAny_pure ?_)
  refine wpAny_bind (hcol _ _ fun h1 tk k1 z1=>?_)
  refine wpAny_bind (wpAny_newList ?_ (by rw [sizeLine_eq];lia))
  have hoL:(h1.push (seqObj "list" vs.toArray 0)).get? h1.objs.size=some (seqObj "list" vs.toArray 0):=Heap.get?_push_size _ rfl
  have k2:∀ b o,s.heap.get? b=some o->(h1.push (seqObj "list" vs.toArray 0)).get? b=some o:=fun b o e=>Heap.get?_push_of_some _ (k1 b o e)
  show wpAny _ _ _ _ _ { s with heap:=h1.push (seqObj "list" vs.toArray 0),toks:=tk }
  refine wpAny_bind (wpAny_holding (wpAny_call_entry slot_list_sort ⟨_,hoL,rfl⟩ entry_list_sort (list_sort_keys hoL (hk.moved fun b o e _=>k2 b o e) hne h64 fun p hp=>⟨_,rfl,?_⟩) (args_list_sort _)))
  refine wpAny_pure ⟨_,rfl,?_⟩
  unfold sortedHeap
  have ne1:∀ b o,s.heap.get? b=some o->b≠h1.objs.size:=fun b o e=>Nat.ne_of_lt (Nat.lt_of_lt_of_le (Heap.lt_size e) z1)
  have g0:=Heap.get?_push_of_some (seqObj "list" #[] 0) (Heap.get?_push_of_some (seqObj "tuple" vs.toArray 0) (get?_update_seq hoL (fun _=>#[])))
  refine h _ _ _ _ p (fun b o e=>?_) z1 hp (get?_update_seq g0 (fun _=>List.toArray (p.toList.map fun i=>vs.getD i Value.none)))
  rw [Heap.get?_update_ne _ _ _ _ (ne1 b o e)]
  refine Heap.get?_push_of_some _ (Heap.get?_push_of_some _ ?_)
  rw [Heap.get?_update_ne _ _ _ _ (ne1 b o e)]
  exact k2 b o e
theorem sorted_set {D:Addr} {kss:List (List Int)} {Q:Value->Shared->Prop} (hh:A.handled=none) (hS:SetAt prog w U s.heap D kss) (hne:∀ ks∈kss,ks≠[]) (h64:kss.length < 4900)
    (h:∀ h' tk l n (out:List Value),(∀ b o,s.heap.get? b=some o->h'.get? b=some o)->s.heap.objs.size<=l->OutOf U out (sortK kss)->h'.get? l=some (seqObj "list" out.toArray n)->Q (.ref l) { s with heap:=h',toks:=tk }) :
    wpAny (model prog w) A (call (.builtin "sorted") [.ref D]) Q E s:=by
  obtain ⟨L,ep,t,f,ho,g,room,mb,pl,hf,hp,nd,uu⟩:=hS
  have hlen:L.length=kss.length:=by have:=hp.length_eq;simpa using this
  have h7:=g.m7
  have gs:Goes w L t:=⟨g.lies (by lia),by lia,pl.1,pl.2⟩
  have op:=outs_perm w D ep L
  have osz:(outs w D ep L).toList.length=L.length:=by rw [Array.length_toList,outs_size]
  have kp:((outs w D ep L).toList.map f).Perm kss:=((op.map f).trans (List.Perm.of_eq (by rw [List.map_map];rfl))).trans hp
  have each:∀ x∈(outs w D ep L).toList,∃ b,x.2=.ref b/\IsTupleKey (intKind prog w) s.heap (f x) b/\U b (f x):=fun x hx=>by
    obtain ⟨e,he,rfl⟩:=List.mem_map.mp (op.mem_iff.mp hx)
    obtain ⟨b,h1,h2,h3⟩:=hf e he
    exact ⟨b,h1,h2,uu e he b h1⟩
  have at_:∀ (i:Nat) v,((outs w D ep L).toList.map (·.2))[i]?=some v->∃ x,x∈(outs w D ep L).toList/\v=x.2/\((outs w D ep L).toList.map f).getD i []=f x:=fun i v hv=>by
    rw [List.getElem?_map] at hv
    cases e:(outs w D ep L).toList[i]? with
    | none=>rw [e] at hv;cases hv
    | some x =>
      rw [e] at hv
      refine ⟨x,List.mem_of_getElem? e,(Option.some.inj hv).symm,?_⟩
      rw [List.getD_eq_getElem?_getD,List.getElem?_map,e];rfl
  refine sorted_of (vs:=(outs w D ep L).toList.map (·.2)) (kss:=(outs w D ep L).toList.map f) (fun Q' E' hq=>?_) ⟨by simp,fun i v hv=>?_⟩ (fun ks hks=>?_) (by rw [List.length_map,osz];lia) fun h' tk l n p k hl hsp hg=>?_
  . exact collect_set (by simpa using hh) ho gs (by lia) hq
  . obtain ⟨x,hx,rfl,e⟩:=at_ i v hv
    obtain ⟨b,h1,h2,h3⟩:=each x hx
    exact ⟨b,h1,by rw [e];exact h2⟩
  . exact hne ks (kp.mem_iff.mp hks)
  . refine h h' tk l n _ k hl (out_sorted ⟨by simp,fun i v hv=>?_⟩ hsp kp) hg
    obtain ⟨x,hx,rfl,e⟩:=at_ i v hv
    obtain ⟨b,h1,h2,h3⟩:=each x hx
    exact ⟨b,h1,by rw [e];exact h3⟩
end
end So
namespace Vl
open PySem PySem.Spec L2 So Tb
noncomputable def SetH (P:Program) (w:World) (U:Addr->List Int->Prop) (a:Addr) (kss:List (List Int)):Heap->Prop:=fun h=>∃ o,h.get? a=some o/\SetO P w U o kss
section
variable {X:Cx} {B:Bs} {W:Wi}
theorem key_of {pins:List (Addr×Obj)} {σ:St} {H:Hp} {s:Shared} {b:Addr} {ks:List Int} (I:Inv X pins σ H s) (h:SqT X.K H b (ks.map V.int)):IsTupleKey (intKind X.prog X.w) s.heap ks b:=by
  obtain ⟨its,r,⟨o,ho,hc,n,hd⟩,hz⟩:=I.tuple h
  refine ⟨o,its.toArray,n,ho,hc,hd,?_⟩
  show ItemsAre _ ks its
  clear hd h hz
  induction ks generalizing its with
  | nil=>cases r;exact .nil
  | cons k ks ih =>
    cases r with
    | cons r1 r2 =>
      obtain ⟨t,rfl⟩:=r1
      exact .cons (intKind_is X.prog X.w k t) (ih _ r2)
noncomputable def rSetK (P:Program) (w:World) (K:PySem.W.Frag):List V->Hp->VK->Prop:=fun xs H Q=>∃ (p:Addr) (ys:List V) (kss:List (List Int)) (U:Addr->List Int->Prop),xs=[.ref p]/\(SqL K H p ys∨SqT K H p ys)/\kss.length=ys.length/\(insAll kss).length < 4900 /\
  (∀ (i:Nat) v,ys[i]?=some v->∃ b,v=.ref b/\SqT K H b ((kss.getD i []).map V.int)/\U b (kss.getD i []))/\∀ l,H l=none->Q (.ref l) (upd H l (.ext (SetH P w U l (insAll kss))))
theorem Vals.get' {xs:List V} {us:List Value} (r:Vals xs us) {i:Nat} {u:Value} (h:us[i]?=some u):∃ x,xs[i]?=some x/\RelV x u:=by
  cases e:xs[i]? with
  | none=>have:=r.none_of e;rw [this] at h;cases h
  | some x=>obtain ⟨u',h1,h2⟩:=r.get e;rw [h] at h1;cases h1;exact ⟨x,rfl,h2⟩
theorem call_setR (hc:X.calm=true) (hu:X.A.units + 8 < cLine):CallR X (.type "set") (rSetK X.prog X.w X.K):=by
  intro pins s σ H xs us Q I r h
  obtain ⟨p,ys,kss,U,rfl,hs,hlen,hz,hk,q⟩:=h
  obtain ⟨u,rfl,rx⟩:=r.one
  cases rx
  obtain ⟨its,rv,hseq⟩:∃ its:List Value,Vals ys its/\(s.heap.IsList p its.toArray∨s.heap.IsTuple p its.toArray):=by
    rcases hs with hs|hs
    . obtain ⟨its,rv,pl,_⟩:=I.list hs;exact ⟨its,rv,.inl pl.isList⟩
    . obtain ⟨its,rv,pl,_⟩:=I.tuple hs;exact ⟨its,rv,.inr pl⟩
  have hl:=rv.length
  refine call_set_seq (U:=U) (kss:=kss) (I.ok.hd hc) hu hseq hz (fun i v hv=>?_) (by rw [List.size_toArray];lia) fun h' tk k hS=>?_
  . obtain ⟨x,h1,h2⟩:=Vals.get' rv (i:=i) (u:=v) (by simpa using hv)
    obtain ⟨b,rfl,h3,h4⟩:=hk i x h1
    exact ⟨b,h2,key_of I h3,h4⟩
  . refine ⟨.ref s.heap.objs.size,_,I.laid (t':=tk) k (Nat.le_refl _) (show ObjOk X.prog X.w _ h' _ (.ext (SetH X.prog X.w U s.heap.objs.size (insAll kss))) from ⟨So.SetAt.obj hS,?_,?_⟩),rfl,q _ I.fresh⟩
    . obtain ⟨o,ho,_⟩:=So.SetAt.obj hS;exact ⟨o,ho⟩
    . rintro h1 h2 ⟨o,ho,x⟩ hk';exact ⟨o,hk' o ho,x⟩
noncomputable def rSorted (P:Program) (w:World) (K:PySem.W.Frag):List V->Hp->VK->Prop:=fun xs H Q=>∃ (p:Addr) (kss:List (List Int)) (U:Addr->List Int->Prop),xs=[.ref p]/\H p=some (.ext (SetH P w U p kss))/\(∀ b ks,U b ks->SqT K H b (ks.map V.int))/\(∀ ks∈kss,ks≠[])/\kss.length < 4900 /\
  ∀ l ys,H l=none->ys.length=(sortK kss).length->(∀ (i:Nat) v,ys[i]?=some v->∃ b,v=.ref b/\U b ((sortK kss).getD i []))->Q (.ref l) (upd H l (.lst ys))
theorem call_sortedR (hc:X.calm=true):CallR X (.builtin "sorted") (rSorted X.prog X.w X.K):=by
  intro pins s σ H xs us Q I r h
  obtain ⟨p,kss,U,rfl,hp,hU,hne,h64,q⟩:=h
  obtain ⟨u,rfl,rx⟩:=r.one
  cases rx
  obtain ⟨⟨o,ho,x⟩,_⟩:=I.hok _ _ hp
  have hS:=So.SetO.at x ho (fun b ks hb=>key_of I (hU b ks hb))
  refine So.sorted_set (I.ok.hd hc) hS hne h64 fun h' tk l n out k hl ho hg=>?_
  have hln:H l=none:=I.hok.fresh hl
  have hv:∃ ys:List V,Vals ys out/\ys.length=(sortK kss).length/\∀ (i:Nat) v,ys[i]?=some v->∃ b,v=.ref b/\U b ((sortK kss).getD i []):=by
    refine ⟨out.map fun v=>match v with|.ref b=>V.ref b|_=>V.non,?_,by simp [ho.1],fun i v hv=>?_⟩
    . have:∀ v∈out,∃ b,v=Value.ref b:=fun v hv=>by
        obtain ⟨i,hi⟩:=List.mem_iff_getElem?.mp hv
        obtain ⟨b,e,_⟩:=ho.2 i v hi;exact ⟨b,e⟩
      clear ho hg
      induction out with
      | nil=>exact .nil
      | cons a out ih =>
        obtain ⟨b,rfl⟩:=this a (.head _)
        exact .cons rfl (ih fun v hv=>this v (.tail _ hv))
    . rw [List.getElem?_map] at hv
      cases e:out[i]? with
      | none=>rw [e] at hv;cases hv
      | some v' =>
        rw [e] at hv
        obtain ⟨b,rfl,h2⟩:=ho.2 i v' e
        exact ⟨b,(Option.some.inj hv).symm,h2⟩
  obtain ⟨ys,rv,yl,yv⟩:=hv
  have e0:s.heap.objs.size<=l:=hl
  refine ⟨.ref l,_,I.laid (t':=tk) k hl (show ObjOk X.prog X.w _ h' _ (.lst ys) from ⟨?_,out,n,rv,hg⟩),rfl,q l ys hln yl yv⟩
  have:(sortK kss).length=kss.length:=(sortK_perm kss).length_eq
  rw [yl,this,sizeLine_eq];lia
noncomputable def intsD:List D->Option (List Int)
  | []=>some []
  | .int i::ds=>(intsD ds).map (i::·)
  | _=>none
noncomputable def keysD:List D->Option (List (List Int))
  | []=>some []
  | .tup ds::es=>match intsD ds with|some k=>(keysD es).map (k::·)|none=>none
  | _=>none
noncomputable def tupK (ks:List Int):D:=.tup (ks.map .int)
theorem intsD_map (ks:List Int):intsD (ks.map .int)=some ks:=by
  induction ks with
  | nil=>rfl
  | cons k ks ih=>simp [intsD,ih]
theorem intsD_eq:∀ {ds:List D} {ks:List Int},intsD ds=some ks->ds=ks.map .int
  | [],ks,h=>by simp [intsD] at h;subst h;rfl
  | .int i::ds,ks,h=>by
    simp only [intsD] at h
    cases e:intsD ds with
    | none=>rw [e] at h;cases h
    | some k=>rw [e] at h;simp at h;subst h;rw [intsD_eq e];rfl
  | .non::ds,ks,h=>by simp [intsD] at h
  | .bl _::ds,ks,h=>by simp [intsD] at h
  | .str _::ds,ks,h=>by simp [intsD] at h
  | .tup _::ds,ks,h=>by simp [intsD] at h
  | .lst _::ds,ks,h=>by simp [intsD] at h
  | .exn _ _::ds,ks,h=>by simp [intsD] at h
  | .dic _ _::ds,ks,h=>by simp [intsD] at h
  | .fn _::ds,ks,h=>by simp [intsD] at h
  | .obj _ _ _::ds,ks,h=>by simp [intsD] at h
theorem keysD_map (kss:List (List Int)):keysD (kss.map tupK)=some kss:=by
  induction kss with
  | nil=>rfl
  | cons k kss ih=>simp [keysD,tupK,intsD_map] at ih ⊢;exact ih
theorem keysD_eq:∀ {ds:List D} {kss:List (List Int)},keysD ds=some kss->ds=kss.map tupK
  | [],ks,h=>by simp [keysD] at h;subst h;rfl
  | .tup es::ds,ks,h=>by
    simp only [keysD] at h
    cases e:intsD es with
    | none=>rw [e] at h;cases h
    | some k =>
      rw [e] at h
      cases e2:keysD ds with
      | none=>rw [e2] at h;cases h
      | some k2=>rw [e2] at h;simp at h;subst h;rw [keysD_eq e2,intsD_eq e];rfl
  | .int i::ds,ks,h=>by simp [keysD] at h
  | .non::ds,ks,h=>by simp [keysD] at h
  | .bl _::ds,ks,h=>by simp [keysD] at h
  | .str _::ds,ks,h=>by simp [keysD] at h
  | .lst _::ds,ks,h=>by simp [keysD] at h
  | .exn _ _::ds,ks,h=>by simp [keysD] at h
  | .dic _ _::ds,ks,h=>by simp [keysD] at h
  | .fn _::ds,ks,h=>by simp [keysD] at h
  | .obj _ _ _::ds,ks,h=>by simp [keysD] at h
theorem reps_int_map {K:PySem.W.Frag} {G:Hp}:∀ {ks:List Int} {vs:List V},Reps K G (ks.map .int) vs->vs=ks.map V.int
  | [],vs,r=>reps_nil.mp r
  | k::ks,vs,r=>by
    obtain ⟨v,vs',rfl,r1,r2⟩:=reps_cons.mp r
    rw [rep_int.mp r1,reps_int_map r2];rfl
theorem rep_tupK {K:PySem.W.Frag} {G:Hp} {ks:List Int} {v:V}:Rep K G (tupK ks) v↔∃ b,v=.ref b/\UG K G b ks:=by
  unfold tupK UG
  constructor
  . intro h
    obtain ⟨a,vs,rfl,q,r⟩:=rep_tup.mp h
    rw [reps_int_map r] at q
    exact ⟨a,rfl,q⟩
  . rintro ⟨b,rfl,q⟩
    exact rep_tup.mpr ⟨b,_,rfl,q,reps_ints ks⟩
theorem reps_keys {K:PySem.W.Frag} {G:Hp} {kss:List (List Int)} {vs:List V} (r:Reps K G (kss.map tupK) vs):kss.length=vs.length/\∀ (i:Nat) v,vs[i]?=some v->∃ b,v=.ref b/\UG K G b (kss.getD i []):=by
  refine ⟨by have:=r.length;simpa using this,fun i v hv=>?_⟩
  obtain ⟨d,h1,h2⟩:=r.get' hv
  rw [List.getElem?_map] at h1
  cases e:kss[i]? with
  | none=>rw [e] at h1;cases h1
  | some ks =>
    rw [e] at h1
    cases h1
    obtain ⟨b,q1,q2⟩:=rep_tupK.mp h2
    exact ⟨b,q1,by rw [List.getD_eq_getElem?_getD,e];exact q2⟩
theorem keys_reps {K:PySem.W.Frag} {G:Hp}:∀ {kss:List (List Int)} {vs:List V},vs.length=kss.length->(∀ (i:Nat) v,vs[i]?=some v->∃ b,v=.ref b/\UG K G b (kss.getD i []))->Reps K G (kss.map tupK) vs
  | [],vs,h,_=>reps_nil.mpr (List.length_eq_zero_iff.mp h)
  | k::kss,[],h,_=>by cases h
  | k::kss,v::vs,h,a=>by
    refine reps_cons.mpr ⟨v,vs,rfl,rep_tupK.mpr (a 0 v rfl),keys_reps (by simpa using h) fun i u hu=>?_⟩
    exact a (i + 1) u hu
noncomputable def PostK (P:Program) (w:World) (K:PySem.W.Frag) (W:Wi) (σ:St) (G H:Hp) (r:Rs (List (List Int))) (Q:VK):Prop :=
  match r with
  | .ok kss=>∀ a H' G',Ext G H G' H'->H a=none->H' a=some (.ext (SetH P w (UG K G') a kss))->Q (.ref a) H'
  | .ex c n=>∀ H' G',Ext G H G' H'->W c n σ H'
  | .no=>False
noncomputable def tK (P:Program) (w:World) (K:PySem.W.Frag) (B:Bs) (W:Wi) (f:Rho->Rs (List (List Int))):TE:=fun σ H Q=>∃ ρ G,SR K B σ H ρ G/\PostK P w K W σ G H (f ρ) Q
noncomputable def SK (X:Cx) (B:Bs) (W:Wi) (e:Expr) (f:Rho->Rs (List (List Int))):Prop:=PE X e (tK X.prog X.w X.K B W f)
noncomputable def asKeys:D->Rs (List (List Int))
  | .lst ds=>match keysD ds with|some kss=>if (insAll kss).length < 4900 then .ok kss else .no|none=>.no
  | .tup ds=>match keysD ds with|some kss=>if (insAll kss).length < 4900 then .ok kss else .no|none=>.no
  | _=>.no
noncomputable def fK (f:Rho->Rs D):Rho->Rs (List (List Int)):=fun ρ=>(f ρ).bind fun d=>(asKeys d).bind fun kss=>.ok (insAll kss)
theorem ext_ext {G H:Hp} (gh:Same G H) (tp:∀ a xs,H a=some (.tup xs)->G a=some (.tup xs)) {p:Addr} {φ:Heap->Prop} (hp:H p=none):Ext G H G (upd H p (.ext φ)) where
  gg:=.refl _
  hh:=fun b o e=>by rw [upd_ne (ne_of_none e hp)];exact e
  gh:=fun b o e=>by rw [upd_ne (ne_of_none (gh _ _ e) hp)];exact gh _ _ e
  tp:=fun b ys e=>by
    by_cases q:b=p
    . subst q;rw [upd_same] at e;cases e
    . rw [upd_ne q] at e;exact tp _ _ e
  nw:=fun b o e n=>n
theorem sk_set {e:Expr} {p pos:Pos} {f:Rho->Rs D} (hc:X.calm=true) (hu:X.A.units + 8 < cLine) (hm:X.mg "set"=none) (he:SE X B W e f) (hg:Gl X "set":=by rfl) (hst:starEach [e] X.env=[(false,eval e X.env)]:=by rfl) :
    SK X B W (.Call (.Name "set" p) [e] [] pos) (fK f):=by
  refine PE.imp (pe_callTy (call_setR hc hu) hg hm PyProof.Rows.boot_set (pa_cons he pa_nil hst) (by decide) (by decide) hst rfl) fun σ H Q h=>?_
  obtain ⟨ρ,G,s,p⟩:=h
  refine ⟨ρ,G,s,?_⟩
  unfold fK at p
  cases e1:f ρ with
  | ok d =>
    rw [e1] at p
    have p':PostK X.prog X.w X.K W σ G H ((asKeys d).bind fun kss=>.ok (insAll kss)) Q:=p
    intro v H' G' x r
    have fin:∀ (a:Addr) (vs:List V) (kss:List (List Int)),v=.ref a->(SqL X.K H' a vs∨SqT X.K H' a vs)->Reps X.K G' (kss.map tupK) vs->(insAll kss).length < 4900->PostK X.prog X.w X.K W σ G H (.ok (insAll kss)) Q->rSetK X.prog X.w X.K [v] H' Q:=by
      intro a vs kss ea hs rr hz pp
      obtain ⟨hl,hk⟩:=reps_keys rr
      refine ⟨a,vs,kss,UG X.K G',by rw [ea],hs,hl,hz,fun i u hu'=>?_,fun l hl'=>?_⟩
      . obtain ⟨b,q1,q2⟩:=hk i u hu'
        exact ⟨b,q1,Same.seqT x.gh q2,q2⟩
      . exact pp l _ G' (x.trans (ext_ext x.gh x.tp hl')) (by cases e:H l with|none=>rfl|some o=>have:=x.hh _ _ e;rw [hl'] at this;cases this) upd_same
    unfold asKeys at p'
    split at p'
    . rename_i ds
      split at p'
      . rename_i kss ek
        by_cases hz:(insAll kss).length < 4900
        . rw [if_pos hz] at p'
          obtain ⟨a,vs,rfl,q,rr⟩:=rep_lst.mp r
          have hl:=rr.length
          rw [keysD_eq ek] at rr
          exact fin a vs kss rfl (.inl (x.gh.seq q)) rr hz p'
        . rw [if_neg hz] at p';exact p'.elim
      . exact p'.elim
    . rename_i ds
      split at p'
      . rename_i kss ek
        by_cases hz:(insAll kss).length < 4900
        . rw [if_pos hz] at p'
          obtain ⟨a,vs,rfl,q,rr⟩:=rep_tup.mp r
          have hl:=rr.length
          rw [keysD_eq ek] at rr
          exact fin a vs kss rfl (.inr (Same.seqT x.gh q)) rr hz p'
        . rw [if_neg hz] at p';exact p'.elim
      . exact p'.elim
    . exact p'.elim
  | ex c n=>rw [e1] at p;exact p
  | no=>rw [e1] at p;exact p
instance (kss:List (List Int)):Decidable (∀ ks∈kss,ks≠[]):=inferInstance
noncomputable def gSortK:List (List Int)->Rs D:=fun kss=>if (∀ ks∈kss,ks≠[])/\kss.length < 4900 then .ok (.lst ((sortK kss).map tupK)) else .no
noncomputable def fSortK (f:Rho->Rs (List (List Int))):Rho->Rs D:=fun ρ=>(f ρ).bind gSortK
theorem re_sortedK {e:Expr} {p pos:Pos} {f:Rho->Rs (List (List Int))} (hc:X.calm=true) (hm:X.mg "sorted"=none) (he:SK X B W e f) (hg:Gl X "sorted":=by rfl) (hst:starEach [e] X.env=[(false,eval e X.env)]:=by rfl) :
    SE X B W (.Call (.Name "sorted" p) [e] [] pos) (fSortK f):=by
  refine PE.imp (pe_callB (call_sortedR hc) hg hm PyProof.Rows.boot_sorted (pa_cons he pa_nil hst) (by decide) (by decide) hst rfl) fun σ H Q h=>?_
  obtain ⟨ρ,G,s,p⟩:=h
  refine ⟨ρ,G,s,?_⟩
  unfold fSortK at p
  cases e1:f ρ with
  | ok kss =>
    rw [e1] at p
    intro a H' G' x _ ha
    have p':Post X.K W σ G H (gSortK kss) Q:=p
    unfold gSortK at p'
    by_cases hc':(∀ ks∈kss,ks≠[])/\kss.length < 4900
    . rw [if_pos hc'] at p'
      refine ⟨a,kss,UG X.K G',rfl,ha,fun b ks hb=>Same.seqT x.gh hb,hc'.1,hc'.2,fun l ys hl hy hv=>?_⟩
      have x2:=ext_lst (xs:=ys) x.gh x.tp hl
      refine p' _ _ _ (x.trans x2) (rep_lst.mpr ⟨l,ys,rfl,.of upd_same,?_⟩)
      exact (keys_reps hy hv).mono x2.gg
    . rw [if_neg hc'] at p';exact p'.elim
  | ex c n=>rw [e1] at p;exact p
  | no=>rw [e1] at p;exact p
end
end Vl
namespace Vl
open PySem PySem.Spec L2 So Tb
section
variable {X:Cx} {B:Bs} {W:Wi}
noncomputable def COr (a b:List (List Int)):Prop:=a.length + b.length < 900
noncomputable def CAnd (a b:List (List Int)):Prop:=a.length < 900/\b.length < 900
noncomputable def CSub (a b:List (List Int)):Prop:=a.length < 900/\b.length < 900/\(b=[]∨¬ a.length / 4 > b.length)
instance (a b:List (List Int)):Decidable (COr a b):=by unfold COr;exact inferInstance
instance (a b:List (List Int)):Decidable (CAnd a b):=by unfold CAnd;exact inferInstance
instance (a b:List (List Int)):Decidable (CSub a b):=by unfold CSub;exact inferInstance
end
end Vl
namespace Vl
open PySem PySem.Spec L2
noncomputable def rOwn (i:Nat) (fs:Rho->Rs (List D)):Rho->Ou:=fun ρ=>oR (fs ρ) ρ fun ds=>if ds.length<=1000 then .nx (ρ.set i (.ow ds)) else .no
noncomputable def rApp (i:Nat) (f:Rho->Rs D):Rho->Ou:=fun ρ=>match ρ[i]? with|some (.ow ds)=>oR (f ρ) ρ fun d=>if ds.length < 1000000 then .nx (ρ.set i (.ow (ds++[d]))) else .no|_=>.no
noncomputable def rFrz (i:Nat) (g:Rho->Ou):Rho->Ou:=fun ρ=>g (frz i ρ)
section
variable {X:Cx} {K:PySem.W.Frag} {B:Bs} {W:Wi} {σ:St} {G H:Hp} {ρ:Rho}
theorem rs_own (i:Nat) {x:Str} {es:List Expr} {pos pos' lp:Pos} {f:Rho->Rs (List D)} (hN:X.N.Nodup) (he:SA X B W es f) (hi:X.N[i]?=some x:=by rfl) (hx:Loc X.env.scope x:=by first|exact Or.inl rfl|exact Or.inr rfl) (hs:swapsWith (.List es lp) (some (.Name x pos')) pos.line X.env=pure false:=by rfl) (hf:X.fn x=true∨X.env.scope.names.lookup x=some .local:=by first|exact .inl rfl|exact .inr rfl|assumption) :
    SS X B W (.Assign [.Name x pos'] (.List es lp) pos) (rOwn i f):=ss_own hN hi hx he hs hf
theorem rs_app (i:Nat) {x:Str} {e:Expr} {pos p1 p2 cp:Pos} {f:Rho->Rs D} (he:SE X B W e f) (hN:X.N[i]?=some x:=by rfl) (hv:Vis X.env.scope x:=by first|exact Or.inl rfl|exact Or.inr (Or.inl rfl)|exact Or.inr (Or.inr rfl)) (hd:(x == ("__debug__":Str))=false:=by decide)
    (hcd:(x == ("__classdict__":Str))=false:=by decide) (hst:starEach [e] X.env=[(false,eval e X.env)]:=by rfl)
    (hbase:attributeBase (.Name x p1) "append" X.env (eval (.Name x p1) X.env)=eval (.Name x p1) X.env:=by rfl)
    (hfew:((backTo cp (starEach [e] X.env)).all (fun x=>!x.1) && (backToKw cp (keywordEach [] X.env)).all (fun x=>x.1.isSome)
      && decide (([e]:List Expr).length + ([]:List Keyword).length + (if ([]:List Keyword).isEmpty then 0 else 1) < 30))=true:=by rfl)
    (hline:(p2.endLine == cp.line)=true:=by rfl) (hplain:(backTo cp (starEach [] X.env)).any (·.1)=false:=by rfl)
    (hs:swapsWith (.Call (.Attribute (.Name x p1) "append" p2) [e] [] cp) none pos.line X.env=pure false:=by rfl) :
    SS X B W (.Expr (.Call (.Attribute (.Name x p1) "append" p2) [e] [] cp) pos) (rApp i f) :=
  ss_append (pe:=pe_bm PySem.F.plainAttrs_list PySem.F.slot_list_append PySem.F.type_list_append mt_append (pe_var hN hv hd hcd) (pa_cons he pa_nil hst) hbase hfew hline hst hplain) (pe_var hN hv hd hcd) he hst hs
theorem rs_frz (i:Nat) {st:List Stmt} {g:Rho->Ou} (h:SSs X B W st g):SSs X B W st (rFrz i g):=sss_frz i h
theorem re_tuple {e:Expr} {p pos:Pos} {fa:Rho->Rs D} (hm:X.mg "tuple"=none) (ha:SE X B W e fa) (hg:Gl X "tuple":=by rfl) (he:starEach [e] X.env=[(false,eval e X.env)]:=by rfl):SE X B W (.Call (.Name "tuple" p) [e] [] pos) (fA (fCons fa fNil) gTupOf) :=
  se_callTy call_tuple_of cd_tupOf hg hm PyProof.Rows.boot_tuple (sa_cons ha sa_nil he) (by decide) (by decide) he rfl
noncomputable def gLstOf:List D->Rs D
  | [.lst ds]=>.ok (.lst ds)
  | [.tup ds]=>.ok (.lst ds)
  | _=>.no
theorem cd_lstOf:CallD K (fun xs H Q=>∃ p ys,xs=[.ref p]/\(SqL K H p ys∨SqT K H p ys)/\∀ l,H l=none->Q (.ref l) (upd H l (.lst ys))) gLstOf:=by
  intro B W σ ρ G H ds vs Q s r p
  unfold gLstOf at p
  split at p
  . rename_i ds
    obtain ⟨v,vs',rfl,r1,r2⟩:=reps_cons.mp r
    obtain ⟨a,us,rfl,q,rr⟩:=rep_lst.mp r1
    rw [reps_nil.mp r2]
    refine ⟨a,us,rfl,.inl (s.en.gh.seq q),fun c hc=>?_⟩
    have x:=ext_lst (xs:=us) s.en.gh s.en.tp hc
    exact p _ _ _ x (rep_lst.mpr ⟨c,us,rfl,.of upd_same,rr.mono x.gg⟩)
  . rename_i ds
    obtain ⟨v,vs',rfl,r1,r2⟩:=reps_cons.mp r
    obtain ⟨a,us,rfl,q,rr⟩:=rep_tup.mp r1
    rw [reps_nil.mp r2]
    refine ⟨a,us,rfl,.inr (Same.seqT s.en.gh q),fun c hc=>?_⟩
    have x:=ext_lst (xs:=us) s.en.gh s.en.tp hc
    exact p _ _ _ x (rep_lst.mpr ⟨c,us,rfl,.of upd_same,rr.mono x.gg⟩)
  . exact p.elim
theorem re_list {e:Expr} {p pos:Pos} {fa:Rho->Rs D} (hm:X.mg "list"=none) (ha:SE X B W e fa) (hg:Gl X "list":=by rfl) (he:starEach [e] X.env=[(false,eval e X.env)]:=by rfl):SE X B W (.Call (.Name "list" p) [e] [] pos) (fA (fCons fa fNil) gLstOf) :=
  se_callTy call_list_of cd_lstOf hg hm PyProof.Rows.boot_list (sa_cons ha sa_nil he) (by decide) (by decide) he rfl
noncomputable def gInt:List D->Rs D
  | [.int i]=>.ok (.int i)
  | [.bl b]=>.ok (.int (if b then 1 else 0))
  | _=>.no
theorem cd_int:CallD K (fun xs H Q=>(∃ i,xs=[.int i]/\Q (.int i) H)∨∃ k,xs=[.bl k]/\Q (.int (if k then 1 else 0)) H) gInt:=by
  intro B W σ ρ G H ds vs Q s r p
  unfold gInt at p
  split at p
  . obtain ⟨v,vs',rfl,r1,r2⟩:=reps_cons.mp r
    rw [reps_nil.mp r2,rep_int.mp r1]
    exact .inl ⟨_,rfl,Post.ok s p (rep_int.mpr rfl)⟩
  . obtain ⟨v,vs',rfl,r1,r2⟩:=reps_cons.mp r
    rw [reps_nil.mp r2,rep_bl.mp r1]
    exact .inr ⟨_,rfl,Post.ok s p (rep_int.mpr rfl)⟩
  . exact p.elim
theorem re_int {e:Expr} {p pos:Pos} {fa:Rho->Rs D} (hm:X.mg "int"=none) (ha:SE X B W e fa) (hg:Gl X "int":=by rfl) (he:starEach [e] X.env=[(false,eval e X.env)]:=by rfl):SE X B W (.Call (.Name "int" p) [e] [] pos) (fA (fCons fa fNil) gInt) :=
  se_callTy call_int1 cd_int hg hm PyProof.Rows.Boot.«int» (sa_cons ha sa_nil he) (by decide) (by decide) he rfl
noncomputable def isNon:D->Bool
  | .non=>true
  | _=>false
noncomputable def gIsN:D->D->Rs D:=fun x y=>match y with|.non=>.ok (.bl (isNon x))|_=>.no
noncomputable def gNotN:D->D->Rs D:=fun x y=>match y with|.non=>.ok (.bl (!isNon x))|_=>.no
variable {a b:Expr} {pos:Pos} {fa fb:Rho->Rs D}
end
end Vl
namespace Vl
open PySem PySem.Spec L2 So Tb
section
variable {X:Cx} {B:Bs} {W:Wi} {K:PySem.W.Frag}
theorem outs_V {U:Addr->List Int->Prop} {out:List Value} {kss:List (List Int)} (ho:OutOf U out kss):∃ ys:List V,Vals ys out/\ys.length=kss.length/\∀ (i:Nat) v,ys[i]?=some v->∃ b,v=.ref b/\U b (kss.getD i []):=by
  refine ⟨out.map fun v=>match v with|.ref b=>V.ref b|_=>V.non,?_,by simp [ho.1],fun i v hv=>?_⟩
  . have:∀ v∈out,∃ b,v=Value.ref b:=fun v hv=>by
      obtain ⟨i,hi⟩:=List.mem_iff_getElem?.mp hv
      obtain ⟨b,e,_⟩:=ho.2 i v hi;exact ⟨b,e⟩
    clear ho
    induction out with
    | nil=>exact .nil
    | cons a out ih =>
      obtain ⟨b,rfl⟩:=this a (.head _)
      exact .cons rfl (ih fun v hv=>this v (.tail _ hv))
  . rw [List.getElem?_map] at hv
    cases e:out[i]? with
    | none=>rw [e] at hv;cases hv
    | some v' =>
      rw [e] at hv
      obtain ⟨b,rfl,h2⟩:=ho.2 i v' e
      exact ⟨b,(Option.some.inj hv).symm,h2⟩
theorem vals_ints:∀ {us:List Value} {ns:List Int},PyProof.Rows.IntsAre us ns->Vals (ns.map V.int) us:=by
  intro us ns h
  induction h with
  | nil=>exact .nil
  | cons n t _ ih=>exact .cons ⟨t,rfl⟩ ih
end
end Vl
namespace Vl
open PySem PySem.Spec L2
section
variable {X:Cx} {B:Bs} {W:Wi} {K:PySem.W.Frag}
end
end Vl
namespace Vl
open PySem PySem.Spec L2
end Vl
namespace Vl
open PySem PySem.Spec L2
section
variable {X:Cx} {B:Bs} {W:Wi} {K:PySem.W.Frag} {a b:Expr} {pos:Pos} {fa fb:Rho->Rs D}
end
end Vl
namespace Vl
open PySem PySem.Spec L2
section
variable {X:Cx} {B:Bs} {W:Wi}
theorem key_ofD {pins:List (Addr×Obj)} {σ:St} {H:Hp} {s:Shared} {b:Addr} {ks:List Int} (I:Inv X pins σ H s) (h:SqT X.K H b (ks.map V.int)):IsTupleKey (intKind X.prog X.w) s.heap ks b:=by
  obtain ⟨its,r,⟨o,ho,hc,n,hd⟩,hz⟩:=I.tuple h
  refine ⟨o,its.toArray,n,ho,hc,hd,?_⟩
  show ItemsAre _ ks its
  clear hd h hz
  induction ks generalizing its with
  | nil=>cases r;exact .nil
  | cons k ks ih =>
    cases r with
    | cons r1 r2 =>
      obtain ⟨t,rfl⟩:=r1
      exact .cons (intKind_is X.prog X.w k t) (ih _ r2)
noncomputable abbrev DP (U:Addr->List Int->Prop):=Paired (fun (p:List Int×V) (q:List Int×Addr×Value)=>p.1=q.1/\U q.2.1 q.1/\RelV p.2 q.2.2)
theorem dic_of {pins:List (Addr×Obj)} {σ:St} {H:Hp} {s:Shared} {d:Addr} {U:Addr->List Int->Prop} {kvv:List (List Int×V)} (I:Inv X pins σ H s) (hd:DicAt H d U kvv) (hU:∀ b ks,U b ks->UG X.K H b ks) :
    ∃ xs,s.heap.DictOfH (tupleKind (intKind X.prog X.w)) d xs/\(d == sysModules)=false/\DP U kvv xs/\(xs.map (·.1)).Nodup:=by
  obtain ⟨φ,hd,hφ⟩:=hd
  obtain ⟨o,es,ep,xs,h1,h2,h3,h4,h5,h6,h7⟩:=hφ _ (I.hok d _ hd).1
  refine ⟨xs,⟨o,es,ep,h1,h2,h3,h5,fun x hx=>?_,h6⟩,h4,h7,h6⟩
  have:∀ {kvv:List (List Int×V)} {xs:List (List Int×Addr×Value)},DP U kvv xs->∀ x∈xs,U x.2.1 x.1:=by
    intro kvv xs r
    induction r with
    | nil=>intro x hx;cases hx
    | cons r1 _ ih =>
      intro x hx
      rcases List.mem_cons.mp hx with rfl|hx
      . exact r1.2.1
      . exact ih x hx
  exact key_ofD I (hU _ _ (this h7 x hx))
noncomputable def getK (kvv:List (List Int×V)) (ks:List Int):Option V:=(kvv.find? fun p=>decide (p.1=ks)).map (·.2)
noncomputable def putK (kvv:List (List Int×V)) (ks:List Int) (v:V):List (List Int×V):=if (getK kvv ks).isSome then kvv.map (fun p=>if p.1=ks then (p.1,v) else p) else kvv++[(ks,v)]
theorem get_pair {U:Addr->List Int->Prop} {ks:List Int}:∀ {kvv:List (List Int×V)} {xs:List (List Int×Addr×Value)},DP U kvv xs->(getK kvv ks=none/\atKey xs ks=none)∨∃ v q,getK kvv ks=some v/\atKey xs ks=some q/\RelV v q.2
  | [],_,.nil=>.inl ⟨rfl,rfl⟩
  | p::kvv,q::xs,.cons r t=>by
    by_cases c:p.1=ks
    . have c':q.1=ks:=r.1▸c
      exact .inr ⟨p.2,q.2,by simp [getK,List.find?_cons,c],by simp [atKey,List.find?_cons,c'],r.2.2⟩
    . have c':¬ q.1=ks:=fun z=>c (r.1.trans z)
      have e1:getK (p::kvv) ks=getK kvv ks:=by simp [getK,List.find?_cons,c]
      have e2:atKey (q::xs) ks=atKey xs ks:=by simp [atKey,List.find?_cons,c']
      rw [e1,e2]
      exact get_pair t
theorem Paired.app {α β:Type} {F:α->β->Prop}:∀ {l₁ l₁':List α} {l₂ l₂':List β},Paired F l₁ l₂->Paired F l₁' l₂'->Paired F (l₁++l₁') (l₂++l₂')
  | _,_,_,_,.nil,t'=>t'
  | _,_,_,_,.cons r t,t'=>.cons r (Paired.app t t')
theorem put_pair {U:Addr->List Int->Prop} {ks:List Int} {b:Addr} {v:V} {u:Value} {kvv:List (List Int×V)} {xs:List (List Int×Addr×Value)} (r:DP U kvv xs) (hb:U b ks) (rv:RelV v u):DP U (putK kvv ks v) (storedH xs ks b u):=by
  rcases get_pair (ks:=ks) r with ⟨e1,e2⟩|⟨v',q,e1,e2,_⟩
  . unfold putK storedH
    rw [e1,e2]
    exact Paired.app r (.cons ⟨rfl,hb,rv⟩ .nil)
  . unfold putK storedH
    rw [e1,e2]
    show DP U (kvv.map _) (xs.map _)
    clear e1 e2
    induction r with
    | nil=>exact .nil
    | cons r1 _ ih =>
      refine .cons ?_ ih
      rename_i p q' _ _ _
      by_cases c:p.1=ks
      . have c':q'.1=ks:=r1.1▸c
        unfold putAt
        dsimp only
        rw [if_pos c,if_pos c']
        exact ⟨r1.1,r1.2.1,rv⟩
      . have c':¬ q'.1=ks:=fun z=>c (r1.1.trans z)
        unfold putAt
        dsimp only
        rw [if_neg c,if_neg c']
        exact r1
theorem dic_put {U:Addr->List Int->Prop} {P:Program} {w:World} {d:Addr} {h':Heap} {xs:List (List Int×Addr×Value)} {kvv:List (List Int×V)} {H:Hp} (hm:h'.DictOfH (tupleKind (intKind P w)) d xs) (hs:(d == sysModules)=false) (hp:DP U kvv xs):ObjOk P w H h' d (.ext (DicH U d kvv)):=by
  obtain ⟨o,es,ep,h1,h2,h3,h4,h5,h6⟩:=hm
  refine ⟨⟨o,es,ep,xs,h1,h2,h3,hs,h4,h6,hp⟩,⟨o,h1⟩,?_⟩
  rintro g1 g2 ⟨o,es,ep,xs,h1,h2,h3,hs,h4,h6,hp⟩ k
  exact ⟨o,es,ep,xs,k _ h1,h2,h3,hs,h4,h6,hp⟩
end
end Vl
namespace Vl
open PySem PySem.Spec L2
section
variable {X:Cx} {B:Bs} {W:Wi}
theorem DicH.mono {U U':Addr->List Int->Prop} {a:Addr} {kvv:List (List Int×V)} {xs:List (List Int×Addr×Value)} (h:∀ b ks,U b ks->U' b ks) (r:DP U kvv xs):DP U' kvv xs:=Paired.mapP r fun p q z=>⟨z.1,h _ _ z.2.1,z.2.2⟩
noncomputable def rPutD (K:PySem.W.Frag):TSet:=fun o i v H Q=>∃ (b d:Addr) (ks:List Int) (U U':Addr->List Int->Prop) (kvv:List (List Int×V)),o=.ref d/\i=.ref b/\SqT K H b (ks.map V.int)/\H d=some (.ext (DicH U d kvv))/\(∀ b ks,U b ks->U' b ks)/\(∀ b ks,U' b ks->UG K H b ks)/\U' b ks/\kvv.length<=1000000 /\
  Q (upd H d (.ext (DicH U' d (putK kvv ks v))))
theorem set_dK (hu:X.A.units + 1 < cLine):PSet X (rPutD X.K):=by
  intro pins s σ H o i v ov iv u Q I ro ri rv ⟨b,d,ks,U,U',kvv,e1,e2,hb,hd,hm,hU,hk,hz,q⟩
  subst e1;subst e2
  cases ro;cases ri
  obtain ⟨xs,hx,hs,hp,_⟩:=dic_of I (dicAt hd) fun b ks z=>hU b ks (hm b ks z)
  refine wpAny_setItem_heap (tupleKind_room_in1 hu) (key_ofD I hb) hx (fun h' hx' sb=>?_) (by rw [<- Paired.length hp];exact sz6 hz)
  refine ⟨_,I.write (x:=d) (e:=d) (t':=_) (by rw [hd];trivial) (.inl rfl) (fun b' u' ne e=>?_) ?_ (dic_put hx' hs (put_pair (DicH.mono (a:=d) hm hp) hk rv)),q⟩
  . exact (sb.2 b' ne).symm▸e
  . obtain ⟨o,_,_,e,_⟩:=hx';exact ⟨o,e⟩
theorem pe_dic0 {pos:Pos}:PE X (.Dict [] [] pos) (fun _ H Q=>∀ l,H l=none->Q (.ref l) (upd H l (.ext (DicH (fun _ _=>False) l [])))):=by
  intro pins s σ H Q I h
  have far:sysModules≠s.heap.objs.size:=fun z=>by
    have lt:=(I.mod.glob.keeps I.bk).lt
    rw [<- z] at lt
    exact absurd lt (by decide)
  refine wpAny_Dict_empty ⟨.ref s.heap.objs.size,_,I.laid (t':=s.toks) (fun b u e=>Heap.get?_push_of_some _ e) (Nat.le_refl _) (dic_put (.new s.heap) (by simpa using Ne.symm far) .nil),rfl,h _ I.fresh⟩
theorem ss_dic0 {i:Nat} {x:Str} {pos pos' lp:Pos} (hN:X.N.Nodup) (hi:X.N[i]?=some x) (hx:Loc X.env.scope x) (hs:swapsWith (.Dict [] [] lp) (some (.Name x pos')) pos.line X.env=pure false:=by rfl) (hf:X.fn x=true∨X.env.scope.names.lookup x=some .local:=by first|exact .inl rfl|exact .inr rfl|assumption) :
    SS X B W (.Assign [.Name x pos'] (.Dict [] [] lp) pos) (fun ρ=>.nx (ρ.set i (.od []))):=by
  refine PS.imp (ps_set hN hi hx pe_dic0 hs hf) fun De σ H ⟨ρ,G,s,p⟩=>fun l hl=>?_
  exact p _ _ G (s.setOwn rfl ⟨_,[],rfl,fun _ _ z=>z.elim,.nil⟩ hl) (.refl _)
noncomputable def intsDc:List D->Option (List Int)
  | []=>some []
  | .int i::ds=>(intsDc ds).map (i::·)
  | _::_=>none
noncomputable def keyD:D->Option (List Int)
  | .tup ds=>intsDc ds
  | _=>none
theorem ints_repDc {K:PySem.W.Frag} {G:Hp}:∀ {ds:List D} {vs:List V} {ks:List Int},Reps K G ds vs->intsDc ds=some ks->vs=ks.map V.int
  | [],vs,ks,r,e=>by
    cases e;exact reps_nil.mp r
  | d::ds,vs,ks,r,e=>by
    obtain ⟨v,vs',rfl,r1,r2⟩:=reps_cons.mp r
    cases d with
    | int i =>
      simp only [intsDc] at e
      cases e2:intsDc ds with
      | none=>rw [e2] at e;cases e
      | some js =>
        rw [e2] at e;cases e
        rw [rep_int.mp r1,ints_repDc r2 e2];rfl
    | _=>cases e
theorem key_rep {K:PySem.W.Frag} {G:Hp} {d:D} {v:V} {ks:List Int} (r:Rep K G d v) (e:keyD d=some ks):∃ b,v=.ref b/\SqT K G b (ks.map V.int):=by
  cases d with
  | tup ds =>
    obtain ⟨a,vs,rfl,h,rr⟩:=rep_tup.mp r
    exact ⟨a,rfl,ints_repDc rr e▸h⟩
  | _=>cases e
noncomputable def getD' (kvs:List (List Int×D)) (ks:List Int):Option D:=(kvs.find? fun p=>decide (p.1=ks)).map (·.2)
noncomputable def putD (kvs:List (List Int×D)) (ks:List Int) (d:D):List (List Int×D):=if (getD' kvs ks).isSome then kvs.map (fun p=>if p.1=ks then (p.1,d) else p) else kvs++[(ks,d)]
theorem KReps.get {K:PySem.W.Frag} {G:Hp} {ks:List Int} {kvs:List (List Int×D)} {kvv:List (List Int×V)} (h:KReps K G kvs kvv):(getD' kvs ks=none/\getK kvv ks=none)∨∃ d v,getD' kvs ks=some d/\getK kvv ks=some v/\Rep K G d v:=by
  induction h with
  | nil=>exact .inl ⟨rfl,rfl⟩
  | @cons k d v kvs kvv r t ih =>
    by_cases c:k=ks
    . exact .inr ⟨d,v,by simp [getD',List.find?_cons,c],by simp [getK,List.find?_cons,c],r⟩
    . have e1:getD' ((k,d)::kvs) ks=getD' kvs ks:=by simp [getD',List.find?_cons,c]
      have e2:getK ((k,v)::kvv) ks=getK kvv ks:=by simp [getK,List.find?_cons,c]
      rw [e1,e2];exact ih
theorem KReps.app {K:PySem.W.Frag} {G:Hp} {k:List Int} {d:D} {v:V} {kvs:List (List Int×D)} {kvv:List (List Int×V)} (h:KReps K G kvs kvv) (r:Rep K G d v):KReps K G (kvs++[(k,d)]) (kvv++[(k,v)]):=by
  induction h with
  | nil=>exact .cons r .nil
  | cons r1 _ ih=>exact .cons r1 ih
theorem KReps.len {K:PySem.W.Frag} {G:Hp} {kvs:List (List Int×D)} {kvv:List (List Int×V)} (h:KReps K G kvs kvv):kvs.length=kvv.length:=by
  induction h with
  | nil=>rfl
  | cons _ _ ih=>simp [ih]
theorem KReps.put {K:PySem.W.Frag} {G:Hp} {ks:List Int} {d:D} {v:V} {kvs:List (List Int×D)} {kvv:List (List Int×V)} (h:KReps K G kvs kvv) (r:Rep K G d v):KReps K G (putD kvs ks d) (putK kvv ks v):=by
  rcases h.get (ks:=ks) with ⟨e1,e2⟩|⟨_,_,e1,e2,_⟩
  . unfold putD putK;rw [e1,e2];exact h.app r
  . unfold putD putK;rw [e1,e2]
    show KReps K G (kvs.map _) (kvv.map _)
    clear e1 e2
    induction h with
    | nil=>exact .nil
    | @cons k d' v' kvs kvv r1 _ ih =>
      by_cases c:k=ks
      . simpa [c] using KReps.cons r ih
      . simpa [c] using KReps.cons r1 ih
theorem SR.od {K:PySem.W.Frag} {σ:St} {H G:Hp} {ρ:Rho} (h:SR K B σ H ρ G) {i:Nat} {kvs:List (List Int×D)} (q:ρ[i]?=some (.od kvs)) :
    ∃ a U kvv,σ[i]?=some (some (.ref a))/\H a=some (.ext (DicH U a kvv))/\G a=none/\B.2 a=none/\(∀ b ks,U b ks->UG K G b ks)/\KReps K G kvs kvv:=by
  obtain ⟨a,o,h1,h2,h3,h4,U,kvv,rfl,h5,h6⟩:=h.own i _ q rfl
  exact ⟨a,U,kvv,h1,h2,h3,h4,h5,h6⟩
end
end Vl
namespace Vl
open PySem PySem.Spec L2
section
variable {X:Cx} {B:Bs} {W:Wi}
theorem od_key {K:PySem.W.Frag} {σ:St} {H G H' G':Hp} {ρ:Rho} {j:Nat} {kvs:List (List Int×D)} {k:D} {v:V} {ks:List Int} (s:SR K B σ H ρ G) (q:ρ[j]?=some (.od kvs)) (y:Ext G H G' H') (r:Rep K G' k v) (e:keyD k=some ks) :
    ∃ b d U kvv,v=.ref b/\σ[j]?=some (some (.ref d))/\SqT K H' b (ks.map V.int)/\UG K G' b ks/\H' d=some (.ext (DicH U d kvv))/\(∀ b ks,U b ks->UG K G' b ks)/\(∀ b ks,UG K G' b ks->UG K H' b ks)/\KReps K G' kvs kvv:=by
  obtain ⟨b,rfl,hb⟩:=key_rep r e
  obtain ⟨d,U,kvv,h1,h2,h3,h4,h5,h6⟩:=s.od q
  exact ⟨b,d,U,kvv,rfl,h1,Same.seqT y.gh hb,hb,y.hh _ _ h2,fun c js z=>Same.seqT y.gg (h5 c js z),fun c js z=>Same.seqT y.gh z,h6.mono y.gg⟩
end
end Vl
namespace Vl
open PySem PySem.Spec L2
section
variable {X:Cx} {B:Bs} {W:Wi}
end
end Vl
namespace Vl
open PySem PySem.Spec L2
noncomputable def rDic (i:Nat):Rho->Ou:=fun ρ=>.nx (ρ.set i (.od []))
section
variable {X:Cx} {B:Bs} {W:Wi}
theorem rs_dic (i:Nat) {x:Str} {pos pos' lp:Pos} (hN:X.N.Nodup) (hi:X.N[i]?=some x:=by rfl) (hx:Loc X.env.scope x:=by first|exact Or.inl rfl|exact Or.inr rfl) (hs:swapsWith (.Dict [] [] lp) (some (.Name x pos')) pos.line X.env=pure false:=by rfl) (hf:X.fn x=true∨X.env.scope.names.lookup x=some .local:=by first|exact .inl rfl|exact .inr rfl|assumption) :
    SS X B W (.Assign [.Name x pos'] (.Dict [] [] lp) pos) (rDic i):=ss_dic0 hN hi hx hs hf
theorem room1 (h:X.A.units + 8 < cLine):X.A.units + 1 < cLine:=by lia
end
end Vl
namespace Vl
open PySem PySem.Spec L2
noncomputable def gCh (q:Int->Int->Bool) (fc:Rho->Rs D) (ρ:Rho) (j:Int):Rs D:=(fc ρ).bind fun z=>match z with|.int k=>.ok (.bl (q j k))|_=>.no
noncomputable def fCh (p q:Int->Int->Bool) (fa fb fc:Rho->Rs D):Rho->Rs D:=fun ρ=>(fa ρ).bind fun x=>(fb ρ).bind fun y=>match x,y with
  | .int i,.int j=>if p i j=true then gCh q fc ρ j else .ok (.bl false)
  | _,_=>.no
noncomputable def pLe (i j:Int):Bool:=decide (i<=j)
section
variable {X:Cx} {K:PySem.W.Frag} {B:Bs} {W:Wi} {σ:St} {G H:Hp} {ρ:Rho} {a b c:Expr} {pos:Pos} {fa fb fc:Rho->Rs D}
theorem tCh_of {p q:Int->Int->Bool} {Q:VK} (h:tF K B W (fCh p q fa fb fc) σ H Q):tChain (rI0 fun i j=>.bl (p i j)) (rI0 fun i j=>.bl (q i j)) (tF K B W fa) (tF K B W fb) (tF K B W fc) σ H Q:=by
  obtain ⟨ρ,G,s,h1⟩:=h
  refine ⟨ρ,G,s,h1.bind.mono fun v H1 ⟨G1,x,e1,r1,h2⟩=>⟨ρ,G1,s.ext e1,h2.bind.mono fun u H2 ⟨G2,y,e2,r2,h3⟩=>?_⟩⟩
  have s2:=(s.ext e1).ext e2
  cases x with
  | int i =>
    cases y with
    | int j =>
      refine ⟨i,j,rep_int.mp r1,rep_int.mp r2,p i j,rfl,?_⟩
      dsimp only at h3
      by_cases c:p i j=true
      . rw [if_pos c] at h3 ⊢
        refine ⟨ρ,G2,s2,h3.bind.mono fun w' H3 ⟨G3,z,e3,r3,h4⟩=>?_⟩
        cases z with
        | int k=>exact ⟨j,k,rep_int.mp r2,rep_int.mp r3,h4 _ H3 G3 ((s2.ext e3).ext0) (rep_bl.mpr rfl)⟩
        | _=>exact h4.elim
      . rw [if_neg c] at h3 ⊢
        exact h3 _ H2 G2 s2.ext0 (rep_bl.mpr rfl)
    | _=>exact h3.elim
  | _=>cases y <;> exact h3.elim
theorem se_chLL (ha:SE X B W a fa) (hb:SE X B W b fb) (hc:SE X B W c fc) (hm:lastMarks [.LtE,.LtE] [b,c]=false:=by with_unfolding_all rfl):SE X B W (.Compare a [.LtE,.LtE] [b,c] pos) (fCh pLe pLe fa fb fc) :=
  PE.imp (pe_chain op_le op_le ha hb hc hm) fun _ _ _ h=>tCh_of h
end
end Vl
namespace Vl
open PySem PySem.Spec L2
section
variable {X:Cx} {B:Bs} {W:Wi}
theorem re_glob {x:Str} {i:Int} {pos:Pos} (h:∃ t,X.mg x=some (.int i t)) (hg:Gl X x:=by rfl) (hd:(x == ("__debug__":Str))=false:=by decide):SE X B W (.Name x pos) (fC (.int i)):=by
  obtain ⟨t,h⟩:=h
  exact PE.imp (pe_glob hg h (show RelV (.int i) (.int i t) from ⟨t,rfl⟩) hd) fun σ H Q ⟨ρ,G,s,p⟩=>p _ H G s.ext0 (rep_int.mpr rfl)
end
end Vl
namespace L2
open PySem PySem.Spec PyProof.Rows
section
variable {X:Cx} {pins:List (Addr×Obj)} {σ:List (Option V)} {H:Hp} {s:Shared} {h':Heap}
end
section
variable {X:Cx}
end
end L2
namespace Vl
open PySem PySem.Spec L2
section
variable {X:Cx} {B:Bs} {W:Wi}
end
end Vl
namespace PySem
namespace Rvd
theorem slot_init:Slot "reversed" "__init__" "object.__init__" :=
  .of (owner:="object") (n:="__init__") (by rw [typeLookup_type,builtinLookup_eq_fast];kernel_rfl) (by decide +kernel) (by decide +kernel) (by decide +kernel)
    (by first|exact .inl (by decide +kernel)|exact .inr (by decide +kernel)) (by rw [isSubtype_type];kernel_rfl)
theorem called:TypeCalled "reversed" "reversed.__new__" "object.__init__" :=
  ⟨by decide +kernel,by decide +kernel,⟨_,_,F.mro_reversed⟩,F.made_reversed,by decide +kernel,by rw [isSubtype_type];kernel_rfl,slot_init⟩
end Rvd
section
variable {prog:Program} {w:World} {A:Around} {E:Value->Shared->Prop} {s:Shared}
end
end PySem
namespace PySem
open PyProof.Rows (IsTup)
section
variable {prog:Program} {w:World} {A:Around} {E:Value->Shared->Prop} {s:Shared}
end
section
variable {prog:Program} {w:World} {A:Around} {E:Value->Shared->Prop} {s:Shared}
end
end PySem
namespace Vl
open PySem PySem.Spec L2
section
variable {X:Cx} {B:Bs} {W:Wi} {K:PySem.W.Frag}
end
end Vl
namespace Vl
open PySem PySem.Spec PySem.Calls PySem.W L2
structure FunD (K:PySem.W.Frag) (x:Str) (st:Stmt) (f:Addr) (fd:FuncData) (ps:List Str):Prop where
  ex:∃ (oc:Value) (od:Option Addr) (dV kV doc pm:Value) (an:Option Addr) (cdv ct:Value) (osl:Array (Option Value)),
    fd=PySem.W.fnOf x x (defArgs st) (defBody st) (defScope st) dV kV doc pm an cdv ct/\K.lookup f=some ⟨oc,od,.func fd,osl⟩/\PySem.W.codeIn K cdv x=true
  kp:PySem.W.keepIn K (.ref f)=true
  bi:Binds K fd ps []
end Vl
namespace Vl
open PySem PySem.Spec L2
section
variable {X:Cx} {K:PySem.W.Frag} {B:Bs} {W:Wi} {σ:St} {G H:Hp} {ρ:Rho} {a b c:Expr} {pos:Pos} {fa fb fc:Rho->Rs D}
end
section
variable {X:Cx} {B:Bs} {W:Wi}
end
end Vl
namespace Dk
open PySem PySem.Spec
section
variable {prog:Program} {w:World} {A:Around} {E:Value->Shared->Prop} {s:Shared} {d it:Addr} {es:Array DictEntry} {ep:Nat}
noncomputable def RawD (h:Heap) (d:Addr) (es:Array DictEntry) (ep:Nat):Prop:=∃ o,h.get? d=some o/\o.ExactDict/\o.data=.dict es ep
theorem RawD.ty (x:RawD s.heap d es ep):s.TypeIs (.ref d) "dict":=let ⟨o,ho,hc,_⟩:=x;⟨o,ho,hc.1⟩
theorem RawD.go {h h':Heap} (x:RawD h d es ep) (e:∀ o,h.get? d=some o->h'.get? d=some o):RawD h' d es ep:=let ⟨o,ho,r⟩:=x;⟨o,e o ho,r⟩
noncomputable def kit (d:Addr) (i n ep:Nat):Obj:={ cls:=.type "dict_keyiterator",data:=.fields #[.ref d,.int i 0,.int n 0,.int ep 0] }
theorem kit_is {h:Heap} {i n:Nat} (e:h.get? it=some (kit d i n ep)):h.IsKeyIter it d i n ep:=⟨_,e,rfl,rfl⟩
theorem iterD {Q:Value->Shared->Prop} (hd:(d == sysModules)=false) (hm:RawD s.heap d es ep) (hQ:Q (.ref s.heap.objs.size) { s with heap:=s.heap.push (kit d 0 es.size ep) }):wpAny (model prog w) A (pyIter (.ref d)) Q E s:=by
  obtain ⟨o,ho,hc,hdat⟩:=id hm
  refine wpAny_pyIter_slot hm.ty F.slot_dict_iter (wpAny_call_entry F.slot_dict_iter hm.ty F.entry_dict_iter ?_ (F.args_dict_iter_1 _))
  unfold Builtin.«dict.__iter__» Builtin.Dict.dictSlotNone
  refine wpAny_bind (wpAny_bind (wpAny_notOrdered_dict hm.ty ?_))
  show wpAny _ _ (pure (Value.ref d)) _ _ s
  refine wpAny_pure ?_
  show wpAny _ _ (Builtin.Dict.showsAll d >>= _) _ _ s
  unfold Builtin.Dict.showsAll
  rw [if_neg (by rw [hd];exact Bool.false_ne_true)]
  refine wpAny_bind (wpAny_pure (wpAny_bind (wpAny_dictEntries ho hdat (wpAny_bind (wpAny_dictEpoch ho hdat ?_)))))
  exact wpAny_bind (wpAny_newObj_type (wpAny_pure ⟨_,rfl,"dict_keyiterator",_,⟨_,Heap.get?_push_size _ rfl,rfl⟩,F.slot_dict_keyiterator_next.lookup,hQ⟩))
theorem nextD {i:Nat} {Q:Option Value->Shared->Prop} (hit:s.heap.IsKeyIter it d i es.size ep) (hm:RawD s.heap d es ep) (hx:i < es.size)
    (hQ:∀ h',h'.IsKeyIter it d (i + 1) es.size ep->Heap.SameBut it s.heap h'->Q (some es[i].key) { s with heap:=h' }):wpAny (model prog w) A (pyNext (.ref it)) Q E s:=by
  obtain ⟨o,ho,hc,hd⟩:=id hit
  obtain ⟨od,hod,hcd,hdd⟩:=id hm
  unfold pyNext
  refine wpAny_bind (wpAny_attempt (wpAny_callSpecial?_slot (name:=Str.ofString "__next__") hit.typeIs F.slot_dict_keyiterator_next (wpAny_call_entry F.slot_dict_keyiterator_next hit.typeIs F.entry_dict_keyiterator_next ?_ (F.args_dict_keyiterator_next_1 _))))
  refine wpAny_bind (wpAny_pure (wpAny_bind (wpAny_bind (wpAny_bind ?_))))
  first|refine wpAny_typeNameOfWhole_keyiter hit.typeIs (wpAny_pure ?_)|refine wpAny_typeNameOf_keyiter hit.typeIs (wpAny_pure ?_)
  refine wpAny_bind (wpAny_fieldsOf ho hd ?_)
  simp only [show Builtin.Dict_items.ownsTuple "dict_keyiterator"=false by decide,Bool.false_eq_true,if_false]
  show wpAny _ _ (if (Value.ref d == Value.none)=true then _ else _) _ _ s
  rw [if_neg (by intro z;cases z)]
  refine wpAny_bind (wpAny_pure (wpAny_bind (wpAny_dictEntries hod hdd ?_)))
  rw [if_neg (by simp)]
  refine wpAny_bind (wpAny_pure (wpAny_bind (wpAny_dictEpoch hod hdd ?_)))
  rw [if_neg (by simp)]
  refine wpAny_pure ?_
  simp only [show ¬ ((i:Int) < 0) from by lia,if_false,Int.toNat_natCast,Array.getElem?_eq_getElem hx]
  refine wpAny_bind (wpAny_bind ?_)
  first|refine wpAny_typeNameOfWhole_keyiter hit.typeIs (wpAny_pure ?_)|refine wpAny_typeNameOf_keyiter hit.typeIs (wpAny_pure ?_)
  refine wpAny_bind (wpAny_isOneOf_keyiter hit.typeIs ?_)
  show wpAny _ _ (setField (.ref it) 1 (rawInt ((i:Int) + 1)) >>= _) _ _ s
  refine wpAny_bind (wpAny_setField ho hd (by simp) ?_)
  have hit':(s.heap.update it (Obj.mapFields (·.setIfInBounds 1 (rawInt ((i:Int) + 1))))).IsKeyIter it d (i + 1) es.size ep :=
    ⟨_,Heap.get?_update_self _ ho (Obj.isFreed_of_fields (Obj.data_mapFields hd _)),(Obj.cls_mapFields ..).trans hc,by rw [Obj.data_mapFields hd];simp [rawInt]⟩
  refine wpAny_bind (wpAny_holding (wpAny_bind ?_))
  refine wpAny_isOneOf_keyiter (s:={ s with heap:=s.heap.update it (Obj.mapFields (·.setIfInBounds 1 (rawInt ((i:Int) + 1)))) }) hit'.typeIs ?_
  show wpAny _ _ (pure es[i].key) _ _ _
  exact wpAny_pure (wpAny_pure ⟨_,rfl,wpAny_pure (hQ _ hit' (Heap.SameBut.update ..))⟩)
theorem endD {Q:Option Value->Shared->Prop} (hh:A.handled=none) (hit:s.heap.IsKeyIter it d es.size es.size ep) (hm:RawD s.heap d es ep)
    (hQ:∀ h',Heap.ExtBut it s.heap h'->Q none { s with heap:=h' }):wpAny (model prog w) A (pyNext (.ref it)) Q E s:=by
  obtain ⟨o,ho,hc,hd⟩:=id hit
  obtain ⟨od,hod,hcd,hdd⟩:=id hm
  unfold pyNext
  refine wpAny_bind (wpAny_attempt (wpAny_callSpecial?_slot (name:=Str.ofString "__next__") hit.typeIs F.slot_dict_keyiterator_next (wpAny_call_entry F.slot_dict_keyiterator_next hit.typeIs F.entry_dict_keyiterator_next ?_ (F.args_dict_keyiterator_next_1 _))))
  refine wpAny_bind (wpAny_pure (wpAny_bind (wpAny_bind (wpAny_bind ?_))))
  first|refine wpAny_typeNameOfWhole_keyiter hit.typeIs (wpAny_pure ?_)|refine wpAny_typeNameOf_keyiter hit.typeIs (wpAny_pure ?_)
  refine wpAny_bind (wpAny_fieldsOf ho hd ?_)
  simp only [show Builtin.Dict_items.ownsTuple "dict_keyiterator"=false by decide,Bool.false_eq_true,if_false]
  show wpAny _ _ (if (Value.ref d == Value.none)=true then _ else _) _ _ s
  rw [if_neg (by intro z;cases z)]
  refine wpAny_bind (wpAny_pure (wpAny_bind (wpAny_dictEntries hod hdd ?_)))
  rw [if_neg (by simp)]
  refine wpAny_bind (wpAny_pure (wpAny_bind (wpAny_dictEpoch hod hdd ?_)))
  rw [if_neg (by simp)]
  refine wpAny_pure ?_
  simp only [show ¬ ((es.size:Int) < 0) from by lia,if_false,Int.toNat_natCast,Array.getElem?_eq_none (Nat.le_refl _)]
  refine wpAny_bind (wpAny_bind ?_)
  first|refine wpAny_typeNameOfWhole_keyiter hit.typeIs (wpAny_pure ?_)|refine wpAny_typeNameOf_keyiter hit.typeIs (wpAny_pure ?_)
  show wpAny _ _ (setField (.ref it) 0 .none >>= _) _ _ s
  refine wpAny_bind (wpAny_setField ho hd (by simp) ?_)
  show wpAny _ _ (newExc (.type "StopIteration") [] >>= _) _ _ _
  refine wpAny_bind ?_
  simp only [newExc,newTuple]
  refine wpAny_bind (wpAny_newObj_type ?_ (by size_fits))
  refine wpAny_bind (m:=firstArgMember _ _) (wpAny_of_eq (a:=Value.none) (by first|rfl|(simp only [firstArgMember];rfl)) ?_)
  refine wpAny_newObj_type ?_ (by size_fits)
  simp only [raiseNew]
  refine wpAny_bind (wpAny_handled ?_)
  rw [show A.in1.handled=none from hh]
  refine wpAny_bind (wpAny_pure (wpAny_throw ?_))
  refine wpAny_bind (wpAny_isInstance (T:="StopIteration") (b:=true) ⟨_,Heap.get?_push_size _ rfl,rfl⟩ isSubtype_stop ?_)
  exact wpAny_pure (hQ _ (((Heap.SameBut.update ..).extBut.push _).push _))
theorem walksD (hh:A.handled=none) (hne:d≠it) :
    Walks prog w A it [it,d] [it] es.size (fun i v=>∃ e,es[i]?=some e/\v=e.key) (fun i h=>h.IsKeyIter it d i es.size ep/\RawD h d es ep) where
  sub:=fun b hb=>by simp at hb;simp [hb]
  frame:=fun _ _ _ st hk=>⟨st.1.at fun o e=>hk it (by simp) o e,st.2.go fun o e=>hk d (by simp) o e⟩
  item:=fun i s Q E hi st hQ=>nextD st.1 st.2 hi fun h' hI hs=>hQ _ h' s.toks ⟨_,Array.getElem?_eq_getElem hi,rfl⟩ ⟨hI,st.2.go fun o e=>(hs.2 d hne).trans e⟩ fun b o hb e=>(hs.2 b (fun z=>hb (by simp [z]))).trans e
  done:=fun s Q E st hQ=>endD hh st.1 st.2 fun h' he=>hQ h' s.toks fun b o hb e=>he b o (fun z=>hb (by simp [z])) e
  self:=fun _ _ _ _ st hQ=>wpAny_pyIter_keyiter st.1 hQ
theorem hintD {Q:Bool->Shared->Prop} (hm:RawD s.heap d es ep) (h:Q false s):wpAny (model prog w) A (Builtin.List.listLengthHint (.ref d)) Q E s:=by
  unfold Builtin.List.listLengthHint
  refine wpAny_bind (wpAny_specialOf hm.ty F.slot_dict_len.lookup ?_)
  have e1:splitId "dict.__len__"=some ("dict","__len__"):=by kernel_rfl
  simp only [e1]
  refine wpAny_bind (wpAny_isInstance (b:=true) hm.ty (by rw [isSubtype_type];kernel_rfl) ?_)
  simp only [Bool.not_true,Bool.false_eq_true,if_false]
  have pick:∀ {c:Bool} {x y:Sem Bool},c=true->wpAny (model prog w) A x Q E s->wpAny (model prog w) A (if c=true then x else y) Q E s:=fun {c x y} hc hy=>by rw [hc];exact hy
  refine pick (by decide +kernel) ?_
  exact wpAny_bind (wpAny_typeOf hm.ty (wpAny_pure h))
noncomputable abbrev nilObj:Obj:=Tb.nilObj
theorem collectD {D:Addr} {Q:List Value->Shared->Prop} (hh:A.handled=none) (hd:(D == sysModules)=false) (ho:RawD s.heap D es ep) (hn:es.size<=4900)
    (hQ:∀ h' tk,(∀ b o,s.heap.get? b=some o->h'.get? b=some o)->s.heap.objs.size<=h'.objs.size->Q (es.toList.map (·.key)) { s with heap:=h',toks:=tk }):wpAny (model prog w) A (collect (.ref D)) Q E s:=by
  have hDlt:D < s.heap.objs.size:=by obtain ⟨o,e,_⟩:=id ho;exact Heap.lt_size e
  unfold collect
  refine wpAny_bind (wpAny_runValue (codeAny_builtin F.entry_proto_collect ?_))
  rw [Around.under_plainId F.plain_proto_collect _]
  show wpAny _ A.in1 (newList [] >>= fun l=>again (.builtin "list.__iadd__" ⟨[l,.ref D],[]⟩)) _ _ s
  refine wpAny_bind (wpAny_newObj_type ?_)
  refine wpAny_pure ⟨plainId_quiet F.plain_list_iadd _,codeAny_builtin F.entry_list_iadd ?_⟩
  rw [Around.under_plainId F.plain_list_iadd _]
  have p1:∀ b o,s.heap.get? b=some o->(s.heap.push nilObj).get? b=some o:=fun b o e=>Heap.get?_push_of_some _ e
  have hD1:RawD (s.heap.push nilObj) D es ep:=ho.go fun o e=>p1 _ _ e
  have hS1:(s.heap.push nilObj).get? s.heap.objs.size=some nilObj:=Heap.get?_push_size _ rfl
  show wpAny _ A.in1 (Builtin.List.listExtendWith (.ref s.heap.objs.size) (.ref D) (.ref s.heap.objs.size)) _ _ _
  unfold Builtin.List.listExtendWith
  have hT:Shared.TypeIs { s with heap:=s.heap.push nilObj } (.ref D) "dict":=RawD.ty (s:={ s with heap:=s.heap.push nilObj }) hD1
  refine wpAny_bind (wpAny_typeOf hT ?_)
  have k1:Builtin.List.listSameRef (.ref s.heap.objs.size) (.ref D)=false:=by simp [Builtin.List.listSameRef];exact Nat.ne_of_gt hDlt
  have k2:(Value.type "dict" == Value.type "list")=false:=by decide
  have k3:(Value.type "dict" == Value.type "tuple")=false:=by decide
  simp only [k1,k2,k3,Bool.or_self,Bool.false_eq_true,if_false]
  refine wpAny_bind (iterD hd hD1 ?_)
  have p2:∀ b o,(s.heap.push nilObj).get? b=some o->((s.heap.push nilObj).push (kit D 0 es.size ep)).get? b=some o:=fun b o e=>Heap.get?_push_of_some _ e
  have hD2:RawD ((s.heap.push nilObj).push (kit D 0 es.size ep)) D es ep:=hD1.go fun o e=>p2 _ _ e
  have hS2:=p2 _ _ hS1
  have hI2:((s.heap.push nilObj).push (kit D 0 es.size ep)).get? (s.heap.push nilObj).objs.size=some (kit D 0 es.size ep):=Heap.get?_push_size _ rfl
  have hIsz:(s.heap.push nilObj).objs.size=s.heap.objs.size + 1:=Heap.size_push ..
  refine wpAny_bind (wpAny_holding (hintD hD2 ?_))
  have pick:∀ {c:Bool} {x y:Sem PySem.Fin} {R:PySem.Fin->Shared->Prop} {F':Value->Shared->Prop} {s':Shared},c=true->wpAny (model prog w) A.in1 x R F' s'->wpAny (model prog w) A.in1 (if c=true then x else y) R F' s':=fun {c x y R F' s'} hc hy=>by rw [hc];exact hy
  refine pick (by decide +kernel) ?_
  refine wpAny_bind (wpAny_rule ?_)
  refine wpAny_bind ?_
  show wpAny _ A.in1 (updateSeq s.heap.objs.size (·.push .none) >>= fun _=>updateSeq s.heap.objs.size (·.pop)) _ _ _
  refine wpAny_bind (wpAny_updateSeq hS2 rfl ?_)
  have hS3:=Heap.get?_update_self (Obj.mapSeq (·.push Value.none)) hS2 rfl
  refine wpAny_updateSeq hS3 rfl ?_
  have hS4:=Heap.get?_update_self (Obj.mapSeq (·.pop)) hS3 rfl
  generalize hH:(((s.heap.push nilObj).push (kit D 0 es.size ep)).update s.heap.objs.size (Obj.mapSeq (·.push Value.none))).update s.heap.objs.size (Obj.mapSeq (·.pop))=H at hS4
  have oth:∀ b o,b≠s.heap.objs.size->((s.heap.push nilObj).push (kit D 0 es.size ep)).get? b=some o->H.get? b=some o:=fun b o hb e=>by
    rw [<- hH];exact (Heap.get?_update_other _ _ (Ne.symm hb)).trans ((Heap.get?_update_other _ _ (Ne.symm hb)).trans e)
  have W:=(walksD (prog:=prog) (w:=w) (A:=A.in1) (d:=D) (it:=(s.heap.push nilObj).objs.size) (es:=es) (ep:=ep) (by simpa using hh) (by rw [hIsz];exact Nat.ne_of_lt (Nat.lt_succ_of_lt hDlt))).toS
  have hSf:s.heap.objs.size∉[(s.heap.push nilObj).objs.size,D]:=by
    simp only [List.mem_cons,List.not_mem_nil,or_false,not_or]
    exact ⟨by rw [hIsz];exact Nat.ne_of_lt (Nat.lt_succ_self _),Nat.ne_of_gt hDlt⟩
  refine wpAny_pure ⟨plainId_quiet F.plain_extend_loop _,codeAny_extend_loopS W (by rw [sizeLine_eq];lia) s.heap.objs.size hSf _ es.size 0 _ _ _ rfl (Nat.zero_le _) ⟨kit_is (oth _ _ (by rw [hIsz];exact Nat.succ_ne_self _) hI2),hD2.go fun o e=>oth _ _ (Nat.ne_of_lt hDlt) e⟩ hS4 (ItemsOf.nil _) fun s' acc c hm hS' hacc=>?_⟩
  show wpAny _ A (load s.heap.objs.size >>= _) _ _ s'
  refine wpAny_bind (wpAny_load hS' ?_)
  have hacc':acc.toList=es.toList.map (·.key):=by
    apply List.ext_getElem?
    intro i
    rw [List.getElem?_map,Array.getElem?_toList,Array.getElem?_toList]
    cases e:acc[i]? with
    | some v =>
      obtain ⟨x,hx,rfl⟩:=hacc.2 i v e
      rw [hx];rfl
    | none =>
      have:acc.size<=i:=by simpa using e
      rw [hacc.1] at this
      rw [Array.getElem?_eq_none this];rfl
  obtain ⟨h',g',d',tk',os'⟩:=s'
  have eg:g'=s.gens:=hm.gens
  have ed:d'=s.drawn:=hm.drawn
  have eo:os'=s.os:=hm.os
  subst eg ed eo
  show wpAny _ _ (pure acc.toList) _ _ _
  rw [hacc']
  refine wpAny_pure (hQ h' tk' (fun b o e=>hm.heap b o ?_ (oth b o (Nat.ne_of_lt (Heap.lt_size e)) (p2 _ _ (p1 _ _ e)))) (Nat.le_of_lt (Heap.lt_size hS')))
  simp only [List.mem_cons,List.not_mem_nil,or_false,not_or]
  exact ⟨Nat.ne_of_lt (Heap.lt_size e),by rw [hIsz];exact Nat.ne_of_lt (Nat.lt_succ_of_lt (Heap.lt_size e))⟩
end
end Dk
namespace Vl
open PySem PySem.Spec L2 So Tb
section
variable {X:Cx} {B:Bs} {W:Wi} {K:PySem.W.Frag}
noncomputable def rSortD (K:PySem.W.Frag):List V->Hp->VK->Prop:=fun xs H Q=>∃ (a:Addr) (U:Addr->List Int->Prop) (kvv:List (List Int×V)),xs=[.ref a]/\DicAt H a U kvv/\(∀ b ks,U b ks->UG K H b ks)/\kvv.length < 4900/\(∀ p∈kvv,p.1≠[]) /\
  ∀ l zs,H l=none->zs.length=(sortK (kvv.map (·.1))).length->(∀ (i:Nat) v,zs[i]?=some v->∃ b,v=.ref b/\U b ((sortK (kvv.map (·.1))).getD i []))->Q (.ref l) (upd H l (.lst zs))
theorem paired_keys {U:Addr->List Int->Prop}:∀ {kvv:List (List Int×V)} {xs:List (List Int×Addr×Value)},Paired (fun (p:List Int×V) (q:List Int×Addr×Value)=>p.1=q.1/\U q.2.1 q.1/\RelV p.2 q.2.2) kvv xs ->
    xs.map (·.1)=kvv.map (·.1)/\∀ x∈xs,U x.2.1 x.1
  | [],_,.nil=>⟨rfl,fun _ h=>by cases h⟩
  | p::kvv,q::xs,.cons r t=>by
    obtain ⟨e,m⟩:=paired_keys t
    refine ⟨by rw [List.map_cons,List.map_cons,e,r.1],fun x hx=>?_⟩
    rcases List.mem_cons.mp hx with rfl|hx
    . exact r.2.1
    . exact m x hx
theorem call_sortD (hc:X.calm=true):CallR X (.builtin "sorted") (rSortD X.K):=by
  intro pins s σ H xs us Q I r h
  obtain ⟨a,U,kvv,rfl,hH,hU,hz,hne,q⟩:=h
  obtain ⟨u,rfl,rx⟩:=r.one
  cases rx
  obtain ⟨φ,hH,hφ⟩:=hH
  obtain ⟨o,es,ep,ys,ho,hx,hdat,hsys,hes,hnd,hp⟩:=hφ _ (I.hok _ _ hH).1
  obtain ⟨ek,hu⟩:=paired_keys hp
  have hlen:ys.length=kvv.length:=by have:=congrArg List.length ek;simpa using this
  have hsz:es.size=ys.length:=by have:=congrArg List.length hes;simpa using this
  have evs:es.toList.map (·.key)=ys.map fun x=>Value.ref x.2.1:=by rw [hes,List.map_map];rfl
  have each:∀ (i:Nat) v,(ys.map fun x=>Value.ref x.2.1)[i]?=some v->∃ b,v=.ref b/\IsTupleKey (intKind X.prog X.w) s.heap ((ys.map (·.1)).getD i []) b/\U b ((ys.map (·.1)).getD i []):=fun i v hv=>by
    rw [List.getElem?_map] at hv
    cases e:ys[i]? with
    | none=>rw [e] at hv;cases hv
    | some x =>
      rw [e] at hv
      have hg:(ys.map (·.1)).getD i []=x.1:=by rw [List.getD_eq_getElem?_getD,List.getElem?_map,e];rfl
      rw [hg]
      have hux:=hu x (List.mem_of_getElem? e)
      exact ⟨x.2.1,(Option.some.inj hv).symm,key_of I (hU _ _ hux),hux⟩
  have hd0:Dk.RawD s.heap a es ep:=⟨o,ho,hx,hdat⟩
  refine So.sorted_of (vs:=ys.map fun x=>Value.ref x.2.1) (kss:=ys.map (·.1)) (fun Q' E' hq=>?_) ⟨by simp,fun i v hv=>let ⟨b,h1,h2,_⟩:=each i v hv;⟨b,h1,h2⟩⟩ (fun ks hks=>?_) (by simp;lia) fun h' tk l n p' k hl' hsp hg=>?_
  . have:=Dk.collectD (prog:=X.prog) (w:=X.w) (A:=X.A.in1) (E:=E') (Q:=Q') (by simpa using I.ok.hd hc) hsys hd0 (by lia) (by rw [evs];exact hq)
    exact this
  . rw [ek] at hks
    obtain ⟨p,hp',rfl⟩:=List.mem_map.mp hks
    exact hne p hp'
  . have ho':=out_sorted (U:=U) (vs:=ys.map fun x=>Value.ref x.2.1) (kss:=ys.map (·.1)) (kss':=ys.map (·.1)) ⟨by simp,fun i v hv=>let ⟨b,h1,_,h3⟩:=each i v hv;⟨b,h1,h3⟩⟩ hsp (.refl _)
    obtain ⟨zs,r1,zl,zv⟩:=outs_V ho'
    rw [ek] at zl zv
    have hln:H l=none:=I.hok.fresh hl'
    refine ⟨.ref l,_,I.laid (t':=tk) k hl' (show ObjOk X.prog X.w _ h' _ (.lst zs) from ⟨?_,_,n,r1,hg⟩),rfl,q l zs hln zl zv⟩
    have:(sortK (kvv.map (·.1))).length=(kvv.map (·.1)).length:=(sortK_perm _).length_eq
    rw [zl,this,sizeLine_eq];simp;lia
noncomputable def gSortD (j:Nat):Rho->Rs D:=fun ρ=>match ρ[j]? with
  | some (.od kvs)=>if kvs.length < 4900/\∀ p∈kvs,p.1≠[] then .ok (.lst ((sortK (kvs.map (·.1))).map tupK)) else .no
  | _=>.no
theorem KReps.keys {G:Hp} {kvs:List (List Int×D)} {kvv:List (List Int×V)} (h:KReps K G kvs kvv):kvv.map (·.1)=kvs.map (·.1):=by
  induction h with
  | nil=>rfl
  | cons r t ih=>rw [List.map_cons,List.map_cons,ih]
theorem re_sortD (j:Nat) {x:Str} {p p1 pos:Pos} (hc:X.calm=true) (hm:X.mg "sorted"=none) (hN:X.N[j]?=some x:=by rfl) (hv:Vis X.env.scope x:=by first|exact Or.inl rfl|exact Or.inr (Or.inl rfl)|exact Or.inr (Or.inr rfl)) (hd:(x == ("__debug__":Str))=false:=by decide)
    (hcd:(x == ("__classdict__":Str))=false:=by decide) (hg:Gl X "sorted":=by rfl) (he:starEach [.Name x p1] X.env=[(false,eval (.Name x p1) X.env)]:=by rfl) :
    SE X B W (.Call (.Name "sorted" p) [.Name x p1] [] pos) (gSortD j):=by
  refine PE.imp (pe_callB (call_sortD hc) hg hm PyProof.Rows.boot_sorted (pa_cons (pe_var hN hv hd hcd) pa_nil he) (by decide) (by decide) he rfl) fun σ H Q hq9=>?_
  obtain ⟨ρ,G,s,pp⟩:=hq9
  unfold gSortD at pp
  split at pp
  . rename_i kvs q
    split at pp
    . rename_i hc2
      obtain ⟨a,o,h1,h2,h3,h4,U,kvv,rfl,hU,hk⟩:=s.own j _ q rfl
      have ek:=hk.keys
      have el:kvv.length=kvs.length:=by have:=congrArg List.length ek;simpa using this
      refine ⟨_,h1,a,U,kvv,rfl,dicAt h2,fun b ks z=>Same.seqT s.en.gh (hU b ks z),by lia,fun p hp=>?_,fun l zs hl hz hv'=>?_⟩
      . have:p.1∈kvs.map (·.1):=ek▸List.mem_map_of_mem hp
        obtain ⟨p',hp',e⟩:=List.mem_map.mp this
        exact e▸hc2.2 p' hp'
      . rw [ek] at hz hv'
        have x:=ext_lst (xs:=zs) s.en.gh s.en.tp hl
        refine pp _ _ _ x (rep_lst.mpr ⟨l,zs,rfl,.of upd_same,(keys_reps hz fun i v hv2=>?_).mono x.gg⟩)
        obtain ⟨b,e1,e2⟩:=hv' i v hv2
        exact ⟨b,e1,hU b _ e2⟩
    . exact pp.elim
  . exact pp.elim
end
end Vl
namespace Zp
open PySem PySem.Spec
section
variable {prog:Program} {w:World} {A:Around} {E:Value->Shared->Prop} {s:Shared}
end
structure Ap (z TI TO i1 i2:Addr) (f1 f2:List Addr):Prop where
  zTI:TI≠z
  zTO:TO≠z
  TT:TI≠TO
  z1:z∉f1
  z2:z∉f2
  o1:TO∉f1
  o2:TO∉f2
  t1:TI∉f1
  t2:TI∉f2
  m1:i1∈f1
  m2:i2∈f2
  c1:i2∉f1
  c2:i1∉f2
section
variable {prog:Program} {w:World} {A:Around} {E:Value->Shared->Prop} {s:Shared} {z TI TO i1 i2:Addr} {f1 f2:List Addr} {n1 n2 k:Nat} {P1 P2:Nat->Value->Prop} {S1 S2:Nat->Heap->Prop} {a b:Value}
end
end Zp
namespace Zp
open PySem PySem.Spec
section
variable {prog:Program} {w:World} {A:Around} {E:Value->Shared->Prop} {s:Shared}
end
end Zp
namespace L2
open PySem PySem.Spec PyProof.Rows
section
variable {X:Cx}
end
end L2
namespace Vl
open PySem PySem.Spec L2
section
variable {X:Cx} {B:Bs} {W:Wi} {K:PySem.W.Frag} {G:Hp}
end
end Vl
namespace Vl
open PySem PySem.Spec PySem.Calls PySem.W L2
section
variable {X:Cx} {K:PySem.W.Frag} {B:Bs} {W:Wi} {σ:St} {G H:Hp} {ρ:Rho}
noncomputable def rOwnC (i:Nat) (f:Rho->Rs D):Rho->Ou:=fun ρ=>oR (f ρ) ρ fun d=>match d with
  | .lst ds=>.nx (ρ.set i (.ow ds))
  | .tup ds=>.nx (ρ.set i (.ow ds))
  | _=>.no
theorem rs_ownC (i:Nat) {x:Str} {e:Expr} {pos pos' p cp:Pos} {f:Rho->Rs D} (hN:X.N.Nodup) (hm:X.mg "list"=none) (he:SE X B W e f) (hi:X.N[i]?=some x:=by rfl) (hx:Loc X.env.scope x:=by first|exact Or.inl rfl|exact Or.inr rfl)
    (hs:swapsWith (.Call (.Name "list" p) [e] [] cp) (some (.Name x pos')) pos.line X.env=pure false:=by rfl) (hf:X.fn x=true∨X.env.scope.names.lookup x=some .local:=by first|exact .inl rfl|exact .inr rfl|assumption) (hg:Gl X "list":=by rfl) (hst:starEach [e] X.env=[(false,eval e X.env)]:=by rfl) :
    SS X B W (.Assign [.Name x pos'] (.Call (.Name "list" p) [e] [] cp) pos) (rOwnC i f):=by
  refine PS.imp (ps_set hN hi hx (pe_callTy call_list_of hg hm PyProof.Rows.boot_list (pa_cons he pa_nil hst) (by decide) (by decide) hst rfl) hs hf) fun De σ H hq9=>?_
  obtain ⟨ρ,G,s,p⟩:=hq9
  unfold rOwnC at p
  refine ⟨ρ,G,s,post_of s p fun d v H' G' _ y r p'=>?_⟩
  cases d with
  | lst ds =>
    obtain ⟨a,vs,rfl,q,rr⟩:=rep_lst.mp r
    exact ⟨a,vs,rfl,.inl (y.gh.seq q),fun c hc=>p' _ _ G' ((s.ext y).setOw rr hc) (.refl _)⟩
  | tup ds =>
    obtain ⟨a,vs,rfl,q,rr⟩:=rep_tup.mp r
    exact ⟨a,vs,rfl,.inr (Same.seqT y.gh q),fun c hc=>p' _ _ G' ((s.ext y).setOw rr hc) (.refl _)⟩
  | _=>exact p'.elim
theorem Reps.set:∀ {ds:List D} {vs:List V} {d:D} {v:V} (j:Nat),Reps K G ds vs->Rep K G d v->Reps K G (ds.set j d) (vs.set j v)
  | [],_,_,_,_,h,_=>by rw [reps_nil.mp h];exact reps_nil.mpr rfl
  | e::ds,_,d,v,0,h,r=>by
    obtain ⟨u,us,rfl,h1,h2⟩:=reps_cons.mp h
    exact reps_cons.mpr ⟨v,us,rfl,r,h2⟩
  | e::ds,_,d,v,j + 1,h,r=>by
    obtain ⟨u,us,rfl,h1,h2⟩:=reps_cons.mp h
    exact reps_cons.mpr ⟨u,_,rfl,h1,Reps.set j h2 r⟩
end
end Vl
namespace Vl
open PySem PySem.Spec L2
section
variable {X:Cx} {B:Bs} {W:Wi} {K:PySem.W.Frag}
end
end Vl
namespace L2
open PySem PySem.Spec PyProof.Rows
section
variable {X:Cx}
end
end L2
namespace Vl
open PySem PySem.Spec L2
section
variable {X:Cx} {B:Bs} {W:Wi} {K:PySem.W.Frag} {G:Hp}
end
end Vl
namespace L2
open PySem PySem.Spec PyProof.Rows
section
variable {X:Cx}
end
end L2
namespace Vl
open PySem PySem.Spec L2
section
variable {X:Cx} {B:Bs} {W:Wi} {K:PySem.W.Frag} {G:Hp}
end
end Vl
namespace Tb
open PySem PySem.SetTable
noncomputable def Emp (t:SetTable) (j:Nat):Prop:=¬ Live t j/\has t.dummies j=false
structure Lost (t:SetTable) (L:List Ent):Prop where
  pw:∃ k,t.mask + 1=2 ^ k
  m7:7<=t.mask
  pl:t.place=(L.map (·.1)).toArray
  so:(L.map (·.1)).Pairwise (· < ·)
  le:∀ e∈L,e.1<=t.mask
  dr:Rise t.dummies
  dj:∀ e∈L,has t.dummies e.1=false
  fl:t.fill<=t.mask
  reach:∀ e∈L,∃ s,pos t e.2.1 s=e.1/\∀ s',s' < s->¬ Emp t (pos t e.2.1 s')
section
variable {t:SetTable} {L:List Ent}
end
end Tb
namespace Tb
open PySem PySem.Spec PySem.SetTable
section
variable {prog:Program} {w:World} {A:Around} {E:Value->Shared->Prop} {s:Shared}
end
end Tb
namespace Tb
open PySem PySem.Spec PySem.SetTable
section
variable {prog:Program} {w:World} {U:Addr->List Int->Prop} {A:Around} {E:Value->Shared->Prop} {s:Shared}
end
end Tb
namespace Tb
open PySem PySem.Spec PySem.SetTable
section
variable {prog:Program} {w:World} {U:Addr->List Int->Prop} {A:Around} {E:Value->Shared->Prop} {s:Shared}
end
end Tb
namespace So
open PySem PySem.Spec PySem.W PyProof.Rows PySem.Calls PySem.SetTable Tb
section
variable {prog:Program} {w:World} {A:Around} {E:Value->Shared->Prop} {s:Shared} {U:Addr->List Int->Prop}
end
end So
namespace Vl
open PySem PySem.Spec L2 So Tb
section
variable {X:Cx} {B:Bs} {W:Wi}
end
end Vl
namespace Vl
open PySem PySem.Spec L2 Dk
theorem sub_dict_dict:isSubtype (.type "dict") (.type "dict")=pure true:=by rw [isSubtype_type];kernel_rfl
section
variable {prog:Program} {w:World} {A:Around} {E:Value->Shared->Prop} {s:Shared}
theorem showsAll_at {d:Addr} {Q:Unit->Shared->Prop} (hd:(d == sysModules)=false) (h:Q () s):wpAny (model prog w) A (Builtin.Dict.showsAll d) Q E s:=by
  unfold Builtin.Dict.showsAll
  rw [if_neg (by rw [hd];exact Bool.false_ne_true)]
  exact wpAny_pure h
end
section
variable {X:Cx} {B:Bs} {W:Wi}
theorem ext_extD {G H:Hp} (gh:Same G H) (tp:∀ a xs,H a=some (.tup xs)->G a=some (.tup xs)) {p:Addr} {φ:Heap->Prop} (hp:H p=none):Ext G H G (upd H p (.ext φ)) where
  gg:=.refl _
  hh:=fun b o e=>by rw [upd_ne (ne_of_none e hp)];exact e
  gh:=fun b o e=>by rw [upd_ne (ne_of_none (gh _ _ e) hp)];exact gh _ _ e
  tp:=fun b ys e=>by
    by_cases q:b=p
    . subst q;rw [upd_same] at e;cases e
    . rw [upd_ne q] at e;exact tp _ _ e
  nw:=fun b o e n=>n
end
end Vl
namespace So
open PySem PySem.Spec PySem.W PyProof.Rows PySem.Calls Tb
section
variable {prog:Program} {w:World} {A:Around} {E:Value->Shared->Prop} {s:Shared}
section
variable {I S:Addr} {fp wr:List Addr} {G:Array GenState->Array GenState->Prop} {n:Nat} {P:Nat->Value->Prop} {St:Nat->Shared->Prop} {R:Result->Shared->Prop} {Kp:Heap->Prop} {bt:Nat->Nat->Bool}
noncomputable def two (v:Value) (c:Nat):Obj:={ cls:=.type "list",dict:=none,data:=.seq #[v,v] c,slots:=#[] }
end
end
end So
namespace Vl
open PySem PySem.Spec L2 So
section
variable {X:Cx} {B:Bs} {W:Wi} {K:PySem.W.Frag}
end
end Vl
namespace Vl
open PySem PySem.Spec L2
section
variable {prog:Program} {w:World} {K:Type} [DecidableEq K] {knd:HeapKind prog w K} {A:Around} {E:Value->Shared->Prop} {s:Shared}
end
section
variable {X:Cx} {B:Bs} {W:Wi} {K:PySem.W.Frag}
end
end Vl
namespace Zp
open PySem PySem.Spec
section
variable {prog:Program} {w:World} {A:Around} {E:Value->Shared->Prop} {s:Shared}
end
end Zp
namespace L2
open PySem PySem.Spec PyProof.Rows
section
variable {X:Cx}
end
end L2
namespace Vl
open PySem PySem.Spec L2
section
variable {X:Cx} {B:Bs} {W:Wi} {K:PySem.W.Frag} {G:Hp}
noncomputable def gForI (h:Tg) (gb:Rho->Ou) (f:Rho->Rs (List D)):Rho->Ou:=fun ρ=>match f ρ with
  | .ok ds=>forD h gb ds ρ
  | .ex c n=>.ex c n ρ
  | .no=>.no
theorem ss_forI {tg iter:Expr} {body:List Stmt} {pos:Pos} {f:Rho->Rs (List D)} {h:Tg} {gb:Rho->Ou} (hp:PassesOwn (model X.prog X.w) X.A X.env X.xe) (hc:X.calm=true) (hi:SI X B W tg iter f) (hg:SG X B tg h) (hb:SSs X B W body gb)
    (hs:∀ x,foldedSetIterable iter X.env x=pure x:=by intro _;rfl):SS X B W (.For tg iter body [] pos) (gForI h gb f):=by
  refine PS.imp (ps_for hp hc hi hg hb hs) fun De σ H ⟨ρ,G,s,p⟩=>⟨ρ,G,s,?_⟩
  unfold gForI at p
  cases e:f ρ with
  | no=>rw [e] at p;exact p.elim
  | ex c n=>rw [e] at p;exact fun H' G' x=>p σ H' G' (s.ext x) x.gg
  | ok ds =>
    rw [e] at p
    intro J H' G' x yl
    refine ⟨fun i m σ H=>m=ds.length - i/\i<=ds.length/\∃ ρ G,SR X.K B σ H ρ G/\Same G' G/\PostS X.K B W G (forD h gb (ds.drop i) ρ) De,⟨ds.length,by simp,Nat.zero_le _,ρ,G',s.ext x,.refl _,by simpa using PostS.same p x.gg⟩,?_⟩
    rintro i m σ2 H2 ⟨rfl,hi',ρ2,G2,s2,gg,p2⟩
    obtain ⟨y1,y2⟩:=yl i G2 H2 gg s2.ext0
    by_cases hlt:i < ds.length
    . obtain ⟨go,y3⟩:=y1 ds[i] (List.getElem?_eq_getElem hlt)
      refine .inr ⟨go,fun σ' H'=>∃ ρ' G3,SR X.K B σ' H' ρ' G3/\Same G' G3/\PostS X.K B W G3 (forD h gb (ds.drop (i + 1)) ρ') De,fun σ' H3 p'=>⟨ds.length - (i + 1),by lia,rfl,hlt,p'⟩,fun v H3 yd=>?_⟩
      obtain ⟨G3,x3,r3⟩:=y3 v H3 yd
      rw [List.drop_eq_getElem_cons hlt] at p2
      exact for_turn (s2.ext x3) r3 (PostS.same p2 x3.gg) fun σ' H4 ρ' G4 s' q' p'=>⟨ρ',G4,s',gg.trans (x3.gg.trans q'),p'⟩
    . have ei:i=ds.length:=by lia
      subst ei
      rw [List.drop_length] at p2
      exact .inl ⟨y2 (Nat.le_refl _),p2 σ2 H2 G2 s2 (.refl _)⟩
end
end Vl
namespace Vl
open PySem PySem.Spec PySem.Calls PySem.W L2
end Vl
namespace HT2
open PySem PySem.Spec PyProof.Rows HT
variable {prog:Program} {w:World} {A:Around} {E:Value->Shared->Prop} {s:Shared}
end HT2
namespace Vl
open PySem PySem.Spec PySem.Calls PySem.W L2
section
variable {X:Cx} {B:Bs} {W:Wi}
noncomputable def notStar:Expr->Bool
  | .Starred ..=>false
  | _=>true
theorem star_consN {e:Expr} {es:List Expr} {env:Env} (h:notStar e=true):starEach (e::es) env=(false,eval e env)::starEach es env:=by
  cases e <;> first|rfl|cases h
theorem sa_consN {e:Expr} {es:List Expr} {fe:Rho->Rs D} {fs:Rho->Rs (List D)} (ha:SE X B W e fe) (hr:SA X B W es fs) (hs:notStar e=true:=by rfl):SA X B W (e::es) (fCons fe fs):=sa_cons ha hr (star_consN hs)
section
variable {K:PySem.W.Frag} {σ:St} {G H:Hp} {ρ:Rho}
end
noncomputable def gLenO (j:Nat):Rho->Rs D:=fun ρ=>match ρ[j]? with
  | some (.ow ds)=>.ok (.int ds.length)
  | some (.fz (.lst ds))=>.ok (.int ds.length)
  | _=>.no
theorem re_lenO (j:Nat) {x:Str} {p p1 pos:Pos} (hm:X.mg "len"=none) (hN:X.N[j]?=some x:=by rfl) (hv:Vis X.env.scope x:=by first|exact Or.inl rfl|exact Or.inr (Or.inl rfl)|exact Or.inr (Or.inr rfl)) (hd:(x == ("__debug__":Str))=false:=by decide)
    (hcd:(x == ("__classdict__":Str))=false:=by decide) (hg:Gl X "len":=by rfl) (he:starEach [.Name x p1] X.env=[(false,eval (.Name x p1) X.env)]:=by rfl) :
    SE X B W (.Call (.Name "len" p) [.Name x p1] [] pos) (gLenO j):=by
  refine PE.imp (pe_callB call_len_seq hg hm PySem.boot_len (pa_cons (pe_var hN hv hd hcd) pa_nil he) (by decide) (by decide) he rfl) fun σ H Q ⟨ρ,G,s,pp⟩=>?_
  unfold gLenO at pp
  split at pp
  . rename_i ds q
    obtain ⟨a,vs,e1,h2,h3,h4,h5⟩:=s.ow j ds q
    refine ⟨_,e1,a,vs,rfl,.inl (.of h2),?_⟩
    have:=pp _ H G s.ext0 (rep_int.mpr rfl)
    rw [<- h5.length]
    exact this
  . rename_i ds q
    obtain ⟨v,e1,r⟩:=s.fz j _ q
    obtain ⟨a,vs,rfl,h2,h5⟩:=rep_lst.mp r
    refine ⟨_,e1,a,vs,rfl,.inl (s.en.gh.seq h2),?_⟩
    have:=pp _ H G s.ext0 (rep_int.mpr rfl)
    rw [<- h5.length]
    exact this
  . exact pp.elim
end
end Vl
namespace Vl
open PySem PySem.Spec PySem.Calls PySem.W L2 PyProof.Rows
section
variable {X:Cx} {B:Bs} {W:Wi}
section
variable {K:PySem.W.Frag}
end
section
variable {K:PySem.W.Frag}
end
variable {a b:Expr} {pos:Pos} {fa fb:Rho->Rs D}
end
end Vl
namespace Vl
open PySem PySem.Spec L2 AutoSeq1
section
variable {X:Cx} {B:Bs} {W:Wi} {K:PySem.W.Frag}
end
end Vl
namespace Vl
open PySem PySem.Spec L2
section
variable {X:Cx} {B:Bs} {W:Wi} {K:PySem.W.Frag}
variable {o e:Expr} {apos cpos:Pos} {fo fe:Rho->Rs D}
end
end Vl
namespace Vl
open PySem PySem.Spec PySem.Calls PySem.W L2
noncomputable def msk (H:Hp) (a:Addr):Hp:=fun b=>if b=a then none else H b
theorem msk_ne {H:Hp} {a b:Addr} (h:b≠a):msk H a b=H b:=if_neg h
theorem msk_same {H:Hp} {a:Addr}:msk H a a=none:=if_pos rfl
theorem msk_some {H:Hp} {a b:Addr} {o:HO} (h:msk H a b=some o):b≠a/\H b=some o:=by
  by_cases e:b=a
  . subst e;rw [msk_same] at h;cases h
  . rw [msk_ne e] at h;exact ⟨e,h⟩
noncomputable def lent:Sl->Option (List D)
  | .ow ds=>some ds
  | .op ds=>some ds
  | _=>none
noncomputable def relent:Sl->List D->Sl
  | .ow _,ds=>.ow ds
  | .op _,ds=>.op ds
  | z,_=>z
theorem lent_own {z:Sl} {ds:List D} (h:lent z=some ds):z.own=true:=by cases z <;> first|rfl|cases h
theorem relent_own {z:Sl} {ds es:List D} (h:lent z=some ds):(relent z es).own=true:=by cases z <;> first|rfl|cases h
section
variable {X:Cx} {K:PySem.W.Frag} {B:Bs} {W:Wi} {σ:St} {G H G' H':Hp} {ρ:Rho}
theorem relent_at {z:Sl} {ds es:List D} {ws:List V} {a:Addr} (h:lent z=some ds) (r:Reps K G es ws):OwnAt K G a (relent z es) (.lst ws):=by
  cases z <;> first|exact ⟨ws,rfl,r⟩|cases h
theorem relent_op {z:Sl} {ds es fs:List D} (h:lent z=some ds) (e:relent z es=.op fs):∃ gs,z=.op gs:=by
  cases z <;> first|exact ⟨_,rfl⟩|cases e|cases h
theorem SR.lent (s:SR K B σ H ρ G) {i:Nat} {z:Sl} {ds:List D} (q:ρ[i]?=some z) (hl:lent z=some ds) :
    ∃ a vs,σ[i]?=some (some (.ref a))/\H a=some (.lst vs)/\G a=none/\B.2 a=none/\Reps K G ds vs:=by
  obtain ⟨a,o,h1,h2,h3,h4,h5⟩:=s.own i z q (lent_own hl)
  cases z with
  | ow es=>cases hl;obtain ⟨vs,rfl,r⟩:=h5;exact ⟨a,vs,h1,h2,h3,h4,r⟩
  | op es=>cases hl;obtain ⟨vs,rfl,r⟩:=h5;exact ⟨a,vs,h1,h2,h3,h4,r⟩
  | _=>cases hl
theorem SR.back (s:SR K B σ H ρ G) {i:Nat} {z:Sl} {ds es:List D} {a:Addr} {ws:List V} (q:ρ[i]?=some z) (hl:Vl.lent z=some ds) (ha:σ[i]?=some (some (.ref a)))
    (e:Ext G (msk H a) G' H') (g:G' a=none) (h:H' a=some (.lst ws)) (r:Reps K G' es ws):SR K B σ H' (ρ.set i (relent z es)) G':=by
  have li:i < ρ.length:=(List.getElem?_eq_some_iff.mp q).1
  obtain ⟨a0,o0,h1,h2,h3,h4,h5⟩:=s.own i z q (lent_own hl)
  have ea:a0=a:=by rw [h1] at ha;injection ha with z;injection z with z;injection z
  subst ea
  have at_i:∀ {j:Nat} {x:Sl},(ρ.set i (relent z es))[j]?=some x->(i=j/\x=relent z es)∨(i≠j/\ρ[j]?=some x):=fun {j x} q=>by
    by_cases e:i=j
    . subst e
      rw [List.getElem?_set_self li] at q
      cases q
      exact .inl ⟨rfl,rfl⟩
    . rw [List.getElem?_set_ne e] at q
      exact .inr ⟨e,q⟩
  refine ⟨⟨s.en.gg.trans e.gg,fun b o w=>?_,e.gh,e.tp,fun b o w n=>?_⟩,by simp [s.len],fun j d w=>?_,fun j x w wx=>?_,fun j k x x' c z1 w1 z2 w2 z3 z4=>?_,fun j fs c z1 z2=>?_,fun y m=>?_⟩
  . have ne:b≠a0:=ne_of_none w h4
    exact e.hh b o (by rw [msk_ne ne];exact s.en.hh b o w)
  . have ne:b≠a0:=ne_of_none w h4
    exact e.nw b o (by rw [msk_ne ne];exact s.en.hh b o w) (s.en.nw b o w n)
  . rcases at_i w with ⟨_,e1⟩|⟨_,w⟩
    . have:=relent_own (es:=es) hl;rw [<- e1] at this;cases this
    . obtain ⟨v,q1,q2⟩:=s.fz j d w;exact ⟨v,q1,q2.mono e.gg⟩
  . rcases at_i w with ⟨e1,e2⟩|⟨e1,w⟩
    . subst e1;subst e2
      exact ⟨a0,_,ha,h,g,h4,relent_at hl r⟩
    . obtain ⟨b,o,q1,q2,q3,q4,q5⟩:=s.own j x w wx
      have ne:b≠a0:=fun e2=>by subst e2;exact e1 (s.ap i j z x b q (lent_own hl) w wx ha q1)
      exact ⟨b,o,q1,e.hh b o (by rw [msk_ne ne];exact q2),e.nw b o (by rw [msk_ne ne];exact q2) q3,q4,q5.mono e.gg⟩
  . have old:∀ {l:Nat} {y:Sl},(ρ.set i (relent z es))[l]?=some y->y.own=true->∃ y',ρ[l]?=some y'/\y'.own=true:=fun {l y} w wy=>by
      rcases at_i w with ⟨e1,e2⟩|⟨e1,w⟩
      . subst e1;exact ⟨z,q,lent_own hl⟩
      . exact ⟨y,w,wy⟩
    obtain ⟨y1,p1,p2⟩:=old z1 w1
    obtain ⟨y2,p3,p4⟩:=old z2 w2
    exact s.ap j k y1 y2 c p1 p2 p3 p4 z3 z4
  . rcases at_i z1 with ⟨e1,e2⟩|⟨e1,w⟩
    . subst e1
      obtain ⟨gs,e3⟩:=relent_op hl e2.symm
      rw [e3] at q
      exact s.tie i gs c q z2
    . exact s.tie j fs c w z2
  . have t:=s.co y m
    exact e.hh _ _ (by rw [msk_ne (fun z=>by subst z;rw [h2] at t;exact h5.tab _ (Option.some.inj t))];exact t)
noncomputable def RX (K:PySem.W.Frag) (a:Addr) (G H:Hp) (Q:VK) (r:Rs (D×List D)):Prop:=match r with
  | .ok (d,es)=>∀ v H' G' ws,Ext G (msk H a) G' H'->G' a=none->H' a=some (.lst ws)->Reps K G' es ws->Rep K G' d v->Q v H'
  | _=>False
noncomputable def spM (K:PySem.W.Frag) (n:Nat) (g:List D->List D->Rs (D×List D)):Sp:=fun vs H Q E=>vs.length=n + 1/\∃ a us G ws es ds,vs=.ref a::us/\Ex0 K G H/\G a=none/\H a=some (.lst ws)/\Reps K G es ws/\Reps K G ds us/\RX K a G H Q (g es ds)
noncomputable def startM (N:List Str) (es ds:List D):Rho:=(.op es::ds.map .fz)++List.replicate (N.length - (ds.length + 1)) .no
noncomputable def finM:Ou->Rs (D×List D)
  | .rx d (.op es::_)=>.ok (d,es)
  | .nx (.op es::_)=>.ok (.non,es)
  | _=>.no
theorem sr_startM {N:List Str} {es ds:List D} {ws us:List V} {a:Addr} (e:Ex0 K G H) (g:G a=none) (h:H a=some (.lst ws)) (r0:Reps K G es ws) (r:Reps K G ds us) :
    SR K ⟨G,msk H a,a⟩ (L2.start N (.ref a::us)) H (startM N es ds) G:=by
  have z0:(startM N es ds)[0]?=some (.op es):=rfl
  have own0:∀ (i:Nat) (z:Sl),(startM N es ds)[i]?=some z->z.own=true->i=0:=fun i z q w=>by
    cases i with
    | zero=>rfl
    | succ i =>
      have q':(ds.map Sl.fz++List.replicate (N.length - (ds.length + 1)) .no)[i]?=some z:=q
      by_cases hi:i < (ds.map Sl.fz).length
      . rw [List.getElem?_append_left hi,List.getElem?_map] at q'
        cases e1:ds[i]? with
        | none=>rw [e1] at q';cases q'
        | some d=>rw [e1] at q';cases q';cases w
      . rw [List.getElem?_append_right (by lia),List.getElem?_replicate] at q'
        split at q' <;> cases q'
        cases w
  refine ⟨⟨.refl _,fun b o w=>(msk_some w).2,e.gh,e.tp,fun b o w n=>n⟩,?_,fun i d q=>?_,fun i z q w=>?_,fun i j z z' c q1 w1 q2 w2 _ _=>(own0 i z q1 w1).trans (own0 j z' q2 w2).symm,fun i fs c q1 q2=>?_,e.co⟩
  . unfold startM L2.start
    simp [r.length]
  . cases i with
    | zero=>cases (z0.symm.trans q)
    | succ i =>
      have q':(ds.map Sl.fz++List.replicate (N.length - (ds.length + 1)) .no)[i]?=some (.fz d):=q
      by_cases hi:i < (ds.map Sl.fz).length
      . rw [List.getElem?_append_left hi,List.getElem?_map] at q'
        cases e1:ds[i]? with
        | none=>rw [e1] at q';cases q'
        | some d' =>
          rw [e1] at q'
          cases q'
          obtain ⟨v,h1,h2⟩:=r.get e1
          refine ⟨v,?_,h2⟩
          show ((us.map some)++List.replicate (N.length - (us.length + 1)) none)[i]?=some (some v)
          rw [List.getElem?_append_left (by rw [List.length_map,<- r.length];simpa using hi),List.getElem?_map,h1]
          rfl
      . rw [List.getElem?_append_right (by lia),List.getElem?_replicate] at q'
        split at q' <;> cases q'
  . cases own0 i z q w
    cases (z0.symm.trans q)
    exact ⟨a,_,rfl,h,g,msk_same,ws,rfl,r0⟩
  . cases own0 i _ q1 rfl
    have:some (some (V.ref a))=some (some (V.ref c)):=q2
    injection this with this;injection this with this;injection this with this
    exact this.symm
theorem finM_post {o:Ou} {Q:VK} {a:Addr} (h:RX K a G H Q (finM o)):PostS K ⟨G,msk H a,a⟩ W G' o { nx:=fun _ H'=>Q .non H',rt:=Q }:=by
  cases o with
  | nx ρ' =>
    cases ρ' with
    | nil=>exact h.elim
    | cons z ρ' =>
      cases z with
      | op es =>
        intro σ' H2 G2 s q
        obtain ⟨b,vs,h1,h2,h3,h4,h5⟩:=s.lent (i:=0) (z:=.op es) (ds:=es) rfl rfl
        have eb:b=a:=s.tie 0 es b rfl h1
        subst eb
        exact h .non H2 G2 vs s.en h3 h2 h5 (rep_non.mpr rfl)
      | _=>exact h.elim
  | rx d ρ' =>
    cases ρ' with
    | nil=>exact h.elim
    | cons z ρ' =>
      cases z with
      | op es =>
        intro v σ' H2 G2 s q r
        obtain ⟨b,vs,h1,h2,h3,h4,h5⟩:=s.lent (i:=0) (z:=.op es) (ds:=es) rfl rfl
        have eb:b=a:=s.tie 0 es b rfl h1
        subst eb
        exact h v H2 G2 vs s.en h3 h2 h5 r
      | _=>exact h.elim
  | _=>exact h.elim
end
noncomputable def Okm (P:Program) (w:World) (K:PySem.W.Frag) (mg:Str->Option Value) (base:Heap) (x:Str) (k n:Nat) (v:List D->List D->Rs (D×List D)):Prop :=
  ∃ f fd ps,FnOk P w K mg base (CXv P w K) k f fd ps (spM K n v)/\mg x=some (.ref f)/\PySem.W.keepIn K (.ref f)=true/\Binds K fd ps []
theorem okm_of {P:Program} {w:World} {K:PySem.W.Frag} {mg:Str->Option Value} {base:Heap} {x:Str} {st:Stmt} {f:Addr} {fd:FuncData} {N ps:List Str} {k n:Nat} {g:Rho->Ou} (F:Fun K x x st f fd) (hm:mg x=some (.ref f)) (S:FnScope N ps (defScope st))
    (hbi:∀ (kV doc pm:Value) (an:Option Addr) (cdv ct:Value) (us:List Value),us.length=ps.length->bindArgs (PySem.W.fnOf x x (defArgs st) (defBody st) (defScope st) .none kV doc pm an cdv ct) ⟨us,[]⟩=pure (ps.zip us))
    (hb:∀ (cdv:Value) (A:Around) (outer:List Env) (s:Shared) (H:Hp) (E:XK) (B:Bs),Room k (A.deeper (PyProof.Rows.envOfC x (defScope st) s.heap.objs.size f cdv)) ->
      PassC (cxOf (CXv P w K) P w K mg base N x (defScope st) f cdv A outer s H E) (fun c n _ H'=>E (enc c n) none H') ->
      SSs (cxOf (CXv P w K) P w K mg base N x (defScope st) f cdv A outer s H E) B (fun c n _ H'=>E (enc c n) none H') (defBody st) g) (hn:ps.length=n + 1:=by rfl) :
    Okm P w K mg base x (k + 1) n (fun es ds=>finM (g (startM N es ds))):=by
  refine ⟨f,fd,ps,?_,hm,F.kp,F.binds hbi⟩
  obtain ⟨oc,od,kV,doc,pm,an,cdv,ct,osl,rfl,lk,hcd⟩:=F.ex
  refine fn_of lk hcd S (fun vs H Q E h=>by rw [hn];exact h.1) fun A outer s H vs Q E hr _ h=>?_
  obtain ⟨_,a,us,G,ws,es,ds,rfl,e,g1,h1,r0,r,h⟩:=h
  dsimp only at h
  exact ⟨_,hb cdv A outer s H E ⟨G,msk H a,a⟩ hr (passC_of pass_body rfl),startM N es ds,G,sr_startM e g1 h1 r0 r,finM_post h⟩
noncomputable def spF (K:PySem.W.Frag) (n:Nat) (g:List D->Rs (List D)):Sp:=fun vs H Q E=>vs.length=n/\∃ G ds,Ex0 K G H/\Reps K G ds vs/\(match g ds with
  | .ok es=>∀ a ws H' G',Ext G H G' H'->G' a=none->H a=none->H' a=some (.lst ws)->Reps K G' es ws->Q (.ref a) H'
  | _=>False)
noncomputable def finF:Ou->Rs (List D)
  | .rl es=>.ok es
  | _=>.no
noncomputable def Okf (P:Program) (w:World) (K:PySem.W.Frag) (mg:Str->Option Value) (base:Heap) (x:Str) (k n:Nat) (v:List D->Rs (List D)):Prop :=
  ∃ f fd ps,FnOk P w K mg base (CXv P w K) k f fd ps (spF K n v)/\mg x=some (.ref f)/\PySem.W.keepIn K (.ref f)=true/\Binds K fd ps []
theorem okf_of {P:Program} {w:World} {K:PySem.W.Frag} {mg:Str->Option Value} {base:Heap} {x:Str} {st:Stmt} {f:Addr} {fd:FuncData} {N ps:List Str} {k:Nat} {g:Rho->Ou} (F:Fun K x x st f fd) (hm:mg x=some (.ref f)) (S:FnScope N ps (defScope st))
    (hbi:∀ (kV doc pm:Value) (an:Option Addr) (cdv ct:Value) (us:List Value),us.length=ps.length->bindArgs (PySem.W.fnOf x x (defArgs st) (defBody st) (defScope st) .none kV doc pm an cdv ct) ⟨us,[]⟩=pure (ps.zip us))
    (hb:∀ (cdv:Value) (A:Around) (outer:List Env) (s:Shared) (H:Hp) (E:XK) (B:Bs),Room k (A.deeper (PyProof.Rows.envOfC x (defScope st) s.heap.objs.size f cdv)) ->
      PassC (cxOf (CXv P w K) P w K mg base N x (defScope st) f cdv A outer s H E) (fun c n _ H'=>E (enc c n) none H') ->
      SSs (cxOf (CXv P w K) P w K mg base N x (defScope st) f cdv A outer s H E) B (fun c n _ H'=>E (enc c n) none H') (defBody st) g) :
    Okf P w K mg base x (k + 1) ps.length (fun ds=>finF (g (startR N ds))):=by
  refine ⟨f,fd,ps,?_,hm,F.kp,F.binds hbi⟩
  obtain ⟨oc,od,kV,doc,pm,an,cdv,ct,osl,rfl,lk,hcd⟩:=F.ex
  refine fn_of lk hcd S (fun vs H Q E h=>h.1) fun A outer s H vs Q E hr _ h=>?_
  obtain ⟨_,G,ds,e,r,h⟩:=h
  dsimp only at h
  refine ⟨_,hb cdv A outer s H E ⟨G,H,0⟩ hr (passC_of pass_body rfl),startR N ds,G,sr_start e r,?_⟩
  cases e1:g (startR N ds) with
  | rl es=>rw [e1] at h;exact fun a ws H' G' x q g1 b1 h1 r1=>h a ws H' G' x g1 b1 h1 r1
  | _=>rw [e1] at h;exact h.elim
noncomputable def rRetL (fs:Rho->Rs (List D)):Rho->Ou:=fun ρ=>oR (fs ρ) ρ fun ds=>if ds.length<=1000 then .rl ds else .no
section
variable {X:Cx} {K:PySem.W.Frag} {B:Bs} {W:Wi} {σ:St} {G H G' H':Hp} {ρ:Rho}
theorem rs_retL {es:List Expr} {pos lp:Pos} {f:Rho->Rs (List D)} (h:SA X B W es f):SS X B W (.Return (some (.List es lp)) pos) (rRetL f):=by
  refine PS.imp (ps_ret (pe_lst h)) fun De σ H ⟨ρ,G,s,p⟩=>⟨ρ,G,s,?_⟩
  unfold rRetL at p
  cases e:f ρ with
  | ok ds =>
    rw [e] at p
    have p':PostS X.K B W G (if ds.length<=1000 then .rl ds else .no) De:=p
    by_cases hl:ds.length<=1000
    . rw [if_pos hl] at p'
      intro vs H' G' x r
      refine ⟨by rw [<- r.length];exact sz1000 hl,fun c hc=>?_⟩
      have s':=s.ext x
      have y:=ext_own (xs:=vs) s'.en.gh s'.en.tp hc
      exact p' c vs _ G' (s'.en.trans y) x.gg (s'.en.gh.free hc) (s'.en.hh.free hc) upd_same r
    . rw [if_neg hl] at p';exact p'.elim
  | ex c n=>rw [e] at p;exact fun H' G' x=>p σ H' G' (s.ext x) x.gg
  | no=>rw [e] at p;exact p
theorem pe_callV {x:Str} {p pos:Pos} {e:Expr} {es:List Expr} {t:TA} {f:Addr} {fd:FuncData} {ps:List Str} {k:Nat} {sp:Sp} (F:FnOk X.prog X.w X.K X.mg X.base (CXv X.prog X.w X.K) k f fd ps sp) (hr:Room k X.A) (hg:Gl X x) (hm:X.mg x=some (.ref f)) (hk:PySem.W.keepIn X.K (.ref f)=true) (hb:Binds X.K fd ps [])
    (ha:PA X (e::es) t) (hdb:(x == ("__debug__":Str))=false:=by decide) (he:starEach (e::es) X.env=(false,eval e X.env)::starEach es X.env:=by rfl) (hpl:(backTo pos (starEach es X.env)).any (·.1)=false:=by rfl) :
    PE X (.Call (.Name x p) (e::es) [] pos) (fun σ H Q=>t σ H fun vs H1=>sp vs H1 Q fun _ _ _=>False):=by
  intro pins s σ H Q I h
  refine wpAny_Call_Name_kw (ld_glob I hg hm ?_ hdb)
  refine PySem.W.callWith_K (h₀:=X.base) I.ok.mod.kin hk (thn (ha pos pins s σ H _ I h) fun us s1 ⟨vs,H1,I1,r,q⟩=>⟨I1.kIn,?_⟩) he hpl
  have hl:(us++[]).length=ps.length:=by rw [List.append_nil,<- r.length];exact F.len _ _ _ _ q
  have hbb:=hb s1 us I1.kIn hl
  rw [List.append_nil] at hbb
  refine wpAny_call (codeAny_mono (F.run X.A X.stack s1 H1 ⟨us,[]⟩ us vs Q _ hr I1.env0 hbb r q) fun r s' hq=>?_)
  cases r with
  | error e=>obtain ⟨ea,c,n,H',_,_,_,_,_,_,w⟩:=hq;exact w.elim
  | ok fl =>
    cases fl with
    | ret u=>exact I1.after hq
    | next=>exact False.elim hq
    | brk=>exact False.elim hq
    | cont=>exact False.elim hq
noncomputable def rSetF (i n:Nat) (g:List D->Rs (List D)) (fs:Rho->Rs (List D)):Rho->Ou:=fun ρ=>oR (fs ρ) ρ fun ds=>if ds.length=n then (match g ds with|.ok es=>.nx (ρ.set i (.ow es))|_=>.no) else .no
theorem rs_setF (i:Nat) {x y:Str} {p pos pos' cp:Pos} {e:Expr} {es:List Expr} {fs:Rho->Rs (List D)} {k n kr:Nat} {g:List D->Rs (List D)} (O:Okf X.prog X.w X.K X.mg X.base x k n g) (hr:Room kr X.A) (hN:X.N.Nodup) (ha:SA X B W (e::es) fs) (hi:X.N[i]?=some y:=by rfl) (hx:Loc X.env.scope y:=by first|exact Or.inl rfl|exact Or.inr rfl)
    (hs:swapsWith (.Call (.Name x p) (e::es) [] cp) (some (.Name y pos')) pos.line X.env=pure false:=by rfl) (hf:X.fn y=true∨X.env.scope.names.lookup y=some .local:=by first|exact .inl rfl|exact .inr rfl|assumption) (hg:Gl X x:=by rfl) (hdb:(x == ("__debug__":Str))=false:=by decide)
    (he:starEach (e::es) X.env=(false,eval e X.env)::starEach es X.env:=by rfl) (hpl:(backTo cp (starEach es X.env)).any (·.1)=false:=by rfl) (hkr:k<=kr:=by decide) :
    SS X B W (.Assign [.Name y pos'] (.Call (.Name x p) (e::es) [] cp) pos) (rSetF i n g fs):=by
  obtain ⟨f,fd,ps,F,hm,hk,hb⟩:=O
  replace hr:=hr.mono hkr
  refine PS.imp (ps_set hN hi hx (pe_callV F hr hg hm hk hb ha hdb he hpl) hs hf) fun De σ H ⟨ρ,G,s,p⟩=>⟨ρ,G,s,?_⟩
  unfold rSetF at p
  cases e:fs ρ with
  | ok ds =>
    rw [e] at p
    dsimp only [oR] at p
    by_cases hl:ds.length=n
    . rw [if_pos hl] at p
      intro vs H1 G1 x r
      refine ⟨by rw [<- r.length];exact hl,G1,ds,(s.ext x).ex0,r,?_⟩
      cases e1:g ds with
      | ok es' =>
        rw [e1] at p
        dsimp only at p ⊢
        intro a ws H' G' y g1 h1 h2 r2
        have s1:=s.ext x
        let H2:Hp:=msk H' a
        have y2:Ext G1 H1 G' H2:=⟨y.gg,fun b o w=>by
            show msk H' a b=some o
            rw [msk_ne (ne_of_none w h1)];exact y.hh b o w,fun b o w=>by
            show msk H' a b=some o
            rw [msk_ne (ne_of_none w g1)];exact y.gh b o w,fun b xs w=>y.tp b xs (msk_some w).2,y.nw⟩
        have s2:=(s1.ext y2).setOw (i:=i) (p:=a) r2 msk_same
        have e2:upd H2 a (.lst ws)=H':=by
          funext b
          by_cases w:b=a
          . subst w;rw [upd_same];exact h2.symm
          . rw [upd_ne w];exact msk_ne w
        rw [e2] at s2
        exact p _ H' G' s2 (x.gg.trans y.gg)
      | ex c m=>rw [e1] at p;exact p.elim
      | no=>rw [e1] at p;exact p.elim
    . rw [if_neg hl] at p;exact p.elim
  | ex c m=>rw [e] at p;exact fun H1 G1 x=>p σ H1 G1 (s.ext x) x.gg
  | no=>rw [e] at p;exact p
end
end Vl
namespace Vl
open PySem PySem.Spec PySem.Calls PySem.W L2
noncomputable def lf {α:Type} (r:Rs α) (ρ:Rho):Rs (α×Rho):=match r with
  | .ok a=>.ok (a,ρ)
  | _=>.no
noncomputable def bx {α β:Type} (r:Rs (α×Rho)) (k:α->Rho->Rs (β×Rho)):Rs (β×Rho):=match r with
  | .ok (a,ρ)=>k a ρ
  | _=>.no
noncomputable def oX {α:Type} (r:Rs (α×Rho)) (k:α->Rho->Ou):Ou:=match r with
  | .ok (a,ρ)=>k a ρ
  | _=>.no
noncomputable def PostX (K:PySem.W.Frag) (B:Bs) (σ:St) (G:Hp) (r:Rs (D×Rho)) (Q:VK):Prop:=match r with
  | .ok (d,ρ')=>∀ v H' G',SR K B σ H' ρ' G'->Same G G'->Rep K G' d v->Q v H'
  | _=>False
noncomputable def PostAX (K:PySem.W.Frag) (B:Bs) (σ:St) (G:Hp) (r:Rs (List D×Rho)) (Q:List V->Hp->Prop):Prop:=match r with
  | .ok (ds,ρ')=>∀ vs H' G',SR K B σ H' ρ' G'->Same G G'->Reps K G' ds vs->Q vs H'
  | _=>False
noncomputable def PostTX (K:PySem.W.Frag) (B:Bs) (σ:St) (G:Hp) (r:Rs (Bool×Rho)) (Q:Bool->Hp->Prop):Prop:=match r with
  | .ok (b,ρ')=>∀ H' G',SR K B σ H' ρ' G'->Same G G'->Q b H'
  | _=>False
noncomputable def tX (K:PySem.W.Frag) (B:Bs) (f:Rho->Rs (D×Rho)):TE:=fun σ H Q=>∃ ρ G,SR K B σ H ρ G/\PostX K B σ G (f ρ) Q
noncomputable def tAX (K:PySem.W.Frag) (B:Bs) (f:Rho->Rs (List D×Rho)):TA:=fun σ H Q=>∃ ρ G,SR K B σ H ρ G/\PostAX K B σ G (f ρ) Q
noncomputable def tTX (K:PySem.W.Frag) (B:Bs) (f:Rho->Rs (Bool×Rho)):TT:=fun σ H Q=>∃ ρ G,SR K B σ H ρ G/\PostTX K B σ G (f ρ) Q
noncomputable def SX (X:Cx) (B:Bs) (e:Expr) (f:Rho->Rs (D×Rho)):Prop:=PE X e (tX X.K B f)
noncomputable def SAX (X:Cx) (B:Bs) (es:List Expr) (f:Rho->Rs (List D×Rho)):Prop:=PA X es (tAX X.K B f)
noncomputable def STX (X:Cx) (B:Bs) (e:Expr) (f:Rho->Rs (Bool×Rho)):Prop:=PT X e (tTX X.K B f)
noncomputable def SWX (X:Cx) (B:Bs) (e:Expr) (f:Rho->Rs (Bool×Rho)):Prop:=PW X e (tTX X.K B f)
noncomputable def xP (f:Rho->Rs D):Rho->Rs (D×Rho):=fun ρ=>lf (f ρ) ρ
noncomputable def xPA (f:Rho->Rs (List D)):Rho->Rs (List D×Rho):=fun ρ=>lf (f ρ) ρ
noncomputable def xPT (f:Rho->Rs Bool):Rho->Rs (Bool×Rho):=fun ρ=>lf (f ρ) ρ
noncomputable def xOp (g:D->D->Rs D) (fa fb:Rho->Rs (D×Rho)):Rho->Rs (D×Rho):=fun ρ=>bx (fa ρ) fun x ρ1=>bx (fb ρ1) fun y ρ2=>lf (g x y) ρ2
noncomputable def xNil:Rho->Rs (List D×Rho):=fun ρ=>.ok ([],ρ)
noncomputable def xCons (f:Rho->Rs (D×Rho)) (fs:Rho->Rs (List D×Rho)):Rho->Rs (List D×Rho):=fun ρ=>bx (f ρ) fun x ρ1=>bx (fs ρ1) fun xs ρ2=>.ok (x::xs,ρ2)
noncomputable def xA (fs:Rho->Rs (List D×Rho)) (g:List D->Rs D):Rho->Rs (D×Rho):=fun ρ=>bx (fs ρ) fun ds ρ1=>lf (g ds) ρ1
noncomputable def xT (f:Rho->Rs (D×Rho)):Rho->Rs (Bool×Rho):=fun ρ=>bx (f ρ) fun d ρ1=>lf (toB d) ρ1
noncomputable def xAnd (a b:Rho->Rs (Bool×Rho)):Rho->Rs (Bool×Rho):=fun ρ=>bx (a ρ) fun x ρ1=>if x=true then b ρ1 else .ok (false,ρ1)
noncomputable def xM (i n:Nat) (g:List D->List D->Rs (D×List D)) (fs:Rho->Rs (List D×Rho)):Rho->Rs (D×Rho):=fun ρ=>match ρ[i]? with
  | some z0=>(match lent z0 with
    | some _=>bx (fs ρ) fun ds ρ1=>if ds.length=n then (match ρ1[i]? with
      | some z=>(match lent z with
        | some es=>(match g es ds with
          | .ok (d,es')=>.ok (d,ρ1.set i (relent z es'))
          | _=>.no)
        | none=>.no)
      | none=>.no) else .no
    | none=>.no)
  | none=>.no
section
variable {X:Cx} {K:PySem.W.Frag} {B:Bs} {W:Wi} {σ:St} {G H G' H':Hp} {ρ:Rho}
theorem PostX.same {r:Rs (D×Rho)} {Q:VK} (h:PostX K B σ G r Q) (e:Same G G'):PostX K B σ G' r Q:=by
  cases r with
  | ok p=>obtain ⟨d,ρ'⟩:=p;exact fun v H' G'' s q=>h v H' G'' s (e.trans q)
  | _=>exact h
theorem PostAX.same {r:Rs (List D×Rho)} {Q:List V->Hp->Prop} (h:PostAX K B σ G r Q) (e:Same G G'):PostAX K B σ G' r Q:=by
  cases r with
  | ok p=>obtain ⟨d,ρ'⟩:=p;exact fun v H' G'' s q=>h v H' G'' s (e.trans q)
  | _=>exact h
theorem PostTX.same {r:Rs (Bool×Rho)} {Q:Bool->Hp->Prop} (h:PostTX K B σ G r Q) (e:Same G G'):PostTX K B σ G' r Q:=by
  cases r with
  | ok p=>obtain ⟨d,ρ'⟩:=p;exact fun H' G'' s q=>h H' G'' s (e.trans q)
  | _=>exact h
theorem lf_post {r:Rs D} {Q:VK} (s:SR K B σ H ρ G) (p:PostX K B σ G (lf r ρ) Q):Post K W σ G H r Q:=by
  cases r with
  | ok d=>exact fun v H' G' e r=>p v H' G' (s.ext e) e.gg r
  | ex c n=>exact p.elim
  | no=>exact p.elim
theorem bx_of {r:Rs (D×Rho)} {k:D->Rho->Rs (D×Rho)} {Q:VK} {Q':VK} (p:PostX K B σ G (bx r k) Q) (h:∀ d ρ1 v H1 G1,SR K B σ H1 ρ1 G1->Same G G1->Rep K G1 d v->PostX K B σ G1 (k d ρ1) Q->Q' v H1):PostX K B σ G r Q':=by
  cases r with
  | ok x=>obtain ⟨d,ρ1⟩:=x;exact fun v H1 G1 s q r=>h d ρ1 v H1 G1 s q r (PostX.same (show PostX K B σ G (k d ρ1) Q from p) q)
  | ex c n=>exact p.elim
  | no=>exact p.elim
theorem bxT_of {r:Rs (D×Rho)} {k:D->Rho->Rs (Bool×Rho)} {Q:Bool->Hp->Prop} {Q':VK} (p:PostTX K B σ G (bx r k) Q) (h:∀ d ρ1 v H1 G1,SR K B σ H1 ρ1 G1->Same G G1->Rep K G1 d v->PostTX K B σ G1 (k d ρ1) Q->Q' v H1):PostX K B σ G r Q':=by
  cases r with
  | ok x=>obtain ⟨d,ρ1⟩:=x;exact fun v H1 G1 s q r=>h d ρ1 v H1 G1 s q r (PostTX.same (show PostTX K B σ G (k d ρ1) Q from p) q)
  | ex c n=>exact p.elim
  | no=>exact p.elim
theorem bxA_of {r:Rs (List D×Rho)} {k:List D->Rho->Rs (D×Rho)} {Q:VK} {Q':List V->Hp->Prop} (p:PostX K B σ G (bx r k) Q) (h:∀ d ρ1 v H1 G1,SR K B σ H1 ρ1 G1->Same G G1->Reps K G1 d v->PostX K B σ G1 (k d ρ1) Q->Q' v H1):PostAX K B σ G r Q':=by
  cases r with
  | ok x=>obtain ⟨d,ρ1⟩:=x;exact fun v H1 G1 s q r=>h d ρ1 v H1 G1 s q r (PostX.same (show PostX K B σ G (k d ρ1) Q from p) q)
  | ex c n=>exact p.elim
  | no=>exact p.elim
theorem bxAA_of {r:Rs (List D×Rho)} {k:List D->Rho->Rs (List D×Rho)} {Q:List V->Hp->Prop} {Q':List V->Hp->Prop} (p:PostAX K B σ G (bx r k) Q) (h:∀ d ρ1 v H1 G1,SR K B σ H1 ρ1 G1->Same G G1->Reps K G1 d v->PostAX K B σ G1 (k d ρ1) Q->Q' v H1):PostAX K B σ G r Q':=by
  cases r with
  | ok x=>obtain ⟨d,ρ1⟩:=x;exact fun v H1 G1 s q r=>h d ρ1 v H1 G1 s q r (PostAX.same (show PostAX K B σ G (k d ρ1) Q from p) q)
  | ex c n=>exact p.elim
  | no=>exact p.elim
theorem bxXA_of {r:Rs (D×Rho)} {k:D->Rho->Rs (List D×Rho)} {Q:List V->Hp->Prop} {Q':VK} (p:PostAX K B σ G (bx r k) Q) (h:∀ d ρ1 v H1 G1,SR K B σ H1 ρ1 G1->Same G G1->Rep K G1 d v->PostAX K B σ G1 (k d ρ1) Q->Q' v H1):PostX K B σ G r Q':=by
  cases r with
  | ok x=>obtain ⟨d,ρ1⟩:=x;exact fun v H1 G1 s q r=>h d ρ1 v H1 G1 s q r (PostAX.same (show PostAX K B σ G (k d ρ1) Q from p) q)
  | ex c n=>exact p.elim
  | no=>exact p.elim
theorem bxTT_of {r:Rs (Bool×Rho)} {k:Bool->Rho->Rs (Bool×Rho)} {Q:Bool->Hp->Prop} {Q':Bool->Hp->Prop} (p:PostTX K B σ G (bx r k) Q) (h:∀ d ρ1 H1 G1,SR K B σ H1 ρ1 G1->Same G G1->PostTX K B σ G1 (k d ρ1) Q->Q' d H1):PostTX K B σ G r Q':=by
  cases r with
  | ok x=>obtain ⟨d,ρ1⟩:=x;exact fun H1 G1 s q=>h d ρ1 H1 G1 s q (PostTX.same (show PostTX K B σ G (k d ρ1) Q from p) q)
  | ex c n=>exact p.elim
  | no=>exact p.elim
theorem sx_p {e:Expr} {f:Rho->Rs D} (h:SE X B W e f):SX X B e (xP f):=PE.imp h fun σ H Q ⟨ρ,G,s,p⟩=>⟨ρ,G,s,lf_post s p⟩
theorem stx_p {e:Expr} {f:Rho->Rs Bool} (h:ST X B W e f):STX X B e (xPT f):=PT.imp h fun σ H Q ⟨ρ,G,s,p⟩=>by
  refine ⟨ρ,G,s,?_⟩
  unfold xPT at p
  cases e1:f ρ with
  | ok b=>rw [e1] at p;exact fun H' G' y=>p H' G' (s.ext y) y.gg
  | ex c n=>rw [e1] at p;exact p.elim
  | no=>rw [e1] at p;exact p.elim
theorem sax_p {es:List Expr} {f:Rho->Rs (List D)} (h:SA X B W es f):SAX X B es (xPA f):=PA.imp h fun σ H Q ⟨ρ,G,s,p⟩=>by
  refine ⟨ρ,G,s,?_⟩
  unfold xPA at p
  cases e1:f ρ with
  | ok b=>rw [e1] at p;exact fun vs H' G' y r=>p vs H' G' (s.ext y) y.gg r
  | ex c n=>rw [e1] at p;exact p.elim
  | no=>rw [e1] at p;exact p.elim
theorem tOpX_of {r:R2} {g:D->D->Rs D} {fa fb:Rho->Rs (D×Rho)} {Q:VK} (ho:OpD K r g) (h:tX K B (xOp g fa fb) σ H Q):tOp r (tX K B fa) (tX K B fb) σ H Q:=by
  obtain ⟨ρ,G,s,p⟩:=h
  refine ⟨ρ,G,s,bx_of (k:=fun x ρ1=>bx (fb ρ1) fun y ρ2=>lf (g x y) ρ2) p fun d ρ1 v H1 G1 s1 q1 r1 p1=>⟨ρ1,G1,s1,bx_of (k:=fun y ρ2=>lf (g d y) ρ2) p1 fun d' ρ2 u H2 G2 s2 q2 r2 p2=>?_⟩⟩
  exact ho B WF σ ρ2 G2 H2 d d' v u Q s2 (r1.mono q2) r2 (lf_post s2 p2)
theorem sx_op {a b:Expr} {op:Operator} {pos:Pos} {r:R2} {g:D->D->Rs D} {fa fb:Rho->Rs (D×Rho)} (ho:OpR X (binaryOp op) r) (hg:OpD X.K r g) (ha:SX X B a fa) (hb:SX X B b fb):SX X B (.BinOp a op b pos) (xOp g fa fb) :=
  PE.imp (pe_op ho ha hb) fun _ _ _ h=>tOpX_of hg h
theorem tBX_of {f:Rho->Rs (D×Rho)} {Q:Bool->Hp->Prop} (h:tTX K B (xT f) σ H Q):tX K B f σ H fun x H1=>∃ c,x=.bl c/\Q c H1:=by
  obtain ⟨ρ,G,s,p⟩:=h
  refine ⟨ρ,G,s,bxT_of (k:=fun d ρ1=>lf (toB d) ρ1) p fun d ρ1 v H1 G1 s1 q1 r1 p1=>?_⟩
  cases d with
  | bl b=>exact ⟨b,rep_bl.mp r1,p1 H1 G1 s1 (.refl _)⟩
  | _=>exact p1.elim
theorem stx_cmp {a b:Expr} {op:CmpOp} {pos:Pos} {r:R2} {g:D->D->Rs D} {fa fb:Rho->Rs (D×Rho)} (ho:OpR X (compareOp op) r) (hg:OpD X.K r g) (ha:SX X B a fa) (hb:SX X B b fb) (hm:behindInMarks op b=false):STX X B (.Compare a [op] [b] pos) (xT (xOp g fa fb)):=by
  refine PT.imp (pt_cmpR ho ha hb hm) fun σ H Q h=>?_
  exact tOpX_of hg (tBX_of h)
theorem swx_and1 {a:Expr} {pos:Pos} {fa:Rho->Rs (Bool×Rho)} (ha:STX X B a fa):SWX X B (.BoolOp .And [a] pos) fa:=pw_and1 ha
theorem swx_and {a b:Expr} {rest:List Expr} {pos:Pos} {fa fb:Rho->Rs (Bool×Rho)} (ha:STX X B a fa) (hb:SWX X B (.BoolOp .And (b::rest) pos) fb):SWX X B (.BoolOp .And (a::b::rest) pos) (xAnd fa fb):=by
  refine PW.imp (pw_and ha hb) fun σ H Q ⟨ρ,G,s,p⟩=>⟨ρ,G,s,bxTT_of (k:=fun x ρ1=>if x=true then fb ρ1 else .ok (false,ρ1)) p fun x ρ1 H1 G1 s1 q1 p1=>?_⟩
  cases x with
  | true=>rw [if_pos rfl];exact ⟨ρ1,G1,s1,p1⟩
  | false=>rw [if_neg (by simp)];exact p1 H1 G1 s1 (.refl _)
theorem stx_w {e:Expr} {f:Rho->Rs (Bool×Rho)} (h:SWX X B e f):STX X B e f:=PW.pt h
theorem sax_nil:SAX X B [] xNil:=PA.imp pa_nil fun σ H Q ⟨ρ,G,s,p⟩=>p [] H G s (.refl _) (reps_nil.mpr rfl)
theorem sax_cons {e:Expr} {es:List Expr} {fe:Rho->Rs (D×Rho)} {fs:Rho->Rs (List D×Rho)} (ha:SX X B e fe) (hr:SAX X B es fs) (hs:starEach (e::es) X.env=(false,eval e X.env)::starEach es X.env:=by rfl):SAX X B (e::es) (xCons fe fs):=by
  refine PA.imp (pa_cons ha hr hs) fun σ H Q ⟨ρ,G,s,p⟩=>⟨ρ,G,s,bxXA_of (k:=fun x ρ1=>bx (fs ρ1) fun xs ρ2=>.ok (x::xs,ρ2)) p fun d ρ1 v H1 G1 s1 q1 r1 p1=>⟨ρ1,G1,s1,bxAA_of (k:=fun xs ρ2=>.ok (d::xs,ρ2)) p1 fun ds ρ2 vs H2 G2 s2 q2 r2 p2=>?_⟩⟩
  exact p2 (v::vs) H2 G2 s2 (.refl _) (reps_cons.mpr ⟨v,vs,rfl,r1.mono q2,r2⟩)
theorem tAX_of {t:Rho->Rs (List D×Rho)} {g:List D->Rs D} {r:List V->Hp->VK->Prop} {Q:VK} (hg:CallD K r g) (h:tX K B (xA t g) σ H Q):tAX K B t σ H fun vs H1=>r vs H1 Q:=by
  obtain ⟨ρ,G,s,p⟩:=h
  exact ⟨ρ,G,s,bxA_of (k:=fun ds ρ1=>lf (g ds) ρ1) p fun ds ρ1 vs H1 G1 s1 q1 r1 p1=>hg B WF σ ρ1 G1 H1 ds vs Q s1 r1 (lf_post s1 p1)⟩
theorem cd_tup:CallD K (fun xs H1 Q=>xs.length<=sizeLine/\∀ p,H1 p=none->Q (.ref p) (upd H1 p (.tup xs))) gTup:=by
  intro B W σ ρ G H ds vs Q s r p
  unfold gTup at p
  by_cases hl:ds.length<=1000
  . rw [if_pos hl] at p
    refine ⟨by rw [<- r.length];exact sz1000 hl,fun a ha=>?_⟩
    have x:=ext_tup (xs:=vs) s.en.gh s.en.tp ha
    exact p _ _ _ x (rep_tup.mpr ⟨a,vs,rfl,.of upd_same,r.mono x.gg⟩)
  . rw [if_neg hl] at p;exact p.elim
theorem sx_tup {es:List Expr} {x1} {pos:Pos} {f:Rho->Rs (List D×Rho)} (h:SAX X B es f):SX X B (.Tuple es x1 pos) (xA f gTup):=PE.imp (pe_tup h) fun σ H Q q=>tAX_of cd_tup q
theorem sx_ix {a b:Expr} {pos:Pos} {fa fb:Rho->Rs (D×Rho)} (ha:SX X B a fa) (hb:SX X B b fb) (hs:PlainIx b:=by intro _ _;rfl):SX X B (.Subscript a b pos) (xOp gIx fa fb) :=
  PE.imp (pe_ix ix_seq ha hb hs) fun _ _ _ h=>tOpX_of opd_ix h
section
variable {x:Str} {p pos:Pos} {e:Expr} {es:List Expr} {id T:String} {r:List V->Hp->VK->Prop} {g:List D->Rs D} {fs:Rho->Rs (List D×Rho)}
end
theorem sx_callM (i:Nat) {x y:Str} {p py pos:Pos} {es:List Expr} {fs:Rho->Rs (List D×Rho)} {k n kr:Nat} {g:List D->List D->Rs (D×List D)} (O:Okm X.prog X.w X.K X.mg X.base x k n g) (hr:Room kr X.A) (ha:SAX X B es fs) (hN:X.N[i]?=some y:=by rfl) (hv:Vis X.env.scope y:=by first|exact Or.inl rfl|exact Or.inr (Or.inl rfl)|exact Or.inr (Or.inr rfl)) (hd:(y == ("__debug__":Str))=false:=by decide)
    (hcd:(y == ("__classdict__":Str))=false:=by decide) (hg:Gl X x:=by rfl) (hdb:(x == ("__debug__":Str))=false:=by decide)
    (he:starEach (.Name y py::es) X.env=(false,eval (.Name y py) X.env)::starEach es X.env:=by rfl) (hpl:(backTo pos (starEach es X.env)).any (·.1)=false:=by rfl) (hkr:k<=kr:=by decide):SX X B (.Call (.Name x p) (.Name y py::es) [] pos) (xM i n g fs):=by
  obtain ⟨f,fd,ps,F,hm,hk,hb⟩:=O
  refine PE.imp (pe_callV F (hr.mono hkr) hg hm hk hb (pa_cons (pe_var (pos:=py) hN hv hd hcd) ha he) hdb he hpl) fun σ H Q ⟨ρ,G,s,p⟩=>?_
  unfold xM at p
  cases q:ρ[i]? with
  | none=>rw [q] at p;exact p.elim
  | some z0 =>
    rw [q] at p
    dsimp only at p
    cases q1:lent z0 with
    | none=>rw [q1] at p;exact p.elim
    | some es0 =>
      rw [q1] at p
      dsimp only at p
      obtain ⟨a,vs0,h1,h2,h3,h4,h5⟩:=s.lent q q1
      refine ⟨_,h1,ρ,G,s,bxA_of (k:=fun ds ρ1=>if ds.length=n then (match ρ1[i]? with
        | some z=>(match lent z with
          | some es=>(match g es ds with
            | .ok (d,es')=>.ok (d,ρ1.set i (relent z es'))
            | _=>.no)
          | none=>.no)
        | none=>.no) else .no) p fun ds ρ1 us H1 G1 s1 e1 r1 p1=>?_⟩
      by_cases hl:ds.length=n
      . rw [if_pos hl] at p1
        cases q2:ρ1[i]? with
        | none=>rw [q2] at p1;exact p1.elim
        | some z =>
          rw [q2] at p1
          dsimp only at p1
          cases q3:lent z with
          | none=>rw [q3] at p1;exact p1.elim
          | some es1 =>
            rw [q3] at p1
            dsimp only at p1
            obtain ⟨b,ws,k1,k2,k3,k4,k5⟩:=s1.lent q2 q3
            have eb:b=a:=by rw [h1] at k1;injection k1 with z;injection z with z;injection z with z;exact z.symm
            subst eb
            refine ⟨by simp [<- r1.length,hl],b,us,G1,ws,es1,ds,rfl,s1.ex0,k3,k2,k5,r1,?_⟩
            cases q4:g es1 ds with
            | no=>rw [q4] at p1;exact p1.elim
            | ex c m=>rw [q4] at p1;exact p1.elim
            | ok dz =>
              obtain ⟨d,es2⟩:=dz
              rw [q4] at p1
              exact fun v H' G' ws' y g1 h' r2 r3=>p1 v H' G' (s1.back q2 q3 k1 y g1 h' r2) y.gg r3
      . rw [if_neg hl] at p1;exact p1.elim
variable {a b:Expr} {pos:Pos} {fa fb:Rho->Rs (D×Rho)}
theorem sx_add (ha:SX X B a fa) (hb:SX X B b fb):SX X B (.BinOp a .Add b pos) (xOp gPlus fa fb):=sx_op op_plus opd_plus ha hb
theorem sx_sub (ha:SX X B a fa) (hb:SX X B b fb):SX X B (.BinOp a .Sub b pos) (xOp gSub fa fb):=sx_op op_sub (opd_I0 fun _ _ _=>rep_int.mpr rfl) ha hb
theorem sx_mul (ha:SX X B a fa) (hb:SX X B b fb):SX X B (.BinOp a .Mult b pos) (xOp gMul fa fb):=sx_op op_mul (opd_I fun _ _ _=>rep_int.mpr rfl) ha hb
noncomputable def gIxO (j:Nat) (f:Rho->Rs D):Rho->Rs D:=fun ρ=>match ρ[j]? with
  | some z=>(match lent z with|some ds=>(f ρ).bind fun k=>gIx (.lst ds) k|none=>.no)
  | none=>.no
theorem re_ixO (j:Nat) {x:Str} {b:Expr} {p1 pos:Pos} {fb:Rho->Rs D} (hb:SE X B W b fb) (hN:X.N[j]?=some x:=by rfl) (hv:Vis X.env.scope x:=by first|exact Or.inl rfl|exact Or.inr (Or.inl rfl)|exact Or.inr (Or.inr rfl)) (hd:(x == ("__debug__":Str))=false:=by decide)
    (hcd:(x == ("__classdict__":Str))=false:=by decide) (hs:PlainIx b:=by intro _ _;rfl):SE X B W (.Subscript (.Name x p1) b pos) (gIxO j fb):=by
  refine PE.imp (pe_ix ix_seq (pe_var (pos:=p1) hN hv hd hcd) hb hs) fun σ H Q ⟨ρ,G,s,p⟩=>?_
  unfold gIxO at p
  cases q:ρ[j]? with
  | none=>rw [q] at p;exact p.elim
  | some z =>
    rw [q] at p
    dsimp only at p
    cases q1:lent z with
    | none=>rw [q1] at p;exact p.elim
    | some ds =>
      rw [q1] at p
      obtain ⟨a,vs,h1,h2,h3,h4,h5⟩:=s.lent q q1
      refine ⟨_,h1,ρ,G,s,?_⟩
      refine Post.mono (Post.bind (k:=fun k=>gIx (.lst ds) k) p) fun v H1 ⟨G1,d,y,r,p1⟩=>?_
      cases d with
      | int i =>
        simp only [gIx] at p1
        cases e:atI ds i with
        | none=>rw [e] at p1;exact p1.elim
        | some d =>
          rw [e] at p1
          obtain ⟨w,e2,rw'⟩:=atI_reps h5 e
          exact .inl ⟨a,vs,i,w,rfl,rep_int.mp r,.of (y.hh _ _ h2),e2,p1 _ H1 G1 (.refl y.gh y.tp) (rw'.mono y.gg)⟩
      | _=>exact p1.elim
end
end Vl
namespace Vl
open PySem PySem.Spec PySem.Calls PySem.W L2 So
noncomputable def xRet (f:Rho->Rs (D×Rho)):Rho->Ou:=fun ρ=>oX (f ρ) fun d ρ1=>.rx d ρ1
noncomputable def xSet (i:Nat) (f:Rho->Rs (D×Rho)):Rho->Ou:=fun ρ=>oX (f ρ) fun d ρ1=>.nx (ρ1.set i (.fz d))
noncomputable def xAsg (f:Rho->Rs (D×Rho)) (h:Tg):Rho->Ou:=fun ρ=>oX (f ρ) fun d ρ1=>oO (h d ρ1)
noncomputable def xIf (c:Rho->Rs (Bool×Rho)) (a b:Rho->Ou):Rho->Ou:=fun ρ=>oX (c ρ) fun x ρ1=>if x=true then a ρ1 else b ρ1
noncomputable def xPutD (j:Nat) (fe:Rho->Rs D) (fk:Rho->Rs (D×Rho)):Rho->Ou:=fun ρ=>oR (fe ρ) ρ fun v=>match ρ[j]? with
  | some (.od _)=>oX (fk ρ) fun k ρ1=>(match keyD k,ρ1[j]? with
    | some ks,some (.od kvs)=>if kvs.length<=1000000 then .nx (ρ1.set j (.od (putD kvs ks v))) else .no
    | _,_=>.no)
  | _=>.no
noncomputable def rNext (i j:Nat) (f fk:Rho->Rs D):Rho->Ou:=fun ρ=>oR (f ρ) ρ fun d=>match d with
  | .tup [q,r]=>(match ρ[i]? with
    | some z=>(match lent z with
      | some ds=>oR (fk ρ) ρ fun k=>(match k with
        | .int k=>(match ixN ds.length k with|some m=>.nx ((ρ.set i (relent z (ds.set m q))).set j (.fz r))|none=>.no)
        | _=>.no)
      | none=>.no)
    | none=>.no)
  | _=>.no
section
variable {X:Cx} {K:PySem.W.Frag} {B:Bs} {W:Wi} {σ:St} {G H G' H':Hp} {ρ:Rho} {De:Ends}
theorem postX_of {r:Rs (D×Rho)} {k:D->Rho->Ou} {Q:VK} (p:PostS K B W G (oX r k) De) (h:∀ d ρ1 v H1 G1,SR K B σ H1 ρ1 G1->Same G G1->Rep K G1 d v->PostS K B W G1 (k d ρ1) De->Q v H1):PostX K B σ G r Q:=by
  cases r with
  | ok x=>obtain ⟨d,ρ1⟩:=x;exact fun v H1 G1 s q r=>h d ρ1 v H1 G1 s q r (PostS.same (show PostS K B W G (k d ρ1) De from p) q)
  | ex c n=>exact p.elim
  | no=>exact p.elim
theorem postAX_of {r:Rs (List D×Rho)} {k:List D->Rho->Ou} {Q:List V->Hp->Prop} (p:PostS K B W G (oX r k) De) (h:∀ d ρ1 v H1 G1,SR K B σ H1 ρ1 G1->Same G G1->Reps K G1 d v->PostS K B W G1 (k d ρ1) De->Q v H1):PostAX K B σ G r Q:=by
  cases r with
  | ok x=>obtain ⟨d,ρ1⟩:=x;exact fun v H1 G1 s q r=>h d ρ1 v H1 G1 s q r (PostS.same (show PostS K B W G (k d ρ1) De from p) q)
  | ex c n=>exact p.elim
  | no=>exact p.elim
theorem postTX_of {r:Rs (Bool×Rho)} {k:Bool->Rho->Ou} {Q:Bool->Hp->Prop} (p:PostS K B W G (oX r k) De) (h:∀ d ρ1 H1 G1,SR K B σ H1 ρ1 G1->Same G G1->PostS K B W G1 (k d ρ1) De->Q d H1):PostTX K B σ G r Q:=by
  cases r with
  | ok x=>obtain ⟨d,ρ1⟩:=x;exact fun H1 G1 s q=>h d ρ1 H1 G1 s q (PostS.same (show PostS K B W G (k d ρ1) De from p) q)
  | ex c n=>exact p.elim
  | no=>exact p.elim
theorem xs_ret {e:Expr} {pos} {f:Rho->Rs (D×Rho)} (h:SX X B e f):SS X B W (.Return (some e) pos) (xRet f) :=
  PS.imp (ps_ret h) fun De σ H ⟨ρ,G,s,p⟩=>⟨ρ,G,s,postX_of (k:=fun d ρ1=>.rx d ρ1) p fun d ρ1 v H1 G1 s1 q1 r1 p1=>p1 v σ H1 G1 s1 (.refl _) r1⟩
theorem xs_set (i:Nat) {x:Str} {e:Expr} {pos pos':Pos} {f:Rho->Rs (D×Rho)} (hN:X.N.Nodup) (he:SX X B e f) (hi:X.N[i]?=some x:=by rfl) (hx:Loc X.env.scope x:=by first|exact Or.inl rfl|exact Or.inr rfl) (hs:swapsWith e (some (.Name x pos')) pos.line X.env=pure false:=by rfl) (hf:X.fn x=true∨X.env.scope.names.lookup x=some .local:=by first|exact .inl rfl|exact .inr rfl|assumption) :
    SS X B W (.Assign [.Name x pos'] e pos) (xSet i f) :=
  PS.imp (ps_set hN hi hx he hs hf) fun De σ H ⟨ρ,G,s,p⟩=>⟨ρ,G,s,postX_of (k:=fun d ρ1=>.nx (ρ1.set i (.fz d))) p fun d ρ1 v H1 G1 s1 q1 r1 p1=>p1 _ H1 G1 (s1.set r1) (.refl _)⟩
theorem xs_asg {tg e:Expr} {pos:Pos} {f:Rho->Rs (D×Rho)} {h:Tg} (he:SX X B e f) (hg:SG X B tg h) (hs:swapsWithSole [tg] e pos.line X.env=pure false:=by rfl) (hw:swappedStores [tg] e X.env=pure none:=by rfl)
    (h1:(assignEach [tg] X.env).map (·.2)=[assign tg X.env]:=by rfl):SS X B W (.Assign [tg] e pos) (xAsg f h) :=
  PS.imp (ps_asg he hg hs hw h1) fun De σ H ⟨ρ,G,s,p⟩=>⟨ρ,G,s,postX_of (k:=fun d ρ1=>oO (h d ρ1)) p fun d ρ1 v H1 G1 s1 q1 r1 p1=>by
    cases e1:h d ρ1 with
    | none=>rw [e1] at p1;exact p1.elim
    | some ρ'=>rw [e1] at p1;exact ⟨ρ1,G1,d,s1,r1,ρ',e1,fun σ' s'=>p1 σ' H1 G1 s' (.refl _)⟩⟩
theorem xs_if {c:Expr} {a b:List Stmt} {pos:Pos} {fc:Rho->Rs (Bool×Rho)} {ga gb:Rho->Ou} (hc:STX X B c fc) (ha:SSs X B W a ga) (hb:SSs X B W b gb):SS X B W (.If c a b pos) (xIf fc ga gb):=by
  refine PS.imp (ps_if hc ha hb) fun De σ H ⟨ρ,G,s,p⟩=>⟨ρ,G,s,postTX_of (k:=fun x ρ1=>if x=true then ga ρ1 else gb ρ1) p fun x ρ1 H1 G1 s1 q1 p1=>?_⟩
  cases x with
  | true=>rw [if_pos rfl] at p1 ⊢;exact ⟨ρ1,G1,s1,p1⟩
  | false=>rw [if_neg (by simp)] at p1 ⊢;exact ⟨ρ1,G1,s1,p1⟩
theorem xs_putD (j:Nat) {e b:Expr} {x:Str} {p1 tp pos:Pos} {fe:Rho->Rs D} {fk:Rho->Rs (D×Rho)} (hu:X.A.units + 8 < cLine) (he:SE X B W e fe) (hb:SX X B b fk) (hN:X.N[j]?=some x:=by rfl) (hv:Vis X.env.scope x:=by first|exact Or.inl rfl|exact Or.inr (Or.inl rfl)|exact Or.inr (Or.inr rfl)) (hd:(x == ("__debug__":Str))=false:=by decide)
    (hcd:(x == ("__classdict__":Str))=false:=by decide)
    (hs:swapsWithSole [.Subscript (.Name x p1) b tp] e pos.line X.env=pure false:=by rfl) (hw:swappedStores [.Subscript (.Name x p1) b tp] e X.env=pure none:=by rfl)
    (h1:(assignEach [.Subscript (.Name x p1) b tp] X.env).map (·.2)=[assign (.Subscript (.Name x p1) b tp) X.env]:=by rfl)
    (ha:∀ v,assign (.Subscript (.Name x p1) b tp) X.env v=(do
      let ov <- holding [v] (eval (.Name x p1) X.env)
      let iv <- holding [v,ov] (eval b X.env)
      standAt tp
      holding [v,ov,iv] (setItem ov iv v)
      release [v,ov,iv] []):=by intro _;rfl) :
    SS X B W (.Assign [.Subscript (.Name x p1) b tp] e pos) (xPutD j fe fk):=by
  refine PS.imp (ps_asg he (pg_sub (pe_var (pos:=p1) hN hv hd hcd) hb (set_dK (room1 hu)) ha) hs hw h1) fun De σ H ⟨ρ,G,s,p⟩=>?_
  unfold xPutD at p
  refine ⟨ρ,G,s,post_of s p fun d v H' G' _ y r p'=>?_⟩
  cases e2:ρ[j]? with
  | none=>rw [e2] at p';exact p'.elim
  | some z =>
    rw [e2] at p'
    cases z with
    | od kvs0 =>
      have s':=s.ext y
      obtain ⟨d0,U0,kvv0,h1,h2,_⟩:=s'.od e2
      refine ⟨_,h1,ρ,G',s',postX_of (k:=fun k ρ1=>(match keyD k,ρ1[j]? with
        | some ks,some (.od kvs)=>if kvs.length<=1000000 then .nx (ρ1.set j (.od (putD kvs ks d))) else .no
        | _,_=>.no)) p' fun k ρ1 v2 H2 G2 s2 q2 r2 p2=>?_⟩
      cases e1:keyD k with
      | none=>rw [e1] at p2;exact p2.elim
      | some ks =>
        rw [e1] at p2
        cases e3:ρ1[j]? with
        | none=>rw [e3] at p2;exact p2.elim
        | some z1 =>
          rw [e3] at p2
          cases z1 with
          | od kvs =>
            dsimp only at p2
            by_cases hl:kvs.length<=1000000
            . rw [if_pos hl] at p2
              obtain ⟨b',d1,U,kvv,rfl,q1,q2',q3,q4,q5,q6,q7⟩:=od_key s2 e3 s2.ext0 r2 e1
              rw [h1] at q1
              cases q1
              refine ⟨b',d0,ks,U,UG X.K G2,kvv,rfl,rfl,q2',q4,q5,q6,q3,by rw [<- q7.len];exact hl,?_⟩
              exact p2 σ _ G2 (s2.writeOwn e3 rfl h1 rfl ⟨UG X.K G2,_,rfl,fun _ _ z=>z,q7.put (r.mono q2)⟩) (.refl _)
            . rw [if_neg hl] at p2;exact p2.elim
          | _=>exact p2.elim
    | _=>exact p'.elim
theorem rs_next (i j:Nat) {e b:Expr} {x y:Str} {p1 p2 tp pt pos:Pos} {kt:Nat} {f fk:Rho->Rs D} (hc:X.calm=true) (hN:X.N.Nodup) (he:SE X B W e f) (hb:SE X B W b fk) (hi:X.N[i]?=some x:=by rfl) (hj:X.N[j]?=some y:=by rfl) (hv:Vis X.env.scope x:=by first|exact Or.inl rfl|exact Or.inr (Or.inl rfl)|exact Or.inr (Or.inr rfl)) (hd:(x == ("__debug__":Str))=false:=by decide)
    (hcd:(x == ("__classdict__":Str))=false:=by decide) (hy:Loc X.env.scope y:=by first|exact Or.inl rfl|exact Or.inr rfl) (hf:X.fn y=true∨X.env.scope.names.lookup y=some .local:=by first|exact .inl rfl|exact .inr rfl|assumption)
    (hs:swapsWithSole [.Tuple [.Subscript (.Name x p1) b tp,.Name y p2] kt pt] e pos.line X.env=pure false:=by rfl) (hw:swappedStores [.Tuple [.Subscript (.Name x p1) b tp,.Name y p2] kt pt] e X.env=pure none:=by rfl)
    (h1:(assignEach [.Tuple [.Subscript (.Name x p1) b tp,.Name y p2] kt pt] X.env).map (·.2)=[assign (.Tuple [.Subscript (.Name x p1) b tp,.Name y p2] kt pt) X.env]:=by rfl)
    (h2:(assignEach [.Subscript (.Name x p1) b tp,.Name y p2] X.env).map (·.2)=assign (.Subscript (.Name x p1) b tp) X.env::(assignEach [.Name y p2] X.env).map (·.2):=by rfl)
    (h3:(assignEach [.Name y p2] X.env).map (·.2)=assign (.Name y p2) X.env::(assignEach [] X.env).map (·.2):=by rfl)
    (h4:(assignEach [.Subscript (.Name x p1) b tp,.Name y p2] X.env).length=2:=by rfl) (h5:(assignEach [.Subscript (.Name x p1) b tp,.Name y p2] X.env).findIdx? (·.1)=none:=by rfl)
    (ha:∀ v,assign (.Subscript (.Name x p1) b tp) X.env v=(do
      let ov <- holding [v] (eval (.Name x p1) X.env)
      let iv <- holding [v,ov] (eval b X.env)
      standAt tp
      holding [v,ov,iv] (setItem ov iv v)
      release [v,ov,iv] []):=by intro _;rfl) :
    SS X B W (.Assign [.Tuple [.Subscript (.Name x p1) b tp,.Name y p2] kt pt] e pos) (rNext i j f fk):=by
  refine PS.imp (ps_asg he (pg_tup hc (pgs_cons (pg_sub (pe_var (pos:=p1) hi hv hd hcd) hb set_list ha) (pgs_cons (pg_name hN hj hy hf) pgs_nil h3) h2) h4 h5) hs hw h1) fun De σ H ⟨ρ,G,s,p⟩=>?_
  unfold rNext at p
  refine ⟨ρ,G,s,post_of s p fun d v H' G' _ yx r p'=>?_⟩
  match d,p',r with
  | .tup [q,r0],p',r =>
    obtain ⟨c,vs,rfl,hq,rr⟩:=rep_tup.mp r
    obtain ⟨vq,vs1,rfl,rq,rr1⟩:=reps_cons.mp rr
    obtain ⟨vr,vs2,rfl,r2,rr2⟩:=reps_cons.mp rr1
    cases reps_nil.mp rr2
    have s':=s.ext yx
    have p2:PostS X.K B W G' (match ρ[i]? with
      | some z=>(match lent z with
        | some ds=>oR (fk ρ) ρ fun k=>(match k with
          | .int k=>(match ixN ds.length k with|some m=>.nx ((ρ.set i (relent z (ds.set m q))).set j (.fz r0))|none=>.no)
          | _=>.no)
        | none=>.no)
      | none=>.no) De:=p'
    cases e1:ρ[i]? with
    | none=>rw [e1] at p2;exact p2.elim
    | some z =>
      rw [e1] at p2
      dsimp only at p2
      cases e2:lent z with
      | none=>rw [e2] at p2;exact p2.elim
      | some ds =>
        rw [e2] at p2
        dsimp only at p2
        obtain ⟨a,ws,k1,k2,k3,k4,k5⟩:=s'.lent e1 e2
        refine ⟨c,_,rfl,Same.seqT s'.en.gh hq,rfl,vq,[vr],rfl,_,k1,ρ,G',s',post_of s' p2 fun k v2 H2 G2 _ y2 r3 p3=>?_⟩
        cases k with
        | int k =>
          dsimp only at p3
          cases e3:ixN ds.length k with
          | none=>rw [e3] at p3;exact p3.elim
          | some m =>
            rw [e3] at p3
            rw [rep_int.mp r3]
            have s2:=s'.ext y2
            refine ⟨a,ws,k,m,rfl,rfl,y2.hh _ _ k2,by rw [<- k5.length];exact e3,vr,[],rfl,rfl,?_⟩
            refine p3 _ _ G2 (SR.set (SR.writeOwn s2 (z:=relent z (ds.set m q)) (o:=.lst (ws.set m vq)) e1 (lent_own e2) k1 (relent_own e2) (relent_at e2 (Reps.set m (k5.mono y2.gg) (rq.mono y2.gg))) (fun _ h=>relent_op e2 h)) (r2.mono y2.gg)) (.refl _)
        | _=>exact p3.elim
  | .tup [],p',r=>exact p'.elim
  | .tup [_],p',r=>exact p'.elim
  | .tup (_::_::_::_),p',r=>exact p'.elim
  | .non,p',r=>exact p'.elim
  | .bl _,p',r=>exact p'.elim
  | .int _,p',r=>exact p'.elim
  | .str _,p',r=>exact p'.elim
  | .lst _,p',r=>exact p'.elim
  | .exn _ _,p',r=>exact p'.elim
  | .dic _ _,p',r=>exact p'.elim
  | .fn _,p',r=>exact p'.elim
  | .obj _ _ _,p',r=>exact p'.elim
end
end Vl
namespace Vl
open PySem PySem.Spec PySem.Calls PySem.W L2 So
section
variable {X:Cx} {K:PySem.W.Frag} {B:Bs} {W:Wi} {σ:St} {G H G' H':Hp} {ρ:Rho} {a b:Expr} {pos:Pos} {fa fb:Rho->Rs (D×Rho)}
theorem stx_eq (hu:X.A.units + 8 < cLine) (ha:SX X B a fa) (hb:SX X B b fb):STX X B (.Compare a [.Eq] [b] pos) (xT (xOp gEq fa fb)):=stx_cmp (op_eqD hu) opd_eq ha hb (nomark _)
section
variable {x:Str} {p1:Pos} {fb:Rho->Rs D} (j:Nat) (hu:X.A.units + 8 < cLine) (hb:SE X B W b fb) (hN:X.N[j]?=some x) (hv:Vis X.env.scope x) (hd:(x == ("__debug__":Str))=false) (hcd:(x == ("__classdict__":Str))=false)
end
end
end Vl
namespace Vl
open PySem PySem.Spec L2 AutoSeq1
section
variable {X:Cx} {B:Bs} {W:Wi} {K:PySem.W.Frag}
noncomputable def rIns:V->List V->Hp->VK->Prop:=fun x vs H Q=>∃ (l:Addr) (i:Int) (y:V) (xs:List V),x=.ref l/\vs=[.int i,y]/\H l=some (.lst xs)/\0<=i/\i<=xs.length/\xs.length < sizeLine/\Q .non (upd H l (.lst (xs.take i.toNat++y::xs.drop i.toNat)))
theorem ins_arr {its:List Value} {i:Int} {u:Value} (h0:0<=i) (h1:i<=its.length):(its.toArray.extract 0 (if i < 0 then (i + (its.toArray.size:Int)).toNat else min i.toNat its.toArray.size)).push u++its.toArray.extract (if i < 0 then (i + (its.toArray.size:Int)).toNat else min i.toNat its.toArray.size)=(its.take i.toNat++u::its.drop i.toNat).toArray:=by
  rw [if_neg (by lia),List.size_toArray,Nat.min_eq_left (by lia)]
  apply Array.toList_inj.mp
  simp
  exact List.take_of_length_le (by rw [List.length_drop];exact Nat.le_refl _)
theorem ins_fit {i:Int} {n:Nat} (h0:0<=i) (h1:i<=n) (hn:n < sizeLine):¬ (!Builtin.List.listFitsIndex i)=true:=by
  have:(sizeLine:Nat)<=2 ^ 62:=by decide
  rw [fitsIndex_both (by lia) (by lia)]
  exact Bool.false_ne_true
theorem mt_ins:MtM X "list.insert" rIns:=by
  intro pins s σ H x vs v us Q I rx rv ⟨l,i,y,xs,e1,e2,hH,h0,h1,hz,q⟩
  subst e1;subst e2
  cases rx
  obtain ⟨u1,u2,rfl,r1,r2⟩:=rv.two
  obtain ⟨t,rfl⟩:=r1
  obtain ⟨z,its,n,r,hl,e⟩:=I.lstM hH
  have sz:its.toArray.size<=sizeLine:=by rw [List.size_toArray,<- hl];exact z
  have m:=AutoSeq1.list_insert_list_int_val_1 l its.toArray n i t u2 (ins_fit h0 h1 hz) sz
  have v':Vals (xs.take i.toNat++y::xs.drop i.toNat) (its.take i.toNat++u2::its.drop i.toNat):=(r.take i.toNat).append (.cons r2 (r.drop i.toNat))
  have lz:(xs.take i.toNat++y::xs.drop i.toNat).length<=sizeLine:=by rw [List.length_append,List.length_take,List.length_cons,List.length_drop];lia
  refine call_meets F.slot_list_insert ⟨_,e,rfl⟩ F.entry_list_insert (F.args_list_insert_3 _ _ _) m ⟨e,.non,_,?_,rfl,q⟩
  exact I.lset hH e (ins_arr h0 (by rw [<- hl];exact h1)) v' lz
noncomputable def xInsL (i:Nat) (f:Rho->Rs (List D×Rho)):Rho->Ou:=fun ρ=>match ρ[i]? with
  | some (.ow _)=>oX (f ρ) fun es ρ1=>(match es,ρ1[i]? with
    | [.int k,d],some (.ow ds)=>if 0<=k/\k<=ds.length/\ds.length < 1000000 then .nx (ρ1.set i (.ow (ds.take k.toNat++d::ds.drop k.toNat))) else .no
    | _,_=>.no)
  | _=>.no
theorem xs_insL (i:Nat) {x:Str} {e e':Expr} {pos p1 p2 cp:Pos} {f:Rho->Rs (List D×Rho)} (he:SAX X B [e,e'] f) (hN:X.N[i]?=some x:=by rfl) (hv:Vis X.env.scope x:=by first|exact Or.inl rfl|exact Or.inr (Or.inl rfl)|exact Or.inr (Or.inr rfl)) (hd:(x == ("__debug__":Str))=false:=by decide)
    (hcd:(x == ("__classdict__":Str))=false:=by decide) (hst:starEach [e,e'] X.env=(false,eval e X.env)::starEach [e'] X.env:=by rfl)
    (hbase:attributeBase (.Name x p1) "insert" X.env (eval (.Name x p1) X.env)=eval (.Name x p1) X.env:=by rfl)
    (hfew:((backTo cp (starEach [e,e'] X.env)).all (fun x=>!x.1) && (backToKw cp (keywordEach [] X.env)).all (fun x=>x.1.isSome)
      && decide (([e,e']:List Expr).length + ([]:List Keyword).length + (if ([]:List Keyword).isEmpty then 0 else 1) < 30))=true:=by rfl)
    (hline:(p2.endLine == cp.line)=true:=by rfl) (hplain:(backTo cp (starEach [e'] X.env)).any (·.1)=false:=by rfl)
    (hs:swapsWith (.Call (.Attribute (.Name x p1) "insert" p2) [e,e'] [] cp) none pos.line X.env=pure false:=by rfl) :
    SS X B W (.Expr (.Call (.Attribute (.Name x p1) "insert" p2) [e,e'] [] cp) pos) (xInsL i f):=by
  refine PS.imp (ps_expr (pe_bm PySem.F.plainAttrs_list PySem.F.slot_list_insert PySem.F.type_list_insert mt_ins (pe_var hN hv hd hcd) he hbase hfew hline hst hplain) hs) fun De σ H ⟨ρ,G,s,p⟩=>?_
  unfold xInsL at p
  cases q:ρ[i]? with
  | none=>rw [q] at p;exact p.elim
  | some z =>
    rw [q] at p
    cases z with
    | ow ds0 =>
      obtain ⟨a,vs0,e1,h2,h3,h4,h5⟩:=s.ow i ds0 q
      refine ⟨_,e1,.inl ⟨rfl,vs0,.of h2⟩,ρ,G,s,postAX_of (k:=fun es ρ1=>(match es,ρ1[i]? with
        | [.int k,d],some (.ow ds)=>if 0<=k/\k<=ds.length/\ds.length < 1000000 then .nx (ρ1.set i (.ow (ds.take k.toNat++d::ds.drop k.toNat))) else .no
        | _,_=>.no)) p fun es ρ1 vs H1 G1 s1 q1 r1 p1=>?_⟩
      try dsimp only at p1
      split at p1
      . rename_i k d ds e3
        by_cases hc:0<=k/\k<=ds.length/\ds.length < 1000000
        . rw [if_pos hc] at p1
          obtain ⟨hc0,hc1,hc2⟩:=hc
          obtain ⟨b,ws,k1,k2,k3,k4,k5⟩:=s1.ow i ds e3
          have eb:b=a:=by rw [e1] at k1;injection k1 with z;injection z with z;injection z with z;exact z.symm
          subst eb
          obtain ⟨v1,vs1,rfl,r2,r3⟩:=reps_cons.mp r1
          obtain ⟨v2,vs2,rfl,r4,r5⟩:=reps_cons.mp r3
          cases reps_nil.mp r5
          rw [rep_int.mp r2]
          have le:=k5.length
          refine ⟨b,k,v2,ws,rfl,rfl,k2,hc0,by rw [<- le];exact hc1,by rw [<- le];exact Nat.lt_of_lt_of_le hc2 (by rw [sizeLine_eq];decide),p1 σ _ G1 (s1.write e3 e1 ((k5.take _).append (reps_cons.mpr ⟨_,_,rfl,r4,k5.drop _⟩))) (.refl _)⟩
        . rw [if_neg hc] at p1;exact p1.elim
      . exact p1.elim
    | _=>exact p.elim
end
end Vl
namespace Vl
open PySem PySem.Spec L2
mutual
noncomputable def noL:D->Bool
  | .non=>true
  | .bl _=>true
  | .int _=>true
  | .str _=>true
  | .tup ds=>noLs ds
  | _=>false
noncomputable def noLs:List D->Bool
  | []=>true
  | d::ds=>noL d && noLs ds
end
noncomputable def drp (G:Hp) (a:Addr):Hp:=fun b=>if b=a then none else G b
theorem drp_ne {G:Hp} {a b:Addr} (h:b≠a):drp G a b=G b:=if_neg h
section
variable {X:Cx} {B:Bs} {W:Wi} {K:PySem.W.Frag} {G H:Hp} {σ:L2.St} {ρ:Rho} {a:Addr} {vs:List V}
theorem rd_drp {b:Addr} {xs:List V} (h:G a=some (.lst vs)) (r:SqT K G b xs):SqT K (drp G a) b xs:=by
  rcases r with (r|⟨o,r⟩)|r
  . have:b≠a:=fun z=>by rw [z,h] at r;cases r
    exact .inl (.inl (by rw [drp_ne this];exact r))
  . have:b≠a:=fun z=>by rw [z,h] at r;cases r
    exact .inl (.inr ⟨o,by rw [drp_ne this];exact r⟩)
  . exact .inr r
mutual
theorem rep_drp (h:G a=some (.lst vs)):∀ {d:D} {v:V},noL d=true->Rep K G d v->Rep K (drp G a) d v
  | .non,v,_,r=>rep_non.mpr (rep_non.mp r)
  | .bl b,v,_,r=>rep_bl.mpr (rep_bl.mp r)
  | .int i,v,_,r=>rep_int.mpr (rep_int.mp r)
  | .str i,v,_,r=>rep_str.mpr (rep_str.mp r)
  | .tup ds,v,n,r=>by
    obtain ⟨b,us,e,q,rr⟩:=rep_tup.mp r
    exact rep_tup.mpr ⟨b,us,e,rd_drp h q,reps_drp h (by unfold noL at n;exact n) rr⟩
  | .lst _,v,n,r=>by unfold noL at n;cases n
  | .exn _ _,v,n,r=>by unfold noL at n;cases n
  | .dic _ _,v,n,r=>by unfold noL at n;cases n
  | .fn _,v,n,r=>by unfold noL at n;cases n
  | .obj _ _ _,v,n,r=>by unfold noL at n;cases n
theorem reps_drp (h:G a=some (.lst vs)):∀ {ds:List D} {us:List V},noLs ds=true->Reps K G ds us->Reps K (drp G a) ds us
  | [],us,_,r=>reps_nil.mpr (reps_nil.mp r)
  | d::ds,us,n,r=>by
    obtain ⟨v,ws,e,r1,r2⟩:=reps_cons.mp r
    unfold noLs at n
    have n:=Bool.and_eq_true _ _▸n
    exact reps_cons.mpr ⟨v,ws,e,rep_drp h n.1 r1,reps_drp h n.2 r2⟩
end
end
end Vl
namespace Vl
open PySem PySem.Spec PySem.Calls PySem.W L2
section
variable {X:Cx} {B:Bs} {a b:Expr} {pos:Pos} {fa fb:Rho->Rs (D×Rho)}
end
end Vl
namespace Vl
open PySem PySem.Spec PySem.Calls PySem.W L2
section
variable {ρ ρ1:Rho} {d x y z:D} {f fa fb:Rho->Rs D} {g k a b:Rho->Ou} {r:Ou} {ds:List D} {fs:Rho->Rs (List D)} {c c1 c2:Rho->Rs Bool} {t u:Bool} {i j:Nat} {α β:Type} {e:Str} {n:Int}
theorem x_onx:oSeq (.nx ρ) k=k ρ:=rfl
theorem x_ort:oSeq (.rt d) k=.rt d:=rfl
theorem x_oex:oSeq (.ex e n ρ) k=.ex e n ρ:=rfl
theorem x_ok {a:α} {k:α->Ou}:oR (.ok a) ρ k=k a:=rfl
theorem x_ex {k:α->Ou}:oR (.ex e n) ρ k=.ex e n ρ:=rfl
theorem x_bok {a:α} {k:α->Rs β}:Rs.bind (.ok a) k=k a:=rfl
theorem x_bex {k:α->Rs β}:Rs.bind (.ex e n) k=.ex e n:=rfl
theorem x_oO:oO (some ρ)=.nx ρ:=rfl
theorem x_fnx:fin (.nx ρ)=.ok .non:=rfl
theorem x_frt:fin (.rt d)=.ok d:=rfl
theorem x_fex:fin (.ex e n ρ)=.ex e n:=rfl
theorem x_nnx:noEx (.nx ρ)=.nx ρ:=rfl
theorem x_nrt:noEx (.rt d)=.rt d:=rfl
theorem x_call {n:Nat} {v:List D->Rs D}:gCallX n v ds=if ds.length=n then v ds else .no:=rfl
theorem x_nxok {a:α}:noExR (.ok a)=.ok a:=rfl
theorem q_mulL {m n:Int} (h:-(2 ^ 64) < n/\n < 2 ^ 64):gMul (.int m) (.int n)=.ok (.int (m * n)):=q_mul (.inr h)
theorem x_ixT {m:Int}:gIx (.tup ds) (.int m)=match atI ds m with|some d=>.ok d|none=>.no:=rfl
theorem x_ixL {m:Int}:gIx (.lst ds) (.int m)=match atI ds m with|some d=>.ok d|none=>.no:=rfl
theorem x_lenL:gLen [.lst ds]=.ok (.int ds.length):=rfl
theorem x_lenT:gLen [.tup ds]=.ok (.int ds.length):=rfl
theorem x_tofL:gTupOf [.lst ds]=.ok (.tup ds):=rfl
theorem x_tofT:gTupOf [.tup ds]=.ok (.tup ds):=rfl
theorem x_lofL:gLstOf [.lst ds]=.ok (.lst ds):=rfl
theorem x_lofT:gLstOf [.tup ds]=.ok (.lst ds):=rfl
theorem x_intI:gInt [.int n]=.ok (.int n):=rfl
theorem x_intB:gInt [.bl t]=.ok (.int (if t then 1 else 0)):=rfl
theorem x_isN:gIsN x .non=.ok (.bl (isNon x)):=rfl
theorem x_notN:gNotN x .non=.ok (.bl (!isNon x)):=rfl
theorem x_nn:isNon .non=true:=rfl
theorem x_nb:isNon (.bl t)=false:=rfl
theorem x_ni:isNon (.int n)=false:=rfl
theorem x_nt:isNon (.tup ds)=false:=rfl
theorem x_nl:isNon (.lst ds)=false:=rfl
theorem x_neg:gNeg (.int n)=.ok (.int (-n)):=rfl
theorem x_at0 {d:D}:atI (d::ds) 0=some d:=by
  unfold atI
  have:ixN (d::ds).length 0=some 0:=by
    unfold ixN;simp
  rw [this];rfl
theorem x_at1 {d d':D}:atI (d::d'::ds) 1=some d':=by
  unfold atI
  have:ixN (d::d'::ds).length 1=some 1:=by
    unfold ixN;simp
    lia
  rw [this];rfl
end
section
open So Tb
theorem compD_gen {α:Type} {h:Tg} {fe:Rho->Rs D} (P:Rho->Prop) (enc:α->D) (F:α->D):∀ {xs:List α} {ρ:Rho},P ρ->(∀ x∈xs,∀ ρ,P ρ->∃ ρ1,h (enc x) ρ=some ρ1/\fe ρ1=.ok (F x)/\P ρ1)->compD h (fun _=>.ok true) fe (xs.map enc) ρ=.ok (xs.map F)
  | [],ρ,p,_=>rfl
  | x::xs,ρ,p,st=>by
    obtain ⟨ρ1,e1,e2,p2⟩:=st x (by simp) ρ p
    have e:=compD_gen (xs:=xs) P enc F p2 fun d' hd=>st d' (by simp [hd])
    simp only [List.map_cons,compD,e1,Rs.bind,e2,e,if_true]
theorem ins_mem {acc:List (List Int)} {k x:List Int}:x∈ins acc k↔x=k∨x∈acc:=by
  unfold ins
  split
  . rename_i h
    constructor
    . exact .inr
    . rintro (rfl|h')
      . exact h
      . exact h'
  . exact List.mem_cons
theorem insAll_mem {l:List (List Int)} {x:List Int}:x∈insAll l↔x∈l:=by
  unfold insAll
  have:∀ (l acc:List (List Int)),x∈l.foldl ins acc↔x∈l∨x∈acc:=by
    intro l
    induction l with
    | nil=>intro acc;simp
    | cons a l ih =>
      intro acc
      rw [List.foldl_cons,ih,ins_mem,List.mem_cons]
      constructor
      . rintro (h|h|h)
        . exact .inl (.inr h)
        . exact .inl (.inl h)
        . exact .inr h
      . rintro ((h|h)|h)
        . exact .inr (.inl h)
        . exact .inl h
        . exact .inr (.inr h)
  simpa using this l []
theorem insAll_nd (l:List (List Int)):(insAll l).Nodup:=by
  unfold insAll
  have:∀ (l acc:List (List Int)),acc.Nodup->(l.foldl ins acc).Nodup:=by
    intro l
    induction l with
    | nil=>intro acc h;exact h
    | cons a l ih =>
      intro acc h
      refine ih _ ?_
      unfold ins
      split
      . exact h
      . rename_i hn;exact List.nodup_cons.mpr ⟨hn,h⟩
  exact this l [] List.nodup_nil
theorem sortK_mem {l:List (List Int)} {x:List Int}:x∈sortK l↔x∈l:=(sortK_perm l).mem_iff
theorem sortK_len (l:List (List Int)):(sortK l).length=l.length:=(sortK_perm l).length_eq
noncomputable abbrev rise (l:List (List Int)):List (List Int):=sortK (insAll l)
theorem rise_mem {l:List (List Int)} {x:List Int}:x∈rise l↔x∈l:=sortK_mem.trans insAll_mem
theorem x_sortL {f:Rho->Rs D} {ρ:Rho} {kss:List (List Int)} (h:f ρ=.ok (.lst (kss.map tupK))) (hl:kss.length < 4900) (hne:∀ ks∈kss,ks≠[]):fSortK (fK f) ρ=.ok (.lst ((rise kss).map tupK)):=by
  unfold fSortK fK
  rw [h]
  simp only [x_bok,asKeys,keysD_map]
  rw [if_pos (Nat.lt_of_le_of_lt (Tb.insAll_len _) hl)]
  simp only [x_bok,gSortK]
  rw [if_pos ⟨fun ks hk=>hne ks (insAll_mem.mp hk),Nat.lt_of_le_of_lt (insAll_len kss) hl⟩]
theorem x_sortT {f:Rho->Rs D} {ρ:Rho} {kss:List (List Int)} (h:f ρ=.ok (.tup (kss.map tupK))) (hl:kss.length < 4900) (hne:∀ ks∈kss,ks≠[]):fSortK (fK f) ρ=.ok (.lst ((rise kss).map tupK)):=by
  unfold fSortK fK
  rw [h]
  simp only [x_bok,asKeys,keysD_map]
  rw [if_pos (Nat.lt_of_le_of_lt (Tb.insAll_len _) hl)]
  simp only [x_bok,gSortK]
  rw [if_pos ⟨fun ks hk=>hne ks (insAll_mem.mp hk),Nat.lt_of_le_of_lt (insAll_len kss) hl⟩]
noncomputable def Pair (ks:List Int):Prop:=∃ a b,ks=[a,b]
theorem Pair.ne {ks:List Int} (h:Pair ks):ks≠[]:=by obtain ⟨a,b,rfl⟩:=h;simp
theorem dep_tupK (ks:List Int):dep (tupK ks)<=2:=by
  unfold tupK
  have:deps (ks.map D.int)<=1:=by
    induction ks with
    | nil=>simp [deps]
    | cons k ks ih=>simp only [List.map_cons,deps,dep];exact Nat.max_le.mpr ⟨by lia,ih⟩
  simp only [dep];lia
theorem deps_tupK (kss:List (List Int)):deps (kss.map tupK)<=2:=by
  induction kss with
  | nil=>simp [deps]
  | cons k kss ih=>simp only [List.map_cons,deps];exact Nat.max_le.mpr ⟨dep_tupK k,ih⟩
end
end Vl
namespace Vl
open PySem PySem.Spec PySem.Calls PySem.W L2 So
section
variable {ρ ρ1 ρ2:Rho} {d x y z:D} {f fa fb:Rho->Rs D} {xa xb:Rho->Rs (D×Rho)} {g k a b:Rho->Ou} {r:Ou} {ds:List D} {fs:Rho->Rs (List D)} {xs:Rho->Rs (List D×Rho)} {c c1 c2:Rho->Rs (Bool×Rho)} {t u:Bool} {i j:Nat}
theorem xv_p (h:f ρ=.ok d):xP f ρ=.ok (d,ρ):=by unfold xP;rw [h];rfl
theorem xv_pa (h:fs ρ=.ok ds):xPA fs ρ=.ok (ds,ρ):=by unfold xPA;rw [h];rfl
theorem xv_pt {f:Rho->Rs Bool} (h:f ρ=.ok t):xPT f ρ=.ok (t,ρ):=by unfold xPT;rw [h];rfl
theorem xv_op {o:D->D->Rs D} (h1:xa ρ=.ok (x,ρ1)) (h2:xb ρ1=.ok (y,ρ2)) (h3:o x y=.ok z):xOp o xa xb ρ=.ok (z,ρ2):=by
  unfold xOp;rw [h1];show bx (xb ρ1) _=_;rw [h2];show lf (o x y) ρ2=_;rw [h3];rfl
theorem xv_nil:xNil ρ=.ok ([],ρ):=rfl
theorem xv_cons (h1:xa ρ=.ok (x,ρ1)) (h2:xs ρ1=.ok (ds,ρ2)):xCons xa xs ρ=.ok (x::ds,ρ2):=by
  unfold xCons;rw [h1];show bx (xs ρ1) _=_;rw [h2];rfl
theorem xv_a {o:List D->Rs D} (h1:xs ρ=.ok (ds,ρ1)) (h2:o ds=.ok d):xA xs o ρ=.ok (d,ρ1):=by
  unfold xA;rw [h1];show lf (o ds) ρ1=_;rw [h2];rfl
theorem xv_t (h:xa ρ=.ok (.bl t,ρ1)):xT xa ρ=.ok (t,ρ1):=by unfold xT;rw [h];rfl
theorem xv_and_f (h:c1 ρ=.ok (false,ρ1)):xAnd c1 c2 ρ=.ok (false,ρ1):=by unfold xAnd;rw [h];rfl
theorem xv_and_t (h:c1 ρ=.ok (true,ρ1)) (h2:c2 ρ1=.ok (t,ρ2)):xAnd c1 c2 ρ=.ok (t,ρ2):=by unfold xAnd;rw [h];exact h2
theorem xv_m {n:Nat} {w:List D->List D->Rs (D×List D)} {z0 z1:Sl} {e0 es es':List D} (h0:ρ[i]?=some z0) (l0:lent z0=some e0) (h1:xs ρ=.ok (ds,ρ1)) (hn:ds.length=n) (h2:ρ1[i]?=some z1) (l1:lent z1=some es) (h3:w es ds=.ok (d,es')):xM i n w xs ρ=.ok (d,ρ1.set i (relent z1 es')):=by
  unfold xM
  rw [h0]
  dsimp only
  rw [l0]
  dsimp only
  rw [h1]
  show (if ds.length=n then _ else _)=_
  rw [if_pos hn,h2]
  dsimp only
  rw [l1]
  dsimp only
  rw [h3]
theorem xs_set1 (h:xa ρ=.ok (d,ρ1)):xSet i xa ρ=.nx (ρ1.set i (.fz d)):=by unfold xSet;rw [h];rfl
theorem xs_set2 (h:xa ρ=.ok (d,ρ1)) (e:ρ1.set i (.fz d)=ρ2):xSet i xa ρ=.nx ρ2:=by rw [<- e];exact xs_set1 h
theorem xs_ret1 (h:xa ρ=.ok (d,ρ1)):xRet xa ρ=.rx d ρ1:=by unfold xRet;rw [h];rfl
theorem xs_asg1 {h:Tg} (h1:xa ρ=.ok (d,ρ1)) (h2:h d ρ1=some ρ2):xAsg xa h ρ=.nx ρ2:=by unfold xAsg;rw [h1];show oO (h d ρ1)=_;rw [h2];rfl
theorem xs_if_t (h:c ρ=.ok (true,ρ1)) (h2:a ρ1=r):xIf c a b ρ=r:=by unfold xIf;rw [h];exact h2
theorem xs_if_f (h:c ρ=.ok (false,ρ1)) (h2:b ρ1=r):xIf c a b ρ=r:=by unfold xIf;rw [h];exact h2
theorem seq_rx {ρ2:Rho} (h:g ρ=.rx d ρ2):rSeq g k ρ=.rx d ρ2:=by unfold rSeq;rw [h];rfl
theorem keyD_tupK' (ks:List Int):keyD (tupK ks)=some ks:=by
  show intsDc (ks.map D.int)=some ks
  induction ks with
  | nil=>rfl
  | cons k ks ih=>rw [List.map_cons];show (intsDc (ks.map D.int)).map _=_;rw [ih];rfl
theorem xs_put1 {kvs0 kvs:List (List Int×D)} {ks:List Int} {v:D} (he:fa ρ=.ok v) (h0:ρ[j]?=some (.od kvs0)) (hk:xb ρ=.ok (tupK ks,ρ1)) (hj:ρ1[j]?=some (.od kvs)) (hl:kvs.length<=1000000):xPutD j fa xb ρ=.nx (ρ1.set j (.od (putD kvs ks v))):=by
  unfold xPutD
  rw [he,h0]
  show oX (xb ρ) _=_
  rw [hk]
  show (match keyD (tupK ks),ρ1[j]? with|some ks,some (.od kvs)=>if kvs.length<=1000000 then Ou.nx (ρ1.set j (.od (putD kvs ks v))) else .no|_,_=>.no)=_
  rw [keyD_tupK',hj]
  show (if kvs.length<=1000000 then Ou.nx _ else .no)=_
  rw [if_pos hl]
theorem xs_put2 {kvs0 kvs:List (List Int×D)} {ks:List Int} {v:D} (h0:ρ[j]?=some (.od kvs0)) (hk:xb ρ=.ok (tupK ks,ρ1)) (hj:ρ1[j]?=some (.od kvs)) (he:fa ρ=.ok v) (hl:kvs.length<=1000000) (e:ρ1.set j (.od (putD kvs ks v))=ρ2):xPutD j fa xb ρ=.nx ρ2:=by rw [<- e];exact xs_put1 he h0 hk hj hl
theorem xs_setF1 {n:Nat} {w:List D->Rs (List D)} {es:List D} (h:fs ρ=.ok ds) (hl:ds.length=n) (h2:w ds=.ok es):rSetF i n w fs ρ=.nx (ρ.set i (.ow es)):=by
  unfold rSetF;rw [h];show (if _ then _ else _)=_;rw [if_pos hl,h2]
theorem xs_next1 {q r':D} {z0:Sl} {es:List D} {n:Int} {m:Nat} (h:fa ρ=.ok (.tup [q,r'])) (h0:ρ[i]?=some z0) (l0:lent z0=some es) (hk:fb ρ=.ok (.int n)) (hm:ixN es.length n=some m):rNext i j fa fb ρ=.nx ((ρ.set i (relent z0 (es.set m q))).set j (.fz r')):=by
  unfold rNext
  rw [h]
  show (match ρ[i]? with
    | some z=>(match lent z with
      | some ds=>oR (fb ρ) ρ fun k=>(match k with
        | .int k=>(match ixN ds.length k with|some m=>.nx ((ρ.set i (relent z (ds.set m q))).set j (.fz r'))|none=>.no)
        | _=>.no)
      | none=>.no)
    | none=>.no)=_
  rw [h0]
  dsimp only
  rw [l0]
  dsimp only
  rw [hk]
  show (match ixN es.length n with|some m=>Ou.nx _|none=>.no)=_
  rw [hm]
theorem v_sortD {kvs:List (List Int×D)} (h0:ρ[j]?=some (.od kvs)) (hl:kvs.length < 4900) (hp:∀ x∈kvs.map (·.1),Pair x):gSortD j ρ=.ok (.lst ((sortK (kvs.map (·.1))).map tupK)):=by
  unfold gSortD
  rw [h0]
  show (if _ then _ else _)=_
  rw [if_pos ⟨hl,fun p hp'=>(hp p.1 (List.mem_map_of_mem hp')).ne⟩]
theorem v_ixO {z0:Sl} {es:List D} (h0:ρ[j]?=some z0) (l0:lent z0=some es) (hb:fb ρ=.ok y) (h:gIx (.lst es) y=.ok d):gIxO j fb ρ=.ok d:=by
  unfold gIxO;rw [h0];dsimp only;rw [l0];dsimp only;rw [hb];exact h
end
end Vl
namespace Vl
open PySem PySem.Spec PySem.Calls PySem.W L2
noncomputable abbrev KL:=List (List Int)
theorem t2 (a b:D):gTup [a,b]=.ok (.tup [a,b]):=v_tup (by simp)
theorem keyD_tupK (ks:List Int):keyD (tupK ks)=some ks:=by
  show intsDc (ks.map D.int)=some ks
  induction ks with
  | nil=>rfl
  | cons k ks ih=>rw [List.map_cons];show (intsDc (ks.map D.int)).map _=_;rw [ih];rfl
theorem get_isSome (kvs:List (List Int×D)) (x:List Int):(getD' kvs x).isSome=decide (x∈kvs.map (·.1)):=by
  induction kvs with
  | nil=>rfl
  | cons p kvs ih =>
    unfold getD' at ih ⊢
    rw [List.find?_cons,List.map_cons]
    by_cases h:p.1=x
    . simp [h]
    . have h':¬ x=p.1:=fun z=>h z.symm
      simp only [h,decide_false]
      rw [ih]
      simp [h']
theorem put_keys (kvs:List (List Int×D)) (ks x:List Int) (d:D):x∈(putD kvs ks d).map (·.1)↔x=ks∨x∈kvs.map (·.1):=by
  unfold putD
  split
  . rename_i c
    rw [get_isSome] at c
    have hk:=of_decide_eq_true c
    have e:(kvs.map fun p=>if p.1=ks then (p.1,d) else p).map (·.1)=kvs.map (·.1):=by
      rw [List.map_map]
      refine List.map_congr_left fun p _=>?_
      show (if p.1=ks then (p.1,d) else p).1=p.1
      split <;> rfl
    rw [e]
    exact ⟨.inr,fun h=>h.elim (fun z=>z▸hk) id⟩
  . rw [List.map_append,List.mem_append]
    simp [or_comm]
theorem put_len (kvs:List (List Int×D)) (ks:List Int) (d:D):(putD kvs ks d).length<=kvs.length + 1:=by
  unfold putD
  split
  . rw [List.length_map];lia
  . simp
noncomputable def GK (kvs:List (List Int×D)):Prop:=∀ x∈kvs.map (·.1),Pair x
structure GN (kvs:List (List Int×D)):Prop where
  pr:GK kvs
  nd:(kvs.map (·.1)).Nodup
theorem GN.put {kvs:List (List Int×D)} (h:GN kvs) (x y:Int) (d:D):GN (putD kvs [x,y] d):=by
  refine ⟨fun z hz=>?_,?_⟩
  . rcases (put_keys kvs [x,y] z d).mp hz with rfl|h'
    . exact ⟨x,y,rfl⟩
    . exact h.pr z h'
  . unfold putD
    split
    . have e:(kvs.map fun p=>if p.1=[x,y] then (p.1,d) else p).map (·.1)=kvs.map (·.1):=by
        rw [List.map_map]
        refine List.map_congr_left fun p _=>?_
        show (if p.1=[x,y] then (p.1,d) else p).1=p.1
        split <;> rfl
      rw [e];exact h.nd
    . rename_i c
      rw [List.map_append,List.nodup_append]
      refine ⟨h.nd,by simp,fun a ha b hb=>?_⟩
      simp only [List.map_cons,List.map_nil,List.mem_singleton] at hb
      subst hb
      rintro rfl
      rw [get_isSome] at c
      exact c (decide_eq_true ha)
theorem GN.nil:GN []:=⟨fun _ h=>(by cases h),List.nodup_nil⟩
theorem ix_tup (p:List Int) (i:Int) (j:Nat) (hi:i=j) (hj:j < p.length):gIx (tupK p) (.int i)=.ok (.int (p.getD j 0)):=by
  subst hi
  show gIx (.tup (p.map D.int)) (.int j)=_
  rw [x_ixT]
  unfold atI ixN
  rw [if_pos (by lia),if_pos (by rw [List.length_map];lia)]
  simp only [Int.toNat_natCast,Option.bind_some,List.getElem?_map,List.getElem?_eq_getElem hj,Option.map_some,List.getD_eq_getElem?_getD,Option.getD_some]
noncomputable def had (A:KL) (b:Bool) (x:List Int):Bool:=decide (x∈A) != b
end Vl
namespace Vl
open PySem PySem.Spec PySem.Calls PySem.W L2
section
variable {X:Cx} {K:PySem.W.Frag} {B:Bs} {W:Wi} {σ:St} {G H:Hp} {ρ:Rho}
section
variable {a b:Expr} {pos:Pos} {fa fb:Rho->Rs D}
end
end
end Vl
namespace L2
open PySem PySem.Spec PyProof.Rows
section
variable {X:Cx} {tg:Expr}
end
end L2
namespace Vl
open PySem PySem.Spec L2
section
variable {X:Cx} {B:Bs} {W:Wi} {tg:Expr}
end
end Vl
namespace Vl
open PySem PySem.Spec PySem.Calls PySem.W L2
section
variable {X:Cx} {pins:List (Addr×Obj)} {σ:St} {H:Hp} {s:Shared}
end
end Vl
namespace Vl
open PySem PySem.Spec PySem.Calls PySem.W L2
section
variable {X:Cx} {pins:List (Addr×Obj)} {σ:St}
end
end Vl
namespace Vl
open PySem PySem.Spec PySem.Calls PySem.W L2
section
variable {X:Cx} {pins:List (Addr×Obj)} {σ:St}
end
end Vl
namespace Vl
open PySem PySem.Spec PySem.Calls PySem.W L2
section
variable {X:Cx} {pins:List (Addr×Obj)} {σ:St} {H:Hp} {s:Shared}
structure Made (X:Cx) (pins:List (Addr×Obj)) (σ:St) (H:Hp) (P:Addr) (q:Str) (params:Arguments) (body:Expr) (sc:Scope) (f c':Addr) (pm ctv:Value) (H':Hp) (s':Shared):Prop where
  inv:Inv X pins σ H' s'
  hs:H'=H∨∃ a,H a=none/\H'=upd H a (.cod q)
  cod:H' c'=some (.cod q)
  obj:s'.heap.get? f=some (kla_obj "<lambda>" q params body sc (clOf sc X.env) pm c' ctv)
  fn:H' f=none
  ff:f∉frs X.stack
end
end Vl
namespace Vl
open PySem PySem.Spec PySem.Calls PySem.W L2
end Vl
namespace Vl
open PySem PySem.Spec PySem.Calls PySem.W L2
section
variable {X:Cx} {B:Bs} {W:Wi} {K:PySem.W.Frag}
end
end Vl
namespace Dk
open PySem PySem.Spec
section
variable {prog:Program} {w:World} {A:Around} {E:Value->Shared->Prop} {s:Shared} {es:Array DictEntry} {ep:Nat} {D:Addr}
end
end Dk
namespace Vl
open PySem PySem.Spec PySem.Calls PySem.W L2
section
variable {X:Cx} {B:Bs} {W:Wi} {K:PySem.W.Frag}
end
end Vl
namespace Vl
open PySem PySem.Spec PySem.Calls PySem.W L2
structure FunL (K:PySem.W.Frag) (x:Str) (st:Stmt) (f:Addr) (fd:FuncData) (c P:Addr) (q:Str):Prop where
  ex:∃ (oc:Value) (od:Option Addr) (kV doc pm:Value) (an:Option Addr) (ct:Value) (osl:Array (Option Value)),
    fd=PySem.W.fnOf x x (defArgs st) (defBody st) (defScope st) .none kV doc pm an (.ref c) ct/\K.lookup f=some ⟨oc,od,.func fd,osl⟩/\PySem.W.codeIn K (.ref c) x=true
  kp:PySem.W.keepIn K (.ref f)=true
  hd:codeHdIn K c P=true
  mem:(P,q)∈lamT K
section
variable {P:Program} {w:World} {K:PySem.W.Frag} {mg:Str->Option Value} {base:Heap}
end
end Vl
namespace Vl
open PySem PySem.Spec L2 So Tb
noncomputable def turnK (t:Int) (ks:List Int):List Int :=
  let r:=ks.getD 0 0;let c:=ks.getD 1 0
  if t=0 then [r,c] else if t=1 then [c,-r] else if t=2 then [-r,-c] else if t=3 then [-c,r] else if t=4 then [r,-c] else if t=5 then [-c,-r] else if t=6 then [-r,c] else [c,r]
noncomputable def turned (t:Int) (l:List (List Int)):List (List Int):=sortK (l.map (turnK t))
end Vl
namespace Vl
open PySem PySem.Spec PySem.Calls PySem.W L2 So Tb
noncomputable abbrev c0 (a:List Int):Int:=a.getD 0 0
noncomputable abbrev c1 (a:List Int):Int:=a.getD 1 0
noncomputable def ltP (a b:List Int):Prop:=c0 a < c0 b∨(c0 a=c0 b/\c1 a < c1 b)
theorem pair_eta {a:List Int} (h:Pair a):a=[c0 a,c1 a]:=by obtain ⟨x,y,rfl⟩:=h;rfl
theorem pair_ext {a b:List Int} (ha:Pair a) (hb:Pair b) (h0:c0 a=c0 b) (h1:c1 a=c1 b):a=b:=by rw [pair_eta ha,pair_eta hb,h0,h1]
theorem ltP_irr {a:List Int} (h:ltP a a):False:=by unfold ltP at h;lia
theorem ltP_tr {a b c:List Int} (h:ltP a b) (k:ltP b c):ltP a c:=by unfold ltP at *;lia
theorem ltK_pair {a b:List Int} (ha:Pair a) (hb:Pair b):ltK a b=true↔ltP a b:=by
  obtain ⟨x,y,rfl⟩:=ha
  obtain ⟨z,w,rfl⟩:=hb
  unfold ltP
  show _↔x < z∨(x=z/\y < w)
  simp only [ltK]
  by_cases h:x=z
  . subst h
    by_cases k:y=w
    . subst k;simp
    . simp [k]
  . simp [h]
structure Asc (L:KL):Prop where
  pr:∀ x∈L,Pair x
  pw:L.Pairwise ltP
theorem Asc.nd {L:KL} (h:Asc L):L.Nodup:=h.pw.imp fun {a b} z e=>by subst e;exact ltP_irr z
theorem Asc.le {L:KL} (h:Asc L):L.Pairwise leK:=by
  have:L.Pairwise fun a b=>Pair a/\Pair b/\ltP a b:=by
    refine List.Pairwise.imp_of_mem (fun {a b} ha hb z=>⟨h.pr a ha,h.pr b hb,z⟩) h.pw
  refine this.imp fun {a b} hq9=>?_
  obtain ⟨pa,pb,z⟩:=hq9
  unfold leK
  cases e:ltK b a with
  | false=>rfl
  | true=>exact (ltP_irr (ltP_tr z ((ltK_pair pb pa).mp e))).elim
theorem Asc.of {L:KL} (pr:∀ x∈L,Pair x) (nd:L.Nodup) (pw:L.Pairwise leK):Asc L:=by
  refine ⟨pr,?_⟩
  have:L.Pairwise fun a b=>a≠b/\leK a b:=(List.pairwise_and_iff.mpr ⟨nd,pw⟩)
  refine List.Pairwise.imp_of_mem (fun {a b} ha hb ⟨ne,z⟩=>?_) this
  have pa:=pr a ha
  have pb:=pr b hb
  by_cases c:ltP a b
  . exact c
  . exfalso
    have nlt:¬ ltP b a:=fun w=>by
      have:=(ltK_pair pb pa).mpr w
      unfold leK at z
      rw [z] at this;cases this
    unfold ltP at c nlt
    exact ne (pair_ext pa pb (by lia) (by lia))
theorem Asc.sort {L:KL} (pr:∀ x∈L,Pair x) (nd:L.Nodup):Asc (sortK L):=.of (fun x hx=>pr x (sortK_mem.mp hx)) ((sortK_perm L).nodup_iff.mpr nd) (sortK_pw L)
theorem Asc.rise {L:KL} (pr:∀ x∈L,Pair x):Asc (rise L):=.sort (fun x hx=>pr x (insAll_mem.mp hx)) (insAll_nd L)
theorem Asc.ext {L M:KL} (hL:Asc L) (hM:Asc M) (h:∀ x,x∈L↔x∈M):L=M:=sort_uniq ((List.perm_ext_iff_of_nodup hL.nd hM.nd).mpr h) hL.le hM.le
noncomputable def go (st c:List Int) (j:Nat):List Int:=[c0 c + j * c0 st,c1 c + j * c1 st]
noncomputable def Up (st:List Int):Prop:=ltP [0,0] st
end Vl
namespace Vl
open PySem PySem.Spec PySem.Calls PySem.W L2
end Vl
namespace L2
open PySem PySem.Spec PyProof.Rows Vl
section
variable {X:Cx} {tg:Expr}
end
end L2
namespace Vl
open PySem PySem.Spec L2 So Tb
section
variable {X:Cx} {B:Bs} {W:Wi} {tg:Expr} {K:PySem.W.Frag}
end
end Vl
namespace Vl
open PySem PySem.Spec PySem.Calls PySem.W L2 So
structure Km (kvs:List (List Int×D)) (n:Nat) (M:List Int->Prop):Prop where
  gn:GN kvs
  le:kvs.length<=n
  iff:∀ k,k∈kvs.map (·.1)↔M k
theorem v_andV {fa fb:Rho->Rs D} {ρ:Rho} {r:Rs D} (h:fa ρ=.ok (.bl true)) (h2:fb ρ=r):fAndV fa fb ρ=r:=by unfold fAndV;rw [h];exact h2
theorem s_forI {h:Tg} {g:Rho->Ou} {f:Rho->Rs (List D)} {ρ:Rho} {ds:List D} {r:Ou} (h1:f ρ=.ok ds) (h2:forD h g ds ρ=r):gForI h g f ρ=r:=by unfold gForI;rw [h1];exact h2
end Vl
namespace Vl
open PySem PySem.Spec PySem.Calls PySem.W L2
noncomputable def scB (N P:List Str) (sc:Scope):Bool:=decide (sc.kind=.function) && !sc.isCoroutine && !sc.isGenerator && decide N.Nodup && decide (N.take P.length=P) && P.all (fun x=>sc.names.lookup x == some .local || sc.names.lookup x == some .cell) && sc.names.all (fun y=>y.2 != .free)
theorem scp {N P:List Str} {sc:Scope} (h:scB N P sc=true):FnScope N P sc:=by
  unfold scB at h
  simp only [Bool.and_eq_true,decide_eq_true_eq,List.all_eq_true,bne_iff_ne,Bool.or_eq_true,beq_iff_eq,ne_eq,Bool.not_eq_true'] at h
  obtain ⟨⟨⟨⟨⟨⟨h1,h2⟩,h3⟩,h4⟩,h5⟩,h6⟩,h7⟩:=h
  exact ⟨h1,h2,h3,h4,h5,h6,h7⟩
section
variable {P:Program} {w:World} {K:Frag} {mg:Str->Option Value} {base:Heap} {x:Str} {st:Stmt} {N ps:List Str} {k n:Nat} {g:Rho->Ou}
noncomputable abbrev Ent (K:Frag) (mg:Str->Option Value) (x:Str) (st:Stmt):Prop:=∃ f fd,Fun K x x st f fd/\mg x=some (.ref f)
noncomputable def Dn (K:Frag) (x:Str) (st:Stmt):Prop:=∃ (f:Addr) (oc:Value) (od:Option Addr) (sl:Array (Option Value)) (kV dc pm:Value) (an:Option Addr) (cd ct:Value),
  nsIn K mainGlobals x=some (some (.ref f))/\K.lookup f=some ⟨oc,od,.func (fnOf x x (defArgs st) (defBody st) (defScope st) .none kV dc pm an cd ct),sl⟩/\codeIn K cd x=true/\keepIn K (.ref f)=true
theorem Dn.ent {h:Heap} (a:Dn K x st) (X:K.In h) (G:h.Ns mainGlobals mg):Ent K mg x st:=by
  obtain ⟨f,oc,od,sl,kV,dc,pm,an,cd,ct,a,l,d,k⟩:=a
  exact ⟨f,_,fun_mk (st:=st) l d k,mg_of X G a⟩
noncomputable abbrev Hb (P:Program) (w:World) (K:Frag) (mg:Str->Option Value) (base:Heap) (N:List Str) (x:Str) (st:Stmt) (k:Nat) (g:Rho->Ou):Prop :=
  ∀ (f:Addr) (cdv:Value) (A:Around) (outer:List Env) (s:Shared) (H:Hp) (E:XK) (B:Bs),Room k (A.deeper (PyProof.Rows.envOfC x (defScope st) s.heap.objs.size f cdv)) ->
    PassC (cxOf (CXv P w K) P w K mg base N x (defScope st) f cdv A outer s H E) (fun c n _ H'=>E (enc c n) none H') ->
    SSs (cxOf (CXv P w K) P w K mg base N x (defScope st) f cdv A outer s H E) B (fun c n _ H'=>E (enc c n) none H') (defBody st) g
noncomputable abbrev Bi (x:Str) (st:Stmt) (ps:List Str):Prop:=∀ (kV doc pm:Value) (an:Option Addr) (cdv ct:Value) (us:List Value),us.length=ps.length->bindArgs (fnOf x x (defArgs st) (defBody st) (defScope st) .none kV doc pm an cdv ct) ⟨us,[]⟩=pure (ps.zip us)
theorem okd_o (F:Ent K mg x st) (S:FnScope N ps (defScope st)) (hb:Hb P w K mg base N x st k g) (hbi:Bi x st ps:=by intro _ _ _ _ _ _ us hl;rcases us with _|⟨_,_|⟨_,_|⟨_,_|⟨_,_|⟨_,us⟩⟩⟩⟩⟩ <;> first|rfl|(simp only [List.length_cons,List.length_nil] at hl;lia)) :
    Okd P w K mg base x (k + 1) ps.length (fun ds=>fin (g (startR N ds))):=let ⟨f,_,F,hm⟩:=F;okd_of F hm S hbi (hb f)
theorem okm_o (F:Ent K mg x st) (S:FnScope N ps (defScope st)) (hb:Hb P w K mg base N x st k g) (hbi:Bi x st ps:=by intro _ _ _ _ _ _ us hl;rcases us with _|⟨_,_|⟨_,_|⟨_,_|⟨_,_|⟨_,us⟩⟩⟩⟩⟩ <;> first|rfl|(simp only [List.length_cons,List.length_nil] at hl;lia)) (hn:ps.length=n + 1:=by rfl) :
    Okm P w K mg base x (k + 1) n (fun es ds=>finM (g (startM N es ds))):=let ⟨f,_,F,hm⟩:=F;okm_of F hm S hbi (hb f) hn
theorem okf_o (F:Ent K mg x st) (S:FnScope N ps (defScope st)) (hb:Hb P w K mg base N x st k g) (hbi:Bi x st ps:=by intro _ _ _ _ _ _ us hl;rcases us with _|⟨_,_|⟨_,_|⟨_,_|⟨_,_|⟨_,us⟩⟩⟩⟩⟩ <;> first|rfl|(simp only [List.length_cons,List.length_nil] at hl;lia)) :
    Okf P w K mg base x (k + 1) ps.length (fun ds=>finF (g (startR N ds))):=let ⟨f,_,F,hm⟩:=F;okf_of F hm S hbi (hb f)
end
end Vl
namespace Vl
open PySem PySem.Spec PySem.Calls PySem.W L2
theorem Dn.mk {K:Frag} {x:Str} {st:Stmt} {f:Addr} {oc:Value} {od:Option Addr} {sl:Array (Option Value)} {kV dc pm:Value} {an:Option Addr} {cd ct:Value} (a:nsIn K mainGlobals x=some (some (.ref f))) (b:K.lookup f=some ⟨oc,od,.func (fnOf x x (defArgs st) (defBody st) (defScope st) .none kV dc pm an cd ct),sl⟩) (c:codeIn K cd x=true) (d:keepIn K (.ref f)=true):Dn K x st:=⟨f,oc,od,sl,kV,dc,pm,an,cd,ct,a,b,c,d⟩
end Vl
namespace Vl
open PySem PySem.Spec L2 So Tb
section
variable {X:Cx} {B:Bs} {W:Wi} {K:PySem.W.Frag}
noncomputable def asS:D->Rs (List D)
  | .lst ds=>.ok ds
  | .tup ds=>.ok ds
  | _=>.no
theorem ri_seq {tg iter:Expr} {f:Rho->Rs D} (hi:SE X B W iter f):SI X B W tg iter (fL f asS):=fun pins s σ H R I h=>by
  obtain ⟨ρ,G,sr,p⟩:=h
  have key:fL f asS ρ=fL f asL ρ∨fL f asS ρ=fL f asT ρ:=by
    unfold fL
    cases f ρ with
    | ok d=>cases d <;> first|exact .inl rfl|exact .inr rfl
    | _=>exact .inl rfl
  rcases key with e|e
  . rw [e] at p;exact ri_list hi pins s σ H R I ⟨ρ,G,sr,p⟩
  . rw [e] at p;exact ri_tup hi pins s σ H R I ⟨ρ,G,sr,p⟩
end
end Vl
namespace Vl
open PySem PySem.Spec PySem.Calls PySem.W L2
section
variable {prog:Program} {w:World} {A:Around} {E:Value->Shared->Prop} {h:Heap} {g:Array GenState} {d:Drawn} {t:Nat} {os:OsState}
variable {nm q:Str} {C N:Addr} {bs bm bmB:List Value} {hdct:Bool} {sn:List Str} {sub:List Value} {ab:Bool} {col:Option Bool} {dd:Option Addr} {k0 k1 k2 k3 k5:Option Value} {Bb Bn newId nid initId inN:String} {bmN:List Value}
noncomputable def xmro (C M:Addr):List Value:=[.ref C,.ref M,.type "ValueError",.type "Exception",.type "BaseException",.type "object"]
structure Xik (K:Frag) (C M:Addr) (nm:Str):Prop where
  cls:∃ cd,clsIn K C=some cd/\cd.mro=xmro C M/\cd.hasDict=true
  ob:mroIn K C (.type "object")=some true
  be:mroIn K C (.type "BaseException")=some true
  sa:findIn K (.ref C) "__setattr__"=some (some (.builtin "object.__setattr__"))
  no:findIn K (.ref C) nm=some none
  ga:findIn K (.ref C) "__getattribute__"=some (some (.builtin "BaseException.__getattribute__"))
  gh:findIn K (.ref C) "__getattr__"=some none
end
end Vl
namespace Vl
open PySem PySem.Spec PySem.Calls PySem.W L2
section
variable {X:Cx} {pins:List (Addr×Obj)} {σ:St} {H:Hp} {s:Shared}
end
end Vl
namespace Vl
open PySem PySem.Spec PySem.Calls PySem.W L2
section
variable {X:Cx} {pins:List (Addr×Obj)} {σ:St} {H:Hp} {s:Shared}
end
section
variable {P:Program} {w:World} {K:PySem.W.Frag} {mg:Str->Option Value} {base:Heap}
end
end Vl
namespace Vl
open PySem PySem.Spec PySem.Calls PySem.W L2
section
variable {X:Cx} {B:Bs} {W:Wi} {pins:List (Addr×Obj)} {σ:St} {H:Hp} {s:Shared} {C f:Addr} {fd:FuncData} {a:Str} {newId:String}
end
end Vl
namespace Vl
open PySem PySem.Spec PySem.Calls PySem.W L2
section
variable {M:Model} {A:Around} {E:Value->Shared->Prop} {env:Env}
variable {nm q:Str} {C N:Addr} {bs bm:List Value} {hdct:Bool} {sn:List Str} {sub:List Value} {ab:Bool} {col:Option Bool} {dd:Option Addr} {k0 k1 k2 k3 k5:Option Value} {newId:String}
end
section
variable {X:Cx} {B:Bs} {W:Wi} {C f:Addr} {fd:FuncData} {a:Str}
end
end Vl
namespace Vl
open PySem PySem.Spec PySem.Calls PySem.W L2
section
variable {X:Cx} {B:Bs} {W:Wi}
end
section
variable {P:Program} {w:World} {K:Frag} {mg:Str->Option Value} {base:Heap} {x:Str} {st:Stmt} {N ps:List Str} {k n:Nat} {g:Rho->Ou}
end
end Vl
namespace Vl
open PySem PySem.Spec L2
section
variable {X:Cx} {B:Bs} {W:Wi}
end
end Vl
namespace Vl
open PySem PySem.Spec PySem.Calls PySem.W L2
structure FunD2 (K:Frag) (x:Str) (st:Stmt) (f:Addr) (fd:FuncData) (ps:List Str) (b:Bool) (kn:Str):Prop extends FunD K x st f fd ps where
  bd:Binds K fd ps [.bool b]
  bk:∀ (s:Shared) (us:List Value) (z:Value),K.In s.heap->us.length + 1=ps.length->BindsTo s fd ⟨us,[(kn,z)]⟩ (ps.zip (us++[z]))
section
variable {X:Cx} {B:Bs} {W:Wi}
end
end Vl
namespace L2
open PySem PySem.Spec PyProof.Rows AutoSeq1
section
variable {X:Cx}
end
end L2
namespace Vl
open PySem PySem.Spec L2
section
variable {X:Cx} {B:Bs} {W:Wi} {K:PySem.W.Frag} {G:Hp}
end
end Vl
namespace Vl
open PySem PySem.Spec PySem.Calls PySem.W L2
section
variable {X:Cx} {B:Bs} {W:Wi}
end
end Vl
namespace Vl
open PySem PySem.Spec PySem.Calls PySem.W L2
section
variable {X:Cx} {B:Bs} {W:Wi}
end
section
variable {P:Program} {w:World} {K:PySem.W.Frag} {mg:Str->Option Value} {base:Heap}
end
section
variable {X:Cx} {B:Bs} {W:Wi}
end
end Vl
namespace Vl
open PySem PySem.Spec PySem.Calls PySem.W L2
section
variable {X:Cx} {B:Bs} {W:Wi}
end
end Vl
namespace Vl
open PySem PySem.Spec PySem.Calls PySem.W L2
section
variable {P:Program} {w:World} {K:PySem.W.Frag} {mg:Str->Option Value} {base:Heap}
end
section
variable {X:Cx} {B:Bs} {W:Wi}
end
end Vl
namespace Vl
open PySem PySem.Spec PySem.Calls PySem.W L2
section
variable {X:Cx} {K:PySem.W.Frag} {B:Bs} {W:Wi} {σ:St} {G H:Hp} {ρ:Rho} {a b:Expr} {pos:Pos} {fa fb:Rho->Rs D}
noncomputable def rRepL (K:PySem.W.Frag):R2:=fun x y H Q=>∃ l n xs,x=.ref l/\y=.int n/\SqL K H l xs/\n < 1000000/\-1000000 < n/\xs.length * n.toNat<=1000000/\∀ p,H p=none->Q (.ref p) (upd H p (.lst (List.replicate n.toNat xs).flatten))
theorem vals_rep {xs:List V} {us:List Value} (r:Vals xs us):∀ n:Nat,Vals (List.replicate n xs).flatten (List.replicate n us).flatten
  | 0=>.nil
  | n + 1=>by rw [List.replicate_succ,List.replicate_succ,List.flatten_cons,List.flatten_cons];exact r.append (vals_rep r n)
theorem reps_rep {ds:List D} {us:List V} (r:Reps K G ds us):∀ n:Nat,Reps K G (List.replicate n ds).flatten (List.replicate n us).flatten
  | 0=>reps_nil.mpr rfl
  | n + 1=>by rw [List.replicate_succ,List.replicate_succ,List.flatten_cons,List.flatten_cons];exact r.append (reps_rep r n)
theorem len_rep {α:Type} (xs:List α):∀ n:Nat,(List.replicate n xs).flatten.length=xs.length * n
  | 0=>rfl
  | n + 1=>by rw [List.replicate_succ,List.flatten_cons,List.length_append,len_rep xs n,Nat.mul_succ,Nat.add_comm]
open PyProof.Rows in
theorem op_repL:OpR X (binaryOp .Mult) (rRepL X.K):=by
  intro pins s σ H x y v u Q I rx ry h
  obtain ⟨l,n,xs,rfl,rfl,hH,h1,h2,hz,q⟩:=h
  cases rx
  obtain ⟨t,rfl⟩:=ry
  obtain ⟨vs,r,pl,_⟩:=I.list hH
  obtain ⟨⟨cls,dd,data,sl⟩,ho,hc,k,hd⟩:=pl.isList
  simp only at hc hd
  subst hc hd
  have l1:=r.length
  have hsz2:vs.length * n.toNat<=1000000:=by rw [<- l1];exact hz
  have hsz:vs.toArray.size * n.toNat<=1000000:=by simp only [List.size_toArray];rw [<- l1];exact hz
  refine wpAny_binaryOp_repeat_ref (T:="list") (U:="int") (by decide) ⟨_,ho,rfl⟩ (fun s'=>typeIs_int s' n t) noFill_list_mul PySem.F.fills_int_mul PySem.F.slot_int_rmul repeat_list PySem.F.slot_int_index.lookup
    (call_meets PySem.F.slot_int_rmul (typeIs_int s n t) PySem.F.entry_int_rmul (PySem.F.args_int_rmul_2 _ _) (lm_int_rmul_list_any n t l vs.toArray k dd sl)
      ⟨ho,rfl,⟨_,ho,rfl⟩,call_meets PySem.F.slot_list_mul ⟨_,ho,rfl⟩ PySem.F.entry_list_mul (PySem.F.args_list_mul_2 _ _)
        (lm_list_mul_any l vs.toArray k dd sl n t (by simp [Builtin.List.listFitsIndex];omega) (by omega) (by simp [Builtin.List.listTooLong,sizeLine];omega)) ⟨ho,?_⟩⟩)
  rw [listMul_foldl_if]
  exact ⟨.ref _,_,I.lnew (t':=s.toks) (vals_rep r n.toNat) (by rw [len_rep];exact sz6 hz),rfl,q _ I.fresh⟩
noncomputable def gRepL:D->D->Rs D
  | .lst ds,.int n=>if n < 1000000/\-1000000 < n/\ds.length * n.toNat<=1000000 then .ok (.lst (List.replicate n.toNat ds).flatten) else .no
  | _,_=>.no
theorem opd_repL:OpD K (rRepL K) gRepL:=by
  intro B W σ ρ G H x y v u Q s rx ry p
  cases x with
  | lst ds =>
    cases y with
    | int n =>
      simp only [gRepL] at p
      by_cases hl:n < 1000000/\-1000000 < n/\ds.length * n.toNat<=1000000
      . rw [if_pos hl] at p
        obtain ⟨a,vs,rfl,q,r⟩:=rep_lst.mp rx
        refine ⟨a,n,vs,rfl,rep_int.mp ry,s.en.gh.seq q,hl.1,hl.2.1,by rw [<- r.length];exact hl.2.2,fun c hc=>?_⟩
        have x:=ext_lst (xs:=(List.replicate n.toNat vs).flatten) s.en.gh s.en.tp hc
        exact p _ _ _ x (rep_lst.mpr ⟨c,_,rfl,.of upd_same,(reps_rep r n.toNat).mono x.gg⟩)
      . rw [if_neg hl] at p;exact p.elim
    | _=>exact p.elim
  | _=>cases y <;> exact p.elim
end
end Vl
namespace Vl
open PySem PySem.Spec PySem.Calls PySem.W L2
section
variable {X:Cx} {B:Bs} {W:Wi}
end
end Vl
namespace Vl
open PySem PySem.Spec PySem.Calls PySem.W L2
section
variable {X:Cx} {B:Bs} {W:Wi}
end
section
variable {X:Cx} {B:Bs} {W:Wi}
end
end Vl
namespace Vl
open PySem PySem.Spec PySem.Calls PySem.W L2
section
variable {X:Cx} {K:PySem.W.Frag} {B:Bs} {W:Wi}
end
end Vl
namespace Vl
open PySem PySem.Spec PySem.Calls PySem.W L2
section
variable {X:Cx} {B:Bs} {W:Wi}
end
end Vl
namespace Vl
open PySem PySem.Spec PySem.Calls PySem.W L2
section
variable {X:Cx} {B:Bs}
end
section
variable {X:Cx} {K:PySem.W.Frag} {B:Bs} {W:Wi} {a b:Expr} {pos:Pos} {fa fb:Rho->Rs D}
end
end Vl
namespace Vl
open PySem PySem.Spec L2
section
variable {X:Cx} {B:Bs} {W:Wi} {K:PySem.W.Frag}
variable {o e:Expr} {apos cpos:Pos} {fo fe:Rho->Rs D}
end
end Vl
namespace L2
open PySem PySem.Spec PyProof.Rows
section
variable {X:Cx} {tg:Expr}
end
end L2
namespace Vl
open PySem PySem.Spec PySem.Calls PySem.W L2
section
variable {X:Cx} {B:Bs} {W:Wi} {K:PySem.W.Frag} {σ:St} {G H:Hp} {ρ:Rho} {De:Ends}
end
end Vl
namespace Vl
open PySem PySem.Spec PySem.Calls PySem.W L2
section
variable {P:Program} {w:World} {K:Frag} {mg:Str->Option Value} {base:Heap} {x:Str} {st:Stmt} {N ps:List Str} {m:Nat}
end
end Vl
namespace Vl
open PySem PySem.Spec PySem.Calls PySem.W L2
section
variable {X:Cx} {B:Bs} {W:Wi} {K:PySem.W.Frag}
end
end Vl
namespace Vl
open PySem PySem.Spec PySem.Calls PySem.W L2 So Tb
section
variable {X:Cx} {B:Bs} {W:Wi} {K:PySem.W.Frag}
end
end Vl
namespace Vl
open PySem PySem.Spec PySem.Calls PySem.W L2
section
variable {P:Program} {w:World} {K:Frag} {mg:Str->Option Value} {base:Heap} {x:Str} {st:Stmt} {N ps:List Str} {k:Nat}
end
section
variable {X:Cx} {B:Bs} {W:Wi}
end
end Vl
namespace Vl
open PySem PySem.Spec PySem.Calls PySem.W L2
theorem scpK {N P:List Str} {sc:Scope} (h:scB N P sc=true:=by decide +kernel):FnScope N P sc:=scp h
section
variable {X:Cx} {B:Bs}
theorem sx_pF {e:Expr} {f:Rho->Rs D} (h:SE X B WF e f):SX X B e (xP f):=sx_p h
theorem stx_pF {e:Expr} {f:Rho->Rs Bool} (h:ST X B WF e f):STX X B e (xPT f):=stx_p h
theorem sax_pF {es:List Expr} {f:Rho->Rs (List D)} (h:SA X B WF es f):SAX X B es (xPA f):=sax_p h
end
section
variable {P:Program} {w:World} {K:Frag} {mg:Str->Option Value} {base:Heap}
end
end Vl
namespace L2
open PySem PySem.Spec PyProof.Rows Vl
structure FnOkM (P:Program) (w:World) (K:PySem.W.Frag) (mg:Str->Option Value) (base:Heap) (k:Nat) (f:Addr) (fd:FuncData) (ps:List Str) (sp:List V->Hp->VK->Prop):Prop where
  len:∀ vs H Q,sp vs H Q->vs.length=ps.length
  run:∀ (A:Around) (ea:Addr) (outer:List Env) (s:Shared) (H:Hp) (args:Args) (us:List Value) (vs:List V) (Q:VK),Room k A->Env0 P w K mg base A outer s H->BindsTo s fd args (ps.zip us)->Vals vs us->sp vs H Q ->
    codeAny (model P w) (A.mark (some (.ref ea))) (.call (.ref f) args) (CR (fun _ _ _ _ _ _=>False) outer P w H s Q fun _ _ _=>False) s
end L2
namespace Vl
open PySem PySem.Spec PySem.Calls PySem.W L2
section
variable {P:Program} {w:World} {K:Frag} {mg:Str->Option Value} {base:Heap} {x:Str} {st:Stmt} {N ps:List Str} {k:Nat} {g:Rho->Ou}
end
section
variable {X:Cx} {B:Bs} {ea:Addr}
end
end Vl
namespace Vl
open PySem PySem.Spec PySem.Calls PySem.W L2
section
variable {X:Cx} {B:Bs} {W:Wi} {G H:Hp}
theorem ext_pin (gh:Same G H) (tp:∀ a xs,H a=some (.tup xs)->G a=some (.tup xs)) {p:Addr} {φ:Heap->Prop} (hp:H p=none):Ext G H (upd G p (.ext φ)) (upd H p (.ext φ)) where
  gg:=fun b o e=>by rw [upd_ne (ne_of_none (gh _ _ e) hp)];exact e
  hh:=fun b o e=>by rw [upd_ne (ne_of_none e hp)];exact e
  gh:=fun b o e=>by
    by_cases q:b=p
    . subst q;rw [upd_same] at e ⊢;exact e
    . rw [upd_ne q] at e ⊢;exact gh _ _ e
  tp:=fun b ys e=>by
    by_cases q:b=p
    . subst q;rw [upd_same] at e;cases e
    . rw [upd_ne q] at e ⊢;exact tp _ _ e
  nw:=fun b o e n=>by rw [upd_ne (ne_of_none e hp)];exact n
theorem pinned {P:Program} {w:World} {H':Hp} {h:Heap} {d:Addr} {U:Addr->List Int->Prop} {kvv:List (List Int×V)} (z:ObjOk P w H' h d (.ext (DicH U d kvv))):∃ o,ObjOk P w H' h d (.ext fun h=>h.get? d=some o/\DicH U d kvv h):=by
  obtain ⟨hd,⟨o,ho⟩,hs⟩:=z
  exact ⟨o,⟨ho,hd⟩,⟨o,ho⟩,fun h1 h2 z k=>⟨k _ z.1,hs _ _ z.2 k⟩⟩
theorem se_dicE {pos:Pos}:SE X B W (.Dict [] [] pos) (fC (.dic [] [])):=by
  intro pins s σ H Q I ⟨ρ,G,sr,p⟩
  have far:sysModules≠s.heap.objs.size:=fun z=>by
    have lt:=(I.mod.glob.keeps I.bk).lt
    rw [<- z] at lt
    exact absurd lt (by decide)
  obtain ⟨o,ok⟩:=pinned (H':=upd H s.heap.objs.size (.ext (DicH (fun _ _=>False) s.heap.objs.size []))) (dic_put (P:=X.prog) (w:=X.w) (U:=fun _ _=>False) (kvv:=[]) (.new s.heap) (by simpa using Ne.symm far) .nil)
  refine wpAny_Dict_empty ⟨.ref s.heap.objs.size,_,I.laid (t':=s.toks) (fun b u e=>Heap.get?_push_of_some _ e) (Nat.le_refl _) (show ObjOk X.prog X.w _ _ _ (.ext fun h=>h.get? s.heap.objs.size=some o/\DicH (fun _ _=>False) s.heap.objs.size [] h) from ok),rfl,?_⟩
  have x:=ext_pin (φ:=fun h=>h.get? s.heap.objs.size=some o/\DicH (fun _ _=>False) s.heap.objs.size [] h) sr.en.gh sr.en.tp I.fresh
  exact p _ _ _ x (rep_dic.mpr ⟨_,fun _ _=>False,[],rfl,⟨o,upd_same⟩,fun _ _ z=>z.elim,rfl,reps_nil.mpr rfl⟩)
noncomputable def gDic1 (k v:D):Rs D:=match keyD k with|some ks=>.ok (.dic [ks] [v])|none=>.no
noncomputable def fDic1 (fk fv:Rho->Rs D):Rho->Rs D:=fun ρ=>(fk ρ).bind fun k=>(fv ρ).bind (gDic1 k)
theorem se_dic1 {k v:Expr} {pos:Pos} {fk fv:Rho->Rs D} (hu:X.A.units + 8 < cLine) (hk:SE X B W k fk) (hv:SE X B W v fv):SE X B W (.Dict [some k] [v] pos) (fDic1 fk fv):=by
  intro pins s σ H Q I ⟨ρ,G,sr,p⟩
  have far:sysModules≠s.heap.objs.size:=fun z=>by
    have lt:=(I.mod.glob.keeps I.bk).lt
    rw [<- z] at lt
    exact absurd lt (by decide)
  generalize hd:s.heap.objs.size=d at *
  have fr:H d=none:=by rw [<- hd];exact I.fresh
  have I1:Inv X pins σ (upd H d (.ext (DicH (fun _ _=>False) d []))) { s with heap:=s.heap.push { cls:=.type "dict",data:=.dict #[] } }:=by
    rw [<- hd]
    exact I.laid (t':=s.toks) (fun b u e=>Heap.get?_push_of_some _ e) (Nat.le_refl _) (dic_put (.new s.heap) (by rw [hd];simpa using Ne.symm far) .nil)
  refine wpAny_Dict_any rfl rfl (by simp) (by simp) ?_
  rw [hd]
  have x1:Ext G H G (upd H d (.ext (DicH (fun _ _=>False) d []))):=ext_extD sr.en.gh sr.en.tp fr
  have sr1:=sr.ext x1
  have p0:=Post.ext x1 p
  show wpAny _ _ (do let kv <- eval k X.env;let vv <- holding [kv] (do let x <- eval v X.env;standAt pos;pure x);return (kv,vv)::(<- holding [kv,vv] (pure []))) _ _ _
  unfold fDic1 at p0
  cases ek:fk ρ with
  | no=>rw [ek] at p0;exact p0.elim
  | ex c n =>
    rw [ek] at p0
    exact wpAny_bind (thn (hk pins _ σ _ (fun _ _=>False) I1 ⟨ρ,G,sr1,by rw [ek];exact p0⟩) fun _ _ ⟨_,_,_,_,z⟩=>z.elim)
  | ok kd =>
    rw [ek] at p0
    refine wpAny_bind (thn (hk pins _ σ _ (fun x H2=>∃ G2,Ext G (upd H d (.ext (DicH (fun _ _=>False) d []))) G2 H2/\Rep X.K G2 kd x) I1 ⟨ρ,G,sr1,by rw [ek];exact fun v H' G' e r=>⟨G',e,r⟩⟩) fun kv s2 ⟨x,H2,I2,r2,G2,e2,rp2⟩=>?_)
    have sr2:=sr1.ext e2
    have p1:Post X.K W σ G2 H2 ((fv ρ).bind (gDic1 kd)) Q:=Post.ext e2 p0
    cases ev:fv ρ with
    | no=>rw [ev] at p1;exact p1.elim
    | ex c n =>
      rw [ev] at p1
      exact wpAny_bind (wpAny_holding (wpAny_bind (thn (hv pins _ σ _ (fun _ _=>False) I2 ⟨ρ,G2,sr2,by rw [ev];exact p1⟩) fun _ _ ⟨_,_,_,_,z⟩=>z.elim)))
    | ok vd =>
      rw [ev] at p1
      refine wpAny_bind (wpAny_holding (wpAny_bind (thn (hv pins _ σ _ (fun u H3=>∃ G3,Ext G2 H2 G3 H3/\Rep X.K G3 vd u) I2 ⟨ρ,G2,sr2,by rw [ev];exact fun v H' G' e r=>⟨G',e,r⟩⟩) fun vv s3 ⟨u,H3,I3,r3,G3,e3,rp3⟩=>?_)))
      refine wpAny_bind (wpAny_standAt (wpAny_pure ?_))
      refine wpAny_bind (wpAny_holding (wpAny_pure (wpAny_pure ?_)))
      have p2:Post X.K W σ G3 H3 (gDic1 kd vd) Q:=Post.ext e3 p1
      unfold gDic1 at p2
      cases eq:keyD kd with
      | none=>rw [eq] at p2;exact p2.elim
      | some ks =>
        rw [eq] at p2
        have xa:Ext G (upd H d (.ext (DicH (fun _ _=>False) d []))) G3 H3:=e2.trans e3
        have gd:G d=none:=by
          cases z:G d with
          | none=>rfl
          | some o=>have:=sr.en.gh _ _ z;rw [fr] at this;cases this
        have hd3:H3 d=some (.ext (DicH (fun _ _=>False) d [])):=xa.hh _ _ upd_same
        have gd3:G3 d=none:=xa.nw d _ upd_same gd
        obtain ⟨b,ex,hb⟩:∃ b,x=.ref b/\UG X.K G3 b ks:=by
          cases kd with
          | tup ds =>
            obtain ⟨b,vs,rfl,q,r⟩:=rep_tup.mp (rp2.mono e3.gg)
            have:=ints_repDc r eq
            subst this
            exact ⟨b,rfl,q⟩
          | _=>cases eq
        subst ex
        cases r2
        obtain ⟨xs,hx,hs,hp,_⟩:=dic_of I3 (dicAt hd3) (fun b ks z=>z.elim)
        cases hp
        unfold storeAll
        rw [List.forIn_cons]
        refine wpAny_bind (wpAny_bind (wpAny_dictSet_heap (knd:=tupleKind (intKind X.prog X.w)) (show X.A.units < cLine by lia) (key_ofD I3 (Same.seqT e3.gh hb)) hx (fun h' hx' sb=>?_) (by simp [sizeLine_eq])))
        refine wpAny_pure ?_
        dsimp only
        rw [List.forIn_nil]
        refine wpAny_pure ?_
        have dp:DP (UG X.K G3) [(ks,u)] (storedH [] ks b vv):=put_pair (kvv:=[]) (xs:=[]) .nil hb r3
        have sys:(d == sysModules)=false:=hs
        obtain ⟨o,ok⟩:=pinned (H':=upd H3 d (.ext (DicH (UG X.K G3) d [(ks,u)]))) (dic_put (P:=X.prog) (w:=X.w) hx' sys dp)
        have ho:∃ u,h'.get? d=some u:=by obtain ⟨o,_,_,e,_⟩:=hx';exact ⟨o,e⟩
        have I4:=I3.write (x:=d) (e:=d) (t':=s3.toks + (tupleKind (intKind X.prog X.w)).draws ks) (h':=h') (o:=.ext fun h=>h.get? d=some o/\DicH (UG X.K G3) d [(ks,u)] h) (by rw [hd3];trivial) (.inl rfl) (fun b' u' ne e=>(sb.2 b' ne).symm▸e) ho ok
        refine ⟨.ref d,_,I4,rfl,?_⟩
        have gg:Same G3 (upd G3 d (.ext fun h=>h.get? d=some o/\DicH (UG X.K G3) d [(ks,u)] h)):=fun b' o' z=>by rw [upd_ne (ne_of_none z gd3)];exact z
        have bne:∀ {b':Addr} {o':HO},H b'=some o'->b'≠d:=fun {b' o'} z=>ne_of_none z fr
        have x4:Ext G H (upd G3 d (.ext fun h=>h.get? d=some o/\DicH (UG X.K G3) d [(ks,u)] h)) (upd H3 d (.ext fun h=>h.get? d=some o/\DicH (UG X.K G3) d [(ks,u)] h)) :=
          ⟨xa.gg.trans gg,fun b' o' z=>by rw [upd_ne (bne z)];exact xa.hh b' o' (by rw [upd_ne (bne z)];exact z),
            fun b' o' z=>by
              by_cases q:b'=d
              . subst q;rw [upd_same] at z ⊢;exact z
              . rw [upd_ne q] at z ⊢;exact xa.gh b' o' z,
            fun b' ys z=>by
              by_cases q:b'=d
              . subst q;rw [upd_same] at z;cases z
              . rw [upd_ne q] at z ⊢;exact xa.tp b' ys z,
            fun b' o' z n=>by rw [upd_ne (bne z)];exact xa.nw b' o' (by rw [upd_ne (bne z)];exact z) n⟩
        have p3:Post X.K W σ G H (.ok (.dic [ks] [vd])) Q:=by
          have e:fDic1 fk fv ρ=.ok (.dic [ks] [vd]):=by unfold fDic1;rw [ek];show (fv ρ).bind _=_;rw [ev];show gDic1 kd vd=_;unfold gDic1;rw [eq]
          rw [e] at p;exact p
        exact p3 _ _ _ x4 (rep_dic.mpr ⟨d,UG X.K G3,[(ks,u)],rfl,⟨o,upd_same⟩,fun b' js z=>Same.seqT gg z,rfl,reps_cons.mpr ⟨u,[],rfl,rp3.mono gg,reps_nil.mpr rfl⟩⟩)
end
end Vl
namespace Vl
open PySem PySem.Spec PySem.Calls PySem.W L2 Dk
section
variable {prog:Program} {w:World} {A:Around} {E:Value->Shared->Prop} {s:Shared}
theorem ne_of_pairs {d d2:Addr} {es es2:Array DictEntry} {ep ep2:Nat} {Q:Value->Shared->Prop} (hm:RawD s.heap d es ep) (hm2:RawD s.heap d2 es2 ep2) (hu:A.units < cLine) {r:Bool}
    (hp:∀ {A':Around} {R:Bool->Shared->Prop},A'.units=A.units + 1->R r s->wpAny (model prog w) A' (Builtin.Dict.samePairs "dict.__ne__" d d2) R E s)
    (h:Q (.bool (r == false)) s):wpAny (model prog w) A (compareOp .NotEq (.ref d) (.ref d2)) Q E s:=by
  obtain ⟨o,ho,hc,hdat⟩:=id hm
  obtain ⟨o2,ho2,hc2,hdat2⟩:=id hm2
  show wpAny _ _ (richCompare .NotEq (.ref d) (.ref d2)) _ _ _
  refine wpAny_richCompare_same_room (op:=.NotEq) (T:="dict") hm.ty hm2.ty F.slot_dict_ne (wpAny_call_entry F.slot_dict_ne hm.ty F.entry_dict_ne ?_ (F.args_dict_ne_2 _ _)) hu
  unfold Builtin.«dict.__ne__»
  show wpAny _ _ (Builtin.Dict.dictSlotArgs "__ne__" ⟨[.ref d,.ref d2],[]⟩ >>= _) _ _ _
  unfold Builtin.Dict.dictSlotArgs
  refine wpAny_bind (wpAny_bind (wpAny_notOrdered_dict hm.ty ?_))
  simp only [slotArgs,List.isEmpty_nil,Bool.not_true,Bool.false_eq_true,if_false,List.length_cons,List.length_nil,bne_self_eq_false]
  refine wpAny_bind (wpAny_pure (wpAny_pure ?_))
  refine wpAny_bind (wpAny_isInstance hm2.ty sub_dict_dict ?_)
  simp only [Bool.not_true,Bool.false_eq_true,if_false]
  refine wpAny_bind (wpAny_pure (wpAny_bind (wpAny_pure (wpAny_bind ?_))))
  refine hp (by rfl) ?_
  exact wpAny_pure ⟨_,rfl,by simp,h⟩
theorem pairs_nil {d d2:Addr} {ep ep2:Nat} {nm:String} {R:Bool->Shared->Prop} (hd:(d == sysModules)=false) (hd2:(d2 == sysModules)=false) (hm:RawD s.heap d #[] ep) (hm2:RawD s.heap d2 #[] ep2) (h:R true s):wpAny (model prog w) A (Builtin.Dict.samePairs nm d d2) R E s:=by
  obtain ⟨o,ho,hc,hdat⟩:=id hm
  obtain ⟨o2,ho2,hc2,hdat2⟩:=id hm2
  unfold Builtin.Dict.samePairs
  refine wpAny_bind (showsAll_at hd (wpAny_bind (showsAll_at hd2 (wpAny_bind (wpAny_dictEntries ho hdat (wpAny_bind (wpAny_dictEntries ho2 hdat2 ?_)))))))
  simp only [bne_self_eq_false,Bool.false_eq_true,if_false]
  refine wpAny_bind (wpAny_dictEpoch ho hdat ?_)
  refine wpAny_bind ?_
  rw [Std.Legacy.Range.forIn_eq_forIn_range']
  refine wpAny_pure ?_
  exact wpAny_pure h
theorem pairs_one {d d2 b1 b2:Addr} {ks:List Int} {t:Bool} {ep ep2:Nat} {nm:String} {R:Bool->Shared->Prop} (hd:(d == sysModules)=false) (hd2:(d2 == sysModules)=false) (hu:A.units < cLine) (hm:RawD s.heap d #[⟨keyHash ks,.ref b1,.bool t⟩] ep) (hm2:RawD s.heap d2 #[⟨keyHash ks,.ref b2,.bool t⟩] ep2)
    (k1:IsTupleKey (intKind prog w) s.heap ks b1) (k2:IsTupleKey (intKind prog w) s.heap ks b2) (h:R true s):wpAny (model prog w) A (Builtin.Dict.samePairs nm d d2) R E s:=by
  obtain ⟨o,ho,hc,hdat⟩:=id hm
  obtain ⟨o2,ho2,hc2,hdat2⟩:=id hm2
  unfold Builtin.Dict.samePairs
  refine wpAny_bind (showsAll_at hd (wpAny_bind (showsAll_at hd2 (wpAny_bind (wpAny_dictEntries ho hdat (wpAny_bind (wpAny_dictEntries ho2 hdat2 ?_)))))))
  simp only [List.size_toArray,bne_self_eq_false,Bool.false_eq_true,if_false]
  refine wpAny_bind (wpAny_dictEpoch ho hdat ?_)
  refine wpAny_bind ?_
  rw [Std.Legacy.Range.forIn_eq_forIn_range']
  have er:∀ x:DictEntry,List.range' [:[x].length].start [:[x].length].size [:[x].length].step=[0]:=fun x=>by simp [Std.Legacy.Range.size]
  rw [er,List.forIn_cons]
  refine wpAny_bind (wpAny_bind (wpAny_dictEntries ho hdat ?_))
  simp only [List.getElem?_toArray,List.getElem?_cons_zero]
  refine wpAny_bind (wpAny_holding ?_)
  refine wpAny_bind (wpAny_dictFind_heap (knd:=tupleKind (intKind prog w)) (xs:=[(ks,b2,.bool t)]) hu k1 ho2 hdat2 rfl (fun x hx=>by rw [List.mem_singleton.mp hx];exact k2) (by simp) (fun z=>absurd rfl (z 0 (b2,.bool t))) fun j p hj=>?_)
  have j0:j=0:=by
    cases j with
    | zero=>rfl
    | succ j=>cases hj
  subst j0
  simp only
  refine wpAny_bind (wpAny_dictEntries ho2 hdat2 ?_)
  simp only [List.getElem?_toArray,List.getElem?_cons_zero]
  refine wpAny_holding (SeqAt.EqAt.bool_bool t t prog w _ _ ?_)
  simp only [beq_self_eq_true,Bool.not_true,Bool.false_eq_true,if_false]
  refine wpAny_bind (wpAny_dictEpoch ho hdat ?_)
  simp only [bne_self_eq_false,Bool.false_eq_true,if_false]
  refine wpAny_pure ?_
  dsimp only
  rw [List.forIn_nil]
  refine wpAny_pure ?_
  exact wpAny_pure h
end
end Vl
namespace Vl
open PySem PySem.Spec PySem.Calls PySem.W L2 Dk
section
variable {X:Cx} {B:Bs} {W:Wi}
noncomputable def rNeDic (K:PySem.W.Frag):R2:=fun x y H Q=>∃ (a b:Addr) (U U':Addr->List Int->Prop) (kvv kvv':List (List Int×V)),x=.ref a/\y=.ref b/\DicAt H a U kvv/\DicAt H b U' kvv'/\(∀ b ks,U b ks->UG K H b ks)/\(∀ b ks,U' b ks->UG K H b ks)/\((kvv=[]/\kvv'=[])∨∃ ks t,kvv=[(ks,.bl t)]/\kvv'=[(ks,.bl t)])/\Q (.bl false) H
theorem op_neDic (hu:X.A.units + 8 < cLine):OpR X (compareOp .NotEq) (rNeDic X.K):=by
  intro pins s σ H x y v u Q I rx ry ⟨a,b,U,U',kvv,kvv',ex,ey,h1,h2,u1,u2,hc,q⟩
  subst ex ey
  cases rx
  cases ry
  obtain ⟨φ1,hd1,hφ1⟩:=h1
  obtain ⟨φ2,hd2,hφ2⟩:=h2
  obtain ⟨o,es,ep,xs,a1,a2,a3,a4,a5,a6,a7⟩:=hφ1 _ (I.hok a _ hd1).1
  obtain ⟨o2,es2,ep2,xs2,b1,b2,b3,b4,b5,b6,b7⟩:=hφ2 _ (I.hok b _ hd2).1
  refine ne_of_pairs (r:=true) ⟨o,a1,a2,a3⟩ ⟨o2,b1,b2,b3⟩ (by lia) (fun {A' R} hA hR=>?_) ⟨.bl _,H,I,rfl,q⟩
  rcases hc with ⟨rfl,rfl⟩|⟨ks,t,rfl,rfl⟩
  . cases a7;cases b7
    have e1:es=#[]:=by apply Array.ext';simpa using a5
    have e2:es2=#[]:=by apply Array.ext';simpa using b5
    subst e1 e2
    exact pairs_nil a4 b4 ⟨o,a1,a2,a3⟩ ⟨o2,b1,b2,b3⟩ hR
  . cases a7 with
    | cons r1 t1 =>
      cases t1
      cases b7 with
      | cons r2 t2 =>
        cases t2
        rename_i p1 p2
        obtain ⟨k1,c1,v1⟩:=p1
        obtain ⟨k2,c2,v2⟩:=p2
        obtain ⟨rfl,w1,z1⟩:=r1
        obtain ⟨rfl,w2,z2⟩:=r2
        cases z1;cases z2
        have e1:es=#[⟨keyHash ks,.ref c1,.bool t⟩]:=by apply Array.ext';simpa using a5
        have e2:es2=#[⟨keyHash ks,.ref c2,.bool t⟩]:=by apply Array.ext';simpa using b5
        subst e1 e2
        exact pairs_one a4 b4 (by rw [hA];lia) ⟨o,a1,a2,a3⟩ ⟨o2,b1,b2,b3⟩ (key_ofD I (u1 _ _ w1)) (key_ofD I (u2 _ _ w2)) hR
noncomputable def gNeA:D->D->Rs D
  | .dic ks ds,.dic ks' ds'=>(match ks,ds,ks',ds' with
    | [],[],[],[]=>.ok (.bl false)
    | [k],[.bl t],[k'],[.bl t']=>if k=k'/\t=t' then .ok (.bl false) else .no
    | _,_,_,_=>.no)
  | x,y=>gNe x y
theorem opd_neA:OpD X.K (fun x y H Q=>rNeD X.K 8 x y H Q∨rNeDic X.K x y H Q) gNeA:=by
  intro B W σ ρ G H x y v u Q s rx ry p
  have gen:gNeA x y=gNe x y->(rNeD X.K 8 v u H Q∨rNeDic X.K v u H Q):=fun e=>.inl (opd_ne B W σ ρ G H x y v u Q s rx ry (by rw [<- e];exact p))
  cases x with
  | dic ks ds =>
    cases y with
    | dic ks' ds' =>
      refine .inr ?_
      obtain ⟨a,U,kvv,rfl,p1,u1,k1,r1⟩:=rep_dic.mp rx
      obtain ⟨b,U',kvv',rfl,p2,u2,k2,r2⟩:=rep_dic.mp ry
      have mo:∀ {U:Addr->List Int->Prop},(∀ b js,U b js->UG X.K G b js)->∀ b js,U b js->UG X.K H b js:=fun h b js z=>Same.seqT s.en.gh (h b js z)
      have hp1:DicAt H a U kvv:=(p1.mono s.en.gh).at
      have hp2:DicAt H b U' kvv':=(p2.mono s.en.gh).at
      unfold gNeA at p
      dsimp only at p
      split at p
      . have e1:kvv=[]:=by simpa using k1
        have e2:kvv'=[]:=by simpa using k2
        exact ⟨a,b,U,U',kvv,kvv',rfl,rfl,hp1,hp2,mo u1,mo u2,.inl ⟨e1,e2⟩,Post.ok s p (rep_bl.mpr rfl)⟩
      . rename_i k t k' t'
        by_cases c:k=k'/\t=t'
        . rw [if_pos c] at p
          obtain ⟨rfl,rfl⟩:=c
          have one:∀ {kvv:List (List Int×V)},kvv.map (·.1)=[k]->Reps X.K G [.bl t] (kvv.map (·.2))->kvv=[(k,.bl t)]:=fun {kvv} h r=>by
            match kvv,h with
            | [(k0,v0)],h =>
              have hk:k0=k:=by simpa using h
              obtain ⟨v1,vs,e,q1,q2⟩:=reps_cons.mp r
              simp only [List.map_cons,List.map_nil,List.cons.injEq] at e
              rw [hk,e.1,rep_bl.mp q1]
          exact ⟨a,b,U,U',kvv,kvv',rfl,rfl,hp1,hp2,mo u1,mo u2,.inr ⟨k,t,one k1 r1,one k2 r2⟩,Post.ok s p (rep_bl.mpr rfl)⟩
        . rw [if_neg c] at p;exact p.elim
      . exact p.elim
    | _=>exact gen rfl
  | _=>exact gen rfl
variable {a b:Expr} {pos:Pos} {fa fb:Rho->Rs D}
theorem st_neA (hu:X.A.units + 8 < cLine) (ha:SE X B W a fa) (hb:SE X B W b fb):ST X B W (.Compare a [.NotEq] [b] pos) (fT (fOp gNeA fa fb)):=st_cmp ((op_neD hu).or (op_neDic hu)) opd_neA ha hb (nomark _)
end
end Vl
namespace Vl
open PySem PySem.Spec PySem.W L2
section
variable {X:Cx} {B:Bs} {W:Wi} {σ:L2.St} {H:Hp} {K:PySem.W.Frag}
noncomputable def isDc:Ty->Bool
  | .dict=>true
  | _=>false
theorem kit_dic (t:Ty):PySem.W.kitOne K (.type "dict") (.type t.nm)=some (isDc t):=by cases t <;> kernel_rfl
theorem kit_dics:∀ ts:List Ty,PySem.W.kitAny K (.type "dict") (ts.map fun t=>.type t.nm)=some (ts.any isDc)
  | []=>rfl
  | t::ts=>by
    rw [List.map_cons,List.any_cons]
    unfold PySem.W.kitAny
    rw [kit_dic t]
    cases isDc t with
    | true=>rfl
    | false=>rw [Bool.false_or];exact kit_dics ts
theorem dic_here {pins:List (Addr×Obj)} {s:Shared} {ks:List (List Int)} {ds:List D} {v:V} {u:Value} (I:L2.Inv X pins σ H s) (r:Rep X.K H (.dic ks ds) v) (rv:RelV v u):∃ a o,u=.ref a/\s.heap.get? a=some o/\o.cls=.type "dict":=by
  obtain ⟨a,U,kvv,rfl,⟨o,p⟩,_⟩:=rep_dic.mp r
  cases rv
  obtain ⟨_,o',es,ep,xs,h1,h2,_⟩:=(I.hok a _ p).1
  exact ⟨a,o',rfl,h1,h2.1⟩
noncomputable def gIsA (t:Ty):D->Rs D
  | .dic _ _=>.ok (.bl (isDc t))
  | d=>gIs t d
noncomputable def gIsAT (ts:List Ty):D->Rs D
  | .dic _ _=>.ok (.bl (ts.any isDc))
  | d=>gIsT ts d
noncomputable def rIsA (K:PySem.W.Frag) (t:Ty):List V->Hp->VK->Prop:=fun xs H Q=>rIsD K t xs H Q∨∃ v ks ds,xs=[v,.ty t.nm]/\Rep K H (.dic ks ds) v/\Q (.bl (isDc t)) H
theorem call_isA {t:Ty}:CallR X (.builtin "isinstance") (rIsA X.K t):=by
  intro pins s σ H xs us Q I r h
  rcases h with h|⟨v,ks,ds,e,rd,q⟩
  . exact call_isD pins s σ H xs us Q I r h
  . subst e
    cases r with
    | cons r1 r2 =>
      cases r2 with
      | cons r3 r4 =>
        cases r4
        cases r3
        obtain ⟨a,o,rfl,h1,h2⟩:=dic_here I rd r1
        exact PySem.W.kia_one PySem.W.kitx_dict I.kIn ⟨o,h1,h2⟩ (kit_dic (K:=X.K) t) (fun z=>nomatch z) fun tk=>⟨.bl _,H,I.tok tk,rfl,q⟩
theorem re_isA {t:Ty} {x:Str} {e:Expr} {p1 p2 pos:Pos} {f:Rho->Rs D} (hm:X.mg "isinstance"=none) (hmt:X.mg x=none) (he:SE X B W e f) (hv:bootBuiltins x=some (.type t.nm)) (hg:Gl X "isinstance":=by rfl) (hgx:Gl X x:=by rfl)
    (hst:starEach [e,.Name x p2] X.env=[(false,eval e X.env),(false,eval (.Name x p2) X.env)]:=by rfl) (hst2:starEach [.Name x p2] X.env=[(false,eval (.Name x p2) X.env)]:=by rfl) (hn:x≠"__name__":=by decide) (hd:(x == ("__debug__":Str))=false:=by decide) :
    SE X B W (.Call (.Name "isinstance" p1) [e,.Name x p2] [] pos) (fB f (gIsA t)):=by
  refine PE.imp (pe_callB (call_isA (t:=t)) hg hm PyProof.Rows.boot_isinstance (pa_cons he (pa_cons (pe_bltn (v:=.ty t.nm) hgx hmt hv rfl hn hd) pa_nil (by rw [hst2];rfl)) (by rw [hst,hst2])) (by decide) (by decide) (by rw [hst,hst2]) (by rw [hst2];rfl)) fun σ H Q h=>?_
  obtain ⟨ρ,G,s,p⟩:=tF_bind (k:=fun _=>gIsA t) h
  refine ⟨ρ,G,s,p.mono fun v H1 ⟨ρ1,G1,d,s1,r,q⟩=>?_⟩
  have gen:gIsA t d=gIs t d->rIsA X.K t [v,.ty t.nm] H1 Q:=fun e=>by
    rw [e] at q
    unfold gIs at q
    by_cases hx:isX d=false
    . rw [if_pos hx] at q;exact .inl ⟨v,d,rfl,hx,r.mono s1.en.gh,Post.ok s1 q (rep_bl.mpr rfl)⟩
    . rw [if_neg hx] at q;exact q.elim
  cases d with
  | dic ks ds=>exact .inr ⟨v,ks,ds,rfl,r.mono s1.en.gh,Post.ok s1 q (rep_bl.mpr rfl)⟩
  | _=>exact gen rfl
noncomputable def rIsAT (K:PySem.W.Frag) (ts:List Ty):List V->Hp->VK->Prop:=fun xs H Q=>(∃ y d t,xs=[y,.ref t]/\H t=some (.tup (ts.map fun t=>V.ty t.nm))/\isX d=false/\Rep K H d y/\Q (.bl (ts.any (isD d))) H)∨∃ y ks ds t,xs=[y,.ref t]/\H t=some (.tup (ts.map fun t=>V.ty t.nm))/\Rep K H (.dic ks ds) y/\Q (.bl (ts.any isDc)) H
theorem call_isAT {ts:List Ty}:CallR X (.builtin "isinstance") (rIsAT X.K ts):=by
  intro pins s σ H xs us Q I r h
  rcases h with h|⟨y,ks,ds,t,e,ht,rd,q⟩
  . exact call_isDT pins s σ H xs us Q I r h
  . subst e
    cases r with
    | cons r1 r2 =>
      cases r2 with
      | cons r3 r4 =>
        cases r4
        cases r3
        obtain ⟨its,ri,⟨o,g1,g2,k,g3⟩,_⟩:=I.tuple (.of ht)
        obtain ⟨oc,od,oe,ol⟩:=o
        dsimp only at g2 g3
        subst g2 g3
        rw [vals_ty ri] at g1
        obtain ⟨a,o,rfl,h1,h2⟩:=dic_here I rd r1
        exact PySem.W.kia_tup PySem.W.kitx_dict I.kIn ⟨o,h1,h2⟩ g1 (kit_dics (K:=X.K) ts) (fun z=>nomatch z) fun tk=>⟨.bl _,H,I.tok tk,rfl,q⟩
theorem re_isAT {ts:List Ty} {e:Expr} {es:List Expr} {x1} {p1 p2 pos:Pos} {f:Rho->Rs D} (hi:X.mg "isinstance"=none) (he:SE X B W e f) (hc:PA X es (tTy ts)) (hl:ts.length<=1000:=by simp) (hg:Gl X "isinstance":=by rfl)
    (hst:starEach [e,.Tuple es x1 p2] X.env=[(false,eval e X.env),(false,eval (.Tuple es x1 p2) X.env)]:=by rfl) (hst2:starEach [.Tuple es x1 p2] X.env=[(false,eval (.Tuple es x1 p2) X.env)]:=by rfl) :
    SE X B W (.Call (.Name "isinstance" p1) [e,.Tuple es x1 p2] [] pos) (fB f (gIsAT ts)):=by
  refine PE.imp (pe_callB (call_isAT (ts:=ts)) hg hi PyProof.Rows.boot_isinstance (pa_cons he (pa_cons (pe_tup hc) pa_nil (by rw [hst2];rfl)) (by rw [hst,hst2])) (by decide) (by decide) (by rw [hst,hst2]) (by rw [hst2];rfl)) fun σ H Q h=>?_
  obtain ⟨ρ,G,s,p⟩:=tF_bind (k:=fun _=>gIsAT ts) h
  refine ⟨ρ,G,s,p.mono fun v H1 ⟨ρ1,G1,d,s1,r,q⟩=>?_⟩
  refine ⟨by simpa using sz1000 hl,fun a ha=>?_⟩
  have x:=ext_tup (xs:=ts.map fun t=>V.ty t.nm) s1.en.gh s1.en.tp ha
  have rr:=(r.mono x.gg).mono (s1.ext x).en.gh
  have gen:gIsAT ts d=gIsT ts d->rIsAT X.K ts [v,.ref a] (upd H1 a (.tup (ts.map fun t=>V.ty t.nm))) Q:=fun e=>by
    rw [e] at q
    unfold gIsT at q
    by_cases hx:isX d=false
    . rw [if_pos hx] at q
      exact Or.inl ⟨v,d,a,rfl,upd_same,hx,rr,Post.ok (s1.ext x) (Post.ext x q) (rep_bl.mpr rfl)⟩
    . rw [if_neg hx] at q;exact q.elim
  cases d with
  | dic ks ds=>exact Or.inr ⟨v,ks,ds,a,rfl,upd_same,rr,Post.ok (s1.ext x) (Post.ext x q) (rep_bl.mpr rfl)⟩
  | _=>exact gen rfl
theorem sx_repL {a b:Expr} {pos:Pos} {fa fb:Rho->Rs (D×Rho)} (ha:SX X B a fa) (hb:SX X B b fb):SX X B (.BinOp a .Mult b pos) (xOp gRepL fa fb):=sx_op op_repL opd_repL ha hb
end
end Vl
namespace K11
open PySem PySem.Spec PySem.Calls PySem.W L2 Vl
def top (i:Nat):Stmt:=PySem.Challenge.pw_edgemoss_k11_pieces_refused.main.body.getD i (.Pass ⟨0,0,0,0⟩)
noncomputable abbrev s__law_mixed:Stmt:=top 21
noncomputable abbrev s__law_deal:Stmt:=top 22
noncomputable abbrev s__law_next:Stmt:=top 23
noncomputable abbrev s__law_step:Stmt:=top 24
noncomputable abbrev s__law_piece:Stmt:=top 25
noncomputable abbrev s__law_no_row:Stmt:=top 27
noncomputable abbrev s__law_bad:Stmt:=top 26
noncomputable abbrev s__law_faulty:Stmt:=top 28
noncomputable abbrev s__law_kept:Stmt:=top 29
noncomputable abbrev s_rising:Stmt:=top 3
noncomputable abbrev s_is_number:Stmt:=top 1
noncomputable abbrev s_is_cell:Stmt:=top 2
noncomputable abbrev s_made_piece:Stmt:=top 19
noncomputable abbrev s__law_refused:Stmt:=top 30
noncomputable abbrev s_law:Stmt:=top 31
noncomputable def m_BadPiece (c:Str):Bool:=c == "BadPiece"
noncomputable def m_MossError (c:Str):Bool:=c == "MossError" || c == "BadPiece"
noncomputable abbrev e_MossError:=m_MossError
noncomputable def J_0 (c:Str):Option Bool:=List.lookup c [("BadPiece",false)]
noncomputable def J_1 (c:Str):Option Bool:=List.lookup c [("BadPiece",true)]
noncomputable def J_2 (c:Str):Option Bool:=List.lookup c [("BadPiece",true)]
noncomputable def J_3 (c:Str):Option Bool:=List.lookup c [("BadPiece",false)]
structure Txt (P:Program) (w:World) (base:Heap) (K:Frag) (mg:Str->Option Value) (C_BadPiece C_MossError C_BadCell C_BadDeed C_BadTurn C_Endless C_NoCell C_NoMarks C_NoText C_TooMany C_TooWide:Addr):Prop where
  b_ValueError:mg "ValueError"=none
  b_bool:mg "bool"=none
  b_divmod:mg "divmod"=none
  b_int:mg "int"=none
  b_isinstance:mg "isinstance"=none
  b_len:mg "len"=none
  b_list:mg "list"=none
  b_range:mg "range"=none
  b_set:mg "set"=none
  b_sorted:mg "sorted"=none
  b_tuple:mg "tuple"=none
  g_FARTHEST_STEP:∃ t,mg "FARTHEST_STEP"=some (.int 1000000 t)
  g_MOST_STEPS:∃ t,mg "MOST_STEPS"=some (.int 12 t)
  c_BadPiece:mg "BadPiece"=some (.ref C_BadPiece)
  n_BadPiece:nsIn K mainGlobals "BadPiece"=some (some (.ref C_BadPiece))
  x_BadPiece:excIn K C_BadPiece [.type "ValueError",.type "Exception",.type "BaseException",.type "object"] "ValueError.__new__"=true
  i_BadPiece:∀ c C,m_BadPiece c=true->nsIn K mainGlobals c=some (some (.ref C))->kitOne K (.ref C) (.ref C_BadPiece)=some true
  c_MossError:mg "MossError"=some (.ref C_MossError)
  n_MossError:nsIn K mainGlobals "MossError"=some (some (.ref C_MossError))
  x_MossError:excIn K C_MossError [.type "ValueError",.type "Exception",.type "BaseException",.type "object"] "ValueError.__new__"=true
  i_MossError:∀ c C,m_MossError c=true->nsIn K mainGlobals c=some (some (.ref C))->kitOne K (.ref C) (.ref C_MossError)=some true
  e_MossError:∀ c C,m_MossError c=true->nsIn K mainGlobals c=some (some (.ref C))->exmOne K (.ref C) (.ref C_MossError)=some true
  c_BadCell:mg "BadCell"=some (.ref C_BadCell)
  c_BadDeed:mg "BadDeed"=some (.ref C_BadDeed)
  c_BadTurn:mg "BadTurn"=some (.ref C_BadTurn)
  c_Endless:mg "Endless"=some (.ref C_Endless)
  c_NoCell:mg "NoCell"=some (.ref C_NoCell)
  c_NoMarks:mg "NoMarks"=some (.ref C_NoMarks)
  c_NoText:mg "NoText"=some (.ref C_NoText)
  c_TooMany:mg "TooMany"=some (.ref C_TooMany)
  c_TooWide:mg "TooWide"=some (.ref C_TooWide)
  j_0:∀ c b C,J_0 c=some b->nsIn K mainGlobals c=some (some (.ref C))->exk K C=true/\kitAny K (.ref C) (List.map Value.ref [C_BadCell,C_BadDeed,C_BadTurn])=some b
  j_1:∀ c b C,J_1 c=some b->nsIn K mainGlobals c=some (some (.ref C))->exk K C=true/\kitOne K (.ref C) (.type "ValueError")=some b
  j_2:∀ c b C,J_2 c=some b->nsIn K mainGlobals c=some (some (.ref C))->exk K C=true/\kitOne K (.ref C) (.ref C_BadPiece)=some b
  j_3:∀ c b C,J_3 c=some b->nsIn K mainGlobals c=some (some (.ref C))->exk K C=true/\kitAny K (.ref C) (List.map Value.ref [C_Endless,C_NoCell,C_NoMarks,C_NoText,C_TooMany,C_TooWide])=some b
theorem sc__law_mixed:FnScope ["cell","k","part"] ["cell","k"] (defScope s__law_mixed):=scpK
theorem sc__law_deal:FnScope ["cell","great","k"] ["cell"] (defScope s__law_deal):=scpK
theorem sc__law_next:FnScope ["left","many","digit"] ["left","many"] (defScope s__law_next):=scpK
theorem sc__law_step:FnScope ["left","way","lead","spread"] ["left","way","lead","spread"] (defScope s__law_step):=scpK
theorem sc__law_piece:FnScope ["left","way","many","spread","lead","steps","k"] ["left"] (defScope s__law_piece):=scpK
theorem sc__law_no_row:FnScope ["left","steps"] ["left","steps"] (defScope s__law_no_row):=scpK
theorem sc__law_bad:FnScope ["left","step","far","row","column"] ["left","step"] (defScope s__law_bad):=scpK
theorem sc__law_faulty:FnScope ["left","steps","way","row","lead","many"] ["left"] (defScope s__law_faulty):=scpK
theorem sc__law_kept:FnScope ["handed"] ["handed"] (defScope s__law_kept):=scpK
theorem sc_rising:FnScope ["cells"] ["cells"] (defScope s_rising):=scpK
theorem sc_is_number:FnScope ["thing","bound"] ["thing","bound"] (defScope s_is_number):=scpK
theorem sc_is_cell:FnScope ["thing","bound"] ["thing","bound"] (defScope s_is_cell):=scpK
theorem sc_made_piece:FnScope ["cells","thing","steps"] ["cells"] (defScope s_made_piece):=scpK
theorem sc__law_refused:FnScope ["handed","flags","e"] ["handed"] (defScope s__law_refused):=scpK
theorem sc_law:FnScope ["script","cell","left","handed","bad","kept"] ["script"] (defScope s_law):=scpK
section
variable {P:Program} {w:World} {K:Frag} {mg:Str->Option Value} {base:Heap} {C_BadPiece C_MossError C_BadCell C_BadDeed C_BadTurn C_Endless C_NoCell C_NoMarks C_NoText C_TooMany:Addr} {C_TooWide:Addr}
noncomputable def g__law_mixed:Rho->Ou :=
    rSeq (rSet 2 (fOp gMod (fOp gMul (fOp gPlus (fOp gPlus (fOp gMod (fVar 0) (fC (.int 1000000000000000009))) (fOp gMul (fC (.int 7919)) (fVar 1))) (fC (.int 12345))) (fC (.int 48271))) (fC (.int 2305843009213693951))))
    (rSeq (rSet 2 (fOp gMod (fOp gMul (fVar 2) (fVar 2)) (fC (.int 2305843009213693921))))
    (rRet (fOp gDiv (fOp gMod (fOp gMul (fOp gPlus (fVar 2) (fVar 1)) (fC (.int 69621))) (fC (.int 2305843009213693951))) (fC (.int 8)))))
noncomputable def v__law_mixed:List D->Rs D:=fun ds=>fin (g__law_mixed (startR ["cell","k","part"] ds))
variable (T:Txt P w base K mg C_BadPiece C_MossError C_BadCell C_BadDeed C_BadTurn C_Endless C_NoCell C_NoMarks C_NoText C_TooMany C_TooWide)
include T
theorem ok__law_mixed (F:Ent K mg "_law_mixed" s__law_mixed) :Okd P w K mg base "_law_mixed" 1 2 v__law_mixed :=
  okd_o (k:=0) (g:=g__law_mixed) F sc__law_mixed fun _ _ _ _ _ _ _ _ hr hx =>
    rs_cons (rs_set 2 sc__law_mixed.nd (se_mod (se_mul (se_add (se_add (se_mod (sv 0) se_int) (se_mul se_int (sv 1))) se_int) se_int) se_int))
    (rs_cons (rs_set 2 sc__law_mixed.nd (se_mod (se_mul (sv 2) (sv 2)) se_int))
    (rs_one (rs_ret (se_div (se_mod (se_mul (se_add (sv 2) (sv 1)) se_int) se_int) se_int))))
noncomputable def B_law_deal_1:Rho->Ou :=
    rSet 1 (fOp gPlus (fOp gMul (fVar 1) (fC (.int 1152921504606846976))) (fOp gMod (fA (fCons (fVar 0) (fCons (fVar 2) fNil)) (gCallX 2 v__law_mixed)) (fC (.int 1152921504606846976))))
noncomputable def g__law_deal:Rho->Ou :=
    rSeq (rIf (fT (fOp gGe (fVar 0) (fOp gPow (fC (.int 10)) (fC (.int 18))))) (rRetL (fCons (fOp gSub (fVar 0) (fOp gPow (fC (.int 10)) (fC (.int 18)))) fNil)) rNx)
    (rSeq (rSet 1 (fC (.int 0)))
    (rSeq (rNox (gForR (hName 2) B_law_deal_1 (fC (.int 24))))
    (rRetL (fCons (fVar 1) fNil))))
noncomputable def v__law_deal:List D->Rs (List D):=fun ds=>finF (g__law_deal (startR ["cell","great","k"] ds))
theorem ok__law_deal (F:Ent K mg "_law_deal" s__law_deal) (O__law_mixed:Okd P w K mg base "_law_mixed" 1 2 v__law_mixed):Okf P w K mg base "_law_deal" 2 1 v__law_deal :=
  okf_o (k:=1) (g:=g__law_deal) F sc__law_deal fun _ _ _ _ _ _ _ _ hr hx =>
    rs_cons (rs_if (st_ge (sv 0) (se_pow se_int se_int)) (rs_one (rs_retL (sa_cons (se_sub (sv 0) (se_pow se_int se_int)) sa_nil))) rs_nil)
    (rs_cons (rs_set 1 sc__law_deal.nd se_int)
    (rs_cons (rs_nox (ss_forR PassesOwn.never rfl T.b_range se_int (rg 2 sc__law_deal.nd) (rs_one (rs_set 1 sc__law_deal.nd (se_add (se_mul (sv 1) se_int) (se_mod (re_call O__law_mixed hr passC_F (sa_cons (sv 0) (sa_cons (sv 2) sa_nil))) se_int))))))
    (rs_one (rs_retL (sa_cons (sv 1) sa_nil)))))
noncomputable def g__law_next:Rho->Ou :=
    rSeq (rNext 0 2 (fA (fCons (gIxO 0 (fC (.int 0))) (fCons (fVar 1) fNil)) gDm) (fC (.int 0)))
    (xRet (xP (fVar 2)))
noncomputable def v__law_next:List D->List D->Rs (D×List D):=fun es ds=>finM (g__law_next (startM ["left","many","digit"] es ds))
theorem ok__law_next (F:Ent K mg "_law_next" s__law_next) :Okm P w K mg base "_law_next" 1 1 v__law_next :=
  okm_o (k:=0) (g:=g__law_next) F sc__law_next fun _ _ _ _ _ _ _ _ hr hx =>
    rs_cons (rs_next 0 2 rfl sc__law_next.nd (re_divmod T.b_divmod (re_ixO 0 se_int) (sv 1)) se_int)
    (rs_one (xs_ret (sx_pF (sv 2))))
noncomputable def g__law_step:Rho->Ou :=
    rSeq (xIf (xAnd (xPT (fT (fOp gEq (fVar 1) (fC (.int 3))))) (xT (xOp gEq (xM 0 1 v__law_next (xPA (fCons (fC (.int 3)) fNil))) (xP (fC (.int 0)))))) (xRet (xA (xCons (xOp gSub (xM 0 1 v__law_next (xPA (fCons (fC (.int 2000001)) fNil))) (xP (fC (.int 1000000)))) (xCons (xOp gIx (xP (fA (fCons (fNeg (fC (.int 1000000))) (fCons (fC (.int 1000000)) fNil)) gLst)) (xM 0 1 v__law_next (xPA (fCons (fC (.int 2)) fNil)))) xNil)) gTup)) rNx)
    (rSeq (rIf (fT (fOp gEq (fVar 1) (fC (.int 1)))) (xRet (xA (xCons (xP (fC (.int 0))) (xCons (xOp gMul (xOp gSub (xM 0 1 v__law_next (xPA (fCons (fC (.int 13)) fNil))) (xP (fC (.int 6)))) (xP (fVar 3))) xNil)) gTup)) rNx)
    (xRet (xA (xCons (xOp gSub (xOp gPlus (xP (fOp gIx (fVar 2) (fC (.int 0)))) (xM 0 1 v__law_next (xPA (fCons (fC (.int 5)) fNil)))) (xP (fC (.int 2)))) (xCons (xOp gSub (xOp gPlus (xP (fOp gIx (fVar 2) (fC (.int 1)))) (xM 0 1 v__law_next (xPA (fCons (fC (.int 5)) fNil)))) (xP (fC (.int 2)))) xNil)) gTup)))
noncomputable def v__law_step:List D->List D->Rs (D×List D):=fun es ds=>finM (g__law_step (startM ["left","way","lead","spread"] es ds))
theorem ok__law_step (F:Ent K mg "_law_step" s__law_step) (O__law_next:Okm P w K mg base "_law_next" 1 1 v__law_next):Okm P w K mg base "_law_step" 2 3 v__law_step :=
  okm_o (k:=1) (g:=g__law_step) F sc__law_step fun _ _ _ _ _ _ _ _ hr hx =>
    rs_cons (xs_if (stx_w (swx_and (stx_pF (st_eq (room8 hr) (sv 1) se_int)) (swx_and1 (stx_eq (room8 hr) (sx_callM 0 O__law_next hr (sax_pF (sa_cons se_int sa_nil))) (sx_pF se_int))))) (rs_one (xs_ret (sx_tup (sax_cons (sx_sub (sx_callM 0 O__law_next hr (sax_pF (sa_cons se_int sa_nil))) (sx_pF se_int)) (sax_cons (sx_ix (sx_pF (se_lst (sa_cons (re_neg se_int) (sa_cons se_int sa_nil)))) (sx_callM 0 O__law_next hr (sax_pF (sa_cons se_int sa_nil)))) sax_nil))))) rs_nil)
    (rs_cons (rs_if (st_eq (room8 hr) (sv 1) se_int) (rs_one (xs_ret (sx_tup (sax_cons (sx_pF se_int) (sax_cons (sx_mul (sx_sub (sx_callM 0 O__law_next hr (sax_pF (sa_cons se_int sa_nil))) (sx_pF se_int)) (sx_pF (sv 3))) sax_nil))))) rs_nil)
    (rs_one (xs_ret (sx_tup (sax_cons (sx_sub (sx_add (sx_pF (se_ix (sv 2) se_int)) (sx_callM 0 O__law_next hr (sax_pF (sa_cons se_int sa_nil)))) (sx_pF se_int)) (sax_cons (sx_sub (sx_add (sx_pF (se_ix (sv 2) se_int)) (sx_callM 0 O__law_next hr (sax_pF (sa_cons se_int sa_nil)))) (sx_pF se_int)) sax_nil))))))
noncomputable def B_law_piece_1:Rho->Ou :=
    xPutD 5 (fC (.bl true)) (xM 0 3 v__law_step (xPA (fCons (fVar 1) (fCons (fVar 4) (fCons (fVar 3) fNil)))))
noncomputable def g__law_piece:Rho->Ou :=
    rSeq (xSet 1 (xM 0 1 v__law_next (xPA (fCons (fC (.int 4)) fNil))))
    (rSeq (xSet 2 (xOp gPlus (xP (fC (.int 1))) (xM 0 1 v__law_next (xCons (xOp gIx (xP (fA (fCons (fC (.int 4)) (fCons (fC (.int 3)) (fCons (fC (.int 4)) (fCons (fC (.int 12)) fNil)))) gLst)) (xM 0 1 v__law_next (xPA (fCons (fC (.int 4)) fNil)))) xNil))))
    (rSeq (xSet 3 (xOp gIx (xP (fA (fCons (fC (.int 1)) (fCons (fC (.int 1)) (fCons (fC (.int 7)) (fCons (fC (.int 100003)) fNil)))) gLst)) (xM 0 1 v__law_next (xPA (fCons (fC (.int 4)) fNil)))))
    (rSeq (rSet 4 (fA (fCons (fC (.int 0)) (fCons (fC (.int 0)) fNil)) gTup))
    (rSeq (rIf (fT (fOp gEq (fVar 1) (fC (.int 2)))) (xSet 4 (xA (xCons (xOp gSub (xM 0 1 v__law_next (xPA (fCons (fC (.int 1999997)) fNil))) (xP (fC (.int 999998)))) (xCons (xOp gSub (xM 0 1 v__law_next (xPA (fCons (fC (.int 1999997)) fNil))) (xP (fC (.int 999998)))) xNil)) gTup)) rNx)
    (rSeq (rDic 5)
    (rSeq (rNox (gForR (hName 6) B_law_piece_1 (fVar 2)))
    (xRet (xP (fA (fCons (gSortD 5) fNil) gTupOf)))))))))
noncomputable def v__law_piece:List D->List D->Rs (D×List D):=fun es ds=>finM (g__law_piece (startM ["left","way","many","spread","lead","steps","k"] es ds))
theorem ok__law_piece (F:Ent K mg "_law_piece" s__law_piece) (O__law_next:Okm P w K mg base "_law_next" 1 1 v__law_next) (O__law_step:Okm P w K mg base "_law_step" 2 3 v__law_step):Okm P w K mg base "_law_piece" 3 0 v__law_piece :=
  okm_o (k:=2) (g:=g__law_piece) F sc__law_piece fun _ _ _ _ _ _ _ _ hr hx =>
    rs_cons (xs_set 1 sc__law_piece.nd (sx_callM 0 O__law_next hr (sax_pF (sa_cons se_int sa_nil))))
    (rs_cons (xs_set 2 sc__law_piece.nd (sx_add (sx_pF se_int) (sx_callM 0 O__law_next hr (sax_cons (sx_ix (sx_pF (se_lst (sa_cons se_int (sa_cons se_int (sa_cons se_int (sa_cons se_int sa_nil)))))) (sx_callM 0 O__law_next hr (sax_pF (sa_cons se_int sa_nil)))) sax_nil))))
    (rs_cons (xs_set 3 sc__law_piece.nd (sx_ix (sx_pF (se_lst (sa_cons se_int (sa_cons se_int (sa_cons se_int (sa_cons se_int sa_nil)))))) (sx_callM 0 O__law_next hr (sax_pF (sa_cons se_int sa_nil)))))
    (rs_cons (rs_set 4 sc__law_piece.nd (se_tup (sa_cons se_int (sa_cons se_int sa_nil))))
    (rs_cons (rs_if (st_eq (room8 hr) (sv 1) se_int) (rs_one (xs_set 4 sc__law_piece.nd (sx_tup (sax_cons (sx_sub (sx_callM 0 O__law_next hr (sax_pF (sa_cons se_int sa_nil))) (sx_pF se_int)) (sax_cons (sx_sub (sx_callM 0 O__law_next hr (sax_pF (sa_cons se_int sa_nil))) (sx_pF se_int)) sax_nil))))) rs_nil)
    (rs_cons (rs_dic 5 sc__law_piece.nd)
    (rs_cons (rs_nox (ss_forR PassesOwn.never rfl T.b_range (sv 2) (rg 6 sc__law_piece.nd) (rs_one (xs_putD 5 (room8 hr) se_bl (sx_callM 0 O__law_step hr (sax_pF (sa_cons (sv 1) (sa_cons (sv 4) (sa_cons (sv 3) sa_nil)))))))))
    (rs_one (xs_ret (sx_pF (re_tuple T.b_tuple (re_sortD 5 rfl T.b_sorted)))))))))))
noncomputable def g__law_no_row:Rho->Ou :=
    xRet (xOp gIx (xP (fA (fCons (fC .non) (fCons (fC (.int 7)) (fCons (fC (.str "")) (fCons (fC (.str "ab")) (fCons (fC (.bl true)) (fCons (fC (.dic [] [])) (fCons (fA fNil gLst) (fCons (fA fNil gTup) (fCons (fOp gIx (fVar 1) (fC (.int 0))) (fCons (fDic1 (fOp gIx (fVar 1) (fC (.int 0))) (fC (.bl true))) (fCons (fOp gIx (fOp gIx (fVar 1) (fC (.int 0))) (fC (.int 0))) (fCons (fA (fCons (fVar 1) fNil) gTup) (fCons (fA (fCons (fA (fCons (fVar 1) fNil) gLstOf) fNil) gLst) (fCons (fC (.int 0)) fNil)))))))))))))) gLst)) (xM 0 1 v__law_next (xPA (fCons (fC (.int 14)) fNil))))
noncomputable def v__law_no_row:List D->List D->Rs (D×List D):=fun es ds=>finM (g__law_no_row (startM ["left","steps"] es ds))
theorem ok__law_no_row (F:Ent K mg "_law_no_row" s__law_no_row) (O__law_next:Okm P w K mg base "_law_next" 1 1 v__law_next):Okm P w K mg base "_law_no_row" 2 1 v__law_no_row :=
  okm_o (k:=1) (g:=g__law_no_row) F sc__law_no_row fun _ _ _ _ _ _ _ _ hr hx =>
    by
      refine @rs_one _ _ _ _ _ ?_
      refine xs_ret ?_
      refine sx_ix ?_ ?_
      rotate_left
      . exact sx_callM 0 O__law_next hr (sax_pF (sa_cons se_int sa_nil))
      refine sx_pF ?_
      refine se_lst ?_
      refine @sa_consN _ _ _ _ _ _ _ ?_ ?_ rfl
      . exact se_non
      refine @sa_consN _ _ _ _ _ _ _ ?_ ?_ rfl
      . exact se_int
      refine @sa_consN _ _ _ _ _ _ _ ?_ ?_ rfl
      . exact se_str
      refine @sa_consN _ _ _ _ _ _ _ ?_ ?_ rfl
      . exact se_str
      refine @sa_consN _ _ _ _ _ _ _ ?_ ?_ rfl
      . exact se_bl
      refine @sa_consN _ _ _ _ _ _ _ ?_ ?_ rfl
      . exact se_dicE
      refine @sa_consN _ _ _ _ _ _ _ ?_ ?_ rfl
      . exact se_lst sa_nil
      refine @sa_consN _ _ _ _ _ _ _ ?_ ?_ rfl
      . exact se_tup sa_nil
      refine @sa_consN _ _ _ _ _ _ _ ?_ ?_ rfl
      . exact se_ix (sv 1) se_int
      refine @sa_consN _ _ _ _ _ _ _ ?_ ?_ rfl
      . exact se_dic1 (room8 hr) (se_ix (sv 1) se_int) se_bl
      refine @sa_consN _ _ _ _ _ _ _ ?_ ?_ rfl
      . exact se_ix (se_ix (sv 1) se_int) se_int
      refine @sa_consN _ _ _ _ _ _ _ ?_ ?_ rfl
      . exact se_tup (sa_cons (sv 1) sa_nil)
      refine @sa_consN _ _ _ _ _ _ _ ?_ ?_ rfl
      . exact se_lst (sa_cons (re_list T.b_list (sv 1)) sa_nil)
      refine @sa_consN _ _ _ _ _ _ _ ?_ ?_ rfl
      . exact se_int
      exact sa_nil
noncomputable def g__law_bad:Rho->Ou :=
    rSeq (xSet 2 (xOp gPlus (xP (fC (.int 1000001))) (xOp gMul (xM 0 1 v__law_next (xPA (fCons (fOp gPow (fC (.int 10)) (fC (.int 30))) fNil))) (xM 0 1 v__law_next (xPA (fCons (fC (.int 2)) fNil))))))
    (rSeq (rAsg (fVar 1) (hTup 2 (hCons (hName 3) (hCons (hName 4) hNil))))
    (xRet (xOp gIx (xP (fA (fCons (fA (fCons (fVar 3) (fCons (fVar 4) fNil)) gLst) (fCons (fA (fCons (fVar 3) fNil) gTup) (fCons (fA (fCons (fVar 3) (fCons (fVar 4) (fCons (fC (.int 0)) fNil))) gTup) (fCons (fA (fCons (fC (.bl true)) (fCons (fVar 4) fNil)) gTup) (fCons (fA (fCons (fVar 3) (fCons (fC (.bl false)) fNil)) gTup) (fCons (fA (fCons (fVar 2) (fCons (fVar 4) fNil)) gTup) (fCons (fA (fCons (fVar 3) (fCons (fOp gSub (fC (.int 0)) (fVar 2)) fNil)) gTup) (fCons (fA (fCons (fVar 3) (fCons (fC (.str "0")) fNil)) gTup) (fCons (fA (fCons (fC .non) (fCons (fVar 4) fNil)) gTup) (fCons (fC .non) (fCons (fVar 3) (fCons (fC (.str "ab")) (fCons (fA (fCons (fVar 1) (fCons (fVar 1) fNil)) gTup) (fCons (fA fNil gTup) fNil)))))))))))))) gLst)) (xM 0 1 v__law_next (xPA (fCons (fC (.int 14)) fNil))))))
noncomputable def v__law_bad:List D->List D->Rs (D×List D):=fun es ds=>finM (g__law_bad (startM ["left","step","far","row","column"] es ds))
theorem ok__law_bad (F:Ent K mg "_law_bad" s__law_bad) (O__law_next:Okm P w K mg base "_law_next" 1 1 v__law_next):Okm P w K mg base "_law_bad" 2 1 v__law_bad :=
  okm_o (k:=1) (g:=g__law_bad) F sc__law_bad fun _ _ _ _ _ _ _ _ hr hx =>
    by
      refine @rs_cons _ _ _ _ _ _ _ ?_ ?_
      . exact xs_set 2 sc__law_bad.nd (sx_add (sx_pF se_int) (sx_mul (sx_callM 0 O__law_next hr (sax_pF (sa_cons (se_pow se_int se_int) sa_nil))) (sx_callM 0 O__law_next hr (sax_pF (sa_cons se_int sa_nil)))))
      refine @rs_cons _ _ _ _ _ _ _ ?_ ?_
      . exact rs_asg (sv 1) (sg_tup rfl (sgs_cons (rg 3 sc__law_bad.nd) (sgs_cons (rg 4 sc__law_bad.nd) sgs_nil)))
      refine @rs_one _ _ _ _ _ ?_
      . exact xs_ret (sx_ix (sx_pF (@se_lst _ _ _ _ _ _ (@sa_consN _ _ _ _ _ _ _ (se_lst (sa_cons (sv 3) (sa_cons (sv 4) sa_nil))) (@sa_consN _ _ _ _ _ _ _ (se_tup (sa_cons (sv 3) sa_nil)) (@sa_consN _ _ _ _ _ _ _ (se_tup (sa_cons (sv 3) (sa_cons (sv 4) (sa_cons se_int sa_nil)))) (@sa_consN _ _ _ _ _ _ _ (se_tup (sa_cons se_bl (sa_cons (sv 4) sa_nil))) (@sa_consN _ _ _ _ _ _ _ (se_tup (sa_cons (sv 3) (sa_cons se_bl sa_nil))) (@sa_consN _ _ _ _ _ _ _ (se_tup (sa_cons (sv 2) (sa_cons (sv 4) sa_nil))) (@sa_consN _ _ _ _ _ _ _ (se_tup (sa_cons (sv 3) (sa_cons (se_sub se_int (sv 2)) sa_nil))) (@sa_consN _ _ _ _ _ _ _ (se_tup (sa_cons (sv 3) (sa_cons se_str sa_nil))) (@sa_consN _ _ _ _ _ _ _ (se_tup (sa_cons se_non (sa_cons (sv 4) sa_nil))) (@sa_consN _ _ _ _ _ _ _ se_non (@sa_consN _ _ _ _ _ _ _ (sv 3) (@sa_consN _ _ _ _ _ _ _ se_str (@sa_consN _ _ _ _ _ _ _ (se_tup (sa_cons (sv 1) (sa_cons (sv 1) sa_nil))) (@sa_consN _ _ _ _ _ _ _ (se_tup sa_nil) sa_nil rfl) rfl) rfl) rfl) rfl) rfl) rfl) rfl) rfl) rfl) rfl) rfl) rfl) rfl))) (sx_callM 0 O__law_next hr (sax_pF (sa_cons se_int sa_nil))))
noncomputable def E_law_faulty_1:Rho->Rs D :=
    fA (fCons (fOp gPlus (fOp gIx (fVar 1) (fC (.int 0))) (fOp gMod (fOp gMul (fVar 0) (fVar 0)) (fC (.int 17)))) (fCons (fOp gPlus (fOp gIx (fVar 1) (fC (.int 1))) (fVar 0)) fNil)) gTup
noncomputable def g__law_faulty:Rho->Ou :=
    rSeq (xSet 1 (xM 0 0 v__law_piece (xPA fNil)))
    (rSeq (xSet 2 (xM 0 1 v__law_next (xPA (fCons (fC (.int 4)) fNil))))
    (rSeq (rIf (fT (fOp gEq (fVar 2) (fC (.int 0)))) (xRet (xA (xCons (xM 0 1 v__law_no_row (xPA (fCons (fVar 1) fNil))) (xCons (xP (fC (.bl true))) xNil)) gTup)) rNx)
    (rSeq (rOwnC 3 (fVar 1))
    (rSeq (rIf (fT (fOp gEq (fVar 2) (fC (.int 1)))) (xInsL 3 (xCons (xM 0 1 v__law_next (xPA (fCons (fOp gPlus (gLenO 3) (fC (.int 1))) fNil))) (xCons (xM 0 1 v__law_bad (xCons (xOp gIx (xP (fVar 1)) (xM 0 1 v__law_next (xPA (fCons (fA (fCons (fVar 1) fNil) gLen) fNil)))) xNil)) xNil))) rNx)
    (rFrz 3 (rSeq (rIf (fT (fOp gEq (fVar 2) (fC (.int 2)))) (rSeq (xSet 4 (xA (xCons (xOp gSub (xM 0 1 v__law_next (xPA (fCons (fC (.int 1999000)) fNil))) (xP (fC (.int 999500)))) (xCons (xOp gSub (xM 0 1 v__law_next (xPA (fCons (fC (.int 1999000)) fNil))) (xP (fC (.int 999500)))) xNil)) gTup))
    (rSeq (xSet 5 (xOp gPlus (xP (fC (.int 12))) (xM 0 1 v__law_next (xPA (fCons (fC (.int 3)) fNil)))))
    (rSeq (xSet 3 (xOp gRepL (xP (gComp (hName 0) (fun _=>.ok true) E_law_faulty_1 1 [4] (fL (fVar 5) asR))) (xOp gPlus (xP (fC (.int 1))) (xM 0 1 v__law_next (xPA (fCons (fC (.int 2)) fNil))))))
    (rFrz 3 (xRet (xP (fA (fCons (fVar 3) (fCons (fOp gGt (fVar 5) (fC (.int 12))) fNil)) gTup))))))) rNx)
    (rFrz 3 (xRet (xP (fA (fCons (fVar 3) (fCons (fOp gEq (fVar 2) (fC (.int 1))) fNil)) gTup))))))))))
noncomputable def v__law_faulty:List D->List D->Rs (D×List D):=fun es ds=>finM (g__law_faulty (startM ["left","steps","way","row","lead","many"] es ds))
theorem ok__law_faulty (F:Ent K mg "_law_faulty" s__law_faulty) (O__law_piece:Okm P w K mg base "_law_piece" 3 0 v__law_piece) (O__law_next:Okm P w K mg base "_law_next" 1 1 v__law_next) (O__law_no_row:Okm P w K mg base "_law_no_row" 2 1 v__law_no_row) (O__law_bad:Okm P w K mg base "_law_bad" 2 1 v__law_bad):Okm P w K mg base "_law_faulty" 4 0 v__law_faulty :=
  okm_o (k:=3) (g:=g__law_faulty) F sc__law_faulty fun _ _ _ _ _ _ _ _ hr hx =>
    rs_cons (xs_set 1 sc__law_faulty.nd (sx_callM 0 O__law_piece hr (sax_pF sa_nil)))
    (rs_cons (xs_set 2 sc__law_faulty.nd (sx_callM 0 O__law_next hr (sax_pF (sa_cons se_int sa_nil))))
    (rs_cons (rs_if (st_eq (room8 hr) (sv 2) se_int) (rs_one (xs_ret (sx_tup (sax_cons (sx_callM 0 O__law_no_row hr (sax_pF (sa_cons (sv 1) sa_nil))) (sax_cons (sx_pF se_bl) sax_nil))))) rs_nil)
    (rs_cons (rs_ownC 3 sc__law_faulty.nd T.b_list (sv 1))
    (rs_cons (rs_if (st_eq (room8 hr) (sv 2) se_int) (rs_one (xs_insL 3 (sax_cons (sx_callM 0 O__law_next hr (sax_pF (sa_cons (se_add (re_lenO 3 T.b_len) se_int) sa_nil))) (sax_cons (sx_callM 0 O__law_bad hr (sax_cons (sx_ix (sx_pF (sv 1)) (sx_callM 0 O__law_next hr (sax_pF (sa_cons (se_len T.b_len (sv 1)) sa_nil)))) sax_nil)) sax_nil)))) rs_nil)
    (rs_frz 3 (rs_cons (rs_if (st_eq (room8 hr) (sv 2) se_int) (rs_cons (xs_set 4 sc__law_faulty.nd (sx_tup (sax_cons (sx_sub (sx_callM 0 O__law_next hr (sax_pF (sa_cons se_int sa_nil))) (sx_pF se_int)) (sax_cons (sx_sub (sx_callM 0 O__law_next hr (sax_pF (sa_cons se_int sa_nil))) (sx_pF se_int)) sax_nil))))
    (rs_cons (xs_set 5 sc__law_faulty.nd (sx_add (sx_pF se_int) (sx_callM 0 O__law_next hr (sax_pF (sa_cons se_int sa_nil)))))
    (rs_cons (xs_set 3 sc__law_faulty.nd (sx_repL (sx_pF (re_comp (caps_of (defScope s__law_faulty) ["left","steps","way","row","lead","many"] (N:=["k","lead"]) (nt:=1) (caps:=[4]) (by decide +kernel)) rfl (by decide +kernel) (ri_range T.b_range (sv 5)) keep_name (fun _ _ _ _ _ _=>rg 0 (show List.Nodup (["k","lead"]:List Str) by decide)) (fun _ _ _ _ _ _=>se_tup (sa_cons (se_add (se_ix (sv 1) se_int) (se_mod (se_mul (sv 0) (sv 0)) se_int)) (sa_cons (se_add (se_ix (sv 1) se_int) (sv 0)) sa_nil))))) (sx_add (sx_pF se_int) (sx_callM 0 O__law_next hr (sax_pF (sa_cons se_int sa_nil))))))
    (rs_frz 3 (rs_one (xs_ret (sx_pF (se_tup (sa_cons (sv 3) (sa_cons (se_gt (sv 5) se_int) sa_nil)))))))))) rs_nil)
    (rs_frz 3 (rs_one (xs_ret (sx_pF (se_tup (sa_cons (sv 3) (sa_cons (se_eq (room8 hr) (sv 2) se_int) sa_nil)))))))))))))
noncomputable def g__law_kept:Rho->Ou :=
    rSeq (rIf (fT (fB (fVar 0) (gIsA .list))) (rRet (fA (fCons (fVar 0) fNil) gLstOf)) rNx)
    (rRet (fVar 0))
noncomputable def v__law_kept:List D->Rs D:=fun ds=>fin (g__law_kept (startR ["handed"] ds))
theorem ok__law_kept (F:Ent K mg "_law_kept" s__law_kept) :Okd P w K mg base "_law_kept" 1 1 v__law_kept :=
  okd_o (k:=0) (g:=g__law_kept) F sc__law_kept fun _ _ _ _ _ _ _ _ hr hx =>
    rs_cons (rs_if (st_val (re_isA (t:=.list) T.b_isinstance T.b_list (sv 0) PyProof.Rows.Boot.«list»)) (rs_one (rs_ret (re_list T.b_list (sv 0)))) rs_nil)
    (rs_one (rs_ret (sv 0)))
noncomputable def g_rising:Rho->Ou :=
    rRet (fA (fCons (fSortK (fK (fVar 0))) fNil) gTupOf)
noncomputable def v_rising:List D->Rs D:=fun ds=>fin (g_rising (startR ["cells"] ds))
theorem ok_rising (F:Ent K mg "rising" s_rising) :Okd P w K mg base "rising" 1 1 v_rising :=
  okd_o (k:=0) (g:=g_rising) F sc_rising fun _ _ _ _ _ _ _ _ hr hx =>
    rs_one (rs_ret (re_tuple T.b_tuple (re_sortedK rfl T.b_sorted (sk_set rfl (room8 hr) T.b_set (sv 0)))))
noncomputable def g_is_number:Rho->Ou :=
    rSeq (rIf (fOr (fT (fB (fVar 0) (gIsA .bool))) (fNot (fT (fB (fVar 0) (gIsA .int))))) (rRet (fC (.bl false))) rNx)
    (rRet (fCh pLe pLe (fNeg (fVar 1)) (fVar 0) (fVar 1)))
noncomputable def v_is_number:List D->Rs D:=fun ds=>fin (g_is_number (startR ["thing","bound"] ds))
theorem ok_is_number (F:Ent K mg "is_number" s_is_number) :Okd P w K mg base "is_number" 1 2 v_is_number :=
  okd_o (k:=0) (g:=g_is_number) F sc_is_number fun _ _ _ _ _ _ _ _ hr hx =>
    rs_cons (rs_if (st_w (sw_or (st_val (re_isA (t:=.bool) T.b_isinstance T.b_bool (sv 0) PyProof.Rows.Boot.«bool»)) (sw_or1 (st_not (st_val (re_isA (t:=.int) T.b_isinstance T.b_int (sv 0) PyProof.Rows.Boot.«int»)))))) (rs_one (rs_ret se_bl)) rs_nil)
    (rs_one (rs_ret (se_chLL (re_neg (sv 1)) (sv 0) (sv 1))))
noncomputable def g_is_cell:Rho->Ou :=
    rSeq (rIf (fOr (fNot (fT (fB (fVar 0) (gIsA .tuple)))) (fT (fOp gNe (fA (fCons (fVar 0) fNil) gLen) (fC (.int 2))))) (rRet (fC (.bl false))) rNx)
    (rRet (fAndV (fA (fCons (fOp gIx (fVar 0) (fC (.int 0))) (fCons (fVar 1) fNil)) (gCallX 2 v_is_number)) (fA (fCons (fOp gIx (fVar 0) (fC (.int 1))) (fCons (fVar 1) fNil)) (gCallX 2 v_is_number))))
noncomputable def v_is_cell:List D->Rs D:=fun ds=>fin (g_is_cell (startR ["thing","bound"] ds))
theorem ok_is_cell (F:Ent K mg "is_cell" s_is_cell) (O_is_number:Okd P w K mg base "is_number" 1 2 v_is_number):Okd P w K mg base "is_cell" 2 2 v_is_cell :=
  okd_o (k:=1) (g:=g_is_cell) F sc_is_cell fun _ _ _ _ _ _ _ _ hr hx =>
    rs_cons (rs_if (st_w (sw_or (st_not (st_val (re_isA (t:=.tuple) T.b_isinstance T.b_tuple (sv 0) PyProof.Rows.Boot.«tuple»))) (sw_or1 (st_ne (room8 hr) (se_len T.b_len (sv 0)) se_int)))) (rs_one (rs_ret se_bl)) rs_nil)
    (rs_one (rs_ret (se_and (re_call O_is_number hr hx (sa_cons (se_ix (sv 0) se_int) (sa_cons (sv 1) sa_nil))) (se_one (re_call O_is_number hr hx (sa_cons (se_ix (sv 0) se_int) (sa_cons (sv 1) sa_nil)))))))
noncomputable def B_made_piece_1:Rho->Ou :=
    rIf (fNot (fT (fA (fCons (fVar 1) (fCons (fC (.int 1000000)) fNil)) (gCallX 2 v_is_cell)))) (rRse "BadPiece" (fCons (fC (.str "a step is a tuple of two whole numbers within the bound")) fNil)) rNx
noncomputable def g_made_piece:Rho->Ou :=
    rSeq (rIf (fOr (fNot (fT (fB (fVar 0) (gIsAT [.list,.tuple])))) (fT (fOp gEq (fA (fCons (fVar 0) fNil) gLen) (fC (.int 0))))) (rRse "BadPiece" (fCons (fC (.str "a piece is made of a list or a tuple with a step at least")) fNil)) rNx)
    (rSeq (gForI (hName 1) B_made_piece_1 (fL (fVar 0) asS))
    (rSeq (rSet 2 (fA (fCons (fVar 0) fNil) (gCallX 1 v_rising)))
    (rSeq (rIf (fT (fOp gGt (fA (fCons (fVar 2) fNil) gLen) (fC (.int 12)))) (rRse "BadPiece" (fCons (fC (.str "more unlike steps than a piece has")) fNil)) rNx)
    (rRet (fVar 2)))))
noncomputable def v_made_piece:List D->Rs D:=fun ds=>fin (g_made_piece (startR ["cells","thing","steps"] ds))
theorem ok_made_piece (F:Ent K mg "made_piece" s_made_piece) (O_is_cell:Okd P w K mg base "is_cell" 2 2 v_is_cell) (O_rising:Okd P w K mg base "rising" 1 1 v_rising):Okd P w K mg base "made_piece" 3 1 v_made_piece :=
  okd_o (k:=2) (g:=g_made_piece) F sc_made_piece fun _ _ _ _ _ _ _ _ hr hx =>
    rs_cons (rs_if (st_w (sw_or (st_not (st_val (re_isAT (ts:=[.list,.tuple]) T.b_isinstance (sv 0) (pt_cons (t:=.list) T.b_list PyProof.Rows.Boot.«list» (pt_cons (t:=.tuple) T.b_tuple PyProof.Rows.Boot.«tuple» pt_nil))))) (sw_or1 (st_eq (room8 hr) (se_len T.b_len (sv 0)) se_int)))) (rs_one (ss_raise pass_body rfl rfl rfl T.c_BadPiece T.n_BadPiece T.x_BadPiece PySem.F.excBase_ValueError (by decide) PySem.F.excBase_ValueError (sa_cons se_str sa_nil) (by decide))) rs_nil)
    (rs_cons (ss_forI PassesOwn.leaving rfl (ri_seq (sv 0)) (rg 1 sc_made_piece.nd) (rs_one (rs_if (st_not (st_val (re_call O_is_cell hr hx (sa_cons (sv 1) (sa_cons (re_glob T.g_FARTHEST_STEP) sa_nil))))) (rs_one (ss_raise pass_body rfl rfl rfl T.c_BadPiece T.n_BadPiece T.x_BadPiece PySem.F.excBase_ValueError (by decide) PySem.F.excBase_ValueError (sa_cons se_str sa_nil) (by decide))) rs_nil)))
    (rs_cons (rs_set 2 sc_made_piece.nd (re_call O_rising hr hx (sa_cons (sv 0) sa_nil)))
    (rs_cons (rs_if (st_gt (se_len T.b_len (sv 2)) (re_glob T.g_MOST_STEPS)) (rs_one (ss_raise pass_body rfl rfl rfl T.c_BadPiece T.n_BadPiece T.x_BadPiece PySem.F.excBase_ValueError (by decide) PySem.F.excBase_ValueError (sa_cons se_str sa_nil) (by decide))) rs_nil)
    (rs_one (rs_ret (sv 2))))))
noncomputable def g__law_refused:Rho->Ou :=
    rSeq (rOwn 1 fNil)
    (rSeq (gTry e_MossError 2 (rExp (fA (fCons (fVar 0) fNil) (gCallX 1 v_made_piece))) (rSeq (rOwn 1 (fCons (fB (fVar 2) (gIsX J_2)) (fCons (fB (fVar 2) (gIsX J_1)) (fCons (fB (fVar 2) (gIsX J_0)) fNil))))
    (rApp 1 (fB (fVar 2) (gIsX J_3)))))
    (rFrz 1 (rRet (fVar 1))))
noncomputable def v__law_refused:List D->Rs D:=fun ds=>fin (g__law_refused (startR ["handed","flags","e"] ds))
theorem ok__law_refused (F:Ent K mg "_law_refused" s__law_refused) (O_made_piece:Okd P w K mg base "made_piece" 3 1 v_made_piece):Okd P w K mg base "_law_refused" 4 1 v__law_refused :=
  okd_o (k:=3) (g:=g__law_refused) F sc__law_refused fun _ _ _ _ _ _ _ _ hr hx =>
    rs_cons (rs_own 1 sc__law_refused.nd sa_nil)
    (rs_cons (ss_try (m:=e_MossError) (i:=2) rfl rfl rfl sc__law_refused.nd rfl rfl rfl T.c_MossError T.e_MossError (fun E1 pl W1 hpv=>rs_one (rs_exp (re_call O_made_piece hr (passC_of hpv rfl) (sa_cons (sv 0) sa_nil)))) (fun ea=>rs_cons (rs_own 1 sc__law_refused.nd (sa_cons (re_isX (m:=J_2) T.j_2 T.b_isinstance T.c_BadPiece (sv 2)) (sa_cons (re_isXB (m:=J_1) T.j_1 T.b_isinstance T.b_ValueError (sv 2) PyProof.Rows.Boot.«ValueError») (sa_cons (re_isXT (m:=J_0) T.j_0 T.b_isinstance (sv 2) (pc_cons T.c_BadCell (pc_cons T.c_BadDeed (pc_cons T.c_BadTurn pc_nil)))) sa_nil))))
    (rs_one (rs_app 1 (re_isXT (m:=J_3) T.j_3 T.b_isinstance (sv 2) (pc_cons T.c_Endless (pc_cons T.c_NoCell (pc_cons T.c_NoMarks (pc_cons T.c_NoText (pc_cons T.c_TooMany (pc_cons T.c_TooWide pc_nil)))))))))))
    (rs_frz 1 (rs_one (rs_ret (sv 1)))))
noncomputable def B_law_1:Rho->Ou :=
    rSeq (rSetF 2 1 v__law_deal (fCons (fVar 1) fNil))
    (rSeq (xAsg (xM 2 0 v__law_faulty (xPA fNil)) (hTup 2 (hCons (hName 3) (hCons (hName 4) hNil))))
    (rSeq (rSet 5 (fA (fCons (fVar 3) fNil) (gCallX 1 v__law_kept)))
    (rSeq (rIf (fOr (fT (fOp gNe (fA (fCons (fVar 3) fNil) (gCallX 1 v__law_refused)) (fOp gIx (fA (fCons (fA fNil gLst) (fCons (fA (fCons (fC (.bl true)) (fCons (fC (.bl true)) (fCons (fC (.bl false)) (fCons (fC (.bl false)) fNil)))) gLst) fNil)) gLst) (fA (fCons (fVar 4) fNil) gInt)))) (fT (fOp gNeA (fVar 3) (fVar 5)))) (rRet (fC (.bl false))) rNx)
    (rIf (fAnd (fT (fB (fVar 3) (gIsA .list))) (fT (fOp gNe (fA (fCons (fA (fCons (fVar 3) fNil) gTupOf) fNil) (gCallX 1 v__law_refused)) (fOp gIx (fA (fCons (fA fNil gLst) (fCons (fA (fCons (fC (.bl true)) (fCons (fC (.bl true)) (fCons (fC (.bl false)) (fCons (fC (.bl false)) fNil)))) gLst) fNil)) gLst) (fA (fCons (fVar 4) fNil) gInt))))) (rRet (fC (.bl false))) rNx))))
noncomputable def g_law:Rho->Ou :=
    rSeq (rNox (gForL (hName 1) B_law_1 (fOp gPlus (fA (fCons (fC (.int 0)) fNil) gLst) (fVar 0))))
    (rRet (fC (.bl true)))
noncomputable def v_law:List D->Rs D:=fun ds=>fin (g_law (startR ["script","cell","left","handed","bad","kept"] ds))
theorem b_law {f:Addr} (O__law_deal:Okf P w K mg base "_law_deal" 2 1 v__law_deal) (O__law_faulty:Okm P w K mg base "_law_faulty" 4 0 v__law_faulty) (O__law_kept:Okd P w K mg base "_law_kept" 1 1 v__law_kept) (O__law_refused:Okd P w K mg base "_law_refused" 4 1 v__law_refused) {cdv:Value} {A:Around} {outer:List Env} {s:Shared} {H:Hp} {E:XK} {B:Bs} (hr:Room 4 (A.deeper (PyProof.Rows.envOfC "law" (defScope s_law) s.heap.objs.size f cdv)))
    (hx:PassC (cxOf (CXv P w K) P w K mg base ["script","cell","left","handed","bad","kept"] "law" (defScope s_law) f cdv A outer s H E) (fun c n _ H'=>E (enc c n) none H')) :
    SSs (cxOf (CXv P w K) P w K mg base ["script","cell","left","handed","bad","kept"] "law" (defScope s_law) f cdv A outer s H E) B (fun c n _ H'=>E (enc c n) none H') (defBody s_law) g_law :=
    rs_cons (rs_nox (ss_forL PassesOwn.never rfl (se_add (se_lst (sa_cons se_int sa_nil)) (sv 0)) (rg 1 sc_law.nd) (rs_cons (rs_setF 2 O__law_deal hr sc_law.nd (sa_cons (sv 1) sa_nil))
    (rs_cons (xs_asg (sx_callM 2 O__law_faulty hr (sax_pF sa_nil)) (sg_tup rfl (sgs_cons (rg 3 sc_law.nd) (sgs_cons (rg 4 sc_law.nd) sgs_nil))))
    (rs_cons (rs_set 5 sc_law.nd (re_call O__law_kept hr passC_F (sa_cons (sv 3) sa_nil)))
    (rs_cons (rs_if (st_w (sw_or (st_ne (room8 hr) (re_call O__law_refused hr passC_F (sa_cons (sv 3) sa_nil)) (se_ix (se_lst (sa_cons (se_lst sa_nil) (sa_cons (se_lst (sa_cons se_bl (sa_cons se_bl (sa_cons se_bl (sa_cons se_bl sa_nil))))) sa_nil))) (re_int T.b_int (sv 4)))) (sw_or1 (st_neA (room8 hr) (sv 3) (sv 5))))) (rs_one (rs_ret se_bl)) rs_nil)
    (rs_one (rs_if (st_w (sw_and (st_val (re_isA (t:=.list) T.b_isinstance T.b_list (sv 3) PyProof.Rows.Boot.«list»)) (sw_and1 (st_ne (room8 hr) (re_call O__law_refused hr passC_F (sa_cons (re_tuple T.b_tuple (sv 3)) sa_nil)) (se_ix (se_lst (sa_cons (se_lst sa_nil) (sa_cons (se_lst (sa_cons se_bl (sa_cons se_bl (sa_cons se_bl (sa_cons se_bl sa_nil))))) sa_nil))) (re_int T.b_int (sv 4))))))) (rs_one (rs_ret se_bl)) rs_nil))))))))
    (rs_one (rs_ret se_bl))
end
section
variable {l:OpenLaw} {w:World} {K:Frag} {h:Heap} {mg:Str->Option Value} {fa:Addr} {C_BadPiece C_MossError C_BadCell C_BadDeed C_BadTurn C_Endless C_NoCell C_NoMarks C_NoText C_TooMany:Addr} {C_TooWide:Addr}
  {f_law:Addr} {od_law an_law:Option Addr} {sl_law:Array (Option Value)} {oc_law kV_law dc_law pm_law cd_law ct_law:Value}
set_option maxHeartbeats 4000000 in
theorem all_mk (X:K.In h) (G:h.Ns mainGlobals mg) (hfa:mg "law"=some (.ref fa))
    {gt_FARTHEST_STEP} (g_FARTHEST_STEP:nsIn K mainGlobals "FARTHEST_STEP"=some (some (.int 1000000 gt_FARTHEST_STEP)))
    {gt_MOST_STEPS} (g_MOST_STEPS:nsIn K mainGlobals "MOST_STEPS"=some (some (.int 12 gt_MOST_STEPS)))
    (n_BadPiece:nsIn K mainGlobals "BadPiece"=some (some (.ref C_BadPiece)))
    (x_BadPiece:excIn K C_BadPiece [.type "ValueError",.type "Exception",.type "BaseException",.type "object"] "ValueError.__new__"=true)
    (n_MossError:nsIn K mainGlobals "MossError"=some (some (.ref C_MossError)))
    (x_MossError:excIn K C_MossError [.type "ValueError",.type "Exception",.type "BaseException",.type "object"] "ValueError.__new__"=true)
    (n_BadCell:nsIn K mainGlobals "BadCell"=some (some (.ref C_BadCell)))
    (n_BadDeed:nsIn K mainGlobals "BadDeed"=some (some (.ref C_BadDeed)))
    (n_BadTurn:nsIn K mainGlobals "BadTurn"=some (some (.ref C_BadTurn)))
    (n_Endless:nsIn K mainGlobals "Endless"=some (some (.ref C_Endless)))
    (n_NoCell:nsIn K mainGlobals "NoCell"=some (some (.ref C_NoCell)))
    (n_NoMarks:nsIn K mainGlobals "NoMarks"=some (some (.ref C_NoMarks)))
    (n_NoText:nsIn K mainGlobals "NoText"=some (some (.ref C_NoText)))
    (n_TooMany:nsIn K mainGlobals "TooMany"=some (some (.ref C_TooMany)))
    (n_TooWide:nsIn K mainGlobals "TooWide"=some (some (.ref C_TooWide)))
    (y_BadPiece:exk K C_BadPiece=true)
    (j_0_BadPiece:kitAny K (.ref C_BadPiece) (List.map Value.ref [C_BadCell,C_BadDeed,C_BadTurn])=some false)
    (j_1_BadPiece:kitOne K (.ref C_BadPiece) (.type "ValueError")=some true)
    (j_2_BadPiece:kitOne K (.ref C_BadPiece) (.ref C_BadPiece)=some true)
    (j_3_BadPiece:kitAny K (.ref C_BadPiece) (List.map Value.ref [C_Endless,C_NoCell,C_NoMarks,C_NoText,C_TooMany,C_TooWide])=some false)
    (e_MossError_MossError:exmOne K (.ref C_MossError) (.ref C_MossError)=some true)
    (e_MossError_BadPiece:exmOne K (.ref C_BadPiece) (.ref C_MossError)=some true)
    (a__law_mixed:Dn K "_law_mixed" s__law_mixed)
    (a__law_deal:Dn K "_law_deal" s__law_deal)
    (a__law_next:Dn K "_law_next" s__law_next)
    (a__law_step:Dn K "_law_step" s__law_step)
    (a__law_piece:Dn K "_law_piece" s__law_piece)
    (a__law_no_row:Dn K "_law_no_row" s__law_no_row)
    (a__law_bad:Dn K "_law_bad" s__law_bad)
    (a__law_faulty:Dn K "_law_faulty" s__law_faulty)
    (a__law_kept:Dn K "_law_kept" s__law_kept)
    (a_rising:Dn K "rising" s_rising)
    (a_is_number:Dn K "is_number" s_is_number)
    (a_is_cell:Dn K "is_cell" s_is_cell)
    (a_made_piece:Dn K "made_piece" s_made_piece)
    (a__law_refused:Dn K "_law_refused" s__law_refused)
    (a_law:nsIn K mainGlobals "law"=some (some (.ref f_law)))
    (l_law:K.lookup f_law=some ⟨oc_law,od_law,.func (fnOf "law" "law" (defArgs s_law) (defBody s_law) (defScope s_law) .none kV_law dc_law pm_law an_law cd_law ct_law),sl_law⟩)
    (d_law:codeIn K cd_law "law"=true)
    (k_law:keepIn K (.ref f_law)=true)
    (z_ValueError:nsIn K mainGlobals "ValueError"=some none)
    (z_bool:nsIn K mainGlobals "bool"=some none)
    (z_divmod:nsIn K mainGlobals "divmod"=some none)
    (z_int:nsIn K mainGlobals "int"=some none)
    (z_isinstance:nsIn K mainGlobals "isinstance"=some none)
    (z_len:nsIn K mainGlobals "len"=some none)
    (z_list:nsIn K mainGlobals "list"=some none)
    (z_range:nsIn K mainGlobals "range"=some none)
    (z_set:nsIn K mainGlobals "set"=some none)
    (z_sorted:nsIn K mainGlobals "sorted"=some none)
    (z_tuple:nsIn K mainGlobals "tuple"=some none) :
    ∃ fd:FuncData,(∀ (s:Shared) (v:Value),BindsTo s fd ⟨[v],[]⟩ [("script",v)])/\∀ base:Heap,K.In base->base.Ns mainGlobals mg->FnOk l.prog w K mg base (CXv l.prog w K) 5 fa fd ["script"] (spV K 1 v_law):=by
  have e:=hfa.symm.trans (mg_of X G a_law)
  cases e
  have F_law:=fun_mk (st:=s_law) l_law d_law k_law
  refine ⟨fnOf "law" "law" (defArgs s_law) (defBody s_law) (defScope s_law) .none kV_law dc_law pm_law an_law cd_law ct_law,fun s v=>.of_eq rfl,fun base _ _=>?_⟩
  have T:Txt l.prog w base K mg C_BadPiece C_MossError C_BadCell C_BadDeed C_BadTurn C_Endless C_NoCell C_NoMarks C_NoText C_TooMany C_TooWide:=⟨mg_none_of X G z_ValueError,
    mg_none_of X G z_bool,
    mg_none_of X G z_divmod,
    mg_none_of X G z_int,
    mg_none_of X G z_isinstance,
    mg_none_of X G z_len,
    mg_none_of X G z_list,
    mg_none_of X G z_range,
    mg_none_of X G z_set,
    mg_none_of X G z_sorted,
    mg_none_of X G z_tuple,
    ⟨_,mg_of X G g_FARTHEST_STEP⟩,
    ⟨_,mg_of X G g_MOST_STEPS⟩,
    mg_of X G n_BadPiece,
    n_BadPiece,
    x_BadPiece,
    (fun c C hc hC=>(by simp only [m_BadPiece,Bool.or_eq_true,beq_iff_eq,or_assoc] at hc;exact (fun z=>by subst z;rw [n_BadPiece] at hC;cases hC;exact kit_same _) hc)),
    mg_of X G n_MossError,
    n_MossError,
    x_MossError,
    (fun c C hc hC=>(by simp only [m_MossError,Bool.or_eq_true,beq_iff_eq,or_assoc] at hc;exact (fun z=>z.elim (fun z=>by subst z;rw [n_MossError] at hC;cases hC;exact kit_same _) (fun z=>by subst z;rw [n_BadPiece] at hC;cases hC;exact kit_below e_MossError_BadPiece)) hc)),
    (fun c C hc hC=>(by simp only [m_MossError,Bool.or_eq_true,beq_iff_eq,or_assoc] at hc;exact (fun z=>z.elim (fun z=>by subst z;rw [n_MossError] at hC;cases hC;exact e_MossError_MossError) (fun z=>by subst z;rw [n_BadPiece] at hC;cases hC;exact e_MossError_BadPiece)) hc)),
    mg_of X G n_BadCell,
    mg_of X G n_BadDeed,
    mg_of X G n_BadTurn,
    mg_of X G n_Endless,
    mg_of X G n_NoCell,
    mg_of X G n_NoMarks,
    mg_of X G n_NoText,
    mg_of X G n_TooMany,
    mg_of X G n_TooWide,
    (isx_cons n_BadPiece ⟨y_BadPiece,j_0_BadPiece⟩ isx_nil),
    (isx_cons n_BadPiece ⟨y_BadPiece,j_1_BadPiece⟩ isx_nil),
    (isx_cons n_BadPiece ⟨y_BadPiece,j_2_BadPiece⟩ isx_nil),
    (isx_cons n_BadPiece ⟨y_BadPiece,j_3_BadPiece⟩ isx_nil)⟩
  have O__law_mixed:=ok__law_mixed T (a__law_mixed.ent X G)
  have O__law_deal:=ok__law_deal T (a__law_deal.ent X G) O__law_mixed
  have O__law_next:=ok__law_next T (a__law_next.ent X G)
  have O__law_step:=ok__law_step T (a__law_step.ent X G) O__law_next
  have O__law_piece:=ok__law_piece T (a__law_piece.ent X G) O__law_next O__law_step
  have O__law_no_row:=ok__law_no_row T (a__law_no_row.ent X G) O__law_next
  have O__law_bad:=ok__law_bad T (a__law_bad.ent X G) O__law_next
  have O__law_faulty:=ok__law_faulty T (a__law_faulty.ent X G) O__law_piece O__law_next O__law_no_row O__law_bad
  have O__law_kept:=ok__law_kept T (a__law_kept.ent X G)
  have O_rising:=ok_rising T (a_rising.ent X G)
  have O_is_number:=ok_is_number T (a_is_number.ent X G)
  have O_is_cell:=ok_is_cell T (a_is_cell.ent X G) O_is_number
  have O_made_piece:=ok_made_piece T (a_made_piece.ent X G) O_is_cell O_rising
  have O__law_refused:=ok__law_refused T (a__law_refused.ent X G) O_made_piece
  exact fn_v F_law sc_law fun cdv A outer s H E B hr=>b_law T O__law_deal O__law_faulty O__law_kept O__law_refused hr (passC_of pass_body rfl)
end
end K11
namespace K11
open PySem PySem.Spec PySem.Calls PySem.W L2 Vl
theorem w_next (m n:Int) (h:0 < n) (h2:n < 2 ^ 200):v__law_next [.int m] [.int n]=.ok (.int (m % n),[.int (m / n)]):=by
  have run:g__law_next (startM ["left","many","digit"] [.int m] [.int n])=.rx (.int (m % n)) [.op [.int (m / n)],.fz (.int n),.fz (.int (m % n))]:=by
    unfold g__law_next
    exact seq_nx (xs_next1 (v_a (v_cons (v_ixO rfl rfl v_c rfl) (v_cons (v_var rfl) v_nil)) (q_dm ⟨h,h2⟩)) rfl rfl v_c rfl) (xs_ret1 (xv_p (v_var rfl)))
  unfold v__law_next;rw [run];rfl
theorem xn {ρ:Rho} {i:Nat} {z:Sl} {m n:Int} {fs:Rho->Rs (List D)} (h0:ρ[i]?=some z) (l0:lent z=some [.int m]) (hf:fs ρ=.ok [.int n]) (h:0 < n) (h2:n < 2 ^ 200):xM i 1 v__law_next (xPA fs) ρ=.ok (.int (m % n),ρ.set i (relent z [.int (m / n)])) :=
  xv_m h0 l0 (xv_pa hf) rfl h0 l0 (w_next m n h h2)
theorem mixed_run {c k A1 A2 A3 p A4 q A5 A6 A7:Int} (e1:gMod (.int c) (.int 1000000000000000009)=.ok (.int A1)) (e2:gMul (.int 7919) (.int k)=.ok (.int A2)) (e3:gMul (.int (A1 + A2 + 12345)) (.int 48271)=.ok (.int A3)) (e4:gMod (.int A3) (.int 2305843009213693951)=.ok (.int p))
    (e5:gMul (.int p) (.int p)=.ok (.int A4)) (e6:gMod (.int A4) (.int 2305843009213693921)=.ok (.int q)) (e7:gMul (.int (q + k)) (.int 69621)=.ok (.int A5)) (e8:gMod (.int A5) (.int 2305843009213693951)=.ok (.int A6)) (e9:gDiv (.int A6) (.int 8)=.ok (.int A7)) :
    v__law_mixed [.int c,.int k]=.ok (.int A7):=by
  unfold v__law_mixed g__law_mixed
  simp (config:={ decide:=false }) only [rSeq,x_onx,x_ort,x_oex,x_ok,x_ex,x_bok,x_bex,x_oO,x_fnx,x_frt,x_fex,x_nnx,x_nrt,x_nxok,rSet,rRet,rExp,rIf,rAsg,rPar,rNox,rNx,rOwn,rApp,rFrz,rRse,fOp,fVar,fC,fA,fB,fCons,fNil,fT,fNot,fAnd,fOr,fAndV,fOrV,fNotV,fNeg,fL,fSl,fP,fNoP,toB,toI,x_call,q_plus,q_sub,q_lt,q_le,q_gt,q_ge,x_lenL,x_lenT,x_tofL,x_tofT,x_lofL,x_lofT,x_intI,x_intB,x_isN,x_notN,x_nn,x_nb,x_ni,x_nt,x_nl,x_neg,q_eqI,q_neI,x_ixT,x_ixL,x_at0,x_at1,hName,hTup,hCons,hNil,startR,List.map_cons,List.map_nil,List.length_cons,List.length_nil,List.replicate,List.cons_append,List.nil_append,List.getElem?_cons_zero,List.getElem?_cons_succ,List.set_cons_zero,List.set_cons_succ,Nat.reduceAdd,Nat.reduceSub,Nat.reduceEqDiff,Nat.reduceLeDiff,Nat.zero_add,Option.bind_some,if_true,if_false,ite_true,ite_false,decide_true,decide_false,Bool.not_true,Bool.not_false,Bool.false_eq_true,reduceIte,reduceCtorEq,e1,e2,e3,e4,e5,e6,e7,e8,e9]
theorem w_mixed (c:Int) (k:Nat) (hk:k < 24):∃ n:Int,v__law_mixed [.int c,.int k]=.ok (.int n):=by
  have e1:=q_mod (m:=c) (n:=1000000000000000009) (by decide)
  have e2:gMul (.int 7919) (.int k)=.ok (.int (7919 * k)):=q_mulL (by omega)
  have e3:gMul (.int (c % 1000000000000000009 + 7919 * k + 12345)) (.int 48271)=.ok (.int ((c % 1000000000000000009 + 7919 * k + 12345) * 48271)):=q_mulL (by decide)
  have e4:=q_mod (m:=(c % 1000000000000000009 + 7919 * k + 12345) * 48271) (n:=2305843009213693951) (by decide)
  have b1:0<=(c % 1000000000000000009 + 7919 * k + 12345) * 48271 % 2305843009213693951:=Int.emod_nonneg _ (by decide)
  have b2:(c % 1000000000000000009 + 7919 * k + 12345) * 48271 % 2305843009213693951 < 2305843009213693951:=Int.emod_lt_of_pos _ (by decide)
  generalize (c % 1000000000000000009 + 7919 * k + 12345) * 48271 % 2305843009213693951=p at e4 b1 b2
  have e5:gMul (.int p) (.int p)=.ok (.int (p * p)):=q_mulL (by omega)
  have e6:=q_mod (m:=p * p) (n:=2305843009213693921) (by decide)
  generalize p * p % 2305843009213693921=q at e6
  have e7:gMul (.int (q + k)) (.int 69621)=.ok (.int ((q + k) * 69621)):=q_mulL (by decide)
  have e8:=q_mod (m:=(q + k) * 69621) (n:=2305843009213693951) (by decide)
  generalize (q + k) * 69621 % 2305843009213693951=u at e8
  exact ⟨_,mixed_run e1 e2 e3 e4 e5 e6 e7 e8 (q_div ⟨by decide,by decide⟩)⟩
theorem deal_loop (c:Int):∃ (n:Int) (a:Sl),gForR (hName 2) B_law_deal_1 (fC (.int 24)) [.fz (.int c),.fz (.int 0),.no]=.nx [.fz (.int c),.fz (.int n),a]:=by
  obtain ⟨ρ',e1,n,a,rfl⟩:=forD_all (h:=hName 2) (g:=B_law_deal_1) (fun ρ=>∃ (n:Int) (a:Sl),ρ=[.fz (.int c),.fz (.int n),a])
    (ds:=(List.range 24).map fun (i:Nat)=>.int i) (ρ:=[.fz (.int c),.fz (.int 0),.no]) ⟨_,_,rfl⟩ (by
      rintro d hd ρ ⟨n,a,rfl⟩
      obtain ⟨j,hj,rfl⟩:=List.mem_map.mp hd
      obtain ⟨x,hx⟩:=w_mixed c j (List.mem_range.mp hj)
      refine ⟨_,_,rfl,?_,n * 1152921504606846976 + x % 1152921504606846976,.fz (.int j),rfl⟩
      unfold B_law_deal_1
      exact s_set (v_op (v_op (v_var rfl) v_c (q_mul (.inr ⟨by decide,by decide⟩))) (v_op (v_a (v_cons (v_var rfl) (v_cons (v_var rfl) v_nil)) (v_call rfl hx)) v_c (q_mod (by decide))) q_plus))
  exact ⟨n,a,s_forR (N:=24) v_c (by decide) rfl e1⟩
theorem w_deal (c:Int):∃ m:Int,v__law_deal [.int c]=.ok [.int m]:=by
  have p1:gPow (.int 10) (.int 18)=.ok (.int (10 ^ Int.toNat 18)):=q_pow ⟨by decide,by decide,by decide⟩
  generalize (10:Int) ^ Int.toNat 18=T at p1
  obtain ⟨n,a,e⟩:=deal_loop c
  cases h:decide (T<=c) with
  | true =>
    refine ⟨c - T,?_⟩
    have run:g__law_deal (startR ["cell","great","k"] [.int c])=.rl [.int (c - T)]:=by
      unfold g__law_deal
      have:rIf (fT (fOp gGe (fVar 0) (fOp gPow (fC (.int 10)) (fC (.int 18))))) (rRetL (fCons (fOp gSub (fVar 0) (fOp gPow (fC (.int 10)) (fC (.int 18)))) fNil)) rNx (startR ["cell","great","k"] [.int c])=.rl [.int (c - T)]:=by
        refine s_if_t (v_t (v_op (v_var rfl) (v_op v_c v_c p1) (by rw [q_ge,h]))) ?_
        unfold rRetL
        rw [v_cons (v_op (v_var (d:=.int c) rfl) (v_op v_c v_c p1) q_sub) v_nil];rfl
      unfold rSeq;rw [this];rfl
    unfold v__law_deal;rw [run];rfl
  | false =>
    refine ⟨n,?_⟩
    have run:g__law_deal (startR ["cell","great","k"] [.int c])=.rl [.int n]:=by
      unfold g__law_deal
      refine seq_nx (s_if_f (v_t (v_op (v_var rfl) (v_op v_c v_c p1) (by rw [q_ge,h]))) s_nx) ?_
      refine seq_nx (ρ1:=[.fz (.int c),.fz (.int 0),.no]) (s_set v_c) ?_
      refine seq_nx (s_nox e) ?_
      rfl
    unfold v__law_deal;rw [run];rfl
noncomputable def Bd (x:Int):Prop:=-1000000<=x/\x<=1000000
noncomputable def Near (ks:List Int):Prop:=∃ x y:Int,ks=[x,y]/\Bd x/\Bd y
noncomputable def Bl (x:Int):Prop:=-999998<=x/\x<=999998
theorem bd_mul {t s:Int} (h:-6<=t/\t<=6) (hs:0<=s/\s<=100003):Bd (t * s):=by
  have a:=Int.mul_le_mul_of_nonneg_right h.1 hs.1
  have b:=Int.mul_le_mul_of_nonneg_right h.2 hs.1
  unfold Bd;omega
theorem step_last {m w lx ly:Int} {s:Sl} (bx:Bl lx) (by':Bl ly):∃ x y m':Int,(Bd x/\Bd y)/\xRet (xA (xCons (xOp Vl.gSub (xOp gPlus (xP (fOp gIx (fVar 2) (fC (.int 0)))) (xM 0 1 v__law_next (xPA (fCons (fC (.int 5)) fNil)))) (xP (fC (.int 2)))) (xCons (xOp Vl.gSub (xOp gPlus (xP (fOp gIx (fVar 2) (fC (.int 1)))) (xM 0 1 v__law_next (xPA (fCons (fC (.int 5)) fNil)))) (xP (fC (.int 2)))) xNil)) Vl.gTup) [.op [.int m],.fz (.int w),.fz (tupK [lx,ly]),s]=.rx (tupK [x,y]) [.op [.int m'],.fz (.int w),.fz (tupK [lx,ly]),s] :=
  ⟨lx + m % 5 - 2,ly + m / 5 % 5 - 2,m / 5 / 5,by unfold Bl at *;unfold Bd;omega,xs_ret1 (xv_a (xv_cons (xv_op (xv_op (xv_p (v_op (v_var rfl) v_c rfl)) (xn rfl rfl (v_cons v_c v_nil) (by decide) (by decide)) q_plus) (xv_p v_c) q_sub) (xv_cons (xv_op (xv_op (xv_p (v_op (v_var rfl) v_c rfl)) (xn rfl rfl (v_cons v_c v_nil) (by decide) (by decide)) q_plus) (xv_p v_c) q_sub) xv_nil)) (t2 _ _))⟩
theorem w_step (m w lx ly sp:Int) (hs:0<=sp/\sp<=100003) (bx:Bl lx) (by':Bl ly):∃ x y m':Int,(Bd x/\Bd y)/\v__law_step [.int m] [.int w,tupK [lx,ly],.int sp]=.ok (tupK [x,y],[.int m']):=by
  have fin1:∀ {x y m':Int} {zs:List Sl},g__law_step (startM ["left","way","lead","spread"] [.int m] [.int w,tupK [lx,ly],.int sp])=.rx (tupK [x,y]) (.op [.int m']::zs)->(Bd x/\Bd y)->∃ x y m':Int,(Bd x/\Bd y)/\v__law_step [.int m] [.int w,tupK [lx,ly],.int sp]=.ok (tupK [x,y],[.int m']):=fun {x y m' zs} h hb=>⟨x,y,m',hb,by unfold v__law_step;rw [h];rfl⟩
  cases h3:decide (w=3) with
  | true =>
    have w3:w=3:=of_decide_eq_true h3
    cases h0:decide (m % 3=0) with
    | true =>
      have ix:∃ z:Int,Bd z/\gIx (.lst [.int (-1000000),.int 1000000]) (.int (m / 3 / 2000001 % 2))=.ok (.int z):=by
        rcases (show m / 3 / 2000001 % 2=0∨m / 3 / 2000001 % 2=1 by omega) with e|e <;> rw [e]
        . exact ⟨_,by unfold Bd;decide,rfl⟩
        . exact ⟨_,by unfold Bd;decide,rfl⟩
      obtain ⟨z,hz,ix⟩:=ix
      refine fin1 (x:=m / 3 % 2000001 - 1000000) (y:=z) (m':=m / 3 / 2000001 / 2) (zs:=[.fz (.int w),.fz (tupK [lx,ly]),.fz (.int sp)]) ?_ ⟨by unfold Bd;omega,hz⟩
      unfold g__law_step
      refine seq_rx (xs_if_t (ρ1:=[.op [.int (m / 3)],.fz (.int w),.fz (tupK [lx,ly]),.fz (.int sp)]) (xv_and_t (xv_pt (v_t (v_op (v_var rfl) v_c (by rw [q_eqI,h3])))) (xv_t (xv_op (xn rfl rfl (v_cons v_c v_nil) (by decide) (by decide)) (xv_p v_c) (by rw [q_eqI,h0])))) ?_)
      exact xs_ret1 (xv_a (xv_cons (xv_op (xn rfl rfl (v_cons v_c v_nil) (by decide) (by decide)) (xv_p v_c) q_sub) (xv_cons (xv_op (xv_p (v_a (v_cons (v_neg v_c) (v_cons v_c v_nil)) (v_lst (by simp)))) (xn rfl rfl (v_cons v_c v_nil) (by decide) (by decide)) ix) xv_nil)) (t2 _ _))
    | false =>
      obtain ⟨x,y,m',hb,e⟩:=step_last (m:=m / 3) (w:=w) (lx:=lx) (ly:=ly) (s:=.fz (.int sp)) bx by'
      refine fin1 (x:=x) (y:=y) (m':=m') (zs:=[.fz (.int w),.fz (tupK [lx,ly]),.fz (.int sp)]) ?_ hb
      unfold g__law_step
      refine seq_nx (xs_if_f (ρ1:=[.op [.int (m / 3)],.fz (.int w),.fz (tupK [lx,ly]),.fz (.int sp)]) (xv_and_t (xv_pt (v_t (v_op (v_var rfl) v_c (by rw [q_eqI,h3])))) (xv_t (xv_op (xn rfl rfl (v_cons v_c v_nil) (by decide) (by decide)) (xv_p v_c) (by rw [q_eqI,h0])))) s_nx) ?_
      refine seq_nx (s_if_f (v_t (v_op (v_var rfl) v_c (by rw [q_eqI,w3];rfl))) s_nx) e
  | false =>
    cases h1:decide (w=1) with
    | true =>
      refine fin1 (x:=0) (y:=(m % 13 - 6) * sp) (m':=m / 13) (zs:=[.fz (.int w),.fz (tupK [lx,ly]),.fz (.int sp)]) ?_ ⟨by unfold Bd;decide,bd_mul (by omega) hs⟩
      unfold g__law_step
      refine seq_nx (xs_if_f (ρ1:=[.op [.int m],.fz (.int w),.fz (tupK [lx,ly]),.fz (.int sp)]) (xv_and_f (xv_pt (v_t (v_op (v_var rfl) v_c (by rw [q_eqI,h3]))))) s_nx) ?_
      refine seq_rx (s_if_t (v_t (v_op (v_var rfl) v_c (by rw [q_eqI,h1]))) ?_)
      exact xs_ret1 (xv_a (xv_cons (xv_p v_c) (xv_cons (xv_op (xv_op (xn rfl rfl (v_cons v_c v_nil) (by decide) (by decide)) (xv_p v_c) q_sub) (xv_p (v_var rfl)) (q_mulL (by omega))) xv_nil)) (t2 _ _))
    | false =>
      obtain ⟨x,y,m',hb,e⟩:=step_last (m:=m) (w:=w) (lx:=lx) (ly:=ly) (s:=.fz (.int sp)) bx by'
      refine fin1 (x:=x) (y:=y) (m':=m') (zs:=[.fz (.int w),.fz (tupK [lx,ly]),.fz (.int sp)]) ?_ hb
      unfold g__law_step
      refine seq_nx (xs_if_f (ρ1:=[.op [.int m],.fz (.int w),.fz (tupK [lx,ly]),.fz (.int sp)]) (xv_and_f (xv_pt (v_t (v_op (v_var rfl) v_c (by rw [q_eqI,h3]))))) s_nx) ?_
      exact seq_nx (s_if_f (v_t (v_op (v_var rfl) v_c (by rw [q_eqI,h1]))) s_nx) e
theorem piece_loop {w mn lx ly sp:Int} (hs:0<=sp/\sp<=100003) (bx:Bl lx) (by':Bl ly):∀ (l:List Nat) (m:Int) (kvs:List (List Int×D)) (a6:Sl),GN kvs->(∀ k∈kvs.map (·.1),Near k)->kvs.length + l.length<=1000 ->
    ∃ (m':Int) (kvs':List (List Int×D)) (b6:Sl),forD (hName 6) B_law_piece_1 (l.map fun (i:Nat)=>.int i) [.op [.int m],.fz (.int w),.fz (.int mn),.fz (.int sp),.fz (tupK [lx,ly]),.od kvs,a6]=.nx [.op [.int m'],.fz (.int w),.fz (.int mn),.fz (.int sp),.fz (tupK [lx,ly]),.od kvs',b6]/\GN kvs'/\(∀ k∈kvs'.map (·.1),Near k)/\kvs'.length<=kvs.length + l.length/\(kvs≠[]∨l≠[]->kvs'≠[])
  | [],m,kvs,a6,g,n,_=>⟨m,kvs,a6,rfl,g,n,by simp,fun h=>h.elim id fun z=>(z rfl).elim⟩
  | i::l,m,kvs,a6,g,n,hl=>by
    simp only [List.length_cons] at hl
    obtain ⟨x,y,m1,hb',e⟩:=w_step m w lx ly sp hs bx by'
    have lp:=put_len kvs [x,y] (.bl true)
    have hb:B_law_piece_1 [.op [.int m],.fz (.int w),.fz (.int mn),.fz (.int sp),.fz (tupK [lx,ly]),.od kvs,.fz (.int i)]=.nx [.op [.int m1],.fz (.int w),.fz (.int mn),.fz (.int sp),.fz (tupK [lx,ly]),.od (putD kvs [x,y] (.bl true)),.fz (.int i)]:=by
      unfold B_law_piece_1
      exact xs_put2 (ks:=[x,y]) (kvs:=kvs) rfl (xv_m rfl rfl (xv_pa (v_cons (v_var rfl) (v_cons (v_var rfl) (v_cons (v_var rfl) v_nil)))) rfl rfl rfl e) rfl v_c (by omega) rfl
    obtain ⟨m2,k2,b6,e2,g2,n2,l2,ne⟩:=piece_loop (w:=w) (mn:=mn) (lx:=lx) (ly:=ly) hs bx by' l m1 (putD kvs [x,y] (.bl true)) (.fz (.int i)) (g.put _ _ _) (fun k hk=>((put_keys kvs [x,y] k _).mp hk).elim (fun z=>⟨x,y,z,hb'⟩) (n k)) (by omega)
    refine ⟨m2,k2,b6,?_,g2,n2,by simp only [List.length_cons];omega,fun _=>ne (.inl fun z=>?_)⟩
    . simp only [List.map_cons,forD,hName,List.set_cons_succ,List.set_cons_zero,hb]
      exact e2
    . have:=(put_keys kvs [x,y] [x,y] (.bl true)).mpr (.inl rfl)
      rw [z] at this;cases this
structure Ps (n:Nat) (L:KL):Prop where
  pr:∀ ks∈L,Pair ks
  nd:L.Nodup
  ex:∃ L0,L=So.sortK L0
  ne:L≠[]
  le:L.length<=n
theorem sort_nd {l:KL} (h:l.Nodup):(So.sortK l).Nodup:=(So.sortK_perm l).nodup_iff.mpr h
theorem ps_of {n:Nat} {kvs:List (List Int×D)} (g:GN kvs) (ne:kvs≠[]) (hl:kvs.length<=n):Ps n (So.sortK (kvs.map (·.1))) :=
  ⟨fun ks hk=>g.pr ks (sortK_mem.mp hk),sort_nd g.nd,⟨_,rfl⟩,fun z=>ne (by
    have:=congrArg List.length z
    rw [sortK_len,List.length_map] at this
    exact List.length_eq_zero_iff.mp this),by rw [sortK_len,List.length_map];exact hl⟩
theorem w_piece (m:Int):∃ (m':Int) (L:KL),v__law_piece [.int m] []=.ok (.tup (L.map tupK),[.int m'])/\Ps 12 L/\∀ k∈L,Near k:=by
  have w0:0<=m % 4:=Int.emod_nonneg _ (by decide)
  have ix:∃ z:Int,(0 < z/\z<=12)/\gIx (.lst [.int 4,.int 3,.int 4,.int 12]) (.int (m / 4 % 4))=.ok (.int z):=by
    rcases (show m / 4 % 4=0∨m / 4 % 4=1∨m / 4 % 4=2∨m / 4 % 4=3 by omega) with e|e|e|e <;> rw [e]
    . exact ⟨_,by decide,rfl⟩
    . exact ⟨_,by decide,rfl⟩
    . exact ⟨_,by decide,rfl⟩
    . exact ⟨_,by decide,rfl⟩
  obtain ⟨z,⟨z0,z12⟩,ix⟩:=ix
  generalize hm1:m / 4 / 4 / z=m1
  have d0:0<=m / 4 / 4 % z:=Int.emod_nonneg _ (by omega)
  have d1:m / 4 / 4 % z < z:=Int.emod_lt_of_pos _ (by omega)
  generalize hM:m / 4 / 4 % z=M at d0 d1
  have ix2:∃ s:Int,(0<=s/\s<=100003)/\gIx (.lst [.int 1,.int 1,.int 7,.int 100003]) (.int (m1 % 4))=.ok (.int s):=by
    rcases (show m1 % 4=0∨m1 % 4=1∨m1 % 4=2∨m1 % 4=3 by omega) with e|e|e|e <;> rw [e]
    . exact ⟨_,by decide,rfl⟩
    . exact ⟨_,by decide,rfl⟩
    . exact ⟨_,by decide,rfl⟩
    . exact ⟨_,by decide,rfl⟩
  obtain ⟨s,hs,ix2⟩:=ix2
  generalize hw:m % 4=w at w0
  have lead:∃ (m2 lx ly:Int),(Bl lx/\Bl ly)/\rIf (fT (fOp gEq (fVar 1) (fC (.int 2)))) (xSet 4 (xA (xCons (xOp Vl.gSub (xM 0 1 v__law_next (xPA (fCons (fC (.int 1999997)) fNil))) (xP (fC (.int 999998)))) (xCons (xOp Vl.gSub (xM 0 1 v__law_next (xPA (fCons (fC (.int 1999997)) fNil))) (xP (fC (.int 999998)))) xNil)) Vl.gTup)) rNx
      [.op [.int (m1 / 4)],.fz (.int w),.fz (.int (1 + M)),.fz (.int s),.fz (tupK [0,0]),.no,.no]=.nx [.op [.int m2],.fz (.int w),.fz (.int (1 + M)),.fz (.int s),.fz (tupK [lx,ly]),.no,.no]:=by
    cases h:decide (w=2) with
    | false=>exact ⟨m1 / 4,0,0,by unfold Bl;decide,s_if_f (v_t (v_op (v_var rfl) v_c (by rw [q_eqI,h]))) s_nx⟩
    | true=>exact ⟨m1 / 4 / 1999997 / 1999997,m1 / 4 % 1999997 - 999998,m1 / 4 / 1999997 % 1999997 - 999998,by unfold Bl;omega,s_if_t (v_t (v_op (v_var rfl) v_c (by rw [q_eqI,h]))) (xs_set2 (xv_a (xv_cons (xv_op (xn rfl rfl (v_cons v_c v_nil) (by decide) (by decide)) (xv_p v_c) q_sub) (xv_cons (xv_op (xn rfl rfl (v_cons v_c v_nil) (by decide) (by decide)) (xv_p v_c) q_sub) xv_nil)) (t2 _ _)) rfl)⟩
  obtain ⟨m2,lx,ly,⟨bx,by'⟩,el⟩:=lead
  obtain ⟨M',rfl⟩:∃ M':Nat,M=M':=⟨M.toNat,by omega⟩
  obtain ⟨m3,kvs,b6,e,g,nr,l,ne⟩:=piece_loop (w:=w) (mn:=1 + (M':Int)) (lx:=lx) (ly:=ly) hs bx by' (List.range (1 + M')) m2 [] .no .nil (fun _ h=>(by cases h)) (by rw [List.length_range];simp only [List.length_nil];omega)
  rw [List.length_range,List.length_nil] at l
  have nn:kvs≠[]:=ne (.inr (by intro z;have:=congrArg List.length z;rw [List.length_range] at this;simp at this))
  refine ⟨m3,_,?_,ps_of g nn (by omega),fun k hk=>nr k (sortK_mem.mp hk)⟩
  have run:g__law_piece (startM ["left","way","many","spread","lead","steps","k"] [.int m] [])=.rx (.tup ((So.sortK (kvs.map (·.1))).map tupK)) [.op [.int m3],.fz (.int w),.fz (.int (1 + M')),.fz (.int s),.fz (tupK [lx,ly]),.od kvs,b6]:=by
    unfold g__law_piece
    refine seq_nx (ρ1:=[.op [.int (m / 4)],.fz (.int w),.no,.no,.no,.no,.no]) (by rw [<- hw];exact xs_set2 (xn rfl rfl (v_cons v_c v_nil) (by decide) (by decide)) rfl) ?_
    refine seq_nx (ρ1:=[.op [.int m1],.fz (.int w),.fz (.int (1 + M')),.no,.no,.no,.no]) (by
      rw [<- hM,<- hm1]
      exact xs_set2 (xv_op (xv_p v_c) (xv_m rfl rfl (xv_cons (xv_op (xv_p (v_a (v_cons v_c (v_cons v_c (v_cons v_c (v_cons v_c v_nil)))) (v_lst (by simp)))) (xn rfl rfl (v_cons v_c v_nil) (by decide) (by decide)) ix) xv_nil) rfl rfl rfl (w_next _ z z0 (by omega))) q_plus) rfl) ?_
    refine seq_nx (ρ1:=[.op [.int (m1 / 4)],.fz (.int w),.fz (.int (1 + M')),.fz (.int s),.no,.no,.no]) (xs_set2 (xv_op (xv_p (v_a (v_cons v_c (v_cons v_c (v_cons v_c (v_cons v_c v_nil)))) (v_lst (by simp)))) (xn rfl rfl (v_cons v_c v_nil) (by decide) (by decide)) ix2) rfl) ?_
    refine seq_nx (ρ1:=[.op [.int (m1 / 4)],.fz (.int w),.fz (.int (1 + M')),.fz (.int s),.fz (tupK [0,0]),.no,.no]) (s_set (v_a (v_cons v_c (v_cons v_c v_nil)) (t2 _ _))) ?_
    refine seq_nx el ?_
    refine seq_nx (ρ1:=[.op [.int m2],.fz (.int w),.fz (.int (1 + M')),.fz (.int s),.fz (tupK [lx,ly]),.od [],.no]) rfl ?_
    refine seq_nx (s_nox (s_forR (n:=1 + (M':Int)) (N:=1 + M') (v_var rfl) (by omega) (by omega) e)) ?_
    exact xs_ret1 (xv_p (v_a (v_cons (v_sortD rfl (by omega) g.pr) v_nil) rfl))
  unfold v__law_piece;rw [run];rfl
end K11
namespace K11
open PySem PySem.Spec PySem.Calls PySem.W L2 Vl So
noncomputable abbrev tp (L:KL):D:=.tup (L.map tupK)
noncomputable abbrev lp (L:KL):D:=.lst (L.map tupK)
theorem Ps.asc {n:Nat} {L:KL} (h:Ps n L):Asc L:=by
  obtain ⟨L0,e⟩:=h.ex
  exact .of h.pr h.nd (by rw [e];exact sortK_pw _)
noncomputable def Row (d:D) (R:KL):Prop:=d=tp R∨d=lp R
theorem w_rising {d:D} {R:KL} (hd:Row d R) (hl:R.length < 4900) (hp:∀ ks∈R,Pair ks):v_rising [d]=.ok (tp (rise R)):=by
  unfold v_rising g_rising
  rcases hd with rfl|rfl
  . rw [show startR ["cells"] [tp R]=[.fz (tp R)] from rfl,s_ret (v_a (v_cons (x_sortT (v_var rfl) hl fun ks hk=>(hp ks hk).ne) v_nil) rfl)];rfl
  . rw [show startR ["cells"] [lp R]=[.fz (lp R)] from rfl,s_ret (v_a (v_cons (x_sortL (v_var rfl) hl fun ks hk=>(hp ks hk).ne) v_nil) rfl)];rfl
theorem w_isnum {x:Int} (h:Bd x):v_is_number [.int x,.int 1000000]=.ok (.bl true):=by
  have run:g_is_number (startR ["thing","bound"] [.int x,.int 1000000])=.rt (.bl true):=by
    unfold g_is_number
    refine seq_nx (s_if_f (v_or_f (v_t (v_b (v_var rfl) rfl)) (v_not (t:=true) (v_t (v_b (v_var rfl) rfl)))) s_nx) ?_
    refine s_ret ?_
    show (if pLe (-1000000) x=true then Rs.ok (D.bl (pLe x 1000000)) else .ok (.bl false))=_
    unfold pLe
    rw [if_pos (decide_eq_true h.1),decide_eq_true h.2]
  unfold v_is_number;rw [run];rfl
theorem w_iscell {ks:List Int} (h:Near ks):v_is_cell [tupK ks,.int 1000000]=.ok (.bl true):=by
  obtain ⟨x,y,rfl,hx,hy⟩:=h
  have run:g_is_cell (startR ["thing","bound"] [tupK [x,y],.int 1000000])=.rt (.bl true):=by
    unfold g_is_cell
    refine seq_nx (s_if_f (v_or_f (v_not (t:=true) (v_t (v_b (v_var rfl) rfl))) (v_t (v_op (v_a (v_cons (v_var rfl) v_nil) (show gLen [tupK [x,y]]=.ok (.int 2) from rfl)) v_c (by rw [q_neI];rfl)))) s_nx) ?_
    exact s_ret (v_andV (v_a (v_cons (v_op (v_var rfl) v_c rfl) (v_cons (v_var rfl) v_nil)) (v_call rfl (w_isnum hx))) (v_a (v_cons (v_op (v_var rfl) v_c rfl) (v_cons (v_var rfl) v_nil)) (v_call rfl (w_isnum hy))))
  unfold v_is_cell;rw [run];rfl
theorem Near.pair {ks:List Int} (h:Near ks):Pair ks:=by obtain ⟨x,y,rfl,_⟩:=h;exact ⟨x,y,rfl⟩
theorem w_made {d:D} {R:KL} (hd:Row d R) (hR:∀ k∈R,Near k) (ne:R≠[]) (hl:R.length<=1000) (h12:(rise R).length<=12):v_made_piece [d]=.ok (tp (rise R)):=by
  obtain ⟨ρ',e1,a,rfl⟩:=forD_all (h:=hName 1) (g:=B_made_piece_1) (fun ρ=>∃ a:Sl,ρ=[.fz d,a,.no])
    (ds:=R.map tupK) (ρ:=[.fz d,.no,.no]) ⟨_,rfl⟩ (by
      rintro x hx ρ ⟨a,rfl⟩
      obtain ⟨ks,hk,rfl⟩:=List.mem_map.mp hx
      refine ⟨_,_,rfl,?_,.fz (tupK ks),rfl⟩
      unfold B_made_piece_1
      exact s_if_f (v_not (t:=true) (v_t (v_a (v_cons (v_var rfl) (v_cons v_c v_nil)) (v_call rfl (w_iscell (hR ks hk)))))) s_nx)
  have l0:¬ ((R.length:Int)=0):=fun z=>ne (List.length_eq_zero_iff.mp (by omega))
  have g1:gIsAT [.list,.tuple] d=.ok (.bl true):=by rcases hd with rfl|rfl <;> rfl
  have g2:gLen [d]=.ok (.int R.length):=by
    rcases hd with rfl|rfl
    . rw [x_lenT,List.length_map]
    . rw [x_lenL,List.length_map]
  have g3:asS d=.ok (R.map tupK):=by rcases hd with rfl|rfl <;> rfl
  have g4:=w_rising hd (by omega) fun k hk=>(hR k hk).pair
  have run:g_made_piece (startR ["cells","thing","steps"] [d])=.rt (tp (rise R)):=by
    unfold g_made_piece
    refine seq_nx (ρ1:=[.fz d,.no,.no]) (s_if_f (v_or_f (v_not (t:=true) (v_t (v_b (v_var rfl) g1))) (v_t (v_op (v_a (v_cons (v_var rfl) v_nil) g2) v_c (by rw [q_eqI,decide_eq_false l0])))) s_nx) ?_
    refine seq_nx (ρ1:=[.fz d,a,.no]) (s_forI (v_l (v_var rfl) g3) e1) ?_
    refine seq_nx (ρ1:=[.fz d,a,.fz (tp (rise R))]) (s_set (v_a (v_cons (v_var rfl) v_nil) (v_call rfl g4))) ?_
    refine seq_nx (s_if_f (v_t (v_op (v_a (v_cons (v_var rfl) v_nil) x_lenT) v_c (by rw [q_gt,List.length_map,decide_eq_false (by omega)]))) s_nx) ?_
    exact s_ret (v_var rfl)
  unfold v_made_piece;rw [run];rfl
theorem xs_ins2 {ρ ρ1 ρ2:Rho} {xs:Rho->Rs (List D×Rho)} {i:Nat} {es es0:List D} {n:Int} {d:D} (h0:ρ[i]?=some (.ow es0)) (hk:xs ρ=.ok ([.int n,d],ρ1)) (h1:ρ1[i]?=some (.ow es)) (hn:0<=n/\n<=es.length/\es.length < 1000000) (e:ρ1.set i (.ow (es.take n.toNat++d::es.drop n.toNat))=ρ2):xInsL i xs ρ=.nx ρ2:=by
  rw [<- e]
  unfold xInsL
  rw [h0]
  show oX (xs ρ) _=_
  rw [hk]
  show (match [D.int n,d],ρ1[i]? with|[.int k,d],some (.ow ds)=>if 0<=k/\k<=ds.length/\ds.length < 1000000 then Ou.nx (ρ1.set i (.ow (ds.take k.toNat++d::ds.drop k.toNat))) else .no|_,_=>.no)=_
  rw [h1]
  show (if _ then Ou.nx _ else .no)=_
  rw [if_pos hn]
theorem lenO {ρ:Rho} {i:Nat} {R:KL} (h:ρ[i]?=some (.ow (R.map tupK))):gLenO i ρ=.ok (.int R.length):=by
  unfold gLenO;rw [h];show Rs.ok (D.int ((R.map tupK).length:Nat))=_;rw [List.length_map]
theorem loop_bad {z0:D} {x:D} {post:List D} (hx:v_is_cell [x,.int 1000000]=.ok (.bl false)):∀ (pre:KL) (a1:Sl),(∀ k∈pre,Near k)->∃ ρ',forD (hName 1) B_made_piece_1 (pre.map tupK++x::post) [.fz z0,a1,.no]=.ex "BadPiece" 0 ρ'
  | [],a1,_=>by
    have hb:B_made_piece_1 [.fz z0,.fz x,.no]=.ex "BadPiece" 0 [.fz z0,.fz x,.no]:=by
      unfold B_made_piece_1
      exact s_if_t (v_not (t:=false) (v_t (v_a (v_cons (v_var rfl) (v_cons v_c v_nil)) (v_call rfl hx)))) rfl
    refine ⟨[.fz z0,.fz x,.no],?_⟩
    simp only [List.map_nil,List.nil_append,forD,hName,List.set_cons_succ,List.set_cons_zero,hb]
  | k::pre,a1,hp=>by
    have hb:B_made_piece_1 [.fz z0,.fz (tupK k),.no]=.nx [.fz z0,.fz (tupK k),.no]:=by
      unfold B_made_piece_1
      exact s_if_f (v_not (t:=true) (v_t (v_a (v_cons (v_var rfl) (v_cons v_c v_nil)) (v_call rfl (w_iscell (hp k (.head _))))))) s_nx
    obtain ⟨ρ',e⟩:=loop_bad hx pre (.fz (tupK k)) fun q hq=>hp q (.tail _ hq)
    refine ⟨ρ',?_⟩
    simp only [List.map_cons,List.cons_append,forD,hName,List.set_cons_succ,List.set_cons_zero,hb]
    exact e
theorem made_bad {d:D} {x:D} {pre:KL} {post:List D} (hd:d=.lst (pre.map tupK++x::post)∨d=.tup (pre.map tupK++x::post)) (hp:∀ k∈pre,Near k) (hx:v_is_cell [x,.int 1000000]=.ok (.bl false)):v_made_piece [d]=.ex "BadPiece" 0:=by
  obtain ⟨ρ',e⟩:=loop_bad (z0:=d) (post:=post) hx pre .no hp
  have g1:gIsAT [.list,.tuple] d=.ok (.bl true):=by rcases hd with rfl|rfl <;> rfl
  have g2:∃ n:Nat,gLen [d]=.ok (.int n)/\n≠0:=by
    have l:(pre.map tupK++x::post).length≠0:=by rw [List.length_append,List.length_cons];omega
    rcases hd with rfl|rfl
    . exact ⟨_,x_lenL,l⟩
    . exact ⟨_,x_lenT,l⟩
  obtain ⟨n,g2,n0⟩:=g2
  have g3:asS d=.ok (pre.map tupK++x::post):=by rcases hd with rfl|rfl <;> rfl
  have run:g_made_piece (startR ["cells","thing","steps"] [d])=.ex "BadPiece" 0 ρ':=by
    unfold g_made_piece
    refine seq_nx (ρ1:=[.fz d,.no,.no]) (s_if_f (v_or_f (v_not (t:=true) (v_t (v_b (v_var rfl) g1))) (v_t (v_op (v_a (v_cons (v_var rfl) v_nil) g2) v_c (by rw [q_eqI,decide_eq_false (by omega)])))) s_nx) ?_
    exact seq_ex (s_forI (v_l (v_var rfl) g3) e)
  unfold v_made_piece;rw [run];rfl
theorem made_none {d:D} (h:gIsAT [.list,.tuple] d=.ok (.bl false)):v_made_piece [d]=.ex "BadPiece" 0:=by
  have run:g_made_piece (startR ["cells","thing","steps"] [d])=.ex "BadPiece" 0 [.fz d,.no,.no]:=by
    unfold g_made_piece
    exact seq_ex (s_if_t (v_or_t (v_not (t:=false) (v_t (v_b (v_var rfl) h)))) rfl)
  unfold v_made_piece;rw [run];rfl
theorem made_empty {d:D} (hd:d=.lst []∨d=.tup []):v_made_piece [d]=.ex "BadPiece" 0:=by
  have run:g_made_piece (startR ["cells","thing","steps"] [d])=.ex "BadPiece" 0 [.fz d,.no,.no]:=by
    unfold g_made_piece
    rcases hd with rfl|rfl
    . exact seq_ex (s_if_t (v_or_f (v_not (t:=true) (v_t (v_b (v_var rfl) rfl))) (v_t (v_op (v_a (v_cons (v_var rfl) v_nil) x_lenL) v_c rfl))) rfl)
    . exact seq_ex (s_if_t (v_or_f (v_not (t:=true) (v_t (v_b (v_var rfl) rfl))) (v_t (v_op (v_a (v_cons (v_var rfl) v_nil) x_lenT) v_c rfl))) rfl)
  unfold v_made_piece;rw [run];rfl
theorem made_many {d:D} {R:KL} (hd:Row d R) (hR:∀ k∈R,Near k) (ne:R≠[]) (hl:R.length<=1000) (h12:12 < (rise R).length):v_made_piece [d]=.ex "BadPiece" 0:=by
  obtain ⟨ρ',e1,a,rfl⟩:=forD_all (h:=hName 1) (g:=B_made_piece_1) (fun ρ=>∃ a:Sl,ρ=[.fz d,a,.no])
    (ds:=R.map tupK) (ρ:=[.fz d,.no,.no]) ⟨_,rfl⟩ (by
      rintro x hx ρ ⟨a,rfl⟩
      obtain ⟨ks,hk,rfl⟩:=List.mem_map.mp hx
      refine ⟨_,_,rfl,?_,.fz (tupK ks),rfl⟩
      unfold B_made_piece_1
      exact s_if_f (v_not (t:=true) (v_t (v_a (v_cons (v_var rfl) (v_cons v_c v_nil)) (v_call rfl (w_iscell (hR ks hk)))))) s_nx)
  have l0:¬ ((R.length:Int)=0):=fun z=>ne (List.length_eq_zero_iff.mp (by omega))
  have g1:gIsAT [.list,.tuple] d=.ok (.bl true):=by rcases hd with rfl|rfl <;> rfl
  have g2:gLen [d]=.ok (.int R.length):=by
    rcases hd with rfl|rfl
    . rw [x_lenT,List.length_map]
    . rw [x_lenL,List.length_map]
  have g3:asS d=.ok (R.map tupK):=by rcases hd with rfl|rfl <;> rfl
  have g4:=w_rising hd (by omega) fun k hk=>(hR k hk).pair
  have run:g_made_piece (startR ["cells","thing","steps"] [d])=.ex "BadPiece" 0 [.fz d,a,.fz (tp (rise R))]:=by
    unfold g_made_piece
    refine seq_nx (ρ1:=[.fz d,.no,.no]) (s_if_f (v_or_f (v_not (t:=true) (v_t (v_b (v_var rfl) g1))) (v_t (v_op (v_a (v_cons (v_var rfl) v_nil) g2) v_c (by rw [q_eqI,decide_eq_false l0])))) s_nx) ?_
    refine seq_nx (ρ1:=[.fz d,a,.no]) (s_forI (v_l (v_var rfl) g3) e1) ?_
    refine seq_nx (ρ1:=[.fz d,a,.fz (tp (rise R))]) (s_set (v_a (v_cons (v_var rfl) v_nil) (v_call rfl g4))) ?_
    exact seq_ex (s_if_t (v_t (v_op (v_a (v_cons (v_var rfl) v_nil) x_lenT) v_c (by rw [q_gt,List.length_map,decide_eq_true (by omega)]))) rfl)
  unfold v_made_piece;rw [run];rfl
noncomputable def fl (bad:Bool):D:=if bad then .lst [.bl true,.bl true,.bl false,.bl false] else .lst []
theorem refused_ex {d:D} (h:v_made_piece [d]=.ex "BadPiece" 0):v__law_refused [d]=.ok (fl true):=by
  have run:g__law_refused (startR ["handed","flags","e"] [d])=.rt (fl true):=by
    unfold g__law_refused
    refine seq_nx (ρ1:=[.fz d,.ow [],.no]) rfl ?_
    refine seq_nx (ρ1:=[.fz d,.ow [.bl true,.bl true,.bl false,.bl false],.no]) (s_try_ex (ρ1:=[.fz d,.ow [],.no]) (s_exp_ex (v_a (v_cons (v_var rfl) v_nil) (v_call rfl h))) (by decide +kernel) ?_) ?_
    . rfl
    . show rRet _ [.fz d,.fz (.lst [.bl true,.bl true,.bl false,.bl false]),.no]=_
      exact s_ret (v_var rfl)
  unfold v__law_refused;rw [run];rfl
theorem refused_ok {d x:D} (h:v_made_piece [d]=.ok x):v__law_refused [d]=.ok (fl false):=by
  have run:g__law_refused (startR ["handed","flags","e"] [d])=.rt (fl false):=by
    unfold g__law_refused
    refine seq_nx (ρ1:=[.fz d,.ow [],.no]) rfl ?_
    refine seq_nx (ρ1:=[.fz d,.ow [],.no]) (s_try_nx (s_exp (v_a (v_cons (v_var rfl) v_nil) (v_call rfl h)))) ?_
    show rRet _ [.fz d,.fz (.lst []),.no]=_
    exact s_ret (v_var rfl)
  unfold v__law_refused;rw [run];rfl
structure Hd (h:D) (bad:Bool):Prop where
  ne:gNeA h h=.ok (.bl false)
  kp:v__law_kept [h]=.ok h
  rf:v__law_refused [h]=.ok (fl bad)
  il:(∃ ds,h=.lst ds/\v__law_refused [.tup ds]=.ok (fl bad))∨gIsA .list h=.ok (.bl false)
theorem kept_l (ds:List D):v__law_kept [.lst ds]=.ok (.lst ds):=by
  have run:g__law_kept (startR ["handed"] [.lst ds])=.rt (.lst ds):=by
    unfold g__law_kept
    exact seq_rt (s_if_t (v_t (v_b (v_var rfl) rfl)) (s_ret (v_a (v_cons (v_var rfl) v_nil) x_lofL)))
  unfold v__law_kept;rw [run];rfl
theorem kept_o {d:D} (h:gIsA .list d=.ok (.bl false)):v__law_kept [d]=.ok d:=by
  have run:g__law_kept (startR ["handed"] [d])=.rt d:=by
    unfold g__law_kept
    exact seq_nx (s_if_f (v_t (v_b (v_var rfl) h)) s_nx) (s_ret (v_var rfl))
  unfold v__law_kept;rw [run];rfl
theorem ne_of {d:D} (hd:dep d<=8) (h:∀ ks ds,d≠.dic ks ds):gNeA d d=.ok (.bl false):=by
  have e:gNeA d d=gNe d d:=by cases d <;> first|rfl|exact absurd rfl (h _ _)
  rw [e];exact q_ne_same hd rfl
theorem hd_none {d:D} (h1:gIsAT [.list,.tuple] d=.ok (.bl false)) (h2:gIsA .list d=.ok (.bl false)) (hn:gNeA d d=.ok (.bl false)):Hd d true :=
  ⟨hn,kept_o h2,refused_ex (made_none h1),.inr h2⟩
theorem hd_lst {ds:List D} {bad:Bool} (hd:dep (.lst ds)<=8) (h1:v__law_refused [.lst ds]=.ok (fl bad)) (h2:v__law_refused [.tup ds]=.ok (fl bad)):Hd (.lst ds) bad :=
  ⟨ne_of hd (fun _ _ z=>by cases z),kept_l ds,h1,.inl ⟨ds,rfl,h2⟩⟩
theorem hd_tup {ds:List D} (hd:dep (.tup ds)<=8) (h1:v_made_piece [.tup ds]=.ex "BadPiece" 0):Hd (.tup ds) true :=
  ⟨ne_of hd (fun _ _ z=>by cases z),kept_o rfl,refused_ex h1,.inr rfl⟩
end K11
namespace K11
open PySem PySem.Spec PySem.Calls PySem.W L2 Vl So
theorem num_no {d:D} (h:gIsA .int d=.ok (.bl false)) (hb:gIsA .bool d=.ok (.bl false)):v_is_number [d,.int 1000000]=.ok (.bl false):=by
  have run:g_is_number (startR ["thing","bound"] [d,.int 1000000])=.rt (.bl false):=by
    unfold g_is_number
    exact seq_rt (s_if_t (v_or_f (v_t (v_b (v_var rfl) hb)) (v_not (t:=false) (v_t (v_b (v_var rfl) h)))) (s_ret v_c))
  unfold v_is_number;rw [run];rfl
theorem num_bl (b:Bool):v_is_number [.bl b,.int 1000000]=.ok (.bl false):=by
  have run:g_is_number (startR ["thing","bound"] [.bl b,.int 1000000])=.rt (.bl false):=by
    unfold g_is_number
    exact seq_rt (s_if_t (v_or_t (v_t (v_b (v_var rfl) rfl))) (s_ret v_c))
  unfold v_is_number;rw [run];rfl
theorem num_far {x:Int} (h:¬ Bd x):v_is_number [.int x,.int 1000000]=.ok (.bl false):=by
  have run:g_is_number (startR ["thing","bound"] [.int x,.int 1000000])=.rt (.bl false):=by
    unfold g_is_number
    refine seq_nx (s_if_f (v_or_f (v_t (v_b (v_var rfl) rfl)) (v_not (t:=true) (v_t (v_b (v_var rfl) rfl)))) s_nx) ?_
    refine s_ret ?_
    show (if pLe (-1000000) x=true then Rs.ok (D.bl (pLe x 1000000)) else .ok (.bl false))=_
    unfold pLe
    by_cases c:(-1000000:Int)<=x
    . rw [if_pos (decide_eq_true c),decide_eq_false (fun z=>h ⟨c,z⟩)]
    . rw [if_neg (by rw [decide_eq_false c];decide)]
  unfold v_is_number;rw [run];rfl
theorem ic_nt {d:D} (h:gIsA .tuple d=.ok (.bl false)):v_is_cell [d,.int 1000000]=.ok (.bl false):=by
  have run:g_is_cell (startR ["thing","bound"] [d,.int 1000000])=.rt (.bl false):=by
    unfold g_is_cell
    exact seq_rt (s_if_t (v_or_t (v_not (t:=false) (v_t (v_b (v_var rfl) h)))) (s_ret v_c))
  unfold v_is_cell;rw [run];rfl
theorem ic_len {ds:List D} (h:ds.length≠2):v_is_cell [.tup ds,.int 1000000]=.ok (.bl false):=by
  have run:g_is_cell (startR ["thing","bound"] [.tup ds,.int 1000000])=.rt (.bl false):=by
    unfold g_is_cell
    exact seq_rt (s_if_t (v_or_f (v_not (t:=true) (v_t (v_b (v_var rfl) rfl))) (v_t (v_op (v_a (v_cons (v_var rfl) v_nil) x_lenT) v_c (by rw [q_neI,decide_eq_false (by omega)];rfl)))) (s_ret v_c))
  unfold v_is_cell;rw [run];rfl
theorem ic_two {a b:D} (h:v_is_number [a,.int 1000000]=.ok (.bl false)∨(v_is_number [a,.int 1000000]=.ok (.bl true)/\v_is_number [b,.int 1000000]=.ok (.bl false))):v_is_cell [.tup [a,b],.int 1000000]=.ok (.bl false):=by
  have run:g_is_cell (startR ["thing","bound"] [.tup [a,b],.int 1000000])=.rt (.bl false):=by
    unfold g_is_cell
    refine seq_nx (s_if_f (v_or_f (v_not (t:=true) (v_t (v_b (v_var rfl) rfl))) (v_t (v_op (v_a (v_cons (v_var rfl) v_nil) (show gLen [.tup [a,b]]=.ok (.int 2) from rfl)) v_c (by rw [q_neI];rfl)))) s_nx) ?_
    refine s_ret ?_
    rcases h with h|⟨h1,h2⟩
    . have e:fA (fCons (fOp gIx (fVar 0) (fC (.int 0))) (fCons (fVar 1) fNil)) (gCallX 2 v_is_number) (startR ["thing","bound"] [.tup [a,b],.int 1000000])=.ok (.bl false):=v_a (v_cons (v_op (v_var rfl) v_c rfl) (v_cons (v_var rfl) v_nil)) (v_call rfl h)
      unfold fAndV
      rw [e];rfl
    . exact v_andV (v_a (v_cons (v_op (v_var rfl) v_c rfl) (v_cons (v_var rfl) v_nil)) (v_call rfl h1)) (v_a (v_cons (v_op (v_var rfl) v_c rfl) (v_cons (v_var rfl) v_nil)) (v_call rfl h2))
  unfold v_is_cell;rw [run];rfl
theorem w_bad (m:Int) {x y:Int} (hx:Bd x) (hy:Bd y):∃ (m':Int) (b:D),v__law_bad [.int m] [tupK [x,y]]=.ok (b,[.int m'])/\v_is_cell [b,.int 1000000]=.ok (.bl false)/\dep b<=4:=by
  have p30:gPow (.int 10) (.int 30)=.ok (.int (10 ^ Int.toNat 30)):=q_pow ⟨by decide,by decide,by decide⟩
  have T0:0 < (10:Int) ^ Int.toNat 30:=by decide
  have T1:(10:Int) ^ Int.toNat 30 < 2 ^ 200:=by decide
  generalize (10:Int) ^ Int.toNat 30=T at p30 T0 T1
  have a0:0<=m % T:=Int.emod_nonneg _ (by omega)
  generalize ha:m % T=a at a0
  generalize hm2:m / T=m2
  have b0:0<=m2 % 2:=Int.emod_nonneg _ (by decide)
  have b1:m2 % 2 < 2:=Int.emod_lt_of_pos _ (by decide)
  generalize hb:m2 % 2=b at b0 b1
  have mu:gMul (.int a) (.int b)=.ok (.int (a * b)):=q_mulL (by omega)
  have f0:0<=a * b:=Int.mul_nonneg a0 b0
  generalize a * b=f at mu f0
  obtain ⟨r,ir,ic,dr⟩:∃ r:D,gIx (.lst [.lst [.int x,.int y],.tup [.int x],.tup [.int x,.int y,.int 0],.tup [.bl true,.int y],.tup [.int x,.bl false],.tup [.int (1000001 + f),.int y],.tup [.int x,.int (0 - (1000001 + f))],.tup [.int x,.str "0"],.tup [.non,.int y],.non,.int x,.str "ab",.tup [tupK [x,y],tupK [x,y]],.tup []]) (.int (m2 / 2 % 14))=.ok r/\v_is_cell [r,.int 1000000]=.ok (.bl false)/\dep r<=4:=by
    have nx:=w_isnum hx
    rcases (show m2 / 2 % 14=0∨m2 / 2 % 14=1∨m2 / 2 % 14=2∨m2 / 2 % 14=3∨m2 / 2 % 14=4∨m2 / 2 % 14=5∨m2 / 2 % 14=6∨m2 / 2 % 14=7∨m2 / 2 % 14=8∨m2 / 2 % 14=9∨m2 / 2 % 14=10∨m2 / 2 % 14=11∨m2 / 2 % 14=12∨m2 / 2 % 14=13 by omega) with e|e|e|e|e|e|e|e|e|e|e|e|e|e <;> rw [e]
    . exact ⟨_,rfl,ic_nt rfl,by simp [dep,deps]⟩
    . exact ⟨_,rfl,ic_len (by simp),by simp [dep,deps]⟩
    . exact ⟨_,rfl,ic_len (by simp),by simp [dep,deps]⟩
    . exact ⟨_,rfl,ic_two (.inl (num_bl _)),by simp [dep,deps]⟩
    . exact ⟨_,rfl,ic_two (.inr ⟨nx,num_bl _⟩),by simp [dep,deps]⟩
    . exact ⟨_,rfl,ic_two (.inl (num_far fun z=>by have:=z.2;omega)),by simp [dep,deps]⟩
    . exact ⟨_,rfl,ic_two (.inr ⟨nx,num_far fun z=>by have:=z.1;omega⟩),by simp [dep,deps]⟩
    . exact ⟨_,rfl,ic_two (.inr ⟨nx,num_no rfl rfl⟩),by simp [dep,deps]⟩
    . exact ⟨_,rfl,ic_two (.inl (num_no rfl rfl)),by simp [dep,deps]⟩
    . exact ⟨_,rfl,ic_nt rfl,by simp [dep]⟩
    . exact ⟨_,rfl,ic_nt rfl,by simp [dep]⟩
    . exact ⟨_,rfl,ic_nt rfl,by simp [dep]⟩
    . exact ⟨_,rfl,ic_two (.inl (num_no rfl rfl)),by simp [dep,deps,Vl.tupK]⟩
    . exact ⟨_,rfl,ic_len (by simp),by simp [dep,deps]⟩
  refine ⟨m2 / 2 / 14,r,?_,ic,dr⟩
  have run:g__law_bad (startM ["left","step","far","row","column"] [.int m] [tupK [x,y]])=.rx r [.op [.int (m2 / 2 / 14)],.fz (tupK [x,y]),.fz (.int (1000001 + f)),.fz (.int x),.fz (.int y)]:=by
    unfold g__law_bad
    refine seq_nx (ρ1:=[.op [.int (m2 / 2)],.fz (tupK [x,y]),.fz (.int (1000001 + f)),.no,.no]) ?_ ?_
    . refine xs_set2 (xv_op (xv_p v_c) (xv_op (x:=.int a) (ρ1:=[.op [.int m2],.fz (tupK [x,y]),.no,.no,.no]) ?_ (y:=.int b) (ρ2:=[.op [.int (m2 / 2)],.fz (tupK [x,y]),.no,.no,.no]) ?_ mu) q_plus) rfl
      . rw [<- ha,<- hm2]
        exact xn (i:=0) (z:=.op [.int m]) (m:=m) (n:=T) rfl rfl (v_cons (v_op v_c v_c p30) v_nil) T0 T1
      . rw [<- hb]
        exact xn (i:=0) (z:=.op [.int m2]) (m:=m2) (n:=2) rfl rfl (v_cons v_c v_nil) (by decide) (by decide)
    . refine seq_nx (ρ1:=[.op [.int (m2 / 2)],.fz (tupK [x,y]),.fz (.int (1000001 + f)),.fz (.int x),.fz (.int y)]) (s_asg (v_var rfl) rfl) ?_
      refine xs_ret1 (xv_op (xv_p ?_) (xn (i:=0) (z:=.op [.int (m2 / 2)]) (m:=m2 / 2) (n:=14) rfl rfl (v_cons v_c v_nil) (by decide) (by decide)) ir)
      rfl
  unfold v__law_bad;rw [run];rfl
end K11
namespace K11
open PySem PySem.Spec PySem.Calls PySem.W L2 Vl So
theorem ix_at {L:KL} {j:Nat} {x:List Int} (h:L[j]?=some x):gIx (.tup (L.map tupK)) (.int j)=.ok (tupK x):=q_ix (atI_nat (by rw [List.getElem?_map,h];rfl))
theorem ic_tp {L:KL} (ne:L≠[]):v_is_cell [tp L,.int 1000000]=.ok (.bl false):=by
  match L,ne with
  | [a,b],_=>exact ic_two (.inl (num_no rfl rfl))
  | [a],_=>exact ic_len (by simp)
  | a::b::c::L,_=>exact ic_len (by simp)
theorem w_no_row (m:Int) {L:KL} (hL:Ps 12 L) (hn:∀ k∈L,Near k):∃ (m':Int) (h:D),v__law_no_row [.int m] [tp L]=.ok (h,[.int m'])/\Hd h true:=by
  obtain ⟨x,y,L',hL',bx,by'⟩:∃ (x y:Int) (L':KL),L=[x,y]::L'/\Bd x/\Bd y:=by
    obtain ⟨a,L',e⟩:=List.exists_cons_of_ne_nil hL.ne
    obtain ⟨x,y,rfl,bx,by'⟩:=hn a (by rw [e];exact .head _)
    exact ⟨x,y,L',e,bx,by'⟩
  have dk:=deps_tupK L
  have i0:gIx (tp L) (.int 0)=.ok (tupK [x,y]):=ix_at (j:=0) (by rw [hL'];rfl)
  have dx:fDic1 (fOp gIx (fVar 1) (fC (.int 0))) (fC (.bl true)) [.op [.int m],.fz (tp L)]=.ok (.dic [[x,y]] [.bl true]):=by
    have e:fOp gIx (fVar 1) (fC (.int 0)) [.op [.int m],.fz (tp L)]=.ok (tupK [x,y]):=v_op (v_var rfl) v_c i0
    unfold fDic1
    rw [e]
    show gDic1 (tupK [x,y]) (.bl true)=_
    unfold gDic1
    rw [keyD_tupK]
  obtain ⟨r,ir,hr⟩:∃ r:D,gIx (.lst [.non,.int 7,.str "",.str "ab",.bl true,.dic [] [],.lst [],.tup [],tupK [x,y],.dic [[x,y]] [.bl true],.int x,.tup [tp L],.lst [lp L],.int 0]) (.int (m % 14))=.ok r/\Hd r true:=by
    rcases (show m % 14=0∨m % 14=1∨m % 14=2∨m % 14=3∨m % 14=4∨m % 14=5∨m % 14=6∨m % 14=7∨m % 14=8∨m % 14=9∨m % 14=10∨m % 14=11∨m % 14=12∨m % 14=13 by omega) with e|e|e|e|e|e|e|e|e|e|e|e|e|e <;> rw [e]
    . exact ⟨_,rfl,hd_none rfl rfl rfl⟩
    . exact ⟨_,rfl,hd_none rfl rfl rfl⟩
    . exact ⟨_,rfl,hd_none rfl rfl (ne_of (by simp [dep]) fun _ _ z=>by cases z)⟩
    . exact ⟨_,rfl,hd_none rfl rfl (ne_of (by simp [dep]) fun _ _ z=>by cases z)⟩
    . exact ⟨_,rfl,hd_none rfl rfl rfl⟩
    . exact ⟨_,rfl,hd_none rfl rfl rfl⟩
    . exact ⟨_,rfl,hd_lst (by simp [dep,deps]) (refused_ex (made_empty (.inl rfl))) (refused_ex (made_empty (.inr rfl)))⟩
    . exact ⟨_,rfl,hd_tup (by simp [dep,deps]) (made_empty (.inr rfl))⟩
    . exact ⟨_,rfl,hd_tup (by simp [dep,deps]) (made_bad (pre:=[]) (x:=.int x) (post:=[.int y]) (.inr rfl) (fun _ h=>by cases h) (ic_nt rfl))⟩
    . refine ⟨_,rfl,hd_none rfl rfl ?_⟩
      show (if [x,y]=[x,y]/\true=true then Rs.ok (D.bl false) else .no)=_
      rw [if_pos ⟨rfl,rfl⟩]
    . exact ⟨_,rfl,hd_none rfl rfl (ne_of (by simp [dep]) fun _ _ z=>by cases z)⟩
    . exact ⟨_,rfl,hd_tup (by simp only [dep,deps,Nat.max_def];split <;> omega) (made_bad (pre:=[]) (x:=tp L) (post:=[]) (.inr rfl) (fun _ h=>by cases h) (ic_tp hL.ne))⟩
    . exact ⟨_,rfl,hd_lst (by simp only [dep,deps,Nat.max_def];split <;> omega) (refused_ex (made_bad (pre:=[]) (x:=lp L) (post:=[]) (.inl rfl) (fun _ h=>by cases h) (ic_nt rfl))) (refused_ex (made_bad (pre:=[]) (x:=lp L) (post:=[]) (.inr rfl) (fun _ h=>by cases h) (ic_nt rfl)))⟩
    . exact ⟨_,rfl,hd_none rfl rfl rfl⟩
  refine ⟨m / 14,r,?_,hr⟩
  have run:g__law_no_row (startM ["left","steps"] [.int m] [tp L])=.rx r [.op [.int (m / 14)],.fz (tp L)]:=by
    unfold g__law_no_row
    refine xs_ret1 (xv_op (xv_p (v_a (v_cons v_c (v_cons v_c (v_cons v_c (v_cons v_c (v_cons v_c (v_cons v_c (v_cons (v_a v_nil (v_lst (by simp))) (v_cons (v_a v_nil (v_tup (by simp))) (v_cons (v_op (v_var rfl) v_c i0) (v_cons dx (v_cons (v_op (v_op (v_var rfl) v_c i0) v_c rfl) (v_cons (v_a (v_cons (v_var rfl) v_nil) (v_tup (by simp))) (v_cons (v_a (v_cons (v_a (v_cons (v_var rfl) v_nil) x_lofT) v_nil) (v_lst (by simp))) (v_cons v_c v_nil)))))))))))))) (v_lst (by simp)))) (xn (i:=0) (z:=.op [.int m]) (m:=m) (n:=14) rfl rfl (v_cons v_c v_nil) (by decide) (by decide)) ir)
  unfold v__law_no_row;rw [run];rfl
noncomputable def stp (a b:Int) (k:Nat):List Int:=[a + (k * k:Int) % 17,b + k]
theorem asR_nat {N:Nat} (h:N < 1000000):asR (.int (N:Int))=.ok ((List.range N).map fun (i:Nat)=>.int i):=by
  unfold asR
  dsimp only
  rw [if_pos (by omega),Int.toNat_natCast]
noncomputable abbrev stps (a b:Int) (N:Nat):KL:=(List.range N).map (stp a b)
theorem stp_comp {a b:Int} {N:Nat} (hN:N<=20) {ρ0:Rho} (h5:ρ0[5]?=some (.fz (.int N))) (hs:startCR 1 [4] ρ0=[.no,.fz (tupK [a,b])]):gComp (hName 0) (fun _=>.ok true) E_law_faulty_1 1 [4] (fL (fVar 5) asR) ρ0=.ok (lp (stps a b N)):=by
  refine v_comp (ds:=(List.range N).map fun (i:Nat)=>.int i) (v_l (v_var h5) (asR_nat (by omega))) ?_ (by rw [List.length_map,List.length_map,List.length_range];omega)
  rw [hs,List.map_map]
  refine compD_gen (fun ρ=>∃ s,ρ=[s,.fz (tupK [a,b])]) (fun i:Nat=>D.int i) (fun i=>tupK (stp a b i)) ⟨_,rfl⟩ ?_
  rintro i hi ρ ⟨s,rfl⟩
  have hi:=List.mem_range.mp hi
  refine ⟨[.fz (.int i),.fz (tupK [a,b])],rfl,?_,_,rfl⟩
  unfold E_law_faulty_1
  exact v_a (v_cons (v_op (v_op (v_var rfl) v_c rfl) (v_op (v_op (v_var rfl) (v_var rfl) (q_mulL (by omega))) v_c (q_mod (by decide))) q_plus) (v_cons (v_op (v_op (v_var rfl) v_c rfl) (v_var rfl) q_plus) v_nil)) (v_tup (by simp))
theorem stps_nd (a b:Int) (N:Nat):(stps a b N).Nodup:=by
  refine List.Pairwise.map _ (fun x y (h:x≠y) z=>h ?_) List.nodup_range
  unfold stp at z
  injection z with _ z;injection z with z _;omega
theorem stps_near {a b:Int} {N:Nat} (ha:-999500<=a/\a < 999500) (hb:-999500<=b/\b < 999500) (hN:N<=20):∀ k∈stps a b N,Near k:=by
  intro k hk
  obtain ⟨i,hi,rfl⟩:=List.mem_map.mp hk
  have hi:=List.mem_range.mp hi
  have e0:0<=((i * i:Nat):Int) % 17:=Int.emod_nonneg _ (by decide)
  have e1:((i * i:Nat):Int) % 17 < 17:=Int.emod_lt_of_pos _ (by decide)
  refine ⟨_,_,rfl,?_,?_⟩
  . rw [show ((i:Int) * i)=((i * i:Nat):Int) by simp]
    unfold Bd;omega
  . unfold Bd;omega
theorem same_len {A B:KL} (h1:A.Nodup) (h2:B.Nodup) (h:∀ x,x∈A↔x∈B):A.length=B.length:=((List.perm_ext_iff_of_nodup h1 h2).mpr h).length_eq
theorem rise_nd' {l:KL}:(rise l).Nodup:=(So.sortK_perm _).nodup_iff.mpr (insAll_nd l)
theorem dep_lp (R:KL):dep (lp R)<=8:=by
  have:=deps_tupK R
  simp only [dep];omega
theorem hd_many {a b:Int} {N:Nat} {R:KL} (ha:-999500<=a/\a < 999500) (hb:-999500<=b/\b < 999500) (h0:0 < N) (hN:N<=20) (hR:∀ x,x∈R↔x∈stps a b N) (hl:R.length<=1000):Hd (lp R) (decide (12 < N)):=by
  have nr:∀ k∈R,Near k:=fun k hk=>stps_near ha hb hN k ((hR k).mp hk)
  have ne:R≠[]:=fun z=>by
    have:=(hR (stp a b 0)).mpr (List.mem_map.mpr ⟨0,List.mem_range.mpr h0,rfl⟩)
    rw [z] at this;cases this
  have ln:(rise R).length=N:=(same_len rise_nd' (stps_nd a b N) fun x=>by rw [rise_mem,hR]).trans (by rw [List.length_map,List.length_range])
  by_cases c:12 < N
  . rw [decide_eq_true c]
    exact hd_lst (dep_lp R) (refused_ex (made_many (.inr rfl) nr ne hl (by omega))) (refused_ex (made_many (.inl rfl) nr ne hl (by omega)))
  . rw [decide_eq_false c]
    exact hd_lst (dep_lp R) (refused_ok (w_made (.inr rfl) nr ne hl (by omega))) (refused_ok (w_made (.inl rfl) nr ne hl (by omega)))
theorem deps_le {n:Nat}:∀ {ds:List D},(∀ d∈ds,dep d<=n)->deps ds<=n
  | [],_=>by simp [deps]
  | d::ds,h=>by
    have h1:=h d (.head _)
    have h2:=deps_le fun x hx=>h x (.tail _ hx)
    simp only [deps,Nat.max_def];split <;> omega
theorem hd_put {L:KL} {x:D} {n:Nat} (hn:∀ k∈L,Near k) (hx:v_is_cell [x,.int 1000000]=.ok (.bl false)) (hd:dep x<=4):Hd (.lst ((L.map tupK).take n++x::(L.map tupK).drop n)) true:=by
  have e:(L.map tupK).take n=(L.take n).map tupK:=by rw [List.map_take]
  have pn:∀ k∈L.take n,Near k:=fun k hk=>hn k (List.mem_of_mem_take hk)
  have d8:dep (.lst ((L.map tupK).take n++x::(L.map tupK).drop n))<=8:=by
    have:=deps_le (n:=4) (ds:=(L.map tupK).take n++x::(L.map tupK).drop n) fun d hd'=>by
      rcases List.mem_append.mp hd' with h|h
      . obtain ⟨k,_,rfl⟩:=List.mem_map.mp (List.mem_of_mem_take h)
        have:=dep_tupK k;omega
      . rcases List.mem_cons.mp h with rfl|h
        . exact hd
        . obtain ⟨k,_,rfl⟩:=List.mem_map.mp (List.mem_of_mem_drop h)
          have:=dep_tupK k;omega
    simp only [dep];omega
  refine hd_lst d8 (refused_ex (made_bad (pre:=L.take n) (x:=x) (post:=(L.map tupK).drop n) (.inl (by rw [e])) pn hx)) (refused_ex (made_bad (pre:=L.take n) (x:=x) (post:=(L.map tupK).drop n) (.inr (by rw [e])) pn hx))
end K11
namespace K11
open PySem PySem.Spec PySem.Calls PySem.W L2 Vl So
noncomputable abbrev vs6:List Str:=["left","steps","way","row","lead","many"]
theorem rep_l {S:KL} {t:Int} (ht:t=1∨t=2) (hl:S.length<=20):∃ R:KL,gRepL (lp S) (.int t)=.ok (lp R)/\(∀ x,x∈R↔x∈S)/\R.length<=1000:=by
  have ln:(S.map tupK).length=S.length:=List.length_map ..
  rcases ht with rfl|rfl
  . refine ⟨S,?_,fun _=>.rfl,by omega⟩
    show (if _ then Rs.ok (D.lst (List.replicate 1 (S.map tupK)).flatten) else .no)=_
    rw [if_pos ⟨by decide,by decide,by rw [ln,show Int.toNat 1=1 from rfl];omega⟩]
    simp
  . refine ⟨S++S,?_,fun _=>by simp,by rw [List.length_append];omega⟩
    show (if _ then Rs.ok (D.lst (List.replicate 2 (S.map tupK)).flatten) else .no)=_
    rw [if_pos ⟨by decide,by decide,by rw [ln,show Int.toNat 2=2 from rfl];omega⟩]
    simp [List.replicate]
theorem w_faulty (m:Int):∃ (m':Int) (h:D) (bad:Bool),v__law_faulty [.int m] []=.ok (.tup [h,.bl bad],[.int m'])/\Hd h bad:=by
  obtain ⟨m1,L,e1,hL,hn⟩:=w_piece m
  have lL:=hL.le
  have l0:0 < L.length:=by rcases Nat.eq_zero_or_pos L.length with z|z;exact absurd (List.length_eq_zero_iff.mp z) hL.ne;exact z
  have fin1:∀ {h:D} {bad:Bool} {m':Int} {zs:List Sl},g__law_faulty (startM vs6 [.int m] [])=.rx (.tup [h,.bl bad]) (.op [.int m']::zs)->Hd h bad->∃ (m':Int) (h:D) (bad:Bool),v__law_faulty [.int m] []=.ok (.tup [h,.bl bad],[.int m'])/\Hd h bad:=fun {h bad m' zs} e hh=>⟨m',h,bad,by unfold v__law_faulty;rw [e];rfl,hh⟩
  have st:∀ {w:Int},m1 % 4=w->∀ r:Ou,(rSeq (rIf (fT (fOp gEq (fVar 2) (fC (.int 0)))) (xRet (xA (xCons (xM 0 1 v__law_no_row (xPA (fCons (fVar 1) fNil))) (xCons (xP (fC (.bl true))) xNil)) gTup)) rNx)
    (rSeq (rOwnC 3 (fVar 1))
    (rSeq (rIf (fT (fOp gEq (fVar 2) (fC (.int 1)))) (xInsL 3 (xCons (xM 0 1 v__law_next (xPA (fCons (fOp gPlus (gLenO 3) (fC (.int 1))) fNil))) (xCons (xM 0 1 v__law_bad (xCons (xOp gIx (xP (fVar 1)) (xM 0 1 v__law_next (xPA (fCons (fA (fCons (fVar 1) fNil) gLen) fNil)))) xNil)) xNil))) rNx)
    (rFrz 3 (rSeq (rIf (fT (fOp gEq (fVar 2) (fC (.int 2)))) (rSeq (xSet 4 (xA (xCons (xOp gSub (xM 0 1 v__law_next (xPA (fCons (fC (.int 1999000)) fNil))) (xP (fC (.int 999500)))) (xCons (xOp gSub (xM 0 1 v__law_next (xPA (fCons (fC (.int 1999000)) fNil))) (xP (fC (.int 999500)))) xNil)) gTup))
    (rSeq (xSet 5 (xOp gPlus (xP (fC (.int 12))) (xM 0 1 v__law_next (xPA (fCons (fC (.int 3)) fNil)))))
    (rSeq (xSet 3 (xOp gRepL (xP (gComp (hName 0) (fun _=>.ok true) E_law_faulty_1 1 [4] (fL (fVar 5) asR))) (xOp gPlus (xP (fC (.int 1))) (xM 0 1 v__law_next (xPA (fCons (fC (.int 2)) fNil))))))
    (rFrz 3 (xRet (xP (fA (fCons (fVar 3) (fCons (fOp gGt (fVar 5) (fC (.int 12))) fNil)) gTup))))))) rNx)
    (rFrz 3 (xRet (xP (fA (fCons (fVar 3) (fCons (fOp gEq (fVar 2) (fC (.int 1))) fNil)) gTup)))))))) ) [.op [.int (m1 / 4)],.fz (tp L),.fz (.int w),.no,.no,.no]=r->g__law_faulty (startM vs6 [.int m] [])=r:=fun {w} hw r hr=>by
    unfold g__law_faulty
    refine seq_nx (ρ1:=[.op [.int m1],.fz (tp L),.no,.no,.no,.no]) (xs_set2 (xv_m rfl rfl (xv_pa v_nil) rfl rfl rfl e1) rfl) ?_
    refine seq_nx (ρ1:=[.op [.int (m1 / 4)],.fz (tp L),.fz (.int w),.no,.no,.no]) ?_ hr
    rw [<- hw]
    exact xs_set2 (xn rfl rfl (v_cons v_c v_nil) (by decide) (by decide)) rfl
  generalize m1 / 4=m2 at st
  rcases (show m1 % 4=0∨m1 % 4=1∨m1 % 4=2∨m1 % 4=3 by omega) with c|c|c|c
  . obtain ⟨m3,h,e3,hh⟩:=w_no_row m2 hL hn
    refine fin1 (h:=h) (bad:=true) (m':=m3) (zs:=[.fz (tp L),.fz (.int 0),.no,.no,.no]) (st c _ ?_) hh
    exact seq_rx (s_if_t (v_t (v_op (v_var rfl) v_c (by rw [q_eqI];rfl))) (xs_ret1 (xv_a (xv_cons (xv_m rfl rfl (xv_pa (v_cons (v_var rfl) v_nil)) rfl rfl rfl e3) (xv_cons (xv_p v_c) xv_nil)) rfl)))
  . have d0:0<=m2 % (L.length + 1:Int):=Int.emod_nonneg _ (by omega)
    have d1:m2 % (L.length + 1:Int) < L.length + 1:=Int.emod_lt_of_pos _ (by omega)
    generalize hn0:m2 % (L.length + 1:Int)=n at d0 d1
    generalize hm3:m2 / (L.length + 1:Int)=m3
    have j0:0<=m3 % (L.length:Int):=Int.emod_nonneg _ (by omega)
    have j1:m3 % (L.length:Int) < L.length:=Int.emod_lt_of_pos _ (by omega)
    generalize hj:m3 % (L.length:Int)=j at j0 j1
    generalize hm4:m3 / (L.length:Int)=m4
    obtain ⟨k,hk⟩:∃ k,L[j.toNat]?=some k:=⟨_,List.getElem?_eq_getElem (by omega)⟩
    obtain ⟨x,y,rfl,bx,by'⟩:=hn k (List.mem_of_getElem? hk)
    have ij:gIx (tp L) (.int j)=.ok (tupK [x,y]):=by
      have:=ix_at hk
      rwa [Int.toNat_of_nonneg j0] at this
    obtain ⟨m5,b,e5,ib,db⟩:=w_bad m4 bx by'
    have ln:(L.map tupK).length=L.length:=List.length_map ..
    refine fin1 (h:=.lst ((L.map tupK).take n.toNat++b::(L.map tupK).drop n.toNat)) (bad:=true) (m':=m5) (zs:=[.fz (tp L),.fz (.int 1),.fz (.lst ((L.map tupK).take n.toNat++b::(L.map tupK).drop n.toNat)),.no,.no]) (st c _ ?_) (hd_put hn ib db)
    refine seq_nx (s_if_f (v_t (v_op (v_var rfl) v_c (by rw [q_eqI];rfl))) s_nx) ?_
    refine seq_nx (ρ1:=[.op [.int m2],.fz (tp L),.fz (.int 1),.ow (L.map tupK),.no,.no]) rfl ?_
    refine seq_nx (ρ1:=[.op [.int m5],.fz (tp L),.fz (.int 1),.ow ((L.map tupK).take n.toNat++b::(L.map tupK).drop n.toNat),.no,.no]) (s_if_t (v_t (v_op (v_var rfl) v_c (by rw [q_eqI];rfl))) ?_) ?_
    . refine xs_ins2 (es0:=L.map tupK) (es:=L.map tupK) (n:=n) (d:=b) (ρ1:=[.op [.int m5],.fz (tp L),.fz (.int 1),.ow (L.map tupK),.no,.no]) rfl (xv_cons (ρ1:=[.op [.int m3],.fz (tp L),.fz (.int 1),.ow (L.map tupK),.no,.no]) ?_ (xv_cons ?_ xv_nil)) rfl ⟨d0,by omega,by omega⟩ rfl
      . rw [<- hn0,<- hm3]
        exact xn (i:=0) (z:=.op [.int m2]) (m:=m2) (n:=(L.length + 1:Int)) rfl rfl (v_cons (v_op (lenO rfl) v_c q_plus) v_nil) (by omega) (by omega)
      . refine xv_m (z0:=.op [.int m3]) (z1:=.op [.int m4]) (ρ1:=[.op [.int m4],.fz (tp L),.fz (.int 1),.ow (L.map tupK),.no,.no]) rfl rfl (xv_cons (xv_op (xv_p (v_var rfl)) ?_ ij) xv_nil) rfl rfl rfl e5
        rw [<- hj,<- hm4]
        exact xn (i:=0) (z:=.op [.int m3]) (m:=m3) (n:=(L.length:Int)) rfl rfl (v_cons (v_a (v_cons (v_var rfl) v_nil) (by rw [x_lenT,ln])) v_nil) (by omega) (by omega)
    . show (rSeq _ _) [.op [.int m5],.fz (tp L),.fz (.int 1),.fz (.lst ((L.map tupK).take n.toNat++b::(L.map tupK).drop n.toNat)),.no,.no]=_
      refine seq_nx (s_if_f (v_t (v_op (v_var rfl) v_c (by rw [q_eqI];rfl))) s_nx) ?_
      show xRet _ [.op [.int m5],.fz (tp L),.fz (.int 1),.fz (.lst ((L.map tupK).take n.toNat++b::(L.map tupK).drop n.toNat)),.no,.no]=_
      exact xs_ret1 (xv_p (v_a (v_cons (v_var rfl) (v_cons (v_op (v_var rfl) v_c (by rw [q_eqI];rfl)) v_nil)) rfl))
  . have a0:0<=m2 % 1999000:=Int.emod_nonneg _ (by decide)
    have a1:m2 % 1999000 < 1999000:=Int.emod_lt_of_pos _ (by decide)
    have b0:0<=m2 / 1999000 % 1999000:=Int.emod_nonneg _ (by decide)
    have b1:m2 / 1999000 % 1999000 < 1999000:=Int.emod_lt_of_pos _ (by decide)
    obtain ⟨a,ha⟩:∃ a,m2 % 1999000 - 999500=a:=⟨_,rfl⟩
    obtain ⟨b,hb⟩:∃ b,m2 / 1999000 % 1999000 - 999500=b:=⟨_,rfl⟩
    generalize hm3:m2 / 1999000 / 1999000=m3
    have n0:0<=m3 % 3:=Int.emod_nonneg _ (by decide)
    have n1:m3 % 3 < 3:=Int.emod_lt_of_pos _ (by decide)
    obtain ⟨N,hN⟩:∃ N:Nat,12 + m3 % 3=(N:Int):=⟨(12 + m3 % 3).toNat,by omega⟩
    have t0:m3 / 3 % 2=0∨m3 / 3 % 2=1:=by omega
    obtain ⟨R,eR,mR,lR⟩:=rep_l (S:=stps a b N) (t:=1 + m3 / 3 % 2) (by omega) (by rw [List.length_map,List.length_range];omega)
    have hd:=hd_many (a:=a) (b:=b) (N:=N) (R:=R) (by omega) (by omega) (by omega) (by omega) mR lR
    refine fin1 (h:=lp R) (bad:=decide (12 < N)) (m':=m3 / 3 / 2) (zs:=[.fz (tp L),.fz (.int 2),.fz (lp R),.fz (tupK [a,b]),.fz (.int N)]) (st c _ ?_) hd
    refine seq_nx (s_if_f (v_t (v_op (v_var rfl) v_c (by rw [q_eqI];rfl))) s_nx) ?_
    refine seq_nx (ρ1:=[.op [.int m2],.fz (tp L),.fz (.int 2),.ow (L.map tupK),.no,.no]) rfl ?_
    refine seq_nx (s_if_f (v_t (v_op (v_var rfl) v_c (by rw [q_eqI];rfl))) s_nx) ?_
    show (rSeq _ _) [.op [.int m2],.fz (tp L),.fz (.int 2),.fz (lp L),.no,.no]=_
    refine seq_rx (s_if_t (v_t (v_op (v_var rfl) v_c (by rw [q_eqI];rfl))) ?_)
    refine seq_nx (ρ1:=[.op [.int m3],.fz (tp L),.fz (.int 2),.fz (lp L),.fz (tupK [a,b]),.no]) ?_ ?_
    . rw [<- ha,<- hb,<- hm3]
      exact xs_set2 (xv_a (xv_cons (xv_op (xn rfl rfl (v_cons v_c v_nil) (by decide) (by decide)) (xv_p v_c) q_sub) (xv_cons (xv_op (xn rfl rfl (v_cons v_c v_nil) (by decide) (by decide)) (xv_p v_c) q_sub) xv_nil)) (t2 _ _)) rfl
    refine seq_nx (ρ1:=[.op [.int (m3 / 3)],.fz (tp L),.fz (.int 2),.fz (lp L),.fz (tupK [a,b]),.fz (.int N)]) ?_ ?_
    . rw [<- hN]
      exact xs_set2 (xv_op (xv_p v_c) (xn rfl rfl (v_cons v_c v_nil) (by decide) (by decide)) q_plus) rfl
    refine seq_nx (ρ1:=[.op [.int (m3 / 3 / 2)],.fz (tp L),.fz (.int 2),.fz (lp R),.fz (tupK [a,b]),.fz (.int N)]) (xs_set2 (xv_op (xv_p (stp_comp (by omega) rfl rfl)) (xv_op (xv_p v_c) (xn rfl rfl (v_cons v_c v_nil) (by decide) (by decide)) q_plus) eR) rfl) ?_
    show xRet _ [.op [.int (m3 / 3 / 2)],.fz (tp L),.fz (.int 2),.fz (lp R),.fz (tupK [a,b]),.fz (.int N)]=_
    exact xs_ret1 (xv_p (v_a (v_cons (v_var rfl) (v_cons (v_op (v_var rfl) v_c (by rw [q_gt];congr 2;exact decide_eq_decide.mpr (by omega))) v_nil)) rfl))
  . have er:rise L=L:=(Asc.rise fun x hx=>hL.pr x hx).ext hL.asc fun x=>by rw [rise_mem]
    refine fin1 (h:=lp L) (bad:=false) (m':=m2) (zs:=[.fz (tp L),.fz (.int 3),.fz (lp L),.no,.no]) (st c _ ?_) (hd_lst (dep_lp L) (refused_ok (w_made (.inr rfl) hn hL.ne (by omega) (by rw [er];exact lL))) (refused_ok (w_made (.inl rfl) hn hL.ne (by omega) (by rw [er];exact lL))))
    refine seq_nx (s_if_f (v_t (v_op (v_var rfl) v_c (by rw [q_eqI];rfl))) s_nx) ?_
    refine seq_nx (ρ1:=[.op [.int m2],.fz (tp L),.fz (.int 3),.ow (L.map tupK),.no,.no]) rfl ?_
    refine seq_nx (s_if_f (v_t (v_op (v_var rfl) v_c (by rw [q_eqI];rfl))) s_nx) ?_
    show (rSeq _ _) [.op [.int m2],.fz (tp L),.fz (.int 3),.fz (lp L),.no,.no]=_
    refine seq_nx (s_if_f (v_t (v_op (v_var rfl) v_c (by rw [q_eqI];rfl))) s_nx) ?_
    show xRet _ [.op [.int m2],.fz (tp L),.fz (.int 3),.fz (lp L),.no,.no]=_
    exact xs_ret1 (xv_p (v_a (v_cons (v_var rfl) (v_cons (v_op (v_var rfl) v_c (by rw [q_eqI];rfl)) v_nil)) rfl))
theorem fl_dep (b:Bool):dep (fl b)<=8:=by cases b <;> simp [fl,dep,deps]
theorem cell_ok (c:Int) (S a2 a3 a4 a5:Sl):∃ b2 b3 b4 b5:Sl,B_law_1 [S,.fz (.int c),a2,a3,a4,a5]=.nx [S,.fz (.int c),b2,b3,b4,b5]:=by
  obtain ⟨m0,e0⟩:=w_deal c
  obtain ⟨m1,h,bad,e1,hh⟩:=w_faulty m0
  have ix:∀ b2 b5:Sl,fOp gIx (fA (fCons (fA fNil gLst) (fCons (fA (fCons (fC (.bl true)) (fCons (fC (.bl true)) (fCons (fC (.bl false)) (fCons (fC (.bl false)) fNil)))) gLst) fNil)) gLst) (fA (fCons (fVar 4) fNil) gInt) [S,.fz (.int c),b2,.fz h,.fz (.bl bad),b5]=.ok (fl bad):=fun _ _=>by cases bad <;> rfl
  refine ⟨.ow [.int m1],.fz h,.fz (.bl bad),.fz h,?_⟩
  unfold B_law_1
  refine seq_nx (ρ1:=[S,.fz (.int c),.ow [.int m0],a3,a4,a5]) (xs_setF1 (v_cons (v_var rfl) v_nil) rfl e0) ?_
  refine seq_nx (ρ1:=[S,.fz (.int c),.ow [.int m1],.fz h,.fz (.bl bad),a5]) (xs_asg1 (xv_m rfl rfl (xv_pa v_nil) rfl rfl rfl e1) rfl) ?_
  refine seq_nx (ρ1:=[S,.fz (.int c),.ow [.int m1],.fz h,.fz (.bl bad),.fz h]) (s_set (v_a (v_cons (v_var rfl) v_nil) (v_call rfl hh.kp))) ?_
  refine seq_nx (s_if_f (v_or_f (v_t (v_op (v_a (v_cons (v_var rfl) v_nil) (v_call rfl hh.rf)) (ix _ _) (q_ne_same (fl_dep bad) rfl))) (v_t (v_op (v_var rfl) (v_var rfl) hh.ne))) s_nx) ?_
  rcases hh.il with ⟨ds,rfl,r2⟩|il
  . exact s_if_f (v_and_t (v_t (v_b (v_var rfl) rfl)) (v_t (v_op (v_a (v_cons (v_a (v_cons (v_var rfl) v_nil) x_tofL) v_nil) (v_call rfl r2)) (ix _ _) (q_ne_same (fl_dep bad) rfl)))) s_nx
  . exact s_if_f (v_and_f (v_t (v_b (v_var rfl) il))) s_nx
theorem law_true (ns:List Int) (hn:ns.length<=63):v_law [.lst (ns.map D.int)]=.ok (.bl true):=by
  obtain ⟨ρ',e1,_⟩:=forD_all (h:=hName 1) (g:=B_law_1) (fun ρ=>∃ a1 a2 a3 a4 a5:Sl,ρ=[.fz (.lst (ns.map D.int)),a1,a2,a3,a4,a5]) (ds:=[.int 0]++ns.map D.int) (ρ:=[.fz (.lst (ns.map D.int)),.no,.no,.no,.no,.no]) ⟨_,_,_,_,_,rfl⟩ (by
    rintro d hd ρ ⟨a1,a2,a3,a4,a5,rfl⟩
    have:∃ x,d=.int x:=by
      rcases List.mem_append.mp hd with h|h
      . exact ⟨0,List.mem_singleton.mp h⟩
      . obtain ⟨x,_,rfl⟩:=List.mem_map.mp h;exact ⟨x,rfl⟩
    obtain ⟨x,rfl⟩:=this
    obtain ⟨b2,b3,b4,b5,e⟩:=cell_ok x (.fz (.lst (ns.map D.int))) a2 a3 a4 a5
    exact ⟨_,_,rfl,e,_,_,_,_,_,rfl⟩)
  have run:g_law (startR ["script","cell","left","handed","bad","kept"] [.lst (ns.map D.int)])=.rt (.bl true):=by
    unfold g_law
    exact seq_nx (s_nox (s_forL (v_op (v_a (v_cons v_c v_nil) (v_lst (by simp))) (v_var rfl) (gPlus_lst (by rw [List.length_map];simp only [List.length_cons,List.length_nil];lia))) e1)) (s_ret v_c)
  unfold v_law;rw [run];rfl
end K11
open PySem PySem.W PyProof.Rows
namespace PySem.W.Fast
def tw1331394294961991331:=0
def tw4666575201787364185:=0
def tw15529766090187086589:=0
def tw16896856387928817350:=0
def tw11950531888962068628:=0
def tw8811147012842051284:=0
def tw7110819116582400600:=0
def tw13971220962005492550:=0
def tw5505811771767328754:=0
def tw13759345463571497865:=0
def tw13106813263405452739:=0
def tw6643062816239944673:=0
def tw3244372173015439782:=0
def tw6582282325870815160:=0
def tw3402121841140026751:=0
def tw15233134273297163400:=0
def tw2367733953875547172:=0
def tw1551127317712079326:=0
def tw1052364869846631108:=0
def tw1946659751116781499:=0
def tw2109498806300883063:=0
def tw1260998652320469198:=0
def tw8526645547804849813:=0
def tw16280714335546834070:=0
def tw15033892370529464612:=0
def tw5624879395821035378:=0
def tw8921599457569147504:=0
def tw5621152080576411887:=0
def tw5210733277161691721:=0
def tw12891269557346417343:=0
def tw8282787673068095560:=0
def tw10568595579878623025:=0
def tw2948010470617141397:=0
def tw4061287616235203867:=0
def tw10351385295071972738:=0
def tw15082343570857327195:=0
def tw2890670566032299003:=0
def tw16186939896003410545:=0
def tw3728113707030583786:=0
def tw11927838973602885999:=0
def tw13371421426139675708:=0
def tw16216067744352275773:=0
def tw9171169305692893216:=0
def tw3460044123702489674:=0
def tw7376610942068431921:=0
def tw15066068655868479541:=0
def tw15655199557918382858:=0
def tw8995687582426486301:=0
def tw4622262708352060343:=0
def tw10054528045943576011:=0
def tw11373965247451500508:=0
def tw9225279194719892198:=0
def tw3453898414025942823:=0
def tw9805663550048187526:=0
def tw8173454935958182935:=0
def tw7216946504333367361:=0
def tw1995314174308297526:=0
def tw13860167893005208407:=0
def tw7557787231373982657:=0
def tw8320130633565944240:=0
def tw10813095867542192041:=0
def tw10065001925394739055:=0
def tw6315736784230056591:=0
def tw6381146901837732036:=0
def tw4751535333540670470:=0
def tw8699183524989633858:=0
def tw13890270343725022509:=0
def tw5583839215762241479:=0
def tw8513808307317505250:=0
def tw5310040771992541549:=0
def tw14012092605776618172:=0
def tw17538683758985061633:=0
def tw4299937709752236802:=0
def tw1488239508642580880:=0
def tw4030724093724783849:=0
def tw17743354663039529970:=0
def tw13657863057084765284:=0
def tw13219536028407296983:=0
def tw10400696787696931500:=0
def tw3091077725294282160:=0
end PySem.W.Fast
set_option maxRecDepth 100000 in
set_option maxHeartbeats 0 in
theorem PySem.Challenge.cw_edgemoss_k11_pieces_refused_holds : PySem.Challenge.rw_edgemoss_k11_pieces_refused.Holds := by
  w_on;o_law;k_head;(case hw=>w_witness2)
  k_fill
  refine Vl.walk_v (l:=PySem.Challenge.rw_edgemoss_k11_pieces_refused) (k:=5) (v:=K11.v_law) rfl rfl ⟨rfl,by decide,by decide⟩ (fun w h Y=>PySem.W.kIn_of Y) ?L ?V ?F
  case L=>exact fun w=>by kernel_rfl
  case V=>exact K11.law_true
  case F =>
    intro w mg fa h KX G hmg
    refine' K11.all_mk KX G hmg ?_ ?_ ?_ ?_ ?_ ?_ ?_ ?_ ?_ ?_ ?_ ?_ ?_ ?_ ?_ ?_ ?_ ?_ ?_ ?_ ?_ ?_ ?_ ?_ ?_ ?_ ?_ ?_ ?_ ?_ ?_ ?_ ?_ ?_ ?_ ?_ ?_ ?_ ?_ ?_ ?_ ?_ ?_ ?_ ?_ ?_ ?_ ?_ ?_ ?_ ?_
    all_goals try refine' Vl.Dn.mk ?_ ?_ ?_ ?_
    all_goals try first|k_is|kernel_rfl|k_exc
