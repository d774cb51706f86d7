import PyProof.Rows.All
import Wide.All
import OpenK.AllK
import Wide.FinOn
import Lean
import PyProof.EqAt
import PyProof.EqKinds
import PyProof.TupleCall
import PyProof.NeKinds
import PyProof.CompUse
import PyProof.NsDelKeeps
import KE.KTryMore
import KE.KIsAll
import KE.RegKTryMore
import PyProof.SetNew
import PyProof.TupleKey
import PyProof.Rows.SetFrom
import PyProof.WalksMore
import PyProof.CollectWalk
import PyProof.FactsAll.set
import PyProof.FactsAll.set_1
import PyProof.FactsAll.set_2
import KE.KSortTup
import PyProof.ListRange
import PyProof.DictRoadsH
import PyProof.WalksEnum
import PyProof.EnumMake
import PyProof.Rows.EnumRows
import KE.KRevIter
import PyProof.DictWalks
import PyProof.ZipIter
import PyProof.Draws
import PyProof.WalkInts
import PyProof.FactsAll.dict_1
import PyProof.FactsAll.tuple_2
import PyProof.ConsumeS
import KE.KLam
import KE.KMinKey
import KE.KNestM
import PyProof.ExcClass3
import OpenK.KCls
import OpenK.KMake
import PyProof.Rows.FStr
import PyProof.StrBlockG
import PySem.Challenge.RW_edgemoss_k08_whole_refusals
set_option Elab.async false
set_option linter.all false
set_option maxRecDepth 100000
/-! THE HAND LAYER, for ints, bools, texts, own classes, LISTS and tuples (index, slices, in, append, pop ..), calls, loops. Paste it whole ahead of your own text; what your proof does not reach may be deleted. -/
namespace L2
open PySem PySem.Spec PyProof.Rows

/-- a key: an int or a str -/
abbrev Key := Sum Int Str
def keyIs : Key → Value → Bool
  | .inl k, v => Value.isInt k v
  | .inr x, v => Value.isStrOf x v
def keyH (w : World) : Key → Int
  | .inl k => hashInt k
  | .inr x => hashStr w x
theorem keyIs_shape : ∀ {k : Key} {v : Value}, keyIs k v = true → (∃ i t, k = Sum.inl i ∧ v = Value.int i t) ∨ (∃ x t, k = Sum.inr x ∧ v = Value.str x t)
  | .inl i, v, h => by
    obtain ⟨t, e⟩ := Value.isInt_shape (k := i) (v := v) h
    exact .inl ⟨i, t, rfl, e⟩
  | .inr x, v, h => by
    obtain ⟨t, e⟩ := Value.isStrOf_shape (x := x) (v := v) h
    exact .inr ⟨x, t, rfl, e⟩
theorem key_ll (a b : Int) : decide ((Sum.inl a : Key) = Sum.inl b) = (a == b) := by
  by_cases e : a = b
  · subst e; simp
  · have h : ¬ (Sum.inl a : Key) = Sum.inl b := fun q => e (Sum.inl.inj q)
    rw [decide_eq_false h]
    exact (beq_eq_false_iff_ne.mpr e).symm
theorem key_rr (a b : Str) : decide ((Sum.inr a : Key) = Sum.inr b) = decide (a = b) := by
  by_cases e : a = b
  · subst e; simp
  · have h : ¬ (Sum.inr a : Key) = Sum.inr b := fun q => e (Sum.inr.inj q)
    rw [decide_eq_false h, decide_eq_false e]
theorem key_lr (a : Int) (b : Str) : decide ((Sum.inl a : Key) = Sum.inr b) = false := decide_eq_false (fun q => nomatch q)
theorem key_rl (a : Str) (b : Int) : decide ((Sum.inr a : Key) = Sum.inl b) = false := decide_eq_false (fun q => nomatch q)

def mixKind (prog : Program) (w : World) : PySem.KeyKind prog w Key where
  is := keyIs
  hash := keyH w
  inj := fun v a b ha hb => by
    rcases keyIs_shape ha with ⟨i, t, rfl, rfl⟩ | ⟨x, t, rfl, rfl⟩
    · rcases keyIs_shape hb with ⟨j, u, rfl, e⟩ | ⟨y, u, rfl, e⟩
      · injection e with e1 _; rw [e1]
      · exact nomatch e
    · rcases keyIs_shape hb with ⟨j, u, rfl, e⟩ | ⟨y, u, rfl, e⟩
      · exact nomatch e
      · injection e with e1 _; rw [e1]
  byValue := fun k v h => by
    rcases keyIs_shape h with ⟨i, t, rfl, rfl⟩ | ⟨x, t, rfl, rfl⟩ <;> rfl
  pyHash := fun hv h => by
    rcases keyIs_shape hv with ⟨i, t, rfl, rfl⟩ | ⟨x, t, rfl, rfl⟩
    · exact wpAny_pyHash_int h
    · exact wpAny_pyHash_str h
  eqBool := fun hu hv h => by
    rcases keyIs_shape hu with ⟨i, t, rfl, rfl⟩ | ⟨x, t, rfl, rfl⟩
    · rcases keyIs_shape hv with ⟨j, u, rfl, rfl⟩ | ⟨y, u, rfl, rfl⟩
      · rw [key_ll] at h; exact wpAny_eqBool_int h
      · rw [key_lr] at h; exact SeqAt.EqAt.int_str i t y u _ _ _ _ h
    · rcases keyIs_shape hv with ⟨j, u, rfl, rfl⟩ | ⟨y, u, rfl, rfl⟩
      · rw [key_rl] at h; exact SeqAt.EqAt.str_int x t j u _ _ _ _ h
      · rw [key_rr] at h; exact wpAny_eqBool_str h
  «strs» := fun k x t v h => by
    rcases keyIs_shape h with ⟨i, u, rfl, e⟩ | ⟨y, u, rfl, e⟩
    · exact nomatch e
    · injection e with e1 _
      subst e1
      cases v <;> rfl

end L2

namespace L2
open PySem PySem.Spec PyProof.Rows

/-- a value, without the heap -/
inductive V where
  | non | bl (b : Bool) | int (i : Int) | str (x : Str) | byt (b : Array UInt8) | flt (b : UInt64) | ref (a : Addr) | ty (n : String)
  deriving DecidableEq

def RelV : V → Value → Prop
  | .non, u => u = Value.none
  | .bl b, u => u = Value.bool b
  | .int i, u => ∃ t, u = Value.int i t
  | .str x, u => ∃ t, u = Value.str x t
  | .byt b, u => ∃ t, u = Value.bytes b t
  | .flt b, u => ∃ t, u = Value.float b t
  | .ref a, u => u = Value.ref a
  | .ty n, u => u = Value.type n

abbrev Vals : List V → List Value → Prop := Paired RelV
theorem Vals.length {xs : List V} {us : List Value} (r : Vals xs us) : xs.length = us.length := Paired.length r
theorem Vals.get : ∀ {xs : List V} {us : List Value} {i : Nat} {x : V}, Vals xs us → xs[i]? = some x → ∃ u, us[i]? = some u ∧ RelV x u
  | _, _, _, _, .nil, e => by simp at e
  | _, _, 0, _, .cons r _, e => by simp at e; subst e; exact ⟨_, rfl, r⟩
  | _, _, i + 1, x, .cons _ t, e => by
    obtain ⟨u, h1, h2⟩ := Vals.get (i := i) (x := x) t (by simpa using e)
    exact ⟨u, by simpa using h1, h2⟩
theorem Vals.append : ∀ {xs ys : List V} {us ws : List Value}, Vals xs us → Vals ys ws → Vals (xs ++ ys) (us ++ ws)
  | _, _, _, _, .nil, s => s
  | _, _, _, _, .cons r t, s => .cons r (Vals.append t s)
theorem Vals.take : ∀ {xs : List V} {us : List Value} (n : Nat), Vals xs us → Vals (xs.take n) (us.take n)
  | _, _, 0, _ => .nil
  | _, _, _ + 1, .nil => .nil
  | _, _, n + 1, .cons r t => .cons r (Vals.take n t)
theorem Vals.drop : ∀ {xs : List V} {us : List Value} (n : Nat), Vals xs us → Vals (xs.drop n) (us.drop n)
  | _, _, 0, r => r
  | _, _, _ + 1, .nil => .nil
  | _, _, n + 1, .cons _ t => Vals.drop n t
theorem Vals.none_of : ∀ {xs : List V} {us : List Value} {i : Nat}, Vals xs us → xs[i]? = none → us[i]? = none := fun {xs us i} r e => by
  have h1 := r.length
  have h2 : xs.length ≤ i := List.getElem?_eq_none_iff.mp e
  exact List.getElem?_eq_none_iff.mpr (by lia)

def RelO : Option V → Option Value → Prop
  | some v, some u => RelV v u
  | none, none => True
  | _, _ => False
def KV {κ : Type} : List (κ × V) → List (κ × Value) → Prop := Paired fun (p : κ × V) (q : κ × Value) => p.1 = q.1 ∧ RelV p.2 q.2

/-- a key of a dict (00_mix): an int or a text -/
def kV : Key → V
  | .inl i => .int i
  | .inr x => .str x

/-- what stands at a tracked address -/
inductive HO where
  /-- a list -/
  | lst (xs : List V)
  /-- a tuple (never changes) -/
  | tup (xs : List V)
  /-- a dict whose keys are ints and texts; one whose keys are tuples of ints and texts (the empty one is both) -/
  | dK (kvs : List (Key × V)) | dT (kvs : List (List Key × V))
  /-- a set of ints: its members, its size -/
  | set (S : Int → Bool) (n : Nat)
  /-- an instance of the class at C, its dict at dx, its attributes -/
  | ins (C dx : Addr) (fs : List (Str × V))
  /-- the dict of the instance at x -/
  | own (x : Addr)
  /-- the dict of an exception -/
  | xd (fs : List (Str × V))
  /-- a bound method, f of x -/
  | met (f x : Addr)
  /-- a range object lo, lo + 1, .. below hi -/
  | rng (lo hi : Int)
  /-- a thing that is known to the object (the script; a dict while a loop walks it): read, never written while it is so -/
  | frz (o : Obj) (u : HO)
  /-- a code object's table -/
  | tbl (ps : Array Value)
  | tab (q : Str) | cod (q : Str)
  /-- any other thing, by what is true of its one object (a def of one's own: SetO a S n := HO.ext fun h => ..) -/
  | ext (φ : Heap → Prop)

abbrev Hp := Addr → Option HO
def upd (H : Hp) (a : Addr) (o : HO) : Hp := fun b => if b = a then some o else H b
theorem upd_same {H : Hp} {a : Addr} {o : HO} : upd H a o a = some o := by unfold upd; rw [if_pos rfl]
theorem upd_ne {H : Hp} {a b : Addr} {o : HO} (h : b ≠ a) : upd H a o b = H b := by unfold upd; rw [if_neg h]
theorem upd_upd {H : Hp} {a : Addr} {o u : HO} : upd (upd H a o) a u = upd H a u := by
  funext b; unfold upd; split <;> rfl
theorem ne_of_none {H : Hp} {a b : Addr} {o : HO} (h : H a = some o) (h' : H b = none) : a ≠ b := by
  intro e; subst e; rw [h] at h'; cases h'

section
variable (P : Program) (w : World)
def ObjOk (H : Hp) (h : Heap) (a : Addr) : HO → Prop
  | .lst xs => xs.length ≤ sizeLine ∧ ∃ (its : List Value) (n : Nat), Vals xs its ∧ h.get? a = some { cls := .type "list", data := .seq its.toArray n }
  | .tup xs => xs.length ≤ sizeLine ∧ ∃ its : List Value, Vals xs its ∧ IsTup h a its.toArray
  | .dK kvs => kvs.length ≤ sizeLine ∧ (a == sysModules) = false ∧ ∃ vs, KV kvs vs ∧ h.DictOf (mixKind P w) a vs
  | .dT kvs => kvs.length ≤ sizeLine ∧ (a == sysModules) = false ∧ ∃ xs : List (List Key × Addr × Value),
      Paired (fun (p : List Key × V) (q : List Key × Addr × Value) => p.1 = q.1 ∧ H q.2.1 = some (.tup (p.1.map kV)) ∧ RelV p.2 q.2.2) kvs xs ∧
      ∃ o es ep, h.get? a = some o ∧ o.ExactDict ∧ o.data = .dict es ep ∧ es.toList = xs.map (entryOfKey (tupleKind (mixKind P w))) ∧ (xs.map (·.1)).Nodup
  | .set S n => h.SetOf (intKind P w) a S n
  | .ins C dx fs => H dx = some (.own a) ∧ fs.length ≤ 1000 ∧ dx ≠ a ∧ h.get? a = some (PySem.W.instObj C dx) ∧
      ∃ mA, h.Ns1 dx mA ∧ (∀ f, RelO (fs.lookup f) (mA f)) ∧ PySem.Within mA (fs.map (·.1))
  | .own _ => ∃ o, h.get? a = some o
  | .xd fs => ∃ mA, h.Ns1 a mA ∧ ∀ f, RelO (fs.lookup f) (mA f)
  | .rng lo hi => ∃ t u v, h.get? a = some { cls := .type "range", data := .fields #[.int lo t, .int hi u, .int 1 v] }
  | .frz o u => h.get? a = some o ∧ ObjOk H h a u
  | .tbl ps => h.get? a = some { cls := .none, data := .fields ps }
  | .tab q => ∃ ps : Array Value, h.get? a = some { cls := .none, data := .fields ps } ∧ TriplesOk ps.toList ∧ ∀ pos v, codeAmong pos ps.toList = some v → ∃ c, v = .ref c ∧ H c = some (.cod q)
  | .cod q => ∃ o vs t, h.get? a = some o ∧ o.data = .fields vs ∧ vs[1]? = some (.str q t)
  | .met f x => h.get? a = some (PySem.W.methodObj (.ref f) (.ref x))
  | .ext φ => φ h ∧ (∃ o, h.get? a = some o) ∧ ∀ h1 h2 : Heap, φ h1 → (∀ o, h1.get? a = some o → h2.get? a = some o) → φ h2
/-- the abstract heap is held -/
def HOk (H : Hp) (h : Heap) : Prop := ∀ a o, H a = some o → ObjOk P w H h a o
end

section
variable {P : Program} {w : World} {H H' : Hp} {h h' : Heap} {a : Addr} {o : HO}
theorem ObjOk.lt (x : ObjOk P w H h a o) : a < h.objs.size := by
  cases o with
  | lst xs => obtain ⟨_, _, _, _, e⟩ := x; exact Heap.lt_size e
  | tup xs => obtain ⟨_, _, _, p⟩ := x; exact p.lt
  | dK kvs => obtain ⟨_, _, _, _, o, _, _, e, _⟩ := x; exact Heap.lt_size e
  | dT kvs => obtain ⟨_, _, _, _, o, _, _, e, _⟩ := x; exact Heap.lt_size e
  | set S n => obtain ⟨o, _, _, _, e, _⟩ := x; exact Heap.lt_size e
  | ins C dx fs => obtain ⟨_, _, _, e, _⟩ := x; exact Heap.lt_size e
  | own y => obtain ⟨_, e⟩ := x; exact Heap.lt_size e
  | xd fs => obtain ⟨_, ⟨_, _, _, e, _⟩, _⟩ := x; exact Heap.lt_size e
  | rng lo hi => obtain ⟨_, _, _, e⟩ := x; exact Heap.lt_size e
  | frz ob u => obtain ⟨e, _⟩ := x; exact Heap.lt_size e
  | tbl ps => exact Heap.lt_size (show h.get? a = some _ from x)
  | tab q => obtain ⟨_, e, _⟩ := x; exact Heap.lt_size e
  | cod q => obtain ⟨_, _, _, e, _⟩ := x; exact Heap.lt_size e
  | met f y => exact Heap.lt_size (show h.get? a = some _ from x)
  | ext φ => obtain ⟨_, ⟨_, e⟩, _⟩ := x; exact Heap.lt_size e
theorem Paired.mapP {α β : Type} {F G : α → β → Prop} : ∀ {l₁ : List α} {l₂ : List β}, Paired F l₁ l₂ → (∀ a b, F a b → G a b) → Paired G l₁ l₂
  | _, _, .nil, _ => .nil
  | _, _, .cons r t, f => .cons (f _ _ r) (Paired.mapP t f)
/-- what an object's description leans on: its own object, its own dict, the tuples -/
theorem ObjOk.stay (x : ObjOk P w H h a o) (k : ∀ b u, (b = a ∨ H b = some (.own a)) → h.get? b = some u → h'.get? b = some u)
    (ho : ∀ b, H b = some (.own a) → H' b = some (.own a)) (ht : ∀ b xs, H b = some (.tup xs) → H' b = some (.tup xs)) (hcod : ∀ b q, H b = some (.cod q) → H' b = some (.cod q)) : ObjOk P w H' h' a o := by
  induction o with
  | lst xs => obtain ⟨z, its, n, r, e⟩ := x; exact ⟨z, its, n, r, k _ _ (.inl rfl) e⟩
  | tup xs => obtain ⟨z, its, r, ob, e, c⟩ := x; exact ⟨z, its, r, ob, k _ _ (.inl rfl) e, c⟩
  | dK kvs => obtain ⟨z, y, vs, r, ob, es, ep, e, c⟩ := x; exact ⟨z, y, vs, r, ob, es, ep, k _ _ (.inl rfl) e, c⟩
  | dT kvs =>
    obtain ⟨z, y, xs, r, ob, es, ep, e, c⟩ := x
    exact ⟨z, y, xs, Paired.mapP r fun p q z => ⟨z.1, ht _ _ z.2.1, z.2.2⟩, ob, es, ep, k _ _ (.inl rfl) e, c⟩
  | set S n => obtain ⟨ob, es, ep, t, e, c⟩ := x; exact ⟨ob, es, ep, t, k _ _ (.inl rfl) e, c⟩
  | ins C dx fs =>
    obtain ⟨d, z, ne, e, mA, ⟨od, es, ep, e2, c⟩, r⟩ := x
    exact ⟨ho _ d, z, ne, k _ _ (.inl rfl) e, mA, ⟨od, es, ep, k _ _ (.inr d) e2, c⟩, r⟩
  | own y => obtain ⟨ob, e⟩ := x; exact ⟨ob, k _ _ (.inl rfl) e⟩
  | xd fs => obtain ⟨mA, ⟨od, es, ep, e, c⟩, r⟩ := x; exact ⟨mA, ⟨od, es, ep, k _ _ (.inl rfl) e, c⟩, r⟩
  | rng lo hi => obtain ⟨t, u, v, e⟩ := x; exact ⟨t, u, v, k _ _ (.inl rfl) e⟩
  | frz ob u ih => obtain ⟨e, q⟩ := x; exact ⟨k _ _ (.inl rfl) e, ih q⟩
  | tbl ps =>
    have e : h.get? a = some { cls := .none, data := .fields ps } := x
    show h'.get? a = some { cls := .none, data := .fields ps }
    exact k a _ (.inl rfl) e
  | tab q =>
    obtain ⟨ps, e, t, c⟩ := x
    exact ⟨ps, k _ _ (.inl rfl) e, t, fun pos v z => let ⟨c', e1, e2⟩ := c pos v z; ⟨c', e1, hcod _ _ e2⟩⟩
  | cod q => obtain ⟨o, vs, t, e, r⟩ := x; exact ⟨o, vs, t, k _ _ (.inl rfl) e, r⟩
  | met f y =>
    have e : h.get? a = some (PySem.W.methodObj (.ref f) (.ref y)) := x
    show h'.get? a = some (PySem.W.methodObj (.ref f) (.ref y))
    exact k a _ (.inl rfl) e
  | ext φ => obtain ⟨p, ⟨o, e⟩, st⟩ := x; exact ⟨st _ _ p fun o q => k _ _ (.inl rfl) q, ⟨o, k _ _ (.inl rfl) e⟩, st⟩
theorem HOk.lt (x : HOk P w H h) (e : H a = some o) : a < h.objs.size := (x a o e).lt
theorem HOk.fresh (x : HOk P w H h) (e : h.objs.size ≤ a) : H a = none := by
  cases q : H a with
  | none => rfl
  | some u => exact absurd (Nat.lt_of_lt_of_le (x.lt q) e) (Nat.lt_irrefl _)
/-- every object of the heap is kept -/
theorem HOk.kept (x : HOk P w H h) (k : ∀ b u, h.get? b = some u → h'.get? b = some u) : HOk P w H h' := fun a o e =>
  (x a o e).stay (fun b u _ q => k b u q) (fun _ q => q) (fun _ _ q => q) fun _ _ q => q
/-- a new object is laid and tracked -/
theorem HOk.laid (x : HOk P w H h) (k : ∀ b u, h.get? b = some u → h'.get? b = some u) (hp : h.objs.size ≤ a) (new : ObjOk P w (upd H a o) h' a o) : HOk P w (upd H a o) h' := fun b u e => by
  have hn := x.fresh hp
  by_cases hb : b = a
  · subst hb; rw [upd_same] at e; cases e; exact new
  · rw [upd_ne hb] at e
    exact (x b u e).stay (fun c v _ q => k c v q) (fun c q => by rw [upd_ne (ne_of_none q hn)]; exact q) (fun c xs q => by rw [upd_ne (ne_of_none q hn)]; exact q) fun c xs q => by rw [upd_ne (ne_of_none q hn)]; exact q
end

/-- what may be read as u: it is u, or a known u -/
def Rd (H : Hp) (a : Addr) (u : HO) : Prop := H a = some u ∨ ∃ o, H a = some (.frz o u)
theorem Rd.ok {P : Program} {w : World} {H : Hp} {h : Heap} {a : Addr} {u : HO} (r : Rd H a u) (x : HOk P w H h) : ObjOk P w H h a u := by
  rcases r with r | ⟨o, r⟩
  · exact x a u r
  · obtain ⟨_, q⟩ := x a _ r
    exact q
/-- what may be written -/
def Mut : Option HO → Prop
  | some (.lst _) => True
  | some (.dK _) => True
  | some (.dT _) => True
  | some (.set _ _) => True
  | some (.ins _ _ _) => True
  | some (.ext _) => True
  | some (.tab _) => True
  | _ => False
section
variable {P : Program} {w : World} {H : Hp} {h h' : Heap} {x e : Addr} {o' : HO}
/-- the object at e is changed: x itself, or the dict of the instance x -/
theorem HOk.write (ok : HOk P w H h) (mu : Mut (H x)) (he : e = x ∨ H e = some (.own x)) (k : ∀ b u, b ≠ e → h.get? b = some u → h'.get? b = some u) (heo : ∃ u, h'.get? e = some u)
    (new : ObjOk P w (upd H x o') h' x o') : HOk P w (upd H x o') h' := fun b u q => by
  have nown : ∀ c y, H c = some (.own y) → c ≠ x := fun c y r z => by subst z; rw [r] at mu; exact mu
  have ntup : ∀ c xs, H c = some (.tup xs) → c ≠ x := fun c xs r z => by subst z; rw [r] at mu; exact mu
  have ncod : ∀ c q, H c = some (.cod q) → c ≠ x := fun c q r z => by subst z; rw [r] at mu; exact mu
  by_cases hb : b = x
  · subst hb; rw [upd_same] at q; cases q; exact new
  · rw [upd_ne hb] at q
    by_cases hbe : b = e
    · have q' : H b = some (.own x) := by
        rcases he with z | z
        · exact absurd (hbe.trans z) hb
        · rw [hbe]; exact z
      rw [q] at q'; cases q'
      obtain ⟨v, hv⟩ := heo
      exact ⟨v, by rw [hbe]; exact hv⟩
    · refine (ok b u q).stay (fun c v hc r => k c v ?_ r) (fun c r => by rw [upd_ne (nown c b r)]; exact r) (fun c xs r => by rw [upd_ne (ntup c xs r)]; exact r) fun c q r => by rw [upd_ne (ncod c q r)]; exact r
      rcases hc with rfl | hc
      · exact hbe
      · rintro rfl
        rcases he with z | z
        · exact nown c b hc z
        · rw [hc] at z; cases z; exact hb rfl
end

/-! ### kept unless tracked; of the frames at fs (the callers') the slots may change (an exception that passes writes there); of the records at ex (iterators) nothing is said -/
structure Un (fs ex : List Addr) (H H' : Hp) (h h' : Heap) : Prop where
  keep : ∀ b o, h.get? b = some o → H b = none → b ∉ fs → b ∉ ex → h'.get? b = some o
  slot : ∀ b o, h.get? b = some o → H b = none → b ∈ fs → b ∉ ex → ∃ sl, h'.get? b = some { o with slots := sl }
  free : ∀ b o, h.get? b = some o → H b = none → b ∉ ex → H' b = none
  there : ∀ b o, h.get? b = some o → b ∉ ex → ∃ o', h'.get? b = some o'
  tups : ∀ b xs, H b = some (.tup xs) → H' b = some (.tup xs)
  frzs : ∀ b o u, H b = some (.frz o u) → H' b = some (.frz o u)
  tbls : ∀ b ps, H b = some (.tbl ps) → ∃ more, H' b = some (.tbl (ps ++ more))
section
variable {fs fs' ex ex' : List Addr} {H H1 H2 : Hp} {h h1 h2 h' : Heap} {a x e : Addr} {o : HO}
theorem Un.any (u : Un fs ex H H1 h h1) {b : Addr} {ob : Obj} (q : h.get? b = some ob) (n : H b = none) (hx : b ∉ ex) : ∃ sl, h1.get? b = some { ob with slots := sl } := by
  by_cases hb : b ∈ fs
  · exact u.slot b ob q n hb hx
  · exact ⟨ob.slots, u.keep b ob q n hb hx⟩
theorem Un.kept (k : ∀ b u, h.get? b = some u → h'.get? b = some u) : Un fs ex H H h h' :=
  ⟨fun b ob q _ _ _ => k b ob q, fun b ob q _ _ _ => ⟨ob.slots, k b ob q⟩, fun _ _ _ n _ => n, fun b ob q _ => ⟨ob, k b ob q⟩, fun _ _ q => q, fun _ _ _ q => q, fun _ ps q => ⟨#[], by rw [q]; simp⟩⟩
theorem Un.refl : Un fs ex H H h h := Un.kept fun _ _ q => q
theorem Un.laid (k : ∀ b u, h.get? b = some u → h'.get? b = some u) (hp : h.objs.size ≤ a) (hn : H a = none) : Un fs ex H (upd H a o) h h' where
  keep := fun b u q _ _ _ => k b u q
  slot := fun b u q _ _ _ => ⟨u.slots, k b u q⟩
  free := fun b u q n _ => by rw [upd_ne (Nat.ne_of_lt (Nat.lt_of_lt_of_le (Heap.lt_size q) hp))]; exact n
  there := fun b u q _ => ⟨u, k b u q⟩
  tups := fun b xs q => by rw [upd_ne (ne_of_none q hn)]; exact q
  frzs := fun b u xs q => by rw [upd_ne (ne_of_none q hn)]; exact q
  tbls := fun b ps q => ⟨#[], by rw [upd_ne (ne_of_none q hn), q]; simp⟩
theorem Un.write (mu : Mut (H x)) (he : e = x ∨ H e = some (.own x)) (k : ∀ b u, b ≠ e → h.get? b = some u → h'.get? b = some u) (heo : ∃ u, h'.get? e = some u) : Un fs ex H (upd H x o) h h' := by
  have hx : ∀ b, H b = none → b ≠ x := fun b n z => by subst z; rw [n] at mu; exact mu
  have hb : ∀ b, H b = none → b ≠ e := fun b n z => by
    subst z
    rcases he with r | r
    · exact hx b n r
    · rw [n] at r; cases r
  have hm : ∀ b u, H b = some u → ¬ Mut (some u) → b ≠ x := fun b u q nm z => by subst z; rw [q] at mu; exact nm mu
  refine ⟨fun b u q n _ _ => k b u (hb b n) q, fun b u q n _ _ => ⟨u.slots, k b u (hb b n) q⟩, fun b u q n _ => by rw [upd_ne (hx b n)]; exact n, fun b u q _ => ?_,
    fun b xs q => by rw [upd_ne (hm b _ q fun z => z)]; exact q, fun b u xs q => by rw [upd_ne (hm b _ q fun z => z)]; exact q, fun b ps q => ⟨#[], by rw [upd_ne (hm b _ q fun z => z), q]; simp⟩⟩
  by_cases hbe : b = e
  · subst hbe; exact heo
  · exact ⟨u, k b u hbe q⟩
end

/-! ### the heap without what is tracked -/
def trk (h : Heap) (H : Hp) : List Addr := (List.range h.objs.size).filter fun a => (H a).isSome
def hidT (h : Heap) (H : Hp) : Heap := PySem.W.hideAll h (trk h H)
theorem hidT_size (h : Heap) (H : Hp) : (hidT h H).objs.size = h.objs.size := PySem.W.hideAll_size _ _
theorem hidT_get {h : Heap} {H : Hp} {b : Addr} {o : Obj} (e : h.get? b = some o) (n : H b = none) : (hidT h H).get? b = some o :=
  PySem.W.hideAll_get _ e fun hm => by
    have q : (H b).isSome = true := (List.mem_filter.mp hm).2
    rw [n] at q; simp at q
theorem of_hidT {h : Heap} {H : Hp} {b : Addr} {o : Obj} (e : (hidT h H).get? b = some o) : h.get? b = some o ∧ H b = none := by
  have e' : h.get? b = some o := PySem.W.of_hideAll (trk h H) e
  refine ⟨e', ?_⟩
  cases q : H b with
  | none => rfl
  | some x =>
    have hm : b ∈ trk h H := List.mem_filter.mpr ⟨List.mem_range.mpr (Heap.lt_size e'), by simp [q]⟩
    have z : (hidT h H).get? b = none := PySem.W.hideAll_none (trk h H) hm
    rw [z] at e; cases e

/-! ### OpenK's ledger, filled with every new object but one -/
def allNews (g h : Heap) (L : Addr) : List (Addr × Obj) := (List.range h.objs.size).filterMap fun a => if a = L ∨ (g.get? a).isSome = true then none else (h.get? a).map fun o => (a, o)
def rest (g h : Heap) (L d : Addr) : List (Addr × Obj) := (allNews g h L).filter fun p => decide (p.1 ≠ d)
end L2

namespace L2
open PySem PySem.Spec PyProof.Rows

/-- the module's facts, over the base: the heap at the law's entry without what is tracked there -/
structure Mod (K : PySem.W.Frag) (mg : Str → Option Value) (base : Heap) : Prop where
  kin : K.In base
  glob : base.Ns mainGlobals mg
  blt : ∃ mb, base.Ns builtinsNs mb ∧ ∀ x : Str, x ≠ "__name__" → mb x = bootBuiltins x
  nolimit : base.NoLimit
  bm : ∃ bm ob, mg "__builtins__" = some (.ref bm) ∧ bm ≠ builtinsNs ∧ base.get? bm = some ob ∧ ob.cls = .type "module" ∧ ob.dict = some builtinsNs ∧ ob.data = .plain

/-- the context: a def's body (or a comprehension's block) running. base: fixed through the whole law; s₀, H₀: the entry; outer: the frames whose slots others may change (a def's callers); stack: all frames that run;
   ex: iterators that were made ahead of the entry and are walked here (a comprehension's); fn: the names whose cells were made at the entry (a def: all; a comprehension's block: its own); calm: not within an except suite; pn: pins that every state bears; xe: what is wanted of an exception that leaves the code -/
structure Cx where
  prog : Program
  w : World
  K : PySem.W.Frag
  mg : Str → Option Value
  base : Heap
  A : Around
  N : List Str
  s₀ : Shared
  H₀ : Hp
  env : Env
  outer : List Env
  stack : List Env
  ex : List Addr
  fn : Str → Bool
  calm : Bool
  pn : List (Addr × Obj)
  xe : Value → Shared → Prop
/-- the callers' frames -/
def frs (l : List Env) : List Addr := l.filterMap (·.frame)
abbrev Cx.fs (X : Cx) : List Addr := frs X.outer

def Vis (sc : Scope) (x : Str) : Prop := sc.names.lookup x = some .local ∨ sc.names.lookup x = some .cell ∨ sc.names.lookup x = some .free
def Loc (sc : Scope) (x : Str) : Prop := sc.names.lookup x = some .local ∨ sc.names.lookup x = some .cell
def Look (env : Env) (h : Heap) (m : Str → Option Value) (x : Str) (u : Value) : Prop :=
  (env.kindOf x = some .local ∧ m x = some u) ∨ ((env.kindOf x = some .cell ∨ env.kindOf x = some .free) ∧ ∃ c, env.cells.lookup x = some c ∧ h.IsCell c (some u))

structure Cx.Ok (X : Cx) : Prop where
  mod : Mod X.K X.mg X.base
  kind : X.env.scope.kind = .function
  glob : X.env.globals = mainGlobals
  blt : X.env.builtins = builtinsNs
  above : X.s₀.heap.objs.size ≤ X.env.locals
  inj : ∀ x y c, X.env.cells.lookup x = some c → X.env.cells.lookup y = some c → x = y
  has : ∀ x, (X.env.kindOf x = some .cell ∨ X.env.kindOf x = some .free) → ∃ c, X.env.cells.lookup x = some c
  cab : ∀ x c, X.fn x = true → X.env.cells.lookup x = some c → X.s₀.heap.objs.size ≤ c
  hd : X.calm = true → X.A.handled = none
  frames : X.A.frames = some X.stack
  stk : X.stack = X.outer ∨ (X.stack = X.env :: X.outer ∧ X.env.frame = some X.env.locals)
  exf : ∀ b ∈ X.ex, b ≠ X.env.locals ∧ ∀ x c, X.env.cells.lookup x = some c → c ≠ b
  bs : ∀ b o, X.base.get? b = some o → X.s₀.heap.get? b = some o ∧ X.H₀ b = none
  bsz : X.base.objs.size ≤ X.s₀.heap.objs.size
  noex : ∀ b o, X.base.get? b = some o → b ∉ X.ex
  exfs : ∀ b ∈ X.ex, b ∉ X.fs
  funs : X.s₀.heap.FunFrames X.base X.outer
  frf : ∀ b ∈ X.fs, X.H₀ b = none

structure Inv (X : Cx) (pins : List (Addr × Obj)) (σ : List (Option V)) (H : Hp) (s : Shared) : Prop where
  ok : X.Ok
  os : s.os = X.s₀.os
  bare : AllBare s.gens
  base : Un X.fs X.ex X.H₀ H X.s₀.heap s.heap
  loc : ∃ m, s.heap.Ns X.env.locals m ∧ ∀ (i : Nat) (x : Str) (v : V), X.N[i]? = some x → σ[i]? = some (some v) → Vis X.env.scope x → ∃ u, RelV v u ∧ Look X.env s.heap m x u
  cell : ∀ x c, X.env.cells.lookup x = some c → ∃ v, s.heap.IsCell c v
  free : H X.env.locals = none
  freeC : ∀ x c, X.env.cells.lookup x = some c → H c = none
  pin : ∀ p ∈ X.pn ++ pins, s.heap.get? p.1 = some p.2 ∧ H p.1 = none ∧ p.1 ≠ X.env.locals ∧ p.1 ∉ X.fs ∧ ∀ v, p.2.data ≠ .cell v
  hok : HOk X.prog X.w H s.heap
  len : σ.length = X.N.length

section
variable {X : Cx} {pins : List (Addr × Obj)} {σ : List (Option V)} {H H' : Hp} {s : Shared} {h' : Heap}

theorem Cx.Ok.nofr (ok : X.Ok) {b : Addr} {o : Obj} (e : X.base.get? b = some o) : b ∉ X.fs := fun hb => by
  have := (ok.funs.mem hb).1
  rw [e] at this; cases this
theorem Inv.bs (I : Inv X pins σ H s) : ∀ b o, X.base.get? b = some o → s.heap.get? b = some o ∧ H b = none := fun b o e =>
  ⟨I.base.keep b o (I.ok.bs b o e).1 (I.ok.bs b o e).2 (I.ok.nofr e) (I.ok.noex b o e), I.base.free b o (I.ok.bs b o e).1 (I.ok.bs b o e).2 (I.ok.noex b o e)⟩
theorem Inv.bk (I : Inv X pins σ H s) : ∀ b o, X.base.get? b = some o → s.heap.get? b = some o := fun b o e => (I.bs b o e).1
theorem Inv.mod (I : Inv X pins σ H s) : Mod X.K X.mg X.base := I.ok.mod
theorem Inv.kIn (I : Inv X pins σ H s) : X.K.In s.heap := I.ok.mod.kin.keeps I.bk
theorem Inv.lt (I : Inv X pins σ H s) : X.env.locals < s.heap.objs.size := let ⟨_, hn, _⟩ := I.loc; hn.lt
theorem Inv.sz (I : Inv X pins σ H s) : X.s₀.heap.objs.size ≤ s.heap.objs.size := Nat.le_trans I.ok.above (Nat.le_of_lt I.lt)
theorem Inv.nofs (I : Inv X pins σ H s) {a : Addr} (h : s.heap.objs.size ≤ a) : a ∉ X.fs := fun hb => by
  obtain ⟨_, o, ho, _⟩ := I.ok.funs.mem hb
  exact absurd (Nat.lt_of_lt_of_le (Heap.lt_size ho) (Nat.le_trans I.sz h)) (Nat.lt_irrefl _)
theorem Inv.cne (I : Inv X pins σ H s) : ∀ x c, X.env.cells.lookup x = some c → c ≠ X.env.locals := fun x c e z => by
  obtain ⟨v, o, ho, hd⟩ := I.cell x c e
  obtain ⟨m, ⟨o', es, ep, ho', hd', _⟩, _⟩ := I.loc
  rw [z, ho'] at ho; cases ho; rw [hd'] at hd; cases hd
theorem Inv.funs (I : Inv X pins σ H s) : s.heap.FunFrames X.base X.outer := by
  have all : ∀ (l : List Env), (∀ b ∈ frs l, b ∈ X.fs) → X.s₀.heap.FunFrames X.base l → s.heap.FunFrames X.base l := by
    intro l
    induction l with
    | nil => intro _ _; trivial
    | cons env r ih =>
      intro hs hl
      obtain ⟨hk, ⟨L, o, hf, hn, ho, hd⟩, hr⟩ := hl
      have hL : L ∈ X.fs := hs L (by unfold frs; rw [List.filterMap_cons, hf]; exact List.mem_cons_self)
      obtain ⟨sl, e⟩ := I.base.slot L o ho (I.ok.frf L hL) hL fun z => I.ok.exfs L z hL
      exact ⟨hk, ⟨L, _, hf, hn, e, hd⟩, ih (fun b hb => hs b (by unfold frs; rw [List.filterMap_cons, hf]; exact List.mem_cons_of_mem _ hb)) hr⟩
  exact all X.outer (fun _ hb => hb) I.ok.funs

/-- the frames that run, for a call -/
theorem Inv.stack (I : Inv X pins σ H s) : s.heap.FunFrames X.base X.stack := by
  rcases I.ok.stk with e | ⟨e, hf⟩
  · rw [e]; exact I.funs
  · rw [e]
    obtain ⟨m, hn, _⟩ := I.loc
    refine .cons (by rw [I.ok.kind]; decide) hf hn ?_ I.funs
    exact Heap.get?_none_of_le (Nat.le_trans I.ok.bsz I.ok.above)
theorem Inv.stkSub (I : Inv X pins σ H s) : ∀ b ∈ frs X.stack, b ∈ X.env.locals :: X.fs := fun b hb => by
  rcases I.ok.stk with e | ⟨e, hf⟩
  · rw [e] at hb; exact List.mem_cons_of_mem _ hb
  · rw [e] at hb
    unfold frs at hb
    rw [List.filterMap_cons, hf] at hb
    exact hb
theorem Inv.stkFree (I : Inv X pins σ H s) : ∀ b ∈ frs X.stack, H b = none := fun b hb => by
  rcases List.mem_cons.mp (I.stkSub b hb) with e | hb
  · rw [e]; exact I.free
  · obtain ⟨_, o, ho, _⟩ := I.ok.funs.mem hb
    exact I.base.free b o ho (I.ok.frf b hb) fun z => I.ok.exfs b z hb

/-- THE STEP: the untracked objects but the frame and the records at ch are kept (the callers' frames up to slots), the frame's map is kept, the new abstract heap is held -/
theorem Inv.step {g' : Array GenState} {t' : Nat} {d' : Drawn} {ch : List Addr} (I : Inv X pins σ H s)
    (hch : ∀ b ∈ ch, (b ∈ X.ex ∨ X.s₀.heap.objs.size ≤ b) ∧ b ≠ X.env.locals ∧ (∀ x c, X.env.cells.lookup x = some c → c ≠ b) ∧ ∀ p ∈ X.pn ++ pins, p.1 ≠ b)
    (keep : ∀ b o, b ≠ X.env.locals → b ∉ X.fs → b ∉ ch → s.heap.get? b = some o → H b = none → h'.get? b = some o)
    (slot : ∀ b o, b ≠ X.env.locals → b ∈ X.fs → b ∉ ch → s.heap.get? b = some o → H b = none → ∃ sl, h'.get? b = some { o with slots := sl }) (free : ∀ b o, b ∉ ch → s.heap.get? b = some o → H b = none → H' b = none)
    (there : ∀ b o, b ∉ ch → s.heap.get? b = some o → ∃ o', h'.get? b = some o')
    (tups : ∀ b xs, H b = some (.tup xs) → H' b = some (.tup xs)) (frzs : ∀ b o u, H b = some (.frz o u) → H' b = some (.frz o u)) (tbls : ∀ b ps, H b = some (.tbl ps) → ∃ more, H' b = some (.tbl (ps ++ more)))
    (ns : ∀ m, s.heap.Ns X.env.locals m → h'.Ns X.env.locals m) (hok : HOk X.prog X.w H' h') (hg : AllBare g') :
    Inv X pins σ H' { s with heap := h', gens := g', drawn := d', toks := t' } := by
  have neL : ∀ b o, X.s₀.heap.get? b = some o → b ≠ X.env.locals := fun b o e => Nat.ne_of_lt (Nat.lt_of_lt_of_le (Heap.lt_size e) I.ok.above)
  have neC : ∀ b o, X.s₀.heap.get? b = some o → b ∉ X.ex → b ∉ ch := fun b o e hx hb => by
    rcases (hch b hb).1 with z | z
    · exact hx z
    · exact absurd (Nat.lt_of_lt_of_le (Heap.lt_size e) z) (Nat.lt_irrefl _)
  have cellK : ∀ x c, X.env.cells.lookup x = some c → ∀ v, s.heap.IsCell c v → h'.IsCell c v := fun x c e v ⟨o, ho, hd⟩ => by
    have nch : c ∉ ch := fun z => (hch c z).2.2.1 x c e rfl
    by_cases hc : c ∈ X.fs
    · obtain ⟨sl, q⟩ := slot c o (I.cne x c e) hc nch ho (I.freeC x c e)
      exact ⟨_, q, hd⟩
    · exact ⟨o, keep c o (I.cne x c e) hc nch ho (I.freeC x c e), hd⟩
  refine ⟨I.ok, I.os, hg, ⟨fun b o e n hb hx => ?_, fun b o e n hb hx => ?_, fun b o e n hx => ?_, fun b o e hx => ?_, fun b xs e => tups b xs (I.base.tups b xs e), fun b o xs e => frzs b o xs (I.base.frzs b o xs e), fun b ps e => ?_⟩, ?_, fun x c e => ?_, ?_, fun x c e => ?_, fun p hp => ?_, hok, I.len⟩
  · exact keep b o (neL b o e) hb (neC b o e hx) (I.base.keep b o e n hb hx) (I.base.free b o e n hx)
  · obtain ⟨sl, e1⟩ := I.base.slot b o e n hb hx
    obtain ⟨sl', e2⟩ := slot b _ (neL b o e) hb (neC b o e hx) e1 (I.base.free b o e n hx)
    exact ⟨sl', e2⟩
  · obtain ⟨o', e1⟩ := I.base.there b o e hx
    exact free b o' (neC b o e hx) e1 (I.base.free b o e n hx)
  · obtain ⟨o', e1⟩ := I.base.there b o e hx
    exact there b o' (neC b o e hx) e1
  · obtain ⟨m1, e1⟩ := I.base.tbls b ps e
    obtain ⟨m2, e2⟩ := tbls b _ e1
    exact ⟨m1 ++ m2, by rw [e2, Array.append_assoc]⟩
  · obtain ⟨m, hn, hl⟩ := I.loc
    refine ⟨m, ns m hn, fun i x v e1 e2 e3 => ?_⟩
    obtain ⟨u, r, l⟩ := hl i x v e1 e2 e3
    refine ⟨u, r, ?_⟩
    rcases l with l | ⟨k, c, e, z⟩
    · exact .inl l
    · exact .inr ⟨k, c, e, cellK x c e _ z⟩
  · obtain ⟨v, z⟩ := I.cell x c e
    exact ⟨v, cellK x c e v z⟩
  · obtain ⟨m, ⟨o, _, _, ho, _⟩, _⟩ := I.loc
    exact free _ o (fun z => (hch _ z).2.1 rfl) ho I.free
  · obtain ⟨v, o, ho, hd⟩ := I.cell x c e
    exact free c o (fun z => (hch c z).2.2.1 x c e rfl) ho (I.freeC x c e)
  · obtain ⟨e, n, ne, nf, d⟩ := I.pin p hp
    have nch : p.1 ∉ ch := fun z => (hch p.1 z).2.2.2 p hp rfl
    exact ⟨keep p.1 p.2 ne nf nch e n, free p.1 p.2 nch e n, ne, nf, d⟩
/-- .. where the frame's own object is kept too -/
theorem Inv.un {t' : Nat} (I : Inv X pins σ H s) (u : Un X.fs [] H H' s.heap h') (hok : HOk X.prog X.w H' h') : Inv X pins σ H' { s with heap := h', toks := t' } := by
  obtain ⟨m, ⟨o, es, ep, ho, r⟩, _⟩ := id I.loc
  obtain ⟨sl, hL⟩ := u.any ho I.free (by simp)
  exact I.step (g' := s.gens) (d' := s.drawn) (ch := []) (fun _ z => nomatch z) (fun b o _ hb _ e n => u.keep b o e n hb (by simp)) (fun b o _ hb _ e n => u.slot b o e n hb (by simp)) (fun b o _ e n => u.free b o e n (by simp)) (fun b o _ e => u.there b o e (by simp)) u.tups u.frzs u.tbls (fun m' hm => by
    obtain ⟨o', es', ep', ho', r'⟩ := hm
    rw [ho] at ho'; cases ho'
    exact ⟨_, es', ep', hL, r'⟩) hok I.bare
/-- behind a call (or a comprehension's block): the slots of this frame may have changed too, the records at ch may have turned -/
theorem Inv.call {g' : Array GenState} {t' : Nat} {d' : Drawn} {ch : List Addr} (I : Inv X pins σ H s) (u : Un (frs X.stack) ch H H' s.heap h') (hok : HOk X.prog X.w H' h') (hg : AllBare g')
    (hch : ∀ b ∈ ch, (b ∈ X.ex ∨ X.s₀.heap.objs.size ≤ b) ∧ b ≠ X.env.locals ∧ (∀ x c, X.env.cells.lookup x = some c → c ≠ b) ∧ ∀ p ∈ X.pn ++ pins, p.1 ≠ b) :
    Inv X pins σ H' { s with heap := h', gens := g', drawn := d', toks := t' } := by
  obtain ⟨m, ⟨o, es, ep, ho, r⟩, _⟩ := id I.loc
  obtain ⟨sl, hL⟩ := u.any ho I.free fun z => (hch _ z).2.1 rfl
  exact I.step (ch := ch) hch (fun b o hL hb hc e n => u.keep b o e n (fun z => (List.mem_cons.mp (I.stkSub b z)).elim hL hb) hc) (fun b o _ _ hc e n => u.any e n hc) (fun b o hc e n => u.free b o e n hc) (fun b o hc e => u.there b o e hc) u.tups u.frzs u.tbls (fun m' hm => by
    obtain ⟨o', es', ep', ho', r'⟩ := hm
    rw [ho] at ho'; cases ho'
    exact ⟨_, es', ep', hL, r'⟩) hok hg
/-- an untracked record of ours (an iterator) has turned -/
theorem Inv.turned {t' : Nat} {it : Addr} (I : Inv X pins σ H s) (k : ∀ b o, b ≠ it → s.heap.get? b = some o → h'.get? b = some o) (hn : H it = none) (hL : it ≠ X.env.locals)
    (h1 : it ∈ X.ex ∨ X.s₀.heap.objs.size ≤ it) (h2 : ∀ x c, X.env.cells.lookup x = some c → c ≠ it) (h3 : ∀ p ∈ X.pn ++ pins, p.1 ≠ it) : Inv X pins σ H { s with heap := h', toks := t' } := by
  have nit : ∀ b u, H b = some u → b ≠ it := fun b u e z => by rw [z, hn] at e; cases e
  refine I.step (g' := s.gens) (d' := s.drawn) (ch := [it]) (fun b hb => ?_) (fun b o _ _ hc e _ => k b o (fun z => hc (by simp [z])) e) (fun b o _ _ hc e _ => ⟨o.slots, k b o (fun z => hc (by simp [z])) e⟩) (fun _ _ _ _ n => n)
    (fun b o hc e => ⟨o, k b o (fun z => hc (by simp [z])) e⟩) (fun _ _ e => e) (fun _ _ _ e => e) (fun b ps e => ⟨#[], by rw [e]; simp⟩) (fun m hm => ?_) (fun b u e => ?_) I.bare
  · have e : b = it := by simpa using hb
    subst e
    exact ⟨h1, hL, h2, h3⟩
  · obtain ⟨o, es, ep, ho, r⟩ := hm
    exact ⟨o, es, ep, k _ o (Ne.symm hL) ho, r⟩
  · refine (I.hok b u e).stay (fun c v hc q => k c v ?_ q) (fun _ q => q) (fun _ _ q => q) fun _ _ q => q
    rcases hc with z | z
    · rw [z]; exact nit b u e
    · exact nit c _ z
theorem Inv.tok (I : Inv X pins σ H s) (t : Nat) : Inv X pins σ H { s with toks := t } := I.un (h' := s.heap) (t' := t) Un.refl I.hok
/-- all objects kept -/
theorem Inv.kept {t' : Nat} (I : Inv X pins σ H s) (k : ∀ b u, s.heap.get? b = some u → h'.get? b = some u) : Inv X pins σ H { s with heap := h', toks := t' } := I.un (Un.kept k) (I.hok.kept k)
/-- a new object laid and tracked -/
theorem Inv.laid {a : Addr} {o : HO} {t' : Nat} (I : Inv X pins σ H s) (k : ∀ b u, s.heap.get? b = some u → h'.get? b = some u) (hp : s.heap.objs.size ≤ a) (new : ObjOk X.prog X.w (upd H a o) h' a o) :
    Inv X pins σ (upd H a o) { s with heap := h', toks := t' } := I.un (Un.laid k hp (I.hok.fresh hp)) (I.hok.laid k hp new)
/-- an object written -/
theorem Inv.write {x e : Addr} {o : HO} {t' : Nat} (I : Inv X pins σ H s) (mu : Mut (H x)) (he : e = x ∨ H e = some (.own x)) (k : ∀ b u, b ≠ e → s.heap.get? b = some u → h'.get? b = some u) (heo : ∃ u, h'.get? e = some u)
    (new : ObjOk X.prog X.w (upd H x o) h' x o) : Inv X pins σ (upd H x o) { s with heap := h', toks := t' } := I.un (Un.write mu he k heo) (I.hok.write mu he k heo new)
theorem Inv.pins_of {pins' : List (Addr × Obj)} (I : Inv X pins σ H s) (h : ∀ p ∈ pins', s.heap.get? p.1 = some p.2 ∧ H p.1 = none ∧ p.1 ≠ X.env.locals ∧ p.1 ∉ X.fs ∧ ∀ v, p.2.data ≠ .cell v) : Inv X pins' σ H s :=
  ⟨I.ok, I.os, I.bare, I.base, I.loc, I.cell, I.free, I.freeC, fun p hp => (List.mem_append.mp hp).elim (fun z => I.pin p (List.mem_append_left _ z)) (h p), I.hok, I.len⟩

theorem nodup_ix {N : List Str} (hN : N.Nodup) {i j : Nat} {x : Str} (a : N[i]? = some x) (b : N[j]? = some x) : i = j := by
  obtain ⟨h1, e1⟩ := List.getElem?_eq_some_iff.mp a
  obtain ⟨h2, e2⟩ := List.getElem?_eq_some_iff.mp b
  exact (List.getElem_inj hN).mp (e1.trans e2.symm)

/-- a name is stored; what changed -/
theorem store_ok2 {M : Model} {A : Around} {E : Value → Shared → Prop} {i : Nat} {x : Str} {v : V} {u : Value} {Q : Unit → Shared → Prop} (I : Inv X pins σ H s) (hN : X.N.Nodup) (hi : X.N[i]? = some x) (hx : Loc X.env.scope x) (r : RelV v u)
    (h : ∀ s', Inv X pins (σ.set i (some v)) H s' → (∃ a, Heap.SameBut a s.heap s'.heap ∧ (a = X.env.locals ∨ X.env.cells.lookup x = some a)) → Q () s') (hf : X.fn x = true ∨ X.env.scope.names.lookup x = some .local := by first | exact .inl rfl | exact .inr rfl | assumption) : wpAny M A (storeName X.env x u) Q E s := by
  obtain ⟨m, hn, hl⟩ := id I.loc
  have hcls : (X.env.scope.kind == .class || (X.env.scope.kind == .module && X.env.locals != X.env.globals)) = false := by rw [I.ok.kind]; rfl
  have hiσ : i < σ.length := by rw [I.len]; exact (List.getElem?_eq_some_iff.mp hi).1
  have cne := I.cne
  have tracked : ∀ {a : Addr} {h' : Heap}, (∃ o, s.heap.get? a = some o ∧ H a = none) → Heap.SameBut a s.heap h' → HOk X.prog X.w H h' := fun {a h'} ha hs b ob e => by
    obtain ⟨_, _, hfree⟩ := ha
    refine (I.hok b ob e).stay (fun c w' hc q => (hs.2 c ?_).trans q) (fun _ q => q) (fun _ _ q => q) fun _ _ q => q
    rintro rfl
    rcases hc with rfl | hc
    · rw [hfree] at e; cases e
    · rw [hfree] at hc; cases hc
  rcases hx with hk | hk
  · refine wpAny_storeName_local hk hn (fun h' hn' hs => ?_) hcls
    obtain ⟨oL, _, _, hoL, _⟩ := id hn
    refine h _ ⟨I.ok, I.os, I.bare, ⟨fun b o e n hb hx => ?_, fun b o e n hb hx => ?_, I.base.free, fun b o e hx => ?_, I.base.tups, I.base.frzs, I.base.tbls⟩, ⟨_, hn', fun j y v' e1 e2 e3 => ?_⟩, fun y c e => ?_, I.free, I.freeC, fun p hp => ?_, tracked ⟨oL, hoL, I.free⟩ hs, by simpa using I.len⟩ ⟨_, hs, .inl rfl⟩
    · exact (hs.2 b (Nat.ne_of_lt (Nat.lt_of_lt_of_le (Heap.lt_size e) I.ok.above))).trans (I.base.keep b o e n hb hx)
    · obtain ⟨sl, e1⟩ := I.base.slot b o e n hb hx
      exact ⟨sl, (hs.2 b (Nat.ne_of_lt (Nat.lt_of_lt_of_le (Heap.lt_size e) I.ok.above))).trans e1⟩
    · obtain ⟨o', e1⟩ := I.base.there b o e hx
      exact ⟨o', (hs.2 b (Nat.ne_of_lt (Nat.lt_of_lt_of_le (Heap.lt_size e) I.ok.above))).trans e1⟩
    · by_cases hj : j = i
      · subst hj
        rw [hi] at e1; cases e1
        rw [List.getElem?_set_self hiσ] at e2
        cases e2
        exact ⟨u, r, .inl ⟨hk, by simp⟩⟩
      · rw [List.getElem?_set_ne (Ne.symm hj)] at e2
        obtain ⟨u', r', q⟩ := hl j y v' e1 e2 e3
        refine ⟨u', r', ?_⟩
        rcases q with ⟨k, e⟩ | ⟨k, c, e, z⟩
        · refine .inl ⟨k, ?_⟩
          have : y ≠ x := fun e => hj (nodup_ix hN e1 (e ▸ hi))
          simp [this, e]
        · exact .inr ⟨k, c, e, z.sameBut hs (cne y c e)⟩
    · obtain ⟨w', z⟩ := I.cell y c e
      exact ⟨w', z.sameBut hs (cne y c e)⟩
    · obtain ⟨e, n, ne, nf, d⟩ := I.pin p hp
      exact ⟨(hs.2 p.1 ne).trans e, n, ne, nf, d⟩
  · have hfn : X.fn x = true := by
      rcases hf with z | z
      · exact z
      · rw [z] at hk; cases hk
    obtain ⟨c, hc⟩ := I.ok.has x (.inl hk)
    obtain ⟨w', z⟩ := I.cell x c hc
    refine wpAny_storeName_cell I.ok.kind hk hc z (fun h' hc' hs => ?_)
    obtain ⟨oc, hoc, hocd⟩ := id z
    refine h { s with heap := h' } ⟨I.ok, I.os, I.bare, ⟨fun b o e n hb hx => ?_, fun b o e n hb hx => ?_, I.base.free, fun b o e hx => ?_, I.base.tups, I.base.frzs, I.base.tbls⟩, ⟨m, hn.sameBut hs (Ne.symm (cne x c hc)), fun j y v' e1 e2 e3 => ?_⟩, fun y c' e => ?_, I.free, I.freeC, fun p hp => ?_, tracked ⟨oc, hoc, I.freeC x c hc⟩ hs, by simpa using I.len⟩ ⟨c, hs, .inr hc⟩
    · exact (hs.2 b (Nat.ne_of_lt (Nat.lt_of_lt_of_le (Heap.lt_size e) (I.ok.cab x c hfn hc)))).trans (I.base.keep b o e n hb hx)
    · obtain ⟨sl, e1⟩ := I.base.slot b o e n hb hx
      exact ⟨sl, (hs.2 b (Nat.ne_of_lt (Nat.lt_of_lt_of_le (Heap.lt_size e) (I.ok.cab x c hfn hc)))).trans e1⟩
    · obtain ⟨o', e1⟩ := I.base.there b o e hx
      exact ⟨o', (hs.2 b (Nat.ne_of_lt (Nat.lt_of_lt_of_le (Heap.lt_size e) (I.ok.cab x c hfn hc)))).trans e1⟩
    · by_cases hj : j = i
      · subst hj
        rw [hi] at e1; cases e1
        rw [List.getElem?_set_self hiσ] at e2
        cases e2
        exact ⟨u, r, .inr ⟨.inl hk, c, hc, hc'⟩⟩
      · rw [List.getElem?_set_ne (Ne.symm hj)] at e2
        obtain ⟨u', r', q⟩ := hl j y v' e1 e2 e3
        refine ⟨u', r', ?_⟩
        rcases q with q | ⟨k, c', e, z'⟩
        · exact .inl q
        · refine .inr ⟨k, c', e, z'.sameBut hs ?_⟩
          rintro rfl
          exact hj (nodup_ix hN e1 (I.ok.inj _ _ _ e hc ▸ hi))
    · by_cases hcc : c' = c
      · subst hcc; exact ⟨_, hc'⟩
      · obtain ⟨w2, z2⟩ := I.cell y c' e
        exact ⟨w2, z2.sameBut hs hcc⟩
    · obtain ⟨e, n, ne, nf, d⟩ := I.pin p hp
      refine ⟨(hs.2 p.1 ?_).trans e, n, ne, nf, d⟩
      intro q
      rw [q, hoc] at e
      have q' : oc = p.2 := Option.some.inj e
      exact d w' (by rw [← q']; exact hocd)
theorem store_ok {M : Model} {A : Around} {E : Value → Shared → Prop} {i : Nat} {x : Str} {v : V} {u : Value} {Q : Unit → Shared → Prop} (I : Inv X pins σ H s) (hN : X.N.Nodup) (hi : X.N[i]? = some x) (hx : Loc X.env.scope x) (r : RelV v u)
    (h : ∀ s', Inv X pins (σ.set i (some v)) H s' → Q () s') (hf : X.fn x = true ∨ X.env.scope.names.lookup x = some .local := by first | exact .inl rfl | exact .inr rfl | assumption) : wpAny M A (storeName X.env x u) Q E s :=
  store_ok2 I hN hi hx r (fun s' I' _ => h s' I') hf
/-- behind a call or a block, the state as it is -/
theorem Inv.call' {s' : Shared} {ch : List Addr} (I : Inv X pins σ H s) (ho : s'.os = s.os) (u : Un (frs X.stack) ch H H' s.heap s'.heap) (hok : HOk X.prog X.w H' s'.heap) (hg : AllBare s'.gens)
    (hch : ∀ b ∈ ch, (b ∈ X.ex ∨ X.s₀.heap.objs.size ≤ b) ∧ b ≠ X.env.locals ∧ (∀ x c, X.env.cells.lookup x = some c → c ≠ b) ∧ ∀ p ∈ X.pn ++ pins, p.1 ≠ b) : Inv X pins σ H' s' := by
  obtain ⟨h', g', d', t', o'⟩ := s'
  have e : o' = s.os := ho
  subst e
  exact I.call (g' := g') (t' := t') (d' := d') u hok hg hch
end

/-! ### the judgements -/
/-- an exception: its class, its own dict's address (where it has one), the abstract heap behind it -/
abbrev XK := Value → Option Addr → Hp → Prop
abbrev St := List (Option V)
abbrev VK := V → Hp → Prop
/-- an expression's reading; a test's; an argument list's -/
abbrev TE := St → Hp → VK → Prop
abbrev TT := St → Hp → (Bool → Hp → Prop) → Prop
abbrev TA := St → Hp → (List V → Hp → Prop) → Prop
/-- what is wanted behind a statement -/
structure Ends where
  nx : St → Hp → Prop
  rt : VK
  bk : St → Hp → Prop := fun _ _ => False
  ct : St → Hp → Prop := fun _ _ => False
abbrev TS := Ends → St → Hp → Prop

def EP (X : Cx) (pins : List (Addr × Obj)) (σ : St) (Q : VK) (u : Value) (s' : Shared) : Prop := ∃ v H', Inv X pins σ H' s' ∧ RelV v u ∧ Q v H'
def TP (X : Cx) (pins : List (Addr × Obj)) (σ : St) (Q : Bool → Hp → Prop) (b : Bool) (s' : Shared) : Prop := ∃ H', Inv X pins σ H' s' ∧ Q b H'
def AP (X : Cx) (pins : List (Addr × Obj)) (σ : St) (Q : List V → Hp → Prop) (us : List Value) (s' : Shared) : Prop := ∃ vs H', Inv X pins σ H' s' ∧ Vals vs us ∧ Q vs H'
def SP (X : Cx) (pins : List (Addr × Obj)) (D : Ends) (f : Flow) (s' : Shared) : Prop :=
  match f with
  | .next => ∃ σ' H', Inv X pins σ' H' s' ∧ D.nx σ' H'
  | .brk => ∃ σ' H', Inv X pins σ' H' s' ∧ D.bk σ' H'
  | .cont => ∃ σ' H', Inv X pins σ' H' s' ∧ D.ct σ' H'
  | .ret u => ∃ v σ' H', Inv X pins σ' H' s' ∧ RelV v u ∧ D.rt v H'

def PE (X : Cx) (e : Expr) (t : TE) : Prop :=
  ∀ (pins : List (Addr × Obj)) (s : Shared) (σ : St) (H : Hp) (Q : VK), Inv X pins σ H s → t σ H Q → wpAny (model X.prog X.w) X.A (eval e X.env) (EP X pins σ Q) X.xe s
def PT (X : Cx) (e : Expr) (t : TT) : Prop :=
  ∀ (pins : List (Addr × Obj)) (s : Shared) (σ : St) (H : Hp) (Q : Bool → Hp → Prop), Inv X pins σ H s → t σ H Q → wpAny (model X.prog X.w) X.A (isTrue e X.env (eval e X.env)) (TP X pins σ Q) X.xe s
/-- a test whatever its 'whole' is (and, or) -/
def PW (X : Cx) (e : Expr) (t : TT) : Prop :=
  ∀ (whole : Sem Value) (pins : List (Addr × Obj)) (s : Shared) (σ : St) (H : Hp) (Q : Bool → Hp → Prop), Inv X pins σ H s → t σ H Q → wpAny (model X.prog X.w) X.A (isTrue e X.env whole) (TP X pins σ Q) X.xe s
theorem PW.pt {X : Cx} {e : Expr} {t : TT} (h : PW X e t) : PT X e t := h _
/-- an argument list (no star), from the left -/
def PA (X : Cx) (es : List Expr) (t : TA) : Prop :=
  ∀ (pos : Pos) (pins : List (Addr × Obj)) (s : Shared) (σ : St) (H : Hp) (Q : List V → Hp → Prop), Inv X pins σ H s → t σ H Q → wpAny (model X.prog X.w) X.A (spliced (backTo pos (starEach es X.env))) (AP X pins σ Q) X.xe s
def PS (X : Cx) (st : Stmt) (t : TS) : Prop :=
  ∀ (pins : List (Addr × Obj)) (s : Shared) (σ : St) (H : Hp) (D : Ends), Inv X pins σ H s → t D σ H → wpAny (model X.prog X.w) X.A (exec st X.env) (SP X pins D) X.xe s
def PSs (X : Cx) (st : List Stmt) (t : TS) : Prop :=
  ∀ (pins : List (Addr × Obj)) (s : Shared) (σ : St) (H : Hp) (D : Ends), Inv X pins σ H s → t D σ H → wpAny (model X.prog X.w) X.A (execs st X.env) (SP X pins D) X.xe s
/-- weaken the end -/
theorem thn {α : Type} {t : Sem α} {Q Q' : α → Shared → Prop} {M : Model} {A : Around} {E : Value → Shared → Prop} {s : Shared} (h : wpAny M A t Q E s) (hQ : ∀ a s, Q a s → Q' a s) : wpAny M A t Q' E s := wpAny_mono h hQ fun _ _ x => x
end L2

namespace L2
open PySem PySem.Spec PyProof.Rows
section
variable {X : Cx}

/-! ### names and constants -/
def tVar (i : Nat) : TE := fun σ H Q => ∃ v, σ[i]? = some (some v) ∧ Q v H
def tC (v : V) : TE := fun _ H Q => Q v H
theorem pe_var {i : Nat} {x : Str} {pos : Pos} (hN : X.N[i]? = some x) (hv : Vis X.env.scope x) (hd : (x == ("__debug__" : Str)) = false := by decide) (hcd : (x == ("__classdict__" : Str)) = false := by decide) : PE X (.Name x pos) (tVar i) := by
  intro pins s σ H Q I h
  obtain ⟨v, e, h⟩ := h
  obtain ⟨m, hn, hl⟩ := I.loc
  obtain ⟨u, r, l⟩ := hl i x v hN e hv
  have fin : EP X pins σ Q u s := ⟨v, H, I, r, h⟩
  rcases l with ⟨hk, hm⟩ | ⟨hk, c, hc, hcell⟩
  · exact wpAny_Name (wpAny_loadName_local I.ok.kind hk hn hm fin) hd
  · rcases hk with hk | hk
    · exact wpAny_Name (wpAny_loadName_cell I.ok.kind hk hc hcell fin) hd
    · exact wpAny_Name (wpAny_loadName_free I.ok.kind hk hc hcell fin hcd) hd
theorem pe_int {i j pos} : PE X (.Constant (.int i) j pos) (tC (.int i)) := fun _ _ _ H _ I h => wpAny_Constant_int ⟨.int i, H, I.tok _, ⟨_, rfl⟩, h⟩
theorem pe_bl {b j pos} : PE X (.Constant (.bool b) j pos) (tC (.bl b)) := fun _ _ _ H _ I h => Constant_bool ⟨.bl b, H, I, rfl, h⟩
theorem pe_str {x j pos} : PE X (.Constant (.str x) j pos) (tC (.str x)) := fun _ _ _ H _ I h => Calls.Constant_str ⟨.str x, H, I.tok _, ⟨_, rfl⟩, h⟩

/-- a global name of the def -/
def Gl (X : Cx) (x : Str) : Prop := X.env.kindOf x = some .globalImplicit
theorem ld_glob {E : Value → Shared → Prop} {pins : List (Addr × Obj)} {s : Shared} {σ : St} {H : Hp} {x : Str} {u : Value} {pos : Pos} {Q : Value → Shared → Prop} (I : Inv X pins σ H s) (hg : Gl X x) (hm : X.mg x = some u) (h : Q u s)
    (hd : (x == ("__debug__" : Str)) = false := by decide) : wpAny (model X.prog X.w) X.A (eval (.Name x pos) X.env) Q E s :=
  Calls.Name_function_global I.ok.kind hg (Calls.loadGlobal_global (by rw [I.ok.glob]; exact I.mod.glob.keeps I.bk) hm h) hd
theorem ld_blt {E : Value → Shared → Prop} {pins : List (Addr × Obj)} {s : Shared} {σ : St} {H : Hp} {x : Str} {u : Value} {pos : Pos} {Q : Value → Shared → Prop} (I : Inv X pins σ H s) (hg : Gl X x) (hm : X.mg x = none) (hv : bootBuiltins x = some u) (h : Q u s)
    (hn : x ≠ "__name__" := by decide) (hd : (x == ("__debug__" : Str)) = false := by decide) : wpAny (model X.prog X.w) X.A (eval (.Name x pos) X.env) Q E s := by
  obtain ⟨mb, h1, h2⟩ := I.mod.blt
  exact Calls.Name_function_global I.ok.kind hg (Calls.loadGlobal_builtin (by rw [I.ok.glob]; exact I.mod.glob.keeps I.bk) hm (by rw [I.ok.blt]; exact h1.keeps I.bk) ((h2 x hn).trans hv) h) hd
/-- a module's constant, a class, a function, as a value -/
theorem pe_glob {x : Str} {v : V} {u : Value} {pos : Pos} (hg : Gl X x) (hm : X.mg x = some u) (r : RelV v u) (hd : (x == ("__debug__" : Str)) = false := by decide) : PE X (.Name x pos) (tC v) :=
  fun _ _ _ H _ I h => ld_glob I hg hm ⟨v, H, I, r, h⟩ hd
theorem pe_bltn {x : Str} {v : V} {u : Value} {pos : Pos} (hg : Gl X x) (hm : X.mg x = none) (hv : bootBuiltins x = some u) (r : RelV v u) (hn : x ≠ "__name__" := by decide) (hd : (x == ("__debug__" : Str)) = false := by decide) : PE X (.Name x pos) (tC v) :=
  fun _ _ _ H _ I h => ld_blt I hg hm hv ⟨v, H, I, r, h⟩ hn hd

/-! ### arithmetic -/
variable {a b : Expr} {ta tb : TE} {pos : Pos}
/-! ### comparisons -/
/-- a comparison as a value, as a test -/
def tB (t : TE) : TT := fun σ H Q => t σ H fun x H1 => ∃ c, x = .bl c ∧ Q c H1
/-- an expression whose value is a bool, as a test -/
theorem pt_val {e : Expr} {t : TE} (h : PE X e t) (he : ∀ whole, isTrue e X.env whole = (do let v ← whole; standAt e.pos; holding [v] (truthy v)) := by intro _; rfl) : PT X e (tB t) := by
  intro pins s σ H Q I hw
  refine isTrue_plain (thn (h pins s σ H _ I hw) fun v s1 ⟨x, H1, I1, r1, q1⟩ => ?_) (he _)
  obtain ⟨d, rfl, q⟩ := q1
  cases r1
  exact wpAny_truthy_bool ⟨H1, I1, q⟩

/-! ### and, or, not -/
variable {tA tB' : TT} {rest : List Expr}
def tOr (t u : TT) : TT := fun σ H Q => t σ H fun c H1 => if c = true then Q true H1 else u σ H1 Q
def tNot (t : TT) : TT := fun σ H Q => t σ H fun c H1 => Q (!c) H1
theorem pw_or1 (ha : PT X a tA) : PW X (.BoolOp .Or [a] pos) tA := by
  intro wh pins s σ H Q I h
  refine isTrue_or (thn (ha pins s σ H Q I h) fun c s1 e => ?_)
  cases c with
  | false => exact isTrue_or_nil e
  | true => exact e
theorem pw_or (ha : PT X a tA) (hb : PW X (.BoolOp .Or (b :: rest) pos) tB') : PW X (.BoolOp .Or (a :: b :: rest) pos) (tOr tA tB') := by
  intro wh pins s σ H Q I h
  refine isTrue_or (thn (ha pins s σ H _ I h) fun c s1 hq9 => ?_)
  obtain ⟨H1, I1, q1⟩ := hq9
  cases c with
  | true => exact ⟨H1, I1, q1⟩
  | false => exact hb wh pins s1 σ H1 Q I1 q1
theorem pt_not (ha : PT X a tA) : PT X (.UnaryOp .Not a pos) (tNot tA) := by
  intro pins s σ H Q I h
  exact isTrue_not (ha pins s σ H (fun c H1 => Q (!c) H1) I h)
/-- .. as values (bools) -/
def tAndV (ta tb : TE) : TE := fun σ H Q => ta σ H fun x H1 => ∃ c, x = .bl c ∧ if c = true then tb σ H1 Q else Q (.bl false) H1
def tNotV (ta : TE) : TE := fun σ H Q => ta σ H fun x H1 => ∃ c, x = .bl c ∧ Q (.bl (!c)) H1
theorem pe_one {op} {t : TE} (h : PE X a t) : PE X (.BoolOp op [a] pos) t := fun pins s σ H Q I hw => BoolOp_one (h pins s σ H Q I hw)
theorem pe_and (ha : PE X a ta) (hb : PE X (.BoolOp .And (b :: rest) pos) tb) : PE X (.BoolOp .And (a :: b :: rest) pos) (tAndV ta tb) := by
  intro pins s σ H Q I h
  refine BoolOp_and (thn (ha pins s σ H _ I h) fun v s1 hq9 => ?_)
  obtain ⟨x, H1, I1, r1, q1⟩ := hq9
  obtain ⟨c, rfl, q1⟩ := q1
  cases r1
  refine wpAny_truthy_bool ?_
  cases c with
  | true => exact hb pins s1 σ H1 Q I1 q1
  | false => exact ⟨.bl false, H1, I1, rfl, q1⟩
theorem pe_not (ha : PE X a ta) : PE X (.UnaryOp .Not a pos) (tNotV ta) := by
  intro pins s σ H Q I h
  refine UnaryOp_ (thn (ha pins s σ H _ I h) fun v s1 hq9 => ?_)
  obtain ⟨x, H1, I1, r1, q1⟩ := hq9
  obtain ⟨c, rfl, q1⟩ := q1
  cases r1
  exact not_of (wpAny_truthy_bool ⟨.bl (!c), H1, I1, rfl, q1⟩)
end
end L2

namespace L2
open PySem PySem.Spec PyProof.Rows

/-! ### a list, a tuple that is read: tracked, frozen, or an object of the module -/
def SqL (K : PySem.W.Frag) (H : Hp) (a : Addr) (xs : List V) : Prop :=
  Rd H a (.lst xs) ∨
    ∃ (o : Obj) (its : Array Value) (n : Nat), K.lookup a = some o ∧ o.cls = .type "list" ∧ o.dict = none ∧ o.data = .seq its n ∧ its.size ≤ sizeLine ∧ Vals xs its.toList
def SqT (K : PySem.W.Frag) (H : Hp) (a : Addr) (xs : List V) : Prop :=
  Rd H a (.tup xs) ∨
    ∃ (o : Obj) (its : Array Value) (n : Nat), K.lookup a = some o ∧ o.cls = .type "tuple" ∧ o.data = .seq its n ∧ its.size ≤ sizeLine ∧ Vals xs its.toList
def absV : Value → Option V
  | .none => some .non
  | .bool b => some (.bl b)
  | .int i _ => some (.int i)
  | .str x _ => some (.str x)
  | .bytes b _ => some (.byt b)
  | .float b _ => some (.flt b)
  | .ref a => some (.ref a)
  | .type n => some (.ty n)
  | _ => none
theorem RelV.abs {x : V} {u : Value} (r : RelV x u) : absV u = some x := by
  cases x with
  | non => cases r; rfl
  | bl _ => cases r; rfl
  | int _ => obtain ⟨t, rfl⟩ := r; rfl
  | str _ => obtain ⟨t, rfl⟩ := r; rfl
  | byt _ => obtain ⟨t, rfl⟩ := r; rfl
  | flt _ => obtain ⟨t, rfl⟩ := r; rfl
  | ref _ => cases r; rfl
  | ty _ => cases r; rfl
theorem RelV.inj {x y : V} {u : Value} (r : RelV x u) (q : RelV y u) : x = y := Option.some.inj (r.abs.symm.trans q.abs)
theorem Vals.inj : ∀ {xs ys : List V} {us : List Value}, Vals xs us → Vals ys us → xs = ys
  | _, _, _, .nil, .nil => rfl
  | _, _, _, .cons r t, .cons r' t' => by rw [r.inj r', Vals.inj t t']
section
variable {X : Cx} {pins : List (Addr × Obj)} {σ : St} {H : Hp} {s : Shared} {a : Addr} {xs ys : List V}
theorem SqL.of {K : PySem.W.Frag} (h : H a = some (.lst xs)) : SqL K H a xs := .inl (.inl h)
theorem Inv.list (I : Inv X pins σ H s) (h : SqL X.K H a xs) : ∃ its : List Value, Vals xs its ∧ PlainL s.heap a its.toArray ∧ xs.length ≤ sizeLine := by
  rcases h with h | ⟨o, its, n, hk, hc, hd, hs, hz, r⟩
  · obtain ⟨z, its, n, r, e⟩ := h.ok I.hok
    exact ⟨its, r, ⟨_, n, e, rfl, rfl, rfl⟩, z⟩
  · refine ⟨its.toList, r, ⟨o, n, I.kIn a o hk, hc, hd, by simpa using hs⟩, ?_⟩
    have e := r.length
    simp only [Array.length_toList] at e
    lia
theorem Inv.tuple (I : Inv X pins σ H s) (h : SqT X.K H a xs) : ∃ its : List Value, Vals xs its ∧ IsTup s.heap a its.toArray ∧ xs.length ≤ sizeLine := by
  rcases h with h | ⟨o, its, n, hk, hc, hs, hz, r⟩
  · obtain ⟨z, its, r, p⟩ := h.ok I.hok
    exact ⟨its, r, p, z⟩
  · refine ⟨its.toList, r, ⟨o, I.kIn a o hk, hc, n, by simpa using hs⟩, ?_⟩
    have e := r.length
    simp only [Array.length_toList] at e
    lia
theorem Inv.list_inj (I : Inv X pins σ H s) (h : SqL X.K H a xs) (h' : SqL X.K H a ys) : xs = ys := by
  obtain ⟨its, r, ⟨o, n, e, _, _, d⟩, _⟩ := I.list h
  obtain ⟨its', r', ⟨o', n', e', _, _, d'⟩, _⟩ := I.list h'
  rw [e] at e'; cases e'
  rw [d] at d'
  injection d' with d1 _
  have : its = its' := by simpa using congrArg Array.toList d1
  subst this
  exact r.inj r'
theorem Inv.tuple_inj (I : Inv X pins σ H s) (h : SqT X.K H a xs) (h' : SqT X.K H a ys) : xs = ys := by
  obtain ⟨its, r, ⟨o, e, _, n, d⟩, _⟩ := I.tuple h
  obtain ⟨its', r', ⟨o', e', _, n', d'⟩, _⟩ := I.tuple h'
  rw [e] at e'; cases e'
  rw [d] at d'
  injection d' with d1 _
  have : its = its' := by simpa using congrArg Array.toList d1
  subst this
  exact r.inj r'
end

/-! ### another wish about exceptions -/
abbrev Cx.wish (X : Cx) (E : Value → Shared → Prop) : Cx := { X with xe := E }
/-- no exception leaves -/
abbrev Cx.nox (X : Cx) : Cx := X.wish fun _ _ => False
theorem Cx.Ok.wish {X : Cx} (ok : X.Ok) (E : Value → Shared → Prop) : (X.wish E).Ok :=
  ⟨ok.mod, ok.kind, ok.glob, ok.blt, ok.above, ok.inj, ok.has, ok.cab, ok.hd, ok.frames, ok.stk, ok.exf, ok.bs, ok.bsz, ok.noex, ok.exfs, ok.funs, ok.frf⟩
theorem Cx.Ok.unwish {X : Cx} {E : Value → Shared → Prop} (ok : (X.wish E).Ok) : X.Ok :=
  ⟨ok.mod, ok.kind, ok.glob, ok.blt, ok.above, ok.inj, ok.has, ok.cab, ok.hd, ok.frames, ok.stk, ok.exf, ok.bs, ok.bsz, ok.noex, ok.exfs, ok.funs, ok.frf⟩
section
variable {X : Cx} {pins : List (Addr × Obj)} {σ : St} {H : Hp} {s : Shared} {E : Value → Shared → Prop}
theorem Inv.wish (I : Inv X pins σ H s) (E : Value → Shared → Prop) : Inv (X.wish E) pins σ H s := ⟨I.ok.wish E, I.os, I.bare, I.base, I.loc, I.cell, I.free, I.freeC, I.pin, I.hok, I.len⟩
theorem Inv.unwish (I : Inv (X.wish E) pins σ H s) : Inv X pins σ H s := ⟨I.ok.unwish, I.os, I.bare, I.base, I.loc, I.cell, I.free, I.freeC, I.pin, I.hok, I.len⟩
theorem SP.unwish {D : Ends} {f : Flow} {s' : Shared} (h : SP (X.wish E) pins D f s') : SP X pins D f s' := by
  cases f with
  | next => obtain ⟨σ', H', I, q⟩ := h; exact ⟨σ', H', I.unwish, q⟩
  | brk => obtain ⟨σ', H', I, q⟩ := h; exact ⟨σ', H', I.unwish, q⟩
  | cont => obtain ⟨σ', H', I, q⟩ := h; exact ⟨σ', H', I.unwish, q⟩
  | ret u => obtain ⟨v, σ', H', I, r, q⟩ := h; exact ⟨v, σ', H', I.unwish, r, q⟩
theorem PE.nox {e : Expr} {t : TE} (h : PE X.nox e t) : PE X e t := fun pins s σ H Q I hw =>
  wpAny_mono (h pins s σ H Q (I.wish _) hw) (fun _ _ ⟨v, H', I', r, q⟩ => ⟨v, H', I'.unwish, r, q⟩) fun _ _ z => False.elim z
end

/-! ### blocks and small statements -/
section
variable {X : Cx} {st : Stmt} {rest : List Stmt} {t u : TS} {e : Expr} {te : TE} {pos : Pos}
def tNext : TS := fun D σ H => D.nx σ H
def tSeq (t u : TS) : TS := fun D σ H => t { D with nx := u D } σ H
theorem pss_nil : PSs X [] tNext := fun _ _ σ H _ I h => wpAny_execs_nil ⟨σ, H, I, h⟩
theorem pss_cons (h1 : PS X st t) (h2 : PSs X rest u) : PSs X (st :: rest) (tSeq t u) := by
  intro pins s σ H D I h
  refine wpAny_execs_cons (thn (h1 pins s σ H { D with nx := u D } I h) fun f s1 q => ?_)
  cases f with
  | next =>
    obtain ⟨σ', H', I', q⟩ := q
    exact h2 pins s1 σ' H' D I' q
  | ret v => exact q
  | brk => exact q
  | cont => exact q
theorem pss_one (h1 : PS X st t) : PSs X [st] t := by
  intro pins s σ H D I h
  refine wpAny_execs_cons (thn (h1 pins s σ H D I h) fun f s1 q => ?_)
  cases f with
  | next => exact wpAny_execs_nil q
  | ret v => exact q
  | brk => exact q
  | cont => exact q
/-- in a def's body nothing is shown -/
theorem Inv.quiet {pins : List (Addr × Obj)} {σ : St} {H : Hp} {s : Shared} (I : Inv X pins σ H s) : interactive X.env = false := by simp [interactive, I.ok.kind]
/-- an expression whose value is dropped -/
def tDrop (te : TE) : TS := fun D σ H => te σ H fun _ H1 => D.nx σ H1
theorem ps_expr (he : PE X e te) (hs : swapsWith e none pos.line X.env = pure false := by rfl) : PS X (.Expr e pos) (tDrop te) := by
  intro pins s σ H D I h
  exact wpAny_Expr_any (thn (he pins s σ H _ I h) fun v s1 ⟨x, H1, I1, r1, q1⟩ => ⟨σ, H1, I1, q1⟩) I.quiet hs
def tRet (te : TE) : TS := fun D σ H => te σ H D.rt
theorem ps_ret (he : PE X e te) : PS X (.Return (some e) pos) (tRet te) := by
  intro pins s σ H D I h
  exact wpAny_Return_some (thn (he pins s σ H _ I h) fun v s1 ⟨x, H1, I1, r1, q1⟩ => ⟨x, σ, H1, I1, r1, q1⟩)
def tIfS (c : TT) (t u : TS) : TS := fun D σ H => c σ H fun b H1 => if b = true then t D σ H1 else u D σ H1
theorem ps_if {c : Expr} {a b : List Stmt} {tc : TT} (hc : PT X c tc) (ha : PSs X a t) (hb : PSs X b u) : PS X (.If c a b pos) (tIfS tc t u) := by
  intro pins s σ H D I h
  refine wpAny_If (thn (hc pins s σ H _ I h) fun d s1 hq9 => ?_)
  obtain ⟨H1, I1, q1⟩ := hq9
  cases d with
  | true => exact ha pins s1 σ H1 D I1 q1
  | false => exact hb pins s1 σ H1 D I1 q1
end

/-! ### targets -/
abbrev TG := V → St → Hp → (St → Hp → Prop) → Prop
abbrev TGs := List V → St → Hp → (St → Hp → Prop) → Prop
def PG (X : Cx) (target : Expr) (t : TG) : Prop :=
  ∀ (pins : List (Addr × Obj)) (s : Shared) (σ : St) (H : Hp) (v : V) (u : Value) (Q : St → Hp → Prop), Inv X pins σ H s → RelV v u → t v σ H Q →
    wpAny (model X.prog X.w) X.A (assign target X.env u) (fun _ s' => ∃ σ' H', Inv X pins σ' H' s' ∧ Q σ' H') X.xe s
section
variable {X : Cx} {pos : Pos}
def gName (i : Nat) : TG := fun v σ H Q => Q (σ.set i (some v)) H
theorem pg_name {i : Nat} {x : Str} (hN : X.N.Nodup) (hi : X.N[i]? = some x) (hx : Loc X.env.scope x) (hf : X.fn x = true ∨ X.env.scope.names.lookup x = some .local := by first | exact .inl rfl | exact .inr rfl | assumption) : PG X (.Name x pos) (gName i) := by
  intro pins s σ H v u Q I r h
  exact wpAny_assign_Name (store_ok I hN hi hx r (fun s' I' => ⟨_, H, I', h⟩) hf)
/-- (a, b, ..) = a tuple of that length -/
def gTup (K : PySem.W.Frag) (n : Nat) (t : TGs) : TG := fun v σ H Q => ∃ a xs, v = .ref a ∧ SqT K H a xs ∧ xs.length = n ∧ t xs σ H Q
/-- target = value -/
def tAsg (te : TE) (g : TG) : TS := fun D σ H => te σ H fun x H1 => g x σ H1 D.nx
/-- name = value -/
theorem ps_set {i : Nat} {x : Str} {e : Expr} {te : TE} {pos' : Pos} (hN : X.N.Nodup) (hi : X.N[i]? = some x) (hx : Loc X.env.scope x) (he : PE X e te) (hs : swapsWith e (some (.Name x pos')) pos.line X.env = pure false := by rfl) (hf : X.fn x = true ∨ X.env.scope.names.lookup x = some .local := by first | exact .inl rfl | exact .inr rfl | assumption) :
    PS X (.Assign [.Name x pos'] e pos) (tAsg te (gName i)) := by
  intro pins s σ H D I h
  refine wpAny_Assign_Name (thn (he pins s σ H _ I h) fun v s1 ⟨y, H1, I1, r1, q1⟩ => ?_) hs
  exact store_ok I1 hN hi hx r1 (fun s2 I2 => ⟨_, H1, I2, q1⟩) hf
end

/-! ### while -/
section
variable {X : Cx} {pos : Pos}
end

/-! ### what a loop or a comprehension walks -/
/-- at turn i: it yields x (the heap may grow), or it stops -/
structure It where
  go : Nat → Hp → Prop
  yld : Nat → Hp → V → Hp → Prop
  stop : Nat → Hp → Prop
/-- the iterator's own objects may turn: they are not the frame's, not pinned, younger than the entry (or a comprehension's own) -/
def FpOk (X : Cx) (pins : List (Addr × Obj)) (H : Hp) (b : Addr) : Prop :=
  H b = none ∧ b ≠ X.env.locals ∧ b ∉ X.fs ∧ (b ∈ X.ex ∨ X.s₀.heap.objs.size ≤ b) ∧ (∀ x c, X.env.cells.lookup x = some c → c ≠ b) ∧ ∀ p ∈ X.pn ++ pins, p.1 ≠ b
theorem Inv.fpOk {X : Cx} {pins : List (Addr × Obj)} {σ : St} {H H' : Hp} {s : Shared} {b : Addr} (I : Inv X pins σ H s) (hb : s.heap.objs.size ≤ b) (hn : H' b = none) : FpOk X pins H' b := by
  refine ⟨hn, Nat.ne_of_gt (Nat.lt_of_lt_of_le I.lt hb), I.nofs hb, .inr (Nat.le_trans I.sz hb), fun x c e z => ?_, fun p hp z => ?_⟩
  · obtain ⟨v, q⟩ := I.cell x c e
    exact absurd (Nat.lt_of_lt_of_le q.lt (by rw [z]; exact hb)) (Nat.lt_irrefl _)
  · exact absurd (Nat.lt_of_lt_of_le (Heap.lt_size (I.pin p hp).1) (by rw [z]; exact hb)) (Nat.lt_irrefl _)
structure Turn (P : Program) (w : World) (K : PySem.W.Frag) (tg : Expr) (J : It) (fp : List Addr) (it : Addr) (tn : Nat → Heap → Prop) : Prop where
  mem : it ∈ fp
  obj : ∀ i h, tn i h → ∀ b ∈ fp, ∃ o, h.get? b = some o ∧ ∀ v, o.data ≠ .cell v
  keep : ∀ i h h', tn i h → (∀ b ∈ fp, ∀ o, h.get? b = some o → h'.get? b = some o) → tn i h'
  item : ∀ (X : Cx), X.prog = P → X.w = w → X.K = K → X.calm = true → ∀ (i : Nat) (pins : List (Addr × Obj)) (s : Shared) (σ : St) (H : Hp) (E : Value → Shared → Prop), Inv X pins σ H s → (∀ b ∈ fp, FpOk X pins H b) → tn i s.heap → J.go i H →
    wpAny (model P w) X.A (pyNext (.ref it)) (fun r s1 => ∃ u, r = some u ∧
      wpAny (model P w) X.A (letOwnedTupleGo tg (.ref it) u) (fun _ s2 => ∃ x H', Inv X pins σ H' s2 ∧ RelV x u ∧ J.yld i H x H' ∧ tn (i + 1) s2.heap ∧ ∀ b ∈ fp, H' b = none) E s1) E s
  done : ∀ (X : Cx), X.prog = P → X.w = w → X.K = K → X.calm = true → ∀ (i : Nat) (pins : List (Addr × Obj)) (s : Shared) (σ : St) (H : Hp) (E : Value → Shared → Prop), Inv X pins σ H s → (∀ b ∈ fp, FpOk X pins H b) → tn i s.heap → J.stop i H →
    wpAny (model P w) X.A (pyNext (.ref it)) (fun r s1 => r = none ∧ Inv X pins σ H s1) E s
  self : ∀ (A : Around) (i : Nat) (s : Shared) (Q : Value → Shared → Prop) (E : Value → Shared → Prop), tn i s.heap → Q (.ref it) s → wpAny (model P w) A (pyIter (.ref it)) Q E s
abbrev TI := St → Hp → (It → Hp → Prop) → Prop
/-- an iterator has come -/
def PIE (X : Cx) (pins : List (Addr × Obj)) (σ : St) (tg : Expr) (R : It → Hp → Prop) (itv : Value) (s2 : Shared) : Prop :=
  ∃ (it : Addr) (fp : List Addr) (tn : Nat → Heap → Prop) (J : It) (H' : Hp), itv = .ref it ∧ Inv X pins σ H' s2 ∧ Turn X.prog X.w X.K tg J fp it tn ∧ tn 0 s2.heap ∧ (∀ b ∈ fp, FpOk X pins H' b) ∧ R J H'
def PI (X : Cx) (tg iter : Expr) (wi : TI) : Prop :=
  ∀ (pins : List (Addr × Obj)) (s : Shared) (σ : St) (H : Hp) (R : It → Hp → Prop), Inv X pins σ H s → wi σ H R →
    wpAny (model X.prog X.w) X.A (eval iter X.env) (fun v s1 => wpAny (model X.prog X.w) X.A (pyIter v) (PIE X pins σ tg R) X.xe s1) X.xe s

/-- the step ahead of the store is nothing for an iterator that keeps no tuple -/
theorem go_of {M : Model} {A : Around} {E : Value → Shared → Prop} {s : Shared} {tg : Expr} {it : Addr} {u : Value} {o : Obj} {n : String} {vs : Array Value} {Q : Unit → Shared → Prop} (ho : s.heap.get? it = some o) (hc : o.cls = .type n) (hd : o.data = .fields vs)
    (hn : ["enumerate", "zip", "dict_itemiterator", "dict_reverseitemiterator", "odict_iterator", "itertools.zip_longest", "itertools.pairwise"].contains n = false) (hQ : Q () s) : wpAny M A (letOwnedTupleGo tg (.ref it) u) Q E s := by
  unfold letOwnedTupleGo
  cases tg <;> first
    | exact wpAny_pure hQ
    | (cases u <;> first
        | exact wpAny_pure hQ
        | (refine wpAny_bind (wpAny_load ho ?_)
           rw [hc, hd]
           show wpAny M A (if (["enumerate", "zip", "dict_itemiterator", "dict_reverseitemiterator", "odict_iterator", "itertools.zip_longest", "itertools.pairwise"].contains n && vs[0]? == some (rawInt _)) = true then _ else _) Q E s
           rw [if_neg (by intro h; rw [hn, Bool.false_and] at h; cases h)]
           exact wpAny_pure hQ))

/-- the list at a, as it stands at each turn (a loop may append to it) -/
def Itl (K : PySem.W.Frag) (a : Addr) : It :=
  ⟨fun i H => ∃ xs x, SqL K H a xs ∧ xs[i]? = some x, fun i H x H' => H' = H ∧ ∀ xs, SqL K H a xs → xs[i]? = some x, fun i H => ∃ xs, SqL K H a xs ∧ xs.length ≤ i⟩
/-- lo, lo + 1, .. (n of them) -/
def Itr (lo : Int) (n : Nat) : It := ⟨fun i _ => i < n, fun i H x H' => H' = H ∧ x = .int (lo + i), fun i _ => n ≤ i⟩
theorem turn_list {P : Program} {w : World} {K : PySem.W.Frag} {tg : Expr} (a it : Addr) : Turn P w K tg (Itl K a) [it] it (fun i h => h.IsListIter it a i) where
  mem := by simp
  obj := fun i h st b hb => by
    have e : b = it := by simpa using hb
    subst e
    obtain ⟨o, e, c, d⟩ := st
    exact ⟨o, e, fun v z => by rw [d] at z; cases z⟩
  keep := fun i h h' st k => st.at fun o e => k it (by simp) o e
  item := by
    intro X hP hw hK hc i pins s σ H E I hf st hg
    subst hP hw hK
    obtain ⟨xs, x, hq, hx⟩ := hg
    obtain ⟨its, rv, p, hz⟩ := I.list hq
    obtain ⟨u, hu, ru⟩ := rv.get hx
    obtain ⟨f0, f1, f2, f3, f4, f5⟩ := hf it (by simp)
    refine wpAny_pyNext_list_item st p.isList (x := u) (by simpa using hu) fun h' st' sb => ?_
    have I1 : Inv X pins σ H { s with heap := h' } := I.turned (t' := s.toks) (fun b o hb e => (sb.2 b hb).trans e) f0 f1 f3 f4 f5
    obtain ⟨o, e, c, d⟩ := id st'
    exact ⟨u, rfl, go_of (s := { s with heap := h' }) e c d (by decide) ⟨x, H, I1, ru, ⟨rfl, fun ys hy => by rw [I.list_inj hy hq]; exact hx⟩, st', fun b hb => (hf b hb).1⟩⟩
  done := by
    intro X hP hw hK hc i pins s σ H E I hf st hg
    subst hP hw hK
    obtain ⟨xs, hq, hx⟩ := hg
    obtain ⟨its, rv, p, hz⟩ := I.list hq
    obtain ⟨f0, f1, f2, f3, f4, f5⟩ := hf it (by simp)
    have hl := rv.length
    exact wpAny_pyNext_list_end (I.ok.hd hc) st p.isList (by simp; lia) fun h' eb => ⟨rfl, I.turned (t' := s.toks) (fun b o hb e => eb b o hb e) f0 f1 f3 f4 f5⟩
  self := fun _ _ _ _ _ st h => wpAny_pyIter_listiter st h
theorem turn_range {P : Program} {w : World} {K : PySem.W.Frag} {tg : Expr} (it : Addr) (lo : Int) (n : Nat) : Turn P w K tg (Itr lo n) [it] it (fun i h => IsRangeIter h it (lo + (i : Nat) * 1) ((n : Int) - (i : Nat)) 1) where
  mem := by simp
  obj := fun i h st b hb => by
    have e : b = it := by simpa using hb
    subst e
    exact ⟨_, st, fun v z => by
      have z' : Data.fields _ = Data.cell v := z
      cases z'⟩
  keep := fun i h h' st k => k it (by simp) _ st
  item := by
    intro X hP hw hK hc i pins s σ H E I hf st hg
    subst hP hw hK
    obtain ⟨f0, f1, f2, f3, f4, f5⟩ := hf it (by simp)
    have W := Walks.range (prog := X.prog) (w := X.w) (I.ok.hd hc) it lo 1 n
    refine W.item i s _ _ hg st fun v h' tk hv st' kk => ?_
    obtain ⟨t, rfl⟩ := hv
    have I1 : Inv X pins σ H { s with heap := h', toks := tk } := I.turned (fun b o hb e => kk b o (by simpa using hb) e) f0 f1 f3 f4 f5
    refine ⟨_, rfl, go_of (s := { s with heap := h', toks := tk }) (n := "range_iterator") st' rfl rfl (by decide) ⟨.int (lo + i), H, I1, ⟨t, ?_⟩, ⟨rfl, rfl⟩, st', fun b hb => (hf b hb).1⟩⟩
    rw [Int.mul_one]
  done := by
    intro X hP hw hK hc i pins s σ H E I hf st hg
    subst hP hw hK
    obtain ⟨f0, f1, f2, f3, f4, f5⟩ := hf it (by simp)
    exact wpAny_pyNext_range_end (I.ok.hd hc) st (by have : n ≤ i := hg; lia) fun h' eb => ⟨rfl, I.turned (t' := s.toks) (fun b o hb e => eb b o hb e) f0 f1 f3 f4 f5⟩
  self := fun _ _ _ _ _ st h => wpAny_pyIter_rangeiter st h
end L2

namespace L2
open PySem PySem.Spec PyProof.Rows
section
variable {X : Cx} {tg : Expr}
def iList (K : PySem.W.Frag) (tl : TE) : TI := fun σ H R => tl σ H fun x H1 => ∃ a, x = .ref a ∧ (∃ xs, SqL K H1 a xs) ∧ R (Itl K a) H1
theorem pi_list {l : Expr} {tl : TE} (hl : PE X l tl) : PI X tg l (iList X.K tl) := by
  intro pins s σ H R I h
  refine thn (hl pins s σ H _ I h) fun v s1 hq9 => ?_
  obtain ⟨x, H1, I1, r1, q1⟩ := hq9
  obtain ⟨a, e, ⟨xs, hq⟩, q⟩ := q1
  subst e
  cases r1
  obtain ⟨its, rv, p, hz⟩ := I1.list hq
  refine wpAny_pyIter_list p.isList ?_
  refine ⟨s1.heap.objs.size, [s1.heap.objs.size], _, _, H1, rfl, I1.kept (t' := s1.toks) fun b o e => Heap.get?_push_of_some _ e, turn_list a _, ⟨_, Heap.get?_push_size _ rfl, rfl, rfl⟩, fun b hb => ?_, q⟩
  have e : b = s1.heap.objs.size := by simpa using hb
  subst e
  exact I1.fpOk (Nat.le_refl _) (I1.hok.fresh (Nat.le_refl _))
/-- a range object just made, walked -/
theorem range_it {pins : List (Addr × Obj)} {σ : St} {H : Hp} {s : Shared} {R : It → Hp → Prop} {E : Value → Shared → Prop} {lo hi : Int} {t u v : Tok} {tk : Nat} (I : Inv X pins σ H s) (h1 : -(2 ^ 62) ≤ lo) (h2 : lo < 2 ^ 62) (h3 : -(2 ^ 62) ≤ hi) (h4 : hi < 2 ^ 62)
    (q : R (Itr lo (hi - lo).toNat) H) : wpAny (model X.prog X.w) X.A (pyIter (.ref s.heap.objs.size)) (PIE X pins σ tg R) E { s with heap := s.heap.push { cls := .type "range", data := .fields #[.int lo t, .int hi u, .int 1 v] }, toks := tk } := by
  refine wpAny_pyIter_range (IsRange.new ..) (small_one h1 h2 h3 h4) ?_
  have I1 : Inv X pins σ H { s with heap := s.heap.push { cls := .type "range", data := .fields #[.int lo t, .int hi u, .int 1 v] }, toks := tk } := I.kept fun b o e => Heap.get?_push_of_some _ e
  refine ⟨(s.heap.push { cls := .type "range", data := .fields #[.int lo t, .int hi u, .int 1 v] }).objs.size, [(s.heap.push { cls := .type "range", data := .fields #[.int lo t, .int hi u, .int 1 v] }).objs.size], _, _, H, rfl,
    I1.kept (t' := tk) fun b o e => Heap.get?_push_of_some _ e, turn_range _ lo (hi - lo).toNat, ?_, fun b hb => ?_, q⟩
  · have e1 : lo + ((0 : Nat) : Int) * 1 = lo := by simp
    have e2 : (((hi - lo).toNat : Nat) : Int) - ((0 : Nat) : Int) = Builtin.Range.rangeSize lo hi 1 := by rw [rangeSize_one]; split <;> lia
    show IsRangeIter _ _ (lo + ((0 : Nat) : Int) * 1) ((((hi - lo).toNat : Nat) : Int) - ((0 : Nat) : Int)) 1
    rw [e1, e2]
    exact Heap.get?_push_size _ rfl
  · have e : b = (s.heap.push { cls := .type "range", data := .fields #[.int lo t, .int hi u, .int 1 v] }).objs.size := by simpa using hb
    subst e
    exact I1.fpOk (Nat.le_refl _) (I1.hok.fresh (Nat.le_refl _))
def iRng1 (ta : TA) : TI := fun σ H R => ta σ H fun vs H1 => ∃ j : Int, vs = [.int j] ∧ -(2 ^ 62) ≤ j ∧ j < 2 ^ 62 ∧ R (Itr 0 j.toNat) H1
theorem pi_range1 {a : Expr} {ta : TA} {p pos : Pos} (hg : Gl X "range") (hm : X.mg "range" = none) (ha : PA X [a] ta) (hs : starEach [a] X.env = [(false, eval a X.env)] := by rfl) : PI X tg (.Call (.Name "range" p) [a] [] pos) (iRng1 ta) := by
  intro pins s σ H R I h
  refine Call_ (ld_blt I hg hm boot_range (PyProof.Rows.callWith_type1 (thn (ha pos pins s σ H _ I h) fun us s1 ⟨vs, H1, I1, r1, q1⟩ => ?_) hs rfl))
  obtain ⟨j, e, q1, q2, q⟩ := q1
  subst e
  cases r1 with
  | cons r rr =>
    cases rr
    obtain ⟨t, rfl⟩ := r
    exact call_range_1 (range_it I1 (by lia) (by lia) q1 q2 (by simpa using q))
/-! ### for -/
/-- W: the invariant by the turn and a measure; N: what the body is to reach -/
def tFor (wi : TI) (g : TG) (tb : TS) : TS := fun D σ H => wi σ H fun J H1 => ∃ W : Nat → Nat → St → Hp → Prop, (∃ m, W 0 m σ H1) ∧ ∀ i m σ H, W i m σ H →
  (J.stop i H ∧ D.nx σ H) ∨ (J.go i H ∧ ∃ N : St → Hp → Prop, (∀ σ' H', N σ' H' → ∃ m', m' < m ∧ W (i + 1) m' σ' H') ∧ ∀ x H', J.yld i H x H' → g x σ H' fun σ2 H2 => tb { D with nx := N, ct := N, bk := D.nx } σ2 H2)
/-- the records at fp as they stand -/
def pinsAt (fp : List Addr) (h : Heap) : List (Addr × Obj) := fp.filterMap fun b => (h.get? b).map fun o => (b, o)
theorem mem_pinsAt {fp : List Addr} {h : Heap} {b : Addr} {o : Obj} (hb : b ∈ fp) (e : h.get? b = some o) : (b, o) ∈ pinsAt fp h := List.mem_filterMap.mpr ⟨b, hb, by rw [e]; rfl⟩
theorem of_pinsAt {fp : List Addr} {h : Heap} {p : Addr × Obj} (hp : p ∈ pinsAt fp h) : p.1 ∈ fp ∧ h.get? p.1 = some p.2 := by
  obtain ⟨b, hb, e⟩ := List.mem_filterMap.mp hp
  cases q : h.get? b with
  | none => rw [q] at e; cases e
  | some o =>
    rw [q] at e
    have e' : (b, o) = p := Option.some.inj e
    subst e'
    exact ⟨hb, q⟩
theorem Inv.pinned {pins : List (Addr × Obj)} {σ : St} {H : Hp} {s : Shared} {fp : List Addr} (I : Inv X pins σ H s) (hf : ∀ b ∈ fp, FpOk X pins H b) (ho : ∀ b ∈ fp, ∃ o, s.heap.get? b = some o ∧ ∀ v, o.data ≠ .cell v) : Inv X (pins ++ pinsAt fp s.heap) σ H s :=
  I.pins_of fun p hp => (List.mem_append.mp hp).elim (fun z => I.pin p (List.mem_append_right _ z)) fun z => by
    obtain ⟨hb, e⟩ := of_pinsAt z
    obtain ⟨f0, f1, f2, _⟩ := hf p.1 hb
    obtain ⟨o, e', d⟩ := ho p.1 hb
    rw [e] at e'; cases e'
    exact ⟨e, f0, f1, f2, d⟩
theorem Inv.unpinned {pins pl : List (Addr × Obj)} {σ : St} {H : Hp} {s : Shared} (I : Inv X (pins ++ pl) σ H s) : Inv X pins σ H s := I.pins_of fun p hp => I.pin p (List.mem_append_right _ (List.mem_append_left _ hp))
theorem ps_for {iter : Expr} {body : List Stmt} {wi : TI} {g : TG} {tb : TS} {pos : Pos} (hp : PassesOwn (model X.prog X.w) X.A X.env X.xe) (hc : X.calm = true) (hi : PI X tg iter wi) (hg : PG X tg g) (hb : PSs X body tb)
    (hs : ∀ x, foldedSetIterable iter X.env x = pure x := by intro _; rfl) : PS X (.For tg iter body [] pos) (tFor wi g tb) := by
  intro pins s σ H D I h
  refine wpAny_For (thn (hi pins s σ H _ I h) fun v s1 h1 => thn h1 fun itv s2 h2 => ?_) hs
  obtain ⟨it, fp, tn, J, H2, e, I2, T, st2, f2, W, ⟨m0, w0⟩, turn⟩ := h2
  subst e
  -- what stays true of the iterator's objects through the loop
  have stat : ∀ {H' : Hp}, (∀ b ∈ fp, H' b = none) → ∀ b ∈ fp, FpOk X pins H' b := fun hn b hb => ⟨hn b hb, (f2 b hb).2⟩
  refine codeAny_forLoop_any (fun n s' => ∃ i σ' H', Inv X pins σ' H' s' ∧ tn i s'.heap ∧ (∀ b ∈ fp, H' b = none) ∧ W i n σ' H') ?_ m0 ⟨0, σ, H2, I2, st2, fun b hb => (f2 b hb).1, w0⟩
  rintro n s3 ⟨i, σ3, H3, I3, st3, fr3, w3⟩
  rcases turn i n σ3 H3 w3 with ⟨stop, qn⟩ | ⟨go, N, hN, step⟩
  · refine wpAny_passesOwn hp (thn (T.done X rfl rfl rfl hc i pins s3 σ3 H3 X.xe I3 (stat fr3) st3 stop) fun r s4 hq9 => ?_)
    obtain ⟨hr, I4⟩ := hq9
    subst hr
    exact wpAny_execs_nil ⟨σ3, H3, I4, qn⟩
  · refine wpAny_passesOwn hp (thn (T.item X rfl rfl rfl hc i pins s3 σ3 H3 X.xe I3 (stat fr3) st3 go) fun r s4 hq9 => ?_)
    obtain ⟨u, hr, h4⟩ := hq9
    subst hr
    refine wpAny_passesOwn hp (thn h4 fun _ s5 hq9 => ?_)
    obtain ⟨x, H5, I5, r5, y5, st5, fr5⟩ := hq9
    have I5' := I5.pinned (stat fr5) (T.obj _ _ st5)
    refine wpAny_passesOwn hp (thn (hg _ s5 σ3 H5 x u _ I5' r5 (step x H5 y5)) fun _ s6 hq9 => ?_)
    obtain ⟨σ6, H6, I6, q6⟩ := hq9
    refine wpAny_passesOwn hp (thn (hb _ s6 σ6 H6 _ I6 q6) fun f s7 q7 => ?_)
    have again : ∀ {σ7 : St} {H7 : Hp}, Inv X (pins ++ pinsAt fp s5.heap) σ7 H7 s7 → N σ7 H7 → ∃ m, m < n ∧ ∃ i σ' H', Inv X pins σ' H' s7 ∧ tn i s7.heap ∧ (∀ b ∈ fp, H' b = none) ∧ W i m σ' H' := fun {σ7 H7} I7 n7 => by
      obtain ⟨m', hm, w7⟩ := hN σ7 H7 n7
      refine ⟨m', hm, i + 1, σ7, H7, I7.unpinned, T.keep _ _ _ st5 fun b hb o e => (I7.pin (b, o) (List.mem_append_right _ (List.mem_append_right _ (mem_pinsAt hb e)))).1, fun b hb => ?_, w7⟩
      obtain ⟨o, e, d⟩ := T.obj _ _ st5 b hb
      exact (I7.pin (b, o) (List.mem_append_right _ (List.mem_append_right _ (mem_pinsAt hb e)))).2.1
    cases f with
    | next => obtain ⟨σ7, H7, I7, n7⟩ := q7; exact again I7 n7
    | cont => obtain ⟨σ7, H7, I7, n7⟩ := q7; exact again I7 n7
    | brk => obtain ⟨σ7, H7, I7, q7⟩ := q7; exact ⟨σ7, H7, I7.unpinned, q7⟩
    | ret v => obtain ⟨x7, σ7, H7, I7, r7, q7⟩ := q7; exact ⟨x7, σ7, H7, I7.unpinned, r7, q7⟩
end

/-! ### the forms one uses -/
/-- over a list that the body leaves as it is -/
theorem for_list {K : PySem.W.Frag} {a : Addr} {xs : List V} {g : TG} {tb : TS} {D : Ends} {σ : St} {H : Hp} (Pv : Nat → St → Hp → Prop) (h0 : Pv 0 σ H) (hl : ∀ i σ H, i ≤ xs.length → Pv i σ H → SqL K H a xs)
    (hs : ∀ i x σ H, xs[i]? = some x → Pv i σ H → g x σ H fun σ2 H2 => tb { D with nx := Pv (i + 1), ct := Pv (i + 1), bk := D.nx } σ2 H2) (hd : ∀ σ H, Pv xs.length σ H → D.nx σ H) :
    ∃ W : Nat → Nat → St → Hp → Prop, (∃ m, W 0 m σ H) ∧ ∀ i m σ H, W i m σ H →
      ((Itl K a).stop i H ∧ D.nx σ H) ∨ ((Itl K a).go i H ∧ ∃ N : St → Hp → Prop, (∀ σ' H', N σ' H' → ∃ m', m' < m ∧ W (i + 1) m' σ' H') ∧ ∀ x H', (Itl K a).yld i H x H' → g x σ H' fun σ2 H2 => tb { D with nx := N, ct := N, bk := D.nx } σ2 H2) := by
  refine ⟨fun i m σ H => m = xs.length - i ∧ i ≤ xs.length ∧ Pv i σ H, ⟨xs.length, by simp, Nat.zero_le _, h0⟩, ?_⟩
  rintro i m σ H ⟨rfl, hi, p⟩
  have q := hl i σ H hi p
  by_cases hlt : i < xs.length
  · refine .inr ⟨⟨xs, xs[i], q, by simp [hlt]⟩, Pv (i + 1), fun σ' H' p' => ⟨xs.length - (i + 1), by lia, rfl, hlt, p'⟩, fun x H' y => ?_⟩
    obtain ⟨e, y⟩ := y
    subst e
    exact hs i x σ _ (y xs q) p
  · have e : i = xs.length := by lia
    subst e
    exact .inl ⟨⟨xs, q, Nat.le_refl _⟩, hd σ H p⟩
theorem for_range {lo : Int} {n : Nat} {g : TG} {tb : TS} {D : Ends} {σ : St} {H : Hp} (Pv : Nat → St → Hp → Prop) (h0 : Pv 0 σ H)
    (hs : ∀ i σ H, i < n → Pv i σ H → g (.int (lo + i)) σ H fun σ2 H2 => tb { D with nx := Pv (i + 1), ct := Pv (i + 1), bk := D.nx } σ2 H2) (hd : ∀ σ H, Pv n σ H → D.nx σ H) :
    ∃ W : Nat → Nat → St → Hp → Prop, (∃ m, W 0 m σ H) ∧ ∀ i m σ H, W i m σ H →
      ((Itr lo n).stop i H ∧ D.nx σ H) ∨ ((Itr lo n).go i H ∧ ∃ N : St → Hp → Prop, (∀ σ' H', N σ' H' → ∃ m', m' < m ∧ W (i + 1) m' σ' H') ∧ ∀ x H', (Itr lo n).yld i H x H' → g x σ H' fun σ2 H2 => tb { D with nx := N, ct := N, bk := D.nx } σ2 H2) := by
  refine ⟨fun i m σ H => m = n - i ∧ i ≤ n ∧ Pv i σ H, ⟨n, by simp, Nat.zero_le _, h0⟩, ?_⟩
  rintro i m σ H ⟨rfl, hi, p⟩
  by_cases hlt : i < n
  · refine .inr ⟨hlt, Pv (i + 1), fun σ' H' p' => ⟨n - (i + 1), by lia, rfl, hlt, p'⟩, fun x H' y => ?_⟩
    obtain ⟨e, y⟩ := y
    subst e y
    exact hs i σ _ hlt p
  · have e : i = n := by lia
    subst e
    exact .inl ⟨Nat.le_refl _, hd σ H p⟩
end L2

namespace L2
open PySem PySem.Spec PyProof.Rows

abbrev R2 := V → V → Hp → VK → Prop
/-- a two-place operation on values: f is binaryOp op, inplaceOp op or compareOp op -/
def OpR (X : Cx) (f : Value → Value → Sem Value) (r : R2) : Prop :=
  ∀ (pins : List (Addr × Obj)) (s : Shared) (σ : St) (H : Hp) (x y : V) (v u : Value) (Q : VK), Inv X pins σ H s → RelV x v → RelV y u → r x y H Q →
    wpAny (model X.prog X.w) X.A (f v u) (EP X pins σ Q) X.xe s
/-- a call of a value that is known (a builtin, a type) with values -/
def CallR (X : Cx) (f : Value) (r : List V → Hp → VK → Prop) : Prop :=
  ∀ (pins : List (Addr × Obj)) (s : Shared) (σ : St) (H : Hp) (xs : List V) (us : List Value) (Q : VK), Inv X pins σ H s → Vals xs us → r xs H Q →
    wpAny (model X.prog X.w) X.A (call f us) (EP X pins σ Q) X.xe s
def tOp (r : R2) (ta tb : TE) : TE := fun σ H Q => ta σ H fun x H1 => tb σ H1 fun y H2 => r x y H2 Q
/-- ints in, under C, and a value out -/
def rI (C : Int → Int → Prop) (g : Int → Int → V) : R2 := fun x y H Q => ∃ i j, x = .int i ∧ y = .int j ∧ C i j ∧ Q (g i j) H
def rI0 (g : Int → Int → V) : R2 := fun x y H Q => ∃ i j, x = .int i ∧ y = .int j ∧ Q (g i j) H
section
variable {X : Cx} {a b c : Expr} {ta tb tc : TE} {pos : Pos}

theorem binT (ha : PE X a ta) (hb : PE X b tb) {pins : List (Addr × Obj)} {s : Shared} {σ : St} {H : Hp} {R : V → V → Hp → Prop} (I : Inv X pins σ H s)
    (h : ta σ H fun x H1 => tb σ H1 fun y H2 => R x y H2) {Q : Value → Shared → Prop} {f : Value → Value → Sem Value}
    (hf : ∀ v u s2 x y H2, Inv X pins σ H2 s2 → RelV x v → RelV y u → R x y H2 → wpAny (model X.prog X.w) X.A (f v u) Q X.xe s2) :
    wpAny (model X.prog X.w) X.A (eval a X.env) (fun v s₁ => wpAny (model X.prog X.w) X.A (eval b X.env) (fun u s₂ => wpAny (model X.prog X.w) X.A (f v u) Q X.xe s₂) X.xe s₁) X.xe s := by
  refine thn (ha pins s σ H _ I h) fun v s1 hq9 => ?_
  obtain ⟨x, H1, I1, r1, q1⟩ := hq9
  refine thn (hb pins s1 σ H1 _ I1 q1) fun u s2 hq9 => ?_
  obtain ⟨y, H2, I2, r2, q2⟩ := hq9
  exact hf v u s2 x y H2 I2 r1 r2 q2

theorem pe_op {op : Operator} {r : R2} (ho : OpR X (binaryOp op) r) (ha : PE X a ta) (hb : PE X b tb) : PE X (.BinOp a op b pos) (tOp r ta tb) := by
  intro pins s σ H Q I h
  exact wpAny_BinOp (binT ha hb I h fun v u s2 x y H2 I2 rx ry q => ho pins s2 σ H2 x y v u Q I2 rx ry q)
/-! ### ints -/
theorem opI {f : Value → Value → Sem Value} {C : Int → Int → Prop} {g : Int → Int → Int}
    (rule : ∀ (i j : Int) (t u : Tok) (s : Shared) (Q : Value → Shared → Prop) (E : Value → Shared → Prop), C i j → Q (.int (g i j) s.toks) { s with toks := s.toks + 1 } → wpAny (model X.prog X.w) X.A (f (.int i t) (.int j u)) Q E s) :
    OpR X f (rI C fun i j => .int (g i j)) := by
  intro pins s σ H x y v u Q I rx ry h
  obtain ⟨i, j, rfl, rfl, hc, q⟩ := h
  obtain ⟨t, rfl⟩ := rx
  obtain ⟨t', rfl⟩ := ry
  exact rule i j t t' s _ _ hc ⟨.int (g i j), H, I.tok _, ⟨_, rfl⟩, q⟩
theorem opI0 {f : Value → Value → Sem Value} {g : Int → Int → Int}
    (rule : ∀ (i j : Int) (t u : Tok) (s : Shared) (Q : Value → Shared → Prop) (E : Value → Shared → Prop), Q (.int (g i j) s.toks) { s with toks := s.toks + 1 } → wpAny (model X.prog X.w) X.A (f (.int i t) (.int j u)) Q E s) :
    OpR X f (rI0 fun i j => .int (g i j)) := by
  intro pins s σ H x y v u Q I rx ry h
  obtain ⟨i, j, rfl, rfl, q⟩ := h
  obtain ⟨t, rfl⟩ := rx
  obtain ⟨t', rfl⟩ := ry
  exact rule i j t t' s _ _ ⟨.int (g i j), H, I.tok _, ⟨_, rfl⟩, q⟩
def CPow (i j : Int) : Prop := 0 ≤ j ∧ j ≤ 1000000 ∧ i.natAbs < 2 ^ 64
def CMul (i j : Int) : Prop := (-(2 ^ 64) < i ∧ i < 2 ^ 64) ∨ (-(2 ^ 64) < j ∧ j < 2 ^ 64)
theorem op_add : OpR X (binaryOp .Add) (rI0 fun i j => .int (i + j)) := opI0 fun _ _ _ _ _ _ _ q => add_int q
/-- % by a positive divisor of any size -/
theorem op_mod : OpR X (binaryOp .Mod) (rI (fun _ j => 0 < j) fun i j => .int (i % j)) := opI fun i j _ _ _ _ _ hc q => by
  have h1 : (0 : Int) < j := hc
  exact mod_int' (by lia) (by rw [Int.fmod_eq_emod_of_nonneg i (by lia)]; exact q)
theorem op_pow : OpR X (binaryOp .Pow) (rI CPow fun i j => .int (i ^ j.toNat)) := opI fun _ _ _ _ _ _ _ hc q => pow_int_small hc.1 hc.2.1 hc.2.2 q
/-! ### bools among ints: n += (a < b) -/
end

/-! ### comparisons -/
section
variable {X : Cx} {a b c : Expr} {ta tb tc : TE} {pos : Pos}
/-- two rules for one operation: by cases -/
theorem OpR.or {f : Value → Value → Sem Value} {r r' : R2} (h : OpR X f r) (h' : OpR X f r') : OpR X f (fun x y H Q => r x y H Q ∨ r' x y H Q) := by
  intro pins s σ H x y v u Q I rx ry q
  rcases q with q | q
  · exact h pins s σ H x y v u Q I rx ry q
  · exact h' pins s σ H x y v u Q I rx ry q

theorem nomark (b : Expr) {op : CmpOp} (h : op ≠ .In := by decide) (h2 : op ≠ .NotIn := by decide) : behindInMarks op b = false := by
  have e1 : (op == CmpOp.In) = false := by cases op <;> first | rfl | exact absurd rfl h
  have e2 : (op == CmpOp.NotIn) = false := by cases op <;> first | rfl | exact absurd rfl h2
  cases b <;> simp [behindInMarks, e1, e2]
/-- a comparison as a value; hm: nomark b, or (for in, not in) by with_unfolding_all rfl -/
theorem pe_cmpR {op : CmpOp} {r : R2} (ho : OpR X (compareOp op) r) (ha : PE X a ta) (hb : PE X b tb) (hm : behindInMarks op b = false) : PE X (.Compare a [op] [b] pos) (tOp r ta tb) := by
  intro pins s σ H Q I h
  exact wpAny_Compare1 (binT ha hb I h fun v u s2 x y H2 I2 rx ry q => ho pins s2 σ H2 x y v u Q I2 rx ry q) hm
/-- a reading of a value as a test -/
def tTest (t : TE) : TT := fun σ H Q => t σ H fun x H' => ∃ k, x = .bl k ∧ Q k H'
theorem pt_cmpR {op : CmpOp} {r : R2} (ho : OpR X (compareOp op) r) (ha : PE X a ta) (hb : PE X b tb) (hm : behindInMarks op b = false) : PT X (.Compare a [op] [b] pos) (tTest (tOp r ta tb)) := by
  intro pins s σ H Q I h
  refine wpAny_isTrue_Compare1 (thn (ha pins s σ H _ I h) fun v s1 ⟨x, H1, I1, r1, q1⟩ => thn (hb pins s1 σ H1 _ I1 q1) fun u s2 ⟨y, H2, I2, r2, q2⟩ =>
    thn (ho pins s2 σ H2 x y v u _ I2 r1 r2 q2) fun c s3 ⟨z, H3, I3, r3, k, e, q3⟩ => ?_) hm
  subst e
  cases r3
  exact wpAny_truthy_bool ⟨H3, I3, q3⟩
/-! ### truth -/
theorem line63 : (sizeLine : Nat) < 2 ^ 63 := by rw [sizeLine_eq]; decide
/-! ### strs and bytes -/
/-! ### scalar builtins, by CallR -/
theorem vals1 {x : V} {us : List Value} (r : Vals [x] us) : ∃ u, us = [u] ∧ RelV x u := by
  cases r with
  | cons r1 r2 => cases r2; exact ⟨_, rfl, r1⟩
end
end L2

namespace L2
open PySem PySem.Spec PyProof.Rows

/-! ### an instance, its attributes a map -/
structure ObjM (h : Heap) (x dx C : Addr) (mA : Str → Option Value) : Prop where
  obj : h.get? x = some (PySem.W.instObj C dx)
  ns : h.Ns1 dx mA
  ne : dx ≠ x

theorem lookIn_ns {h : Heap} {dx : Addr} {mA : Str → Option Value} (n : h.Ns1 dx mA) : ∃ od, h.get? dx = some od ∧ ∀ name, PySem.W.lookIn name od = some (mA name) := by
  obtain ⟨o, es, ep, ho, hd, hk, _, hm⟩ := n
  refine ⟨o, ho, fun name => ?_⟩
  have e := hm name
  unfold nsFind findBy at e
  rw [← Array.find?_toList] at e
  unfold PySem.W.lookIn
  rw [hd]
  dsimp only
  split
  · rename_i y q
    rw [q] at e
    exact congrArg some e
  · rename_i q
    rw [q] at e
    have a : es.toList.any (·.refKey) = false := by
      rw [List.any_eq_false]
      intro y hy
      obtain ⟨z, t, hkey⟩ := hk y (Array.mem_toList_iff.mp hy)
      simp [DictEntry.refKey, hkey]
    have a' : ¬ es.toList.any (·.refKey) = true := by rw [a]; exact Bool.false_ne_true
    rw [if_neg a']
    exact congrArg some e

section
variable {prog : Program} {w : World} {A : Around} {E : Value → Shared → Prop} {s : Shared} {K : PySem.W.Frag} {x dx C f : Addr} {mA : Str → Option Value} {name : Str} {v : Value}

end

/-! ### the attributes as a list of pairs -/
theorem RelO.some_of {v : V} {o : Option Value} (r : RelO (some v) o) : ∃ u, o = some u ∧ RelV v u := by
  cases o with
  | none => exact (show False from r).elim
  | some u => exact ⟨u, rfl, r⟩
section
variable {P : Program} {w : World} {H H' : Hp} {h h' : Heap} {a C dx : Addr} {fs fs' : List (Str × V)}
end

/-! ### what of the text a class must have -/
structure Cls (K : PySem.W.Frag) (C : Addr) : Prop where
  pg : PySem.W.plainGet K C Str.empty = true
  hd : PySem.W.hasDictIn K C = true
  po : PySem.W.plainOver K C = true
  sa : PySem.W.findIn K (.ref C) "__setattr__" = some (some (.builtin "object.__setattr__"))
/-- a constant of the class -/
structure Con (K : PySem.W.Frag) (C : Addr) (f : Str) (v : V) (u : Value) : Prop where
  at_ : PySem.W.findIn K (.ref C) f = some (some u)
  rel : RelV v u
  get : PySem.W.specialIn K u "__get__" = some none
  cp : PySem.W.copiedNames.contains f = false
/-- a method: a plain def of the class or of one above it -/
structure Meth (K : PySem.W.Frag) (C : Addr) (m : Str) (f : Addr) : Prop where
  at_ : PySem.W.findIn K (.ref C) m = some (some (.ref f))
  fn : PySem.W.isFn K (.ref f) = true
  kp : PySem.W.keepIn K (.ref f) = true

section
variable {X : Cx} {pins : List (Addr × Obj)} {σ : St} {H : Hp} {s : Shared} {a C dx : Addr} {fs : List (Str × V)} {f : Str} {v : V} {A : Around} {E : Value → Shared → Prop}

/-- e.f where nothing but the object is asked: through attributeBase (super) and the last hold -/
theorem attr_of {prog : Program} {w : World} {env : Env} {e : Expr} {f : Str} {pos : Pos} {s : Shared} {Q : Value → Shared → Prop} (hb : attributeBase e f env (eval e env) = eval e env)
    (h : wpAny (model prog w) A (eval e env) (fun o s₁ => wpAny (model prog w) A (getAttr o f true) Q E s₁) E s) : wpAny (model prog w) A (eval (.Attribute e f pos) env) Q E s :=
  Attribute_any_ h (by rw [arm_eval_Attribute, hb])
end

/-! ### readings and rules -/
section
variable {X : Cx} {o e value : Expr} {f : Str} {pos pos' tpos : Pos} {ta tv : TE}
end

/-! ### isinstance -/
section
variable {X : Cx} {pins : List (Addr × Obj)} {σ : St} {H : Hp} {s : Shared} {A : Around} {E : Value → Shared → Prop} {Q : Value → Shared → Prop} {c : Value} {b : Bool}
/-- the type of a value, as the fragment's deciders take it; for an instance its class -/
inductive TyOf (K : PySem.W.Frag) (H : Hp) : V → Value → Prop where
  | non : TyOf K H .non (.type "NoneType")
  | bl (x : Bool) : TyOf K H (.bl x) (.type "bool")
  | int (i : Int) : TyOf K H (.int i) (.type "int")
  | str (x : Str) : TyOf K H (.str x) (.type "str")
  | flt (x : UInt64) : TyOf K H (.flt x) (.type "float")
  | lst {a : Addr} {xs : List V} (e : H a = some (.lst xs)) : TyOf K H (.ref a) (.type "list")
  | frz {a : Addr} {o : Obj} {xs : List V} (e : H a = some (.frz o (.lst xs))) : TyOf K H (.ref a) (.type "list")
  | tup {a : Addr} {xs : List V} (e : H a = some (.tup xs)) : TyOf K H (.ref a) (.type "tuple")
  | dK {a : Addr} {kvs : List (Key × V)} (e : H a = some (.dK kvs)) : TyOf K H (.ref a) (.type "dict")
  | dT {a : Addr} {kvs : List (List Key × V)} (e : H a = some (.dT kvs)) : TyOf K H (.ref a) (.type "dict")
  | ins {a C dx : Addr} {fs : List (Str × V)} (e : H a = some (.ins C dx fs)) (cl : Cls K C) (ha : PySem.W.findIn K (.ref C) "__class__" = some (some (.builtin "object.__class__")))
      (hn : PySem.W.specialIn K (.builtin "object.__class__") "__get__" = some (some (.builtin "getset_descriptor.__get__"))) (htk : PySem.W.takesIn K (.builtin "object.__class__") = some true)
      (hm : PySem.W.mroIn K C (.type "object") = some true) : TyOf K H (.ref a) (.ref C)
end
end L2

namespace L2
open PySem PySem.Spec PyProof.Rows

/-! ### room -/
structure Room (k : Nat) (A : Around) : Prop where
  hd : A.handled = none
  dp : A.depth + 3 * k + 5 < recursionLimit
  un : A.units + 16 * k + 200 < cLine
theorem Room.mono {j k : Nat} {A : Around} (r : Room k A) (h : j ≤ k) : Room j A := ⟨r.hd, by have := r.dp; lia, by have := r.un; lia⟩
theorem Room.deeper {k : Nat} {A : Around} (r : Room (k + 1) A) (env : Env) : Room k (A.deeper env) :=
  ⟨r.hd, by have := r.dp; show A.depth + 1 + 3 * k + 5 < _; lia, by have := r.un; show A.units + 3 + 16 * k + 200 < _; lia⟩
theorem make_depth {A : Around} {C : Addr} {us : List Value} {kw : List (Str × Value)} : (A.under (.builtin "type.__call__" ⟨.ref C :: us, kw⟩)).depth = A.depth + 1 := by
  first | rfl | simp [Around.under, Code.weight, Code.isCreation, Code.isGuard, Code.isCaller, Code.frames, Code.isFrame, guardIds]
theorem make_units {A : Around} {C : Addr} {us : List Value} {kw : List (Str × Value)} : (A.under (.builtin "type.__call__" ⟨.ref C :: us, kw⟩)).units = A.units + 1 := by
  first | rfl | simp [Around.under, Code.cUnits, Code.frames, Code.isFrame]
theorem Room.make {k : Nat} {A : Around} (r : Room (k + 1) A) (C : Addr) (us : List Value) (kw : List (Str × Value)) : Room k (A.under (.builtin "type.__call__" ⟨.ref C :: us, kw⟩)) :=
  ⟨r.hd, by have := r.dp; rw [make_depth]; lia, by have := r.un; rw [make_units]; lia⟩
theorem Room.depth {k : Nat} {A : Around} (r : Room k A) : A.depth < recursionLimit := by have := r.dp; lia
/-! ### argument lists and displays -/
def tNil : TA := fun _ H Q => Q [] H
def tCons (ta : TE) (tr : TA) : TA := fun σ H Q => ta σ H fun x H1 => tr σ H1 fun xs H2 => Q (x :: xs) H2
section
variable {X : Cx} {e : Expr} {es : List Expr} {te : TE} {t : TA} {pos : Pos}
theorem pa_nil : PA X [] tNil := fun _ _ _ _ H Q I h => Calls.spliced_nil ⟨[], H, I, .nil, h⟩
theorem pa_cons (ha : PE X e te) (hr : PA X es t) (hs : starEach (e :: es) X.env = (false, eval e X.env) :: starEach es X.env := by rfl) : PA X (e :: es) (tCons te t) := by
  intro pos pins s σ H Q I h
  rw [hs]
  show wpAny _ _ (spliced ((false, eval e X.env) :: backTo pos (starEach es X.env))) _ _ s
  refine Calls.spliced_cons (thn (ha pins s σ H _ I h) fun u s1 hq9 => ?_)
  obtain ⟨x, H1, I1, r1, q1⟩ := hq9
  exact thn (hr pos pins s1 σ H1 _ I1 q1) fun us s2 ⟨xs, H2, I2, r2, q2⟩ => ⟨x :: xs, H2, I2, .cons r1 r2, q2⟩

def tLst (t : TA) : TE := fun σ H Q => t σ H fun xs H1 => xs.length ≤ sizeLine ∧ ∀ p, H1 p = none → Q (.ref p) (upd H1 p (.lst xs))
theorem pe_lst (h : PA X es t) : PE X (.List es pos) (tLst t) := by
  intro pins s σ H Q I hq
  refine wpAny_List_spliced (thn (h pos pins s σ H _ I hq) fun us s1 ⟨xs, H1, I1, r, z, q⟩ => ⟨by rw [← r.length]; exact z, ?_⟩)
  have hf : H1 s1.heap.objs.size = none := I1.hok.fresh (Nat.le_refl _)
  refine ⟨.ref s1.heap.objs.size, upd H1 s1.heap.objs.size (.lst xs), I1.laid (t' := s1.toks) (fun b u e => Heap.get?_push_of_some _ e) (Nat.le_refl _) ?_, rfl, q _ hf⟩
  exact ⟨z, us, 0, r, Heap.get?_push_size _ rfl⟩
end

/-! ### what a def promises -/
/-- a def's promise: the bound arguments in the parameters' order, the heap, the wanted end, the wanted exception -/
abbrev Sp := List V → Hp → VK → XK → Prop
/-- how an exception lies behind a call (file 08 gives it): the callers' frames, abstract heap and state ahead of the call, the wish, the exception, the state -/
abbrev CXT := List Env → Hp → Shared → XK → Value → Shared → Prop

/-- the state at a call -/
structure Env0 (P : Program) (w : World) (K : PySem.W.Frag) (mg : Str → Option Value) (base : Heap) (A : Around) (outer : List Env) (s : Shared) (H : Hp) : Prop where
  frames : A.frames = some outer
  mod : Mod K mg base
  bs : ∀ b o, base.get? b = some o → s.heap.get? b = some o ∧ H b = none
  bsz : base.objs.size ≤ s.heap.objs.size
  funs : s.heap.FunFrames base outer
  frf : ∀ b ∈ frs outer, H b = none
  hok : HOk P w H s.heap
  bare : AllBare s.gens
/-- a call's end -/
def CE (outer : List Env) (P : Program) (w : World) (H : Hp) (s : Shared) (Q : VK) (u : Value) (s' : Shared) : Prop :=
  ∃ v H', s'.os = s.os ∧ AllBare s'.gens ∧ Un (frs outer) [] H H' s.heap s'.heap ∧ HOk P w H' s'.heap ∧ RelV v u ∧ Q v H'
def CR (CX : CXT) (outer : List Env) (P : Program) (w : World) (H : Hp) (s : Shared) (Q : VK) (E : XK) (r : Result) (s' : Shared) : Prop :=
  match r with
  | .ok (.ret u) => CE outer P w H s Q u s'
  | .ok _ => False
  | .error e => CX outer H s E e s'
structure FnOk (P : Program) (w : World) (K : PySem.W.Frag) (mg : Str → Option Value) (base : Heap) (CX : CXT) (k : Nat) (f : Addr) (fd : FuncData) (ps : List Str) (sp : Sp) : Prop where
  len : ∀ vs H Q E, sp vs H Q E → vs.length = ps.length
  run : ∀ (A : Around) (outer : List Env) (s : Shared) (H : Hp) (args : Args) (us : List Value) (vs : List V) (Q : VK) (E : XK), Room k A → Env0 P w K mg base A outer s H → BindsTo s fd args (ps.zip us) → Vals vs us → sp vs H Q E →
    codeAny (model P w) A (.call (.ref f) args) (CR CX outer P w H s Q E) s
theorem Env0.make {P : Program} {w : World} {K : PySem.W.Frag} {mg : Str → Option Value} {base : Heap} {A : Around} {outer : List Env} {s : Shared} {H : Hp} (e : Env0 P w K mg base A outer s H) (C : Addr) (us : List Value) (kw : List (Str × Value)) :
    Env0 P w K mg base (A.under (.builtin "type.__call__" ⟨.ref C :: us, kw⟩)) outer s H := ⟨by first | exact e.frames | (simpa [Around.under, Code.envs, Code.isFrame, pushEnvs] using e.frames), e.mod, e.bs, e.bsz, e.funs, e.frf, e.hok, e.bare⟩
section
variable {X : Cx} {pins : List (Addr × Obj)} {σ : St} {H : Hp} {s s' : Shared}
/-- from a body: what a callee wants -/
theorem Inv.env0 (I : Inv X pins σ H s) : Env0 X.prog X.w X.K X.mg X.base X.A X.stack s H :=
  ⟨I.ok.frames, I.ok.mod, I.bs, Nat.le_trans I.ok.bsz I.sz, I.stack, I.stkFree, I.hok, I.bare⟩
/-- behind a call -/
theorem Inv.after {Q : VK} {u : Value} (I : Inv X pins σ H s) (h : CE X.stack X.prog X.w H s Q u s') : EP X pins σ Q u s' := by
  obtain ⟨v, H', os, bare, un, hok, r, q⟩ := h
  obtain ⟨hh, g, d, t, os'⟩ := s'
  obtain rfl : os' = s.os := os
  exact ⟨v, H', I.call (h' := hh) (g' := g) (d' := d) (t' := t) (ch := []) un hok bare (fun b z => absurd z (by simp)), r, q⟩
end

/-! ### calls -/
/-- how the parameters are bound: us the positional arguments, kw the keywords' values by name, ds the defaults that fill up -/
def Binds (K : PySem.W.Frag) (fd : FuncData) (ps : List Str) (ds : List Value) : Prop :=
  ∀ (s : Shared) (us : List Value), K.In s.heap → (us ++ ds).length = ps.length → BindsTo s fd ⟨us, []⟩ (ps.zip (us ++ ds))
/-- every parameter is given -/
theorem Binds.all {K : PySem.W.Frag} {fd : FuncData} {ps : List Str} (h : ∀ us : List Value, us.length = ps.length → bindArgs fd ⟨us, []⟩ = pure (ps.zip us)) : Binds K fd ps [] := fun s us _ hl => by
  rw [List.append_nil] at hl ⊢
  exact .of_eq (h us hl)

section
variable {X : Cx} {CX : CXT} {k : Nat} {f C : Addr} {fd : FuncData} {ps : List Str} {sp : Sp} {dvs : List V} {ds : List Value} {E : XK} {x m : Str} {p pos apos : Pos} {e o : Expr} {es : List Expr} {ta : TE} {t : TA}

/-- what a class must have to be made -/
structure Mk (K : PySem.W.Frag) (C f : Addr) : Prop where
  makes : PySem.W.makesIn K C = true
  init : PySem.W.findIn K (.ref C) "__init__" = some (some (.ref f))
  fn : PySem.W.isFn K (.ref f) = true
  kp : PySem.W.keepIn K (.ref C) = true

end

/-! ### keywords -/
section
variable {X : Cx} {CX : CXT} {k : Nat} {f C : Addr} {fd : FuncData} {ps ks : List Str} {sp : Sp} {E : XK} {x m : Str} {p pos apos kpos : Pos} {e o : Expr} {es : List Expr} {kws : List Keyword} {te ta : TE} {t tk : TA} {nm : Option Str}
/-- how a call with keywords binds: g puts the positional values us and the keywords' values ws (names ks) in the parameters' order, defaults among them -/
structure KBinds (K : PySem.W.Frag) (fd : FuncData) (ps ks : List Str) (g : List Value → List Value → List Value) (gV : List V → List V → List V) : Prop where
  to : ∀ (s : Shared) (us ws : List Value), K.In s.heap → (g us ws).length = ps.length → BindsTo s fd ⟨us, ks.zip ws⟩ (ps.zip (g us ws))
  rel : ∀ {vs : List V} {us : List Value} {zs : List V} {ws : List Value}, Vals vs us → Vals zs ws → Vals (gV vs zs) (g us ws)
variable {g : List Value → List Value → List Value} {gV : List V → List V → List V}
end

/-! ### a def's body keeps its promise -/
/-- names: the parameters first -/
structure FnScope (N P : List Str) (sc : Scope) : Prop where
  kind : sc.kind = .function
  co : sc.isCoroutine = false
  gen : sc.isGenerator = false
  nd : N.Nodup
  pre : N.take P.length = P
  par : ∀ x ∈ P, sc.names.lookup x = some .local ∨ sc.names.lookup x = some .cell
  nofree : ∀ y ∈ sc.names, y.2 ≠ .free

theorem bindL_out {kindOf : Str → Option NameKind} {x : Str} : ∀ {binds : List (Str × Value)} {m : Str → Option Value}, (∀ v, (x, v) ∉ binds) → bindL kindOf binds m x = m x
  | [], _, _ => rfl
  | (n, v) :: r, m, h => by
    unfold bindL
    rw [bindL_out fun w hw => h w (List.mem_cons_of_mem _ hw)]
    split
    · have : x ≠ n := by rintro rfl; exact h v List.mem_cons_self
      simp [this]
    · rfl
theorem bindC_out {kindOf : Str → Option NameKind} {x : Str} : ∀ {binds : List (Str × Value)} {m : Str → Option Value}, (∀ v, (x, v) ∉ binds) → bindC kindOf binds m x = m x
  | [], _, _ => rfl
  | (n, v) :: r, m, h => by
    unfold bindC
    rw [bindC_out fun w hw => h w (List.mem_cons_of_mem _ hw)]
    split
    · rfl
    · have : x ≠ n := by rintro rfl; exact h v List.mem_cons_self
      simp [this]
theorem bindL_get {kindOf : Str → Option NameKind} {x : Str} {v : Value} : ∀ {P : List Str} {vs : List Value} {i : Nat} {m : Str → Option Value}, P.Nodup → P[i]? = some x → vs[i]? = some v → kindOf x = some .local →
    bindL kindOf (P.zip vs) m x = some v
  | [], _, _, _, _, h, _, _ => by simp at h
  | _ :: _, [], _, _, _, _, h, _ => by simp at h
  | p :: P, w :: vs, 0, m, nd, h1, h2, hk => by
    simp at h1 h2; subst h1; subst h2
    show bindL kindOf ((p, w) :: P.zip vs) m p = _
    unfold bindL
    rw [bindL_out fun v hv => (List.nodup_cons.mp nd).1 (List.of_mem_zip hv).1, if_pos hk]
    simp
  | p :: P, w :: vs, i + 1, m, nd, h1, h2, hk => by
    show bindL kindOf ((p, w) :: P.zip vs) m x = _
    unfold bindL
    exact bindL_get (i := i) (List.nodup_cons.mp nd).2 (by simpa using h1) (by simpa using h2) hk
theorem bindC_get {kindOf : Str → Option NameKind} {x : Str} {v : Value} : ∀ {P : List Str} {vs : List Value} {i : Nat} {m : Str → Option Value}, P.Nodup → P[i]? = some x → vs[i]? = some v → kindOf x ≠ some .local →
    bindC kindOf (P.zip vs) m x = some v
  | [], _, _, _, _, h, _, _ => by simp at h
  | _ :: _, [], _, _, _, _, h, _ => by simp at h
  | p :: P, w :: vs, 0, m, nd, h1, h2, hk => by
    simp at h1 h2; subst h1; subst h2
    show bindC kindOf ((p, w) :: P.zip vs) m p = _
    unfold bindC
    rw [bindC_out fun v hv => (List.nodup_cons.mp nd).1 (List.of_mem_zip hv).1, if_neg hk]
    simp
  | p :: P, w :: vs, i + 1, m, nd, h1, h2, hk => by
    show bindC kindOf ((p, w) :: P.zip vs) m x = _
    unfold bindC
    exact bindC_get (i := i) (List.nodup_cons.mp nd).2 (by simpa using h1) (by simpa using h2) hk

/-- the names' values at the entry -/
def start (N : List Str) (vs : List V) : St := vs.map some ++ List.replicate (N.length - vs.length) none

/-- the context of a def's body, at its entry; an exception leaves the frame, then lies as CX says -/
def cxOf (CX : CXT) (P : Program) (w : World) (K : PySem.W.Frag) (mg : Str → Option Value) (base : Heap) (N : List Str) (qual : Str) (scope : Scope) (f : Addr) (cd : Value) (A : Around) (outer : List Env) (s : Shared) (H : Hp) (E : XK) : Cx where
  prog := P
  w := w
  K := K
  mg := mg
  base := base
  A := A.deeper (envOfC qual scope s.heap.objs.size f cd)
  N := N
  s₀ := s
  H₀ := H
  env := envOfC qual scope s.heap.objs.size f cd
  outer := outer
  stack := envOfC qual scope s.heap.objs.size f cd :: outer
  ex := []
  calm := true
  fn := fun _ => true
  pn := []
  xe := fun e s' => wpAny (model P w) (A.deeper (envOfC qual scope s.heap.objs.size f cd)) (leaving (envOfC qual scope s.heap.objs.size f cd) e) (fun _ s'' => CX outer H s E e s'') (fun e' s'' => CX outer H s E e' s'') s'

theorem cell_has {sc : Scope} {n : Nat} {x : Str} (h : sc.names.lookup x = some .cell) : ∃ c, (cellsFrom n sc.names []).lookup x = some c := by
  have q := PySem.W.cellsFrom_some sc.names n [] (.inl h)
  exact Option.isSome_iff_exists.mp q

theorem inv_start {CX : CXT} {P : Program} {w : World} {K : PySem.W.Frag} {mg : Str → Option Value} {base : Heap} {N ps : List Str} {qual : Str} {scope : Scope} {f : Addr} {cd : Value} {A : Around} {outer : List Env} {s s1 : Shared} {H : Hp} {E : XK} {us : List Value} {vs : List V}
    (S : FnScope N ps scope) (hd : A.handled = none) (e0 : Env0 P w K mg base A outer s H) (hl : vs.length = ps.length) (r : Vals vs us)
    (x : InCallC s s.heap.objs.size (bindL (envOfC qual scope s.heap.objs.size f cd).kindOf (ps.zip us) fun _ => none) (cellsFrom (s.heap.objs.size + 1) scope.names []) (bindC (envOfC qual scope s.heap.objs.size f cd).kindOf (ps.zip us) fun _ => none) s1) :
    Inv (cxOf CX P w K mg base N qual scope f cd A outer s H E) [] (start N vs) H s1 := by
  have hpl : ps.length ≤ N.length := by have := congrArg List.length S.pre; rw [List.length_take] at this; lia
  obtain ⟨h1, tk, rfl, hk⟩ := x.done
  have noA : ∀ b : Addr, b ∉ (cxOf CX P w K mg base N qual scope f cd A outer s H E).ex := fun b z => absurd (show b ∈ ([] : List Addr) from z) (by simp)
  refine ⟨⟨e0.mod, S.kind, rfl, rfl, Nat.le_refl _, fun y z c h1 h2 => ?_, fun y hy => ?_, fun y c _ h => ?_, fun _ => hd, Around.frames_deeper e0.frames, .inr ⟨rfl, rfl⟩, fun b z => absurd z (noA b), e0.bs, e0.bsz, fun b _ _ => noA b, fun b z => absurd z (noA b), e0.funs, e0.frf⟩,
    rfl, e0.bare, Un.kept hk, ⟨_, x.toInCall.ns, fun i y v h1 h2 h3 => ?_⟩, fun y c h => ⟨_, x.cell y c h⟩, e0.hok.fresh (Nat.le_refl _), fun y c h => ?_, fun p hp => absurd (show p ∈ ([] : List (Addr × Obj)) from hp) (by simp), e0.hok.kept hk, ?_⟩
  · exact name_of_addr x.apart (PySem.mem_of_lookup h1) (PySem.mem_of_lookup h2)
  · have hy : scope.names.lookup y = some .cell ∨ scope.names.lookup y = some .free := hy
    rcases hy with hy | hy
    · exact cell_has hy
    · exact absurd rfl (S.nofree _ (PySem.mem_of_lookup hy))
  · exact Nat.le_of_lt (x.above y c (PySem.mem_of_lookup h))
  · have hi : i < vs.length := by
      unfold start at h2
      by_cases hi : i < vs.length
      · exact hi
      · rw [List.getElem?_append_right (by simpa using hi)] at h2
        rw [List.getElem?_replicate] at h2
        split at h2 <;> cases h2
    have ha : vs[i]? = some v := by
      unfold start at h2
      rw [List.getElem?_append_left (by simpa using hi), List.getElem?_map] at h2
      cases e : vs[i]? with
      | none => rw [e] at h2; cases h2
      | some a => rw [e] at h2; cases h2; rfl
    obtain ⟨u, hu, rv⟩ := r.get ha
    have hp : ps[i]? = some y := by
      rw [← S.pre, List.getElem?_take_of_lt (by lia)]; exact h1
    have ndP : ps.Nodup := by rw [← S.pre]; exact S.nd.sublist (List.take_sublist _ _)
    refine ⟨u, rv, ?_⟩
    rcases S.par y (List.mem_of_getElem? hp) with k | k
    · exact .inl ⟨k, bindL_get ndP hp hu k⟩
    · obtain ⟨c, e⟩ := cell_has (n := s.heap.objs.size + 1) k
      refine .inr ⟨.inl k, c, e, ?_⟩
      have q := x.cell y c e
      rw [bindC_get ndP hp hu (by show scope.names.lookup y ≠ _; rw [k]; decide)] at q
      exact q
  · exact e0.hok.fresh (Nat.le_of_lt (x.above y c (PySem.mem_of_lookup h)))
  · unfold start
    show _ = N.length
    rw [List.length_append, List.length_map, List.length_replicate]
    lia

/-- THE RULE: a def (or a method) of the text, by its body. The body's reading t is chosen for each entry; it is run at the parameters' values -/
theorem fn_of {CX : CXT} {P : Program} {w : World} {K : PySem.W.Frag} {mg : Str → Option Value} {base : Heap} {k : Nat} {f : Addr} {name qual : Str} {params : Arguments} {body : List Stmt} {scope : Scope} {dV kV doc pm cdv ct oc : Value} {an od : Option Addr}
    {osl : Array (Option Value)} {N ps : List Str} {sp : Sp} (lk : K.lookup f = some ⟨oc, od, .func (PySem.W.fnOf name qual params body scope dV kV doc pm an cdv ct), osl⟩) (hcd : PySem.W.codeIn K cdv qual = true) (S : FnScope N ps scope)
    (len : ∀ vs H Q E, sp vs H Q E → vs.length = ps.length)
    (hbody : ∀ (A : Around) (outer : List Env) (s : Shared) (H : Hp) (vs : List V) (Q : VK) (E : XK), Room k (A.deeper (envOfC qual scope s.heap.objs.size f cdv)) → HOk P w H s.heap → sp vs H Q E →
      ∃ t, PSs (cxOf CX P w K mg base N qual scope f cdv A outer s H E) body t ∧ t { nx := fun _ H' => Q .non H', rt := Q } (start N vs) H) :
    FnOk P w K mg base CX (k + 1) f (PySem.W.fnOf name qual params body scope dV kV doc pm an cdv ct) ps sp := by
  refine ⟨len, fun A outer s H args us vs Q E hr e0 hb r hsp => ?_⟩
  have hl := len _ _ _ _ hsp
  have KX : K.In s.heap := e0.mod.kin.keeps fun b o e => (e0.bs b o e).1
  have lim : s.heap.NoLimit := e0.mod.nolimit.keeps fun b o e => (e0.bs b o e).1
  have hkind : ∀ y ∈ ps.zip us, scope.names.lookup y.1 = some .local ∨ (scope.names.lookup y.1 = some .cell ∧ ((cellsFrom (s.heap.objs.size + 1) scope.names []).lookup y.1).isSome = true) := fun ⟨n, v⟩ hy => by
    rcases S.par n (List.of_mem_zip hy).1 with q | q
    · exact .inl q
    · exact .inr ⟨q, PySem.W.cellsFrom_some _ _ _ (.inl q)⟩
  refine codeAny_call_function hr.depth (KX _ _ lk) rfl S.co S.gen rfl (PySem.W.codeRec_of KX hcd) (hb _ _ _ _ ?_)
  refine wpAny_newFunctionEnv_cells S.kind hkind fun env he s1 x => ?_
  subst he
  refine ⟨lim.keeps x.toInCall.keep, codeAny_func ?_⟩
  obtain ⟨t, ht, hq⟩ := hbody A outer s H vs Q E (hr.deeper _) e0.hok hsp
  have I : Inv (cxOf CX P w K mg base N qual scope f cdv A outer s H E) [] (start N vs) H s1 := inv_start S hr.hd e0 hl r x
  refine wpAny_mono (ht [] s1 (start N vs) H _ I hq) (fun fl s' hs => ?_) fun e s' hs => hs
  have fin : ∀ {σ' : St} {H' : Hp} {v : V} {u : Value}, Inv (cxOf CX P w K mg base N qual scope f cdv A outer s H E) [] σ' H' s' → RelV v u → Q v H' → CE outer P w H s Q u s' :=
    fun {σ' H' v u} J rv q => ⟨v, H', J.os, J.bare, J.base, J.hok, rv, q⟩
  cases fl with
  | ret u =>
    obtain ⟨v, σ', H', J, rv, q⟩ := hs
    exact fin J rv q
  | next =>
    obtain ⟨σ', H', J, q⟩ := hs
    exact fin (v := V.non) (u := Value.none) J rfl q
  | brk =>
    obtain ⟨_, _, _, q⟩ := hs
    exact False.elim q
  | cont =>
    obtain ⟨_, _, _, q⟩ := hs
    exact False.elim q
end L2

namespace L2
open PySem PySem.Spec PyProof.Rows
section
variable {X : Cx} {x : Str} {p pos : Pos} {e : Expr} {es : List Expr} {t : TA} {id T : String} {r : List V → Hp → VK → Prop}

def tCB (r : List V → Hp → VK → Prop) (t : TA) : TE := fun σ H Q => t σ H fun vs H1 => r vs H1 Q
/-- f(e, ..), f a built-in function -/
theorem pe_callB (hc : CallR X (.builtin id) r) (hg : Gl X x) (hm : X.mg x = none) (hv : bootBuiltins x = some (.builtin id)) (ha : PA X (e :: es) t) (hn : x ≠ "__name__" := by decide) (hdb : (x == ("__debug__" : Str)) = false := by decide)
    (he : starEach (e :: es) X.env = (false, eval e X.env) :: starEach es X.env := by rfl) (hpl : (backTo pos (starEach es X.env)).any (·.1) = false := by rfl) : PE X (.Call (.Name x p) (e :: es) [] pos) (tCB r t) := by
  intro pins s σ H Q I h
  refine wpAny_Call_Name_kw (ld_blt I hg hm hv ?_ hn hdb)
  exact PyProof.Rows.callWith_builtin1 (thn (ha pos pins s σ H _ I h) fun us s1 ⟨vs, H1, I1, r1, q1⟩ => hc pins s1 σ H1 vs us Q I1 r1 q1) he hpl
end
end L2

namespace HT
open PySem PyProof.Rows

section
open PySem.SeqAt
open PySem.AutoSeq1 (wpAny_loadPart')
open PySem.MeetsSeq PySem.MeetsSeq2 PySem.MeetsSeq3

end

section
variable {prog : Program} {w : World} {A : Around} {E : Value → Shared → Prop} {s : Shared}

/-! ### t[a:b], not the whole -/
/-- a slice's bound as a place among n (d where it is left out) -/
def sIx (n d : Nat) : Option Int → Nat
  | none => d
  | some v => if v < 0 then (v + (n : Int)).toNat else min v.toNat n
end
end HT

namespace L2
open PySem PySem.Spec PyProof.Rows

/-! ### the parts of a slice -/
abbrev TO := St → Hp → (Option Int → Hp → Prop) → Prop
/-- a slice's part (left out, or an int) -/
def PO (X : Cx) (e : Option Expr) (t : TO) : Prop :=
  ∀ (pins : List (Addr × Obj)) (s : Shared) (σ : St) (H : Hp) (Q : Option Int → Hp → Prop), Inv X pins σ H s → t σ H Q →
    wpAny (model X.prog X.w) X.A (evalPart e X.env) (fun u s' => ∃ o H', Inv X pins σ H' s' ∧ IsPart u o ∧ Q o H') X.xe s
def tNoPart : TO := fun _ H Q => Q none H
def tPart (t : TE) : TO := fun σ H Q => t σ H fun x H1 => ∃ i, x = .int i ∧ Q (some i) H1

section
variable {X : Cx} {e : Expr} {te : TE} {lo hi : Option Expr} {tl th : TO} {pos p2 : Pos}

theorem po_none : PO X none tNoPart := by
  intro pins s σ H Q I h
  rw [evalPart_none]
  exact wpAny_pure ⟨none, H, I, .none, h⟩
theorem po_some (h : PE X e te) : PO X (some e) (tPart te) := by
  intro pins s σ H Q I hw
  rw [evalPart_some]
  refine thn (h pins s σ H _ I hw) fun u s1 hq9 => ?_
  obtain ⟨x, H1, I1, r1, q1⟩ := hq9
  obtain ⟨i, rfl, q⟩ := q1
  obtain ⟨t, rfl⟩ := r1
  exact ⟨some i, H1, I1, .int i t, q⟩

/-- what a slice of a value is, by values: the slice object stands at sl -/
def SlR (X : Cx) (r : V → Option Int → Option Int → Hp → VK → Prop) : Prop :=
  ∀ (pins : List (Addr × Obj)) (s : Shared) (σ : St) (H : Hp) (x : V) (v vl vu : Value) (lo hi : Option Int) (sl : Addr) (Q : VK), Inv X pins σ H s → RelV x v → s.heap.IsSliceOf sl vl vu .none → IsPart vl lo → IsPart vu hi → r x lo hi H Q →
    ∃ T id, typeLookup (.type T) "__getitem__" = pure (some (.builtin id)) ∧ s.TypeIs v T ∧ wpAny (model X.prog X.w) X.A (getItem v (.ref sl)) (EP X pins σ Q) X.xe s
def tSl (r : V → Option Int → Option Int → Hp → VK → Prop) (te : TE) (tl th : TO) : TE := fun σ H Q => te σ H fun x H1 => tl σ H1 fun l H2 => th σ H2 fun u H3 => r x l u H3 Q
/-- a[lo:hi], any a -/
theorem pe_slice {r : V → Option Int → Option Int → Hp → VK → Prop} (hr : SlR X r) (he : PE X e te) (hl : PO X lo tl) (hu : PO X hi th) : PE X (.Subscript e (.Slice lo hi none p2) pos) (tSl r te tl th) := by
  intro pins s σ H Q I h
  refine Subscript_ (thn (he pins s σ H _ I h) fun v s1 hq9 => ?_)
  obtain ⟨x, H1, I1, r1, q1⟩ := hq9
  refine wpAny_Slice (thn (hl pins s1 σ H1 _ I1 q1) fun vl s2 ⟨l, H2, I2, pl, q2⟩ => thn (hu pins s2 σ H2 _ I2 q2) fun vu s3 hq9 => ?_)
  obtain ⟨u, H3, I3, pu, q3⟩ := hq9
  rw [evalPart_none]
  refine wpAny_pure ?_
  have I4 : Inv X pins σ H3 { s3 with heap := s3.heap.push { cls := .type "slice", data := .fields #[vl, vu, .none] } } := I3.kept (t' := s3.toks) fun b ob q => Heap.get?_push_of_some _ q
  obtain ⟨T, id, hT, ht, hg⟩ := hr pins { s3 with heap := s3.heap.push { cls := .type "slice", data := .fields #[vl, vu, .none] } } σ H3 x v vl vu l u s3.heap.objs.size Q I4 r1 (Heap.IsSliceOf.new ..) pl pu q3
  show wpAny (model X.prog X.w) X.A (subscriptTail e (.Slice lo hi none p2) v (.ref s3.heap.objs.size)) (EP X pins σ Q) X.xe { s3 with heap := s3.heap.push { cls := .type "slice", data := .fields #[vl, vu, .none] } }
  exact tail_any (ops := [.ref s3.heap.objs.size, v]) ht hT hg (by with_unfolding_all rfl)

/-- the items of xs[lo:hi] -/
def cutV (xs : List V) (lo hi : Option Int) : List V := (xs.drop (HT.sIx xs.length 0 lo)).take (HT.sIx xs.length xs.length hi - HT.sIx xs.length 0 lo)
theorem cutV_length (xs : List V) (lo hi : Option Int) : (cutV xs lo hi).length ≤ xs.length := by
  unfold cutV
  rw [List.length_take, List.length_drop]
  lia
/-! ### t < u, t + u -/
end
end L2

namespace L2
open PySem PySem.Spec PyProof.Rows

/-! ### places -/
/-- the place that an index of any sign means -/
def ixN (n : Nat) (i : Int) : Option Nat := if 0 ≤ i then (if i < n then some i.toNat else none) else if -(n : Int) ≤ i then some (i + n).toNat else none
def atI {α : Type} (xs : List α) (i : Int) : Option α := (ixN xs.length i).bind fun j => xs[j]?
theorem ixN_seq {n : Nat} {i : Int} {j : Nat} (h : ixN n i = some j) : seqIndex? i n = some j ∧ j < n ∧ -(n : Int) ≤ i ∧ i < n := by
  unfold ixN at h
  by_cases h0 : 0 ≤ i
  · rw [if_pos h0] at h
    by_cases h1 : i < n
    · rw [if_pos h1] at h
      have e : i.toNat = j := Option.some.inj h
      exact ⟨by rw [seqIndex_of h0 h1, e], by lia, by lia, h1⟩
    · rw [if_neg h1] at h; cases h
  · rw [if_neg h0] at h
    by_cases h1 : -(n : Int) ≤ i
    · rw [if_pos h1] at h
      have e : (i + n).toNat = j := Option.some.inj h
      exact ⟨by rw [seqIndex_neg (by lia) h1, e], by lia, h1, by lia⟩
    · rw [if_neg h1] at h; cases h
theorem atI_get {α : Type} {xs : List α} {i : Int} {v : α} (h : atI xs i = some v) : ∃ j, seqIndex? i xs.length = some j ∧ xs[j]? = some v ∧ j < xs.length ∧ -(xs.length : Int) ≤ i ∧ i < xs.length := by
  unfold atI at h
  cases e : ixN xs.length i with
  | none => rw [e] at h; cases h
  | some j =>
    rw [e] at h
    obtain ⟨h1, h2, h3, h4⟩ := ixN_seq e
    exact ⟨j, h1, h, h2, h3, h4⟩
/-! ### what may be subscripted -/
/-- what stands as an index of a plain subscript -/
def PlainIx (b : Expr) : Prop := ∀ o i, subscripted b false o i = operate [o, i] (getItem o i)
/-- a subscript by values -/
def IxR (X : Cx) (r : R2) : Prop :=
  ∀ (value slice : Expr) (pins : List (Addr × Obj)) (s : Shared) (σ : St) (H : Hp) (x y : V) (v u : Value) (Q : VK), Inv X pins σ H s → RelV x v → RelV y u → r x y H Q →
    subscripted slice false v u = operate [v, u] (getItem v u) → wpAny (model X.prog X.w) X.A (subscriptTail value slice v u) (EP X pins σ Q) X.xe s
section
variable {X : Cx} {a b : Expr} {ta tb : TE} {pos : Pos}
theorem IxR.or {r r' : R2} (h : IxR X r) (h' : IxR X r') : IxR X (fun x y H Q => r x y H Q ∨ r' x y H Q) := by
  intro value slice pins s σ H x y v u Q I rx ry q hs
  rcases q with q | q
  · exact h value slice pins s σ H x y v u Q I rx ry q hs
  · exact h' value slice pins s σ H x y v u Q I rx ry q hs
/-- a[b] -/
theorem pe_ix {r : R2} (hr : IxR X r) (ha : PE X a ta) (hb : PE X b tb) (hs : PlainIx b) : PE X (.Subscript a b pos) (tOp r ta tb) := by
  intro pins s σ H Q I h
  exact Subscript_ (binT ha hb I h fun v u s2 x y H2 I2 rx ry q => hr a b pins s2 σ H2 x y v u Q I2 rx ry q (hs _ _))

def rIxL (K : PySem.W.Frag) : R2 := fun x y H Q => ∃ p xs i v, x = .ref p ∧ y = .int i ∧ SqL K H p xs ∧ atI xs i = some v ∧ Q v H
def rIxT (K : PySem.W.Frag) : R2 := fun x y H Q => ∃ p xs i v, x = .ref p ∧ y = .int i ∧ SqT K H p xs ∧ atI xs i = some v ∧ Q v H
def rIxS : R2 := fun x y H Q => ∃ z i c, x = .str z ∧ y = .int i ∧ z.length ≤ sizeLine ∧ atI z.cps.toList i = some c ∧ Q (.str ⟨#[c]⟩) H
theorem ix_list : IxR X (rIxL X.K) := by
  intro value slice pins s σ H x y v u Q I rx ry h hs
  obtain ⟨p, xs, i, z, rfl, rfl, hq, he, q⟩ := h
  cases rx
  obtain ⟨t, rfl⟩ := ry
  obtain ⟨its, r, pl, hz⟩ := I.list hq
  obtain ⟨j, h1, h2, h3, h4, h5⟩ := atI_get he
  obtain ⟨w, ew, rw'⟩ := r.get h2
  have hl := r.length
  have hn := line63
  have fin : EP X pins σ Q w s := ⟨z, H, I, rw', q⟩
  by_cases h0 : 0 ≤ i
  · have hj : i.toNat = j := by
      rw [seqIndex_of h0 h5] at h1
      exact Option.some.inj h1
    exact item_listR pl.isList h0 (by lia) (by rw [hj]; simpa using ew) fin hs
  · have hj : (i + (its.toArray.size : Int)).toNat = j := by
      rw [seqIndex_neg (by lia) h4] at h1
      rw [List.size_toArray, ← hl]
      exact Option.some.inj h1
    exact subscriptTail_builtinR (x := w) pl.isList.typeIs slot_list_getitem.lookup
      (wpAny_getItem_list_neg (Q := fun r s' => r = w ∧ EP X pins σ Q r s') pl.isList (by lia) (by rw [List.size_toArray] <;> lia) (by lia) (by rw [hj]; simpa using ew) ⟨rfl, fin⟩) hs
theorem ix_tup : IxR X (rIxT X.K) := by
  intro value slice pins s σ H x y v u Q I rx ry h hs
  obtain ⟨p, xs, i, z, rfl, rfl, hq, he, q⟩ := h
  cases rx
  obtain ⟨t, rfl⟩ := ry
  obtain ⟨its, r, pl, hz⟩ := I.tuple hq
  obtain ⟨j, h1, h2, h3, h4, h5⟩ := atI_get he
  obtain ⟨w, ew, rw'⟩ := r.get h2
  have hl := r.length
  have hn := line63
  have fin : EP X pins σ Q w s := ⟨z, H, I, rw', q⟩
  exact subscriptTail_builtinR (x := w) pl.typeIs slot_tuple_getitem.lookup
    (getItem_tuple (j := j) (Q := fun r s' => r = w ∧ EP X pins σ Q r s') pl (by lia) (by lia) (by rw [List.size_toArray, ← hl]; exact h1) (by simpa using ew) ⟨rfl, fin⟩) hs
theorem ix_str : IxR X rIxS := by
  intro value slice pins s σ H x y v u Q I rx ry h hs
  obtain ⟨z, i, c, rfl, rfl, hz, he, q⟩ := h
  obtain ⟨t, rfl⟩ := rx
  obtain ⟨t', rfl⟩ := ry
  obtain ⟨j, h1, h2, h3, h4, h5⟩ := atI_get he
  have hl : z.cps.toList.length = z.length := by simp [Str.length]
  rw [hl] at h1 h4 h5
  have hn := line63
  exact tail_any (typeIs_str s z t) slot_str_getitem.lookup (getItem_str (c := c) (by
    have e1 : decide (i < -(2 ^ 63 : Int)) = false := decide_eq_false (by lia)
    have e2 : decide (i ≥ 2 ^ 63) = false := decide_eq_false (by lia)
    rw [e1, e2, Bool.or_false]) (by rw [h1]; simpa using h2) ⟨.str ⟨#[c]⟩, H, I.tok _, ⟨_, rfl⟩, q⟩) hs
/-- list, tuple or str -/
def rIx (K : PySem.W.Frag) : R2 := fun x y H Q => rIxL K x y H Q ∨ rIxT K x y H Q ∨ rIxS x y H Q
theorem ix_seq : IxR X (rIx X.K) := ix_list.or (ix_tup.or ix_str)

/-! ### xs[i] = v, any sign -/
/-! ### slices -/
theorem slice_bounds (lo hi : Option Int) (n : Nat) : (sliceBounds lo hi none n).1 = ((HT.sIx n 0 lo : Nat) : Int) ∧ (sliceBounds lo hi none n).2.1 = ((HT.sIx n n hi : Nat) : Int) ∧ (sliceBounds lo hi none n).2.2 = 1 := by
  refine ⟨?_, ?_, rfl⟩
  · cases lo with
    | none => simp [sliceBounds, HT.sIx]
    | some i =>
      simp only [sliceBounds, HT.sIx, Option.getD_none, show (1 : Int) > 0 by decide, if_true]
      by_cases h : i < 0
      · simp only [h, if_true] <;> lia
      · simp only [h, if_false] <;> lia
  · cases hi with
    | none => simp [sliceBounds, HT.sIx]
    | some i =>
      simp only [sliceBounds, HT.sIx, Option.getD_none, show (1 : Int) > 0 by decide, if_true]
      by_cases h : i < 0
      · simp only [h, if_true] <;> lia
      · simp only [h, if_false] <;> lia
theorem slicePick_cut (its : List Value) (lo hi : Option Int) : slicePick its.toArray lo hi none = ((its.drop (HT.sIx its.length 0 lo)).take (HT.sIx its.length its.length hi - HT.sIx its.length 0 lo)).toArray := by
  obtain ⟨h1, h2, h3⟩ := slice_bounds lo hi its.toArray.size
  unfold slicePick
  rw [h1, h2, h3]
  simp only [sliceRange_one, pick_run, List.size_toArray] <;> rfl
/-- xs[lo:hi] of a list: a new list -/
def rSlL (K : PySem.W.Frag) : V → Option Int → Option Int → Hp → VK → Prop := fun x lo hi H Q => ∃ a xs, x = .ref a ∧ SqL K H a xs ∧ ∀ p, H p = none → Q (.ref p) (upd H p (.lst (cutV xs lo hi)))
theorem sl_list : SlR X (rSlL X.K) := by
  intro pins s σ H x v vl vu lo hi sl Q I rx hs pl pu h
  obtain ⟨a, xs, rfl, hx, q⟩ := h
  cases rx
  obtain ⟨its, r, ht, hz⟩ := I.list hx
  have hlen := r.length
  refine ⟨"list", _, slot_list_getitem.lookup, ht.isList.typeIs, ?_⟩
  refine wpAny_getItem_list_slice ht.isList hs pl pu .none (by simp) ?_ (by rw [List.size_toArray] <;> lia)
  rw [slicePick_cut, ← hlen]
  refine ⟨.ref s.heap.objs.size, _, I.laid (t' := s.toks) (o := .lst (cutV xs lo hi)) (fun b ob q => Heap.get?_push_of_some _ q) (Nat.le_refl _) ?_, rfl, q _ (I.hok.fresh (Nat.le_refl _))⟩
  exact ⟨Nat.le_trans (cutV_length xs lo hi) hz, _, 0, (r.drop (HT.sIx xs.length 0 lo)).take (HT.sIx xs.length xs.length hi - HT.sIx xs.length 0 lo), Heap.get?_push_size _ rfl⟩

/-! ### in, not in: flat items -/
/-! ### len, list(x), tuple(x) of any list or tuple that is read -/
theorem call_len_seq : CallR X (.builtin "len") (fun xs H Q => ∃ p ys, xs = [.ref p] ∧ (SqL X.K H p ys ∨ SqT X.K H p ys) ∧ Q (.int ys.length) H) := by
  intro pins s σ H xs us Q I r h
  obtain ⟨p, ys, rfl, hq, q⟩ := h
  obtain ⟨u, rfl, rx⟩ := vals1 r
  cases rx
  have hn := line63
  rcases hq with hq | hq
  · obtain ⟨its, r', pl, hz⟩ := I.list hq
    have hlen := r'.length
    exact Calls.call_len_list pl.isList (by simp only [List.size_toArray] <;> lia) ⟨.int ys.length, H, I.tok _, ⟨s.toks + 1, by rw [List.size_toArray, hlen]⟩, q⟩
  · obtain ⟨its, r', pl, hz⟩ := I.tuple hq
    have hlen := r'.length
    exact len_tuple pl (by simp only [List.size_toArray] <;> lia) ⟨.int ys.length, H, I.tok _, ⟨s.toks + 1, by rw [List.size_toArray, hlen]⟩, q⟩
/-! ### the call of a builtin's method: o.m(..) -/
variable {o e : Expr} {es : List Expr} {to : TE} {t : TA} {name : Str} {apos cpos : Pos} {T id : String} {r : V → List V → Hp → VK → Prop}
end
end L2

namespace L2
open PySem PySem.Spec PyProof.Rows

def MtM (X : Cx) (id : String) (r : V → List V → Hp → VK → Prop) : Prop :=
  ∀ (pins : List (Addr × Obj)) (s : Shared) (σ : St) (H : Hp) (x : V) (xs : List V) (v : Value) (us : List Value) (Q : VK), Inv X pins σ H s → RelV x v → Vals xs us → r x xs H Q →
    wpAny (model X.prog X.w) X.A (call (.builtin id) (v :: us)) (EP X pins σ Q) X.xe s

/-! ### lists of values -/
theorem Vals.one : ∀ {x : V} {us : List Value}, Vals [x] us → ∃ u, us = [u] ∧ RelV x u
  | _, _, .cons r .nil => ⟨_, rfl, r⟩
theorem Vals.two : ∀ {x y : V} {us : List Value}, Vals [x, y] us → ∃ u v, us = [u, v] ∧ RelV x u ∧ RelV y v
  | _, _, _, .cons r (.cons q .nil) => ⟨_, _, rfl, r, q⟩
section
variable {X : Cx} {pins : List (Addr × Obj)} {σ : St} {H : Hp} {s : Shared} {l b : Addr} {xs ys zs : List V}

/-! ### the two steps: a tracked list is rewritten, a new list is laid -/
theorem Inv.lset {its its' : List Value} {n : Nat} {f : Array Value → Array Value} {t' : Nat} (I : Inv X pins σ H s) (hH : H l = some (.lst xs))
    (e : s.heap.get? l = some { cls := .type "list", data := .seq its.toArray n }) (hf : f its.toArray = its'.toArray) (hv : Vals ys its') (hz : ys.length ≤ sizeLine) :
    Inv X pins σ (upd H l (.lst ys)) { s with heap := s.heap.update l (Obj.mapSeq f), toks := t' } := by
  have q := PySem.IsL.update e f
  rw [hf] at q
  refine I.write (x := l) (e := l) (by rw [hH]; exact trivial) (.inl rfl) (fun b' u hb hu => (Heap.get?_update_other s.heap (Obj.mapSeq f) (Ne.symm hb)).trans hu) ⟨_, q⟩ ?_
  exact ⟨hz, its', _, hv, q⟩
theorem Inv.lnew {its : List Value} {t' : Nat} (I : Inv X pins σ H s) (hv : Vals ys its) (hz : ys.length ≤ sizeLine) :
    Inv X pins σ (upd H s.heap.objs.size (.lst ys)) { s with heap := s.heap.push { cls := .type "list", data := .seq its.toArray }, toks := t' } :=
  I.laid (fun _ _ q => Heap.get?_push_of_some _ q) (Nat.le_refl _) ⟨hz, its, 0, hv, Heap.get?_push_size _ rfl⟩
theorem Inv.fresh (I : Inv X pins σ H s) : H s.heap.objs.size = none := I.hok.fresh (Nat.le_refl _)
theorem Inv.lstM (I : Inv X pins σ H s) (hH : H l = some (.lst xs)) : xs.length ≤ sizeLine ∧ ∃ (its : List Value) (n : Nat), Vals xs its ∧ xs.length = its.length ∧ s.heap.get? l = some { cls := .type "list", data := .seq its.toArray n } := by
  obtain ⟨z, its, n, r, e⟩ := I.hok l _ hH
  exact ⟨z, its, n, r, r.length, e⟩

end

section
variable {X : Cx}

/-! ### methods -/
def rAppend : V → List V → Hp → VK → Prop := fun x vs H Q => ∃ l xs y, x = .ref l ∧ vs = [y] ∧ H l = some (.lst xs) ∧ xs.length < sizeLine ∧ Q .non (upd H l (.lst (xs ++ [y])))
theorem mt_append : MtM X "list.append" rAppend := by
  intro pins s σ H x vs v us Q I rx rv h
  obtain ⟨l, xs, y, rfl, rfl, hH, hz, q⟩ := h
  cases rx
  obtain ⟨u, rfl, ru⟩ := rv.one
  obtain ⟨z, its, n, r, hl, e⟩ := I.lstM hH
  refine call_meets F.slot_list_append ⟨_, e, rfl⟩ F.entry_list_append (F.args_list_append_2 _ _) (PySem.list_append l its.toArray n u (by rw [List.size_toArray]; lia)) ⟨e, ?_⟩
  refine ⟨.non, _, I.lset (its' := its ++ [u]) hH e (by simp) (r.append (.cons ru .nil)) ?_, rfl, q⟩
  rw [List.length_append, List.length_singleton]
  lia

/-! ### list + list, list += list, list * int -/
/-! ### del xs[i] -/
end

/-! ### xs[a:b] = ys -/
section
variable {prog : Program} {w : World} {A : Around} {E : Value → Shared → Prop} {s : Shared}
end

section
variable {X : Cx}
end
end L2

namespace Att
open PySem PySem.W PySem.Calls PyProof.Rows

/-! ### the script -/
theorem ints_of_wellAll {P : Params} {h : Heap} : ∀ (ns : List Int) (vs : List Value), WellAll P h vs (ns.map WData.int) → IntsAre vs ns := by
  intro ns
  induction ns with
  | nil =>
    intro vs w
    rw [List.map_nil] at w
    cases w
    exact .nil
  | cons n ns ih =>
    intro vs w
    rw [List.map_cons] at w
    cases w with
    | cons a b =>
      cases a
      exact .cons _ _ (ih _ b)

theorem script_of {l : OpenLaw} {n : Nat} (hn : l.most = some n) {P : Params} {h : Heap} {args : List WData} {vals : List Value}
    (hpre : l.row.toRowW.claim.pre args = true) (hwl : WellAll P h vals args) :
    ∃ a vs ns, vals = [Value.ref a] ∧ args = [WData.list (ns.map WData.int)] ∧ h.get? a = some { cls := .type "list", data := .seq vs.toArray } ∧ IntsAre vs ns ∧ ns.length ≤ n := by
  have hsh : WShape.hasAll [] args [.list .int] = true := (pre_splitW hpre).1
  have hc : l.pre.holds [] { args := args } = true := (pre_splitW hpre).2
  obtain ⟨d, r, rfl, h1, h2⟩ := hasAllW_cons hsh
  obtain rfl := hasAllW_nil h2
  obtain ⟨xs, rfl, h3⟩ := hasW_list h1
  obtain ⟨ns, rfl⟩ := items_int h3
  have hlen : ns.length ≤ n := by
    unfold OpenLaw.pre at hc
    have h4 : (WTm.not (.lt (.lit (.int (n : Int))) (.len (.arg 0)))).holds [] { args := [.list (ns.map .int)] } = true := by
      have h4 := (holds_andW hc).1
      rw [hn] at h4
      exact h4
    have h5 := condW_of h4 (w_not (w_lt w_lit (w_len_list (w_arg rfl))))
    rw [List.length_map] at h5
    refine Nat.le_of_not_lt fun q => ?_
    have q' : (n : Int) < ((ns.length : Nat) : Int) := by lia
    first
      | (rw [decide_eq_true q'] at h5; exact absurd h5 (by decide))
      | (simp at h5; lia)
  cases hwl with
  | cons w1 w2 =>
    cases w2
    cases w1 with
    | list ho hall => exact ⟨_, _, ns, rfl, rfl, ho, ints_of_wellAll ns _ hall, hlen⟩

theorem post_true (l : OpenLaw) (args : List WData) : l.row.toRowW.claim.post args (.bool true) args = true :=
  postW_of (r := l.row.toRowW) (X := (true == true))
    (show WShape.has [] (.bool true) .bool = true by first | rfl | decide | simp [WShape.has, WShape.arms, WShape.armsAll])
    (show (WTm.eq .res (.lit (.bool true))).value [] { args := args, res := some (.bool true), after := args } = some (.bool (true == true)) from w_eq_bool (w_res rfl) w_lit) rfl

/-! ### the attachment: holds_open's last premise (the goal 'hc' behind k_head) from a wpAny of the law's body -/
/-- the same from a codeAny of the CALL (for a layer whose function contracts speak of calls) -/
theorem attach_call {l : OpenLaw} {n : Nat} {q : Program} {loose : List Str} {XP : (Str → Option Value) → Heap → Prop} {YP : World → Heap → Prop} {d : DefRec}
    (hn : l.most = some n) (hdf : d.params.defaults = [])
    (call : ∀ (w : World) (s₀ s₁ : Shared) (mg mb : Str → Option Value) (fa : Addr) (o : Obj) (pm cd doc : Value) (a : Addr) (vs : List Value) (ns : List Int),
      Ground q loose [] XP w s₀ mg mb s₁.heap → YP w s₁.heap →
      s₁.heap.get? fa = some o → o.data = .func (docDef d.name d.params d.body d.scope pm cd doc) → s₁.heap.CodeRec cd d.name → mg d.name = some (.ref fa) →
      s₁.heap.get? a = some { cls := .type "list", data := .seq vs.toArray } → IntsAre vs ns → ns.length ≤ n → s₁.gens = #[] →
      codeAny (model l.prog w) callerA (.call (.ref fa) ⟨[.ref a], []⟩) (fun r s' => r = .ok (.ret (.bool true)) ∧ OldK s₁.heap s'.heap ∧ s'.os = s₁.os ∧ AllBare s'.gens) s₁) :
    WalkO q loose XP YP l.row.toRowW d [] (fun f vs => PySem.call f vs) := by
  intro w s₀ s₁ mg mb G Y fa o pm cd doc dV kV ho hd hcd hD hmg hg args vals as hpre hlay hrd hwl hlo
  obtain rfl : dV = .none := Dflts.none hD hdf
  obtain rfl : kV = .none := Dflts.noKw hD
  obtain ⟨a, vs, ns, rfl, rfl, hobj, hints, hlen⟩ := script_of hn hpre hwl
  refine enter_call (codeAny_mono (call w s₀ s₁ mg mb fa o pm cd doc a vs ns G Y ho (fd_plain hd) hcd hmg hobj hints hlen hg) fun r s' hq => ?_)
  obtain ⟨rfl, h2, h3, h4⟩ := hq
  exact ⟨.inl ⟨.bool true, .bool true, [], rfl, fun _ => rfl, .bool true, post_true l _, fun _ => ⟨List.Pairwise.nil, fun _ hm => (nomatch hm)⟩⟩, h2, h3, h4⟩

/-! ### rules over ANY heap (no ledger) from facts about the written part K: the library's own take a ledger (News) for what they write -/
section
variable {prog : Program} {w : World} {A : Around} {E : Value → Shared → Prop} {s : Shared} {K : Frag}

/-! the whole heap as the ledger: makes every rule that writes through a ledger a rule over any heap -/
def ledger (h : Heap) (L d : Addr) : List (Addr × Obj) := (List.range h.objs.size).filterMap fun a => if a = L ∨ a = d then none else (h.get? a).map fun o => (a, o)
end
end Att

namespace L2
open PySem PySem.Spec PyProof.Rows

theorem vals_ints : ∀ {vs : List Value} {ns : List Int}, IntsAre vs ns → Vals (ns.map V.int) vs
  | _, _, .nil => .nil
  | _, _, .cons n t h => .cons ⟨t, rfl⟩ (vals_ints h)

/-- nothing is tracked but the script, known to the object (or it is an object of the module) -/
def Only (H : Hp) : Prop := ∀ b, H b = none ∨ ∃ o xs, H b = some (.frz o (.lst xs))

/-- THE HEAD: the law's promise, at the heap behind the top. F, the promise of the law's def, may use that base is part of the heap (so K.In base, base.Ns mainGlobals mg stand in Mod) -/
theorem law_call {P : Program} {w : World} {K : PySem.W.Frag} {mg mb : Str → Option Value} {CX : CXT} {k : Nat} {fa a : Addr} {fd : FuncData} {x : Str} {sp : Sp} {s₁ : Shared} {vs : List Value} {ns : List Int}
    (KX : K.In s₁.heap) (hns : s₁.heap.Ns mainGlobals mg) (hb : s₁.heap.Ns builtinsNs mb) (hbb : ∀ x : Str, x ≠ "__name__" → mb x = bootBuiltins x) (hlim : s₁.heap.NoLimit) (hbm : ∃ bm ob, mg "__builtins__" = some (.ref bm) ∧ bm ≠ builtinsNs ∧ s₁.heap.get? bm = some ob ∧ ob.cls = .type "module" ∧ ob.dict = some builtinsNs ∧ ob.data = .plain) (hg : s₁.gens = #[])
    (ha : s₁.heap.get? a = some { cls := .type "list", data := .seq vs.toArray }) (hi : IntsAre vs ns) (hl : ns.length ≤ sizeLine) (hr : Room k callerA)
    (F : ∀ base : Heap, K.In base → base.Ns mainGlobals mg → FnOk P w K mg base CX k fa fd [x] sp) (hbind : ∀ (s : Shared) (u : Value), BindsTo s fd ⟨[u], []⟩ [(x, u)])
    (hsp : ∀ H : Hp, Only H → SqL K H a (ns.map V.int) → sp [.ref a] H (fun v _ => v = .bl true) fun _ _ _ => False)
    (hCX : ∀ H e s', CX [] H s₁ (fun _ _ _ => False) e s' → False) :
    codeAny (model P w) callerA (.call (.ref fa) ⟨[.ref a], []⟩) (fun r s' => r = .ok (.ret (.bool true)) ∧ OldK s₁.heap s'.heap ∧ s'.os = s₁.os ∧ AllBare s'.gens) s₁ := by
  have rv := vals_ints hi
  have lenV := hi.length
  -- from an abstract heap in which nothing but the script may be tracked
  have core : ∀ H : Hp, Only H → SqL K H a (ns.map V.int) → HOk P w H s₁.heap → (∀ b, H b ≠ none → b = a) → (H a ≠ none → K.lookup a = none) →
      codeAny (model P w) callerA (.call (.ref fa) ⟨[.ref a], []⟩) (fun r s' => r = .ok (.ret (.bool true)) ∧ OldK s₁.heap s'.heap ∧ s'.os = s₁.os ∧ AllBare s'.gens) s₁ := by
    intro H hO hS hok hA hK
    have base_of : ∀ {b : Addr} {o : Obj}, s₁.heap.get? b = some o → H b = none → (hidT s₁.heap H).get? b = some o := fun e n => hidT_get e n
    have noA : ∀ {b : Addr} {o : Obj} {es : Array DictEntry} {ep : Nat}, s₁.heap.get? b = some o → o.data = .dict es ep → H b = none := fun {b o es ep} e d => by
      cases q : H b with
      | none => rfl
      | some u =>
        have e' : b = a := hA b (by rw [q]; simp)
        subst e'
        rw [ha] at e; cases e
        have d' : Data.seq vs.toArray _ = Data.dict es ep := d
        cases d'
    have nsK : ∀ {b : Addr} {m : Str → Option Value}, s₁.heap.Ns b m → (hidT s₁.heap H).Ns b m := fun {b m} ⟨o, es, ep, e, d, r⟩ => ⟨o, es, ep, base_of e (noA e d), d, r⟩
    have hKb : K.In (hidT s₁.heap H) := fun b o e => base_of (KX b o e) (by
      cases q : H b with
      | none => rfl
      | some u =>
        have e' : b = a := hA b (by rw [q]; simp)
        subst e'
        rw [hK (by rw [q]; simp)] at e; cases e)
    have hM : Mod K mg (hidT s₁.heap H) := ⟨hKb, nsK hns, ⟨mb, nsK hb, hbb⟩, let ⟨mc, h1, h2⟩ := hlim; ⟨mc, nsK h1, h2⟩, let ⟨bm, ob, e1, e2, e3, e4, e5, e6⟩ := hbm; ⟨bm, ob, e1, e2, base_of e3 (by
      cases q : H bm with
      | none => rfl
      | some u =>
        have e' : bm = a := hA bm (by rw [q]; simp)
        subst e'
        rw [ha] at e3; cases e3; cases e6), e4, e5, e6⟩⟩
    have e0 : Env0 P w K mg (hidT s₁.heap H) callerA [] s₁ H := ⟨rfl, hM, fun b o e => of_hidT e, Nat.le_of_eq (hidT_size _ _), trivial, fun b hb => absurd (show b ∈ ([] : List Addr) from hb) (by simp), hok, .of_eq hg⟩
    refine codeAny_mono ((F _ hKb (nsK hns)).run callerA [] s₁ H ⟨[.ref a], []⟩ [.ref a] [.ref a] _ _ hr e0 (hbind s₁ (.ref a)) (.cons rfl .nil) (hsp H hO hS)) fun r s' h => ?_
    cases r with
    | error e => exact (hCX H e s' h).elim
    | ok fl =>
      cases fl with
      | next => exact False.elim h
      | brk => exact False.elim h
      | cont => exact False.elim h
      | ret u =>
        obtain ⟨v, H', os, bare, un, hok', r', q⟩ := h
        have q' : v = .bl true := q
        subst q'
        obtain rfl : u = Value.bool true := r'
        refine ⟨rfl, OldK.of_keep fun b o e => ?_, os, bare⟩
        cases q : H b with
        | none => exact un.keep b o e q (by intro z; exact absurd (show b ∈ ([] : List Addr) from z) (by simp)) (by simp)
        | some u =>
          rcases hO b with z | ⟨ob, xs, z⟩
          · rw [q] at z; cases z
          · have z2 := un.frzs b ob _ z
            obtain ⟨e1, _⟩ := hok b _ z
            obtain ⟨e2, _⟩ := hok' b _ z2
            rw [e] at e1; cases e1
            exact e2
  cases hk : K.lookup a with
  | some o =>
    -- the script is one of the module's own objects
    have e := KX a o hk
    rw [ha] at e
    cases e
    refine core (fun _ => none) (fun _ => .inl rfl) (.inr ⟨_, vs.toArray, _, hk, rfl, rfl, rfl, by rw [List.size_toArray, lenV]; exact hl, by simpa using rv⟩) (fun b u z => by have z' : (none : Option HO) = some u := z; cases z') (fun b z => absurd rfl z) fun z => absurd rfl z
  | none =>
    refine core (fun b => if b = a then some (.frz { cls := .type "list", data := .seq vs.toArray } (.lst (ns.map V.int))) else none) (fun b => ?_) (.inl (.inr ⟨{ cls := .type "list", data := .seq vs.toArray }, if_pos rfl⟩)) (fun b u z => ?_) (fun b z => ?_) fun _ => hk
    · by_cases hb : b = a
      · exact .inr ⟨_, _, if_pos hb⟩
      · exact .inl (if_neg hb)
    · by_cases hb : b = a
      · have z' := (if_pos hb).symm.trans z
        cases z'
        subst hb
        exact ⟨ha, by rw [List.length_map]; exact hl, vs, _, rv, ha⟩
      · have z' := (if_neg hb).symm.trans z
        cases z'
    · by_cases hb : b = a
      · exact hb
      · exact absurd (if_neg hb) z
end L2

namespace L2
open PySem PySem.Spec PyProof.Rows

abbrev KOf {K : PySem.W.Frag} {h : Heap} (_ : K.In h) : PySem.W.Frag := K

/-- the goal that k_head leaves (case hc), from the law's promise. F gives the function object fd (K's own) once, then the promise over every base -/
theorem walk_of {l : PySem.W.OpenLaw} {n k : Nat} {q : Program} {loose : List Str} {XP : (Str → Option Value) → Heap → Prop} {YP : World → Heap → Prop} {d : DefRec} {K : Params → PySem.W.Frag} {CX : World → CXT} {sp : World → Sp} {x : Str}
    (hn : l.most = some n) (hn2 : n ≤ sizeLine) (hdf : d.params.defaults = []) (hr : Room k callerA)
    (hY : ∀ (w : World) (h : Heap), YP w h → (K w.params).In h)
    (F : ∀ (w : World) (mg : Str → Option Value) (fa : Addr) (h : Heap), (K w.params).In h → h.Ns mainGlobals mg → mg d.name = some (.ref fa) →
      ∃ fd : FuncData, (∀ (s : Shared) (u : Value), BindsTo s fd ⟨[u], []⟩ [(x, u)]) ∧
        ∀ base : Heap, (K w.params).In base → base.Ns mainGlobals mg → FnOk l.prog w (K w.params) mg base (CX w) k fa fd [x] (sp w))
    (hsp : ∀ (w : World) (H : Hp) (a : Addr) (ns : List Int), ns.length ≤ n → Only H → SqL (K w.params) H a (ns.map V.int) → sp w [.ref a] H (fun v _ => v = .bl true) fun _ _ _ => False)
    (hCX : ∀ (w : World) (H : Hp) (s : Shared) (e : Value) (s' : Shared), CX w [] H s (fun _ _ _ => False) e s' → False) :
    PySem.W.WalkO q loose XP YP l.row.toRowW d [] (fun f vs => PySem.call f vs) := by
  refine Att.attach_call hn hdf fun w s₀ s₁ mg mb fa o pm cd doc a vs ns G Y ho hd hcd hmg hobj hints hlen hg => ?_
  have KX := hY w _ Y
  obtain ⟨fd, hb, hF⟩ := F w mg fa _ KX G.T.g hmg
  exact law_call KX G.T.g G.T.b G.T.builtins G.T.nolimit G.T.bmain hg hobj hints (Nat.le_trans hlen hn2) hr hF hb (fun H hO hS => hsp w H a ns hlen hO hS) fun H e s' => hCX w H s₁ e s'
end L2

/- THE LAST THEOREM (shape; LID, My.* are yours):
   My.Adr: a structure of the addresses that your layer names (classes, functions); My.Txt K t: a structure (Prop) of the equations over K;
   My.txt_mk : {K} {implicit addresses ..} (e1 : nsIn K mainGlobals "law" = some (some (.ref f))) (e2 : K.lookup f = some ⟨oc, od, .func (fnOf "law" "law" params body scope dV kV doc pm an cdv ct), sl⟩) (e3 : codeIn K cdv "law" = true) .. : ∃ t, My.Txt K t

set_option maxRecDepth 100000 in
set_option maxHeartbeats 0 in
theorem PySem.Challenge.cw_LID_holds : PySem.Challenge.rw_LID.Holds := by
  w_on; o_law; k_head; (case hw => w_witness2)
  k_fill
  refine L2.walk_of (l := PySem.Challenge.rw_LID) (n := 63) (k := 40) (x := "script") (CX := fun w => ..) (sp := fun _ => My.sp_law) rfl (by decide) rfl ⟨rfl, by decide, by decide⟩ (fun w h Y => PySem.W.kIn_of Y) ?F ?S ?C
  case F =>
    intro w mg fa h KX G hmg
    have T : ∃ t, My.Txt (L2.KOf KX) t := by
      dsimp only [L2.KOf]                          -- K must stand as «<heap const> w.params» for k_is
      refine' My.txt_mk ?e1 ?e2 ?e3 ..
      (case e1 => PySem.W.k_is)                    -- in the order: a name -> its address -> its object -> its parts
      (case e2 => PySem.W.k_is)
      ..
    obtain ⟨t, T⟩ := T
    have e0 := hmg.symm.trans (PySem.W.mg_of KX G T.law)
    cases e0                                       -- fa is the law's own address
    exact ⟨_, fun s u => .of_eq rfl, fun base kb nb => My.law_fn T kb nb⟩     -- if «.of_eq rfl» comes too early: refine' ⟨_, ?b, fun base kb nb => My.law_fn T kb nb⟩; exact fun s u => .of_eq rfl
  case S => exact fun w H a ns hl hO hS => ..
  case C => exact ..
(the tactic k_is has no namespace: write k_is) -/

/-! SHORT WORDS over the layer: a def of the text, its body, what a loop and a test want. -/
namespace L2
open PySem PySem.Spec PyProof.Rows

/-! ### the text by places -/
def defArgs (s : Stmt) : Arguments := match s with
  | .FunctionDef _ a _ _ _ _ _ _ _ _ => a
  | _ => { posonlyargs := [], args := [], vararg := none, kwonlyargs := [], kw_defaults := [], kwarg := none, defaults := [] }
def defBody (s : Stmt) : List Stmt := match s with
  | .FunctionDef _ _ b _ _ _ _ _ _ _ => b
  | _ => []
def defScope (s : Stmt) : Scope := match s with
  | .FunctionDef _ _ _ _ _ _ sc _ _ _ => sc
  | _ => { kind := .function, names := [], isGenerator := false, isCoroutine := false }

/-! ### no exception leaves a def -/
/-! ### a def (or method) of the text as it stands behind the top -/
structure Fun (K : PySem.W.Frag) (x qual : Str) (st : Stmt) (f : Addr) (fd : FuncData) : Prop where
  ex : ∃ (oc : Value) (od : Option Addr) (kV doc pm : Value) (an : Option Addr) (cdv ct : Value) (osl : Array (Option Value)),
    fd = PySem.W.fnOf x qual (defArgs st) (defBody st) (defScope st) .none kV doc pm an cdv ct ∧ K.lookup f = some ⟨oc, od, .func fd, osl⟩ ∧ PySem.W.codeIn K cdv qual = true
  kp : PySem.W.keepIn K (.ref f) = true
section
variable {P : Program} {w : World} {K : PySem.W.Frag} {mg : Str → Option Value} {base : Heap}
/-- how its arguments bind (no defaults): h is «fun _ _ _ _ _ _ us hl => match us, hl with | [_, _], _ => rfl», one _ a parameter -/
theorem Fun.binds {x qual : Str} {st : Stmt} {f : Addr} {fd : FuncData} {ps : List Str} (F : Fun K x qual st f fd)
    (h : ∀ (kV doc pm : Value) (an : Option Addr) (cdv ct : Value) (us : List Value), us.length = ps.length → bindArgs (PySem.W.fnOf x qual (defArgs st) (defBody st) (defScope st) .none kV doc pm an cdv ct) ⟨us, []⟩ = pure (ps.zip us)) : Binds K fd ps [] := by
  obtain ⟨oc, od, kV, doc, pm, an, cdv, ct, osl, rfl, lk, hcd⟩ := F.ex
  exact .all (h kV doc pm an cdv ct)
theorem fun_mk {x qual : Str} {st : Stmt} {f : Addr} {oc : Value} {od an : Option Addr} {osl : Array (Option Value)} {kV doc pm cdv ct : Value} (l : K.lookup f = some ⟨oc, od, .func (PySem.W.fnOf x qual (defArgs st) (defBody st) (defScope st) .none kV doc pm an cdv ct), osl⟩)
    (c : PySem.W.codeIn K cdv qual = true) (k : PySem.W.keepIn K (.ref f) = true) : Fun K x qual st f (PySem.W.fnOf x qual (defArgs st) (defBody st) (defScope st) .none kV doc pm an cdv ct) := ⟨⟨oc, od, kV, doc, pm, an, cdv, ct, osl, rfl, l, c⟩, k⟩
end
theorem small1000 {n : Nat} (h : n ≤ 1000) : n < sizeLine := Nat.lt_of_le_of_lt h (by decide)

/-! ### expressions in short: the name that stands in the i-th slot -/
section
variable {X : Cx}
end

/-! ### tests -/
/-! ### heaps -/
/-- all that was tracked is as it was -/
def Same (H H' : Hp) : Prop := ∀ b o, H b = some o → H' b = some o
theorem Same.refl (H : Hp) : Same H H := fun _ _ h => h
theorem Same.trans {H H1 H2 : Hp} (a : Same H H1) (b : Same H1 H2) : Same H H2 := fun c o h => b c o (a c o h)
theorem Same.free {H H' : Hp} (e : Same H H') {l : Addr} (h : H' l = Option.none) : H l = Option.none := by
  cases q : H l with
  | none => rfl
  | some o =>
    rw [e l o q] at h
    cases h
theorem Same.seq {K : PySem.W.Frag} {H H' : Hp} {a : Addr} {xs : List V} (e : Same H H') (h : SqL K H a xs) : SqL K H' a xs := by
  rcases h with (h | ⟨o, h⟩) | h
  · exact .inl (.inl (e _ _ h))
  · exact .inl (.inr ⟨o, e _ _ h⟩)
  · exact .inr h

end L2

set_option Elab.async false
set_option linter.all false
set_option maxRecDepth 100000
set_option maxHeartbeats 4000000
/-! THE VALUE LAYER: what an expression, a statement, a def of the text is worth, as a plain function over data without a heap. -/
namespace Vl
open PySem PySem.Spec L2

inductive D where
  | non | bl (b : Bool) | int (i : Int) | str (x : Str) | tup (xs : List D) | lst (xs : List D) | exn (c : Str) (n : Int) | dic (ks : List (List Int)) (ds : List D) | fn (x : Str) | obj (c : Str) (ns : List Str) (ds : List D)

/-- an exception of the class at C; dx: its dict, if it has an attribute -/
def ExnAt (a C : Addr) (dx : Option Addr) : Heap → Prop := fun h => ∃ o vs, h.get? a = some o ∧ o.cls = .ref C ∧ o.data = .fields vs ∧ ∀ d, dx = some d → o.dict = some d
/-- what an own class of exceptions calls its number -/
def attrOf (c : Str) : Str := if c = "NoText" then "at" else "place"
/-- n = 0: no attribute; n = 2 i + 1: the number i -/
def XDat (G : Hp) (c : Str) (dx : Option Addr) (n : Int) : Prop := n = 0 ∨ ∃ d i, n = 2 * i + 1 ∧ dx = some d ∧ G d = some (.xd [(attrOf c, .int i)])
theorem XDat.mono {G G' : Hp} (e : Same G G') {c : Str} {dx : Option Addr} {n : Int} (h : XDat G c dx n) : XDat G' c dx n := h.imp id fun ⟨d, i, h1, h2, h3⟩ => ⟨d, i, h1, h2, e _ _ h3⟩

def UG (K : PySem.W.Frag) (G : Hp) : Addr → List Int → Prop := fun b ks => SqT K G b (ks.map V.int)
def keyHash (ks : List Int) : Int := reduceHash (Builtin.Tuple.tupleHashOf (ks.map hashInt))
def DicH (U : Addr → List Int → Prop) (a : Addr) (kvs : List (List Int × V)) : Heap → Prop := fun h => ∃ (o : Obj) (es : Array DictEntry) (ep : Nat) (xs : List (List Int × Addr × Value)), h.get? a = some o ∧ o.ExactDict ∧ o.data = .dict es ep ∧ (a == sysModules) = false ∧
  es.toList = xs.map (fun x => ⟨keyHash x.1, .ref x.2.1, x.2.2⟩) ∧ (xs.map (·.1)).Nodup ∧ Paired (fun (p : List Int × V) (q : List Int × Addr × Value) => p.1 = q.1 ∧ U q.2.1 q.1 ∧ RelV p.2 q.2.2) kvs xs
/-- such a dict lies there and stays as it is -/
def PinAt (G : Hp) (a : Addr) (U : Addr → List Int → Prop) (kvv : List (List Int × V)) : Prop := ∃ o, G a = some (.ext fun h => h.get? a = some o ∧ DicH U a kvv h)
theorem PinAt.mono {G G' : Hp} {a : Addr} {U : Addr → List Int → Prop} {kvv : List (List Int × V)} (e : Same G G') (h : PinAt G a U kvv) : PinAt G' a U kvv := let ⟨o, q⟩ := h; ⟨o, e _ _ q⟩
mutual
def Rep (K : PySem.W.Frag) (G : Hp) : D → V → Prop
  | .non, v => v = .non
  | .bl b, v => v = .bl b
  | .int i, v => v = .int i
  | .str x, v => v = .str x
  | .tup ds, v => ∃ a vs, v = .ref a ∧ SqT K G a vs ∧ Reps K G ds vs
  | .lst ds, v => ∃ a vs, v = .ref a ∧ SqL K G a vs ∧ Reps K G ds vs
  | .exn c n, v => ∃ a C dx, v = .ref a ∧ PySem.W.nsIn K mainGlobals c = some (some (.ref C)) ∧ G a = some (.ext (ExnAt a C dx)) ∧ XDat G c dx n
  | .dic ks ds, v => ∃ a U kvv, v = .ref a ∧ PinAt G a U kvv ∧ (∀ b js, U b js → UG K G b js) ∧ kvv.map (·.1) = ks ∧ Reps K G ds (kvv.map (·.2))
  | .fn x, v => ∃ a o fd, v = .ref a ∧ PySem.W.nsIn K mainGlobals x = some (some (.ref a)) ∧ K.lookup a = some o ∧ o.data = .func fd
  | .obj c ns ds, v => ∃ a C dx us, v = .ref a ∧ PySem.W.nsIn K mainGlobals c = some (some (.ref C)) ∧ G a = some (.ins C dx (ns.zip us)) ∧ G dx = some (.own a) ∧ us.length = ns.length ∧ Reps K G ds us
def Reps (K : PySem.W.Frag) (G : Hp) : List D → List V → Prop
  | [], vs => vs = []
  | d :: ds, vs => ∃ v vs', vs = v :: vs' ∧ Rep K G d v ∧ Reps K G ds vs'
end

theorem Same.seqT {K : PySem.W.Frag} {H H' : Hp} {a : Addr} {xs : List V} (e : Same H H') (h : SqT K H a xs) : SqT K H' a xs := by
  rcases h with (h | ⟨o, h⟩) | h
  · exact .inl (.inl (e _ _ h))
  · exact .inl (.inr ⟨o, e _ _ h⟩)
  · exact .inr h

mutual
theorem Rep.mono {K : PySem.W.Frag} {G G' : Hp} (e : Same G G') : ∀ {d : D} {v : V}, Rep K G d v → Rep K G' d v
  | .non, _, h => by simp only [Rep] at h ⊢; exact h
  | .bl _, _, h => by simp only [Rep] at h ⊢; exact h
  | .int _, _, h => by simp only [Rep] at h ⊢; exact h
  | .str _, _, h => by simp only [Rep] at h ⊢; exact h
  | .tup ds, _, h => by
    simp only [Rep] at h ⊢
    obtain ⟨a, vs, e1, h1, h2⟩ := h
    exact ⟨a, vs, e1, Same.seqT e h1, Reps.mono e h2⟩
  | .lst ds, _, h => by
    simp only [Rep] at h ⊢
    obtain ⟨a, vs, e1, h1, h2⟩ := h
    exact ⟨a, vs, e1, e.seq h1, Reps.mono e h2⟩
  | .exn c n, _, h => by
    simp only [Rep] at h ⊢
    obtain ⟨a, C, dx, e1, h1, h2, h3⟩ := h
    exact ⟨a, C, dx, e1, h1, e _ _ h2, h3.mono e⟩
  | .fn x, _, h => by simp only [Rep] at h ⊢; exact h
  | .obj c ns ds, _, h => by
    simp only [Rep] at h ⊢
    obtain ⟨a, C, dx, us, e1, h1, h2, h3, h4, h5⟩ := h
    exact ⟨a, C, dx, us, e1, h1, e _ _ h2, e _ _ h3, h4, Reps.mono e h5⟩
  | .dic ks ds, _, h => by
    simp only [Rep] at h ⊢
    obtain ⟨a, U, kvv, e1, h1, h2, h3, h4⟩ := h
    exact ⟨a, U, kvv, e1, h1.mono e, fun b js q => Same.seqT e (h2 b js q), h3, Reps.mono e h4⟩
theorem Reps.mono {K : PySem.W.Frag} {G G' : Hp} (e : Same G G') : ∀ {ds : List D} {vs : List V}, Reps K G ds vs → Reps K G' ds vs
  | [], _, h => by simp only [Reps] at h ⊢; exact h
  | d :: ds, _, h => by
    simp only [Reps] at h ⊢
    obtain ⟨v, vs', e1, h1, h2⟩ := h
    exact ⟨v, vs', e1, Rep.mono e h1, Reps.mono e h2⟩
end

section
variable {K : PySem.W.Frag} {G : Hp}
theorem rep_int {i : Int} {v : V} : Rep K G (.int i) v ↔ v = .int i := by simp only [Rep]
theorem rep_bl {i : Bool} {v : V} : Rep K G (.bl i) v ↔ v = .bl i := by simp only [Rep]
theorem rep_non {v : V} : Rep K G .non v ↔ v = .non := by simp only [Rep]
theorem rep_str {x : Str} {v : V} : Rep K G (.str x) v ↔ v = .str x := by simp only [Rep]
theorem rep_tup {ds : List D} {v : V} : Rep K G (.tup ds) v ↔ ∃ a vs, v = .ref a ∧ SqT K G a vs ∧ Reps K G ds vs := by simp only [Rep]
theorem rep_lst {ds : List D} {v : V} : Rep K G (.lst ds) v ↔ ∃ a vs, v = .ref a ∧ SqL K G a vs ∧ Reps K G ds vs := by simp only [Rep]
theorem rep_exn {c : Str} {n : Int} {v : V} : Rep K G (.exn c n) v ↔ ∃ a C dx, v = .ref a ∧ PySem.W.nsIn K mainGlobals c = some (some (.ref C)) ∧ G a = some (.ext (ExnAt a C dx)) ∧ XDat G c dx n := by simp only [Rep]
theorem rep_fn {x : Str} {v : V} : Rep K G (.fn x) v ↔ ∃ a o fd, v = .ref a ∧ PySem.W.nsIn K mainGlobals x = some (some (.ref a)) ∧ K.lookup a = some o ∧ o.data = .func fd := by simp only [Rep]
theorem rep_obj {c : Str} {ns : List Str} {ds : List D} {v : V} : Rep K G (.obj c ns ds) v ↔ ∃ a C dx us, v = .ref a ∧ PySem.W.nsIn K mainGlobals c = some (some (.ref C)) ∧ G a = some (.ins C dx (ns.zip us)) ∧ G dx = some (.own a) ∧ us.length = ns.length ∧ Reps K G ds us := by simp only [Rep]
theorem rep_dic {ks : List (List Int)} {ds : List D} {v : V} : Rep K G (.dic ks ds) v ↔ ∃ a U kvv, v = .ref a ∧ PinAt G a U kvv ∧ (∀ b js, U b js → UG K G b js) ∧ kvv.map (·.1) = ks ∧ Reps K G ds (kvv.map (·.2)) := by simp only [Rep]
theorem reps_nil {vs : List V} : Reps K G [] vs ↔ vs = [] := by simp only [Reps]
theorem reps_cons {d : D} {ds : List D} {vs : List V} : Reps K G (d :: ds) vs ↔ ∃ v vs', vs = v :: vs' ∧ Rep K G d v ∧ Reps K G ds vs' := by simp only [Reps]
theorem Reps.length : ∀ {ds : List D} {vs : List V}, Reps K G ds vs → ds.length = vs.length
  | [], _, h => by rw [reps_nil.mp h]; rfl
  | d :: ds, _, h => by
    obtain ⟨v, vs', rfl, _, h2⟩ := reps_cons.mp h
    simp [Reps.length h2]
theorem Reps.get : ∀ {ds : List D} {vs : List V} {i : Nat} {d : D}, Reps K G ds vs → ds[i]? = some d → ∃ v, vs[i]? = some v ∧ Rep K G d v
  | [], _, _, _, h, e => by simp at e
  | d :: ds, _, i, x, h, e => by
    obtain ⟨v, vs', rfl, h1, h2⟩ := reps_cons.mp h
    cases i with
    | zero => simp at e; subst e; exact ⟨v, by simp, h1⟩
    | succ i => obtain ⟨u, q1, q2⟩ := Reps.get (i := i) h2 (by simpa using e); exact ⟨u, by simpa using q1, q2⟩
theorem Reps.get' : ∀ {ds : List D} {vs : List V} {i : Nat} {v : V}, Reps K G ds vs → vs[i]? = some v → ∃ d, ds[i]? = some d ∧ Rep K G d v
  | [], _, _, _, h, e => by rw [reps_nil.mp h] at e; simp at e
  | d :: ds, _, i, x, h, e => by
    obtain ⟨v, vs', rfl, h1, h2⟩ := reps_cons.mp h
    cases i with
    | zero => simp at e; subst e; exact ⟨d, by simp, h1⟩
    | succ i => obtain ⟨u, q1, q2⟩ := Reps.get' (i := i) h2 (by simpa using e); exact ⟨u, by simpa using q1, q2⟩
theorem Reps.append : ∀ {ds es : List D} {vs us : List V}, Reps K G ds vs → Reps K G es us → Reps K G (ds ++ es) (vs ++ us)
  | [], _, _, _, h, h' => by rw [reps_nil.mp h]; exact h'
  | d :: ds, _, _, _, h, h' => by
    obtain ⟨v, vs', rfl, h1, h2⟩ := reps_cons.mp h
    exact reps_cons.mpr ⟨v, _, rfl, h1, Reps.append h2 h'⟩
theorem Reps.one {d : D} {v : V} (h : Rep K G d v) : Reps K G [d] [v] := reps_cons.mpr ⟨v, [], rfl, h, reps_nil.mpr rfl⟩
theorem Reps.drop : ∀ {ds : List D} {vs : List V} (n : Nat), Reps K G ds vs → Reps K G (ds.drop n) (vs.drop n)
  | ds, vs, 0, h => by simpa using h
  | [], _, n + 1, h => by rw [reps_nil.mp h]; simpa using reps_nil.mpr rfl
  | d :: ds, _, n + 1, h => by
    obtain ⟨v, vs', rfl, h1, h2⟩ := reps_cons.mp h
    simpa using Reps.drop n h2
theorem Reps.take : ∀ {ds : List D} {vs : List V} (n : Nat), Reps K G ds vs → Reps K G (ds.take n) (vs.take n)
  | ds, vs, 0, h => by simpa using reps_nil.mpr rfl
  | [], _, n + 1, h => by rw [reps_nil.mp h]; simpa using reps_nil.mpr rfl
  | d :: ds, _, n + 1, h => by
    obtain ⟨v, vs', rfl, h1, h2⟩ := reps_cons.mp h
    simpa using reps_cons.mpr ⟨v, _, rfl, h1, Reps.take n h2⟩
theorem reps_ints (ns : List Int) : Reps K G (ns.map D.int) (ns.map V.int) := by
  induction ns with
  | nil => exact reps_nil.mpr rfl
  | cons n ns ih => exact reps_cons.mpr ⟨_, _, rfl, rep_int.mpr rfl, ih⟩
end

/-! ### results -/
inductive Rs (α : Type) where
  | ok (a : α) | ex (c : Str) (n : Int) | no
def Rs.bind {α β : Type} : Rs α → (α → Rs β) → Rs β
  | .ok a, k => k a
  | .ex c n, _ => .ex c n
  | .no, _ => .no

inductive Sl where
  | no | fz (d : D) | ow (ds : List D) | od (kvs : List (List Int × D)) | op (ds : List D)
/-- a thing of one's own -/
def Sl.own : Sl → Bool
  | .ow _ => true
  | .od _ => true
  | .op _ => true
  | _ => false
/-! dicts whose keys are int tuples -/
inductive KReps (K : PySem.W.Frag) (G : Hp) : List (List Int × D) → List (List Int × V) → Prop
  | nil : KReps K G [] []
  | cons {k : List Int} {d : D} {v : V} {kvs : List (List Int × D)} {kvv : List (List Int × V)} : Rep K G d v → KReps K G kvs kvv → KReps K G ((k, d) :: kvs) ((k, v) :: kvv)
theorem KReps.mono {K : PySem.W.Frag} {G G' : Hp} (e : Same G G') {kvs : List (List Int × D)} {kvv : List (List Int × V)} (h : KReps K G kvs kvv) : KReps K G' kvs kvv := by
  induction h with
  | nil => exact .nil
  | cons r _ ih => exact .cons (r.mono e) ih
/-- the thing at a is the slot's own -/
def OwnAt (K : PySem.W.Frag) (G : Hp) (a : Addr) : Sl → HO → Prop
  | .ow ds, o => ∃ vs, o = .lst vs ∧ Reps K G ds vs
  | .op ds, o => ∃ vs, o = .lst vs ∧ Reps K G ds vs
  | .od kvs, o => ∃ U kvv, o = .ext (DicH U a kvv) ∧ (∀ b ks, U b ks → UG K G b ks) ∧ KReps K G kvs kvv
  | _, _ => False
theorem OwnAt.mono {K : PySem.W.Frag} {G G' : Hp} (e : Same G G') {a : Addr} {z : Sl} {o : HO} (h : OwnAt K G a z o) : OwnAt K G' a z o := by
  cases z with
  | ow ds => obtain ⟨vs, h1, h2⟩ := h; exact ⟨vs, h1, h2.mono e⟩
  | od kvs => obtain ⟨U, kvv, h1, h2, h3⟩ := h; exact ⟨U, kvv, h1, fun b ks q => Same.seqT e (h2 b ks q), h3.mono e⟩
  | op ds => obtain ⟨vs, h1, h2⟩ := h; exact ⟨vs, h1, h2.mono e⟩
  | _ => exact h.elim
abbrev Rho := List Sl
/-- the heaps at the entry, the address of the list that the caller lends -/
structure Bs where
  g : Hp
  h : Hp
  p : Addr
abbrev Wi := Str → Int → St → Hp → Prop
/-- a def whose last row is a call that a lambda is handed to -/
def lamBody (fd : FuncData) : Bool := match fd.body with
  | .stmts ss => (match ss.getLast? with
    | some (.Return (some (.Call _ _ (k :: _) _)) _) => (match k.value with | .Lambda _ _ _ _ => true | _ => false)
    | _ => false)
  | _ => false
/-- their codes' tables, and what their lambdas are called -/
def lamT (K : PySem.W.Frag) : List (Addr × Str) := K.filterMap fun p => match p.2.data with
  | .func fd => if lamBody fd then (match fd.code with
    | .ref c => (match K.lookup c with
      | some oc => (match oc.data with | .fields vs => (match (vs[11]? : Option Value) with | some (.ref P) => some (P, fd.qualname ++ (".<locals>.<lambda>" : Str)) | _ => none) | _ => none)
      | none => none)
    | _ => none) else none
  | _ => none
def Cok (K : PySem.W.Frag) (H : Hp) : Prop := ∀ x ∈ lamT K, H x.1 = some (.tab x.2)
theorem Cok.same {K : PySem.W.Frag} {H H' : Hp} (h : Cok K H) (e : Same H H') : Cok K H' := fun x m => e _ _ (h x m)
theorem Cok.upd {K : PySem.W.Frag} {H : Hp} {a : Addr} {o u : HO} (h : Cok K H) (e : H a = some u) (n : ∀ q, u ≠ .tab q) : Cok K (upd H a o) := fun x m => by
  have := h x m
  rw [upd_ne (fun z => by subst z; rw [e] at this; exact n _ (Option.some.inj this))]
  exact this
structure Ext (G H G' H' : Hp) : Prop where
  gg : Same G G'
  hh : Same H H'
  gh : Same G' H'
  tp : ∀ a xs, H' a = some (.tup xs) → G' a = some (.tup xs)
  nw : ∀ b o, H b = some o → G b = none → G' b = none
theorem Ext.trans {G H G1 H1 G2 H2 : Hp} (a : Ext G H G1 H1) (b : Ext G1 H1 G2 H2) : Ext G H G2 H2 :=
  ⟨a.gg.trans b.gg, a.hh.trans b.hh, b.gh, b.tp, fun c o h n => b.nw c o (a.hh c o h) (a.nw c o h n)⟩
theorem Ext.refl {G H : Hp} (gh : Same G H) (tp : ∀ a xs, H a = some (.tup xs) → G a = some (.tup xs)) : Ext G H G H := ⟨.refl _, .refl _, gh, tp, fun _ _ _ n => n⟩

structure SR (K : PySem.W.Frag) (B : Bs) (σ : St) (H : Hp) (ρ : Rho) (G : Hp) : Prop where
  en : Ext B.1 B.2 G H
  len : ρ.length = σ.length
  fz : ∀ (i : Nat) (d : D), ρ[i]? = some (.fz d) → ∃ v, σ[i]? = some (some v) ∧ Rep K G d v
  own : ∀ (i : Nat) (z : Sl), ρ[i]? = some z → z.own = true → ∃ a o, σ[i]? = some (some (.ref a)) ∧ H a = some o ∧ G a = none ∧ B.2 a = none ∧ OwnAt K G a z o
  ap : ∀ (i j : Nat) (z z' : Sl) (a : Addr), ρ[i]? = some z → z.own = true → ρ[j]? = some z' → z'.own = true → σ[i]? = some (some (.ref a)) → σ[j]? = some (some (.ref a)) → i = j
  tie : ∀ (i : Nat) (ds : List D) (a : Addr), ρ[i]? = some (.op ds) → σ[i]? = some (some (.ref a)) → a = B.3
  co : Cok K H
structure Ex0 (K : PySem.W.Frag) (G H : Hp) : Prop extends Ext G H G H where
  co : Cok K H
section
variable {K : PySem.W.Frag} {B : Bs} {σ : St} {H H' G G' : Hp} {ρ : Rho}
theorem SR.ext0 (h : SR K B σ H ρ G) : Ext G H G H := .refl h.en.gh h.en.tp
theorem SR.ext (h : SR K B σ H ρ G) (e : Ext G H G' H') : SR K B σ H' ρ G' where
  en := h.en.trans e
  len := h.len
  fz := fun i d q => let ⟨v, h1, h2⟩ := h.fz i d q; ⟨v, h1, h2.mono e.gg⟩
  own := fun i z q w => let ⟨a, o, h1, h2, h3, h4, h5⟩ := h.own i z q w; ⟨a, o, h1, e.hh _ _ h2, e.nw _ _ h2 h3, h4, h5.mono e.gg⟩
  ap := h.ap
  tie := h.tie
  co := h.co.same e.hh
theorem SR.ex0 (h : SR K B σ H ρ G) : Ex0 K G H := ⟨h.ext0, h.co⟩
theorem SR.set (h : SR K B σ H ρ G) {i : Nat} {d : D} {v : V} (r : Rep K G d v) : SR K B (σ.set i (some v)) H (ρ.set i (.fz d)) G where
  en := h.en
  len := by simp [h.len]
  fz := fun j d' q => by
    by_cases e : i = j
    · subst e
      have hl : i < ρ.length := by
        have := (List.getElem?_eq_some_iff.mp q).1; simpa using this
      rw [List.getElem?_set_self hl] at q
      cases q
      exact ⟨v, List.getElem?_set_self (by rw [← h.len]; exact hl), r⟩
    · rw [List.getElem?_set_ne e] at q
      rw [List.getElem?_set_ne e]
      exact h.fz j d' q
  own := fun j z q w => by
    by_cases e : i = j
    · subst e
      have hl : i < ρ.length := by
        have := (List.getElem?_eq_some_iff.mp q).1; simpa using this
      rw [List.getElem?_set_self hl] at q
      cases q; cases w
    · rw [List.getElem?_set_ne e] at q
      rw [List.getElem?_set_ne e]
      exact h.own j z q w
  ap := fun j k z z' a q1 w1 q2 w2 q3 q4 => by
    have ne : ∀ (l : Nat) (z : Sl), (ρ.set i (.fz d))[l]? = some z → z.own = true → i ≠ l := fun l z q w e => by
      subst e
      have hl : i < ρ.length := by
        have := (List.getElem?_eq_some_iff.mp q).1; simpa using this
      rw [List.getElem?_set_self hl] at q
      cases q; cases w
    have n1 := ne j z q1 w1
    have n2 := ne k z' q2 w2
    rw [List.getElem?_set_ne n1] at q1 q3
    rw [List.getElem?_set_ne n2] at q2 q4
    exact h.ap j k z z' a q1 w1 q2 w2 q3 q4
  tie := fun j ds a q1 q2 => by
    have e : i ≠ j := fun e => by
      subst e
      have hl : i < ρ.length := by
        have := (List.getElem?_eq_some_iff.mp q1).1; simpa using this
      rw [List.getElem?_set_self hl] at q1
      cases q1
    rw [List.getElem?_set_ne e] at q1 q2
    exact h.tie j ds a q1 q2
  co := h.co
theorem ext_lst (gh : Same G H) (tp : ∀ a xs, H a = some (.tup xs) → G a = some (.tup xs)) {p : Addr} {xs : List V} (hp : H p = none) : Ext G H (upd G p (.lst xs)) (upd H p (.lst xs)) where
  gg := fun b o e => by rw [upd_ne (ne_of_none (gh _ _ e) hp)]; exact e
  hh := fun b o e => by rw [upd_ne (ne_of_none e hp)]; exact e
  gh := fun b o e => by
    by_cases q : b = p
    · subst q; rw [upd_same] at e ⊢; exact e
    · rw [upd_ne q] at e ⊢; exact gh _ _ e
  tp := fun b ys e => by
    by_cases q : b = p
    · subst q; rw [upd_same] at e; cases e
    · rw [upd_ne q] at e ⊢; exact tp _ _ e
  nw := fun b o e n => by rw [upd_ne (ne_of_none e hp)]; exact n
theorem ext_own (gh : Same G H) (tp : ∀ a xs, H a = some (.tup xs) → G a = some (.tup xs)) {p : Addr} {xs : List V} (hp : H p = none) : Ext G H G (upd H p (.lst xs)) where
  gg := .refl _
  hh := fun b o e => by rw [upd_ne (ne_of_none e hp)]; exact e
  gh := fun b o e => by rw [upd_ne (ne_of_none (gh _ _ e) hp)]; exact gh _ _ e
  tp := fun b ys e => by
    by_cases q : b = p
    · subst q; rw [upd_same] at e; cases e
    · rw [upd_ne q] at e; exact tp _ _ e
  nw := fun b o e n => n
end

/-! ### expressions -/
def Post (K : PySem.W.Frag) (W : Wi) (σ : St) (G H : Hp) (r : Rs D) (Q : VK) : Prop :=
  match r with
  | .ok d => ∀ v H' G', Ext G H G' H' → Rep K G' d v → Q v H'
  | .ex c n => ∀ H' G', Ext G H G' H' → W c n σ H'
  | .no => False
def tF (K : PySem.W.Frag) (B : Bs) (W : Wi) (f : Rho → Rs D) : TE := fun σ H Q => ∃ ρ G, SR K B σ H ρ G ∧ Post K W σ G H (f ρ) Q
/-- an expression is worth f -/
def SE (X : Cx) (B : Bs) (W : Wi) (e : Expr) (f : Rho → Rs D) : Prop := PE X e (tF X.K B W f)

theorem PE.imp {X : Cx} {e : Expr} {t t' : TE} (h : PE X e t) (i : ∀ σ H Q, t' σ H Q → t σ H Q) : PE X e t' := fun pins s σ H Q I q => h pins s σ H Q I (i σ H Q q)
theorem PT.imp {X : Cx} {e : Expr} {t t' : TT} (h : PT X e t) (i : ∀ σ H Q, t' σ H Q → t σ H Q) : PT X e t' := fun pins s σ H Q I q => h pins s σ H Q I (i σ H Q q)
theorem PA.imp {X : Cx} {e : List Expr} {t t' : TA} (h : PA X e t) (i : ∀ σ H Q, t' σ H Q → t σ H Q) : PA X e t' := fun pos pins s σ H Q I q => h pos pins s σ H Q I (i σ H Q q)
theorem PS.imp {X : Cx} {e : Stmt} {t t' : TS} (h : PS X e t) (i : ∀ De σ H, t' De σ H → t De σ H) : PS X e t' := fun pins s σ H De I q => h pins s σ H De I (i De σ H q)
theorem PSs.imp {X : Cx} {e : List Stmt} {t t' : TS} (h : PSs X e t) (i : ∀ De σ H, t' De σ H → t De σ H) : PSs X e t' := fun pins s σ H De I q => h pins s σ H De I (i De σ H q)

section
variable {X : Cx} {K : PySem.W.Frag} {B : Bs} {W : Wi} {σ : St} {G H : Hp} {ρ : Rho} {Q Q' : VK}
theorem Post.mono {r : Rs D} (h : Post K W σ G H r Q) (i : ∀ v H', Q v H' → Q' v H') : Post K W σ G H r Q' := by
  cases r with
  | ok d => exact fun v H' G' e r => i _ _ (h v H' G' e r)
  | ex c n => exact h
  | no => exact h
theorem Post.ext {r : Rs D} {G' H' : Hp} (e : Ext G H G' H') (h : Post K W σ G H r Q) : Post K W σ G' H' r Q := by
  cases r with
  | ok d => exact fun v H'' G'' e' r => h v H'' G'' (e.trans e') r
  | ex c n => exact fun H'' G'' e' => h H'' G'' (e.trans e')
  | no => exact h
theorem Post.bind {r : Rs D} {k : D → Rs D} (h : Post K W σ G H (r.bind k) Q) :
    Post K W σ G H r fun v H1 => ∃ G1 d, Ext G H G1 H1 ∧ Rep K G1 d v ∧ Post K W σ G1 H1 (k d) Q := by
  cases r with
  | ok d => exact fun v H' G' e r => ⟨G', d, e, r, Post.ext e h⟩
  | ex c n => exact h
  | no => exact h
theorem Post.ok {d : D} {v : V} (s : SR K B σ H ρ G) (h : Post K W σ G H (.ok d) Q) (r : Rep K G d v) : Q v H := h v H G s.ext0 r
/-- an expression that begins with another one -/
theorem tF_bind {f : Rho → Rs D} {k : Rho → D → Rs D} (h : tF K B W (fun ρ => (f ρ).bind (k ρ)) σ H Q) :
    tF K B W f σ H fun v H1 => ∃ ρ G1 d, SR K B σ H1 ρ G1 ∧ Rep K G1 d v ∧ Post K W σ G1 H1 (k ρ d) Q := by
  obtain ⟨ρ, G, s, p⟩ := h
  exact ⟨ρ, G, s, p.bind.mono fun v H1 ⟨G1, d, e, r, q⟩ => ⟨ρ, G1, d, s.ext e, r, q⟩⟩
/-- the second one of two -/
theorem tF_bind2 {f : Rho → Rs D} {k : D → D → Rs D} {v : V} (h : ∃ ρ G1 d, SR K B σ H ρ G1 ∧ Rep K G1 d v ∧ Post K W σ G1 H ((f ρ).bind (k d)) Q) :
    tF K B W f σ H fun u H1 => ∃ ρ G1 d d', SR K B σ H1 ρ G1 ∧ Rep K G1 d v ∧ Rep K G1 d' u ∧ Post K W σ G1 H1 (k d d') Q := by
  obtain ⟨ρ, G, d, s, r, p⟩ := h
  exact ⟨ρ, G, s, p.bind.mono fun u H1 ⟨G1, d', e, r', q⟩ => ⟨ρ, G1, d, d', s.ext e, r.mono e.gg, r', q⟩⟩

/-! names, constants -/
def fVar (i : Nat) : Rho → Rs D := fun ρ => match ρ[i]? with | some (.fz d) => .ok d | _ => .no
def fC (d : D) : Rho → Rs D := fun _ => .ok d
theorem se_var {e : Expr} {i : Nat} (h : PE X e (tVar i)) : SE X B W e (fVar i) := PE.imp h fun σ H Q ⟨ρ, G, s, p⟩ => by
  unfold fVar at p
  cases q : ρ[i]? with
  | none => rw [q] at p; exact p.elim
  | some x =>
    rw [q] at p
    cases x with
    | no => exact p.elim
    | ow _ => exact p.elim
    | od _ => exact p.elim
    | op _ => exact p.elim
    | fz d =>
      obtain ⟨v, h1, h2⟩ := s.fz i d q
      exact ⟨v, h1, Post.ok s p h2⟩
theorem sv (i : Nat) {x : Str} {pos : Pos} (hN : X.N[i]? = some x := by rfl) (hv : Vis X.env.scope x := by first | exact Or.inl rfl | exact Or.inr (Or.inl rfl) | exact Or.inr (Or.inr rfl)) (hd : (x == ("__debug__" : Str)) = false := by decide)
    (hcd : (x == ("__classdict__" : Str)) = false := by decide) : SE X B W (.Name x pos) (fVar i) := se_var (pe_var hN hv hd hcd)
theorem se_c {e : Expr} {v : V} {d : D} (h : PE X e (tC v)) (r : ∀ G, Rep X.K G d v) : SE X B W e (fC d) := PE.imp h fun σ H Q ⟨ρ, G, s, p⟩ => Post.ok s p (r G)
theorem se_int {i : Int} {j pos} : SE X B W (.Constant (.int i) j pos) (fC (.int i)) := se_c pe_int fun _ => rep_int.mpr rfl
theorem se_bl {b : Bool} {j pos} : SE X B W (.Constant (.bool b) j pos) (fC (.bl b)) := se_c pe_bl fun _ => rep_bl.mpr rfl
theorem se_str {x j pos} : SE X B W (.Constant (.str x) j pos) (fC (.str x)) := se_c pe_str fun _ => rep_str.mpr rfl

/-! two-place operations -/
def fOp (g : D → D → Rs D) (fa fb : Rho → Rs D) : Rho → Rs D := fun ρ => (fa ρ).bind fun x => (fb ρ).bind fun y => g x y
/-- r is what g says, upon data -/
def OpD (K : PySem.W.Frag) (r : R2) (g : D → D → Rs D) : Prop :=
  ∀ (B : Bs) (W : Wi) (σ : St) (ρ : Rho) (G H : Hp) (x y : D) (v u : V) (Q : VK), SR K B σ H ρ G → Rep K G x v → Rep K G y u → Post K W σ G H (g x y) Q → r v u H Q
theorem tOp_of {r : R2} {g : D → D → Rs D} {fa fb : Rho → Rs D} (ho : OpD K r g) (h : tF K B W (fOp g fa fb) σ H Q) : tOp r (tF K B W fa) (tF K B W fb) σ H Q := by
  obtain ⟨ρ, G, s, p⟩ := tF_bind (k := fun ρ x => (fb ρ).bind fun y => g x y) h
  refine ⟨ρ, G, s, p.mono fun v H1 h1 => ?_⟩
  obtain ⟨ρ, G, s, p⟩ := tF_bind2 (k := g) h1
  exact ⟨ρ, G, s, p.mono fun u H2 ⟨ρ2, G2, d, d', s2, r1, r2, p2⟩ => ho B W σ ρ2 G2 H2 d d' v u Q s2 r1 r2 p2⟩
theorem se_op {a b : Expr} {op : Operator} {pos : Pos} {r : R2} {g : D → D → Rs D} {fa fb : Rho → Rs D} (ho : OpR X (binaryOp op) r) (hg : OpD X.K r g) (ha : SE X B W a fa) (hb : SE X B W b fb) : SE X B W (.BinOp a op b pos) (fOp g fa fb) :=
  PE.imp (pe_op ho ha hb) fun _ _ _ h => tOp_of hg h
/-- ints in -/
def gI (C : Int → Int → Prop) [∀ i j, Decidable (C i j)] (g : Int → Int → D) : D → D → Rs D
  | .int i, .int j => if C i j then .ok (g i j) else .no
  | _, _ => .no
theorem opd_I {C : Int → Int → Prop} [∀ i j, Decidable (C i j)] {gv : Int → Int → V} {g : Int → Int → D} (hg : ∀ G i j, Rep K G (g i j) (gv i j)) : OpD K (rI C gv) (gI C g) := by
  intro B W σ ρ G H x y v u Q s rx ry p
  cases x <;> first | exact p.elim | skip
  rename_i i
  cases y <;> first | exact p.elim | skip
  rename_i j
  simp only [gI] at p
  by_cases c : C i j
  · rw [if_pos c] at p
    exact ⟨i, j, rep_int.mp rx, rep_int.mp ry, c, Post.ok s p (hg G i j)⟩
  · rw [if_neg c] at p; exact p.elim
end
end Vl

set_option Elab.async false
set_option linter.all false
set_option maxRecDepth 100000
set_option maxHeartbeats 4000000
namespace Vl
open PySem PySem.Spec L2

/-! ### == of data -/
mutual
def eqD : D → D → Bool
  | .tup a, .tup b => eqDs a b
  | .lst a, .lst b => eqDs a b
  | .non, .non => true
  | .bl a, .bl b => a == b
  | .bl a, .int b => (if a then 1 else 0) == b
  | .int a, .bl b => a == (if b then 1 else 0)
  | .int a, .int b => a == b
  | .str a, .str b => a == b
  | .exn a b, .exn c d => a == c && b == d
  | .dic _ _, .dic _ _ => true
  | .fn a, .fn b => a == b
  | .obj _ _ _, .obj _ _ _ => true
  | _, _ => false
def eqDs : List D → List D → Bool
  | [], [] => true
  | a :: as, b :: bs => eqD a b && eqDs as bs
  | _, _ => false
end
mutual
def dep : D → Nat
  | .tup a => deps a + 1
  | .lst a => deps a + 1
  | .exn _ _ => cLine
  | .dic _ _ => cLine
  | .fn _ => cLine
  | .obj _ _ _ => cLine
  | _ => 0
def deps : List D → Nat
  | [] => 0
  | a :: as => Nat.max (dep a) (deps as)
end
mutual
theorem eqD_refl : ∀ d : D, eqD d d = true
  | .non => by simp [eqD]
  | .bl _ => by simp [eqD]
  | .int _ => by simp [eqD]
  | .str _ => by simp [eqD]
  | .tup a => by simp [eqD, eqDs_refl a]
  | .lst a => by simp [eqD, eqDs_refl a]
  | .exn _ _ => by simp [eqD]
  | .dic _ _ => by simp [eqD]
  | .fn _ => by simp [eqD]
  | .obj _ _ _ => by simp [eqD]
theorem eqDs_refl : ∀ d : List D, eqDs d d = true
  | [] => by simp [eqDs]
  | a :: as => by simp [eqDs, eqD_refl a, eqDs_refl as]
end
theorem eqDs_range : ∀ (a b : List D), ((List.range (min a.length b.length)).all (fun j => eqD (a.getD j .non) (b.getD j .non)) && a.length == b.length) = eqDs a b
  | [], [] => by simp [eqDs]
  | [], b :: bs => by simp [eqDs]
  | a :: as, [] => by simp [eqDs]
  | a :: as, b :: bs => by
    have ih := eqDs_range as bs
    rw [eqDs, ← ih]
    rw [show min (a :: as).length (b :: bs).length = min as.length bs.length + 1 by simp]
    rw [List.range_succ_eq_map, List.all_cons, List.all_map]
    simp [Function.comp_def, Bool.and_assoc]
theorem mem_dep {d : D} : ∀ {ds : List D}, d ∈ ds → dep d ≤ deps ds
  | [], h => by cases h
  | x :: xs, h => by
    rw [deps]
    rcases List.mem_cons.mp h with rfl | h
    · exact Nat.le_max_left _ _
    · exact Nat.le_trans (mem_dep h) (Nat.le_max_right _ _)

section
variable {X : Cx} {pins : List (Addr × Obj)} {σ : St} {H : Hp} {s : Shared}
theorem not_both (I : Inv X pins σ H s) {a : Addr} {xs ys : List V} (h : SqL X.K H a xs) (h' : SqT X.K H a ys) : False := by
  obtain ⟨_, _, ⟨o, n, e, c, _, _⟩, _⟩ := I.list h
  obtain ⟨_, _, ⟨o', e', c', _⟩, _⟩ := I.tuple h'
  rw [e] at e'; cases e'
  rw [c] at c'; exact absurd c' (by decide)
theorem not_exnT (I : Inv X pins σ H s) {a : Addr} {xs : List V} {φ : Heap → Prop} (h : SqT X.K H a xs) (h' : H a = some (.ext φ)) : False := by
  rcases h with (h | ⟨o, h⟩) | ⟨o, its, n, hk, _⟩
  · rw [h'] at h; cases h
  · rw [h'] at h; cases h
  · have := (I.bs a o (I.mod.kin a o hk)).2
    rw [h'] at this; cases this
theorem not_exnL (I : Inv X pins σ H s) {a : Addr} {xs : List V} {φ : Heap → Prop} (h : SqL X.K H a xs) (h' : H a = some (.ext φ)) : False := by
  rcases h with (h | ⟨o, h⟩) | ⟨o, its, n, hk, _⟩
  · rw [h'] at h; cases h
  · rw [h'] at h; cases h
  · have := (I.bs a o (I.mod.kin a o hk)).2
    rw [h'] at this; cases this
theorem not_fnT {a : Addr} {xs : List V} {o : Obj} {fd : FuncData} (I : Inv X pins σ H s) (h : SqT X.K H a xs) (hk : X.K.lookup a = some o) (hd : o.data = .func fd) : False := by
  have hn := (I.bs a o (I.mod.kin a o hk)).2
  rcases h with (h | ⟨o', h⟩) | ⟨o', its, n, hk', hs⟩
  · rw [hn] at h; cases h
  · rw [hn] at h; cases h
  · rw [hk] at hk'; cases hk'; rcases hs with ⟨_, hs, _⟩; rw [hd] at hs; cases hs
theorem not_fnL {a : Addr} {xs : List V} {o : Obj} {fd : FuncData} (I : Inv X pins σ H s) (h : SqL X.K H a xs) (hk : X.K.lookup a = some o) (hd : o.data = .func fd) : False := by
  have hn := (I.bs a o (I.mod.kin a o hk)).2
  rcases h with (h | ⟨o', h⟩) | ⟨o', its, n, hk', hs⟩
  · rw [hn] at h; cases h
  · rw [hn] at h; cases h
  · rw [hk] at hk'; cases hk'; rcases hs with ⟨_, _, hs, _⟩; rw [hd] at hs; cases hs
theorem not_insT (I : Inv X pins σ H s) {a C dx : Addr} {xs : List V} {fs : List (Str × V)} (h : SqT X.K H a xs) (h' : H a = some (.ins C dx fs)) : False := by
  rcases h with (h | ⟨o, h⟩) | ⟨o, its, n, hk, _⟩
  · rw [h'] at h; cases h
  · rw [h'] at h; cases h
  · have := (I.bs a o (I.mod.kin a o hk)).2
    rw [h'] at this; cases this
theorem not_insL (I : Inv X pins σ H s) {a C dx : Addr} {xs : List V} {fs : List (Str × V)} (h : SqL X.K H a xs) (h' : H a = some (.ins C dx fs)) : False := by
  rcases h with (h | ⟨o, h⟩) | ⟨o, its, n, hk, _⟩
  · rw [h'] at h; cases h
  · rw [h'] at h; cases h
  · have := (I.bs a o (I.mod.kin a o hk)).2
    rw [h'] at this; cases this
mutual
theorem Rep.inj (I : Inv X pins σ H s) : ∀ {d d' : D} {v : V}, dep d < cLine → Rep X.K H d v → Rep X.K H d' v → d = d'
  | .non, d', v, _, h, h' => by
    rw [rep_non.mp h] at h'
    cases d' <;> simp only [Rep] at h' <;> first | rfl | (obtain ⟨a, vs, e, _⟩ := h'; cases e; done) | (obtain ⟨a, U, kvv, e, _⟩ := h'; cases e; done) | (obtain ⟨a, C, dx, us, e, _⟩ := h'; cases e; done) | (cases h'; rfl) | cases h'
  | .bl _, d', v, _, h, h' => by
    rw [rep_bl.mp h] at h'
    cases d' <;> simp only [Rep] at h' <;> first | rfl | (obtain ⟨a, vs, e, _⟩ := h'; cases e; done) | (obtain ⟨a, U, kvv, e, _⟩ := h'; cases e; done) | (obtain ⟨a, C, dx, us, e, _⟩ := h'; cases e; done) | (cases h'; rfl) | cases h'
  | .int _, d', v, _, h, h' => by
    rw [rep_int.mp h] at h'
    cases d' <;> simp only [Rep] at h' <;> first | rfl | (obtain ⟨a, vs, e, _⟩ := h'; cases e; done) | (obtain ⟨a, U, kvv, e, _⟩ := h'; cases e; done) | (obtain ⟨a, C, dx, us, e, _⟩ := h'; cases e; done) | (cases h'; rfl) | cases h'
  | .str _, d', v, _, h, h' => by
    rw [rep_str.mp h] at h'
    cases d' <;> simp only [Rep] at h' <;> first | rfl | (obtain ⟨a, vs, e, _⟩ := h'; cases e; done) | (obtain ⟨a, U, kvv, e, _⟩ := h'; cases e; done) | (obtain ⟨a, C, dx, us, e, _⟩ := h'; cases e; done) | (cases h'; rfl) | cases h'
  | .tup ds, d', v, hd, h, h' => by
    obtain ⟨a, vs, rfl, q, r⟩ := rep_tup.mp h
    cases d' with
    | tup es =>
      obtain ⟨b, us, e, q', r'⟩ := rep_tup.mp h'
      cases e
      rw [I.tuple_inj q' q] at r'
      rw [Reps.inj I (by simp only [dep] at hd; lia) r r']
    | lst es =>
      obtain ⟨b, us, e, q', r'⟩ := rep_lst.mp h'
      cases e
      exact (not_both I q' q).elim
    | exn c n =>
      obtain ⟨b, C, _, e, _, q', _⟩ := rep_exn.mp h'
      cases e
      exact (not_exnT I q q').elim
    | fn c =>
      obtain ⟨b, o, fd, e, _, q1, q2⟩ := rep_fn.mp h'
      cases e
      exact (not_fnT I q q1 q2).elim
    | obj c ns es =>
      obtain ⟨b, C, dx, us, e, _, q', _⟩ := rep_obj.mp h'
      cases e
      exact (not_insT I q q').elim
    | dic c n =>
      obtain ⟨b, U, kvv, e, ⟨_, q'⟩, _⟩ := rep_dic.mp h'
      cases e
      exact (not_exnT I q q').elim
    | _ => simp only [Rep] at h'; cases h'
  | .lst ds, d', v, hd, h, h' => by
    obtain ⟨a, vs, rfl, q, r⟩ := rep_lst.mp h
    cases d' with
    | lst es =>
      obtain ⟨b, us, e, q', r'⟩ := rep_lst.mp h'
      cases e
      rw [I.list_inj q' q] at r'
      rw [Reps.inj I (by simp only [dep] at hd; lia) r r']
    | tup es =>
      obtain ⟨b, us, e, q', r'⟩ := rep_tup.mp h'
      cases e
      exact (not_both I q q').elim
    | exn c n =>
      obtain ⟨b, C, _, e, _, q', _⟩ := rep_exn.mp h'
      cases e
      exact (not_exnL I q q').elim
    | fn c =>
      obtain ⟨b, o, fd, e, _, q1, q2⟩ := rep_fn.mp h'
      cases e
      exact (not_fnL I q q1 q2).elim
    | obj c ns es =>
      obtain ⟨b, C, dx, us, e, _, q', _⟩ := rep_obj.mp h'
      cases e
      exact (not_insL I q q').elim
    | dic c n =>
      obtain ⟨b, U, kvv, e, ⟨_, q'⟩, _⟩ := rep_dic.mp h'
      cases e
      exact (not_exnL I q q').elim
    | _ => simp only [Rep] at h'; cases h'
  | .exn _ _, d', v, hd, h, h' => by simp only [dep] at hd; exact absurd hd (Nat.lt_irrefl _)
  | .dic _ _, d', v, hd, h, h' => by simp only [dep] at hd; exact absurd hd (Nat.lt_irrefl _)
  | .fn _, d', v, hd, h, h' => by simp only [dep] at hd; exact absurd hd (Nat.lt_irrefl _)
  | .obj _ _ _, d', v, hd, h, h' => by simp only [dep] at hd; exact absurd hd (Nat.lt_irrefl _)
theorem Reps.inj (I : Inv X pins σ H s) : ∀ {ds es : List D} {vs : List V}, deps ds < cLine → Reps X.K H ds vs → Reps X.K H es vs → ds = es
  | [], es, vs, _, h, h' => by
    rw [reps_nil.mp h] at h'
    cases es with
    | nil => rfl
    | cons e es => obtain ⟨v, vs', e1, _⟩ := reps_cons.mp h'; cases e1
  | d :: ds, es, vs, hd, h, h' => by
    obtain ⟨v, vs', rfl, r1, r2⟩ := reps_cons.mp h
    simp only [deps] at hd
    cases es with
    | nil => have := reps_nil.mp h'; cases this
    | cons e es =>
      obtain ⟨v', vs'', e1, r1', r2'⟩ := reps_cons.mp h'
      cases e1
      rw [Rep.inj I (Nat.lt_of_le_of_lt (Nat.le_max_left _ _) hd) r1 r1', Reps.inj I (Nat.lt_of_le_of_lt (Nat.le_max_right _ _) hd) r2 r2']
end
theorem items_of (I : Inv X pins σ H s) {m : Nat} {A : Around} {ds es : List D} {vs us : List V} {its its2 : List Value}
    (ih : ∀ {d d' : D} {v v' : V} {u u' : Value} {A : Around}, dep d ≤ m → dep d' ≤ m → A.units + m < cLine → Rep X.K H d v → Rep X.K H d' v' → RelV v u → RelV v' u' → SeqAt.EqAt A s u u' (eqD d d'))
    (hn : deps ds ≤ m) (hn' : deps es ≤ m) (hu : A.in1.units + m < cLine) (r1 : Reps X.K H ds vs) (r2 : Reps X.K H es us) (a1 : Vals vs its) (a2 : Vals us its2) :
    ∀ j (h1 : j < its.toArray.size) (h2 : j < its2.toArray.size), SeqAt.EqAt A.in1 s its.toArray[j] its2.toArray[j] (eqD (ds.getD j .non) (es.getD j .non)) := by
  intro j h1 h2
  have l1 : j < ds.length := by rw [r1.length, a1.length]; simpa using h1
  have l2 : j < es.length := by rw [r2.length, a2.length]; simpa using h2
  obtain ⟨x, hx, rx⟩ := r1.get (i := j) (d := ds[j]) (by simp [l1])
  obtain ⟨y, hy, ry⟩ := r2.get (i := j) (d := es[j]) (by simp [l2])
  obtain ⟨p, hp, rp⟩ := a1.get hx
  obtain ⟨q, hq, rq⟩ := a2.get hy
  have e1 : its.toArray[j] = p := by
    have := (List.getElem?_eq_some_iff.mp hp).2; simpa using this
  have e2 : its2.toArray[j] = q := by
    have := (List.getElem?_eq_some_iff.mp hq).2; simpa using this
  rw [e1, e2, List.getD_eq_getElem?_getD, List.getD_eq_getElem?_getD, List.getElem?_eq_getElem l1, List.getElem?_eq_getElem l2]
  exact ih (Nat.le_trans (mem_dep (List.getElem_mem l1)) hn) (Nat.le_trans (mem_dep (List.getElem_mem l2)) hn') hu rx ry rp rq
/-- what stands for a thing, kind by kind -/
inductive Kd (X : Cx) (H : Hp) (s : Shared) : D → Value → Prop
  | n : Kd X H s .non .none
  | b (x : Bool) : Kd X H s (.bl x) (.bool x)
  | i (x : Int) (t : Tok) : Kd X H s (.int x) (.int x t)
  | s (x : Str) (t : Tok) : Kd X H s (.str x) (.str x t)
  | t {a : Addr} {its : List Value} (ds : List D) : s.heap.IsTuple a its.toArray → Kd X H s (.tup ds) (.ref a)
  | l {a : Addr} {its : List Value} (ds : List D) : s.heap.IsList a its.toArray → Kd X H s (.lst ds) (.ref a)
theorem kd_of (I : Inv X pins σ H s) {n : Nat} {d : D} {v : V} {u : Value} (hd : dep d ≤ n) (hn : n < cLine) (r : Rep X.K H d v) (e : RelV v u) : Kd X H s d u := by
  cases d with
  | non => rw [rep_non.mp r] at e; cases e; exact .n
  | bl x => rw [rep_bl.mp r] at e; cases e; exact .b x
  | int x => rw [rep_int.mp r] at e; obtain ⟨t, rfl⟩ := e; exact .i x t
  | str x => rw [rep_str.mp r] at e; obtain ⟨t, rfl⟩ := e; exact .s x t
  | tup ds => obtain ⟨a, vs, rfl, q, _⟩ := rep_tup.mp r; cases e; obtain ⟨its, _, t, _⟩ := I.tuple q; exact .t ds t
  | lst ds => obtain ⟨a, vs, rfl, q, _⟩ := rep_lst.mp r; cases e; obtain ⟨its, _, t, _⟩ := I.list q; exact .l ds t.isList
  | _ => simp only [dep] at hd; exact absurd hn (by lia)
def sk : D → D → Bool
  | .tup _, .tup _ => true
  | .lst _, .lst _ => true
  | _, _ => false
open SeqAt in
theorem eqD_flat {d d' : D} {u u' : Value} {A : Around} (k : Kd X H s d u) (k' : Kd X H s d' u') (hu : A.units < cLine) (hs : sk d d' = false) : EqAt A s u u' (eqD d d') := by
  cases k with
  | n =>
    cases k' with
    | n => exact EqAt.same _
    | b y => exact EqAt.none_bool y
    | i y r => exact EqAt.none_int y r
    | s y r => exact EqAt.none_str y r
    | t es g => exact EqAt.none_tuple g hu
    | l es g => exact EqAt.none_list g hu
  | b x =>
    cases k' with
    | n => exact EqAt.bool_none x
    | b y => exact EqAt.bool_bool x y
    | i y r => exact EqAt.bool_int x y r
    | s y r => exact EqAt.bool_str x y r
    | t es g => exact EqAt.bool_tuple x g hu
    | l es g => exact EqAt.bool_list x g hu
  | i x t =>
    cases k' with
    | n => exact EqAt.int_none x t
    | b y => exact EqAt.int_bool x t y
    | i y r => exact EqAt.int_int x t y r
    | s y r => exact EqAt.int_str x t y r
    | t es g => exact EqAt.int_tuple x t g hu
    | l es g => exact EqAt.int_list x t g hu
  | s x t =>
    cases k' with
    | n => exact EqAt.str_none x t
    | b y => exact EqAt.str_bool x t y
    | i y r => exact EqAt.str_int x t y r
    | s y r => exact EqAt.str_str x t y r
    | t es g => exact EqAt.str_tuple x t g hu
    | l es g => exact EqAt.str_list x t g hu
  | t ds h =>
    cases k' with
    | n => exact EqAt.tuple_none h hu
    | b y => exact EqAt.tuple_bool y h hu
    | i y r => exact EqAt.tuple_int y r h hu
    | s y r => exact EqAt.tuple_str y r h hu
    | t es g => cases hs
    | l es g => exact EqAt.tuple_list h g hu
  | l ds h =>
    cases k' with
    | n => exact EqAt.list_none h hu
    | b y => exact EqAt.list_bool y h hu
    | i y r => exact EqAt.list_int y r h hu
    | s y r => exact EqAt.list_str y r h hu
    | t es g => exact EqAt.list_tuple h g hu
    | l es g => cases hs
open SeqAt in
theorem eqD_at (I : Inv X pins σ H s) : ∀ (n : Nat) {d d' : D} {v v' : V} {u u' : Value} {A : Around}, dep d ≤ n → dep d' ≤ n → A.units + n < cLine → Rep X.K H d v → Rep X.K H d' v' → RelV v u → RelV v' u' → EqAt A s u u' (eqD d d') := by
  intro n
  induction n with
  | zero =>
    intro d d' v v' u u' A hd hd' hu r r' e e'
    exact eqD_flat (kd_of I hd (by lia) r e) (kd_of I hd' (by lia) r' e') (by lia) (by cases d <;> cases d' <;> first | rfl | (simp only [dep] at hd; lia))
  | succ m ih =>
    intro d d' v v' u u' A hd hd' hu r r' e e'
    have hu0 : A.units < cLine := by lia
    cases hs : sk d d' with
    | false => exact eqD_flat (kd_of I hd (by lia) r e) (kd_of I hd' (by lia) r' e') hu0 hs
    | true =>
      cases d with
      | tup ds =>
        cases d' with
        | tup es =>
          obtain ⟨a, vs, rfl, q, rr⟩ := rep_tup.mp r
          cases e
          obtain ⟨its, av, t, _⟩ := I.tuple q
          obtain ⟨b, us, rfl, q', rr'⟩ := rep_tup.mp r'
          cases e'
          obtain ⟨its2, av2, t2, _⟩ := I.tuple q'
          have hn : deps ds ≤ m := by simp only [dep] at hd; lia
          have hn' : deps es ≤ m := by simp only [dep] at hd'; lia
          by_cases hab : a = b
          · subst hab
            rw [Rep.inj I (by lia) r r', eqD_refl]
            exact EqAt.same _
          have items := items_of I ih hn hn' (show A.in1.units + m < cLine by show A.units + 1 + m < _; lia) rr rr' av av2
          have h := RcAt.tuples (A := A) t t2 hu0 items
          rw [List.size_toArray, List.size_toArray, ← av.length, ← av2.length, ← rr.length, ← rr'.length, eqDs_range] at h
          exact EqAt.of_refs hab h
        | _ => cases hs
      | lst ds =>
        cases d' with
        | lst es =>
          obtain ⟨a, vs, rfl, q, rr⟩ := rep_lst.mp r
          cases e
          obtain ⟨its, av, t1, _⟩ := I.list q
          have t := t1.isList
          obtain ⟨b, us, rfl, q', rr'⟩ := rep_lst.mp r'
          cases e'
          obtain ⟨its2, av2, t3, _⟩ := I.list q'
          have t2 := t3.isList
          have hn : deps ds ≤ m := by simp only [dep] at hd; lia
          have hn' : deps es ≤ m := by simp only [dep] at hd'; lia
          by_cases hab : a = b
          · subst hab
            rw [Rep.inj I (by lia) r r', eqD_refl]
            exact EqAt.same _
          have items := items_of I ih hn hn' (show A.in1.units + m < cLine by show A.units + 1 + m < _; lia) rr rr' av av2
          by_cases hl : its.toArray.size = its2.toArray.size
          · have h := RcAt.lists (A := A) t t2 hl hu0 items
            rw [List.size_toArray, ← av.length, ← rr.length] at h
            have hl' : ds.length = es.length := by rw [rr.length, rr'.length, av.length, av2.length]; simpa using hl
            have e1 := eqDs_range ds es
            rw [hl', Nat.min_self] at e1
            simp only [beq_self_eq_true, Bool.and_true] at e1
            rw [hl', e1] at h
            exact EqAt.of_refs hab h
          · have h := RcAt.lists_lengths (A := A) t t2 (by simpa using hl) hu0
            have hl' : ds.length ≠ es.length := by rw [rr.length, rr'.length, av.length, av2.length]; simpa using hl
            have e1 := eqDs_range ds es
            rw [show (ds.length == es.length) = false by simpa using hl', Bool.and_false] at e1
            rw [show eqD (.lst ds) (.lst es) = false by rw [eqD, ← e1]]
            exact EqAt.of_refs hab h
        | _ => cases hs
      | _ => cases d' <;> cases hs
end
end Vl

set_option Elab.async false
set_option linter.all false
set_option maxRecDepth 100000
set_option maxHeartbeats 4000000
namespace Vl
open PySem PySem.Spec L2
section
variable {X : Cx} {pins : List (Addr × Obj)} {σ : St} {H : Hp} {s : Shared}
theorem items_at (I : Inv X pins σ H s) {m : Nat} {A : Around} {ds es : List D} {vs us : List V} {its its2 : List Value} (hn : deps ds ≤ m) (hn' : deps es ≤ m) (hu : A.in1.units + m < cLine) (r1 : Reps X.K H ds vs) (r2 : Reps X.K H es us) (a1 : Vals vs its) (a2 : Vals us its2) :
    ∀ j (h1 : j < its.toArray.size) (h2 : j < its2.toArray.size), SeqAt.EqAt A.in1 s its.toArray[j] its2.toArray[j] (eqD (ds.getD j .non) (es.getD j .non)) :=
  items_of I (fun a b c d e f g => eqD_at I m a b c d e f g) hn hn' hu r1 r2 a1 a2
open SeqAt in
theorem rc_flat {d d' : D} {u u' : Value} {A : Around} (k : Kd X H s d u) (k' : Kd X H s d' u') (hu : A.units < cLine) (hs : sk d d' = false) : RcAt A s u u' (eqD d d') := by
  cases k with
  | n =>
    cases k' with
    | n => exact RcAt.none_none
    | b y => exact RcAt.none_bool y
    | i y r => exact RcAt.none_int y r
    | s y r => exact RcAt.none_str y r
    | t es g => exact RcAt.none_tuple g hu
    | l es g => exact RcAt.none_list g hu
  | b x =>
    cases k' with
    | n => exact RcAt.bool_none x
    | b y => exact RcAt.bool_bool x y
    | i y r => exact RcAt.bool_int x y r
    | s y r => exact RcAt.bool_str x y r
    | t es g => exact RcAt.bool_tuple x g hu
    | l es g => exact RcAt.bool_list x g hu
  | i x t =>
    cases k' with
    | n => exact RcAt.int_none x t
    | b y => exact RcAt.int_bool x t y
    | i y r => exact RcAt.int_int x t y r
    | s y r => exact RcAt.int_str x t y r
    | t es g => exact RcAt.int_tuple x t g hu
    | l es g => exact RcAt.int_list x t g hu
  | s x t =>
    cases k' with
    | n => exact RcAt.str_none x t
    | b y => exact RcAt.str_bool x t y
    | i y r => exact RcAt.str_int x t y r
    | s y r => exact RcAt.str_str x t y r
    | t es g => exact RcAt.str_tuple x t g hu
    | l es g => exact RcAt.str_list x t g hu
  | t ds h =>
    cases k' with
    | n => exact RcAt.tuple_none h hu
    | b y => exact RcAt.tuple_bool y h hu
    | i y r => exact RcAt.tuple_int y r h hu
    | s y r => exact RcAt.tuple_str y r h hu
    | t es g => cases hs
    | l es g => exact RcAt.tuple_list h g hu
  | l ds h =>
    cases k' with
    | n => exact RcAt.list_none h hu
    | b y => exact RcAt.list_bool y h hu
    | i y r => exact RcAt.list_int y r h hu
    | s y r => exact RcAt.list_str y r h hu
    | t es g => exact RcAt.list_tuple h g hu
    | l es g => cases hs
open SeqAt in
theorem rcD_at (I : Inv X pins σ H s) {n : Nat} {d d' : D} {v v' : V} {u u' : Value} {A : Around} (hd : dep d ≤ n) (hd' : dep d' ≤ n) (hu : A.units + n < cLine) (r : Rep X.K H d v) (r' : Rep X.K H d' v') (e : RelV v u) (e' : RelV v' u') : RcAt A s u u' (eqD d d') := by
  have hu0 : A.units < cLine := by lia
  cases hs : sk d d' with
  | false => exact rc_flat (kd_of I hd (by lia) r e) (kd_of I hd' (by lia) r' e') hu0 hs
  | true =>
    obtain ⟨m, rfl⟩ : ∃ m, n = m + 1 := ⟨n - 1, by cases d <;> first | (simp only [dep] at hd; lia) | (cases d' <;> cases hs)⟩
    cases d with
    | tup ds =>
      cases d' with
      | tup es =>
        obtain ⟨a, vs, rfl, q, rr⟩ := rep_tup.mp r
        cases e
        obtain ⟨its, av, t, _⟩ := I.tuple q
        obtain ⟨b, us, rfl, q', rr'⟩ := rep_tup.mp r'
        cases e'
        obtain ⟨its2, av2, t2, _⟩ := I.tuple q'
        have hn : deps ds ≤ m := by simp only [dep] at hd; lia
        have hn' : deps es ≤ m := by simp only [dep] at hd'; lia
        have items := items_at I hn hn' (show A.in1.units + m < cLine by show A.units + 1 + m < _; lia) rr rr' av av2
        have h := RcAt.tuples (A := A) t t2 hu0 items
        rw [List.size_toArray, List.size_toArray, ← av.length, ← av2.length, ← rr.length, ← rr'.length, eqDs_range] at h
        exact h
      | _ => cases hs
    | lst ds =>
      cases d' with
      | lst es =>
        obtain ⟨a, vs, rfl, q, rr⟩ := rep_lst.mp r
        cases e
        obtain ⟨its, av, t1, _⟩ := I.list q
        have t := t1.isList
        obtain ⟨b, us, rfl, q', rr'⟩ := rep_lst.mp r'
        cases e'
        obtain ⟨its2, av2, t3, _⟩ := I.list q'
        have t2 := t3.isList
        have hn : deps ds ≤ m := by simp only [dep] at hd; lia
        have hn' : deps es ≤ m := by simp only [dep] at hd'; lia
        have items := items_at I hn hn' (show A.in1.units + m < cLine by show A.units + 1 + m < _; lia) rr rr' av av2
        by_cases hl : its.toArray.size = its2.toArray.size
        · have h := RcAt.lists (A := A) t t2 hl hu0 items
          rw [List.size_toArray, ← av.length, ← rr.length] at h
          have hl' : ds.length = es.length := by rw [rr.length, rr'.length, av.length, av2.length]; simpa using hl
          have e1 := eqDs_range ds es
          rw [hl', Nat.min_self] at e1
          simp only [beq_self_eq_true, Bool.and_true] at e1
          rw [hl', e1] at h
          exact h
        · have h := RcAt.lists_lengths (A := A) t t2 (by simpa using hl) hu0
          have hl' : ds.length ≠ es.length := by rw [rr.length, rr'.length, av.length, av2.length]; simpa using hl
          have e1 := eqDs_range ds es
          rw [show (ds.length == es.length) = false by simpa using hl', Bool.and_false] at e1
          rw [show eqD (.lst ds) (.lst es) = false by rw [eqD, ← e1]]
          exact h
      | _ => cases hs
    | _ => cases d' <;> cases hs
open SeqAt in
theorem rcne_flat {d d' : D} {u u' : Value} {A : Around} (k : Kd X H s d u) (k' : Kd X H s d' u') (hu : A.units < cLine) (hs : sk d d' = false) : RcNeAt A s u u' (!eqD d d') := by
  cases k with
  | n =>
    cases k' with
    | n => exact RcNeAt.none_none
    | b y => exact RcNeAt.none_bool y
    | i y r => exact RcNeAt.none_int y r
    | s y r => exact RcNeAt.none_str y r
    | t es g => exact RcNeAt.none_tuple g hu
    | l es g => exact RcNeAt.none_list g hu
  | b x =>
    cases k' with
    | n => exact RcNeAt.bool_none x
    | b y => exact RcNeAt.bool_bool x y
    | i y r => exact RcNeAt.bool_int x y r
    | s y r => exact RcNeAt.bool_str x y r
    | t es g => exact RcNeAt.bool_tuple x g hu
    | l es g => exact RcNeAt.bool_list x g hu
  | i x t =>
    cases k' with
    | n => exact RcNeAt.int_none x t
    | b y => exact RcNeAt.int_bool x t y
    | i y r => exact RcNeAt.int_int x t y r
    | s y r => exact RcNeAt.int_str x t y r
    | t es g => exact RcNeAt.int_tuple x t g hu
    | l es g => exact RcNeAt.int_list x t g hu
  | s x t =>
    cases k' with
    | n => exact RcNeAt.str_none x t
    | b y => exact RcNeAt.str_bool x t y
    | i y r => exact RcNeAt.str_int x t y r
    | s y r => exact RcNeAt.str_str x t y r
    | t es g => exact RcNeAt.str_tuple x t g hu
    | l es g => exact RcNeAt.str_list x t g hu
  | t ds h =>
    cases k' with
    | n => exact RcNeAt.tuple_none h hu
    | b y => exact RcNeAt.tuple_bool y h hu
    | i y r => exact RcNeAt.tuple_int y r h hu
    | s y r => exact RcNeAt.tuple_str y r h hu
    | t es g => cases hs
    | l es g => exact RcNeAt.tuple_list h g hu
  | l ds h =>
    cases k' with
    | n => exact RcNeAt.list_none h hu
    | b y => exact RcNeAt.list_bool y h hu
    | i y r => exact RcNeAt.list_int y r h hu
    | s y r => exact RcNeAt.list_str y r h hu
    | t es g => exact RcNeAt.list_tuple h g hu
    | l es g => cases hs
open SeqAt in
theorem rcneD_at (I : Inv X pins σ H s) {n : Nat} {d d' : D} {v v' : V} {u u' : Value} {A : Around} (hd : dep d ≤ n) (hd' : dep d' ≤ n) (hu : A.units + n < cLine) (r : Rep X.K H d v) (r' : Rep X.K H d' v') (e : RelV v u) (e' : RelV v' u') : RcNeAt A s u u' (!eqD d d') := by
  have hu0 : A.units < cLine := by lia
  cases hs : sk d d' with
  | false => exact rcne_flat (kd_of I hd (by lia) r e) (kd_of I hd' (by lia) r' e') hu0 hs
  | true =>
    obtain ⟨m, rfl⟩ : ∃ m, n = m + 1 := ⟨n - 1, by cases d <;> first | (simp only [dep] at hd; lia) | (cases d' <;> cases hs)⟩
    cases d with
    | tup ds =>
      cases d' with
      | tup es =>
        obtain ⟨a, vs, rfl, q, rr⟩ := rep_tup.mp r
        cases e
        obtain ⟨its, av, t, _⟩ := I.tuple q
        obtain ⟨b, us, rfl, q', rr'⟩ := rep_tup.mp r'
        cases e'
        obtain ⟨its2, av2, t2, _⟩ := I.tuple q'
        have hn : deps ds ≤ m := by simp only [dep] at hd; lia
        have hn' : deps es ≤ m := by simp only [dep] at hd'; lia
        have items := items_at I hn hn' (show A.in1.units + m < cLine by show A.units + 1 + m < _; lia) rr rr' av av2
        have h := RcNeAt.tuples (A := A) t t2 hu0 items
        rw [List.size_toArray, List.size_toArray, ← av.length, ← av2.length, ← rr.length, ← rr'.length, eqDs_range] at h
        exact h
      | _ => cases hs
    | lst ds =>
      cases d' with
      | lst es =>
        obtain ⟨a, vs, rfl, q, rr⟩ := rep_lst.mp r
        cases e
        obtain ⟨its, av, t1, _⟩ := I.list q
        have t := t1.isList
        obtain ⟨b, us, rfl, q', rr'⟩ := rep_lst.mp r'
        cases e'
        obtain ⟨its2, av2, t3, _⟩ := I.list q'
        have t2 := t3.isList
        have hn : deps ds ≤ m := by simp only [dep] at hd; lia
        have hn' : deps es ≤ m := by simp only [dep] at hd'; lia
        have items := items_at I hn hn' (show A.in1.units + m < cLine by show A.units + 1 + m < _; lia) rr rr' av av2
        by_cases hl : its.toArray.size = its2.toArray.size
        · have h := RcNeAt.lists (A := A) t t2 hl hu0 items
          rw [List.size_toArray, ← av.length, ← rr.length] at h
          have hl' : ds.length = es.length := by rw [rr.length, rr'.length, av.length, av2.length]; simpa using hl
          have e1 := eqDs_range ds es
          rw [hl', Nat.min_self] at e1
          simp only [beq_self_eq_true, Bool.and_true] at e1
          rw [hl', e1] at h
          exact h
        · have h := RcNeAt.lists_lengths (A := A) t t2 (by simpa using hl) hu0
          have hl' : ds.length ≠ es.length := by rw [rr.length, rr'.length, av.length, av2.length]; simpa using hl
          have e1 := eqDs_range ds es
          rw [show (ds.length == es.length) = false by simpa using hl', Bool.and_false] at e1
          rw [show eqD (.lst ds) (.lst es) = false by rw [eqD, ← e1]]
          exact h
      | _ => cases hs
    | _ => cases d' <;> cases hs
end
end Vl

set_option Elab.async false
set_option linter.all false
set_option maxRecDepth 100000
set_option maxHeartbeats 4000000
namespace Vl
open PySem PySem.Spec L2

/-! ### tests, argument lists -/
def PostT (W : Wi) (σ : St) (G H : Hp) (r : Rs Bool) (Q : Bool → Hp → Prop) : Prop :=
  match r with
  | .ok b => ∀ H' G', Ext G H G' H' → Q b H'
  | .ex c n => ∀ H' G', Ext G H G' H' → W c n σ H'
  | .no => False
def tT (K : PySem.W.Frag) (B : Bs) (W : Wi) (f : Rho → Rs Bool) : TT := fun σ H Q => ∃ ρ G, SR K B σ H ρ G ∧ PostT W σ G H (f ρ) Q
def ST (X : Cx) (B : Bs) (W : Wi) (e : Expr) (f : Rho → Rs Bool) : Prop := PT X e (tT X.K B W f)
def SW (X : Cx) (B : Bs) (W : Wi) (e : Expr) (f : Rho → Rs Bool) : Prop := PW X e (tT X.K B W f)
def PostA (K : PySem.W.Frag) (W : Wi) (σ : St) (G H : Hp) (r : Rs (List D)) (Q : List V → Hp → Prop) : Prop :=
  match r with
  | .ok ds => ∀ vs H' G', Ext G H G' H' → Reps K G' ds vs → Q vs H'
  | .ex c n => ∀ H' G', Ext G H G' H' → W c n σ H'
  | .no => False
def tAF (K : PySem.W.Frag) (B : Bs) (W : Wi) (f : Rho → Rs (List D)) : TA := fun σ H Q => ∃ ρ G, SR K B σ H ρ G ∧ PostA K W σ G H (f ρ) Q
def SA (X : Cx) (B : Bs) (W : Wi) (es : List Expr) (f : Rho → Rs (List D)) : Prop := PA X es (tAF X.K B W f)
theorem PW.imp {X : Cx} {e : Expr} {t t' : TT} (h : PW X e t) (i : ∀ σ H Q, t' σ H Q → t σ H Q) : PW X e t' := fun wh pins s σ H Q I q => h wh pins s σ H Q I (i σ H Q q)

def toB : D → Rs Bool
  | .bl b => .ok b
  | _ => .no
def fT (f : Rho → Rs D) : Rho → Rs Bool := fun ρ => (f ρ).bind toB
def fOr (a b : Rho → Rs Bool) : Rho → Rs Bool := fun ρ => (a ρ).bind fun x => if x = true then .ok true else b ρ
def fNot (a : Rho → Rs Bool) : Rho → Rs Bool := fun ρ => (a ρ).bind fun x => .ok (!x)
def fCons (a : Rho → Rs D) (r : Rho → Rs (List D)) : Rho → Rs (List D) := fun ρ => (a ρ).bind fun x => (r ρ).bind fun xs => .ok (x :: xs)
def fNil : Rho → Rs (List D) := fun _ => .ok []
def fA (a : Rho → Rs (List D)) (g : List D → Rs D) : Rho → Rs D := fun ρ => (a ρ).bind g
section
variable {X : Cx} {K : PySem.W.Frag} {B : Bs} {W : Wi} {σ : St} {G H : Hp} {ρ : Rho}
theorem PostT.ext {r : Rs Bool} {Q : Bool → Hp → Prop} {G' H' : Hp} (e : Ext G H G' H') (h : PostT W σ G H r Q) : PostT W σ G' H' r Q := by
  cases r with
  | ok d => exact fun H'' G'' e' => h H'' G'' (e.trans e')
  | ex c n => exact fun H'' G'' e' => h H'' G'' (e.trans e')
  | no => exact h
/-! a value as a test -/
theorem tB_of {f : Rho → Rs D} {Q : Bool → Hp → Prop} (h : tT K B W (fT f) σ H Q) : tF K B W f σ H fun x H1 => ∃ c, x = .bl c ∧ Q c H1 := by
  obtain ⟨ρ, G, s, p⟩ := h
  refine ⟨ρ, G, s, ?_⟩
  unfold fT at p
  cases e : f ρ with
  | ok d =>
    rw [e] at p
    cases d with
    | bl b => exact fun v H' G' e r => ⟨b, rep_bl.mp r, p H' G' e⟩
    | _ => exact p.elim
  | ex c n => rw [e] at p; exact p
  | no => rw [e] at p; exact p
theorem st_val {e : Expr} {f : Rho → Rs D} (h : SE X B W e f) (he : ∀ whole, isTrue e X.env whole = (do let v ← whole; standAt e.pos; holding [v] (truthy v)) := by intro _; rfl) : ST X B W e (fT f) :=
  PT.imp (pt_val h he) fun _ _ _ h => tB_of h
theorem st_cmp {a b : Expr} {op : CmpOp} {pos : Pos} {r : R2} {g : D → D → Rs D} {fa fb : Rho → Rs D} (ho : OpR X (compareOp op) r) (hg : OpD X.K r g) (ha : SE X B W a fa) (hb : SE X B W b fb) (hm : behindInMarks op b = false) :
    ST X B W (.Compare a [op] [b] pos) (fT (fOp g fa fb)) := by
  refine PT.imp (pt_cmpR ho ha hb hm) fun σ H Q h => ?_
  exact tOp_of hg (tB_of h)
theorem se_cmp {a b : Expr} {op : CmpOp} {pos : Pos} {r : R2} {g : D → D → Rs D} {fa fb : Rho → Rs D} (ho : OpR X (compareOp op) r) (hg : OpD X.K r g) (ha : SE X B W a fa) (hb : SE X B W b fb) (hm : behindInMarks op b = false) :
    SE X B W (.Compare a [op] [b] pos) (fOp g fa fb) := PE.imp (pe_cmpR ho ha hb hm) fun _ _ _ h => tOp_of hg h
theorem sw_or1 {a : Expr} {pos : Pos} {fa : Rho → Rs Bool} (ha : ST X B W a fa) : SW X B W (.BoolOp .Or [a] pos) fa := pw_or1 ha
theorem sw_or {a b : Expr} {rest : List Expr} {pos : Pos} {fa fb : Rho → Rs Bool} (ha : ST X B W a fa) (hb : SW X B W (.BoolOp .Or (b :: rest) pos) fb) : SW X B W (.BoolOp .Or (a :: b :: rest) pos) (fOr fa fb) := by
  refine PW.imp (pw_or ha hb) fun σ H Q ⟨ρ, G, s, p⟩ => ⟨ρ, G, s, ?_⟩
  unfold fOr at p
  cases e : fa ρ with
  | ok x =>
    rw [e] at p
    intro H' G' ee
    cases x with
    | true => rw [if_pos rfl]; exact (show PostT W σ G H (.ok true) Q from p) H' G' ee
    | false => rw [if_neg (by simp)]; exact ⟨ρ, G', s.ext ee, PostT.ext ee (show PostT W σ G H (fb ρ) Q from p)⟩
  | ex c n => rw [e] at p; exact p
  | no => rw [e] at p; exact p
theorem st_w {e : Expr} {f : Rho → Rs Bool} (h : SW X B W e f) : ST X B W e f := PW.pt h
theorem st_not {a : Expr} {pos : Pos} {fa : Rho → Rs Bool} (ha : ST X B W a fa) : ST X B W (.UnaryOp .Not a pos) (fNot fa) := by
  refine PT.imp (pt_not ha) fun σ H Q ⟨ρ, G, s, p⟩ => ⟨ρ, G, s, ?_⟩
  unfold fNot at p
  cases e : fa ρ with
  | ok x => rw [e] at p; exact p
  | ex c n => rw [e] at p; exact p
  | no => rw [e] at p; exact p
/-! the same as values (bools) -/
def fAndV (a b : Rho → Rs D) : Rho → Rs D := fun ρ => (a ρ).bind fun x => (toB x).bind fun c => if c = true then b ρ else .ok (.bl false)
def fNotV (a : Rho → Rs D) : Rho → Rs D := fun ρ => (a ρ).bind fun x => (toB x).bind fun c => .ok (.bl !c)
theorem se_one {op} {a : Expr} {pos : Pos} {fa : Rho → Rs D} (ha : SE X B W a fa) : SE X B W (.BoolOp op [a] pos) fa := pe_one ha
theorem se_and {a b : Expr} {rest : List Expr} {pos : Pos} {fa fb : Rho → Rs D} (ha : SE X B W a fa) (hb : SE X B W (.BoolOp .And (b :: rest) pos) fb) : SE X B W (.BoolOp .And (a :: b :: rest) pos) (fAndV fa fb) := by
  refine PE.imp (pe_and ha hb) fun σ H Q h => ?_
  obtain ⟨ρ, G, s, p⟩ := tF_bind (k := fun ρ x => (toB x).bind fun c => if c = true then fb ρ else .ok (.bl false)) h
  refine ⟨ρ, G, s, p.mono fun v H1 ⟨ρ1, G1, d, s1, r, q⟩ => ?_⟩
  cases d with
  | bl c =>
    refine ⟨c, rep_bl.mp r, ?_⟩
    cases c with
    | true => rw [if_pos rfl]; exact ⟨ρ1, G1, s1, q⟩
    | false => rw [if_neg (by simp)]; exact Post.ok s1 q (rep_bl.mpr rfl)
  | _ => exact q.elim
theorem se_not {a : Expr} {pos : Pos} {fa : Rho → Rs D} (ha : SE X B W a fa) : SE X B W (.UnaryOp .Not a pos) (fNotV fa) := by
  refine PE.imp (pe_not ha) fun σ H Q h => ?_
  obtain ⟨ρ, G, s, p⟩ := tF_bind (k := fun ρ x => (toB x).bind fun c => .ok (.bl !c)) h
  refine ⟨ρ, G, s, p.mono fun v H1 ⟨ρ1, G1, d, s1, r, q⟩ => ?_⟩
  cases d with
  | bl c => exact ⟨c, rep_bl.mp r, Post.ok s1 q (rep_bl.mpr rfl)⟩
  | _ => exact q.elim
/-! displays -/
theorem sa_nil : SA X B W [] fNil := PA.imp pa_nil fun σ H Q ⟨ρ, G, s, p⟩ => p [] H G s.ext0 (reps_nil.mpr rfl)
theorem sa_cons {e : Expr} {es : List Expr} {fe : Rho → Rs D} {fs : Rho → Rs (List D)} (ha : SE X B W e fe) (hr : SA X B W es fs) (hs : starEach (e :: es) X.env = (false, eval e X.env) :: starEach es X.env := by rfl) : SA X B W (e :: es) (fCons fe fs) := by
  refine PA.imp (pa_cons ha hr hs) fun σ H Q ⟨ρ, G, s, p⟩ => ⟨ρ, G, s, ?_⟩
  unfold fCons at p
  cases e1 : fe ρ with
  | ok d =>
    rw [e1] at p
    intro v H1 G1 x1 r1
    refine ⟨ρ, G1, s.ext x1, ?_⟩
    have p' : PostA X.K W σ G H ((fs ρ).bind fun xs => .ok (d :: xs)) Q := p
    cases e2 : fs ρ with
    | ok ds =>
      rw [e2] at p'
      intro vs H2 G2 x2 r2
      exact p' (v :: vs) H2 G2 (x1.trans x2) (reps_cons.mpr ⟨v, vs, rfl, r1.mono x2.gg, r2⟩)
    | ex c n => rw [e2] at p'; exact fun H2 G2 x2 => p' H2 G2 (x1.trans x2)
    | no => rw [e2] at p'; exact p'
  | ex c n => rw [e1] at p; exact p
  | no => rw [e1] at p; exact p
/-- a call of a known value upon data -/
def CallD (K : PySem.W.Frag) (r : List V → Hp → VK → Prop) (g : List D → Rs D) : Prop :=
  ∀ (B : Bs) (W : Wi) (σ : St) (ρ : Rho) (G H : Hp) (ds : List D) (vs : List V) (Q : VK), SR K B σ H ρ G → Reps K G ds vs → Post K W σ G H (g ds) Q → r vs H Q
theorem tA_of {t : Rho → Rs (List D)} {g : List D → Rs D} {r : List V → Hp → VK → Prop} {Q : VK} (hg : CallD K r g) (h : tF K B W (fA t g) σ H Q) : tAF K B W t σ H fun vs H1 => r vs H1 Q := by
  obtain ⟨ρ, G, s, p⟩ := h
  refine ⟨ρ, G, s, ?_⟩
  unfold fA at p
  cases e : t ρ with
  | ok ds => rw [e] at p; exact fun vs H1 G1 x r => hg B W σ ρ G1 H1 ds vs Q (s.ext x) r (Post.ext x p)
  | ex c n => rw [e] at p; exact p
  | no => rw [e] at p; exact p
def gTup : List D → Rs D := fun ds => if ds.length ≤ 1000 then .ok (.tup ds) else .no
def gLst : List D → Rs D := fun ds => if ds.length ≤ 1000 then .ok (.lst ds) else .no
theorem sz1000 {n : Nat} (h : n ≤ 1000) : n ≤ sizeLine := Nat.le_of_lt (small1000 h)
theorem se_lst {es : List Expr} {pos : Pos} {f : Rho → Rs (List D)} (h : SA X B W es f) : SE X B W (.List es pos) (fA f gLst) := by
  refine PE.imp (pe_lst h) fun σ H Q q => tA_of (r := fun xs H1 Q => xs.length ≤ sizeLine ∧ ∀ p, H1 p = none → Q (.ref p) (upd H1 p (.lst xs))) ?_ q
  intro B W σ ρ G H ds vs Q s r p
  unfold gLst at p
  by_cases hl : ds.length ≤ 1000
  · rw [if_pos hl] at p
    refine ⟨by rw [← r.length]; exact sz1000 hl, fun a ha => ?_⟩
    have x := ext_lst (xs := vs) s.en.gh s.en.tp ha
    exact p _ _ _ x (rep_lst.mpr ⟨a, vs, rfl, .of upd_same, r.mono x.gg⟩)
  · rw [if_neg hl] at p; exact p.elim

/-! indexes -/
def gIx : D → D → Rs D
  | .tup ds, .int i => match atI ds i with | some d => .ok d | none => .no
  | .lst ds, .int i => match atI ds i with | some d => .ok d | none => .no
  | _, _ => .no
theorem atI_reps {ds : List D} {vs : List V} {i : Int} {d : D} (r : Reps K G ds vs) (h : atI ds i = some d) : ∃ v, atI vs i = some v ∧ Rep K G d v := by
  unfold atI at h ⊢
  rw [← r.length]
  cases e : ixN ds.length i with
  | none => rw [e] at h; cases h
  | some j => rw [e] at h; exact r.get (i := j) h
theorem opd_ix : OpD K (rIx K) gIx := by
  intro B W σ ρ G H x y v u Q s rx ry p
  cases y <;> first | (cases x <;> exact p.elim) | skip
  rename_i i
  cases x with
  | tup ds =>
    simp only [gIx] at p
    obtain ⟨a, vs, rfl, q, rr⟩ := rep_tup.mp rx
    cases e : atI ds i with
    | none => rw [e] at p; exact p.elim
    | some d =>
      rw [e] at p
      obtain ⟨w, e2, rw'⟩ := atI_reps rr e
      exact .inr (.inl ⟨a, vs, i, w, rfl, rep_int.mp ry, Same.seqT s.en.gh q, e2, Post.ok s p rw'⟩)
  | lst ds =>
    simp only [gIx] at p
    obtain ⟨a, vs, rfl, q, rr⟩ := rep_lst.mp rx
    cases e : atI ds i with
    | none => rw [e] at p; exact p.elim
    | some d =>
      rw [e] at p
      obtain ⟨w, e2, rw'⟩ := atI_reps rr e
      exact .inl ⟨a, vs, i, w, rfl, rep_int.mp ry, s.en.gh.seq q, e2, Post.ok s p rw'⟩
  | _ => exact p.elim
theorem se_ix {a b : Expr} {pos : Pos} {fa fb : Rho → Rs D} (ha : SE X B W a fa) (hb : SE X B W b fb) (hs : PlainIx b := by intro _ _; rfl) : SE X B W (.Subscript a b pos) (fOp gIx fa fb) :=
  PE.imp (pe_ix ix_seq ha hb hs) fun _ _ _ h => tOp_of opd_ix h

/-! arithmetic -/
instance (i j : Int) : Decidable (CMul i j) := by unfold CMul; exact inferInstance
instance (i j : Int) : Decidable (CPow i j) := by unfold CPow; exact inferInstance
def CDB (i j : Int) : Prop := 0 < j ∧ j < 2 ^ 200
instance (i j : Int) : Decidable (CDB i j) := by unfold CDB; exact inferInstance
theorem CDB.py {i j : Int} (h : CDB i j) : Builtin.divisionGoesByPylong i j = false := by
  refine PyProof.noPylong_of_log2 ?_
  have h1 : j.natAbs < 2 ^ 200 := by
    have := h.1; have := h.2
    lia
  have h2 : j.natAbs.log2 < 200 := (Nat.log2_lt (by have := h.1; lia)).mpr h1
  lia
theorem op_fdivB : OpR X (binaryOp .FloorDiv) (rI CDB fun i j => .int (i / j)) := opI fun i j _ _ _ _ _ hc q => by
  have h1 := hc.1
  rw [← Int.fdiv_eq_ediv_of_nonneg i (by lia)] at q
  exact PyProof.Rows.floordiv_int (by lia) q (.inl hc.py)
def gDiv := gI CDB fun i j => D.int (i / j)
instance (i j : Int) : Decidable ((fun (_ : Int) (j : Int) => 0 < j) i j) := inferInstanceAs (Decidable (0 < j))
def gMod := gI (fun _ j => 0 < j) fun i j => D.int (i % j)
def gPow := gI CPow fun i j => D.int (i ^ j.toNat)
variable {a b : Expr} {pos : Pos} {fa fb : Rho → Rs D}
theorem se_div (ha : SE X B W a fa) (hb : SE X B W b fb) : SE X B W (.BinOp a .FloorDiv b pos) (fOp gDiv fa fb) := se_op op_fdivB (opd_I fun _ _ _ => rep_int.mpr rfl) ha hb
theorem se_mod (ha : SE X B W a fa) (hb : SE X B W b fb) : SE X B W (.BinOp a .Mod b pos) (fOp gMod fa fb) := se_op op_mod (opd_I fun _ _ _ => rep_int.mpr rfl) ha hb
theorem se_pow (ha : SE X B W a fa) (hb : SE X B W b fb) : SE X B W (.BinOp a .Pow b pos) (fOp gPow fa fb) := se_op op_pow (opd_I fun _ _ _ => rep_int.mpr rfl) ha hb
/-! a + b: ints or lists -/
def gPlus : D → D → Rs D
  | .int i, .int j => .ok (.int (i + j))
  | .lst a, .lst b => if a.length + b.length ≤ 1000000 then .ok (.lst (a ++ b)) else .no
  | _, _ => .no
theorem sz6 {n : Nat} (h : n ≤ 1000000) : n ≤ sizeLine := Nat.le_trans h (by rw [sizeLine_eq]; decide)
end
end Vl

set_option Elab.async false
set_option linter.all false
set_option maxRecDepth 100000
set_option maxHeartbeats 4000000
namespace Vl
open PySem PySem.Spec L2

section
variable {X : Cx} {K : PySem.W.Frag} {B : Bs} {W : Wi} {σ : St} {G H : Hp} {ρ : Rho} {a b : Expr} {pos : Pos} {fa fb : Rho → Rs D}
/-! list + list -/
def rCatS (K : PySem.W.Frag) : R2 := fun x y H Q => ∃ l b xs zs, x = .ref l ∧ y = .ref b ∧ SqL K H l xs ∧ SqL K H b zs ∧ xs.length + zs.length ≤ sizeLine ∧ ∀ p, H p = none → Q (.ref p) (upd H p (.lst (xs ++ zs)))
open PyProof.Rows in
theorem op_catS : OpR X (binaryOp .Add) (rCatS X.K) := by
  intro pins s σ H x y v u Q I rx ry h
  obtain ⟨l, b, xs, zs, rfl, rfl, hH, hB, hz, q⟩ := h
  cases rx
  cases ry
  obtain ⟨vs, r, pl, _⟩ := I.list hH
  obtain ⟨ws, r2, pl2, _⟩ := I.list hB
  obtain ⟨⟨cls, dd, data, sl⟩, ho, hc, n, hd⟩ := pl.isList
  obtain ⟨⟨cls2, dd2, data2, sl2⟩, ho2, hc2, n2, hd2⟩ := pl2.isList
  simp only at hc hd hc2 hd2
  subst hc hd hc2 hd2
  have e : vs.toArray ++ ws.toArray = (vs ++ ws).toArray := by simp
  have l1 := r.length
  have l2 := r2.length
  refine concat_meets ⟨_, ho, rfl⟩ ⟨_, ho2, rfl⟩ noFill_list_add seq_list_add PySem.F.slot_list_add PySem.F.entry_list_add (PySem.F.args_list_add_2 _ _) (list_addW l b vs.toArray ws.toArray n n2 dd dd2 sl sl2 (by simp only [List.size_toArray]; lia)) ⟨ho, ho2, ?_⟩
  rw [e]
  exact ⟨.ref _, _, I.lnew (t' := s.toks) (r.append r2) (by rw [List.length_append]; lia), rfl, q _ I.fresh⟩
theorem op_plus : OpR X (binaryOp .Add) (fun x y H Q => rI0 (fun i j => V.int (i + j)) x y H Q ∨ rCatS X.K x y H Q) := op_add.or op_catS
theorem opd_plus : OpD K (fun x y H Q => rI0 (fun i j => V.int (i + j)) x y H Q ∨ rCatS K x y H Q) gPlus := by
  intro B W σ ρ G H x y v u Q s rx ry p
  cases x with
  | int i =>
    cases y with
    | int j => exact .inl ⟨i, j, rep_int.mp rx, rep_int.mp ry, Post.ok s p (rep_int.mpr rfl)⟩
    | _ => exact p.elim
  | lst ds =>
    cases y with
    | lst es =>
      simp only [gPlus] at p
      by_cases hl : ds.length + es.length ≤ 1000000
      · rw [if_pos hl] at p
        obtain ⟨a, vs, rfl, q, r⟩ := rep_lst.mp rx
        obtain ⟨b, us, rfl, q', r'⟩ := rep_lst.mp ry
        refine .inr ⟨a, b, vs, us, rfl, rfl, s.en.gh.seq q, s.en.gh.seq q', by rw [← r.length, ← r'.length]; exact sz6 hl, fun c hc => ?_⟩
        have x := ext_lst (xs := vs ++ us) s.en.gh s.en.tp hc
        exact p _ _ _ x (rep_lst.mpr ⟨c, vs ++ us, rfl, .of upd_same, (r.append r').mono x.gg⟩)
      · rw [if_neg hl] at p; exact p.elim
    | _ => exact p.elim
  | _ => cases y <;> exact p.elim
theorem se_add (ha : SE X B W a fa) (hb : SE X B W b fb) : SE X B W (.BinOp a .Add b pos) (fOp gPlus fa fb) := se_op op_plus opd_plus ha hb

/-! a[lo:hi] of a list -/
def toI : D → Rs Int
  | .int i => .ok i
  | _ => .no
def cutD (xs : List D) (lo hi : Option Int) : List D := (xs.drop (HT.sIx xs.length 0 lo)).take (HT.sIx xs.length xs.length hi - HT.sIx xs.length 0 lo)
theorem cut_reps {ds : List D} {vs : List V} {lo hi : Option Int} (r : Reps K G ds vs) : Reps K G (cutD ds lo hi) (cutV vs lo hi) := by
  unfold cutD cutV
  rw [r.length]
  exact (r.drop _).take _
def gSl (lo hi : Option Int) : D → Rs D
  | .lst ds => .ok (.lst (cutD ds lo hi))
  | _ => .no
def PostO (W : Wi) (σ : St) (G H : Hp) (r : Rs (Option Int)) (Q : Option Int → Hp → Prop) : Prop :=
  match r with
  | .ok b => ∀ H' G', Ext G H G' H' → Q b H'
  | .ex c n => ∀ H' G', Ext G H G' H' → W c n σ H'
  | .no => False
def tO (K : PySem.W.Frag) (B : Bs) (W : Wi) (f : Rho → Rs (Option Int)) : TO := fun σ H Q => ∃ ρ G, SR K B σ H ρ G ∧ PostO W σ G H (f ρ) Q
def SO (X : Cx) (B : Bs) (W : Wi) (e : Option Expr) (f : Rho → Rs (Option Int)) : Prop := PO X e (tO X.K B W f)
def fNoP : Rho → Rs (Option Int) := fun _ => .ok none
def fP (f : Rho → Rs D) : Rho → Rs (Option Int) := fun ρ => (f ρ).bind fun d => (toI d).bind fun i => .ok (some i)
theorem PO.imp {e : Option Expr} {t t' : TO} (h : PO X e t) (i : ∀ σ H Q, t' σ H Q → t σ H Q) : PO X e t' := fun pins s σ H Q I q => h pins s σ H Q I (i σ H Q q)
theorem so_none : SO X B W none fNoP := PO.imp po_none fun σ H Q ⟨ρ, G, s, p⟩ => p H G s.ext0
theorem so_some {e : Expr} {f : Rho → Rs D} (h : SE X B W e f) : SO X B W (some e) (fP f) := by
  refine PO.imp (po_some h) fun σ H Q ⟨ρ, G, s, p⟩ => ⟨ρ, G, s, ?_⟩
  unfold fP at p
  cases e1 : f ρ with
  | ok d =>
    rw [e1] at p
    cases d with
    | int i => exact fun w H' G' e r' => ⟨i, rep_int.mp r', p H' G' e⟩
    | _ => exact p.elim
  | ex c n => rw [e1] at p; exact p
  | no => rw [e1] at p; exact p
def fSl (fe : Rho → Rs D) (fl fh : Rho → Rs (Option Int)) : Rho → Rs D := fun ρ => (fe ρ).bind fun x => (fl ρ).bind fun l => (fh ρ).bind fun h => gSl l h x
theorem sl_fin {x : D} {v : V} {l h : Option Int} {Q : VK} (s : SR K B σ H ρ G) (r : Rep K G x v) (p : Post K W σ G H (gSl l h x) Q) : rSlL K v l h H Q := by
  cases x with
  | lst ds =>
    obtain ⟨a, vs, rfl, q, rr⟩ := rep_lst.mp r
    refine ⟨a, vs, rfl, s.en.gh.seq q, fun c hc => ?_⟩
    have x := ext_lst (xs := cutV vs l h) s.en.gh s.en.tp hc
    exact p _ _ _ x (rep_lst.mpr ⟨c, _, rfl, .of upd_same, (cut_reps rr).mono x.gg⟩)
  | _ => exact p.elim
theorem se_slice {e : Expr} {lo hi : Option Expr} {p2 : Pos} {fe : Rho → Rs D} {fl fh : Rho → Rs (Option Int)} (he : SE X B W e fe) (hl : SO X B W lo fl) (hh : SO X B W hi fh) :
    SE X B W (.Subscript e (.Slice lo hi none p2) pos) (fSl fe fl fh) := by
  refine PE.imp (pe_slice sl_list he hl hh) fun σ H Q h => ?_
  obtain ⟨ρ, G, s, p⟩ := tF_bind (k := fun ρ x => (fl ρ).bind fun l => (fh ρ).bind fun h => gSl l h x) h
  refine ⟨ρ, G, s, p.mono fun v H1 ⟨ρ1, G1, d, s1, r, q⟩ => ⟨ρ1, G1, s1, ?_⟩⟩
  cases e1 : fl ρ1 with
  | ok l =>
    rw [e1] at q
    intro H2 G2 x2
    have q' : Post X.K W σ G1 H1 ((fh ρ1).bind fun h => gSl l h d) Q := q
    refine ⟨ρ1, G2, s1.ext x2, ?_⟩
    cases e2 : fh ρ1 with
    | ok h =>
      rw [e2] at q'
      exact fun H3 G3 x3 => sl_fin ((s1.ext x2).ext x3) ((r.mono x2.gg).mono x3.gg) (Post.ext (x2.trans x3) q')
    | ex c n => rw [e2] at q'; exact fun H3 G3 x3 => q' H3 G3 (x2.trans x3)
    | no => rw [e2] at q'; exact q'
  | ex c n => rw [e1] at q; exact q
  | no => rw [e1] at q; exact q

/-! ### calls of Python's own -/
variable {x : Str} {p : Pos} {e : Expr} {es : List Expr} {id T : String} {r : List V → Hp → VK → Prop} {g : List D → Rs D} {fs : Rho → Rs (List D)}
theorem se_callB (hc : CallR X (.builtin id) r) (hd : CallD X.K r g) (hg : Gl X x) (hm : X.mg x = none) (hv : bootBuiltins x = some (.builtin id)) (ha : SA X B W (e :: es) fs) (hn : x ≠ "__name__" := by decide) (hdb : (x == ("__debug__" : Str)) = false := by decide)
    (he : starEach (e :: es) X.env = (false, eval e X.env) :: starEach es X.env := by rfl) (hpl : (backTo pos (starEach es X.env)).any (·.1) = false := by rfl) : SE X B W (.Call (.Name x p) (e :: es) [] pos) (fA fs g) :=
  PE.imp (pe_callB hc hg hm hv ha hn hdb he hpl) fun _ _ _ h => tA_of hd h
def gLen : List D → Rs D
  | [.lst ds] => .ok (.int ds.length)
  | [.tup ds] => .ok (.int ds.length)
  | _ => .no
theorem cd_len : CallD K (fun xs H Q => ∃ p ys, xs = [.ref p] ∧ (SqL K H p ys ∨ SqT K H p ys) ∧ Q (.int ys.length) H) gLen := by
  intro B W σ ρ G H ds vs Q s r p
  match ds, p with
  | [.lst ds], p =>
    obtain ⟨v, vs', rfl, r1, r2⟩ := reps_cons.mp r
    obtain ⟨a, us, rfl, q, rr⟩ := rep_lst.mp r1
    rw [reps_nil.mp r2]
    refine ⟨a, us, rfl, .inl (s.en.gh.seq q), Post.ok s p ?_⟩
    rw [← rr.length]; exact rep_int.mpr rfl
  | [.tup ds], p =>
    obtain ⟨v, vs', rfl, r1, r2⟩ := reps_cons.mp r
    obtain ⟨a, us, rfl, q, rr⟩ := rep_tup.mp r1
    rw [reps_nil.mp r2]
    refine ⟨a, us, rfl, .inr (Same.seqT s.en.gh q), Post.ok s p ?_⟩
    rw [← rr.length]; exact rep_int.mpr rfl
  | [], p => exact p.elim
  | [.non], p => exact p.elim
  | [.bl _], p => exact p.elim
  | [.int _], p => exact p.elim
  | [.str _], p => exact p.elim
  | [.exn _ _], p => exact p.elim
  | [.dic _ _], p => exact p.elim
  | [.fn _], p => exact p.elim
  | [.obj _ _ _], p => exact p.elim
  | _ :: _ :: _, p => exact (by simp only [gLen] at p; exact p.elim)
theorem se_len (hm : X.mg "len" = none) (ha : SE X B W e fa) (hg : Gl X "len" := by rfl) (he : starEach [e] X.env = [(false, eval e X.env)] := by rfl) : SE X B W (.Call (.Name "len" p) [e] [] pos) (fA (fCons fa fNil) gLen) :=
  se_callB call_len_seq cd_len hg hm PySem.boot_len (sa_cons ha sa_nil he)  (by decide) (by decide) he rfl
end
end Vl

set_option Elab.async false
set_option linter.all false
set_option maxRecDepth 100000
set_option maxHeartbeats 4000000
namespace Vl
open PySem PySem.Spec L2

inductive Ou where
  | nx (ρ : Rho) | rt (d : D) | bk (ρ : Rho) | ct (ρ : Rho) | ex (c : Str) (n : Int) (ρ : Rho) | no | rx (d : D) (ρ : Rho) | rl (ds : List D)
def PostS (K : PySem.W.Frag) (B : Bs) (W : Wi) (G : Hp) (o : Ou) (De : Ends) : Prop :=
  match o with
  | .nx ρ' => ∀ σ' H' G', SR K B σ' H' ρ' G' → Same G G' → De.nx σ' H'
  | .bk ρ' => ∀ σ' H' G', SR K B σ' H' ρ' G' → Same G G' → De.bk σ' H'
  | .ct ρ' => ∀ σ' H' G', SR K B σ' H' ρ' G' → Same G G' → De.ct σ' H'
  | .rt d => ∀ v H' G', Ext B.1 B.2 G' H' → Same G G' → Rep K G' d v → De.rt v H'
  | .ex c n ρ' => ∀ σ' H' G', SR K B σ' H' ρ' G' → Same G G' → W c n σ' H'
  | .no => False
  | .rx d ρ' => ∀ v σ' H' G', SR K B σ' H' ρ' G' → Same G G' → Rep K G' d v → De.rt v H'
  | .rl ds => ∀ a ws H' G', Ext B.1 B.2 G' H' → Same G G' → G' a = none → B.2 a = none → H' a = some (.lst ws) → Reps K G' ds ws → De.rt (.ref a) H'
def tS (K : PySem.W.Frag) (B : Bs) (W : Wi) (g : Rho → Ou) : TS := fun De σ H => ∃ ρ G, SR K B σ H ρ G ∧ PostS K B W G (g ρ) De
def SS (X : Cx) (B : Bs) (W : Wi) (st : Stmt) (g : Rho → Ou) : Prop := PS X st (tS X.K B W g)
def SSs (X : Cx) (B : Bs) (W : Wi) (st : List Stmt) (g : Rho → Ou) : Prop := PSs X st (tS X.K B W g)

def oSeq (o : Ou) (k : Rho → Ou) : Ou := match o with
  | .nx ρ => k ρ
  | o => o
def oR {α : Type} (r : Rs α) (ρ : Rho) (k : α → Ou) : Ou := match r with
  | .ok a => k a
  | .ex c n => .ex c n ρ
  | .no => .no

section
variable {X : Cx} {K : PySem.W.Frag} {B : Bs} {W : Wi} {σ : St} {G G' H : Hp} {ρ : Rho} {De De' : Ends}
theorem PostS.same {o : Ou} (h : PostS K B W G o De) (e : Same G G') : PostS K B W G' o De := by
  cases o with
  | nx ρ' => exact fun σ' H' G'' s q => h σ' H' G'' s (e.trans q)
  | bk ρ' => exact fun σ' H' G'' s q => h σ' H' G'' s (e.trans q)
  | ct ρ' => exact fun σ' H' G'' s q => h σ' H' G'' s (e.trans q)
  | rt d => exact fun v H' G'' x q => h v H' G'' x (e.trans q)
  | ex c n ρ' => exact fun σ' H' G'' s q => h σ' H' G'' s (e.trans q)
  | no => exact h
  | rx d ρ' => exact fun v σ' H' G'' s q => h v σ' H' G'' s (e.trans q)
  | rl ds => exact fun a ws H' G'' s q => h a ws H' G'' s (e.trans q)
/-- an expression first -/
theorem post_of {r : Rs D} {k : D → Ou} {Q : VK} (s : SR K B σ H ρ G) (p : PostS K B W G (oR r ρ k) De) (h : ∀ d v H' G', r = .ok d → Ext G H G' H' → Rep K G' d v → PostS K B W G' (k d) De → Q v H') : Post K W σ G H r Q := by
  cases r with
  | ok d => exact fun v H' G' e r => h d v H' G' rfl e r (PostS.same p e.gg)
  | ex c n => exact fun H' G' e => p σ H' G' (s.ext e) e.gg
  | no => exact p

theorem ss_nil : SSs X B W [] .nx := PSs.imp pss_nil fun De σ H ⟨ρ, G, s, p⟩ => p σ H G s (.refl _)
theorem ss_cons {st : Stmt} {rest : List Stmt} {g k : Rho → Ou} (h1 : SS X B W st g) (h2 : SSs X B W rest k) : SSs X B W (st :: rest) (fun ρ => oSeq (g ρ) k) := by
  refine PSs.imp (pss_cons h1 h2) fun De σ H ⟨ρ, G, s, p⟩ => ⟨ρ, G, s, ?_⟩
  dsimp only at p
  cases e : g ρ with
  | nx ρ' => rw [e] at p; exact fun σ' H' G' s' q => ⟨ρ', G', s', PostS.same (show PostS X.K B W G (k ρ') De from p) q⟩
  | bk ρ' => rw [e] at p; exact p
  | ct ρ' => rw [e] at p; exact p
  | rt d => rw [e] at p; exact p
  | ex c n ρ' => rw [e] at p; exact p
  | no => rw [e] at p; exact p
  | rx d ρ' => rw [e] at p; exact p
  | rl ds => rw [e] at p; exact p
theorem ss_one {st : Stmt} {g : Rho → Ou} (h1 : SS X B W st g) : SSs X B W [st] g := pss_one h1
theorem ss_ret {e : Expr} {pos} {f : Rho → Rs D} (h : SE X B W e f) : SS X B W (.Return (some e) pos) (fun ρ => oR (f ρ) ρ .rt) :=
  PS.imp (ps_ret h) fun De σ H ⟨ρ, G, s, p⟩ => ⟨ρ, G, s, post_of s p fun d v H' G' _ e r q => q v H' G' (s.en.trans e) (.refl _) r⟩
theorem ss_if {c : Expr} {a b : List Stmt} {pos : Pos} {fc : Rho → Rs Bool} {ga gb : Rho → Ou} (hc : ST X B W c fc) (ha : SSs X B W a ga) (hb : SSs X B W b gb) : SS X B W (.If c a b pos) (fun ρ => oR (fc ρ) ρ fun x => if x = true then ga ρ else gb ρ) := by
  refine PS.imp (ps_if hc ha hb) fun De σ H ⟨ρ, G, s, p⟩ => ⟨ρ, G, s, ?_⟩
  dsimp only at p
  cases e : fc ρ with
  | ok x =>
    rw [e] at p
    intro H' G' ee
    have p' : PostS X.K B W G (if x = true then ga ρ else gb ρ) De := p
    cases x with
    | true => rw [if_pos rfl] at p' ⊢; exact ⟨ρ, G', s.ext ee, p'.same ee.gg⟩
    | false => rw [if_neg (by simp)] at p' ⊢; exact ⟨ρ, G', s.ext ee, p'.same ee.gg⟩
  | ex c n => rw [e] at p; exact fun H' G' ee => p σ H' G' (s.ext ee) ee.gg
  | no => rw [e] at p; exact p

/-! targets -/
abbrev Tg := D → Rho → Option Rho
def tG (K : PySem.W.Frag) (B : Bs) (h : Tg) : TG := fun v σ H Q => ∃ ρ G d, SR K B σ H ρ G ∧ Rep K G d v ∧ ∃ ρ', h d ρ = some ρ' ∧ ∀ σ', SR K B σ' H ρ' G → Q σ' H
def SG (X : Cx) (B : Bs) (tg : Expr) (h : Tg) : Prop := PG X tg (tG X.K B h)
theorem PG.imp {e : Expr} {t t' : TG} (h : PG X e t) (i : ∀ v σ H Q, t' v σ H Q → t v σ H Q) : PG X e t' := fun pins s σ H v u Q I r q => h pins s σ H v u Q I r (i v σ H Q q)
def hName (i : Nat) : Tg := fun d ρ => some (ρ.set i (.fz d))
theorem sg_name {i : Nat} {x : Str} {pos : Pos} (hN : X.N.Nodup) (hi : X.N[i]? = some x) (hx : Loc X.env.scope x) (hf : X.fn x = true ∨ X.env.scope.names.lookup x = some .local := by first | exact .inl rfl | exact .inr rfl | assumption) : SG X B (.Name x pos) (hName i) :=
  PG.imp (pg_name hN hi hx hf) fun v σ H Q ⟨ρ, G, d, s, r, ρ', e, q⟩ => by
    cases e
    exact q _ (s.set r)
theorem ss_set {i : Nat} {x : Str} {e : Expr} {pos pos' : Pos} {f : Rho → Rs D} (hN : X.N.Nodup) (hi : X.N[i]? = some x) (hx : Loc X.env.scope x) (he : SE X B W e f) (hs : swapsWith e (some (.Name x pos')) pos.line X.env = pure false := by rfl) (hf : X.fn x = true ∨ X.env.scope.names.lookup x = some .local := by first | exact .inl rfl | exact .inr rfl | assumption) :
    SS X B W (.Assign [.Name x pos'] e pos) (fun ρ => oR (f ρ) ρ fun d => .nx (ρ.set i (.fz d))) :=
  PS.imp (ps_set hN hi hx he hs hf) fun De σ H ⟨ρ, G, s, p⟩ => ⟨ρ, G, s, post_of s p fun d v H' G' _ e r q => q _ H' G' ((s.ext e).set r) (.refl _)⟩

/-! own lists -/
def frz (i : Nat) (ρ : Rho) : Rho := match ρ[i]? with | some (.ow ds) => ρ.set i (.fz (.lst ds)) | _ => ρ
end
end Vl

set_option Elab.async false
set_option linter.all false
set_option maxRecDepth 100000
set_option maxHeartbeats 4000000
namespace Vl
open PySem PySem.Spec L2

/-! ### for -/
def forD (h : Tg) (gb : Rho → Ou) : List D → Rho → Ou
  | [], ρ => .nx ρ
  | d :: ds, ρ => match h d ρ with
    | none => .no
    | some ρ1 => match gb ρ1 with
      | .nx ρ2 => forD h gb ds ρ2
      | .ct ρ2 => forD h gb ds ρ2
      | .bk ρ2 => .nx ρ2
      | o => o
def WF : Wi := fun _ _ _ _ => False
section
variable {X : Cx} {K : PySem.W.Frag} {B : Bs} {W : Wi} {σ : St} {G G' H : Hp} {ρ : Rho} {De De' : Ends}
/-- one turn -/
theorem for_turn {h : Tg} {gb : Rho → Ou} {d : D} {ds : List D} {v : V} {Pv : St → Hp → Prop} (s : SR K B σ H ρ G) (r : Rep K G d v) (p : PostS K B W G (forD h gb (d :: ds) ρ) De)
    (hP : ∀ σ' H' ρ' G', SR K B σ' H' ρ' G' → Same G G' → PostS K B W G' (forD h gb ds ρ') De → Pv σ' H') :
    tG K B h v σ H fun σ2 H2 => tS K B W gb { De with nx := Pv, ct := Pv, bk := De.nx } σ2 H2 := by
  unfold forD at p
  cases e : h d ρ with
  | none => rw [e] at p; exact p.elim
  | some ρ1 =>
    rw [e] at p
    refine ⟨ρ, G, d, s, r, ρ1, e, fun σ1 s1 => ⟨ρ1, G, s1, ?_⟩⟩
    dsimp only at p
    cases e2 : gb ρ1 with
    | nx ρ2 => rw [e2] at p; exact fun σ' H' G' s' q => hP σ' H' ρ2 G' s' q (PostS.same p q)
    | ct ρ2 => rw [e2] at p; exact fun σ' H' G' s' q => hP σ' H' ρ2 G' s' q (PostS.same p q)
    | bk ρ2 => rw [e2] at p; exact p
    | rt d => rw [e2] at p; exact p
    | ex c n ρ2 => rw [e2] at p; exact p
    | no => rw [e2] at p; exact p
    | rx d ρ2 => rw [e2] at p; exact p
    | rl ds => rw [e2] at p; exact p
def gForL (h : Tg) (gb : Rho → Ou) (f : Rho → Rs D) : Rho → Ou := fun ρ => oR (f ρ) ρ fun d => match d with | .lst ds => forD h gb ds ρ | _ => .no
def gForR (h : Tg) (gb : Rho → Ou) (f : Rho → Rs D) : Rho → Ou := fun ρ => oR (f ρ) ρ fun d => match d with | .int n => if -(2 ^ 62) ≤ n ∧ n < 2 ^ 62 then forD h gb ((List.range n.toNat).map fun (i : Nat) => .int i) ρ else .no | _ => .no
theorem ss_forL {tg iter : Expr} {body : List Stmt} {pos : Pos} {f : Rho → Rs D} {h : Tg} {gb : Rho → Ou} (hp : PassesOwn (model X.prog X.w) X.A X.env X.xe) (hc : X.calm = true) (hi : SE X B W iter f) (hg : SG X B tg h) (hb : SSs X B W body gb)
    (hs : ∀ x, foldedSetIterable iter X.env x = pure x := by intro _; rfl) : SS X B W (.For tg iter body [] pos) (gForL h gb f) := by
  refine PS.imp (ps_for hp hc (pi_list hi) hg hb hs) fun De σ H hq9 => ?_
  obtain ⟨ρ, G, s, p⟩ := hq9
  refine ⟨ρ, G, s, post_of s p fun d v H1 G1 _ e r p1 => ?_⟩
  cases d with
  | lst ds =>
    obtain ⟨a, vs, rfl, q, rr⟩ := rep_lst.mp r
    refine ⟨a, rfl, ⟨vs, e.gh.seq q⟩, for_list (fun i σ H => ∃ ρ G, SR X.K B σ H ρ G ∧ SqL X.K G a vs ∧ Reps X.K G ds vs ∧ PostS X.K B W G (forD h gb (ds.drop i) ρ) De) ⟨ρ, G1, s.ext e, q, rr, by simpa using p1⟩ (fun i σ H _ ⟨ρ, G, s, q, _⟩ => s.en.gh.seq q) ?_ ?_⟩
    · rintro i x σ2 H2 hx ⟨ρ2, G2, s2, q2, r2, p2⟩
      obtain ⟨d, hd, rd⟩ := r2.get' hx
      have hl := (List.getElem?_eq_some_iff.mp hd).1
      rw [List.drop_eq_getElem_cons hl, (List.getElem?_eq_some_iff.mp hd).2] at p2
      exact for_turn s2 rd p2 fun σ' H' ρ' G' s' q' p' => ⟨ρ', G', s', q'.seq q2, r2.mono q', p'⟩
    · rintro σ2 H2 ⟨ρ2, G2, s2, q2, r2, p2⟩
      rw [← r2.length, List.drop_length] at p2
      exact p2 σ2 H2 G2 s2 (.refl _)
  | _ => exact p1.elim
theorem range_walk {h : Tg} {gb : Rho → Ou} {lo : Int} {n : Nat} (s : SR K B σ H ρ G) (p : PostS K B W G (forD h gb ((List.range n).map fun (i : Nat) => .int (lo + i)) ρ) De) :
    ∃ W0 : Nat → Nat → St → Hp → Prop, (∃ m, W0 0 m σ H) ∧ ∀ i m σ H, W0 i m σ H →
      ((Itr lo n).stop i H ∧ De.nx σ H) ∨ ((Itr lo n).go i H ∧ ∃ N : St → Hp → Prop, (∀ σ' H', N σ' H' → ∃ m', m' < m ∧ W0 (i + 1) m' σ' H') ∧ ∀ x H', (Itr lo n).yld i H x H' → tG K B h x σ H' fun σ2 H2 => tS K B W gb { De with nx := N, ct := N, bk := De.nx } σ2 H2) := by
  refine for_range (fun i σ H => ∃ ρ G, SR K B σ H ρ G ∧ PostS K B W G (forD h gb (((List.range n).map fun (i : Nat) => D.int (lo + i)).drop i) ρ) De) ⟨ρ, G, s, by simpa using p⟩ ?_ ?_
  · rintro i σ2 H2 hi ⟨ρ2, G2, s2, p2⟩
    have hl : i < ((List.range n).map fun (i : Nat) => D.int (lo + i)).length := by simpa using hi
    rw [List.drop_eq_getElem_cons hl] at p2
    rw [show ((List.range n).map fun (i : Nat) => D.int (lo + i))[i] = D.int (lo + i) by simp] at p2
    exact for_turn s2 (rep_int.mpr rfl) p2 fun σ' H' ρ' G' s' q' p' => ⟨ρ', G', s', p'⟩
  · rintro σ2 H2 ⟨ρ2, G2, s2, p2⟩
    rw [List.drop_eq_nil_of_le (by simp)] at p2
    exact p2 σ2 H2 G2 s2 (.refl _)
theorem ss_forR {tg e : Expr} {body : List Stmt} {pos p1 p2 : Pos} {f : Rho → Rs D} {h : Tg} {gb : Rho → Ou} (hp : PassesOwn (model X.prog X.w) X.A X.env X.xe) (hc : X.calm = true) (hm : X.mg "range" = none) (hi : SE X B W e f) (hg : SG X B tg h) (hb : SSs X B W body gb)
    (hgl : Gl X "range" := by rfl) (hst : starEach [e] X.env = [(false, eval e X.env)] := by rfl)
    (hs : ∀ x, foldedSetIterable (.Call (.Name "range" p1) [e] [] p2) X.env x = pure x := by intro _; rfl) : SS X B W (.For tg (.Call (.Name "range" p1) [e] [] p2) body [] pos) (gForR h gb f) := by
  refine PS.imp (ps_for hp hc (pi_range1 hgl hm (pa_cons hi pa_nil (by rw [hst]; rfl)) hst) hg hb hs) fun De σ H hq9 => ?_
  obtain ⟨ρ, G, s, p⟩ := hq9
  refine ⟨ρ, G, s, post_of s p fun d v H1 G1 _ e r p1 => ?_⟩
  cases d with
  | int n =>
    dsimp only at p1
    by_cases c : -(2 ^ 62) ≤ n ∧ n < 2 ^ 62
    · rw [if_pos c] at p1
      refine ⟨n, by rw [rep_int.mp r], c.1, c.2, range_walk (s.ext e) ?_⟩
      simpa using p1
    · rw [if_neg c] at p1; exact p1.elim
  | _ => exact p1.elim
/-! ### code that raises nothing -/
def noEx : Ou → Ou
  | .ex _ _ _ => .no
  | o => o
theorem noEx_post {o : Ou} (p : PostS K B W G (noEx o) De) : PostS K B WF G o De := by
  cases o with
  | ex c n ρ => exact p.elim
  | _ => exact p
theorem PS.nox {st : Stmt} {t : TS} (h : PS X.nox st t) : PS X st t := fun pins s σ H D I hw =>
  wpAny_mono (h pins s σ H D (I.wish _) hw) (fun _ _ q => q.unwish) fun _ _ z => False.elim z
theorem ss_nox {st : Stmt} {g : Rho → Ou} (h : SS X.nox B WF st g) : SS X B W st (fun ρ => noEx (g ρ)) :=
  PS.imp (PS.nox h) fun De σ H ⟨ρ, G, s, p⟩ => ⟨ρ, G, s, noEx_post p⟩
/-! ### defs -/
def zig (n : Int) : Nat := if 0 ≤ n then 2 * n.toNat else 2 * (-n).toNat + 1
def enc (c : Str) (n : Int) : Value := .str c (zig n)
def RP (K : PySem.W.Frag) (G H : Hp) (Q : VK) (E : XK) (r : Rs D) : Prop := match r with
  | .ok d => ∀ v H' G', Ext G H G' H' → Rep K G' d v → Q v H'
  | .ex c n => ∀ H' G', Ext G H G' H' → E (enc c n) none H'
  | .no => False
def spV (K : PySem.W.Frag) (k : Nat) (g : List D → Rs D) : Sp := fun vs H Q E => vs.length = k ∧ ∃ G ds, Ex0 K G H ∧ Reps K G ds vs ∧ RP K G H Q E (g ds)
def fin : Ou → Rs D
  | .nx _ => .ok .non
  | .rt d => .ok d
  | .ex c n _ => .ex c n
  | _ => .no
def noExR {α : Type} : Rs α → Rs α
  | .ex _ _ => .no
  | o => o
def startR (N : List Str) (ds : List D) : Rho := ds.map .fz ++ List.replicate (N.length - ds.length) .no
theorem sr_start {N : List Str} {ds : List D} {vs : List V} (e : Ex0 K G H) (r : Reps K G ds vs) : SR K ⟨G, H, 0⟩ (L2.start N vs) H (startR N ds) G := by
  have no_ow : ∀ (i : Nat) (z : Sl), (startR N ds)[i]? = some z → z.own = true → False := fun i z q w => by
    unfold startR at q
    by_cases hi : i < (ds.map Sl.fz).length
    · rw [List.getElem?_append_left hi, List.getElem?_map] at q
      cases e1 : ds[i]? with
      | none => rw [e1] at q; cases q
      | some d => rw [e1] at q; cases q; cases w
    · rw [List.getElem?_append_right (by lia), List.getElem?_replicate] at q
      split at q <;> cases q
      cases w
  refine ⟨e.toExt, ?_, fun i d q => ?_, fun i z q w => (no_ow i z q w).elim, fun i j z z' a q w => (no_ow i z q w).elim, fun i ds a q => (no_ow i _ q rfl).elim, e.co⟩
  · unfold startR L2.start
    simp [r.length]
  · unfold startR at q
    unfold L2.start
    by_cases hi : i < (ds.map Sl.fz).length
    · rw [List.getElem?_append_left hi, List.getElem?_map] at q
      cases e1 : ds[i]? with
      | none => rw [e1] at q; cases q
      | some d' =>
        rw [e1] at q
        cases q
        obtain ⟨v, h1, h2⟩ := r.get e1
        refine ⟨v, ?_, h2⟩
        rw [List.getElem?_append_left (by rw [List.length_map, ← r.length]; simpa using hi), List.getElem?_map, h1]
        rfl
    · rw [List.getElem?_append_right (by lia), List.getElem?_replicate] at q
      split at q <;> cases q
theorem fin_post {o : Ou} {Q : VK} {E : XK} (h : RP K B.1 B.2 Q E (fin o)) : PostS K B (fun c n _ H' => E (enc c n) none H') G o { nx := fun _ H' => Q .non H', rt := Q } := by
  cases o with
  | nx ρ' => exact fun σ' H' G' s q => h .non H' G' s.en (rep_non.mpr rfl)
  | rt d => exact fun v H' G' x q r => h v H' G' x r
  | ex c n ρ' => exact fun σ' H' G' s q => h H' G' s.en
  | bk _ => exact h.elim
  | ct _ => exact h.elim
  | no => exact h.elim
  | rx _ _ => exact h.elim
  | rl _ => exact h.elim
section
variable {P : Program} {w : World} {mg : Str → Option Value} {base : Heap} {x qual : Str} {st : Stmt} {f : Addr} {fd : FuncData} {N ps : List Str} {k : Nat}
end
end
end Vl

set_option Elab.async false
set_option linter.all false
set_option maxRecDepth 100000
set_option maxHeartbeats 4000000
namespace Vl
open PySem PySem.Spec L2

/-! ### comprehensions -/
theorem compLoop_gen {prog : Program} {w : World} {A : Around} {s : Shared} {R : Result → Shared → Prop} {elt target iter : Expr} {ifs : List Expr} {scope : Scope} {pos : Pos} {it acc : Value} {env : Env} (J : Nat → Shared → Prop)
    (turn : ∀ k t, J k t → wpAny (model prog w) A (pyNext it) (fun o t1 => match o with
      | none => R (.ok .next) t1
      | some x => wpAny (model prog w) A (letOwnedTupleGo target it x) (fun _ t2 => wpAny (model prog w) A (assign target env x) (fun _ t3 =>
          wpAny (model prog w) A (forIn ifs true fun c go => if go = true then do { let y ← isTrue c env (eval c env); pure (ForInStep.yield y) } else pure (ForInStep.yield go)) (fun yes t4 =>
            if yes = true then wpAny (model prog w) A (eval elt env) (fun y t5 =>
              wpAny (model prog w) A (call (.builtin "list.append") [acc, y]) (fun _ t6 => ∃ j, j < k ∧ J j t6) (fun _ _ => False) t5) (notedBy (model prog w) A env fun x t' => R (.error x) t') t4
            else ∃ j, j < k ∧ J j t4) (fun _ _ => False) t3) (fun _ _ => False) t2) (fun _ _ => False) t1) (fun _ _ => False) t)
    (n : Nat) (h : J n s) : codeAny (model prog w) A (.compLoop (.ListComp elt [⟨target, iter, ifs, 0⟩] scope pos) 0 it acc env) R s := by
  refine codeAny_loop rfl J (fun k t hJ => ?_) n h
  show wpAny _ A (Sem.onRaise (compTurn (.ListComp elt [⟨target, iter, ifs, 0⟩] scope pos) 0 it acc env) (fun x => do noteFrame x env; theTreesLotGoes x)) _ _ t
  refine wpAny_noted ?_
  rw [compTurn_list]
  refine wpAny_bind (wpAny_standAt (wpAny_bind (wpAny_mono (turn k t hJ) (fun o t1 g1 => ?_) fun _ _ z => z.elim)))
  cases o with
  | none => exact wpAny_pure g1
  | some x =>
    refine wpAny_bind (wpAny_mono g1 (fun _ t2 g2 => ?_) fun _ _ z => z.elim)
    refine wpAny_bind (wpAny_mono g2 (fun _ t3 g3 => wpAny_bind (wpAny_mono g3 (fun yes t4 g4 => ?_) fun _ _ z => z.elim)) fun _ _ z => z.elim)
    cases yes with
    | true => exact wpAny_bind (wpAny_bind (wpAny_mono g4 (fun y t5 g5 => wpAny_bind (wpAny_mono g5 (fun _ t6 g6 => wpAny_pure (wpAny_pure ⟨rfl, g6⟩)) fun _ _ z => z.elim)) fun _ _ z => z))
    | false => exact wpAny_pure ⟨rfl, g4⟩
/-- the context of a comprehension's block -/
abbrev compX (X : Cx) (N : List Str) (s₀ : Shared) (H₀ : Hp) (sc : Scope) (cl : List (Str × Addr)) (C : Addr) (ex : List Addr) (pins : List (Addr × Obj)) : Cx where
  prog := X.prog
  w := X.w
  K := X.K
  mg := X.mg
  base := X.base
  A := X.A
  N := N
  s₀ := s₀
  H₀ := H₀
  env := compEnvC sc cl C X.env
  outer := X.stack
  stack := X.stack
  ex := ex
  fn := fun _ => false
  calm := X.calm
  pn := X.pn ++ pins
  xe := fun _ _ => False
def clOf (sc : Scope) (env : Env) : List (Str × Addr) := sc.names.foldl (fun cs y => if y.2 == .free then (y.1, (env.cells.lookup y.1).getD 0) :: cs else cs) []
theorem closureFor_clOf {sc : Scope} {env : Env} (h : ∀ y ∈ sc.names, y.2 = .free → ∃ c, env.cells.lookup y.1 = some c) : closureFor sc env = pure (clOf sc env) := by
  unfold closureFor clOf
  have key : ∀ (l : List (Str × NameKind)) (cs : List (Str × Addr)), (∀ y ∈ l, y.2 = .free → ∃ c, env.cells.lookup y.1 = some c) →
      (forIn l cs (fun (x : Str × NameKind) (r : List (Str × Addr)) => if (x.2 == NameKind.free) = true then do let a ← cellOf env x.1; pure (ForInStep.yield ((x.1, a) :: r)) else pure (ForInStep.yield r)) : Sem (List (Str × Addr))) =
        pure (l.foldl (fun cs y => if y.2 == .free then (y.1, (env.cells.lookup y.1).getD 0) :: cs else cs) cs) := by
    intro l
    induction l with
    | nil => intro cs _; rfl
    | cons y l ih =>
      intro cs hl
      rw [List.forIn_cons, List.foldl_cons]
      by_cases hk : (y.2 == NameKind.free) = true
      · obtain ⟨c, hc⟩ := hl y List.mem_cons_self (by simpa using hk)
        rw [if_pos hk, if_pos hk]
        unfold cellOf
        rw [hc]
        exact ih _ fun z hz => hl z (List.mem_cons_of_mem _ hz)
      · rw [if_neg hk, if_neg hk]
        exact ih _ fun z hz => hl z (List.mem_cons_of_mem _ hz)
  have := key sc.names [] h
  simp only [] at this ⊢
  rw [this]
  rfl
theorem clOf_mem {sc : Scope} {env : Env} : ∀ y ∈ clOf sc env, (∃ k ∈ sc.names, k.1 = y.1 ∧ k.2 = .free) ∧ y.2 = (env.cells.lookup y.1).getD 0 := by
  unfold clOf
  have key : ∀ (l : List (Str × NameKind)) (cs : List (Str × Addr)) (y : Str × Addr), y ∈ l.foldl (fun cs y => if y.2 == .free then (y.1, (env.cells.lookup y.1).getD 0) :: cs else cs) cs →
      y ∈ cs ∨ ((∃ k ∈ l, k.1 = y.1 ∧ k.2 = .free) ∧ y.2 = (env.cells.lookup y.1).getD 0) := by
    intro l
    induction l with
    | nil => intro cs y h; exact .inl h
    | cons z l ih =>
      intro cs y h
      rw [List.foldl_cons] at h
      rcases ih _ y h with h | ⟨⟨k, hk, e⟩, e2⟩
      · by_cases hz : (z.2 == NameKind.free) = true
        · rw [if_pos hz] at h
          rcases List.mem_cons.mp h with e | h
          · subst e
            exact .inr ⟨⟨z, List.mem_cons_self, rfl, by simpa using hz⟩, rfl⟩
          · exact .inl h
        · rw [if_neg hz] at h; exact .inl h
      · exact .inr ⟨⟨k, List.mem_cons_of_mem _ hk, e⟩, e2⟩
  intro y hy
  rcases key sc.names [] y hy with h | h
  · cases h
  · exact h
theorem clOf_has {sc : Scope} {env : Env} {n : Str} (h : (n, NameKind.free) ∈ sc.names) : ∃ c, (clOf sc env).lookup n = some c := by
  have key : ∀ (l : List (Str × NameKind)) (cs : List (Str × Addr)), ((n, NameKind.free) ∈ l ∨ ∃ c, cs.lookup n = some c) → ∃ c, (l.foldl (fun cs y => if y.2 == .free then (y.1, (env.cells.lookup y.1).getD 0) :: cs else cs) cs).lookup n = some c := by
    intro l
    induction l with
    | nil =>
      intro cs h
      rcases h with h | h
      · cases h
      · exact h
    | cons z l ih =>
      intro cs h
      rw [List.foldl_cons]
      refine ih _ ?_
      rcases h with h | ⟨c, hc⟩
      · rcases List.mem_cons.mp h with e | h
        · subst e
          refine .inr ⟨(env.cells.lookup n).getD 0, ?_⟩
          rw [if_pos (by rfl), List.lookup_cons_self]
        · exact .inl h
      · right
        by_cases hz : (z.2 == NameKind.free) = true
        · rw [if_pos hz]
          by_cases e : n = z.1
          · subst e; exact ⟨_, List.lookup_cons_self⟩
          · exact ⟨c, by rw [List.lookup_cons, show (n == z.1) = false by simpa using e]; exact hc⟩
        · rw [if_neg hz]; exact ⟨c, hc⟩
  exact key sc.names [] (.inl h)

section
variable {X : Cx} {pins : List (Addr × Obj)} {σ : St} {H : Hp} {s : Shared}
theorem relabel_lookup {sc : Scope} {env : Env} {x : Str} {k : NameKind} (h : (relabel sc env).names.lookup x = some k) : (∃ k', sc.names.lookup x = some k' ∧ (k' = k ∨ (k' = .free ∧ k = .cell))) := by
  have key : ∀ l : List (Str × NameKind), List.lookup x (l.map fun (n, k) => if (k == .free && env.scope.kind == .function && env.kindOf n == some .cell) then (n, NameKind.cell) else (n, k)) = some k →
      ∃ k', l.lookup x = some k' ∧ (k' = k ∨ (k' = .free ∧ k = .cell)) := by
    intro l
    induction l with
    | nil => intro h; cases h
    | cons y l ih =>
      intro h
      obtain ⟨n, kk⟩ := y
      rw [List.map_cons] at h
      by_cases e : (x == n) = true
      · refine ⟨kk, by rw [List.lookup_cons, e], ?_⟩
        dsimp only at h
        split at h
        · rename_i hc
          rw [List.lookup_cons, e] at h
          have h' : NameKind.cell = k := Option.some.inj h
          exact .inr ⟨by simp only [Bool.and_eq_true, beq_iff_eq] at hc; exact hc.1.1, h'.symm⟩
        · rw [List.lookup_cons, e] at h
          exact .inl (Option.some.inj h)
      · have e' : (x == n) = false := by simpa using e
        obtain ⟨k', a, b⟩ := ih (by
          dsimp only at h
          split at h <;> (rw [List.lookup_cons, e'] at h; exact h))
        exact ⟨k', by rw [List.lookup_cons, e']; exact a, b⟩
  exact key sc.names h
/-- captured names: the j-th name behind the targets stands at caps[j] in the function -/
structure Caps (X : Cx) (sc : Scope) (N : List Str) (nt : Nat) (caps : List Nat) : Prop where
  kind : sc.kind = .function
  nocell : ∀ y ∈ sc.names, y.2 ≠ .cell
  fr : ∀ y ∈ sc.names, y.2 = .free → X.env.kindOf y.1 = some .cell ∨ X.env.kindOf y.1 = some .free
  len : N.length = nt + caps.length
  cap : ∀ (j i : Nat) (x : Str), caps[j]? = some i → N[nt + j]? = some x → X.N[i]? = some x ∧ sc.names.lookup x = some .free
theorem Caps.cells {sc : Scope} {N : List Str} {nt : Nat} {caps : List Nat} (c : Caps X sc N nt caps) (I : Inv X pins σ H s) : ∀ y ∈ sc.names, y.2 = .free → ∃ a, X.env.cells.lookup y.1 = some a :=
  fun y hy hf => I.ok.has y.1 (c.fr y hy hf)
theorem Caps.cl {sc : Scope} {N : List Str} {nt : Nat} {caps : List Nat} (c : Caps X sc N nt caps) (I : Inv X pins σ H s) {x : Str} {a : Addr} (h : (clOf sc X.env).lookup x = some a) : X.env.cells.lookup x = some a := by
  have hm := PySem.mem_of_lookup h
  obtain ⟨⟨k, hk, e1, e2⟩, e3⟩ := clOf_mem _ hm
  obtain ⟨b, hb⟩ := c.cells I k hk e2
  rw [e1] at hb
  dsimp only at e3 hb
  rw [hb] at e3
  rw [hb, e3]; rfl
def startC (nt : Nat) (caps : List Nat) (σ : St) : St := List.replicate nt none ++ caps.map fun i => (σ[i]?).getD none
theorem comp_start {sc : Scope} {N : List Str} {nt : Nat} {caps : List Nat} {fp : List Addr} {h' : Heap} {tk : Nat} (c : Caps X sc N nt caps) (I : Inv X pins σ H s) (hfp : ∀ b ∈ fp, FpOk X pins H b ∧ b < s.heap.objs.size)
    (hn : h'.Ns s.heap.objs.size fun _ => none) (hk : ∀ b o, s.heap.get? b = some o → h'.get? b = some o) :
    Inv (compX X N s H sc (clOf sc X.env) s.heap.objs.size fp pins) [] (startC nt caps σ) H { s with heap := h', toks := tk } := by
  have clX : ∀ {x : Str} {a : Addr}, (clOf sc X.env).lookup x = some a → X.env.cells.lookup x = some a := fun h => c.cl I h
  have stk : ∀ b, b ≠ X.env.locals → b ∉ X.fs → b ∉ frs X.stack := fun b h1 h2 h3 => (List.mem_cons.mp (I.stkSub b h3)).elim h1 h2
  refine ⟨⟨I.ok.mod, c.kind, I.ok.glob, I.ok.blt, Nat.le_refl _, fun x y a h1 h2 => I.ok.inj x y a (clX h1) (clX h2), fun x hx => ?_, fun x a hf => absurd (show false = true from hf) Bool.false_ne_true, I.ok.hd, I.ok.frames, .inl rfl, fun b hb => ⟨Nat.ne_of_lt (hfp b hb).2, fun x a ha => (hfp b hb).1.2.2.2.2.1 x a (clX ha)⟩,
    fun b o e => I.bs b o e, Nat.le_trans I.ok.bsz I.sz, fun b o e hb => ?_, fun b hb => stk b (hfp b hb).1.2.1 (hfp b hb).1.2.2.1, I.stack, I.stkFree⟩,
    rfl, I.bare, Un.kept hk, ⟨_, hn, fun i x v h1 h2 h3 => ?_⟩, fun x a ha => ?_, I.hok.fresh (Nat.le_refl _), fun x a ha => I.freeC x a (clX ha), fun p hp => ?_, I.hok.kept hk, ?_⟩
  · -- has
    have hx' : (relabel sc X.env).names.lookup x = some .cell ∨ (relabel sc X.env).names.lookup x = some .free := hx
    have : sc.names.lookup x = some .free := by
      rcases hx' with hx' | hx'
      · obtain ⟨k', h1, h2⟩ := relabel_lookup hx'
        rcases h2 with h2 | ⟨h2, _⟩
        · subst h2; exact (c.nocell _ (PySem.mem_of_lookup h1) rfl).elim
        · rw [h1, h2]
      · obtain ⟨k', h1, h2⟩ := relabel_lookup hx'
        rcases h2 with h2 | ⟨h2, e⟩
        · rw [h1, h2]
        · cases e
    exact clOf_has (PySem.mem_of_lookup this)
  · -- noex
    obtain ⟨_, _, _, h4, _⟩ := (hfp b hb).1
    rcases h4 with h4 | h4
    · exact I.ok.noex b o e h4
    · exact absurd (Nat.lt_of_lt_of_le (Heap.lt_size e) (Nat.le_trans I.ok.bsz h4)) (Nat.lt_irrefl _)
  · -- loc
    unfold startC at h2
    by_cases hi : i < (List.replicate nt (none : Option V)).length
    · rw [List.getElem?_append_left hi, List.getElem?_replicate] at h2
      split at h2 <;> cases h2
    · rw [List.getElem?_append_right (by lia), List.getElem?_map] at h2
      rw [List.length_replicate] at h2 hi
      cases e : caps[i - nt]? with
      | none => rw [e] at h2; cases h2
      | some k =>
        rw [e] at h2
        have h2' : (σ[k]?).getD none = some v := Option.some.inj h2
        have hs : σ[k]? = some (some v) := by
          cases e3 : σ[k]? with
          | none => rw [e3] at h2'; cases h2'
          | some z => rw [e3] at h2'; exact congrArg some h2'
        obtain ⟨hX, hl0⟩ := c.cap (i - nt) k x e (by rw [show nt + (i - nt) = i by lia]; exact h1)
        have hf : (x, NameKind.free) ∈ sc.names := PySem.mem_of_lookup hl0
        obtain ⟨m, _, hl⟩ := I.loc
        have hkind := c.fr _ hf rfl
        obtain ⟨u, r, l⟩ := hl k x v hX hs (by rcases hkind with q | q; exact .inr (.inl q); exact .inr (.inr q))
        refine ⟨u, r, .inr ⟨?_, ?_⟩⟩
        · have h3' : (relabel sc X.env).names.lookup x = some .local ∨ (relabel sc X.env).names.lookup x = some .cell ∨ (relabel sc X.env).names.lookup x = some .free := h3
          rcases h3' with q | q | q
          · obtain ⟨k', a1, a2⟩ := relabel_lookup q
            exfalso
            rw [hl0] at a1
            cases a1
            rcases a2 with a2 | ⟨_, a2⟩ <;> cases a2
          · exact .inl q
          · exact .inr q
        · obtain ⟨cc, hcc⟩ := clOf_has (env := X.env) hf
          refine ⟨cc, hcc, ?_⟩
          rcases l with ⟨q, _⟩ | ⟨_, c2, hc2, z⟩
          · rcases hkind with q' | q' <;> (rw [q] at q'; cases q')
          · rw [clX hcc] at hc2
            cases hc2
            obtain ⟨o, ho, hd⟩ := z
            exact ⟨o, hk _ _ ho, hd⟩
  · obtain ⟨v, o, ho, hd⟩ := I.cell x a (clX ha)
    exact ⟨v, o, hk _ _ ho, hd⟩
  · rw [List.append_nil] at hp
    obtain ⟨e, n, ne, nf, d⟩ := I.pin p hp
    exact ⟨hk _ _ e, n, Nat.ne_of_lt (Heap.lt_size e), stk _ ne nf, d⟩
  · unfold startC
    rw [List.length_append, List.length_replicate, List.length_map]
    exact c.len.symm
end
end Vl

set_option Elab.async false
set_option linter.all false
set_option maxRecDepth 100000
set_option maxHeartbeats 4000000
namespace Vl
open PySem PySem.Spec L2

/-! ### exceptions on their way -/
/-- objects that came behind the entry, and the frames' slots, have changed: nothing else -/
theorem Inv.moved {X : Cx} {pins : List (Addr × Obj)} {σ : St} {H : Hp} {s : Shared} {h' : Heap} {t' : Nat} (I : Inv X pins σ H s) (ch : List Addr)
    (hch : ∀ b ∈ ch, X.s₀.heap.get? b = none ∧ b ≠ X.env.locals ∧ (∀ x c, X.env.cells.lookup x = some c → c ≠ b) ∧ (∀ p ∈ X.pn ++ pins, p.1 ≠ b) ∧ H b = none)
    (keep : ∀ b o, b ∉ frs X.stack → b ∉ ch → s.heap.get? b = some o → h'.get? b = some o)
    (slot : ∀ b o, b ∈ frs X.stack → s.heap.get? b = some o → ∃ sl, h'.get? b = some { o with slots := sl }) : Inv X pins σ H { s with heap := h', toks := t' } := by
  have sub := I.stkSub
  have sup : ∀ b ∈ X.fs, b ∈ frs X.stack := fun b hb => by
    rcases I.ok.stk with e | ⟨e, hf⟩
    · rw [e]; exact hb
    · rw [e]; unfold frs; rw [List.filterMap_cons, hf]; exact List.mem_cons_of_mem _ hb
  have neL : ∀ b o, X.s₀.heap.get? b = some o → b ≠ X.env.locals := fun b o e => Nat.ne_of_lt (Nat.lt_of_lt_of_le (Heap.lt_size e) I.ok.above)
  have nch : ∀ b o, X.s₀.heap.get? b = some o → b ∉ ch := fun b o e z => by rw [(hch b z).1] at e; cases e
  have any : ∀ b o, b ∉ ch → s.heap.get? b = some o → ∃ sl, h'.get? b = some { o with slots := sl } := fun b o hc e => by
    by_cases hb : b ∈ frs X.stack
    · exact slot b o hb e
    · exact ⟨o.slots, keep b o hb hc e⟩
  have lch : X.env.locals ∉ ch := fun z => (hch _ z).2.1 rfl
  have cch : ∀ x c, X.env.cells.lookup x = some c → c ∉ ch := fun x c e z => (hch c z).2.2.1 x c e rfl
  have cellK : ∀ x c v, X.env.cells.lookup x = some c → s.heap.IsCell c v → h'.IsCell c v := fun x c v e ⟨o, ho, hd⟩ => by
    obtain ⟨sl, q⟩ := any c o (cch x c e) ho
    exact ⟨_, q, hd⟩
  refine ⟨I.ok, I.os, I.bare, ⟨fun b o e n hb hx => ?_, fun b o e n hb hx => ?_, I.base.free, fun b o e hx => ?_, I.base.tups, I.base.frzs, I.base.tbls⟩, ?_, fun x c e => ?_, I.free, I.freeC, fun p hp => ?_, fun b o e => ?_, I.len⟩
  · exact keep b o (fun z => (List.mem_cons.mp (sub b z)).elim (neL b o e) hb) (nch b o e) (I.base.keep b o e n hb hx)
  · obtain ⟨sl, q⟩ := I.base.slot b o e n hb hx
    obtain ⟨sl', q'⟩ := slot b _ (sup b hb) q
    exact ⟨sl', q'⟩
  · obtain ⟨o', q⟩ := I.base.there b o e hx
    obtain ⟨sl, q'⟩ := any b o' (nch b o e) q
    exact ⟨_, q'⟩
  · obtain ⟨m, ⟨o, es, ep, ho, r⟩, hl⟩ := I.loc
    obtain ⟨sl, q⟩ := any _ o lch ho
    refine ⟨m, ⟨_, es, ep, q, r⟩, fun i x v h1 h2 h3 => ?_⟩
    obtain ⟨u, ru, l⟩ := hl i x v h1 h2 h3
    refine ⟨u, ru, ?_⟩
    rcases l with l | ⟨k, c, e, z⟩
    · exact .inl l
    · exact .inr ⟨k, c, e, cellK x c _ e z⟩
  · obtain ⟨v, z⟩ := I.cell x c e
    exact ⟨v, cellK x c v e z⟩
  · obtain ⟨e, n, ne, nf, d⟩ := I.pin p hp
    exact ⟨keep _ _ (fun z => (List.mem_cons.mp (sub _ z)).elim ne nf) (fun z => (hch _ z).2.2.2.1 p hp rfl) e, n, ne, nf, d⟩
  · have tr : ∀ c u, H c = some u → c ∉ frs X.stack ∧ c ∉ ch := fun c u z => ⟨fun w => (by rw [I.stkFree c w] at z; cases z), fun w => (by rw [(hch c w).2.2.2.2] at z; cases z)⟩
    refine (I.hok b o e).stay (fun c u hc q => ?_) (fun _ q => q) (fun _ _ q => q) fun _ _ q => q
    rcases hc with hc | hc
    · subst hc; exact keep c u (tr c _ e).1 (tr c _ e).2 q
    · exact keep c u (tr c _ hc).1 (tr c _ hc).2 q

/-- an exception of the own class called c is on its way: old is the heap at the entry, av what it is none of -/
def Tr (h : Heap) (H : Hp) (old : Heap) (av : List Addr) (ea : Addr) (vs : Array Value) : Prop := ∃ T oT ts x, vs[1]? = some (.ref T) ∧ T ≠ ea ∧ h.get? T = some oT ∧ oT.data = .fields ts ∧ ts[3]? = some x ∧ H T = none ∧ old.get? T = none ∧ T ∉ av
/-- the attribute of an exception on its way -/
def XFl (H : Hp) (old : Heap) (od : Option Addr) (c : Str) (n : Int) : Prop := n = 0 ∨ ∃ d i, n = 2 * i + 1 ∧ od = some d ∧ H d = some (.xd [(attrOf c, .int i)]) ∧ old.get? d = none
theorem XFl.old {H : Hp} {old old' : Heap} {od : Option Addr} {c : Str} {n : Int} (h : XFl H old od c n) (k : ∀ b, old.get? b = none → old'.get? b = none) : XFl H old' od c n := h.imp id fun ⟨d, i, h1, h2, h3, h4⟩ => ⟨d, i, h1, h2, h3, k _ h4⟩
def Fly (K : PySem.W.Frag) (old : Heap) (av : List Addr) (ea : Addr) (c : Str) (n : Int) (h : Heap) (H : Hp) (tr : Bool) : Prop :=
  ∃ C oe vs a0, PySem.W.nsIn K mainGlobals c = some (some (.ref C)) ∧ h.get? ea = some oe ∧ oe.cls = .ref C ∧ oe.data = .fields vs ∧ vs[0]? = some a0 ∧ H ea = none ∧ old.get? ea = none ∧ ea ∉ av ∧ XFl H old oe.dict c n ∧
    (if tr = true then Tr h H old av ea vs else vs[1]? = some .none)
def CXv (P : Program) (w : World) (K : PySem.W.Frag) : CXT := fun outer H s E e s' => ∃ ea c n H', e = .ref ea ∧ s'.os = s.os ∧ PyProof.Rows.AllBare s'.gens ∧ Un (frs outer) [] H H' s.heap s'.heap ∧ HOk P w H' s'.heap ∧ Fly K s.heap [] ea c n s'.heap H' true ∧ E (enc c n) none H'
/-- what is wanted of exceptions here, W, is what the context wants -/
def PassV (X : Cx) (W : Wi) : Prop := ∀ pins σ H s ea c n tr, Inv X pins σ H s → Fly X.K X.s₀.heap ((X.pn ++ pins).map (·.1)) ea c n s.heap H tr → W c n σ H → X.xe (.ref ea) s

section
variable {X : Cx} {pins : List (Addr × Obj)} {σ : St} {H : Hp} {s : Shared} {ea : Addr} {c : Str} {n : Int} {tr : Bool}
/-- an untracked record that came behind the entry is none of the frame's -/
theorem rec_ok (I : Inv X pins σ H s) {b : Addr} {o : Obj} {vs : Array Value} (e : s.heap.get? b = some o) (d : o.data = .fields vs) (hold : X.s₀.heap.get? b = none) (hn : H b = none) (hp : ∀ p ∈ X.pn ++ pins, p.1 ≠ b) :
    X.s₀.heap.get? b = none ∧ b ≠ X.env.locals ∧ (∀ x c, X.env.cells.lookup x = some c → c ≠ b) ∧ (∀ p ∈ X.pn ++ pins, p.1 ≠ b) ∧ H b = none := by
  refine ⟨hold, fun z => ?_, fun x c hc z => ?_, hp, hn⟩
  · obtain ⟨m, ⟨o', es, ep, ho, hd, _⟩, _⟩ := I.loc
    rw [← z, e] at ho; cases ho; rw [d] at hd; cases hd
  · obtain ⟨v, o', ho, hd⟩ := I.cell x c hc
    rw [z, e] at ho; cases ho; rw [d] at hd; cases hd
theorem objok_here {P : Program} {w : World} {H : Hp} {h : Heap} {a : Addr} {o : HO} (x : ObjOk P w H h a o) : ∃ u, h.get? a = some u := by
  induction o with
  | lst xs => obtain ⟨z, its, n, r, e⟩ := x; exact ⟨_, e⟩
  | tup xs => obtain ⟨z, its, r, ob, e, c⟩ := x; exact ⟨_, e⟩
  | dK kvs => obtain ⟨z, y, vs, r, ob, es, ep, e, c⟩ := x; exact ⟨_, e⟩
  | dT kvs => obtain ⟨z, y, xs, r, ob, es, ep, e, c⟩ := x; exact ⟨_, e⟩
  | set S n => obtain ⟨ob, es, ep, t, e, c⟩ := x; exact ⟨_, e⟩
  | ins C dx fs => obtain ⟨d, z, ne, e, _⟩ := x; exact ⟨_, e⟩
  | own y => obtain ⟨ob, e⟩ := x; exact ⟨_, e⟩
  | xd fs => obtain ⟨mA, ⟨od, es, ep, e, c⟩, r⟩ := x; exact ⟨_, e⟩
  | rng lo hi => obtain ⟨t, u, v, e⟩ := x; exact ⟨_, e⟩
  | frz ob u ih => obtain ⟨e, q⟩ := x; exact ⟨_, e⟩
  | tbl ps => exact ⟨_, (show h.get? a = some { cls := .none, data := .fields ps } from x)⟩
  | tab q => obtain ⟨_, e, _⟩ := x; exact ⟨_, e⟩
  | cod q => obtain ⟨_, _, _, e, _⟩ := x; exact ⟨_, e⟩
  | met f y => exact ⟨_, (show h.get? a = some (PySem.W.methodObj (.ref f) (.ref y)) from x)⟩
  | ext φ => obtain ⟨p, ⟨o, e⟩, st⟩ := x; exact ⟨_, e⟩
/-- the heap without the frames and the exception's own records -/
theorem fly_moved (I : Inv X pins σ H s) {ch : List Addr} {h' : Heap} {t' : Nat} (hch : ∀ b ∈ ch, ∃ o vs, s.heap.get? b = some o ∧ o.data = .fields vs ∧ X.s₀.heap.get? b = none ∧ H b = none ∧ b ∉ (X.pn ++ pins).map (·.1))
    (st : (PySem.W.hideAll s.heap (frs X.stack ++ ch)).StaysIn h') (up : s.heap.UpToSlots h') : Inv X pins σ H { s with heap := h', toks := t' } := by
  refine Inv.moved I ch (fun b hb => ?_) (fun b o h1 h2 e => st b o (PySem.W.hideAll_get _ e (by rw [List.mem_append]; exact fun z => z.elim h1 h2))) (fun b o hb e => ?_)
  · obtain ⟨o, vs, e, d, h1, h2, h3⟩ := hch b hb
    exact rec_ok I e d h1 h2 fun p hp z => h3 (List.mem_map.mpr ⟨p, hp, z⟩)
  · obtain ⟨_, o', ho, hnf⟩ := I.stack.mem hb
    rw [e] at ho; cases ho
    exact up b o e hnf
/-- what is traced behind a step is fresh -/
theorem fly_new (I : Inv X pins σ H s) (hex : X.ex = []) {ch : List Addr} {h' : Heap} {T : Addr} {oT : Obj} {ts : Array Value} (hch : ∀ b ∈ ch, ∃ o vs, s.heap.get? b = some o ∧ o.data = .fields vs ∧ X.s₀.heap.get? b = none ∧ H b = none ∧ b ∉ (X.pn ++ pins).map (·.1))
    (up : s.heap.UpToSlots h') (hT : h'.get? T = some oT) (dT : oT.data = .fields ts) (hn : (PySem.W.hideAll s.heap (frs X.stack ++ ch)).get? T = none) :
    H T = none ∧ X.s₀.heap.get? T = none ∧ T ∉ (X.pn ++ pins).map (·.1) := by
  by_cases hc : T ∈ ch
  · obtain ⟨o, vs, e, d, h1, h2, h3⟩ := hch T hc
    exact ⟨h2, h1, h3⟩
  have hf : T ∉ frs X.stack := fun z => by
    obtain ⟨_, o', ho, hnf⟩ := I.stack.mem z
    obtain ⟨sl, q⟩ := up T o' ho hnf
    rw [hT] at q; cases q
    exact hnf ts dT
  have hs : s.heap.get? T = none := by
    cases e : s.heap.get? T with
    | none => rfl
    | some o => rw [PySem.W.hideAll_get _ e (by rw [List.mem_append]; exact fun z => z.elim hf hc)] at hn; cases hn
  refine ⟨?_, ?_, fun z => ?_⟩
  · cases e : H T with
    | none => rfl
    | some u =>
      obtain ⟨o, z⟩ := objok_here (I.hok T u e)
      rw [hs] at z; cases z
  · cases e : X.s₀.heap.get? T with
    | none => rfl
    | some o =>
      obtain ⟨o', q⟩ := I.base.there T o e (by rw [hex]; simp)
      rw [hs] at q; cases q
  · obtain ⟨p, hp, e⟩ := List.mem_map.mp z
    have := (I.pin p hp).1
    rw [e, hs] at this; cases this
end
end Vl

set_option Elab.async false
set_option linter.all false
set_option maxRecDepth 100000
set_option maxHeartbeats 4000000
namespace Vl
open PySem PySem.Spec L2

section
variable {X : Cx} {pins : List (Addr × Obj)} {σ : St} {H : Hp} {s : Shared} {ea : Addr} {c : Str} {n : Int} {tr : Bool}
/-- the exception's own records -/
theorem fly_ch (I : Inv X pins σ H s) (F : Fly X.K X.s₀.heap ((X.pn ++ pins).map (·.1)) ea c n s.heap H tr) :
    ∃ ch : List Addr, ea ∈ ch ∧ (∀ b ∈ ch, ∃ o vs, s.heap.get? b = some o ∧ o.data = .fields vs ∧ X.s₀.heap.get? b = none ∧ H b = none ∧ b ∉ (X.pn ++ pins).map (·.1)) ∧
      ∃ C oe vs a0, PySem.W.nsIn X.K mainGlobals c = some (some (.ref C)) ∧ s.heap.get? ea = some oe ∧ oe.cls = .ref C ∧ oe.data = .fields vs ∧ vs[0]? = some a0 ∧ XFl H X.s₀.heap oe.dict c n ∧ X.s₀.heap.get? ea = none ∧ H ea = none ∧ ea ∉ (X.pn ++ pins).map (·.1) ∧
        (if tr = true then ∃ T oT ts x, vs[1]? = some (.ref T) ∧ T ∈ ch ∧ T ≠ ea ∧ s.heap.get? T = some oT ∧ oT.data = .fields ts ∧ ts[3]? = some x else vs[1]? = some .none) := by
  obtain ⟨C, oe, vs, a0, h1, h2, h3, h4, h5, h6, h7, h8, h9, h10⟩ := F
  cases tr with
  | false =>
    refine ⟨[ea], by simp, fun b hb => ?_, C, oe, vs, a0, h1, h2, h3, h4, h5, h9, h7, h6, h8, h10⟩
    obtain rfl : b = ea := by simpa using hb
    exact ⟨oe, vs, h2, h4, h7, h6, h8⟩
  | true =>
    rw [if_pos rfl] at h10
    obtain ⟨T, oT, ts, x, t1, t2, t3, t4, t5, t6, t7, t8⟩ := h10
    refine ⟨[ea, T], by simp, fun b hb => ?_, C, oe, vs, a0, h1, h2, h3, h4, h5, h9, h7, h6, h8, ?_⟩
    · rcases List.mem_cons.mp hb with rfl | hb
      · exact ⟨oe, vs, h2, h4, h7, h6, h8⟩
      · obtain rfl : b = T := by simpa using hb
        exact ⟨oT, ts, t3, t4, t7, t6, t8⟩
    · rw [if_pos rfl]
      exact ⟨T, oT, ts, x, t1, by simp, t2, t3, t4, t5⟩
theorem dict_mapF (o : Obj) (f) : (o.mapFields f).dict = o.dict := by
  unfold Obj.mapFields
  split <;> rfl
/-- a new entry of the way: the record of the exception keeps its dict -/
theorem entry_d {M : Model} {A : Around} {base : Heap} {env : Env} {outer : List Env} {L e : Addr} {oe : Obj} {vs : Array Value} {hd0 a0 : Value} {b0 : Bool} {Q : Unit → Shared → Prop} {E : Value → Shared → Prop} (hfr : A.frames = some (env :: outer)) (hl : s.heap.FunFrames base (env :: outer)) (hf : env.frame = some L)
    (he : s.heap.get? e = some oe) (hkb : base.StaysIn s.heap) (hen : base.get? e = none) (hd : oe.data = .fields vs) (hsz : 1 < vs.size) (h0 : vs[0]? = some a0)
    (k : ∀ h', Heap.NotedW base (env :: outer) e oe.cls a0 (rawInt L) s.heap h' → (∀ o', h'.get? e = some o' → o'.dict = oe.dict) → Q () { s with heap := h' }) :
    wpAny M A (frameOf env >>= fun fr => entryPlaceOf L b0 >>= fun pl => EntryCells.newEntry hd0 fr .none (rawInt L) .none pl >>= fun t => setField (.ref e) 1 t) Q E s := by
  have nofr : e ∉ (env :: outer).filterMap (·.frame) := fun z => by
    obtain ⟨_, o, ho, nf⟩ := hl.mem z
    rw [he] at ho; cases ho; exact nf vs hd
  refine wpAny_bind (wpAny_frameOf_fun hfr hl hf fun g ⟨_, g2, g3⟩ => wpAny_bind (wpAny_entryPlaceOf fun pl hpl => ?_))
  unfold EntryCells.newEntry newFields
  refine wpAny_bind (wpAny_newObj_type ?_ (hpl.sizeOk5 _ _ _ _ _))
  generalize hT : ({ cls := .type "traceback", dict := none, data := _ } : Obj) = oT
  have eg : g.get? e = some oe := (g2 e nofr).trans he
  have kb : base.StaysIn g := fun b o z => (g2 b fun w => by rw [(hl.mem w).1] at z; cases z).trans (hkb b o z)
  have ep := Heap.get?_push_of_some (h := g) oT eg
  refine wpAny_setField ep hd hsz ?_
  have ne : g.objs.size ≠ e := Nat.ne_of_gt (Heap.lt_size eg)
  have dat := Obj.data_mapFields hd (·.setIfInBounds 1 (Value.ref g.objs.size))
  have self := Heap.get?_update_self (Obj.mapFields (·.setIfInBounds 1 (Value.ref g.objs.size))) ep (Obj.isFreed_of_fields dat)
  have other : ∀ b o, b ≠ e → g.get? b = some o → ((g.push oT).update e (Obj.mapFields (·.setIfInBounds 1 (Value.ref g.objs.size)))).get? b = some o := fun b o z w =>
    (Heap.get?_update_other _ _ (Ne.symm z)).trans (Heap.get?_push_of_some _ w)
  have new : ((g.push oT).update e (Obj.mapFields (·.setIfInBounds 1 (Value.ref g.objs.size)))).get? g.objs.size = some oT :=
    (Heap.get?_update_other _ _ (Ne.symm ne)).trans (Heap.get?_push_size g (by rw [← hT]; rfl))
  have apart : ∀ b o, s.heap.get? b = some o → (∀ ws, o.data ≠ .fields ws) → b ≠ e := fun b o z nf w => by
    rw [w, he] at z; cases z; exact nf vs hd
  refine k _ ⟨fun b o z => other b o (fun w => by rw [w, hen] at z; cases z) (kb b o z), hl.of_keeps fun b o z nf => ?_, ?_, fun b o z nf => ?_⟩ fun o' z => ?_
  · obtain ⟨sl, w⟩ := g3 b o z
    exact ⟨_, other b _ (apart b o z nf) w, rfl⟩
  · refine ⟨_, _, g.objs.size, oT, _, self, ⟨Obj.cls_mapFields _ _, by rw [Array.getElem?_setIfInBounds_ne (by decide)]; exact h0⟩, dat, by simp [hsz], kb.fresh, ne, new, by rw [← hT], ?_⟩
    first | (simp; done) | (rcases hpl with rfl | ⟨_, _, _, _, _, _, _, rfl⟩ <;> simp)
  · obtain ⟨sl, w⟩ := g3 b o z
    exact ⟨sl, other b _ (apart b o z nf) w⟩
  · rw [self] at z; cases z; exact dict_mapF _ _
/-- an exception is noted, wherever it was noted before -/
theorem note_any {M : Model} {A : Around} {base : Heap} {env : Env} {outer : List Env} {L e : Addr} {cls a0 fl : Value} {Q : Unit → Shared → Prop} {E : Value → Shared → Prop} (hfr : A.frames = some (env :: outer)) (hl : s.heap.FunFrames base (env :: outer)) (hf : env.frame = some L)
    {od : Option Addr} (ht : s.heap.TracedAtW base e cls a0 fl) (hod : ∀ o', s.heap.get? e = some o' → o'.dict = od) (hkb : base.StaysIn s.heap) (hen : base.get? e = none) (h : ∀ h', Heap.NotedW base (env :: outer) e cls a0 (rawInt L) s.heap h' → (∀ o', h'.get? e = some o' → o'.dict = od) → Q () { s with heap := h' }) : wpAny M A (noteFrame (.ref e) env) Q E s := by
  by_cases c : fl = rawInt L
  · subst c; exact wpAny_noteFrame_againW hf ht (h s.heap ⟨hkb, hl, ht, fun b o hb _ => ⟨o.slots, hb⟩⟩ hod)
  obtain ⟨oe, vs, T, oT, ts, he, ⟨hcls, h0⟩, hd, h1, hnT, hTe, hT, hdT, h3⟩ := ht
  subst hcls
  unfold noteFrame
  simp only [hf]
  refine wpAny_bind (wpAny_field he hd h1 ?_)
  rw [if_pos (show (Value.ref T != Value.none) = true from by simp)]
  refine wpAny_bind (wpAny_field hT hdT h3 ?_)
  rw [if_neg (show ¬ ((fl == rawInt L) = true) from by simpa using c)]
  refine wpAny_bind (wpAny_setField hT hdT (Array.getElem?_eq_some_iff.mp h3).1 ?_)
  have other : ∀ b, b ≠ T → (s.heap.update T (Obj.mapFields (·.setIfInBounds 3 Value.none))).get? b = s.heap.get? b := fun b hb => Heap.get?_update_other _ _ (Ne.symm hb)
  have noRecord : ∀ b o, s.heap.get? b = some o → (∀ vs, o.data ≠ .fields vs) → b ≠ T := fun b o hb hnf q => by
    rw [q, hT] at hb; injection hb with hb; subst hb; exact hnf ts hdT
  refine entry_d hfr (hl.of_keeps fun b o hb hnf => ⟨o, (other b (noRecord b o hb hnf)).trans hb, rfl⟩) hf ((other e (Ne.symm hTe)).trans he)
    (fun b o hbo => (other b fun q => by rw [q, hnT] at hbo; cases hbo).trans (hkb b o hbo)) hen hd (Array.getElem?_eq_some_iff.mp h1).1 h0
    fun h' ⟨x1, x2, x3, x4⟩ x5 => h h' ⟨x1, x2, x3, fun b o hb hnf => x4 b o ((other b (noRecord b o hb hnf)).trans hb) hnf⟩ fun o' e' => (x5 o' e').trans (hod _ he)
/-- an exception is looked at in its frame -/
theorem look_v {M : Model} {Q : Unit → Shared → Prop} {E : Value → Shared → Prop} {outer : List Env} {L : Addr} (hst : X.stack = X.env :: outer) (hf : X.env.frame = some L) (hex : X.ex = []) (I : Inv X pins σ H s) (F : Fly X.K X.s₀.heap ((X.pn ++ pins).map (·.1)) ea c n s.heap H tr)
    (hQ : ∀ h', Inv X pins σ H { s with heap := h' } → Fly X.K X.s₀.heap ((X.pn ++ pins).map (·.1)) ea c n h' H true → s.heap.UpToSlots h' → Q () { s with heap := h' }) : wpAny M X.A (noteFrame (.ref ea) X.env) Q E s := by
  obtain ⟨ch, he, hch, C, oe, vs, a0, h1, h2, h3, h4, h5, h9, h7, h6, h8, h10⟩ := fly_ch I F
  have hfr : X.A.frames = some (X.env :: outer) := by rw [← hst]; exact I.ok.frames
  have hl : s.heap.FunFrames (PySem.W.hideAll s.heap (frs X.stack ++ ch)) (X.env :: outer) := by
    have := PySem.W.funFrames_hide (as := frs X.stack ++ ch) I.stack fun env he b hb => List.mem_append_left _ (List.mem_filterMap.mpr ⟨env, he, hb⟩)
    rw [hst] at this ⊢; exact this
  have hkb : (PySem.W.hideAll s.heap (frs X.stack ++ ch)).StaysIn s.heap := fun b o e => PySem.W.of_hideAll _ e
  have hn : ∀ b ∈ ch, (PySem.W.hideAll s.heap (frs X.stack ++ ch)).get? b = none := fun b hb => PySem.W.hideAll_none _ (List.mem_append_right _ hb)
  have fin : ∀ h', Heap.NotedW (PySem.W.hideAll s.heap (frs X.stack ++ ch)) (X.env :: outer) ea oe.cls a0 (rawInt L) s.heap h' → (∀ o', h'.get? ea = some o' → o'.dict = oe.dict) → Q () { s with heap := h' } := fun h' ⟨k1, _, k2, k3⟩ kd => by
    have I' := fly_moved (t' := s.toks) I hch k1 k3
    obtain ⟨oe', vs', T, oT, ts, e1, ⟨e2, e3⟩, e4, e5, e6, e7, e8, e9, e10⟩ := k2
    obtain ⟨n1, n2, n3⟩ := fly_new I hex hch k3 e8 e9 e6
    refine hQ h' I' ⟨C, oe', vs', a0, h1, e1, e2.trans h3, e4, e3, h6, h7, h8, by rw [kd _ e1]; exact h9, ?_⟩ k3
    rw [if_pos rfl]
    exact ⟨T, oT, ts, _, e5, e7, e8, e9, e10, n1, n2, n3⟩
  cases tr with
  | false =>
    rw [if_neg (by decide)] at h10
    unfold noteFrame
    simp only [hf]
    refine wpAny_bind (wpAny_field h2 h4 h10 ?_)
    rw [if_neg (by decide)]
    exact entry_d hfr hl hf h2 hkb (hn _ he) h4 (Array.getElem?_eq_some_iff.mp h10).1 h5 fin
  | true =>
    rw [if_pos rfl] at h10
    obtain ⟨T, oT, ts, x, t1, t0, t2, t3, t4, t5⟩ := h10
    exact note_any hfr hl hf ⟨oe, vs, T, oT, ts, h2, ⟨rfl, h5⟩, h4, t1, hn _ t0, t2, t3, t4, t5⟩ (fun o' e' => by rw [h2] at e'; cases e'; rfl) hkb (hn _ he) fin
/-- it is said where it flies -/
theorem land_v {M : Model} {A : Around} {fr : Option Addr} {Q : Unit → Shared → Prop} {E : Value → Shared → Prop} (I : Inv X pins σ H s) (F : Fly X.K X.s₀.heap ((X.pn ++ pins).map (·.1)) ea c n s.heap H true)
    (hQ : ∀ h', Inv X pins σ H { s with heap := h' } → Fly X.K X.s₀.heap ((X.pn ++ pins).map (·.1)) ea c n h' H true → Q () { s with heap := h' }) :
    wpAny M A (setFlight (.ref ea) fr) Q E s := by
  obtain ⟨ch, he, hch, C, oe, vs, a0, h1, h2, h3, h4, h5, h9, h7, h6, h8, h10⟩ := fly_ch I F
  rw [if_pos rfl] at h10
  obtain ⟨T, oT, ts, x, t1, t0, t2, t3, t4, t5⟩ := h10
  have sz : 3 < ts.size := (Array.getElem?_eq_some_iff.mp t5).1
  obtain ⟨_, _, _, _, n2, n1, n3⟩ := hch T t0
  have other : ∀ b, b ≠ T → (s.heap.update T (Obj.mapFields (·.setIfInBounds 3 (fr.elim Value.none fun f => rawInt f)))).get? b = s.heap.get? b := fun b hb => Heap.get?_update_other _ _ (Ne.symm hb)
  unfold setFlight
  refine wpAny_bind (wpAny_field h2 h4 t1 ?_)
  rw [if_pos (show (Value.ref T != Value.none) = true from by simp)]
  refine wpAny_setField t3 t4 sz (hQ _ (fly_moved (t' := s.toks) I hch (fun b o e => ?_) fun b o e hn => ⟨o.slots, (other b fun q => ?_).trans e⟩) ⟨C, oe, vs, a0, h1, (other ea (Ne.symm t2)).trans h2, h3, h4, h5, h6, h7, h8, h9, ?_⟩)
  · refine (other b fun q => ?_).trans (PySem.W.of_hideAll _ e)
    rw [q, PySem.W.hideAll_none _ (List.mem_append_right _ t0)] at e; cases e
  · rw [q, t3] at e; cases e; exact hn _ t4
  · rw [if_pos rfl]
    exact ⟨T, _, _, _, t1, t2, Heap.get?_update_self _ t3 (Obj.isFreed_of_fields (Obj.data_mapFields t4 _)), Obj.data_mapFields t4 _, Array.getElem?_setIfInBounds_self_of_lt sz, n1, n2, n3⟩
/-- an exception leaves a frame -/
theorem leave_v {M : Model} {Q : Unit → Shared → Prop} {E : Value → Shared → Prop} {outer : List Env} {L : Addr} (hst : X.stack = X.env :: outer) (hf : X.env.frame = some L) (hex : X.ex = []) (I : Inv X pins σ H s) (F : Fly X.K X.s₀.heap ((X.pn ++ pins).map (·.1)) ea c n s.heap H tr)
    (hQ : ∀ h', Inv X pins σ H { s with heap := h' } → Fly X.K X.s₀.heap ((X.pn ++ pins).map (·.1)) ea c n h' H true → Q () { s with heap := h' }) : wpAny M X.A (leaving X.env (.ref ea)) Q E s := by
  unfold leaving
  exact wpAny_bind (look_v hst hf hex I F fun h' I' F' _ => land_v I' F' hQ)
end

section
variable {P : Program} {w : World} {K : PySem.W.Frag} {mg : Str → Option Value} {base : Heap} {x qual : Str} {st : Stmt} {f : Addr} {fd : FuncData} {N ps : List Str} {k : Nat}
theorem pass_body {scope : Scope} {cdv : Value} {A : Around} {outer : List Env} {s : Shared} {H : Hp} {E : XK} : PassV (cxOf (CXv P w K) P w K mg base N qual scope f cdv A outer s H E) (fun c n _ H' => E (enc c n) none H') := by
  intro pins σ H1 s1 ea c n tr I F w1
  refine leave_v (L := s.heap.objs.size) (outer := outer) rfl rfl rfl I F fun h' I' F' => ?_
  obtain ⟨C, oe, vs, a0, h1, h2, h3, h4, h5, h6, h7, h8, h9, h10⟩ := F'
  refine ⟨ea, c, n, H1, rfl, I'.os, I'.bare, I'.base, I'.hok, ⟨C, oe, vs, a0, h1, h2, h3, h4, h5, h6, h7, by simp, h9, ?_⟩, w1⟩
  rw [if_pos rfl] at h10 ⊢
  obtain ⟨T, oT, ts, x, t1, t2, t3, t4, t5, t6, t7, t8⟩ := h10
  exact ⟨T, oT, ts, x, t1, t2, t3, t4, t5, t6, t7, by simp⟩
end
end Vl

set_option Elab.async false
set_option linter.all false
set_option maxRecDepth 100000
set_option maxHeartbeats 4000000
namespace Vl
open PySem PySem.Spec L2

theorem zig_inj {a b : Int} (h : zig a = zig b) : a = b := by
  unfold zig at h
  split at h <;> split at h <;> lia
theorem enc_inj {c c' : Str} {n n' : Int} (h : enc c n = enc c' n') : c = c' ∧ n = n' := by
  unfold enc at h
  injection h with h1 h2
  exact ⟨h1, zig_inj h2⟩

/-- what a def's caller does with an exception -/
def PassC (X : Cx) (W : Wi) : Prop := ∀ (pins : List (Addr × Obj)) (σ : St) (H : Hp) (s : Shared) (e : Value) (s' : Shared), Inv X pins σ H s →
  CXv X.prog X.w X.K X.stack H s (fun v _ H' => ∃ c n, v = enc c n ∧ W c n σ H') e s' → X.xe e s'
theorem passC_F {X : Cx} : PassC X WF := fun pins σ H s e s' I ⟨ea, c, n, H', _, _, _, _, _, _, _, _, _, w⟩ => w.elim
theorem fly_up {X : Cx} {pins : List (Addr × Obj)} {σ : St} {H H' : Hp} {s : Shared} {ea : Addr} {c : Str} {n : Int} {h : Heap} (I : Inv X pins σ H s) (hex : X.ex = []) (F : Fly X.K s.heap [] ea c n h H' true) : Fly X.K X.s₀.heap ((X.pn ++ pins).map (·.1)) ea c n h H' true := by
  obtain ⟨C, oe, vs, a0, h1, h2, h3, h4, h5, h6, h7, h8, h9, h10⟩ := F
  have old : ∀ b, s.heap.get? b = none → X.s₀.heap.get? b = none := fun b hb => by
    cases q : X.s₀.heap.get? b with
    | none => rfl
    | some o =>
      obtain ⟨o', z⟩ := I.base.there b o q (by rw [hex]; simp)
      rw [hb] at z; cases z
  have npin : ∀ b, s.heap.get? b = none → b ∉ (X.pn ++ pins).map (·.1) := fun b hb z => by
    obtain ⟨p, hp, e⟩ := List.mem_map.mp z
    have := (I.pin p hp).1
    rw [e, hb] at this; cases this
  refine ⟨C, oe, vs, a0, h1, h2, h3, h4, h5, h6, old _ h7, npin _ h7, h9.old old, ?_⟩
  rw [if_pos rfl] at h10 ⊢
  obtain ⟨T, oT, ts, x, t1, t2, t3, t4, t5, t6, t7, t8⟩ := h10
  exact ⟨T, oT, ts, x, t1, t2, t3, t4, t5, t6, old _ t7, npin _ t7⟩
theorem passC_of {X : Cx} {W : Wi} (hp : PassV X W) (hex : X.ex = []) : PassC X W := by
  intro pins σ H s e s' I ⟨ea, c, n, H', e1, os, bare, un, hok, F, c0, n0, e2, w⟩
  subst e1
  obtain ⟨rfl, rfl⟩ := enc_inj e2
  exact hp pins σ H' s' ea c n true (I.call' (ch := []) os un hok bare (fun b z => absurd z (by simp))) (fly_up I hex F) w

section
variable {P : Program} {w : World} {K : PySem.W.Frag} {mg : Str → Option Value} {base : Heap} {x qual : Str} {st : Stmt} {f : Addr} {fd : FuncData} {N ps : List Str} {k : Nat}
/-- THE RULE for a def that may raise -/
theorem fn_vB {g : Rho → Ou} (F : Fun K x qual st f fd) (S : FnScope N ps (defScope st))
    (hb : ∀ (cdv : Value) (A : Around) (outer : List Env) (s : Shared) (H : Hp) (E : XK) (B : Bs), Room k (A.deeper (PyProof.Rows.envOfC qual (defScope st) s.heap.objs.size f cdv)) → (∀ b, s.heap.get? b = none → B.2 b = none) →
      SSs (cxOf (CXv P w K) P w K mg base N qual (defScope st) f cdv A outer s H E) B (fun c n _ H' => E (enc c n) none H') (defBody st) g) :
    FnOk P w K mg base (CXv P w K) (k + 1) f fd ps (spV K ps.length fun ds => fin (g (startR N ds))) := by
  obtain ⟨oc, od, kV, doc, pm, an, cdv, ct, osl, rfl, lk, hcd⟩ := F.ex
  refine fn_of lk hcd S (fun vs H Q E h => h.1) fun A outer s H vs Q E hr hok h => ?_
  obtain ⟨_, G, ds, e, r, h⟩ := h
  dsimp only at h
  exact ⟨_, hb cdv A outer s H E ⟨G, H, 0⟩ hr (fun b n => by
    cases z : H b with
    | none => exact z
    | some u => obtain ⟨o, w⟩ := objok_here (hok _ _ z); rw [n] at w; cases w), startR N ds, G, sr_start e r, fin_post (B := ⟨G, H, 0⟩) h⟩
theorem fn_v {g : Rho → Ou} (F : Fun K x qual st f fd) (S : FnScope N ps (defScope st))
    (hb : ∀ (cdv : Value) (A : Around) (outer : List Env) (s : Shared) (H : Hp) (E : XK) (B : Bs), Room k (A.deeper (PyProof.Rows.envOfC qual (defScope st) s.heap.objs.size f cdv)) →
      SSs (cxOf (CXv P w K) P w K mg base N qual (defScope st) f cdv A outer s H E) B (fun c n _ H' => E (enc c n) none H') (defBody st) g) :
    FnOk P w K mg base (CXv P w K) (k + 1) f fd ps (spV K ps.length fun ds => fin (g (startR N ds))) := fn_vB F S fun cdv A outer s H E B hr _ => hb cdv A outer s H E B hr
end

def gCallX (n : Nat) (g : List D → Rs D) : List D → Rs D := fun ds => if ds.length = n then g ds else .no
section
variable {X : Cx} {B : Bs} {W : Wi}
/-- f(e, ..) of a def that may raise -/
theorem se_call {x : Str} {p pos : Pos} {e : Expr} {es : List Expr} {fs : Rho → Rs (List D)} {f : Addr} {fd : FuncData} {ps : List Str} {k n : Nat} {g : List D → Rs D} (F : FnOk X.prog X.w X.K X.mg X.base (CXv X.prog X.w X.K) k f fd ps (spV X.K n g)) (hr : Room k X.A) (hg : Gl X x) (hm : X.mg x = some (.ref f)) (hk : PySem.W.keepIn X.K (.ref f) = true) (hb : Binds X.K fd ps [])
    (hx : PassC X W) (ha : SA X B W (e :: es) fs) (hdb : (x == ("__debug__" : Str)) = false := by decide) (he : starEach (e :: es) X.env = (false, eval e X.env) :: starEach es X.env := by rfl) (hpl : (backTo pos (starEach es X.env)).any (·.1) = false := by rfl) :
    SE X B W (.Call (.Name x p) (e :: es) [] pos) (fA fs (gCallX n g)) := by
  intro pins s σ H Q I h
  refine wpAny_Call_Name_kw (ld_glob I hg hm ?_ hdb)
  have h2 : tAF X.K B W fs σ H fun vs H1 => spV X.K n g vs H1 Q fun v _ H' => ∃ c n, v = enc c n ∧ W c n σ H' := by
    obtain ⟨ρ, G, s, p⟩ := h
    refine ⟨ρ, G, s, ?_⟩
    unfold fA at p
    cases e : fs ρ with
    | ex c n => rw [e] at p; exact p
    | no => rw [e] at p; exact p
    | ok ds =>
      rw [e] at p
      intro vs H1 G1 x r
      have p := Post.ext x p
      unfold gCallX at p; dsimp only [Rs.bind] at p
      by_cases hl : ds.length = n
      · rw [if_pos hl] at p
        refine ⟨by rw [← r.length]; exact hl, G1, ds, (s.ext x).ex0, r, ?_⟩
        cases e1 : g ds with
        | ok d => rw [e1] at p; exact p
        | ex c n => rw [e1] at p; exact fun H' G' y => ⟨c, n, rfl, p H' G' y⟩
        | no => rw [e1] at p; exact p.elim
      · rw [if_neg hl] at p; exact p.elim
  refine PySem.W.callWith_K (h₀ := X.base) I.ok.mod.kin hk (thn (ha pos pins s σ H _ I h2) fun us s1 ⟨vs, H1, I1, r, q⟩ => ⟨I1.kIn, ?_⟩) he hpl
  have hl : (us ++ []).length = ps.length := by rw [List.append_nil, ← r.length]; exact F.len _ _ _ _ q
  have hbb := hb s1 us I1.kIn hl
  rw [List.append_nil] at hbb
  refine wpAny_call (codeAny_mono (F.run X.A X.stack s1 H1 ⟨us, []⟩ us vs Q _ hr I1.env0 hbb r q) fun r s' hq => ?_)
  cases r with
  | error e => exact hx pins σ H1 s1 e s' I1 hq
  | ok fl =>
    cases fl with
    | ret u => exact I1.after hq
    | next => exact False.elim hq
    | brk => exact False.elim hq
    | cont => exact False.elim hq

/-! raise -/
/-- the class object, as it lies -/
theorem exc_obj {K : PySem.W.Frag} {h : Heap} {C : Addr} {bmB : List Value} {newId : String} (Z : K.In h) (q : PySem.W.excIn K C bmB newId = true) :
    ∃ bm N nm qn bs hd sn sub ab col dd k0 k1 k2 k3 k5 mN, h.get? C = some (excClassObj nm qn C N bs bm hd sn sub ab col dd k0 k1 k2 k3 k5 newId) ∧ h.Ns N mN ∧ mN "__init__" = none ∧ OwnTail h bmB bm := by
  unfold PySem.W.excIn at q
  split at q
  next dd cl sl ho =>
    split at q
    next C1 tl a0 a1 a2 a3 nw a5 hmro hsl =>
      simp only [Bool.and_eq_true, Bool.not_eq_true', beq_iff_eq] at q
      obtain ⟨⟨⟨⟨⟨q1, q2⟩, q3⟩, q4⟩, q5⟩, q6⟩ := q
      subst q1 q2
      obtain ⟨y1, y2, y3, y4, y5, y6, y7, y8, y9, y10, y11⟩ := cl
      dsimp only at hmro q3 q5 q6
      subst hmro q3
      have e : sl = #[a0, a1, a2, a3, some (.builtin nw), a5] := by
        cases sl
        exact congrArg Array.mk hsl
      rw [e] at ho
      exact ⟨tl, y4, y1, y5, y2, y6, y7, y8, y9, y10, dd, a0, a1, a2, a3, a5, _, Z _ _ ho, .of_isNs (PySem.W.isNs_of_in Z q5), PySem.W.nsMap_none_of_in Z q5 q6, PySem.W.tail_of_in Z q4⟩
    next => cases q
  next => cases q
end
end Vl

set_option Elab.async false
set_option linter.all false
set_option maxRecDepth 100000
set_option maxHeartbeats 4000000
namespace Vl
open PySem PySem.Spec L2

/-! ### what is walked, by data -/
def Yl (K : PySem.W.Frag) (J : It) (ds : List D) (G : Hp) : Prop := ∀ (i : Nat) (G1 H1 : Hp), Same G G1 → Ext G1 H1 G1 H1 →
  (∀ d, ds[i]? = some d → J.go i H1 ∧ ∀ x H2, J.yld i H1 x H2 → ∃ G2, Ext G1 H1 G2 H2 ∧ Rep K G2 d x) ∧ (ds.length ≤ i → J.stop i H1)
def PostI (K : PySem.W.Frag) (W : Wi) (σ : St) (G H : Hp) (r : Rs (List D)) (R : It → Hp → Prop) : Prop :=
  match r with
  | .ok ds => ∀ J H' G', Ext G H G' H' → Yl K J ds G' → R J H'
  | .ex c n => ∀ H' G', Ext G H G' H' → W c n σ H'
  | .no => False
def tI (K : PySem.W.Frag) (B : Bs) (W : Wi) (f : Rho → Rs (List D)) : TI := fun σ H R => ∃ ρ G, SR K B σ H ρ G ∧ PostI K W σ G H (f ρ) R
def SI (X : Cx) (B : Bs) (W : Wi) (tg iter : Expr) (f : Rho → Rs (List D)) : Prop := PI X tg iter (tI X.K B W f)
def asR : D → Rs (List D)
  | .int n => if -(2 ^ 62) ≤ n ∧ n < 2 ^ 62 then .ok ((List.range n.toNat).map fun (i : Nat) => .int i) else .no
  | _ => .no
section
variable {X : Cx} {K : PySem.W.Frag} {B : Bs} {W : Wi} {σ : St} {G H : Hp} {ρ : Rho} {tg iter : Expr} {f : Rho → Rs D}
theorem PI.imp {t t' : TI} (h : PI X tg iter t) (i : ∀ σ H R, t' σ H R → t σ H R) : PI X tg iter t' := fun pins s σ H R I q => h pins s σ H R I (i σ H R q)
theorem yl_range {lo : Int} {n : Nat} : Yl K (Itr lo n) ((List.range n).map fun (i : Nat) => .int (lo + i)) G := by
  intro i G1 H1 gg e
  refine ⟨fun d hd => ?_, fun hl => show n ≤ i by simpa using hl⟩
  have hi : i < n := by have := (List.getElem?_eq_some_iff.mp hd).1; simpa using this
  refine ⟨hi, fun x H2 y => ?_⟩
  obtain ⟨e2, y⟩ := y
  subst e2 y
  rw [List.getElem?_map, List.getElem?_range hi] at hd
  cases hd
  exact ⟨G1, e, rep_int.mpr rfl⟩
theorem post_as {as : D → Rs (List D)} {r : Rs D} {R : It → Hp → Prop} {Q : VK} (p : PostI K W σ G H (r.bind as) R) (h : ∀ d v H' G' ds, as d = .ok ds → Ext G H G' H' → Rep K G' d v → (∀ J H'' G'', Ext G' H' G'' H'' → Yl K J ds G'' → R J H'') → Q v H') (hn : ∀ d c n, as d ≠ .ex c n) : Post K W σ G H r Q := by
  cases r with
  | ok d =>
    intro v H' G' e rv
    have p' : PostI K W σ G H (as d) R := p
    cases e1 : as d with
    | ok ds => rw [e1] at p'; exact h d v H' G' ds e1 e rv fun J H'' G'' e' y => p' J H'' G'' (e.trans e') y
    | ex c n => exact (hn d c n e1).elim
    | no => rw [e1] at p'; exact p'.elim
  | ex c n => exact p
  | no => exact p
theorem si_range {e : Expr} {p1 p2 : Pos} (hm : X.mg "range" = none) (hi : SE X B W e f) (hgl : Gl X "range" := by rfl) (hst : starEach [e] X.env = [(false, eval e X.env)] := by rfl) : SI X B W tg (.Call (.Name "range" p1) [e] [] p2) (fun ρ => (f ρ).bind asR) := by
  refine PI.imp (pi_range1 hgl hm (pa_cons hi pa_nil (by rw [hst]; rfl)) hst) fun σ H R ⟨ρ, G, s, p⟩ => ⟨ρ, G, s, post_as p (fun d v H' G' ds e1 e rv k => ?_) (fun d c n z => by cases d <;> first | cases z | (simp only [asR] at z; split at z <;> cases z))⟩
  cases d with
  | int n =>
    simp only [asR] at e1
    by_cases c : -(2 ^ 62) ≤ n ∧ n < 2 ^ 62
    · rw [if_pos c] at e1
      cases e1
      refine ⟨n, by rw [rep_int.mp rv], c.1, c.2, k _ H' G' (.refl e.gh e.tp) ?_⟩
      have := yl_range (K := X.K) (G := G') (lo := 0) (n := n.toNat)
      simpa using this
    · rw [if_neg c] at e1; cases e1
  | _ => cases e1

/-! ### the comprehension -/
def NoOw (ρ : Rho) : Prop := ∀ (i : Nat) (z : Sl), ρ[i]? = some z → z.own = true → False
def KeepNo (h : Tg) : Prop := ∀ d ρ ρ', NoOw ρ → h d ρ = some ρ' → NoOw ρ'
def startCR (nt : Nat) (caps : List Nat) (ρ : Rho) : Rho := List.replicate nt .no ++ caps.map fun i => match ρ[i]? with | some (.fz d) => .fz d | _ => .no
def compD (h : Tg) (ft : Rho → Rs Bool) (fe : Rho → Rs D) : List D → Rho → Rs (List D)
  | [], _ => .ok []
  | d :: ds, ρ => match h d ρ with
    | none => .no
    | some ρ1 => (ft ρ1).bind fun b => if b = true then (fe ρ1).bind fun y => (compD h ft fe ds ρ1).bind fun ys => .ok (y :: ys) else compD h ft fe ds ρ1
theorem noOw_start {nt : Nat} {caps : List Nat} {ρ : Rho} : NoOw (startCR nt caps ρ) := fun i z q w => by
  unfold startCR at q
  by_cases hi : i < (List.replicate nt Sl.no).length
  · rw [List.getElem?_append_left hi, List.getElem?_replicate] at q
    split at q <;> cases q
    cases w
  · rw [List.getElem?_append_right (by lia), List.getElem?_map] at q
    cases e : caps[i - (List.replicate nt Sl.no).length]? with
    | none => rw [e] at q; cases q
    | some k =>
      rw [e] at q
      have q' : (match ρ[k]? with | some (.fz d) => Sl.fz d | _ => .no) = z := Option.some.inj q
      split at q' <;> (subst q'; cases w)
theorem sr_comp {nt : Nat} {caps : List Nat} {p : Addr} (s : SR K B σ H ρ G) (hp : H p = none) : SR K ⟨G, H, 0⟩ (startC nt caps σ) (upd H p (.lst [])) (startCR nt caps ρ) G := by
  refine ⟨ext_own s.en.gh s.en.tp hp, by simp [startC, startCR], fun i d q => ?_, fun i z q w => (noOw_start i z q w).elim, fun i j z z' a q w => (noOw_start i z q w).elim, fun i ds a q => (noOw_start i _ q rfl).elim, s.co.same (ext_own s.en.gh s.en.tp hp).hh⟩
  unfold startCR at q
  unfold startC
  by_cases hi : i < nt
  · rw [List.getElem?_append_left (by simpa using hi), List.getElem?_replicate] at q
    split at q <;> cases q
  · rw [List.getElem?_append_right (by simpa using hi), List.getElem?_map, List.length_replicate] at q
    rw [List.getElem?_append_right (by simpa using hi), List.getElem?_map, List.length_replicate]
    cases e : caps[i - nt]? with
    | none => rw [e] at q; cases q
    | some k =>
      rw [e] at q
      have q' : (match ρ[k]? with | some (.fz d) => Sl.fz d | _ => .no) = .fz d := Option.some.inj q
      cases e2 : ρ[k]? with
      | none => rw [e2] at q'; cases q'
      | some z =>
        rw [e2] at q'
        cases z with
        | fz d' =>
          cases q'
          obtain ⟨v, h1, h2⟩ := s.fz k _ e2
          exact ⟨v, by simp [h1], h2⟩
        | no => cases q'
        | ow _ => cases q'
        | od _ => cases q'
        | op _ => cases q'
theorem SR.off {p : Addr} {vs us : List V} (s : SR K B σ H ρ G) (hn : NoOw ρ) (hp : H p = some (.lst vs)) (g : G p = none) (b : B.2 p = none) : SR K B σ (upd H p (.lst us)) ρ G := by
  refine ⟨⟨s.en.gg, fun c o z => ?_, fun c o z => ?_, fun c xs z => ?_, s.en.nw⟩, s.len, s.fz, fun i z q w => (hn i z q w).elim, fun i j z z' a q w => (hn i z q w).elim, fun i ds a q => (hn i _ q rfl).elim, s.co.upd hp (fun _ z => by cases z)⟩
  · rw [upd_ne (ne_of_none z b)]; exact s.en.hh c o z
  · rw [upd_ne (ne_of_none z g)]; exact s.en.gh c o z
  · by_cases w : c = p
    · subst w; rw [upd_same] at z; cases z
    · rw [upd_ne w] at z; exact s.en.tp c xs z

def gComp (h : Tg) (ft : Rho → Rs Bool) (fe : Rho → Rs D) (nt : Nat) (caps : List Nat) (f : Rho → Rs (List D)) : Rho → Rs D := fun ρ =>
  (f ρ).bind fun ds => noExR ((compD h ft fe ds (startCR nt caps ρ)).bind fun ys => if ys.length ≤ 1000000 then .ok (.lst ys) else .no)
/-- the same, and what an element raises is raised -/
def gCompX (h : Tg) (ft : Rho → Rs Bool) (fe : Rho → Rs D) (nt : Nat) (caps : List Nat) (f : Rho → Rs (List D)) : Rho → Rs D := fun ρ =>
  (f ρ).bind fun ds => match compD h ft fe ds (startCR nt caps ρ) with
    | .ok ys => if ys.length ≤ 1000000 then .ok (.lst ys) else .no
    | .ex c n => if ds.length ≤ 1000000 then .ex c n else .no
    | .no => .no
theorem compD_nox {h : Tg} {ft : Rho → Rs Bool} {fe : Rho → Rs D} : ∀ {ds : List D} {ρ : Rho}, compD h (fun ρ => noExR (ft ρ)) (fun ρ => noExR (fe ρ)) ds ρ = noExR (compD h ft fe ds ρ)
  | [], _ => rfl
  | d :: ds, ρ => by
    unfold compD
    cases h d ρ with
    | none => rfl
    | some ρ1 =>
      have ih := compD_nox (h := h) (ft := ft) (fe := fe) (ds := ds) (ρ := ρ1)
      dsimp only
      generalize compD h (fun ρ => noExR (ft ρ)) (fun ρ => noExR (fe ρ)) ds ρ1 = x at ih ⊢
      generalize compD h ft fe ds ρ1 = y at ih ⊢
      subst ih
      cases ft ρ1 with
      | ok b =>
        cases b with
        | true =>
          cases fe ρ1 with
          | ok z => cases y <;> rfl
          | _ => rfl
        | false => rfl
      | _ => rfl
theorem gComp_X {h : Tg} {ft : Rho → Rs Bool} {fe : Rho → Rs D} {nt : Nat} {caps : List Nat} {f : Rho → Rs (List D)} : gComp h ft fe nt caps f = gCompX h (fun ρ => noExR (ft ρ)) (fun ρ => noExR (fe ρ)) nt caps f := funext fun ρ => by
  unfold gComp gCompX
  cases f ρ with
  | ok ds =>
    dsimp only [Rs.bind]
    rw [compD_nox]
    cases compD h ft fe ds (startCR nt caps ρ) with
    | ok ys => show noExR (if ys.length ≤ 1000000 then _ else _) = if ys.length ≤ 1000000 then _ else _; by_cases c : ys.length ≤ 1000000 <;> simp only [c, if_true, if_false] <;> rfl
    | _ => rfl
  | _ => rfl
theorem nox_ne {α : Type} {r : Rs α} {c : Str} {n : Int} (e : noExR r = .ex c n) : False := by cases r <;> cases e
theorem se_noxR {e : Expr} {f : Rho → Rs D} (h : SE X.nox B WF e f) : SE X B W e (fun ρ => noExR (f ρ)) :=
  fun pins s σ H Q I ⟨ρ, G, sr, p⟩ => PE.nox h pins s σ H Q I ⟨ρ, G, sr, by dsimp only at p; cases e : f ρ <;> (rw [e] at p; first | exact p | exact p.elim)⟩
theorem st_noxR {e : Expr} {f : Rho → Rs Bool} (h : ST X B WF e f) : ST X B WF e (fun ρ => noExR (f ρ)) :=
  fun pins s σ H Q I ⟨ρ, G, sr, p⟩ => h pins s σ H Q I ⟨ρ, G, sr, by dsimp only at p; cases e : f ρ <;> (rw [e] at p; first | exact p | exact p.elim)⟩
/-- exceptions may leave this block of a def -/
def Px (X : Cx) (W : Wi) : Prop := PassV X W ∧ X.ex = [] ∧ ∃ outer L, X.stack = X.env :: outer ∧ X.env.frame = some L
theorem fly_but {old h h' : Heap} {av : List Addr} {ea C : Addr} {c : Str} {n : Int} {tr : Bool} {m : Str → Option Value} (F : Fly K old av ea c n h H tr) (hn : h.Ns C m) (hs : Heap.SameBut C h h') : Fly K old av ea c n h' H tr := by
  have ne : ∀ b o (vs : Array Value), h.get? b = some o → o.data = .fields vs → h'.get? b = some o := fun b o vs e d => (hs.2 b fun z => by
    obtain ⟨o', es, ep, ho, hd, _⟩ := hn
    rw [z, ho] at e; cases e; rw [hd] at d; cases d).trans e
  obtain ⟨D, oe, vs, a0, h1, h2, h3, h4, h5, h6, h7, h8, h9, h10⟩ := F
  refine ⟨D, oe, vs, a0, h1, ne _ _ _ h2 h4, h3, h4, h5, h6, h7, h8, h9, ?_⟩
  cases tr with
  | false => exact h10
  | true =>
    rw [if_pos rfl] at h10 ⊢
    obtain ⟨T, oT, ts, x, t1, t2, t3, t4, t5⟩ := h10
    exact ⟨T, oT, ts, x, t1, t2, ne _ _ _ t3 t4, t4, t5⟩
theorem wp_tests_nil {prog : Program} {w : World} {A : Around} {E : Value → Shared → Prop} {s : Shared} {env : Env} {Q : Bool → Shared → Prop} (h : Q true s) :
    wpAny (model prog w) A (forIn ([] : List Expr) true fun c r => if r = true then do let ok ← isTrue c env (eval c env); pure (ForInStep.yield ok) else pure (ForInStep.yield r)) Q E s := by
  simp only [List.forIn_nil]
  exact wpAny_pure h
set_option maxHeartbeats 8000000 in
theorem comp_core {elt : Expr} {ifs : List Expr} {sc : Scope} {pos : Pos} {N : List Str} {nt : Nat} {caps : List Nat} {h : Tg} {ft : Rho → Rs Bool} {fe : Rho → Rs D} {fi : Rho → Rs (List D)}
    (c : Caps X sc N nt caps) (hc : X.calm = true) (hnames : ∀ y ∈ sc.names, y.2 = .local → sc.names.lookup y.1 = some .local) (hi : SI X B W tg iter fi) (hno : KeepNo h)
    (ht : ∀ s₀ H₀ C ex pins B', SG (compX X N s₀ H₀ sc (clOf sc X.env) C ex pins) B' tg h)
    (hif : (ifs = [] ∧ ft = fun _ => .ok true) ∨ ∃ c, ifs = [c] ∧ (∀ ρ c n, ft ρ ≠ .ex c n) ∧ ∀ s₀ H₀ C ex pins B', ST (compX X N s₀ H₀ sc (clOf sc X.env) C ex pins) B' WF c ft)
    (he : ∀ s₀ H₀ C ex pins B' E W', PassC ((compX X N s₀ H₀ sc (clOf sc X.env) C ex pins).wish E) W' → SE ((compX X N s₀ H₀ sc (clOf sc X.env) C ex pins).wish E) B' W' elt fe)
    (hx : (∀ ρ c n, fe ρ ≠ .ex c n) ∨ Px X W) (hs : ∀ x, foldedSetIterable iter X.env x = pure x)
    {use : Option (Value → Sem Unit)} {QQ : Value → Shared → Prop} {pins : List (Addr × Obj)} {s : Shared} {σ : St} {H G : Hp} {ρ : Rho} (I : Inv X pins σ H s) (sr : SR X.K B σ H ρ G)
    (p : match gCompX h ft fe nt caps fi ρ with
      | .ok d => ∀ (D' C : Addr) (H' G' : Hp) (s5 : Shared) (fl : Flow), Ext G H G' H' → Rep X.K G' d (.ref D') → (∃ m, s5.heap.Ns C m) → FpOk X pins H' C → (∀ h', Heap.SameBut C s5.heap h' → Inv X pins σ H' { s5 with heap := h' }) → compPost (model X.prog X.w) X.A X.xe use QQ (.ref D') C (.ok fl) s5
      | .ex c n => ∀ H' G', Ext G H G' H' → W c n σ H'
      | .no => False) :
    wpAny (model X.prog X.w) X.A (comprehension (.ListComp elt [⟨tg, iter, ifs, 0⟩] sc pos) sc X.env (firstIterPos [⟨tg, iter, ifs, 0⟩] pos) (newList []) (firstAsync [⟨tg, iter, ifs, 0⟩]) (firstIter [⟨tg, iter, ifs, 0⟩] X.env) use) QQ X.xe s := by
  refine wpAny_comprehension_free (use := use) (cl := clOf sc X.env) rfl hs (closureFor_clOf (c.cells I)) c.kind hnames ?_
  show wpAny (model X.prog X.w) X.A (eval iter X.env) _ X.xe s
  let PP : List D → Rs (List D) → Prop := fun ds r => match r with
    | .ok YS => YS.length ≤ 1000000 ∧ ∀ (D' C : Addr) (H' G' : Hp) (s5 : Shared) (fl : Flow), Ext G H G' H' → Rep X.K G' (.lst YS) (.ref D') → (∃ m, s5.heap.Ns C m) → FpOk X pins H' C → (∀ h', Heap.SameBut C s5.heap h' → Inv X pins σ H' { s5 with heap := h' }) → compPost (model X.prog X.w) X.A X.xe use QQ (.ref D') C (.ok fl) s5
    | .ex c n => ds.length ≤ 1000000 ∧ ∀ H' G', Ext G H G' H' → W c n σ H'
    | .no => False
  refine wpAny_mono (hi pins s σ H (fun J H2 => ∃ G2 ds, Ext G H G2 H2 ∧ Yl X.K J ds G2 ∧ PP ds (compD h ft fe ds (startCR nt caps ρ))) I ⟨ρ, G, sr, ?_⟩) (fun v s1 h1 => wpAny_mono h1 (fun itv s2 h2 => ?_) fun _ _ z => z) fun _ _ z => z
  · unfold gCompX at p
    cases e : fi ρ with
    | ok ds =>
      rw [e] at p
      dsimp only [Rs.bind] at p
      refine fun J H' G' x y => ⟨G', ds, x, y, ?_⟩
      cases e : compD h ft fe ds (startCR nt caps ρ) with
      | ok YS =>
        rw [e] at p
        by_cases hl : YS.length ≤ 1000000
        · simp only [if_pos hl] at p; exact ⟨hl, p⟩
        · simp only [if_neg hl] at p
      | ex c n =>
        rw [e] at p
        by_cases hl : ds.length ≤ 1000000
        · simp only [if_pos hl] at p; exact ⟨hl, p⟩
        · simp only [if_neg hl] at p
      | no => rw [e] at p; exact p.elim
    | ex c n => rw [e] at p; exact p
    | no => rw [e] at p; exact p
  obtain ⟨it, fp, tn, J, H2, e, I2, T, st2, f2, G2, ds, x2, yl, hPP⟩ := h2
  subst e
  refine wpAny_newObj_type (wpAny_newFunctionEnv c.nocell (by intro y hy; simp at hy) (fun h₁ hns₁ hsb₁ => ?_) c.kind)
  have hD2 : H2 s2.heap.objs.size = none := I2.fresh
  have I3 := I2.lnew (ys := []) (its := []) (t' := s2.toks) .nil (by simp)
  have sr2 : SR X.K B σ H2 ρ G2 := sr.ext x2
  have fpl : ∀ b ∈ fp, b < s2.heap.objs.size := fun b hb => by
    obtain ⟨o, ho, _⟩ := T.obj 0 _ st2 b hb
    exact Heap.lt_size ho
  have hk : ∀ b o, (s2.heap.push { cls := .type "list", data := .seq ([] : List Value).toArray }).get? b = some o → h₁.get? b = some o := fun b o z =>
    (hsb₁.2 b (Nat.ne_of_lt (Heap.lt_size z))).trans (Heap.get?_push_of_some _ z)
  have fpok : ∀ b ∈ fp, FpOk X pins (upd H2 s2.heap.objs.size (.lst [])) b ∧ b < (s2.heap.push { cls := .type "list", data := .seq ([] : List Value).toArray }).objs.size := fun b hb => by
    obtain ⟨g1, g2⟩ := f2 b hb
    refine ⟨⟨?_, g2⟩, ?_⟩
    · rw [upd_ne (Nat.ne_of_lt (fpl b hb))]; exact g1
    · rw [Heap.size_push]; exact Nat.lt_succ_of_lt (fpl b hb)
  have IY := comp_start (h' := h₁) (tk := s2.toks + ([] : List (Str × Value)).length) c I3 fpok hns₁ hk
  generalize hC : (s2.heap.push { cls := .type "list", data := .seq ([] : List Value).toArray }).objs.size = C at *
  have srY := sr_comp (nt := nt) (caps := caps) sr2 hD2
  have stk : ∀ b, b ≠ X.env.locals → b ∉ X.fs → b ∉ frs X.stack := fun b h1 h2 h3 => (List.mem_cons.mp (I2.stkSub b h3)).elim h1 h2
  have hCl : s2.heap.objs.size + 1 = C := by rw [← hC, Heap.size_push]
  have stat : ∀ {H' : Hp}, (∀ b ∈ fp, H' b = none) → ∀ b ∈ fp, FpOk (compX X N { s2 with heap := s2.heap.push { cls := .type "list", data := .seq ([] : List Value).toArray }, toks := s2.toks } (upd H2 s2.heap.objs.size (.lst [])) sc (clOf sc X.env) C fp pins) [] H' b := fun {H'} hn b hb => by
    obtain ⟨_, g2, g3, g4, g5, g6⟩ := f2 b hb
    refine ⟨hn b hb, ?_, stk b g2 g3, .inl hb, fun x a ha => g5 x a (c.cl I2 ha), fun p hp => ?_⟩
    · show b ≠ C
      exact Nat.ne_of_lt (hCl ▸ Nat.lt_succ_of_lt (fpl b hb))
    · rw [List.append_nil] at hp; exact g6 p hp
  let Y := compX X N { s2 with heap := s2.heap.push { cls := .type "list", data := .seq ([] : List Value).toArray }, toks := s2.toks } (upd H2 s2.heap.objs.size (.lst [])) sc (clOf sc X.env) C fp pins
  let D' := s2.heap.objs.size
  -- from the block back to the frame
  have toX : ∀ {σ5 : St} {H5 : Hp} {s5 : Shared}, Inv Y [] σ5 H5 s5 → ∀ h', Heap.SameBut C s5.heap h' → Inv X pins σ H5 { s5 with heap := h' } := fun {σ5 H5 s5} I5 h' hs' => by
    have ne : ∀ b o, (s2.heap.push { cls := .type "list", data := .seq ([] : List Value).toArray }).get? b = some o → b ≠ C := fun b o e z => by
      have := Heap.lt_size e
      rw [hC, z] at this
      exact Nat.lt_irrefl _ this
    have U := I5.base
    refine I3.call' (ch := fp) (s' := { s5 with heap := h' }) I5.os ⟨fun b o e n hb hx => ?_, fun b o e n hb hx => ?_, U.free, fun b o e hx => ?_, U.tups, U.frzs, U.tbls⟩ (fun b o e => ?_) I5.bare fun b hb => ?_
    · exact (hs'.2 b (ne b o e)).trans (U.keep b o e n hb hx)
    · obtain ⟨sl, q⟩ := U.slot b o e n hb hx
      exact ⟨sl, (hs'.2 b (ne b o e)).trans q⟩
    · obtain ⟨o', q⟩ := U.there b o e hx
      exact ⟨o', (hs'.2 b (ne b o e)).trans q⟩
    · have fC : H5 C = none := I5.free
      refine (I5.hok b o e).stay (fun c' u' hc' q => (hs'.2 c' ?_).trans q) (fun _ q => q) (fun _ _ q => q) fun _ _ q => q
      rintro rfl
      rcases hc' with rfl | hc'
      · rw [fC] at e; cases e
      · rw [fC] at hc'; cases hc'
    · obtain ⟨_, g2, _, g4, g5, g6⟩ := f2 b hb
      exact ⟨g4, g2, g5, g6⟩
  have hfx : ∀ ρ c n, ft ρ ≠ .ex c n := by
    rcases hif with ⟨_, e2⟩ | ⟨_, _, h, _⟩
    · subst e2; exact fun _ _ _ z => nomatch z
    · exact h
  let Jn : Nat → Shared → Prop := fun n s4 => ∃ (i : Nat) (ρ' : Rho) (σ' : St) (H' G' : Hp) (yds : List D) (yvs : List V), Inv Y [] σ' H' s4 ∧ tn i s4.heap ∧ (∀ b ∈ fp, H' b = none) ∧ SR X.K ⟨G2, H2, 0⟩ σ' H' ρ' G' ∧ NoOw ρ' ∧ H' D' = some (.lst yvs) ∧ G' D' = none ∧
    Reps X.K G' yds yvs ∧ i ≤ ds.length ∧ n = ds.length - i ∧ yds.length ≤ i ∧ PP ds ((compD h ft fe (ds.drop i) ρ').bind fun r => .ok (yds ++ r))
  have loop : ∀ (n : Nat) (s4 : Shared), Jn n s4 → codeAny (model X.prog X.w) X.A (.compLoop (.ListComp elt [⟨tg, iter, ifs, 0⟩] sc pos) 0 (.ref it) (.ref D') Y.env) (compPost (model X.prog X.w) X.A X.xe use QQ (.ref D') C) s4 := by
    intro n0 s40 h0
    refine compLoop_gen (J := Jn) ?_ n0 h0
    rintro n s4 ⟨i, ρ', σ', H', G', yds, yvs, I4, st4, fr4, sr4, no4, hD4, hG4, ry4, hi4, rfl, hyi, hcd⟩
    by_cases hlt : i < ds.length
    · obtain ⟨yes, _⟩ := yl i G' H' sr4.en.gg sr4.ext0
      obtain ⟨go, yields⟩ := yes ds[i] (by simp [hlt])
      rw [List.drop_eq_getElem_cons hlt] at hcd
      unfold compD at hcd
      cases eh : h ds[i] ρ' with
      | none => rw [eh] at hcd; exact hcd.elim
      | some ρ1 =>
        rw [eh] at hcd
        dsimp only at hcd
        refine thn (T.item Y rfl rfl rfl hc i [] s4 σ' H' (fun _ _ => False) I4 (stat fr4) st4 go) fun r s5 hq9 => ?_
        obtain ⟨u, hr, h5⟩ := hq9
        subst hr
        refine thn h5 fun _ s6 hq9 => ?_
        obtain ⟨x, H6, I6, r6, y6, st6, fr6⟩ := hq9
        obtain ⟨G6, e6, rep6⟩ := yields x H6 y6
        have sr6 := sr4.ext e6
        have I6' := I6.pinned (stat fr6) (T.obj _ _ st6)
        refine thn (ht _ _ _ _ _ ⟨G2, H2, 0⟩ _ s6 σ' H6 x u (fun σ7 H7 => H7 = H6 ∧ SR X.K ⟨G2, H2, 0⟩ σ7 H6 ρ1 G6) I6' r6 ⟨ρ', G6, ds[i], sr6, rep6, ρ1, eh, fun σ7 z => ⟨rfl, z⟩⟩) fun _ s7 hq9 => ?_
        obtain ⟨σ7, H7, I7, eH7, sr7⟩ := hq9
        subst eH7
        have no7 := hno _ _ _ no4 eh
        -- the iterator stands
        have again : ∀ {σ8 : St} {H8 : Hp} {s8 : Shared}, Inv Y ([] ++ pinsAt fp s6.heap) σ8 H8 s8 → Inv Y [] σ8 H8 s8 ∧ tn (i + 1) s8.heap ∧ ∀ b ∈ fp, H8 b = none := fun {σ8 H8 s8} I8 => by
          refine ⟨I8.unpinned, T.keep _ _ _ st6 fun b hb o e => (I8.pin (b, o) (List.mem_append_right _ (List.mem_append_right _ (mem_pinsAt hb e)))).1, fun b hb => ?_⟩
          obtain ⟨o, e, d⟩ := T.obj _ _ st6 b hb
          exact (I8.pin (b, o) (List.mem_append_right _ (List.mem_append_right _ (mem_pinsAt hb e)))).2.1
        obtain ⟨b, hb, hcd⟩ : ∃ b, ft ρ1 = .ok b ∧ PP ds ((if b = true then (fe ρ1).bind fun y => (compD h ft fe (ds.drop (i + 1)) ρ1).bind fun ys => .ok (y :: ys) else compD h ft fe (ds.drop (i + 1)) ρ1).bind fun r => .ok (yds ++ r)) := by
          cases e : ft ρ1 with
          | ok b => rw [e] at hcd; exact ⟨b, rfl, hcd⟩
          | ex c n => exact (hfx _ _ _ e).elim
          | no => rw [e] at hcd; exact hcd.elim
        have test : wpAny (model X.prog X.w) X.A (forIn ifs true fun c r => if r = true then do let ok ← isTrue c Y.env (eval c Y.env); pure (ForInStep.yield ok) else pure (ForInStep.yield r)) (TP Y ([] ++ pinsAt fp s6.heap) σ7 fun b' H8 => b' = b ∧ ∃ G8, Ext G6 H7 G8 H8) (fun _ _ => False) s7 := by
          rcases hif with ⟨e1, e2⟩ | ⟨cc, e1, _, hst⟩
          · subst e1 e2
            cases hb
            exact wp_tests_nil ⟨H7, I7, rfl, G6, sr7.ext0⟩
          · subst e1
            refine wpAny_tests_one (hst _ _ _ _ _ ⟨G2, H2, 0⟩ _ s7 σ7 H7 _ I7 ⟨ρ1, G6, sr7, ?_⟩)
            rw [hb]
            exact fun H8 G8 e8 => ⟨rfl, G8, e8⟩
        refine thn test fun ok s8 hq9 => ?_
        obtain ⟨H8, I8, eb, G8, e8⟩ := hq9
        subst eb
        have sr8 := sr7.ext e8
        have hD8 : H8 D' = some (.lst yvs) := e8.hh _ _ (e6.hh _ _ hD4)
        have hG8 : G8 D' = none := e8.nw _ _ (e6.hh _ _ hD4) (e6.nw _ _ hD4 hG4)
        have ry8 := (ry4.mono e6.gg).mono e8.gg
        cases ok with
        | true =>
          rw [if_pos rfl] at hcd ⊢
          let W1 : Wi := fun c n _ H9 => fe ρ1 = .ex c n ∧ ∃ G9, Ext G8 H8 G9 H9
          let E1 : Value → Shared → Prop := fun e s' => ∃ pins' σ' H' s1, Inv Y pins' σ' H' s1 ∧ CXv X.prog X.w X.K X.stack H' s1 (fun v _ H'' => ∃ c n, v = enc c n ∧ W1 c n σ' H'') e s'
          refine wpAny_mono (he _ _ _ _ _ ⟨G2, H2, 0⟩ E1 W1 (fun pins' σ' H' s1 e s' I1 q => ⟨pins', σ', H', s1, I1.unwish, q⟩) _ s8 σ7 H8 (fun v H9 => ∃ y G9, fe ρ1 = .ok y ∧ Ext G8 H8 G9 H9 ∧ Rep X.K G9 y v) (I8.wish E1) ⟨ρ1, G8, sr8, ?_⟩) (fun u9 s9 ⟨v9, H9, I9, r9, y, G9, hy, e9, rep9⟩ => ?_) (fun e s' q => ?_)
          · cases e : fe ρ1 with
            | ok y => exact fun v H9 G9 e9 r => ⟨y, G9, rfl, e9, r⟩
            | ex c n => exact fun H9 G9 e9 => ⟨e, G9, e9⟩
            | no => rw [e] at hcd; exact hcd.elim
          rotate_left
          · obtain ⟨pins', σ', H1, s1, I1, ea, c', n, H9, e1, os, bare, un, hok, F, c0, n0, e2, efe, G9, x9⟩ := q
            subst e1
            obtain ⟨rfl, rfl⟩ := enc_inj e2
            rcases hx with hx | ⟨hp, hex, outer, L, hst, hf⟩
            · exact (hx _ _ _ efe).elim
            rw [efe] at hcd
            have J1 : Inv Y [] σ' H1 s1 := I1.pins_of fun p z => absurd z (by simp)
            have J9 : Inv Y [] σ' H9 s' := J1.call' (ch := []) os un hok bare (fun b z => absurd z (by simp))
            obtain ⟨m, hm, _⟩ := J9.loc
            have fpk : FpOk X pins H9 C := I3.fpOk (Nat.le_of_eq hC) J9.free
            show wpAny _ X.A (noteFrame (.ref ea) X.env) _ _ s'
            refine look_v hst hf hex (toX J9 s'.heap (.refl C _)) (fly_up (toX J1 s1.heap (.refl C _)) hex F) fun h' K2 F2 up => ?_
            have fin : ∃ m, h'.Ns C m ∧ ∀ h'', Heap.SameBut C h' h'' → ∀ cenv : Env, cenv.locals = C → wpAny (model X.prog X.w) X.A (passOn "comprehension.variables-let-go" (.ref ea) cenv : Sem Value) (fun _ _ => False) X.xe { s' with heap := h'' } := ⟨m, up.ns hm, fun h'' hs cenv _ => by
              have K3 := K2.turned (t' := s'.toks) (fun b o hb e => (hs.2 b hb).trans e) fpk.1 fpk.2.1 fpk.2.2.2.1 fpk.2.2.2.2.1 fpk.2.2.2.2.2
              have F3 := fly_but F2 (up.ns hm) hs
              obtain ⟨_, oe, vs, a0, _, g2, _, g4, _, _, _, _, _, g10⟩ := id F3
              rw [if_pos rfl] at g10
              obtain ⟨T, _, _, _, t1, _⟩ := g10
              unfold passOn
              refine wpAny_bind (wpAny_field g2 g4 t1 ?_)
              rw [if_neg (show ¬ ((Value.ref T == Value.none) = true) from by simp)]
              have go : wpAny (model X.prog X.w) X.A (do setFlight (.ref ea) cenv.frame; throw (.ref ea) : Sem Value) (fun _ _ => False) X.xe { s' with heap := h'' } := wpAny_bind (land_v K3 F3 fun h3 K4 F4 => wpAny_throw (hp pins σ H9 _ ea c' n true K4 F4 (hcd.2 H9 G9 (x2.trans (sr8.en.trans x9)))))
              first | exact go | exact wpAny_bind (wpAny_pure go)⟩
            cases use <;> exact fin
          rw [hy] at hcd
          have hcd2 : PP ds ((compD h ft fe (ds.drop (i + 1)) ρ1).bind fun r => .ok ((yds ++ [y]) ++ r)) := by
            cases e : compD h ft fe (ds.drop (i + 1)) ρ1 with
            | ok ys => rw [e] at hcd; dsimp only [Rs.bind] at hcd ⊢; rw [List.append_assoc]; exact hcd
            | ex c n => rw [e] at hcd; exact hcd
            | no => rw [e] at hcd; exact hcd
          have hD9 := e9.hh _ _ hD8
          have hG9 := e9.nw _ _ hD8 hG8
          have ryl := ry8.length
          have hYl : yds.length < 1000000 := by
            cases e : compD h ft fe (ds.drop (i + 1)) ρ1 with
            | ok ys =>
              rw [e] at hcd2
              have := hcd2.1
              simp only [List.length_append, List.length_cons] at this
              lia
            | ex c n => rw [e] at hcd2; have := hcd2.1; lia
            | no => rw [e] at hcd2; exact hcd2.elim
          refine thn (mt_append (X := Y) _ s9 σ7 H9 (.ref D') [v9] (.ref D') [u9] (fun _ H10 => H10 = upd H9 D' (.lst (yvs ++ [v9]))) I9.unwish rfl (.cons r9 .nil) ⟨D', yvs, v9, rfl, rfl, hD9, by rw [← ryl]; exact Nat.lt_of_lt_of_le hYl (by rw [sizeLine_eq]; decide), rfl⟩) fun _ s10 hq9 => ?_
          obtain ⟨_, H10, I10, _, e10⟩ := hq9
          subst e10
          obtain ⟨J1, J2, J3⟩ := again I10
          refine ⟨ds.length - (i + 1), by lia, i + 1, ρ1, σ7, _, G9, yds ++ [y], yvs ++ [v9], J1, J2, J3, (sr8.ext e9).off no7 hD9 hG9 hD2, no7, upd_same, hG9, (ry8.mono e9.gg).append (.one rep9), hlt, rfl, by rw [List.length_append]; exact Nat.succ_le_succ hyi, hcd2⟩
        | false =>
          rw [if_neg (by simp)] at hcd ⊢
          obtain ⟨J1, J2, J3⟩ := again I8
          exact ⟨ds.length - (i + 1), by lia, i + 1, ρ1, σ7, H8, G8, yds, yvs, J1, J2, J3, sr8, no7, hD8, hG8, ry8, hlt, rfl, Nat.le_succ_of_le hyi, hcd⟩
    · have ei : i = ds.length := by lia
      subst ei
      obtain ⟨_, no⟩ := yl ds.length G' H' sr4.en.gg sr4.ext0
      rw [List.drop_length] at hcd
      dsimp only [compD, Rs.bind] at hcd
      rw [List.append_nil] at hcd
      have hQ := hcd.2
      refine thn (T.done Y rfl rfl rfl hc ds.length [] s4 σ' H' (fun _ _ => False) I4 (stat fr4) st4 (no (Nat.le_refl _))) fun r s5 hq9 => ?_
      obtain ⟨hr, I5⟩ := hq9
      subst hr
      obtain ⟨m, hm, _⟩ := I5.loc
      have fC0 : H' C = none := I5.free
      refine hQ D' C H' (upd G' D' (.lst yvs)) s5 _ ?_ ?_ ⟨m, hm⟩ (I3.fpOk (Nat.le_of_eq hC) fC0) (toX I5)
      · have gg : Same G' (upd G' D' (.lst yvs)) := fun b o z => by rw [upd_ne (ne_of_none z hG4)]; exact z
        refine ⟨(x2.gg.trans sr4.en.gg).trans gg, x2.hh.trans sr4.en.hh, fun b o z => ?_, fun b xs z => ?_, fun b o z w => ?_⟩
        · by_cases e : b = D'
          · subst e; rw [upd_same] at z; cases z; exact hD4
          · rw [upd_ne e] at z; exact sr4.en.gh b o z
        · by_cases e : b = D'
          · subst e; rw [hD4] at z; cases z
          · rw [upd_ne e]; exact sr4.en.tp b xs z
        · have z2 := x2.hh b o z
          rw [upd_ne (ne_of_none z2 hD2)]
          exact sr4.en.nw b o z2 (x2.nw b o z w)
      · have gg : Same G' (upd G' D' (.lst yvs)) := fun b o z => by rw [upd_ne (ne_of_none z hG4)]; exact z
        exact rep_lst.mpr ⟨D', yvs, rfl, .of upd_same, ry4.mono gg⟩
  have first : ∀ tk, Jn ds.length { s2 with heap := h₁, toks := tk } := fun tk => by
    have IY' : Inv Y [] (startC nt caps σ) (upd H2 s2.heap.objs.size (.lst [])) { s2 with heap := h₁, toks := tk } := IY.tok tk
    refine ⟨0, startCR nt caps ρ, startC nt caps σ, upd H2 D' (.lst []), G2, [], [], IY', T.keep _ _ _ st2 fun b hb o e => hk b o (Heap.get?_push_of_some _ e), fun b hb => (fpok b hb).1.1, srY, noOw_start, upd_same, sr2.en.gh.free hD2, reps_nil.mpr rfl, Nat.zero_le _, rfl, Nat.le_refl _, by cases e : compD h ft fe ds (startCR nt caps ρ) <;> (rw [e] at hPP; simpa [e, Rs.bind] using hPP)⟩
  exact codeAny_compStart_list (loop _ _ (first _)) (T.self _ 0 _ _ _ (T.keep _ _ _ st2 fun b hb o e => hk b o (Heap.get?_push_of_some _ e)) (loop _ _ (first _)))
/-- a comprehension as a value -/
theorem se_compX {elt : Expr} {ifs : List Expr} {sc : Scope} {pos : Pos} {N : List Str} {nt : Nat} {caps : List Nat} {h : Tg} {ft : Rho → Rs Bool} {fe : Rho → Rs D} {fi : Rho → Rs (List D)}
    (c : Caps X sc N nt caps) (hc : X.calm = true) (hnames : ∀ y ∈ sc.names, y.2 = .local → sc.names.lookup y.1 = some .local) (hi : SI X B W tg iter fi) (hno : KeepNo h)
    (ht : ∀ s₀ H₀ C ex pins B', SG (compX X N s₀ H₀ sc (clOf sc X.env) C ex pins) B' tg h)
    (hif : (ifs = [] ∧ ft = fun _ => .ok true) ∨ ∃ c, ifs = [c] ∧ (∀ ρ c n, ft ρ ≠ .ex c n) ∧ ∀ s₀ H₀ C ex pins B', ST (compX X N s₀ H₀ sc (clOf sc X.env) C ex pins) B' WF c ft)
    (he : ∀ s₀ H₀ C ex pins B' E W', PassC ((compX X N s₀ H₀ sc (clOf sc X.env) C ex pins).wish E) W' → SE ((compX X N s₀ H₀ sc (clOf sc X.env) C ex pins).wish E) B' W' elt fe)
    (hx : (∀ ρ c n, fe ρ ≠ .ex c n) ∨ Px X W)
    (hs : ∀ x, foldedSetIterable iter X.env x = pure x := by intro _; rfl) :
    SE X B W (.ListComp elt [⟨tg, iter, ifs, 0⟩] sc pos) (gCompX h ft fe nt caps fi) := by
  intro pins s σ H Q I hw
  obtain ⟨ρ, G, sr, p⟩ := hw
  rw [eval_ListComp]
  refine comp_core c hc hnames hi hno ht hif he hx hs I sr ?_
  cases e : gCompX h ft fe nt caps fi ρ with
  | ok d =>
    rw [e] at p
    intro D' C H' G' s5 fl x r ⟨m, hm⟩ _ IX
    exact ⟨m, hm, fun h' hs' => ⟨.ref D', H', IX h' hs', rfl, p _ _ _ x r⟩⟩
  | ex c n => rw [e] at p; exact p
  | no => rw [e] at p; exact p
theorem se_comp {elt : Expr} {ifs : List Expr} {sc : Scope} {pos : Pos} {N : List Str} {nt : Nat} {caps : List Nat} {h : Tg} {ft : Rho → Rs Bool} {fe : Rho → Rs D} {fi : Rho → Rs (List D)}
    (c : Caps X sc N nt caps) (hc : X.calm = true) (hnames : ∀ y ∈ sc.names, y.2 = .local → sc.names.lookup y.1 = some .local) (hi : SI X B W tg iter fi) (hno : KeepNo h)
    (ht : ∀ s₀ H₀ C ex pins B', SG (compX X N s₀ H₀ sc (clOf sc X.env) C ex pins) B' tg h)
    (hif : (ifs = [] ∧ ft = fun _ => .ok true) ∨ ∃ c, ifs = [c] ∧ ∀ s₀ H₀ C ex pins B', ST (compX X N s₀ H₀ sc (clOf sc X.env) C ex pins) B' WF c ft)
    (he : ∀ s₀ H₀ C ex pins B', SE (compX X N s₀ H₀ sc (clOf sc X.env) C ex pins) B' WF elt fe)
    (hs : ∀ x, foldedSetIterable iter X.env x = pure x := by intro _; rfl) :
    SE X B W (.ListComp elt [⟨tg, iter, ifs, 0⟩] sc pos) (gComp h ft fe nt caps fi) := by
  rw [gComp_X]
  exact se_compX c hc hnames hi hno ht (hif.imp (fun ⟨a, b⟩ => ⟨a, by rw [b]; rfl⟩) fun ⟨c, a, b⟩ => ⟨c, a, fun _ _ _ => nox_ne, fun s₀ H₀ C ex pins B' => st_noxR (b s₀ H₀ C ex pins B')⟩) (fun s₀ H₀ C ex pins B' E W' _ => se_noxR (he s₀ H₀ C ex pins B')) (.inl fun _ _ _ => nox_ne) hs
end
end Vl

set_option Elab.async false
set_option linter.all false
set_option maxRecDepth 100000
set_option maxHeartbeats 4000000
namespace Vl
open PySem PySem.Spec L2

section
variable {X : Cx} {K : PySem.W.Frag} {B : Bs} {W : Wi} {σ : St} {G H : Hp} {ρ : Rho} {a b : Expr} {pos p : Pos} {fa fb : Rho → Rs D}
/-! ### comparisons -/
def rEqD (K : PySem.W.Frag) (n : Nat) : R2 := fun x y H Q => ∃ d d', Rep K H d x ∧ Rep K H d' y ∧ dep d ≤ n ∧ dep d' ≤ n ∧ Q (.bl (eqD d d')) H
def rNeD (K : PySem.W.Frag) (n : Nat) : R2 := fun x y H Q => ∃ d d', Rep K H d x ∧ Rep K H d' y ∧ dep d ≤ n ∧ dep d' ≤ n ∧ Q (.bl (!eqD d d')) H
theorem op_eqD {n : Nat} (hu : X.A.units + n < cLine) : OpR X (compareOp .Eq) (rEqD X.K n) := by
  intro pins s σ H x y v u Q I rx ry ⟨d, d', r, r', hd, hd', q⟩
  exact rcD_at I hd hd' hu r r' rx ry X.prog X.w X.xe _ ⟨.bl _, H, I, rfl, q⟩
theorem op_neD {n : Nat} (hu : X.A.units + n < cLine) : OpR X (compareOp .NotEq) (rNeD X.K n) := by
  intro pins s σ H x y v u Q I rx ry ⟨d, d', r, r', hd, hd', q⟩
  exact rcneD_at I hd hd' hu r r' rx ry X.prog X.w X.xe _ ⟨.bl _, H, I, rfl, q⟩
def gEq : D → D → Rs D := fun x y => if dep x ≤ 8 ∧ dep y ≤ 8 then .ok (.bl (eqD x y)) else .no
def gNe : D → D → Rs D := fun x y => if dep x ≤ 8 ∧ dep y ≤ 8 then .ok (.bl (!eqD x y)) else .no
theorem opd_eq : OpD K (rEqD K 8) gEq := by
  intro B W σ ρ G H x y v u Q s rx ry p
  unfold gEq at p
  by_cases h : dep x ≤ 8 ∧ dep y ≤ 8
  · rw [if_pos h] at p; exact ⟨x, y, rx.mono s.en.gh, ry.mono s.en.gh, h.1, h.2, Post.ok s p (rep_bl.mpr rfl)⟩
  · rw [if_neg h] at p; exact p.elim
theorem opd_ne : OpD K (rNeD K 8) gNe := by
  intro B W σ ρ G H x y v u Q s rx ry p
  unfold gNe at p
  by_cases h : dep x ≤ 8 ∧ dep y ≤ 8
  · rw [if_pos h] at p; exact ⟨x, y, rx.mono s.en.gh, ry.mono s.en.gh, h.1, h.2, Post.ok s p (rep_bl.mpr rfl)⟩
  · rw [if_neg h] at p; exact p.elim
theorem room8 {k : Nat} (hr : Room k X.A) : X.A.units + 8 < cLine := by have := hr.un; lia
theorem se_eq (hu : X.A.units + 8 < cLine) (ha : SE X B W a fa) (hb : SE X B W b fb) : SE X B W (.Compare a [.Eq] [b] pos) (fOp gEq fa fb) := se_cmp (op_eqD hu) opd_eq ha hb (nomark _)
theorem st_ne (hu : X.A.units + 8 < cLine) (ha : SE X B W a fa) (hb : SE X B W b fb) : ST X B W (.Compare a [.NotEq] [b] pos) (fT (fOp gNe fa fb)) := st_cmp (op_neD hu) opd_ne ha hb (nomark _)
/-! ### isinstance against one of Python's own -/
inductive Ty where
  | int | bool | str | tuple | list | dict
def Ty.nm : Ty → String
  | .int => "int" | .bool => "bool" | .str => "str" | .tuple => "tuple" | .list => "list" | .dict => "dict"
def isD : D → Ty → Bool
  | .int _, .int => true
  | .bl _, .bool => true
  | .bl _, .int => true
  | .str _, .str => true
  | .tup _, .tuple => true
  | .lst _, .list => true
  | _, _ => false
def tyD : D → String
  | .non => "NoneType" | .bl _ => "bool" | .int _ => "int" | .str _ => "str" | .tup _ => "tuple" | .lst _ => "list" | .exn _ _ => "" | .dic _ _ => "" | .fn _ => "" | .obj _ _ _ => ""
def isX : D → Bool
  | .exn _ _ => true
  | .dic _ _ => true
  | .fn _ => true
  | .obj _ _ _ => true
  | _ => false
theorem kit_D (d : D) (t : Ty) (hx : isX d = false) : PySem.W.kitOne K (.type (tyD d)) (.type t.nm) = some (isD d t) := by
  cases d <;> first | (cases hx; done) | (cases t <;> kernel_rfl)
theorem isD_at {pins : List (Addr × Obj)} {s : Shared} {A : Around} {E Q : Value → Shared → Prop} {d : D} {v : V} {u : Value} {t : Ty} (I : Inv X pins σ H s) (hx : isX d = false) (r : Rep X.K H d v) (rv : RelV v u) (h : ∀ tk, Q (.bool (isD d t)) { s with toks := tk }) :
    wpAny (model X.prog X.w) A (call (.builtin "isinstance") [u, .type t.nm]) Q E s := by
  have e := kit_D (K := X.K) d t hx
  cases d with
  | non => rw [rep_non.mp r] at rv; cases rv; exact PySem.W.kia_one PySem.W.kitx_none I.kIn True.intro e (fun z => nomatch z) h
  | bl y => rw [rep_bl.mp r] at rv; cases rv; exact PySem.W.kia_one PySem.W.kitx_bool I.kIn True.intro e (fun z => nomatch z) h
  | int i => rw [rep_int.mp r] at rv; obtain ⟨t, rfl⟩ := rv; exact PySem.W.kia_one PySem.W.kitx_int I.kIn True.intro e (fun z => nomatch z) h
  | str i => rw [rep_str.mp r] at rv; obtain ⟨t, rfl⟩ := rv; exact PySem.W.kia_one PySem.W.kitx_str I.kIn True.intro e (fun z => nomatch z) h
  | tup ds =>
    obtain ⟨a, vs, rfl, q, _⟩ := rep_tup.mp r
    cases rv
    obtain ⟨_, _, ⟨o, h1, h2, _⟩, _⟩ := I.tuple q
    exact PySem.W.kia_one PySem.W.kitx_tuple I.kIn ⟨o, h1, h2⟩ e (fun z => nomatch z) h
  | lst ds =>
    obtain ⟨a, vs, rfl, q, _⟩ := rep_lst.mp r
    cases rv
    obtain ⟨_, _, ⟨o, n, h1, h2, _⟩, _⟩ := I.list q
    exact PySem.W.kia_one PySem.W.kitx_list I.kIn ⟨o, h1, h2⟩ e (fun z => nomatch z) h
  | exn c n => cases hx
  | dic c n => cases hx
  | fn c => cases hx
  | obj c n ds => cases hx
def rIsD (K : PySem.W.Frag) (t : Ty) : List V → Hp → VK → Prop := fun xs H Q => ∃ v d, xs = [v, .ty t.nm] ∧ isX d = false ∧ Rep K H d v ∧ Q (.bl (isD d t)) H
theorem call_isD {t : Ty} : CallR X (.builtin "isinstance") (rIsD X.K t) := by
  intro pins s σ H xs us Q I r ⟨v, d, e, hx, rd, q⟩
  subst e
  cases r with
  | cons r1 r2 =>
    cases r2 with
    | cons r3 r4 =>
      cases r4
      cases r3
      exact isD_at I hx rd r1 fun tk => ⟨.bl _, H, I.tok tk, rfl, q⟩
def gIs (t : Ty) : D → Rs D := fun d => if isX d = false then .ok (.bl (isD d t)) else .no
theorem se_is {t : Ty} {x : Str} {e : Expr} {p1 p2 : Pos} {f : Rho → Rs D} (hm : X.mg "isinstance" = none) (hmt : X.mg x = none) (he : SE X B W e f) (hv : bootBuiltins x = some (.type t.nm)) (hg : Gl X "isinstance" := by rfl) (hgx : Gl X x := by rfl)
    (hst : starEach [e, .Name x p2] X.env = [(false, eval e X.env), (false, eval (.Name x p2) X.env)] := by rfl) (hst2 : starEach [.Name x p2] X.env = [(false, eval (.Name x p2) X.env)] := by rfl) (hn : x ≠ "__name__" := by decide) (hd : (x == ("__debug__" : Str)) = false := by decide) :
    SE X B W (.Call (.Name "isinstance" p1) [e, .Name x p2] [] pos) (fun ρ => (f ρ).bind (gIs t)) := by
  refine PE.imp (pe_callB (call_isD (t := t)) hg hm PyProof.Rows.boot_isinstance (pa_cons he (pa_cons (pe_bltn (v := .ty t.nm) hgx hmt hv rfl hn hd) pa_nil (by rw [hst2]; rfl)) (by rw [hst, hst2])) (by decide) (by decide) (by rw [hst, hst2]) (by rw [hst2]; rfl)) fun σ H Q h => ?_
  obtain ⟨ρ, G, s, p⟩ := tF_bind (k := fun _ => gIs t) h
  refine ⟨ρ, G, s, p.mono fun v H1 ⟨ρ1, G1, d, s1, r, q⟩ => ?_⟩
  unfold gIs at q
  by_cases hx : isX d = false
  · rw [if_pos hx] at q; exact ⟨v, d, rfl, hx, r.mono s1.en.gh, Post.ok s1 q (rep_bl.mpr rfl)⟩
  · rw [if_neg hx] at q; exact q.elim

/-! ### all, any of a list of truths -/
def bools : List D → Option (List Bool)
  | [] => some []
  | .bl b :: ds => (bools ds).map (b :: ·)
  | _ => none
end
end Vl

set_option Elab.async false
set_option linter.all false
set_option maxRecDepth 100000
set_option maxHeartbeats 4000000
namespace Vl
open PySem PySem.Spec L2

section
variable {X : Cx} {pins : List (Addr × Obj)} {σ : St} {H : Hp} {s : Shared} {ea : Addr} {c : Str} {n : Int} {tr : Bool}
/-- an untracked record is tracked from here on -/
theorem Inv.track (I : Inv X pins σ H s) {o : HO} (hr : X.s₀.heap.get? ea = none ∧ ea ≠ X.env.locals ∧ (∀ x c, X.env.cells.lookup x = some c → c ≠ ea) ∧ (∀ p ∈ X.pn ++ pins, p.1 ≠ ea) ∧ H ea = none)
    (new : ObjOk X.prog X.w (upd H ea o) s.heap ea o) : Inv X pins σ (upd H ea o) s := by
  obtain ⟨r1, r2, r3, r4, r5⟩ := hr
  have ne : ∀ b u, H b = some u → b ≠ ea := fun b u e => ne_of_none e r5
  refine ⟨I.ok, I.os, I.bare, ⟨I.base.keep, I.base.slot, fun b o' e n hx => ?_, I.base.there, fun b xs e => ?_, fun b o' u e => ?_, fun b ps e => ?_⟩, I.loc, I.cell, ?_, fun x c e => ?_, fun p hp => ?_, fun b u e => ?_, I.len⟩
  · rw [upd_ne (fun z => by rw [z, r1] at e; cases e)]; exact I.base.free b o' e n hx
  · have := I.base.tups b xs e; rw [upd_ne (ne _ _ this)]; exact this
  · have := I.base.frzs b o' u e; rw [upd_ne (ne _ _ this)]; exact this
  · obtain ⟨m, this⟩ := I.base.tbls b ps e; exact ⟨m, by rw [upd_ne (ne _ _ this)]; exact this⟩
  · rw [upd_ne (Ne.symm r2)]; exact I.free
  · rw [upd_ne (r3 x c e)]; exact I.freeC x c e
  · obtain ⟨e, n, q⟩ := I.pin p hp
    exact ⟨e, by rw [upd_ne (r4 p hp)]; exact n, q⟩
  · by_cases hb : b = ea
    · subst hb; rw [upd_same] at e; cases e; exact new
    · rw [upd_ne hb] at e
      exact (I.hok b u e).stay (fun c v _ q => q) (fun c q => by rw [upd_ne (ne_of_none q r5)]; exact q) (fun c xs q => by rw [upd_ne (ne_of_none q r5)]; exact q) fun c xs q => by rw [upd_ne (ne_of_none q r5)]; exact q
end

/-! ### the handler's suite -/
section
variable {X : Cx} {pins : List (Addr × Obj)} {σ : St} {H : Hp} {s : Shared} {ea : Addr}
end
end Vl

set_option Elab.async false
set_option linter.all false
set_option maxRecDepth 100000
set_option maxHeartbeats 4000000
namespace Vl
open PySem PySem.Spec PySem.Calls PySem.W L2

/-! ### isinstance of an exception that is of the class -/
section
variable {K : PySem.W.Frag}
end

section
variable {X : Cx} {B : Bs} {W : Wi}
/-! ### try: .. except C as e: .. -/
theorem ext_exn {G H : Hp} (gh : Same G H) (tp : ∀ a xs, H a = some (.tup xs) → G a = some (.tup xs)) {p : Addr} {φ : Heap → Prop} (hp : H p = none) : Ext G H (upd G p (.ext φ)) (upd H p (.ext φ)) where
  gg := fun b o e => by rw [upd_ne (ne_of_none (gh _ _ e) hp)]; exact e
  hh := fun b o e => by rw [upd_ne (ne_of_none e hp)]; exact e
  gh := fun b o e => by
    by_cases q : b = p
    · subst q; rw [upd_same] at e ⊢; exact e
    · rw [upd_ne q] at e ⊢; exact gh _ _ e
  tp := fun b ys e => by
    by_cases q : b = p
    · subst q; rw [upd_same] at e; cases e
    · rw [upd_ne q] at e ⊢; exact tp _ _ e
  nw := fun b o e n => by rw [upd_ne (ne_of_none e hp)]; exact n
end
end Vl

set_option Elab.async false
set_option linter.all false
set_option maxRecDepth 100000
set_option maxHeartbeats 4000000
namespace Vl
open PySem PySem.Spec PySem.Calls PySem.W L2
/-! ### readings in short words -/
def rNx : Rho → Ou := fun ρ => .nx ρ
def rSeq (g k : Rho → Ou) : Rho → Ou := fun ρ => oSeq (g ρ) k
def rRet (f : Rho → Rs D) : Rho → Ou := fun ρ => oR (f ρ) ρ .rt
def rIf (c : Rho → Rs Bool) (a b : Rho → Ou) : Rho → Ou := fun ρ => oR (c ρ) ρ fun x => if x = true then a ρ else b ρ
def rSet (i : Nat) (f : Rho → Rs D) : Rho → Ou := fun ρ => oR (f ρ) ρ fun d => .nx (ρ.set i (.fz d))
def rNox (g : Rho → Ou) : Rho → Ou := fun ρ => noEx (g ρ)
def fB (f : Rho → Rs D) (g : D → Rs D) : Rho → Rs D := fun ρ => (f ρ).bind g
def fL (f : Rho → Rs D) (g : D → Rs (List D)) : Rho → Rs (List D) := fun ρ => (f ρ).bind g
section
variable {X : Cx} {B : Bs} {W : Wi}
theorem rs_nil : SSs X B W [] rNx := ss_nil
theorem rs_cons {st : Stmt} {rest : List Stmt} {g k : Rho → Ou} (h1 : SS X B W st g) (h2 : SSs X B W rest k) : SSs X B W (st :: rest) (rSeq g k) := ss_cons h1 h2
theorem rs_one {st : Stmt} {g : Rho → Ou} (h1 : SS X B W st g) : SSs X B W [st] g := ss_one h1
theorem rs_ret {e : Expr} {pos} {f : Rho → Rs D} (h : SE X B W e f) : SS X B W (.Return (some e) pos) (rRet f) := ss_ret h
theorem rs_if {c : Expr} {a b : List Stmt} {pos : Pos} {fc : Rho → Rs Bool} {ga gb : Rho → Ou} (hc : ST X B W c fc) (ha : SSs X B W a ga) (hb : SSs X B W b gb) : SS X B W (.If c a b pos) (rIf fc ga gb) := ss_if hc ha hb
theorem rs_set (i : Nat) {x : Str} {e : Expr} {pos pos' : Pos} {f : Rho → Rs D} (hN : X.N.Nodup) (he : SE X B W e f) (hi : X.N[i]? = some x := by rfl) (hx : Loc X.env.scope x := by first | exact Or.inl rfl | exact Or.inr rfl) (hs : swapsWith e (some (.Name x pos')) pos.line X.env = pure false := by rfl) (hf : X.fn x = true ∨ X.env.scope.names.lookup x = some .local := by first | exact .inl rfl | exact .inr rfl | assumption) :
    SS X B W (.Assign [.Name x pos'] e pos) (rSet i f) := ss_set hN hi hx he hs hf
theorem rs_nox {st : Stmt} {g : Rho → Ou} (h : SS X.nox B WF st g) : SS X B W st (rNox g) := ss_nox h
theorem rg (i : Nat) {x : Str} {pos : Pos} (hN : X.N.Nodup) (hi : X.N[i]? = some x := by rfl) (hx : Loc X.env.scope x := by first | exact Or.inl rfl | exact Or.inr rfl) (hf : X.fn x = true ∨ X.env.scope.names.lookup x = some .local := by first | exact .inl rfl | exact .inr rfl | assumption) : SG X B (.Name x pos) (hName i) :=
  sg_name hN hi hx hf
theorem re_is {t : Ty} {x : Str} {e : Expr} {p1 p2 pos : Pos} {f : Rho → Rs D} (hm : X.mg "isinstance" = none) (hmt : X.mg x = none) (he : SE X B W e f) (hv : bootBuiltins x = some (.type t.nm)) (hg : Gl X "isinstance" := by rfl) (hgx : Gl X x := by rfl)
    (hst : starEach [e, .Name x p2] X.env = [(false, eval e X.env), (false, eval (.Name x p2) X.env)] := by rfl) (hst2 : starEach [.Name x p2] X.env = [(false, eval (.Name x p2) X.env)] := by rfl) (hn : x ≠ "__name__" := by decide) (hd : (x == ("__debug__" : Str)) = false := by decide) :
    SE X B W (.Call (.Name "isinstance" p1) [e, .Name x p2] [] pos) (fB f (gIs t)) := se_is hm hmt he hv hg hgx hst hst2 hn hd
theorem ri_range {tg e : Expr} {p1 p2 : Pos} {f : Rho → Rs D} (hm : X.mg "range" = none) (hi : SE X B W e f) (hgl : Gl X "range" := by rfl) (hst : starEach [e] X.env = [(false, eval e X.env)] := by rfl) : SI X B W tg (.Call (.Name "range" p1) [e] [] p2) (fL f asR) := si_range hm hi hgl hst
end

/-! ### a def of the text, known to be worth v -/
def Okd (P : Program) (w : World) (K : PySem.W.Frag) (mg : Str → Option Value) (base : Heap) (x : Str) (k n : Nat) (v : List D → Rs D) : Prop :=
  ∃ f fd ps, FnOk P w K mg base (CXv P w K) k f fd ps (spV K n v) ∧ mg x = some (.ref f) ∧ PySem.W.keepIn K (.ref f) = true ∧ Binds K fd ps []
theorem okd_of {P : Program} {w : World} {K : PySem.W.Frag} {mg : Str → Option Value} {base : Heap} {x : Str} {st : Stmt} {f : Addr} {fd : FuncData} {N ps : List Str} {k : Nat} {g : Rho → Ou} (F : Fun K x x st f fd) (hm : mg x = some (.ref f)) (S : FnScope N ps (defScope st))
    (hbi : ∀ (kV doc pm : Value) (an : Option Addr) (cdv ct : Value) (us : List Value), us.length = ps.length → bindArgs (PySem.W.fnOf x x (defArgs st) (defBody st) (defScope st) .none kV doc pm an cdv ct) ⟨us, []⟩ = pure (ps.zip us))
    (hb : ∀ (cdv : Value) (A : Around) (outer : List Env) (s : Shared) (H : Hp) (E : XK) (B : Bs), Room k (A.deeper (PyProof.Rows.envOfC x (defScope st) s.heap.objs.size f cdv)) →
      PassC (cxOf (CXv P w K) P w K mg base N x (defScope st) f cdv A outer s H E) (fun c n _ H' => E (enc c n) none H') →
      SSs (cxOf (CXv P w K) P w K mg base N x (defScope st) f cdv A outer s H E) B (fun c n _ H' => E (enc c n) none H') (defBody st) g) :
    Okd P w K mg base x (k + 1) ps.length (fun ds => fin (g (startR N ds))) :=
  ⟨f, fd, ps, fn_v F S fun cdv A outer s H E B hr => hb cdv A outer s H E B hr (passC_of pass_body rfl), hm, F.kp, F.binds hbi⟩
section
variable {X : Cx} {B : Bs} {W : Wi}
theorem re_call {x : Str} {p pos : Pos} {e : Expr} {es : List Expr} {fs : Rho → Rs (List D)} {k n kr : Nat} {g : List D → Rs D} (O : Okd X.prog X.w X.K X.mg X.base x k n g) (hr : Room kr X.A) (hx : PassC X W) (ha : SA X B W (e :: es) fs) (hg : Gl X x := by rfl) (hdb : (x == ("__debug__" : Str)) = false := by decide)
    (he : starEach (e :: es) X.env = (false, eval e X.env) :: starEach es X.env := by rfl) (hpl : (backTo pos (starEach es X.env)).any (·.1) = false := by rfl) (hkr : k ≤ kr := by decide) : SE X B W (.Call (.Name x p) (e :: es) [] pos) (fA fs (gCallX n g)) := by
  obtain ⟨f, fd, ps, F, hm, hk, hb⟩ := O
  exact se_call F (hr.mono hkr) hg hm hk hb hx ha hdb he hpl
end
end Vl

set_option Elab.async false
set_option linter.all false
set_option maxRecDepth 100000
set_option maxHeartbeats 4000000
namespace Vl
open PySem PySem.Spec PySem.Calls PySem.W L2

/-! ### isinstance of an exception, whatever the answer: a class, or a tuple of classes -/
/-- what a class of exceptions must be like -/
def exk (K : Frag) (C : Addr) : Bool :=
  mroIn K C (.type "object") == some true && (mroIn K C (.type "BaseException") == some true && (findIn K (.ref C) "__class__" == some (some (.builtin "object.__class__")) &&
    (specialIn K (.builtin "object.__class__") "__get__" == some (some (.builtin "getset_descriptor.__get__")) && (takesIn K (.builtin "object.__class__") == some true &&
      (findIn K (.ref C) "__getattribute__" == some (some (.builtin "BaseException.__getattribute__")) && (findIn K (.ref C) "__getattr__" == some none && kitCls K (.ref C) (.ref C) == some true))))))
theorem exn_class {prog : Program} {w : World} {A : Around} {s : Shared} {K : Frag} {x C : Addr} {R : Result → Shared → Prop} {tp : Value} (Z : K.In s.heap)
    (LT : ∀ M, Looks M s.heap (typeOf (.ref x)) (.ref C)) (hm : mroIn K C (.type "object") = some true) (hR : R (.ok (.ret (.ref C))) s) :
    codeAny (model prog w) A (.call (.builtin "getset_descriptor.__get__") ⟨[.builtin "object.__class__", .ref x, tp], []⟩) R s := by
  obtain ⟨h, g, d, t, os⟩ := s
  have LM : Looks (model prog w) h (isSubtype (.ref C) (.type "object")) true := looks_mroIn Z hm
  have LI : Looks (model prog w) h (isInstance (.ref x) (.type "object")) true := (LT _).andThen LM
  refine codeAny_call_builtin KF.slot_gs.plain KF.entry_gs (KF.slot_gs.check _ _ _ _ _ _ _ _ KF.type_class (KF.args_gs _ _ _) ?_)
  show wpAny _ _ (Builtin.Getset_descriptor.descrGet _) _ _ _
  unfold Builtin.Getset_descriptor.descrGet
  rw [dga_obj]
  refine wpAny_bind (wpAny_pure ?_)
  show wpAny _ _ (Builtin.Getset_descriptor.descrGetter _ _) _ _ _
  unfold Builtin.Getset_descriptor.descrGetter Builtin.Getset_descriptor.descrCheckInstance Builtin.Getset_descriptor.descrNameAndClass
  simp only [KF.owner_class]
  refine wpAny_bind (wpAny_bind (wpAny_pure ?_))
  refine wpAny_bind (LI.at ?_)
  simp only [Bool.not_true, Bool.false_eq_true, if_false]
  refine wpAny_pure ?_
  refine nd_pure ⟨Code.quiet_builtin _ (by decide +kernel), codeAny_builtin KF.entry_class ?_⟩
  show wpAny _ _ (Bind.bind (shownTypeOf (.ref x)) fun z => ret z) _ _ _
  unfold shownTypeOf
  refine wpAny_bind (wpAny_bind ((LT _).at ?_))
  rw [if_neg (by simp)]
  exact wpAny_pure (wpAny_pure hR)
theorem exn_check {M : Model} {A : Around} {E : Value → Shared → Prop} {s : Shared} {K : Frag} {x C : Addr} {nv : Value} {Q : Unit → Shared → Prop} (Z : K.In s.heap)
    (LT : ∀ M, Looks M s.heap (typeOf (.ref x)) (.ref C)) (hm : mroIn K C (.type "BaseException") = some true) (hQ : Q () s) :
    wpAny M A (checkBuiltinCall "BaseException.__getattribute__" { pos := [.ref x, nv] }) Q E s := by
  obtain ⟨h, g, d, t, os⟩ := s
  have LM : Looks M h (isSubtype (.ref C) (.type "BaseException")) true := looks_mroIn Z hm
  have LI : Looks M h (isInstance (.ref x) (.type "BaseException")) true := (LT _).andThen LM
  have e1 : builtinKind "BaseException.__getattribute__" = some .slot := by first | rfl | decide +kernel
  have e2 : splitId "BaseException.__getattribute__" = some ("BaseException", "__getattribute__") := by first | rfl | decide +kernel
  have e3 := F.args_bexc_ga (.ref x) nv
  unfold argsOk at e3
  unfold checkBuiltinCall
  simp only [e1, e2]
  refine wpAny_bind (LI.at ?_)
  simp only [Bool.not_true, Bool.false_eq_true, if_false]
  cases hs : Manifest.signature? "BaseException.__getattribute__" with
  | none => exact wpAny_pure hQ
  | some sig => rw [hs] at e3; dsimp only at e3 ⊢; rw [e3]; exact wpAny_pure hQ
theorem exn_ga {prog : Program} {w : World} {A : Around} {s : Shared} {K : Frag} {x C : Addr} {R : Result → Shared → Prop} {tk : Tok} (Z : K.In s.heap)
    (LT : ∀ M, Looks M s.heap (typeOf (.ref x)) (.ref C)) (hk : exk K C = true) (hR : R (.ok (.ret (.ref C))) s) :
    codeAny (model prog w) A (.call (.builtin "BaseException.__getattribute__") ⟨[.ref x, .str "__class__" tk], []⟩) R s := by
  obtain ⟨h, g, d, t, os⟩ := s
  simp only [exk, Bool.and_eq_true, beq_iff_eq] at hk
  obtain ⟨hm, hb, h1, h2, h3, _⟩ := hk
  refine codeAny_call_builtin (by decide +kernel) F.entry_bexc_ga (exn_check Z LT hb ?_)
  unfold Builtin.«object.__getattribute__» slotArgs
  refine wpAny_bind (wpAny_pure (wpAny_bind (wpAny_pure (wpAny_bind ((LT _).at (wpAny_bind ?_))))))
  unfold Builtin.ObjectAttr.find
  refine wpAny_bind ((looks_findIn Z h1).at (wpAny_bind ((looks_specialIn Z h2).at (wpAny_bind (wpAny_bind ((looks_takesIn Z h3).at (wpAny_pure (wpAny_bind (wpAny_rule (wpAny_pure ?_))))))))))
  show wpAny _ _ (Builtin.ObjectAttr.bindTo _ _ _ _) _ _ _
  unfold Builtin.ObjectAttr.bindTo
  exact wpAny_bind (wpAny_holding (wpAny_call (exn_class Z LT hm (wpAny_pure hR))))
theorem kitx_at {K : Frag} {x C : Addr} {dx : Option Addr} (hk : exk K C = true) : KitX K (.ref x) (.ref C) (ExnAt x C dx) := by
  have LT : ∀ M h, ExnAt x C dx h → Looks M h (typeOf (.ref x)) (.ref C) := fun M h ⟨o, vs, h1, h2, _⟩ => by
    have : Looks M h (typeOf (.ref x)) o.cls := (Looks.ld h1).andThen .now
    rw [h2] at this
    exact this
  have hk' := hk
  simp only [exk, Bool.and_eq_true, beq_iff_eq] at hk'
  obtain ⟨_, _, _, _, _, h4, h5, h6⟩ := hk'
  refine ⟨fun M h Z p => LT M h p, fun M h Z p => (kit_cls Z h6).2.1, fun h tp dd its n sl Z e => ?_, fun {prog w A E Q s} Z p hQ => ?_⟩
  · cases hh : (Value.ref C == Value.ref tp) with
    | false => rfl
    | true =>
      exfalso
      have e1 : C = tp := by simpa using hh
      subst e1
      unfold kitCls clsIn at h6
      dsimp only at h6
      cases hl : List.lookup C K with
      | none => rw [hl] at h6; simp at h6
      | some o => have := Z _ _ hl; rw [e] at this; cases this; rw [hl] at h6; simp at h6
  · obtain ⟨h, g, d, t, os⟩ := s
    unfold getAttr? getAttrBy? getAttrBy
    refine wpAny_bind (wpAny_mkText (wpAny_bind (wpAny_attempt (wpAny_holding (wpAny_bind ((LT _ _ p).at (wpAny_bind ((looks_findIn Z h4).at ?_))))))))
    dsimp only
    rw [if_neg (by simp [onTheHeap])]
    unfold getAttrByItsOwn hookBefore
    rw [if_pos (by rfl)]
    refine wpAny_bind ((looks_findIn Z h5).at (wpAny_bind (wpAny_attempt (wpAny_holding ?_))))
    unfold callGetattribute
    rw [if_neg (by simp)]
    unfold boundAndCalled
    rw [show bindSpecial (.builtin "BaseException.__getattribute__") (.ref x) = pure (.builtin "BaseException.__getattribute__", [.ref x]) by first | rfl | kernel_rfl]
    exact wpAny_bind (wpAny_pure (wpAny_call (exn_ga Z (fun M => LT M _ p) hk (handed_on rfl (wpAny_pure hQ)))))
theorem isx_nil {K : Frag} {Pr : Addr → Bool → Prop} : ∀ (c : Str) (b : Bool) (C : Addr), List.lookup c ([] : List (Str × Bool)) = some b → nsIn K mainGlobals c = some (some (.ref C)) → Pr C b := fun _ _ _ h => nomatch h
theorem isx_cons {K : Frag} {Pr : Addr → Bool → Prop} {x : Str} {b₀ : Bool} {D : Addr} {l : List (Str × Bool)} (n : nsIn K mainGlobals x = some (some (.ref D))) (p : Pr D b₀) (h : ∀ (c : Str) (b : Bool) (C : Addr), List.lookup c l = some b → nsIn K mainGlobals c = some (some (.ref C)) → Pr C b) :
    ∀ (c : Str) (b : Bool) (C : Addr), List.lookup c ((x, b₀) :: l) = some b → nsIn K mainGlobals c = some (some (.ref C)) → Pr C b := fun c b C e z => by
  rw [List.lookup_cons] at e
  split at e
  · next q => obtain rfl := eq_of_beq q; rw [n] at z; cases z; cases e; exact p
  · exact h c b C e z
section
variable {X : Cx} {B : Bs} {W : Wi}
def gIsX (m : Str → Option Bool) : D → Rs D
  | .exn c n => match m c with | some b => .ok (.bl b) | none => .no
  | _ => .no
theorem call_isX {m : Str → Option Bool} {u : Value} {v : V} (ru : ∀ u', RelV v u' → u' = u) (hm : ∀ c b C, m c = some b → nsIn X.K mainGlobals c = some (some (.ref C)) → exk X.K C = true ∧ kitOne X.K (.ref C) u = some b) :
    CallR X (.builtin "isinstance") (fun xs H Q => ∃ y c n b, xs = [y, v] ∧ m c = some b ∧ Rep X.K H (.exn c n) y ∧ Q (.bl b) H) := by
  intro pins s σ H xs us Q I r ⟨y, c, n, b, e, mc, rd, q⟩
  subst e
  cases r with
  | cons r1 r2 =>
    cases r2 with
    | cons r3 r4 =>
      cases r4
      obtain ⟨a, C', _, rfl, hn, hH, _⟩ := rep_exn.mp rd
      cases r1
      obtain rfl := ru _ r3
      obtain ⟨h1, h2⟩ := hm c b C' mc hn
      exact kia_one (kitx_at h1) I.kIn (I.hok _ _ hH).1 h2 (fun z => nomatch z) fun tk => ⟨.bl b, H, I.tok tk, rfl, q⟩
theorem isX_q {m : Str → Option Bool} {d : D} {G H : Hp} {σ : St} {Q : VK} (q : Post X.K W σ G H (gIsX m d) Q) : ∃ c n b, d = .exn c n ∧ m c = some b ∧ Post X.K W σ G H (.ok (.bl b)) Q := by
  cases d with
  | exn c n =>
    simp only [gIsX] at q
    cases e : m c with
    | none => rw [e] at q; exact q.elim
    | some b => rw [e] at q; exact ⟨c, n, b, rfl, e, q⟩
  | _ => exact q.elim
theorem re_isXc {m : Str → Option Bool} {u : Value} {v : V} {e c : Expr} {p1 pos : Pos} {f : Rho → Rs D} (ru : ∀ u', RelV v u' → u' = u) (hm : ∀ c b C', m c = some b → nsIn X.K mainGlobals c = some (some (.ref C')) → exk X.K C' = true ∧ kitOne X.K (.ref C') u = some b)
    (hi : X.mg "isinstance" = none) (he : SE X B W e f) (hc : PE X c (tC v)) (hg : Gl X "isinstance") (hst : starEach [e, c] X.env = [(false, eval e X.env), (false, eval c X.env)]) (hst2 : starEach [c] X.env = [(false, eval c X.env)]) :
    SE X B W (.Call (.Name "isinstance" p1) [e, c] [] pos) (fB f (gIsX m)) := by
  refine PE.imp (pe_callB (call_isX ru hm) hg hi PyProof.Rows.boot_isinstance (pa_cons he (pa_cons hc pa_nil (by rw [hst2]; rfl)) (by rw [hst, hst2])) (by decide) (by decide) (by rw [hst, hst2]) (by rw [hst2]; rfl)) fun σ H Q h => ?_
  obtain ⟨ρ, G, s, p⟩ := tF_bind (k := fun _ => gIsX m) h
  refine ⟨ρ, G, s, p.mono fun v H1 ⟨ρ1, G1, d, s1, r, q⟩ => ?_⟩
  obtain ⟨c, n, b, rfl, mc, q⟩ := isX_q q
  exact ⟨v, c, n, b, rfl, mc, r.mono s1.en.gh, Post.ok s1 q (rep_bl.mpr rfl)⟩
theorem re_isX {m : Str → Option Bool} {C : Addr} {x : Str} {e : Expr} {p1 p2 pos : Pos} {f : Rho → Rs D} (hm : ∀ c b C', m c = some b → nsIn X.K mainGlobals c = some (some (.ref C')) → exk X.K C' = true ∧ kitOne X.K (.ref C') (.ref C) = some b)
    (hi : X.mg "isinstance" = none) (hmt : X.mg x = some (.ref C)) (he : SE X B W e f) (hg : Gl X "isinstance" := by rfl) (hgx : Gl X x := by rfl)
    (hst : starEach [e, .Name x p2] X.env = [(false, eval e X.env), (false, eval (.Name x p2) X.env)] := by rfl) (hst2 : starEach [.Name x p2] X.env = [(false, eval (.Name x p2) X.env)] := by rfl) (hd : (x == ("__debug__" : Str)) = false := by decide) :
    SE X B W (.Call (.Name "isinstance" p1) [e, .Name x p2] [] pos) (fB f (gIsX m)) := re_isXc (v := .ref C) (fun _ z => z) hm hi he (pe_glob hgx hmt rfl hd) hg hst hst2
theorem re_isXB {m : Str → Option Bool} {T : String} {x : Str} {e : Expr} {p1 p2 pos : Pos} {f : Rho → Rs D} (hm : ∀ c b C', m c = some b → nsIn X.K mainGlobals c = some (some (.ref C')) → exk X.K C' = true ∧ kitOne X.K (.ref C') (.type T) = some b)
    (hi : X.mg "isinstance" = none) (hmt : X.mg x = none) (he : SE X B W e f) (hv : bootBuiltins x = some (.type T)) (hg : Gl X "isinstance" := by rfl) (hgx : Gl X x := by rfl)
    (hst : starEach [e, .Name x p2] X.env = [(false, eval e X.env), (false, eval (.Name x p2) X.env)] := by rfl) (hst2 : starEach [.Name x p2] X.env = [(false, eval (.Name x p2) X.env)] := by rfl) (hn : x ≠ "__name__" := by decide) (hd : (x == ("__debug__" : Str)) = false := by decide) :
    SE X B W (.Call (.Name "isinstance" p1) [e, .Name x p2] [] pos) (fB f (gIsX m)) := re_isXc (v := .ty T) (fun _ z => z) hm hi he (pe_bltn hgx hmt hv rfl hn hd) hg hst hst2
end
end Vl

set_option Elab.async false
set_option linter.all false
set_option maxRecDepth 100000
set_option maxHeartbeats 4000000
namespace Vl
open PySem PySem.Spec PySem.W L2
section
variable {X : Cx} {B : Bs} {W : Wi} {σ : L2.St} {H : Hp} {K : PySem.W.Frag}
/-! ### isinstance(x, (list, tuple)) and the like, of data -/
end
end Vl

set_option Elab.async false
set_option linter.all false
set_option maxRecDepth 100000
set_option maxHeartbeats 4000000
namespace Vl
open PySem PySem.Spec PySem.Calls PySem.W L2
/-! ### comprehensions in short words -/
def capsB (S sc : Scope) (NX N : List Str) (nt : Nat) (caps : List Nat) : Bool :=
  decide (sc.kind = .function) && sc.names.all (fun y => y.2 != .cell) && sc.names.all (fun y => y.2 != .free || S.names.lookup y.1 == some .cell || S.names.lookup y.1 == some .free) && decide (N.length = nt + caps.length) &&
    (List.range caps.length).all fun j => match caps[j]?, N[nt + j]? with | some i, some x => NX[i]? == some x && sc.names.lookup x == some .free | _, _ => true
theorem caps_of {X : Cx} {sc : Scope} {N : List Str} {nt : Nat} {caps : List Nat} (S : Scope) (NX : List Str) (h : capsB S sc NX N nt caps = true) (hS : X.env.scope = S := by rfl) (hX : X.N = NX := by rfl) : Caps X sc N nt caps := by
  unfold capsB at h
  simp only [Bool.and_eq_true, decide_eq_true_eq, List.all_eq_true, bne_iff_ne, Bool.or_eq_true, beq_iff_eq, ne_eq] at h
  obtain ⟨⟨⟨⟨h1, h2⟩, h3⟩, h4⟩, h5⟩ := h
  refine ⟨h1, fun y hy => h2 y hy, fun y hy hf => ?_, h4, fun j i x e1 e2 => ?_⟩
  · have := h3 y hy
    unfold Env.kindOf
    rw [hS]
    rcases this with (h | h) | h
    · exact absurd hf h
    · exact .inl h
    · exact .inr h
  · have := h5 j (by rw [List.mem_range]; exact (List.getElem?_eq_some_iff.mp e1).1)
    rw [e1, e2] at this
    simp only [Bool.and_eq_true, beq_iff_eq] at this
    rw [hX]
    exact this
theorem keep_name {i : Nat} : KeepNo (hName i) := by
  intro d ρ ρ' no e j ds q
  unfold hName at e
  cases e
  by_cases c : i = j
  · subst c
    have hl : i < ρ.length := by
      have := (List.getElem?_eq_some_iff.mp q).1; simpa using this
    rw [List.getElem?_set_self hl] at q
    cases q; exact fun w => by cases w
  · rw [List.getElem?_set_ne c] at q; exact no j ds q
theorem re_comp {X : Cx} {B : Bs} {W : Wi} {tg iter : Expr} {elt : Expr} {sc : Scope} {pos : Pos} {N : List Str} {nt : Nat} {caps : List Nat} {h : Tg} {fe : Rho → Rs D} {fi : Rho → Rs (List D)}
    (c : Caps X sc N nt caps) (hc : X.calm = true) (hnames : sc.names.all (fun y => y.2 != .local || sc.names.lookup y.1 == some .local) = true) (hi : SI X B W tg iter fi) (hno : KeepNo h)
    (ht : ∀ s₀ H₀ C ex pins B', SG (compX X N s₀ H₀ sc (clOf sc X.env) C ex pins) B' tg h)
    (he : ∀ s₀ H₀ C ex pins B', SE (compX X N s₀ H₀ sc (clOf sc X.env) C ex pins) B' WF elt fe)
    (hs : ∀ x, foldedSetIterable iter X.env x = pure x := by intro _; rfl) :
    SE X B W (.ListComp elt [⟨tg, iter, [], 0⟩] sc pos) (gComp h (fun _ => .ok true) fe nt caps fi) :=
  se_comp c hc (fun y hy hl => by
    have := List.all_eq_true.mp hnames y hy
    simp only [Bool.or_eq_true, bne_iff_ne, beq_iff_eq, ne_eq] at this
    exact this.elim (fun z => absurd hl z) id) hi hno ht (.inl ⟨rfl, rfl⟩) he hs
end Vl

set_option Elab.async false
set_option linter.all false
set_option maxRecDepth 100000
set_option maxHeartbeats 4000000
namespace Vl
open PySem PySem.Spec PySem.Calls PySem.W L2
/-- the law's head: v is what its def is worth -/
theorem walk_v {l : OpenLaw} {k : Nat} {q : Program} {loose : List Str} {XP : (Str → Option Value) → Heap → Prop} {YP : World → Heap → Prop} {d : DefRec} {K : Params → Frag} {v : List D → Rs D} (hn : l.most = some 63) (hdf : d.params.defaults = []) (hr : Room k callerA)
    (hY : ∀ (w : World) (h : Heap), YP w h → (K w.params).In h) (hlam : ∀ w : World, lamT (K w.params) = []) (hv : ∀ ns : List Int, ns.length ≤ 63 → v [.lst (ns.map D.int)] = .ok (.bl true))
    (F : ∀ (w : World) (mg : Str → Option Value) (fa : Addr) (h : Heap), (K w.params).In h → h.Ns mainGlobals mg → mg d.name = some (.ref fa) →
      ∃ fd : FuncData, (∀ (s : Shared) (u : Value), BindsTo s fd ⟨[u], []⟩ [("script", u)]) ∧ ∀ base : Heap, (K w.params).In base → base.Ns mainGlobals mg → FnOk l.prog w (K w.params) mg base (CXv l.prog w (K w.params)) k fa fd ["script"] (spV (K w.params) 1 v)) :
    WalkO q loose XP YP l.row.toRowW d [] (fun f vs => PySem.call f vs) := by
  refine L2.walk_of (n := 63) (k := k) (x := "script") (CX := fun w => CXv l.prog w (K w.params)) (sp := fun w => spV (K w.params) 1 v) hn (by decide) hdf hr hY F (fun w H a ns hl _ hS => ?_) fun w H s e s' h => ?_
  · refine ⟨rfl, H, [.lst (ns.map D.int)], ⟨.refl (.refl _) (fun _ _ e => e), fun x m => by rw [hlam] at m; cases m⟩, Reps.one (rep_lst.mpr ⟨a, _, rfl, hS, reps_ints ns⟩), ?_⟩
    rw [hv ns hl]
    exact fun u H' G' _ r => rep_bl.mp r
  · obtain ⟨_, _, _, _, _, _, _, _, _, _, z⟩ := h
    exact z.elim
end Vl

set_option Elab.async false
set_option linter.all false
set_option maxRecDepth 100000
set_option maxHeartbeats 4000000
namespace Vl
open PySem PySem.Spec PySem.Calls PySem.W L2
/-! ### readings run -/
section
variable {ρ ρ1 : Rho} {d x y z : D} {f fa fb : Rho → Rs D} {g k a b : Rho → Ou} {r : Ou} {ds : List D} {fs : Rho → Rs (List D)} {c c1 c2 : Rho → Rs Bool} {t u : Bool} {i j : Nat}
theorem seq_nx (h : g ρ = .nx ρ1) (h2 : k ρ1 = r) : rSeq g k ρ = r := by unfold rSeq; rw [h]; exact h2
theorem v_c : fC d ρ = .ok d := rfl
theorem v_var (h : ρ[i]? = some (.fz d)) : fVar i ρ = .ok d := by unfold fVar; rw [h]
theorem v_op {o : D → D → Rs D} {r : Rs D} (h1 : fa ρ = .ok x) (h2 : fb ρ = .ok y) (h3 : o x y = r) : fOp o fa fb ρ = r := by unfold fOp; rw [h1]; show (fb ρ).bind _ = _; rw [h2]; exact h3
theorem v_nil : fNil ρ = .ok [] := rfl
theorem v_cons (h1 : fa ρ = .ok x) (h2 : fs ρ = .ok ds) : fCons fa fs ρ = .ok (x :: ds) := by unfold fCons; rw [h1]; show (fs ρ).bind _ = _; rw [h2]; rfl
theorem v_a {o : List D → Rs D} {r : Rs D} (h1 : fs ρ = .ok ds) (h2 : o ds = r) : fA fs o ρ = r := by unfold fA; rw [h1]; exact h2
theorem v_b {o : D → Rs D} {r : Rs D} (h1 : fa ρ = .ok x) (h2 : o x = r) : fB fa o ρ = r := by unfold fB; rw [h1]; exact h2
theorem v_call {n : Nat} {v : List D → Rs D} {r : Rs D} (hl : ds.length = n) (h : v ds = r) : gCallX n v ds = r := by unfold gCallX; rw [if_pos hl]; exact h
theorem v_tup (hl : ds.length ≤ 1000) : gTup ds = .ok (.tup ds) := by unfold gTup; rw [if_pos hl]
theorem v_lst (hl : ds.length ≤ 1000) : gLst ds = .ok (.lst ds) := by unfold gLst; rw [if_pos hl]
theorem v_t (h : fa ρ = .ok (.bl t)) : fT fa ρ = .ok t := by unfold fT; rw [h]; rfl
theorem v_not (h : c ρ = .ok t) : fNot c ρ = .ok (!t) := by unfold fNot; rw [h]; rfl
theorem v_or_f (h : c1 ρ = .ok false) (h2 : c2 ρ = .ok t) : fOr c1 c2 ρ = .ok t := by unfold fOr; rw [h]; exact h2
theorem s_if_f (h : c ρ = .ok false) (h2 : b ρ = r) : rIf c a b ρ = r := by unfold rIf; rw [h]; exact h2
theorem s_set (h : fa ρ = .ok x) : rSet i fa ρ = .nx (ρ.set i (.fz x)) := by unfold rSet; rw [h]; rfl
theorem s_ret (h : fa ρ = .ok x) : rRet fa ρ = .rt x := by unfold rRet; rw [h]; rfl
theorem s_nx : rNx ρ = .nx ρ := rfl
theorem s_nox (h : g ρ = .nx ρ1) : rNox g ρ = .nx ρ1 := by unfold rNox; rw [h]; rfl
theorem s_forR {h : Tg} {n : Int} {N : Nat} (h1 : fa ρ = .ok (.int n)) (hb : n < 2 ^ 62) (hN : n = (N : Int)) (h2 : forD h g ((List.range N).map fun (i : Nat) => .int i) ρ = r) : gForR h g fa ρ = r := by
  have hc : -(2 ^ 62) ≤ n ∧ n < 2 ^ 62 := ⟨by subst hN; lia, hb⟩
  unfold gForR; rw [h1]
  simp only [oR]
  rw [if_pos hc, hN, Int.toNat_natCast]
  exact h2
theorem s_forL {h : Tg} (h1 : fa ρ = .ok (.lst ds)) (h2 : forD h g ds ρ = r) : gForL h g fa ρ = r := by unfold gForL; rw [h1]; exact h2
theorem forD_all {h : Tg} (P : Rho → Prop) : ∀ {ds : List D} {ρ : Rho}, P ρ → (∀ d ∈ ds, ∀ ρ, P ρ → ∃ ρ1 ρ', h d ρ = some ρ1 ∧ g ρ1 = .nx ρ' ∧ P ρ') → ∃ ρ', forD h g ds ρ = .nx ρ' ∧ P ρ'
  | [], ρ, p, _ => ⟨ρ, rfl, p⟩
  | d :: ds, ρ, p, st => by
    obtain ⟨ρ1, ρ2, e1, e2, p2⟩ := st d (by simp) ρ p
    obtain ⟨ρ', e, p'⟩ := forD_all (ds := ds) P p2 fun d' hd => st d' (by simp [hd])
    refine ⟨ρ', ?_, p'⟩
    simp only [forD, e1, e2]
    exact e
/-! data -/
variable {m n : Int}
theorem q_mod (h : 0 < n) : gMod (.int m) (.int n) = .ok (.int (m % n)) := by simp [gMod, gI, h]
theorem q_div (h : CDB m n) : gDiv (.int m) (.int n) = .ok (.int (m / n)) := by simp [gDiv, gI, h]
theorem q_pow (h : CPow m n) : gPow (.int m) (.int n) = .ok (.int (m ^ n.toNat)) := by simp [gPow, gI, h]
theorem gPlus_lst {a b : List D} (h : a.length + b.length ≤ 1000000) : gPlus (.lst a) (.lst b) = .ok (.lst (a ++ b)) := by simp only [gPlus]; rw [if_pos h]
theorem q_neI : gNe (.int m) (.int n) = .ok (.bl (!decide (m = n))) := by simp [gNe, dep, eqD]; rfl
end
end Vl

set_option Elab.async false
set_option linter.all false
set_option maxRecDepth 100000
set_option maxHeartbeats 4000000
namespace Tb
open PySem
/-! ### i -> 5 i + 1 meets every rest by 2^k -/
def it : Nat → Nat → Nat
  | 0, x => x
  | m + 1, x => 5 * it m x + 1
end Tb

set_option Elab.async false
set_option linter.all false
set_option maxRecDepth 100000
set_option maxHeartbeats 4000000
namespace Tb
open PySem PySem.SetTable
/-! ### the road of a search -/
def adv (t : SetTable) : Nat → Probe → Probe
  | 0, p => p
  | s + 1, p => adv t s (t.advance p)
/-- where a run begins -/
def stand (mask i pt : Nat) (d : Option Nat) : Probe := { j := i, more := runEnd mask i - i, i := i, perturb := pt, dummy := d }
/-- the place of a road's s-th stand -/
def pos (t : SetTable) (h : Int) (s : Nat) : Nat := (adv t s (t.probeStart h)).j
end Tb

set_option Elab.async false
set_option linter.all false
set_option maxRecDepth 100000
set_option maxHeartbeats 4000000
namespace Tb
open PySem PySem.SetTable
/-! ### places in a rising row -/
def Rise (xs : Array Nat) : Prop := ∀ a b, a < b → b < xs.size → xs.getD a 0 < xs.getD b 0
def Live (t : SetTable) (j : Nat) : Prop := ∃ i, i < t.place.size ∧ t.place.getD i 0 = j
/-! ### a search -/
end Tb

set_option Elab.async false
set_option linter.all false
set_option maxRecDepth 100000
set_option maxHeartbeats 4000000
namespace Tb
open PySem PySem.SetTable
abbrev Ent := Nat × Int × Value
structure Good (t : SetTable) (L : List Ent) : Prop where
  pw : ∃ k, t.mask + 1 = 2 ^ k
  m7 : 7 ≤ t.mask
  nd : t.dummies = #[]
  pl : t.place = (L.map (·.1)).toArray
  so : (L.map (·.1)).Pairwise (· < ·)
  le : ∀ e ∈ L, e.1 ≤ t.mask
  reach : ∀ e ∈ L, ∃ s, pos t e.2.1 s = e.1 ∧ ∀ s', s' < s → ∃ e' ∈ L, e'.1 = pos t e.2.1 s'
section
variable {t : SetTable} {L : List Ent}
end
/-! ### one more -/
end Tb

set_option Elab.async false
set_option linter.all false
set_option maxRecDepth 100000
set_option maxHeartbeats 4000000
namespace Tb
open PySem PySem.SetTable
/-! ### a table laid anew -/
def NoneAt (owner : Array (Option Nat)) (j : Nat) : Prop := owner.getD j (some 0) = none
/-- who is where -/
def liveOf (M : Nat) (owner : Array (Option Nat)) : List (Nat × Nat) := (List.range M).filterMap fun j => (owner.getD j none).map (j, ·)
/-- laid so far -/
structure LC (t : SetTable) (hs : List Int) (owner : Array (Option Nat)) (k : Nat) : Prop where
  sz : owner.size = t.mask + 1
  pm : ((liveOf (t.mask + 1) owner).map (·.2)).Perm (List.range k)
  reach : ∀ j i, (j, i) ∈ liveOf (t.mask + 1) owner → ∃ h, hs[i]? = some h ∧ ∃ s, pos t h s = j ∧ ∀ s', s' < s → ¬ NoneAt owner (pos t h s')
end Tb

set_option Elab.async false
set_option linter.all false
set_option maxRecDepth 100000
set_option maxHeartbeats 4000000
namespace Tb
open PySem PySem.SetTable
end Tb

set_option Elab.async false
set_option linter.all false
set_option maxRecDepth 100000
set_option maxHeartbeats 4000000
namespace Tb
open PySem PySem.Spec PySem.SetTable
abbrev hK (prog : Program) (w : World) (ks : List Int) : Int := tupleKeyHash (intKind prog w) ks
section
variable {prog : Program} {w : World} {A : Around} {E : Value → Shared → Prop} {s : Shared}
end
end Tb

set_option Elab.async false
set_option linter.all false
set_option maxRecDepth 100000
set_option maxHeartbeats 4000000
namespace Tb
open PySem PySem.Spec PySem.SetTable
section
variable {prog : Program} {w : World} {A : Around} {E : Value → Shared → Prop} {s : Shared}
abbrev setObj (L : List Ent) (ep : Nat) (t : SetTable) : Obj := { cls := .type "set", dict := none, data := .set (L.map (·.2)).toArray ep t }
end
end Tb

set_option Elab.async false
set_option linter.all false
set_option maxRecDepth 100000
set_option maxHeartbeats 4000000
namespace Tb
open PySem PySem.Spec PySem.SetTable
section
variable {prog : Program} {w : World} {A : Around} {E : Value → Shared → Prop} {s : Shared}
abbrev byT (w : World) : Bool := w.params.followText "set-order"
end
end Tb

set_option Elab.async false
set_option linter.all false
set_option maxRecDepth 100000
set_option maxHeartbeats 4000000
namespace Tb
open PySem PySem.Spec PySem.SetTable
section
variable {prog : Program} {w : World} {U : Addr → List Int → Prop} {A : Around} {E : Value → Shared → Prop} {s : Shared}
/-- a table that only grew -/
def Mk (h : Heap) (a : Addr) : Prop := ∀ L ep t, h.get? a = some (setObj L ep t) → t.mask = 7 ∨ t.mask = 31 ∨ t.mask = 127 ∨ t.mask = 511 ∨ t.mask = 2047 ∨ t.mask = 8191
end
end Tb

set_option Elab.async false
set_option linter.all false
set_option maxRecDepth 100000
set_option maxHeartbeats 4000000
namespace Tb
open PySem PySem.Spec PySem.SetTable
/-- one more into a row of unlike ones -/
def ins (acc : List (List Int)) (k : List Int) : List (List Int) := if k ∈ acc then acc else k :: acc
section
variable {prog : Program} {w : World} {U : Addr → List Int → Prop} {A : Around} {R : Result → Shared → Prop} {I : Addr} {fp wr : List Addr} {G : Array GenState → Array GenState → Prop} {n : Nat} {P : Nat → Value → Prop} {St : Nat → Shared → Prop}
end
end Tb

set_option Elab.async false
set_option linter.all false
set_option maxRecDepth 100000
set_option maxHeartbeats 4000000
namespace Tb
open PySem PySem.Spec PySem.SetTable
section
variable {prog : Program} {w : World} {A : Around} {E : Value → Shared → Prop} {s : Shared}
end
end Tb

set_option Elab.async false
set_option linter.all false
set_option maxRecDepth 100000
set_option maxHeartbeats 4000000
namespace Tb
open PySem PySem.Spec PySem.SetTable
namespace F
end F
section
variable {prog : Program} {w : World} {U : Addr → List Int → Prop} {A : Around} {E : Value → Shared → Prop} {s : Shared}
end
end Tb

set_option Elab.async false
set_option linter.all false
set_option maxRecDepth 100000
set_option maxHeartbeats 4000000
namespace Tb
open PySem PySem.Spec PySem.SetTable
/-- how the entries lie, lost slots or not -/
structure Lies (t : SetTable) (L : List Ent) : Prop where
  pl : t.place = (L.map (·.1)).toArray
  so : (L.map (·.1)).Pairwise (· < ·)
  fl : t.fill ≤ t.mask
section
variable {prog : Program} {w : World} {A : Around} {E : Value → Shared → Prop} {s : Shared}
end
end Tb

set_option Elab.async false
set_option linter.all false
set_option maxRecDepth 100000
set_option maxHeartbeats 4000000
namespace Tb
open PySem PySem.Spec PySem.SetTable
section
variable {prog : Program} {w : World} {A : Around} {E : Value → Shared → Prop} {s : Shared} {D I : Addr} {L : List Ent} {ep : Nat} {t : SetTable}
/-- what is known of the set while it is gone through -/
structure Goes (w : World) (L : List Ent) (t : SetTable) : Prop where
  g : Lies t L
  hl : L.length ≤ t.mask
  pl : t.plain = true
  ld : t.led = !byT w
end
end Tb

set_option Elab.async false
set_option linter.all false
set_option maxRecDepth 100000
set_option maxHeartbeats 4000000
namespace Tb
open PySem PySem.Spec PySem.SetTable
section
variable {prog : Program} {w : World} {A : Around} {E : Value → Shared → Prop} {s : Shared} {D I : Addr} {L : List Ent} {ep : Nat} {t : SetTable}
end
end Tb

set_option Elab.async false
set_option linter.all false
set_option maxRecDepth 100000
set_option maxHeartbeats 4000000
namespace Tb
open PySem PySem.Spec PySem.SetTable
section
variable {prog : Program} {w : World} {A : Around} {E : Value → Shared → Prop} {s : Shared}
end
end Tb

set_option Elab.async false
set_option linter.all false
set_option maxRecDepth 100000
set_option maxHeartbeats 4000000
namespace Tb
open PySem PySem.Spec PySem.SetTable
section
variable {prog : Program} {w : World} {U : Addr → List Int → Prop} {A : Around} {E : Value → Shared → Prop} {s : Shared}
end
end Tb

set_option Elab.async false
set_option linter.all false
set_option maxRecDepth 100000
set_option maxHeartbeats 4000000
namespace Tb
open PySem PySem.Spec PySem.SetTable
section
variable {prog : Program} {w : World} {U : Addr → List Int → Prop} {A : Around} {E : Value → Shared → Prop} {s : Shared}
end
end Tb

set_option Elab.async false
set_option linter.all false
set_option maxRecDepth 100000
set_option maxHeartbeats 4000000
namespace Tb
open PySem PySem.Spec PySem.SetTable
section
variable {prog : Program} {w : World} {U : Addr → List Int → Prop} {A : Around} {E : Value → Shared → Prop} {s : Shared}
end
end Tb

set_option Elab.async false
set_option linter.all false
set_option maxRecDepth 100000
set_option maxHeartbeats 4000000
namespace Tb
open PySem PySem.Spec PySem.SetTable
section
variable {prog : Program} {w : World} {U : Addr → List Int → Prop} {A : Around} {E : Value → Shared → Prop} {s : Shared}
end
end Tb

set_option Elab.async false
set_option linter.all false
set_option maxRecDepth 100000
set_option maxHeartbeats 4000000
namespace Tb
open PySem PySem.Spec PySem.SetTable
section
variable {prog : Program} {w : World} {U : Addr → List Int → Prop} {A : Around} {E : Value → Shared → Prop} {s : Shared}
end
end Tb

set_option Elab.async false
set_option linter.all false
set_option maxRecDepth 100000
set_option maxHeartbeats 4000000
namespace So
open PySem PySem.W PyProof.Rows
/-! ### the asking of a sort of fewer than 64 things sorts -/
def Sp (lt : Nat → Nat → Bool) (n : Nat) {α : Type} : KasT α → (α → Prop) → Prop
  | .ret a, Q => Q a
  | .ask i j k, Q => i < n ∧ j < n ∧ Sp lt n (k (lt i j)) Q
section
variable {lt : Nat → Nat → Bool} {n : Nat} {α β : Type}
/-- the array holds places below n -/
structure Ar (n : Nat) (p : Array Nat) : Prop where
  sz : p.size = n
  lt : ∀ i, p.getD i 0 < n
  pm : p.toList.Perm (List.range n)
def Up (lt : Nat → Nat → Bool) (p : Array Nat) (m : Nat) : Prop := ∀ i j, i < j → j < m → lt (p.getD j 0) (p.getD i 0) = false
def Dn (lt : Nat → Nat → Bool) (p : Array Nat) (m : Nat) : Prop := ∀ i j, i < j → j < m → lt (p.getD i 0) (p.getD j 0) = false
structure Ord (lt : Nat → Nat → Bool) : Prop where
  tr : ∀ a b c, lt b a = false → lt c b = false → lt c a = false
  as : ∀ a b, lt a b = true → lt b a = false
end
end So

set_option Elab.async false
set_option linter.all false
set_option maxRecDepth 100000
set_option maxHeartbeats 4000000
namespace So
open PySem PySem.W PyProof.Rows PySem.Calls
def ltK : List Int → List Int → Bool
  | [], [] => false
  | [], _ :: _ => true
  | _ :: _, [] => false
  | a :: as, b :: bs => if a = b then ltK as bs else decide (a < b)
end So

set_option Elab.async false
set_option linter.all false
set_option maxRecDepth 100000
set_option maxHeartbeats 4000000
namespace So
open PySem PySem.W PyProof.Rows PySem.Calls
section
variable {prog : Program} {w : World} {A : Around} {E : Value → Shared → Prop} {s : Shared}
/-! the sorted row -/
def insK (x : List Int) : List (List Int) → List (List Int)
  | [] => [x]
  | y :: ys => if ltK y x = true then y :: insK x ys else x :: y :: ys
def sortK (l : List (List Int)) : List (List Int) := l.foldr insK []
end
end So

set_option Elab.async false
set_option linter.all false
set_option maxRecDepth 100000
set_option maxHeartbeats 4000000
namespace Sb
open PySem PySem.W PyProof.Rows
/-! ### list.sort of any length: runs, binary insertion, by ranks -/
section
variable {prog : Program} {w : World} {A : Around} {E : Value → Shared → Prop} {s : Shared} {a₀ x0 : Array Keyed} {κ : SortKind} {rk : Keyed → Int} {lo : Nat} {p0 : Array (Nat × Nat × Nat)}
/-- a comparison answers by ranks and changes nothing -/
def Ax (prog : Program) (w : World) (A : Around) (s : Shared) (κ : SortKind) (rk : Keyed → Int) (a₀ : Array Keyed) : Prop :=
  ∀ x y (C : Bool → Shared → Prop) (E : Value → Shared → Prop), x ∈ a₀.toList → y ∈ a₀.toList → C (decide (rk x < rk y)) s → wpAny (model prog w) A (keyLt' κ x.1 y.1) C E s
def R (rk : Keyed → Int) (xs : Array Keyed) (i : Nat) : Int := match xs[i]? with | some p => rk p | none => 0
/-- the row from lo on rises for n -/
def Up (rk : Keyed → Int) (xs : Array Keyed) (lo n : Nat) : Prop := ∀ i j, i ≤ j → j < n → R rk xs (lo + i) ≤ R rk xs (lo + j)
def Dn (rk : Keyed → Int) (xs : Array Keyed) (lo n : Nat) : Prop := ∀ i j, i ≤ j → j < n → R rk xs (lo + j) ≤ R rk xs (lo + i)
structure SB (κ : SortKind) (a₀ x0 : Array Keyed) (p0 : Array (Nat × Nat × Nat)) (lo : Nat) (st : SortSt) : Prop where
  perm : (arrOf st).Perm a₀
  kind : kindOf st = κ
  failed : failedOf st = none
  pend : pendingOf st = p0
  keep : ∀ k, k < lo → (arrOf st)[k]? = x0[k]?
end
end Sb

set_option Elab.async false
set_option linter.all false
set_option maxRecDepth 100000
set_option maxHeartbeats 4000000
namespace Sb
open PySem PySem.W PyProof.Rows
section
variable {prog : Program} {w : World} {A : Around} {E : Value → Shared → Prop} {s : Shared} {a₀ x0 : Array Keyed} {κ : SortKind} {rk : Keyed → Int} {lo : Nat} {p0 : Array (Nat × Nat × Nat)}
end
end Sb

set_option Elab.async false
set_option linter.all false
set_option maxRecDepth 100000
set_option maxHeartbeats 4000000
namespace Sb
open PySem PySem.W PyProof.Rows
section
variable {prog : Program} {w : World} {A : Around} {E : Value → Shared → Prop} {s : Shared} {a₀ x0 : Array Keyed} {κ : SortKind} {rk : Keyed → Int} {lo : Nat} {p0 : Array (Nat × Nat × Nat)}
end
end Sb

set_option Elab.async false
set_option linter.all false
set_option maxRecDepth 100000
set_option maxHeartbeats 4000000
namespace Sb
open PySem PySem.W PyProof.Rows
/-! merging from below: what is out, what is left of both -/
abbrev Asc (rk : Keyed → Int) (l : List Keyed) : Prop := l.Pairwise fun x y => rk x ≤ rk y
structure Mg (rk : Keyed → Int) (a b out : Array Keyed) (ia ib : Nat) : Prop where
  ha : ia ≤ a.size
  hb : ib ≤ b.size
  sz : out.size = ia + ib
  pm : (out.toList ++ (a.toList.drop ia ++ b.toList.drop ib)).Perm (a.toList ++ b.toList)
  up : Asc rk out.toList
  bd : ∀ x ∈ out.toList, ∀ y ∈ a.toList.drop ia ++ b.toList.drop ib, rk x ≤ rk y
section
variable {rk : Keyed → Int} {a b out : Array Keyed} {ia ib k : Nat} {x y : Keyed}
/-! from indices to rows -/
end
end Sb

set_option Elab.async false
set_option linter.all false
set_option maxRecDepth 100000
set_option maxHeartbeats 4000000
namespace Sb
open PySem PySem.W PyProof.Rows
section
variable {prog : Program} {w : World} {A : Around} {E : Value → Shared → Prop} {s : Shared} {a₀ : Array Keyed} {κ : SortKind} {rk : Keyed → Int} {a b : Array Keyed}
/-- what a merge from below is given -/
structure MIn (prog : Program) (w : World) (A : Around) (s : Shared) (κ : SortKind) (rk : Keyed → Int) (a₀ a b : Array Keyed) : Prop where
  h0 : Ax prog w A s κ rk a₀
  sa : Asc rk a.toList
  sb : Asc rk b.toList
  ma : ∀ x ∈ a.toList, x ∈ a₀.toList
  mb : ∀ x ∈ b.toList, x ∈ a₀.toList
  la : 0 < a.size
  lb : 0 < b.size
  lt0 : R rk b 0 < R rk a 0
  last : ∀ x ∈ b.toList, rk x ≤ R rk a (a.size - 1)
end
end Sb

set_option Elab.async false
set_option linter.all false
set_option maxRecDepth 100000
set_option maxHeartbeats 4000000
namespace Sb
open PySem PySem.W PyProof.Rows
section
variable {prog : Program} {w : World} {A : Around} {E : Value → Shared → Prop} {s : Shared} {a₀ : Array Keyed} {κ : SortKind} {rk : Keyed → Int} {a b : Array Keyed}
end
end Sb

set_option Elab.async false
set_option linter.all false
set_option maxRecDepth 100000
set_option maxHeartbeats 4000000
namespace Sb
open PySem PySem.W PyProof.Rows
/-! merging from above -/
structure Mh (rk : Keyed → Int) (a b out : Array Keyed) (na nb : Nat) : Prop where
  ha : na ≤ a.size
  hb : nb ≤ b.size
  sz : out.size + (na + nb) = a.size + b.size
  pm : ((a.toList.take na ++ b.toList.take nb) ++ out.toList.reverse).Perm (a.toList ++ b.toList)
  up : Asc rk out.toList.reverse
  bd : ∀ y ∈ a.toList.take na ++ b.toList.take nb, ∀ x ∈ out.toList, rk y ≤ rk x
section
variable {rk : Keyed → Int} {a b out : Array Keyed} {na nb k : Nat} {x y : Keyed}
end
end Sb

set_option Elab.async false
set_option linter.all false
set_option maxRecDepth 100000
set_option maxHeartbeats 4000000
namespace Sb
open PySem PySem.W PyProof.Rows
section
variable {prog : Program} {w : World} {A : Around} {E : Value → Shared → Prop} {s : Shared} {a₀ : Array Keyed} {κ : SortKind} {rk : Keyed → Int} {a b : Array Keyed}
end
end Sb

set_option Elab.async false
set_option linter.all false
set_option maxRecDepth 100000
set_option maxHeartbeats 4000000
namespace Sb
open PySem PySem.W PyProof.Rows
section
variable {prog : Program} {w : World} {A : Around} {E : Value → Shared → Prop} {s : Shared} {a₀ : Array Keyed} {κ : SortKind} {rk : Keyed → Int}
end
end Sb

set_option Elab.async false
set_option linter.all false
set_option maxRecDepth 100000
set_option maxHeartbeats 4000000
namespace Sb
open PySem PySem.W PyProof.Rows
/-! runs side by side -/
def Rn (rk : Keyed → Int) (xs : Array Keyed) : Nat → List (Nat × Nat × Nat) → Nat → Prop
  | a, [], e => a = e
  | a, t :: l, e => t.1 = a ∧ 1 ≤ t.2.1 ∧ Up rk xs a t.2.1 ∧ Rn rk xs (a + t.2.1) l e
section
variable {rk : Keyed → Int} {xs ys : Array Keyed}
end
section
variable {prog : Program} {w : World} {A : Around} {E : Value → Shared → Prop} {s : Shared} {a₀ : Array Keyed} {κ : SortKind} {rk : Keyed → Int}
structure Sr (κ : SortKind) (rk : Keyed → Int) (a₀ : Array Keyed) (lo : Nat) (st : SortSt) : Prop where
  perm : (arrOf st).Perm a₀
  kind : kindOf st = κ
  failed : failedOf st = none
  runs : Rn rk (arrOf st) 0 (pendingOf st).toList lo
end
end Sb

set_option Elab.async false
set_option linter.all false
set_option maxRecDepth 100000
set_option maxHeartbeats 4000000
namespace Sb
open PySem PySem.W PyProof.Rows So
/-! from places to ranks and back -/
section
variable {prog : Program} {w : World} {A : Around} {E : Value → Shared → Prop} {s : Shared}
end
end Sb

set_option Elab.async false
set_option linter.all false
set_option maxRecDepth 100000
set_option maxHeartbeats 4000000
namespace So
open PySem PySem.W PyProof.Rows PySem.Calls
section
variable {prog : Program} {w : World} {A : Around} {E : Value → Shared → Prop} {s : Shared}
end
end So

set_option Elab.async false
set_option linter.all false
set_option maxRecDepth 100000
set_option maxHeartbeats 4000000
namespace So
open PySem PySem.Spec PySem.W PyProof.Rows PySem.Calls PySem.SetTable Tb
section
variable {prog : Program} {w : World} {A : Around} {E : Value → Shared → Prop} {s : Shared} {U : Addr → List Int → Prop}
/-- what is known of a set's object -/
def SetO (prog : Program) (w : World) (U : Addr → List Int → Prop) (o : Obj) (kss : List (List Int)) : Prop :=
  ∃ (L : List Ent) (ep : Nat) (t : SetTable) (f : Int × Value → List Int), o = setObj L ep t ∧ Good t L ∧ L.length * 5 < t.mask * 3 ∧ t.mask < 8192 ∧ (t.plain = true ∧ t.led = !byT w) ∧ (∀ e ∈ L, ∃ b, e.2.2 = .ref b ∧ e.2.1 = hK prog w (f e.2) ∧ U b (f e.2)) ∧ (L.map fun e => f e.2).Perm kss ∧ kss.Nodup
end
end So

set_option Elab.async false
set_option linter.all false
set_option maxRecDepth 100000
set_option maxHeartbeats 4000000
namespace Vl
open PySem PySem.Spec L2 So Tb
/-! ### sets of int tuples, sorted rows of them -/
section
variable {X : Cx} {B : Bs} {W : Wi}
theorem Vals.get' {xs : List V} {us : List Value} (r : Vals xs us) {i : Nat} {u : Value} (h : us[i]? = some u) : ∃ x, xs[i]? = some x ∧ RelV x u := by
  cases e : xs[i]? with
  | none => have := r.none_of e; rw [this] at h; cases h
  | some x => obtain ⟨u', h1, h2⟩ := r.get e; rw [h] at h1; cases h1; exact ⟨x, rfl, h2⟩
/-! data -/
def tupK (ks : List Int) : D := .tup (ks.map .int)
/-! ### an expression that is worth a set -/
instance (kss : List (List Int)) : Decidable (∀ ks ∈ kss, ks ≠ []) := inferInstance
end
end Vl

set_option Elab.async false
set_option linter.all false
set_option maxRecDepth 100000
set_option maxHeartbeats 4000000
namespace Vl
open PySem PySem.Spec L2 So Tb
/-! ### two sets -/
section
variable {X : Cx} {B : Bs} {W : Wi}
def COr (a b : List (List Int)) : Prop := a.length + b.length < 900
def CAnd (a b : List (List Int)) : Prop := a.length < 900 ∧ b.length < 900
def CSub (a b : List (List Int)) : Prop := a.length < 900 ∧ b.length < 900 ∧ (b = [] ∨ ¬ a.length / 4 > b.length)
instance (a b : List (List Int)) : Decidable (COr a b) := by unfold COr; exact inferInstance
instance (a b : List (List Int)) : Decidable (CAnd a b) := by unfold CAnd; exact inferInstance
instance (a b : List (List Int)) : Decidable (CSub a b) := by unfold CSub; exact inferInstance
end
end Vl

set_option Elab.async false
set_option linter.all false
set_option maxRecDepth 100000
set_option maxHeartbeats 4000000
namespace Vl
open PySem PySem.Spec L2
/-! ### more rules in short words -/
section
variable {X : Cx} {K : PySem.W.Frag} {B : Bs} {W : Wi} {σ : St} {G H : Hp} {ρ : Rho}
/-! tuple(x), list(x) -/
/-! int(x) -/
/-! x is None -/
variable {a b : Expr} {pos : Pos} {fa fb : Rho → Rs D}
/-! x in xs -/
def inD (x : D) (ds : List D) : Bool := ds.any fun d => eqD d x
def rInD (K : PySem.W.Frag) (neg : Bool) : R2 := fun x y H Q => ∃ d p ys ds, y = .ref p ∧ (SqL K H p ys ∨ SqT K H p ys) ∧ Rep K H d x ∧ Reps K H ds ys ∧ dep d ≤ 7 ∧ deps ds ≤ 7 ∧ Q (.bl (if neg then !inD d ds else inD d ds)) H
open Classical in
theorem in_at {pins : List (Addr × Obj)} {s : Shared} {A : Around} {x : V} {v : Value} {d : D} (I : Inv X pins σ H s) (hu : A.units + 7 < cLine) (rx : RelV x v) (rd : Rep X.K H d x) (hd : dep d ≤ 7) : ∀ {ds : List D} {ys : List V} {its : List Value}, Vals ys its → Reps X.K H ds ys → deps ds ≤ 7 →
    ∃ f : Value → Bool, (∀ u ∈ its, SeqAt.EqAt A s u v (f u)) ∧ its.any f = inD d ds := by
  intro ds ys its rv rr hds
  refine ⟨fun u => if h : ∃ d' v', Rep X.K H d' v' ∧ RelV v' u ∧ dep d' ≤ 7 then eqD (choose h) d else false, fun u hu' => ?_, ?_⟩
  · obtain ⟨i, hi⟩ := List.mem_iff_getElem?.mp hu'
    obtain ⟨y, h1, h2⟩ := Vals.get' rv hi
    obtain ⟨d', h3, h4⟩ := rr.get' h1
    have hx : ∃ d' v', Rep X.K H d' v' ∧ RelV v' u ∧ dep d' ≤ 7 := ⟨d', y, h4, h2, Nat.le_trans (mem_dep (List.mem_of_getElem? h3)) hds⟩
    dsimp only
    rw [dif_pos hx]
    obtain ⟨v', q1, q2, q3⟩ := choose_spec hx
    exact eqD_at I 7 q3 hd (by lia) q1 rd q2 rx
  · unfold inD
    induction ds generalizing ys its with
    | nil =>
      cases reps_nil.mp rr
      cases rv
      rfl
    | cons d0 ds ih =>
      obtain ⟨y, ys', rfl, r1, r2⟩ := reps_cons.mp rr
      cases rv with
      | @cons _ u _ us r3 r4 =>
        rw [List.any_cons, List.any_cons, ih r4 r2 (Nat.le_trans (by simp only [deps]; exact Nat.le_max_right _ _) hds)]
        congr 1
        have hd0 : dep d0 ≤ 7 := Nat.le_trans (mem_dep (List.mem_cons_self)) hds
        have hx : ∃ d' v', Rep X.K H d' v' ∧ RelV v' u ∧ dep d' ≤ 7 := ⟨d0, y, r1, r3, hd0⟩
        rw [dif_pos hx]
        obtain ⟨v', q1, q2, q3⟩ := choose_spec hx
        have : v' = y := by
          have z1 := Vals.inj (xs := [v']) (ys := [y]) (us := [u]) (.cons q2 .nil) (.cons r3 .nil)
          exact (List.cons.inj z1).1
        subst this
        rw [Rep.inj I (by lia) q1 r1]
theorem op_inD (hu : X.A.units + 8 < cLine) : OpR X (compareOp .In) (rInD X.K false) := by
  intro pins s σ H x y v u Q I rx ry h
  obtain ⟨d, p, ys, ds, rfl, hq, rd, rr, hd, hds, q⟩ := h
  cases ry
  rcases hq with hq | hq
  · obtain ⟨its, r, pl, hz⟩ := I.list hq
    obtain ⟨f, h1, h2⟩ := in_at (A := X.A.in1) I (by show X.A.units + 1 + 7 < cLine; lia) rx rd hd r rr hds
    refine SeqAt.in_listAt f pl.isList (fun w hw => h1 w (by simpa using hw)) ⟨.bl _, H, I, rfl, ?_⟩
    rw [show its.toArray.any f = its.any f by simp, h2]
    exact q
  · obtain ⟨its, r, pl, hz⟩ := I.tuple hq
    obtain ⟨f, h1, h2⟩ := in_at (A := X.A.in1) I (by show X.A.units + 1 + 7 < cLine; lia) rx rd hd r rr hds
    refine SeqAt.in_tupleAt f pl (fun w hw => h1 w (by simpa using hw)) ⟨.bl _, H, I, rfl, ?_⟩
    rw [show its.toArray.any f = its.any f by simp, h2]
    exact q
def gInG (neg : Bool) : D → D → Rs D := fun x y => match y with
  | .lst ds => if dep x ≤ 7 ∧ deps ds ≤ 7 then .ok (.bl (if neg then !inD x ds else inD x ds)) else .no
  | .tup ds => if dep x ≤ 7 ∧ deps ds ≤ 7 then .ok (.bl (if neg then !inD x ds else inD x ds)) else .no
  | _ => .no
abbrev gIn := gInG false
theorem opd_in {neg : Bool} : OpD K (rInD K neg) (gInG neg) := by
  intro B W σ ρ G H x y v u Q s rx ry p
  unfold gInG at p
  split at p
  · rename_i ds
    split at p
    · rename_i hc
      obtain ⟨a, vs, rfl, q, rr⟩ := rep_lst.mp ry
      exact ⟨x, a, vs, ds, rfl, .inl (s.en.gh.seq q), rx.mono s.en.gh, rr.mono s.en.gh, hc.1, hc.2, Post.ok s p (rep_bl.mpr rfl)⟩
    · exact p.elim
  · rename_i ds
    split at p
    · rename_i hc
      obtain ⟨a, vs, rfl, q, rr⟩ := rep_tup.mp ry
      exact ⟨x, a, vs, ds, rfl, .inr (Same.seqT s.en.gh q), rx.mono s.en.gh, rr.mono s.en.gh, hc.1, hc.2, Post.ok s p (rep_bl.mpr rfl)⟩
    · exact p.elim
  · exact p.elim
theorem st_in (hu : X.A.units + 8 < cLine) (ha : SE X B W a fa) (hb : SE X B W b fb) (hm : behindInMarks .In b = false := by rfl) : ST X B W (.Compare a [.In] [b] pos) (fT (fOp gIn fa fb)) := st_cmp (op_inD hu) opd_in ha hb hm
end
end Vl

set_option Elab.async false
set_option linter.all false
set_option maxRecDepth 100000
set_option maxHeartbeats 4000000
namespace Vl
open PySem PySem.Spec L2 So Tb
/-! ### sorted(l) of a list of int tuples, or of ints -/
section
variable {X : Cx} {B : Bs} {W : Wi} {K : PySem.W.Frag}
theorem vals_ints : ∀ {us : List Value} {ns : List Int}, PyProof.Rows.IntsAre us ns → Vals (ns.map V.int) us := by
  intro us ns h
  induction h with
  | nil => exact .nil
  | cons n t _ ih => exact .cons ⟨t, rfl⟩ ih
/-! data -/
/-! list(range(n)) -/
end
end Vl

set_option Elab.async false
set_option linter.all false
set_option maxRecDepth 100000
set_option maxHeartbeats 4000000
namespace Vl
open PySem PySem.Spec L2
section
variable {X : Cx} {B : Bs} {W : Wi} {K : PySem.W.Frag}
end
end Vl

set_option Elab.async false
set_option linter.all false
set_option maxRecDepth 100000
set_option maxHeartbeats 4000000
namespace Vl
open PySem PySem.Spec L2
end Vl

set_option Elab.async false
set_option linter.all false
set_option maxRecDepth 100000
set_option maxHeartbeats 4000000
namespace Vl
open PySem PySem.Spec L2
/-! t + u of tuples -/
section
variable {X : Cx} {B : Bs} {W : Wi} {K : PySem.W.Frag} {a b : Expr} {pos : Pos} {fa fb : Rho → Rs D}
end
end Vl

set_option Elab.async false
set_option linter.all false
set_option maxRecDepth 100000
set_option maxHeartbeats 4000000
namespace Vl
open PySem PySem.Spec L2
/-! ### dicts whose keys are int tuples: the operations -/
section
variable {X : Cx} {B : Bs} {W : Wi}
end
end Vl

set_option Elab.async false
set_option linter.all false
set_option maxRecDepth 100000
set_option maxHeartbeats 4000000
namespace Vl
open PySem PySem.Spec L2
/-! ### dicts of one's own in the value layer -/
section
variable {X : Cx} {B : Bs} {W : Wi}
/-! keys -/
/-! k in d -/
end
end Vl

set_option Elab.async false
set_option linter.all false
set_option maxRecDepth 100000
set_option maxHeartbeats 4000000
namespace Vl
open PySem PySem.Spec L2
section
variable {X : Cx} {B : Bs} {W : Wi}
/-! d[k] -/
/-! d[k] = e -/
/-! d.get(k, x) -/
end
end Vl

set_option Elab.async false
set_option linter.all false
set_option maxRecDepth 100000
set_option maxHeartbeats 4000000
namespace Vl
open PySem PySem.Spec L2
section
variable {X : Cx} {B : Bs} {W : Wi}
end
end Vl

set_option Elab.async false
set_option linter.all false
set_option maxRecDepth 100000
set_option maxHeartbeats 4000000
namespace Vl
open PySem PySem.Spec L2
/-! the rules of D2, D3 in the words of gen.py -/
section
variable {X : Cx} {B : Bs} {W : Wi}
end
end Vl

set_option Elab.async false
set_option linter.all false
set_option maxRecDepth 100000
set_option maxHeartbeats 4000000
namespace Vl
open PySem PySem.Spec L2
/-! a < b <= c of ints; min, max of two ints; x.extend(y), x a list of one's own -/
section
variable {X : Cx} {K : PySem.W.Frag} {B : Bs} {W : Wi} {σ : St} {G H : Hp} {ρ : Rho} {a b c : Expr} {pos : Pos} {fa fb fc : Rho → Rs D}
/-! min -/
/-! x.extend([e, ..]), x a list of one's own -/
end
end Vl

set_option Elab.async false
set_option linter.all false
set_option maxRecDepth 100000
set_option maxHeartbeats 4000000
namespace Vl
open PySem PySem.Spec L2
section
variable {X : Cx} {B : Bs} {W : Wi}
end
end Vl

set_option Elab.async false
set_option linter.all false
set_option maxRecDepth 100000
set_option maxHeartbeats 4000000
namespace L2
open PySem PySem.Spec PyProof.Rows
section
variable {X : Cx} {pins : List (Addr × Obj)} {σ : List (Option V)} {H : Hp} {s : Shared} {h' : Heap}
end
section
variable {X : Cx}
end
end L2
namespace Vl
open PySem PySem.Spec L2
section
variable {X : Cx} {B : Bs} {W : Wi}
end
end Vl

set_option Elab.async false
set_option linter.all false
set_option maxRecDepth 100000
set_option maxHeartbeats 4000000
namespace PySem
namespace Rvd
theorem slot_init : Slot "reversed" "__init__" "object.__init__" :=
  .of (owner := "object") (n := "__init__") (by rw [typeLookup_type, builtinLookup_eq_fast]; kernel_rfl) (by decide +kernel) (by decide +kernel) (by decide +kernel)
    (by first | exact .inl (by decide +kernel) | exact .inr (by decide +kernel)) (by rw [isSubtype_type]; kernel_rfl)
theorem called : TypeCalled "reversed" "reversed.__new__" "object.__init__" :=
  ⟨by decide +kernel, by decide +kernel, ⟨_, _, F.mro_reversed⟩, F.made_reversed, by decide +kernel, by rw [isSubtype_type]; kernel_rfl, slot_init⟩
end Rvd

section
variable {prog : Program} {w : World} {A : Around} {E : Value → Shared → Prop} {s : Shared}
end
end PySem

set_option Elab.async false
set_option linter.all false
set_option maxRecDepth 100000
set_option maxHeartbeats 4000000
namespace PySem
open PyProof.Rows (IsTup)
section
variable {prog : Program} {w : World} {A : Around} {E : Value → Shared → Prop} {s : Shared}
end
section
variable {prog : Program} {w : World} {A : Around} {E : Value → Shared → Prop} {s : Shared}
end
end PySem

set_option Elab.async false
set_option linter.all false
set_option maxRecDepth 100000
set_option maxHeartbeats 4000000
namespace Vl
open PySem PySem.Spec L2
section
variable {X : Cx} {B : Bs} {W : Wi} {K : PySem.W.Frag}
end
end Vl

set_option Elab.async false
set_option linter.all false
set_option maxRecDepth 100000
set_option maxHeartbeats 4000000
namespace Vl
open PySem PySem.Spec PySem.Calls PySem.W L2
/-! ### a def with defaults, all of whose parameters are given -/
structure FunD (K : PySem.W.Frag) (x : Str) (st : Stmt) (f : Addr) (fd : FuncData) (ps : List Str) : Prop where
  ex : ∃ (oc : Value) (od : Option Addr) (dV kV doc pm : Value) (an : Option Addr) (cdv ct : Value) (osl : Array (Option Value)),
    fd = PySem.W.fnOf x x (defArgs st) (defBody st) (defScope st) dV kV doc pm an cdv ct ∧ K.lookup f = some ⟨oc, od, .func fd, osl⟩ ∧ PySem.W.codeIn K cdv x = true
  kp : PySem.W.keepIn K (.ref f) = true
  bi : Binds K fd ps []
end Vl

set_option Elab.async false
set_option linter.all false
set_option maxRecDepth 100000
set_option maxHeartbeats 4000000
namespace Vl
open PySem PySem.Spec L2
section
variable {X : Cx} {K : PySem.W.Frag} {B : Bs} {W : Wi} {σ : St} {G H : Hp} {ρ : Rho} {a b c : Expr} {pos : Pos} {fa fb fc : Rho → Rs D}
/-! x + y of texts -/
/-! a sign of a text -/
/-! max -/
/-! join -/
end
/-! a comprehension over range(m, n) -/
section
variable {X : Cx} {B : Bs} {W : Wi}
end
end Vl

set_option Elab.async false
set_option linter.all false
set_option maxRecDepth 100000
set_option maxHeartbeats 4000000
/-! a dict as its entries lie, gone through by its keys, whatever they are -/
namespace Dk
open PySem PySem.Spec
section
variable {prog : Program} {w : World} {A : Around} {E : Value → Shared → Prop} {s : Shared} {d it : Addr} {es : Array DictEntry} {ep : Nat}
end
end Dk

set_option Elab.async false
set_option linter.all false
set_option maxRecDepth 100000
set_option maxHeartbeats 4000000
namespace Vl
open PySem PySem.Spec L2 So Tb
section
variable {X : Cx} {B : Bs} {W : Wi} {K : PySem.W.Frag}
/-! ### sorted(d), d a dict of one's own -/
end
end Vl

set_option Elab.async false
set_option linter.all false
set_option maxRecDepth 100000
set_option maxHeartbeats 4000000
/-! zip of two rows, lists or tuples, by what each of the two iterators gives -/
namespace Zp
open PySem PySem.Spec
section
variable {prog : Program} {w : World} {A : Around} {E : Value → Shared → Prop} {s : Shared}
end
/-- the things of a zip of two are apart -/
structure Ap (z TI TO i1 i2 : Addr) (f1 f2 : List Addr) : Prop where
  zTI : TI ≠ z
  zTO : TO ≠ z
  TT : TI ≠ TO
  z1 : z ∉ f1
  z2 : z ∉ f2
  o1 : TO ∉ f1
  o2 : TO ∉ f2
  t1 : TI ∉ f1
  t2 : TI ∉ f2
  m1 : i1 ∈ f1
  m2 : i2 ∈ f2
  c1 : i2 ∉ f1
  c2 : i1 ∉ f2
section
variable {prog : Program} {w : World} {A : Around} {E : Value → Shared → Prop} {s : Shared} {z TI TO i1 i2 : Addr} {f1 f2 : List Addr} {n1 n2 k : Nat} {P1 P2 : Nat → Value → Prop} {S1 S2 : Nat → Heap → Prop} {a b : Value}
end
end Zp

set_option Elab.async false
set_option linter.all false
set_option maxRecDepth 100000
set_option maxHeartbeats 4000000
namespace Zp
open PySem PySem.Spec
/-! a zip of two tuples is made -/
section
variable {prog : Program} {w : World} {A : Around} {E : Value → Shared → Prop} {s : Shared}
end
end Zp
namespace L2
open PySem PySem.Spec PyProof.Rows
section
variable {X : Cx}
end
end L2
namespace Vl
open PySem PySem.Spec L2
section
variable {X : Cx} {B : Bs} {W : Wi} {K : PySem.W.Frag} {G : Hp}
end
end Vl

set_option Elab.async false
set_option linter.all false
set_option maxRecDepth 100000
set_option maxHeartbeats 4000000
namespace Vl
open PySem PySem.Spec PySem.Calls PySem.W L2
/-! ### a def that calls itself: the first step -/
section
variable {X : Cx} {K : PySem.W.Frag} {B : Bs} {W : Wi} {σ : St} {G H : Hp} {ρ : Rho}
/-! ### x = list(e), which will change -/
/-! ### x[i] = e, x a list of one's own -/
/-! ### x.pop(e), x a list of one's own -/
/-! ### abs -/
end
end Vl

set_option Elab.async false
set_option linter.all false
set_option maxRecDepth 100000
set_option maxHeartbeats 4000000
namespace Vl
open PySem PySem.Spec L2
/-! ### max(l), min(l) of a list of ints -/
section
variable {X : Cx} {B : Bs} {W : Wi} {K : PySem.W.Frag}
end
end Vl

set_option Elab.async false
set_option linter.all false
set_option maxRecDepth 100000
set_option maxHeartbeats 4000000
namespace L2
open PySem PySem.Spec PyProof.Rows
section
variable {X : Cx}
end
end L2
namespace Vl
open PySem PySem.Spec L2
section
variable {X : Cx} {B : Bs} {W : Wi} {K : PySem.W.Frag} {G : Hp}
end
end Vl

set_option Elab.async false
set_option linter.all false
set_option maxRecDepth 100000
set_option maxHeartbeats 4000000
namespace L2
open PySem PySem.Spec PyProof.Rows
section
variable {X : Cx}
end
end L2
namespace Vl
open PySem PySem.Spec L2
section
variable {X : Cx} {B : Bs} {W : Wi} {K : PySem.W.Frag} {G : Hp}
end
end Vl

set_option Elab.async false
set_option linter.all false
set_option maxRecDepth 100000
set_option maxHeartbeats 4000000
namespace Tb
open PySem PySem.SetTable
/-! ### tables with lost slots -/
def Emp (t : SetTable) (j : Nat) : Prop := ¬ Live t j ∧ has t.dummies j = false
/-! ### rising rows as lists -/
structure Lost (t : SetTable) (L : List Ent) : Prop where
  pw : ∃ k, t.mask + 1 = 2 ^ k
  m7 : 7 ≤ t.mask
  pl : t.place = (L.map (·.1)).toArray
  so : (L.map (·.1)).Pairwise (· < ·)
  le : ∀ e ∈ L, e.1 ≤ t.mask
  dr : Rise t.dummies
  dj : ∀ e ∈ L, has t.dummies e.1 = false
  fl : t.fill ≤ t.mask
  reach : ∀ e ∈ L, ∃ s, pos t e.2.1 s = e.1 ∧ ∀ s', s' < s → ¬ Emp t (pos t e.2.1 s')
section
variable {t : SetTable} {L : List Ent}
end
end Tb

set_option Elab.async false
set_option linter.all false
set_option maxRecDepth 100000
set_option maxHeartbeats 4000000
namespace Tb
open PySem PySem.Spec PySem.SetTable
section
variable {prog : Program} {w : World} {A : Around} {E : Value → Shared → Prop} {s : Shared}
end
end Tb

set_option Elab.async false
set_option linter.all false
set_option maxRecDepth 100000
set_option maxHeartbeats 4000000
namespace Tb
open PySem PySem.Spec PySem.SetTable
section
variable {prog : Program} {w : World} {U : Addr → List Int → Prop} {A : Around} {E : Value → Shared → Prop} {s : Shared}
end
end Tb

set_option Elab.async false
set_option linter.all false
set_option maxRecDepth 100000
set_option maxHeartbeats 4000000
namespace Tb
open PySem PySem.Spec PySem.SetTable
section
variable {prog : Program} {w : World} {U : Addr → List Int → Prop} {A : Around} {E : Value → Shared → Prop} {s : Shared}
end
end Tb
namespace So
open PySem PySem.Spec PySem.W PyProof.Rows PySem.Calls PySem.SetTable Tb
section
variable {prog : Program} {w : World} {A : Around} {E : Value → Shared → Prop} {s : Shared} {U : Addr → List Int → Prop}
end
end So

set_option Elab.async false
set_option linter.all false
set_option maxRecDepth 100000
set_option maxHeartbeats 4000000
namespace Vl
open PySem PySem.Spec L2 So Tb
/-! ### sorted(s - t) -/
section
variable {X : Cx} {B : Bs} {W : Wi}
end
end Vl

set_option Elab.async false
set_option linter.all false
set_option maxRecDepth 100000
set_option maxHeartbeats 4000000
namespace Vl
open PySem PySem.Spec L2 Dk
section
variable {prog : Program} {w : World} {A : Around} {E : Value → Shared → Prop} {s : Shared}
end
section
variable {X : Cx} {B : Bs} {W : Wi}
end
end Vl

set_option Elab.async false
set_option linter.all false
set_option maxRecDepth 100000
set_option maxHeartbeats 4000000
namespace So
open PySem PySem.Spec PySem.W PyProof.Rows PySem.Calls Tb
section
variable {prog : Program} {w : World} {A : Around} {E : Value → Shared → Prop} {s : Shared}
/-! ### min(l), l a list of int tuples -/
section
variable {I S : Addr} {fp wr : List Addr} {G : Array GenState → Array GenState → Prop} {n : Nat} {P : Nat → Value → Prop} {St : Nat → Shared → Prop} {R : Result → Shared → Prop} {Kp : Heap → Prop} {bt : Nat → Nat → Bool}
def two (v : Value) (c : Nat) : Obj := { cls := .type "list", dict := none, data := .seq #[v, v] c, slots := #[] }
end
end
end So

set_option Elab.async false
set_option linter.all false
set_option maxRecDepth 100000
set_option maxHeartbeats 4000000
namespace Vl
open PySem PySem.Spec L2 So
/-! ### min(l) of a list of int tuples -/
section
variable {X : Cx} {B : Bs} {W : Wi} {K : PySem.W.Frag}
end
end Vl

set_option Elab.async false
set_option linter.all false
set_option maxRecDepth 100000
set_option maxHeartbeats 4000000
namespace Vl
open PySem PySem.Spec L2
/-! ### d.pop(k), len(d): d a dict of one's own whose keys are int tuples -/
section
variable {prog : Program} {w : World} {K : Type} [DecidableEq K] {knd : HeapKind prog w K} {A : Around} {E : Value → Shared → Prop} {s : Shared}
end
section
variable {X : Cx} {B : Bs} {W : Wi} {K : PySem.W.Frag}
end
end Vl

set_option Elab.async false
set_option linter.all false
set_option maxRecDepth 100000
set_option maxHeartbeats 4000000
namespace Zp
open PySem PySem.Spec
/-! ### a zip of a tuple and a list is made -/
section
variable {prog : Program} {w : World} {A : Around} {E : Value → Shared → Prop} {s : Shared}
end
end Zp
namespace L2
open PySem PySem.Spec PyProof.Rows
section
variable {X : Cx}
end
end L2
namespace Vl
open PySem PySem.Spec L2
section
variable {X : Cx} {B : Bs} {W : Wi} {K : PySem.W.Frag} {G : Hp}
/-! ### for over whatever a comprehension may go through -/
end
end Vl

set_option Elab.async false
set_option linter.all false
set_option maxRecDepth 100000
set_option maxHeartbeats 4000000
namespace Vl
open PySem PySem.Spec PySem.Calls PySem.W L2
end Vl
/-! ### t[lo:hi] that is the whole of t: t itself -/
namespace HT2
open PySem PySem.Spec PyProof.Rows HT
variable {prog : Program} {w : World} {A : Around} {E : Value → Shared → Prop} {s : Shared}
end HT2
namespace Vl
open PySem PySem.Spec PySem.Calls PySem.W L2
section
variable {X : Cx} {B : Bs} {W : Wi}
/-! ### rows of expressions -/
/-! ### a[lo:hi] of a tuple -/
section
variable {K : PySem.W.Frag} {σ : St} {G H : Hp} {ρ : Rho}
end
/-! ### len(x), x a list of one's own -/
end
end Vl

set_option Elab.async false
set_option linter.all false
set_option maxRecDepth 100000
set_option maxHeartbeats 4000000
namespace Vl
open PySem PySem.Spec PySem.Calls PySem.W L2 PyProof.Rows
section
variable {X : Cx} {B : Bs} {W : Wi}
/-! ### sum(x), x a list of ints -/
section
variable {K : PySem.W.Frag}
end
/-! ### x is True, x is not True: two bools -/
section
variable {K : PySem.W.Frag}
end
variable {a b : Expr} {pos : Pos} {fa fb : Rho → Rs D}
end
end Vl

set_option Elab.async false
set_option linter.all false
set_option maxRecDepth 100000
set_option maxHeartbeats 4000000
namespace Vl
open PySem PySem.Spec L2 AutoSeq1
/-! ### x.extend(e): x a list of one's own, e any list of data -/
section
variable {X : Cx} {B : Bs} {W : Wi} {K : PySem.W.Frag}
end
end Vl

set_option Elab.async false
set_option linter.all false
set_option maxRecDepth 100000
set_option maxHeartbeats 4000000
namespace Vl
open PySem PySem.Spec L2
section
variable {X : Cx} {B : Bs} {W : Wi} {K : PySem.W.Frag}
/-! x.count(e), x.index(e): bools or ints -/
variable {o e : Expr} {apos cpos : Pos} {fo fe : Rho → Rs D}
end
/-! comprehensions within comprehensions -/
end Vl

set_option Elab.async false
set_option linter.all false
set_option maxRecDepth 100000
set_option maxHeartbeats 4000000
namespace Vl
open PySem PySem.Spec PySem.Calls PySem.W L2
/-! ### a list that a def changes for its caller -/
/-- a list of one's own, or one that was lent -/
def lent : Sl → Option (List D)
  | .ow ds => some ds
  | .op ds => some ds
  | _ => none
section
variable {X : Cx} {K : PySem.W.Frag} {B : Bs} {W : Wi} {σ : St} {G H G' H' : Hp} {ρ : Rho}
/-! ### what such a def promises: the list's things and the other arguments in, a value and the list's things out -/
end
/-! ### a def that hands back a new list -/
section
variable {X : Cx} {K : PySem.W.Frag} {B : Bs} {W : Wi} {σ : St} {G H G' H' : Hp} {ρ : Rho}
end
end Vl

set_option Elab.async false
set_option linter.all false
set_option maxRecDepth 100000
set_option maxHeartbeats 4000000
namespace Vl
open PySem PySem.Spec PySem.Calls PySem.W L2
/-! ### expressions that change a lent list: they raise nothing -/
section
variable {X : Cx} {K : PySem.W.Frag} {B : Bs} {W : Wi} {σ : St} {G H G' H' : Hp} {ρ : Rho}
/-! lifted ones -/
/-! two places -/
/-! argument rows, displays, calls -/
section
variable {x : Str} {p pos : Pos} {e : Expr} {es : List Expr} {id T : String} {r : List V → Hp → VK → Prop} {g : List D → Rs D} {fs : Rho → Rs (List D × Rho)}
end
/-! operations by name -/
variable {a b : Expr} {pos : Pos} {fa fb : Rho → Rs (D × Rho)}
/-! reading a lent list -/
end
end Vl

set_option Elab.async false
set_option linter.all false
set_option maxRecDepth 100000
set_option maxHeartbeats 4000000
namespace Vl
open PySem PySem.Spec PySem.Calls PySem.W L2 So
/-! ### statements with such expressions -/
section
variable {X : Cx} {K : PySem.W.Frag} {B : Bs} {W : Wi} {σ : St} {G H G' H' : Hp} {ρ : Rho} {De : Ends}
end
end Vl

set_option Elab.async false
set_option linter.all false
set_option maxRecDepth 100000
set_option maxHeartbeats 4000000
namespace Vl
open PySem PySem.Spec PySem.Calls PySem.W L2 So
section
variable {X : Cx} {K : PySem.W.Frag} {B : Bs} {W : Wi} {σ : St} {G H G' H' : Hp} {ρ : Rho} {a b : Expr} {pos : Pos} {fa fb : Rho → Rs (D × Rho)}
/-! x == e, x != e, x a list of one's own (it stays so) -/
section
variable {x : Str} {p1 : Pos} {fb : Rho → Rs D} (j : Nat) (hu : X.A.units + 8 < cLine) (hb : SE X B W b fb) (hN : X.N[j]? = some x) (hv : Vis X.env.scope x) (hd : (x == ("__debug__" : Str)) = false) (hcd : (x == ("__classdict__" : Str)) = false)
end
end
end Vl

set_option Elab.async false
set_option linter.all false
set_option maxRecDepth 100000
set_option maxHeartbeats 4000000
namespace Vl
open PySem PySem.Spec L2 AutoSeq1
section
variable {X : Cx} {B : Bs} {W : Wi} {K : PySem.W.Frag}
/-! ### x.insert(i, e): x a list of one's own -/
/-! ### x.clear(): x a list of one's own -/
/-! ### what runs by either of two rules: for over a list or a tuple -/
end
end Vl

set_option Elab.async false
set_option linter.all false
set_option maxRecDepth 100000
set_option maxHeartbeats 4000000
namespace Vl
open PySem PySem.Spec L2
/-! ### a list of one's own that is lent to be read: frozen for the while of an expression whose worth has no list within -/
mutual
def noL : D → Bool
  | .non => true
  | .bl _ => true
  | .int _ => true
  | .str _ => true
  | .tup ds => noLs ds
  | _ => false
def noLs : List D → Bool
  | [] => true
  | d :: ds => noL d && noLs ds
end
def drp (G : Hp) (a : Addr) : Hp := fun b => if b = a then none else G b
theorem drp_ne {G : Hp} {a b : Addr} (h : b ≠ a) : drp G a b = G b := if_neg h
section
variable {X : Cx} {B : Bs} {W : Wi} {K : PySem.W.Frag} {G H : Hp} {σ : L2.St} {ρ : Rho} {a : Addr} {vs : List V}
theorem rd_drp {b : Addr} {xs : List V} (h : G a = some (.lst vs)) (r : SqT K G b xs) : SqT K (drp G a) b xs := by
  rcases r with (r | ⟨o, r⟩) | r
  · have : b ≠ a := fun z => by rw [z, h] at r; cases r
    exact .inl (.inl (by rw [drp_ne this]; exact r))
  · have : b ≠ a := fun z => by rw [z, h] at r; cases r
    exact .inl (.inr ⟨o, by rw [drp_ne this]; exact r⟩)
  · exact .inr r
mutual
theorem rep_drp (h : G a = some (.lst vs)) : ∀ {d : D} {v : V}, noL d = true → Rep K G d v → Rep K (drp G a) d v
  | .non, v, _, r => rep_non.mpr (rep_non.mp r)
  | .bl b, v, _, r => rep_bl.mpr (rep_bl.mp r)
  | .int i, v, _, r => rep_int.mpr (rep_int.mp r)
  | .str i, v, _, r => rep_str.mpr (rep_str.mp r)
  | .tup ds, v, n, r => by
    obtain ⟨b, us, e, q, rr⟩ := rep_tup.mp r
    exact rep_tup.mpr ⟨b, us, e, rd_drp h q, reps_drp h (by unfold noL at n; exact n) rr⟩
  | .lst _, v, n, r => by unfold noL at n; cases n
  | .exn _ _, v, n, r => by unfold noL at n; cases n
  | .dic _ _, v, n, r => by unfold noL at n; cases n
  | .fn _, v, n, r => by unfold noL at n; cases n
  | .obj _ _ _, v, n, r => by unfold noL at n; cases n
theorem reps_drp (h : G a = some (.lst vs)) : ∀ {ds : List D} {us : List V}, noLs ds = true → Reps K G ds us → Reps K (drp G a) ds us
  | [], us, _, r => reps_nil.mpr (reps_nil.mp r)
  | d :: ds, us, n, r => by
    obtain ⟨v, ws, e, r1, r2⟩ := reps_cons.mp r
    unfold noLs at n
    have n := Bool.and_eq_true _ _ ▸ n
    exact reps_cons.mpr ⟨v, ws, e, rep_drp h n.1 r1, reps_drp h n.2 r2⟩
end
/-! ### x[k] of a list of one's own, where k may have an effect -/
end
end Vl

set_option Elab.async false
set_option linter.all false
set_option maxRecDepth 100000
set_option maxHeartbeats 4000000
namespace Vl
open PySem PySem.Spec PySem.Calls PySem.W L2
section
variable {X : Cx} {B : Bs} {a b : Expr} {pos : Pos} {fa fb : Rho → Rs (D × Rho)}
end
end Vl

set_option Elab.async false
set_option linter.all false
set_option maxRecDepth 100000
set_option maxHeartbeats 4000000
namespace Vl
open PySem PySem.Spec PySem.Calls PySem.W L2
/-! ### readings run by simp -/
section
variable {ρ ρ1 : Rho} {d x y z : D} {f fa fb : Rho → Rs D} {g k a b : Rho → Ou} {r : Ou} {ds : List D} {fs : Rho → Rs (List D)} {c c1 c2 : Rho → Rs Bool} {t u : Bool} {i j : Nat} {α β : Type} {e : Str} {n : Int}
theorem x_ixT {m : Int} : gIx (.tup ds) (.int m) = match atI ds m with | some d => .ok d | none => .no := rfl
end
section
open So Tb
/-! shapes of pairs -/
def Pair (ks : List Int) : Prop := ∃ a b, ks = [a, b]
end
end Vl

set_option Elab.async false
set_option linter.all false
set_option maxRecDepth 100000
set_option maxHeartbeats 4000000
namespace Vl
open PySem PySem.Spec PySem.Calls PySem.W L2 So
/-! ### readings with an effect, run -/
section
variable {ρ ρ1 ρ2 : Rho} {d x y z : D} {f fa fb : Rho → Rs D} {xa xb : Rho → Rs (D × Rho)} {g k a b : Rho → Ou} {r : Ou} {ds : List D} {fs : Rho → Rs (List D)} {xs : Rho → Rs (List D × Rho)} {c c1 c2 : Rho → Rs (Bool × Rho)} {t u : Bool} {i j : Nat}
end
end Vl

set_option Elab.async false
set_option linter.all false
set_option maxRecDepth 100000
set_option maxHeartbeats 4000000
namespace Vl
open PySem PySem.Spec PySem.Calls PySem.W L2
/-! ### what the pure parts share -/
abbrev KL := List (List Int)
theorem t2 (a b : D) : gTup [a, b] = .ok (.tup [a, b]) := v_tup (by simp)
def GK (kvs : List (List Int × D)) : Prop := ∀ x ∈ kvs.map (·.1), Pair x
structure GN (kvs : List (List Int × D)) : Prop where
  pr : GK kvs
  nd : (kvs.map (·.1)).Nodup
theorem ix_tup (p : List Int) (i : Int) (j : Nat) (hi : i = j) (hj : j < p.length) : gIx (tupK p) (.int i) = .ok (.int (p.getD j 0)) := by
  subst hi
  show gIx (.tup (p.map D.int)) (.int j) = _
  rw [x_ixT]
  unfold atI ixN
  rw [if_pos (by lia), if_pos (by rw [List.length_map]; lia)]
  simp only [Int.toNat_natCast, Option.bind_some, List.getElem?_map, List.getElem?_eq_getElem hj, Option.map_some, List.getD_eq_getElem?_getD, Option.getD_some]
end Vl

set_option Elab.async false
set_option linter.all false
set_option maxRecDepth 100000
set_option maxHeartbeats 4000000
namespace Vl
open PySem PySem.Spec PySem.Calls PySem.W L2
/-! ### dicts as data -/
section
variable {X : Cx} {K : PySem.W.Frag} {B : Bs} {W : Wi} {σ : St} {G H : Hp} {ρ : Rho}
/-! a dict of one's own becomes data -/
/-! d[k] -/
/-! k in d, k not in d -/
section
variable {a b : Expr} {pos : Pos} {fa fb : Rho → Rs D}
end
/-! d.get(k, x) -/
end
end Vl

set_option Elab.async false
set_option linter.all false
set_option maxRecDepth 100000
set_option maxHeartbeats 4000000
namespace L2
open PySem PySem.Spec PyProof.Rows
/-! ### for x in reversed(a tuple) -/
section
variable {X : Cx} {tg : Expr}
end
end L2
namespace Vl
open PySem PySem.Spec L2
section
variable {X : Cx} {B : Bs} {W : Wi} {tg : Expr}
end
end Vl

set_option Elab.async false
set_option linter.all false
set_option maxRecDepth 100000
set_option maxHeartbeats 4000000
namespace Vl
open PySem PySem.Spec PySem.Calls PySem.W L2
/-! ### a lambda of the frame, called -/
section
variable {X : Cx} {pins : List (Addr × Obj)} {σ : St} {H : Hp} {s : Shared}
end
end Vl

set_option Elab.async false
set_option linter.all false
set_option maxRecDepth 100000
set_option maxHeartbeats 4000000
namespace Vl
open PySem PySem.Spec PySem.Calls PySem.W L2
/-! ### max(l, key=f, default=d): the loop -/
section
variable {X : Cx} {pins : List (Addr × Obj)} {σ : St}
end
end Vl

set_option Elab.async false
set_option linter.all false
set_option maxRecDepth 100000
set_option maxHeartbeats 4000000
namespace Vl
open PySem PySem.Spec PySem.Calls PySem.W L2
section
variable {X : Cx} {pins : List (Addr × Obj)} {σ : St}
end
end Vl

set_option Elab.async false
set_option linter.all false
set_option maxRecDepth 100000
set_option maxHeartbeats 4000000
namespace Vl
open PySem PySem.Spec PySem.Calls PySem.W L2
/-! ### a lambda is made -/
section
variable {X : Cx} {pins : List (Addr × Obj)} {σ : St} {H : Hp} {s : Shared}
/-- what a lambda made leaves -/
structure Made (X : Cx) (pins : List (Addr × Obj)) (σ : St) (H : Hp) (P : Addr) (q : Str) (params : Arguments) (body : Expr) (sc : Scope) (f c' : Addr) (pm ctv : Value) (H' : Hp) (s' : Shared) : Prop where
  inv : Inv X pins σ H' s'
  hs : H' = H ∨ ∃ a, H a = none ∧ H' = upd H a (.cod q)
  cod : H' c' = some (.cod q)
  obj : s'.heap.get? f = some (kla_obj "<lambda>" q params body sc (clOf sc X.env) pm c' ctv)
  fn : H' f = none
  ff : f ∉ frs X.stack
end
end Vl

set_option Elab.async false
set_option linter.all false
set_option maxRecDepth 100000
set_option maxHeartbeats 4000000
namespace Vl
open PySem PySem.Spec PySem.Calls PySem.W L2
/-! ### the head of a law whose defs make lambdas -/
end Vl

set_option Elab.async false
set_option linter.all false
set_option maxRecDepth 100000
set_option maxHeartbeats 4000000
namespace Vl
open PySem PySem.Spec PySem.Calls PySem.W L2
/-! ### max(a, key=lambda p: .., default=..) -/
section
variable {X : Cx} {B : Bs} {W : Wi} {K : PySem.W.Frag}
end
end Vl

set_option Elab.async false
set_option linter.all false
set_option maxRecDepth 100000
set_option maxHeartbeats 4000000
namespace Dk
open PySem PySem.Spec
section
variable {prog : Program} {w : World} {A : Around} {E : Value → Shared → Prop} {s : Shared} {es : Array DictEntry} {ep : Nat} {D : Addr}
end
end Dk
namespace Vl
open PySem PySem.Spec PySem.Calls PySem.W L2
section
variable {X : Cx} {B : Bs} {W : Wi} {K : PySem.W.Frag}
/-! ### list(d), d a dict as data -/
end
end Vl

set_option Elab.async false
set_option linter.all false
set_option maxRecDepth 100000
set_option maxHeartbeats 4000000
namespace Vl
open PySem PySem.Spec PySem.Calls PySem.W L2
/-- a def whose last row makes a lambda: its code's place c, the table P there, what the lambda is called -/
structure FunL (K : PySem.W.Frag) (x : Str) (st : Stmt) (f : Addr) (fd : FuncData) (c P : Addr) (q : Str) : Prop where
  ex : ∃ (oc : Value) (od : Option Addr) (kV doc pm : Value) (an : Option Addr) (ct : Value) (osl : Array (Option Value)),
    fd = PySem.W.fnOf x x (defArgs st) (defBody st) (defScope st) .none kV doc pm an (.ref c) ct ∧ K.lookup f = some ⟨oc, od, .func fd, osl⟩ ∧ PySem.W.codeIn K (.ref c) x = true
  kp : PySem.W.keepIn K (.ref f) = true
  hd : codeHdIn K c P = true
  mem : (P, q) ∈ lamT K
section
variable {P : Program} {w : World} {K : PySem.W.Frag} {mg : Str → Option Value} {base : Heap}
end
end Vl

set_option Elab.async false
set_option linter.all false
set_option maxRecDepth 100000
set_option maxHeartbeats 4000000
namespace Vl
open PySem PySem.Spec L2 So Tb
/-! ### turns of pairs, and rows of pairs sorted -/
def turnK (t : Int) (ks : List Int) : List Int :=
  let r := ks.getD 0 0; let c := ks.getD 1 0
  if t = 0 then [r, c] else if t = 1 then [c, -r] else if t = 2 then [-r, -c] else if t = 3 then [-c, r] else if t = 4 then [r, -c] else if t = 5 then [-c, -r] else if t = 6 then [-r, c] else [c, r]
/-- a turned row -/
def turned (t : Int) (l : List (List Int)) : List (List Int) := sortK (l.map (turnK t))
end Vl

set_option Elab.async false
set_option linter.all false
set_option maxRecDepth 100000
set_option maxHeartbeats 4000000
namespace Vl
open PySem PySem.Spec PySem.Calls PySem.W L2 So Tb
/-! ### pairs in order; runs -/
abbrev c0 (a : List Int) : Int := a.getD 0 0
abbrev c1 (a : List Int) : Int := a.getD 1 0
def ltP (a b : List Int) : Prop := c0 a < c0 b ∨ (c0 a = c0 b ∧ c1 a < c1 b)
/-- rising, of pairs -/
structure Asc (L : KL) : Prop where
  pr : ∀ x ∈ L, Pair x
  pw : L.Pairwise ltP
/-- j strides on -/
def go (st c : List Int) (j : Nat) : List Int := [c0 c + j * c0 st, c1 c + j * c1 st]
/-- a stride leads on -/
def Up (st : List Int) : Prop := ltP [0, 0] st
end Vl

set_option Elab.async false
set_option linter.all false
set_option maxRecDepth 100000
set_option maxHeartbeats 4000000
namespace Vl
open PySem PySem.Spec PySem.Calls PySem.W L2
end Vl

set_option Elab.async false
set_option linter.all false
set_option maxRecDepth 100000
set_option maxHeartbeats 4000000
namespace L2
open PySem PySem.Spec PyProof.Rows Vl
/-! ### a dict as data gone through by its keys -/
section
variable {X : Cx} {tg : Expr}
end
end L2
namespace Vl
open PySem PySem.Spec L2 So Tb
section
variable {X : Cx} {B : Bs} {W : Wi} {tg : Expr} {K : PySem.W.Frag}
/-! sorted(e), e a dict as data -/
end
end Vl

set_option Elab.async false
set_option linter.all false
set_option maxRecDepth 100000
set_option maxHeartbeats 4000000
namespace Vl
open PySem PySem.Spec PySem.Calls PySem.W L2 So
/-! loops, with what is done so far -/
/-- the pairs that a dict holds so far -/
structure Km (kvs : List (List Int × D)) (n : Nat) (M : List Int → Prop) : Prop where
  gn : GN kvs
  le : kvs.length ≤ n
  iff : ∀ k, k ∈ kvs.map (·.1) ↔ M k
end Vl

set_option Elab.async false
set_option linter.all false
set_option maxRecDepth 100000
set_option maxHeartbeats 4000000
namespace Vl
open PySem PySem.Spec PySem.Calls PySem.W L2
/-! ### defs in few words -/
def scB (N P : List Str) (sc : Scope) : Bool := decide (sc.kind = .function) && !sc.isCoroutine && !sc.isGenerator && decide N.Nodup && decide (N.take P.length = P) && P.all (fun x => sc.names.lookup x == some .local || sc.names.lookup x == some .cell) && sc.names.all (fun y => y.2 != .free)
theorem scp {N P : List Str} {sc : Scope} (h : scB N P sc = true) : FnScope N P sc := by
  unfold scB at h
  simp only [Bool.and_eq_true, decide_eq_true_eq, List.all_eq_true, bne_iff_ne, Bool.or_eq_true, beq_iff_eq, ne_eq, Bool.not_eq_true'] at h
  obtain ⟨⟨⟨⟨⟨⟨h1, h2⟩, h3⟩, h4⟩, h5⟩, h6⟩, h7⟩ := h
  exact ⟨h1, h2, h3, h4, h5, h6, h7⟩
section
variable {P : Program} {w : World} {K : Frag} {mg : Str → Option Value} {base : Heap} {x : Str} {st : Stmt} {N ps : List Str} {k n : Nat} {g : Rho → Ou}
abbrev Ent (K : Frag) (mg : Str → Option Value) (x : Str) (st : Stmt) : Prop := ∃ f fd, Fun K x x st f fd ∧ mg x = some (.ref f)
def Dn (K : Frag) (x : Str) (st : Stmt) : Prop := ∃ (f : Addr) (oc : Value) (od : Option Addr) (sl : Array (Option Value)) (kV dc pm : Value) (an : Option Addr) (cd ct : Value),
  nsIn K mainGlobals x = some (some (.ref f)) ∧ K.lookup f = some ⟨oc, od, .func (fnOf x x (defArgs st) (defBody st) (defScope st) .none kV dc pm an cd ct), sl⟩ ∧ codeIn K cd x = true ∧ keepIn K (.ref f) = true
theorem Dn.ent {h : Heap} (a : Dn K x st) (X : K.In h) (G : h.Ns mainGlobals mg) : Ent K mg x st := by
  obtain ⟨f, oc, od, sl, kV, dc, pm, an, cd, ct, a, l, d, k⟩ := a
  exact ⟨f, _, fun_mk (st := st) l d k, mg_of X G a⟩
abbrev Hb (P : Program) (w : World) (K : Frag) (mg : Str → Option Value) (base : Heap) (N : List Str) (x : Str) (st : Stmt) (k : Nat) (g : Rho → Ou) : Prop :=
  ∀ (f : Addr) (cdv : Value) (A : Around) (outer : List Env) (s : Shared) (H : Hp) (E : XK) (B : Bs), Room k (A.deeper (PyProof.Rows.envOfC x (defScope st) s.heap.objs.size f cdv)) →
    PassC (cxOf (CXv P w K) P w K mg base N x (defScope st) f cdv A outer s H E) (fun c n _ H' => E (enc c n) none H') →
    SSs (cxOf (CXv P w K) P w K mg base N x (defScope st) f cdv A outer s H E) B (fun c n _ H' => E (enc c n) none H') (defBody st) g
abbrev Bi (x : Str) (st : Stmt) (ps : List Str) : Prop := ∀ (kV doc pm : Value) (an : Option Addr) (cdv ct : Value) (us : List Value), us.length = ps.length → bindArgs (fnOf x x (defArgs st) (defBody st) (defScope st) .none kV doc pm an cdv ct) ⟨us, []⟩ = pure (ps.zip us)
theorem okd_o (F : Ent K mg x st) (S : FnScope N ps (defScope st)) (hb : Hb P w K mg base N x st k g) (hbi : Bi x st ps := by intro _ _ _ _ _ _ us hl; rcases us with _ | ⟨_, _ | ⟨_, _ | ⟨_, _ | ⟨_, _ | ⟨_, us⟩⟩⟩⟩⟩ <;> first | rfl | (simp only [List.length_cons, List.length_nil] at hl; lia)) :
    Okd P w K mg base x (k + 1) ps.length (fun ds => fin (g (startR N ds))) := let ⟨f, _, F, hm⟩ := F; okd_of F hm S hbi (hb f)
end
end Vl

set_option Elab.async false
set_option linter.all false
namespace Vl
open PySem PySem.Spec PySem.Calls PySem.W L2
theorem Dn.mk {K : Frag} {x : Str} {st : Stmt} {f : Addr} {oc : Value} {od : Option Addr} {sl : Array (Option Value)} {kV dc pm : Value} {an : Option Addr} {cd ct : Value} (a : nsIn K mainGlobals x = some (some (.ref f))) (b : K.lookup f = some ⟨oc, od, .func (fnOf x x (defArgs st) (defBody st) (defScope st) .none kV dc pm an cd ct), sl⟩) (c : codeIn K cd x = true) (d : keepIn K (.ref f) = true) : Dn K x st := ⟨f, oc, od, sl, kV, dc, pm, an, cd, ct, a, b, c, d⟩
end Vl

set_option Elab.async false
set_option linter.all false
set_option maxRecDepth 100000
set_option maxHeartbeats 4000000
namespace Vl
open PySem PySem.Spec L2 So Tb
section
variable {X : Cx} {B : Bs} {W : Wi} {K : PySem.W.Frag}
/-! a list or a tuple gone through -/
/-! x = sorted(e), which will change; e a dict as data, or a list of int tuples -/
end
end Vl

set_option Elab.async false
set_option linter.all false
set_option maxRecDepth 100000
set_option maxHeartbeats 4000000
namespace Vl
open PySem PySem.Spec PySem.Calls PySem.W L2
/-! ### own classes of exceptions with an __init__ of their own -/
/-- the class object, as it lies; its __init__ is the def at f -/
def xnIn (K : Frag) (C f : Addr) (bmB : List Value) (newId : String) : Bool := match K.lookup C with
  | some ⟨.type "type", _, .cls cd, sl⟩ => (match cd.mro, sl.toList with
    | .ref D :: bm, [_, _, _, _, some (.builtin n), _] => D == C && (n == newId && (!cd.hasDel && (tailIn K bmB bm && (nsOkIn K cd.ns && nsIn K cd.ns "__init__" == some (some (.ref f))))))
    | _, _ => false)
  | _ => false
theorem ns_has {K : Frag} {h : Heap} {N : Addr} {mN : Str → Option Value} {n : Str} {v : Value} (Z : K.In h) (G : h.Ns N mN) (e : nsIn K N n = some (some v)) : mN n = some v := by
  obtain ⟨o, es, ep, ho, hd, _, hf⟩ := G
  unfold nsIn at e
  split at e
  · rename_i q
    have z := Z _ _ q
    rw [ho] at z
    cases z
    cases hd
    split at e
    · rename_i z; cases e; rw [← hf]; unfold nsFind findBy; rw [← Array.find?_toList, z]; rfl
    · split at e <;> cases e
  · cases e
theorem xn_obj {K : Frag} {h : Heap} {C f : Addr} {bmB : List Value} {newId : String} (Z : K.In h) (q : xnIn K C f bmB newId = true) :
    ∃ bm N nm qn bs hd sn sub ab col dd k0 k1 k2 k3 k5 mN, h.get? C = some (excClassObj nm qn C N bs bm hd sn sub ab col dd k0 k1 k2 k3 k5 newId) ∧ h.Ns N mN ∧ mN "__init__" = some (.ref f) ∧ OwnTail h bmB bm := by
  unfold xnIn at q
  split at q
  next dd cl sl ho =>
    split at q
    next D tl a0 a1 a2 a3 nw a5 hmro hsl =>
      simp only [Bool.and_eq_true, Bool.not_eq_true', beq_iff_eq] at q
      obtain ⟨q1, q2, q3, q4, q5, q6⟩ := q
      subst q1 q2
      obtain ⟨y1, y2, y3, y4, y5, y6, y7, y8, y9, y10, y11⟩ := cl
      dsimp only at hmro q3 q5 q6
      subst hmro q3
      have e : sl = #[a0, a1, a2, a3, some (.builtin nw), a5] := by
        cases sl
        exact congrArg Array.mk hsl
      rw [e] at ho
      exact ⟨tl, y4, y1, y5, y2, y6, y7, y8, y9, y10, dd, a0, a1, a2, a3, a5, _, Z _ _ ho, .of_isNs (isNs_of_in Z q5), ns_has Z (.of_isNs (isNs_of_in Z q5)) q6, tail_of_in Z q4⟩
    next => cases q
  next => cases q
section
variable {prog : Program} {w : World} {A : Around} {E : Value → Shared → Prop} {h : Heap} {g : Array GenState} {d : Drawn} {t : Nat} {os : OsState}
variable {nm q : Str} {C N : Addr} {bs bm bmB : List Value} {hdct : Bool} {sn : List Str} {sub : List Value} {ab : Bool} {col : Option Bool} {dd : Option Addr} {k0 k1 k2 k3 k5 : Option Value} {Bb Bn newId nid initId inN : String} {bmN : List Value}
theorem tcall_xn (Fn : ExcBaseFacts Bn newId inN bmN) (hBn : bmB.contains (.type Bn) = true) (FB : ExcBaseFacts Bb nid initId bmB) (T : OwnTail h bmB bm) {mN : Str → Option Value} {rest : List Value} {Q : Fin → Shared → Prop} {f : Addr}
    (hC : h.get? C = some (excClassObj nm q C N bs bm hdct sn sub ab col dd k0 k1 k2 k3 k5 newId)) (hn : h.Ns N mN) (hni : mN "__init__" = some (.ref f)) (hb : ∀ (h' : Heap) self, (∀ b o, h.get? b = some o → h'.get? b = some o) → Looks (model prog w) h' (bindSpecial (.ref f) self) (.ref f, [self])) (hrest : rest.length ≤ sizeLine)
    (hq : codeAny (model prog w) A (.call (.ref f) ⟨.ref (h.objs.size + 1) :: rest, []⟩) (fun r s' => match r with | .ok (.ret v) => v = .none ∧ Q (.done (.ret (.ref (h.objs.size + 1)))) s' | .ok _ => False | .error x => E x s')
      ⟨(h.push { cls := .type "tuple", data := .seq rest.toArray }).push { cls := .ref C, data := .fields #[.ref h.objs.size, .none, .none, .none, .bool false, .none] }, g, d, t, os⟩) :
    wpAny (model prog w) A (Builtin.«type.__call__» ⟨.ref C :: rest, []⟩) Q E ⟨h, g, d, t, os⟩ := by
  repeat (first | with_reducible refine wpAny_loadPart_at hC ?_ | with_reducible refine wpAny_madeBy_exc hC ?_ | wp_step)
  refine codeAny_call_builtin_code (Code.quiet_builtin _ Fn.quiet) (wpAny_check_new_subU Fn hBn T hC (codeAny_exc_new_subU Fn hBn FB T hC ?_ hrest))
  show wpAny _ _ _ _ _ _
  have kp : ∀ b o, h.get? b = some o → ((h.push { cls := .type "tuple", data := .seq rest.toArray }).push { cls := .ref C, data := .fields #[.ref h.objs.size, .none, .none, .none, .bool false, .none] }).get? b = some o := fun b o e => Heap.get?_push_of_some _ (Heap.get?_push_of_some _ e)
  have hC1 := kp _ _ hC
  have hn1 : ((h.push { cls := .type "tuple", data := .seq rest.toArray }).push { cls := .ref C, data := .fields #[.ref h.objs.size, .none, .none, .none, .bool false, .none] }).Ns N mN := hn.keeps kp
  have hg : ((h.push { cls := .type "tuple", data := .seq rest.toArray }).push { cls := .ref C, data := .fields #[.ref h.objs.size, .none, .none, .none, .bool false, .none] }).get? (h.objs.size + 1) = some { cls := .ref C, data := .fields #[.ref h.objs.size, .none, .none, .none, .bool false, .none] } := by heap_get
  have hcC : (Value.ref C :: bm).contains (.ref C) = true := by simp
  have T1 := T.keeps kp
  unfold isInstance
  repeat (first | with_reducible refine wpAny_loadPart_at hg ?_ | (with_reducible refine wpAny_isSubtype_exc hC1 ?_; rw [hcC]) | wp_step)
  show wpAny _ _ (typeLookup (.ref C) _) _ _ _
  refine wpAny_typeLookup_tail hC1 hn1 T1 FB.mroIs FB.init.lookup ?_
  rw [hni]
  refine wpAny_holding (wpAny_bind ((hb _ (.ref (h.objs.size + 1)) kp).at ?_))
  refine wpAny_bind (wpAny_call (codeAny_mono hq fun r s' z => ?_))
  rcases r with e | (v | _ | _ | _) <;> first | exact z | exact z.elim | skip
  obtain ⟨rfl, z⟩ := z
  refine wpAny_pure ?_
  dsimp only
  rw [if_neg (by decide)]
  exact wpAny_pure z
theorem call_xn (Fn : ExcBaseFacts Bn newId inN bmN) (hBn : bmB.contains (.type Bn) = true) (FB : ExcBaseFacts Bb nid initId bmB) (T : OwnTail h bmB bm) {mN : Str → Option Value} {rest : List Value} {Q : Value → Shared → Prop} {f : Addr}
    (hC : h.get? C = some (excClassObj nm q C N bs bm hdct sn sub ab col dd k0 k1 k2 k3 k5 newId)) (hn : h.Ns N mN) (hni : mN "__init__" = some (.ref f)) (hb : ∀ (h' : Heap) self, (∀ b o, h.get? b = some o → h'.get? b = some o) → Looks (model prog w) h' (bindSpecial (.ref f) self) (.ref f, [self])) (hrest : rest.length ≤ sizeLine)
    (hq : codeAny (model prog w) (A.under (.builtin "type.__call__" ⟨.ref C :: rest, []⟩)) (.call (.ref f) ⟨.ref (h.objs.size + 1) :: rest, []⟩)
      (fun r s' => match r with | .ok (.ret v) => v = .none ∧ Q (.ref (h.objs.size + 1)) s' | .ok _ => False | .error x => E x s')
      ⟨(h.push { cls := .type "tuple", data := .seq rest.toArray }).push { cls := .ref C, data := .fields #[.ref h.objs.size, .none, .none, .none, .bool false, .none] }, g, d, t, os⟩) :
    wpAny (model prog w) A (call (.ref C) rest) Q E ⟨h, g, d, t, os⟩ := by
  have f1 := tc_lookup
  have f2 := tc_bind (.ref C)
  have hT : (⟨h, g, d, t, os⟩ : Shared).TypeIs (.ref C) "type" := ⟨_, hC, rfl⟩
  refine wpAny_call (codeAny_of_tree ?_); show wpAny _ _ (callAny (.ref C) _) _ _ _
  repeat (any_goals (first | assumption | with_reducible refine wpAny_loadPart_at hC ?_ | wp_step))
  exact ⟨rfl, codeAny_call_builtin_at (Code.quiet_builtin _ (by decide +kernel)) entry_typeCall (wpAny_check_type_call_sub hC (tcall_xn Fn hBn FB T hC hn hni hb hrest hq))⟩
/-! ### e.f = v: the dict is made -/
def xmro (C M : Addr) : List Value := [.ref C, .ref M, .type "ValueError", .type "Exception", .type "BaseException", .type "object"]
/-- what is asked of such a class and its attribute -/
def xik (K : Frag) (C M : Addr) (nm : Str) : Bool :=
  (clsIn K C).any (fun cd => decide (cd.mro = xmro C M) && cd.hasDict) && (mroIn K C (.type "object") == some true && (mroIn K C (.type "BaseException") == some true && (findIn K (.ref C) "__setattr__" == some (some (.builtin "object.__setattr__")) && (findIn K (.ref C) nm == some none &&
    (findIn K (.ref C) "__getattribute__" == some (some (.builtin "BaseException.__getattribute__")) && findIn K (.ref C) "__getattr__" == some none)))))
structure Xik (K : Frag) (C M : Addr) (nm : Str) : Prop where
  cls : ∃ cd, clsIn K C = some cd ∧ cd.mro = xmro C M ∧ cd.hasDict = true
  ob : mroIn K C (.type "object") = some true
  be : mroIn K C (.type "BaseException") = some true
  sa : findIn K (.ref C) "__setattr__" = some (some (.builtin "object.__setattr__"))
  no : findIn K (.ref C) nm = some none
  ga : findIn K (.ref C) "__getattribute__" = some (some (.builtin "BaseException.__getattribute__"))
  gh : findIn K (.ref C) "__getattr__" = some none
theorem xik_of {K : Frag} {C M : Addr} {nm : Str} (h : xik K C M nm = true) : Xik K C M nm := by
  simp only [xik, Bool.and_eq_true, beq_iff_eq] at h
  obtain ⟨h1, h2, h3, h4, h5, h6, h7⟩ := h
  obtain ⟨cd, e1, e2⟩ := any_some h1
  simp only [Bool.and_eq_true, decide_eq_true_eq] at e2
  exact ⟨⟨cd, e1, e2⟩, h2, h3, h4, h5, h6, h7⟩
theorem any_of {α : Type} {x : Option α} {p : α → Bool} {a : α} (h : x = some a) (q : p a = true) : x.any p = true := by rw [h]; exact q
theorem refuse_x (C M : Addr) (self : Value) : refuseLoop self "__setattr__" (xmro C M) = pure () := by kernel_rfl
theorem set_x {K : Frag} {s : Shared} {x M : Addr} {f : Str} {vs : Array Value} {sl : Array (Option Value)} {v : Value} {Q : Unit → Shared → Prop} (Z : K.In s.heap) (I : Xik K C M f) (ho : s.heap.get? x = some ⟨.ref C, none, .fields vs, sl⟩)
    (k : ∀ h', h'.get? x = some ⟨.ref C, some s.heap.objs.size, .fields vs, sl⟩ → h'.Ns1 s.heap.objs.size (fun y => if y = f then some v else none) → (∀ b o, b ≠ x → s.heap.get? b = some o → h'.get? b = some o) → Q () { s with heap := h', toks := s.toks + 2 }) :
    wpAny (model prog w) A (setAttr (.ref x) f v) Q E s := by
  have J : InstAt s.heap x ⟨.ref C, none, .fields vs, sl⟩ C none := ⟨ho, rfl, rfl, True.intro⟩
  obtain ⟨cd, hcd, hmro, hhd⟩ := I.cls
  have SF := PySem.F.store_object
  have hm : Looks (model prog w) s.heap (mroOf (.ref C)) cd.mro := (looks_clsIn Z hcd).andThen .now
  refine set_plain Z J I.sa ?_
  refine codeAny_call_builtin SF.slot.plain SF.entry (@check_slot (model prog w) _ _ { s with toks := s.toks + 1 } "object.__setattr__" "object" "__setattr__" (.ref x) [.str f s.toks, v] [] _ SF.kind SF.split (J.type.andThen (looks_mroIn Z I.ob)) (SF.args (.ref x) (.str f s.toks) v) ?_)
  rw [osa_eq, refuse_eq]
  refine wpAny_bind (wpAny_bind (Looks.here (s := { s with toks := s.toks + 1 }) J.type (wpAny_bind (Looks.here (s := { s with toks := s.toks + 1 }) hm ?_))))
  rw [hmro, refuse_x]
  refine wpAny_pure (wpAny_bind (Looks.here (s := { s with toks := s.toks + 1 }) J.type (wpAny_bind (Looks.here (s := { s with toks := s.toks + 1 }) (looks_findIn Z I.no) (wpAny_bind (wpAny_pure ?_))))))
  refine wpAny_bind (wpAny_pure (wpAny_bind (wpAny_bind (wpAny_loadPart ho (wpAny_bind (Looks.here (s := { s with toks := s.toks + 1 }) (looks_clsIn Z hcd) ?_))))))
  rw [hhd]
  refine wpAny_bind (wpAny_alloc (wpAny_bind ?_))
  have e1 := Heap.get?_push_of_some (h := s.heap) { cls := .type "dict", data := .dict #[] } ho
  have ne : s.heap.objs.size ≠ x := Nat.ne_of_gt (Heap.lt_size ho)
  refine wpAny_update e1 (wpAny_pure ?_)
  generalize hh2 : (s.heap.push { cls := .type "dict", data := .dict #[] }).update x (fun o => { o with dict := some s.heap.objs.size }) = h2
  have e2 : h2.get? x = some ⟨.ref C, some s.heap.objs.size, .fields vs, sl⟩ := by rw [← hh2]; exact Heap.get?_update_self _ e1 rfl
  have e3 : ∀ b o, b ≠ x → s.heap.get? b = some o → h2.get? b = some o := fun b o z q => by
    rw [← hh2, Heap.get?_update_other _ _ (Ne.symm z)]; exact Heap.get?_push_of_some _ q
  have e4 : h2.get? s.heap.objs.size = some { cls := .type "dict", data := .dict #[] } := by
    rw [← hh2, Heap.get?_update_other _ _ (Ne.symm ne)]; exact Heap.get?_push_size s.heap rfl
  have e5 : h2.Ns1 s.heap.objs.size (fun _ => none) := Heap.Ns1.of_empty ⟨_, #[], _, e4, rfl, fun e he => absurd he (by simp), fun _ => rfl⟩
  refine wpAny_bind (wpAny_pure (wpAny_bind (wpAny_nsSet1 (s := { s with heap := h2, toks := s.toks + 1 }) e5 fun h' n1 sb => ?_)))
  obtain ⟨oD, esD, epD, hoD, hdD, hcD⟩ := n1.count (PySem.Within.cons f v (ns := []) fun y hy => absurd rfl hy)
  refine wpAny_bind (wpAny_lookBehind hoD (by rw [hdD]; exact pastItsLine_dict (Nat.le_trans hcD (by rw [sizeLine_eq]; exact (by decide : 1 ≤ 16777216 + 1)))) ?_)
  exact wpAny_pure (k h' ((sb.2 x (Ne.symm ne)).trans e2) n1 fun b o z q => (sb.2 b fun w => by subst w; exact absurd (Heap.lt_size q) (Nat.lt_irrefl _)).trans (e3 b o z q))
/-! ### e.f -/
theorem xga {K : Frag} {s : Shared} {x dx M : Addr} {f : Str} {o : Obj} {vs : Array Value} {mA : Str → Option Value} {v : Value} {tk : Tok} {R : Result → Shared → Prop} (Z : K.In s.heap) (I : Xik K C M f) (ho : s.heap.get? x = some o) (hc : o.cls = .ref C) (hd : o.data = .fields vs) (hx : o.dict = some dx)
    (hn : s.heap.Ns1 dx mA) (hv : mA f = some v) (hR : R (.ok (.ret v)) s) :
    codeAny (model prog w) A (.call (.builtin "BaseException.__getattribute__") ⟨[.ref x, .str f tk], []⟩) R s := by
  obtain ⟨od, hod, hl⟩ := lookIn_ns hn
  have J : InstAt s.heap x o C (some od) := ⟨ho, hc, by unfold notCls; rw [hd], by rw [hx]; exact hod⟩
  obtain ⟨cd, hcd, hmro, hhd⟩ := I.cls
  have L1 : Looks (model prog w) s.heap (Builtin.ObjectAttr.find (.ref x) (.ref C) f) (.value v) := looks_find Z J (findObj_own (any_of hcd hhd) I.no rfl (by rw [hl, hv]))
  obtain ⟨h, g, d, t, os⟩ := s
  refine codeAny_call_builtin (by decide +kernel) F.entry_bexc_ga (exn_check Z (fun M => J.type) I.be ?_)
  unfold Builtin.«object.__getattribute__» slotArgs
  refine wpAny_bind (wpAny_pure (wpAny_bind (wpAny_pure (wpAny_bind (J.type.at (wpAny_bind (L1.at ?_)))))))
  exact wpAny_pure hR
theorem get_x {K : Frag} {s : Shared} {x dx M : Addr} {f : Str} {o : Obj} {vs : Array Value} {mA : Str → Option Value} {v : Value} {b : Bool} {Q : Value → Shared → Prop} (Z : K.In s.heap) (I : Xik K C M f) (ho : s.heap.get? x = some o) (hc : o.cls = .ref C) (hd : o.data = .fields vs) (hx : o.dict = some dx)
    (hn : s.heap.Ns1 dx mA) (hv : mA f = some v) (hv' : handedIn v = true) (hQ : Q v { s with toks := s.toks + 1 }) : wpAny (model prog w) A (getAttr (.ref x) f b) Q E s := by
  have LT : Looks (model prog w) s.heap (typeOf (.ref x)) (.ref C) := by
    have : Looks (model prog w) s.heap (typeOf (.ref x)) o.cls := (Looks.ld ho).andThen .now
    rw [hc] at this
    exact this
  unfold getAttr getAttrBy
  refine wpAny_bind (wpAny_mkText (wpAny_holding (wpAny_bind (Looks.here (s := { s with toks := s.toks + 1 }) LT (wpAny_bind (Looks.here (s := { s with toks := s.toks + 1 }) (looks_findIn Z I.ga) ?_))))))
  dsimp only
  rw [if_neg (by simp [onTheHeap])]
  unfold getAttrByItsOwn hookBefore
  rw [if_pos (by rfl)]
  refine wpAny_bind (Looks.here (s := { s with toks := s.toks + 1 }) (looks_findIn Z I.gh) (wpAny_bind (wpAny_attempt (wpAny_holding ?_))))
  unfold callGetattribute
  rw [show (b && onTheHeap (Value.builtin "BaseException.__getattribute__")) = false from Bool.and_false _, if_neg (by decide)]
  unfold boundAndCalled
  rw [show bindSpecial (.builtin "BaseException.__getattribute__") (.ref x) = pure (.builtin "BaseException.__getattribute__", [.ref x]) by first | rfl | kernel_rfl]
  exact wpAny_bind (wpAny_pure (wpAny_call (xga (s := { s with toks := s.toks + 1 }) Z I ho hc hd hx hn hv (handed_on hv' hQ))))
end
end Vl

set_option Elab.async false
set_option linter.all false
set_option maxRecDepth 100000
set_option maxHeartbeats 4000000
namespace Vl
open PySem PySem.Spec PySem.Calls PySem.W L2
/-- a record of an exception that has not been raised; its dict, if there is one -/
def XNew (e C : Addr) (dx : Option Addr) : Heap → Prop := fun h => ∃ t, h.get? e = some ⟨.ref C, dx, .fields #[.ref t, .none, .none, .none, .bool false, .none], #[]⟩
theorem XNew.ok {P : Program} {w : World} {H : Hp} {h : Heap} {e C : Addr} {dx : Option Addr} (q : XNew e C dx h) : ObjOk P w H h e (.ext (XNew e C dx)) :=
  ⟨q, let ⟨_, z⟩ := q; ⟨_, z⟩, fun _ _ ⟨t, z⟩ k => ⟨t, k _ z⟩⟩
theorem XNew.exn {h : Heap} {e C : Addr} {dx : Option Addr} (q : XNew e C dx h) : ExnAt e C dx h := let ⟨_, z⟩ := q; ⟨_, _, z, rfl, rfl, fun _ w => w⟩
theorem ExnAt.ok {P : Program} {w : World} {H : Hp} {h : Heap} {e C : Addr} {dx : Option Addr} (q : ExnAt e C dx h) : ObjOk P w H h e (.ext (ExnAt e C dx)) :=
  ⟨q, let ⟨_, _, z, _⟩ := q; ⟨_, z⟩, fun _ _ ⟨o, vs, z1, z2⟩ k => ⟨o, vs, k _ z1, z2⟩⟩
/-- what the class above must be like -/
def xbs (K : Frag) (M : Addr) : Bool := readsIn K M (.type "type") && (specialIn K (.ref M) "__getattribute__" == some (some (.builtin "type.__getattribute__")) && match findCls K (.ref M) (.type "type") "__init__" with | some (.val (.builtin "ValueError.__init__")) => true | _ => false)
theorem xbs_of {K : Frag} {M : Addr} (h : xbs K M = true) : readsIn K M (.type "type") = true ∧ specialIn K (.ref M) "__getattribute__" = some (some (.builtin "type.__getattribute__")) ∧ findCls K (.ref M) (.type "type") "__init__" = some (.val (.builtin "ValueError.__init__")) := by
  simp only [xbs, Bool.and_eq_true, beq_iff_eq] at h
  obtain ⟨h1, h2, h3⟩ := h
  refine ⟨h1, h2, ?_⟩
  split at h3
  · assumption
  · cases h3
section
variable {X : Cx} {pins : List (Addr × Obj)} {σ : St} {H : Hp} {s : Shared}
/-- an address that nothing lies at is none of the frame's -/
theorem fresh_ok (I : Inv X pins σ H s) (hex : X.ex = []) {b : Addr} (n : s.heap.get? b = none) : X.s₀.heap.get? b = none ∧ b ≠ X.env.locals ∧ (∀ x c, X.env.cells.lookup x = some c → c ≠ b) ∧ (∀ p ∈ X.pn ++ pins, p.1 ≠ b) ∧ H b = none := by
  refine ⟨?_, fun z => ?_, fun x c hc z => ?_, fun p hp z => ?_, ?_⟩
  · cases e : X.s₀.heap.get? b with
    | none => rfl
    | some o => obtain ⟨o', q⟩ := I.base.there b o e (by rw [hex]; simp); rw [n] at q; cases q
  · obtain ⟨m, ⟨o, es, ep, ho, _⟩, _⟩ := I.loc
    rw [← z, n] at ho; cases ho
  · obtain ⟨v, o, ho, _⟩ := I.cell x c hc
    rw [z, n] at ho; cases ho
  · have := (I.pin p hp).1
    rw [z, n] at this; cases this
  · cases e : H b with
    | none => rfl
    | some u => obtain ⟨o, z⟩ := objok_here (I.hok _ _ e); rw [n] at z; cases z
end
end Vl

set_option Elab.async false
set_option linter.all false
set_option maxRecDepth 100000
set_option maxHeartbeats 4000000
namespace Vl
open PySem PySem.Spec PySem.Calls PySem.W L2
section
variable {X : Cx} {pins : List (Addr × Obj)} {σ : St} {H : Hp} {s : Shared}
/-- f"text{x}", x an int -/
theorem pe_fstr {i : Nat} {x tx : Str} {j : Nat} {p1 p2 p3 pos : Pos} (hN : X.N[i]? = some x) (hv : Vis X.env.scope x) (htx : tx.length ≤ 1000) (hd : (x == ("__debug__" : Str)) = false := by decide) (hcd : (x == ("__classdict__" : Str)) = false := by decide) :
    PE X (.JoinedStr [.Constant (.str tx) j p1, .FormattedValue (.Name x p2) (-1) none p3] pos) (fun σ H Q => ∃ n, σ[i]? = some (some (.int n)) ∧ n.natAbs.log2 < 1000 ∧ ∀ y, Q (.str y) H) := by
  intro pins s σ H Q I ⟨n, hs, hn, q⟩
  refine PyProof.Rows.JoinedStr_many (PyProof.Rows.joinParts_cons (Calls.Constant_str ?_))
  have z1 : (Str.empty ++ tx).length ≤ 1000 := by rw [strLen_append]; exact Nat.le_trans (Nat.le_of_eq (Nat.zero_add _)) htx
  refine ⟨Nat.le_trans z1 (by rw [sizeLine_eq]; decide), PyProof.Rows.joinParts_cons (PyProof.Rows.FormattedValue_plain ?_)⟩
  refine thn (pe_var hN hv hd hcd (pos := p2) pins _ σ H (fun v H1 => v = .int n ∧ H1 = H) (I.tok _) ⟨_, hs, rfl, rfl⟩) fun u s1 ⟨v, H1, I1, r, e1, e2⟩ => ?_
  subst e1 e2
  obtain ⟨t, rfl⟩ := r
  refine PyProof.Rows.formatField_int_small (Nat.lt_trans hn (by decide)) ?_
  have z2 : (Str.empty ++ tx ++ Str.ofString (toString n)).length ≤ sizeLine := by
    have := int_text_length_le (a := n) (k := 1000) (by decide) hn
    rw [strLen_append, ofString_length, sizeLine_eq]; omega
  exact ⟨z2, PyProof.Rows.joinParts_nil ⟨.str _, H1, (I1.tok _).tok _ |>.tok _, ⟨_, rfl⟩, q _⟩ z2⟩
/-- B.__init__(self, f"..") -/
theorem pe_binit {i j : Nat} {x a tx : Str} {jj : Nat} {C M : Addr} {newId : String} {f : Addr} {xb : Str} {p1 p2 p3 p4 p5 p6 p7 pos : Pos} (hB : xbs X.K M = true) (q : xnIn X.K C f [.type "ValueError", .type "Exception", .type "BaseException", .type "object"] newId = true) (hg : Gl X xb) (hm : X.mg xb = some (.ref M))
    (hN : X.N[i]? = some x) (hv : Vis X.env.scope x) (hN' : X.N[j]? = some a) (hv' : Vis X.env.scope a) (htx : tx.length ≤ 1000) (hd : (x == ("__debug__" : Str)) = false := by decide) (hcd : (x == ("__classdict__" : Str)) = false := by decide) (hd' : (a == ("__debug__" : Str)) = false := by decide) (hcd' : (a == ("__classdict__" : Str)) = false := by decide) (hdb : (xb == ("__debug__" : Str)) = false := by decide)
    {pl : Sem Bool}
    (he : eval (.Call (.Attribute (.Name xb p1) "__init__" p2) [.Name x p3, .JoinedStr [.Constant (.str tx) jj p4, .FormattedValue (.Name a p5) (-1) none p6] p7] [] pos) X.env = (do
      let ov ← eval (.Name xb p1) X.env
      standAt p2.atName
      let (f, first) ← holding [ov] (getMethod ov "__init__" pl)
      callWith pos f first (backTo pos (starEach [.Name x p3, .JoinedStr [.Constant (.str tx) jj p4, .FormattedValue (.Name a p5) (-1) none p6] p7] X.env)) (backToKw pos (keywordEach [] X.env))) := by rfl)
    (hs1 : starEach [.Name x p3, .JoinedStr [.Constant (.str tx) jj p4, .FormattedValue (.Name a p5) (-1) none p6] p7] X.env = (false, eval (.Name x p3) X.env) :: starEach [.JoinedStr [.Constant (.str tx) jj p4, .FormattedValue (.Name a p5) (-1) none p6] p7] X.env := by rfl)
    (hs2 : starEach [.JoinedStr [.Constant (.str tx) jj p4, .FormattedValue (.Name a p5) (-1) none p6] p7] X.env = [(false, eval (.JoinedStr [.Constant (.str tx) jj p4, .FormattedValue (.Name a p5) (-1) none p6] p7) X.env)] := by rfl) :
    PE X (.Call (.Attribute (.Name xb p1) "__init__" p2) [.Name x p3, .JoinedStr [.Constant (.str tx) jj p4, .FormattedValue (.Name a p5) (-1) none p6] p7] [] pos)
      (fun σ H Q => ∃ e n, σ[i]? = some (some (.ref e)) ∧ σ[j]? = some (some (.int n)) ∧ n.natAbs.log2 < 1000 ∧ H e = some (.ext (XNew e C none)) ∧ Q .non H) := by
  intro pins s σ H Q I ⟨e, n, h1, h2, h3, h4, h5⟩
  obtain ⟨b1, b2, b3⟩ := xbs_of hB
  refine methodCall_KW (pl := pl) (ld_glob I hg hm ?_ hdb) he
  refine method_cls I.kIn b2 (cls_value I.kIn b1 b3 rfl ?_)
  have hA : PA X [.Name x p3, .JoinedStr [.Constant (.str tx) jj p4, .FormattedValue (.Name a p5) (-1) none p6] p7] _ := pa_cons (pe_var hN hv hd hcd) (pa_cons (pe_fstr hN' hv' htx hd' hcd') pa_nil (by rw [hs2]; rfl)) hs1
  have hA' := hA pos pins { s with toks := s.toks + 1 } σ H (fun vs H1 => ∃ y, vs = [.ref e, .str y] ∧ H1 = H) (I.tok _) ⟨_, h1, n, h2, h3, fun y => ⟨y, rfl, rfl⟩⟩
  refine Calls.callWith_builtin (by rw [hs1, hs2]; rfl) (Calls.evalArgs_plain (thn hA' fun us s1 ⟨vs, H1, I1, r, y, e1, e2⟩ => ?_))
  subst e1 e2
  obtain ⟨u1, u2, rfl, r1, r2⟩ := r.two
  cases r1
  obtain ⟨t2, rfl⟩ := r2
  obtain ⟨⟨t, ho⟩, _⟩ := (show ObjOk X.prog X.w H1 s1.heap e (.ext (XNew e C none)) from I1.hok e _ h4)
  obtain ⟨tl, N, nm, qn, bs, hdct, sn, sub, ab, col, dd, k0, k1, k2, k3, k5, mN, hC, hNs, hni, T⟩ := xn_obj I1.kIn q
  have FB := PySem.F.excBase_ValueError
  obtain ⟨hp, g, d, tk, os⟩ := s1
  refine wpAny_call (codeAny_call_builtin FB.init.plain FB.initEntry (wpAny_check_init_subU FB T hC ho rfl ?_))
  wp_walk
  show EP X pins σ Q .none _
  have e1 := Heap.get?_push_of_some (h := hp) { cls := .type "tuple", data := .seq #[Value.str y t2] } ho
  have e2 : ((hp.push { cls := .type "tuple", data := .seq #[Value.str y t2] }).update e (Obj.mapFields fun x => x.setIfInBounds 0 (Value.ref hp.objs.size))).get? e = some ⟨.ref C, none, .fields #[.ref hp.objs.size, .none, .none, .none, .bool false, .none], #[]⟩ := Heap.get?_update_self _ e1 rfl
  have I2 := I1.write (x := e) (e := e) (t' := tk) (o := .ext (XNew e C none)) (h' := (hp.push { cls := .type "tuple", data := .seq #[Value.str y t2] }).update e (Obj.mapFields fun x => x.setIfInBounds 0 (Value.ref hp.objs.size))) (by rw [h4]; trivial) (.inl rfl) (fun b u z w => by rw [Heap.get?_update_other _ _ (Ne.symm z)]; exact Heap.get?_push_of_some _ w) ⟨_, e2⟩ (XNew.ok ⟨_, e2⟩)
  have eH : upd H1 e (.ext (XNew e C none)) = H1 := funext fun b => by
    by_cases z : b = e
    · subst z; rw [upd_same, h4]
    · exact upd_ne z
  rw [eH] at I2
  exact ⟨.non, H1, I2, rfl, h5⟩
/-- self.a = a -/
theorem ps_xset {i j : Nat} {x a : Str} {C M : Addr} {p1 p2 p3 pos : Pos} (hex : X.ex = []) (hI : Xik X.K C M a) (hN : X.N[i]? = some x) (hv : Vis X.env.scope x) (hN' : X.N[j]? = some a) (hv' : Vis X.env.scope a) (hd : (x == ("__debug__" : Str)) = false := by decide) (hcd : (x == ("__classdict__" : Str)) = false := by decide) (hd' : (a == ("__debug__" : Str)) = false := by decide) (hcd' : (a == ("__classdict__" : Str)) = false := by decide)
    (hs : swapsWith (.Name a p3) (some (.Attribute (.Name x p1) a p2)) pos.line X.env = pure false := by rfl) :
    PS X (.Assign [.Attribute (.Name x p1) a p2] (.Name a p3) pos) (fun De σ H => ∃ e n, σ[i]? = some (some (.ref e)) ∧ σ[j]? = some (some (.int n)) ∧ H e = some (.ext (XNew e C none)) ∧ ∀ dx, H dx = none → De.nx σ (upd (upd H e (.ext (XNew e C (some dx)))) dx (.xd [(a, .int n)]))) := by
  intro pins s σ H De I ⟨e, n, h1, h2, h4, h5⟩
  refine plainObj_wpAny_Assign_Attribute (thn (pe_var hN' hv' hd' hcd' (pos := p3) pins s σ H (fun v H1 => v = .int n ∧ H1 = H) I ⟨_, h2, rfl, rfl⟩) fun u s1 ⟨y, H1, I1, ry, e1, e2⟩ => thn (pe_var hN hv hd hcd (pos := p1) pins s1 σ H (fun v H2 => v = .ref e ∧ H2 = H) (e2 ▸ I1) ⟨_, h1, rfl, rfl⟩) fun ov s2 ⟨z, H2, I2, rz, e3, e4⟩ => ?_) hs
  subst e1 e2 e3 e4
  obtain ⟨t1, rfl⟩ := ry
  cases rz
  obtain ⟨⟨t, ho⟩, _⟩ := (show ObjOk X.prog X.w H2 s2.heap e (.ext (XNew e C none)) from I2.hok e _ h4)
  refine set_x I2.kIn hI ho fun h' q1 q2 q3 => ?_
  have fr : s2.heap.get? s2.heap.objs.size = none := Heap.get?_none_of_le (Nat.le_refl _)
  obtain ⟨f1, f2, f3, f4, f5⟩ := fresh_ok I2 hex fr
  have ne : s2.heap.objs.size ≠ e := fun z => by rw [z, ho] at fr; cases fr
  have I3 := I2.write (x := e) (e := e) (t' := s2.toks + 2) (o := .ext (XNew e C (some s2.heap.objs.size))) (h' := h') (by rw [h4]; trivial) (.inl rfl) (fun b u z w => q3 b u z w) ⟨_, q1⟩ (XNew.ok ⟨_, q1⟩)
  refine ⟨σ, _, Inv.track (o := .xd [(a, .int n)]) I3 ⟨f1, f2, f3, f4, by rw [upd_ne ne]; exact f5⟩ ⟨_, q2, fun g => ?_⟩, h5 _ f5⟩
  show RelO (List.lookup g [(a, V.int n)]) (if g = a then some (Value.int n t1) else none)
  by_cases z : g = a
  · subst z; rw [if_pos rfl]; simp [List.lookup]; exact ⟨_, rfl⟩
  · rw [if_neg z]
    have : List.lookup g [(a, V.int n)] = none := by
      rw [List.lookup_cons]
      split
      · rename_i w; exact absurd (eq_of_beq w) z
      · rfl
    rw [this]; trivial
end
/-- what such an __init__ promises -/
def spX (C : Addr) (a : Str) : Sp := fun vs H Q E => vs.length = 2 ∧ ∃ e n, vs = [.ref e, .int n] ∧ n.natAbs.log2 < 1000 ∧ H e = some (.ext (XNew e C none)) ∧ ∀ dx, H dx = none → Q .non (upd (upd H e (.ext (XNew e C (some dx)))) dx (.xd [(a, .int n)]))
section
variable {P : Program} {w : World} {K : PySem.W.Frag} {mg : Str → Option Value} {base : Heap}
/-- def __init__(self, a): B.__init__(self, f".."); self.a = a -/
theorem fn_x {qual a tx xb : Str} {st : Stmt} {f C M : Addr} {fd : FuncData} {jj : Nat} {p1 p2 p3 p4 p5 p6 p7 p8 p9 q1 q2 q3 q4 : Pos} {newId : String} (F : Fun K "__init__" qual st f fd) (S : FnScope ["self", a] ["self", a] (defScope st))
    (hb : defBody st = [.Expr (.Call (.Attribute (.Name xb p1) "__init__" p2) [.Name "self" p3, .JoinedStr [.Constant (.str tx) jj p4, .FormattedValue (.Name a p5) (-1) none p6] p7] [] p8) p9, .Assign [.Attribute (.Name "self" q1) a q2] (.Name a q3) q4])
    (hB : xbs K M = true) (q : xnIn K C f [.type "ValueError", .type "Exception", .type "BaseException", .type "object"] newId = true) (hI : Xik K C M a) (hm : mg xb = some (.ref M)) (htx : tx.length ≤ 1000)
    (hc : ∀ (cdv : Value) (A : Around) (outer : List Env) (s : Shared) (H : Hp) (E : XK), let X := cxOf (CXv P w K) P w K mg base ["self", a] qual (defScope st) f cdv A outer s H E
      Gl X xb ∧ Vis X.env.scope "self" ∧ Vis X.env.scope a ∧ PE X (.Call (.Attribute (.Name xb p1) "__init__" p2) [.Name "self" p3, .JoinedStr [.Constant (.str tx) jj p4, .FormattedValue (.Name a p5) (-1) none p6] p7] [] p8) (fun σ H Q => ∃ e n, σ[0]? = some (some (.ref e)) ∧ σ[1]? = some (some (.int n)) ∧ n.natAbs.log2 < 1000 ∧ H e = some (.ext (XNew e C none)) ∧ Q .non H)
        ∧ swapsWith (.Call (.Attribute (.Name xb p1) "__init__" p2) [.Name "self" p3, .JoinedStr [.Constant (.str tx) jj p4, .FormattedValue (.Name a p5) (-1) none p6] p7] [] p8) none p9.line X.env = pure false ∧ swapsWith (.Name a q3) (some (.Attribute (.Name "self" q1) a q2)) q4.line X.env = pure false)
    (hd' : (a == ("__debug__" : Str)) = false := by decide) (hcd' : (a == ("__classdict__" : Str)) = false := by decide) :
    FnOk P w K mg base (CXv P w K) 1 f fd ["self", a] (spX C a) := by
  obtain ⟨oc, od, kV, doc, pm, an, cdv, ct, osl, rfl, lk, hcd⟩ := F.ex
  refine fn_of lk hcd S (fun vs H Q E h => h.1) fun A outer s H vs Q E hr _ h => ?_
  obtain ⟨_, e, n, rfl, h1, h2, h3⟩ := h
  obtain ⟨c1, c2, c3, c4, c5, c6⟩ := hc cdv A outer s H E
  rw [hb]
  refine ⟨_, pss_cons (ps_expr c4 c5) (pss_one (ps_xset (i := 0) (j := 1) rfl hI rfl c2 rfl c3 (by decide) (by decide) hd' hcd' c6)), ?_⟩
  exact ⟨e, n, rfl, rfl, h1, h2, e, n, rfl, rfl, h2, fun dx hx => h3 dx hx⟩
end
end Vl

set_option Elab.async false
set_option linter.all false
set_option maxRecDepth 100000
set_option maxHeartbeats 4000000
namespace Vl
open PySem PySem.Spec PySem.Calls PySem.W L2
abbrev bmV : List Value := [.type "ValueError", .type "Exception", .type "BaseException", .type "object"]
section
variable {X : Cx} {B : Bs} {W : Wi} {pins : List (Addr × Obj)} {σ : St} {H : Hp} {s : Shared} {C f : Addr} {fd : FuncData} {a : Str} {newId : String}
/-- C(n): the exception is made, its __init__ has run -/
theorem run_x {n : Int} {t : Tok} (q : xnIn X.K C f bmV "ValueError.__new__" = true) (hf : typeIn X.K (.ref f) = some (.type "function")) (F : FnOk X.prog X.w X.K X.mg X.base (CXv X.prog X.w X.K) 1 f fd ["self", a] (spX C a)) (hb : Binds X.K fd ["self", a] []) (hr : Room 2 X.A) (hn : n.natAbs.log2 < 1000) (I : Inv X pins σ H s) :
    wpAny (model X.prog X.w) X.A (call (.ref C) [.int n t]) (fun u s' => ∃ e dx, u = .ref e ∧ s.heap.get? e = none ∧ s.heap.get? dx = none ∧ H e = none ∧ H dx = none ∧ dx ≠ e ∧ Inv X pins σ (upd (upd H e (.ext (XNew e C (some dx)))) dx (.xd [(a, .int n)])) s') X.xe s := by
  obtain ⟨tl, N, nm, qn, bs, hdct, sn, sub, ab, col, dd, k0, k1, k2, k3, k5, mN, hC, hNs, hni, T⟩ := xn_obj I.kIn q
  obtain ⟨hp, g, d, tk, os⟩ := s
  refine call_xn PySem.F.excBase_ValueError (by decide) PySem.F.excBase_ValueError T hC hNs hni (fun h' self kp => bind_fn (I.kIn.keeps kp) self hf) (by rw [sizeLine_eq]; exact (by decide : 1 ≤ 16777216)) ?_
  have e0 : ((hp.push { cls := .type "tuple", data := .seq [Value.int n t].toArray }).push { cls := .ref C, data := .fields #[.ref hp.objs.size, .none, .none, .none, .bool false, .none] }).get? (hp.objs.size + 1) = some ⟨.ref C, none, .fields #[.ref hp.objs.size, .none, .none, .none, .bool false, .none], #[]⟩ := by heap_get
  have kp : ∀ b u, hp.get? b = some u → ((hp.push { cls := .type "tuple", data := .seq [Value.int n t].toArray }).push { cls := .ref C, data := .fields #[.ref hp.objs.size, .none, .none, .none, .bool false, .none] }).get? b = some u := fun b u z => Heap.get?_push_of_some _ (Heap.get?_push_of_some _ z)
  have he : H (hp.objs.size + 1) = none := I.hok.fresh (Nat.le_succ _)
  have I2 := I.laid (a := hp.objs.size + 1) (t' := tk) (o := .ext (XNew (hp.objs.size + 1) C none)) kp (Nat.le_succ _) (XNew.ok ⟨_, e0⟩)
  have hs : spX C a [.ref (hp.objs.size + 1), .int n] (upd H (hp.objs.size + 1) (.ext (XNew (hp.objs.size + 1) C none))) (fun v H2 => v = .non ∧ ∃ dx, H dx = none ∧ dx ≠ hp.objs.size + 1 ∧ H2 = upd (upd H (hp.objs.size + 1) (.ext (XNew (hp.objs.size + 1) C (some dx)))) dx (.xd [(a, .int n)])) (fun _ _ _ => False) := by
    refine ⟨rfl, _, n, rfl, hn, upd_same, fun dx hx => ⟨rfl, dx, ?_⟩⟩
    have ne : dx ≠ hp.objs.size + 1 := fun z => by rw [z, upd_same] at hx; cases hx
    rw [upd_ne ne] at hx
    rw [upd_upd]
    exact ⟨hx, ne, rfl⟩
  refine codeAny_mono (F.run _ X.stack _ _ ⟨[.ref (hp.objs.size + 1), .int n t], []⟩ [.ref (hp.objs.size + 1), .int n t] [.ref (hp.objs.size + 1), .int n] _ (fun _ _ _ => False) (Room.make hr C _ _) (I2.env0.make C _ _) (by have := hb _ [.ref (hp.objs.size + 1), .int n t] I2.kIn rfl; rwa [List.append_nil] at this) (.cons rfl (.cons ⟨_, rfl⟩ .nil)) hs) fun r s' hq' => ?_
  cases r with
  | error e => obtain ⟨_, _, _, _, _, _, _, _, _, _, z⟩ := hq'; exact z.elim
  | ok fl =>
    cases fl with
    | ret u =>
      obtain ⟨v, H', os1, bare1, un1, hok1, rv, ev, dx, hx, ne, eH⟩ := hq'
      obtain ⟨hh, g', d', t', os'⟩ := s'
      obtain rfl : os' = os := os1
      subst ev eH
      refine ⟨rv, hp.objs.size + 1, dx, rfl, Heap.get?_none_of_le (Nat.le_succ _), ?_, he, hx, ne, I2.call (h' := hh) (g' := g') (d' := d') (t' := t') (ch := []) un1 hok1 bare1 (fun b z => absurd z (by simp))⟩
      cases z : hp.get? dx with
      | none => rfl
      | some o =>
        have w := un1.free dx o (kp _ _ z) (by rw [upd_ne ne]; exact hx) (by simp)
        rw [upd_same] at w; cases w
    | next => exact False.elim hq'
    | brk => exact False.elim hq'
    | cont => exact False.elim hq'
/-! ### C(n) as a value -/
def gMkx (x : Str) : List D → Rs D
  | [.int n] => if n.natAbs.log2 < 1000 then .ok (.exn x (2 * n + 1)) else .no
  | _ => .no
theorem ext_two {G H : Hp} (gh : Same G H) (tp : ∀ a xs, H a = some (.tup xs) → G a = some (.tup xs)) {e dx : Addr} {φ : Heap → Prop} {fs : List (Str × V)} (he : H e = none) (hd : H dx = none) (ne : dx ≠ e) : Ext G H (upd (upd G e (.ext φ)) dx (.xd fs)) (upd (upd H e (.ext φ)) dx (.xd fs)) := by
  have x1 : Ext G H (upd G e (.ext φ)) (upd H e (.ext φ)) := ext_exn gh tp he
  have hd' : upd H e (.ext φ) dx = none := by rw [upd_ne ne]; exact hd
  refine x1.trans ⟨fun b o z => ?_, fun b o z => ?_, fun b o z => ?_, fun b ys z => ?_, fun b o z n => ?_⟩
  · rw [upd_ne (ne_of_none (x1.gh _ _ z) hd')]; exact z
  · rw [upd_ne (ne_of_none z hd')]; exact z
  · by_cases q : b = dx
    · subst q; rw [upd_same] at z ⊢; exact z
    · rw [upd_ne q] at z ⊢; exact x1.gh _ _ z
  · by_cases q : b = dx
    · subst q; rw [upd_same] at z; cases z
    · rw [upd_ne q] at z ⊢; exact x1.tp _ _ z
  · rw [upd_ne (ne_of_none z hd')]; exact n
theorem se_mkx {x : Str} {p pos : Pos} {e : Expr} {fe : Rho → Rs D} (ha' : attrOf x = a) (hg : Gl X x) (hm : X.mg x = some (.ref C)) (hns : nsIn X.K mainGlobals x = some (some (.ref C))) (q : xnIn X.K C f bmV "ValueError.__new__" = true) (hf : typeIn X.K (.ref f) = some (.type "function")) (hkp : keepIn X.K (.ref C) = true)
    (F : FnOk X.prog X.w X.K X.mg X.base (CXv X.prog X.w X.K) 1 f fd ["self", a] (spX C a)) (hb : Binds X.K fd ["self", a] []) (hr : Room 2 X.A) (ha : SE X B W e fe) (hdb : (x == ("__debug__" : Str)) = false := by decide) (he : starEach [e] X.env = [(false, eval e X.env)] := by rfl) :
    SE X B W (.Call (.Name x p) [e] [] pos) (fA (fCons fe fNil) (gMkx x)) := by
  intro pins s σ H Q I ⟨ρ, G, sr, p⟩
  refine wpAny_Call_Name_kw (ld_glob I hg hm ?_ hdb)
  have h2 : tAF X.K B W (fCons fe fNil) σ H fun vs H1 => ∃ n G1, vs = [.int n] ∧ n.natAbs.log2 < 1000 ∧ SR X.K B σ H1 ρ G1 ∧ Post X.K W σ G1 H1 (.ok (.exn x (2 * n + 1))) Q := by
    refine ⟨ρ, G, sr, ?_⟩
    unfold fA at p
    cases e1 : fCons fe fNil ρ with
    | ex c n => rw [e1] at p; exact p
    | no => rw [e1] at p; exact p
    | ok ds =>
      rw [e1] at p
      intro vs H1 G1 y r
      have p := Post.ext y p
      dsimp only [Rs.bind] at p
      unfold gMkx at p
      split at p
      · rename_i n _
        by_cases hl : n.natAbs.log2 < 1000
        · rw [if_pos hl] at p
          obtain ⟨v, vs', rfl, r1, r2⟩ := reps_cons.mp r
          rw [reps_nil.mp r2, rep_int.mp r1]
          exact ⟨n, G1, rfl, hl, sr.ext y, p⟩
        · rw [if_neg hl] at p; exact p.elim
      · exact p.elim
  have hA : SA X B W [e] (fCons fe fNil) := sa_cons ha sa_nil he
  refine callWith_K (h₀ := X.base) I.ok.mod.kin hkp (thn (hA pos pins s σ H _ I h2) fun us s1 ⟨vs, H1, I1, r, n, G1, e1, hn, sr1, p1⟩ => ⟨I1.kIn, ?_⟩) he rfl
  subst e1
  obtain ⟨u, rfl, ru⟩ := r.one
  obtain ⟨t, rfl⟩ := ru
  refine wpAny_mono (run_x (a := a) q hf F hb hr hn I1) (fun u s2 ⟨ea, dx, e1, _, _, h1, h2, h3, I2⟩ => ?_) fun _ _ z => z
  subst e1
  have hh : upd (upd H1 ea (.ext (XNew ea C (some dx)))) dx (.xd [(a, .int n)]) ea = some (.ext (XNew ea C (some dx))) := by rw [upd_ne (Ne.symm h3), upd_same]
  obtain ⟨z1, ⟨o, z2⟩, _⟩ := (show ObjOk X.prog X.w _ s2.heap ea (.ext (XNew ea C (some dx))) from I2.hok ea _ hh)
  have I3 := I2.write (x := ea) (e := ea) (t' := s2.toks) (h' := s2.heap) (o := .ext (ExnAt ea C (some dx))) (by rw [hh]; trivial) (.inl rfl) (fun _ _ _ z => z) ⟨o, z2⟩ z1.exn.ok
  have eH : upd (upd (upd H1 ea (.ext (XNew ea C (some dx)))) dx (.xd [(a, .int n)])) ea (.ext (ExnAt ea C (some dx))) = upd (upd H1 ea (.ext (ExnAt ea C (some dx)))) dx (.xd [(a, .int n)]) := funext fun b => by
    by_cases w1 : b = ea
    · subst w1; rw [upd_same, upd_ne (Ne.symm h3), upd_same]
    · rw [upd_ne w1]
      by_cases w2 : b = dx
      · subst w2; rw [upd_same, upd_same]
      · rw [upd_ne w2, upd_ne w2, upd_ne w1, upd_ne w1]
  rw [eH] at I3
  have y := ext_two (φ := ExnAt ea C (some dx)) (fs := [(a, .int n)]) sr1.en.gh sr1.en.tp h1 h2 h3
  exact ⟨.ref ea, _, I3, rfl, p1 _ _ _ y (rep_exn.mpr ⟨ea, C, some dx, rfl, hns, by rw [upd_ne (Ne.symm h3), upd_same], .inr ⟨dx, n, rfl, rfl, by rw [ha', upd_same]⟩⟩)⟩
end
end Vl

set_option Elab.async false
set_option linter.all false
set_option maxRecDepth 100000
set_option maxHeartbeats 4000000
namespace Vl
open PySem PySem.Spec PySem.Calls PySem.W L2
section
variable {M : Model} {A : Around} {E : Value → Shared → Prop} {env : Env}
variable {nm q : Str} {C N : Addr} {bs bm : List Value} {hdct : Bool} {sn : List Str} {sub : List Value} {ab : Bool} {col : Option Bool} {dd : Option Addr} {k0 k1 k2 k3 k5 : Option Value} {newId : String}
end
section
variable {X : Cx} {B : Bs} {W : Wi} {C f : Addr} {fd : FuncData} {a : Str}
end
end Vl

set_option Elab.async false
set_option linter.all false
set_option maxRecDepth 100000
set_option maxHeartbeats 4000000
namespace Vl
open PySem PySem.Spec PySem.Calls PySem.W L2
section
variable {X : Cx} {B : Bs} {W : Wi}
/-! ### e.f of an exception -/
def gXat (x : Str) : D → Rs D
  | .exn c n => if c = x ∧ n % 2 = 1 then .ok (.int (n / 2)) else .no
  | _ => .no
theorem pe_xat {f : Str} {e : Expr} {pos : Pos} {ta : TE} {C M : Addr} (hI : Xik X.K C M f) (he : PE X e ta) (hb : attributeBase e f X.env (eval e X.env) = eval e X.env) :
    PE X (.Attribute e f pos) (fun σ H Q => ta σ H fun v H1 => ∃ a n dx, v = .ref a ∧ H1 a = some (.ext (ExnAt a C (some dx))) ∧ H1 dx = some (.xd [(f, .int n)]) ∧ Q (.int n) H1) := by
  intro pins s σ H Q I h
  refine attr_of hb (thn (he pins s σ H _ I h) fun u s1 ⟨x, H1, I1, rx, a, n, dx, ex, h1, h2, q⟩ => ?_)
  subst ex
  cases rx
  obtain ⟨⟨o, vs, z1, z2, z3, z4⟩, _⟩ := (show ObjOk X.prog X.w H1 s1.heap a (.ext (ExnAt a C (some dx))) from I1.hok a _ h1)
  obtain ⟨mA, z5, z6⟩ := (show ObjOk X.prog X.w H1 s1.heap dx (.xd [(f, .int n)]) from I1.hok dx _ h2)
  obtain ⟨u, hu, ru⟩ := RelO.some_of (v := V.int n) (o := mA f) (by have := z6 f; rwa [show List.lookup f [(f, V.int n)] = some (V.int n) by simp [List.lookup]] at this)
  obtain ⟨t, rfl⟩ := ru
  exact get_x I1.kIn hI z1 z2 z3 (z4 _ rfl) z5 hu rfl ⟨.int n, H1, I1.tok _, ⟨_, rfl⟩, q⟩
theorem re_xat {x f : Str} {e : Expr} {pos : Pos} {fe : Rho → Rs D} {C M : Addr} (hns : nsIn X.K mainGlobals x = some (some (.ref C))) (hI : Xik X.K C M f) (ha : attrOf x = f) (he : SE X B W e fe) (hb : attributeBase e f X.env (eval e X.env) = eval e X.env := by rfl) :
    SE X B W (.Attribute e f pos) (fB fe (gXat x)) := by
  refine PE.imp (pe_xat hI he hb) fun σ H Q h => ?_
  obtain ⟨ρ, G, s, p⟩ := tF_bind (k := fun _ => gXat x) h
  refine ⟨ρ, G, s, p.mono fun v H1 ⟨ρ1, G1, d, s1, r, q⟩ => ?_⟩
  cases d with
  | exn c n =>
    unfold gXat at q; dsimp only at q
    by_cases hc : c = x ∧ n % 2 = 1
    · rw [if_pos hc] at q
      obtain ⟨rfl, hn⟩ := hc
      obtain ⟨a, C', dx, e1, e2, e3, e4⟩ := rep_exn.mp r
      rw [hns] at e2; cases e2
      rcases e4 with e4 | ⟨d, i, e4, e5, e6⟩
      · omega
      · subst e1 e5
        rw [ha] at e6
        have : n / 2 = i := by omega
        rw [this] at q
        exact ⟨a, i, d, rfl, s1.en.gh _ _ e3, s1.en.gh _ _ e6, Post.ok s1 q (rep_int.mpr rfl)⟩
    · rw [if_neg hc] at q; exact q.elim
  | _ => exact q.elim
/-! ### C(e), C an own class without __init__ -/
def gMk0 (x : Str) : List D → Rs D
  | [_] => .ok (.exn x 0)
  | _ => .no
theorem se_mk0 {x : Str} {p pos : Pos} {e : Expr} {fe : Rho → Rs D} {C : Addr} (hex : X.ex = []) (hg : Gl X x) (hm : X.mg x = some (.ref C)) (hns : nsIn X.K mainGlobals x = some (some (.ref C))) (q : excIn X.K C bmV "ValueError.__new__" = true) (hkp : keepIn X.K (.ref C) = true)
    (ha : SE X B W e fe) (hdb : (x == ("__debug__" : Str)) = false := by decide) (he : starEach [e] X.env = [(false, eval e X.env)] := by rfl) :
    SE X B W (.Call (.Name x p) [e] [] pos) (fA (fCons fe fNil) (gMk0 x)) := by
  intro pins s σ H Q I ⟨ρ, G, sr, p⟩
  refine wpAny_Call_Name_kw (ld_glob I hg hm ?_ hdb)
  have h2 : tAF X.K B W (fCons fe fNil) σ H fun vs H1 => ∃ v G1, vs = [v] ∧ SR X.K B σ H1 ρ G1 ∧ Post X.K W σ G1 H1 (.ok (.exn x 0)) Q := by
    refine ⟨ρ, G, sr, ?_⟩
    unfold fA fCons fNil at p
    unfold fCons fNil
    cases e1 : fe ρ with
    | ex c n => rw [e1] at p; exact p
    | no => rw [e1] at p; exact p
    | ok d =>
      rw [e1] at p
      intro vs H1 G1 y r
      obtain ⟨v, vs', rfl, r1, r2⟩ := reps_cons.mp r
      rw [reps_nil.mp r2]
      exact ⟨v, G1, rfl, sr.ext y, Post.ext y p⟩
  have hA : SA X B W [e] (fCons fe fNil) := sa_cons ha sa_nil he
  refine callWith_K (h₀ := X.base) I.ok.mod.kin hkp (thn (hA pos pins s σ H _ I h2) fun us s1 ⟨vs, H1, I1, r, v, G1, e1, sr1, p1⟩ => ⟨I1.kIn, ?_⟩) he rfl
  subst e1
  obtain ⟨u, rfl, ru⟩ := r.one
  obtain ⟨tl, N, nm, qn, bs, hdct, sn, sub, ab, col, dd, k0, k1, k2, k3, k5, mN, hC, hNs, hni, T⟩ := exc_obj I1.kIn q
  obtain ⟨hp, g, d, tk, os⟩ := s1
  refine wpAny_call_exc_subU PySem.F.excBase_ValueError (by decide) PySem.F.excBase_ValueError T hC hNs hni (fun h' ea hm' => ?_) (by rw [sizeLine_eq]; exact (by decide : 1 ≤ 16777216))
  obtain ⟨t, z1, z2, z3⟩ := hm'.there
  obtain ⟨f1, f2, f3, f4, f5⟩ := fresh_ok I1 hex hm'.new
  have I2 : L2.Inv X pins σ H1 ⟨h', g, d, tk, os⟩ := I1.kept (t' := tk) hm'.keeps
  have I3 := Inv.track (o := .ext (ExnAt ea C none)) I2 ⟨f1, f2, f3, f4, f5⟩ (ExnAt.ok ⟨_, _, z1, rfl, rfl, fun _ z => nomatch z⟩)
  have y : Ext G1 H1 (upd G1 ea (.ext (ExnAt ea C none))) (upd H1 ea (.ext (ExnAt ea C none))) := ext_exn sr1.en.gh sr1.en.tp f5
  exact ⟨.ref ea, _, I3, rfl, p1 _ _ _ y (rep_exn.mpr ⟨ea, C, none, rfl, hns, upd_same, .inl rfl⟩)⟩
/-! ### handlers, one behind the other -/
/-- all that is known of an own class with an __init__ -/
def Okx (P : Program) (w : World) (K : Frag) (mg : Str → Option Value) (base : Heap) (C : Addr) (a : Str) : Prop := ∃ f fd, FnOk P w K mg base (CXv P w K) 1 f fd ["self", a] (spX C a) ∧ Binds K fd ["self", a] [] ∧ xnIn K C f bmV "ValueError.__new__" = true ∧ typeIn K (.ref f) = some (.type "function") ∧ keepIn K (.ref C) = true
theorem re_mkx {x a : Str} {p pos : Pos} {e : Expr} {fe : Rho → Rs D} {C : Addr} {kr : Nat} (hm : X.mg x = some (.ref C)) (hns : nsIn X.K mainGlobals x = some (some (.ref C))) (O : Okx X.prog X.w X.K X.mg X.base C a) (hr : Room kr X.A) (ha : SE X B W e fe) (ha' : attrOf x = a := by decide) (hg : Gl X x := by rfl) (hkr : 2 ≤ kr := by decide) (hdb : (x == ("__debug__" : Str)) = false := by decide) (he : starEach [e] X.env = [(false, eval e X.env)] := by rfl) :
    SE X B W (.Call (.Name x p) [e] [] pos) (fA (fCons fe fNil) (gMkx x)) := by
  obtain ⟨f, fd, F, hb, q, hf, hk⟩ := O
  exact se_mkx ha' hg hm hns q hf hk F hb (hr.mono hkr) ha hdb he
end
section
variable {P : Program} {w : World} {K : Frag} {mg : Str → Option Value} {base : Heap} {x : Str} {st : Stmt} {N ps : List Str} {k n : Nat} {g : Rho → Ou}
/-- the def __init__ of an own class -/
def Dx (K : Frag) (qual : Str) (st : Stmt) (C : Addr) : Prop := ∃ (f : Addr) (oc : Value) (od : Option Addr) (sl : Array (Option Value)) (kV dc pm : Value) (an : Option Addr) (cd ct : Value),
  findIn K (.ref C) "__init__" = some (some (.ref f)) ∧ K.lookup f = some ⟨oc, od, .func (fnOf "__init__" qual (defArgs st) (defBody st) (defScope st) .none kV dc pm an cd ct), sl⟩ ∧ codeIn K cd qual = true ∧ keepIn K (.ref f) = true ∧ typeIn K (.ref f) = some (.type "function") ∧ xnIn K C f bmV "ValueError.__new__" = true ∧ keepIn K (.ref C) = true
theorem Dx.mk {qual : Str} {C f : Addr} {oc : Value} {od an : Option Addr} {sl : Array (Option Value)} {kV dc pm cd ct : Value} (h1 : findIn K (.ref C) "__init__" = some (some (.ref f))) (h2 : K.lookup f = some ⟨oc, od, .func (fnOf "__init__" qual (defArgs st) (defBody st) (defScope st) .none kV dc pm an cd ct), sl⟩) (h3 : codeIn K cd qual = true) (h4 : keepIn K (.ref f) = true) (h5 : typeIn K (.ref f) = some (.type "function")) (h6 : xnIn K C f bmV "ValueError.__new__" = true) (h7 : keepIn K (.ref C) = true) : Dx K qual st C :=
  ⟨f, oc, od, sl, kV, dc, pm, an, cd, ct, h1, h2, h3, h4, h5, h6, h7⟩
theorem okx_o {qual a tx xb : Str} {C M : Addr} {jj : Nat} {p1 p2 p3 p4 p5 p6 p7 p8 p9 q1 q2 q3 q4 : Pos} (F : Dx K qual st C) (S : FnScope ["self", a] ["self", a] (defScope st))
    (hb : defBody st = [.Expr (.Call (.Attribute (.Name xb p1) "__init__" p2) [.Name "self" p3, .JoinedStr [.Constant (.str tx) jj p4, .FormattedValue (.Name a p5) (-1) none p6] p7] [] p8) p9, .Assign [.Attribute (.Name "self" q1) a q2] (.Name a q3) q4])
    (hB : xbs K M = true) (hI : xik K C M a = true) (hm : mg xb = some (.ref M)) (htx : tx.length ≤ 1000)
    (hc : ∀ (f : Addr) (cdv : Value) (A : Around) (outer : List Env) (s : Shared) (H : Hp) (E : XK), xnIn K C f bmV "ValueError.__new__" = true → let X := cxOf (CXv P w K) P w K mg base ["self", a] qual (defScope st) f cdv A outer s H E
      Gl X xb ∧ Vis X.env.scope "self" ∧ Vis X.env.scope a ∧ PE X (.Call (.Attribute (.Name xb p1) "__init__" p2) [.Name "self" p3, .JoinedStr [.Constant (.str tx) jj p4, .FormattedValue (.Name a p5) (-1) none p6] p7] [] p8) (fun σ H Q => ∃ e n, σ[0]? = some (some (.ref e)) ∧ σ[1]? = some (some (.int n)) ∧ n.natAbs.log2 < 1000 ∧ H e = some (.ext (XNew e C none)) ∧ Q .non H)
        ∧ swapsWith (.Call (.Attribute (.Name xb p1) "__init__" p2) [.Name "self" p3, .JoinedStr [.Constant (.str tx) jj p4, .FormattedValue (.Name a p5) (-1) none p6] p7] [] p8) none p9.line X.env = pure false ∧ swapsWith (.Name a q3) (some (.Attribute (.Name "self" q1) a q2)) q4.line X.env = pure false)
    (hbi : ∀ (kV doc pm : Value) (an : Option Addr) (cdv ct : Value) (us : List Value), us.length = 2 → bindArgs (fnOf "__init__" qual (defArgs st) (defBody st) (defScope st) .none kV doc pm an cdv ct) ⟨us, []⟩ = pure (((["self", a] : List Str)).zip us))
    (hd' : (a == ("__debug__" : Str)) = false := by decide) (hcd' : (a == ("__classdict__" : Str)) = false := by decide) : Okx P w K mg base C a := by
  obtain ⟨f, oc, od, sl, kV, dc, pm, an, cd, ct, h1, h2, h3, h4, h5, h6, h7⟩ := F
  have Fu := fun_mk (st := st) h2 h3 h4
  exact ⟨f, _, fn_x Fu S hb hB h6 (xik_of hI) hm htx (fun cdv A outer s H E => hc f cdv A outer s H E h6) hd' hcd', Fu.binds hbi, h6, h5, h7⟩
end
end Vl

set_option Elab.async false
set_option linter.all false
set_option maxRecDepth 100000
set_option maxHeartbeats 4000000
namespace Vl
open PySem PySem.Spec L2
/-! ### x[lo:hi] of a text -/
section
variable {X : Cx} {B : Bs} {W : Wi}
def rSlS : V → Option Int → Option Int → Hp → VK → Prop := fun x lo hi H Q => ∃ y, x = .str y ∧ y.length ≤ 1000 ∧ Q (.str (Txt.slice y lo hi)) H
theorem sl_str : SlR X rSlS := by
  intro pins s σ H x v vl vu lo hi sl Q I rx hs pl pu ⟨y, e, hy, q⟩
  subst e
  obtain ⟨t, rfl⟩ := rx
  refine ⟨"str", _, F.slot_str_getitem.lookup, typeIs_str _ _ _, ?_⟩
  have hz : y.length ≤ sizeLine := Nat.le_trans hy (by rw [sizeLine_eq]; decide)
  cases pl with
  | none =>
    cases pu with
    | none => exact wpAny_getItem_str_slice (l := none) (u := none) (st := none) hs rfl (post_val_or_str ⟨Nat.le_trans (Txt.slice_le y _ _) hz, fun t' k => ⟨.str _, H, I.tok _, ⟨_, rfl⟩, q⟩⟩)
    | int j u => exact wpAny_getItem_str_slice (l := none) (u := some (j, u)) (st := none) hs rfl (post_val_or_str ⟨Nat.le_trans (Txt.slice_le y _ _) hz, fun t' k => ⟨.str _, H, I.tok _, ⟨_, rfl⟩, q⟩⟩)
  | int i ti =>
    cases pu with
    | none => exact wpAny_getItem_str_slice (l := some (i, ti)) (u := none) (st := none) hs rfl (post_val_or_str ⟨Nat.le_trans (Txt.slice_le y _ _) hz, fun t' k => ⟨.str _, H, I.tok _, ⟨_, rfl⟩, q⟩⟩)
    | int j u => exact wpAny_getItem_str_slice (l := some (i, ti)) (u := some (j, u)) (st := none) hs rfl (post_val_or_str ⟨Nat.le_trans (Txt.slice_le y _ _) hz, fun t' k => ⟨.str _, H, I.tok _, ⟨_, rfl⟩, q⟩⟩)
def gSlS (lo hi : Option Int) : D → Rs D
  | .str y => if y.length ≤ 1000 then .ok (.str (Txt.slice y lo hi)) else .no
  | _ => .no
def fSlS (fe : Rho → Rs D) (fl fh : Rho → Rs (Option Int)) : Rho → Rs D := fun ρ => (fe ρ).bind fun x => (fl ρ).bind fun l => (fh ρ).bind fun h => gSlS l h x
theorem slS_fin {K : PySem.W.Frag} {σ : St} {G H : Hp} {ρ : Rho} {x : D} {v : V} {l h : Option Int} {Q : VK} (s : SR K B σ H ρ G) (r : Rep K G x v) (p : Post K W σ G H (gSlS l h x) Q) : rSlS v l h H Q := by
  cases x with
  | str y =>
    unfold gSlS at p; dsimp only at p
    by_cases hy : y.length ≤ 1000
    · rw [if_pos hy] at p
      exact ⟨y, rep_str.mp r, hy, Post.ok s p (rep_str.mpr rfl)⟩
    · rw [if_neg hy] at p; exact p.elim
  | _ => exact p.elim
theorem re_sliceS {e : Expr} {lo hi : Option Expr} {p2 pos : Pos} {fe : Rho → Rs D} {fl fh : Rho → Rs (Option Int)} (he : SE X B W e fe) (hl : SO X B W lo fl) (hh : SO X B W hi fh) : SE X B W (.Subscript e (.Slice lo hi none p2) pos) (fSlS fe fl fh) := by
  refine PE.imp (pe_slice sl_str he hl hh) fun σ H Q h => ?_
  obtain ⟨ρ, G, s, p⟩ := tF_bind (k := fun ρ x => (fl ρ).bind fun l => (fh ρ).bind fun h => gSlS l h x) h
  refine ⟨ρ, G, s, p.mono fun v H1 ⟨ρ1, G1, d, s1, r, q⟩ => ⟨ρ1, G1, s1, ?_⟩⟩
  cases e1 : fl ρ1 with
  | ok l =>
    rw [e1] at q
    intro H2 G2 x2
    have q' : Post X.K W σ G1 H1 ((fh ρ1).bind fun h => gSlS l h d) Q := q
    refine ⟨ρ1, G2, s1.ext x2, ?_⟩
    cases e2 : fh ρ1 with
    | ok h => rw [e2] at q'; exact fun H3 G3 x3 => slS_fin ((s1.ext x2).ext x3) ((r.mono x2.gg).mono x3.gg) (Post.ext (x2.trans x3) q')
    | ex c n => rw [e2] at q'; exact fun H3 G3 x3 => q' H3 G3 (x2.trans x3)
    | no => rw [e2] at q'; exact q'
  | ex c n => rw [e1] at q; exact q
  | no => rw [e1] at q; exact q
end
end Vl

set_option Elab.async false
set_option linter.all false
set_option maxRecDepth 100000
set_option maxHeartbeats 4000000
namespace K08
open PySem PySem.Spec PySem.Calls PySem.W L2 Vl
def top (i : Nat) : Stmt := PySem.Challenge.pw_edgemoss_k08_whole_refusals.main.body.getD i (.Pass ⟨0, 0, 0, 0⟩)
abbrev s__law_whole : Stmt := top 13
abbrev s__law_classes : Stmt := top 14
abbrev s_law : Stmt := top 15
def cbody : Stmt → List Stmt
  | .ClassDef _ _ _ b _ _ _ _ _ _ _ => b
  | _ => []
abbrev s_BadCell_i : Stmt := (cbody (top 2)).getD 0 (.Pass ⟨0, 0, 0, 0⟩)
abbrev s_NoText_i : Stmt := (cbody (top 10)).getD 0 (.Pass ⟨0, 0, 0, 0⟩)
def J_0 (c : Str) : Option Bool := List.lookup c [("BadCell", false), ("BadDeed", false), ("BadPiece", true), ("BadTurn", false), ("Endless", false), ("MossError", false), ("NoCell", false), ("NoMarks", false), ("NoText", false), ("TooMany", false), ("TooWide", false)]
def J_1 (c : Str) : Option Bool := List.lookup c [("BadCell", false), ("BadDeed", false), ("BadPiece", false), ("BadTurn", false), ("Endless", false), ("MossError", false), ("NoCell", false), ("NoMarks", false), ("NoText", true), ("TooMany", false), ("TooWide", false)]
def J_2 (c : Str) : Option Bool := List.lookup c [("BadCell", true), ("BadDeed", false), ("BadPiece", false), ("BadTurn", false), ("Endless", false), ("MossError", false), ("NoCell", false), ("NoMarks", false), ("NoText", false), ("TooMany", false), ("TooWide", false)]
def J_3 (c : Str) : Option Bool := List.lookup c [("BadCell", false), ("BadDeed", false), ("BadPiece", false), ("BadTurn", false), ("Endless", true), ("MossError", false), ("NoCell", false), ("NoMarks", false), ("NoText", false), ("TooMany", false), ("TooWide", false)]
def J_4 (c : Str) : Option Bool := List.lookup c [("BadCell", false), ("BadDeed", false), ("BadPiece", false), ("BadTurn", false), ("Endless", false), ("MossError", false), ("NoCell", false), ("NoMarks", false), ("NoText", false), ("TooMany", true), ("TooWide", false)]
def J_5 (c : Str) : Option Bool := List.lookup c [("BadCell", false), ("BadDeed", false), ("BadPiece", false), ("BadTurn", true), ("Endless", false), ("MossError", false), ("NoCell", false), ("NoMarks", false), ("NoText", false), ("TooMany", false), ("TooWide", false)]
def J_6 (c : Str) : Option Bool := List.lookup c [("BadCell", false), ("BadDeed", false), ("BadPiece", false), ("BadTurn", false), ("Endless", false), ("MossError", false), ("NoCell", false), ("NoMarks", true), ("NoText", false), ("TooMany", false), ("TooWide", false)]
def J_7 (c : Str) : Option Bool := List.lookup c [("BadCell", false), ("BadDeed", false), ("BadPiece", false), ("BadTurn", false), ("Endless", false), ("MossError", false), ("NoCell", true), ("NoMarks", false), ("NoText", false), ("TooMany", false), ("TooWide", false)]
def J_8 (c : Str) : Option Bool := List.lookup c [("BadCell", false), ("BadDeed", false), ("BadPiece", false), ("BadTurn", false), ("Endless", false), ("MossError", false), ("NoCell", false), ("NoMarks", false), ("NoText", false), ("TooMany", false), ("TooWide", true)]
def J_9 (c : Str) : Option Bool := List.lookup c [("BadCell", false), ("BadDeed", true), ("BadPiece", false), ("BadTurn", false), ("Endless", false), ("MossError", false), ("NoCell", false), ("NoMarks", false), ("NoText", false), ("TooMany", false), ("TooWide", false)]
def J_10 (c : Str) : Option Bool := List.lookup c [("BadCell", true), ("BadDeed", true), ("BadPiece", true), ("BadTurn", true), ("Endless", true), ("MossError", true), ("NoCell", true), ("NoMarks", true), ("NoText", true), ("TooMany", true), ("TooWide", true)]
def J_11 (c : Str) : Option Bool := List.lookup c [("BadCell", true), ("BadDeed", true), ("BadPiece", true), ("BadTurn", true), ("Endless", true), ("MossError", true), ("NoCell", true), ("NoMarks", true), ("NoText", true), ("TooMany", true), ("TooWide", true)]
structure Txt (K : Frag) (mg : Str → Option Value) (C_BadCell : Addr) (C_BadDeed : Addr) (C_BadPiece : Addr) (C_BadTurn : Addr) (C_Endless : Addr) (C_MossError : Addr) (C_NoCell : Addr) (C_NoMarks : Addr) (C_NoText : Addr) (C_TooMany : Addr) (C_TooWide : Addr) : Prop where
  b_ValueError : mg "ValueError" = none
  b_bool : mg "bool" = none
  b_int : mg "int" = none
  b_isinstance : mg "isinstance" = none
  b_len : mg "len" = none
  b_range : mg "range" = none
  c_BadCell : mg "BadCell" = some (.ref C_BadCell)
  n_BadCell : nsIn K mainGlobals "BadCell" = some (some (.ref C_BadCell))
  c_BadDeed : mg "BadDeed" = some (.ref C_BadDeed)
  n_BadDeed : nsIn K mainGlobals "BadDeed" = some (some (.ref C_BadDeed))
  c_BadPiece : mg "BadPiece" = some (.ref C_BadPiece)
  n_BadPiece : nsIn K mainGlobals "BadPiece" = some (some (.ref C_BadPiece))
  c_BadTurn : mg "BadTurn" = some (.ref C_BadTurn)
  n_BadTurn : nsIn K mainGlobals "BadTurn" = some (some (.ref C_BadTurn))
  c_Endless : mg "Endless" = some (.ref C_Endless)
  n_Endless : nsIn K mainGlobals "Endless" = some (some (.ref C_Endless))
  c_MossError : mg "MossError" = some (.ref C_MossError)
  n_MossError : nsIn K mainGlobals "MossError" = some (some (.ref C_MossError))
  c_NoCell : mg "NoCell" = some (.ref C_NoCell)
  n_NoCell : nsIn K mainGlobals "NoCell" = some (some (.ref C_NoCell))
  c_NoMarks : mg "NoMarks" = some (.ref C_NoMarks)
  n_NoMarks : nsIn K mainGlobals "NoMarks" = some (some (.ref C_NoMarks))
  c_NoText : mg "NoText" = some (.ref C_NoText)
  n_NoText : nsIn K mainGlobals "NoText" = some (some (.ref C_NoText))
  c_TooMany : mg "TooMany" = some (.ref C_TooMany)
  n_TooMany : nsIn K mainGlobals "TooMany" = some (some (.ref C_TooMany))
  c_TooWide : mg "TooWide" = some (.ref C_TooWide)
  n_TooWide : nsIn K mainGlobals "TooWide" = some (some (.ref C_TooWide))
  x_BadDeed : excIn K C_BadDeed bmV "ValueError.__new__" = true
  p_BadDeed : keepIn K (.ref C_BadDeed) = true
  x_BadPiece : excIn K C_BadPiece bmV "ValueError.__new__" = true
  p_BadPiece : keepIn K (.ref C_BadPiece) = true
  x_BadTurn : excIn K C_BadTurn bmV "ValueError.__new__" = true
  p_BadTurn : keepIn K (.ref C_BadTurn) = true
  x_Endless : excIn K C_Endless bmV "ValueError.__new__" = true
  p_Endless : keepIn K (.ref C_Endless) = true
  x_MossError : excIn K C_MossError bmV "ValueError.__new__" = true
  p_MossError : keepIn K (.ref C_MossError) = true
  x_NoCell : excIn K C_NoCell bmV "ValueError.__new__" = true
  p_NoCell : keepIn K (.ref C_NoCell) = true
  x_NoMarks : excIn K C_NoMarks bmV "ValueError.__new__" = true
  p_NoMarks : keepIn K (.ref C_NoMarks) = true
  x_TooMany : excIn K C_TooMany bmV "ValueError.__new__" = true
  p_TooMany : keepIn K (.ref C_TooMany) = true
  x_TooWide : excIn K C_TooWide bmV "ValueError.__new__" = true
  p_TooWide : keepIn K (.ref C_TooWide) = true
  k_BadCell : Xik K C_BadCell C_MossError "place"
  k_NoText : Xik K C_NoText C_MossError "at"
  j_0 : ∀ c b C, J_0 c = some b → nsIn K mainGlobals c = some (some (.ref C)) → exk K C = true ∧ kitOne K (.ref C) (.ref C_BadPiece) = some b
  j_1 : ∀ c b C, J_1 c = some b → nsIn K mainGlobals c = some (some (.ref C)) → exk K C = true ∧ kitOne K (.ref C) (.ref C_NoText) = some b
  j_2 : ∀ c b C, J_2 c = some b → nsIn K mainGlobals c = some (some (.ref C)) → exk K C = true ∧ kitOne K (.ref C) (.ref C_BadCell) = some b
  j_3 : ∀ c b C, J_3 c = some b → nsIn K mainGlobals c = some (some (.ref C)) → exk K C = true ∧ kitOne K (.ref C) (.ref C_Endless) = some b
  j_4 : ∀ c b C, J_4 c = some b → nsIn K mainGlobals c = some (some (.ref C)) → exk K C = true ∧ kitOne K (.ref C) (.ref C_TooMany) = some b
  j_5 : ∀ c b C, J_5 c = some b → nsIn K mainGlobals c = some (some (.ref C)) → exk K C = true ∧ kitOne K (.ref C) (.ref C_BadTurn) = some b
  j_6 : ∀ c b C, J_6 c = some b → nsIn K mainGlobals c = some (some (.ref C)) → exk K C = true ∧ kitOne K (.ref C) (.ref C_NoMarks) = some b
  j_7 : ∀ c b C, J_7 c = some b → nsIn K mainGlobals c = some (some (.ref C)) → exk K C = true ∧ kitOne K (.ref C) (.ref C_NoCell) = some b
  j_8 : ∀ c b C, J_8 c = some b → nsIn K mainGlobals c = some (some (.ref C)) → exk K C = true ∧ kitOne K (.ref C) (.ref C_TooWide) = some b
  j_9 : ∀ c b C, J_9 c = some b → nsIn K mainGlobals c = some (some (.ref C)) → exk K C = true ∧ kitOne K (.ref C) (.ref C_BadDeed) = some b
  j_10 : ∀ c b C, J_10 c = some b → nsIn K mainGlobals c = some (some (.ref C)) → exk K C = true ∧ kitOne K (.ref C) (.ref C_MossError) = some b
  j_11 : ∀ c b C, J_11 c = some b → nsIn K mainGlobals c = some (some (.ref C)) → exk K C = true ∧ kitOne K (.ref C) (.type "ValueError") = some b
section
variable {P : Program} {w : World} {K : Frag} {mg : Str → Option Value} {base : Heap} {C_BadCell : Addr} {C_BadDeed : Addr} {C_BadPiece : Addr} {C_BadTurn : Addr} {C_Endless : Addr} {C_MossError : Addr} {C_NoCell : Addr} {C_NoMarks : Addr} {C_NoText : Addr} {C_TooMany : Addr} {C_TooWide : Addr}
theorem sc_BadCell_i : FnScope ["self", "place"] ["self", "place"] (defScope s_BadCell_i) := scp (by decide +kernel)
theorem ox_BadCell (T : Txt K mg C_BadCell C_BadDeed C_BadPiece C_BadTurn C_Endless C_MossError C_NoCell C_NoMarks C_NoText C_TooMany C_TooWide) (F : Dx K "BadCell.__init__" s_BadCell_i C_BadCell) (hB : xbs K C_MossError = true) (hI : xik K C_BadCell C_MossError "place" = true) : Okx P w K mg base C_BadCell "place" :=
  okx_o (st := s_BadCell_i) F sc_BadCell_i rfl hB hI T.c_MossError (by decide) (fun f cdv A outer s H E z => ⟨rfl, Or.inl rfl, Or.inl rfl, pe_binit hB z rfl T.c_MossError rfl (Or.inl rfl) rfl (Or.inl rfl) (by decide), rfl, rfl⟩) (fun _ _ _ _ _ _ us hl => match us, hl with | [_, _], _ => rfl)
theorem sc_NoText_i : FnScope ["self", "at"] ["self", "at"] (defScope s_NoText_i) := scp (by decide +kernel)
theorem ox_NoText (T : Txt K mg C_BadCell C_BadDeed C_BadPiece C_BadTurn C_Endless C_MossError C_NoCell C_NoMarks C_NoText C_TooMany C_TooWide) (F : Dx K "NoText.__init__" s_NoText_i C_NoText) (hB : xbs K C_MossError = true) (hI : xik K C_NoText C_MossError "at" = true) : Okx P w K mg base C_NoText "at" :=
  okx_o (st := s_NoText_i) F sc_NoText_i rfl hB hI T.c_MossError (by decide) (fun f cdv A outer s H E z => ⟨rfl, Or.inl rfl, Or.inl rfl, pe_binit hB z rfl T.c_MossError rfl (Or.inl rfl) rfl (Or.inl rfl) (by decide), rfl, rfl⟩) (fun _ _ _ _ _ _ us hl => match us, hl with | [_, _], _ => rfl)
theorem sc__law_whole : FnScope ["found"] ["found"] (defScope s__law_whole) := scp (by decide +kernel)
def g__law_whole : Rho → Ou :=
    rRet (fAndV (fB (fVar 0) (gIs .int)) (fNotV (fB (fVar 0) (gIs .bool))))
def v__law_whole : List D → Rs D := fun ds => fin (g__law_whole (startR ["found"] ds))
theorem ok__law_whole (T : Txt K mg C_BadCell C_BadDeed C_BadPiece C_BadTurn C_Endless C_MossError C_NoCell C_NoMarks C_NoText C_TooMany C_TooWide) (F : Ent K mg "_law_whole" s__law_whole)  : Okd P w K mg base "_law_whole" 1 1 v__law_whole :=
  okd_o (k := 0) (g := g__law_whole) F sc__law_whole fun f cdv A outer s H E B hr hx =>
    rs_one (rs_ret (se_and (re_is (t := .int) T.b_isinstance T.b_int (sv 0) PyProof.Rows.Boot.«int») (se_one (se_not (re_is (t := .bool) T.b_isinstance T.b_bool (sv 0) PyProof.Rows.Boot.«bool»)))))
theorem sc__law_classes : FnScope ["error", "found"] ["error"] (defScope s__law_classes) := scp (by decide +kernel)
def g__law_classes : Rho → Ou :=
    rSeq (rSet 1 (fA (fCons (fB (fVar 0) (gIsX J_2)) (fCons (fB (fVar 0) (gIsX J_1)) (fCons (fB (fVar 0) (gIsX J_0)) fNil))) gLst))
    (rSeq (rSet 1 (fOp gPlus (fVar 1) (fA (fCons (fB (fVar 0) (gIsX J_5)) (fCons (fB (fVar 0) (gIsX J_4)) (fCons (fB (fVar 0) (gIsX J_3)) fNil))) gLst)))
    (rSeq (rSet 1 (fOp gPlus (fVar 1) (fA (fCons (fB (fVar 0) (gIsX J_8)) (fCons (fB (fVar 0) (gIsX J_7)) (fCons (fB (fVar 0) (gIsX J_6)) fNil))) gLst)))
    (rRet (fOp gPlus (fVar 1) (fA (fCons (fB (fVar 0) (gIsX J_9)) fNil) gLst)))))
def v__law_classes : List D → Rs D := fun ds => fin (g__law_classes (startR ["error", "found"] ds))
theorem ok__law_classes (T : Txt K mg C_BadCell C_BadDeed C_BadPiece C_BadTurn C_Endless C_MossError C_NoCell C_NoMarks C_NoText C_TooMany C_TooWide) (F : Ent K mg "_law_classes" s__law_classes)  : Okd P w K mg base "_law_classes" 1 1 v__law_classes :=
  okd_o (k := 0) (g := g__law_classes) F sc__law_classes fun f cdv A outer s H E B hr hx =>
    rs_cons (rs_set 1 sc__law_classes.nd (se_lst (sa_cons (re_isX (m := J_2) T.j_2 T.b_isinstance T.c_BadCell (sv 0)) (sa_cons (re_isX (m := J_1) T.j_1 T.b_isinstance T.c_NoText (sv 0)) (sa_cons (re_isX (m := J_0) T.j_0 T.b_isinstance T.c_BadPiece (sv 0)) sa_nil)))))
    (rs_cons (rs_set 1 sc__law_classes.nd (se_add (sv 1) (se_lst (sa_cons (re_isX (m := J_5) T.j_5 T.b_isinstance T.c_BadTurn (sv 0)) (sa_cons (re_isX (m := J_4) T.j_4 T.b_isinstance T.c_TooMany (sv 0)) (sa_cons (re_isX (m := J_3) T.j_3 T.b_isinstance T.c_Endless (sv 0)) sa_nil))))))
    (rs_cons (rs_set 1 sc__law_classes.nd (se_add (sv 1) (se_lst (sa_cons (re_isX (m := J_8) T.j_8 T.b_isinstance T.c_TooWide (sv 0)) (sa_cons (re_isX (m := J_7) T.j_7 T.b_isinstance T.c_NoCell (sv 0)) (sa_cons (re_isX (m := J_6) T.j_6 T.b_isinstance T.c_NoMarks (sv 0)) sa_nil))))))
    (rs_one (rs_ret (se_add (sv 1) (se_lst (sa_cons (re_isX (m := J_9) T.j_9 T.b_isinstance T.c_BadDeed (sv 0)) sa_nil)))))))
theorem sc_law : FnScope ["script", "cell", "place", "words", "errors", "k", "base"] ["script"] (defScope s_law) := scp (by decide +kernel)
def E_law_1 : Rho → Rs D :=
    fOp gEq (fVar 1) (fVar 0)
def B_law_1 : Rho → Ou :=
    rSeq (rIf (fOr (fNot (fT (fB (fOp gIx (fVar 4) (fVar 5)) (gIsX J_10)))) (fNot (fT (fB (fOp gIx (fVar 4) (fVar 5)) (gIsX J_11))))) (rRet (fC (.bl false))) rNx)
    (rIf (fT (fOp gNe (fA (fCons (fOp gIx (fVar 4) (fVar 5)) fNil) (gCallX 1 v__law_classes)) (gComp (hName 0) (fun _ => .ok true) E_law_1 1 [5] (fL (fA (fCons (fVar 4) fNil) gLen) asR)))) (rRet (fC (.bl false))) rNx)
def B_law_2 : Rho → Ou :=
    rSeq (rSet 2 (fOp gMod (fVar 1) (fOp gPow (fC (.int 10)) (fC (.int 30)))))
    (rSeq (rSet 3 (fSlS (fC (.str "abcdefgh")) fNoP (fP (fOp gMod (fOp gDiv (fVar 1) (fC (.int 7))) (fC (.int 8))))))
    (rSeq (rSet 4 (fA (fCons (fA (fCons (fVar 2) fNil) (gMkx "BadCell")) (fCons (fA (fCons (fVar 2) fNil) (gMkx "NoText")) (fCons (fA (fCons (fVar 3) fNil) (gMk0 "BadPiece")) (fCons (fA (fCons (fVar 3) fNil) (gMk0 "BadTurn")) (fCons (fA (fCons (fVar 3) fNil) (gMk0 "TooMany")) (fCons (fA (fCons (fVar 3) fNil) (gMk0 "Endless")) fNil)))))) gLst))
    (rSeq (rSet 4 (fOp gPlus (fVar 4) (fA (fCons (fA (fCons (fVar 3) fNil) (gMk0 "TooWide")) (fCons (fA (fCons (fVar 3) fNil) (gMk0 "NoCell")) (fCons (fA (fCons (fVar 3) fNil) (gMk0 "NoMarks")) (fCons (fA (fCons (fVar 3) fNil) (gMk0 "BadDeed")) fNil)))) gLst)))
    (rSeq (gForR (hName 5) B_law_1 (fA (fCons (fVar 4) fNil) gLen))
    (rSeq (rIf (fOr (fNot (fT (fA (fCons (fB (fOp gIx (fVar 4) (fC (.int 0))) (gXat "BadCell")) fNil) (gCallX 1 v__law_whole)))) (fNot (fT (fA (fCons (fB (fOp gIx (fVar 4) (fC (.int 1))) (gXat "NoText")) fNil) (gCallX 1 v__law_whole))))) (rRet (fC (.bl false))) rNx)
    (rSeq (rIf (fOr (fT (fOp gNe (fB (fOp gIx (fVar 4) (fC (.int 0))) (gXat "BadCell")) (fVar 2))) (fT (fOp gNe (fB (fOp gIx (fVar 4) (fC (.int 1))) (gXat "NoText")) (fVar 2)))) (rRet (fC (.bl false))) rNx)
    (rSeq (rSet 6 (fA (fCons (fVar 3) fNil) (gMk0 "MossError")))
    (rIf (fOr (fNot (fT (fB (fVar 6) (gIsX J_11)))) (fT (fOp gIn (fC (.bl true)) (fA (fCons (fVar 6) fNil) (gCallX 1 v__law_classes))))) (rRet (fC (.bl false))) rNx))))))))
def g_law : Rho → Ou :=
    rSeq (rNox (gForL (hName 1) B_law_2 (fOp gPlus (fSl (fVar 0) fNoP (fP (fC (.int 20)))) (fA (fCons (fC (.int 0)) fNil) gLst))))
    (rRet (fC (.bl true)))
def v_law : List D → Rs D := fun ds => fin (g_law (startR ["script", "cell", "place", "words", "errors", "k", "base"] ds))
theorem b_law (T : Txt K mg C_BadCell C_BadDeed C_BadPiece C_BadTurn C_Endless C_MossError C_NoCell C_NoMarks C_NoText C_TooMany C_TooWide) {f : Addr} (O_NoText : Okx P w K mg base C_NoText "at") (O_BadCell : Okx P w K mg base C_BadCell "place") (O__law_classes : Okd P w K mg base "_law_classes" 1 1 v__law_classes) (O__law_whole : Okd P w K mg base "_law_whole" 1 1 v__law_whole) {cdv : Value} {A : Around} {outer : List Env} {s : Shared} {H : Hp} {E : XK} {B : Bs} (hr : Room 2 (A.deeper (PyProof.Rows.envOfC "law" (defScope s_law) s.heap.objs.size f cdv)))
    (hx : PassC (cxOf (CXv P w K) P w K mg base ["script", "cell", "place", "words", "errors", "k", "base"] "law" (defScope s_law) f cdv A outer s H E) (fun c n _ H' => E (enc c n) none H')) :
    SSs (cxOf (CXv P w K) P w K mg base ["script", "cell", "place", "words", "errors", "k", "base"] "law" (defScope s_law) f cdv A outer s H E) B (fun c n _ H' => E (enc c n) none H') (defBody s_law) g_law :=
    rs_cons (rs_nox (ss_forL PassesOwn.never rfl (se_add (se_slice (sv 0) so_none (so_some se_int)) (se_lst (sa_cons se_int sa_nil))) (rg 1 sc_law.nd) (rs_cons (rs_set 2 sc_law.nd (se_mod (sv 1) (se_pow se_int se_int)))
    (rs_cons (rs_set 3 sc_law.nd (re_sliceS se_str so_none (so_some (se_mod (se_div (sv 1) se_int) se_int))))
    (rs_cons (rs_set 4 sc_law.nd (se_lst (sa_cons (re_mkx T.c_BadCell T.n_BadCell O_BadCell hr (sv 2)) (sa_cons (re_mkx T.c_NoText T.n_NoText O_NoText hr (sv 2)) (sa_cons (se_mk0 rfl rfl T.c_BadPiece T.n_BadPiece T.x_BadPiece T.p_BadPiece (sv 3)) (sa_cons (se_mk0 rfl rfl T.c_BadTurn T.n_BadTurn T.x_BadTurn T.p_BadTurn (sv 3)) (sa_cons (se_mk0 rfl rfl T.c_TooMany T.n_TooMany T.x_TooMany T.p_TooMany (sv 3)) (sa_cons (se_mk0 rfl rfl T.c_Endless T.n_Endless T.x_Endless T.p_Endless (sv 3)) sa_nil))))))))
    (rs_cons (rs_set 4 sc_law.nd (se_add (sv 4) (se_lst (sa_cons (se_mk0 rfl rfl T.c_TooWide T.n_TooWide T.x_TooWide T.p_TooWide (sv 3)) (sa_cons (se_mk0 rfl rfl T.c_NoCell T.n_NoCell T.x_NoCell T.p_NoCell (sv 3)) (sa_cons (se_mk0 rfl rfl T.c_NoMarks T.n_NoMarks T.x_NoMarks T.p_NoMarks (sv 3)) (sa_cons (se_mk0 rfl rfl T.c_BadDeed T.n_BadDeed T.x_BadDeed T.p_BadDeed (sv 3)) sa_nil)))))))
    (rs_cons (ss_forR PassesOwn.never rfl T.b_range (se_len T.b_len (sv 4)) (rg 5 sc_law.nd) (rs_cons (rs_if (st_w (sw_or (st_not (st_val (re_isX (m := J_10) T.j_10 T.b_isinstance T.c_MossError (se_ix (sv 4) (sv 5))))) (sw_or1 (st_not (st_val (re_isXB (m := J_11) T.j_11 T.b_isinstance T.b_ValueError (se_ix (sv 4) (sv 5)) PyProof.Rows.Boot.«ValueError»)))))) (rs_one (rs_ret se_bl)) rs_nil)
    (rs_one (rs_if (st_ne (room8 hr) (re_call O__law_classes hr passC_F (sa_cons (se_ix (sv 4) (sv 5)) sa_nil)) (re_comp (caps_of (defScope s_law) ["script", "cell", "place", "words", "errors", "k", "base"] (N := ["j", "k"]) (nt := 1) (caps := [5]) (by decide +kernel)) rfl (by decide +kernel) (ri_range T.b_range (se_len T.b_len (sv 4))) keep_name (fun s₀ H₀ C ex pins B1 => rg 0 (show List.Nodup (["j", "k"] : List Str) by decide)) (fun s₀ H₀ C ex pins B1 => se_eq (room8 hr) (sv 1) (sv 0)))) (rs_one (rs_ret se_bl)) rs_nil))))
    (rs_cons (rs_if (st_w (sw_or (st_not (st_val (re_call O__law_whole hr passC_F (sa_cons (re_xat T.n_BadCell T.k_BadCell (by decide) (se_ix (sv 4) se_int)) sa_nil)))) (sw_or1 (st_not (st_val (re_call O__law_whole hr passC_F (sa_cons (re_xat T.n_NoText T.k_NoText (by decide) (se_ix (sv 4) se_int)) sa_nil))))))) (rs_one (rs_ret se_bl)) rs_nil)
    (rs_cons (rs_if (st_w (sw_or (st_ne (room8 hr) (re_xat T.n_BadCell T.k_BadCell (by decide) (se_ix (sv 4) se_int)) (sv 2)) (sw_or1 (st_ne (room8 hr) (re_xat T.n_NoText T.k_NoText (by decide) (se_ix (sv 4) se_int)) (sv 2))))) (rs_one (rs_ret se_bl)) rs_nil)
    (rs_cons (rs_set 6 sc_law.nd (se_mk0 rfl rfl T.c_MossError T.n_MossError T.x_MossError T.p_MossError (sv 3)))
    (rs_one (rs_if (st_w (sw_or (st_not (st_val (re_isXB (m := J_11) T.j_11 T.b_isinstance T.b_ValueError (sv 6) PyProof.Rows.Boot.«ValueError»))) (sw_or1 (st_in (room8 hr) se_bl (re_call O__law_classes hr passC_F (sa_cons (sv 6) sa_nil)))))) (rs_one (rs_ret se_bl)) rs_nil))))))))))))
    (rs_one (rs_ret se_bl))
end
section
variable {l : OpenLaw} {w : World} {K : Frag} {h : Heap} {mg : Str → Option Value} {fa : Addr} {C_BadCell : Addr} {C_BadDeed : Addr} {C_BadPiece : Addr} {C_BadTurn : Addr} {C_Endless : Addr} {C_MossError : Addr} {C_NoCell : Addr} {C_NoMarks : Addr} {C_NoText : Addr} {C_TooMany : Addr} {C_TooWide : Addr}
  {f_law : Addr} {od_law an_law : Option Addr} {sl_law : Array (Option Value)} {oc_law kV_law dc_law pm_law cd_law ct_law : Value}
set_option maxHeartbeats 4000000 in
theorem all_mk (X : K.In h) (G : h.Ns mainGlobals mg) (hfa : mg "law" = some (.ref fa))
    (n_BadCell : nsIn K mainGlobals "BadCell" = some (some (.ref C_BadCell)))
    (n_BadDeed : nsIn K mainGlobals "BadDeed" = some (some (.ref C_BadDeed)))
    (n_BadPiece : nsIn K mainGlobals "BadPiece" = some (some (.ref C_BadPiece)))
    (n_BadTurn : nsIn K mainGlobals "BadTurn" = some (some (.ref C_BadTurn)))
    (n_Endless : nsIn K mainGlobals "Endless" = some (some (.ref C_Endless)))
    (n_MossError : nsIn K mainGlobals "MossError" = some (some (.ref C_MossError)))
    (n_NoCell : nsIn K mainGlobals "NoCell" = some (some (.ref C_NoCell)))
    (n_NoMarks : nsIn K mainGlobals "NoMarks" = some (some (.ref C_NoMarks)))
    (n_NoText : nsIn K mainGlobals "NoText" = some (some (.ref C_NoText)))
    (n_TooMany : nsIn K mainGlobals "TooMany" = some (some (.ref C_TooMany)))
    (n_TooWide : nsIn K mainGlobals "TooWide" = some (some (.ref C_TooWide)))
    (x_BadDeed : excIn K C_BadDeed bmV "ValueError.__new__" = true)
    (p_BadDeed : keepIn K (.ref C_BadDeed) = true)
    (x_BadPiece : excIn K C_BadPiece bmV "ValueError.__new__" = true)
    (p_BadPiece : keepIn K (.ref C_BadPiece) = true)
    (x_BadTurn : excIn K C_BadTurn bmV "ValueError.__new__" = true)
    (p_BadTurn : keepIn K (.ref C_BadTurn) = true)
    (x_Endless : excIn K C_Endless bmV "ValueError.__new__" = true)
    (p_Endless : keepIn K (.ref C_Endless) = true)
    (x_MossError : excIn K C_MossError bmV "ValueError.__new__" = true)
    (p_MossError : keepIn K (.ref C_MossError) = true)
    (x_NoCell : excIn K C_NoCell bmV "ValueError.__new__" = true)
    (p_NoCell : keepIn K (.ref C_NoCell) = true)
    (x_NoMarks : excIn K C_NoMarks bmV "ValueError.__new__" = true)
    (p_NoMarks : keepIn K (.ref C_NoMarks) = true)
    (x_TooMany : excIn K C_TooMany bmV "ValueError.__new__" = true)
    (p_TooMany : keepIn K (.ref C_TooMany) = true)
    (x_TooWide : excIn K C_TooWide bmV "ValueError.__new__" = true)
    (p_TooWide : keepIn K (.ref C_TooWide) = true)
    (xb_ : xbs K C_MossError = true)
    (k_BadCell : xik K C_BadCell C_MossError "place" = true)
    (a_BadCell : Dx K "BadCell.__init__" s_BadCell_i C_BadCell)
    (k_NoText : xik K C_NoText C_MossError "at" = true)
    (a_NoText : Dx K "NoText.__init__" s_NoText_i C_NoText)
    (y_BadCell : exk K C_BadCell = true)
    (y_BadDeed : exk K C_BadDeed = true)
    (y_BadPiece : exk K C_BadPiece = true)
    (y_BadTurn : exk K C_BadTurn = true)
    (y_Endless : exk K C_Endless = true)
    (y_MossError : exk K C_MossError = true)
    (y_NoCell : exk K C_NoCell = true)
    (y_NoMarks : exk K C_NoMarks = true)
    (y_NoText : exk K C_NoText = true)
    (y_TooMany : exk K C_TooMany = true)
    (y_TooWide : exk K C_TooWide = true)
    (j_0_BadCell : kitOne K (.ref C_BadCell) (.ref C_BadPiece) = some false)
    (j_0_BadDeed : kitOne K (.ref C_BadDeed) (.ref C_BadPiece) = some false)
    (j_0_BadPiece : kitOne K (.ref C_BadPiece) (.ref C_BadPiece) = some true)
    (j_0_BadTurn : kitOne K (.ref C_BadTurn) (.ref C_BadPiece) = some false)
    (j_0_Endless : kitOne K (.ref C_Endless) (.ref C_BadPiece) = some false)
    (j_0_MossError : kitOne K (.ref C_MossError) (.ref C_BadPiece) = some false)
    (j_0_NoCell : kitOne K (.ref C_NoCell) (.ref C_BadPiece) = some false)
    (j_0_NoMarks : kitOne K (.ref C_NoMarks) (.ref C_BadPiece) = some false)
    (j_0_NoText : kitOne K (.ref C_NoText) (.ref C_BadPiece) = some false)
    (j_0_TooMany : kitOne K (.ref C_TooMany) (.ref C_BadPiece) = some false)
    (j_0_TooWide : kitOne K (.ref C_TooWide) (.ref C_BadPiece) = some false)
    (j_1_BadCell : kitOne K (.ref C_BadCell) (.ref C_NoText) = some false)
    (j_1_BadDeed : kitOne K (.ref C_BadDeed) (.ref C_NoText) = some false)
    (j_1_BadPiece : kitOne K (.ref C_BadPiece) (.ref C_NoText) = some false)
    (j_1_BadTurn : kitOne K (.ref C_BadTurn) (.ref C_NoText) = some false)
    (j_1_Endless : kitOne K (.ref C_Endless) (.ref C_NoText) = some false)
    (j_1_MossError : kitOne K (.ref C_MossError) (.ref C_NoText) = some false)
    (j_1_NoCell : kitOne K (.ref C_NoCell) (.ref C_NoText) = some false)
    (j_1_NoMarks : kitOne K (.ref C_NoMarks) (.ref C_NoText) = some false)
    (j_1_NoText : kitOne K (.ref C_NoText) (.ref C_NoText) = some true)
    (j_1_TooMany : kitOne K (.ref C_TooMany) (.ref C_NoText) = some false)
    (j_1_TooWide : kitOne K (.ref C_TooWide) (.ref C_NoText) = some false)
    (j_2_BadCell : kitOne K (.ref C_BadCell) (.ref C_BadCell) = some true)
    (j_2_BadDeed : kitOne K (.ref C_BadDeed) (.ref C_BadCell) = some false)
    (j_2_BadPiece : kitOne K (.ref C_BadPiece) (.ref C_BadCell) = some false)
    (j_2_BadTurn : kitOne K (.ref C_BadTurn) (.ref C_BadCell) = some false)
    (j_2_Endless : kitOne K (.ref C_Endless) (.ref C_BadCell) = some false)
    (j_2_MossError : kitOne K (.ref C_MossError) (.ref C_BadCell) = some false)
    (j_2_NoCell : kitOne K (.ref C_NoCell) (.ref C_BadCell) = some false)
    (j_2_NoMarks : kitOne K (.ref C_NoMarks) (.ref C_BadCell) = some false)
    (j_2_NoText : kitOne K (.ref C_NoText) (.ref C_BadCell) = some false)
    (j_2_TooMany : kitOne K (.ref C_TooMany) (.ref C_BadCell) = some false)
    (j_2_TooWide : kitOne K (.ref C_TooWide) (.ref C_BadCell) = some false)
    (j_3_BadCell : kitOne K (.ref C_BadCell) (.ref C_Endless) = some false)
    (j_3_BadDeed : kitOne K (.ref C_BadDeed) (.ref C_Endless) = some false)
    (j_3_BadPiece : kitOne K (.ref C_BadPiece) (.ref C_Endless) = some false)
    (j_3_BadTurn : kitOne K (.ref C_BadTurn) (.ref C_Endless) = some false)
    (j_3_Endless : kitOne K (.ref C_Endless) (.ref C_Endless) = some true)
    (j_3_MossError : kitOne K (.ref C_MossError) (.ref C_Endless) = some false)
    (j_3_NoCell : kitOne K (.ref C_NoCell) (.ref C_Endless) = some false)
    (j_3_NoMarks : kitOne K (.ref C_NoMarks) (.ref C_Endless) = some false)
    (j_3_NoText : kitOne K (.ref C_NoText) (.ref C_Endless) = some false)
    (j_3_TooMany : kitOne K (.ref C_TooMany) (.ref C_Endless) = some false)
    (j_3_TooWide : kitOne K (.ref C_TooWide) (.ref C_Endless) = some false)
    (j_4_BadCell : kitOne K (.ref C_BadCell) (.ref C_TooMany) = some false)
    (j_4_BadDeed : kitOne K (.ref C_BadDeed) (.ref C_TooMany) = some false)
    (j_4_BadPiece : kitOne K (.ref C_BadPiece) (.ref C_TooMany) = some false)
    (j_4_BadTurn : kitOne K (.ref C_BadTurn) (.ref C_TooMany) = some false)
    (j_4_Endless : kitOne K (.ref C_Endless) (.ref C_TooMany) = some false)
    (j_4_MossError : kitOne K (.ref C_MossError) (.ref C_TooMany) = some false)
    (j_4_NoCell : kitOne K (.ref C_NoCell) (.ref C_TooMany) = some false)
    (j_4_NoMarks : kitOne K (.ref C_NoMarks) (.ref C_TooMany) = some false)
    (j_4_NoText : kitOne K (.ref C_NoText) (.ref C_TooMany) = some false)
    (j_4_TooMany : kitOne K (.ref C_TooMany) (.ref C_TooMany) = some true)
    (j_4_TooWide : kitOne K (.ref C_TooWide) (.ref C_TooMany) = some false)
    (j_5_BadCell : kitOne K (.ref C_BadCell) (.ref C_BadTurn) = some false)
    (j_5_BadDeed : kitOne K (.ref C_BadDeed) (.ref C_BadTurn) = some false)
    (j_5_BadPiece : kitOne K (.ref C_BadPiece) (.ref C_BadTurn) = some false)
    (j_5_BadTurn : kitOne K (.ref C_BadTurn) (.ref C_BadTurn) = some true)
    (j_5_Endless : kitOne K (.ref C_Endless) (.ref C_BadTurn) = some false)
    (j_5_MossError : kitOne K (.ref C_MossError) (.ref C_BadTurn) = some false)
    (j_5_NoCell : kitOne K (.ref C_NoCell) (.ref C_BadTurn) = some false)
    (j_5_NoMarks : kitOne K (.ref C_NoMarks) (.ref C_BadTurn) = some false)
    (j_5_NoText : kitOne K (.ref C_NoText) (.ref C_BadTurn) = some false)
    (j_5_TooMany : kitOne K (.ref C_TooMany) (.ref C_BadTurn) = some false)
    (j_5_TooWide : kitOne K (.ref C_TooWide) (.ref C_BadTurn) = some false)
    (j_6_BadCell : kitOne K (.ref C_BadCell) (.ref C_NoMarks) = some false)
    (j_6_BadDeed : kitOne K (.ref C_BadDeed) (.ref C_NoMarks) = some false)
    (j_6_BadPiece : kitOne K (.ref C_BadPiece) (.ref C_NoMarks) = some false)
    (j_6_BadTurn : kitOne K (.ref C_BadTurn) (.ref C_NoMarks) = some false)
    (j_6_Endless : kitOne K (.ref C_Endless) (.ref C_NoMarks) = some false)
    (j_6_MossError : kitOne K (.ref C_MossError) (.ref C_NoMarks) = some false)
    (j_6_NoCell : kitOne K (.ref C_NoCell) (.ref C_NoMarks) = some false)
    (j_6_NoMarks : kitOne K (.ref C_NoMarks) (.ref C_NoMarks) = some true)
    (j_6_NoText : kitOne K (.ref C_NoText) (.ref C_NoMarks) = some false)
    (j_6_TooMany : kitOne K (.ref C_TooMany) (.ref C_NoMarks) = some false)
    (j_6_TooWide : kitOne K (.ref C_TooWide) (.ref C_NoMarks) = some false)
    (j_7_BadCell : kitOne K (.ref C_BadCell) (.ref C_NoCell) = some false)
    (j_7_BadDeed : kitOne K (.ref C_BadDeed) (.ref C_NoCell) = some false)
    (j_7_BadPiece : kitOne K (.ref C_BadPiece) (.ref C_NoCell) = some false)
    (j_7_BadTurn : kitOne K (.ref C_BadTurn) (.ref C_NoCell) = some false)
    (j_7_Endless : kitOne K (.ref C_Endless) (.ref C_NoCell) = some false)
    (j_7_MossError : kitOne K (.ref C_MossError) (.ref C_NoCell) = some false)
    (j_7_NoCell : kitOne K (.ref C_NoCell) (.ref C_NoCell) = some true)
    (j_7_NoMarks : kitOne K (.ref C_NoMarks) (.ref C_NoCell) = some false)
    (j_7_NoText : kitOne K (.ref C_NoText) (.ref C_NoCell) = some false)
    (j_7_TooMany : kitOne K (.ref C_TooMany) (.ref C_NoCell) = some false)
    (j_7_TooWide : kitOne K (.ref C_TooWide) (.ref C_NoCell) = some false)
    (j_8_BadCell : kitOne K (.ref C_BadCell) (.ref C_TooWide) = some false)
    (j_8_BadDeed : kitOne K (.ref C_BadDeed) (.ref C_TooWide) = some false)
    (j_8_BadPiece : kitOne K (.ref C_BadPiece) (.ref C_TooWide) = some false)
    (j_8_BadTurn : kitOne K (.ref C_BadTurn) (.ref C_TooWide) = some false)
    (j_8_Endless : kitOne K (.ref C_Endless) (.ref C_TooWide) = some false)
    (j_8_MossError : kitOne K (.ref C_MossError) (.ref C_TooWide) = some false)
    (j_8_NoCell : kitOne K (.ref C_NoCell) (.ref C_TooWide) = some false)
    (j_8_NoMarks : kitOne K (.ref C_NoMarks) (.ref C_TooWide) = some false)
    (j_8_NoText : kitOne K (.ref C_NoText) (.ref C_TooWide) = some false)
    (j_8_TooMany : kitOne K (.ref C_TooMany) (.ref C_TooWide) = some false)
    (j_8_TooWide : kitOne K (.ref C_TooWide) (.ref C_TooWide) = some true)
    (j_9_BadCell : kitOne K (.ref C_BadCell) (.ref C_BadDeed) = some false)
    (j_9_BadDeed : kitOne K (.ref C_BadDeed) (.ref C_BadDeed) = some true)
    (j_9_BadPiece : kitOne K (.ref C_BadPiece) (.ref C_BadDeed) = some false)
    (j_9_BadTurn : kitOne K (.ref C_BadTurn) (.ref C_BadDeed) = some false)
    (j_9_Endless : kitOne K (.ref C_Endless) (.ref C_BadDeed) = some false)
    (j_9_MossError : kitOne K (.ref C_MossError) (.ref C_BadDeed) = some false)
    (j_9_NoCell : kitOne K (.ref C_NoCell) (.ref C_BadDeed) = some false)
    (j_9_NoMarks : kitOne K (.ref C_NoMarks) (.ref C_BadDeed) = some false)
    (j_9_NoText : kitOne K (.ref C_NoText) (.ref C_BadDeed) = some false)
    (j_9_TooMany : kitOne K (.ref C_TooMany) (.ref C_BadDeed) = some false)
    (j_9_TooWide : kitOne K (.ref C_TooWide) (.ref C_BadDeed) = some false)
    (j_10_BadCell : kitOne K (.ref C_BadCell) (.ref C_MossError) = some true)
    (j_10_BadDeed : kitOne K (.ref C_BadDeed) (.ref C_MossError) = some true)
    (j_10_BadPiece : kitOne K (.ref C_BadPiece) (.ref C_MossError) = some true)
    (j_10_BadTurn : kitOne K (.ref C_BadTurn) (.ref C_MossError) = some true)
    (j_10_Endless : kitOne K (.ref C_Endless) (.ref C_MossError) = some true)
    (j_10_MossError : kitOne K (.ref C_MossError) (.ref C_MossError) = some true)
    (j_10_NoCell : kitOne K (.ref C_NoCell) (.ref C_MossError) = some true)
    (j_10_NoMarks : kitOne K (.ref C_NoMarks) (.ref C_MossError) = some true)
    (j_10_NoText : kitOne K (.ref C_NoText) (.ref C_MossError) = some true)
    (j_10_TooMany : kitOne K (.ref C_TooMany) (.ref C_MossError) = some true)
    (j_10_TooWide : kitOne K (.ref C_TooWide) (.ref C_MossError) = some true)
    (j_11_BadCell : kitOne K (.ref C_BadCell) (.type "ValueError") = some true)
    (j_11_BadDeed : kitOne K (.ref C_BadDeed) (.type "ValueError") = some true)
    (j_11_BadPiece : kitOne K (.ref C_BadPiece) (.type "ValueError") = some true)
    (j_11_BadTurn : kitOne K (.ref C_BadTurn) (.type "ValueError") = some true)
    (j_11_Endless : kitOne K (.ref C_Endless) (.type "ValueError") = some true)
    (j_11_MossError : kitOne K (.ref C_MossError) (.type "ValueError") = some true)
    (j_11_NoCell : kitOne K (.ref C_NoCell) (.type "ValueError") = some true)
    (j_11_NoMarks : kitOne K (.ref C_NoMarks) (.type "ValueError") = some true)
    (j_11_NoText : kitOne K (.ref C_NoText) (.type "ValueError") = some true)
    (j_11_TooMany : kitOne K (.ref C_TooMany) (.type "ValueError") = some true)
    (j_11_TooWide : kitOne K (.ref C_TooWide) (.type "ValueError") = some true)
    (a__law_whole : Dn K "_law_whole" s__law_whole)
    (a__law_classes : Dn K "_law_classes" s__law_classes)
    (a_law : nsIn K mainGlobals "law" = some (some (.ref f_law)))
    (l_law : K.lookup f_law = some ⟨oc_law, od_law, .func (fnOf "law" "law" (defArgs s_law) (defBody s_law) (defScope s_law) .none kV_law dc_law pm_law an_law cd_law ct_law), sl_law⟩)
    (d_law : codeIn K cd_law "law" = true)
    (k_law : keepIn K (.ref f_law) = true)
    (z_ValueError : nsIn K mainGlobals "ValueError" = some none)
    (z_bool : nsIn K mainGlobals "bool" = some none)
    (z_int : nsIn K mainGlobals "int" = some none)
    (z_isinstance : nsIn K mainGlobals "isinstance" = some none)
    (z_len : nsIn K mainGlobals "len" = some none)
    (z_range : nsIn K mainGlobals "range" = some none) :
    ∃ fd : FuncData, (∀ (s : Shared) (v : Value), BindsTo s fd ⟨[v], []⟩ [("script", v)]) ∧ ∀ base : Heap, K.In base → base.Ns mainGlobals mg → FnOk l.prog w K mg base (CXv l.prog w K) 3 fa fd ["script"] (spV K 1 v_law) := by
  have e := hfa.symm.trans (mg_of X G a_law)
  cases e
  have T : Txt K mg C_BadCell C_BadDeed C_BadPiece C_BadTurn C_Endless C_MossError C_NoCell C_NoMarks C_NoText C_TooMany C_TooWide := ⟨mg_none_of X G z_ValueError,
    mg_none_of X G z_bool,
    mg_none_of X G z_int,
    mg_none_of X G z_isinstance,
    mg_none_of X G z_len,
    mg_none_of X G z_range,
    mg_of X G n_BadCell,
    n_BadCell,
    mg_of X G n_BadDeed,
    n_BadDeed,
    mg_of X G n_BadPiece,
    n_BadPiece,
    mg_of X G n_BadTurn,
    n_BadTurn,
    mg_of X G n_Endless,
    n_Endless,
    mg_of X G n_MossError,
    n_MossError,
    mg_of X G n_NoCell,
    n_NoCell,
    mg_of X G n_NoMarks,
    n_NoMarks,
    mg_of X G n_NoText,
    n_NoText,
    mg_of X G n_TooMany,
    n_TooMany,
    mg_of X G n_TooWide,
    n_TooWide,
    x_BadDeed,
    p_BadDeed,
    x_BadPiece,
    p_BadPiece,
    x_BadTurn,
    p_BadTurn,
    x_Endless,
    p_Endless,
    x_MossError,
    p_MossError,
    x_NoCell,
    p_NoCell,
    x_NoMarks,
    p_NoMarks,
    x_TooMany,
    p_TooMany,
    x_TooWide,
    p_TooWide,
    xik_of k_BadCell,
    xik_of k_NoText,
    (isx_cons n_BadCell ⟨y_BadCell, j_0_BadCell⟩ (isx_cons n_BadDeed ⟨y_BadDeed, j_0_BadDeed⟩ (isx_cons n_BadPiece ⟨y_BadPiece, j_0_BadPiece⟩ (isx_cons n_BadTurn ⟨y_BadTurn, j_0_BadTurn⟩ (isx_cons n_Endless ⟨y_Endless, j_0_Endless⟩ (isx_cons n_MossError ⟨y_MossError, j_0_MossError⟩ (isx_cons n_NoCell ⟨y_NoCell, j_0_NoCell⟩ (isx_cons n_NoMarks ⟨y_NoMarks, j_0_NoMarks⟩ (isx_cons n_NoText ⟨y_NoText, j_0_NoText⟩ (isx_cons n_TooMany ⟨y_TooMany, j_0_TooMany⟩ (isx_cons n_TooWide ⟨y_TooWide, j_0_TooWide⟩ isx_nil))))))))))),
    (isx_cons n_BadCell ⟨y_BadCell, j_1_BadCell⟩ (isx_cons n_BadDeed ⟨y_BadDeed, j_1_BadDeed⟩ (isx_cons n_BadPiece ⟨y_BadPiece, j_1_BadPiece⟩ (isx_cons n_BadTurn ⟨y_BadTurn, j_1_BadTurn⟩ (isx_cons n_Endless ⟨y_Endless, j_1_Endless⟩ (isx_cons n_MossError ⟨y_MossError, j_1_MossError⟩ (isx_cons n_NoCell ⟨y_NoCell, j_1_NoCell⟩ (isx_cons n_NoMarks ⟨y_NoMarks, j_1_NoMarks⟩ (isx_cons n_NoText ⟨y_NoText, j_1_NoText⟩ (isx_cons n_TooMany ⟨y_TooMany, j_1_TooMany⟩ (isx_cons n_TooWide ⟨y_TooWide, j_1_TooWide⟩ isx_nil))))))))))),
    (isx_cons n_BadCell ⟨y_BadCell, j_2_BadCell⟩ (isx_cons n_BadDeed ⟨y_BadDeed, j_2_BadDeed⟩ (isx_cons n_BadPiece ⟨y_BadPiece, j_2_BadPiece⟩ (isx_cons n_BadTurn ⟨y_BadTurn, j_2_BadTurn⟩ (isx_cons n_Endless ⟨y_Endless, j_2_Endless⟩ (isx_cons n_MossError ⟨y_MossError, j_2_MossError⟩ (isx_cons n_NoCell ⟨y_NoCell, j_2_NoCell⟩ (isx_cons n_NoMarks ⟨y_NoMarks, j_2_NoMarks⟩ (isx_cons n_NoText ⟨y_NoText, j_2_NoText⟩ (isx_cons n_TooMany ⟨y_TooMany, j_2_TooMany⟩ (isx_cons n_TooWide ⟨y_TooWide, j_2_TooWide⟩ isx_nil))))))))))),
    (isx_cons n_BadCell ⟨y_BadCell, j_3_BadCell⟩ (isx_cons n_BadDeed ⟨y_BadDeed, j_3_BadDeed⟩ (isx_cons n_BadPiece ⟨y_BadPiece, j_3_BadPiece⟩ (isx_cons n_BadTurn ⟨y_BadTurn, j_3_BadTurn⟩ (isx_cons n_Endless ⟨y_Endless, j_3_Endless⟩ (isx_cons n_MossError ⟨y_MossError, j_3_MossError⟩ (isx_cons n_NoCell ⟨y_NoCell, j_3_NoCell⟩ (isx_cons n_NoMarks ⟨y_NoMarks, j_3_NoMarks⟩ (isx_cons n_NoText ⟨y_NoText, j_3_NoText⟩ (isx_cons n_TooMany ⟨y_TooMany, j_3_TooMany⟩ (isx_cons n_TooWide ⟨y_TooWide, j_3_TooWide⟩ isx_nil))))))))))),
    (isx_cons n_BadCell ⟨y_BadCell, j_4_BadCell⟩ (isx_cons n_BadDeed ⟨y_BadDeed, j_4_BadDeed⟩ (isx_cons n_BadPiece ⟨y_BadPiece, j_4_BadPiece⟩ (isx_cons n_BadTurn ⟨y_BadTurn, j_4_BadTurn⟩ (isx_cons n_Endless ⟨y_Endless, j_4_Endless⟩ (isx_cons n_MossError ⟨y_MossError, j_4_MossError⟩ (isx_cons n_NoCell ⟨y_NoCell, j_4_NoCell⟩ (isx_cons n_NoMarks ⟨y_NoMarks, j_4_NoMarks⟩ (isx_cons n_NoText ⟨y_NoText, j_4_NoText⟩ (isx_cons n_TooMany ⟨y_TooMany, j_4_TooMany⟩ (isx_cons n_TooWide ⟨y_TooWide, j_4_TooWide⟩ isx_nil))))))))))),
    (isx_cons n_BadCell ⟨y_BadCell, j_5_BadCell⟩ (isx_cons n_BadDeed ⟨y_BadDeed, j_5_BadDeed⟩ (isx_cons n_BadPiece ⟨y_BadPiece, j_5_BadPiece⟩ (isx_cons n_BadTurn ⟨y_BadTurn, j_5_BadTurn⟩ (isx_cons n_Endless ⟨y_Endless, j_5_Endless⟩ (isx_cons n_MossError ⟨y_MossError, j_5_MossError⟩ (isx_cons n_NoCell ⟨y_NoCell, j_5_NoCell⟩ (isx_cons n_NoMarks ⟨y_NoMarks, j_5_NoMarks⟩ (isx_cons n_NoText ⟨y_NoText, j_5_NoText⟩ (isx_cons n_TooMany ⟨y_TooMany, j_5_TooMany⟩ (isx_cons n_TooWide ⟨y_TooWide, j_5_TooWide⟩ isx_nil))))))))))),
    (isx_cons n_BadCell ⟨y_BadCell, j_6_BadCell⟩ (isx_cons n_BadDeed ⟨y_BadDeed, j_6_BadDeed⟩ (isx_cons n_BadPiece ⟨y_BadPiece, j_6_BadPiece⟩ (isx_cons n_BadTurn ⟨y_BadTurn, j_6_BadTurn⟩ (isx_cons n_Endless ⟨y_Endless, j_6_Endless⟩ (isx_cons n_MossError ⟨y_MossError, j_6_MossError⟩ (isx_cons n_NoCell ⟨y_NoCell, j_6_NoCell⟩ (isx_cons n_NoMarks ⟨y_NoMarks, j_6_NoMarks⟩ (isx_cons n_NoText ⟨y_NoText, j_6_NoText⟩ (isx_cons n_TooMany ⟨y_TooMany, j_6_TooMany⟩ (isx_cons n_TooWide ⟨y_TooWide, j_6_TooWide⟩ isx_nil))))))))))),
    (isx_cons n_BadCell ⟨y_BadCell, j_7_BadCell⟩ (isx_cons n_BadDeed ⟨y_BadDeed, j_7_BadDeed⟩ (isx_cons n_BadPiece ⟨y_BadPiece, j_7_BadPiece⟩ (isx_cons n_BadTurn ⟨y_BadTurn, j_7_BadTurn⟩ (isx_cons n_Endless ⟨y_Endless, j_7_Endless⟩ (isx_cons n_MossError ⟨y_MossError, j_7_MossError⟩ (isx_cons n_NoCell ⟨y_NoCell, j_7_NoCell⟩ (isx_cons n_NoMarks ⟨y_NoMarks, j_7_NoMarks⟩ (isx_cons n_NoText ⟨y_NoText, j_7_NoText⟩ (isx_cons n_TooMany ⟨y_TooMany, j_7_TooMany⟩ (isx_cons n_TooWide ⟨y_TooWide, j_7_TooWide⟩ isx_nil))))))))))),
    (isx_cons n_BadCell ⟨y_BadCell, j_8_BadCell⟩ (isx_cons n_BadDeed ⟨y_BadDeed, j_8_BadDeed⟩ (isx_cons n_BadPiece ⟨y_BadPiece, j_8_BadPiece⟩ (isx_cons n_BadTurn ⟨y_BadTurn, j_8_BadTurn⟩ (isx_cons n_Endless ⟨y_Endless, j_8_Endless⟩ (isx_cons n_MossError ⟨y_MossError, j_8_MossError⟩ (isx_cons n_NoCell ⟨y_NoCell, j_8_NoCell⟩ (isx_cons n_NoMarks ⟨y_NoMarks, j_8_NoMarks⟩ (isx_cons n_NoText ⟨y_NoText, j_8_NoText⟩ (isx_cons n_TooMany ⟨y_TooMany, j_8_TooMany⟩ (isx_cons n_TooWide ⟨y_TooWide, j_8_TooWide⟩ isx_nil))))))))))),
    (isx_cons n_BadCell ⟨y_BadCell, j_9_BadCell⟩ (isx_cons n_BadDeed ⟨y_BadDeed, j_9_BadDeed⟩ (isx_cons n_BadPiece ⟨y_BadPiece, j_9_BadPiece⟩ (isx_cons n_BadTurn ⟨y_BadTurn, j_9_BadTurn⟩ (isx_cons n_Endless ⟨y_Endless, j_9_Endless⟩ (isx_cons n_MossError ⟨y_MossError, j_9_MossError⟩ (isx_cons n_NoCell ⟨y_NoCell, j_9_NoCell⟩ (isx_cons n_NoMarks ⟨y_NoMarks, j_9_NoMarks⟩ (isx_cons n_NoText ⟨y_NoText, j_9_NoText⟩ (isx_cons n_TooMany ⟨y_TooMany, j_9_TooMany⟩ (isx_cons n_TooWide ⟨y_TooWide, j_9_TooWide⟩ isx_nil))))))))))),
    (isx_cons n_BadCell ⟨y_BadCell, j_10_BadCell⟩ (isx_cons n_BadDeed ⟨y_BadDeed, j_10_BadDeed⟩ (isx_cons n_BadPiece ⟨y_BadPiece, j_10_BadPiece⟩ (isx_cons n_BadTurn ⟨y_BadTurn, j_10_BadTurn⟩ (isx_cons n_Endless ⟨y_Endless, j_10_Endless⟩ (isx_cons n_MossError ⟨y_MossError, j_10_MossError⟩ (isx_cons n_NoCell ⟨y_NoCell, j_10_NoCell⟩ (isx_cons n_NoMarks ⟨y_NoMarks, j_10_NoMarks⟩ (isx_cons n_NoText ⟨y_NoText, j_10_NoText⟩ (isx_cons n_TooMany ⟨y_TooMany, j_10_TooMany⟩ (isx_cons n_TooWide ⟨y_TooWide, j_10_TooWide⟩ isx_nil))))))))))),
    (isx_cons n_BadCell ⟨y_BadCell, j_11_BadCell⟩ (isx_cons n_BadDeed ⟨y_BadDeed, j_11_BadDeed⟩ (isx_cons n_BadPiece ⟨y_BadPiece, j_11_BadPiece⟩ (isx_cons n_BadTurn ⟨y_BadTurn, j_11_BadTurn⟩ (isx_cons n_Endless ⟨y_Endless, j_11_Endless⟩ (isx_cons n_MossError ⟨y_MossError, j_11_MossError⟩ (isx_cons n_NoCell ⟨y_NoCell, j_11_NoCell⟩ (isx_cons n_NoMarks ⟨y_NoMarks, j_11_NoMarks⟩ (isx_cons n_NoText ⟨y_NoText, j_11_NoText⟩ (isx_cons n_TooMany ⟨y_TooMany, j_11_TooMany⟩ (isx_cons n_TooWide ⟨y_TooWide, j_11_TooWide⟩ isx_nil)))))))))))⟩
  have F_law := fun_mk (st := s_law) l_law d_law k_law
  refine ⟨fnOf "law" "law" (defArgs s_law) (defBody s_law) (defScope s_law) .none kV_law dc_law pm_law an_law cd_law ct_law, fun s v => .of_eq rfl, fun base _ _ => ?_⟩
  have O_BadCell := ox_BadCell (P := l.prog) (w := w) (base := base) T a_BadCell xb_ k_BadCell
  have O_NoText := ox_NoText (P := l.prog) (w := w) (base := base) T a_NoText xb_ k_NoText
  have O__law_whole := ok__law_whole (P := l.prog) (w := w) (base := base) T (a__law_whole.ent X G) 
  have O__law_classes := ok__law_classes (P := l.prog) (w := w) (base := base) T (a__law_classes.ent X G) 
  exact fn_v F_law sc_law fun cdv A outer s H E B hr => b_law T O_NoText O_BadCell O__law_classes O__law_whole hr (passC_of pass_body rfl)
end
end K08

set_option Elab.async false
set_option linter.all false
set_option maxRecDepth 100000
set_option maxHeartbeats 4000000
namespace K08
open PySem PySem.Spec PySem.Calls PySem.W L2 Vl
abbrev ERR (p : Int) : List D := [.exn "BadCell" (2 * p + 1), .exn "NoText" (2 * p + 1), .exn "BadPiece" 0, .exn "BadTurn" 0, .exn "TooMany" 0, .exn "Endless" 0, .exn "TooWide" 0, .exn "NoCell" 0, .exn "NoMarks" 0, .exn "BadDeed" 0]
theorem body_ok (S C P W b : Sl) (p : Int) (j : Nat) (hj : j < 10) : B_law_1 [S, C, P, W, .fz (.lst (ERR p)), .fz (.int j), b] = .nx [S, C, P, W, .fz (.lst (ERR p)), .fz (.int j), b] := by
  rcases (show j = 0 ∨ j = 1 ∨ j = 2 ∨ j = 3 ∨ j = 4 ∨ j = 5 ∨ j = 6 ∨ j = 7 ∨ j = 8 ∨ j = 9 by omega) with rfl | rfl | rfl | rfl | rfl | rfl | rfl | rfl | rfl | rfl <;> kernel_rfl
theorem loop_ok (S C P W b : Sl) (p : Int) (a : Sl) : ∃ a' : Sl, gForR (hName 5) B_law_1 (fA (fCons (fVar 4) fNil) gLen) [S, C, P, W, .fz (.lst (ERR p)), a, b] = .nx [S, C, P, W, .fz (.lst (ERR p)), a', b] := by
  obtain ⟨ρ', e1, a', rfl⟩ := forD_all (h := hName 5) (g := B_law_1) (fun ρ => ∃ a : Sl, ρ = [S, C, P, W, .fz (.lst (ERR p)), a, b]) (ds := (List.range 10).map fun (i : Nat) => .int i) (ρ := [S, C, P, W, .fz (.lst (ERR p)), a, b]) ⟨_, rfl⟩ (by
    rintro d hd ρ ⟨a, rfl⟩
    obtain ⟨j, hj, rfl⟩ := List.mem_map.mp hd
    exact ⟨_, _, rfl, body_ok S C P W b p j (List.mem_range.mp hj), .fz (.int j), rfl⟩)
  exact ⟨a', s_forR (N := 10) (v_a (v_cons (v_var rfl) v_nil) rfl) (show (10 : Int) < 2 ^ 62 by decide) rfl e1⟩
theorem w_whole (i : Int) : v__law_whole [.int i] = .ok (.bl true) := by kernel_rfl
theorem at_x {x : Str} (p : Int) : gXat x (.exn x (2 * p + 1)) = .ok (.int p) := by
  show (if x = x ∧ (2 * p + 1) % 2 = 1 then Rs.ok (D.int ((2 * p + 1) / 2)) else .no) = _
  rw [if_pos ⟨rfl, by omega⟩, show (2 * p + 1) / 2 = p by omega]
theorem mk_x {x : Str} {p : Int} (h : p.natAbs.log2 < 1000) : gMkx x [.int p] = .ok (.exn x (2 * p + 1)) := by
  show (if p.natAbs.log2 < 1000 then Rs.ok (D.exn x (2 * p + 1)) else .no) = _
  rw [if_pos h]
theorem slS_ok (i : Int) : ∃ y, gSlS none (some i) (.str "abcdefgh") = .ok (.str y) := by
  refine ⟨Txt.slice "abcdefgh" none (some i), ?_⟩
  unfold gSlS
  dsimp only
  rw [if_pos (by decide)]
theorem v_slS {fe : Rho → Rs D} {fl fh : Rho → Rs (Option Int)} {ρ : Rho} {x d : D} {lo hi : Option Int} (h1 : fe ρ = .ok x) (h2 : fl ρ = .ok lo) (h3 : fh ρ = .ok hi) (h4 : gSlS lo hi x = .ok d) : fSlS fe fl fh ρ = .ok d := by
  unfold fSlS; rw [h1]; show (fl ρ).bind _ = _; rw [h2]; show (fh ρ).bind _ = _; rw [h3]; exact h4
theorem v_P {f : Rho → Rs D} {ρ : Rho} {i : Int} (h : f ρ = .ok (.int i)) : fP f ρ = .ok (some i) := by unfold fP; rw [h]; rfl
theorem log_small {p : Int} (h0 : 0 ≤ p) (h1 : p < 2 ^ 200) : p.natAbs.log2 < 1000 := by
  have : p.natAbs < 2 ^ 200 := by omega
  by_cases z : p.natAbs = 0
  · rw [z]; decide
  · exact Nat.lt_trans ((Nat.log2_lt z).mpr this) (by decide)
theorem cell_ok (c : Int) (S a2 a3 a4 a5 a6 : Sl) : ∃ b2 b3 b4 b5 b6 : Sl, B_law_2 [S, .fz (.int c), a2, a3, a4, a5, a6] = .nx [S, .fz (.int c), b2, b3, b4, b5, b6] := by
  have p1 : gPow (.int 10) (.int 30) = .ok (.int (10 ^ Int.toNat 30)) := q_pow ⟨by decide, by decide, by decide⟩
  have T0 : 0 < (10 : Int) ^ Int.toNat 30 := by decide
  have T1 : (10 : Int) ^ Int.toNat 30 < 2 ^ 200 := by decide
  generalize (10 : Int) ^ Int.toNat 30 = T at p1 T0 T1
  have f0 : 0 ≤ c % T := Int.emod_nonneg _ (by omega)
  have f1 : c % T < T := Int.emod_lt_of_pos _ T0
  have pm := q_mod (m := c) (n := T) T0
  generalize c % T = p at f0 f1 pm
  have hs := log_small f0 (by omega)
  obtain ⟨y, ey⟩ := slS_ok (c / 7 % 8)
  obtain ⟨a', el⟩ := loop_ok S (.fz (.int c)) (.fz (.int p)) (.fz (.str y)) a6 p a5
  refine ⟨.fz (.int p), .fz (.str y), .fz (.lst (ERR p)), a', .fz (.exn "MossError" 0), ?_⟩
  unfold B_law_2
  refine seq_nx (ρ1 := [S, .fz (.int c), .fz (.int p), a3, a4, a5, a6]) (s_set (v_op (v_var rfl) (v_op v_c v_c p1) pm)) ?_
  refine seq_nx (ρ1 := [S, .fz (.int c), .fz (.int p), .fz (.str y), a4, a5, a6]) (s_set (v_slS v_c rfl (v_P (v_op (v_op (v_var rfl) v_c (q_div ⟨by decide, by decide⟩)) v_c (q_mod (by decide)))) ey)) ?_
  refine seq_nx (ρ1 := [S, .fz (.int c), .fz (.int p), .fz (.str y), .fz (.lst ((ERR p).take 6)), a5, a6]) (s_set (v_a (v_cons (v_a (v_cons (v_var rfl) v_nil) (mk_x hs)) (v_cons (v_a (v_cons (v_var rfl) v_nil) (mk_x hs)) (v_cons (v_a (v_cons (v_var rfl) v_nil) rfl) (v_cons (v_a (v_cons (v_var rfl) v_nil) rfl) (v_cons (v_a (v_cons (v_var rfl) v_nil) rfl) (v_cons (v_a (v_cons (v_var rfl) v_nil) rfl) v_nil)))))) (v_lst (by simp)))) ?_
  refine seq_nx (ρ1 := [S, .fz (.int c), .fz (.int p), .fz (.str y), .fz (.lst (ERR p)), a5, a6]) (s_set (v_op (v_var rfl) (v_a (v_cons (v_a (v_cons (v_var rfl) v_nil) rfl) (v_cons (v_a (v_cons (v_var rfl) v_nil) rfl) (v_cons (v_a (v_cons (v_var rfl) v_nil) rfl) (v_cons (v_a (v_cons (v_var rfl) v_nil) rfl) v_nil)))) (v_lst (by simp))) (gPlus_lst (show (10 : Nat) ≤ 1000000 by decide)))) ?_
  refine seq_nx el ?_
  refine seq_nx (s_if_f (v_or_f (v_not (t := true) (v_t (v_a (v_cons (v_b (v_op (v_var rfl) v_c rfl) (at_x p)) v_nil) (v_call rfl (w_whole p))))) (v_not (t := true) (v_t (v_a (v_cons (v_b (v_op (v_var rfl) v_c rfl) (at_x p)) v_nil) (v_call rfl (w_whole p)))))) s_nx) ?_
  refine seq_nx (s_if_f (v_or_f (v_t (v_op (v_b (v_op (v_var rfl) v_c rfl) (at_x p)) (v_var rfl) (by rw [q_neI, decide_eq_true rfl]; rfl))) (v_t (v_op (v_b (v_op (v_var rfl) v_c rfl) (at_x p)) (v_var rfl) (by rw [q_neI, decide_eq_true rfl]; rfl)))) s_nx) ?_
  refine seq_nx (ρ1 := [S, .fz (.int c), .fz (.int p), .fz (.str y), .fz (.lst (ERR p)), a', .fz (.exn "MossError" 0)]) (s_set (v_a (v_cons (v_var rfl) v_nil) rfl)) ?_
  exact s_if_f (v_or_f (v_not (t := true) (v_t (v_b (v_var rfl) (by kernel_rfl)))) (v_t (v_op v_c (v_a (v_cons (v_var rfl) v_nil) (v_call rfl (show v__law_classes [.exn "MossError" 0] = .ok (.lst [.bl false, .bl false, .bl false, .bl false, .bl false, .bl false, .bl false, .bl false, .bl false, .bl false]) by kernel_rfl))) (by kernel_rfl)))) s_nx
theorem law_true (ns : List Int) (hn : ns.length ≤ 63) : v_law [.lst (ns.map D.int)] = .ok (.bl true) := by
  obtain ⟨ρ', e1, _⟩ := forD_all (h := hName 1) (g := B_law_2) (fun ρ => ∃ a1 a2 a3 a4 a5 a6 : Sl, ρ = [.fz (.lst (ns.map D.int)), a1, a2, a3, a4, a5, a6]) (ds := cutD (ns.map D.int) none (some 20) ++ [.int 0]) (ρ := [.fz (.lst (ns.map D.int)), .no, .no, .no, .no, .no, .no]) ⟨_, _, _, _, _, _, rfl⟩ (by
    rintro d hd ρ ⟨a1, a2, a3, a4, a5, a6, rfl⟩
    have : ∃ x, d = .int x := by
      rcases List.mem_append.mp hd with h | h
      · obtain ⟨x, _, rfl⟩ := List.mem_map.mp (List.mem_of_mem_drop (List.mem_of_mem_take h)); exact ⟨x, rfl⟩
      · exact ⟨0, List.mem_singleton.mp h⟩
    obtain ⟨x, rfl⟩ := this
    obtain ⟨b2, b3, b4, b5, b6, e⟩ := cell_ok x (.fz (.lst (ns.map D.int))) a2 a3 a4 a5 a6
    exact ⟨_, _, rfl, e, _, _, _, _, _, _, rfl⟩)
  have lc : (cutD (ns.map D.int) none (some 20)).length ≤ 63 := Nat.le_trans (List.length_take_le' _ _) (Nat.le_trans (by rw [List.length_drop]; exact Nat.sub_le _ _) (by rw [List.length_map]; exact hn))
  have run : g_law (startR ["script", "cell", "place", "words", "errors", "k", "base"] [.lst (ns.map D.int)]) = .rt (.bl true) := by
    unfold g_law
    exact seq_nx (s_nox (s_forL (v_op (show fSl (fVar 0) fNoP (fP (fC (.int 20))) _ = _ from rfl) (v_a (v_cons v_c v_nil) (v_lst (by simp))) (gPlus_lst (by simp only [List.length_cons, List.length_nil]; omega))) e1)) (s_ret v_c)
  unfold v_law; rw [run]; rfl
end K08

set_option Elab.async false
set_option linter.all false
open PySem PySem.W PyProof.Rows
set_option maxRecDepth 100000 in
set_option maxHeartbeats 0 in
theorem PySem.Challenge.cw_edgemoss_k08_whole_refusals_holds : PySem.Challenge.rw_edgemoss_k08_whole_refusals.Holds := by
  w_on; o_law; k_head; (case hw => w_witness2)
  k_fill
  refine Vl.walk_v (l := PySem.Challenge.rw_edgemoss_k08_whole_refusals) (k := 3) (v := K08.v_law) rfl rfl ⟨rfl, by decide, by decide⟩ (fun w h Y => PySem.W.kIn_of Y) ?L ?V ?F
  case L => exact fun w => by kernel_rfl
  case V => exact K08.law_true
  case F =>
    intro w mg fa h KX G hmg
    refine' K08.all_mk KX G hmg ?_ ?_ ?_ ?_ ?_ ?_ ?_ ?_ ?_ ?_ ?_ ?_ ?_ ?_ ?_ ?_ ?_ ?_ ?_ ?_ ?_ ?_ ?_ ?_ ?_ ?_ ?_ ?_ ?_ ?_ ?_ ?_ ?_ ?_ ?_ ?_ ?_ ?_ ?_ ?_ ?_ ?_ ?_ ?_ ?_ ?_ ?_ ?_ ?_ ?_ ?_ ?_ ?_ ?_ ?_ ?_ ?_ ?_ ?_ ?_ ?_ ?_ ?_ ?_ ?_ ?_ ?_ ?_ ?_ ?_ ?_ ?_ ?_ ?_ ?_ ?_ ?_ ?_ ?_ ?_ ?_ ?_ ?_ ?_ ?_ ?_ ?_ ?_ ?_ ?_ ?_ ?_ ?_ ?_ ?_ ?_ ?_ ?_ ?_ ?_ ?_ ?_ ?_ ?_ ?_ ?_ ?_ ?_ ?_ ?_ ?_ ?_ ?_ ?_ ?_ ?_ ?_ ?_ ?_ ?_ ?_ ?_ ?_ ?_ ?_ ?_ ?_ ?_ ?_ ?_ ?_ ?_ ?_ ?_ ?_ ?_ ?_ ?_ ?_ ?_ ?_ ?_ ?_ ?_ ?_ ?_ ?_ ?_ ?_ ?_ ?_ ?_ ?_ ?_ ?_ ?_ ?_ ?_ ?_ ?_ ?_ ?_ ?_ ?_ ?_ ?_ ?_ ?_ ?_ ?_ ?_ ?_ ?_ ?_ ?_ ?_ ?_ ?_ ?_ ?_ ?_ ?_ ?_ ?_ ?_ ?_ ?_ ?_ ?_
    all_goals try refine' Vl.Dn.mk ?_ ?_ ?_ ?_
    all_goals try refine' Vl.Dx.mk ?_ ?_ ?_ ?_ ?_ ?_ ?_
    all_goals try first|k_is|kernel_rfl|k_exc

