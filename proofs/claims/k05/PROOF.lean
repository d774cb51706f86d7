import PyProof.Rows.All
import Wide.All
import OpenK.AllK
import Wide.FinOn
import Lean
import PyProof.EqAt
import PyProof.EqKinds
import PyProof.TupleCall
import PyProof.NeKinds
import PyProof.NsDelKeeps
import KE.KTryMore
import KE.RegKTryMore
import PySem.Challenge.RW_edgemoss_k05_cells_turned
set_option Elab.async false
set_option linter.all false
set_option maxRecDepth 100000
/-! THE HAND LAYER, for ints, bools, texts, own classes, LISTS and tuples (index, slices, in, append, pop ..), calls, loops. Paste it whole ahead of your own text; what your proof does not reach may be deleted. -/
namespace L2
open PySem PySem.Spec PyProof.Rows

/-- a key: an int or a str -/
abbrev Key := Sum Int Str
def keyIs : Key → Value → Bool
  | .inl k, v => Value.isInt k v
  | .inr x, v => Value.isStrOf x v
def keyH (w : World) : Key → Int
  | .inl k => hashInt k
  | .inr x => hashStr w x
theorem keyIs_shape : ∀ {k : Key} {v : Value}, keyIs k v = true → (∃ i t, k = Sum.inl i ∧ v = Value.int i t) ∨ (∃ x t, k = Sum.inr x ∧ v = Value.str x t)
  | .inl i, v, h => by
    obtain ⟨t, e⟩ := Value.isInt_shape (k := i) (v := v) h
    exact .inl ⟨i, t, rfl, e⟩
  | .inr x, v, h => by
    obtain ⟨t, e⟩ := Value.isStrOf_shape (x := x) (v := v) h
    exact .inr ⟨x, t, rfl, e⟩
theorem keyIs_int (i : Int) (t : Tok) : keyIs (.inl i) (.int i t) = true := by simp [keyIs, Value.isInt]
theorem keyIs_str (x : Str) (t : Tok) : keyIs (.inr x) (.str x t) = true := by simp [keyIs, Value.isStrOf]
theorem key_ll (a b : Int) : decide ((Sum.inl a : Key) = Sum.inl b) = (a == b) := by
  by_cases e : a = b
  · subst e; simp
  · have h : ¬ (Sum.inl a : Key) = Sum.inl b := fun q => e (Sum.inl.inj q)
    rw [decide_eq_false h]
    exact (beq_eq_false_iff_ne.mpr e).symm
theorem key_rr (a b : Str) : decide ((Sum.inr a : Key) = Sum.inr b) = decide (a = b) := by
  by_cases e : a = b
  · subst e; simp
  · have h : ¬ (Sum.inr a : Key) = Sum.inr b := fun q => e (Sum.inr.inj q)
    rw [decide_eq_false h, decide_eq_false e]
theorem key_lr (a : Int) (b : Str) : decide ((Sum.inl a : Key) = Sum.inr b) = false := decide_eq_false (fun q => nomatch q)
theorem key_rl (a : Str) (b : Int) : decide ((Sum.inr a : Key) = Sum.inl b) = false := decide_eq_false (fun q => nomatch q)

def mixKind (prog : Program) (w : World) : PySem.KeyKind prog w Key where
  is := keyIs
  hash := keyH w
  inj := fun v a b ha hb => by
    rcases keyIs_shape ha with ⟨i, t, rfl, rfl⟩ | ⟨x, t, rfl, rfl⟩
    · rcases keyIs_shape hb with ⟨j, u, rfl, e⟩ | ⟨y, u, rfl, e⟩
      · injection e with e1 _; rw [e1]
      · exact nomatch e
    · rcases keyIs_shape hb with ⟨j, u, rfl, e⟩ | ⟨y, u, rfl, e⟩
      · exact nomatch e
      · injection e with e1 _; rw [e1]
  byValue := fun k v h => by
    rcases keyIs_shape h with ⟨i, t, rfl, rfl⟩ | ⟨x, t, rfl, rfl⟩ <;> rfl
  pyHash := fun hv h => by
    rcases keyIs_shape hv with ⟨i, t, rfl, rfl⟩ | ⟨x, t, rfl, rfl⟩
    · exact wpAny_pyHash_int h
    · exact wpAny_pyHash_str h
  eqBool := fun hu hv h => by
    rcases keyIs_shape hu with ⟨i, t, rfl, rfl⟩ | ⟨x, t, rfl, rfl⟩
    · rcases keyIs_shape hv with ⟨j, u, rfl, rfl⟩ | ⟨y, u, rfl, rfl⟩
      · rw [key_ll] at h; exact wpAny_eqBool_int h
      · rw [key_lr] at h; exact SeqAt.EqAt.int_str i t y u _ _ _ _ h
    · rcases keyIs_shape hv with ⟨j, u, rfl, rfl⟩ | ⟨y, u, rfl, rfl⟩
      · rw [key_rl] at h; exact SeqAt.EqAt.str_int x t j u _ _ _ _ h
      · rw [key_rr] at h; exact wpAny_eqBool_str h
  «strs» := fun k x t v h => by
    rcases keyIs_shape h with ⟨i, u, rfl, e⟩ | ⟨y, u, rfl, e⟩
    · exact nomatch e
    · injection e with e1 _
      subst e1
      cases v <;> rfl

theorem mixKind_is (prog : Program) (w : World) (k : Key) (v : Value) : (mixKind prog w).is k v = keyIs k v := rfl
theorem mixKind_int (prog : Program) (w : World) (i : Int) (t : Tok) : (mixKind prog w).is (.inl i) (.int i t) = true := keyIs_int i t
theorem mixKind_str (prog : Program) (w : World) (x : Str) (t : Tok) : (mixKind prog w).is (.inr x) (.str x t) = true := keyIs_str x t
end L2

namespace L2
open PySem PySem.Spec PyProof.Rows

/-- a value, without the heap -/
inductive V where
  | non | bl (b : Bool) | int (i : Int) | str (x : Str) | byt (b : Array UInt8) | flt (b : UInt64) | ref (a : Addr) | ty (n : String)
  deriving DecidableEq

def RelV : V → Value → Prop
  | .non, u => u = Value.none
  | .bl b, u => u = Value.bool b
  | .int i, u => ∃ t, u = Value.int i t
  | .str x, u => ∃ t, u = Value.str x t
  | .byt b, u => ∃ t, u = Value.bytes b t
  | .flt b, u => ∃ t, u = Value.float b t
  | .ref a, u => u = Value.ref a
  | .ty n, u => u = Value.type n

abbrev Vals : List V → List Value → Prop := Paired RelV
theorem Vals.length {xs : List V} {us : List Value} (r : Vals xs us) : xs.length = us.length := Paired.length r
theorem Vals.get : ∀ {xs : List V} {us : List Value} {i : Nat} {x : V}, Vals xs us → xs[i]? = some x → ∃ u, us[i]? = some u ∧ RelV x u
  | _, _, _, _, .nil, e => by simp at e
  | _, _, 0, _, .cons r _, e => by simp at e; subst e; exact ⟨_, rfl, r⟩
  | _, _, i + 1, x, .cons _ t, e => by
    obtain ⟨u, h1, h2⟩ := Vals.get (i := i) (x := x) t (by simpa using e)
    exact ⟨u, by simpa using h1, h2⟩
theorem Vals.set {x : V} {u : Value} (r : RelV x u) : ∀ {xs : List V} {us : List Value} (i : Nat), Vals xs us → Vals (xs.set i x) (us.set i u)
  | _, _, _, .nil => .nil
  | _, _, 0, .cons _ t => .cons r t
  | _, _, i + 1, .cons q t => .cons q (Vals.set r i t)
theorem Vals.append : ∀ {xs ys : List V} {us ws : List Value}, Vals xs us → Vals ys ws → Vals (xs ++ ys) (us ++ ws)
  | _, _, _, _, .nil, s => s
  | _, _, _, _, .cons r t, s => .cons r (Vals.append t s)
theorem Vals.take : ∀ {xs : List V} {us : List Value} (n : Nat), Vals xs us → Vals (xs.take n) (us.take n)
  | _, _, 0, _ => .nil
  | _, _, _ + 1, .nil => .nil
  | _, _, n + 1, .cons r t => .cons r (Vals.take n t)
theorem Vals.drop : ∀ {xs : List V} {us : List Value} (n : Nat), Vals xs us → Vals (xs.drop n) (us.drop n)
  | _, _, 0, r => r
  | _, _, _ + 1, .nil => .nil
  | _, _, n + 1, .cons _ t => Vals.drop n t
theorem Vals.none_of : ∀ {xs : List V} {us : List Value} {i : Nat}, Vals xs us → xs[i]? = none → us[i]? = none := fun {xs us i} r e => by
  have h1 := r.length
  have h2 : xs.length ≤ i := List.getElem?_eq_none_iff.mp e
  exact List.getElem?_eq_none_iff.mpr (by omega)

def RelO : Option V → Option Value → Prop
  | some v, some u => RelV v u
  | none, none => True
  | _, _ => False
def KV {κ : Type} : List (κ × V) → List (κ × Value) → Prop := Paired fun (p : κ × V) (q : κ × Value) => p.1 = q.1 ∧ RelV p.2 q.2

/-- a key of a dict (00_mix): an int or a text -/
def kV : Key → V
  | .inl i => .int i
  | .inr x => .str x

/-- what stands at a tracked address -/
inductive HO where
  /-- a list -/
  | lst (xs : List V)
  /-- a tuple (never changes) -/
  | tup (xs : List V)
  /-- a dict whose keys are ints and texts; one whose keys are tuples of ints and texts (the empty one is both) -/
  | dK (kvs : List (Key × V)) | dT (kvs : List (List Key × V))
  /-- a set of ints: its members, its size -/
  | set (S : Int → Bool) (n : Nat)
  /-- an instance of the class at C, its dict at dx, its attributes -/
  | ins (C dx : Addr) (fs : List (Str × V))
  /-- the dict of the instance at x -/
  | own (x : Addr)
  /-- the dict of an exception -/
  | xd (fs : List (Str × V))
  /-- a bound method, f of x -/
  | met (f x : Addr)
  /-- a range object lo, lo + 1, .. below hi -/
  | rng (lo hi : Int)
  /-- a thing that is known to the object (the script; a dict while a loop walks it): read, never written while it is so -/
  | frz (o : Obj) (u : HO)
  /-- a code object's table -/
  | tbl (ps : Array Value)
  /-- any other thing, by what is true of its one object (a def of one's own: SetO a S n := HO.ext fun h => ..) -/
  | ext (φ : Heap → Prop)

abbrev Hp := Addr → Option HO
def upd (H : Hp) (a : Addr) (o : HO) : Hp := fun b => if b = a then some o else H b
theorem upd_same {H : Hp} {a : Addr} {o : HO} : upd H a o a = some o := by unfold upd; rw [if_pos rfl]
theorem upd_ne {H : Hp} {a b : Addr} {o : HO} (h : b ≠ a) : upd H a o b = H b := by unfold upd; rw [if_neg h]
theorem upd_upd {H : Hp} {a : Addr} {o u : HO} : upd (upd H a o) a u = upd H a u := by
  funext b; unfold upd; split <;> rfl
/-- two objects of different content stand apart -/
theorem ne_of {H : Hp} {a b : Addr} {o u : HO} (h : H a = some o) (h' : H b = some u) (d : o ≠ u) : a ≠ b := by
  intro e; subst e; rw [h] at h'; exact d (Option.some.inj h')
theorem ne_of_none {H : Hp} {a b : Addr} {o : HO} (h : H a = some o) (h' : H b = none) : a ≠ b := by
  intro e; subst e; rw [h] at h'; cases h'

section
variable (P : Program) (w : World)
def ObjOk (H : Hp) (h : Heap) (a : Addr) : HO → Prop
  | .lst xs => xs.length ≤ sizeLine ∧ ∃ (its : List Value) (n : Nat), Vals xs its ∧ h.get? a = some { cls := .type "list", data := .seq its.toArray n }
  | .tup xs => xs.length ≤ sizeLine ∧ ∃ its : List Value, Vals xs its ∧ IsTup h a its.toArray
  | .dK kvs => kvs.length ≤ sizeLine ∧ (a == sysModules) = false ∧ ∃ vs, KV kvs vs ∧ h.DictOf (mixKind P w) a vs
  | .dT kvs => kvs.length ≤ sizeLine ∧ (a == sysModules) = false ∧ ∃ xs : List (List Key × Addr × Value),
      Paired (fun (p : List Key × V) (q : List Key × Addr × Value) => p.1 = q.1 ∧ H q.2.1 = some (.tup (p.1.map kV)) ∧ RelV p.2 q.2.2) kvs xs ∧
      ∃ o es ep, h.get? a = some o ∧ o.ExactDict ∧ o.data = .dict es ep ∧ es.toList = xs.map (entryOfKey (tupleKind (mixKind P w))) ∧ (xs.map (·.1)).Nodup
  | .set S n => h.SetOf (intKind P w) a S n
  | .ins C dx fs => H dx = some (.own a) ∧ fs.length ≤ 1000 ∧ dx ≠ a ∧ h.get? a = some (PySem.W.instObj C dx) ∧
      ∃ mA, h.Ns1 dx mA ∧ (∀ f, RelO (fs.lookup f) (mA f)) ∧ PySem.Within mA (fs.map (·.1))
  | .own _ => ∃ o, h.get? a = some o
  | .xd fs => ∃ mA, h.Ns1 a mA ∧ ∀ f, RelO (fs.lookup f) (mA f)
  | .rng lo hi => ∃ t u v, h.get? a = some { cls := .type "range", data := .fields #[.int lo t, .int hi u, .int 1 v] }
  | .frz o u => h.get? a = some o ∧ ObjOk H h a u
  | .tbl ps => h.get? a = some { cls := .none, data := .fields ps }
  | .met f x => h.get? a = some (PySem.W.methodObj (.ref f) (.ref x))
  | .ext φ => φ h ∧ (∃ o, h.get? a = some o) ∧ ∀ h1 h2 : Heap, φ h1 → (∀ o, h1.get? a = some o → h2.get? a = some o) → φ h2
/-- the abstract heap is held -/
def HOk (H : Hp) (h : Heap) : Prop := ∀ a o, H a = some o → ObjOk P w H h a o
end

section
variable {P : Program} {w : World} {H H' : Hp} {h h' : Heap} {a : Addr} {o : HO}
theorem ObjOk.lt (x : ObjOk P w H h a o) : a < h.objs.size := by
  cases o with
  | lst xs => obtain ⟨_, _, _, _, e⟩ := x; exact Heap.lt_size e
  | tup xs => obtain ⟨_, _, _, p⟩ := x; exact p.lt
  | dK kvs => obtain ⟨_, _, _, _, o, _, _, e, _⟩ := x; exact Heap.lt_size e
  | dT kvs => obtain ⟨_, _, _, _, o, _, _, e, _⟩ := x; exact Heap.lt_size e
  | set S n => obtain ⟨o, _, _, _, e, _⟩ := x; exact Heap.lt_size e
  | ins C dx fs => obtain ⟨_, _, _, e, _⟩ := x; exact Heap.lt_size e
  | own y => obtain ⟨_, e⟩ := x; exact Heap.lt_size e
  | xd fs => obtain ⟨_, ⟨_, _, _, e, _⟩, _⟩ := x; exact Heap.lt_size e
  | rng lo hi => obtain ⟨_, _, _, e⟩ := x; exact Heap.lt_size e
  | frz ob u => obtain ⟨e, _⟩ := x; exact Heap.lt_size e
  | tbl ps => exact Heap.lt_size (show h.get? a = some _ from x)
  | met f y => exact Heap.lt_size (show h.get? a = some _ from x)
  | ext φ => obtain ⟨_, ⟨_, e⟩, _⟩ := x; exact Heap.lt_size e
theorem Paired.mapP {α β : Type} {F G : α → β → Prop} : ∀ {l₁ : List α} {l₂ : List β}, Paired F l₁ l₂ → (∀ a b, F a b → G a b) → Paired G l₁ l₂
  | _, _, .nil, _ => .nil
  | _, _, .cons r t, f => .cons (f _ _ r) (Paired.mapP t f)
theorem Paired.imp' {α β : Type} {F G : α → β → Prop} (f : ∀ a b, F a b → G a b) {l₁ : List α} {l₂ : List β} (r : Paired F l₁ l₂) : Paired G l₁ l₂ := Paired.mapP r f
/-- what an object's description leans on: its own object, its own dict, the tuples -/
theorem ObjOk.stay (x : ObjOk P w H h a o) (k : ∀ b u, (b = a ∨ H b = some (.own a)) → h.get? b = some u → h'.get? b = some u)
    (ho : ∀ b, H b = some (.own a) → H' b = some (.own a)) (ht : ∀ b xs, H b = some (.tup xs) → H' b = some (.tup xs)) : ObjOk P w H' h' a o := by
  induction o with
  | lst xs => obtain ⟨z, its, n, r, e⟩ := x; exact ⟨z, its, n, r, k _ _ (.inl rfl) e⟩
  | tup xs => obtain ⟨z, its, r, ob, e, c⟩ := x; exact ⟨z, its, r, ob, k _ _ (.inl rfl) e, c⟩
  | dK kvs => obtain ⟨z, y, vs, r, ob, es, ep, e, c⟩ := x; exact ⟨z, y, vs, r, ob, es, ep, k _ _ (.inl rfl) e, c⟩
  | dT kvs =>
    obtain ⟨z, y, xs, r, ob, es, ep, e, c⟩ := x
    exact ⟨z, y, xs, Paired.mapP r fun p q z => ⟨z.1, ht _ _ z.2.1, z.2.2⟩, ob, es, ep, k _ _ (.inl rfl) e, c⟩
  | set S n => obtain ⟨ob, es, ep, t, e, c⟩ := x; exact ⟨ob, es, ep, t, k _ _ (.inl rfl) e, c⟩
  | ins C dx fs =>
    obtain ⟨d, z, ne, e, mA, ⟨od, es, ep, e2, c⟩, r⟩ := x
    exact ⟨ho _ d, z, ne, k _ _ (.inl rfl) e, mA, ⟨od, es, ep, k _ _ (.inr d) e2, c⟩, r⟩
  | own y => obtain ⟨ob, e⟩ := x; exact ⟨ob, k _ _ (.inl rfl) e⟩
  | xd fs => obtain ⟨mA, ⟨od, es, ep, e, c⟩, r⟩ := x; exact ⟨mA, ⟨od, es, ep, k _ _ (.inl rfl) e, c⟩, r⟩
  | rng lo hi => obtain ⟨t, u, v, e⟩ := x; exact ⟨t, u, v, k _ _ (.inl rfl) e⟩
  | frz ob u ih => obtain ⟨e, q⟩ := x; exact ⟨k _ _ (.inl rfl) e, ih q⟩
  | tbl ps =>
    have e : h.get? a = some { cls := .none, data := .fields ps } := x
    show h'.get? a = some { cls := .none, data := .fields ps }
    exact k a _ (.inl rfl) e
  | met f y =>
    have e : h.get? a = some (PySem.W.methodObj (.ref f) (.ref y)) := x
    show h'.get? a = some (PySem.W.methodObj (.ref f) (.ref y))
    exact k a _ (.inl rfl) e
  | ext φ => obtain ⟨p, ⟨o, e⟩, st⟩ := x; exact ⟨st _ _ p fun o q => k _ _ (.inl rfl) q, ⟨o, k _ _ (.inl rfl) e⟩, st⟩
theorem HOk.lt (x : HOk P w H h) (e : H a = some o) : a < h.objs.size := (x a o e).lt
theorem HOk.fresh (x : HOk P w H h) (e : h.objs.size ≤ a) : H a = none := by
  cases q : H a with
  | none => rfl
  | some u => exact absurd (Nat.lt_of_lt_of_le (x.lt q) e) (Nat.lt_irrefl _)
/-- every object of the heap is kept -/
theorem HOk.kept (x : HOk P w H h) (k : ∀ b u, h.get? b = some u → h'.get? b = some u) : HOk P w H h' := fun a o e =>
  (x a o e).stay (fun b u _ q => k b u q) (fun _ q => q) fun _ _ q => q
/-- a new object is laid and tracked -/
theorem HOk.laid (x : HOk P w H h) (k : ∀ b u, h.get? b = some u → h'.get? b = some u) (hp : h.objs.size ≤ a) (new : ObjOk P w (upd H a o) h' a o) : HOk P w (upd H a o) h' := fun b u e => by
  have hn := x.fresh hp
  by_cases hb : b = a
  · subst hb; rw [upd_same] at e; cases e; exact new
  · rw [upd_ne hb] at e
    exact (x b u e).stay (fun c v _ q => k c v q) (fun c q => by rw [upd_ne (ne_of_none q hn)]; exact q) fun c xs q => by rw [upd_ne (ne_of_none q hn)]; exact q
end

/-- what may be read as u: it is u, or a known u -/
def Rd (H : Hp) (a : Addr) (u : HO) : Prop := H a = some u ∨ ∃ o, H a = some (.frz o u)
theorem Rd.of {H : Hp} {a : Addr} {u : HO} (h : H a = some u) : Rd H a u := .inl h
theorem Rd.ok {P : Program} {w : World} {H : Hp} {h : Heap} {a : Addr} {u : HO} (r : Rd H a u) (x : HOk P w H h) : ObjOk P w H h a u := by
  rcases r with r | ⟨o, r⟩
  · exact x a u r
  · obtain ⟨_, q⟩ := x a _ r
    exact q
/-- what may be written -/
def Mut : Option HO → Prop
  | some (.lst _) => True
  | some (.dK _) => True
  | some (.dT _) => True
  | some (.set _ _) => True
  | some (.ins _ _ _) => True
  | some (.ext _) => True
  | _ => False
section
variable {P : Program} {w : World} {H : Hp} {h h' : Heap} {x e : Addr} {o' : HO}
/-- the object at e is changed: x itself, or the dict of the instance x -/
theorem HOk.write (ok : HOk P w H h) (mu : Mut (H x)) (he : e = x ∨ H e = some (.own x)) (k : ∀ b u, b ≠ e → h.get? b = some u → h'.get? b = some u) (heo : ∃ u, h'.get? e = some u)
    (new : ObjOk P w (upd H x o') h' x o') : HOk P w (upd H x o') h' := fun b u q => by
  have nown : ∀ c y, H c = some (.own y) → c ≠ x := fun c y r z => by subst z; rw [r] at mu; exact mu
  have ntup : ∀ c xs, H c = some (.tup xs) → c ≠ x := fun c xs r z => by subst z; rw [r] at mu; exact mu
  by_cases hb : b = x
  · subst hb; rw [upd_same] at q; cases q; exact new
  · rw [upd_ne hb] at q
    by_cases hbe : b = e
    · have q' : H b = some (.own x) := by
        rcases he with z | z
        · exact absurd (hbe.trans z) hb
        · rw [hbe]; exact z
      rw [q] at q'; cases q'
      obtain ⟨v, hv⟩ := heo
      exact ⟨v, by rw [hbe]; exact hv⟩
    · refine (ok b u q).stay (fun c v hc r => k c v ?_ r) (fun c r => by rw [upd_ne (nown c b r)]; exact r) fun c xs r => by rw [upd_ne (ntup c xs r)]; exact r
      rcases hc with rfl | hc
      · exact hbe
      · rintro rfl
        rcases he with z | z
        · exact nown c b hc z
        · rw [hc] at z; cases z; exact hb rfl
end

/-! ### kept unless tracked; of the frames at fs (the callers') the slots may change (an exception that passes writes there); of the records at ex (iterators) nothing is said -/
structure Un (fs ex : List Addr) (H H' : Hp) (h h' : Heap) : Prop where
  keep : ∀ b o, h.get? b = some o → H b = none → b ∉ fs → b ∉ ex → h'.get? b = some o
  slot : ∀ b o, h.get? b = some o → H b = none → b ∈ fs → b ∉ ex → ∃ sl, h'.get? b = some { o with slots := sl }
  free : ∀ b o, h.get? b = some o → H b = none → b ∉ ex → H' b = none
  there : ∀ b o, h.get? b = some o → b ∉ ex → ∃ o', h'.get? b = some o'
  tups : ∀ b xs, H b = some (.tup xs) → H' b = some (.tup xs)
  frzs : ∀ b o u, H b = some (.frz o u) → H' b = some (.frz o u)
  tbls : ∀ b ps, H b = some (.tbl ps) → ∃ more, H' b = some (.tbl (ps ++ more))
section
variable {fs fs' ex ex' : List Addr} {H H1 H2 : Hp} {h h1 h2 h' : Heap} {a x e : Addr} {o : HO}
theorem Un.any (u : Un fs ex H H1 h h1) {b : Addr} {ob : Obj} (q : h.get? b = some ob) (n : H b = none) (hx : b ∉ ex) : ∃ sl, h1.get? b = some { ob with slots := sl } := by
  by_cases hb : b ∈ fs
  · exact u.slot b ob q n hb hx
  · exact ⟨ob.slots, u.keep b ob q n hb hx⟩
theorem Un.trans (a : Un fs ex H H1 h h1) (b : Un fs ex H1 H2 h1 h2) : Un fs ex H H2 h h2 where
  keep := fun c ob q n hc hx => b.keep c ob (a.keep c ob q n hc hx) (a.free c ob q n hx) hc hx
  slot := fun c ob q n hc hx => by
    obtain ⟨sl, e1⟩ := a.slot c ob q n hc hx
    obtain ⟨sl', e2⟩ := b.slot c _ e1 (a.free c ob q n hx) hc hx
    exact ⟨sl', e2⟩
  free := fun c ob q n hx => by
    obtain ⟨o', e1⟩ := a.there c ob q hx
    exact b.free c o' e1 (a.free c ob q n hx) hx
  there := fun c ob q hx => by
    obtain ⟨o', e1⟩ := a.there c ob q hx
    exact b.there c o' e1 hx
  tups := fun c xs q => b.tups c xs (a.tups c xs q)
  frzs := fun c ob xs q => b.frzs c ob xs (a.frzs c ob xs q)
  tbls := fun c ps q => by
    obtain ⟨m1, e1⟩ := a.tbls c ps q
    obtain ⟨m2, e2⟩ := b.tbls c _ e1
    exact ⟨m1 ++ m2, by rw [e2, Array.append_assoc]⟩
theorem Un.kept (k : ∀ b u, h.get? b = some u → h'.get? b = some u) : Un fs ex H H h h' :=
  ⟨fun b ob q _ _ _ => k b ob q, fun b ob q _ _ _ => ⟨ob.slots, k b ob q⟩, fun _ _ _ n _ => n, fun b ob q _ => ⟨ob, k b ob q⟩, fun _ _ q => q, fun _ _ _ q => q, fun _ ps q => ⟨#[], by rw [q]; simp⟩⟩
theorem Un.refl : Un fs ex H H h h := Un.kept fun _ _ q => q
theorem Un.laid (k : ∀ b u, h.get? b = some u → h'.get? b = some u) (hp : h.objs.size ≤ a) (hn : H a = none) : Un fs ex H (upd H a o) h h' where
  keep := fun b u q _ _ _ => k b u q
  slot := fun b u q _ _ _ => ⟨u.slots, k b u q⟩
  free := fun b u q n _ => by rw [upd_ne (Nat.ne_of_lt (Nat.lt_of_lt_of_le (Heap.lt_size q) hp))]; exact n
  there := fun b u q _ => ⟨u, k b u q⟩
  tups := fun b xs q => by rw [upd_ne (ne_of_none q hn)]; exact q
  frzs := fun b u xs q => by rw [upd_ne (ne_of_none q hn)]; exact q
  tbls := fun b ps q => ⟨#[], by rw [upd_ne (ne_of_none q hn), q]; simp⟩
theorem Un.write (mu : Mut (H x)) (he : e = x ∨ H e = some (.own x)) (k : ∀ b u, b ≠ e → h.get? b = some u → h'.get? b = some u) (heo : ∃ u, h'.get? e = some u) : Un fs ex H (upd H x o) h h' := by
  have hx : ∀ b, H b = none → b ≠ x := fun b n z => by subst z; rw [n] at mu; exact mu
  have hb : ∀ b, H b = none → b ≠ e := fun b n z => by
    subst z
    rcases he with r | r
    · exact hx b n r
    · rw [n] at r; cases r
  have hm : ∀ b u, H b = some u → ¬ Mut (some u) → b ≠ x := fun b u q nm z => by subst z; rw [q] at mu; exact nm mu
  refine ⟨fun b u q n _ _ => k b u (hb b n) q, fun b u q n _ _ => ⟨u.slots, k b u (hb b n) q⟩, fun b u q n _ => by rw [upd_ne (hx b n)]; exact n, fun b u q _ => ?_,
    fun b xs q => by rw [upd_ne (hm b _ q fun z => z)]; exact q, fun b u xs q => by rw [upd_ne (hm b _ q fun z => z)]; exact q, fun b ps q => ⟨#[], by rw [upd_ne (hm b _ q fun z => z), q]; simp⟩⟩
  by_cases hbe : b = e
  · subst hbe; exact heo
  · exact ⟨u, k b u hbe q⟩
theorem Un.mono (u : Un fs ex H H1 h h1) (hs : ∀ b ∈ fs, b ∈ fs') (hx : ∀ b ∈ ex, b ∈ ex') : Un fs' ex' H H1 h h1 :=
  ⟨fun b ob q n hb he => u.keep b ob q n (fun z => hb (hs b z)) fun z => he (hx b z), fun _ _ q n _ he => u.any q n fun z => he (hx _ z), fun b ob q n he => u.free b ob q n fun z => he (hx b z), fun b ob q he => u.there b ob q fun z => he (hx b z), u.tups, u.frzs, u.tbls⟩
end

/-! ### the heap without what is tracked -/
def trk (h : Heap) (H : Hp) : List Addr := (List.range h.objs.size).filter fun a => (H a).isSome
def hidT (h : Heap) (H : Hp) : Heap := PySem.W.hideAll h (trk h H)
theorem hidT_size (h : Heap) (H : Hp) : (hidT h H).objs.size = h.objs.size := PySem.W.hideAll_size _ _
theorem hidT_get {h : Heap} {H : Hp} {b : Addr} {o : Obj} (e : h.get? b = some o) (n : H b = none) : (hidT h H).get? b = some o :=
  PySem.W.hideAll_get _ e fun hm => by
    have q : (H b).isSome = true := (List.mem_filter.mp hm).2
    rw [n] at q; simp at q
theorem of_hidT {h : Heap} {H : Hp} {b : Addr} {o : Obj} (e : (hidT h H).get? b = some o) : h.get? b = some o ∧ H b = none := by
  have e' : h.get? b = some o := PySem.W.of_hideAll (trk h H) e
  refine ⟨e', ?_⟩
  cases q : H b with
  | none => rfl
  | some x =>
    have hm : b ∈ trk h H := List.mem_filter.mpr ⟨List.mem_range.mpr (Heap.lt_size e'), by simp [q]⟩
    have z : (hidT h H).get? b = none := PySem.W.hideAll_none (trk h H) hm
    rw [z] at e; cases e

/-! ### OpenK's ledger, filled with every new object but one -/
def allNews (g h : Heap) (L : Addr) : List (Addr × Obj) := (List.range h.objs.size).filterMap fun a => if a = L ∨ (g.get? a).isSome = true then none else (h.get? a).map fun o => (a, o)
theorem mem_allNews {g h : Heap} {L a : Addr} {o : Obj} (h1 : a ≠ L) (h2 : g.get? a = none) (h3 : h.get? a = some o) : (a, o) ∈ allNews g h L :=
  List.mem_filterMap.mpr ⟨a, List.mem_range.mpr (Heap.lt_size h3), by simp [h1, h2, h3]⟩
theorem of_mem_allNews {g h : Heap} {L : Addr} {p : Addr × Obj} (hp : p ∈ allNews g h L) : p.1 ≠ L ∧ g.get? p.1 = none ∧ h.get? p.1 = some p.2 := by
  obtain ⟨b, _, e⟩ := List.mem_filterMap.mp hp
  split at e
  · cases e
  · rename_i hn
    cases q : h.get? b with
    | none => rw [q] at e; simp at e
    | some u =>
      rw [q] at e
      simp only [Option.map_some, Option.some.injEq] at e
      subst e
      refine ⟨fun z => hn (.inl z), ?_, q⟩
      show g.get? b = none
      cases r : g.get? b with
      | none => rfl
      | some v => exact (hn (.inr (by simp [r]))).elim
def rest (g h : Heap) (L d : Addr) : List (Addr × Obj) := (allNews g h L).filter fun p => decide (p.1 ≠ d)
theorem rest_ne {g h : Heap} {L d : Addr} : ∀ p ∈ rest g h L d, p.1 ≠ d := fun p hp => of_decide_eq_true (List.mem_filter.mp hp).2
theorem mem_rest {g h : Heap} {L d a : Addr} {o : Obj} (h1 : a ≠ L) (h2 : g.get? a = none) (h3 : h.get? a = some o) (h4 : a ≠ d) : (a, o) ∈ rest g h L d :=
  List.mem_filter.mpr ⟨mem_allNews h1 h2 h3, decide_eq_true h4⟩
theorem news_all {g h : Heap} {L : Addr} : News g L h (allNews g h L) := fun p hp => let ⟨a, b, c⟩ := of_mem_allNews hp; ⟨c, a, b⟩
theorem news_at {g h : Heap} {L d : Addr} {o : Obj} (h1 : d ≠ L) (h2 : g.get? d = none) (h3 : h.get? d = some o) : News g L h ((d, o) :: rest g h L d) := fun p hp => by
  rcases List.mem_cons.mp hp with rfl | hp
  · exact ⟨h3, h1, h2⟩
  · exact news_all p (List.mem_filter.mp hp).1
/-- behind a rule that changed d alone: all else but the frame is kept -/
theorem kept_of_news {g h h' : Heap} {L d : Addr} {m : Str → Option Value} (k : ∀ b o, g.get? b = some o → h.get? b = some o) (F : Fr g L h' m) (N : News g L h' (rest g h L d)) :
    ∀ b o, b ≠ L → b ≠ d → h.get? b = some o → h'.get? b = some o := fun b o h1 h2 e => by
  cases q : g.get? b with
  | some u =>
    have := k b u q
    rw [e] at this; cases this
    exact F.keep b _ q
  | none => exact (N (b, o) (mem_rest h1 q e h2)).1
end L2

namespace L2
open PySem PySem.Spec PyProof.Rows

/-- the module's facts, over the base: the heap at the law's entry without what is tracked there -/
structure Mod (K : PySem.W.Frag) (mg : Str → Option Value) (base : Heap) : Prop where
  kin : K.In base
  glob : base.Ns mainGlobals mg
  blt : ∃ mb, base.Ns builtinsNs mb ∧ ∀ x : Str, x ≠ "__name__" → mb x = bootBuiltins x
  nolimit : base.NoLimit

/-- the context: a def's body (or a comprehension's block) running. base: fixed through the whole law; s₀, H₀: the entry; outer: the frames whose slots others may change (a def's callers); stack: all frames that run;
   ex: iterators that were made ahead of the entry and are walked here (a comprehension's); fn: the names whose cells were made at the entry (a def: all; a comprehension's block: its own); calm: not within an except suite; pn: pins that every state bears; xe: what is wanted of an exception that leaves the code -/
structure Cx where
  prog : Program
  w : World
  K : PySem.W.Frag
  mg : Str → Option Value
  base : Heap
  A : Around
  N : List Str
  s₀ : Shared
  H₀ : Hp
  env : Env
  outer : List Env
  stack : List Env
  ex : List Addr
  fn : Str → Bool
  calm : Bool
  pn : List (Addr × Obj)
  xe : Value → Shared → Prop
/-- the callers' frames -/
def frs (l : List Env) : List Addr := l.filterMap (·.frame)
abbrev Cx.fs (X : Cx) : List Addr := frs X.outer

def Vis (sc : Scope) (x : Str) : Prop := sc.names.lookup x = some .local ∨ sc.names.lookup x = some .cell ∨ sc.names.lookup x = some .free
def Loc (sc : Scope) (x : Str) : Prop := sc.names.lookup x = some .local ∨ sc.names.lookup x = some .cell
def Look (env : Env) (h : Heap) (m : Str → Option Value) (x : Str) (u : Value) : Prop :=
  (env.kindOf x = some .local ∧ m x = some u) ∨ ((env.kindOf x = some .cell ∨ env.kindOf x = some .free) ∧ ∃ c, env.cells.lookup x = some c ∧ h.IsCell c (some u))

structure Cx.Ok (X : Cx) : Prop where
  mod : Mod X.K X.mg X.base
  kind : X.env.scope.kind = .function
  glob : X.env.globals = mainGlobals
  blt : X.env.builtins = builtinsNs
  above : X.s₀.heap.objs.size ≤ X.env.locals
  inj : ∀ x y c, X.env.cells.lookup x = some c → X.env.cells.lookup y = some c → x = y
  has : ∀ x, (X.env.kindOf x = some .cell ∨ X.env.kindOf x = some .free) → ∃ c, X.env.cells.lookup x = some c
  cab : ∀ x c, X.fn x = true → X.env.cells.lookup x = some c → X.s₀.heap.objs.size ≤ c
  hd : X.calm = true → X.A.handled = none
  frames : X.A.frames = some X.stack
  stk : X.stack = X.outer ∨ (X.stack = X.env :: X.outer ∧ X.env.frame = some X.env.locals)
  exf : ∀ b ∈ X.ex, b ≠ X.env.locals ∧ ∀ x c, X.env.cells.lookup x = some c → c ≠ b
  bs : ∀ b o, X.base.get? b = some o → X.s₀.heap.get? b = some o ∧ X.H₀ b = none
  bsz : X.base.objs.size ≤ X.s₀.heap.objs.size
  noex : ∀ b o, X.base.get? b = some o → b ∉ X.ex
  exfs : ∀ b ∈ X.ex, b ∉ X.fs
  funs : X.s₀.heap.FunFrames X.base X.outer
  frf : ∀ b ∈ X.fs, X.H₀ b = none

structure Inv (X : Cx) (pins : List (Addr × Obj)) (σ : List (Option V)) (H : Hp) (s : Shared) : Prop where
  ok : X.Ok
  os : s.os = X.s₀.os
  bare : AllBare s.gens
  base : Un X.fs X.ex X.H₀ H X.s₀.heap s.heap
  loc : ∃ m, s.heap.Ns X.env.locals m ∧ ∀ (i : Nat) (x : Str) (v : V), X.N[i]? = some x → σ[i]? = some (some v) → Vis X.env.scope x → ∃ u, RelV v u ∧ Look X.env s.heap m x u
  cell : ∀ x c, X.env.cells.lookup x = some c → ∃ v, s.heap.IsCell c v
  free : H X.env.locals = none
  freeC : ∀ x c, X.env.cells.lookup x = some c → H c = none
  pin : ∀ p ∈ X.pn ++ pins, s.heap.get? p.1 = some p.2 ∧ H p.1 = none ∧ p.1 ≠ X.env.locals ∧ p.1 ∉ X.fs ∧ ∀ v, p.2.data ≠ .cell v
  hok : HOk X.prog X.w H s.heap
  len : σ.length = X.N.length

section
variable {X : Cx} {pins : List (Addr × Obj)} {σ : List (Option V)} {H H' : Hp} {s : Shared} {h' : Heap}

theorem Cx.Ok.nofr (ok : X.Ok) {b : Addr} {o : Obj} (e : X.base.get? b = some o) : b ∉ X.fs := fun hb => by
  have := (ok.funs.mem hb).1
  rw [e] at this; cases this
theorem Inv.bs (I : Inv X pins σ H s) : ∀ b o, X.base.get? b = some o → s.heap.get? b = some o ∧ H b = none := fun b o e =>
  ⟨I.base.keep b o (I.ok.bs b o e).1 (I.ok.bs b o e).2 (I.ok.nofr e) (I.ok.noex b o e), I.base.free b o (I.ok.bs b o e).1 (I.ok.bs b o e).2 (I.ok.noex b o e)⟩
theorem Inv.bk (I : Inv X pins σ H s) : ∀ b o, X.base.get? b = some o → s.heap.get? b = some o := fun b o e => (I.bs b o e).1
theorem Inv.mod (I : Inv X pins σ H s) : Mod X.K X.mg X.base := I.ok.mod
theorem Inv.kIn (I : Inv X pins σ H s) : X.K.In s.heap := I.ok.mod.kin.keeps I.bk
theorem Inv.nolimit (I : Inv X pins σ H s) : s.heap.NoLimit := I.ok.mod.nolimit.keeps I.bk
/-- the frame over the base: for OpenK's rules (K.In X.base is I.mod.kin) -/
theorem Inv.fr (I : Inv X pins σ H s) : ∃ m, Fr X.base X.env.locals s.heap m :=
  let ⟨m, hn, _⟩ := I.loc
  ⟨m, hn, I.bk, Nat.le_trans I.ok.bsz I.ok.above⟩
theorem Inv.lt (I : Inv X pins σ H s) : X.env.locals < s.heap.objs.size := let ⟨_, hn, _⟩ := I.loc; hn.lt
theorem Inv.sz (I : Inv X pins σ H s) : X.s₀.heap.objs.size ≤ s.heap.objs.size := Nat.le_trans I.ok.above (Nat.le_of_lt I.lt)
theorem Inv.nofs (I : Inv X pins σ H s) {a : Addr} (h : s.heap.objs.size ≤ a) : a ∉ X.fs := fun hb => by
  obtain ⟨_, o, ho, _⟩ := I.ok.funs.mem hb
  exact absurd (Nat.lt_of_lt_of_le (Heap.lt_size ho) (Nat.le_trans I.sz h)) (Nat.lt_irrefl _)
theorem Inv.cne (I : Inv X pins σ H s) : ∀ x c, X.env.cells.lookup x = some c → c ≠ X.env.locals := fun x c e z => by
  obtain ⟨v, o, ho, hd⟩ := I.cell x c e
  obtain ⟨m, ⟨o', es, ep, ho', hd', _⟩, _⟩ := I.loc
  rw [z, ho'] at ho; cases ho; rw [hd'] at hd; cases hd
theorem Inv.funs (I : Inv X pins σ H s) : s.heap.FunFrames X.base X.outer := by
  have all : ∀ (l : List Env), (∀ b ∈ frs l, b ∈ X.fs) → X.s₀.heap.FunFrames X.base l → s.heap.FunFrames X.base l := by
    intro l
    induction l with
    | nil => intro _ _; trivial
    | cons env r ih =>
      intro hs hl
      obtain ⟨hk, ⟨L, o, hf, hn, ho, hd⟩, hr⟩ := hl
      have hL : L ∈ X.fs := hs L (by unfold frs; rw [List.filterMap_cons, hf]; exact List.mem_cons_self)
      obtain ⟨sl, e⟩ := I.base.slot L o ho (I.ok.frf L hL) hL fun z => I.ok.exfs L z hL
      exact ⟨hk, ⟨L, _, hf, hn, e, hd⟩, ih (fun b hb => hs b (by unfold frs; rw [List.filterMap_cons, hf]; exact List.mem_cons_of_mem _ hb)) hr⟩
  exact all X.outer (fun _ hb => hb) I.ok.funs

/-- the frames that run, for a call -/
theorem Inv.stack (I : Inv X pins σ H s) : s.heap.FunFrames X.base X.stack := by
  rcases I.ok.stk with e | ⟨e, hf⟩
  · rw [e]; exact I.funs
  · rw [e]
    obtain ⟨m, hn, _⟩ := I.loc
    refine .cons (by rw [I.ok.kind]; decide) hf hn ?_ I.funs
    exact Heap.get?_none_of_le (Nat.le_trans I.ok.bsz I.ok.above)
theorem Inv.stkSub (I : Inv X pins σ H s) : ∀ b ∈ frs X.stack, b ∈ X.env.locals :: X.fs := fun b hb => by
  rcases I.ok.stk with e | ⟨e, hf⟩
  · rw [e] at hb; exact List.mem_cons_of_mem _ hb
  · rw [e] at hb
    unfold frs at hb
    rw [List.filterMap_cons, hf] at hb
    exact hb
theorem Inv.stkFree (I : Inv X pins σ H s) : ∀ b ∈ frs X.stack, H b = none := fun b hb => by
  rcases List.mem_cons.mp (I.stkSub b hb) with e | hb
  · rw [e]; exact I.free
  · obtain ⟨_, o, ho, _⟩ := I.ok.funs.mem hb
    exact I.base.free b o ho (I.ok.frf b hb) fun z => I.ok.exfs b z hb

/-- THE STEP: the untracked objects but the frame and the records at ch are kept (the callers' frames up to slots), the frame's map is kept, the new abstract heap is held -/
theorem Inv.step {g' : Array GenState} {t' : Nat} {d' : Drawn} {ch : List Addr} (I : Inv X pins σ H s)
    (hch : ∀ b ∈ ch, (b ∈ X.ex ∨ X.s₀.heap.objs.size ≤ b) ∧ b ≠ X.env.locals ∧ (∀ x c, X.env.cells.lookup x = some c → c ≠ b) ∧ ∀ p ∈ X.pn ++ pins, p.1 ≠ b)
    (keep : ∀ b o, b ≠ X.env.locals → b ∉ X.fs → b ∉ ch → s.heap.get? b = some o → H b = none → h'.get? b = some o)
    (slot : ∀ b o, b ≠ X.env.locals → b ∈ X.fs → b ∉ ch → s.heap.get? b = some o → H b = none → ∃ sl, h'.get? b = some { o with slots := sl }) (free : ∀ b o, b ∉ ch → s.heap.get? b = some o → H b = none → H' b = none)
    (there : ∀ b o, b ∉ ch → s.heap.get? b = some o → ∃ o', h'.get? b = some o')
    (tups : ∀ b xs, H b = some (.tup xs) → H' b = some (.tup xs)) (frzs : ∀ b o u, H b = some (.frz o u) → H' b = some (.frz o u)) (tbls : ∀ b ps, H b = some (.tbl ps) → ∃ more, H' b = some (.tbl (ps ++ more)))
    (ns : ∀ m, s.heap.Ns X.env.locals m → h'.Ns X.env.locals m) (hok : HOk X.prog X.w H' h') (hg : AllBare g') :
    Inv X pins σ H' { s with heap := h', gens := g', drawn := d', toks := t' } := by
  have neL : ∀ b o, X.s₀.heap.get? b = some o → b ≠ X.env.locals := fun b o e => Nat.ne_of_lt (Nat.lt_of_lt_of_le (Heap.lt_size e) I.ok.above)
  have neC : ∀ b o, X.s₀.heap.get? b = some o → b ∉ X.ex → b ∉ ch := fun b o e hx hb => by
    rcases (hch b hb).1 with z | z
    · exact hx z
    · exact absurd (Nat.lt_of_lt_of_le (Heap.lt_size e) z) (Nat.lt_irrefl _)
  have cellK : ∀ x c, X.env.cells.lookup x = some c → ∀ v, s.heap.IsCell c v → h'.IsCell c v := fun x c e v ⟨o, ho, hd⟩ => by
    have nch : c ∉ ch := fun z => (hch c z).2.2.1 x c e rfl
    by_cases hc : c ∈ X.fs
    · obtain ⟨sl, q⟩ := slot c o (I.cne x c e) hc nch ho (I.freeC x c e)
      exact ⟨_, q, hd⟩
    · exact ⟨o, keep c o (I.cne x c e) hc nch ho (I.freeC x c e), hd⟩
  refine ⟨I.ok, I.os, hg, ⟨fun b o e n hb hx => ?_, fun b o e n hb hx => ?_, fun b o e n hx => ?_, fun b o e hx => ?_, fun b xs e => tups b xs (I.base.tups b xs e), fun b o xs e => frzs b o xs (I.base.frzs b o xs e), fun b ps e => ?_⟩, ?_, fun x c e => ?_, ?_, fun x c e => ?_, fun p hp => ?_, hok, I.len⟩
  · exact keep b o (neL b o e) hb (neC b o e hx) (I.base.keep b o e n hb hx) (I.base.free b o e n hx)
  · obtain ⟨sl, e1⟩ := I.base.slot b o e n hb hx
    obtain ⟨sl', e2⟩ := slot b _ (neL b o e) hb (neC b o e hx) e1 (I.base.free b o e n hx)
    exact ⟨sl', e2⟩
  · obtain ⟨o', e1⟩ := I.base.there b o e hx
    exact free b o' (neC b o e hx) e1 (I.base.free b o e n hx)
  · obtain ⟨o', e1⟩ := I.base.there b o e hx
    exact there b o' (neC b o e hx) e1
  · obtain ⟨m1, e1⟩ := I.base.tbls b ps e
    obtain ⟨m2, e2⟩ := tbls b _ e1
    exact ⟨m1 ++ m2, by rw [e2, Array.append_assoc]⟩
  · obtain ⟨m, hn, hl⟩ := I.loc
    refine ⟨m, ns m hn, fun i x v e1 e2 e3 => ?_⟩
    obtain ⟨u, r, l⟩ := hl i x v e1 e2 e3
    refine ⟨u, r, ?_⟩
    rcases l with l | ⟨k, c, e, z⟩
    · exact .inl l
    · exact .inr ⟨k, c, e, cellK x c e _ z⟩
  · obtain ⟨v, z⟩ := I.cell x c e
    exact ⟨v, cellK x c e v z⟩
  · obtain ⟨m, ⟨o, _, _, ho, _⟩, _⟩ := I.loc
    exact free _ o (fun z => (hch _ z).2.1 rfl) ho I.free
  · obtain ⟨v, o, ho, hd⟩ := I.cell x c e
    exact free c o (fun z => (hch c z).2.2.1 x c e rfl) ho (I.freeC x c e)
  · obtain ⟨e, n, ne, nf, d⟩ := I.pin p hp
    have nch : p.1 ∉ ch := fun z => (hch p.1 z).2.2.2 p hp rfl
    exact ⟨keep p.1 p.2 ne nf nch e n, free p.1 p.2 nch e n, ne, nf, d⟩
/-- .. where the frame's own object is kept too -/
theorem Inv.un {t' : Nat} (I : Inv X pins σ H s) (u : Un X.fs [] H H' s.heap h') (hok : HOk X.prog X.w H' h') : Inv X pins σ H' { s with heap := h', toks := t' } := by
  obtain ⟨m, ⟨o, es, ep, ho, r⟩, _⟩ := id I.loc
  obtain ⟨sl, hL⟩ := u.any ho I.free (by simp)
  exact I.step (g' := s.gens) (d' := s.drawn) (ch := []) (fun _ z => nomatch z) (fun b o _ hb _ e n => u.keep b o e n hb (by simp)) (fun b o _ hb _ e n => u.slot b o e n hb (by simp)) (fun b o _ e n => u.free b o e n (by simp)) (fun b o _ e => u.there b o e (by simp)) u.tups u.frzs u.tbls (fun m' hm => by
    obtain ⟨o', es', ep', ho', r'⟩ := hm
    rw [ho] at ho'; cases ho'
    exact ⟨_, es', ep', hL, r'⟩) hok I.bare
/-- behind a call (or a comprehension's block): the slots of this frame may have changed too, the records at ch may have turned -/
theorem Inv.call {g' : Array GenState} {t' : Nat} {d' : Drawn} {ch : List Addr} (I : Inv X pins σ H s) (u : Un (frs X.stack) ch H H' s.heap h') (hok : HOk X.prog X.w H' h') (hg : AllBare g')
    (hch : ∀ b ∈ ch, (b ∈ X.ex ∨ X.s₀.heap.objs.size ≤ b) ∧ b ≠ X.env.locals ∧ (∀ x c, X.env.cells.lookup x = some c → c ≠ b) ∧ ∀ p ∈ X.pn ++ pins, p.1 ≠ b) :
    Inv X pins σ H' { s with heap := h', gens := g', drawn := d', toks := t' } := by
  obtain ⟨m, ⟨o, es, ep, ho, r⟩, _⟩ := id I.loc
  obtain ⟨sl, hL⟩ := u.any ho I.free fun z => (hch _ z).2.1 rfl
  exact I.step (ch := ch) hch (fun b o hL hb hc e n => u.keep b o e n (fun z => (List.mem_cons.mp (I.stkSub b z)).elim hL hb) hc) (fun b o _ _ hc e n => u.any e n hc) (fun b o hc e n => u.free b o e n hc) (fun b o hc e => u.there b o e hc) u.tups u.frzs u.tbls (fun m' hm => by
    obtain ⟨o', es', ep', ho', r'⟩ := hm
    rw [ho] at ho'; cases ho'
    exact ⟨_, es', ep', hL, r'⟩) hok hg
/-- an untracked record of ours (an iterator) has turned -/
theorem Inv.turned {t' : Nat} {it : Addr} (I : Inv X pins σ H s) (k : ∀ b o, b ≠ it → s.heap.get? b = some o → h'.get? b = some o) (hn : H it = none) (hL : it ≠ X.env.locals)
    (h1 : it ∈ X.ex ∨ X.s₀.heap.objs.size ≤ it) (h2 : ∀ x c, X.env.cells.lookup x = some c → c ≠ it) (h3 : ∀ p ∈ X.pn ++ pins, p.1 ≠ it) : Inv X pins σ H { s with heap := h', toks := t' } := by
  have nit : ∀ b u, H b = some u → b ≠ it := fun b u e z => by rw [z, hn] at e; cases e
  refine I.step (g' := s.gens) (d' := s.drawn) (ch := [it]) (fun b hb => ?_) (fun b o _ _ hc e _ => k b o (fun z => hc (by simp [z])) e) (fun b o _ _ hc e _ => ⟨o.slots, k b o (fun z => hc (by simp [z])) e⟩) (fun _ _ _ _ n => n)
    (fun b o hc e => ⟨o, k b o (fun z => hc (by simp [z])) e⟩) (fun _ _ e => e) (fun _ _ _ e => e) (fun b ps e => ⟨#[], by rw [e]; simp⟩) (fun m hm => ?_) (fun b u e => ?_) I.bare
  · have e : b = it := by simpa using hb
    subst e
    exact ⟨h1, hL, h2, h3⟩
  · obtain ⟨o, es, ep, ho, r⟩ := hm
    exact ⟨o, es, ep, k _ o (Ne.symm hL) ho, r⟩
  · refine (I.hok b u e).stay (fun c v hc q => k c v ?_ q) (fun _ q => q) fun _ _ q => q
    rcases hc with z | z
    · rw [z]; exact nit b u e
    · exact nit c _ z
theorem Inv.tok (I : Inv X pins σ H s) (t : Nat) : Inv X pins σ H { s with toks := t } := I.un (h' := s.heap) (t' := t) Un.refl I.hok
/-- all objects kept -/
theorem Inv.kept {t' : Nat} (I : Inv X pins σ H s) (k : ∀ b u, s.heap.get? b = some u → h'.get? b = some u) : Inv X pins σ H { s with heap := h', toks := t' } := I.un (Un.kept k) (I.hok.kept k)
/-- a new object laid and tracked -/
theorem Inv.laid {a : Addr} {o : HO} {t' : Nat} (I : Inv X pins σ H s) (k : ∀ b u, s.heap.get? b = some u → h'.get? b = some u) (hp : s.heap.objs.size ≤ a) (new : ObjOk X.prog X.w (upd H a o) h' a o) :
    Inv X pins σ (upd H a o) { s with heap := h', toks := t' } := I.un (Un.laid k hp (I.hok.fresh hp)) (I.hok.laid k hp new)
/-- an object written -/
theorem Inv.write {x e : Addr} {o : HO} {t' : Nat} (I : Inv X pins σ H s) (mu : Mut (H x)) (he : e = x ∨ H e = some (.own x)) (k : ∀ b u, b ≠ e → s.heap.get? b = some u → h'.get? b = some u) (heo : ∃ u, h'.get? e = some u)
    (new : ObjOk X.prog X.w (upd H x o) h' x o) : Inv X pins σ (upd H x o) { s with heap := h', toks := t' } := I.un (Un.write mu he k heo) (I.hok.write mu he k heo new)
/-- forgetting slots, pins -/
theorem Inv.weak {σ' : List (Option V)} (I : Inv X pins σ H s) (hl : σ'.length = σ.length) (w : ∀ (i : Nat) v, σ'[i]? = some (some v) → σ[i]? = some (some v)) : Inv X pins σ' H s :=
  ⟨I.ok, I.os, I.bare, I.base, let ⟨m, hn, hl'⟩ := I.loc; ⟨m, hn, fun i x v e1 e2 e3 => hl' i x v e1 (w i v e2) e3⟩, I.cell, I.free, I.freeC, I.pin, I.hok, hl.trans I.len⟩
theorem Inv.pins_of {pins' : List (Addr × Obj)} (I : Inv X pins σ H s) (h : ∀ p ∈ pins', s.heap.get? p.1 = some p.2 ∧ H p.1 = none ∧ p.1 ≠ X.env.locals ∧ p.1 ∉ X.fs ∧ ∀ v, p.2.data ≠ .cell v) : Inv X pins' σ H s :=
  ⟨I.ok, I.os, I.bare, I.base, I.loc, I.cell, I.free, I.freeC, fun p hp => (List.mem_append.mp hp).elim (fun z => I.pin p (List.mem_append_left _ z)) (h p), I.hok, I.len⟩

theorem nodup_ix {N : List Str} (hN : N.Nodup) {i j : Nat} {x : Str} (a : N[i]? = some x) (b : N[j]? = some x) : i = j := by
  obtain ⟨h1, e1⟩ := List.getElem?_eq_some_iff.mp a
  obtain ⟨h2, e2⟩ := List.getElem?_eq_some_iff.mp b
  exact (List.getElem_inj hN).mp (e1.trans e2.symm)

/-- a name is stored; what changed -/
theorem store_ok2 {M : Model} {A : Around} {E : Value → Shared → Prop} {i : Nat} {x : Str} {v : V} {u : Value} {Q : Unit → Shared → Prop} (I : Inv X pins σ H s) (hN : X.N.Nodup) (hi : X.N[i]? = some x) (hx : Loc X.env.scope x) (r : RelV v u)
    (h : ∀ s', Inv X pins (σ.set i (some v)) H s' → (∃ a, Heap.SameBut a s.heap s'.heap ∧ (a = X.env.locals ∨ X.env.cells.lookup x = some a)) → Q () s') (hf : X.fn x = true ∨ X.env.scope.names.lookup x = some .local := by first | exact .inl rfl | exact .inr rfl | assumption) : wpAny M A (storeName X.env x u) Q E s := by
  obtain ⟨m, hn, hl⟩ := id I.loc
  have hcls : (X.env.scope.kind == .class || (X.env.scope.kind == .module && X.env.locals != X.env.globals)) = false := by rw [I.ok.kind]; rfl
  have hiσ : i < σ.length := by rw [I.len]; exact (List.getElem?_eq_some_iff.mp hi).1
  have cne := I.cne
  have tracked : ∀ {a : Addr} {h' : Heap}, (∃ o, s.heap.get? a = some o ∧ H a = none) → Heap.SameBut a s.heap h' → HOk X.prog X.w H h' := fun {a h'} ha hs b ob e => by
    obtain ⟨_, _, hfree⟩ := ha
    refine (I.hok b ob e).stay (fun c w' hc q => (hs.2 c ?_).trans q) (fun _ q => q) fun _ _ q => q
    rintro rfl
    rcases hc with rfl | hc
    · rw [hfree] at e; cases e
    · rw [hfree] at hc; cases hc
  rcases hx with hk | hk
  · refine wpAny_storeName_local hk hn (fun h' hn' hs => ?_) hcls
    obtain ⟨oL, _, _, hoL, _⟩ := id hn
    refine h _ ⟨I.ok, I.os, I.bare, ⟨fun b o e n hb hx => ?_, fun b o e n hb hx => ?_, I.base.free, fun b o e hx => ?_, I.base.tups, I.base.frzs, I.base.tbls⟩, ⟨_, hn', fun j y v' e1 e2 e3 => ?_⟩, fun y c e => ?_, I.free, I.freeC, fun p hp => ?_, tracked ⟨oL, hoL, I.free⟩ hs, by simpa using I.len⟩ ⟨_, hs, .inl rfl⟩
    · exact (hs.2 b (Nat.ne_of_lt (Nat.lt_of_lt_of_le (Heap.lt_size e) I.ok.above))).trans (I.base.keep b o e n hb hx)
    · obtain ⟨sl, e1⟩ := I.base.slot b o e n hb hx
      exact ⟨sl, (hs.2 b (Nat.ne_of_lt (Nat.lt_of_lt_of_le (Heap.lt_size e) I.ok.above))).trans e1⟩
    · obtain ⟨o', e1⟩ := I.base.there b o e hx
      exact ⟨o', (hs.2 b (Nat.ne_of_lt (Nat.lt_of_lt_of_le (Heap.lt_size e) I.ok.above))).trans e1⟩
    · by_cases hj : j = i
      · subst hj
        rw [hi] at e1; cases e1
        rw [List.getElem?_set_self hiσ] at e2
        cases e2
        exact ⟨u, r, .inl ⟨hk, by simp⟩⟩
      · rw [List.getElem?_set_ne (Ne.symm hj)] at e2
        obtain ⟨u', r', q⟩ := hl j y v' e1 e2 e3
        refine ⟨u', r', ?_⟩
        rcases q with ⟨k, e⟩ | ⟨k, c, e, z⟩
        · refine .inl ⟨k, ?_⟩
          have : y ≠ x := fun e => hj (nodup_ix hN e1 (e ▸ hi))
          simp [this, e]
        · exact .inr ⟨k, c, e, z.sameBut hs (cne y c e)⟩
    · obtain ⟨w', z⟩ := I.cell y c e
      exact ⟨w', z.sameBut hs (cne y c e)⟩
    · obtain ⟨e, n, ne, nf, d⟩ := I.pin p hp
      exact ⟨(hs.2 p.1 ne).trans e, n, ne, nf, d⟩
  · have hfn : X.fn x = true := by
      rcases hf with z | z
      · exact z
      · rw [z] at hk; cases hk
    obtain ⟨c, hc⟩ := I.ok.has x (.inl hk)
    obtain ⟨w', z⟩ := I.cell x c hc
    refine wpAny_storeName_cell I.ok.kind hk hc z (fun h' hc' hs => ?_)
    obtain ⟨oc, hoc, hocd⟩ := id z
    refine h { s with heap := h' } ⟨I.ok, I.os, I.bare, ⟨fun b o e n hb hx => ?_, fun b o e n hb hx => ?_, I.base.free, fun b o e hx => ?_, I.base.tups, I.base.frzs, I.base.tbls⟩, ⟨m, hn.sameBut hs (Ne.symm (cne x c hc)), fun j y v' e1 e2 e3 => ?_⟩, fun y c' e => ?_, I.free, I.freeC, fun p hp => ?_, tracked ⟨oc, hoc, I.freeC x c hc⟩ hs, by simpa using I.len⟩ ⟨c, hs, .inr hc⟩
    · exact (hs.2 b (Nat.ne_of_lt (Nat.lt_of_lt_of_le (Heap.lt_size e) (I.ok.cab x c hfn hc)))).trans (I.base.keep b o e n hb hx)
    · obtain ⟨sl, e1⟩ := I.base.slot b o e n hb hx
      exact ⟨sl, (hs.2 b (Nat.ne_of_lt (Nat.lt_of_lt_of_le (Heap.lt_size e) (I.ok.cab x c hfn hc)))).trans e1⟩
    · obtain ⟨o', e1⟩ := I.base.there b o e hx
      exact ⟨o', (hs.2 b (Nat.ne_of_lt (Nat.lt_of_lt_of_le (Heap.lt_size e) (I.ok.cab x c hfn hc)))).trans e1⟩
    · by_cases hj : j = i
      · subst hj
        rw [hi] at e1; cases e1
        rw [List.getElem?_set_self hiσ] at e2
        cases e2
        exact ⟨u, r, .inr ⟨.inl hk, c, hc, hc'⟩⟩
      · rw [List.getElem?_set_ne (Ne.symm hj)] at e2
        obtain ⟨u', r', q⟩ := hl j y v' e1 e2 e3
        refine ⟨u', r', ?_⟩
        rcases q with q | ⟨k, c', e, z'⟩
        · exact .inl q
        · refine .inr ⟨k, c', e, z'.sameBut hs ?_⟩
          rintro rfl
          exact hj (nodup_ix hN e1 (I.ok.inj _ _ _ e hc ▸ hi))
    · by_cases hcc : c' = c
      · subst hcc; exact ⟨_, hc'⟩
      · obtain ⟨w2, z2⟩ := I.cell y c' e
        exact ⟨w2, z2.sameBut hs hcc⟩
    · obtain ⟨e, n, ne, nf, d⟩ := I.pin p hp
      refine ⟨(hs.2 p.1 ?_).trans e, n, ne, nf, d⟩
      intro q
      rw [q, hoc] at e
      have q' : oc = p.2 := Option.some.inj e
      exact d w' (by rw [← q']; exact hocd)
theorem store_ok {M : Model} {A : Around} {E : Value → Shared → Prop} {i : Nat} {x : Str} {v : V} {u : Value} {Q : Unit → Shared → Prop} (I : Inv X pins σ H s) (hN : X.N.Nodup) (hi : X.N[i]? = some x) (hx : Loc X.env.scope x) (r : RelV v u)
    (h : ∀ s', Inv X pins (σ.set i (some v)) H s' → Q () s') (hf : X.fn x = true ∨ X.env.scope.names.lookup x = some .local := by first | exact .inl rfl | exact .inr rfl | assumption) : wpAny M A (storeName X.env x u) Q E s :=
  store_ok2 I hN hi hx r (fun s' I' _ => h s' I') hf
/-- behind a call or a block, the state as it is -/
theorem Inv.call' {s' : Shared} {ch : List Addr} (I : Inv X pins σ H s) (ho : s'.os = s.os) (u : Un (frs X.stack) ch H H' s.heap s'.heap) (hok : HOk X.prog X.w H' s'.heap) (hg : AllBare s'.gens)
    (hch : ∀ b ∈ ch, (b ∈ X.ex ∨ X.s₀.heap.objs.size ≤ b) ∧ b ≠ X.env.locals ∧ (∀ x c, X.env.cells.lookup x = some c → c ≠ b) ∧ ∀ p ∈ X.pn ++ pins, p.1 ≠ b) : Inv X pins σ H' s' := by
  obtain ⟨h', g', d', t', o'⟩ := s'
  have e : o' = s.os := ho
  subst e
  exact I.call (g' := g') (t' := t') (d' := d') u hok hg hch
end

/-! ### the judgements -/
/-- an exception: its class, its own dict's address (where it has one), the abstract heap behind it -/
abbrev XK := Value → Option Addr → Hp → Prop
abbrev St := List (Option V)
abbrev VK := V → Hp → Prop
/-- an expression's reading; a test's; an argument list's -/
abbrev TE := St → Hp → VK → Prop
abbrev TT := St → Hp → (Bool → Hp → Prop) → Prop
abbrev TA := St → Hp → (List V → Hp → Prop) → Prop
/-- what is wanted behind a statement -/
structure Ends where
  nx : St → Hp → Prop
  rt : VK
  bk : St → Hp → Prop := fun _ _ => False
  ct : St → Hp → Prop := fun _ _ => False
abbrev TS := Ends → St → Hp → Prop

def EP (X : Cx) (pins : List (Addr × Obj)) (σ : St) (Q : VK) (u : Value) (s' : Shared) : Prop := ∃ v H', Inv X pins σ H' s' ∧ RelV v u ∧ Q v H'
def TP (X : Cx) (pins : List (Addr × Obj)) (σ : St) (Q : Bool → Hp → Prop) (b : Bool) (s' : Shared) : Prop := ∃ H', Inv X pins σ H' s' ∧ Q b H'
def AP (X : Cx) (pins : List (Addr × Obj)) (σ : St) (Q : List V → Hp → Prop) (us : List Value) (s' : Shared) : Prop := ∃ vs H', Inv X pins σ H' s' ∧ Vals vs us ∧ Q vs H'
def SP (X : Cx) (pins : List (Addr × Obj)) (D : Ends) (f : Flow) (s' : Shared) : Prop :=
  match f with
  | .next => ∃ σ' H', Inv X pins σ' H' s' ∧ D.nx σ' H'
  | .brk => ∃ σ' H', Inv X pins σ' H' s' ∧ D.bk σ' H'
  | .cont => ∃ σ' H', Inv X pins σ' H' s' ∧ D.ct σ' H'
  | .ret u => ∃ v σ' H', Inv X pins σ' H' s' ∧ RelV v u ∧ D.rt v H'

def PE (X : Cx) (e : Expr) (t : TE) : Prop :=
  ∀ (pins : List (Addr × Obj)) (s : Shared) (σ : St) (H : Hp) (Q : VK), Inv X pins σ H s → t σ H Q → wpAny (model X.prog X.w) X.A (eval e X.env) (EP X pins σ Q) X.xe s
def PT (X : Cx) (e : Expr) (t : TT) : Prop :=
  ∀ (pins : List (Addr × Obj)) (s : Shared) (σ : St) (H : Hp) (Q : Bool → Hp → Prop), Inv X pins σ H s → t σ H Q → wpAny (model X.prog X.w) X.A (isTrue e X.env (eval e X.env)) (TP X pins σ Q) X.xe s
/-- a test whatever its 'whole' is (and, or) -/
def PW (X : Cx) (e : Expr) (t : TT) : Prop :=
  ∀ (whole : Sem Value) (pins : List (Addr × Obj)) (s : Shared) (σ : St) (H : Hp) (Q : Bool → Hp → Prop), Inv X pins σ H s → t σ H Q → wpAny (model X.prog X.w) X.A (isTrue e X.env whole) (TP X pins σ Q) X.xe s
theorem PW.pt {X : Cx} {e : Expr} {t : TT} (h : PW X e t) : PT X e t := h _
/-- an argument list (no star), from the left -/
def PA (X : Cx) (es : List Expr) (t : TA) : Prop :=
  ∀ (pos : Pos) (pins : List (Addr × Obj)) (s : Shared) (σ : St) (H : Hp) (Q : List V → Hp → Prop), Inv X pins σ H s → t σ H Q → wpAny (model X.prog X.w) X.A (spliced (backTo pos (starEach es X.env))) (AP X pins σ Q) X.xe s
def PS (X : Cx) (st : Stmt) (t : TS) : Prop :=
  ∀ (pins : List (Addr × Obj)) (s : Shared) (σ : St) (H : Hp) (D : Ends), Inv X pins σ H s → t D σ H → wpAny (model X.prog X.w) X.A (exec st X.env) (SP X pins D) X.xe s
def PSs (X : Cx) (st : List Stmt) (t : TS) : Prop :=
  ∀ (pins : List (Addr × Obj)) (s : Shared) (σ : St) (H : Hp) (D : Ends), Inv X pins σ H s → t D σ H → wpAny (model X.prog X.w) X.A (execs st X.env) (SP X pins D) X.xe s
/-- weaken the end -/
theorem thn {α : Type} {t : Sem α} {Q Q' : α → Shared → Prop} {M : Model} {A : Around} {E : Value → Shared → Prop} {s : Shared} (h : wpAny M A t Q E s) (hQ : ∀ a s, Q a s → Q' a s) : wpAny M A t Q' E s := wpAny_mono h hQ fun _ _ x => x
end L2

namespace L2
open PySem PySem.Spec PyProof.Rows
section
variable {X : Cx}

/-- two expressions in a row -/
theorem bin {a b : Expr} {ta tb : TE} (ha : PE X a ta) (hb : PE X b tb) {pins : List (Addr × Obj)} {s : Shared} {σ : St} {H : Hp} {R : V → V → Hp → Prop} (I : Inv X pins σ H s) (h : ta σ H fun x H1 => tb σ H1 fun y H2 => R x y H2)
    {α : Type} {Q : α → Shared → Prop} {f : Value → Value → Sem α}
    (hf : ∀ v u s2 x y H2, Inv X pins σ H2 s2 → RelV x v → RelV y u → R x y H2 → wpAny (model X.prog X.w) X.A (f v u) Q X.xe s2) :
    wpAny (model X.prog X.w) X.A (eval a X.env) (fun v s₁ => wpAny (model X.prog X.w) X.A (eval b X.env) (fun u s₂ => wpAny (model X.prog X.w) X.A (f v u) Q X.xe s₂) X.xe s₁) X.xe s := by
  refine thn (ha pins s σ H _ I h) fun v s1 ⟨x, H1, I1, r1, q1⟩ => ?_
  refine thn (hb pins s1 σ H1 _ I1 q1) fun u s2 ⟨y, H2, I2, r2, q2⟩ => ?_
  exact hf v u s2 x y H2 I2 r1 r2 q2

/-! ### names and constants -/
def tVar (i : Nat) : TE := fun σ H Q => ∃ v, σ[i]? = some (some v) ∧ Q v H
def tC (v : V) : TE := fun _ H Q => Q v H
theorem pe_var {i : Nat} {x : Str} {pos : Pos} (hN : X.N[i]? = some x) (hv : Vis X.env.scope x) (hd : (x == ("__debug__" : Str)) = false := by decide) (hcd : (x == ("__classdict__" : Str)) = false := by decide) : PE X (.Name x pos) (tVar i) := by
  intro pins s σ H Q I h
  obtain ⟨v, e, h⟩ := h
  obtain ⟨m, hn, hl⟩ := I.loc
  obtain ⟨u, r, l⟩ := hl i x v hN e hv
  have fin : EP X pins σ Q u s := ⟨v, H, I, r, h⟩
  rcases l with ⟨hk, hm⟩ | ⟨hk, c, hc, hcell⟩
  · exact wpAny_Name (wpAny_loadName_local I.ok.kind hk hn hm fin) hd
  · rcases hk with hk | hk
    · exact wpAny_Name (wpAny_loadName_cell I.ok.kind hk hc hcell fin) hd
    · exact wpAny_Name (wpAny_loadName_free I.ok.kind hk hc hcell fin hcd) hd
theorem pe_int {i j pos} : PE X (.Constant (.int i) j pos) (tC (.int i)) := fun _ _ _ H _ I h => wpAny_Constant_int ⟨.int i, H, I.tok _, ⟨_, rfl⟩, h⟩
theorem pe_bl {b j pos} : PE X (.Constant (.bool b) j pos) (tC (.bl b)) := fun _ _ _ H _ I h => Constant_bool ⟨.bl b, H, I, rfl, h⟩
theorem pe_non {j pos} : PE X (.Constant .none j pos) (tC .non) := fun _ _ _ H _ I h => Constant_none ⟨.non, H, I, rfl, h⟩
theorem pe_str {x j pos} : PE X (.Constant (.str x) j pos) (tC (.str x)) := fun _ _ _ H _ I h => Calls.Constant_str ⟨.str x, H, I.tok _, ⟨_, rfl⟩, h⟩

/-- a global name of the def -/
def Gl (X : Cx) (x : Str) : Prop := X.env.kindOf x = some .globalImplicit
theorem ld_glob {E : Value → Shared → Prop} {pins : List (Addr × Obj)} {s : Shared} {σ : St} {H : Hp} {x : Str} {u : Value} {pos : Pos} {Q : Value → Shared → Prop} (I : Inv X pins σ H s) (hg : Gl X x) (hm : X.mg x = some u) (h : Q u s)
    (hd : (x == ("__debug__" : Str)) = false := by decide) : wpAny (model X.prog X.w) X.A (eval (.Name x pos) X.env) Q E s :=
  Calls.Name_function_global I.ok.kind hg (Calls.loadGlobal_global (by rw [I.ok.glob]; exact I.mod.glob.keeps I.bk) hm h) hd
theorem ld_blt {E : Value → Shared → Prop} {pins : List (Addr × Obj)} {s : Shared} {σ : St} {H : Hp} {x : Str} {u : Value} {pos : Pos} {Q : Value → Shared → Prop} (I : Inv X pins σ H s) (hg : Gl X x) (hm : X.mg x = none) (hv : bootBuiltins x = some u) (h : Q u s)
    (hn : x ≠ "__name__" := by decide) (hd : (x == ("__debug__" : Str)) = false := by decide) : wpAny (model X.prog X.w) X.A (eval (.Name x pos) X.env) Q E s := by
  obtain ⟨mb, h1, h2⟩ := I.mod.blt
  exact Calls.Name_function_global I.ok.kind hg (Calls.loadGlobal_builtin (by rw [I.ok.glob]; exact I.mod.glob.keeps I.bk) hm (by rw [I.ok.blt]; exact h1.keeps I.bk) ((h2 x hn).trans hv) h) hd
/-- a module's constant, a class, a function, as a value -/
theorem pe_glob {x : Str} {v : V} {u : Value} {pos : Pos} (hg : Gl X x) (hm : X.mg x = some u) (r : RelV v u) (hd : (x == ("__debug__" : Str)) = false := by decide) : PE X (.Name x pos) (tC v) :=
  fun _ _ _ H _ I h => ld_glob I hg hm ⟨v, H, I, r, h⟩ hd
theorem pe_bltn {x : Str} {v : V} {u : Value} {pos : Pos} (hg : Gl X x) (hm : X.mg x = none) (hv : bootBuiltins x = some u) (r : RelV v u) (hn : x ≠ "__name__" := by decide) (hd : (x == ("__debug__" : Str)) = false := by decide) : PE X (.Name x pos) (tC v) :=
  fun _ _ _ H _ I h => ld_blt I hg hm hv ⟨v, H, I, r, h⟩ hn hd

/-! ### arithmetic -/
/-- two ints -/
def t2I (ta tb : TE) (k : Int → Int → Hp → Prop) : St → Hp → Prop := fun σ H => ta σ H fun x H1 => tb σ H1 fun y H2 => ∃ i j, x = .int i ∧ y = .int j ∧ k i j H2
def tAdd (ta tb : TE) : TE := fun σ H Q => t2I ta tb (fun i j H2 => Q (.int (i + j)) H2) σ H
def tSub (ta tb : TE) : TE := fun σ H Q => t2I ta tb (fun i j H2 => Q (.int (i - j)) H2) σ H
/-- the left factor below 2^64 -/
def tMul (ta tb : TE) : TE := fun σ H Q => t2I ta tb (fun i j H2 => (-(2 ^ 64) < i ∧ i < 2 ^ 64) ∧ Q (.int (i * j)) H2) σ H
variable {a b : Expr} {ta tb : TE} {pos : Pos}
theorem pe_add (ha : PE X a ta) (hb : PE X b tb) : PE X (.BinOp a .Add b pos) (tAdd ta tb) := by
  intro pins s σ H Q I h
  refine wpAny_BinOp (bin ha hb I h fun v u s2 x y H2 I2 rx ry q => ?_)
  obtain ⟨i, j, rfl, rfl, q⟩ := q
  obtain ⟨t, rfl⟩ := rx
  obtain ⟨t', rfl⟩ := ry
  exact add_int ⟨.int _, H2, I2.tok _, ⟨_, rfl⟩, q⟩
theorem pe_sub (ha : PE X a ta) (hb : PE X b tb) : PE X (.BinOp a .Sub b pos) (tSub ta tb) := by
  intro pins s σ H Q I h
  refine wpAny_BinOp (bin ha hb I h fun v u s2 x y H2 I2 rx ry q => ?_)
  obtain ⟨i, j, rfl, rfl, q⟩ := q
  obtain ⟨t, rfl⟩ := rx
  obtain ⟨t', rfl⟩ := ry
  exact sub_int ⟨.int _, H2, I2.tok _, ⟨_, rfl⟩, q⟩
theorem pe_mul (ha : PE X a ta) (hb : PE X b tb) : PE X (.BinOp a .Mult b pos) (tMul ta tb) := by
  intro pins s σ H Q I h
  refine wpAny_BinOp (bin ha hb I h fun v u s2 x y H2 I2 rx ry q => ?_)
  obtain ⟨i, j, rfl, rfl, ⟨q1, q2⟩, q⟩ := q
  obtain ⟨t, rfl⟩ := rx
  obtain ⟨t', rfl⟩ := ry
  exact mul_int ⟨.int _, H2, I2.tok _, ⟨_, rfl⟩, q⟩ (.of_left (intBits_le_64 q1 q2))

/-! ### comparisons -/
def PC (X : Cx) (op : CmpOp) (a b : Expr) (t : TE) : Prop :=
  ∀ (pins : List (Addr × Obj)) (s : Shared) (σ : St) (H : Hp) (Q : VK), Inv X pins σ H s → t σ H Q →
    wpAny (model X.prog X.w) X.A (eval a X.env) (fun v s₁ => wpAny (model X.prog X.w) X.A (eval b X.env) (fun u s₂ => wpAny (model X.prog X.w) X.A (compareOp op v u) (EP X pins σ Q) X.xe s₂) X.xe s₁) X.xe s
theorem nobehind (b : Expr) {op : CmpOp} (h : op ≠ .In) (h2 : op ≠ .NotIn) : behindInMarks op b = false := by
  have e1 : (op == CmpOp.In) = false := by cases op <;> first | rfl | exact absurd rfl h
  have e2 : (op == CmpOp.NotIn) = false := by cases op <;> first | rfl | exact absurd rfl h2
  cases b <;> simp [behindInMarks, e1, e2]
def tCmp (p : Int → Int → Bool) (ta tb : TE) : TE := fun σ H Q => t2I ta tb (fun i j H2 => Q (.bl (p i j)) H2) σ H
abbrev tLt : TE → TE → TE := tCmp fun i j => decide (i < j)
abbrev tLe : TE → TE → TE := tCmp fun i j => decide (i ≤ j)
abbrev tGt : TE → TE → TE := tCmp fun i j => decide (j < i)
abbrev tGe : TE → TE → TE := tCmp fun i j => decide (j ≤ i)
abbrev tEqI : TE → TE → TE := tCmp fun i j => decide (i = j)
abbrev tNeI : TE → TE → TE := tCmp fun i j => !decide (i = j)
/-- a comparison of two ints, by its rule -/
theorem pc_int {op : CmpOp} {p : Int → Int → Bool} (ha : PE X a ta) (hb : PE X b tb)
    (rule : ∀ (i j : Int) (t u : Tok) (Q : Value → Shared → Prop) (s : Shared), Q (.bool (p i j)) s → wpAny (model X.prog X.w) X.A (compareOp op (.int i t) (.int j u)) Q X.xe s) : PC X op a b (tCmp p ta tb) := by
  intro pins s σ H Q I h
  refine bin ha hb I h fun v u s2 x y H2 I2 rx ry q => ?_
  obtain ⟨i, j, rfl, rfl, q⟩ := q
  obtain ⟨t, rfl⟩ := rx
  obtain ⟨t', rfl⟩ := ry
  exact rule i j t t' _ s2 ⟨.bl _, H2, I2, rfl, q⟩
theorem pc_lt (ha : PE X a ta) (hb : PE X b tb) : PC X .Lt a b (tLt ta tb) := pc_int ha hb fun _ _ _ _ _ _ h => lt_int h
theorem pc_le (ha : PE X a ta) (hb : PE X b tb) : PC X .LtE a b (tLe ta tb) := pc_int ha hb fun _ _ _ _ _ _ h => le_int h
theorem pc_gt (ha : PE X a ta) (hb : PE X b tb) : PC X .Gt a b (tGt ta tb) := pc_int ha hb fun _ _ _ _ _ _ h => gt_int h
theorem pc_ge (ha : PE X a ta) (hb : PE X b tb) : PC X .GtE a b (tGe ta tb) := pc_int ha hb fun _ _ _ _ _ _ h => ge_int h
theorem pc_eqI (ha : PE X a ta) (hb : PE X b tb) : PC X .Eq a b (tEqI ta tb) := pc_int ha hb fun _ _ _ _ _ _ h => eq_int (by rw [Bool.beq_eq_decide_eq]; exact h)
theorem pc_neI (ha : PE X a ta) (hb : PE X b tb) : PC X .NotEq a b (tNeI ta tb) := pc_int ha hb fun _ _ _ _ _ _ h => ne_int (by rw [bne, Bool.beq_eq_decide_eq]; exact h)
/-- is None -/
def tIsN (ta : TE) : TE := fun σ H Q => ta σ H fun x H1 => Q (.bl (decide (x = .non))) H1
def tNotN (ta : TE) : TE := fun σ H Q => ta σ H fun x H1 => Q (.bl (!decide (x = .non))) H1
theorem RelV.none_iff {x : V} {v : Value} (r : RelV x v) : (v == Value.none) = decide (x = .non) := by
  cases x with
  | non => cases r; rfl
  | bl _ => cases r; rfl
  | int _ => obtain ⟨t, rfl⟩ := r; rfl
  | str _ => obtain ⟨t, rfl⟩ := r; rfl
  | byt _ => obtain ⟨t, rfl⟩ := r; rfl
  | flt _ => obtain ⟨t, rfl⟩ := r; rfl
  | ref _ => cases r; rfl
  | ty _ => cases r; rfl
theorem pc_isN {j pos'} (ha : PE X a ta) : PC X .Is a (.Constant .none j pos') (tIsN ta) := by
  intro pins s σ H Q I h
  refine thn (ha pins s σ H _ I h) fun v s1 ⟨x, H1, I1, r1, q1⟩ => ?_
  exact Constant_none (is_none_gen ⟨.bl _, H1, I1, by rw [r1.none_iff]; rfl, q1⟩)
theorem pc_notN {j pos'} (ha : PE X a ta) : PC X .IsNot a (.Constant .none j pos') (tNotN ta) := by
  intro pins s σ H Q I h
  refine thn (ha pins s σ H _ I h) fun v s1 ⟨x, H1, I1, r1, q1⟩ => ?_
  exact Constant_none (isnot_none_gen ⟨.bl _, H1, I1, by rw [r1.none_iff]; rfl, q1⟩)
/-- a comparison as a value, as a test -/
def tB (t : TE) : TT := fun σ H Q => t σ H fun x H1 => ∃ c, x = .bl c ∧ Q c H1
theorem pe_cmp {op : CmpOp} {t : TE} (h : PC X op a b t) (h1 : behindInMarks op b = false := by first | exact nobehind _ (by decide) (by decide) | rfl) : PE X (.Compare a [op] [b] pos) t := fun pins s σ H Q I hw => wpAny_Compare1 (h pins s σ H Q I hw) h1
theorem pt_cmp {op : CmpOp} {t : TE} (h : PC X op a b t) (h1 : behindInMarks op b = false := by first | exact nobehind _ (by decide) (by decide) | rfl) : PT X (.Compare a [op] [b] pos) (tB t) := by
  intro pins s σ H Q I hw
  refine wpAny_isTrue_Compare1 (thn (h pins s σ H _ I hw) fun v s1 h1 => thn h1 fun u s2 h2 => thn h2 fun c s3 ⟨x, H1, I1, r1, q1⟩ => ?_) h1
  obtain ⟨d, rfl, q⟩ := q1
  cases r1
  exact wpAny_truthy_bool ⟨H1, I1, q⟩
/-- an expression whose value is a bool, as a test -/
theorem pt_val {e : Expr} {t : TE} (h : PE X e t) (he : ∀ whole, isTrue e X.env whole = (do let v ← whole; standAt e.pos; holding [v] (truthy v)) := by intro _; rfl) : PT X e (tB t) := by
  intro pins s σ H Q I hw
  refine isTrue_plain (thn (h pins s σ H _ I hw) fun v s1 ⟨x, H1, I1, r1, q1⟩ => ?_) (he _)
  obtain ⟨d, rfl, q⟩ := q1
  cases r1
  exact wpAny_truthy_bool ⟨H1, I1, q⟩

/-! ### and, or, not -/
variable {tA tB' : TT} {rest : List Expr}
def tAnd (t u : TT) : TT := fun σ H Q => t σ H fun c H1 => if c = true then u σ H1 Q else Q false H1
def tOr (t u : TT) : TT := fun σ H Q => t σ H fun c H1 => if c = true then Q true H1 else u σ H1 Q
def tNot (t : TT) : TT := fun σ H Q => t σ H fun c H1 => Q (!c) H1
theorem pw_and1 (ha : PT X a tA) : PW X (.BoolOp .And [a] pos) tA := by
  intro wh pins s σ H Q I h
  refine isTrue_and (thn (ha pins s σ H Q I h) fun c s1 e => ?_)
  cases c with
  | true => exact isTrue_and_nil e
  | false => exact e
theorem pw_or1 (ha : PT X a tA) : PW X (.BoolOp .Or [a] pos) tA := by
  intro wh pins s σ H Q I h
  refine isTrue_or (thn (ha pins s σ H Q I h) fun c s1 e => ?_)
  cases c with
  | false => exact isTrue_or_nil e
  | true => exact e
theorem pw_and (ha : PT X a tA) (hb : PW X (.BoolOp .And (b :: rest) pos) tB') : PW X (.BoolOp .And (a :: b :: rest) pos) (tAnd tA tB') := by
  intro wh pins s σ H Q I h
  refine isTrue_and (thn (ha pins s σ H _ I h) fun c s1 ⟨H1, I1, q1⟩ => ?_)
  cases c with
  | true => exact hb wh pins s1 σ H1 Q I1 q1
  | false => exact ⟨H1, I1, q1⟩
theorem pw_or (ha : PT X a tA) (hb : PW X (.BoolOp .Or (b :: rest) pos) tB') : PW X (.BoolOp .Or (a :: b :: rest) pos) (tOr tA tB') := by
  intro wh pins s σ H Q I h
  refine isTrue_or (thn (ha pins s σ H _ I h) fun c s1 ⟨H1, I1, q1⟩ => ?_)
  cases c with
  | true => exact ⟨H1, I1, q1⟩
  | false => exact hb wh pins s1 σ H1 Q I1 q1
theorem pt_not (ha : PT X a tA) : PT X (.UnaryOp .Not a pos) (tNot tA) := by
  intro pins s σ H Q I h
  exact isTrue_not (ha pins s σ H (fun c H1 => Q (!c) H1) I h)
/-- .. as values (bools) -/
def tAndV (ta tb : TE) : TE := fun σ H Q => ta σ H fun x H1 => ∃ c, x = .bl c ∧ if c = true then tb σ H1 Q else Q (.bl false) H1
def tOrV (ta tb : TE) : TE := fun σ H Q => ta σ H fun x H1 => ∃ c, x = .bl c ∧ if c = true then Q (.bl true) H1 else tb σ H1 Q
def tNotV (ta : TE) : TE := fun σ H Q => ta σ H fun x H1 => ∃ c, x = .bl c ∧ Q (.bl (!c)) H1
theorem pe_one {op} {t : TE} (h : PE X a t) : PE X (.BoolOp op [a] pos) t := fun pins s σ H Q I hw => BoolOp_one (h pins s σ H Q I hw)
theorem pe_and (ha : PE X a ta) (hb : PE X (.BoolOp .And (b :: rest) pos) tb) : PE X (.BoolOp .And (a :: b :: rest) pos) (tAndV ta tb) := by
  intro pins s σ H Q I h
  refine BoolOp_and (thn (ha pins s σ H _ I h) fun v s1 ⟨x, H1, I1, r1, q1⟩ => ?_)
  obtain ⟨c, rfl, q1⟩ := q1
  cases r1
  refine wpAny_truthy_bool ?_
  cases c with
  | true => exact hb pins s1 σ H1 Q I1 q1
  | false => exact ⟨.bl false, H1, I1, rfl, q1⟩
theorem pe_or (ha : PE X a ta) (hb : PE X (.BoolOp .Or (b :: rest) pos) tb) : PE X (.BoolOp .Or (a :: b :: rest) pos) (tOrV ta tb) := by
  intro pins s σ H Q I h
  refine BoolOp_or (thn (ha pins s σ H _ I h) fun v s1 ⟨x, H1, I1, r1, q1⟩ => ?_)
  obtain ⟨c, rfl, q1⟩ := q1
  cases r1
  refine wpAny_truthy_bool ?_
  cases c with
  | false => exact hb pins s1 σ H1 Q I1 q1
  | true => exact ⟨.bl true, H1, I1, rfl, q1⟩
theorem pe_not (ha : PE X a ta) : PE X (.UnaryOp .Not a pos) (tNotV ta) := by
  intro pins s σ H Q I h
  refine UnaryOp_ (thn (ha pins s σ H _ I h) fun v s1 ⟨x, H1, I1, r1, q1⟩ => ?_)
  obtain ⟨c, rfl, q1⟩ := q1
  cases r1
  exact not_of (wpAny_truthy_bool ⟨.bl (!c), H1, I1, rfl, q1⟩)
/-- a if t else b -/
def tIf (t : TT) (ta tb : TE) : TE := fun σ H Q => t σ H fun c H1 => if c = true then ta σ H1 Q else tb σ H1 Q
theorem pe_ifExp {c : Expr} (hc : PT X c tA) (ha : PE X a ta) (hb : PE X b tb) : PE X (.IfExp c a b pos) (tIf tA ta tb) := by
  intro pins s σ H Q I h
  refine wpAny_IfExp (thn (hc pins s σ H _ I h) fun d s1 ⟨H1, I1, q1⟩ => ?_)
  cases d with
  | true => exact ha pins s1 σ H1 Q I1 q1
  | false => exact hb pins s1 σ H1 Q I1 q1
end
end L2

namespace L2
open PySem PySem.Spec PyProof.Rows

/-! ### a list, a tuple that is read: tracked, frozen, or an object of the module -/
def SqL (K : PySem.W.Frag) (H : Hp) (a : Addr) (xs : List V) : Prop :=
  Rd H a (.lst xs) ∨
    ∃ (o : Obj) (its : Array Value) (n : Nat), K.lookup a = some o ∧ o.cls = .type "list" ∧ o.dict = none ∧ o.data = .seq its n ∧ its.size ≤ sizeLine ∧ Vals xs its.toList
def SqT (K : PySem.W.Frag) (H : Hp) (a : Addr) (xs : List V) : Prop :=
  Rd H a (.tup xs) ∨
    ∃ (o : Obj) (its : Array Value) (n : Nat), K.lookup a = some o ∧ o.cls = .type "tuple" ∧ o.data = .seq its n ∧ its.size ≤ sizeLine ∧ Vals xs its.toList
def absV : Value → Option V
  | .none => some .non
  | .bool b => some (.bl b)
  | .int i _ => some (.int i)
  | .str x _ => some (.str x)
  | .bytes b _ => some (.byt b)
  | .float b _ => some (.flt b)
  | .ref a => some (.ref a)
  | .type n => some (.ty n)
  | _ => none
theorem RelV.abs {x : V} {u : Value} (r : RelV x u) : absV u = some x := by
  cases x with
  | non => cases r; rfl
  | bl _ => cases r; rfl
  | int _ => obtain ⟨t, rfl⟩ := r; rfl
  | str _ => obtain ⟨t, rfl⟩ := r; rfl
  | byt _ => obtain ⟨t, rfl⟩ := r; rfl
  | flt _ => obtain ⟨t, rfl⟩ := r; rfl
  | ref _ => cases r; rfl
  | ty _ => cases r; rfl
theorem RelV.inj {x y : V} {u : Value} (r : RelV x u) (q : RelV y u) : x = y := Option.some.inj (r.abs.symm.trans q.abs)
theorem Vals.inj : ∀ {xs ys : List V} {us : List Value}, Vals xs us → Vals ys us → xs = ys
  | _, _, _, .nil, .nil => rfl
  | _, _, _, .cons r t, .cons r' t' => by rw [r.inj r', Vals.inj t t']
section
variable {X : Cx} {pins : List (Addr × Obj)} {σ : St} {H : Hp} {s : Shared} {a : Addr} {xs ys : List V}
theorem SqL.of {K : PySem.W.Frag} (h : H a = some (.lst xs)) : SqL K H a xs := .inl (.inl h)
theorem SqT.of {K : PySem.W.Frag} (h : H a = some (.tup xs)) : SqT K H a xs := .inl (.inl h)
theorem Inv.list (I : Inv X pins σ H s) (h : SqL X.K H a xs) : ∃ its : List Value, Vals xs its ∧ PlainL s.heap a its.toArray ∧ xs.length ≤ sizeLine := by
  rcases h with h | ⟨o, its, n, hk, hc, hd, hs, hz, r⟩
  · obtain ⟨z, its, n, r, e⟩ := h.ok I.hok
    exact ⟨its, r, ⟨_, n, e, rfl, rfl, rfl⟩, z⟩
  · refine ⟨its.toList, r, ⟨o, n, I.kIn a o hk, hc, hd, by simpa using hs⟩, ?_⟩
    have e := r.length
    simp only [Array.length_toList] at e
    omega
theorem Inv.tuple (I : Inv X pins σ H s) (h : SqT X.K H a xs) : ∃ its : List Value, Vals xs its ∧ IsTup s.heap a its.toArray ∧ xs.length ≤ sizeLine := by
  rcases h with h | ⟨o, its, n, hk, hc, hs, hz, r⟩
  · obtain ⟨z, its, r, p⟩ := h.ok I.hok
    exact ⟨its, r, p, z⟩
  · refine ⟨its.toList, r, ⟨o, I.kIn a o hk, hc, n, by simpa using hs⟩, ?_⟩
    have e := r.length
    simp only [Array.length_toList] at e
    omega
theorem Inv.list_inj (I : Inv X pins σ H s) (h : SqL X.K H a xs) (h' : SqL X.K H a ys) : xs = ys := by
  obtain ⟨its, r, ⟨o, n, e, _, _, d⟩, _⟩ := I.list h
  obtain ⟨its', r', ⟨o', n', e', _, _, d'⟩, _⟩ := I.list h'
  rw [e] at e'; cases e'
  rw [d] at d'
  injection d' with d1 _
  have : its = its' := by simpa using congrArg Array.toList d1
  subst this
  exact r.inj r'
theorem Inv.tuple_inj (I : Inv X pins σ H s) (h : SqT X.K H a xs) (h' : SqT X.K H a ys) : xs = ys := by
  obtain ⟨its, r, ⟨o, e, _, n, d⟩, _⟩ := I.tuple h
  obtain ⟨its', r', ⟨o', e', _, n', d'⟩, _⟩ := I.tuple h'
  rw [e] at e'; cases e'
  rw [d] at d'
  injection d' with d1 _
  have : its = its' := by simpa using congrArg Array.toList d1
  subst this
  exact r.inj r'
end

/-! ### another wish about exceptions -/
abbrev Cx.wish (X : Cx) (E : Value → Shared → Prop) : Cx := { X with xe := E }
/-- no exception leaves -/
abbrev Cx.nox (X : Cx) : Cx := X.wish fun _ _ => False
theorem Cx.Ok.wish {X : Cx} (ok : X.Ok) (E : Value → Shared → Prop) : (X.wish E).Ok :=
  ⟨ok.mod, ok.kind, ok.glob, ok.blt, ok.above, ok.inj, ok.has, ok.cab, ok.hd, ok.frames, ok.stk, ok.exf, ok.bs, ok.bsz, ok.noex, ok.exfs, ok.funs, ok.frf⟩
theorem Cx.Ok.unwish {X : Cx} {E : Value → Shared → Prop} (ok : (X.wish E).Ok) : X.Ok :=
  ⟨ok.mod, ok.kind, ok.glob, ok.blt, ok.above, ok.inj, ok.has, ok.cab, ok.hd, ok.frames, ok.stk, ok.exf, ok.bs, ok.bsz, ok.noex, ok.exfs, ok.funs, ok.frf⟩
section
variable {X : Cx} {pins : List (Addr × Obj)} {σ : St} {H : Hp} {s : Shared} {E : Value → Shared → Prop}
theorem Inv.wish (I : Inv X pins σ H s) (E : Value → Shared → Prop) : Inv (X.wish E) pins σ H s := ⟨I.ok.wish E, I.os, I.bare, I.base, I.loc, I.cell, I.free, I.freeC, I.pin, I.hok, I.len⟩
theorem Inv.unwish (I : Inv (X.wish E) pins σ H s) : Inv X pins σ H s := ⟨I.ok.unwish, I.os, I.bare, I.base, I.loc, I.cell, I.free, I.freeC, I.pin, I.hok, I.len⟩
theorem SP.unwish {D : Ends} {f : Flow} {s' : Shared} (h : SP (X.wish E) pins D f s') : SP X pins D f s' := by
  cases f with
  | next => obtain ⟨σ', H', I, q⟩ := h; exact ⟨σ', H', I.unwish, q⟩
  | brk => obtain ⟨σ', H', I, q⟩ := h; exact ⟨σ', H', I.unwish, q⟩
  | cont => obtain ⟨σ', H', I, q⟩ := h; exact ⟨σ', H', I.unwish, q⟩
  | ret u => obtain ⟨v, σ', H', I, r, q⟩ := h; exact ⟨v, σ', H', I.unwish, r, q⟩
theorem PE.nox {e : Expr} {t : TE} (h : PE X.nox e t) : PE X e t := fun pins s σ H Q I hw =>
  wpAny_mono (h pins s σ H Q (I.wish _) hw) (fun _ _ ⟨v, H', I', r, q⟩ => ⟨v, H', I'.unwish, r, q⟩) fun _ _ z => False.elim z
theorem PT.nox {e : Expr} {t : TT} (h : PT X.nox e t) : PT X e t := fun pins s σ H Q I hw =>
  wpAny_mono (h pins s σ H Q (I.wish _) hw) (fun _ _ ⟨H', I', q⟩ => ⟨H', I'.unwish, q⟩) fun _ _ z => False.elim z
theorem PSs.nox {st : List Stmt} {t : TS} (h : PSs X.nox st t) : PSs X st t := fun pins s σ H D I hw =>
  wpAny_mono (h pins s σ H D (I.wish _) hw) (fun _ _ q => q.unwish) fun _ _ z => False.elim z
end

/-! ### blocks and small statements -/
section
variable {X : Cx} {st : Stmt} {rest : List Stmt} {t u : TS} {e : Expr} {te : TE} {pos : Pos}
def tNext : TS := fun D σ H => D.nx σ H
def tSeq (t u : TS) : TS := fun D σ H => t { D with nx := u D } σ H
theorem pss_nil : PSs X [] tNext := fun _ _ σ H _ I h => wpAny_execs_nil ⟨σ, H, I, h⟩
theorem pss_cons (h1 : PS X st t) (h2 : PSs X rest u) : PSs X (st :: rest) (tSeq t u) := by
  intro pins s σ H D I h
  refine wpAny_execs_cons (thn (h1 pins s σ H { D with nx := u D } I h) fun f s1 q => ?_)
  cases f with
  | next =>
    obtain ⟨σ', H', I', q⟩ := q
    exact h2 pins s1 σ' H' D I' q
  | ret v => exact q
  | brk => exact q
  | cont => exact q
theorem pss_one (h1 : PS X st t) : PSs X [st] t := by
  intro pins s σ H D I h
  refine wpAny_execs_cons (thn (h1 pins s σ H D I h) fun f s1 q => ?_)
  cases f with
  | next => exact wpAny_execs_nil q
  | ret v => exact q
  | brk => exact q
  | cont => exact q
def tBreak : TS := fun D σ H => D.bk σ H
def tCont : TS := fun D σ H => D.ct σ H
theorem ps_pass : PS X (.Pass pos) tNext := fun _ _ σ H _ I h => wpAny_Pass ⟨σ, H, I, h⟩
theorem ps_break : PS X (.Break pos) tBreak := fun _ _ σ H _ I h => wpAny_Break ⟨σ, H, I, h⟩
theorem ps_continue : PS X (.Continue pos) tCont := fun _ _ σ H _ I h => wpAny_Continue ⟨σ, H, I, h⟩
/-- in a def's body nothing is shown -/
theorem Inv.quiet {pins : List (Addr × Obj)} {σ : St} {H : Hp} {s : Shared} (I : Inv X pins σ H s) : interactive X.env = false := by simp [interactive, I.ok.kind]
/-- a docstring -/
theorem ps_doc {x j pos pos'} : PS X (.Expr (.Constant (.str x) j pos) pos') tNext := fun _ s σ H _ I h => wpAny_Expr (Calls.Constant_str (show SP X _ _ .next { s with toks := s.toks + 1 } from ⟨σ, H, I.tok _, h⟩)) I.quiet
/-- an expression whose value is dropped -/
def tDrop (te : TE) : TS := fun D σ H => te σ H fun _ H1 => D.nx σ H1
theorem ps_expr (he : PE X e te) (hs : swapsWith e none pos.line X.env = pure false := by rfl) : PS X (.Expr e pos) (tDrop te) := by
  intro pins s σ H D I h
  exact wpAny_Expr_any (thn (he pins s σ H _ I h) fun v s1 ⟨x, H1, I1, r1, q1⟩ => ⟨σ, H1, I1, q1⟩) I.quiet hs
def tRet (te : TE) : TS := fun D σ H => te σ H D.rt
theorem ps_ret (he : PE X e te) : PS X (.Return (some e) pos) (tRet te) := by
  intro pins s σ H D I h
  exact wpAny_Return_some (thn (he pins s σ H _ I h) fun v s1 ⟨x, H1, I1, r1, q1⟩ => ⟨x, σ, H1, I1, r1, q1⟩)
def tRetN : TS := fun D _ H => D.rt .non H
theorem ps_retN : PS X (.Return none pos) tRetN := fun _ _ σ H _ I h => wpAny_Return_none ⟨.non, σ, H, I, rfl, h⟩
def tIfS (c : TT) (t u : TS) : TS := fun D σ H => c σ H fun b H1 => if b = true then t D σ H1 else u D σ H1
theorem ps_if {c : Expr} {a b : List Stmt} {tc : TT} (hc : PT X c tc) (ha : PSs X a t) (hb : PSs X b u) : PS X (.If c a b pos) (tIfS tc t u) := by
  intro pins s σ H D I h
  refine wpAny_If (thn (hc pins s σ H _ I h) fun d s1 ⟨H1, I1, q1⟩ => ?_)
  cases d with
  | true => exact ha pins s1 σ H1 D I1 q1
  | false => exact hb pins s1 σ H1 D I1 q1
/-- code that the proof never comes to -/
def tNever : TS := fun _ _ _ => False
theorem ps_never : PS X st tNever := fun _ _ _ _ _ _ h => h.elim
theorem pss_never {sts : List Stmt} : PSs X sts tNever := fun _ _ _ _ _ _ h => h.elim
end

/-! ### targets -/
abbrev TG := V → St → Hp → (St → Hp → Prop) → Prop
abbrev TGs := List V → St → Hp → (St → Hp → Prop) → Prop
def PG (X : Cx) (target : Expr) (t : TG) : Prop :=
  ∀ (pins : List (Addr × Obj)) (s : Shared) (σ : St) (H : Hp) (v : V) (u : Value) (Q : St → Hp → Prop), Inv X pins σ H s → RelV v u → t v σ H Q →
    wpAny (model X.prog X.w) X.A (assign target X.env u) (fun _ s' => ∃ σ' H', Inv X pins σ' H' s' ∧ Q σ' H') X.xe s
/-- several targets, one after another -/
def PGs (X : Cx) (ts : List Expr) (t : TGs) : Prop :=
  ∀ (pins : List (Addr × Obj)) (s : Shared) (σ : St) (H : Hp) (vs : List V) (us : List Value) (Q : St → Hp → Prop), Inv X pins σ H s → Vals vs us → t vs σ H Q →
    wpAny (model X.prog X.w) X.A (assignInOrder ((assignEach ts X.env).map (·.2)) us) (fun _ s' => ∃ σ' H', Inv X pins σ' H' s' ∧ Q σ' H') X.xe s
/-- o[i] = v, by values -/
abbrev TSet := V → V → V → Hp → (Hp → Prop) → Prop
def PSet (X : Cx) (t : TSet) : Prop :=
  ∀ (pins : List (Addr × Obj)) (s : Shared) (σ : St) (H : Hp) (o i v : V) (ov iv u : Value) (Q : Hp → Prop), Inv X pins σ H s → RelV o ov → RelV i iv → RelV v u → t o i v H Q →
    wpAny (model X.prog X.w) X.A (setItem ov iv u) (fun _ s' => ∃ H', Inv X pins σ H' s' ∧ Q H') X.xe s
/-- a op= b, by values -/
abbrev TIp := V → V → Hp → VK → Prop
def PIp (X : Cx) (op : Operator) (t : TIp) : Prop :=
  ∀ (pins : List (Addr × Obj)) (s : Shared) (σ : St) (H : Hp) (x y : V) (v u : Value) (Q : VK), Inv X pins σ H s → RelV x v → RelV y u → t x y H Q →
    wpAny (model X.prog X.w) X.A (inplaceOp op v u) (EP X pins σ Q) X.xe s
section
variable {X : Cx} {pos : Pos}
def gName (i : Nat) : TG := fun v σ H Q => Q (σ.set i (some v)) H
theorem pg_name {i : Nat} {x : Str} (hN : X.N.Nodup) (hi : X.N[i]? = some x) (hx : Loc X.env.scope x) (hf : X.fn x = true ∨ X.env.scope.names.lookup x = some .local := by first | exact .inl rfl | exact .inr rfl | assumption) : PG X (.Name x pos) (gName i) := by
  intro pins s σ H v u Q I r h
  exact wpAny_assign_Name (store_ok I hN hi hx r (fun s' I' => ⟨_, H, I', h⟩) hf)
def gNil : TGs := fun vs σ H Q => vs = [] ∧ Q σ H
def gCons (t : TG) (u : TGs) : TGs := fun vs σ H Q => ∃ v r, vs = v :: r ∧ t v σ H fun σ' H' => u r σ' H' Q
theorem pgs_nil : PGs X [] gNil := by
  intro pins s σ H vs us Q I r h
  obtain ⟨e, h⟩ := h
  subst e
  cases r
  exact assignInOrder_nil ⟨σ, H, I, h⟩
theorem pgs_cons {e : Expr} {es : List Expr} {t : TG} {u : TGs} (h1 : PG X e t) (h2 : PGs X es u)
    (hs : (assignEach (e :: es) X.env).map (·.2) = assign e X.env :: (assignEach es X.env).map (·.2) := by rfl) : PGs X (e :: es) (gCons t u) := by
  intro pins s σ H vs us Q I r h
  obtain ⟨v, vr, e1, h⟩ := h
  subst e1
  cases r with
  | cons r rr =>
    rw [hs]
    refine assignInOrder_cons (thn (h1 pins s σ H _ _ _ I r h) fun _ s1 ⟨σ1, H1, I1, q1⟩ => ?_)
    exact h2 pins s1 σ1 H1 _ _ Q I1 rr q1
/-- (a, b, ..) = a tuple of that length -/
def gTup (K : PySem.W.Frag) (n : Nat) (t : TGs) : TG := fun v σ H Q => ∃ a xs, v = .ref a ∧ SqT K H a xs ∧ xs.length = n ∧ t xs σ H Q
theorem pg_tup {es : List Expr} {k : Nat} {t : TGs} {n : Nat} (hc : X.calm = true) (h : PGs X es t)
    (hn : (assignEach es X.env).length = n := by rfl) (hst : (assignEach es X.env).findIdx? (·.1) = none := by rfl) : PG X (.Tuple es k pos) (gTup X.K n t) := by
  intro pins s σ H v u Q I r hw
  obtain ⟨a, xs, e1, hq, hl, hw⟩ := hw
  subst e1
  cases r
  obtain ⟨its, rv, ht, hz⟩ := I.tuple hq
  refine assign_Tuple_tuple (I.ok.hd hc) ht (by simp [hn, ← hl, rv.length]) hst fun h' hx => ?_
  have I1 : Inv X pins σ H { s with heap := h' } := I.kept (t' := s.toks) fun b o e => hx b o (Nat.ne_of_lt (Heap.lt_size e)) e
  exact h pins _ σ H xs _ Q I1 (by simpa using rv) hw
/-- o[i] = .. -/
def gSub (to ti : TE) (t : TSet) : TG := fun v σ H Q => to σ H fun o H1 => ti σ H1 fun i H2 => t o i v H2 fun H3 => Q σ H3
theorem pg_sub {o i : Expr} {to ti : TE} {t : TSet} (ho : PE X o to) (hi : PE X i ti) (hs : PSet X t)
    (ha : ∀ v, assign (.Subscript o i pos) X.env v = (do
      let ov ← holding [v] (eval o X.env)
      let iv ← holding [v, ov] (eval i X.env)
      standAt pos
      holding [v, ov, iv] (setItem ov iv v)
      release [v, ov, iv] []) := by intro _; rfl) : PG X (.Subscript o i pos) (gSub to ti t) := by
  intro pins s σ H v u Q I r h
  rw [ha]
  refine wpAny_bind (wpAny_holding (thn (ho pins s σ H _ I h) fun ov s1 ⟨x, H1, I1, r1, q1⟩ => ?_))
  refine wpAny_bind (wpAny_holding (thn (hi pins s1 σ H1 _ I1 q1) fun iv s2 ⟨y, H2, I2, r2, q2⟩ => ?_))
  refine wpAny_bind (wpAny_standAt (wpAny_bind (wpAny_holding (thn (hs pins s2 σ H2 x y v ov iv u _ I2 r1 r2 r q2) fun _ s3 ⟨H3, I3, q3⟩ => ?_))))
  exact wpAny_release ⟨σ, H3, I3, q3⟩
/-- target = value -/
def tAsg (te : TE) (g : TG) : TS := fun D σ H => te σ H fun x H1 => g x σ H1 D.nx
theorem ps_asg {tg e : Expr} {te : TE} {g : TG} (he : PE X e te) (hg : PG X tg g) (hs : swapsWithSole [tg] e pos.line X.env = pure false := by rfl) (hw : swappedStores [tg] e X.env = pure none := by rfl)
    (h1 : (assignEach [tg] X.env).map (·.2) = [assign tg X.env] := by rfl) : PS X (.Assign [tg] e pos) (tAsg te g) := by
  intro pins s σ H D I h
  refine wpAny_Assign_stores (thn (he pins s σ H _ I h) fun v s1 ⟨x, H1, I1, r1, q1⟩ => ?_) hs hw
  rw [h1]
  exact thn (hg pins s1 σ H1 x v _ I1 r1 q1) fun _ s2 q => q
/-- name = value -/
theorem ps_set {i : Nat} {x : Str} {e : Expr} {te : TE} {pos' : Pos} (hN : X.N.Nodup) (hi : X.N[i]? = some x) (hx : Loc X.env.scope x) (he : PE X e te) (hs : swapsWith e (some (.Name x pos')) pos.line X.env = pure false := by rfl) (hf : X.fn x = true ∨ X.env.scope.names.lookup x = some .local := by first | exact .inl rfl | exact .inr rfl | assumption) :
    PS X (.Assign [.Name x pos'] e pos) (tAsg te (gName i)) := by
  intro pins s σ H D I h
  refine wpAny_Assign_Name (thn (he pins s σ H _ I h) fun v s1 ⟨y, H1, I1, r1, q1⟩ => ?_) hs
  exact store_ok I1 hN hi hx r1 (fun s2 I2 => ⟨_, H1, I2, q1⟩) hf
/-- a, b = x, y with plain local names: stored from the right; the pair itself is not tracked (the opening rows as in PyProof/Rows/TupAssign.lean:23) -/
def tPar (i j : Nat) (ta : TA) : TS := fun D σ H => ta σ H fun vs H1 => ∃ v w, vs = [v, w] ∧ D.nx ((σ.set i (some v)).set j (some w)) H1
theorem ps_par {i j : Nat} {x y : Str} {a b : Expr} {ta : TA} {px py pt : Pos} {kt k2 pt2} (hc : X.calm = true) (hN : X.N.Nodup) (hi : X.N[i]? = some x) (hj : X.N[j]? = some y) (hij : i ≠ j)
    (hx : X.env.scope.names.lookup x = some .local) (hy : X.env.scope.names.lookup y = some .local) (ha : PA X [a, b] ta)
    (hw : swappedStores [.Tuple [.Name x px, .Name y py] kt pt] (.Tuple [a, b] k2 pt2) X.env = pure (some [x, y]))
    (hs : swapsWithSole [.Tuple [.Name x px, .Name y py] kt pt] (.Tuple [a, b] k2 pt2) pos.line X.env = pure false := by rfl) :
    PS X (.Assign [.Tuple [.Name x px, .Name y py] kt pt] (.Tuple [a, b] k2 pt2) pos) (tPar i j ta) := by
  intro pins s σ H D I h
  rw [exec_Assign_arm]
  refine wpAny_bind (wpAny_standAt ?_)
  rw [hs]
  refine wpAny_bind (wpAny_pure ?_)
  rw [if_neg (by decide)]
  refine wpAny_bind (Tuple_ (thn (ha _ pins s σ H _ I h) fun us s1 ⟨vs, H1, I1, r1, q1⟩ => ?_))
  obtain ⟨v, w, e1, q1⟩ := q1
  subst e1
  obtain ⟨u1, u2, rfl, rv, rw'⟩ : ∃ u1 u2, us = [u1, u2] ∧ RelV v u1 ∧ RelV w u2 := by
    cases r1 with
    | cons p q =>
      cases q with
      | cons p' q' =>
        cases q'
        exact ⟨_, _, rfl, p, p'⟩
  refine wpAny_newObj_type ?_ (by show 2 ≤ sizeLine; decide)
  have I2 : Inv X pins σ H1 { s1 with heap := s1.heap.push { cls := .type "tuple", data := .seq [u1, u2].toArray } } := I1.kept (t' := s1.toks) fun b o e => Heap.get?_push_of_some _ e
  rw [hw]
  refine wpAny_bind (wpAny_pure ?_)
  show wpAny (model X.prog X.w) X.A (do rule "assign.swapped-stores"; let items ← unpackItems (.ref s1.heap.objs.size) 2 none; assignInOrder [fun v => bindName X.env y v, fun v => bindName X.env x v] items.reverse; pure Flow.next) _ _ _
  refine wpAny_bind (wpAny_rule (wpAny_bind (unpackItems_tuple (items := #[u1, u2]) (I.ok.hd hc) (IsTup.new s1.heap _) fun h' hx' => ?_)))
  have I3 := I2.kept (h' := h') (t' := s1.toks) fun b o e => hx' b o (Nat.ne_of_lt (Heap.lt_size e)) e
  show wpAny _ _ (assignInOrder [fun v => bindName X.env y v, fun v => bindName X.env x v] [u2, u1] >>= fun _ => pure Flow.next) _ _ _
  refine wpAny_bind (assignInOrder_cons (wpAny_bindName (store_ok I3 hN hj (.inl hy) rw' (fun s2 I4 => ?_) (.inr hy))))
  refine assignInOrder_cons (wpAny_bindName (store_ok I4 hN hi (.inl hx) rv (fun s3 I5 => assignInOrder_nil (wpAny_pure ?_)) (.inr hx)))
  rw [List.set_comm _ _ (Ne.symm hij)] at I5
  exact ⟨_, H1, I5, q1⟩
/-- name op= e -/
def tAug (i : Nat) (te : TE) (ti : TIp) : TS := fun D σ H => ∃ x, σ[i]? = some (some x) ∧ te σ H fun y H1 => ti x y H1 fun z H2 => D.nx (σ.set i (some z)) H2
theorem ps_aug {i : Nat} {x : Str} {e : Expr} {te : TE} {op : Operator} {ti : TIp} {pos' : Pos} (hN : X.N.Nodup) (hi : X.N[i]? = some x) (hx : Loc X.env.scope x) (he : PE X e te) (ho : PIp X op ti) (hf : X.fn x = true ∨ X.env.scope.names.lookup x = some .local := by first | exact .inl rfl | exact .inr rfl | assumption) :
    PS X (.AugAssign (.Name x pos') op e pos) (tAug i te ti) := by
  intro pins s σ H D I h
  obtain ⟨v, e1, h⟩ := h
  obtain ⟨m, hn, hl⟩ := I.loc
  have vis : Vis X.env.scope x := by rcases hx with k | k; exact .inl k; exact .inr (.inl k)
  obtain ⟨u, r, l⟩ := hl i x v hi e1 vis
  refine wpAny_AugAssign_Name ?_
  have go : wpAny (model X.prog X.w) X.A (eval e X.env) (fun w s₂ => wpAny (model X.prog X.w) X.A (inplaceOp op u w) (fun r s₃ => wpAny (model X.prog X.w) X.A (storeName X.env x r) (fun _ => SP X pins D .next) X.xe s₃) X.xe s₂) X.xe s := by
    refine thn (he pins s σ H _ I h) fun w s1 ⟨y, H1, I1, r1, q1⟩ => ?_
    refine thn (ho pins s1 σ H1 v y u w _ I1 r r1 q1) fun z s2 ⟨zv, H2, I2, r2, q2⟩ => ?_
    exact store_ok I2 hN hi hx r2 (fun s3 I3 => ⟨_, H2, I3, q2⟩) hf
  rcases l with ⟨hk, hm⟩ | ⟨hk, c, hc, hcell⟩
  · exact wpAny_loadName_local I.ok.kind hk hn hm go
  · rcases hk with hk | hk
    · exact wpAny_loadName_cell I.ok.kind hk hc hcell go
    · rcases hx with k | k
      · have : X.env.scope.names.lookup x = some .free := hk
        rw [k] at this; cases this
      · have : X.env.scope.names.lookup x = some .free := hk
        rw [k] at this; cases this
/-- o[i] op= e -/
def tAugS (to ti te : TE) (tget : V → V → Hp → VK → Prop) (tip : TIp) (tset : TSet) : TS := fun D σ H => to σ H fun o H1 => ti σ H1 fun i H2 => tget o i H2 fun x H3 => te σ H3 fun y H4 => tip x y H4 fun z H5 => tset o i z H5 fun H6 => D.nx σ H6
/-- o[i], by values -/
def PGet (X : Cx) (t : V → V → Hp → VK → Prop) : Prop :=
  ∀ (pins : List (Addr × Obj)) (s : Shared) (σ : St) (H : Hp) (o i : V) (ov iv : Value) (Q : VK), Inv X pins σ H s → RelV o ov → RelV i iv → t o i H Q →
    wpAny (model X.prog X.w) X.A (getItem ov iv) (EP X pins σ Q) X.xe s
theorem ps_augS {o i e : Expr} {to ti te : TE} {tget : V → V → Hp → VK → Prop} {tip : TIp} {tset : TSet} {op : Operator} {tpos : Pos} (ho : PE X o to) (hi : PE X i ti) (hg : PGet X tget) (he : PE X e te) (hp : PIp X op tip) (hs : PSet X tset)
    (ha : ∀ ov iv new, augStore i ov iv new = (do holding [new, ov, iv] (setItem ov iv new); release [new, ov, iv] []; pure .next) := by intros; rfl) : PS X (.AugAssign (.Subscript o i tpos) op e pos) (tAugS to ti te tget tip tset) := by
  intro pins s σ H D I h
  refine wpAny_AugAssign_SubscriptAny (thn (ho pins s σ H _ I h) fun ov s1 ⟨x1, H1, I1, r1, q1⟩ => ?_) ha
  refine thn (hi pins s1 σ H1 _ I1 q1) fun iv s2 ⟨x2, H2, I2, r2, q2⟩ => ?_
  refine thn (hg pins s2 σ H2 x1 x2 ov iv _ I2 r1 r2 q2) fun old s3 ⟨x3, H3, I3, r3, q3⟩ => ?_
  refine thn (he pins s3 σ H3 _ I3 q3) fun v s4 ⟨x4, H4, I4, r4, q4⟩ => ?_
  refine thn (hp pins s4 σ H4 x3 x4 old v _ I4 r3 r4 q4) fun new s5 ⟨x5, H5, I5, r5, q5⟩ => ?_
  exact thn (hs pins s5 σ H5 x1 x2 x5 ov iv new _ I5 r1 r2 r5 q5) fun _ s6 ⟨H6, I6, q6⟩ => ⟨σ, H6, I6, q6⟩
/-- ints -/
def ipI (f : Int → Int → Int) : TIp := fun x y H Q => ∃ i j, x = .int i ∧ y = .int j ∧ Q (.int (f i j)) H
theorem ip_add : PIp X .Add (ipI fun i j => i + j) := by
  intro pins s σ H x y v u Q I r1 r2 h
  obtain ⟨i, j, e1, e2, q⟩ := h
  subst e1; subst e2
  obtain ⟨t, rfl⟩ := r1
  obtain ⟨t', rfl⟩ := r2
  exact iadd_int ⟨.int _, H, I.tok _, ⟨_, rfl⟩, q⟩
theorem ip_sub : PIp X .Sub (ipI fun i j => i - j) := by
  intro pins s σ H x y v u Q I r1 r2 h
  obtain ⟨i, j, e1, e2, q⟩ := h
  subst e1; subst e2
  obtain ⟨t, rfl⟩ := r1
  obtain ⟨t', rfl⟩ := r2
  exact isub_int ⟨.int _, H, I.tok _, ⟨_, rfl⟩, q⟩
end

/-! ### while -/
section
variable {X : Cx} {pos : Pos}
/-- the invariant W with its measure -/
def tWhile (c : TT) (tb : TS) : TS := fun D σ H => ∃ W : Nat → St → Hp → Prop, (∃ m, W m σ H) ∧ ∀ m σ H, W m σ H →
  c σ H fun b H1 => if b = true then ∃ N : St → Hp → Prop, (∀ σ' H', N σ' H' → ∃ m', m' < m ∧ W m' σ' H') ∧ tb { D with nx := N, ct := N, bk := D.nx } σ H1 else D.nx σ H1
theorem ps_while {c : Expr} {body : List Stmt} {tc : TT} {tb : TS} (hp : PassesOwn (model X.prog X.w) X.A X.env X.xe) (hc : PT X c tc) (hb : PSs X body tb) : PS X (.While c body [] pos) (tWhile tc tb) := by
  intro pins s σ H D I h
  obtain ⟨W, ⟨m0, w0⟩, turn⟩ := h
  refine wpAny_While (codeAny_whileLoop (fun n s' => ∃ σ' H', Inv X pins σ' H' s' ∧ W n σ' H') ?_ m0 ⟨σ, H, I, w0⟩)
  rintro n s1 ⟨σ1, H1, I1, w1⟩
  refine wpAny_passesOwn hp (thn (hc pins s1 σ1 H1 _ I1 (turn n σ1 H1 w1)) fun b s2 ⟨H2, I2, q2⟩ => ?_)
  cases b with
  | true =>
    obtain ⟨N, hN, q2⟩ := q2
    rw [if_pos rfl]
    refine wpAny_passesOwn hp (thn (hb pins s2 σ1 H2 _ I2 q2) fun f s3 q3 => ?_)
    cases f with
    | next =>
      obtain ⟨σ3, H3, I3, n3⟩ := q3
      obtain ⟨m', hm, w3⟩ := hN σ3 H3 n3
      exact ⟨m', hm, σ3, H3, I3, w3⟩
    | cont =>
      obtain ⟨σ3, H3, I3, n3⟩ := q3
      obtain ⟨m', hm, w3⟩ := hN σ3 H3 n3
      exact ⟨m', hm, σ3, H3, I3, w3⟩
    | brk => exact q3
    | ret v => exact q3
  | false =>
    rw [if_neg Bool.false_ne_true]
    exact wpAny_execs_nil ⟨σ1, H2, I2, q2⟩
end

/-! ### what a loop or a comprehension walks -/
/-- at turn i: it yields x (the heap may grow), or it stops -/
structure It where
  go : Nat → Hp → Prop
  yld : Nat → Hp → V → Hp → Prop
  stop : Nat → Hp → Prop
/-- the iterator's own objects may turn: they are not the frame's, not pinned, younger than the entry (or a comprehension's own) -/
def FpOk (X : Cx) (pins : List (Addr × Obj)) (H : Hp) (b : Addr) : Prop :=
  H b = none ∧ b ≠ X.env.locals ∧ b ∉ X.fs ∧ (b ∈ X.ex ∨ X.s₀.heap.objs.size ≤ b) ∧ (∀ x c, X.env.cells.lookup x = some c → c ≠ b) ∧ ∀ p ∈ X.pn ++ pins, p.1 ≠ b
theorem Inv.fpOk {X : Cx} {pins : List (Addr × Obj)} {σ : St} {H H' : Hp} {s : Shared} {b : Addr} (I : Inv X pins σ H s) (hb : s.heap.objs.size ≤ b) (hn : H' b = none) : FpOk X pins H' b := by
  refine ⟨hn, Nat.ne_of_gt (Nat.lt_of_lt_of_le I.lt hb), I.nofs hb, .inr (Nat.le_trans I.sz hb), fun x c e z => ?_, fun p hp z => ?_⟩
  · obtain ⟨v, q⟩ := I.cell x c e
    exact absurd (Nat.lt_of_lt_of_le q.lt (by rw [z]; exact hb)) (Nat.lt_irrefl _)
  · exact absurd (Nat.lt_of_lt_of_le (Heap.lt_size (I.pin p hp).1) (by rw [z]; exact hb)) (Nat.lt_irrefl _)
structure Turn (P : Program) (w : World) (K : PySem.W.Frag) (tg : Expr) (J : It) (fp : List Addr) (it : Addr) (tn : Nat → Heap → Prop) : Prop where
  mem : it ∈ fp
  obj : ∀ i h, tn i h → ∀ b ∈ fp, ∃ o, h.get? b = some o ∧ ∀ v, o.data ≠ .cell v
  keep : ∀ i h h', tn i h → (∀ b ∈ fp, ∀ o, h.get? b = some o → h'.get? b = some o) → tn i h'
  item : ∀ (X : Cx), X.prog = P → X.w = w → X.K = K → X.calm = true → ∀ (i : Nat) (pins : List (Addr × Obj)) (s : Shared) (σ : St) (H : Hp) (E : Value → Shared → Prop), Inv X pins σ H s → (∀ b ∈ fp, FpOk X pins H b) → tn i s.heap → J.go i H →
    wpAny (model P w) X.A (pyNext (.ref it)) (fun r s1 => ∃ u, r = some u ∧
      wpAny (model P w) X.A (letOwnedTupleGo tg (.ref it) u) (fun _ s2 => ∃ x H', Inv X pins σ H' s2 ∧ RelV x u ∧ J.yld i H x H' ∧ tn (i + 1) s2.heap ∧ ∀ b ∈ fp, H' b = none) E s1) E s
  done : ∀ (X : Cx), X.prog = P → X.w = w → X.K = K → X.calm = true → ∀ (i : Nat) (pins : List (Addr × Obj)) (s : Shared) (σ : St) (H : Hp) (E : Value → Shared → Prop), Inv X pins σ H s → (∀ b ∈ fp, FpOk X pins H b) → tn i s.heap → J.stop i H →
    wpAny (model P w) X.A (pyNext (.ref it)) (fun r s1 => r = none ∧ Inv X pins σ H s1) E s
  self : ∀ (A : Around) (i : Nat) (s : Shared) (Q : Value → Shared → Prop) (E : Value → Shared → Prop), tn i s.heap → Q (.ref it) s → wpAny (model P w) A (pyIter (.ref it)) Q E s
abbrev TI := St → Hp → (It → Hp → Prop) → Prop
/-- an iterator has come -/
def PIE (X : Cx) (pins : List (Addr × Obj)) (σ : St) (tg : Expr) (R : It → Hp → Prop) (itv : Value) (s2 : Shared) : Prop :=
  ∃ (it : Addr) (fp : List Addr) (tn : Nat → Heap → Prop) (J : It) (H' : Hp), itv = .ref it ∧ Inv X pins σ H' s2 ∧ Turn X.prog X.w X.K tg J fp it tn ∧ tn 0 s2.heap ∧ (∀ b ∈ fp, FpOk X pins H' b) ∧ R J H'
def PI (X : Cx) (tg iter : Expr) (wi : TI) : Prop :=
  ∀ (pins : List (Addr × Obj)) (s : Shared) (σ : St) (H : Hp) (R : It → Hp → Prop), Inv X pins σ H s → wi σ H R →
    wpAny (model X.prog X.w) X.A (eval iter X.env) (fun v s1 => wpAny (model X.prog X.w) X.A (pyIter v) (PIE X pins σ tg R) X.xe s1) X.xe s

/-- the step ahead of the store is nothing for an iterator that keeps no tuple -/
theorem go_of {M : Model} {A : Around} {E : Value → Shared → Prop} {s : Shared} {tg : Expr} {it : Addr} {u : Value} {o : Obj} {n : String} {vs : Array Value} {Q : Unit → Shared → Prop} (ho : s.heap.get? it = some o) (hc : o.cls = .type n) (hd : o.data = .fields vs)
    (hn : ["enumerate", "zip", "dict_itemiterator", "dict_reverseitemiterator", "odict_iterator", "itertools.zip_longest", "itertools.pairwise"].contains n = false) (hQ : Q () s) : wpAny M A (letOwnedTupleGo tg (.ref it) u) Q E s := by
  unfold letOwnedTupleGo
  cases tg <;> first
    | exact wpAny_pure hQ
    | (cases u <;> first
        | exact wpAny_pure hQ
        | (refine wpAny_bind (wpAny_load ho ?_)
           rw [hc, hd]
           show wpAny M A (if (["enumerate", "zip", "dict_itemiterator", "dict_reverseitemiterator", "odict_iterator", "itertools.zip_longest", "itertools.pairwise"].contains n && vs[0]? == some (rawInt _)) = true then _ else _) Q E s
           rw [if_neg (by intro h; rw [hn, Bool.false_and] at h; cases h)]
           exact wpAny_pure hQ))

/-- the list at a, as it stands at each turn (a loop may append to it) -/
def Itl (K : PySem.W.Frag) (a : Addr) : It :=
  ⟨fun i H => ∃ xs x, SqL K H a xs ∧ xs[i]? = some x, fun i H x H' => H' = H ∧ ∀ xs, SqL K H a xs → xs[i]? = some x, fun i H => ∃ xs, SqL K H a xs ∧ xs.length ≤ i⟩
def Itt (K : PySem.W.Frag) (a : Addr) : It :=
  ⟨fun i H => ∃ xs x, SqT K H a xs ∧ xs[i]? = some x, fun i H x H' => H' = H ∧ ∀ xs, SqT K H a xs → xs[i]? = some x, fun i H => ∃ xs, SqT K H a xs ∧ xs.length ≤ i⟩
/-- lo, lo + 1, .. (n of them) -/
def Itr (lo : Int) (n : Nat) : It := ⟨fun i _ => i < n, fun i H x H' => H' = H ∧ x = .int (lo + i), fun i _ => n ≤ i⟩
theorem turn_list {P : Program} {w : World} {K : PySem.W.Frag} {tg : Expr} (a it : Addr) : Turn P w K tg (Itl K a) [it] it (fun i h => h.IsListIter it a i) where
  mem := by simp
  obj := fun i h st b hb => by
    have e : b = it := by simpa using hb
    subst e
    obtain ⟨o, e, c, d⟩ := st
    exact ⟨o, e, fun v z => by rw [d] at z; cases z⟩
  keep := fun i h h' st k => st.at fun o e => k it (by simp) o e
  item := by
    intro X hP hw hK hc i pins s σ H E I hf st hg
    subst hP hw hK
    obtain ⟨xs, x, hq, hx⟩ := hg
    obtain ⟨its, rv, p, hz⟩ := I.list hq
    obtain ⟨u, hu, ru⟩ := rv.get hx
    obtain ⟨f0, f1, f2, f3, f4, f5⟩ := hf it (by simp)
    refine wpAny_pyNext_list_item st p.isList (x := u) (by simpa using hu) fun h' st' sb => ?_
    have I1 : Inv X pins σ H { s with heap := h' } := I.turned (t' := s.toks) (fun b o hb e => (sb.2 b hb).trans e) f0 f1 f3 f4 f5
    obtain ⟨o, e, c, d⟩ := id st'
    exact ⟨u, rfl, go_of (s := { s with heap := h' }) e c d (by decide) ⟨x, H, I1, ru, ⟨rfl, fun ys hy => by rw [I.list_inj hy hq]; exact hx⟩, st', fun b hb => (hf b hb).1⟩⟩
  done := by
    intro X hP hw hK hc i pins s σ H E I hf st hg
    subst hP hw hK
    obtain ⟨xs, hq, hx⟩ := hg
    obtain ⟨its, rv, p, hz⟩ := I.list hq
    obtain ⟨f0, f1, f2, f3, f4, f5⟩ := hf it (by simp)
    have hl := rv.length
    exact wpAny_pyNext_list_end (I.ok.hd hc) st p.isList (by simp; omega) fun h' eb => ⟨rfl, I.turned (t' := s.toks) (fun b o hb e => eb b o hb e) f0 f1 f3 f4 f5⟩
  self := fun _ _ _ _ _ st h => wpAny_pyIter_listiter st h
theorem turn_tuple {P : Program} {w : World} {K : PySem.W.Frag} {tg : Expr} (a it : Addr) : Turn P w K tg (Itt K a) [it] it (fun i h => h.IsTupleIter it a i) where
  mem := by simp
  obj := fun i h st b hb => by
    have e : b = it := by simpa using hb
    subst e
    obtain ⟨o, e, c, d⟩ := st
    exact ⟨o, e, fun v z => by rw [d] at z; cases z⟩
  keep := fun i h h' st k => st.at fun o e => k it (by simp) o e
  item := by
    intro X hP hw hK hc i pins s σ H E I hf st hg
    subst hP hw hK
    obtain ⟨xs, x, hq, hx⟩ := hg
    obtain ⟨its, rv, p, hz⟩ := I.tuple hq
    obtain ⟨u, hu, ru⟩ := rv.get hx
    obtain ⟨f0, f1, f2, f3, f4, f5⟩ := hf it (by simp)
    refine wpAny_pyNext_tuple_item st (show s.heap.IsTuple a its.toArray from p) (x := u) (by simpa using hu) fun h' st' sb => ?_
    have I1 : Inv X pins σ H { s with heap := h' } := I.turned (t' := s.toks) (fun b o hb e => (sb.2 b hb).trans e) f0 f1 f3 f4 f5
    obtain ⟨o, e, c, d⟩ := id st'
    exact ⟨u, rfl, go_of (s := { s with heap := h' }) e c d (by decide) ⟨x, H, I1, ru, ⟨rfl, fun ys hy => by rw [I.tuple_inj hy hq]; exact hx⟩, st', fun b hb => (hf b hb).1⟩⟩
  done := by
    intro X hP hw hK hc i pins s σ H E I hf st hg
    subst hP hw hK
    obtain ⟨xs, hq, hx⟩ := hg
    obtain ⟨its, rv, p, hz⟩ := I.tuple hq
    obtain ⟨f0, f1, f2, f3, f4, f5⟩ := hf it (by simp)
    have hl := rv.length
    exact wpAny_pyNext_tuple_end (I.ok.hd hc) st (show s.heap.IsTuple a its.toArray from p) (by simp; omega) fun h' eb => ⟨rfl, I.turned (t' := s.toks) (fun b o hb e => eb b o hb e) f0 f1 f3 f4 f5⟩
  self := fun _ _ _ _ _ st h => wpAny_pyIter_tupleiter st h
theorem turn_range {P : Program} {w : World} {K : PySem.W.Frag} {tg : Expr} (it : Addr) (lo : Int) (n : Nat) : Turn P w K tg (Itr lo n) [it] it (fun i h => IsRangeIter h it (lo + (i : Nat) * 1) ((n : Int) - (i : Nat)) 1) where
  mem := by simp
  obj := fun i h st b hb => by
    have e : b = it := by simpa using hb
    subst e
    exact ⟨_, st, fun v z => by
      have z' : Data.fields _ = Data.cell v := z
      cases z'⟩
  keep := fun i h h' st k => k it (by simp) _ st
  item := by
    intro X hP hw hK hc i pins s σ H E I hf st hg
    subst hP hw hK
    obtain ⟨f0, f1, f2, f3, f4, f5⟩ := hf it (by simp)
    have W := Walks.range (prog := X.prog) (w := X.w) (I.ok.hd hc) it lo 1 n
    refine W.item i s _ _ hg st fun v h' tk hv st' kk => ?_
    obtain ⟨t, rfl⟩ := hv
    have I1 : Inv X pins σ H { s with heap := h', toks := tk } := I.turned (fun b o hb e => kk b o (by simpa using hb) e) f0 f1 f3 f4 f5
    refine ⟨_, rfl, go_of (s := { s with heap := h', toks := tk }) (n := "range_iterator") st' rfl rfl (by decide) ⟨.int (lo + i), H, I1, ⟨t, ?_⟩, ⟨rfl, rfl⟩, st', fun b hb => (hf b hb).1⟩⟩
    rw [Int.mul_one]
  done := by
    intro X hP hw hK hc i pins s σ H E I hf st hg
    subst hP hw hK
    obtain ⟨f0, f1, f2, f3, f4, f5⟩ := hf it (by simp)
    exact wpAny_pyNext_range_end (I.ok.hd hc) st (by have : n ≤ i := hg; omega) fun h' eb => ⟨rfl, I.turned (t' := s.toks) (fun b o hb e => eb b o hb e) f0 f1 f3 f4 f5⟩
  self := fun _ _ _ _ _ st h => wpAny_pyIter_rangeiter st h
end L2

namespace L2
open PySem PySem.Spec PyProof.Rows
section
variable {X : Cx} {tg : Expr}
def iList (K : PySem.W.Frag) (tl : TE) : TI := fun σ H R => tl σ H fun x H1 => ∃ a, x = .ref a ∧ (∃ xs, SqL K H1 a xs) ∧ R (Itl K a) H1
def iTup (K : PySem.W.Frag) (tl : TE) : TI := fun σ H R => tl σ H fun x H1 => ∃ a, x = .ref a ∧ (∃ xs, SqT K H1 a xs) ∧ R (Itt K a) H1
theorem pi_list {l : Expr} {tl : TE} (hl : PE X l tl) : PI X tg l (iList X.K tl) := by
  intro pins s σ H R I h
  refine thn (hl pins s σ H _ I h) fun v s1 ⟨x, H1, I1, r1, q1⟩ => ?_
  obtain ⟨a, e, ⟨xs, hq⟩, q⟩ := q1
  subst e
  cases r1
  obtain ⟨its, rv, p, hz⟩ := I1.list hq
  refine wpAny_pyIter_list p.isList ?_
  refine ⟨s1.heap.objs.size, [s1.heap.objs.size], _, _, H1, rfl, I1.kept (t' := s1.toks) fun b o e => Heap.get?_push_of_some _ e, turn_list a _, ⟨_, Heap.get?_push_size _ rfl, rfl, rfl⟩, fun b hb => ?_, q⟩
  have e : b = s1.heap.objs.size := by simpa using hb
  subst e
  exact I1.fpOk (Nat.le_refl _) (I1.hok.fresh (Nat.le_refl _))
theorem pi_tup {l : Expr} {tl : TE} (hl : PE X l tl) : PI X tg l (iTup X.K tl) := by
  intro pins s σ H R I h
  refine thn (hl pins s σ H _ I h) fun v s1 ⟨x, H1, I1, r1, q1⟩ => ?_
  obtain ⟨a, e, ⟨xs, hq⟩, q⟩ := q1
  subst e
  cases r1
  obtain ⟨its, rv, p, hz⟩ := I1.tuple hq
  refine wpAny_pyIter_tuple (show s1.heap.IsTuple a its.toArray from p) ?_
  refine ⟨s1.heap.objs.size, [s1.heap.objs.size], _, _, H1, rfl, I1.kept (t' := s1.toks) fun b o e => Heap.get?_push_of_some _ e, turn_tuple a _, ⟨_, Heap.get?_push_size _ rfl, rfl, rfl⟩, fun b hb => ?_, q⟩
  have e : b = s1.heap.objs.size := by simpa using hb
  subst e
  exact I1.fpOk (Nat.le_refl _) (I1.hok.fresh (Nat.le_refl _))
/-- a range object just made, walked -/
theorem range_it {pins : List (Addr × Obj)} {σ : St} {H : Hp} {s : Shared} {R : It → Hp → Prop} {E : Value → Shared → Prop} {lo hi : Int} {t u v : Tok} {tk : Nat} (I : Inv X pins σ H s) (h1 : -(2 ^ 62) ≤ lo) (h2 : lo < 2 ^ 62) (h3 : -(2 ^ 62) ≤ hi) (h4 : hi < 2 ^ 62)
    (q : R (Itr lo (hi - lo).toNat) H) : wpAny (model X.prog X.w) X.A (pyIter (.ref s.heap.objs.size)) (PIE X pins σ tg R) E { s with heap := s.heap.push { cls := .type "range", data := .fields #[.int lo t, .int hi u, .int 1 v] }, toks := tk } := by
  refine wpAny_pyIter_range (IsRange.new ..) (small_one h1 h2 h3 h4) ?_
  have I1 : Inv X pins σ H { s with heap := s.heap.push { cls := .type "range", data := .fields #[.int lo t, .int hi u, .int 1 v] }, toks := tk } := I.kept fun b o e => Heap.get?_push_of_some _ e
  refine ⟨(s.heap.push { cls := .type "range", data := .fields #[.int lo t, .int hi u, .int 1 v] }).objs.size, [(s.heap.push { cls := .type "range", data := .fields #[.int lo t, .int hi u, .int 1 v] }).objs.size], _, _, H, rfl,
    I1.kept (t' := tk) fun b o e => Heap.get?_push_of_some _ e, turn_range _ lo (hi - lo).toNat, ?_, fun b hb => ?_, q⟩
  · have e1 : lo + ((0 : Nat) : Int) * 1 = lo := by simp
    have e2 : (((hi - lo).toNat : Nat) : Int) - ((0 : Nat) : Int) = Builtin.Range.rangeSize lo hi 1 := by rw [rangeSize_one]; split <;> omega
    show IsRangeIter _ _ (lo + ((0 : Nat) : Int) * 1) ((((hi - lo).toNat : Nat) : Int) - ((0 : Nat) : Int)) 1
    rw [e1, e2]
    exact Heap.get?_push_size _ rfl
  · have e : b = (s.heap.push { cls := .type "range", data := .fields #[.int lo t, .int hi u, .int 1 v] }).objs.size := by simpa using hb
    subst e
    exact I1.fpOk (Nat.le_refl _) (I1.hok.fresh (Nat.le_refl _))
def iRng1 (ta : TA) : TI := fun σ H R => ta σ H fun vs H1 => ∃ j : Int, vs = [.int j] ∧ -(2 ^ 62) ≤ j ∧ j < 2 ^ 62 ∧ R (Itr 0 j.toNat) H1
def iRng2 (ta : TA) : TI := fun σ H R => ta σ H fun vs H1 => ∃ i j : Int, vs = [.int i, .int j] ∧ (-(2 ^ 62) ≤ i ∧ i < 2 ^ 62 ∧ -(2 ^ 62) ≤ j ∧ j < 2 ^ 62) ∧ R (Itr i (j - i).toNat) H1
theorem pi_range1 {a : Expr} {ta : TA} {p pos : Pos} (hg : Gl X "range") (hm : X.mg "range" = none) (ha : PA X [a] ta) (hs : starEach [a] X.env = [(false, eval a X.env)] := by rfl) : PI X tg (.Call (.Name "range" p) [a] [] pos) (iRng1 ta) := by
  intro pins s σ H R I h
  refine Call_ (ld_blt I hg hm boot_range (PyProof.Rows.callWith_type1 (thn (ha pos pins s σ H _ I h) fun us s1 ⟨vs, H1, I1, r1, q1⟩ => ?_) hs rfl))
  obtain ⟨j, e, q1, q2, q⟩ := q1
  subst e
  cases r1 with
  | cons r rr =>
    cases rr
    obtain ⟨t, rfl⟩ := r
    exact call_range_1 (range_it I1 (by omega) (by omega) q1 q2 (by simpa using q))
theorem pi_range2 {a b : Expr} {ta : TA} {p pos : Pos} (hg : Gl X "range") (hm : X.mg "range" = none) (ha : PA X [a, b] ta) (hs : starEach [a, b] X.env = [(false, eval a X.env), (false, eval b X.env)] := by rfl) (hs2 : starEach [b] X.env = [(false, eval b X.env)] := by rfl) :
    PI X tg (.Call (.Name "range" p) [a, b] [] pos) (iRng2 ta) := by
  intro pins s σ H R I h
  refine Call_ (ld_blt I hg hm boot_range (PyProof.Rows.callWith_type1 (thn (ha pos pins s σ H _ I h) fun us s1 ⟨vs, H1, I1, r1, q1⟩ => ?_) (by rw [hs, hs2]) (by rw [hs2]; rfl)))
  obtain ⟨i, j, e, ⟨q1, q2, q3, q4⟩, q⟩ := q1
  subst e
  cases r1 with
  | cons r rr =>
    cases rr with
    | cons r' rr =>
      cases rr
      obtain ⟨t, rfl⟩ := r
      obtain ⟨t', rfl⟩ := r'
      exact call_range_2 (range_it I1 q1 q2 q3 q4 q)

/-! ### for -/
/-- W: the invariant by the turn and a measure; N: what the body is to reach -/
def tFor (wi : TI) (g : TG) (tb : TS) : TS := fun D σ H => wi σ H fun J H1 => ∃ W : Nat → Nat → St → Hp → Prop, (∃ m, W 0 m σ H1) ∧ ∀ i m σ H, W i m σ H →
  (J.stop i H ∧ D.nx σ H) ∨ (J.go i H ∧ ∃ N : St → Hp → Prop, (∀ σ' H', N σ' H' → ∃ m', m' < m ∧ W (i + 1) m' σ' H') ∧ ∀ x H', J.yld i H x H' → g x σ H' fun σ2 H2 => tb { D with nx := N, ct := N, bk := D.nx } σ2 H2)
/-- the records at fp as they stand -/
def pinsAt (fp : List Addr) (h : Heap) : List (Addr × Obj) := fp.filterMap fun b => (h.get? b).map fun o => (b, o)
theorem mem_pinsAt {fp : List Addr} {h : Heap} {b : Addr} {o : Obj} (hb : b ∈ fp) (e : h.get? b = some o) : (b, o) ∈ pinsAt fp h := List.mem_filterMap.mpr ⟨b, hb, by rw [e]; rfl⟩
theorem of_pinsAt {fp : List Addr} {h : Heap} {p : Addr × Obj} (hp : p ∈ pinsAt fp h) : p.1 ∈ fp ∧ h.get? p.1 = some p.2 := by
  obtain ⟨b, hb, e⟩ := List.mem_filterMap.mp hp
  cases q : h.get? b with
  | none => rw [q] at e; cases e
  | some o =>
    rw [q] at e
    have e' : (b, o) = p := Option.some.inj e
    subst e'
    exact ⟨hb, q⟩
theorem Inv.pinned {pins : List (Addr × Obj)} {σ : St} {H : Hp} {s : Shared} {fp : List Addr} (I : Inv X pins σ H s) (hf : ∀ b ∈ fp, FpOk X pins H b) (ho : ∀ b ∈ fp, ∃ o, s.heap.get? b = some o ∧ ∀ v, o.data ≠ .cell v) : Inv X (pins ++ pinsAt fp s.heap) σ H s :=
  I.pins_of fun p hp => (List.mem_append.mp hp).elim (fun z => I.pin p (List.mem_append_right _ z)) fun z => by
    obtain ⟨hb, e⟩ := of_pinsAt z
    obtain ⟨f0, f1, f2, _⟩ := hf p.1 hb
    obtain ⟨o, e', d⟩ := ho p.1 hb
    rw [e] at e'; cases e'
    exact ⟨e, f0, f1, f2, d⟩
theorem Inv.unpinned {pins pl : List (Addr × Obj)} {σ : St} {H : Hp} {s : Shared} (I : Inv X (pins ++ pl) σ H s) : Inv X pins σ H s := I.pins_of fun p hp => I.pin p (List.mem_append_right _ (List.mem_append_left _ hp))
theorem ps_for {iter : Expr} {body : List Stmt} {wi : TI} {g : TG} {tb : TS} {pos : Pos} (hp : PassesOwn (model X.prog X.w) X.A X.env X.xe) (hc : X.calm = true) (hi : PI X tg iter wi) (hg : PG X tg g) (hb : PSs X body tb)
    (hs : ∀ x, foldedSetIterable iter X.env x = pure x := by intro _; rfl) : PS X (.For tg iter body [] pos) (tFor wi g tb) := by
  intro pins s σ H D I h
  refine wpAny_For (thn (hi pins s σ H _ I h) fun v s1 h1 => thn h1 fun itv s2 h2 => ?_) hs
  obtain ⟨it, fp, tn, J, H2, e, I2, T, st2, f2, W, ⟨m0, w0⟩, turn⟩ := h2
  subst e
  -- what stays true of the iterator's objects through the loop
  have stat : ∀ {H' : Hp}, (∀ b ∈ fp, H' b = none) → ∀ b ∈ fp, FpOk X pins H' b := fun hn b hb => ⟨hn b hb, (f2 b hb).2⟩
  refine codeAny_forLoop_any (fun n s' => ∃ i σ' H', Inv X pins σ' H' s' ∧ tn i s'.heap ∧ (∀ b ∈ fp, H' b = none) ∧ W i n σ' H') ?_ m0 ⟨0, σ, H2, I2, st2, fun b hb => (f2 b hb).1, w0⟩
  rintro n s3 ⟨i, σ3, H3, I3, st3, fr3, w3⟩
  rcases turn i n σ3 H3 w3 with ⟨stop, qn⟩ | ⟨go, N, hN, step⟩
  · refine wpAny_passesOwn hp (thn (T.done X rfl rfl rfl hc i pins s3 σ3 H3 X.xe I3 (stat fr3) st3 stop) fun r s4 ⟨hr, I4⟩ => ?_)
    subst hr
    exact wpAny_execs_nil ⟨σ3, H3, I4, qn⟩
  · refine wpAny_passesOwn hp (thn (T.item X rfl rfl rfl hc i pins s3 σ3 H3 X.xe I3 (stat fr3) st3 go) fun r s4 ⟨u, hr, h4⟩ => ?_)
    subst hr
    refine wpAny_passesOwn hp (thn h4 fun _ s5 ⟨x, H5, I5, r5, y5, st5, fr5⟩ => ?_)
    have I5' := I5.pinned (stat fr5) (T.obj _ _ st5)
    refine wpAny_passesOwn hp (thn (hg _ s5 σ3 H5 x u _ I5' r5 (step x H5 y5)) fun _ s6 ⟨σ6, H6, I6, q6⟩ => ?_)
    refine wpAny_passesOwn hp (thn (hb _ s6 σ6 H6 _ I6 q6) fun f s7 q7 => ?_)
    have again : ∀ {σ7 : St} {H7 : Hp}, Inv X (pins ++ pinsAt fp s5.heap) σ7 H7 s7 → N σ7 H7 → ∃ m, m < n ∧ ∃ i σ' H', Inv X pins σ' H' s7 ∧ tn i s7.heap ∧ (∀ b ∈ fp, H' b = none) ∧ W i m σ' H' := fun {σ7 H7} I7 n7 => by
      obtain ⟨m', hm, w7⟩ := hN σ7 H7 n7
      refine ⟨m', hm, i + 1, σ7, H7, I7.unpinned, T.keep _ _ _ st5 fun b hb o e => (I7.pin (b, o) (List.mem_append_right _ (List.mem_append_right _ (mem_pinsAt hb e)))).1, fun b hb => ?_, w7⟩
      obtain ⟨o, e, d⟩ := T.obj _ _ st5 b hb
      exact (I7.pin (b, o) (List.mem_append_right _ (List.mem_append_right _ (mem_pinsAt hb e)))).2.1
    cases f with
    | next => obtain ⟨σ7, H7, I7, n7⟩ := q7; exact again I7 n7
    | cont => obtain ⟨σ7, H7, I7, n7⟩ := q7; exact again I7 n7
    | brk => obtain ⟨σ7, H7, I7, q7⟩ := q7; exact ⟨σ7, H7, I7.unpinned, q7⟩
    | ret v => obtain ⟨x7, σ7, H7, I7, r7, q7⟩ := q7; exact ⟨x7, σ7, H7, I7.unpinned, r7, q7⟩
end

/-! ### the forms one uses -/
/-- over a list that the body leaves as it is -/
theorem for_list {K : PySem.W.Frag} {a : Addr} {xs : List V} {g : TG} {tb : TS} {D : Ends} {σ : St} {H : Hp} (Pv : Nat → St → Hp → Prop) (h0 : Pv 0 σ H) (hl : ∀ i σ H, i ≤ xs.length → Pv i σ H → SqL K H a xs)
    (hs : ∀ i x σ H, xs[i]? = some x → Pv i σ H → g x σ H fun σ2 H2 => tb { D with nx := Pv (i + 1), ct := Pv (i + 1), bk := D.nx } σ2 H2) (hd : ∀ σ H, Pv xs.length σ H → D.nx σ H) :
    ∃ W : Nat → Nat → St → Hp → Prop, (∃ m, W 0 m σ H) ∧ ∀ i m σ H, W i m σ H →
      ((Itl K a).stop i H ∧ D.nx σ H) ∨ ((Itl K a).go i H ∧ ∃ N : St → Hp → Prop, (∀ σ' H', N σ' H' → ∃ m', m' < m ∧ W (i + 1) m' σ' H') ∧ ∀ x H', (Itl K a).yld i H x H' → g x σ H' fun σ2 H2 => tb { D with nx := N, ct := N, bk := D.nx } σ2 H2) := by
  refine ⟨fun i m σ H => m = xs.length - i ∧ i ≤ xs.length ∧ Pv i σ H, ⟨xs.length, by simp, Nat.zero_le _, h0⟩, ?_⟩
  rintro i m σ H ⟨rfl, hi, p⟩
  have q := hl i σ H hi p
  by_cases hlt : i < xs.length
  · refine .inr ⟨⟨xs, xs[i], q, by simp [hlt]⟩, Pv (i + 1), fun σ' H' p' => ⟨xs.length - (i + 1), by omega, rfl, hlt, p'⟩, fun x H' y => ?_⟩
    obtain ⟨e, y⟩ := y
    subst e
    exact hs i x σ _ (y xs q) p
  · have e : i = xs.length := by omega
    subst e
    exact .inl ⟨⟨xs, q, Nat.le_refl _⟩, hd σ H p⟩
theorem for_tup {K : PySem.W.Frag} {a : Addr} {xs : List V} {g : TG} {tb : TS} {D : Ends} {σ : St} {H : Hp} (Pv : Nat → St → Hp → Prop) (h0 : Pv 0 σ H) (hl : ∀ i σ H, i ≤ xs.length → Pv i σ H → SqT K H a xs)
    (hs : ∀ i x σ H, xs[i]? = some x → Pv i σ H → g x σ H fun σ2 H2 => tb { D with nx := Pv (i + 1), ct := Pv (i + 1), bk := D.nx } σ2 H2) (hd : ∀ σ H, Pv xs.length σ H → D.nx σ H) :
    ∃ W : Nat → Nat → St → Hp → Prop, (∃ m, W 0 m σ H) ∧ ∀ i m σ H, W i m σ H →
      ((Itt K a).stop i H ∧ D.nx σ H) ∨ ((Itt K a).go i H ∧ ∃ N : St → Hp → Prop, (∀ σ' H', N σ' H' → ∃ m', m' < m ∧ W (i + 1) m' σ' H') ∧ ∀ x H', (Itt K a).yld i H x H' → g x σ H' fun σ2 H2 => tb { D with nx := N, ct := N, bk := D.nx } σ2 H2) := by
  refine ⟨fun i m σ H => m = xs.length - i ∧ i ≤ xs.length ∧ Pv i σ H, ⟨xs.length, by simp, Nat.zero_le _, h0⟩, ?_⟩
  rintro i m σ H ⟨rfl, hi, p⟩
  have q := hl i σ H hi p
  by_cases hlt : i < xs.length
  · refine .inr ⟨⟨xs, xs[i], q, by simp [hlt]⟩, Pv (i + 1), fun σ' H' p' => ⟨xs.length - (i + 1), by omega, rfl, hlt, p'⟩, fun x H' y => ?_⟩
    obtain ⟨e, y⟩ := y
    subst e
    exact hs i x σ _ (y xs q) p
  · have e : i = xs.length := by omega
    subst e
    exact .inl ⟨⟨xs, q, Nat.le_refl _⟩, hd σ H p⟩
theorem for_range {lo : Int} {n : Nat} {g : TG} {tb : TS} {D : Ends} {σ : St} {H : Hp} (Pv : Nat → St → Hp → Prop) (h0 : Pv 0 σ H)
    (hs : ∀ i σ H, i < n → Pv i σ H → g (.int (lo + i)) σ H fun σ2 H2 => tb { D with nx := Pv (i + 1), ct := Pv (i + 1), bk := D.nx } σ2 H2) (hd : ∀ σ H, Pv n σ H → D.nx σ H) :
    ∃ W : Nat → Nat → St → Hp → Prop, (∃ m, W 0 m σ H) ∧ ∀ i m σ H, W i m σ H →
      ((Itr lo n).stop i H ∧ D.nx σ H) ∨ ((Itr lo n).go i H ∧ ∃ N : St → Hp → Prop, (∀ σ' H', N σ' H' → ∃ m', m' < m ∧ W (i + 1) m' σ' H') ∧ ∀ x H', (Itr lo n).yld i H x H' → g x σ H' fun σ2 H2 => tb { D with nx := N, ct := N, bk := D.nx } σ2 H2) := by
  refine ⟨fun i m σ H => m = n - i ∧ i ≤ n ∧ Pv i σ H, ⟨n, by simp, Nat.zero_le _, h0⟩, ?_⟩
  rintro i m σ H ⟨rfl, hi, p⟩
  by_cases hlt : i < n
  · refine .inr ⟨hlt, Pv (i + 1), fun σ' H' p' => ⟨n - (i + 1), by omega, rfl, hlt, p'⟩, fun x H' y => ?_⟩
    obtain ⟨e, y⟩ := y
    subst e y
    exact hs i σ _ hlt p
  · have e : i = n := by omega
    subst e
    exact .inl ⟨Nat.le_refl _, hd σ H p⟩
/-- while, by a word and a measure of the state -/
theorem while_by {c : TT} {tb : TS} {D : Ends} {σ : St} {H : Hp} (Pv : St → Hp → Prop) (μ : St → Hp → Nat) (h0 : Pv σ H)
    (hs : ∀ σ H, Pv σ H → c σ H fun b H1 => if b = true then tb { D with nx := fun σ' H' => Pv σ' H' ∧ μ σ' H' < μ σ H, ct := fun σ' H' => Pv σ' H' ∧ μ σ' H' < μ σ H, bk := D.nx } σ H1 else D.nx σ H1)
    (mono : ∀ σ H Q Q', (∀ b H1, Q b H1 → Q' b H1) → c σ H Q → c σ H Q') : tWhile c tb D σ H := by
  refine ⟨fun m σ H => m = μ σ H ∧ Pv σ H, ⟨_, rfl, h0⟩, ?_⟩
  rintro m σ H ⟨rfl, p⟩
  refine mono σ H _ _ (fun b H1 q => ?_) (hs σ H p)
  cases b with
  | true => exact ⟨_, fun σ' H' ⟨p', l⟩ => ⟨_, l, rfl, p'⟩, q⟩
  | false => exact q
end L2

namespace L2
open PySem PySem.Spec PyProof.Rows

abbrev R2 := V → V → Hp → VK → Prop
/-- a two-place operation on values: f is binaryOp op, inplaceOp op or compareOp op -/
def OpR (X : Cx) (f : Value → Value → Sem Value) (r : R2) : Prop :=
  ∀ (pins : List (Addr × Obj)) (s : Shared) (σ : St) (H : Hp) (x y : V) (v u : Value) (Q : VK), Inv X pins σ H s → RelV x v → RelV y u → r x y H Q →
    wpAny (model X.prog X.w) X.A (f v u) (EP X pins σ Q) X.xe s
/-- a one-place operation -/
def UnR (X : Cx) (f : Value → Sem Value) (r : V → Hp → VK → Prop) : Prop :=
  ∀ (pins : List (Addr × Obj)) (s : Shared) (σ : St) (H : Hp) (x : V) (v : Value) (Q : VK), Inv X pins σ H s → RelV x v → r x H Q →
    wpAny (model X.prog X.w) X.A (f v) (EP X pins σ Q) X.xe s
/-- a call of a value that is known (a builtin, a type) with values -/
def CallR (X : Cx) (f : Value) (r : List V → Hp → VK → Prop) : Prop :=
  ∀ (pins : List (Addr × Obj)) (s : Shared) (σ : St) (H : Hp) (xs : List V) (us : List Value) (Q : VK), Inv X pins σ H s → Vals xs us → r xs H Q →
    wpAny (model X.prog X.w) X.A (call f us) (EP X pins σ Q) X.xe s
/-- a value's truth -/
def TruR (X : Cx) (r : V → Hp → (Bool → Hp → Prop) → Prop) : Prop :=
  ∀ (pins : List (Addr × Obj)) (s : Shared) (σ : St) (H : Hp) (x : V) (v : Value) (Q : Bool → Hp → Prop), Inv X pins σ H s → RelV x v → r x H Q →
    wpAny (model X.prog X.w) X.A (truthy v) (TP X pins σ Q) X.xe s

def tOp (r : R2) (ta tb : TE) : TE := fun σ H Q => ta σ H fun x H1 => tb σ H1 fun y H2 => r x y H2 Q
def tUn (r : V → Hp → VK → Prop) (ta : TE) : TE := fun σ H Q => ta σ H fun x H1 => r x H1 Q
/-- ints in, under C, and a value out -/
def rI (C : Int → Int → Prop) (g : Int → Int → V) : R2 := fun x y H Q => ∃ i j, x = .int i ∧ y = .int j ∧ C i j ∧ Q (g i j) H
def rI0 (g : Int → Int → V) : R2 := fun x y H Q => ∃ i j, x = .int i ∧ y = .int j ∧ Q (g i j) H
def rU (g : Int → V) : V → Hp → VK → Prop := fun x H Q => ∃ i, x = .int i ∧ Q (g i) H

section
variable {X : Cx} {a b c : Expr} {ta tb tc : TE} {pos : Pos}

theorem binT (ha : PE X a ta) (hb : PE X b tb) {pins : List (Addr × Obj)} {s : Shared} {σ : St} {H : Hp} {R : V → V → Hp → Prop} (I : Inv X pins σ H s)
    (h : ta σ H fun x H1 => tb σ H1 fun y H2 => R x y H2) {Q : Value → Shared → Prop} {f : Value → Value → Sem Value}
    (hf : ∀ v u s2 x y H2, Inv X pins σ H2 s2 → RelV x v → RelV y u → R x y H2 → wpAny (model X.prog X.w) X.A (f v u) Q X.xe s2) :
    wpAny (model X.prog X.w) X.A (eval a X.env) (fun v s₁ => wpAny (model X.prog X.w) X.A (eval b X.env) (fun u s₂ => wpAny (model X.prog X.w) X.A (f v u) Q X.xe s₂) X.xe s₁) X.xe s := by
  refine thn (ha pins s σ H _ I h) fun v s1 ⟨x, H1, I1, r1, q1⟩ => ?_
  refine thn (hb pins s1 σ H1 _ I1 q1) fun u s2 ⟨y, H2, I2, r2, q2⟩ => ?_
  exact hf v u s2 x y H2 I2 r1 r2 q2

theorem pe_op {op : Operator} {r : R2} (ho : OpR X (binaryOp op) r) (ha : PE X a ta) (hb : PE X b tb) : PE X (.BinOp a op b pos) (tOp r ta tb) := by
  intro pins s σ H Q I h
  exact wpAny_BinOp (binT ha hb I h fun v u s2 x y H2 I2 rx ry q => ho pins s2 σ H2 x y v u Q I2 rx ry q)
theorem pe_un {op : UnaryOp} {r : V → Hp → VK → Prop} (ho : UnR X (unaryOp op) r) (ha : PE X a ta) : PE X (.UnaryOp op a pos) (tUn r ta) := by
  intro pins s σ H Q I h
  exact UnaryOp_ (thn (ha pins s σ H _ I h) fun v s1 ⟨x, H1, I1, r1, q1⟩ => ho pins s1 σ H1 x v Q I1 r1 q1)
/-- a op= e at a name: the name's slot i -/
theorem augR {op : Operator} {r : R2} (ho : OpR X (inplaceOp op) r) {pins : List (Addr × Obj)} {s : Shared} {σ : St} {H : Hp} {x y : V} {v u : Value} {Q : VK} (I : Inv X pins σ H s)
    (rx : RelV x v) (ry : RelV y u) (q : r x y H Q) : wpAny (model X.prog X.w) X.A (inplaceOp op v u) (EP X pins σ Q) X.xe s := ho pins s σ H x y v u Q I rx ry q

/-! ### ints -/
theorem opI {f : Value → Value → Sem Value} {C : Int → Int → Prop} {g : Int → Int → Int}
    (rule : ∀ (i j : Int) (t u : Tok) (s : Shared) (Q : Value → Shared → Prop) (E : Value → Shared → Prop), C i j → Q (.int (g i j) s.toks) { s with toks := s.toks + 1 } → wpAny (model X.prog X.w) X.A (f (.int i t) (.int j u)) Q E s) :
    OpR X f (rI C fun i j => .int (g i j)) := by
  intro pins s σ H x y v u Q I rx ry h
  obtain ⟨i, j, rfl, rfl, hc, q⟩ := h
  obtain ⟨t, rfl⟩ := rx
  obtain ⟨t', rfl⟩ := ry
  exact rule i j t t' s _ _ hc ⟨.int (g i j), H, I.tok _, ⟨_, rfl⟩, q⟩
theorem opI0 {f : Value → Value → Sem Value} {g : Int → Int → Int}
    (rule : ∀ (i j : Int) (t u : Tok) (s : Shared) (Q : Value → Shared → Prop) (E : Value → Shared → Prop), Q (.int (g i j) s.toks) { s with toks := s.toks + 1 } → wpAny (model X.prog X.w) X.A (f (.int i t) (.int j u)) Q E s) :
    OpR X f (rI0 fun i j => .int (g i j)) := by
  intro pins s σ H x y v u Q I rx ry h
  obtain ⟨i, j, rfl, rfl, q⟩ := h
  obtain ⟨t, rfl⟩ := rx
  obtain ⟨t', rfl⟩ := ry
  exact rule i j t t' s _ _ ⟨.int (g i j), H, I.tok _, ⟨_, rfl⟩, q⟩
theorem opB0 {f : Value → Value → Sem Value} {g : Int → Int → Bool}
    (rule : ∀ (i j : Int) (t u : Tok) (s : Shared) (Q : Value → Shared → Prop) (E : Value → Shared → Prop), Q (.bool (g i j)) s → wpAny (model X.prog X.w) X.A (f (.int i t) (.int j u)) Q E s) :
    OpR X f (rI0 fun i j => .bl (g i j)) := by
  intro pins s σ H x y v u Q I rx ry h
  obtain ⟨i, j, rfl, rfl, q⟩ := h
  obtain ⟨t, rfl⟩ := rx
  obtain ⟨t', rfl⟩ := ry
  exact rule i j t t' s _ _ ⟨.bl (g i j), H, I, rfl, q⟩

def CDiv (i j : Int) : Prop := 0 < j ∧ j < 1073741824
def CDivN (i j : Int) : Prop := j ≠ 0 ∧ j.natAbs < 1073741824
def CPow (i j : Int) : Prop := 0 ≤ j ∧ j ≤ 1000000 ∧ i.natAbs < 2 ^ 64
def CMul (i j : Int) : Prop := (-(2 ^ 64) < i ∧ i < 2 ^ 64) ∨ (-(2 ^ 64) < j ∧ j < 2 ^ 64)
theorem CMul.ok {i j : Int} (h : CMul i j) : IntMulOk i j := by
  rcases h with ⟨h1, h2⟩ | ⟨h1, h2⟩
  · exact .of_left (intBits_le_64 h1 h2)
  · exact .of_right (intBits_le_64 h1 h2)
theorem two_pow_nn (k : Nat) : (0 : Int) ≤ 2 ^ k := by
  rw [two_pow_cast]
  exact Int.natCast_nonneg _

theorem op_add : OpR X (binaryOp .Add) (rI0 fun i j => .int (i + j)) := opI0 fun _ _ _ _ _ _ _ q => add_int q
theorem op_sub : OpR X (binaryOp .Sub) (rI0 fun i j => .int (i - j)) := opI0 fun _ _ _ _ _ _ _ q => sub_int q
theorem op_mul : OpR X (binaryOp .Mult) (rI CMul fun i j => .int (i * j)) := opI fun _ _ _ _ _ _ _ hc q => mul_int q hc.ok
/-- // by a positive divisor -/
theorem op_fdiv : OpR X (binaryOp .FloorDiv) (rI CDiv fun i j => .int (i / j)) := opI fun i j _ _ _ _ _ hc q => by
  have h1 : (0 : Int) < j := hc.1
  have h2 : j < 1073741824 := hc.2
  exact floordiv_int (by omega) (by rw [Int.fdiv_eq_ediv_of_nonneg i (by omega)]; exact q) (.inl (PyProof.noPylong_small (by omega)))
theorem op_fdivN : OpR X (binaryOp .FloorDiv) (rI CDivN fun i j => .int (i.fdiv j)) := opI fun _ _ _ _ _ _ _ hc q => floordiv_int hc.1 q (.inl (PyProof.noPylong_small hc.2))
/-- % by a positive divisor of any size -/
theorem op_mod : OpR X (binaryOp .Mod) (rI (fun _ j => 0 < j) fun i j => .int (i % j)) := opI fun i j _ _ _ _ _ hc q => by
  have h1 : (0 : Int) < j := hc
  exact mod_int' (by omega) (by rw [Int.fmod_eq_emod_of_nonneg i (by omega)]; exact q)
theorem op_modN : OpR X (binaryOp .Mod) (rI (fun _ j => j ≠ 0) fun i j => .int (i.fmod j)) := opI fun _ _ _ _ _ _ _ hc q => mod_int' hc q
theorem op_pow : OpR X (binaryOp .Pow) (rI CPow fun i j => .int (i ^ j.toNat)) := opI fun _ _ _ _ _ _ _ hc q => pow_int_small hc.1 hc.2.1 hc.2.2 q
theorem op_shl : OpR X (binaryOp .LShift) (rI CPow fun i j => .int (i * 2 ^ j.toNat)) := opI fun _ _ _ _ _ _ _ hc q => lshift_int_small hc.1 hc.2.1 hc.2.2 q
theorem op_shr : OpR X (binaryOp .RShift) (rI (fun _ j => 0 ≤ j) fun i j => .int (i / 2 ^ j.toNat)) := opI fun i j _ _ _ _ _ hc q =>
  rshift_int hc (by rw [Int.fdiv_eq_ediv_of_nonneg i (two_pow_nn _)]; exact q)
theorem op_and : OpR X (binaryOp .BitAnd) (rI0 fun i j => .int (Builtin.bitAnd i j)) := opI0 fun _ _ _ _ _ _ _ q => and_int q
theorem op_or : OpR X (binaryOp .BitOr) (rI0 fun i j => .int (Builtin.bitOr i j)) := opI0 fun _ _ _ _ _ _ _ q => or_int q
theorem op_xor : OpR X (binaryOp .BitXor) (rI0 fun i j => .int (Builtin.bitXor i j)) := opI0 fun _ _ _ _ _ _ _ q => xor_int q

theorem iop_add : OpR X (inplaceOp .Add) (rI0 fun i j => .int (i + j)) := opI0 fun _ _ _ _ _ _ _ q => iadd_int q
theorem iop_sub : OpR X (inplaceOp .Sub) (rI0 fun i j => .int (i - j)) := opI0 fun _ _ _ _ _ _ _ q => isub_int q
theorem iop_mul : OpR X (inplaceOp .Mult) (rI CMul fun i j => .int (i * j)) := opI fun _ _ _ _ _ _ _ hc q => imul_int q hc.ok
theorem iop_fdiv : OpR X (inplaceOp .FloorDiv) (rI CDiv fun i j => .int (i / j)) := opI fun i j _ _ _ _ _ hc q => by
  have h1 : (0 : Int) < j := hc.1
  have h2 : j < 1073741824 := hc.2
  exact ifloordiv_int (by omega) (by rw [Int.fdiv_eq_ediv_of_nonneg i (by omega)]; exact q) (.inl (PyProof.noPylong_small (by omega)))
theorem iop_mod : OpR X (inplaceOp .Mod) (rI (fun _ j => 0 < j) fun i j => .int (i % j)) := opI fun i j _ _ _ _ _ hc q => by
  have h1 : (0 : Int) < j := hc
  exact imod_int (by omega) (by rw [Int.fmod_eq_emod_of_nonneg i (by omega)]; exact q)
theorem iop_shl : OpR X (inplaceOp .LShift) (rI CPow fun i j => .int (i * 2 ^ j.toNat)) := opI fun _ _ _ _ _ _ _ hc q => ilshift_int_small hc.1 hc.2.1 hc.2.2 q
theorem iop_shr : OpR X (inplaceOp .RShift) (rI (fun _ j => 0 ≤ j) fun i j => .int (i / 2 ^ j.toNat)) := opI fun i j _ _ _ _ _ hc q =>
  irshift_int hc (by rw [Int.fdiv_eq_ediv_of_nonneg i (two_pow_nn _)]; exact q)
theorem iop_and : OpR X (inplaceOp .BitAnd) (rI0 fun i j => .int (Builtin.bitAnd i j)) := opI0 fun _ _ _ _ _ _ _ q => iand_int q
theorem iop_or : OpR X (inplaceOp .BitOr) (rI0 fun i j => .int (Builtin.bitOr i j)) := opI0 fun _ _ _ _ _ _ _ q => ior_int q
theorem iop_xor : OpR X (inplaceOp .BitXor) (rI0 fun i j => .int (Builtin.bitXor i j)) := opI0 fun _ _ _ _ _ _ _ q => ixor_int q

theorem unI {f : Value → Sem Value} {g : Int → Int}
    (rule : ∀ (i : Int) (t : Tok) (s : Shared) (Q : Value → Shared → Prop) (E : Value → Shared → Prop), Q (.int (g i) s.toks) { s with toks := s.toks + 1 } → wpAny (model X.prog X.w) X.A (f (.int i t)) Q E s) :
    UnR X f (rU fun i => .int (g i)) := by
  intro pins s σ H x v Q I rx h
  obtain ⟨i, rfl, q⟩ := h
  obtain ⟨t, rfl⟩ := rx
  exact rule i t s _ _ ⟨.int (g i), H, I.tok _, ⟨_, rfl⟩, q⟩
theorem un_neg : UnR X (unaryOp .USub) (rU fun i => .int (-i)) := unI fun _ _ _ _ _ q => neg_int q
theorem un_inv : UnR X (unaryOp .Invert) (rU fun i => .int (Builtin.bitNot i)) := unI fun _ _ _ _ _ q => invert_int q

/-! ### bools among ints: n += (a < b) -/
theorem op_add_ib : OpR X (binaryOp .Add) (fun x y H Q => ∃ i k, x = .int i ∧ y = .bl k ∧ Q (.int (i + b2i k)) H) := by
  intro pins s σ H x y v u Q I rx ry h
  obtain ⟨i, k, rfl, rfl, q⟩ := h
  obtain ⟨t, rfl⟩ := rx
  cases ry
  exact add_int_bool ⟨.int (i + b2i k), H, I.tok _, ⟨_, rfl⟩, q⟩
end

/-! ### comparisons -/
/-- the scalars that == tells apart as data does -/
def scal : V → V → Bool
  | .non, .non => true | .non, .int _ => true | .int _, .non => true | .non, .bl _ => true | .bl _, .non => true | .non, .str _ => true | .str _, .non => true
  | .int _, .int _ => true | .bl _, .bl _ => true | .str _, .str _ => true | .byt _, .byt _ => true
  | .int _, .str _ => true | .str _, .int _ => true | .bl _, .str _ => true | .str _, .bl _ => true
  | _, _ => false
def rEq : R2 := fun x y H Q => scal x y = true ∧ Q (.bl (decide (x = y))) H
def rNe : R2 := fun x y H Q => scal x y = true ∧ Q (.bl (!decide (x = y))) H

theorem dec_int {i j : Int} : decide (V.int i = V.int j) = (i == j) := by
  rw [Bool.eq_iff_iff]
  simp
theorem dec_bl {i j : Bool} : decide (V.bl i = V.bl j) = (i == j) := by
  rw [Bool.eq_iff_iff]
  simp
theorem dec_str {i j : Str} : decide (V.str i = V.str j) = (i == j) := by
  rw [Bool.eq_iff_iff]
  simp
theorem dec_byt {i j : Array UInt8} : decide (V.byt i = V.byt j) = (i.toList == j.toList) := by
  rw [Bool.eq_iff_iff]
  cases i
  cases j
  simp

section
variable {X : Cx} {a b c : Expr} {ta tb tc : TE} {pos : Pos}
theorem fin_bl {pins : List (Addr × Obj)} {σ : St} {H : Hp} {s : Shared} {Q : VK} {k k' : Bool} (I : Inv X pins σ H s) (q : Q (.bl k) H) (e : k = k') : EP X pins σ Q (.bool k') s := by
  subst e
  exact ⟨.bl k, H, I, rfl, q⟩
theorem op_eq : OpR X (compareOp .Eq) rEq := by
  intro pins s σ H x y v u Q I rx ry h
  obtain ⟨hs, q⟩ := h
  cases x with
  | non =>
    cases rx
    cases y with
    | non => cases ry; exact PySem.EqNone.eq_none_none (fin_bl I q (by simp))
    | bl j => cases ry; exact PySem.EqNone.eq_none_bool (fin_bl I q (by simp))
    | int j => obtain ⟨t', rfl⟩ := ry; exact PySem.EqNone.eq_none_int (fin_bl I q (by simp))
    | str j => obtain ⟨t', rfl⟩ := ry; exact PySem.EqNone.eq_none_str (fin_bl I q (by simp))
    | _ => exact absurd (show false = true from hs) Bool.false_ne_true
  | bl i =>
    cases rx
    cases y with
    | non => cases ry; exact PySem.EqNone.eq_bool_none (fin_bl I q (by simp))
    | bl j => cases ry; exact eq_bool (fin_bl I q dec_bl)
    | str j => obtain ⟨t', rfl⟩ := ry; exact PySem.EqMixed.eq_bool_str (fin_bl I q (by simp))
    | _ => exact absurd (show false = true from hs) Bool.false_ne_true
  | int i =>
    obtain ⟨t, rfl⟩ := rx
    cases y with
    | non => cases ry; exact PySem.EqNone.eq_int_none (fin_bl I q (by simp))
    | int j => obtain ⟨t', rfl⟩ := ry; exact eq_int (fin_bl I q dec_int)
    | str j => obtain ⟨t', rfl⟩ := ry; exact PySem.EqMixed.eq_int_str (fin_bl I q (by simp))
    | _ => exact absurd (show false = true from hs) Bool.false_ne_true
  | str i =>
    obtain ⟨t, rfl⟩ := rx
    cases y with
    | non => cases ry; exact PySem.EqNone.eq_str_none (fin_bl I q (by simp))
    | bl j => cases ry; exact PySem.EqMixed.eq_str_bool (fin_bl I q (by simp))
    | int j => obtain ⟨t', rfl⟩ := ry; exact PySem.EqMixed.eq_str_int (fin_bl I q (by simp))
    | str j => obtain ⟨t', rfl⟩ := ry; exact eq_str (fin_bl I q dec_str)
    | _ => exact absurd (show false = true from hs) Bool.false_ne_true
  | byt i =>
    obtain ⟨t, rfl⟩ := rx
    cases y with
    | byt j => obtain ⟨t', rfl⟩ := ry; exact PySem.W.eq_bytes (fin_bl I q dec_byt)
    | _ => exact absurd (show false = true from hs) Bool.false_ne_true
  | _ => cases y <;> exact absurd (show false = true from hs) Bool.false_ne_true
theorem op_ne : OpR X (compareOp .NotEq) rNe := by
  intro pins s σ H x y v u Q I rx ry h
  obtain ⟨hs, q⟩ := h
  cases x with
  | non =>
    cases rx
    cases y with
    | non => cases ry; exact PySem.EqNone.ne_none_none (fin_bl I q (by simp))
    | bl j => cases ry; exact PySem.EqNone.ne_none_bool (fin_bl I q (by simp))
    | int j => obtain ⟨t', rfl⟩ := ry; exact PySem.EqNone.ne_none_int (fin_bl I q (by simp))
    | str j => obtain ⟨t', rfl⟩ := ry; exact PySem.EqNone.ne_none_str (fin_bl I q (by simp))
    | _ => exact absurd (show false = true from hs) Bool.false_ne_true
  | bl i =>
    cases rx
    cases y with
    | non => cases ry; exact PySem.EqNone.ne_bool_none (fin_bl I q (by simp))
    | bl j => cases ry; exact ne_bool (fin_bl I q (congrArg not dec_bl))
    | str j => obtain ⟨t', rfl⟩ := ry; exact PySem.EqMixed.ne_bool_str (fin_bl I q (by simp))
    | _ => exact absurd (show false = true from hs) Bool.false_ne_true
  | int i =>
    obtain ⟨t, rfl⟩ := rx
    cases y with
    | non => cases ry; exact PySem.EqNone.ne_int_none (fin_bl I q (by simp))
    | int j => obtain ⟨t', rfl⟩ := ry; exact ne_int (fin_bl I q (congrArg not dec_int))
    | str j => obtain ⟨t', rfl⟩ := ry; exact PySem.EqMixed.ne_int_str (fin_bl I q (by simp))
    | _ => exact absurd (show false = true from hs) Bool.false_ne_true
  | str i =>
    obtain ⟨t, rfl⟩ := rx
    cases y with
    | non => cases ry; exact PySem.EqNone.ne_str_none (fin_bl I q (by simp))
    | bl j => cases ry; exact PySem.EqMixed.ne_str_bool (fin_bl I q (by simp))
    | int j => obtain ⟨t', rfl⟩ := ry; exact PySem.EqMixed.ne_str_int (fin_bl I q (by simp))
    | str j => obtain ⟨t', rfl⟩ := ry; exact ne_str (fin_bl I q (congrArg not dec_str))
    | _ => exact absurd (show false = true from hs) Bool.false_ne_true
  | byt i =>
    obtain ⟨t, rfl⟩ := rx
    cases y with
    | byt j => obtain ⟨t', rfl⟩ := ry; exact PySem.W.ne_bytes (fin_bl I q (congrArg not dec_byt))
    | _ => exact absurd (show false = true from hs) Bool.false_ne_true
  | _ => cases y <;> exact absurd (show false = true from hs) Bool.false_ne_true

theorem op_lt : OpR X (compareOp .Lt) (rI0 fun i j => .bl (decide (i < j))) := opB0 fun _ _ _ _ _ _ _ q => lt_int q
theorem op_le : OpR X (compareOp .LtE) (rI0 fun i j => .bl (decide (i ≤ j))) := opB0 fun _ _ _ _ _ _ _ q => le_int q
theorem op_gt : OpR X (compareOp .Gt) (rI0 fun i j => .bl (decide (j < i))) := opB0 fun _ _ _ _ _ _ _ q => gt_int q
theorem op_ge : OpR X (compareOp .GtE) (rI0 fun i j => .bl (decide (j ≤ i))) := opB0 fun _ _ _ _ _ _ _ q => ge_int q
theorem op_lt_str : OpR X (compareOp .Lt) (fun x y H Q => ∃ i j, x = .str i ∧ y = .str j ∧ Q (.bl (decide (i.cps.toList < j.cps.toList))) H) := by
  intro pins s σ H x y v u Q I rx ry h
  obtain ⟨i, j, rfl, rfl, q⟩ := h
  obtain ⟨t, rfl⟩ := rx
  obtain ⟨t', rfl⟩ := ry
  exact lt_str (fin_bl I q rfl)
/-- the one string within the other -/
theorem op_in_str : OpR X (compareOp .In) (fun x y H Q => ∃ i j, x = .str i ∧ y = .str j ∧ Q (.bl (!(Builtin.Str.occurrences j i 0 j.length 1).isEmpty)) H) := by
  intro pins s σ H x y v u Q I rx ry h
  obtain ⟨i, j, rfl, rfl, q⟩ := h
  obtain ⟨t, rfl⟩ := rx
  obtain ⟨t', rfl⟩ := ry
  exact in_str (fin_bl I q rfl)

/-- is None, is not None: the right side a value none -/
theorem op_isN : OpR X (compareOp .Is) (fun x y H Q => y = .non ∧ Q (.bl (decide (x = .non))) H) := by
  intro pins s σ H x y v u Q I rx ry h
  obtain ⟨rfl, q⟩ := h
  cases ry
  refine is_none_gen (fin_bl I q ?_)
  cases x <;> first
    | (cases rx; rfl)
    | (obtain ⟨t, rfl⟩ := rx; rfl)
theorem op_notN : OpR X (compareOp .IsNot) (fun x y H Q => y = .non ∧ Q (.bl (!decide (x = .non))) H) := by
  intro pins s σ H x y v u Q I rx ry h
  obtain ⟨rfl, q⟩ := h
  cases ry
  refine isnot_none_gen (fin_bl I q ?_)
  cases x <;> first
    | (cases rx; rfl)
    | (obtain ⟨t, rfl⟩ := rx; rfl)

theorem op_notin_str : OpR X (compareOp .NotIn) (fun x y H Q => ∃ i j, x = .str i ∧ y = .str j ∧ Q (.bl (!(!(Builtin.Str.occurrences j i 0 j.length 1).isEmpty))) H) := by
  intro pins s σ H x y v u Q I rx ry h
  obtain ⟨i, j, rfl, rfl, q⟩ := h
  obtain ⟨t, rfl⟩ := rx
  obtain ⟨t', rfl⟩ := ry
  exact notIn_str (fin_bl I q rfl)
/-- is, is not of two objects that are tracked lists or instances -/
def isObj : HO → Bool
  | .lst _ => true
  | .ins _ _ _ => true
  | _ => false
theorem obj_there {pins : List (Addr × Obj)} {s : Shared} {σ : St} {H : Hp} {a : Addr} {o : HO} (I : Inv X pins σ H s) (h : H a = some o) (p : isObj o = true) : ∃ ob, s.heap.get? a = some ob ∧ ob.cls ≠ .type "tuple" := by
  cases o with
  | lst xs =>
    obtain ⟨_, its, n, _, e⟩ : xs.length ≤ sizeLine ∧ ∃ (its : List Value) (n : Nat), Vals xs its ∧ s.heap.get? a = some { cls := .type "list", data := .seq its.toArray n } := I.hok a _ h
    exact ⟨_, e, (by show Value.type "list" ≠ .type "tuple"; decide +kernel)⟩
  | ins C dx fs =>
    have x := I.hok a _ h
    obtain ⟨_, _, _, e, _⟩ := x
    exact ⟨_, e, (by show Value.ref C ≠ .type "tuple"; exact fun z => by cases z)⟩
  | _ => exact absurd (show false = true from p) Bool.false_ne_true
theorem op_is_ref : OpR X (compareOp .Is) (fun x y H Q => ∃ a b oa ob, x = .ref a ∧ y = .ref b ∧ H a = some oa ∧ isObj oa = true ∧ H b = some ob ∧ isObj ob = true ∧ Q (.bl (decide (a = b))) H) := by
  intro pins s σ H x y v u Q I rx ry h
  obtain ⟨a, b, oa, ob, rfl, rfl, ha, pa, hb, pb, q⟩ := h
  cases rx
  cases ry
  obtain ⟨o1, e1, n1⟩ := obj_there I ha pa
  obtain ⟨o2, e2, _⟩ := obj_there I hb pb
  by_cases z : a = b
  · subst z
    exact wpAny_is_ref_self (fin_bl I q (by simp))
  · exact wpAny_is_ref_other z e1 e2 n1 (fin_bl I q (by simp [z]))
theorem op_isnot_ref : OpR X (compareOp .IsNot) (fun x y H Q => ∃ a b oa ob, x = .ref a ∧ y = .ref b ∧ H a = some oa ∧ isObj oa = true ∧ H b = some ob ∧ isObj ob = true ∧ Q (.bl (!decide (a = b))) H) := by
  intro pins s σ H x y v u Q I rx ry h
  obtain ⟨a, b, oa, ob, rfl, rfl, ha, pa, hb, pb, q⟩ := h
  cases rx
  cases ry
  obtain ⟨o1, e1, n1⟩ := obj_there I ha pa
  obtain ⟨o2, e2, _⟩ := obj_there I hb pb
  by_cases z : a = b
  · subst z
    exact wpAny_isNot_ref_self (fin_bl I q (by simp))
  · exact wpAny_isNot_ref_other z e1 e2 n1 (fin_bl I q (by simp [z]))

/-- two rules for one operation: by cases -/
theorem OpR.or {f : Value → Value → Sem Value} {r r' : R2} (h : OpR X f r) (h' : OpR X f r') : OpR X f (fun x y H Q => r x y H Q ∨ r' x y H Q) := by
  intro pins s σ H x y v u Q I rx ry q
  rcases q with q | q
  · exact h pins s σ H x y v u Q I rx ry q
  · exact h' pins s σ H x y v u Q I rx ry q

theorem nomark (b : Expr) {op : CmpOp} (h : op ≠ .In := by decide) (h2 : op ≠ .NotIn := by decide) : behindInMarks op b = false := by
  have e1 : (op == CmpOp.In) = false := by cases op <;> first | rfl | exact absurd rfl h
  have e2 : (op == CmpOp.NotIn) = false := by cases op <;> first | rfl | exact absurd rfl h2
  cases b <;> simp [behindInMarks, e1, e2]
/-- a comparison as a value; hm: nomark b, or (for in, not in) by with_unfolding_all rfl -/
theorem pe_cmpR {op : CmpOp} {r : R2} (ho : OpR X (compareOp op) r) (ha : PE X a ta) (hb : PE X b tb) (hm : behindInMarks op b = false) : PE X (.Compare a [op] [b] pos) (tOp r ta tb) := by
  intro pins s σ H Q I h
  exact wpAny_Compare1 (binT ha hb I h fun v u s2 x y H2 I2 rx ry q => ho pins s2 σ H2 x y v u Q I2 rx ry q) hm
/-- a reading of a value as a test -/
def tTest (t : TE) : TT := fun σ H Q => t σ H fun x H' => ∃ k, x = .bl k ∧ Q k H'
theorem pt_cmpR {op : CmpOp} {r : R2} (ho : OpR X (compareOp op) r) (ha : PE X a ta) (hb : PE X b tb) (hm : behindInMarks op b = false) : PT X (.Compare a [op] [b] pos) (tTest (tOp r ta tb)) := by
  intro pins s σ H Q I h
  refine wpAny_isTrue_Compare1 (thn (ha pins s σ H _ I h) fun v s1 ⟨x, H1, I1, r1, q1⟩ => thn (hb pins s1 σ H1 _ I1 q1) fun u s2 ⟨y, H2, I2, r2, q2⟩ =>
    thn (ho pins s2 σ H2 x y v u _ I2 r1 r2 q2) fun c s3 ⟨z, H3, I3, r3, k, e, q3⟩ => ?_) hm
  subst e
  cases r3
  exact wpAny_truthy_bool ⟨H3, I3, q3⟩
/-- a op1 b op2 c -/
def tChain (r r' : R2) (ta tb tc : TE) : TE := fun σ H Q => ta σ H fun x H1 => tb σ H1 fun y H2 => r x y H2 fun z H3 => ∃ k, z = .bl k ∧
  (if k = true then tc σ H3 fun w' H4 => r' y w' H4 Q else Q (.bl false) H3)
theorem pe_chain {op op' : CmpOp} {r r' : R2} (ho : OpR X (compareOp op) r) (ho' : OpR X (compareOp op') r') (ha : PE X a ta) (hb : PE X b tb) (hc : PE X c tc)
    (hm : lastMarks [op, op'] [b, c] = false := by with_unfolding_all rfl) : PE X (.Compare a [op, op'] [b, c] pos) (tChain r r' ta tb tc) := by
  intro pins s σ H Q I h
  refine Compare_chain (thn (ha pins s σ H _ I h) fun v s1 ⟨x, H1, I1, r1, q1⟩ => chain_link (thn (hb pins s1 σ H1 _ I1 q1) fun u s2 ⟨y, H2, I2, r2, q2⟩ =>
    thn (ho pins s2 σ H2 x y v u _ I2 r1 r2 q2) fun d s3 ⟨z, H3, I3, r3, k, e, q3⟩ => ?_)) hm
  subst e
  cases r3
  refine wpAny_truthy_bool ?_
  cases k with
  | false => exact ite_ff ⟨.bl false, H3, I3, rfl, q3⟩
  | true => exact ite_tt (chain_last (thn (hc pins s3 σ H3 _ I3 q3) fun w' s4 ⟨z', H4, I4, r4, q4⟩ => ho' pins s4 σ H4 y z' u w' Q I4 r2 r4 q4))
theorem pt_chain {op op' : CmpOp} {r r' : R2} (ho : OpR X (compareOp op) r) (ho' : OpR X (compareOp op') r') (ha : PE X a ta) (hb : PE X b tb) (hc : PE X c tc)
    (hm : lastMarks [op, op'] [b, c] = false := by with_unfolding_all rfl) : PT X (.Compare a [op, op'] [b, c] pos) (tTest (tChain r r' ta tb tc)) := by
  intro pins s σ H Q I h
  refine isTrue_chain (thn (ha pins s σ H _ I h) fun v s1 ⟨x, H1, I1, r1, q1⟩ => test_link (thn (hb pins s1 σ H1 _ I1 q1) fun u s2 ⟨y, H2, I2, r2, q2⟩ =>
    thn (ho pins s2 σ H2 x y v u _ I2 r1 r2 q2) fun d s3 ⟨z, H3, I3, r3, k, e, q3⟩ => ?_)) hm
  subst e
  cases r3
  refine wpAny_truthy_bool ?_
  cases k with
  | false =>
    obtain ⟨k', e', q'⟩ := q3
    cases e'
    exact ite_ff ⟨H3, I3, q'⟩
  | true =>
    refine ite_tt (test_last (thn (hc pins s3 σ H3 _ I3 q3) fun w' s4 ⟨z', H4, I4, r4, q4⟩ => thn (ho' pins s4 σ H4 y z' u w' _ I4 r2 r4 q4) fun d' s5 ⟨z2, H5, I5, r5, k2, e2, q5⟩ => ?_))
    subst e2
    cases r5
    exact wpAny_truthy_bool ⟨H5, I5, q5⟩

/-! ### truth -/
/-- a value's truth by the abstract heap -/
def TruV (K : PySem.W.Frag) (x : V) (H : Hp) (k : Bool) : Prop :=
  match x with
  | .non => k = false
  | .bl b => k = b
  | .int i => k = (i != 0)
  | .str y => y.length ≤ sizeLine ∧ k = ((y.length : Int) != 0)
  | .byt y => y.size ≤ sizeLine ∧ k = ((y.size : Int) != 0)
  | .ref p => (∃ xs, SqL K H p xs ∧ k = !xs.isEmpty) ∨ (∃ xs, SqT K H p xs ∧ k = !xs.isEmpty) ∨ ∃ kvs, H p = some (.dK kvs) ∧ k = !kvs.isEmpty
  | _ => False
theorem isEmpty_kv {κ : Type} {kvs : List (κ × V)} {vs : List (κ × Value)} (r : KV kvs vs) : (!vs.isEmpty) = !kvs.isEmpty := by
  cases r <;> rfl
theorem isEmpty_of {xs : List V} {its : List Value} (r : Vals xs its) : (!its.toArray.isEmpty) = !xs.isEmpty := by
  cases r <;> simp
theorem line63 : (sizeLine : Nat) < 2 ^ 63 := by rw [sizeLine_eq]; decide
theorem tru_ok : TruR X (fun x H Q => ∃ k, TruV X.K x H k ∧ Q k H) := by
  intro pins s σ H x v Q I rx h
  obtain ⟨k, e, q⟩ := h
  have hl := line63
  have hs : sizeLine = 16777216 := sizeLine_eq
  cases x with
  | non =>
    cases rx
    have e' : k = false := e
    subst e'
    exact truthy_none ⟨H, I, q⟩
  | bl b =>
    cases rx
    have e' : k = b := e
    subst e'
    exact wpAny_truthy_bool ⟨H, I, q⟩
  | int i =>
    obtain ⟨t, rfl⟩ := rx
    have e' : k = (i != 0) := e
    subst e'
    exact PySem.P.truthy_int ⟨H, I, q⟩
  | str y =>
    obtain ⟨t, rfl⟩ := rx
    obtain ⟨hy, e'⟩ : y.length ≤ sizeLine ∧ k = ((y.length : Int) != 0) := e
    subst e'
    exact PySem.P.truthy_str (by omega) ⟨H, I.tok _, q⟩
  | byt y =>
    obtain ⟨t, rfl⟩ := rx
    obtain ⟨hy, e'⟩ : y.size ≤ sizeLine ∧ k = ((y.size : Int) != 0) := e
    subst e'
    exact PySem.W.truthy_bytes (by omega) ⟨H, I.tok _, q⟩
  | ref p =>
    cases rx
    have e' : (∃ xs, SqL X.K H p xs ∧ k = !xs.isEmpty) ∨ (∃ xs, SqT X.K H p xs ∧ k = !xs.isEmpty) ∨ ∃ kvs, H p = some (.dK kvs) ∧ k = !kvs.isEmpty := e
    rcases e' with ⟨xs, hx, e'⟩ | ⟨xs, hx, e'⟩ | ⟨kvs, hx, e'⟩
    · subst e'
      obtain ⟨its, r, pl, hz⟩ := I.list hx
      have hlen := r.length
      exact wpAny_truthy_list pl.isList (by simp only [List.size_toArray]; omega) ⟨H, I.tok _, by rw [isEmpty_of r]; exact q⟩
    · subst e'
      obtain ⟨its, r, pl, hz⟩ := I.tuple hx
      have hlen := r.length
      exact truthy_tuple pl (by simp only [List.size_toArray]; omega) ⟨H, I.tok _, by rw [isEmpty_of r]; exact q⟩
    · subst e'
      obtain ⟨hz, hS, vs, r, m⟩ : kvs.length ≤ sizeLine ∧ (p == sysModules) = false ∧ ∃ vs, KV kvs vs ∧ s.heap.DictOf (mixKind X.prog X.w) p vs := I.hok p _ hx
      have hlen : kvs.length = vs.length := Paired.length r
      exact wpAny_truthy_dict hS m (by omega) ⟨H, I.tok _, by rw [isEmpty_kv r]; exact q⟩
  | _ => exact (show False from e).elim
/-- any expression whose test is its value's truth (a name, a call, a subscript, a field ..: he by fun _ => rfl) -/
theorem pt_truth (ha : PE X a ta) (he : ∀ whole, isTrue a X.env whole = (do let v ← whole; standAt a.pos; holding [v] (truthy v))) :
    PT X a (fun σ H Q => ta σ H fun x H' => ∃ k, TruV X.K x H' k ∧ Q k H') := by
  intro pins s σ H Q I h
  exact isTrue_plain (thn (ha pins s σ H _ I h) fun v s1 ⟨x, H1, I1, r1, q1⟩ => tru_ok pins s1 σ H1 x v Q I1 r1 q1) (he _)

/-! ### strs and bytes -/
theorem pe_byt {x : List UInt8} {k : Nat} : PE X (.Constant (.bytes x) k pos) (fun _ H Q => Q (.byt x.toArray) H) := fun _ _ _ H _ I h => PySem.W.Constant_bytes ⟨.byt x.toArray, H, I.tok _, ⟨_, rfl⟩, h⟩
theorem op_add_str : OpR X (binaryOp .Add) (fun x y H Q => ∃ i j, x = .str i ∧ y = .str j ∧ i.length + j.length ≤ sizeLine ∧ Q (.str (i ++ j)) H) := by
  intro pins s σ H x y v u Q I rx ry h
  obtain ⟨i, j, rfl, rfl, hz, q⟩ := h
  obtain ⟨t, rfl⟩ := rx
  obtain ⟨t', rfl⟩ := ry
  exact add_str (fun t' tk => ⟨.str (i ++ j), H, I.tok _, ⟨_, rfl⟩, q⟩) hz
theorem iop_add_str : OpR X (inplaceOp .Add) (fun x y H Q => ∃ i j, x = .str i ∧ y = .str j ∧ i.length + j.length ≤ sizeLine ∧ Q (.str (i ++ j)) H) := by
  intro pins s σ H x y v u Q I rx ry h
  obtain ⟨i, j, rfl, rfl, hz, q⟩ := h
  obtain ⟨t, rfl⟩ := rx
  obtain ⟨t', rfl⟩ := ry
  exact iadd_str (fun t' tk => ⟨.str (i ++ j), H, I.tok _, ⟨_, rfl⟩, q⟩) hz
theorem op_add_byt : OpR X (binaryOp .Add) (fun x y H Q => ∃ i j, x = .byt i ∧ y = .byt j ∧ i.size + j.size ≤ 16777216 ∧ Q (.byt (i ++ j)) H) := by
  intro pins s σ H x y v u Q I rx ry h
  obtain ⟨i, j, rfl, rfl, hz, q⟩ := h
  obtain ⟨t, rfl⟩ := rx
  obtain ⟨t', rfl⟩ := ry
  exact PySem.W.KBy.add_bytes hz (fun t' tk => ⟨.byt (i ++ j), H, I.tok _, ⟨_, rfl⟩, q⟩)

def PlainIxT (b : Expr) : Prop := ∀ o i, subscripted b false o i = operate [o, i] (getItem o i)
/-- s[i], 0 ≤ i < len -/
theorem pe_item_str (ha : PE X a ta) (hb : PE X b tb) (hs : PlainIxT b) :
    PE X (.Subscript a b pos) (tOp (fun x y H Q => ∃ z i c, x = .str z ∧ y = .int i ∧ 0 ≤ i ∧ i < 2 ^ 63 ∧ i < z.length ∧ z.cps[i.toNat]? = some c ∧ Q (.str ⟨#[c]⟩) H) ta tb) := by
  intro pins s σ H Q I h
  refine Subscript_ (binT ha hb I h fun v u s2 x y H2 I2 rx ry q => ?_)
  obtain ⟨z, i, c, rfl, rfl, h0, h63, h1, hc, q⟩ := q
  obtain ⟨t, rfl⟩ := rx
  obtain ⟨t', rfl⟩ := ry
  have e : seqIndex? i z.length = some i.toNat := PySem.StrLaws.seqIndex_nonneg h0 h1
  exact tail_any (typeIs_str s2 z t) slot_str_getitem.lookup (getItem_str (c := c) (by
    have e1 : decide (i < -(2 ^ 63 : Int)) = false := decide_eq_false (by omega)
    have e2 : decide (i ≥ 2 ^ 63) = false := decide_eq_false (by omega)
    rw [e1, e2] <;> rfl) (by rw [e]; exact hc) ⟨.str ⟨#[c]⟩, H2, I2.tok _, ⟨_, rfl⟩, q⟩) (hs _ _)
/-- b[i], 0 ≤ i < len -/
theorem pe_item_byt (ha : PE X a ta) (hb : PE X b tb) (hs : PlainIxT b) :
    PE X (.Subscript a b pos) (tOp (fun x y H Q => ∃ (z : List UInt8) (i : Int), x = .byt z.toArray ∧ y = .int i ∧ z.length ≤ sizeLine ∧ 0 ≤ i ∧ i < z.length ∧ Q (.int ((z.getD i.toNat 0).toNat : Nat)) H) ta tb) := by
  intro pins s σ H Q I h
  refine Subscript_ (binT ha hb I h fun v u s2 x y H2 I2 rx ry q => ?_)
  obtain ⟨z, i, rfl, rfl, hz, h0, h1, q⟩ := q
  obtain ⟨t, rfl⟩ := rx
  obtain ⟨t', rfl⟩ := ry
  have hl : sizeLine = 16777216 := sizeLine_eq
  exact tail_any (PySem.W.typeIs_bytes s2 z.toArray t) PySem.W.FB.slot_bytes_getitem.lookup (PySem.W.getItem_bytes (by omega) h0 h1 ⟨.int ((z.getD i.toNat 0).toNat : Nat), H2, I2.tok _, ⟨_, rfl⟩, q⟩) (hs _ _)

/-! ### scalar builtins, by CallR -/
theorem vals1 {x : V} {us : List Value} (r : Vals [x] us) : ∃ u, us = [u] ∧ RelV x u := by
  cases r with
  | cons r1 r2 => cases r2; exact ⟨_, rfl, r1⟩
theorem vals2 {x y : V} {us : List Value} (r : Vals [x, y] us) : ∃ u w', us = [u, w'] ∧ RelV x u ∧ RelV y w' := by
  cases r with
  | cons r1 r2 =>
    cases r2 with
    | cons r3 r4 => cases r4; exact ⟨_, _, rfl, r1, r3⟩
theorem call_abs : CallR X (.builtin "abs") (fun xs H Q => ∃ i, xs = [.int i] ∧ Q (.int (if i < 0 then -i else i)) H) := by
  intro pins s σ H xs us Q I r h
  obtain ⟨i, rfl, q⟩ := h
  obtain ⟨u, rfl, t, rfl⟩ := vals1 r
  exact call_abs_int fun u tk => ⟨.int (if i < 0 then -i else i), H, I.tok _, ⟨_, rfl⟩, q⟩
theorem call_max2 (hc : X.calm = true) : CallR X (.builtin "max") (fun xs H Q => ∃ i j, xs = [.int i, .int j] ∧ Q (.int (if j > i then j else i)) H) := by
  intro pins s σ H xs us Q I r h
  obtain ⟨i, j, rfl, q⟩ := h
  obtain ⟨u, w', rfl, ⟨t, rfl⟩, ⟨t', rfl⟩⟩ := vals2 r
  refine max_two_ints (I.ok.hd hc) fun h' tk k => ⟨_, H, I.kept k, ?_, q⟩
  by_cases hj : j > i
  · rw [if_pos hj, if_pos hj]; exact ⟨_, rfl⟩
  · rw [if_neg hj, if_neg hj]; exact ⟨_, rfl⟩
theorem call_min2 (hc : X.calm = true) : CallR X (.builtin "min") (fun xs H Q => ∃ i j, xs = [.int i, .int j] ∧ Q (.int (if j < i then j else i)) H) := by
  intro pins s σ H xs us Q I r h
  obtain ⟨i, j, rfl, q⟩ := h
  obtain ⟨u, w', rfl, ⟨t, rfl⟩, ⟨t', rfl⟩⟩ := vals2 r
  refine min_two_ints (I.ok.hd hc) fun h' tk k => ⟨_, H, I.kept k, ?_, q⟩
  by_cases hj : j < i
  · rw [if_pos hj, if_pos hj]; exact ⟨_, rfl⟩
  · rw [if_neg hj, if_neg hj]; exact ⟨_, rfl⟩
theorem call_int1 : CallR X (.type "int") (fun xs H Q => (∃ i, xs = [.int i] ∧ Q (.int i) H) ∨ ∃ k, xs = [.bl k] ∧ Q (.int (if k then 1 else 0)) H) := by
  intro pins s σ H xs us Q I r h
  rcases h with ⟨i, rfl, q⟩ | ⟨k, rfl, q⟩
  · obtain ⟨u, rfl, t, rfl⟩ := vals1 r
    exact call_int_int ⟨.int i, H, I, ⟨_, rfl⟩, q⟩
  · obtain ⟨u, rfl, r1⟩ := vals1 r
    cases r1
    exact call_int_bool ⟨.int (if k then 1 else 0), H, I.tok _, ⟨_, rfl⟩, q⟩
theorem call_bool1 : CallR X (.type "bool") (fun xs H Q => (∃ i, xs = [.int i] ∧ Q (.bl (i != 0)) H) ∨ ∃ k, xs = [.bl k] ∧ Q (.bl k) H) := by
  intro pins s σ H xs us Q I r h
  rcases h with ⟨i, rfl, q⟩ | ⟨k, rfl, q⟩
  · obtain ⟨u, rfl, t, rfl⟩ := vals1 r
    exact call_bool_int ⟨.bl (i != 0), H, I, rfl, q⟩
  · obtain ⟨u, rfl, r1⟩ := vals1 r
    cases r1
    exact call_bool_bool ⟨.bl k, H, I, rfl, q⟩
theorem call_str_int : CallR X (.type "str") (fun xs H Q => ∃ i, xs = [.int i] ∧ i.natAbs.log2 < 1920 ∧ Q (.str (toString i)) H) := by
  intro pins s σ H xs us Q I r h
  obtain ⟨i, rfl, hz, q⟩ := h
  obtain ⟨u, rfl, t, rfl⟩ := vals1 r
  exact PySem.P.str_of_int hz ⟨.str _, H, I.tok _, ⟨_, rfl⟩, q⟩
theorem call_ord : CallR X (.builtin "ord") (fun xs H Q => ∃ x, xs = [.str x] ∧ x.length = 1 ∧ Q (.int (x.cps.getD 0 0 : Nat)) H) := by
  intro pins s σ H xs us Q I r h
  obtain ⟨x, rfl, hz, q⟩ := h
  obtain ⟨u, rfl, t, rfl⟩ := vals1 r
  exact ord_of_one hz ⟨.int _, H, I.tok _, ⟨_, rfl⟩, q⟩
theorem call_chr : CallR X (.builtin "chr") (fun xs H Q => ∃ i, xs = [.int i] ∧ 0 ≤ i ∧ i ≤ 1114111 ∧ Q (.str ⟨#[i.toNat]⟩) H) := by
  intro pins s σ H xs us Q I r h
  obtain ⟨i, rfl, h0, h1, q⟩ := h
  obtain ⟨u, rfl, t, rfl⟩ := vals1 r
  exact chr_of_range h0 h1 ⟨.str _, H, I.tok _, ⟨_, rfl⟩, q⟩
/-- len of a str, a bytes, a list, a tuple -/
def LenV (K : PySem.W.Frag) (x : V) (H : Hp) (n : Nat) : Prop :=
  match x with
  | .str y => y.length ≤ sizeLine ∧ n = y.length
  | .byt y => y.size ≤ sizeLine ∧ n = y.size
  | .ref p => (∃ xs, SqL K H p xs ∧ n = xs.length) ∨ ∃ xs, SqT K H p xs ∧ n = xs.length
  | _ => False
theorem call_len : CallR X (.builtin "len") (fun xs H Q => ∃ x n, xs = [x] ∧ LenV X.K x H n ∧ Q (.int n) H) := by
  intro pins s σ H xs us Q I r h
  obtain ⟨x, n, rfl, e, q⟩ := h
  obtain ⟨u, rfl, rx⟩ := vals1 r
  have hl := line63
  have hs : sizeLine = 16777216 := sizeLine_eq
  cases x with
  | str y =>
    obtain ⟨t, rfl⟩ := rx
    obtain ⟨hy, e'⟩ : y.length ≤ sizeLine ∧ n = y.length := e
    subst e'
    exact len_str (by omega) ⟨.int _, H, I.tok _, ⟨_, rfl⟩, q⟩
  | byt y =>
    obtain ⟨t, rfl⟩ := rx
    obtain ⟨hy, e'⟩ : y.size ≤ sizeLine ∧ n = y.size := e
    subst e'
    exact PySem.W.len_bytes (by omega) ⟨.int _, H, I.tok _, ⟨_, rfl⟩, q⟩
  | ref p =>
    cases rx
    have e' : (∃ xs, SqL X.K H p xs ∧ n = xs.length) ∨ ∃ xs, SqT X.K H p xs ∧ n = xs.length := e
    rcases e' with ⟨xs, hx, e'⟩ | ⟨xs, hx, e'⟩
    · subst e'
      obtain ⟨its, r', pl, hz⟩ := I.list hx
      have hlen := r'.length
      exact Calls.call_len_list pl.isList (by simp only [List.size_toArray]; omega) ⟨.int xs.length, H, I.tok _, ⟨_, by simp only [List.size_toArray]; rw [hlen]⟩, q⟩
    · subst e'
      obtain ⟨its, r', pl, hz⟩ := I.tuple hx
      have hlen := r'.length
      exact len_tuple pl (by simp only [List.size_toArray]; omega) ⟨.int xs.length, H, I.tok _, ⟨_, by simp only [List.size_toArray]; rw [hlen]⟩, q⟩
  | _ => exact (show False from e).elim
/-- divmod: a new tuple -/
theorem call_divmod : CallR X (.builtin "divmod") (fun xs H Q => ∃ i j, xs = [.int i, .int j] ∧ CDiv i j ∧ ∀ p, H p = none → Q (.ref p) (upd H p (.tup [.int (i / j), .int (i % j)]))) := by
  intro pins s σ H xs us Q I r h
  obtain ⟨i, j, rfl, ⟨h1, h2⟩, q⟩ := h
  obtain ⟨u, w', rfl, ⟨t, rfl⟩, ⟨t', rfl⟩⟩ := vals2 r
  refine divmod_int (by omega) ?_ (.inl (PyProof.noPylong_small (by omega)))
  rw [Int.fdiv_eq_ediv_of_nonneg i (by omega), Int.fmod_eq_emod_of_nonneg i (by omega)]
  have hn : H s.heap.objs.size = none := I.hok.fresh (Nat.le_refl _)
  refine ⟨.ref s.heap.objs.size, _, ?_, rfl, q _ hn⟩
  refine I.laid (fun b o e => Heap.get?_push_of_some _ e) (Nat.le_refl _) ⟨by simp only [List.length_cons, List.length_nil]; rw [sizeLine_eq]; decide, [.int (i / j) s.toks, .int (i % j) (s.toks + 1)], .cons ⟨_, rfl⟩ (.cons ⟨_, rfl⟩ .nil), ?_⟩
  exact ⟨_, Heap.get?_push_size s.heap rfl, rfl, 0, rfl⟩
end
end L2

namespace L2
open PySem PySem.Spec PyProof.Rows

/-! ### an instance, its attributes a map -/
structure ObjM (h : Heap) (x dx C : Addr) (mA : Str → Option Value) : Prop where
  obj : h.get? x = some (PySem.W.instObj C dx)
  ns : h.Ns1 dx mA
  ne : dx ≠ x

theorem lookIn_ns {h : Heap} {dx : Addr} {mA : Str → Option Value} (n : h.Ns1 dx mA) : ∃ od, h.get? dx = some od ∧ ∀ name, PySem.W.lookIn name od = some (mA name) := by
  obtain ⟨o, es, ep, ho, hd, hk, _, hm⟩ := n
  refine ⟨o, ho, fun name => ?_⟩
  have e := hm name
  unfold nsFind findBy at e
  rw [← Array.find?_toList] at e
  unfold PySem.W.lookIn
  rw [hd]
  dsimp only
  split
  · rename_i y q
    rw [q] at e
    exact congrArg some e
  · rename_i q
    rw [q] at e
    have a : es.toList.any (·.refKey) = false := by
      rw [List.any_eq_false]
      intro y hy
      obtain ⟨z, t, hkey⟩ := hk y (Array.mem_toList_iff.mp hy)
      simp [DictEntry.refKey, hkey]
    have a' : ¬ es.toList.any (·.refKey) = true := by rw [a]; exact Bool.false_ne_true
    rw [if_neg a']
    exact congrArg some e

theorem ObjM.look {h : Heap} {x dx C : Addr} {mA : Str → Option Value} (I : ObjM h x dx C mA) : ∃ od, PySem.W.InstAt h x (PySem.W.instObj C dx) C (some od) ∧ ∀ name, PySem.W.lookIn name od = some (mA name) :=
  let ⟨od, ho, hl⟩ := lookIn_ns I.ns
  ⟨od, ⟨I.obj, rfl, rfl, ho⟩, hl⟩

section
variable {prog : Program} {w : World} {A : Around} {E : Value → Shared → Prop} {s : Shared} {K : PySem.W.Frag} {x dx C f : Addr} {mA : Str → Option Value} {name : Str} {v : Value}

theorem get_map {expr : Bool} {Q : Value → Shared → Prop} (X : K.In s.heap) (I : ObjM s.heap x dx C mA) (hg : PySem.W.plainGet K C name = true) (hh : PySem.W.hasDictIn K C = true)
    (ha : PySem.W.findIn K (.ref C) name = some none) (hv : mA name = some v) (hv' : PySem.W.handedIn v = true) (h : Q v { s with toks := s.toks + 1 }) :
    wpAny (model prog w) A (getAttr (.ref x) name expr) Q E s := by
  obtain ⟨od, J, hl⟩ := I.look
  exact PySem.W.get_value X J (PySem.W.plainGet_of hg).1 (PySem.W.findObj_own hh ha rfl (by rw [hl, hv])) hv' h

theorem get_const {expr : Bool} {a : Value} {Q : Value → Shared → Prop} (X : K.In s.heap) (I : ObjM s.heap x dx C mA) (hg : PySem.W.plainGet K C name = true) (hh : PySem.W.hasDictIn K C = true)
    (ha : PySem.W.findIn K (.ref C) name = some (some a)) (hn : PySem.W.specialIn K a "__get__" = some none) (hc : PySem.W.copiedNames.contains name = false) (hv : mA name = none) (hv' : PySem.W.handedIn a = true)
    (h : Q a { s with toks := s.toks + 1 }) : wpAny (model prog w) A (getAttr (.ref x) name expr) Q E s := by
  obtain ⟨od, J, hl⟩ := I.look
  exact PySem.W.get_value X J (PySem.W.plainGet_of hg).1 (PySem.W.findObj_cls hh ha hn hv' hc (by rw [hl, hv])) hv' h

theorem get_meth {pl : Sem Bool} {Q : Value × List Value → Shared → Prop} (X : K.In s.heap) (I : ObjM s.heap x dx C mA) (hg : PySem.W.plainGet K C name = true)
    (hf : PySem.W.findIn K (.ref C) name = some (some (.ref f))) (ht : PySem.W.isFn K (.ref f) = true) (hv : mA name = none) (h : Q (.ref f, [.ref x]) s) :
    wpAny (model prog w) A (getMethod (.ref x) name pl) Q E s := by
  obtain ⟨od, J, hl⟩ := I.look
  exact PySem.W.method_fn X J (PySem.W.plainGet_of hg).1 (PySem.W.plainGet_of hg).2 hf (beq_iff_eq.mp ht) (by show (PySem.W.lookIn name od).map (·.isSome) = some false; rw [hl, hv]; rfl) h

theorem set_map {ns : List Str} {Q : Unit → Shared → Prop} (X : K.In s.heap) (I : ObjM s.heap x dx C mA)
    (hs : PySem.W.findIn K (.ref C) "__setattr__" = some (some (.builtin "object.__setattr__"))) (hp : PySem.W.plainOver K C = true) (ht : PySem.W.takerIn K C name = some none) (hh : PySem.W.hasDictIn K C = true)
    (hw : PySem.Within mA ns) (hsz : ns.length ≤ sizeLine)
    (h : ∀ h', ObjM h' x dx C (fun y => if y = name then some v else mA y) → Heap.SameBut dx s.heap h' → Q () { s with heap := h', toks := s.toks + 2 }) :
    wpAny (model prog w) A (setAttr (.ref x) name v) Q E s := by
  obtain ⟨od, J, hl⟩ := I.look
  refine PySem.W.set_plain X J hs (PySem.W.osa_open (s := { s with toks := s.toks + 1 }) (r := none) X J hp ht fun b => ?_)
  obtain ⟨cd, hc, hd'⟩ := PySem.W.any_some hh
  have hx : s.heap.get? x = some ⟨.ref C, some dx, .plain, #[]⟩ := I.obj
  refine wpAny_bind (wpAny_pure (wpAny_bind (wpAny_bind (wpAny_loadPart hx (wpAny_bind (PySem.W.Looks.here (s := { s with toks := s.toks + 1 }) (PySem.W.looks_clsIn X hc) ?_))))))
  rw [hd']
  refine wpAny_pure (a := some dx) (wpAny_bind (wpAny_pure (wpAny_bind ?_)))
  refine wpAny_nsSet1 (s := { s with toks := s.toks + 1 }) I.ns fun h' hn2 hs2 => ?_
  obtain ⟨oD, esD, epD, hoD, hdD, hcD⟩ := hn2.count (PySem.Within.cons name v hw)
  refine wpAny_bind (wpAny_lookBehind hoD (by rw [hdD]; exact pastItsLine_dict (Nat.le_trans hcD (by rw [List.length_cons]; omega))) ?_)
  exact wpAny_pure (h _ ⟨(hs2.2 _ (Ne.symm I.ne)).trans I.obj, hn2, I.ne⟩ hs2)

/-- C(..): the dict at the heap's end, the instance behind it; then its __init__ -/
theorem make_map {R : Result → Shared → Prop} {vs : List Value} {kw : List (Str × Value)} (X : K.In s.heap) (hm : PySem.W.makesIn K C = true)
    (hi : PySem.W.findIn K (.ref C) "__init__" = some (some (.ref f))) (hf : PySem.W.typeIn K (.ref f) = some (.type "function"))
    (h : codeAny (model prog w) (A.under (.builtin "type.__call__" ⟨.ref C :: vs, kw⟩)) (.call (.ref f) ⟨.ref (s.heap.objs.size + 1) :: vs, kw⟩) (PySem.W.InitBack (s.heap.objs.size + 1) R)
      { s with heap := (s.heap.push PySem.W.emptyDict).push (PySem.W.instObj C s.heap.objs.size) }) :
    codeAny (model prog w) A (.call (.ref C) ⟨vs, kw⟩) R s := by
  obtain ⟨hh, g, d, t, os⟩ := s
  exact PySem.W.make_core (PySem.W.makes_of X hm) (PySem.W.looks_findIn X hi) (fun self => PySem.W.bind_fn X self hf) (.inl rfl) h
/-- C() where there is no __init__ but object's -/
theorem make_map0 {R : Result → Shared → Prop} (X : K.In s.heap) (hm : PySem.W.makesIn K C = true)
    (hi : PySem.W.findIn K (.ref C) "__init__" = some (some (.builtin "object.__init__")))
    (hb : ∀ self, PySem.W.Looks (model prog w) s.heap (bindSpecial (.builtin "object.__init__") self) (.builtin "object.__init__", [self]))
    (h : codeAny (model prog w) (A.under (.builtin "type.__call__" ⟨[.ref C], []⟩)) (.call (.builtin "object.__init__") ⟨[.ref (s.heap.objs.size + 1)], []⟩) (PySem.W.InitBack (s.heap.objs.size + 1) R)
      { s with heap := (s.heap.push PySem.W.emptyDict).push (PySem.W.instObj C s.heap.objs.size) }) :
    codeAny (model prog w) A (.call (.ref C) ⟨[], []⟩) R s := by
  obtain ⟨hh, g, d, t, os⟩ := s
  exact PySem.W.make_core (PySem.W.makes_of X hm) (PySem.W.looks_findIn X hi) hb (.inr ⟨rfl, rfl⟩) h
end

/-! ### the attributes as a list of pairs -/
def putF (f : Str) (v : V) : List (Str × V) → List (Str × V)
  | [] => [(f, v)]
  | (g, x) :: r => if g = f then (g, v) :: r else (g, x) :: putF f v r
theorem lookup_putF (f g : Str) (v : V) : ∀ fs : List (Str × V), (putF f v fs).lookup g = if g = f then some v else fs.lookup g
  | [] => by
    show List.lookup g [(f, v)] = _
    by_cases h : g = f
    · have hb : (g == f) = true := beq_iff_eq.mpr h
      simp only [List.lookup, hb, if_pos h]
    · have hb : (g == f) = false := beq_eq_false_iff_ne.mpr h
      simp only [List.lookup, hb, if_neg h]
  | (k, x) :: r => by
    have ih := lookup_putF f g v r
    rw [show putF f v ((k, x) :: r) = (if k = f then (k, v) :: r else (k, x) :: putF f v r) from rfl]
    by_cases hk : k = f
    · rw [if_pos hk]
      by_cases h : g = k
      · have hb : (g == k) = true := beq_iff_eq.mpr h
        simp only [List.lookup, hb, if_pos (h.trans hk)]
      · have hb : (g == k) = false := beq_eq_false_iff_ne.mpr h
        simp only [List.lookup, hb, if_neg (fun e : g = f => h (e.trans hk.symm))]
    · rw [if_neg hk]
      by_cases h : g = k
      · have hb : (g == k) = true := beq_iff_eq.mpr h
        simp only [List.lookup, hb, if_neg (fun e : g = f => hk (h.symm.trans e))]
      · have hb : (g == k) = false := beq_eq_false_iff_ne.mpr h
        simp only [List.lookup, hb]
        exact ih
theorem keys_putF (f : Str) (v : V) : ∀ fs : List (Str × V), f ∈ (putF f v fs).map (·.1) ∧ ∀ g, g ∈ fs.map (·.1) → g ∈ (putF f v fs).map (·.1)
  | [] => ⟨by simp [putF], fun g h => by simp at h⟩
  | (k, x) :: r => by
    obtain ⟨i1, i2⟩ := keys_putF f v r
    rw [show putF f v ((k, x) :: r) = (if k = f then (k, v) :: r else (k, x) :: putF f v r) from rfl]
    by_cases hk : k = f
    · rw [if_pos hk]
      subst hk
      exact ⟨by simp, fun g h => by simpa using h⟩
    · rw [if_neg hk]
      refine ⟨?_, fun g h => ?_⟩
      · rw [List.map_cons]
        exact List.mem_cons_of_mem _ i1
      · rw [List.map_cons] at h ⊢
        rcases List.mem_cons.mp h with e | e
        · exact List.mem_cons.mpr (.inl e)
        · exact List.mem_cons_of_mem _ (i2 g e)
theorem length_putF (f : Str) (v : V) : ∀ fs : List (Str × V), (putF f v fs).length ≤ fs.length + 1
  | [] => by simp [putF]
  | (k, x) :: r => by
    have ih := length_putF f v r
    rw [show putF f v ((k, x) :: r) = (if k = f then (k, v) :: r else (k, x) :: putF f v r) from rfl]
    by_cases hk : k = f
    · rw [if_pos hk, List.length_cons, List.length_cons]; omega
    · rw [if_neg hk, List.length_cons, List.length_cons]; omega

theorem RelO.some_of {v : V} {o : Option Value} (r : RelO (some v) o) : ∃ u, o = some u ∧ RelV v u := by
  cases o with
  | none => exact (show False from r).elim
  | some u => exact ⟨u, rfl, r⟩
theorem RelO.none_of {o : Option Value} (r : RelO none o) : o = none := by
  cases o with
  | none => rfl
  | some u => exact (show False from r).elim
theorem handed_of {v : V} {u : Value} (r : RelV v u) : PySem.W.handedIn u = true := by
  cases v with
  | non => cases (show u = Value.none from r); rfl
  | bl b => cases (show u = Value.bool b from r); rfl
  | int i => obtain ⟨t, e⟩ := (show ∃ t, u = Value.int i t from r); cases e; rfl
  | str x => obtain ⟨t, e⟩ := (show ∃ t, u = Value.str x t from r); cases e; rfl
  | byt b => obtain ⟨t, e⟩ := (show ∃ t, u = Value.bytes b t from r); cases e; rfl
  | flt b => obtain ⟨t, e⟩ := (show ∃ t, u = Value.float b t from r); cases e; rfl
  | ref a => cases (show u = Value.ref a from r); rfl
  | ty n => cases (show u = Value.type n from r); rfl

section
variable {P : Program} {w : World} {H H' : Hp} {h h' : Heap} {a C dx : Addr} {fs fs' : List (Str × V)}
theorem ins_get (hok : HOk P w H h) (e : H a = some (.ins C dx fs)) : ∃ mA, ObjM h a dx C mA ∧ (∀ f, RelO (fs.lookup f) (mA f)) ∧ PySem.Within mA (fs.map (·.1)) ∧ fs.length ≤ 1000 ∧ H dx = some (.own a) := by
  obtain ⟨d, z, ne, ob, mA, n, r, q⟩ := (show ObjOk P w H h a (.ins C dx fs) from hok a _ e)
  exact ⟨mA, ⟨ob, n, ne⟩, r, q, z, d⟩
end

/-! ### what of the text a class must have -/
structure Cls (K : PySem.W.Frag) (C : Addr) : Prop where
  pg : PySem.W.plainGet K C Str.empty = true
  hd : PySem.W.hasDictIn K C = true
  po : PySem.W.plainOver K C = true
  sa : PySem.W.findIn K (.ref C) "__setattr__" = some (some (.builtin "object.__setattr__"))
theorem Cls.get {K : PySem.W.Frag} {C : Addr} (c : Cls K C) (f : Str) : PySem.W.plainGet K C f = true := c.pg
/-- no class of it has the name -/
def NoAttr (K : PySem.W.Frag) (C : Addr) (f : Str) : Prop := PySem.W.findIn K (.ref C) f = some none
theorem NoAttr.taker {K : PySem.W.Frag} {C : Addr} {f : Str} (n : NoAttr K C f) : PySem.W.takerIn K C f = some none := by
  unfold PySem.W.takerIn
  rw [show PySem.W.findIn K (.ref C) f = some none from n]
  rfl
/-- a constant of the class -/
structure Con (K : PySem.W.Frag) (C : Addr) (f : Str) (v : V) (u : Value) : Prop where
  at_ : PySem.W.findIn K (.ref C) f = some (some u)
  rel : RelV v u
  get : PySem.W.specialIn K u "__get__" = some none
  cp : PySem.W.copiedNames.contains f = false
/-- a method: a plain def of the class or of one above it -/
structure Meth (K : PySem.W.Frag) (C : Addr) (m : Str) (f : Addr) : Prop where
  at_ : PySem.W.findIn K (.ref C) m = some (some (.ref f))
  fn : PySem.W.isFn K (.ref f) = true
  kp : PySem.W.keepIn K (.ref f) = true

section
variable {X : Cx} {pins : List (Addr × Obj)} {σ : St} {H : Hp} {s : Shared} {a C dx : Addr} {fs : List (Str × V)} {f : Str} {v : V} {A : Around} {E : Value → Shared → Prop}

theorem getattr_ok {b : Bool} {Q : Value → Shared → Prop} (I : Inv X pins σ H s) (e : H a = some (.ins C dx fs)) (c : Cls X.K C) (n : NoAttr X.K C f) (l : fs.lookup f = some v)
    (h : ∀ u s', Inv X pins σ H s' → RelV v u → Q u s') : wpAny (model X.prog X.w) A (getAttr (.ref a) f b) Q E s := by
  obtain ⟨mA, O, r, _, _, _⟩ := ins_get I.hok e
  obtain ⟨u, hu, ru⟩ := RelO.some_of (v := v) (o := mA f) (by rw [← l]; exact r f)
  exact get_map I.kIn O (c.get f) c.hd n hu (handed_of ru) (h u _ (I.tok _) ru)

theorem getcon_ok {b : Bool} {u : Value} {Q : Value → Shared → Prop} (I : Inv X pins σ H s) (e : H a = some (.ins C dx fs)) (c : Cls X.K C) (k : Con X.K C f v u) (l : fs.lookup f = none)
    (h : ∀ s', Inv X pins σ H s' → Q u s') : wpAny (model X.prog X.w) A (getAttr (.ref a) f b) Q E s := by
  obtain ⟨mA, O, r, _, _, _⟩ := ins_get I.hok e
  have hn : mA f = none := RelO.none_of (by rw [← l]; exact r f)
  exact get_const I.kIn O (c.get f) c.hd k.at_ k.get k.cp hn (handed_of k.rel) (h _ (I.tok _))

theorem getmeth_ok {m : Str} {g : Addr} {pl : Sem Bool} {Q : Value × List Value → Shared → Prop} (I : Inv X pins σ H s) (e : H a = some (.ins C dx fs)) (c : Cls X.K C) (k : Meth X.K C m g) (l : fs.lookup m = none)
    (h : Q (.ref g, [.ref a]) s) : wpAny (model X.prog X.w) A (getMethod (.ref a) m pl) Q E s := by
  obtain ⟨mA, O, r, _, _, _⟩ := ins_get I.hok e
  have hn : mA m = none := RelO.none_of (by rw [← l]; exact r m)
  exact get_meth I.kIn O (c.get m) k.at_ k.fn hn h

theorem setattr_ok {y : V} {u : Value} {Q : Unit → Shared → Prop} (I : Inv X pins σ H s) (e : H a = some (.ins C dx fs)) (c : Cls X.K C) (n : NoAttr X.K C f) (hl : fs.length < 1000) (ry : RelV y u)
    (h : ∀ s', Inv X pins σ (upd H a (.ins C dx (putF f y fs))) s' → Q () s') : wpAny (model X.prog X.w) A (setAttr (.ref a) f u) Q E s := by
  obtain ⟨mA, O, r, wi, _, ho⟩ := ins_get I.hok e
  have hz : (fs.map (·.1)).length ≤ sizeLine := by rw [List.length_map, sizeLine_eq]; omega
  refine set_map I.kIn O c.sa c.po n.taker c.hd wi hz fun h' O' sb => h _ ?_
  have hd : ∃ o, h'.get? dx = some o := let ⟨o, _, _, e', _⟩ := O'.ns; ⟨o, e'⟩
  refine I.write (x := a) (e := dx) (by rw [e]; exact True.intro) (.inr ho) (fun b q hb z => (sb.2 b hb).trans z) hd ?_
  refine ⟨by rw [upd_ne O.ne]; exact ho, ?_, O.ne, O'.obj, _, O'.ns, fun g => ?_, fun g hg => ?_⟩
  · have := length_putF f y fs; omega
  · show RelO ((putF f y fs).lookup g) (if g = f then some u else mA g)
    rw [lookup_putF]
    by_cases q : g = f
    · rw [if_pos q, if_pos q]; exact ry
    · rw [if_neg q, if_neg q]; exact r g
  · by_cases q : g = f
    · rw [q]; exact (keys_putF f y fs).1
    · refine (keys_putF f y fs).2 g (wi g fun z => hg ?_)
      show (if g = f then some u else mA g) = none
      rw [if_neg q]; exact z

/-- a new instance, tracked, without attributes -/
theorem Inv.made (I : Inv X pins σ H s) : Inv X pins σ (upd (upd H s.heap.objs.size (.own (s.heap.objs.size + 1))) (s.heap.objs.size + 1) (.ins C s.heap.objs.size []))
    { s with heap := (s.heap.push PySem.W.emptyDict).push (PySem.W.instObj C s.heap.objs.size) } := by
  have e1 : (s.heap.push PySem.W.emptyDict).get? s.heap.objs.size = some PySem.W.emptyDict := Heap.get?_push_size s.heap rfl
  have e2 : ((s.heap.push PySem.W.emptyDict).push (PySem.W.instObj C s.heap.objs.size)).get? (s.heap.objs.size + 1) = some (PySem.W.instObj C s.heap.objs.size) := by
    have := Heap.get?_push_size (s.heap.push PySem.W.emptyDict) (o := PySem.W.instObj C s.heap.objs.size) rfl
    rwa [Heap.size_push] at this
  have e3 : (s.heap.push PySem.W.emptyDict).Ns s.heap.objs.size (fun _ => none) := ⟨PySem.W.emptyDict, #[], _, e1, rfl, (fun e he => absurd he (by simp)), fun _ => rfl⟩
  have I1 := I.laid (a := s.heap.objs.size) (o := .own (s.heap.objs.size + 1)) (h' := s.heap.push PySem.W.emptyDict) (t' := s.toks) (fun b u q => Heap.get?_push_of_some _ q) (Nat.le_refl _) ⟨_, e1⟩
  refine I1.laid (a := s.heap.objs.size + 1) (o := .ins C s.heap.objs.size []) (t' := s.toks) (fun b u q => Heap.get?_push_of_some _ q) (Nat.le_of_eq (Heap.size_push _ _)) ?_
  have ne : s.heap.objs.size ≠ s.heap.objs.size + 1 := Nat.ne_of_lt (Nat.lt_succ_self _)
  refine ⟨by rw [upd_ne ne, upd_same], Nat.zero_le _, ne, e2, fun _ => none, (Heap.Ns1.of_empty e3).at fun o q => Heap.get?_push_of_some _ q, fun _ => True.intro, fun y hy => absurd rfl hy⟩

/-- e.f where nothing but the object is asked: through attributeBase (super) and the last hold -/
theorem attr_of {prog : Program} {w : World} {env : Env} {e : Expr} {f : Str} {pos : Pos} {s : Shared} {Q : Value → Shared → Prop} (hb : attributeBase e f env (eval e env) = eval e env)
    (h : wpAny (model prog w) A (eval e env) (fun o s₁ => wpAny (model prog w) A (getAttr o f true) Q E s₁) E s) : wpAny (model prog w) A (eval (.Attribute e f pos) env) Q E s :=
  Attribute_any_ h (by rw [arm_eval_Attribute, hb])
end

/-! ### readings and rules -/
/-- e.f, an attribute of the instance -/
def tFld (K : PySem.W.Frag) (ta : TE) (f : Str) : TE := fun σ H Q => ta σ H fun x H1 => ∃ a C dx fs v, x = .ref a ∧ H1 a = some (.ins C dx fs) ∧ Cls K C ∧ NoAttr K C f ∧ fs.lookup f = some v ∧ Q v H1
/-- e.f, a constant of the class -/
def tCon (K : PySem.W.Frag) (ta : TE) (f : Str) : TE := fun σ H Q => ta σ H fun x H1 => ∃ a C dx fs v u, x = .ref a ∧ H1 a = some (.ins C dx fs) ∧ Cls K C ∧ Con K C f v u ∧ fs.lookup f = none ∧ Q v H1
/-- e.f = value -/
def sFld (K : PySem.W.Frag) (ta tv : TE) (f : Str) : TS := fun D σ H => tv σ H fun y H1 => ta σ H1 fun x H2 => ∃ a C dx fs, x = .ref a ∧ H2 a = some (.ins C dx fs) ∧ Cls K C ∧ NoAttr K C f ∧ fs.length < 1000 ∧
  D.nx σ (upd H2 a (.ins C dx (putF f y fs)))
/-- an augmented operator on two values -/
def InOp (X : Cx) (op : Operator) (rd : V → V → Hp → VK → Prop) : Prop :=
  ∀ (pins : List (Addr × Obj)) (s : Shared) (σ : St) (H : Hp) (x y : V) (u v : Value) (Q : VK), Inv X pins σ H s → RelV x u → RelV y v → rd x y H Q → wpAny (model X.prog X.w) X.A (inplaceOp op u v) (EP X pins σ Q) X.xe s
/-- e.f op= value -/
def sFldAug (K : PySem.W.Frag) (ta tv : TE) (rd : V → V → Hp → VK → Prop) (f : Str) : TS := fun D σ H => ta σ H fun x H1 => ∃ a C dx fs v, x = .ref a ∧ H1 a = some (.ins C dx fs) ∧ Cls K C ∧ NoAttr K C f ∧ fs.lookup f = some v ∧
  tv σ H1 fun y H2 => rd v y H2 fun z H3 => ∃ dx' fs', H3 a = some (.ins C dx' fs') ∧ fs'.length < 1000 ∧ D.nx σ (upd H3 a (.ins C dx' (putF f z fs')))

section
variable {X : Cx} {o e value : Expr} {f : Str} {pos pos' tpos : Pos} {ta tv : TE}
theorem pe_fld (he : PE X e ta) (hb : attributeBase e f X.env (eval e X.env) = eval e X.env) : PE X (.Attribute e f pos) (tFld X.K ta f) := by
  intro pins s σ H Q I h
  refine attr_of hb (thn (he pins s σ H _ I h) fun u s1 ⟨x, H1, I1, rx, a, C, dx, fs, v, ex, ea, c, n, l, q⟩ => ?_)
  subst ex
  obtain rfl : u = Value.ref a := rx
  exact getattr_ok I1 ea c n l fun u' s2 I2 ru => ⟨v, H1, I2, ru, q⟩
theorem pe_con (he : PE X e ta) (hb : attributeBase e f X.env (eval e X.env) = eval e X.env) : PE X (.Attribute e f pos) (tCon X.K ta f) := by
  intro pins s σ H Q I h
  refine attr_of hb (thn (he pins s σ H _ I h) fun u s1 ⟨x, H1, I1, rx, a, C, dx, fs, v, u0, ex, ea, c, k, l, q⟩ => ?_)
  subst ex
  obtain rfl : u = Value.ref a := rx
  exact getcon_ok I1 ea c k l fun s2 I2 => ⟨v, H1, I2, k.rel, q⟩
theorem ps_fld (ha : PE X o ta) (hv : PE X value tv) (hs : swapsWith value (some (.Attribute o f pos')) pos.line X.env = pure false) : PS X (.Assign [.Attribute o f pos'] value pos) (sFld X.K ta tv f) := by
  intro pins s σ H D I h
  refine plainObj_wpAny_Assign_Attribute (thn (hv pins s σ H _ I h) fun u s1 ⟨y, H1, I1, ry, q⟩ => thn (ha pins s1 σ H1 _ I1 q) fun ov s2 ⟨x, H2, I2, rx, a, C, dx, fs, ex, ea, c, n, l, q2⟩ => ?_) hs
  subst ex
  obtain rfl : ov = Value.ref a := rx
  exact setattr_ok I2 ea c n l ry fun s3 I3 => ⟨σ, _, I3, q2⟩
theorem ps_fldaug {op : Operator} {rd : V → V → Hp → VK → Prop} (ha : PE X o ta) (hv : PE X value tv) (hop : InOp X op rd) : PS X (.AugAssign (.Attribute o f tpos) op value pos) (sFldAug X.K ta tv rd f) := by
  intro pins s σ H D I h
  refine wpAny_AugAssign_AttributeAny (thn (ha pins s σ H _ I h) fun ov s1 ⟨x, H1, I1, rx, a, C, dx, fs, v, ex, ea, c, n, l, q⟩ => ?_)
  subst ex
  obtain rfl : ov = Value.ref a := rx
  refine getattr_ok I1 ea c n l fun u s2 I2 ru => thn (hv pins s2 σ H1 _ I2 q) fun w3 s3 ⟨y, H2, I3, ry, q3⟩ => thn (hop pins s3 σ H2 v y u w3 _ I3 ru ry q3) fun w4 s4 ⟨z, H3, I4, rz, dx', fs', ea', l', q4⟩ => ?_
  exact setattr_ok I4 ea' c n l' rz fun s5 I5 => ⟨σ, _, I5, q4⟩
def rAdd : V → V → Hp → VK → Prop := fun x y H Q => ∃ i j, x = .int i ∧ y = .int j ∧ Q (.int (i + j)) H
def rSub : V → V → Hp → VK → Prop := fun x y H Q => ∃ i j, x = .int i ∧ y = .int j ∧ Q (.int (i - j)) H
theorem in_add : InOp X .Add rAdd := by
  rintro pins s σ H x y u v Q I rx ry ⟨i, j, rfl, rfl, q⟩
  obtain ⟨t, rfl⟩ := (show ∃ t, u = Value.int i t from rx)
  obtain ⟨t', rfl⟩ := (show ∃ t', v = Value.int j t' from ry)
  exact PyProof.Rows.iadd_int ⟨.int (i + j), H, I.tok _, ⟨_, rfl⟩, q⟩
theorem in_sub : InOp X .Sub rSub := by
  rintro pins s σ H x y u v Q I rx ry ⟨i, j, rfl, rfl, q⟩
  obtain ⟨t, rfl⟩ := (show ∃ t, u = Value.int i t from rx)
  obtain ⟨t', rfl⟩ := (show ∃ t', v = Value.int j t' from ry)
  exact PyProof.Rows.isub_int ⟨.int (i - j), H, I.tok _, ⟨_, rfl⟩, q⟩

/-- what is between an instance and its method: the tree of a method call -/
theorem methcall_of {pl : Sem Bool} {m : Str} {apos : Pos} {args : List Expr} {pins : List (Addr × Obj)} {s : Shared} {σ : St} {H : Hp} {Q : Value → Shared → Prop} {te : TE} (he : PE X e te) (I : Inv X pins σ H s)
    (h : te σ H fun x H1 => ∃ a C dx fs g, x = .ref a ∧ H1 a = some (.ins C dx fs) ∧ Cls X.K C ∧ Meth X.K C m g ∧ fs.lookup m = none ∧
      ∀ s1, Inv X pins σ H1 s1 → wpAny (model X.prog X.w) X.A (callWith pos (.ref g) [.ref a] (backTo pos (starEach args X.env)) (backToKw pos (keywordEach [] X.env))) Q X.xe s1)
    (ht : eval (.Call (.Attribute e m apos) args [] pos) X.env = (do
      let ov ← eval e X.env
      standAt apos.atName
      let (f, first) ← holding [ov] (getMethod ov m pl)
      callWith pos f first (backTo pos (starEach args X.env)) (backToKw pos (keywordEach [] X.env)))) :
    wpAny (model X.prog X.w) X.A (eval (.Call (.Attribute e m apos) args [] pos) X.env) Q X.xe s := by
  refine PySem.W.methodCall_KW (pl := pl) (thn (he pins s σ H _ I h) fun u s1 ⟨x, H1, I1, rx, a, C, dx, fs, g, ex, ea, c, k, l, q⟩ => ?_) ht
  subst ex
  obtain rfl : u = Value.ref a := rx
  exact getmeth_ok I1 ea c k l (q s1 I1)
end

/-! ### isinstance -/
section
variable {X : Cx} {pins : List (Addr × Obj)} {σ : St} {H : Hp} {s : Shared} {A : Around} {E : Value → Shared → Prop} {Q : Value → Shared → Prop} {c : Value} {b : Bool}
/-- the type of a value, as the fragment's deciders take it; for an instance its class -/
inductive TyOf (K : PySem.W.Frag) (H : Hp) : V → Value → Prop where
  | non : TyOf K H .non (.type "NoneType")
  | bl (x : Bool) : TyOf K H (.bl x) (.type "bool")
  | int (i : Int) : TyOf K H (.int i) (.type "int")
  | str (x : Str) : TyOf K H (.str x) (.type "str")
  | flt (x : UInt64) : TyOf K H (.flt x) (.type "float")
  | lst {a : Addr} {xs : List V} (e : H a = some (.lst xs)) : TyOf K H (.ref a) (.type "list")
  | frz {a : Addr} {o : Obj} {xs : List V} (e : H a = some (.frz o (.lst xs))) : TyOf K H (.ref a) (.type "list")
  | tup {a : Addr} {xs : List V} (e : H a = some (.tup xs)) : TyOf K H (.ref a) (.type "tuple")
  | dK {a : Addr} {kvs : List (Key × V)} (e : H a = some (.dK kvs)) : TyOf K H (.ref a) (.type "dict")
  | dT {a : Addr} {kvs : List (List Key × V)} (e : H a = some (.dT kvs)) : TyOf K H (.ref a) (.type "dict")
  | ins {a C dx : Addr} {fs : List (Str × V)} (e : H a = some (.ins C dx fs)) (cl : Cls K C) (ha : PySem.W.findIn K (.ref C) "__class__" = some (some (.builtin "object.__class__")))
      (hn : PySem.W.specialIn K (.builtin "object.__class__") "__get__" = some (some (.builtin "getset_descriptor.__get__"))) (htk : PySem.W.takesIn K (.builtin "object.__class__") = some true)
      (hm : PySem.W.mroIn K C (.type "object") = some true) : TyOf K H (.ref a) (.ref C)
/-- isinstance(x, c) for one class c, a built-in or an own one: kitOne's answer -/
theorem isinst_ok {x : V} {u t : Value} (I : Inv X pins σ H s) (rx : RelV x u) (ty : TyOf X.K H x t) (e : PySem.W.kitOne X.K t c = some b) (h : ∀ tk, Q (.bool b) { s with toks := tk }) :
    wpAny (model X.prog X.w) A (call (.builtin "isinstance") [u, c]) Q E s := by
  cases ty with
  | non => cases (show u = Value.none from rx); exact PySem.W.kia_one PySem.W.kitx_none I.kIn True.intro e (fun z => nomatch z) h
  | bl y => cases (show u = Value.bool y from rx); exact PySem.W.kia_one PySem.W.kitx_bool I.kIn True.intro e (fun z => nomatch z) h
  | int i => obtain ⟨t, q⟩ := (show ∃ t, u = Value.int i t from rx); cases q; exact PySem.W.kia_one PySem.W.kitx_int I.kIn True.intro e (fun z => nomatch z) h
  | str y => obtain ⟨t, q⟩ := (show ∃ t, u = Value.str y t from rx); cases q; exact PySem.W.kia_one PySem.W.kitx_str I.kIn True.intro e (fun z => nomatch z) h
  | flt y => obtain ⟨t, q⟩ := (show ∃ t, u = Value.float y t from rx); cases q; exact PySem.W.kia_one PySem.W.kitx_float I.kIn True.intro e (fun z => nomatch z) h
  | @lst a xs ea =>
    cases (show u = Value.ref a from rx)
    obtain ⟨_, _, n, _, h1⟩ := (show ObjOk X.prog X.w H s.heap a (.lst xs) from I.hok a _ ea)
    exact PySem.W.kia_one PySem.W.kitx_list I.kIn ⟨_, h1, rfl⟩ e (fun z => nomatch z) h
  | @frz a ob xs ea =>
    cases (show u = Value.ref a from rx)
    obtain ⟨_, _, _, n, _, h1⟩ := (show ObjOk X.prog X.w H s.heap a (.frz ob (.lst xs)) from I.hok a _ ea)
    exact PySem.W.kia_one PySem.W.kitx_list I.kIn ⟨_, h1, rfl⟩ e (fun z => nomatch z) h
  | @tup a xs ea =>
    cases (show u = Value.ref a from rx)
    obtain ⟨_, _, _, p⟩ := (show ObjOk X.prog X.w H s.heap a (.tup xs) from I.hok a _ ea)
    obtain ⟨o, h1, h2, _⟩ := p
    exact PySem.W.kia_one PySem.W.kitx_tuple I.kIn ⟨o, h1, h2⟩ e (fun z => nomatch z) h
  | @dK a kvs ea =>
    cases (show u = Value.ref a from rx)
    obtain ⟨_, _, vs, _, p⟩ := (show ObjOk X.prog X.w H s.heap a (.dK kvs) from I.hok a _ ea)
    obtain ⟨o, es, ep, h1, h2, _⟩ := p
    exact PySem.W.kia_one PySem.W.kitx_dict I.kIn ⟨o, h1, h2.1⟩ e (fun z => nomatch z) h
  | @dT a kvs ea =>
    cases (show u = Value.ref a from rx)
    obtain ⟨_, _, xs, _, o, es, ep, h1, h2, _⟩ := (show ObjOk X.prog X.w H s.heap a (.dT kvs) from I.hok a _ ea)
    exact PySem.W.kia_one PySem.W.kitx_dict I.kIn ⟨o, h1, h2.1⟩ e (fun z => nomatch z) h
  | @ins a C dx fs ea cl ha hn htk hm =>
    cases (show u = Value.ref a from rx)
    obtain ⟨mA, O, _⟩ := ins_get I.hok ea
    obtain ⟨od, J, _⟩ := O.look
    exact PySem.W.kia_one (PySem.W.kitx_own (cl.get _) cl.hd ha hn htk hm) I.kIn J e (fun z => nomatch z) h
end
end L2

namespace L2
open PySem PySem.Spec PyProof.Rows

/-! ### room -/
structure Room (k : Nat) (A : Around) : Prop where
  hd : A.handled = none
  dp : A.depth + 3 * k + 5 < recursionLimit
  un : A.units + 16 * k + 200 < cLine
theorem Room.mono {j k : Nat} {A : Around} (r : Room k A) (h : j ≤ k) : Room j A := ⟨r.hd, by have := r.dp; omega, by have := r.un; omega⟩
theorem Room.deeper {k : Nat} {A : Around} (r : Room (k + 1) A) (env : Env) : Room k (A.deeper env) :=
  ⟨r.hd, by have := r.dp; show A.depth + 1 + 3 * k + 5 < _; omega, by have := r.un; show A.units + 3 + 16 * k + 200 < _; omega⟩
theorem Room.in1 {k : Nat} {A : Around} (r : Room (k + 1) A) : Room k A.in1 :=
  ⟨r.hd, by have := r.dp; show A.depth + 3 * k + 5 < _; omega, by have := r.un; show A.units + 1 + 16 * k + 200 < _; omega⟩
theorem make_depth {A : Around} {C : Addr} {us : List Value} {kw : List (Str × Value)} : (A.under (.builtin "type.__call__" ⟨.ref C :: us, kw⟩)).depth = A.depth + 1 := by
  first | rfl | simp [Around.under, Code.weight, Code.isCreation, Code.isGuard, Code.isCaller, Code.frames, Code.isFrame, guardIds]
theorem make_units {A : Around} {C : Addr} {us : List Value} {kw : List (Str × Value)} : (A.under (.builtin "type.__call__" ⟨.ref C :: us, kw⟩)).units = A.units + 1 := by
  first | rfl | simp [Around.under, Code.cUnits, Code.frames, Code.isFrame]
theorem Room.make {k : Nat} {A : Around} (r : Room (k + 1) A) (C : Addr) (us : List Value) (kw : List (Str × Value)) : Room k (A.under (.builtin "type.__call__" ⟨.ref C :: us, kw⟩)) :=
  ⟨r.hd, by have := r.dp; rw [make_depth]; omega, by have := r.un; rw [make_units]; omega⟩
theorem Room.depth {k : Nat} {A : Around} (r : Room k A) : A.depth < recursionLimit := by have := r.dp; omega
theorem Room.units {k : Nat} {A : Around} (r : Room k A) : A.units + 64 < cLine := by have := r.un; omega
theorem Room.units0 {k : Nat} {A : Around} (r : Room k A) : A.units < cLine := by have := r.un; omega

/-! ### argument lists and displays -/
def tNil : TA := fun _ H Q => Q [] H
def tCons (ta : TE) (tr : TA) : TA := fun σ H Q => ta σ H fun x H1 => tr σ H1 fun xs H2 => Q (x :: xs) H2
section
variable {X : Cx} {e : Expr} {es : List Expr} {te : TE} {t : TA} {pos : Pos}
theorem pa_nil : PA X [] tNil := fun _ _ _ _ H Q I h => Calls.spliced_nil ⟨[], H, I, .nil, h⟩
theorem pa_cons (ha : PE X e te) (hr : PA X es t) (hs : starEach (e :: es) X.env = (false, eval e X.env) :: starEach es X.env := by rfl) : PA X (e :: es) (tCons te t) := by
  intro pos pins s σ H Q I h
  rw [hs]
  show wpAny _ _ (spliced ((false, eval e X.env) :: backTo pos (starEach es X.env))) _ _ s
  refine Calls.spliced_cons (thn (ha pins s σ H _ I h) fun u s1 ⟨x, H1, I1, r1, q1⟩ => ?_)
  exact thn (hr pos pins s1 σ H1 _ I1 q1) fun us s2 ⟨xs, H2, I2, r2, q2⟩ => ⟨x :: xs, H2, I2, .cons r1 r2, q2⟩

/-- a tuple, a list of written items -/
def tTup (t : TA) : TE := fun σ H Q => t σ H fun xs H1 => xs.length ≤ sizeLine ∧ ∀ p, H1 p = none → Q (.ref p) (upd H1 p (.tup xs))
def tLst (t : TA) : TE := fun σ H Q => t σ H fun xs H1 => xs.length ≤ sizeLine ∧ ∀ p, H1 p = none → Q (.ref p) (upd H1 p (.lst xs))
theorem pe_tup {x1} (h : PA X es t) : PE X (.Tuple es x1 pos) (tTup t) := by
  intro pins s σ H Q I hq
  refine wpAny_Tuple_spliced (thn (h pos pins s σ H _ I hq) fun us s1 ⟨xs, H1, I1, r, z, q⟩ => ⟨by rw [← r.length]; exact z, ?_⟩)
  have hf : H1 s1.heap.objs.size = none := I1.hok.fresh (Nat.le_refl _)
  refine ⟨.ref s1.heap.objs.size, upd H1 s1.heap.objs.size (.tup xs), I1.laid (t' := s1.toks) (fun b u e => Heap.get?_push_of_some _ e) (Nat.le_refl _) ?_, rfl, q _ hf⟩
  exact ⟨z, us, r, ⟨_, Heap.get?_push_size _ rfl, rfl, _, rfl⟩⟩
theorem pe_lst (h : PA X es t) : PE X (.List es pos) (tLst t) := by
  intro pins s σ H Q I hq
  refine wpAny_List_spliced (thn (h pos pins s σ H _ I hq) fun us s1 ⟨xs, H1, I1, r, z, q⟩ => ⟨by rw [← r.length]; exact z, ?_⟩)
  have hf : H1 s1.heap.objs.size = none := I1.hok.fresh (Nat.le_refl _)
  refine ⟨.ref s1.heap.objs.size, upd H1 s1.heap.objs.size (.lst xs), I1.laid (t' := s1.toks) (fun b u e => Heap.get?_push_of_some _ e) (Nat.le_refl _) ?_, rfl, q _ hf⟩
  exact ⟨z, us, 0, r, Heap.get?_push_size _ rfl⟩
end

/-! ### what a def promises -/
/-- a def's promise: the bound arguments in the parameters' order, the heap, the wanted end, the wanted exception -/
abbrev Sp := List V → Hp → VK → XK → Prop
/-- how an exception lies behind a call (file 08 gives it): the callers' frames, abstract heap and state ahead of the call, the wish, the exception, the state -/
abbrev CXT := List Env → Hp → Shared → XK → Value → Shared → Prop

/-- the state at a call -/
structure Env0 (P : Program) (w : World) (K : PySem.W.Frag) (mg : Str → Option Value) (base : Heap) (A : Around) (outer : List Env) (s : Shared) (H : Hp) : Prop where
  frames : A.frames = some outer
  mod : Mod K mg base
  bs : ∀ b o, base.get? b = some o → s.heap.get? b = some o ∧ H b = none
  bsz : base.objs.size ≤ s.heap.objs.size
  funs : s.heap.FunFrames base outer
  frf : ∀ b ∈ frs outer, H b = none
  hok : HOk P w H s.heap
  bare : AllBare s.gens
/-- a call's end -/
def CE (outer : List Env) (P : Program) (w : World) (H : Hp) (s : Shared) (Q : VK) (u : Value) (s' : Shared) : Prop :=
  ∃ v H', s'.os = s.os ∧ AllBare s'.gens ∧ Un (frs outer) [] H H' s.heap s'.heap ∧ HOk P w H' s'.heap ∧ RelV v u ∧ Q v H'
def CR (CX : CXT) (outer : List Env) (P : Program) (w : World) (H : Hp) (s : Shared) (Q : VK) (E : XK) (r : Result) (s' : Shared) : Prop :=
  match r with
  | .ok (.ret u) => CE outer P w H s Q u s'
  | .ok _ => False
  | .error e => CX outer H s E e s'
structure FnOk (P : Program) (w : World) (K : PySem.W.Frag) (mg : Str → Option Value) (base : Heap) (CX : CXT) (k : Nat) (f : Addr) (fd : FuncData) (ps : List Str) (sp : Sp) : Prop where
  len : ∀ vs H Q E, sp vs H Q E → vs.length = ps.length
  run : ∀ (A : Around) (outer : List Env) (s : Shared) (H : Hp) (args : Args) (us : List Value) (vs : List V) (Q : VK) (E : XK), Room k A → Env0 P w K mg base A outer s H → BindsTo s fd args (ps.zip us) → Vals vs us → sp vs H Q E →
    codeAny (model P w) A (.call (.ref f) args) (CR CX outer P w H s Q E) s
theorem FnOk.mono {P : Program} {w : World} {K : PySem.W.Frag} {mg : Str → Option Value} {base : Heap} {CX : CXT} {j k : Nat} {f : Addr} {fd : FuncData} {ps : List Str} {sp : Sp} (F : FnOk P w K mg base CX j f fd ps sp) (h : j ≤ k) :
    FnOk P w K mg base CX k f fd ps sp := ⟨F.len, fun A outer s H args us vs Q E hr => F.run A outer s H args us vs Q E (hr.mono h)⟩
/-- a weaker promise -/
theorem FnOk.imp {P : Program} {w : World} {K : PySem.W.Frag} {mg : Str → Option Value} {base : Heap} {CX : CXT} {k : Nat} {f : Addr} {fd : FuncData} {ps : List Str} {sp sp' : Sp} (F : FnOk P w K mg base CX k f fd ps sp)
    (h : ∀ vs H Q E, sp' vs H Q E → sp vs H Q E) : FnOk P w K mg base CX k f fd ps sp' :=
  ⟨fun vs H Q E q => F.len vs H Q E (h _ _ _ _ q), fun A outer s H args us vs Q E hr he hb hv hs => F.run A outer s H args us vs Q E hr he hb hv (h _ _ _ _ hs)⟩

theorem Env0.make {P : Program} {w : World} {K : PySem.W.Frag} {mg : Str → Option Value} {base : Heap} {A : Around} {outer : List Env} {s : Shared} {H : Hp} (e : Env0 P w K mg base A outer s H) (C : Addr) (us : List Value) (kw : List (Str × Value)) :
    Env0 P w K mg base (A.under (.builtin "type.__call__" ⟨.ref C :: us, kw⟩)) outer s H := ⟨by first | exact e.frames | (simpa [Around.under, Code.envs, Code.isFrame, pushEnvs] using e.frames), e.mod, e.bs, e.bsz, e.funs, e.frf, e.hok, e.bare⟩
theorem Env0.in1 {P : Program} {w : World} {K : PySem.W.Frag} {mg : Str → Option Value} {base : Heap} {A : Around} {outer : List Env} {s : Shared} {H : Hp} (e : Env0 P w K mg base A outer s H) :
    Env0 P w K mg base A.in1 outer s H := ⟨e.frames, e.mod, e.bs, e.bsz, e.funs, e.frf, e.hok, e.bare⟩

section
variable {X : Cx} {pins : List (Addr × Obj)} {σ : St} {H : Hp} {s s' : Shared}
/-- from a body: what a callee wants -/
theorem Inv.env0 (I : Inv X pins σ H s) : Env0 X.prog X.w X.K X.mg X.base X.A X.stack s H :=
  ⟨I.ok.frames, I.ok.mod, I.bs, Nat.le_trans I.ok.bsz I.sz, I.stack, I.stkFree, I.hok, I.bare⟩
/-- behind a call -/
theorem Inv.after {Q : VK} {u : Value} (I : Inv X pins σ H s) (h : CE X.stack X.prog X.w H s Q u s') : EP X pins σ Q u s' := by
  obtain ⟨v, H', os, bare, un, hok, r, q⟩ := h
  obtain ⟨hh, g, d, t, os'⟩ := s'
  obtain rfl : os' = s.os := os
  exact ⟨v, H', I.call (h' := hh) (g' := g) (d' := d) (t' := t) (ch := []) un hok bare (fun b z => absurd z (by simp)), r, q⟩
end

/-! ### calls -/
/-- f(..): the written arguments, then the defaults dvs; E: what is wanted of an exception -/
def tCall (sp : Sp) (dvs : List V) (E : XK) (t : TA) : TE := fun σ H Q => t σ H fun vs H1 => sp (vs ++ dvs) H1 Q E
/-- o.m(..) of an instance of the class at C -/
def tMeth (C : Addr) (m : Str) (sp : Sp) (dvs : List V) (E : XK) (ta : TE) (t : TA) : TE := fun σ H Q => ta σ H fun x H1 => ∃ a dx fs, x = .ref a ∧ H1 a = some (.ins C dx fs) ∧ fs.lookup m = none ∧
  t σ H1 fun vs H2 => sp (x :: (vs ++ dvs)) H2 Q E
/-- C(..): a new instance and its dict, then __init__ -/
def tMake (C : Addr) (sp : Sp) (dvs : List V) (E : XK) (t : TA) : TE := fun σ H Q => t σ H fun vs H1 => ∀ x dx, H1 x = none → H1 dx = none → dx ≠ x →
  sp (.ref x :: (vs ++ dvs)) (upd (upd H1 dx (.own x)) x (.ins C dx [])) (fun v H2 => v = .non ∧ Q (.ref x) H2) E

/-- how the parameters are bound: us the positional arguments, kw the keywords' values by name, ds the defaults that fill up -/
def Binds (K : PySem.W.Frag) (fd : FuncData) (ps : List Str) (ds : List Value) : Prop :=
  ∀ (s : Shared) (us : List Value), K.In s.heap → (us ++ ds).length = ps.length → BindsTo s fd ⟨us, []⟩ (ps.zip (us ++ ds))
/-- every parameter is given -/
theorem Binds.all {K : PySem.W.Frag} {fd : FuncData} {ps : List Str} (h : ∀ us : List Value, us.length = ps.length → bindArgs fd ⟨us, []⟩ = pure (ps.zip us)) : Binds K fd ps [] := fun s us _ hl => by
  rw [List.append_nil] at hl ⊢
  exact .of_eq (h us hl)

/-- an exception of a callee reaches what this body wants of exceptions -/
def Passes (CX : CXT) (X : Cx) (E : XK) : Prop := ∀ (pins : List (Addr × Obj)) (σ : St) (H : Hp) (s : Shared) (e : Value) (s' : Shared), Inv X pins σ H s → CX X.stack H s E e s' → X.xe e s'

section
variable {X : Cx} {CX : CXT} {k : Nat} {f C : Addr} {fd : FuncData} {ps : List Str} {sp : Sp} {dvs : List V} {ds : List Value} {E : XK} {x m : Str} {p pos apos : Pos} {e o : Expr} {es : List Expr} {ta : TE} {t : TA}

/-- the callee runs -/
theorem run_fn {pins : List (Addr × Obj)} {σ : St} {H : Hp} {s : Shared} {Q : VK} {us : List Value} {vs : List V} (F : FnOk X.prog X.w X.K X.mg X.base CX k f fd ps sp) (hr : Room k X.A) (hb : Binds X.K fd ps ds) (hd : Vals dvs ds) (hx : Passes CX X E)
    (I : Inv X pins σ H s) (r : Vals vs us) (h : sp (vs ++ dvs) H Q E) : wpAny (model X.prog X.w) X.A (call (.ref f) us) (EP X pins σ Q) X.xe s := by
  have r2 : Vals (vs ++ dvs) (us ++ ds) := r.append hd
  have hl : (us ++ ds).length = ps.length := by rw [← r2.length]; exact F.len _ _ _ _ h
  refine wpAny_call (codeAny_mono (F.run X.A X.stack s H ⟨us, []⟩ (us ++ ds) (vs ++ dvs) Q E hr I.env0 (hb s us I.kIn hl) r2 h) fun r s' hq => ?_)
  cases r with
  | error e => exact hx pins σ H s e s' I hq
  | ok fl =>
    cases fl with
    | ret u => exact I.after hq
    | next => exact False.elim hq
    | brk => exact False.elim hq
    | cont => exact False.elim hq

theorem pe_call (F : FnOk X.prog X.w X.K X.mg X.base CX k f fd ps sp) (hr : Room k X.A) (hg : Gl X x) (hm : X.mg x = some (.ref f)) (hk : PySem.W.keepIn X.K (.ref f) = true) (hb : Binds X.K fd ps ds) (hd : Vals dvs ds) (hx : Passes CX X E)
    (ha : PA X (e :: es) t) (hdb : (x == ("__debug__" : Str)) = false := by decide) (he : starEach (e :: es) X.env = (false, eval e X.env) :: starEach es X.env := by rfl) (hpl : (backTo pos (starEach es X.env)).any (·.1) = false := by rfl) :
    PE X (.Call (.Name x p) (e :: es) [] pos) (tCall sp dvs E t) := by
  intro pins s σ H Q I h
  refine wpAny_Call_Name_kw (ld_glob I hg hm ?_ hdb)
  refine PySem.W.callWith_K (h₀ := X.base) I.ok.mod.kin hk (thn (ha pos pins s σ H _ I h) fun us s1 ⟨vs, H1, I1, r, q⟩ => ⟨I1.kIn, ?_⟩) he hpl
  exact run_fn F hr hb hd hx I1 r q
theorem pe_call0 (F : FnOk X.prog X.w X.K X.mg X.base CX k f fd ps sp) (hr : Room k X.A) (hg : Gl X x) (hm : X.mg x = some (.ref f)) (hk : PySem.W.keepIn X.K (.ref f) = true) (hb : Binds X.K fd ps ds) (hd : Vals dvs ds) (hx : Passes CX X E)
    (hdb : (x == ("__debug__" : Str)) = false := by decide) : PE X (.Call (.Name x p) [] [] pos) (tCall sp dvs E tNil) := by
  intro pins s σ H Q I h
  refine wpAny_Call_Name_kw (ld_glob I hg hm ?_ hdb)
  exact PySem.W.callWith_K0 I.kIn hk (run_fn (us := []) F hr hb hd hx I .nil h)

/-- o.m(e, ..) -/
theorem pe_meth {pl : Sem Bool} (he : PE X o ta) (c : Cls X.K C) (hm : Meth X.K C m f) (F : FnOk X.prog X.w X.K X.mg X.base CX k f fd ps sp) (hr : Room k X.A) (hb : Binds X.K fd ps ds) (hd : Vals dvs ds) (hx : Passes CX X E) (ha : PA X (e :: es) t)
    (hst : starEach (e :: es) X.env = (false, eval e X.env) :: starEach es X.env := by rfl) (hpl : (backTo pos (starEach es X.env)).any (·.1) = false := by rfl)
    (ht : eval (.Call (.Attribute o m apos) (e :: es) [] pos) X.env = (do
      let ov ← eval o X.env
      standAt apos.atName
      let (f, first) ← holding [ov] (getMethod ov m pl)
      callWith pos f first (backTo pos (starEach (e :: es) X.env)) (backToKw pos (keywordEach [] X.env))) := by rfl) :
    PE X (.Call (.Attribute o m apos) (e :: es) [] pos) (tMeth C m sp dvs E ta t) := by
  intro pins s σ H Q I h
  refine PySem.W.methodCall_KW (pl := pl) (thn (he pins s σ H _ I h) fun u s1 ⟨x, H1, I1, rx, a, dx, fs, ex, ea, l, q⟩ => ?_) ht
  subst ex
  obtain rfl : u = Value.ref a := rx
  refine getmeth_ok I1 ea c hm l ?_
  refine PySem.W.callWith_K (first := [.ref a]) (h₀ := X.base) I.ok.mod.kin hm.kp (thn (ha pos pins s1 σ H1 _ I1 q) fun us s2 ⟨vs, H2, I2, r, q2⟩ => ⟨I2.kIn, ?_⟩) hst hpl
  exact run_fn (us := .ref a :: us) (vs := .ref a :: vs) F hr hb hd hx I2 (.cons rfl r) q2
/-- o.m() -/
theorem pe_meth0 {pl : Sem Bool} (he : PE X o ta) (c : Cls X.K C) (hm : Meth X.K C m f) (F : FnOk X.prog X.w X.K X.mg X.base CX k f fd ps sp) (hr : Room k X.A) (hb : Binds X.K fd ps ds) (hd : Vals dvs ds) (hx : Passes CX X E)
    (ht : eval (.Call (.Attribute o m apos) [] [] pos) X.env = (do
      let ov ← eval o X.env
      standAt apos.atName
      let (f, first) ← holding [ov] (getMethod ov m pl)
      callWith pos f first (backTo pos (starEach [] X.env)) (backToKw pos (keywordEach [] X.env))) := by rfl) :
    PE X (.Call (.Attribute o m apos) [] [] pos) (tMeth C m sp dvs E ta tNil) := by
  intro pins s σ H Q I h
  refine PySem.W.methodCall_KW (pl := pl) (thn (he pins s σ H _ I h) fun u s1 ⟨x, H1, I1, rx, a, dx, fs, ex, ea, l, q⟩ => ?_) ht
  subst ex
  obtain rfl : u = Value.ref a := rx
  refine getmeth_ok I1 ea c hm l ?_
  exact PySem.W.callWith_K0 (first := [.ref a]) I1.kIn hm.kp (run_fn (us := [.ref a]) (vs := [.ref a]) F hr hb hd hx I1 (.cons rfl .nil) q)

/-- what a class must have to be made -/
structure Mk (K : PySem.W.Frag) (C f : Addr) : Prop where
  makes : PySem.W.makesIn K C = true
  init : PySem.W.findIn K (.ref C) "__init__" = some (some (.ref f))
  fn : PySem.W.isFn K (.ref f) = true
  kp : PySem.W.keepIn K (.ref C) = true

theorem run_make {pins : List (Addr × Obj)} {σ : St} {H : Hp} {s : Shared} {Q : VK} {us : List Value} {vs : List V} (M : Mk X.K C f) (F : FnOk X.prog X.w X.K X.mg X.base CX k f fd ps sp) (hr : Room (k + 1) X.A) (hb : Binds X.K fd ps ds) (hd : Vals dvs ds)
    (hx : Passes CX X E) (I : Inv X pins σ H s) (r : Vals vs us)
    (h : ∀ x dx, H x = none → H dx = none → dx ≠ x → sp (.ref x :: (vs ++ dvs)) (upd (upd H dx (.own x)) x (.ins C dx [])) (fun v H2 => v = .non ∧ Q (.ref x) H2) E) :
    wpAny (model X.prog X.w) X.A (call (.ref C) us) (EP X pins σ Q) X.xe s := by
  have hq := h (s.heap.objs.size + 1) s.heap.objs.size (I.hok.fresh (Nat.le_succ _)) (I.hok.fresh (Nat.le_refl _)) (Nat.ne_of_lt (Nat.lt_succ_self _))
  have I2 := Inv.made (C := C) I
  have r2 : Vals (V.ref (s.heap.objs.size + 1) :: (vs ++ dvs)) (Value.ref (s.heap.objs.size + 1) :: (us ++ ds)) := .cons rfl (r.append hd)
  have hl : (Value.ref (s.heap.objs.size + 1) :: us ++ ds).length = ps.length := by
    have e := r2.length
    rw [F.len _ _ _ _ hq] at e
    exact e.symm
  refine wpAny_call (make_map (f := f) I.kIn M.makes M.init (beq_iff_eq.mp M.fn) (codeAny_mono (F.run _ X.stack _ _ ⟨Value.ref (s.heap.objs.size + 1) :: us, []⟩ (Value.ref (s.heap.objs.size + 1) :: (us ++ ds)) _ _ E (hr.make C us [])
    (I2.env0.make C us []) (hb _ (Value.ref (s.heap.objs.size + 1) :: us) I2.kIn hl) r2 hq) fun r s' hq' => ?_))
  cases r with
  | error e => exact hx pins σ _ _ e s' I2 hq'
  | ok fl =>
    cases fl with
    | ret u =>
      obtain ⟨v, H', I3, rv, ev, q3⟩ := I2.after hq'
      subst ev
      exact ⟨rv, ⟨V.ref (s.heap.objs.size + 1), H', I3, rfl, q3⟩⟩
    | next => exact False.elim hq'
    | brk => exact False.elim hq'
    | cont => exact False.elim hq'
theorem pe_make (M : Mk X.K C f) (F : FnOk X.prog X.w X.K X.mg X.base CX k f fd ps sp) (hr : Room (k + 1) X.A) (hg : Gl X x) (hm : X.mg x = some (.ref C)) (hb : Binds X.K fd ps ds) (hd : Vals dvs ds) (hx : Passes CX X E)
    (ha : PA X (e :: es) t) (hdb : (x == ("__debug__" : Str)) = false := by decide) (he : starEach (e :: es) X.env = (false, eval e X.env) :: starEach es X.env := by rfl) (hpl : (backTo pos (starEach es X.env)).any (·.1) = false := by rfl) :
    PE X (.Call (.Name x p) (e :: es) [] pos) (tMake C sp dvs E t) := by
  intro pins s σ H Q I h
  refine wpAny_Call_Name_kw (ld_glob I hg hm ?_ hdb)
  refine PySem.W.callWith_K (h₀ := X.base) I.ok.mod.kin M.kp (thn (ha pos pins s σ H _ I h) fun us s1 ⟨vs, H1, I1, r, q⟩ => ⟨I1.kIn, ?_⟩) he hpl
  exact run_make M F hr hb hd hx I1 r q
theorem pe_make0 (M : Mk X.K C f) (F : FnOk X.prog X.w X.K X.mg X.base CX k f fd ps sp) (hr : Room (k + 1) X.A) (hg : Gl X x) (hm : X.mg x = some (.ref C)) (hb : Binds X.K fd ps ds) (hd : Vals dvs ds) (hx : Passes CX X E)
    (hdb : (x == ("__debug__" : Str)) = false := by decide) : PE X (.Call (.Name x p) [] [] pos) (tMake C sp dvs E tNil) := by
  intro pins s σ H Q I h
  refine wpAny_Call_Name_kw (ld_glob I hg hm ?_ hdb)
  exact PySem.W.callWith_K0 I.kIn M.kp (run_make (us := []) M F hr hb hd hx I .nil h)
end

/-! ### keywords -/
/-- the values of the keywords, from the left -/
def PK (X : Cx) (kws : List Keyword) (t : TA) : Prop :=
  ∀ (pos : Pos) (pins : List (Addr × Obj)) (s : Shared) (σ : St) (H : Hp) (Q : List V → Hp → Prop), Inv X pins σ H s → t σ H Q → wpAny (model X.prog X.w) X.A (evalAll ((backToKw pos (keywordEach kws X.env)).map (·.2))) (AP X pins σ Q) X.xe s
section
variable {X : Cx} {CX : CXT} {k : Nat} {f C : Addr} {fd : FuncData} {ps ks : List Str} {sp : Sp} {E : XK} {x m : Str} {p pos apos kpos : Pos} {e o : Expr} {es : List Expr} {kws : List Keyword} {te ta : TE} {t tk : TA} {nm : Option Str}
theorem pk_nil : PK X [] tNil := fun _ _ _ _ H Q I h => wpAny_evalAll_nil ⟨[], H, I, .nil, h⟩
theorem pk_cons (ha : PE X e te) (hr : PK X kws t) : PK X (⟨nm, e, kpos⟩ :: kws) (tCons te t) := by
  intro pos pins s σ H Q I h
  show wpAny _ _ (evalAll ((do let v ← eval e X.env; standAt pos; pure v) :: (backToKw pos (keywordEach kws X.env)).map (·.2))) _ _ s
  refine wpAny_evalAll_cons (wpAny_bind (thn (ha pins s σ H _ I h) fun u s1 ⟨x, H1, I1, r1, q1⟩ => wpAny_bind (wpAny_standAt (wpAny_pure ?_))))
  exact thn (hr pos pins s1 σ H1 _ I1 q1) fun us s2 ⟨xs, H2, I2, r2, q2⟩ => ⟨x :: xs, H2, I2, .cons r1 r2, q2⟩

/-- how a call with keywords binds: g puts the positional values us and the keywords' values ws (names ks) in the parameters' order, defaults among them -/
structure KBinds (K : PySem.W.Frag) (fd : FuncData) (ps ks : List Str) (g : List Value → List Value → List Value) (gV : List V → List V → List V) : Prop where
  to : ∀ (s : Shared) (us ws : List Value), K.In s.heap → (g us ws).length = ps.length → BindsTo s fd ⟨us, ks.zip ws⟩ (ps.zip (g us ws))
  rel : ∀ {vs : List V} {us : List Value} {zs : List V} {ws : List Value}, Vals vs us → Vals zs ws → Vals (gV vs zs) (g us ws)
def tCallK (sp : Sp) (gV : List V → List V → List V) (E : XK) (t tk : TA) : TE := fun σ H Q => t σ H fun vs H1 => tk σ H1 fun zs H2 => sp (gV vs zs) H2 Q E
variable {g : List Value → List Value → List Value} {gV : List V → List V → List V}
theorem run_fnk {pins : List (Addr × Obj)} {σ : St} {H : Hp} {s : Shared} {Q : VK} {us ws : List Value} {vs zs : List V} (F : FnOk X.prog X.w X.K X.mg X.base CX k f fd ps sp) (hr : Room k X.A) (hb : KBinds X.K fd ps ks g gV) (hx : Passes CX X E)
    (I : Inv X pins σ H s) (r : Vals vs us) (rz : Vals zs ws) (h : sp (gV vs zs) H Q E) : wpAny (model X.prog X.w) X.A (call (.ref f) us (ks.zip ws)) (EP X pins σ Q) X.xe s := by
  have r2 := hb.rel r rz
  have hl : (g us ws).length = ps.length := by rw [← r2.length]; exact F.len _ _ _ _ h
  refine wpAny_call (codeAny_mono (F.run X.A X.stack s H ⟨us, ks.zip ws⟩ (g us ws) (gV vs zs) Q E hr I.env0 (hb.to s us ws I.kIn hl) r2 h) fun r s' hq => ?_)
  cases r with
  | error e => exact hx pins σ H s e s' I hq
  | ok fl =>
    cases fl with
    | ret u => exact I.after hq
    | next => exact False.elim hq
    | brk => exact False.elim hq
    | cont => exact False.elim hq
/-- f(e, .., k = v, ..) -/
theorem pe_callK (F : FnOk X.prog X.w X.K X.mg X.base CX k f fd ps sp) (hr : Room k X.A) (hg : Gl X x) (hm : X.mg x = some (.ref f)) (hk : PySem.W.keepIn X.K (.ref f) = true) (hb : KBinds X.K fd ps ks g gV) (hx : Passes CX X E)
    (ha : PA X (e :: es) t) (hkw : PK X kws tk) (hall : (backToKw pos (keywordEach kws X.env)).all (·.1.isSome) = true := by rfl) (hks : (backToKw pos (keywordEach kws X.env)).filterMap (·.1) = ks := by rfl)
    (hdb : (x == ("__debug__" : Str)) = false := by decide) (he : starEach (e :: es) X.env = (false, eval e X.env) :: starEach es X.env := by rfl)
    (hpl : ((backTo pos (starEach (e :: es) X.env)).any (·.1) || (backToKw pos (keywordEach kws X.env)).any (·.1.isNone)) = false := by rfl) :
    PE X (.Call (.Name x p) (e :: es) kws pos) (tCallK sp gV E t tk) := by
  intro pins s σ H Q I h
  refine wpAny_Call_Name_kw (ld_glob I hg hm ?_ hdb)
  refine PySem.W.callWith_KW (h₀ := X.base) I.ok.mod.kin hk hall (thn (ha pos pins s σ H _ I h) fun us s1 ⟨vs, H1, I1, r, q⟩ => ?_) hpl he
  refine thn (hkw pos pins s1 σ H1 _ I1 q) fun ws s2 ⟨zs, H2, I2, rz, q2⟩ => ⟨I2.kIn, ?_⟩
  rw [hks]
  exact run_fnk F hr hb hx I2 r rz q2
end

/-! ### a def's body keeps its promise -/
/-- names: the parameters first -/
structure FnScope (N P : List Str) (sc : Scope) : Prop where
  kind : sc.kind = .function
  co : sc.isCoroutine = false
  gen : sc.isGenerator = false
  nd : N.Nodup
  pre : N.take P.length = P
  par : ∀ x ∈ P, sc.names.lookup x = some .local ∨ sc.names.lookup x = some .cell
  nofree : ∀ y ∈ sc.names, y.2 ≠ .free

theorem bindL_out {kindOf : Str → Option NameKind} {x : Str} : ∀ {binds : List (Str × Value)} {m : Str → Option Value}, (∀ v, (x, v) ∉ binds) → bindL kindOf binds m x = m x
  | [], _, _ => rfl
  | (n, v) :: r, m, h => by
    unfold bindL
    rw [bindL_out fun w hw => h w (List.mem_cons_of_mem _ hw)]
    split
    · have : x ≠ n := by rintro rfl; exact h v List.mem_cons_self
      simp [this]
    · rfl
theorem bindC_out {kindOf : Str → Option NameKind} {x : Str} : ∀ {binds : List (Str × Value)} {m : Str → Option Value}, (∀ v, (x, v) ∉ binds) → bindC kindOf binds m x = m x
  | [], _, _ => rfl
  | (n, v) :: r, m, h => by
    unfold bindC
    rw [bindC_out fun w hw => h w (List.mem_cons_of_mem _ hw)]
    split
    · rfl
    · have : x ≠ n := by rintro rfl; exact h v List.mem_cons_self
      simp [this]
theorem bindL_get {kindOf : Str → Option NameKind} {x : Str} {v : Value} : ∀ {P : List Str} {vs : List Value} {i : Nat} {m : Str → Option Value}, P.Nodup → P[i]? = some x → vs[i]? = some v → kindOf x = some .local →
    bindL kindOf (P.zip vs) m x = some v
  | [], _, _, _, _, h, _, _ => by simp at h
  | _ :: _, [], _, _, _, _, h, _ => by simp at h
  | p :: P, w :: vs, 0, m, nd, h1, h2, hk => by
    simp at h1 h2; subst h1; subst h2
    show bindL kindOf ((p, w) :: P.zip vs) m p = _
    unfold bindL
    rw [bindL_out fun v hv => (List.nodup_cons.mp nd).1 (List.of_mem_zip hv).1, if_pos hk]
    simp
  | p :: P, w :: vs, i + 1, m, nd, h1, h2, hk => by
    show bindL kindOf ((p, w) :: P.zip vs) m x = _
    unfold bindL
    exact bindL_get (i := i) (List.nodup_cons.mp nd).2 (by simpa using h1) (by simpa using h2) hk
theorem bindC_get {kindOf : Str → Option NameKind} {x : Str} {v : Value} : ∀ {P : List Str} {vs : List Value} {i : Nat} {m : Str → Option Value}, P.Nodup → P[i]? = some x → vs[i]? = some v → kindOf x ≠ some .local →
    bindC kindOf (P.zip vs) m x = some v
  | [], _, _, _, _, h, _, _ => by simp at h
  | _ :: _, [], _, _, _, _, h, _ => by simp at h
  | p :: P, w :: vs, 0, m, nd, h1, h2, hk => by
    simp at h1 h2; subst h1; subst h2
    show bindC kindOf ((p, w) :: P.zip vs) m p = _
    unfold bindC
    rw [bindC_out fun v hv => (List.nodup_cons.mp nd).1 (List.of_mem_zip hv).1, if_neg hk]
    simp
  | p :: P, w :: vs, i + 1, m, nd, h1, h2, hk => by
    show bindC kindOf ((p, w) :: P.zip vs) m x = _
    unfold bindC
    exact bindC_get (i := i) (List.nodup_cons.mp nd).2 (by simpa using h1) (by simpa using h2) hk

/-- the names' values at the entry -/
def start (N : List Str) (vs : List V) : St := vs.map some ++ List.replicate (N.length - vs.length) none

/-- the context of a def's body, at its entry; an exception leaves the frame, then lies as CX says -/
def cxOf (CX : CXT) (P : Program) (w : World) (K : PySem.W.Frag) (mg : Str → Option Value) (base : Heap) (N : List Str) (qual : Str) (scope : Scope) (f : Addr) (cd : Value) (A : Around) (outer : List Env) (s : Shared) (H : Hp) (E : XK) : Cx where
  prog := P
  w := w
  K := K
  mg := mg
  base := base
  A := A.deeper (envOfC qual scope s.heap.objs.size f cd)
  N := N
  s₀ := s
  H₀ := H
  env := envOfC qual scope s.heap.objs.size f cd
  outer := outer
  stack := envOfC qual scope s.heap.objs.size f cd :: outer
  ex := []
  calm := true
  fn := fun _ => true
  pn := []
  xe := fun e s' => wpAny (model P w) (A.deeper (envOfC qual scope s.heap.objs.size f cd)) (leaving (envOfC qual scope s.heap.objs.size f cd) e) (fun _ s'' => CX outer H s E e s'') (fun e' s'' => CX outer H s E e' s'') s'

theorem cell_has {sc : Scope} {n : Nat} {x : Str} (h : sc.names.lookup x = some .cell) : ∃ c, (cellsFrom n sc.names []).lookup x = some c := by
  have q := PySem.W.cellsFrom_some sc.names n [] (.inl h)
  exact Option.isSome_iff_exists.mp q

theorem inv_start {CX : CXT} {P : Program} {w : World} {K : PySem.W.Frag} {mg : Str → Option Value} {base : Heap} {N ps : List Str} {qual : Str} {scope : Scope} {f : Addr} {cd : Value} {A : Around} {outer : List Env} {s s1 : Shared} {H : Hp} {E : XK} {us : List Value} {vs : List V}
    (S : FnScope N ps scope) (hd : A.handled = none) (e0 : Env0 P w K mg base A outer s H) (hl : vs.length = ps.length) (r : Vals vs us)
    (x : InCallC s s.heap.objs.size (bindL (envOfC qual scope s.heap.objs.size f cd).kindOf (ps.zip us) fun _ => none) (cellsFrom (s.heap.objs.size + 1) scope.names []) (bindC (envOfC qual scope s.heap.objs.size f cd).kindOf (ps.zip us) fun _ => none) s1) :
    Inv (cxOf CX P w K mg base N qual scope f cd A outer s H E) [] (start N vs) H s1 := by
  have hpl : ps.length ≤ N.length := by have := congrArg List.length S.pre; rw [List.length_take] at this; omega
  obtain ⟨h1, tk, rfl, hk⟩ := x.done
  have noA : ∀ b : Addr, b ∉ (cxOf CX P w K mg base N qual scope f cd A outer s H E).ex := fun b z => absurd (show b ∈ ([] : List Addr) from z) (by simp)
  refine ⟨⟨e0.mod, S.kind, rfl, rfl, Nat.le_refl _, fun y z c h1 h2 => ?_, fun y hy => ?_, fun y c _ h => ?_, fun _ => hd, Around.frames_deeper e0.frames, .inr ⟨rfl, rfl⟩, fun b z => absurd z (noA b), e0.bs, e0.bsz, fun b _ _ => noA b, fun b z => absurd z (noA b), e0.funs, e0.frf⟩,
    rfl, e0.bare, Un.kept hk, ⟨_, x.toInCall.ns, fun i y v h1 h2 h3 => ?_⟩, fun y c h => ⟨_, x.cell y c h⟩, e0.hok.fresh (Nat.le_refl _), fun y c h => ?_, fun p hp => absurd (show p ∈ ([] : List (Addr × Obj)) from hp) (by simp), e0.hok.kept hk, ?_⟩
  · exact name_of_addr x.apart (PySem.mem_of_lookup h1) (PySem.mem_of_lookup h2)
  · have hy : scope.names.lookup y = some .cell ∨ scope.names.lookup y = some .free := hy
    rcases hy with hy | hy
    · exact cell_has hy
    · exact absurd rfl (S.nofree _ (PySem.mem_of_lookup hy))
  · exact Nat.le_of_lt (x.above y c (PySem.mem_of_lookup h))
  · have hi : i < vs.length := by
      unfold start at h2
      by_cases hi : i < vs.length
      · exact hi
      · rw [List.getElem?_append_right (by simpa using hi)] at h2
        rw [List.getElem?_replicate] at h2
        split at h2 <;> cases h2
    have ha : vs[i]? = some v := by
      unfold start at h2
      rw [List.getElem?_append_left (by simpa using hi), List.getElem?_map] at h2
      cases e : vs[i]? with
      | none => rw [e] at h2; cases h2
      | some a => rw [e] at h2; cases h2; rfl
    obtain ⟨u, hu, rv⟩ := r.get ha
    have hp : ps[i]? = some y := by
      rw [← S.pre, List.getElem?_take_of_lt (by omega)]; exact h1
    have ndP : ps.Nodup := by rw [← S.pre]; exact S.nd.sublist (List.take_sublist _ _)
    refine ⟨u, rv, ?_⟩
    rcases S.par y (List.mem_of_getElem? hp) with k | k
    · exact .inl ⟨k, bindL_get ndP hp hu k⟩
    · obtain ⟨c, e⟩ := cell_has (n := s.heap.objs.size + 1) k
      refine .inr ⟨.inl k, c, e, ?_⟩
      have q := x.cell y c e
      rw [bindC_get ndP hp hu (by show scope.names.lookup y ≠ _; rw [k]; decide)] at q
      exact q
  · exact e0.hok.fresh (Nat.le_of_lt (x.above y c (PySem.mem_of_lookup h)))
  · unfold start
    show _ = N.length
    rw [List.length_append, List.length_map, List.length_replicate]
    omega

/-- THE RULE: a def (or a method) of the text, by its body. The body's reading t is chosen for each entry; it is run at the parameters' values -/
theorem fn_of {CX : CXT} {P : Program} {w : World} {K : PySem.W.Frag} {mg : Str → Option Value} {base : Heap} {k : Nat} {f : Addr} {name qual : Str} {params : Arguments} {body : List Stmt} {scope : Scope} {dV kV doc pm cdv ct oc : Value} {an od : Option Addr}
    {osl : Array (Option Value)} {N ps : List Str} {sp : Sp} (lk : K.lookup f = some ⟨oc, od, .func (PySem.W.fnOf name qual params body scope dV kV doc pm an cdv ct), osl⟩) (hcd : PySem.W.codeIn K cdv qual = true) (S : FnScope N ps scope)
    (len : ∀ vs H Q E, sp vs H Q E → vs.length = ps.length)
    (hbody : ∀ (A : Around) (outer : List Env) (s : Shared) (H : Hp) (vs : List V) (Q : VK) (E : XK), Room k (A.deeper (envOfC qual scope s.heap.objs.size f cdv)) → sp vs H Q E →
      ∃ t, PSs (cxOf CX P w K mg base N qual scope f cdv A outer s H E) body t ∧ t { nx := fun _ H' => Q .non H', rt := Q } (start N vs) H) :
    FnOk P w K mg base CX (k + 1) f (PySem.W.fnOf name qual params body scope dV kV doc pm an cdv ct) ps sp := by
  refine ⟨len, fun A outer s H args us vs Q E hr e0 hb r hsp => ?_⟩
  have hl := len _ _ _ _ hsp
  have KX : K.In s.heap := e0.mod.kin.keeps fun b o e => (e0.bs b o e).1
  have lim : s.heap.NoLimit := e0.mod.nolimit.keeps fun b o e => (e0.bs b o e).1
  have hkind : ∀ y ∈ ps.zip us, scope.names.lookup y.1 = some .local ∨ (scope.names.lookup y.1 = some .cell ∧ ((cellsFrom (s.heap.objs.size + 1) scope.names []).lookup y.1).isSome = true) := fun ⟨n, v⟩ hy => by
    rcases S.par n (List.of_mem_zip hy).1 with q | q
    · exact .inl q
    · exact .inr ⟨q, PySem.W.cellsFrom_some _ _ _ (.inl q)⟩
  refine codeAny_call_function hr.depth (KX _ _ lk) rfl S.co S.gen rfl (PySem.W.codeRec_of KX hcd) (hb _ _ _ _ ?_)
  refine wpAny_newFunctionEnv_cells S.kind hkind fun env he s1 x => ?_
  subst he
  refine ⟨lim.keeps x.toInCall.keep, codeAny_func ?_⟩
  obtain ⟨t, ht, hq⟩ := hbody A outer s H vs Q E (hr.deeper _) hsp
  have I : Inv (cxOf CX P w K mg base N qual scope f cdv A outer s H E) [] (start N vs) H s1 := inv_start S hr.hd e0 hl r x
  refine wpAny_mono (ht [] s1 (start N vs) H _ I hq) (fun fl s' hs => ?_) fun e s' hs => hs
  have fin : ∀ {σ' : St} {H' : Hp} {v : V} {u : Value}, Inv (cxOf CX P w K mg base N qual scope f cdv A outer s H E) [] σ' H' s' → RelV v u → Q v H' → CE outer P w H s Q u s' :=
    fun {σ' H' v u} J rv q => ⟨v, H', J.os, J.bare, J.base, J.hok, rv, q⟩
  cases fl with
  | ret u =>
    obtain ⟨v, σ', H', J, rv, q⟩ := hs
    exact fin J rv q
  | next =>
    obtain ⟨σ', H', J, q⟩ := hs
    exact fin (v := V.non) (u := Value.none) J rfl q
  | brk =>
    obtain ⟨_, _, _, q⟩ := hs
    exact False.elim q
  | cont =>
    obtain ⟨_, _, _, q⟩ := hs
    exact False.elim q
end L2

namespace L2
open PySem PySem.Spec PyProof.Rows
section
variable {X : Cx} {x : Str} {p pos : Pos} {e : Expr} {es : List Expr} {t : TA} {id T : String} {r : List V → Hp → VK → Prop}

def tCB (r : List V → Hp → VK → Prop) (t : TA) : TE := fun σ H Q => t σ H fun vs H1 => r vs H1 Q
/-- f(e, ..), f a built-in function -/
theorem pe_callB (hc : CallR X (.builtin id) r) (hg : Gl X x) (hm : X.mg x = none) (hv : bootBuiltins x = some (.builtin id)) (ha : PA X (e :: es) t) (hn : x ≠ "__name__" := by decide) (hdb : (x == ("__debug__" : Str)) = false := by decide)
    (he : starEach (e :: es) X.env = (false, eval e X.env) :: starEach es X.env := by rfl) (hpl : (backTo pos (starEach es X.env)).any (·.1) = false := by rfl) : PE X (.Call (.Name x p) (e :: es) [] pos) (tCB r t) := by
  intro pins s σ H Q I h
  refine wpAny_Call_Name_kw (ld_blt I hg hm hv ?_ hn hdb)
  exact PyProof.Rows.callWith_builtin1 (thn (ha pos pins s σ H _ I h) fun us s1 ⟨vs, H1, I1, r1, q1⟩ => hc pins s1 σ H1 vs us Q I1 r1 q1) he hpl
/-- T(e, ..), T a built-in type -/
theorem pe_callTy (hc : CallR X (.type T) r) (hg : Gl X x) (hm : X.mg x = none) (hv : bootBuiltins x = some (.type T)) (ha : PA X (e :: es) t) (hn : x ≠ "__name__" := by decide) (hdb : (x == ("__debug__" : Str)) = false := by decide)
    (he : starEach (e :: es) X.env = (false, eval e X.env) :: starEach es X.env := by rfl) (hpl : (backTo pos (starEach es X.env)).any (·.1) = false := by rfl) : PE X (.Call (.Name x p) (e :: es) [] pos) (tCB r t) := by
  intro pins s σ H Q I h
  refine wpAny_Call_Name_kw (ld_blt I hg hm hv ?_ hn hdb)
  exact PyProof.Rows.callWith_type1 (thn (ha pos pins s σ H _ I h) fun us s1 ⟨vs, H1, I1, r1, q1⟩ => hc pins s1 σ H1 vs us Q I1 r1 q1) he hpl
/-- T() -/
theorem pe_callTy0 (hc : CallR X (.type T) r) (hg : Gl X x) (hm : X.mg x = none) (hv : bootBuiltins x = some (.type T)) (hn : x ≠ "__name__" := by decide) (hdb : (x == ("__debug__" : Str)) = false := by decide) :
    PE X (.Call (.Name x p) [] [] pos) (tCB r tNil) := by
  intro pins s σ H Q I h
  refine wpAny_Call_Name_kw (ld_blt I hg hm hv ?_ hn hdb)
  exact PyProof.Rows.callWith_type0 (hc pins s σ H [] [] Q I .nil h)
end
end L2

namespace HT
open PySem PyProof.Rows

/-- t < u of tuples of ints -/
def lexLt : List Int → List Int → Bool
  | [], [] => false
  | [], _ :: _ => true
  | _ :: _, [] => false
  | x :: xs, y :: ys => if x = y then lexLt xs ys else decide (x < y)
theorem lexLt_cons (x y : Int) (xs ys : List Int) : lexLt (x :: xs) (y :: ys) = if x = y then lexLt xs ys else decide (x < y) := rfl
theorem lexLt_nil_nil : lexLt [] [] = false := rfl
theorem lexLt_nil_cons (y : Int) (ys : List Int) : lexLt [] (y :: ys) = true := rfl
theorem lexLt_cons_nil (x : Int) (xs : List Int) : lexLt (x :: xs) [] = false := rfl

theorem eqAt_int (A : Around) (s : Shared) (a : Int) (t : Tok) (c : Int) (u : Tok) : ∃ e, SeqAt.EqAt A s (.int a t) (.int c u) e ∧ (e = true ↔ a = c) :=
  ⟨(a == c), SeqAt.EqAt.int_int a t c u, by simp⟩
theorem rcLt_int (A : Around) (s : Shared) (a : Int) (t : Tok) (c : Int) (u : Tok) (prog : Program) (w : World) (E : Value → Shared → Prop) (Q : Value → Shared → Prop) (h : Q (.bool (decide (a < c))) s) :
    wpAny (model prog w) A (richCompare .Lt (.int a t) (.int c u)) Q E s :=
  (PyProof.Rows.lt_int h : wpAny (model prog w) A (compareOp .Lt (.int a t) (.int c u)) Q E s)

section
open PySem.SeqAt
open PySem.AutoSeq1 (wpAny_loadPart')
open PySem.MeetsSeq PySem.MeetsSeq2 PySem.MeetsSeq3

theorem tuple_lt_ints (l b : Addr) (items items2 : Array Value) (n n2 : Nat) (dd dd2 : Option Addr) (sl sl2 : Array (Option Value)) (ns ms : List Int) (hi : IntsAre items.toList ns) (hj : IntsAre items2.toList ms) :
    Meets (Builtin.«tuple.__lt__» ⟨[.ref l, .ref b], []⟩)
      (fun _ R s => s.heap.get? l = some { cls := .type "tuple", dict := dd, data := .seq items n, slots := sl } ∧ s.heap.get? b = some { cls := .type "tuple", dict := dd2, data := .seq items2 n2, slots := sl2 } ∧
        R (.ok (.ret (.bool (lexLt ns ms)))) s) :=
  .of_wp fun prog w A R s h => by
    obtain ⟨hp, g, d, tk, os⟩ := s; obtain ⟨hl, hb, h⟩ := h
    have f2 := AutoSeq1.sub_tuple_tuple
    have z1 : items.size = ns.length := by rw [← hi.length]; simp
    have z2 : items2.size = ms.length := by rw [← hj.length]; simp
    wp_walk using wpAny_loadPart' hl, wpAny_loadPart' hb, wpAny_forIn_list _ (fun rest b s' => b.1 = none ∧ s' = ⟨hp, g, d, tk, os⟩ ∧ ∃ (vs ws : List Value) (ns' ms' : List Int), rest = vs.zip ws ∧
      IntsAre vs ns' ∧ IntsAre ws ms' ∧ ns'.length + items2.size = ms'.length + items.size ∧ R (.ok (.ret (.bool (lexLt ns' ms')))) ⟨hp, g, d, tk, os⟩) _
    case turn =>
      rintro ⟨y, x⟩ rest b s' ⟨hb', rfl, vs, ws, ns', ms', hz, hvi, hwi, hlen, hR⟩
      cases hvi with
      | nil => rw [List.zip_nil_left] at hz; cases hz
      | cons a t hvi' =>
        cases hwi with
        | nil => rw [List.zip_nil_right] at hz; cases hz
        | cons c u hwi' =>
          rw [List.zip_cons_cons] at hz
          injection hz with hyx hrest
          injection hyx with hy hx
          subst hy hx
          rw [lexLt_cons] at hR
          simp only [List.length_cons] at hlen
          obtain ⟨e, he, hiff⟩ := eqAt_int A.in1 ⟨hp, g, d, tk, os⟩ a t c u
          refine wpAny_bind (he prog w _ _ ?_)
          cases e with
          | true =>
            rw [if_pos (hiff.mp rfl)] at hR
            wp_walk
            exact ⟨rfl, rfl, _, _, _, _, hrest, hvi', hwi', by omega, hR⟩
          | false =>
            rw [if_neg (fun q => absurd (hiff.mpr q) Bool.false_ne_true)] at hR
            have hri := rcLt_int A.in1 ⟨hp, g, d, tk, os⟩ a t c u prog w
            wp_walk using hri
            exact ⟨_, rfl, by simpa using hR⟩
    case fin =>
      rintro ⟨b1, b2⟩ s' ⟨hb', rfl, vs, ws, ns', ms', hz, hvi, hwi, hlen, hR⟩
      simp only at hb'
      subst hb'
      have hv : lexLt ns' ms' = decide (items.size < items2.size) := by
        cases hvi with
        | nil =>
          cases hwi with
          | nil =>
            simp only [List.length_nil] at hlen
            rw [lexLt_nil_nil]
            exact (decide_eq_false (by omega)).symm
          | cons c u hw =>
            simp only [List.length_nil, List.length_cons] at hlen
            rw [lexLt_nil_cons]
            exact (decide_eq_true (by omega)).symm
        | cons a t hv =>
          cases hwi with
          | nil =>
            simp only [List.length_nil, List.length_cons] at hlen
            rw [lexLt_cons_nil]
            exact (decide_eq_false (by omega)).symm
          | cons c u hw =>
            rw [List.zip_cons_cons] at hz
            cases hz
      rw [hv] at hR
      wp_walk
      exact ⟨_, rfl, by simpa [Builtin.Tuple.tupleCompareSizes] using hR⟩
    case h =>
      exact ⟨rfl, rfl, items.toList, items2.toList, ns, ms, rfl, hi, hj, by omega, h⟩
end

section
variable {prog : Program} {w : World} {A : Around} {E : Value → Shared → Prop} {s : Shared}

theorem lt_tupInts {l b : Addr} {items items2 : Array Value} {ns ms : List Int} {Q : Value → Shared → Prop} (hl : IsTup s.heap l items) (hb : IsTup s.heap b items2) (hi : IntsAre items.toList ns) (hj : IntsAre items2.toList ms)
    (hu : A.units < cLine) (h : Q (.bool (lexLt ns ms)) s) : wpAny (model prog w) A (compareOp .Lt (.ref l) (.ref b)) Q E s := by
  obtain ⟨⟨cls, dd, data, sl⟩, ho, hc, n, hd⟩ := id hl
  obtain ⟨⟨cls2, dd2, data2, sl2⟩, ho2, hc2, n2, hd2⟩ := id hb
  simp only at hc hd hc2 hd2
  subst hc hd hc2 hd2
  exact richCompare_meets_room (op := .Lt) ⟨_, ho, rfl⟩ ⟨_, ho2, rfl⟩ PySem.F.slot_tuple_lt PySem.F.entry_tuple_lt (PySem.F.args_tuple_lt_2 _ _) (tuple_lt_ints l b items items2 n n2 dd dd2 sl sl2 ns ms hi hj)
    ⟨ho, ho2, show Value.bool (lexLt ns ms) ≠ Value.notImplemented ∧ Q (.bool (lexLt ns ms)) s from ⟨(fun x => nomatch x), h⟩⟩ hu

/-- t + u, t not empty -/
theorem cat_tup {t b : Addr} {vs ws : List Value} {Q : Value → Shared → Prop} (ht : IsTup s.heap t vs.toArray) (hb : IsTup s.heap b ws.toArray) (hv : vs ≠ [])
    (h1 : ws = [] → Q (.ref t) s) (h2 : ws ≠ [] → Q (.ref s.heap.objs.size) { s with heap := s.heap.push { cls := .type "tuple", data := .seq (vs ++ ws).toArray } })
    (hsz : vs.length + ws.length ≤ sizeLine) : wpAny (model prog w) A (binaryOp .Add (.ref t) (.ref b)) Q E s := by
  obtain ⟨⟨cls, dd, data, sl⟩, ho, hc, n, hd⟩ := id ht
  obtain ⟨⟨cls2, dd2, data2, sl2⟩, ho2, hc2, n2, hd2⟩ := id hb
  simp only at hc hd hc2 hd2
  subst hc hd hc2 hd2
  have e : vs.toArray ++ ws.toArray = (vs ++ ws).toArray := by simp
  by_cases hw : ws = []
  · exact concat_meets ⟨_, ho, rfl⟩ ⟨_, ho2, rfl⟩ noFill_tuple_add seq_tuple_add PySem.F.slot_tuple_add PySem.F.entry_tuple_add (PySem.F.args_tuple_add_2 _ _)
      (tuple_addW1 t b vs.toArray ws.toArray n n2 dd dd2 sl sl2 (by simpa using hv) (by simp [hw])) ⟨ho, ho2, h1 hw⟩
  · refine concat_meets ⟨_, ho, rfl⟩ ⟨_, ho2, rfl⟩ noFill_tuple_add seq_tuple_add PySem.F.slot_tuple_add PySem.F.entry_tuple_add (PySem.F.args_tuple_add_2 _ _)
      (tuple_addW2 t b vs.toArray ws.toArray n n2 dd dd2 sl sl2 (by simpa using hv) (by simpa using hw) (by rw [List.size_toArray, List.size_toArray]; exact hsz)) ⟨ho, ho2, ?_⟩
    rw [e]
    exact h2 hw

/-! ### t[a:b], not the whole -/
/-- a slice's bound as a place among n (d where it is left out) -/
def sIx (n d : Nat) : Option Int → Nat
  | none => d
  | some v => if v < 0 then (v + (n : Int)).toNat else min v.toNat n
theorem sIx_none (n d : Nat) : sIx n d none = d := rfl
theorem sIx_nat (n d k : Nat) : sIx n d (some (k : Int)) = min k n := by
  show (if (k : Int) < 0 then ((k : Int) + (n : Int)).toNat else min (k : Int).toNat n) = min k n
  rw [if_neg (by omega), Int.toNat_natCast]
theorem sIx_le (n d : Nat) (hd : d ≤ n) (o : Option Int) : sIx n d o ≤ n := by
  cases o with
  | none => exact hd
  | some v =>
    show (if v < 0 then (v + (n : Int)).toNat else min v.toNat n) ≤ n
    by_cases hv : v < 0
    · rw [if_pos hv]; omega
    · rw [if_neg hv]; exact Nat.min_le_right _ _
theorem clip_eq (v : Int) (n d : Nat) : (if v < 0 then max (v + (n : Int)) 0 else min v (n : Int)) = ((sIx n d (some v) : Nat) : Int) := by
  show (if v < 0 then max (v + (n : Int)) 0 else min v (n : Int)) = (((if v < 0 then (v + (n : Int)).toNat else min v.toNat n) : Nat) : Int)
  by_cases hv : v < 0
  · simp only [if_pos hv]; omega
  · simp only [if_neg hv]; omega
theorem adjust_gen (lo hi : Option Int) (n : Nat) : Builtin.Slice.sliceAdjust lo hi 1 (n : Int) = (((sIx n 0 lo : Nat) : Int), ((sIx n n hi : Nat) : Int)) := by
  have h1 : ¬ ((1 : Int) < 0) := by omega
  unfold Builtin.Slice.sliceAdjust
  simp only [h1, if_false]
  refine Prod.ext ?_ ?_
  · cases lo with
    | none => rfl
    | some v => exact clip_eq v n 0
  · cases hi with
    | none => rfl
    | some v => exact clip_eq v n n
theorem places_gen (i j : Nat) : Builtin.Slice.slicePlaces (i : Int) (j : Int) 1 = j - i := by
  unfold Builtin.Slice.slicePlaces
  have h1 : (1 : Int) > 0 := by omega
  simp only [h1, if_true, Int.ediv_one]
  split <;> omega
theorem slicePart_ {v : Value} {o : Option Int} {Q : Option Int → Shared → Prop} (p : IsPart v o) (h : Q o s) : wpAny (model prog w) A (Builtin.Slice.slicePartIndex v) Q E s := by
  cases p with
  | none => exact slicePart_none h
  | int i t => exact slicePart_int h
theorem sliceApplied_gen {sl : Addr} {vl vu : Value} {lo hi : Option Int} {n : Nat} {Q : Int × Int × Nat → Shared → Prop} (hs : s.heap.IsSliceOf sl vl vu .none) (pl : IsPart vl lo) (pu : IsPart vu hi)
    (h : Q (((sIx n 0 lo : Nat) : Int), 1, sIx n n hi - sIx n 0 lo) s) : wpAny (model prog w) A (Builtin.Slice.sliceApplied (.ref sl) (pure (n : Int))) Q E s := by
  obtain ⟨os, hos, hcs, hds⟩ := id hs
  unfold Builtin.Slice.sliceApplied Builtin.Slice.sliceFields
  refine wpAny_bind (wpAny_bind (wpAny_field hos hds (x := vl) rfl (wpAny_bind (wpAny_field hos hds (x := vu) rfl (wpAny_bind (wpAny_field hos hds (x := .none) rfl (wpAny_pure ?_)))))))
  refine wpAny_bind (slicePart_none ?_)
  show wpAny _ _ (if ((1 : Int) == 0) = true then _ else _) _ _ s
  rw [if_neg (by decide)]
  refine wpAny_bind (slicePart_ pl (wpAny_bind (slicePart_ pu (wpAny_bind (wpAny_pure ?_)))))
  show wpAny _ _ (match Builtin.Slice.sliceAdjust lo hi 1 (n : Int) with | (lo, hi) => pure (lo, (1 : Int), Builtin.Slice.slicePlaces lo hi 1)) _ _ s
  rw [adjust_gen lo hi n]
  show wpAny _ _ (pure (((sIx n 0 lo : Nat) : Int), (1 : Int), Builtin.Slice.slicePlaces ((sIx n 0 lo : Nat) : Int) ((sIx n n hi : Nat) : Int) 1)) _ _ s
  rw [places_gen]
  exact wpAny_pure h
theorem pick_gen (xs : Array Value) (i k : Nat) : ((List.range k).filterMap fun (m : Nat) => xs[((i : Int) + (m : Int) * 1).toNat]?).toArray = ((xs.toList.drop i).take k).toArray := by
  have e : (fun (m : Nat) => xs[((i : Int) + (m : Int) * 1).toNat]?) = fun m => xs[i + m]? := by
    funext m
    have : ((i : Int) + (m : Int) * 1).toNat = i + m := by omega
    rw [this]
  rw [e]
  have := pick_run xs i k
  rw [List.filterMap_map] at this
  have e2 : ((fun x => xs[x]?) ∘ fun x => i + x) = fun m => xs[i + m]? := rfl
  rw [e2] at this
  rw [this]

theorem getItem_tuple_cut {t sl : Addr} {items : Array Value} {vl vu : Value} {lo hi : Option Int} {Q : Value → Shared → Prop} (ht : IsTup s.heap t items) (hs : s.heap.IsSliceOf sl vl vu .none) (pl : IsPart vl lo) (pu : IsPart vu hi)
    (hw : ¬ (sIx items.size 0 lo = 0 ∧ sIx items.size items.size hi = items.size))
    (h : Q (.ref s.heap.objs.size) { s with heap := s.heap.push { cls := .type "tuple", data := .seq ((items.toList.drop (sIx items.size 0 lo)).take (sIx items.size items.size hi - sIx items.size 0 lo)).toArray } })
    (hsz : items.size ≤ sizeLine) : wpAny (model prog w) A (getItem (.ref t) (.ref sl)) Q E s := by
  have htake : sizeOk (.seq ((items.toList.drop (sIx items.size 0 lo)).take (sIx items.size items.size hi - sIx items.size 0 lo)).toArray) := by
    show ((items.toList.drop (sIx items.size 0 lo)).take (sIx items.size items.size hi - sIx items.size 0 lo)).toArray.size ≤ sizeLine
    rw [List.size_toArray, List.length_take, List.length_drop, Array.length_toList]
    omega
  have hj : sIx items.size items.size hi ≤ items.size := sIx_le _ _ (Nat.le_refl _) hi
  obtain ⟨os, hos, hcs, hds⟩ := id hs
  have hTs : s.TypeIs (.ref sl) "slice" := ⟨os, hos, hcs⟩
  unfold getItem
  try with_reducible refine wpAny_holding ?_
  first | refine wpAny_bind (wpAny_pure ?_) | skip
  refine wpAny_bind (wpAny_sequenceKey ht.typeIs (by decide) ?_)
  refine wpAny_bind (wpAny_callSpecial?_slot (name := Str.ofString "__getitem__") ht.typeIs PyProof.Rows.slot_tuple_getitem
    (wpAny_call_entry PyProof.Rows.slot_tuple_getitem ht.typeIs entry_tuple_getitem ?_ (args_tuple_getitem _ _)))
  show wpAny _ _ (Builtin.Tuple.tupleItemsOf (.ref t) >>= _) _ _ s
  refine wpAny_bind (tupleItemsOf_ ht ?_)
  refine wpAny_bind (wpAny_typeOf hTs ?_)
  rw [if_pos (by decide)]
  refine wpAny_bind (sliceApplied_gen hs pl pu ?_)
  have hno : ¬ ((((sIx items.size 0 lo : Nat) : Int) == 0 && (1 : Int) == 1 && (sIx items.size items.size hi - sIx items.size 0 lo) == items.size) = true) := by
    intro q
    rw [Bool.and_eq_true, Bool.and_eq_true] at q
    have q1 : ((sIx items.size 0 lo : Nat) : Int) = 0 := eq_of_beq q.1.1
    have q2 : sIx items.size items.size hi - sIx items.size 0 lo = items.size := eq_of_beq q.2
    exact hw ⟨by omega, by omega⟩
  show wpAny _ _ (if (((sIx items.size 0 lo : Nat) : Int) == 0 && (1 : Int) == 1 && (sIx items.size items.size hi - sIx items.size 0 lo) == items.size) = true then _ else _) _ _ s
  rw [if_neg hno, pick_gen]
  first
    | exact wpAny_bind (m := Builtin.Tuple.tupleExact _) (wpAny_newObj_type (wpAny_pure ⟨_, rfl, wpAny_pure h⟩) htake)
    | exact wpAny_bind (m := Builtin.Tuple.tupleExact _) (wpAny_newObj_type (wpAny_bind (wpAny_pure (wpAny_pure ⟨_, rfl, wpAny_pure h⟩))) htake)
    | exact wpAny_bind (wpAny_bind (m := Builtin.Tuple.tupleExact _) (wpAny_newObj_type (wpAny_pure (wpAny_pure ⟨_, rfl, wpAny_pure h⟩)) htake))
    | exact wpAny_bind (wpAny_bind (m := Builtin.Tuple.tupleExact _) (wpAny_newObj_type (wpAny_pure ⟨_, rfl, wpAny_pure h⟩) htake))
end
end HT

namespace L2
open PySem PySem.Spec PyProof.Rows

/-! ### the parts of a slice -/
abbrev TO := St → Hp → (Option Int → Hp → Prop) → Prop
/-- a slice's part (left out, or an int) -/
def PO (X : Cx) (e : Option Expr) (t : TO) : Prop :=
  ∀ (pins : List (Addr × Obj)) (s : Shared) (σ : St) (H : Hp) (Q : Option Int → Hp → Prop), Inv X pins σ H s → t σ H Q →
    wpAny (model X.prog X.w) X.A (evalPart e X.env) (fun u s' => ∃ o H', Inv X pins σ H' s' ∧ IsPart u o ∧ Q o H') X.xe s
def tNoPart : TO := fun _ H Q => Q none H
def tPart (t : TE) : TO := fun σ H Q => t σ H fun x H1 => ∃ i, x = .int i ∧ Q (some i) H1

theorem intsAre_of {ns : List Int} : ∀ {us : List Value}, Vals (ns.map V.int) us → IntsAre us ns := by
  induction ns with
  | nil => intro us r; rw [List.map_nil] at r; cases r; exact .nil
  | cons n ns ih =>
    intro us r
    rw [List.map_cons] at r
    cases r with
    | cons r1 r2 =>
      obtain ⟨t, e⟩ := r1
      subst e
      exact .cons n t (ih r2)

section
variable {X : Cx} {e : Expr} {te : TE} {lo hi : Option Expr} {tl th : TO} {pos p2 : Pos}

theorem po_none : PO X none tNoPart := by
  intro pins s σ H Q I h
  rw [evalPart_none]
  exact wpAny_pure ⟨none, H, I, .none, h⟩
theorem po_some (h : PE X e te) : PO X (some e) (tPart te) := by
  intro pins s σ H Q I hw
  rw [evalPart_some]
  refine thn (h pins s σ H _ I hw) fun u s1 ⟨x, H1, I1, r1, q1⟩ => ?_
  obtain ⟨i, rfl, q⟩ := q1
  obtain ⟨t, rfl⟩ := r1
  exact ⟨some i, H1, I1, .int i t, q⟩

/-- what a slice of a value is, by values: the slice object stands at sl -/
def SlR (X : Cx) (r : V → Option Int → Option Int → Hp → VK → Prop) : Prop :=
  ∀ (pins : List (Addr × Obj)) (s : Shared) (σ : St) (H : Hp) (x : V) (v vl vu : Value) (lo hi : Option Int) (sl : Addr) (Q : VK), Inv X pins σ H s → RelV x v → s.heap.IsSliceOf sl vl vu .none → IsPart vl lo → IsPart vu hi → r x lo hi H Q →
    ∃ T id, typeLookup (.type T) "__getitem__" = pure (some (.builtin id)) ∧ s.TypeIs v T ∧ wpAny (model X.prog X.w) X.A (getItem v (.ref sl)) (EP X pins σ Q) X.xe s
theorem SlR.or {r r' : V → Option Int → Option Int → Hp → VK → Prop} (h : SlR X r) (h' : SlR X r') : SlR X (fun x lo hi H Q => r x lo hi H Q ∨ r' x lo hi H Q) := by
  intro pins s σ H x v vl vu lo hi sl Q I rx hs pl pu q
  rcases q with q | q
  · exact h pins s σ H x v vl vu lo hi sl Q I rx hs pl pu q
  · exact h' pins s σ H x v vl vu lo hi sl Q I rx hs pl pu q
def tSl (r : V → Option Int → Option Int → Hp → VK → Prop) (te : TE) (tl th : TO) : TE := fun σ H Q => te σ H fun x H1 => tl σ H1 fun l H2 => th σ H2 fun u H3 => r x l u H3 Q
/-- a[lo:hi], any a -/
theorem pe_slice {r : V → Option Int → Option Int → Hp → VK → Prop} (hr : SlR X r) (he : PE X e te) (hl : PO X lo tl) (hu : PO X hi th) : PE X (.Subscript e (.Slice lo hi none p2) pos) (tSl r te tl th) := by
  intro pins s σ H Q I h
  refine Subscript_ (thn (he pins s σ H _ I h) fun v s1 ⟨x, H1, I1, r1, q1⟩ => ?_)
  refine wpAny_Slice (thn (hl pins s1 σ H1 _ I1 q1) fun vl s2 ⟨l, H2, I2, pl, q2⟩ => thn (hu pins s2 σ H2 _ I2 q2) fun vu s3 ⟨u, H3, I3, pu, q3⟩ => ?_)
  rw [evalPart_none]
  refine wpAny_pure ?_
  have I4 : Inv X pins σ H3 { s3 with heap := s3.heap.push { cls := .type "slice", data := .fields #[vl, vu, .none] } } := I3.kept (t' := s3.toks) fun b ob q => Heap.get?_push_of_some _ q
  obtain ⟨T, id, hT, ht, hg⟩ := hr pins { s3 with heap := s3.heap.push { cls := .type "slice", data := .fields #[vl, vu, .none] } } σ H3 x v vl vu l u s3.heap.objs.size Q I4 r1 (Heap.IsSliceOf.new ..) pl pu q3
  show wpAny (model X.prog X.w) X.A (subscriptTail e (.Slice lo hi none p2) v (.ref s3.heap.objs.size)) (EP X pins σ Q) X.xe { s3 with heap := s3.heap.push { cls := .type "slice", data := .fields #[vl, vu, .none] } }
  exact tail_any (ops := [.ref s3.heap.objs.size, v]) ht hT hg (by with_unfolding_all rfl)

/-- the items of xs[lo:hi] -/
def cutV (xs : List V) (lo hi : Option Int) : List V := (xs.drop (HT.sIx xs.length 0 lo)).take (HT.sIx xs.length xs.length hi - HT.sIx xs.length 0 lo)
theorem cutV_length (xs : List V) (lo hi : Option Int) : (cutV xs lo hi).length ≤ xs.length := by
  unfold cutV
  rw [List.length_take, List.length_drop]
  omega
/-- t[lo:hi], not the whole of it (the whole would be t itself) -/
def rSlT (K : PySem.W.Frag) : V → Option Int → Option Int → Hp → VK → Prop := fun x lo hi H Q => ∃ a xs, x = .ref a ∧ SqT K H a xs ∧
  ¬ (HT.sIx xs.length 0 lo = 0 ∧ HT.sIx xs.length xs.length hi = xs.length) ∧ ∀ p, H p = none → Q (.ref p) (upd H p (.tup (cutV xs lo hi)))
theorem sl_tup : SlR X (rSlT X.K) := by
  intro pins s σ H x v vl vu lo hi sl Q I rx hs pl pu h
  obtain ⟨a, xs, rfl, hx, hw, q⟩ := h
  cases rx
  obtain ⟨its, r, ht, hz⟩ := I.tuple hx
  have hlen : its.toArray.size = xs.length := by rw [List.size_toArray]; exact r.length.symm
  refine ⟨"tuple", _, PyProof.Rows.slot_tuple_getitem.lookup, ht.typeIs, ?_⟩
  refine HT.getItem_tuple_cut ht hs pl pu (by rw [hlen]; exact hw) ?_ (by rw [hlen]; exact hz)
  rw [hlen]
  refine ⟨.ref s.heap.objs.size, _, I.laid (t' := s.toks) (o := .tup (cutV xs lo hi)) (fun b ob q => Heap.get?_push_of_some _ q) (Nat.le_refl _) ?_, rfl, q _ (I.hok.fresh (Nat.le_refl _))⟩
  exact ⟨Nat.le_trans (cutV_length xs lo hi) hz, _, (r.drop (HT.sIx xs.length 0 lo)).take (HT.sIx xs.length xs.length hi - HT.sIx xs.length 0 lo), IsTup.new _ _⟩

/-! ### t < u, t + u -/
def rLtT (K : PySem.W.Frag) : R2 := fun x y H Q => ∃ a b ns ms, x = .ref a ∧ y = .ref b ∧ SqT K H a (ns.map V.int) ∧ SqT K H b (ms.map V.int) ∧ Q (.bl (HT.lexLt ns ms)) H
theorem op_ltT (hu : X.A.units < cLine) : OpR X (compareOp .Lt) (rLtT X.K) := by
  intro pins s σ H x y v u Q I rx ry h
  obtain ⟨a, b, ns, ms, rfl, rfl, ha, hb, q⟩ := h
  cases rx
  cases ry
  obtain ⟨its, r1, p1, _⟩ := I.tuple ha
  obtain ⟨its2, r2, p2, _⟩ := I.tuple hb
  have i1 : IntsAre its.toArray.toList ns := intsAre_of r1
  have i2 : IntsAre its2.toArray.toList ms := intsAre_of r2
  exact HT.lt_tupInts p1 p2 i1 i2 hu ⟨.bl (HT.lexLt ns ms), H, I, rfl, q⟩
/-- t + u, t not empty: u empty gives t itself -/
def rCatT (K : PySem.W.Frag) : R2 := fun x y H Q => ∃ a b xs ys, x = .ref a ∧ y = .ref b ∧ SqT K H a xs ∧ SqT K H b ys ∧ xs ≠ [] ∧ xs.length + ys.length ≤ sizeLine ∧
  (ys = [] → Q (.ref a) H) ∧ (ys ≠ [] → ∀ p, H p = none → Q (.ref p) (upd H p (.tup (xs ++ ys))))
theorem Vals.nil_iff {xs : List V} {us : List Value} (r : Vals xs us) : us = [] ↔ xs = [] := by
  cases r with
  | nil => simp
  | cons _ _ => simp
theorem op_catT : OpR X (binaryOp .Add) (rCatT X.K) := by
  intro pins s σ H x y v u Q I rx ry h
  obtain ⟨a, b, xs, ys, rfl, rfl, ha, hb, hx, hz, q1, q2⟩ := h
  cases rx
  cases ry
  obtain ⟨its, r1, p1, _⟩ := I.tuple ha
  obtain ⟨its2, r2, p2, _⟩ := I.tuple hb
  refine HT.cat_tup p1 p2 (fun z => hx (r1.nil_iff.mp z)) (fun z => ⟨.ref a, H, I, rfl, q1 (r2.nil_iff.mp z)⟩) (fun z => ?_) (by rw [← r1.length, ← r2.length]; exact hz)
  refine ⟨.ref s.heap.objs.size, _, I.laid (t' := s.toks) (o := .tup (xs ++ ys)) (fun b ob q => Heap.get?_push_of_some _ q) (Nat.le_refl _) ?_, rfl, q2 (fun w => z (r2.nil_iff.mpr w)) _ (I.hok.fresh (Nat.le_refl _))⟩
  exact ⟨by rw [List.length_append]; exact hz, _, r1.append r2, IsTup.new _ _⟩
/-- tuple(t) -/
theorem call_tupleT : CallR X (.type "tuple") (fun xs H Q => ∃ a ys, xs = [.ref a] ∧ SqT X.K H a ys ∧ Q (.ref a) H) := by
  intro pins s σ H xs us Q I r h
  obtain ⟨a, ys, rfl, ha, q⟩ := h
  obtain ⟨u, rfl, ru⟩ := vals1 r
  cases ru
  obtain ⟨its, _, p1, _⟩ := I.tuple ha
  exact call_tuple_same (items := its.toArray) p1 ⟨.ref a, H, I, rfl, q⟩
end
end L2

namespace L2
open PySem PySem.Spec PyProof.Rows

/-! ### places -/
/-- the place that an index of any sign means -/
def ixN (n : Nat) (i : Int) : Option Nat := if 0 ≤ i then (if i < n then some i.toNat else none) else if -(n : Int) ≤ i then some (i + n).toNat else none
def atI {α : Type} (xs : List α) (i : Int) : Option α := (ixN xs.length i).bind fun j => xs[j]?
theorem ixN_seq {n : Nat} {i : Int} {j : Nat} (h : ixN n i = some j) : seqIndex? i n = some j ∧ j < n ∧ -(n : Int) ≤ i ∧ i < n := by
  unfold ixN at h
  by_cases h0 : 0 ≤ i
  · rw [if_pos h0] at h
    by_cases h1 : i < n
    · rw [if_pos h1] at h
      have e : i.toNat = j := Option.some.inj h
      exact ⟨by rw [seqIndex_of h0 h1, e], by omega, by omega, h1⟩
    · rw [if_neg h1] at h; cases h
  · rw [if_neg h0] at h
    by_cases h1 : -(n : Int) ≤ i
    · rw [if_pos h1] at h
      have e : (i + n).toNat = j := Option.some.inj h
      exact ⟨by rw [seqIndex_neg (by omega) h1, e], by omega, h1, by omega⟩
    · rw [if_neg h1] at h; cases h
theorem atI_get {α : Type} {xs : List α} {i : Int} {v : α} (h : atI xs i = some v) : ∃ j, seqIndex? i xs.length = some j ∧ xs[j]? = some v ∧ j < xs.length ∧ -(xs.length : Int) ≤ i ∧ i < xs.length := by
  unfold atI at h
  cases e : ixN xs.length i with
  | none => rw [e] at h; cases h
  | some j =>
    rw [e] at h
    obtain ⟨h1, h2, h3, h4⟩ := ixN_seq e
    exact ⟨j, h1, h, h2, h3, h4⟩
theorem atI_nat {α : Type} {xs : List α} {j : Nat} {v : α} (h : xs[j]? = some v) : atI xs (j : Int) = some v := by
  have hj : j < xs.length := (List.getElem?_eq_some_iff.mp h).1
  have e : ixN xs.length (j : Int) = some j := by
    unfold ixN
    rw [if_pos (by omega), if_pos (by omega)]; simp
  unfold atI; rw [e]; exact h
theorem atI_last {α : Type} (xs : List α) (v : α) : atI (xs ++ [v]) (-1) = some v := by
  have hl : (xs ++ [v]).length = xs.length + 1 := by simp
  have e : ixN (xs ++ [v]).length (-1) = some xs.length := by
    unfold ixN
    rw [hl, if_neg (by decide), if_pos (by omega)]
    congr 1
    omega
  unfold atI
  rw [e]
  show (xs ++ [v])[xs.length]? = some v
  simp

/-! ### what may be subscripted -/
/-- what stands as an index of a plain subscript -/
def PlainIx (b : Expr) : Prop := ∀ o i, subscripted b false o i = operate [o, i] (getItem o i)
/-- a subscript by values -/
def IxR (X : Cx) (r : R2) : Prop :=
  ∀ (value slice : Expr) (pins : List (Addr × Obj)) (s : Shared) (σ : St) (H : Hp) (x y : V) (v u : Value) (Q : VK), Inv X pins σ H s → RelV x v → RelV y u → r x y H Q →
    subscripted slice false v u = operate [v, u] (getItem v u) → wpAny (model X.prog X.w) X.A (subscriptTail value slice v u) (EP X pins σ Q) X.xe s
/-- a call of a builtin's method by values: the receiver, the arguments -/
def MtR (X : Cx) (id : String) (r : V → List V → Hp → VK → Prop) : Prop :=
  ∀ (pins : List (Addr × Obj)) (s : Shared) (σ : St) (H : Hp) (x : V) (xs : List V) (v : Value) (us : List Value) (Q : VK), Inv X pins σ H s → RelV x v → Vals xs us → r x xs H Q →
    wpAny (model X.prog X.w) X.A (call (.builtin id) (v :: us)) (EP X pins σ Q) X.xe s
section
variable {X : Cx} {a b : Expr} {ta tb : TE} {pos : Pos}
theorem IxR.or {r r' : R2} (h : IxR X r) (h' : IxR X r') : IxR X (fun x y H Q => r x y H Q ∨ r' x y H Q) := by
  intro value slice pins s σ H x y v u Q I rx ry q hs
  rcases q with q | q
  · exact h value slice pins s σ H x y v u Q I rx ry q hs
  · exact h' value slice pins s σ H x y v u Q I rx ry q hs
theorem MtR.or {id : String} {r r' : V → List V → Hp → VK → Prop} (h : MtR X id r) (h' : MtR X id r') : MtR X id (fun x xs H Q => r x xs H Q ∨ r' x xs H Q) := by
  intro pins s σ H x xs v us Q I rx rs q
  rcases q with q | q
  · exact h pins s σ H x xs v us Q I rx rs q
  · exact h' pins s σ H x xs v us Q I rx rs q
/-- a[b] -/
theorem pe_ix {r : R2} (hr : IxR X r) (ha : PE X a ta) (hb : PE X b tb) (hs : PlainIx b) : PE X (.Subscript a b pos) (tOp r ta tb) := by
  intro pins s σ H Q I h
  exact Subscript_ (binT ha hb I h fun v u s2 x y H2 I2 rx ry q => hr a b pins s2 σ H2 x y v u Q I2 rx ry q (hs _ _))

def rIxL (K : PySem.W.Frag) : R2 := fun x y H Q => ∃ p xs i v, x = .ref p ∧ y = .int i ∧ SqL K H p xs ∧ atI xs i = some v ∧ Q v H
def rIxT (K : PySem.W.Frag) : R2 := fun x y H Q => ∃ p xs i v, x = .ref p ∧ y = .int i ∧ SqT K H p xs ∧ atI xs i = some v ∧ Q v H
def rIxS : R2 := fun x y H Q => ∃ z i c, x = .str z ∧ y = .int i ∧ z.length ≤ sizeLine ∧ atI z.cps.toList i = some c ∧ Q (.str ⟨#[c]⟩) H
theorem ix_list : IxR X (rIxL X.K) := by
  intro value slice pins s σ H x y v u Q I rx ry h hs
  obtain ⟨p, xs, i, z, rfl, rfl, hq, he, q⟩ := h
  cases rx
  obtain ⟨t, rfl⟩ := ry
  obtain ⟨its, r, pl, hz⟩ := I.list hq
  obtain ⟨j, h1, h2, h3, h4, h5⟩ := atI_get he
  obtain ⟨w, ew, rw'⟩ := r.get h2
  have hl := r.length
  have hn := line63
  have fin : EP X pins σ Q w s := ⟨z, H, I, rw', q⟩
  by_cases h0 : 0 ≤ i
  · have hj : i.toNat = j := by
      rw [seqIndex_of h0 h5] at h1
      exact Option.some.inj h1
    exact item_listR pl.isList h0 (by omega) (by rw [hj]; simpa using ew) fin hs
  · have hj : (i + (its.toArray.size : Int)).toNat = j := by
      rw [seqIndex_neg (by omega) h4] at h1
      rw [List.size_toArray, ← hl]
      exact Option.some.inj h1
    exact subscriptTail_builtinR (x := w) pl.isList.typeIs slot_list_getitem.lookup
      (wpAny_getItem_list_neg (Q := fun r s' => r = w ∧ EP X pins σ Q r s') pl.isList (by omega) (by rw [List.size_toArray] <;> omega) (by omega) (by rw [hj]; simpa using ew) ⟨rfl, fin⟩) hs
theorem ix_tup : IxR X (rIxT X.K) := by
  intro value slice pins s σ H x y v u Q I rx ry h hs
  obtain ⟨p, xs, i, z, rfl, rfl, hq, he, q⟩ := h
  cases rx
  obtain ⟨t, rfl⟩ := ry
  obtain ⟨its, r, pl, hz⟩ := I.tuple hq
  obtain ⟨j, h1, h2, h3, h4, h5⟩ := atI_get he
  obtain ⟨w, ew, rw'⟩ := r.get h2
  have hl := r.length
  have hn := line63
  have fin : EP X pins σ Q w s := ⟨z, H, I, rw', q⟩
  exact subscriptTail_builtinR (x := w) pl.typeIs slot_tuple_getitem.lookup
    (getItem_tuple (j := j) (Q := fun r s' => r = w ∧ EP X pins σ Q r s') pl (by omega) (by omega) (by rw [List.size_toArray, ← hl]; exact h1) (by simpa using ew) ⟨rfl, fin⟩) hs
theorem ix_str : IxR X rIxS := by
  intro value slice pins s σ H x y v u Q I rx ry h hs
  obtain ⟨z, i, c, rfl, rfl, hz, he, q⟩ := h
  obtain ⟨t, rfl⟩ := rx
  obtain ⟨t', rfl⟩ := ry
  obtain ⟨j, h1, h2, h3, h4, h5⟩ := atI_get he
  have hl : z.cps.toList.length = z.length := by simp [Str.length]
  rw [hl] at h1 h4 h5
  have hn := line63
  exact tail_any (typeIs_str s z t) slot_str_getitem.lookup (getItem_str (c := c) (by
    have e1 : decide (i < -(2 ^ 63 : Int)) = false := decide_eq_false (by omega)
    have e2 : decide (i ≥ 2 ^ 63) = false := decide_eq_false (by omega)
    rw [e1, e2, Bool.or_false]) (by rw [h1]; simpa using h2) ⟨.str ⟨#[c]⟩, H, I.tok _, ⟨_, rfl⟩, q⟩) hs
/-- list, tuple or str -/
def rIx (K : PySem.W.Frag) : R2 := fun x y H Q => rIxL K x y H Q ∨ rIxT K x y H Q ∨ rIxS x y H Q
theorem ix_seq : IxR X (rIx X.K) := ix_list.or (ix_tup.or ix_str)

/-! ### xs[i] = v, any sign -/
/-- the list's object behind a store -/
theorem mapSeq_set (its : List Value) (n j : Nat) (u : Value) : Obj.mapSeq (·.setIfInBounds j u) { cls := .type "list", data := .seq its.toArray n } = { cls := .type "list", data := .seq (its.set j u).toArray n } := by
  simp [Obj.mapSeq]
theorem Inv.lst {pins : List (Addr × Obj)} {σ : St} {H : Hp} {s : Shared} {p : Addr} {xs : List V} (I : Inv X pins σ H s) (h : H p = some (.lst xs)) :
    ∃ (its : List Value) (n : Nat), Vals xs its ∧ s.heap.get? p = some { cls := .type "list", data := .seq its.toArray n } ∧ xs.length ≤ sizeLine := by
  obtain ⟨z, its, n, r, e⟩ := I.hok p _ h
  exact ⟨its, n, r, e, z⟩
/-- the list at p is written by an update of its object -/
theorem Inv.lstUpd {pins : List (Addr × Obj)} {σ : St} {H : Hp} {s : Shared} {p : Addr} {xs ys : List V} {its its' : List Value} {n n' : Nat} {f : Obj → Obj} (I : Inv X pins σ H s) (h : H p = some (.lst xs))
    (ho : s.heap.get? p = some { cls := .type "list", data := .seq its.toArray n }) (hf : f { cls := .type "list", data := .seq its.toArray n } = { cls := .type "list", data := .seq its'.toArray n' }) (r : Vals ys its') (hz : ys.length ≤ sizeLine) (t : Nat) :
    Inv X pins σ (upd H p (.lst ys)) { s with heap := s.heap.update p f, toks := t } := by
  have e : (s.heap.update p f).get? p = some { cls := .type "list", data := .seq its'.toArray n' } := by
    rw [Heap.get?_update_self f ho (by rw [hf] <;> rfl), hf]
  refine I.write (x := p) (e := p) (by rw [h]; trivial) (.inl rfl) (fun b u hb q => (Heap.get?_update_other _ _ (Ne.symm hb)).trans q) ⟨_, e⟩ ?_
  exact ⟨hz, its', n', r, e⟩
def rSetL : V → V → V → Hp → (Hp → Prop) → Prop := fun o i v H Q => ∃ p xs k j, o = .ref p ∧ i = .int k ∧ H p = some (.lst xs) ∧ ixN xs.length k = some j ∧ Q (upd H p (.lst (xs.set j v)))
theorem set_list : PSet X rSetL := by
  intro pins s σ H o i v ov iv u Q I ro ri rv h
  obtain ⟨p, xs, k, j, rfl, rfl, hp, hj, q⟩ := h
  cases ro
  obtain ⟨t, rfl⟩ := ri
  obtain ⟨its, n, r, ho, hz⟩ := I.lst hp
  obtain ⟨h1, h2, h3, h4⟩ := ixN_seq hj
  have hl := r.length
  have hn := line63
  have I' : Inv X pins σ (upd H p (.lst (xs.set j v))) { s with heap := s.heap.update p (Obj.mapSeq (·.setIfInBounds j u)) } :=
    I.lstUpd hp ho (mapSeq_set its n j u) (r.set rv j) (by rw [List.length_set]; exact hz) s.toks
  by_cases h0 : 0 ≤ k
  · have hk : k.toNat = j := by
      rw [seqIndex_of h0 h4] at h1
      exact Option.some.inj h1
    exact PySem.W.ki_setAt ho h0 (by omega) (by rw [List.size_toArray, ← hl]; exact h4) (by rw [hk]; exact ⟨_, I', q⟩)
  · have hk : (k + (its.toArray.size : Int)).toNat = j := by
      rw [seqIndex_neg (by omega) h3] at h1
      rw [List.size_toArray, ← hl]
      exact Option.some.inj h1
    exact PySem.W.ki_setBack ho (by omega) (by rw [List.size_toArray, ← hl]; exact h3) (by omega) (by rw [hk]; exact ⟨_, I', q⟩)

/-! ### slices -/
theorem slice_bounds (lo hi : Option Int) (n : Nat) : (sliceBounds lo hi none n).1 = ((HT.sIx n 0 lo : Nat) : Int) ∧ (sliceBounds lo hi none n).2.1 = ((HT.sIx n n hi : Nat) : Int) ∧ (sliceBounds lo hi none n).2.2 = 1 := by
  refine ⟨?_, ?_, rfl⟩
  · cases lo with
    | none => simp [sliceBounds, HT.sIx]
    | some i =>
      simp only [sliceBounds, HT.sIx, Option.getD_none, show (1 : Int) > 0 by decide, if_true]
      by_cases h : i < 0
      · simp only [h, if_true] <;> omega
      · simp only [h, if_false] <;> omega
  · cases hi with
    | none => simp [sliceBounds, HT.sIx]
    | some i =>
      simp only [sliceBounds, HT.sIx, Option.getD_none, show (1 : Int) > 0 by decide, if_true]
      by_cases h : i < 0
      · simp only [h, if_true] <;> omega
      · simp only [h, if_false] <;> omega
theorem slicePick_cut (its : List Value) (lo hi : Option Int) : slicePick its.toArray lo hi none = ((its.drop (HT.sIx its.length 0 lo)).take (HT.sIx its.length its.length hi - HT.sIx its.length 0 lo)).toArray := by
  obtain ⟨h1, h2, h3⟩ := slice_bounds lo hi its.toArray.size
  unfold slicePick
  rw [h1, h2, h3]
  simp only [sliceRange_one, pick_run, List.size_toArray] <;> rfl
/-- xs[lo:hi] of a list: a new list -/
def rSlL (K : PySem.W.Frag) : V → Option Int → Option Int → Hp → VK → Prop := fun x lo hi H Q => ∃ a xs, x = .ref a ∧ SqL K H a xs ∧ ∀ p, H p = none → Q (.ref p) (upd H p (.lst (cutV xs lo hi)))
theorem sl_list : SlR X (rSlL X.K) := by
  intro pins s σ H x v vl vu lo hi sl Q I rx hs pl pu h
  obtain ⟨a, xs, rfl, hx, q⟩ := h
  cases rx
  obtain ⟨its, r, ht, hz⟩ := I.list hx
  have hlen := r.length
  refine ⟨"list", _, slot_list_getitem.lookup, ht.isList.typeIs, ?_⟩
  refine wpAny_getItem_list_slice ht.isList hs pl pu .none (by simp) ?_ (by rw [List.size_toArray] <;> omega)
  rw [slicePick_cut, ← hlen]
  refine ⟨.ref s.heap.objs.size, _, I.laid (t' := s.toks) (o := .lst (cutV xs lo hi)) (fun b ob q => Heap.get?_push_of_some _ q) (Nat.le_refl _) ?_, rfl, q _ (I.hok.fresh (Nat.le_refl _))⟩
  exact ⟨Nat.le_trans (cutV_length xs lo hi) hz, _, 0, (r.drop (HT.sIx xs.length 0 lo)).take (HT.sIx xs.length xs.length hi - HT.sIx xs.length 0 lo), Heap.get?_push_size _ rfl⟩

/-! ### in, not in: flat items -/
def flatV : V → Bool
  | .non => true
  | .bl _ => true
  | .int _ => true
  | .str _ => true
  | _ => false
/-- == of flat values -/
def eqV : V → V → Bool
  | .non, .non => true
  | .bl a, .bl b => a == b
  | .bl a, .int b => (if a then 1 else 0) == b
  | .int a, .bl b => a == (if b then 1 else 0)
  | .int a, .int b => a == b
  | .str a, .str b => a == b
  | _, _ => false
theorem eqAt_V {A : Around} {s : Shared} {y x : V} {u v : Value} (ry : RelV y u) (rx : RelV x v) (fy : flatV y = true) (fx : flatV x = true) : SeqAt.EqAt A s u v (eqV y x) := by
  cases y with
  | non =>
    cases ry
    cases x with
    | non => cases rx; exact SeqAt.EqAt.same _
    | bl b => cases rx; exact SeqAt.EqAt.none_bool b
    | int b => obtain ⟨t, rfl⟩ := rx; exact SeqAt.EqAt.none_int b t
    | str b => obtain ⟨t, rfl⟩ := rx; exact SeqAt.EqAt.none_str b t
    | _ => exact absurd (show false = true from fx) Bool.false_ne_true
  | bl a =>
    cases ry
    cases x with
    | non => cases rx; exact SeqAt.EqAt.bool_none a
    | bl b => cases rx; exact SeqAt.EqAt.bool_bool a b
    | int b => obtain ⟨t, rfl⟩ := rx; exact SeqAt.EqAt.bool_int a b t
    | str b => obtain ⟨t, rfl⟩ := rx; exact SeqAt.EqAt.bool_str a b t
    | _ => exact absurd (show false = true from fx) Bool.false_ne_true
  | int a =>
    obtain ⟨t', rfl⟩ := ry
    cases x with
    | non => cases rx; exact SeqAt.EqAt.int_none a t'
    | bl b => cases rx; exact SeqAt.EqAt.int_bool a t' b
    | int b => obtain ⟨t, rfl⟩ := rx; exact SeqAt.EqAt.int_int a t' b t
    | str b => obtain ⟨t, rfl⟩ := rx; exact SeqAt.EqAt.int_str a t' b t
    | _ => exact absurd (show false = true from fx) Bool.false_ne_true
  | str a =>
    obtain ⟨t', rfl⟩ := ry
    cases x with
    | non => cases rx; exact SeqAt.EqAt.str_none a t'
    | bl b => cases rx; exact SeqAt.EqAt.str_bool a t' b
    | int b => obtain ⟨t, rfl⟩ := rx; exact SeqAt.EqAt.str_int a t' b t
    | str b => obtain ⟨t, rfl⟩ := rx; exact SeqAt.EqAt.str_str a t' b t
    | _ => exact absurd (show false = true from fx) Bool.false_ne_true
  | _ => exact absurd (show false = true from fy) Bool.false_ne_true
/-- the items' answers, read off the values (a value's own answer does not lean on its token) -/
def eqU (x : V) (u : Value) : Bool := match u with
  | .none => eqV .non x
  | .bool b => eqV (.bl b) x
  | .int i _ => eqV (.int i) x
  | .str z _ => eqV (.str z) x
  | _ => false
theorem eqU_of {x y : V} {u : Value} (r : RelV y u) (f : flatV y = true) : eqU x u = eqV y x := by
  cases y with
  | non => cases r; rfl
  | bl b => cases r; rfl
  | int i => obtain ⟨t, rfl⟩ := r; rfl
  | str z => obtain ⟨t, rfl⟩ := r; rfl
  | _ => exact absurd (show false = true from f) Bool.false_ne_true
theorem any_eqU {x : V} : ∀ {xs : List V} {us : List Value}, Vals xs us → xs.all flatV = true → us.any (eqU x) = xs.any fun y => eqV y x
  | _, _, .nil, _ => rfl
  | y :: xs, u :: us, .cons r t, f => by
    rw [List.all_cons, Bool.and_eq_true] at f
    rw [List.any_cons, List.any_cons, eqU_of r f.1, any_eqU t f.2]
theorem mem_eqAt {A : Around} {s : Shared} {x : V} {v : Value} (rx : RelV x v) (fx : flatV x = true) : ∀ {xs : List V} {us : List Value}, Vals xs us → xs.all flatV = true → ∀ u ∈ us, SeqAt.EqAt A s u v (eqU x u)
  | _, _, .nil, _ => fun u hu => by cases hu
  | y :: xs, u :: us, .cons r t, f => fun u' hu => by
    rw [List.all_cons, Bool.and_eq_true] at f
    rcases List.mem_cons.mp hu with rfl | hu
    · rw [eqU_of r f.1]; exact eqAt_V r rx f.1 fx
    · exact mem_eqAt rx fx t f.2 u' hu
def inV (x : V) (xs : List V) : Bool := xs.any fun y => eqV y x
/-- x in a list or tuple of flat items -/
def rIn (K : PySem.W.Frag) (neg : Bool) : R2 := fun x y H Q => ∃ p xs, y = .ref p ∧ (SqL K H p xs ∨ SqT K H p xs) ∧ flatV x = true ∧ xs.all flatV = true ∧ Q (.bl (if neg then !inV x xs else inV x xs)) H
theorem op_in_seq : OpR X (compareOp .In) (rIn X.K false) := by
  intro pins s σ H x y v u Q I rx ry h
  obtain ⟨p, xs, rfl, hq, fx, fs, q⟩ := h
  cases ry
  rcases hq with hq | hq
  · obtain ⟨its, r, pl, hz⟩ := I.list hq
    refine SeqAt.in_listAt (eqU x) pl.isList (fun w hw => mem_eqAt rx fx r fs w (by simpa using hw)) ⟨.bl _, H, I, rfl, ?_⟩
    rw [show its.toArray.any (eqU x) = its.any (eqU x) by simp, any_eqU r fs]
    exact q
  · obtain ⟨its, r, pl, hz⟩ := I.tuple hq
    refine SeqAt.in_tupleAt (eqU x) pl (fun w hw => mem_eqAt rx fx r fs w (by simpa using hw)) ⟨.bl _, H, I, rfl, ?_⟩
    rw [show its.toArray.any (eqU x) = its.any (eqU x) by simp, any_eqU r fs]
    exact q
theorem op_notIn_seq : OpR X (compareOp .NotIn) (rIn X.K true) := by
  intro pins s σ H x y v u Q I rx ry h
  obtain ⟨p, xs, rfl, hq, fx, fs, q⟩ := h
  cases ry
  rcases hq with hq | hq
  · obtain ⟨its, r, pl, hz⟩ := I.list hq
    refine SeqAt.notIn_listAt (eqU x) pl.isList (fun w hw => mem_eqAt rx fx r fs w (by simpa using hw)) ⟨.bl _, H, I, rfl, ?_⟩
    rw [show its.toArray.any (eqU x) = its.any (eqU x) by simp, any_eqU r fs]
    exact q
  · obtain ⟨its, r, pl, hz⟩ := I.tuple hq
    refine SeqAt.notIn_tupleAt (eqU x) pl (fun w hw => mem_eqAt rx fx r fs w (by simpa using hw)) ⟨.bl _, H, I, rfl, ?_⟩
    rw [show its.toArray.any (eqU x) = its.any (eqU x) by simp, any_eqU r fs]
    exact q
theorem op_notIn_str : OpR X (compareOp .NotIn) (fun x y H Q => ∃ i j, x = .str i ∧ y = .str j ∧ Q (.bl (!(!(Builtin.Str.occurrences j i 0 j.length 1).isEmpty))) H) := by
  intro pins s σ H x y v u Q I rx ry h
  obtain ⟨i, j, rfl, rfl, q⟩ := h
  obtain ⟨t, rfl⟩ := rx
  obtain ⟨t', rfl⟩ := ry
  exact notIn_str ⟨.bl _, H, I, rfl, q⟩

/-! ### len, list(x), tuple(x) of any list or tuple that is read -/
theorem call_len_seq : CallR X (.builtin "len") (fun xs H Q => ∃ p ys, xs = [.ref p] ∧ (SqL X.K H p ys ∨ SqT X.K H p ys) ∧ Q (.int ys.length) H) := by
  intro pins s σ H xs us Q I r h
  obtain ⟨p, ys, rfl, hq, q⟩ := h
  obtain ⟨u, rfl, rx⟩ := vals1 r
  cases rx
  have hn := line63
  rcases hq with hq | hq
  · obtain ⟨its, r', pl, hz⟩ := I.list hq
    have hlen := r'.length
    exact Calls.call_len_list pl.isList (by simp only [List.size_toArray] <;> omega) ⟨.int ys.length, H, I.tok _, ⟨s.toks + 1, by rw [List.size_toArray, hlen]⟩, q⟩
  · obtain ⟨its, r', pl, hz⟩ := I.tuple hq
    have hlen := r'.length
    exact len_tuple pl (by simp only [List.size_toArray] <;> omega) ⟨.int ys.length, H, I.tok _, ⟨s.toks + 1, by rw [List.size_toArray, hlen]⟩, q⟩
theorem call_len_str : CallR X (.builtin "len") (fun xs H Q => ∃ z, xs = [.str z] ∧ z.length ≤ sizeLine ∧ Q (.int z.length) H) := by
  intro pins s σ H xs us Q I r h
  obtain ⟨z, rfl, hz, q⟩ := h
  obtain ⟨u, rfl, t, rfl⟩ := vals1 r
  have hn := line63
  exact len_str (by omega) ⟨.int z.length, H, I.tok _, ⟨_, rfl⟩, q⟩
theorem CallR.or {f : Value} {r r' : List V → Hp → VK → Prop} (h : CallR X f r) (h' : CallR X f r') : CallR X f (fun xs H Q => r xs H Q ∨ r' xs H Q) := by
  intro pins s σ H xs us Q I rs q
  rcases q with q | q
  · exact h pins s σ H xs us Q I rs q
  · exact h' pins s σ H xs us Q I rs q
theorem call_list_of : CallR X (.type "list") (fun xs H Q => ∃ p ys, xs = [.ref p] ∧ (SqL X.K H p ys ∨ SqT X.K H p ys) ∧ ∀ l, H l = none → Q (.ref l) (upd H l (.lst ys))) := by
  intro pins s σ H xs us Q I r h
  obtain ⟨p, ys, rfl, hq, q⟩ := h
  obtain ⟨u, rfl, rx⟩ := vals1 r
  cases rx
  have fin : ∀ (its : List Value), Vals ys its → ys.length ≤ sizeLine → ∀ (h' : Heap) (c' : Nat), (∀ b o', s.heap.get? b = some o' → h'.get? b = some o') →
      h'.get? s.heap.objs.size = some { cls := .type "list", dict := none, data := .seq its.toArray c', slots := #[] } → EP X pins σ Q (.ref s.heap.objs.size) { s with heap := h' } := fun its r' hz h' c' kp e =>
    ⟨.ref s.heap.objs.size, _, I.laid (t' := s.toks) kp (Nat.le_refl _) (show ObjOk X.prog X.w _ h' _ (.lst ys) from ⟨hz, its, c', r', e⟩), rfl, q _ (I.hok.fresh (Nat.le_refl _))⟩
  rcases hq with hq | hq
  · obtain ⟨its, r', pl, hz⟩ := I.list hq
    have hlen := r'.length
    obtain ⟨o, ho, hc, n, hd⟩ := pl.isList
    exact call_list_seq p (.inl rfl) ho hc hd (fun h' c' kp e => fin its r' hz h' c' kp e) (by simp only [List.size_toArray] <;> omega)
  · obtain ⟨its, r', pl, hz⟩ := I.tuple hq
    have hlen := r'.length
    obtain ⟨o, ho, hc, n, hd⟩ := pl
    exact call_list_seq p (.inr rfl) ho hc hd (fun h' c' kp e => fin its r' hz h' c' kp e) (by simp only [List.size_toArray] <;> omega)
theorem call_tuple_of : CallR X (.type "tuple") (fun xs H Q => ∃ p ys, xs = [.ref p] ∧ ((SqL X.K H p ys ∧ ∀ l, H l = none → Q (.ref l) (upd H l (.tup ys))) ∨ (SqT X.K H p ys ∧ Q (.ref p) H))) := by
  intro pins s σ H xs us Q I r h
  obtain ⟨p, ys, rfl, h⟩ := h
  obtain ⟨u, rfl, rx⟩ := vals1 r
  cases rx
  rcases h with ⟨hq, q⟩ | ⟨hq, q⟩
  · obtain ⟨its, r', pl, hz⟩ := I.list hq
    have hlen := r'.length
    refine call_tuple_list pl.isList (fun h' kp => ?_) (by simp only [List.size_toArray] <;> omega)
    have I1 : Inv X pins σ H { s with heap := h' } := I.kept (t' := s.toks) kp
    have I2 : Inv X pins σ (upd H h'.objs.size (.tup ys)) { s with heap := h'.push { cls := .type "tuple", data := .seq its.toArray } } :=
      I1.laid (t' := s.toks) (fun b o e => Heap.get?_push_of_some _ e) (Nat.le_refl _) (show ObjOk X.prog X.w _ _ _ (.tup ys) from ⟨hz, its, r', IsTup.new _ _⟩)
    exact ⟨.ref h'.objs.size, _, I2, rfl, q _ (I1.hok.fresh (Nat.le_refl _))⟩
  · obtain ⟨its, r', pl, hz⟩ := I.tuple hq
    exact call_tuple_same pl ⟨.ref p, H, I, rfl, q⟩

/-! ### the call of a builtin's method: o.m(..) -/
/-- the value is of that builtin type -/
def tyV (K : PySem.W.Frag) (T : String) (x : V) (H : Hp) : Prop := match x with
  | .str _ => T = "str"
  | .int _ => T = "int"
  | .ref p => (T = "list" ∧ ∃ xs, SqL K H p xs) ∨ (T = "tuple" ∧ ∃ o, K.lookup p = some o ∧ o.cls = .type "tuple" ∧ o.dict = none) ∨
      (T = "dict" ∧ ((∃ kvs, H p = some (.dK kvs)) ∨ ∃ kvs, H p = some (.dT kvs))) ∨ (T = "set" ∧ ∃ S n, H p = some (.set S n))
  | _ => False
theorem tyV_is {pins : List (Addr × Obj)} {σ : St} {H : Hp} {s : Shared} {T : String} {x : V} {v : Value} (I : Inv X pins σ H s) (r : RelV x v) (ty : tyV X.K T x H) :
    s.TypeIs v T ∧ ∀ a, v = .ref a → ∃ ob, s.heap.get? a = some ob ∧ ob.dict = none := by
  cases x with
  | str z =>
    obtain ⟨t, rfl⟩ := r
    cases (show T = "str" from ty)
    exact ⟨typeIs_str s z t, fun _ e => nomatch e⟩
  | int i =>
    obtain ⟨t, rfl⟩ := r
    cases (show T = "int" from ty)
    exact ⟨typeIs_int s i t, fun _ e => nomatch e⟩
  | ref p =>
    cases r
    rcases ty with ⟨rfl, xs, hq⟩ | ⟨rfl, o, hk, hc, hd⟩ | ⟨rfl, hk⟩ | ⟨rfl, S, n, hk⟩
    · obtain ⟨its, _, pl, _⟩ := I.list hq
      refine ⟨pl.isList.typeIs, fun a e => ?_⟩
      cases e
      obtain ⟨o, n, e, c, hd, _⟩ := pl
      exact ⟨o, e, hd⟩
    · refine ⟨⟨o, I.kIn p o hk, hc⟩, fun a e => ?_⟩
      cases e
      exact ⟨o, I.kIn _ o hk, hd⟩
    · have z : ∃ o, s.heap.get? p = some o ∧ o.ExactDict := by
        rcases hk with ⟨kvs, hk⟩ | ⟨kvs, hk⟩
        · obtain ⟨_, _, _, _, o, _, _, e, ex, _⟩ := I.hok p _ hk
          exact ⟨o, e, ex⟩
        · obtain ⟨_, _, _, _, o, _, _, e, ex, _⟩ := I.hok p _ hk
          exact ⟨o, e, ex⟩
      obtain ⟨o, e, ex⟩ := z
      refine ⟨⟨o, e, ex.1⟩, fun a e2 => ?_⟩
      cases e2
      exact ⟨o, e, ex.2.1⟩
    · obtain ⟨o, _, _, _, e, ex, _⟩ := I.hok p _ hk
      refine ⟨⟨o, e, ex.1⟩, fun a e2 => ?_⟩
      cases e2
      exact ⟨o, e, ex.2.1⟩
  | _ => exact False.elim ty
def tBM0 (K : PySem.W.Frag) (T : String) (r : V → List V → Hp → VK → Prop) (to : TE) : TE := fun σ H Q => to σ H fun x H1 => tyV K T x H1 ∧ r x [] H1 Q
def tBM (K : PySem.W.Frag) (T : String) (r : V → List V → Hp → VK → Prop) (to : TE) (t : TA) : TE := fun σ H Q => to σ H fun x H1 => tyV K T x H1 ∧ t σ H1 fun xs H2 => r x xs H2 Q
variable {o e : Expr} {es : List Expr} {to : TE} {t : TA} {name : Str} {apos cpos : Pos} {T id : String} {r : V → List V → Hp → VK → Prop}
theorem pe_bm0 (pa : PlainAttrs T) (slot : Slot T name id) (hty : typeOf (.builtin id) = pure (.type "method_descriptor")) (hm : MtR X id r) (ho : PE X o to)
    (hbase : attributeBase o name X.env (eval o X.env) = eval o X.env := by rfl) (hline : (apos.endLine == cpos.line) = true := by rfl) : PE X (.Call (.Attribute o name apos) [] [] cpos) (tBM0 X.K T r to) := by
  intro pins s σ H Q I h
  refine wpAny_Call_method0_late hbase hline (thn (ho pins s σ H _ I h) fun v s1 ⟨x, H1, I1, r1, ty, q1⟩ => ?_)
  obtain ⟨h1, h2⟩ := tyV_is I1 r1 ty
  exact ⟨T, id, pa, slot, hty, h1, h2, Calls.callWith_builtin rfl (PySem.evalArgs_none (hm pins s1 σ H1 x [] v [] Q I1 r1 .nil q1))⟩
theorem pe_bm (pa : PlainAttrs T) (slot : Slot T name id) (hty : typeOf (.builtin id) = pure (.type "method_descriptor")) (hm : MtR X id r) (ho : PE X o to) (ha : PA X (e :: es) t)
    (hbase : attributeBase o name X.env (eval o X.env) = eval o X.env := by rfl)
    (hfew : ((backTo cpos (starEach (e :: es) X.env)).all (fun x => !x.1) && (backToKw cpos (keywordEach [] X.env)).all (fun x => x.1.isSome)
      && decide ((e :: es).length + ([] : List Keyword).length + (if ([] : List Keyword).isEmpty then 0 else 1) < 30)) = true := by rfl)
    (hline : (apos.endLine == cpos.line) = true := by rfl) (hs : starEach (e :: es) X.env = (false, eval e X.env) :: starEach es X.env := by rfl) (hplain : (backTo cpos (starEach es X.env)).any (·.1) = false := by rfl) :
    PE X (.Call (.Attribute o name apos) (e :: es) [] cpos) (tBM X.K T r to t) := by
  intro pins s σ H Q I h
  refine wpAny_Call_method_late hbase hfew hline rfl (thn (ho pins s σ H _ I h) fun v s1 ⟨x, H1, I1, r1, ty, q1⟩ => ?_)
  obtain ⟨h1, h2⟩ := tyV_is I1 r1 ty
  refine ⟨T, id, pa, slot, hty, h1, h2, ?_⟩
  have hA := ha cpos pins s1 σ H1 _ I1 q1
  rw [hs] at hA ⊢
  refine Calls.callWith_builtin (by show (false || (backTo cpos (starEach es X.env)).any (·.1)) = false; rw [hplain] <;> rfl) (Calls.evalArgs_plain ?_)
  exact thn hA fun us s2 ⟨vs, H2, I2, r2, q2⟩ => hm pins s2 σ H2 x vs v us Q I2 r1 r2 q2
/- xs.append(e), list.index on a module's tuple .. are MtR facts of 06m -/
end
end L2

namespace L2
open PySem PySem.Spec PyProof.Rows

def MtM (X : Cx) (id : String) (r : V → List V → Hp → VK → Prop) : Prop :=
  ∀ (pins : List (Addr × Obj)) (s : Shared) (σ : St) (H : Hp) (x : V) (xs : List V) (v : Value) (us : List Value) (Q : VK), Inv X pins σ H s → RelV x v → Vals xs us → r x xs H Q →
    wpAny (model X.prog X.w) X.A (call (.builtin id) (v :: us)) (EP X pins σ Q) X.xe s

/-! ### lists of values -/
theorem Vals.one : ∀ {x : V} {us : List Value}, Vals [x] us → ∃ u, us = [u] ∧ RelV x u
  | _, _, .cons r .nil => ⟨_, rfl, r⟩
theorem Vals.two : ∀ {x y : V} {us : List Value}, Vals [x, y] us → ∃ u v, us = [u, v] ∧ RelV x u ∧ RelV y v
  | _, _, _, .cons r (.cons q .nil) => ⟨_, _, rfl, r, q⟩
theorem Vals.zero : ∀ {us : List Value}, Vals [] us → us = []
  | _, .nil => rfl
theorem Vals.dropLast {xs : List V} {us : List Value} (h : Vals xs us) : Vals xs.dropLast us.dropLast := by
  induction h with
  | nil => exact .nil
  | cons r t ih =>
    cases t with
    | nil => exact .nil
    | cons q t' => exact .cons r ih
theorem Vals.eraseIdx : ∀ {xs : List V} {us : List Value} (i : Nat), Vals xs us → Vals (xs.eraseIdx i) (us.eraseIdx i)
  | _, _, _, .nil => .nil
  | _, _, 0, .cons _ t => t
  | _, _, i + 1, .cons r t => .cons r (Vals.eraseIdx i t)
theorem Vals.reverse {xs : List V} {us : List Value} (h : Vals xs us) : Vals xs.reverse us.reverse := by
  induction h with
  | nil => exact .nil
  | cons r t ih => rw [List.reverse_cons, List.reverse_cons]; exact Vals.append ih (.cons r .nil)
theorem Vals.rep {xs : List V} {us : List Value} (h : Vals xs us) : ∀ k : Nat, Vals (List.replicate k xs).flatten (List.replicate k us).flatten
  | 0 => .nil
  | k + 1 => by
    rw [List.replicate_succ, List.replicate_succ, List.flatten_cons, List.flatten_cons]
    exact Vals.append h (Vals.rep h k)
theorem erase_last {α : Type} (l : List α) : l.eraseIdx (l.length - 1) = l.dropLast := by
  induction l with
  | nil => rfl
  | cons a r ih =>
    cases r with
    | nil => rfl
    | cons b r =>
      have e : (a :: b :: r).length - 1 = ((b :: r).length - 1) + 1 := by
        have h1 : (a :: b :: r).length = r.length + 2 := rfl
        have h2 : (b :: r).length = r.length + 1 := rfl
        omega
      rw [e, List.eraseIdx_cons_succ, ih]
      all_goals rfl
theorem len_erase {α : Type} : ∀ (l : List α) (i : Nat), (l.eraseIdx i).length ≤ l.length
  | [], _ => Nat.le_refl _
  | _ :: _, 0 => Nat.le_succ _
  | _ :: r, i + 1 => Nat.succ_le_succ (len_erase r i)
theorem foldl_rep (its : List Value) : ∀ (k : Nat) (acc : List Value),
    List.foldl (fun x1 x2 => x1 ++ x2) acc.toArray (List.replicate k its.toArray) = (acc ++ (List.replicate k its).flatten).toArray
  | 0, acc => by simp
  | k + 1, acc => by
    have e : acc.toArray ++ its.toArray = (acc ++ its).toArray := by simp
    have e2 : (acc ++ its) ++ (List.replicate k its).flatten = acc ++ (List.replicate (k + 1) its).flatten := by
      rw [List.replicate_succ, List.flatten_cons, List.append_assoc]
    rw [← e2, ← foldl_rep its k (acc ++ its), ← e, List.replicate_succ, List.foldl_cons]

section
variable {X : Cx} {pins : List (Addr × Obj)} {σ : St} {H : Hp} {s : Shared} {l b : Addr} {xs ys zs : List V}

/-! ### the two steps: a tracked list is rewritten, a new list is laid -/
theorem Inv.lset {its its' : List Value} {n : Nat} {f : Array Value → Array Value} {t' : Nat} (I : Inv X pins σ H s) (hH : H l = some (.lst xs))
    (e : s.heap.get? l = some { cls := .type "list", data := .seq its.toArray n }) (hf : f its.toArray = its'.toArray) (hv : Vals ys its') (hz : ys.length ≤ sizeLine) :
    Inv X pins σ (upd H l (.lst ys)) { s with heap := s.heap.update l (Obj.mapSeq f), toks := t' } := by
  have q := PySem.IsL.update e f
  rw [hf] at q
  refine I.write (x := l) (e := l) (by rw [hH]; exact trivial) (.inl rfl) (fun b' u hb hu => (Heap.get?_update_other s.heap (Obj.mapSeq f) (Ne.symm hb)).trans hu) ⟨_, q⟩ ?_
  exact ⟨hz, its', _, hv, q⟩
theorem Inv.lnew {its : List Value} {t' : Nat} (I : Inv X pins σ H s) (hv : Vals ys its) (hz : ys.length ≤ sizeLine) :
    Inv X pins σ (upd H s.heap.objs.size (.lst ys)) { s with heap := s.heap.push { cls := .type "list", data := .seq its.toArray }, toks := t' } :=
  I.laid (fun _ _ q => Heap.get?_push_of_some _ q) (Nat.le_refl _) ⟨hz, its, 0, hv, Heap.get?_push_size _ rfl⟩
theorem Inv.fresh (I : Inv X pins σ H s) : H s.heap.objs.size = none := I.hok.fresh (Nat.le_refl _)
theorem Inv.lstM (I : Inv X pins σ H s) (hH : H l = some (.lst xs)) : xs.length ≤ sizeLine ∧ ∃ (its : List Value) (n : Nat), Vals xs its ∧ xs.length = its.length ∧ s.heap.get? l = some { cls := .type "list", data := .seq its.toArray n } := by
  obtain ⟨z, its, n, r, e⟩ := I.hok l _ hH
  exact ⟨z, its, n, r, r.length, e⟩

theorem notLongL {n : Nat} (h : n ≤ sizeLine) : Builtin.List.listTooLong n = false := by
  unfold Builtin.List.listTooLong
  exact decide_eq_false (by omega)
end

section
variable {X : Cx}

/-! ### methods -/
def rAppend : V → List V → Hp → VK → Prop := fun x vs H Q => ∃ l xs y, x = .ref l ∧ vs = [y] ∧ H l = some (.lst xs) ∧ xs.length < sizeLine ∧ Q .non (upd H l (.lst (xs ++ [y])))
theorem mt_append : MtM X "list.append" rAppend := by
  intro pins s σ H x vs v us Q I rx rv h
  obtain ⟨l, xs, y, rfl, rfl, hH, hz, q⟩ := h
  cases rx
  obtain ⟨u, rfl, ru⟩ := rv.one
  obtain ⟨z, its, n, r, hl, e⟩ := I.lstM hH
  refine call_meets F.slot_list_append ⟨_, e, rfl⟩ F.entry_list_append (F.args_list_append_2 _ _) (PySem.list_append l its.toArray n u (by rw [List.size_toArray]; omega)) ⟨e, ?_⟩
  refine ⟨.non, _, I.lset (its' := its ++ [u]) hH e (by simp) (r.append (.cons ru .nil)) ?_, rfl, q⟩
  rw [List.length_append, List.length_singleton]
  omega

def rExtend : V → List V → Hp → VK → Prop := fun x vs H Q => ∃ l b xs zs, x = .ref l ∧ vs = [.ref b] ∧ H l = some (.lst xs) ∧ H b = some (.lst zs) ∧ xs.length + zs.length ≤ sizeLine ∧ Q .non (upd H l (.lst (xs ++ zs)))
theorem mt_extend : MtM X "list.extend" rExtend := by
  intro pins s σ H x vs v us Q I rx rv h
  obtain ⟨l, b, xs, zs, rfl, rfl, hH, hB, hz, q⟩ := h
  cases rx
  obtain ⟨u, rfl, ru⟩ := rv.one
  cases ru
  obtain ⟨z, its, n, r, hl, e⟩ := I.lstM hH
  obtain ⟨z2, its2, n2, r2, hl2, e2⟩ := I.lstM hB
  have hsz : its.toArray.size + its2.toArray.size ≤ sizeLine := by rw [List.size_toArray, List.size_toArray]; omega
  have hlong : ¬ (!its.toArray.isEmpty && Builtin.List.listTooLong (its.toArray.size + its2.toArray.size)) = true := by
    rw [notLongL hsz, Bool.and_false]
    exact Bool.false_ne_true
  refine call_meets F.slot_list_extend ⟨_, e, rfl⟩ F.entry_list_extend (F.args_list_extend_2 _ _)
    (AutoSeq1.list_extend_list_list_0 l its.toArray n b its2.toArray n2 hlong (by rw [List.size_toArray]; omega) (by omega)) ⟨e, e2, ?_⟩
  refine ⟨.non, _, I.lset (its' := its ++ its2) hH e (by simp) (r.append r2) ?_, rfl, q⟩
  rw [List.length_append]
  omega

def rPop : V → List V → Hp → VK → Prop := fun x vs H Q => ∃ l xs y, x = .ref l ∧ vs = [] ∧ H l = some (.lst xs) ∧ xs[xs.length - 1]? = some y ∧ Q y (upd H l (.lst xs.dropLast))
theorem mt_pop : MtM X "list.pop" rPop := by
  intro pins s σ H x vs v us Q I rx rv h
  obtain ⟨l, xs, y, rfl, rfl, hH, hy, q⟩ := h
  cases rx
  have hus := rv.zero
  subst hus
  obtain ⟨z, its, n, r, hl, e⟩ := I.lstM hH
  obtain ⟨u, hu, ru⟩ := r.get hy
  have hy' : its.toArray[its.toArray.size - 1]? = some u := by
    show its.toArray[its.length - 1]? = some u
    rw [← Array.getElem?_toList, ← hl]
    exact hu
  refine call_meets F.slot_list_pop ⟨_, e, rfl⟩ F.entry_list_pop (F.args_list_pop_1 _) (MeetsSeq.list_pop_last l its.toArray n u hy' (by rw [List.size_toArray]; omega)) ⟨e, ?_⟩
  refine ⟨y, _, I.lset (its' := its.dropLast) hH e ?_ r.dropLast ?_, ru, q⟩
  · show its.toArray.eraseIdxIfInBounds (its.toArray.size - 1) = its.dropLast.toArray
    rw [List.size_toArray, List.eraseIdxIfInBounds_toArray, erase_last]
  · rw [List.length_dropLast]
    omega

def rPopAt : V → List V → Hp → VK → Prop := fun x vs H Q => ∃ l xs i k y, x = .ref l ∧ vs = [.int i] ∧ H l = some (.lst xs) ∧ -(2 ^ 63) ≤ i ∧ i < 2 ^ 63 ∧ seqIndex? i xs.length = some k ∧ xs[k]? = some y ∧ Q y (upd H l (.lst (xs.eraseIdx k)))
theorem mt_popAt : MtM X "list.pop" rPopAt := by
  intro pins s σ H x vs v us Q I rx rv h
  obtain ⟨l, xs, i, k, y, rfl, rfl, hH, h1, h2, hk, hy, q⟩ := h
  cases rx
  obtain ⟨u, rfl, ru⟩ := rv.one
  obtain ⟨t, rfl⟩ := ru
  obtain ⟨z, its, n, r, hl, e⟩ := I.lstM hH
  obtain ⟨w, hw, rw'⟩ := r.get hy
  refine call_meets F.slot_list_pop ⟨_, e, rfl⟩ F.entry_list_pop (F.args_list_pop_2 _ _)
    (MeetsSeq.list_pop_at l its.toArray n i t k w (fitsIndex_both h1 h2) (by rw [List.size_toArray, ← hl]; exact hk) (by rw [← Array.getElem?_toList]; exact hw) (by rw [List.size_toArray]; omega)) ⟨e, ?_⟩
  refine ⟨y, _, I.lset (its' := its.eraseIdx k) hH e ?_ (r.eraseIdx k) ?_, rw', q⟩
  · show its.toArray.eraseIdxIfInBounds k = (its.eraseIdx k).toArray
    rw [List.eraseIdxIfInBounds_toArray]
  · have := len_erase xs k
    omega

def rReverse : V → List V → Hp → VK → Prop := fun x vs H Q => ∃ l xs, x = .ref l ∧ vs = [] ∧ H l = some (.lst xs) ∧ Q .non (upd H l (.lst xs.reverse))
theorem mt_reverse : MtM X "list.reverse" rReverse := by
  intro pins s σ H x vs v us Q I rx rv h
  obtain ⟨l, xs, rfl, rfl, hH, q⟩ := h
  cases rx
  have hus := rv.zero
  subst hus
  obtain ⟨z, its, n, r, hl, e⟩ := I.lstM hH
  refine call_meets F.slot_list_reverse ⟨_, e, rfl⟩ F.entry_list_reverse (F.args_list_reverse_1 _) (AutoSeq1.list_reverse_list_0 l its.toArray n (by rw [List.size_toArray]; omega)) ⟨e, ?_⟩
  refine ⟨.non, _, I.lset (its' := its.reverse) hH e (by simp) r.reverse ?_, rfl, q⟩
  rw [List.length_reverse]
  omega

def rClear : V → List V → Hp → VK → Prop := fun x vs H Q => ∃ l xs, x = .ref l ∧ vs = [] ∧ H l = some (.lst xs) ∧ Q .non (upd H l (.lst []))
theorem mt_clear : MtM X "list.clear" rClear := by
  intro pins s σ H x vs v us Q I rx rv h
  obtain ⟨l, xs, rfl, rfl, hH, q⟩ := h
  cases rx
  have hus := rv.zero
  subst hus
  obtain ⟨z, its, n, r, hl, e⟩ := I.lstM hH
  refine call_meets F.slot_list_clear ⟨_, e, rfl⟩ F.entry_list_clear (F.args_list_clear_1 _) (AutoSeq1.list_clear_list_0 l its.toArray n (by rw [List.size_toArray]; omega)) ⟨e, ?_⟩
  exact ⟨.non, _, I.lset (its' := []) (ys := []) hH e rfl .nil (Nat.zero_le _), rfl, q⟩

/-! ### list + list, list += list, list * int -/
def rCat : R2 := fun x y H Q => ∃ l b xs zs, x = .ref l ∧ y = .ref b ∧ H l = some (.lst xs) ∧ H b = some (.lst zs) ∧ xs.length + zs.length ≤ sizeLine ∧ ∀ p, H p = none → Q (.ref p) (upd H p (.lst (xs ++ zs)))
theorem op_cat : OpR X (binaryOp .Add) rCat := by
  intro pins s σ H x y v u Q I rx ry h
  obtain ⟨l, b, xs, zs, rfl, rfl, hH, hB, hz, q⟩ := h
  cases rx
  cases ry
  obtain ⟨z, its, n, r, hl, e⟩ := I.lstM hH
  obtain ⟨z2, its2, n2, r2, hl2, e2⟩ := I.lstM hB
  refine PySem.P.add_list e e2 ?_ (by rw [List.size_toArray, List.size_toArray]; omega)
  have ea : its.toArray ++ its2.toArray = (its ++ its2).toArray := by simp
  rw [ea]
  exact ⟨.ref _, _, I.lnew (t' := s.toks) (r.append r2) (by rw [List.length_append]; omega), rfl, q _ I.fresh⟩
/-- a list times an int (a negative one is nothing) -/
def rRep : R2 := fun x y H Q => ∃ l k xs, x = .ref l ∧ y = .int k ∧ H l = some (.lst xs) ∧ -(2 ^ 63) ≤ k ∧ k < 2 ^ 63 ∧ xs.length * k.toNat ≤ sizeLine ∧
  ∀ p, H p = none → Q (.ref p) (upd H p (.lst (List.replicate k.toNat xs).flatten))
theorem len_rep {α : Type} (xs : List α) (k : Nat) : (List.replicate k xs).flatten.length = k * xs.length := by
  induction k with
  | zero => simp
  | succ k ih => rw [List.replicate_succ, List.flatten_cons, List.length_append, ih, Nat.succ_mul, Nat.add_comm]
theorem op_rep : OpR X (binaryOp .Mult) rRep := by
  intro pins s σ H x y v u Q I rx ry h
  obtain ⟨l, k, xs, rfl, rfl, hH, h1, h2, hz, q⟩ := h
  cases rx
  obtain ⟨t, rfl⟩ := ry
  obtain ⟨z, its, n, r, hl, e⟩ := I.lstM hH
  have hlen : its.toArray.size * k.toNat ≤ sizeLine := by rw [List.size_toArray, ← hl]; exact hz
  have hcap : ¬ its.toArray.size * k.toNat > (2 ^ 63 - 1) / 8 := by
    have : (sizeLine : Nat) ≤ (2 ^ 63 - 1) / 8 := by decide
    omega
  have hfit : ¬ (!Builtin.List.listFitsIndex k) = true := by
    rw [fitsIndex_both h1 h2]
    exact Bool.false_ne_true
  have hlong : ¬ Builtin.List.listTooLong (its.toArray.size * k.toNat) = true := by
    rw [notLongL hlen]
    exact Bool.false_ne_true
  have hnew : List.foldl (fun x1 x2 => x1 ++ x2) #[] (List.replicate (if its.toArray.isEmpty = true then 0 else k.toNat) its.toArray) = (List.replicate k.toNat its).flatten.toArray := by
    have f0 : ∀ m : Nat, List.foldl (fun x1 x2 => x1 ++ x2) #[] (List.replicate m its.toArray) = (List.replicate m its).flatten.toArray := fun m => by
      have := foldl_rep its m []
      rw [List.nil_append] at this
      exact this
    rw [f0]
    cases its with
    | nil => simp
    | cons a r' => rw [if_neg (by simp)]
  refine wpAny_binaryOp_repeat_ref (T := "list") (U := "int") (by decide) ⟨_, e, rfl⟩ (fun s' => typeIs_int s' k t) noFill_list_mul F.fills_int_mul F.slot_int_rmul repeat_list F.slot_int_index.lookup
    (call_meets F.slot_int_rmul (typeIs_int s k t) F.entry_int_rmul (F.args_int_rmul_2 _ _) (int___rmul___int_list k t l its.toArray n)
      ⟨e, rfl, ⟨_, e, rfl⟩, call_meets F.slot_list_mul ⟨_, e, rfl⟩ F.entry_list_mul (F.args_list_mul_2 _ _) (AutoListH.list___mul___list_int_3 l its.toArray n k t hfit hcap hlong) ⟨e, ?_⟩⟩)
  rw [hnew]
  exact ⟨.ref _, _, I.lnew (t' := s.toks) (r.rep k.toNat) (by rw [len_rep, Nat.mul_comm]; exact hz), rfl, q _ I.fresh⟩

/-! ### del xs[i] -/
theorem del_list {pins : List (Addr × Obj)} {s : Shared} {σ : St} {H : Hp} {l : Addr} {xs : List V} {i : Int} {t : Tok} {k : Nat} {Q : Unit → Shared → Prop} (I : Inv X pins σ H s) (hH : H l = some (.lst xs))
    (h1 : -(2 ^ 63) ≤ i) (h2 : i < 2 ^ 63) (hk : seqIndex? i xs.length = some k) (h : ∀ s', Inv X pins σ (upd H l (.lst (xs.eraseIdx k))) s' → Q () s') :
    wpAny (model X.prog X.w) X.A (delItem (.ref l) (.int i t)) Q X.xe s := by
  obtain ⟨z, its, n, r, hl, e⟩ := I.lstM hH
  refine PySem.P.delItem_list (k := k) e (fitsIndex_both h1 h2) (by rw [List.size_toArray, ← hl]; exact hk) (h _ ?_) (by rw [List.size_toArray]; omega)
  refine I.lset (its' := its.eraseIdx k) (t' := s.toks) hH e ?_ (r.eraseIdx k) ?_
  · show its.toArray.eraseIdxIfInBounds k = (its.eraseIdx k).toArray
    rw [List.eraseIdxIfInBounds_toArray]
  · have := len_erase xs k
    omega
end

/-! ### xs[a:b] = ys -/
section
variable {prog : Program} {w : World} {A : Around} {E : Value → Shared → Prop} {s : Shared}
theorem splice_eq (its its2 : List Value) (a c : Nat) : its.toArray.extract 0 a ++ its2.toArray ++ its.toArray.extract c its.toArray.size = (its.take a ++ its2 ++ its.drop c).toArray := by
  apply Array.toList_inj.mp
  first
    | (simp
       exact List.take_of_length_le (by simp))
    | simp [List.take_of_length_le]
    | simp
theorem bounds_run {a c n : Nat} (hac : a ≤ c) (hc : c ≤ n) : sliceBounds (some (a : Int)) (some (c : Int)) none n = ((a : Int), (c : Int), 1) := by
  simp only [sliceBounds, Option.getD_none]
  have h1 : ¬ ((a : Int) < 0) := by omega
  have h2 : ¬ ((c : Int) < 0) := by omega
  simp only [h1, h2, if_false, show (1 : Int) > 0 by decide, if_true]
  congr 1
  · omega
  · congr 1; omega
set_option maxRecDepth 100000 in
/-- list.__setitem__ with a slice of step one and another list -/
theorem setItem_slice {l b sl : Addr} {items new : Array Value} {n n2 : Nat} {vl vu : Value} {a c : Nat} {Q : Unit → Shared → Prop}
    (e : s.heap.get? l = some { cls := .type "list", data := .seq items n }) (e2 : s.heap.get? b = some { cls := .type "list", data := .seq new n2 }) (hne : l ≠ b)
    (hs : s.heap.IsSliceOf sl vl vu .none) (pl : IsPart vl (some (a : Int))) (pu : IsPart vu (some (c : Int))) (hac : a ≤ c) (hc : c ≤ items.size)
    (hsz : items.size + new.size ≤ sizeLine) (h : Q () { s with heap := s.heap.update l (Obj.mapSeq fun xs => xs.extract 0 a ++ new ++ xs.extract c xs.size) }) :
    wpAny (model prog w) A (setItem (.ref l) (.ref sl) (.ref b)) Q E s := by
  have hl : s.heap.IsList l items := PySem.IsL.isList e
  have hb : s.heap.IsList b new := PySem.IsL.isList e2
  obtain ⟨os, hos, hcs, hds⟩ := id hs
  have hTs : s.TypeIs (.ref sl) "slice" := ⟨os, hos, hcs⟩
  have hstep : ¬ ((rawPart none == rawInt 0) = true) := Bool.false_ne_true
  have hsame : Builtin.List.listSameRef (.ref l) (.ref b) = false := by
    unfold Builtin.List.listSameRef
    exact beq_eq_false_iff_ne.mpr hne
  have hmax : (max (a : Int) (c : Int)).toNat = c := by omega
  have hz' : ((fun xs : Array Value => xs.extract 0 a ++ new ++ xs.extract c xs.size) items).size ≤ sizeLine + 1 := by
    simp only [Array.size_append, Array.size_extract]
    omega
  unfold setItem
  try with_reducible refine wpAny_holding ?_
  first | refine wpAny_bind (wpAny_pure ?_) | skip
  refine wpAny_bind (wpAny_sequenceKey hl.typeIs (by decide) ?_)
  refine wpAny_bind (wpAny_callSpecial?_slot (name := Str.ofString "__setitem__") hl.typeIs slot_list_setitem
    (wpAny_call_entry slot_list_setitem hl.typeIs entry_list_setitem ?_ (args_list_setitem _ _ _)))
  show wpAny _ _ (Builtin.List.listSubscript? (.ref sl) >>= _) _ _ s
  refine wpAny_bind ?_
  unfold Builtin.List.listSubscript?
  refine wpAny_bind (wpAny_specialOf hTs slice_no_index ?_)
  simp only [Option.isNone_none, if_true]
  refine wpAny_pure ?_
  show wpAny _ _ (typeOf (.ref sl) >>= _) _ _ s
  refine wpAny_bind (wpAny_typeOf hTs ?_)
  first
    | rw [if_neg (by decide)]
    | refine PySem.W.KFB.if_not (by decide) ?_
  rw [listSliceParts_eq]
  refine wpAny_bind (wpAny_bind (wpAny_field hos hds (x := .none) rfl (wpAny_bind (wpAny_listPart .none ?_))))
  rw [if_neg hstep]
  refine wpAny_bind (wpAny_field hos hds (x := vl) rfl (wpAny_bind (wpAny_listPart pl ?_)))
  refine wpAny_bind (wpAny_field hos hds (x := vu) rfl (wpAny_bind (wpAny_listPart pu (wpAny_pure ?_))))
  first
    | simp only [hsame, Bool.false_eq_true, if_false]
    | refine PySem.W.KFB.if_not hsame ?_
    | (dsimp only
       rw [if_neg (by rw [hsame]; exact Bool.false_ne_true)])
  refine wpAny_bind (m := Builtin.List.listAllItems (.ref b) "must assign iterable to extended slice") ?_
  unfold Builtin.List.listAllItems
  refine wpAny_bind (wpAny_typeOf hb.typeIs ?_)
  first
    | refine PySem.W.KFB.if_so (by decide) ?_
    | rw [if_pos (by decide)]
    | simp only [beq_self_eq_true, Bool.true_or, if_true]
  unfold Builtin.List.listItems
  refine wpAny_bind (wpAny_seqItems e2 rfl (wpAny_pure ?_))
  refine wpAny_bind (wpAny_bind (wpAny_seqItems e rfl (wpAny_pure ?_)))
  refine wpAny_bind (wpAny_of_eq ((sliceIndices_raw (some (a : Int)) (some (c : Int)) none items.size (by simp)).trans (congrArg (pure : Int × Int × Int → Sem (Int × Int × Int)) (bounds_run hac hc))) ?_)
  show wpAny _ _ (if ((1 : Int) == 1) = true then _ else _) _ _ s
  rw [if_pos (by decide)]
  refine wpAny_bind (wpAny_rule ?_)
  first
    | simp only [notLongL hsz, Bool.false_eq_true, if_false]
    | refine PySem.W.KFB.if_not (notLongL hsz) ?_
  first | refine wpAny_bind (wpAny_pure ?_) | skip
  show wpAny _ _ (updateSeq l (fun xs => xs.extract 0 ((a : Int)).toNat ++ new ++ xs.extract (max (a : Int) (c : Int)).toNat xs.size) >>= _) _ _ s
  rw [hmax, Int.toNat_natCast]
  refine wpAny_bind (wpAny_updateSeq (hz := Nat.le_trans (Nat.le_add_right _ _) hsz) (_hz' := hz') e rfl ?_)
  refine wpAny_bind (wpAny_letGo ?_)
  first
    | exact wpAny_bind (wpAny_pure (wpAny_pure ⟨.none, rfl, wpAny_pure h⟩))
    | exact wpAny_pure ⟨.none, rfl, wpAny_pure h⟩
end

section
variable {X : Cx}
/-- xs[a:c] = ys of another list, at the value level: sl is the slice object that was just made -/
theorem set_slice {pins : List (Addr × Obj)} {s : Shared} {σ : St} {H : Hp} {l b sl : Addr} {xs ys : List V} {a c : Int} {vl vu : Value} {Q : Unit → Shared → Prop} (I : Inv X pins σ H s)
    (hH : H l = some (.lst xs)) (hB : H b = some (.lst ys)) (hne : l ≠ b) (hs : s.heap.IsSliceOf sl vl vu .none) (ra : RelV (.int a) vl) (rc : RelV (.int c) vu) (h0 : 0 ≤ a) (hac : a ≤ c) (hc : c ≤ xs.length)
    (hz : xs.length + ys.length ≤ sizeLine) (h : ∀ s', Inv X pins σ (upd H l (.lst (xs.take a.toNat ++ ys ++ xs.drop c.toNat))) s' → Q () s') :
    wpAny (model X.prog X.w) X.A (setItem (.ref l) (.ref sl) (.ref b)) Q X.xe s := by
  obtain ⟨ta, rfl⟩ := ra
  obtain ⟨tc, rfl⟩ := rc
  obtain ⟨z, its, n, r, hl, e⟩ := I.lstM hH
  obtain ⟨z2, its2, n2, r2, hl2, e2⟩ := I.lstM hB
  obtain ⟨a', rfl⟩ := Int.eq_ofNat_of_zero_le h0
  obtain ⟨c', rfl⟩ := Int.eq_ofNat_of_zero_le (Int.le_trans h0 hac)
  simp only [Int.toNat_natCast] at h
  refine setItem_slice (a := a') (c := c') e e2 hne hs (.int _ _) (.int _ _) (by omega) (by rw [List.size_toArray]; omega) (by rw [List.size_toArray, List.size_toArray]; omega) (h _ ?_)
  refine I.lset (its' := its.take a' ++ its2 ++ its.drop c') (t' := s.toks) hH e ?_ (Vals.append (Vals.append (r.take _) r2) (r.drop _)) ?_
  · exact splice_eq its its2 a' c'
  · rw [List.length_append, List.length_append, List.length_take, List.length_drop]
    omega
end
end L2

namespace Att
open PySem PySem.W PySem.Calls PyProof.Rows

/-! ### the script -/
theorem ints_of_wellAll {P : Params} {h : Heap} : ∀ (ns : List Int) (vs : List Value), WellAll P h vs (ns.map WData.int) → IntsAre vs ns := by
  intro ns
  induction ns with
  | nil =>
    intro vs w
    rw [List.map_nil] at w
    cases w
    exact .nil
  | cons n ns ih =>
    intro vs w
    rw [List.map_cons] at w
    cases w with
    | cons a b =>
      cases a
      exact .cons _ _ (ih _ b)

theorem script_of {l : OpenLaw} {n : Nat} (hn : l.most = some n) {P : Params} {h : Heap} {args : List WData} {vals : List Value}
    (hpre : l.row.toRowW.claim.pre args = true) (hwl : WellAll P h vals args) :
    ∃ a vs ns, vals = [Value.ref a] ∧ args = [WData.list (ns.map WData.int)] ∧ h.get? a = some { cls := .type "list", data := .seq vs.toArray } ∧ IntsAre vs ns ∧ ns.length ≤ n := by
  have hsh : WShape.hasAll [] args [.list .int] = true := (pre_splitW hpre).1
  have hc : l.pre.holds [] { args := args } = true := (pre_splitW hpre).2
  obtain ⟨d, r, rfl, h1, h2⟩ := hasAllW_cons hsh
  obtain rfl := hasAllW_nil h2
  obtain ⟨xs, rfl, h3⟩ := hasW_list h1
  obtain ⟨ns, rfl⟩ := items_int h3
  have hlen : ns.length ≤ n := by
    unfold OpenLaw.pre at hc
    have h4 : (WTm.not (.lt (.lit (.int (n : Int))) (.len (.arg 0)))).holds [] { args := [.list (ns.map .int)] } = true := by
      have h4 := (holds_andW hc).1
      rw [hn] at h4
      exact h4
    have h5 := condW_of h4 (w_not (w_lt w_lit (w_len_list (w_arg rfl))))
    rw [List.length_map] at h5
    refine Nat.le_of_not_lt fun q => ?_
    have q' : (n : Int) < ((ns.length : Nat) : Int) := by omega
    first
      | (rw [decide_eq_true q'] at h5; exact absurd h5 (by decide))
      | (simp at h5; omega)
  cases hwl with
  | cons w1 w2 =>
    cases w2
    cases w1 with
    | list ho hall => exact ⟨_, _, ns, rfl, rfl, ho, ints_of_wellAll ns _ hall, hlen⟩

theorem post_true (l : OpenLaw) (args : List WData) : l.row.toRowW.claim.post args (.bool true) args = true :=
  postW_of (r := l.row.toRowW) (X := (true == true))
    (show WShape.has [] (.bool true) .bool = true by first | rfl | decide | simp [WShape.has, WShape.arms, WShape.armsAll])
    (show (WTm.eq .res (.lit (.bool true))).value [] { args := args, res := some (.bool true), after := args } = some (.bool (true == true)) from w_eq_bool (w_res rfl) w_lit) rfl

/-! ### the attachment: holds_open's last premise (the goal 'hc' behind k_head) from a wpAny of the law's body -/
theorem attach {l : OpenLaw} {n : Nat} {q : Program} {loose : List Str} {XP : (Str → Option Value) → Heap → Prop} {YP : World → Heap → Prop} {d : DefRec} {x : Str}
    (hn : l.most = some n) (hdf : d.params.defaults = [])
    (hbind : ∀ pm cd doc v : Value, bindArgs (docDef d.name d.params d.body d.scope pm cd doc) ⟨[v], []⟩ = pure [(x, v)])
    (hx : d.scope.names.lookup x = some .local ∨ d.scope.names.lookup x = some .cell)
    (hk : d.scope.kind = .function) (hco : d.scope.isCoroutine = false) (hgen : d.scope.isGenerator = false)
    (body : ∀ (w : World) (s₀ s₁ s : Shared) (mg mb : Str → Option Value) (fa : Addr) (o : Obj) (pm cd doc : Value) (a : Addr) (vs : List Value) (ns : List Int),
      Ground q loose [] XP w s₀ mg mb s₁.heap → YP w s₁.heap →
      s₁.heap.get? fa = some o → o.data = .func (docDef d.name d.params d.body d.scope pm cd doc) → s₁.heap.CodeRec cd d.name → mg d.name = some (.ref fa) →
      s₁.heap.get? a = some { cls := .type "list", data := .seq vs.toArray } → IntsAre vs ns → ns.length ≤ n →
      s.gens = #[] → s.os = s₁.os →
      Fr s₁.heap s₁.heap.objs.size s.heap (bindL (envOfC d.name d.scope s₁.heap.objs.size fa cd).kindOf [(x, .ref a)] fun _ => none) →
      Cl s₁.heap.objs.size (cellsFrom (s₁.heap.objs.size + 1) d.scope.names []) s.heap (bindC (envOfC d.name d.scope s₁.heap.objs.size fa cd).kindOf [(x, .ref a)] fun _ => none) →
      wpAny (model l.prog w) (callerA.deeper (envOfC d.name d.scope s₁.heap.objs.size fa cd)) (execs d.body (envOfC d.name d.scope s₁.heap.objs.size fa cd))
        (fun f s' => f = .ret (.bool true) ∧ OldK s₁.heap s'.heap ∧ s'.os = s₁.os ∧ AllBare s'.gens) (fun _ _ => False) s) :
    WalkO q loose XP YP l.row.toRowW d [] (fun f vs => PySem.call f vs) := by
  intro w s₀ s₁ mg mb G Y fa o pm cd doc dV kV ho hd hcd hD hmg hg args vals as hpre hlay hrd hwl hlo
  obtain rfl : dV = .none := Dflts.none hD hdf
  obtain rfl : kV = .none := Dflts.noKw hD
  obtain ⟨a, vs, ns, rfl, rfl, hobj, hints, hlen⟩ := script_of hn hpre hwl
  refine enter_call ?_
  refine call_cells_ret (o := o) (by rw [depth_caller]; decide) ho (fd_plain hd) G.T.nolimit hcd (hbind pm cd doc (.ref a)) (fun y hy => ?_) (fun h₁ tk F X => ?_) hco hgen hk
  · obtain rfl : y = (x, Value.ref a) := List.mem_singleton.mp hy
    rcases hx with e | e
    · exact .inl e
    · exact .inr ⟨e, cellsFrom_some _ _ _ (.inl e)⟩
  · refine wpAny_mono (body w s₀ s₁ { s₁ with heap := h₁, toks := tk } mg mb fa o pm cd doc a vs ns G Y ho (fd_plain hd) hcd hmg hobj hints hlen hg rfl F X) (fun f s' hq => ?_) (fun _ _ hq => hq)
    obtain ⟨rfl, h2, h3, h4⟩ := hq
    exact ⟨.inl ⟨.bool true, .bool true, [], rfl, fun _ => rfl, .bool true, post_true l _, fun _ => ⟨List.Pairwise.nil, fun _ hm => (nomatch hm)⟩⟩, h2, h3, h4⟩

/-- the same from a codeAny of the CALL (for a layer whose function contracts speak of calls) -/
theorem attach_call {l : OpenLaw} {n : Nat} {q : Program} {loose : List Str} {XP : (Str → Option Value) → Heap → Prop} {YP : World → Heap → Prop} {d : DefRec}
    (hn : l.most = some n) (hdf : d.params.defaults = [])
    (call : ∀ (w : World) (s₀ s₁ : Shared) (mg mb : Str → Option Value) (fa : Addr) (o : Obj) (pm cd doc : Value) (a : Addr) (vs : List Value) (ns : List Int),
      Ground q loose [] XP w s₀ mg mb s₁.heap → YP w s₁.heap →
      s₁.heap.get? fa = some o → o.data = .func (docDef d.name d.params d.body d.scope pm cd doc) → s₁.heap.CodeRec cd d.name → mg d.name = some (.ref fa) →
      s₁.heap.get? a = some { cls := .type "list", data := .seq vs.toArray } → IntsAre vs ns → ns.length ≤ n → s₁.gens = #[] →
      codeAny (model l.prog w) callerA (.call (.ref fa) ⟨[.ref a], []⟩) (fun r s' => r = .ok (.ret (.bool true)) ∧ OldK s₁.heap s'.heap ∧ s'.os = s₁.os ∧ AllBare s'.gens) s₁) :
    WalkO q loose XP YP l.row.toRowW d [] (fun f vs => PySem.call f vs) := by
  intro w s₀ s₁ mg mb G Y fa o pm cd doc dV kV ho hd hcd hD hmg hg args vals as hpre hlay hrd hwl hlo
  obtain rfl : dV = .none := Dflts.none hD hdf
  obtain rfl : kV = .none := Dflts.noKw hD
  obtain ⟨a, vs, ns, rfl, rfl, hobj, hints, hlen⟩ := script_of hn hpre hwl
  refine enter_call (codeAny_mono (call w s₀ s₁ mg mb fa o pm cd doc a vs ns G Y ho (fd_plain hd) hcd hmg hobj hints hlen hg) fun r s' hq => ?_)
  obtain ⟨rfl, h2, h3, h4⟩ := hq
  exact ⟨.inl ⟨.bool true, .bool true, [], rfl, fun _ => rfl, .bool true, post_true l _, fun _ => ⟨List.Pairwise.nil, fun _ hm => (nomatch hm)⟩⟩, h2, h3, h4⟩

/-- the same where the top left finished generators (o_head chose holds_openN): nothing may have changed at all and no generator may be left -/
theorem attachN {l : OpenLaw} {n : Nat} {q : Program} {loose : List Str} {XP : (Str → Option Value) → Heap → Prop} {YP : World → Heap → Prop} {d : DefRec} {x : Str}
    (hn : l.most = some n) (hdf : d.params.defaults = [])
    (hbind : ∀ pm cd doc v : Value, bindArgs (docDef d.name d.params d.body d.scope pm cd doc) ⟨[v], []⟩ = pure [(x, v)])
    (hx : d.scope.names.lookup x = some .local ∨ d.scope.names.lookup x = some .cell)
    (hk : d.scope.kind = .function) (hco : d.scope.isCoroutine = false) (hgen : d.scope.isGenerator = false)
    (body : ∀ (w : World) (s₀ s₁ s : Shared) (mg mb : Str → Option Value) (fa : Addr) (o : Obj) (pm cd doc : Value) (a : Addr) (vs : List Value) (ns : List Int),
      Ground q loose [] XP w s₀ mg mb s₁.heap → YP w s₁.heap →
      s₁.heap.get? fa = some o → o.data = .func (docDef d.name d.params d.body d.scope pm cd doc) → s₁.heap.CodeRec cd d.name → mg d.name = some (.ref fa) →
      s₁.heap.get? a = some { cls := .type "list", data := .seq vs.toArray } → IntsAre vs ns → ns.length ≤ n →
      s.gens = #[] → s.os = s₁.os →
      Fr s₁.heap s₁.heap.objs.size s.heap (bindL (envOfC d.name d.scope s₁.heap.objs.size fa cd).kindOf [(x, .ref a)] fun _ => none) →
      Cl s₁.heap.objs.size (cellsFrom (s₁.heap.objs.size + 1) d.scope.names []) s.heap (bindC (envOfC d.name d.scope s₁.heap.objs.size fa cd).kindOf [(x, .ref a)] fun _ => none) →
      wpAny (model l.prog w) (callerA.deeper (envOfC d.name d.scope s₁.heap.objs.size fa cd)) (execs d.body (envOfC d.name d.scope s₁.heap.objs.size fa cd))
        (fun f s' => f = .ret (.bool true) ∧ (∀ b o, s₁.heap.get? b = some o → s'.heap.get? b = some o) ∧ s'.os = s₁.os ∧ s'.gens = #[]) (fun _ _ => False) s) :
    WalkN q loose XP YP l.row.toRowW d [] (fun f vs => PySem.call f vs) := by
  intro w s₀ s₁ mg mb G Y fa o pm cd doc dV kV ho hd hcd hD hmg hg args vals as hpre hlay hrd hwl hlo
  obtain rfl : dV = .none := Dflts.none hD hdf
  obtain rfl : kV = .none := Dflts.noKw hD
  obtain ⟨a, vs, ns, rfl, rfl, hobj, hints, hlen⟩ := script_of hn hpre hwl
  refine enter_callW ?_
  refine call_cells_ret (o := o) (by rw [depth_caller]; decide) ho (fd_plain hd) G.T.nolimit hcd (hbind pm cd doc (.ref a)) (fun y hy => ?_) (fun h₁ tk F X => ?_) hco hgen hk
  · obtain rfl : y = (x, Value.ref a) := List.mem_singleton.mp hy
    rcases hx with e | e
    · exact .inl e
    · exact .inr ⟨e, cellsFrom_some _ _ _ (.inl e)⟩
  · refine wpAny_mono (body w s₀ s₁ { s₁ with heap := h₁, toks := tk } mg mb fa o pm cd doc a vs ns G Y ho (fd_plain hd) hcd hmg hobj hints hlen hg rfl F X) (fun f s' hq => ?_) (fun _ _ hq => hq)
    obtain ⟨rfl, h2, h3, h4⟩ := hq
    exact ⟨.inl ⟨.bool true, .bool true, [], rfl, fun _ => rfl, .bool true, post_true l _, fun _ => ⟨List.Pairwise.nil, fun _ hm => (nomatch hm)⟩⟩, h2, h3, h4⟩

/-! ### rules over ANY heap (no ledger) from facts about the written part K: the library's own take a ledger (News) for what they write -/
section
variable {prog : Program} {w : World} {A : Around} {E : Value → Shared → Prop} {s : Shared} {K : Frag}

/-- a def of the module, or a method (qual 'C.m'), entered: the frame is the next address; cells behind it -/
theorem call_fn {R : Result → Shared → Prop} {name qual : Str} {params : Arguments} {body : List Stmt} {scope : Scope} {dV kV doc pm cdv ct oc : Value} {an od : Option Addr} {osl : Array (Option Value)} {f : Addr} {args : Args} {binds : List (Str × Value)}
    (X : K.In s.heap) (hlim : s.heap.NoLimit) (ho : K.lookup f = some ⟨oc, od, .func (fnOf name qual params body scope dV kV doc pm an cdv ct), osl⟩) (hcd : codeIn K cdv qual = true) (hroom : A.depth < recursionLimit)
    (hbind : BindsTo s (fnOf name qual params body scope dV kV doc pm an cdv ct) args binds)
    (hkind : (binds.all fun y => scope.names.lookup y.1 == some .local || scope.names.lookup y.1 == some .cell) = true)
    (h : ∀ s₁, InCallC s s.heap.objs.size (bindL (envOfC qual scope s.heap.objs.size f cdv).kindOf binds fun _ => none) (cellsFrom (s.heap.objs.size + 1) scope.names [])
        (bindC (envOfC qual scope s.heap.objs.size f cdv).kindOf binds fun _ => none) s₁ →
      wpAny (model prog w) (A.deeper (envOfC qual scope s.heap.objs.size f cdv)) (execs body (envOfC qual scope s.heap.objs.size f cdv))
        (fun fl s' => R (.ok (.ret (match fl with | .ret v => v | _ => .none))) s')
        (fun e s' => wpAny (model prog w) (A.deeper (envOfC qual scope s.heap.objs.size f cdv)) (leaving (envOfC qual scope s.heap.objs.size f cdv) e) (fun _ s'' => R (.error e) s'') (fun e' s'' => R (.error e') s'') s') s₁)
    (hco : scope.isCoroutine = false) (hgen : scope.isGenerator = false) (hk : scope.kind = .function) : codeAny (model prog w) A (.call (.ref f) args) R s := by
  refine codeAny_call_function hroom (X _ _ ho) rfl hco hgen rfl (codeRec_of X hcd) (hbind _ _ _ _ ?_)
  refine wpAny_newFunctionEnv_cells hk (kindsX hkind _) fun env he s₁ x => ?_
  subst he
  exact ⟨hlim.keeps x.toInCall.keep, codeAny_func (h s₁ x)⟩

/-- C(..): dict at size, instance at size + 1, then __init__ -/
theorem make_obj {R : Result → Shared → Prop} {C fI : Addr} {rest : List Value} {kw : List (Str × Value)}
    (X : K.In s.heap) (hm : makesIn K C = true) (hi : findIn K (.ref C) "__init__" = some (some (.ref fI))) (hf : isFn K (.ref fI) = true)
    (h : codeAny (model prog w) (A.under (.builtin "type.__call__" ⟨.ref C :: rest, kw⟩)) (.call (.ref fI) ⟨.ref (s.heap.objs.size + 1) :: rest, kw⟩) (InitBack (s.heap.objs.size + 1) R)
      { s with heap := (s.heap.push emptyDict).push (instObj C s.heap.objs.size) }) : codeAny (model prog w) A (.call (.ref C) ⟨rest, kw⟩) R s := by
  obtain ⟨hh, g, d, t, os⟩ := s
  exact make_core (makes_of X hm) (looks_findIn X hi) (fun self => bind_fn X self (beq_iff_eq.mp hf)) (.inl rfl) h

/-- x.name where the instance's dict holds the name and the class does not -/
theorem get_field {x C : Addr} {ox : Obj} {es : List DictEntry} {n : Nat} {name : Str} {expr : Bool} {v : Value} {Q : Value → Shared → Prop}
    (X : K.In s.heap) (I : PySem.W.InstAt s.heap x ox C (some (dictOf es n))) (hg : plainGet K C name = true) (hh : hasDictIn K C = true) (ha : findIn K (.ref C) name = some none)
    (hl : getL name es = some (some v)) (hv : handedIn v = true) (h : Q v { s with toks := s.toks + 1 }) : wpAny (model prog w) A (getAttr (.ref x) name expr) Q E s :=
  get_value X I (plainGet_of hg).1 (findObj_own hh ha rfl hl) hv h

/-- x.m(..): the method found in the class -/
theorem get_method {x C f : Addr} {ox : Obj} {es : List DictEntry} {n : Nat} {name : Str} {pl : Sem Bool} {Q : Value × List Value → Shared → Prop}
    (X : K.In s.heap) (I : PySem.W.InstAt s.heap x ox C (some (dictOf es n))) (hg : plainGet K C name = true) (hf : findIn K (.ref C) name = some (some (.ref f))) (ht : isFn K (.ref f) = true)
    (hl : getL name es = some none) (h : Q (.ref f, [.ref x]) s) : wpAny (model prog w) A (getMethod (.ref x) name pl) Q E s :=
  method_fn X I (plainGet_of hg).1 (plainGet_of hg).2 hf (beq_iff_eq.mp ht) (by show (lookIn name (dictOf es n)).map _ = _; rw [lookIn_dict, hl]; rfl) h

/-! the whole heap as the ledger: makes every rule that writes through a ledger a rule over any heap -/
def noObjs (h : Heap) : Heap := { h with objs := #[] }
theorem noObjs_get (h : Heap) (b : Addr) : (noObjs h).get? b = none := by
  cases e : (noObjs h).get? b with
  | none => rfl
  | some o => exact absurd (Heap.lt_size e) (Nat.not_lt_zero _)
def ledger (h : Heap) (L d : Addr) : List (Addr × Obj) := (List.range h.objs.size).filterMap fun a => if a = L ∨ a = d then none else (h.get? a).map fun o => (a, o)
theorem mem_ledger {h : Heap} {L d a : Addr} {o : Obj} : (a, o) ∈ ledger h L d ↔ a ≠ L ∧ a ≠ d ∧ h.get? a = some o := by
  unfold ledger
  rw [List.mem_filterMap]
  constructor
  · rintro ⟨b, _, e⟩
    split at e
    · cases e
    · rename_i hb
      obtain ⟨o', ho, e'⟩ := Option.map_eq_some_iff.mp e
      cases e'
      exact ⟨fun q => hb (.inl q), fun q => hb (.inr q), ho⟩
  · rintro ⟨n1, n2, ho⟩
    refine ⟨a, List.mem_range.mpr (Heap.lt_size ho), ?_⟩
    rw [if_neg (show ¬ (a = L ∨ a = d) from fun q => q.elim n1 n2), ho] <;> rfl
theorem news_ledger {h : Heap} {L d : Addr} {od : Obj} (hne : d ≠ L) (ho : h.get? d = some od) : News (noObjs h) L h ([] ++ (d, od) :: ledger h L d) := by
  rintro ⟨a, o⟩ hp
  rcases List.mem_cons.mp hp with e | hp
  · cases e
    exact ⟨ho, hne, noObjs_get _ _⟩
  · obtain ⟨n1, n2, e⟩ := mem_ledger.mp hp
    exact ⟨e, n1, noObjs_get _ _⟩
theorem fr_all {h : Heap} {L : Addr} {m : Str → Option Value} (n : h.Ns L m) : Fr (noObjs h) L h m :=
  ⟨n, fun b o e => (by rw [noObjs_get] at e; cases e), Nat.zero_le _⟩
/-- Upd of the head entry (for append_K, setItem_K ..) -/
theorem upd_ledger {h : Heap} {L d : Addr} {o o' : Obj} : Upd d o o' ((d, o) :: ledger h L d) ((d, o') :: ledger h L d) :=
  .head fun ⟨_, _⟩ hp => (mem_ledger.mp hp).2.1

/-- x.name = v over any heap: L is any namespace of the heap (the frame's, say): its map stays, its object is not told; all else but the dict stays -/
theorem set_field {x C dx L : Addr} {ox : Obj} {m : Str → Option Value} {es es' : List DictEntry} {n n' : Nat} {name : Str} {v : Value} {Q : Unit → Shared → Prop}
    (X : K.In s.heap) (I : PySem.W.InstAt s.heap x ox C (some (dictOf es n))) (hd : ox.dict = some dx) (hL : s.heap.Ns L m) (hne : dx ≠ L)
    (hs : findIn K (.ref C) "__setattr__" = some (some (.builtin "object.__setattr__"))) (hp : plainOver K C = true) (ht : takerIn K C name = some none) (hh : hasDictIn K C = true) (hl : (getL name es).isSome = true)
    (e : (putL name (PyData.keyHash w.params name) (.str name (s.toks + 1)) v es, putN name es n) = (es', n')) (hz : es'.length ≤ 1000)
    (h : ∀ h' : Heap, h'.Ns L m → h'.get? dx = some (dictOf es' n') → (∀ b o, b ≠ dx → b ≠ L → s.heap.get? b = some o → h'.get? b = some o) → Q () { s with heap := h', toks := s.toks + 2 }) :
    wpAny (model prog w) A (setAttr (.ref x) name v) Q E s := by
  obtain ⟨e1, e2⟩ := Prod.mk.inj e
  have hdx : s.heap.get? dx = some (dictOf es n) := by
    have := I.dict
    rw [hd] at this
    exact this
  refine set_plain X I hs (osa_dict (s := { s with toks := s.toks + 1 }) (h₀ := noObjs s.heap) (L := L) (m := m) (od := dictOf es n) (od' := dictOf es' n') (es := es') (n := n') (pre := []) (post := ledger s.heap L dx)
    (fr_all hL) (news_ledger hne hdx) X I hd hp ht hh hl (fun _ q => nomatch q) (fun ⟨_, _⟩ q => (mem_ledger.mp q).2.1) (by rw [putName_dict, e1, e2]) rfl hz fun h' F' N' => ?_)
  exact h h' F'.ns (N'.get (List.Mem.head _)) fun b o n1 n2 ho => N'.get (List.Mem.tail _ (mem_ledger.mpr ⟨n2, n1, ho⟩))
end
end Att

namespace L2
open PySem PySem.Spec PyProof.Rows

theorem vals_ints : ∀ {vs : List Value} {ns : List Int}, IntsAre vs ns → Vals (ns.map V.int) vs
  | _, _, .nil => .nil
  | _, _, .cons n t h => .cons ⟨t, rfl⟩ (vals_ints h)

/-- nothing is tracked but the script, known to the object (or it is an object of the module) -/
def Only (H : Hp) : Prop := ∀ b, H b = none ∨ ∃ o xs, H b = some (.frz o (.lst xs))

/-- THE HEAD: the law's promise, at the heap behind the top. F, the promise of the law's def, may use that base is part of the heap (so K.In base, base.Ns mainGlobals mg stand in Mod) -/
theorem law_call {P : Program} {w : World} {K : PySem.W.Frag} {mg mb : Str → Option Value} {CX : CXT} {k : Nat} {fa a : Addr} {fd : FuncData} {x : Str} {sp : Sp} {s₁ : Shared} {vs : List Value} {ns : List Int}
    (KX : K.In s₁.heap) (hns : s₁.heap.Ns mainGlobals mg) (hb : s₁.heap.Ns builtinsNs mb) (hbb : ∀ x : Str, x ≠ "__name__" → mb x = bootBuiltins x) (hlim : s₁.heap.NoLimit) (hg : s₁.gens = #[])
    (ha : s₁.heap.get? a = some { cls := .type "list", data := .seq vs.toArray }) (hi : IntsAre vs ns) (hl : ns.length ≤ sizeLine) (hr : Room k callerA)
    (F : ∀ base : Heap, K.In base → base.Ns mainGlobals mg → FnOk P w K mg base CX k fa fd [x] sp) (hbind : ∀ (s : Shared) (u : Value), BindsTo s fd ⟨[u], []⟩ [(x, u)])
    (hsp : ∀ H : Hp, Only H → SqL K H a (ns.map V.int) → sp [.ref a] H (fun v _ => v = .bl true) fun _ _ _ => False)
    (hCX : ∀ H e s', CX [] H s₁ (fun _ _ _ => False) e s' → False) :
    codeAny (model P w) callerA (.call (.ref fa) ⟨[.ref a], []⟩) (fun r s' => r = .ok (.ret (.bool true)) ∧ OldK s₁.heap s'.heap ∧ s'.os = s₁.os ∧ AllBare s'.gens) s₁ := by
  have rv := vals_ints hi
  have lenV := hi.length
  -- from an abstract heap in which nothing but the script may be tracked
  have core : ∀ H : Hp, Only H → SqL K H a (ns.map V.int) → HOk P w H s₁.heap → (∀ b, H b ≠ none → b = a) → (H a ≠ none → K.lookup a = none) →
      codeAny (model P w) callerA (.call (.ref fa) ⟨[.ref a], []⟩) (fun r s' => r = .ok (.ret (.bool true)) ∧ OldK s₁.heap s'.heap ∧ s'.os = s₁.os ∧ AllBare s'.gens) s₁ := by
    intro H hO hS hok hA hK
    have base_of : ∀ {b : Addr} {o : Obj}, s₁.heap.get? b = some o → H b = none → (hidT s₁.heap H).get? b = some o := fun e n => hidT_get e n
    have noA : ∀ {b : Addr} {o : Obj} {es : Array DictEntry} {ep : Nat}, s₁.heap.get? b = some o → o.data = .dict es ep → H b = none := fun {b o es ep} e d => by
      cases q : H b with
      | none => rfl
      | some u =>
        have e' : b = a := hA b (by rw [q]; simp)
        subst e'
        rw [ha] at e; cases e
        have d' : Data.seq vs.toArray _ = Data.dict es ep := d
        cases d'
    have nsK : ∀ {b : Addr} {m : Str → Option Value}, s₁.heap.Ns b m → (hidT s₁.heap H).Ns b m := fun {b m} ⟨o, es, ep, e, d, r⟩ => ⟨o, es, ep, base_of e (noA e d), d, r⟩
    have hKb : K.In (hidT s₁.heap H) := fun b o e => base_of (KX b o e) (by
      cases q : H b with
      | none => rfl
      | some u =>
        have e' : b = a := hA b (by rw [q]; simp)
        subst e'
        rw [hK (by rw [q]; simp)] at e; cases e)
    have hM : Mod K mg (hidT s₁.heap H) := ⟨hKb, nsK hns, ⟨mb, nsK hb, hbb⟩, let ⟨mc, h1, h2⟩ := hlim; ⟨mc, nsK h1, h2⟩⟩
    have e0 : Env0 P w K mg (hidT s₁.heap H) callerA [] s₁ H := ⟨rfl, hM, fun b o e => of_hidT e, Nat.le_of_eq (hidT_size _ _), trivial, fun b hb => absurd (show b ∈ ([] : List Addr) from hb) (by simp), hok, .of_eq hg⟩
    refine codeAny_mono ((F _ hKb (nsK hns)).run callerA [] s₁ H ⟨[.ref a], []⟩ [.ref a] [.ref a] _ _ hr e0 (hbind s₁ (.ref a)) (.cons rfl .nil) (hsp H hO hS)) fun r s' h => ?_
    cases r with
    | error e => exact (hCX H e s' h).elim
    | ok fl =>
      cases fl with
      | next => exact False.elim h
      | brk => exact False.elim h
      | cont => exact False.elim h
      | ret u =>
        obtain ⟨v, H', os, bare, un, hok', r', q⟩ := h
        have q' : v = .bl true := q
        subst q'
        obtain rfl : u = Value.bool true := r'
        refine ⟨rfl, OldK.of_keep fun b o e => ?_, os, bare⟩
        cases q : H b with
        | none => exact un.keep b o e q (by intro z; exact absurd (show b ∈ ([] : List Addr) from z) (by simp)) (by simp)
        | some u =>
          rcases hO b with z | ⟨ob, xs, z⟩
          · rw [q] at z; cases z
          · have z2 := un.frzs b ob _ z
            obtain ⟨e1, _⟩ := hok b _ z
            obtain ⟨e2, _⟩ := hok' b _ z2
            rw [e] at e1; cases e1
            exact e2
  cases hk : K.lookup a with
  | some o =>
    -- the script is one of the module's own objects
    have e := KX a o hk
    rw [ha] at e
    cases e
    refine core (fun _ => none) (fun _ => .inl rfl) (.inr ⟨_, vs.toArray, _, hk, rfl, rfl, rfl, by rw [List.size_toArray, lenV]; exact hl, by simpa using rv⟩) (fun b u z => by have z' : (none : Option HO) = some u := z; cases z') (fun b z => absurd rfl z) fun z => absurd rfl z
  | none =>
    refine core (fun b => if b = a then some (.frz { cls := .type "list", data := .seq vs.toArray } (.lst (ns.map V.int))) else none) (fun b => ?_) (.inl (.inr ⟨{ cls := .type "list", data := .seq vs.toArray }, if_pos rfl⟩)) (fun b u z => ?_) (fun b z => ?_) fun _ => hk
    · by_cases hb : b = a
      · exact .inr ⟨_, _, if_pos hb⟩
      · exact .inl (if_neg hb)
    · by_cases hb : b = a
      · have z' := (if_pos hb).symm.trans z
        cases z'
        subst hb
        exact ⟨ha, by rw [List.length_map]; exact hl, vs, _, rv, ha⟩
      · have z' := (if_neg hb).symm.trans z
        cases z'
    · by_cases hb : b = a
      · exact hb
      · exact absurd (if_neg hb) z
end L2

namespace L2
open PySem PySem.Spec PyProof.Rows

abbrev KOf {K : PySem.W.Frag} {h : Heap} (_ : K.In h) : PySem.W.Frag := K

/-- the goal that k_head leaves (case hc), from the law's promise. F gives the function object fd (K's own) once, then the promise over every base -/
theorem walk_of {l : PySem.W.OpenLaw} {n k : Nat} {q : Program} {loose : List Str} {XP : (Str → Option Value) → Heap → Prop} {YP : World → Heap → Prop} {d : DefRec} {K : Params → PySem.W.Frag} {CX : World → CXT} {sp : World → Sp} {x : Str}
    (hn : l.most = some n) (hn2 : n ≤ sizeLine) (hdf : d.params.defaults = []) (hr : Room k callerA)
    (hY : ∀ (w : World) (h : Heap), YP w h → (K w.params).In h)
    (F : ∀ (w : World) (mg : Str → Option Value) (fa : Addr) (h : Heap), (K w.params).In h → h.Ns mainGlobals mg → mg d.name = some (.ref fa) →
      ∃ fd : FuncData, (∀ (s : Shared) (u : Value), BindsTo s fd ⟨[u], []⟩ [(x, u)]) ∧
        ∀ base : Heap, (K w.params).In base → base.Ns mainGlobals mg → FnOk l.prog w (K w.params) mg base (CX w) k fa fd [x] (sp w))
    (hsp : ∀ (w : World) (H : Hp) (a : Addr) (ns : List Int), ns.length ≤ n → Only H → SqL (K w.params) H a (ns.map V.int) → sp w [.ref a] H (fun v _ => v = .bl true) fun _ _ _ => False)
    (hCX : ∀ (w : World) (H : Hp) (s : Shared) (e : Value) (s' : Shared), CX w [] H s (fun _ _ _ => False) e s' → False) :
    PySem.W.WalkO q loose XP YP l.row.toRowW d [] (fun f vs => PySem.call f vs) := by
  refine Att.attach_call hn hdf fun w s₀ s₁ mg mb fa o pm cd doc a vs ns G Y ho hd hcd hmg hobj hints hlen hg => ?_
  have KX := hY w _ Y
  obtain ⟨fd, hb, hF⟩ := F w mg fa _ KX G.T.g hmg
  exact law_call KX G.T.g G.T.b G.T.builtins G.T.nolimit hg hobj hints (Nat.le_trans hlen hn2) hr hF hb (fun H hO hS => hsp w H a ns hlen hO hS) fun H e s' => hCX w H s₁ e s'
/-- the same where the promise hangs on the written part alone: (sp := My.sp_law), no hole under a binder -/
theorem walk_ofK {l : PySem.W.OpenLaw} {n k : Nat} {q : Program} {loose : List Str} {XP : (Str → Option Value) → Heap → Prop} {YP : World → Heap → Prop} {d : DefRec} {K : Params → PySem.W.Frag} {CX : CXT} {sp : PySem.W.Frag → Sp} {x : Str}
    (hn : l.most = some n) (hn2 : n ≤ sizeLine) (hdf : d.params.defaults = []) (hr : Room k callerA)
    (hY : ∀ (w : World) (h : Heap), YP w h → (K w.params).In h)
    (F : ∀ (w : World) (mg : Str → Option Value) (fa : Addr) (h : Heap), (K w.params).In h → h.Ns mainGlobals mg → mg d.name = some (.ref fa) →
      ∃ fd : FuncData, (∀ (s : Shared) (u : Value), BindsTo s fd ⟨[u], []⟩ [(x, u)]) ∧
        ∀ base : Heap, (K w.params).In base → base.Ns mainGlobals mg → FnOk l.prog w (K w.params) mg base CX k fa fd [x] (sp (K w.params)))
    (hsp : ∀ (K : PySem.W.Frag) (H : Hp) (a : Addr) (ns : List Int), ns.length ≤ n → Only H → SqL K H a (ns.map V.int) → sp K [.ref a] H (fun v _ => v = .bl true) fun _ _ _ => False)
    (hCX : ∀ (H : Hp) (s : Shared) (e : Value) (s' : Shared), CX [] H s (fun _ _ _ => False) e s' → False) :
    PySem.W.WalkO q loose XP YP l.row.toRowW d [] (fun f vs => PySem.call f vs) :=
  walk_of (K := K) (CX := fun _ => CX) (sp := fun w => sp (K w.params)) hn hn2 hdf hr hY F (fun w H a ns h1 h2 h3 => hsp (K w.params) H a ns h1 h2 h3) fun _ H s e s' => hCX H s e s'
end L2

/- THE LAST THEOREM (shape; LID, My.* are yours):
   My.Adr: a structure of the addresses that your layer names (classes, functions); My.Txt K t: a structure (Prop) of the equations over K;
   My.txt_mk : {K} {implicit addresses ..} (e1 : nsIn K mainGlobals "law" = some (some (.ref f))) (e2 : K.lookup f = some ⟨oc, od, .func (fnOf "law" "law" params body scope dV kV doc pm an cdv ct), sl⟩) (e3 : codeIn K cdv "law" = true) .. : ∃ t, My.Txt K t

set_option maxRecDepth 100000 in
set_option maxHeartbeats 0 in
theorem PySem.Challenge.cw_LID_holds : PySem.Challenge.rw_LID.Holds := by
  w_on; o_law; k_head; (case hw => w_witness2)
  k_fill
  refine L2.walk_of (l := PySem.Challenge.rw_LID) (n := 63) (k := 40) (x := "script") (CX := fun w => ..) (sp := fun _ => My.sp_law) rfl (by decide) rfl ⟨rfl, by decide, by decide⟩ (fun w h Y => PySem.W.kIn_of Y) ?F ?S ?C
  case F =>
    intro w mg fa h KX G hmg
    have T : ∃ t, My.Txt (L2.KOf KX) t := by
      dsimp only [L2.KOf]                          -- K must stand as «<heap const> w.params» for k_is
      refine' My.txt_mk ?e1 ?e2 ?e3 ..
      (case e1 => PySem.W.k_is)                    -- in the order: a name -> its address -> its object -> its parts
      (case e2 => PySem.W.k_is)
      ..
    obtain ⟨t, T⟩ := T
    have e0 := hmg.symm.trans (PySem.W.mg_of KX G T.law)
    cases e0                                       -- fa is the law's own address
    exact ⟨_, fun s u => .of_eq rfl, fun base kb nb => My.law_fn T kb nb⟩     -- if «.of_eq rfl» comes too early: refine' ⟨_, ?b, fun base kb nb => My.law_fn T kb nb⟩; exact fun s u => .of_eq rfl
  case S => exact fun w H a ns hl hO hS => ..
  case C => exact ..
(the tactic k_is has no namespace: write k_is) -/

/-! SHORT WORDS over the layer: a def of the text, its body, what a loop and a test want. -/
namespace L2
open PySem PySem.Spec PyProof.Rows

/-! ### the text by places -/
/-- the j-th statement of a class's body -/
def inClass (s : Stmt) (j : Nat) : Stmt := match s with
  | .ClassDef _ _ _ body _ _ _ _ _ _ _ => body.getD j (.Pass ⟨0, 0, 0, 0⟩)
  | _ => .Pass ⟨0, 0, 0, 0⟩
def defArgs (s : Stmt) : Arguments := match s with
  | .FunctionDef _ a _ _ _ _ _ _ _ _ => a
  | _ => { posonlyargs := [], args := [], vararg := none, kwonlyargs := [], kw_defaults := [], kwarg := none, defaults := [] }
def defBody (s : Stmt) : List Stmt := match s with
  | .FunctionDef _ _ b _ _ _ _ _ _ _ => b
  | _ => []
def defScope (s : Stmt) : Scope := match s with
  | .FunctionDef _ _ _ _ _ _ sc _ _ _ => sc
  | _ => { kind := .function, names := [], isGenerator := false, isCoroutine := false }

/-! ### no exception leaves a def -/
abbrev CX0 : CXT := fun _ _ _ _ _ _ => False
abbrev E0 : XK := fun _ _ _ => False
theorem pass0 {X : Cx} : Passes CX0 X E0 := fun _ _ _ _ _ _ _ h => h.elim

/-! ### a def (or method) of the text as it stands behind the top -/
structure Fun (K : PySem.W.Frag) (x qual : Str) (st : Stmt) (f : Addr) (fd : FuncData) : Prop where
  ex : ∃ (oc : Value) (od : Option Addr) (kV doc pm : Value) (an : Option Addr) (cdv ct : Value) (osl : Array (Option Value)),
    fd = PySem.W.fnOf x qual (defArgs st) (defBody st) (defScope st) .none kV doc pm an cdv ct ∧ K.lookup f = some ⟨oc, od, .func fd, osl⟩ ∧ PySem.W.codeIn K cdv qual = true
  kp : PySem.W.keepIn K (.ref f) = true
section
variable {P : Program} {w : World} {K : PySem.W.Frag} {mg : Str → Option Value} {base : Heap}
/-- THE RULE for a def: its body as a term of rules, and the reading of that term -/
theorem Fun.ok {x qual : Str} {st : Stmt} {f : Addr} {fd : FuncData} {N ps : List Str} {k : Nat} {sp : Sp} (F : Fun K x qual st f fd) (S : FnScope N ps (defScope st)) (len : ∀ vs H Q E, sp vs H Q E → vs.length = ps.length)
    (hbody : ∀ (cdv : Value) (A : Around) (outer : List Env) (s : Shared) (H : Hp) (vs : List V) (Q : VK) (E : XK), Room k (A.deeper (envOfC qual (defScope st) s.heap.objs.size f cdv)) → sp vs H Q E →
      ∃ t, PSs (cxOf CX0 P w K mg base N qual (defScope st) f cdv A outer s H E).nox (defBody st) t ∧ t { nx := fun _ H' => Q .non H', rt := Q } (start N vs) H) : FnOk P w K mg base CX0 (k + 1) f fd ps sp := by
  obtain ⟨oc, od, kV, doc, pm, an, cdv, ct, osl, rfl, lk, hcd⟩ := F.ex
  refine fn_of lk hcd S len fun A outer s H vs Q E hr hsp => ?_
  obtain ⟨t, h, q⟩ := hbody cdv A outer s H vs Q E hr hsp
  exact ⟨t, h.nox, q⟩
/-- how its arguments bind (no defaults): h is «fun _ _ _ _ _ _ us hl => match us, hl with | [_, _], _ => rfl», one _ a parameter -/
theorem Fun.binds {x qual : Str} {st : Stmt} {f : Addr} {fd : FuncData} {ps : List Str} (F : Fun K x qual st f fd)
    (h : ∀ (kV doc pm : Value) (an : Option Addr) (cdv ct : Value) (us : List Value), us.length = ps.length → bindArgs (PySem.W.fnOf x qual (defArgs st) (defBody st) (defScope st) .none kV doc pm an cdv ct) ⟨us, []⟩ = pure (ps.zip us)) : Binds K fd ps [] := by
  obtain ⟨oc, od, kV, doc, pm, an, cdv, ct, osl, rfl, lk, hcd⟩ := F.ex
  exact .all (h kV doc pm an cdv ct)
theorem fun_mk {x qual : Str} {st : Stmt} {f : Addr} {oc : Value} {od an : Option Addr} {osl : Array (Option Value)} {kV doc pm cdv ct : Value} (l : K.lookup f = some ⟨oc, od, .func (PySem.W.fnOf x qual (defArgs st) (defBody st) (defScope st) .none kV doc pm an cdv ct), osl⟩)
    (c : PySem.W.codeIn K cdv qual = true) (k : PySem.W.keepIn K (.ref f) = true) : Fun K x qual st f (PySem.W.fnOf x qual (defArgs st) (defBody st) (defScope st) .none kV doc pm an cdv ct) := ⟨⟨oc, od, kV, doc, pm, an, cdv, ct, osl, rfl, l, c⟩, k⟩
end
theorem hu_of {A : Around} {k : Nat} (hr : Room k A) : A.units + 1 < cLine := Nat.lt_of_le_of_lt (Nat.add_le_add_left (by decide : 1 ≤ 64) _) hr.units
theorem small1000 {n : Nat} (h : n ≤ 1000) : n < sizeLine := Nat.lt_of_le_of_lt h (by decide)

/-! ### expressions in short: the name that stands in the i-th slot -/
section
variable {X : Cx}
theorem pv (i : Nat) {x : Str} {pos : Pos} (hN : X.N[i]? = some x := by rfl) (hv : Vis X.env.scope x := by first | exact Or.inl rfl | exact Or.inr (Or.inl rfl) | exact Or.inr (Or.inr rfl)) (hd : (x == ("__debug__" : Str)) = false := by decide)
    (hcd : (x == ("__classdict__" : Str)) = false := by decide) : PE X (.Name x pos) (tVar i) := pe_var hN hv hd hcd
end

/-! ### tests -/
theorem iteF {A B : Prop} (h : B) : if false = true then A else B := by
  rw [if_neg Bool.false_ne_true]
  exact h
theorem iteT {A B : Prop} (h : A) : if true = true then A else B := by
  rw [if_pos rfl]
  exact h
theorem ite2 {c A B : Prop} [Decidable c] (h1 : c → A) (h2 : ¬ c → B) : if c then A else B := by
  by_cases h : c
  · rw [if_pos h]
    exact h1 h
  · rw [if_neg h]
    exact h2 h
theorem iteNS {c A B : Prop} [Decidable c] (hc : c) (h : B) : if (!decide c) = true then A else B := by
  rw [decide_eq_true hc]
  exact iteF h

/-! ### heaps -/
/-- all that was tracked is as it was -/
def Same (H H' : Hp) : Prop := ∀ b o, H b = some o → H' b = some o
theorem Same.refl (H : Hp) : Same H H := fun _ _ h => h
theorem Same.trans {H H1 H2 : Hp} (a : Same H H1) (b : Same H1 H2) : Same H H2 := fun c o h => b c o (a c o h)
theorem Same.free {H H' : Hp} (e : Same H H') {l : Addr} (h : H' l = Option.none) : H l = Option.none := by
  cases q : H l with
  | none => rfl
  | some o =>
    rw [e l o q] at h
    cases h
theorem Same.seq {K : PySem.W.Frag} {H H' : Hp} {a : Addr} {xs : List V} (e : Same H H') (h : SqL K H a xs) : SqL K H' a xs := by
  rcases h with (h | ⟨o, h⟩) | h
  · exact .inl (.inl (e _ _ h))
  · exact .inl (.inr ⟨o, e _ _ h⟩)
  · exact .inr h

end L2

set_option Elab.async false
set_option linter.all false
set_option maxRecDepth 100000
set_option maxHeartbeats 4000000
/-! THE VALUE LAYER: what an expression, a statement, a def of the text is worth, as a plain function over data without a heap. -/
namespace Vl
open PySem PySem.Spec L2

inductive D where
  | non | bl (b : Bool) | int (i : Int) | str (x : Str) | tup (xs : List D) | lst (xs : List D) | exn (c : Str) (n : Int)

/-- an exception of the class at C, without a dict of its own -/
def ExnAt (a C : Addr) (n : Int) : Heap → Prop := fun h => ∃ o vs, h.get? a = some o ∧ o.cls = .ref C ∧ o.data = .fields vs ∧ n = 0

mutual
def Rep (K : PySem.W.Frag) (G : Hp) : D → V → Prop
  | .non, v => v = .non
  | .bl b, v => v = .bl b
  | .int i, v => v = .int i
  | .str x, v => v = .str x
  | .tup ds, v => ∃ a vs, v = .ref a ∧ SqT K G a vs ∧ Reps K G ds vs
  | .lst ds, v => ∃ a vs, v = .ref a ∧ SqL K G a vs ∧ Reps K G ds vs
  | .exn c n, v => ∃ a C, v = .ref a ∧ PySem.W.nsIn K mainGlobals c = some (some (.ref C)) ∧ G a = some (.ext (ExnAt a C n))
def Reps (K : PySem.W.Frag) (G : Hp) : List D → List V → Prop
  | [], vs => vs = []
  | d :: ds, vs => ∃ v vs', vs = v :: vs' ∧ Rep K G d v ∧ Reps K G ds vs'
end

theorem Same.seqT {K : PySem.W.Frag} {H H' : Hp} {a : Addr} {xs : List V} (e : Same H H') (h : SqT K H a xs) : SqT K H' a xs := by
  rcases h with (h | ⟨o, h⟩) | h
  · exact .inl (.inl (e _ _ h))
  · exact .inl (.inr ⟨o, e _ _ h⟩)
  · exact .inr h

mutual
theorem Rep.mono {K : PySem.W.Frag} {G G' : Hp} (e : Same G G') : ∀ {d : D} {v : V}, Rep K G d v → Rep K G' d v
  | .non, _, h => by simp only [Rep] at h ⊢; exact h
  | .bl _, _, h => by simp only [Rep] at h ⊢; exact h
  | .int _, _, h => by simp only [Rep] at h ⊢; exact h
  | .str _, _, h => by simp only [Rep] at h ⊢; exact h
  | .tup ds, _, h => by
    simp only [Rep] at h ⊢
    obtain ⟨a, vs, e1, h1, h2⟩ := h
    exact ⟨a, vs, e1, Same.seqT e h1, Reps.mono e h2⟩
  | .lst ds, _, h => by
    simp only [Rep] at h ⊢
    obtain ⟨a, vs, e1, h1, h2⟩ := h
    exact ⟨a, vs, e1, e.seq h1, Reps.mono e h2⟩
  | .exn c n, _, h => by
    simp only [Rep] at h ⊢
    obtain ⟨a, C, e1, h1, h2⟩ := h
    exact ⟨a, C, e1, h1, e _ _ h2⟩
theorem Reps.mono {K : PySem.W.Frag} {G G' : Hp} (e : Same G G') : ∀ {ds : List D} {vs : List V}, Reps K G ds vs → Reps K G' ds vs
  | [], _, h => by simp only [Reps] at h ⊢; exact h
  | d :: ds, _, h => by
    simp only [Reps] at h ⊢
    obtain ⟨v, vs', e1, h1, h2⟩ := h
    exact ⟨v, vs', e1, Rep.mono e h1, Reps.mono e h2⟩
end

section
variable {K : PySem.W.Frag} {G : Hp}
theorem rep_int {i : Int} {v : V} : Rep K G (.int i) v ↔ v = .int i := by simp only [Rep]
theorem rep_bl {i : Bool} {v : V} : Rep K G (.bl i) v ↔ v = .bl i := by simp only [Rep]
theorem rep_non {v : V} : Rep K G .non v ↔ v = .non := by simp only [Rep]
theorem rep_str {x : Str} {v : V} : Rep K G (.str x) v ↔ v = .str x := by simp only [Rep]
theorem rep_tup {ds : List D} {v : V} : Rep K G (.tup ds) v ↔ ∃ a vs, v = .ref a ∧ SqT K G a vs ∧ Reps K G ds vs := by simp only [Rep]
theorem rep_lst {ds : List D} {v : V} : Rep K G (.lst ds) v ↔ ∃ a vs, v = .ref a ∧ SqL K G a vs ∧ Reps K G ds vs := by simp only [Rep]
theorem rep_exn {c : Str} {n : Int} {v : V} : Rep K G (.exn c n) v ↔ ∃ a C, v = .ref a ∧ PySem.W.nsIn K mainGlobals c = some (some (.ref C)) ∧ G a = some (.ext (ExnAt a C n)) := by simp only [Rep]
theorem reps_nil {vs : List V} : Reps K G [] vs ↔ vs = [] := by simp only [Reps]
theorem reps_cons {d : D} {ds : List D} {vs : List V} : Reps K G (d :: ds) vs ↔ ∃ v vs', vs = v :: vs' ∧ Rep K G d v ∧ Reps K G ds vs' := by simp only [Reps]
theorem Reps.length : ∀ {ds : List D} {vs : List V}, Reps K G ds vs → ds.length = vs.length
  | [], _, h => by rw [reps_nil.mp h]; rfl
  | d :: ds, _, h => by
    obtain ⟨v, vs', rfl, _, h2⟩ := reps_cons.mp h
    simp [Reps.length h2]
theorem Reps.get : ∀ {ds : List D} {vs : List V} {i : Nat} {d : D}, Reps K G ds vs → ds[i]? = some d → ∃ v, vs[i]? = some v ∧ Rep K G d v
  | [], _, _, _, h, e => by simp at e
  | d :: ds, _, i, x, h, e => by
    obtain ⟨v, vs', rfl, h1, h2⟩ := reps_cons.mp h
    cases i with
    | zero => simp at e; subst e; exact ⟨v, by simp, h1⟩
    | succ i => obtain ⟨u, q1, q2⟩ := Reps.get (i := i) h2 (by simpa using e); exact ⟨u, by simpa using q1, q2⟩
theorem Reps.get' : ∀ {ds : List D} {vs : List V} {i : Nat} {v : V}, Reps K G ds vs → vs[i]? = some v → ∃ d, ds[i]? = some d ∧ Rep K G d v
  | [], _, _, _, h, e => by rw [reps_nil.mp h] at e; simp at e
  | d :: ds, _, i, x, h, e => by
    obtain ⟨v, vs', rfl, h1, h2⟩ := reps_cons.mp h
    cases i with
    | zero => simp at e; subst e; exact ⟨d, by simp, h1⟩
    | succ i => obtain ⟨u, q1, q2⟩ := Reps.get' (i := i) h2 (by simpa using e); exact ⟨u, by simpa using q1, q2⟩
theorem Reps.append : ∀ {ds es : List D} {vs us : List V}, Reps K G ds vs → Reps K G es us → Reps K G (ds ++ es) (vs ++ us)
  | [], _, _, _, h, h' => by rw [reps_nil.mp h]; exact h'
  | d :: ds, _, _, _, h, h' => by
    obtain ⟨v, vs', rfl, h1, h2⟩ := reps_cons.mp h
    exact reps_cons.mpr ⟨v, _, rfl, h1, Reps.append h2 h'⟩
theorem Reps.one {d : D} {v : V} (h : Rep K G d v) : Reps K G [d] [v] := reps_cons.mpr ⟨v, [], rfl, h, reps_nil.mpr rfl⟩
theorem Reps.drop : ∀ {ds : List D} {vs : List V} (n : Nat), Reps K G ds vs → Reps K G (ds.drop n) (vs.drop n)
  | ds, vs, 0, h => by simpa using h
  | [], _, n + 1, h => by rw [reps_nil.mp h]; simpa using reps_nil.mpr rfl
  | d :: ds, _, n + 1, h => by
    obtain ⟨v, vs', rfl, h1, h2⟩ := reps_cons.mp h
    simpa using Reps.drop n h2
theorem Reps.take : ∀ {ds : List D} {vs : List V} (n : Nat), Reps K G ds vs → Reps K G (ds.take n) (vs.take n)
  | ds, vs, 0, h => by simpa using reps_nil.mpr rfl
  | [], _, n + 1, h => by rw [reps_nil.mp h]; simpa using reps_nil.mpr rfl
  | d :: ds, _, n + 1, h => by
    obtain ⟨v, vs', rfl, h1, h2⟩ := reps_cons.mp h
    simpa using reps_cons.mpr ⟨v, _, rfl, h1, Reps.take n h2⟩
theorem reps_ints (ns : List Int) : Reps K G (ns.map D.int) (ns.map V.int) := by
  induction ns with
  | nil => exact reps_nil.mpr rfl
  | cons n ns ih => exact reps_cons.mpr ⟨_, _, rfl, rep_int.mpr rfl, ih⟩
end

/-! ### results -/
inductive Rs (α : Type) where
  | ok (a : α) | ex (c : Str) (n : Int) | no
def Rs.bind {α β : Type} : Rs α → (α → Rs β) → Rs β
  | .ok a, k => k a
  | .ex c n, _ => .ex c n
  | .no, _ => .no

inductive Sl where
  | no | fz (d : D) | ow (ds : List D)
abbrev Rho := List Sl
abbrev Wi := Str → Int → St → Hp → Prop

structure Ext (G H G' H' : Hp) : Prop where
  gg : Same G G'
  hh : Same H H'
  gh : Same G' H'
  tp : ∀ a xs, H' a = some (.tup xs) → G' a = some (.tup xs)
  nw : ∀ b o, H b = some o → G b = none → G' b = none
theorem Ext.trans {G H G1 H1 G2 H2 : Hp} (a : Ext G H G1 H1) (b : Ext G1 H1 G2 H2) : Ext G H G2 H2 :=
  ⟨a.gg.trans b.gg, a.hh.trans b.hh, b.gh, b.tp, fun c o h n => b.nw c o (a.hh c o h) (a.nw c o h n)⟩
theorem Ext.refl {G H : Hp} (gh : Same G H) (tp : ∀ a xs, H a = some (.tup xs) → G a = some (.tup xs)) : Ext G H G H := ⟨.refl _, .refl _, gh, tp, fun _ _ _ n => n⟩

structure SR (K : PySem.W.Frag) (B : Hp × Hp) (σ : St) (H : Hp) (ρ : Rho) (G : Hp) : Prop where
  en : Ext B.1 B.2 G H
  len : ρ.length = σ.length
  fz : ∀ (i : Nat) (d : D), ρ[i]? = some (.fz d) → ∃ v, σ[i]? = some (some v) ∧ Rep K G d v
  ow : ∀ (i : Nat) (ds : List D), ρ[i]? = some (.ow ds) → ∃ a vs, σ[i]? = some (some (.ref a)) ∧ H a = some (.lst vs) ∧ G a = none ∧ B.2 a = none ∧ Reps K G ds vs
  ap : ∀ (i j : Nat) (ds es : List D) (a : Addr), ρ[i]? = some (.ow ds) → ρ[j]? = some (.ow es) → σ[i]? = some (some (.ref a)) → σ[j]? = some (some (.ref a)) → i = j
section
variable {K : PySem.W.Frag} {B : Hp × Hp} {σ : St} {H H' G G' : Hp} {ρ : Rho}
theorem SR.ext0 (h : SR K B σ H ρ G) : Ext G H G H := .refl h.en.gh h.en.tp
theorem SR.ext (h : SR K B σ H ρ G) (e : Ext G H G' H') : SR K B σ H' ρ G' where
  en := h.en.trans e
  len := h.len
  fz := fun i d q => let ⟨v, h1, h2⟩ := h.fz i d q; ⟨v, h1, h2.mono e.gg⟩
  ow := fun i ds q => let ⟨a, vs, h1, h2, h3, h4, h5⟩ := h.ow i ds q; ⟨a, vs, h1, e.hh _ _ h2, e.nw _ _ h2 h3, h4, h5.mono e.gg⟩
  ap := h.ap
theorem SR.set (h : SR K B σ H ρ G) {i : Nat} {d : D} {v : V} (r : Rep K G d v) : SR K B (σ.set i (some v)) H (ρ.set i (.fz d)) G where
  en := h.en
  len := by simp [h.len]
  fz := fun j d' q => by
    by_cases e : i = j
    · subst e
      have hl : i < ρ.length := by
        have := (List.getElem?_eq_some_iff.mp q).1; simpa using this
      rw [List.getElem?_set_self hl] at q
      cases q
      exact ⟨v, List.getElem?_set_self (by rw [← h.len]; exact hl), r⟩
    · rw [List.getElem?_set_ne e] at q
      rw [List.getElem?_set_ne e]
      exact h.fz j d' q
  ow := fun j ds q => by
    by_cases e : i = j
    · subst e
      have hl : i < ρ.length := by
        have := (List.getElem?_eq_some_iff.mp q).1; simpa using this
      rw [List.getElem?_set_self hl] at q
      cases q
    · rw [List.getElem?_set_ne e] at q
      rw [List.getElem?_set_ne e]
      exact h.ow j ds q
  ap := fun j k ds es a q1 q2 q3 q4 => by
    have ne : ∀ (l : Nat) (ds : List D), (ρ.set i (.fz d))[l]? = some (.ow ds) → i ≠ l := fun l ds q e => by
      subst e
      have hl : i < ρ.length := by
        have := (List.getElem?_eq_some_iff.mp q).1; simpa using this
      rw [List.getElem?_set_self hl] at q
      cases q
    have n1 := ne j ds q1
    have n2 := ne k es q2
    rw [List.getElem?_set_ne n1] at q1 q3
    rw [List.getElem?_set_ne n2] at q2 q4
    exact h.ap j k ds es a q1 q2 q3 q4
/-- a new tuple, a new frozen list -/
theorem ext_tup (gh : Same G H) (tp : ∀ a xs, H a = some (.tup xs) → G a = some (.tup xs)) {p : Addr} {xs : List V} (hp : H p = none) : Ext G H (upd G p (.tup xs)) (upd H p (.tup xs)) where
  gg := fun b o e => by rw [upd_ne (ne_of_none (gh _ _ e) hp)]; exact e
  hh := fun b o e => by rw [upd_ne (ne_of_none e hp)]; exact e
  gh := fun b o e => by
    by_cases q : b = p
    · subst q; rw [upd_same] at e ⊢; exact e
    · rw [upd_ne q] at e ⊢; exact gh _ _ e
  tp := fun b ys e => by
    by_cases q : b = p
    · subst q; rw [upd_same] at e ⊢; exact e
    · rw [upd_ne q] at e ⊢; exact tp _ _ e
  nw := fun b o e n => by rw [upd_ne (ne_of_none e hp)]; exact n
theorem ext_lst (gh : Same G H) (tp : ∀ a xs, H a = some (.tup xs) → G a = some (.tup xs)) {p : Addr} {xs : List V} (hp : H p = none) : Ext G H (upd G p (.lst xs)) (upd H p (.lst xs)) where
  gg := fun b o e => by rw [upd_ne (ne_of_none (gh _ _ e) hp)]; exact e
  hh := fun b o e => by rw [upd_ne (ne_of_none e hp)]; exact e
  gh := fun b o e => by
    by_cases q : b = p
    · subst q; rw [upd_same] at e ⊢; exact e
    · rw [upd_ne q] at e ⊢; exact gh _ _ e
  tp := fun b ys e => by
    by_cases q : b = p
    · subst q; rw [upd_same] at e; cases e
    · rw [upd_ne q] at e ⊢; exact tp _ _ e
  nw := fun b o e n => by rw [upd_ne (ne_of_none e hp)]; exact n
/-- a new list that is not frozen yet -/
theorem ext_own (gh : Same G H) (tp : ∀ a xs, H a = some (.tup xs) → G a = some (.tup xs)) {p : Addr} {xs : List V} (hp : H p = none) : Ext G H G (upd H p (.lst xs)) where
  gg := .refl _
  hh := fun b o e => by rw [upd_ne (ne_of_none e hp)]; exact e
  gh := fun b o e => by rw [upd_ne (ne_of_none (gh _ _ e) hp)]; exact gh _ _ e
  tp := fun b ys e => by
    by_cases q : b = p
    · subst q; rw [upd_same] at e; cases e
    · rw [upd_ne q] at e; exact tp _ _ e
  nw := fun b o e n => n
end

/-! ### expressions -/
def Post (K : PySem.W.Frag) (W : Wi) (σ : St) (G H : Hp) (r : Rs D) (Q : VK) : Prop :=
  match r with
  | .ok d => ∀ v H' G', Ext G H G' H' → Rep K G' d v → Q v H'
  | .ex c n => ∀ H' G', Ext G H G' H' → W c n σ H'
  | .no => False
def tF (K : PySem.W.Frag) (B : Hp × Hp) (W : Wi) (f : Rho → Rs D) : TE := fun σ H Q => ∃ ρ G, SR K B σ H ρ G ∧ Post K W σ G H (f ρ) Q
/-- an expression is worth f -/
def SE (X : Cx) (B : Hp × Hp) (W : Wi) (e : Expr) (f : Rho → Rs D) : Prop := PE X e (tF X.K B W f)

theorem PE.imp {X : Cx} {e : Expr} {t t' : TE} (h : PE X e t) (i : ∀ σ H Q, t' σ H Q → t σ H Q) : PE X e t' := fun pins s σ H Q I q => h pins s σ H Q I (i σ H Q q)
theorem PT.imp {X : Cx} {e : Expr} {t t' : TT} (h : PT X e t) (i : ∀ σ H Q, t' σ H Q → t σ H Q) : PT X e t' := fun pins s σ H Q I q => h pins s σ H Q I (i σ H Q q)
theorem PA.imp {X : Cx} {e : List Expr} {t t' : TA} (h : PA X e t) (i : ∀ σ H Q, t' σ H Q → t σ H Q) : PA X e t' := fun pos pins s σ H Q I q => h pos pins s σ H Q I (i σ H Q q)
theorem PS.imp {X : Cx} {e : Stmt} {t t' : TS} (h : PS X e t) (i : ∀ De σ H, t' De σ H → t De σ H) : PS X e t' := fun pins s σ H De I q => h pins s σ H De I (i De σ H q)
theorem PSs.imp {X : Cx} {e : List Stmt} {t t' : TS} (h : PSs X e t) (i : ∀ De σ H, t' De σ H → t De σ H) : PSs X e t' := fun pins s σ H De I q => h pins s σ H De I (i De σ H q)

section
variable {X : Cx} {K : PySem.W.Frag} {B : Hp × Hp} {W : Wi} {σ : St} {G H : Hp} {ρ : Rho} {Q Q' : VK}
theorem Post.mono {r : Rs D} (h : Post K W σ G H r Q) (i : ∀ v H', Q v H' → Q' v H') : Post K W σ G H r Q' := by
  cases r with
  | ok d => exact fun v H' G' e r => i _ _ (h v H' G' e r)
  | ex c n => exact h
  | no => exact h
theorem Post.ext {r : Rs D} {G' H' : Hp} (e : Ext G H G' H') (h : Post K W σ G H r Q) : Post K W σ G' H' r Q := by
  cases r with
  | ok d => exact fun v H'' G'' e' r => h v H'' G'' (e.trans e') r
  | ex c n => exact fun H'' G'' e' => h H'' G'' (e.trans e')
  | no => exact h
theorem Post.bind {r : Rs D} {k : D → Rs D} (h : Post K W σ G H (r.bind k) Q) :
    Post K W σ G H r fun v H1 => ∃ G1 d, Ext G H G1 H1 ∧ Rep K G1 d v ∧ Post K W σ G1 H1 (k d) Q := by
  cases r with
  | ok d => exact fun v H' G' e r => ⟨G', d, e, r, Post.ext e h⟩
  | ex c n => exact h
  | no => exact h
theorem Post.ok {d : D} {v : V} (s : SR K B σ H ρ G) (h : Post K W σ G H (.ok d) Q) (r : Rep K G d v) : Q v H := h v H G s.ext0 r
/-- an expression that begins with another one -/
theorem tF_bind {f : Rho → Rs D} {k : Rho → D → Rs D} (h : tF K B W (fun ρ => (f ρ).bind (k ρ)) σ H Q) :
    tF K B W f σ H fun v H1 => ∃ ρ G1 d, SR K B σ H1 ρ G1 ∧ Rep K G1 d v ∧ Post K W σ G1 H1 (k ρ d) Q := by
  obtain ⟨ρ, G, s, p⟩ := h
  exact ⟨ρ, G, s, p.bind.mono fun v H1 ⟨G1, d, e, r, q⟩ => ⟨ρ, G1, d, s.ext e, r, q⟩⟩
/-- the second one of two -/
theorem tF_bind2 {f : Rho → Rs D} {k : D → D → Rs D} {v : V} (h : ∃ ρ G1 d, SR K B σ H ρ G1 ∧ Rep K G1 d v ∧ Post K W σ G1 H ((f ρ).bind (k d)) Q) :
    tF K B W f σ H fun u H1 => ∃ ρ G1 d d', SR K B σ H1 ρ G1 ∧ Rep K G1 d v ∧ Rep K G1 d' u ∧ Post K W σ G1 H1 (k d d') Q := by
  obtain ⟨ρ, G, d, s, r, p⟩ := h
  exact ⟨ρ, G, s, p.bind.mono fun u H1 ⟨G1, d', e, r', q⟩ => ⟨ρ, G1, d, d', s.ext e, r.mono e.gg, r', q⟩⟩

/-! names, constants -/
def fVar (i : Nat) : Rho → Rs D := fun ρ => match ρ[i]? with | some (.fz d) => .ok d | _ => .no
def fC (d : D) : Rho → Rs D := fun _ => .ok d
theorem se_var {e : Expr} {i : Nat} (h : PE X e (tVar i)) : SE X B W e (fVar i) := PE.imp h fun σ H Q ⟨ρ, G, s, p⟩ => by
  unfold fVar at p
  cases q : ρ[i]? with
  | none => rw [q] at p; exact p.elim
  | some x =>
    rw [q] at p
    cases x with
    | no => exact p.elim
    | ow _ => exact p.elim
    | fz d =>
      obtain ⟨v, h1, h2⟩ := s.fz i d q
      exact ⟨v, h1, Post.ok s p h2⟩
theorem sv (i : Nat) {x : Str} {pos : Pos} (hN : X.N[i]? = some x := by rfl) (hv : Vis X.env.scope x := by first | exact Or.inl rfl | exact Or.inr (Or.inl rfl) | exact Or.inr (Or.inr rfl)) (hd : (x == ("__debug__" : Str)) = false := by decide)
    (hcd : (x == ("__classdict__" : Str)) = false := by decide) : SE X B W (.Name x pos) (fVar i) := se_var (pe_var hN hv hd hcd)
theorem se_c {e : Expr} {v : V} {d : D} (h : PE X e (tC v)) (r : ∀ G, Rep X.K G d v) : SE X B W e (fC d) := PE.imp h fun σ H Q ⟨ρ, G, s, p⟩ => Post.ok s p (r G)
theorem se_int {i : Int} {j pos} : SE X B W (.Constant (.int i) j pos) (fC (.int i)) := se_c pe_int fun _ => rep_int.mpr rfl
theorem se_bl {b : Bool} {j pos} : SE X B W (.Constant (.bool b) j pos) (fC (.bl b)) := se_c pe_bl fun _ => rep_bl.mpr rfl
theorem se_non {j pos} : SE X B W (.Constant .none j pos) (fC .non) := se_c pe_non fun _ => rep_non.mpr rfl
theorem se_str {x j pos} : SE X B W (.Constant (.str x) j pos) (fC (.str x)) := se_c pe_str fun _ => rep_str.mpr rfl

/-! two-place operations -/
def fOp (g : D → D → Rs D) (fa fb : Rho → Rs D) : Rho → Rs D := fun ρ => (fa ρ).bind fun x => (fb ρ).bind fun y => g x y
/-- r is what g says, upon data -/
def OpD (K : PySem.W.Frag) (r : R2) (g : D → D → Rs D) : Prop :=
  ∀ (B : Hp × Hp) (W : Wi) (σ : St) (ρ : Rho) (G H : Hp) (x y : D) (v u : V) (Q : VK), SR K B σ H ρ G → Rep K G x v → Rep K G y u → Post K W σ G H (g x y) Q → r v u H Q
theorem tOp_of {r : R2} {g : D → D → Rs D} {fa fb : Rho → Rs D} (ho : OpD K r g) (h : tF K B W (fOp g fa fb) σ H Q) : tOp r (tF K B W fa) (tF K B W fb) σ H Q := by
  obtain ⟨ρ, G, s, p⟩ := tF_bind (k := fun ρ x => (fb ρ).bind fun y => g x y) h
  refine ⟨ρ, G, s, p.mono fun v H1 h1 => ?_⟩
  obtain ⟨ρ, G, s, p⟩ := tF_bind2 (k := g) h1
  exact ⟨ρ, G, s, p.mono fun u H2 ⟨ρ2, G2, d, d', s2, r1, r2, p2⟩ => ho B W σ ρ2 G2 H2 d d' v u Q s2 r1 r2 p2⟩
theorem se_op {a b : Expr} {op : Operator} {pos : Pos} {r : R2} {g : D → D → Rs D} {fa fb : Rho → Rs D} (ho : OpR X (binaryOp op) r) (hg : OpD X.K r g) (ha : SE X B W a fa) (hb : SE X B W b fb) : SE X B W (.BinOp a op b pos) (fOp g fa fb) :=
  PE.imp (pe_op ho ha hb) fun _ _ _ h => tOp_of hg h
/-- ints in -/
def gI (C : Int → Int → Prop) [∀ i j, Decidable (C i j)] (g : Int → Int → D) : D → D → Rs D
  | .int i, .int j => if C i j then .ok (g i j) else .no
  | _, _ => .no
theorem opd_I {C : Int → Int → Prop} [∀ i j, Decidable (C i j)] {gv : Int → Int → V} {g : Int → Int → D} (hg : ∀ G i j, Rep K G (g i j) (gv i j)) : OpD K (rI C gv) (gI C g) := by
  intro B W σ ρ G H x y v u Q s rx ry p
  cases x <;> first | exact p.elim | skip
  rename_i i
  cases y <;> first | exact p.elim | skip
  rename_i j
  simp only [gI] at p
  by_cases c : C i j
  · rw [if_pos c] at p
    exact ⟨i, j, rep_int.mp rx, rep_int.mp ry, c, Post.ok s p (hg G i j)⟩
  · rw [if_neg c] at p; exact p.elim
def gI0 (g : Int → Int → D) : D → D → Rs D
  | .int i, .int j => .ok (g i j)
  | _, _ => .no
theorem opd_I0 {gv : Int → Int → V} {g : Int → Int → D} (hg : ∀ G i j, Rep K G (g i j) (gv i j)) : OpD K (rI0 gv) (gI0 g) := by
  intro B W σ ρ G H x y v u Q s rx ry p
  cases x <;> first | exact p.elim | skip
  rename_i i
  cases y <;> first | exact p.elim | skip
  rename_i j
  exact ⟨i, j, rep_int.mp rx, rep_int.mp ry, Post.ok s p (hg G i j)⟩
end
end Vl

set_option Elab.async false
set_option linter.all false
set_option maxRecDepth 100000
set_option maxHeartbeats 4000000
namespace Vl
open PySem PySem.Spec L2

/-! ### == of data -/
mutual
def eqD : D → D → Bool
  | .tup a, .tup b => eqDs a b
  | .lst a, .lst b => eqDs a b
  | .non, .non => true
  | .bl a, .bl b => a == b
  | .bl a, .int b => (if a then 1 else 0) == b
  | .int a, .bl b => a == (if b then 1 else 0)
  | .int a, .int b => a == b
  | .str a, .str b => a == b
  | .exn a b, .exn c d => a == c && b == d
  | _, _ => false
def eqDs : List D → List D → Bool
  | [], [] => true
  | a :: as, b :: bs => eqD a b && eqDs as bs
  | _, _ => false
end
mutual
def dep : D → Nat
  | .tup a => deps a + 1
  | .lst a => deps a + 1
  | .exn _ _ => cLine
  | _ => 0
def deps : List D → Nat
  | [] => 0
  | a :: as => Nat.max (dep a) (deps as)
end
mutual
theorem eqD_refl : ∀ d : D, eqD d d = true
  | .non => by simp [eqD]
  | .bl _ => by simp [eqD]
  | .int _ => by simp [eqD]
  | .str _ => by simp [eqD]
  | .tup a => by simp [eqD, eqDs_refl a]
  | .lst a => by simp [eqD, eqDs_refl a]
  | .exn _ _ => by simp [eqD]
theorem eqDs_refl : ∀ d : List D, eqDs d d = true
  | [] => by simp [eqDs]
  | a :: as => by simp [eqDs, eqD_refl a, eqDs_refl as]
end
theorem eqDs_range : ∀ (a b : List D), ((List.range (min a.length b.length)).all (fun j => eqD (a.getD j .non) (b.getD j .non)) && a.length == b.length) = eqDs a b
  | [], [] => by simp [eqDs]
  | [], b :: bs => by simp [eqDs]
  | a :: as, [] => by simp [eqDs]
  | a :: as, b :: bs => by
    have ih := eqDs_range as bs
    rw [eqDs, ← ih]
    rw [show min (a :: as).length (b :: bs).length = min as.length bs.length + 1 by simp]
    rw [List.range_succ_eq_map, List.all_cons, List.all_map]
    simp [Function.comp_def, Bool.and_assoc]
theorem mem_dep {d : D} : ∀ {ds : List D}, d ∈ ds → dep d ≤ deps ds
  | [], h => by cases h
  | x :: xs, h => by
    rw [deps]
    rcases List.mem_cons.mp h with rfl | h
    · exact Nat.le_max_left _ _
    · exact Nat.le_trans (mem_dep h) (Nat.le_max_right _ _)

section
variable {X : Cx} {pins : List (Addr × Obj)} {σ : St} {H : Hp} {s : Shared}
theorem not_both (I : Inv X pins σ H s) {a : Addr} {xs ys : List V} (h : SqL X.K H a xs) (h' : SqT X.K H a ys) : False := by
  obtain ⟨_, _, ⟨o, n, e, c, _, _⟩, _⟩ := I.list h
  obtain ⟨_, _, ⟨o', e', c', _⟩, _⟩ := I.tuple h'
  rw [e] at e'; cases e'
  rw [c] at c'; exact absurd c' (by decide)
theorem not_exnT (I : Inv X pins σ H s) {a : Addr} {xs : List V} {φ : Heap → Prop} (h : SqT X.K H a xs) (h' : H a = some (.ext φ)) : False := by
  rcases h with (h | ⟨o, h⟩) | ⟨o, its, n, hk, _⟩
  · rw [h'] at h; cases h
  · rw [h'] at h; cases h
  · have := (I.bs a o (I.mod.kin a o hk)).2
    rw [h'] at this; cases this
theorem not_exnL (I : Inv X pins σ H s) {a : Addr} {xs : List V} {φ : Heap → Prop} (h : SqL X.K H a xs) (h' : H a = some (.ext φ)) : False := by
  rcases h with (h | ⟨o, h⟩) | ⟨o, its, n, hk, _⟩
  · rw [h'] at h; cases h
  · rw [h'] at h; cases h
  · have := (I.bs a o (I.mod.kin a o hk)).2
    rw [h'] at this; cases this
mutual
theorem Rep.inj (I : Inv X pins σ H s) : ∀ {d d' : D} {v : V}, dep d < cLine → Rep X.K H d v → Rep X.K H d' v → d = d'
  | .non, d', v, _, h, h' => by
    rw [rep_non.mp h] at h'
    cases d' <;> simp only [Rep] at h' <;> first | rfl | (obtain ⟨a, vs, e, _⟩ := h'; cases e; done) | (cases h'; rfl) | cases h'
  | .bl _, d', v, _, h, h' => by
    rw [rep_bl.mp h] at h'
    cases d' <;> simp only [Rep] at h' <;> first | rfl | (obtain ⟨a, vs, e, _⟩ := h'; cases e; done) | (cases h'; rfl) | cases h'
  | .int _, d', v, _, h, h' => by
    rw [rep_int.mp h] at h'
    cases d' <;> simp only [Rep] at h' <;> first | rfl | (obtain ⟨a, vs, e, _⟩ := h'; cases e; done) | (cases h'; rfl) | cases h'
  | .str _, d', v, _, h, h' => by
    rw [rep_str.mp h] at h'
    cases d' <;> simp only [Rep] at h' <;> first | rfl | (obtain ⟨a, vs, e, _⟩ := h'; cases e; done) | (cases h'; rfl) | cases h'
  | .tup ds, d', v, hd, h, h' => by
    obtain ⟨a, vs, rfl, q, r⟩ := rep_tup.mp h
    cases d' with
    | tup es =>
      obtain ⟨b, us, e, q', r'⟩ := rep_tup.mp h'
      cases e
      rw [I.tuple_inj q' q] at r'
      rw [Reps.inj I (by simp only [dep] at hd; omega) r r']
    | lst es =>
      obtain ⟨b, us, e, q', r'⟩ := rep_lst.mp h'
      cases e
      exact (not_both I q' q).elim
    | exn c n =>
      obtain ⟨b, C, e, _, q'⟩ := rep_exn.mp h'
      cases e
      exact (not_exnT I q q').elim
    | _ => simp only [Rep] at h'; cases h'
  | .lst ds, d', v, hd, h, h' => by
    obtain ⟨a, vs, rfl, q, r⟩ := rep_lst.mp h
    cases d' with
    | lst es =>
      obtain ⟨b, us, e, q', r'⟩ := rep_lst.mp h'
      cases e
      rw [I.list_inj q' q] at r'
      rw [Reps.inj I (by simp only [dep] at hd; omega) r r']
    | tup es =>
      obtain ⟨b, us, e, q', r'⟩ := rep_tup.mp h'
      cases e
      exact (not_both I q q').elim
    | exn c n =>
      obtain ⟨b, C, e, _, q'⟩ := rep_exn.mp h'
      cases e
      exact (not_exnL I q q').elim
    | _ => simp only [Rep] at h'; cases h'
  | .exn _ _, d', v, hd, h, h' => by simp only [dep] at hd; exact absurd hd (Nat.lt_irrefl _)
theorem Reps.inj (I : Inv X pins σ H s) : ∀ {ds es : List D} {vs : List V}, deps ds < cLine → Reps X.K H ds vs → Reps X.K H es vs → ds = es
  | [], es, vs, _, h, h' => by
    rw [reps_nil.mp h] at h'
    cases es with
    | nil => rfl
    | cons e es => obtain ⟨v, vs', e1, _⟩ := reps_cons.mp h'; cases e1
  | d :: ds, es, vs, hd, h, h' => by
    obtain ⟨v, vs', rfl, r1, r2⟩ := reps_cons.mp h
    simp only [deps] at hd
    cases es with
    | nil => have := reps_nil.mp h'; cases this
    | cons e es =>
      obtain ⟨v', vs'', e1, r1', r2'⟩ := reps_cons.mp h'
      cases e1
      rw [Rep.inj I (Nat.lt_of_le_of_lt (Nat.le_max_left _ _) hd) r1 r1', Reps.inj I (Nat.lt_of_le_of_lt (Nat.le_max_right _ _) hd) r2 r2']
end
theorem items_of (I : Inv X pins σ H s) {m : Nat} {A : Around} {ds es : List D} {vs us : List V} {its its2 : List Value}
    (ih : ∀ {d d' : D} {v v' : V} {u u' : Value} {A : Around}, dep d ≤ m → dep d' ≤ m → A.units + m < cLine → Rep X.K H d v → Rep X.K H d' v' → RelV v u → RelV v' u' → SeqAt.EqAt A s u u' (eqD d d'))
    (hn : deps ds ≤ m) (hn' : deps es ≤ m) (hu : A.in1.units + m < cLine) (r1 : Reps X.K H ds vs) (r2 : Reps X.K H es us) (a1 : Vals vs its) (a2 : Vals us its2) :
    ∀ j (h1 : j < its.toArray.size) (h2 : j < its2.toArray.size), SeqAt.EqAt A.in1 s its.toArray[j] its2.toArray[j] (eqD (ds.getD j .non) (es.getD j .non)) := by
  intro j h1 h2
  have l1 : j < ds.length := by rw [r1.length, a1.length]; simpa using h1
  have l2 : j < es.length := by rw [r2.length, a2.length]; simpa using h2
  obtain ⟨x, hx, rx⟩ := r1.get (i := j) (d := ds[j]) (by simp [l1])
  obtain ⟨y, hy, ry⟩ := r2.get (i := j) (d := es[j]) (by simp [l2])
  obtain ⟨p, hp, rp⟩ := a1.get hx
  obtain ⟨q, hq, rq⟩ := a2.get hy
  have e1 : its.toArray[j] = p := by
    have := (List.getElem?_eq_some_iff.mp hp).2; simpa using this
  have e2 : its2.toArray[j] = q := by
    have := (List.getElem?_eq_some_iff.mp hq).2; simpa using this
  rw [e1, e2, List.getD_eq_getElem?_getD, List.getD_eq_getElem?_getD, List.getElem?_eq_getElem l1, List.getElem?_eq_getElem l2]
  exact ih (Nat.le_trans (mem_dep (List.getElem_mem l1)) hn) (Nat.le_trans (mem_dep (List.getElem_mem l2)) hn') hu rx ry rp rq
open SeqAt in
theorem eqD_at (I : Inv X pins σ H s) : ∀ (n : Nat) {d d' : D} {v v' : V} {u u' : Value} {A : Around}, dep d ≤ n → dep d' ≤ n → A.units + n < cLine → Rep X.K H d v → Rep X.K H d' v' → RelV v u → RelV v' u' → EqAt A s u u' (eqD d d') := by
  intro n
  induction n with
  | zero =>
    intro d d' v v' u u' A hd hd' hu r r' e e'
    have hu0 : A.units < cLine := by omega
    cases d with
    | non =>
      rw [rep_non.mp r] at e; cases e
      cases d' with
      | non =>
        rw [rep_non.mp r'] at e'; cases e'
        exact EqAt.same _
      | bl b =>
        rw [rep_bl.mp r'] at e'; cases e'
        exact EqAt.none_bool b
      | int b =>
        rw [rep_int.mp r'] at e'; obtain ⟨t', rfl⟩ := e'
        exact EqAt.none_int b t'
      | str b =>
        rw [rep_str.mp r'] at e'; obtain ⟨t', rfl⟩ := e'
        exact EqAt.none_str b t'
      | tup es =>
        obtain ⟨b, us, rfl, q', rr'⟩ := rep_tup.mp r'
        cases e'
        obtain ⟨its2, av2, t2, _⟩ := I.tuple q'
        exact EqAt.none_tuple t2 hu0
      | lst es =>
        obtain ⟨b, us, rfl, q', rr'⟩ := rep_lst.mp r'
        cases e'
        obtain ⟨its2, av2, t3, _⟩ := I.list q'
        have t2 := t3.isList
        exact EqAt.none_list t2 hu0
      | exn c m =>
        simp only [dep] at hd'; exact absurd hu (by omega)
    | bl x =>
      rw [rep_bl.mp r] at e; cases e
      cases d' with
      | non =>
        rw [rep_non.mp r'] at e'; cases e'
        exact EqAt.bool_none x
      | bl b =>
        rw [rep_bl.mp r'] at e'; cases e'
        exact EqAt.bool_bool x b
      | int b =>
        rw [rep_int.mp r'] at e'; obtain ⟨t', rfl⟩ := e'
        exact EqAt.bool_int x b t'
      | str b =>
        rw [rep_str.mp r'] at e'; obtain ⟨t', rfl⟩ := e'
        exact EqAt.bool_str x b t'
      | tup es =>
        obtain ⟨b, us, rfl, q', rr'⟩ := rep_tup.mp r'
        cases e'
        obtain ⟨its2, av2, t2, _⟩ := I.tuple q'
        exact EqAt.bool_tuple x t2 hu0
      | lst es =>
        obtain ⟨b, us, rfl, q', rr'⟩ := rep_lst.mp r'
        cases e'
        obtain ⟨its2, av2, t3, _⟩ := I.list q'
        have t2 := t3.isList
        exact EqAt.bool_list x t2 hu0
      | exn c m =>
        simp only [dep] at hd'; exact absurd hu (by omega)
    | int x =>
      rw [rep_int.mp r] at e; obtain ⟨t0, rfl⟩ := e
      cases d' with
      | non =>
        rw [rep_non.mp r'] at e'; cases e'
        exact EqAt.int_none x t0
      | bl b =>
        rw [rep_bl.mp r'] at e'; cases e'
        exact EqAt.int_bool x t0 b
      | int b =>
        rw [rep_int.mp r'] at e'; obtain ⟨t', rfl⟩ := e'
        exact EqAt.int_int x t0 b t'
      | str b =>
        rw [rep_str.mp r'] at e'; obtain ⟨t', rfl⟩ := e'
        exact EqAt.int_str x t0 b t'
      | tup es =>
        obtain ⟨b, us, rfl, q', rr'⟩ := rep_tup.mp r'
        cases e'
        obtain ⟨its2, av2, t2, _⟩ := I.tuple q'
        exact EqAt.int_tuple x t0 t2 hu0
      | lst es =>
        obtain ⟨b, us, rfl, q', rr'⟩ := rep_lst.mp r'
        cases e'
        obtain ⟨its2, av2, t3, _⟩ := I.list q'
        have t2 := t3.isList
        exact EqAt.int_list x t0 t2 hu0
      | exn c m =>
        simp only [dep] at hd'; exact absurd hu (by omega)
    | str x =>
      rw [rep_str.mp r] at e; obtain ⟨t0, rfl⟩ := e
      cases d' with
      | non =>
        rw [rep_non.mp r'] at e'; cases e'
        exact EqAt.str_none x t0
      | bl b =>
        rw [rep_bl.mp r'] at e'; cases e'
        exact EqAt.str_bool x t0 b
      | int b =>
        rw [rep_int.mp r'] at e'; obtain ⟨t', rfl⟩ := e'
        exact EqAt.str_int x t0 b t'
      | str b =>
        rw [rep_str.mp r'] at e'; obtain ⟨t', rfl⟩ := e'
        exact EqAt.str_str x t0 b t'
      | tup es =>
        obtain ⟨b, us, rfl, q', rr'⟩ := rep_tup.mp r'
        cases e'
        obtain ⟨its2, av2, t2, _⟩ := I.tuple q'
        exact EqAt.str_tuple x t0 t2 hu0
      | lst es =>
        obtain ⟨b, us, rfl, q', rr'⟩ := rep_lst.mp r'
        cases e'
        obtain ⟨its2, av2, t3, _⟩ := I.list q'
        have t2 := t3.isList
        exact EqAt.str_list x t0 t2 hu0
      | exn c m =>
        simp only [dep] at hd'; exact absurd hu (by omega)
    | tup ds =>
      obtain ⟨a, vs, rfl, q, rr⟩ := rep_tup.mp r
      cases e
      obtain ⟨its, av, t, _⟩ := I.tuple q
      cases d' with
      | non =>
        rw [rep_non.mp r'] at e'; cases e'
        exact EqAt.tuple_none t hu0
      | bl b =>
        rw [rep_bl.mp r'] at e'; cases e'
        exact EqAt.tuple_bool b t hu0
      | int b =>
        rw [rep_int.mp r'] at e'; obtain ⟨t', rfl⟩ := e'
        exact EqAt.tuple_int b t' t hu0
      | str b =>
        rw [rep_str.mp r'] at e'; obtain ⟨t', rfl⟩ := e'
        exact EqAt.tuple_str b t' t hu0
      | tup es =>
        obtain ⟨b, us, rfl, q', rr'⟩ := rep_tup.mp r'
        cases e'
        obtain ⟨its2, av2, t2, _⟩ := I.tuple q'
        simp only [dep] at hd; omega
      | lst es =>
        obtain ⟨b, us, rfl, q', rr'⟩ := rep_lst.mp r'
        cases e'
        obtain ⟨its2, av2, t3, _⟩ := I.list q'
        have t2 := t3.isList
        exact EqAt.tuple_list t t2 hu0
      | exn c m =>
        simp only [dep] at hd'; exact absurd hu (by omega)
    | lst ds =>
      obtain ⟨a, vs, rfl, q, rr⟩ := rep_lst.mp r
      cases e
      obtain ⟨its, av, t1, _⟩ := I.list q
      have t := t1.isList
      cases d' with
      | non =>
        rw [rep_non.mp r'] at e'; cases e'
        exact EqAt.list_none t hu0
      | bl b =>
        rw [rep_bl.mp r'] at e'; cases e'
        exact EqAt.list_bool b t hu0
      | int b =>
        rw [rep_int.mp r'] at e'; obtain ⟨t', rfl⟩ := e'
        exact EqAt.list_int b t' t hu0
      | str b =>
        rw [rep_str.mp r'] at e'; obtain ⟨t', rfl⟩ := e'
        exact EqAt.list_str b t' t hu0
      | tup es =>
        obtain ⟨b, us, rfl, q', rr'⟩ := rep_tup.mp r'
        cases e'
        obtain ⟨its2, av2, t2, _⟩ := I.tuple q'
        exact EqAt.list_tuple t t2 hu0
      | lst es =>
        obtain ⟨b, us, rfl, q', rr'⟩ := rep_lst.mp r'
        cases e'
        obtain ⟨its2, av2, t3, _⟩ := I.list q'
        have t2 := t3.isList
        simp only [dep] at hd; omega
      | exn c m =>
        simp only [dep] at hd'; exact absurd hu (by omega)
    | exn c m =>
      simp only [dep] at hd; exact absurd hu (by omega)
  | succ m ih =>
    intro d d' v v' u u' A hd hd' hu r r' e e'
    have hu0 : A.units < cLine := by omega
    cases d with
    | non =>
      rw [rep_non.mp r] at e; cases e
      cases d' with
      | non =>
        rw [rep_non.mp r'] at e'; cases e'
        exact EqAt.same _
      | bl b =>
        rw [rep_bl.mp r'] at e'; cases e'
        exact EqAt.none_bool b
      | int b =>
        rw [rep_int.mp r'] at e'; obtain ⟨t', rfl⟩ := e'
        exact EqAt.none_int b t'
      | str b =>
        rw [rep_str.mp r'] at e'; obtain ⟨t', rfl⟩ := e'
        exact EqAt.none_str b t'
      | tup es =>
        obtain ⟨b, us, rfl, q', rr'⟩ := rep_tup.mp r'
        cases e'
        obtain ⟨its2, av2, t2, _⟩ := I.tuple q'
        exact EqAt.none_tuple t2 hu0
      | lst es =>
        obtain ⟨b, us, rfl, q', rr'⟩ := rep_lst.mp r'
        cases e'
        obtain ⟨its2, av2, t3, _⟩ := I.list q'
        have t2 := t3.isList
        exact EqAt.none_list t2 hu0
      | exn c m =>
        simp only [dep] at hd'; exact absurd hu (by omega)
    | bl x =>
      rw [rep_bl.mp r] at e; cases e
      cases d' with
      | non =>
        rw [rep_non.mp r'] at e'; cases e'
        exact EqAt.bool_none x
      | bl b =>
        rw [rep_bl.mp r'] at e'; cases e'
        exact EqAt.bool_bool x b
      | int b =>
        rw [rep_int.mp r'] at e'; obtain ⟨t', rfl⟩ := e'
        exact EqAt.bool_int x b t'
      | str b =>
        rw [rep_str.mp r'] at e'; obtain ⟨t', rfl⟩ := e'
        exact EqAt.bool_str x b t'
      | tup es =>
        obtain ⟨b, us, rfl, q', rr'⟩ := rep_tup.mp r'
        cases e'
        obtain ⟨its2, av2, t2, _⟩ := I.tuple q'
        exact EqAt.bool_tuple x t2 hu0
      | lst es =>
        obtain ⟨b, us, rfl, q', rr'⟩ := rep_lst.mp r'
        cases e'
        obtain ⟨its2, av2, t3, _⟩ := I.list q'
        have t2 := t3.isList
        exact EqAt.bool_list x t2 hu0
      | exn c m =>
        simp only [dep] at hd'; exact absurd hu (by omega)
    | int x =>
      rw [rep_int.mp r] at e; obtain ⟨t0, rfl⟩ := e
      cases d' with
      | non =>
        rw [rep_non.mp r'] at e'; cases e'
        exact EqAt.int_none x t0
      | bl b =>
        rw [rep_bl.mp r'] at e'; cases e'
        exact EqAt.int_bool x t0 b
      | int b =>
        rw [rep_int.mp r'] at e'; obtain ⟨t', rfl⟩ := e'
        exact EqAt.int_int x t0 b t'
      | str b =>
        rw [rep_str.mp r'] at e'; obtain ⟨t', rfl⟩ := e'
        exact EqAt.int_str x t0 b t'
      | tup es =>
        obtain ⟨b, us, rfl, q', rr'⟩ := rep_tup.mp r'
        cases e'
        obtain ⟨its2, av2, t2, _⟩ := I.tuple q'
        exact EqAt.int_tuple x t0 t2 hu0
      | lst es =>
        obtain ⟨b, us, rfl, q', rr'⟩ := rep_lst.mp r'
        cases e'
        obtain ⟨its2, av2, t3, _⟩ := I.list q'
        have t2 := t3.isList
        exact EqAt.int_list x t0 t2 hu0
      | exn c m =>
        simp only [dep] at hd'; exact absurd hu (by omega)
    | str x =>
      rw [rep_str.mp r] at e; obtain ⟨t0, rfl⟩ := e
      cases d' with
      | non =>
        rw [rep_non.mp r'] at e'; cases e'
        exact EqAt.str_none x t0
      | bl b =>
        rw [rep_bl.mp r'] at e'; cases e'
        exact EqAt.str_bool x t0 b
      | int b =>
        rw [rep_int.mp r'] at e'; obtain ⟨t', rfl⟩ := e'
        exact EqAt.str_int x t0 b t'
      | str b =>
        rw [rep_str.mp r'] at e'; obtain ⟨t', rfl⟩ := e'
        exact EqAt.str_str x t0 b t'
      | tup es =>
        obtain ⟨b, us, rfl, q', rr'⟩ := rep_tup.mp r'
        cases e'
        obtain ⟨its2, av2, t2, _⟩ := I.tuple q'
        exact EqAt.str_tuple x t0 t2 hu0
      | lst es =>
        obtain ⟨b, us, rfl, q', rr'⟩ := rep_lst.mp r'
        cases e'
        obtain ⟨its2, av2, t3, _⟩ := I.list q'
        have t2 := t3.isList
        exact EqAt.str_list x t0 t2 hu0
      | exn c m =>
        simp only [dep] at hd'; exact absurd hu (by omega)
    | tup ds =>
      obtain ⟨a, vs, rfl, q, rr⟩ := rep_tup.mp r
      cases e
      obtain ⟨its, av, t, _⟩ := I.tuple q
      cases d' with
      | non =>
        rw [rep_non.mp r'] at e'; cases e'
        exact EqAt.tuple_none t hu0
      | bl b =>
        rw [rep_bl.mp r'] at e'; cases e'
        exact EqAt.tuple_bool b t hu0
      | int b =>
        rw [rep_int.mp r'] at e'; obtain ⟨t', rfl⟩ := e'
        exact EqAt.tuple_int b t' t hu0
      | str b =>
        rw [rep_str.mp r'] at e'; obtain ⟨t', rfl⟩ := e'
        exact EqAt.tuple_str b t' t hu0
      | tup es =>
        obtain ⟨b, us, rfl, q', rr'⟩ := rep_tup.mp r'
        cases e'
        obtain ⟨its2, av2, t2, _⟩ := I.tuple q'
        have hn : deps ds ≤ m := by simp only [dep] at hd; omega
        have hn' : deps es ≤ m := by simp only [dep] at hd'; omega
        by_cases hab : a = b
        · subst hab
          rw [Rep.inj I (by omega) r r', eqD_refl]
          exact EqAt.same _
        have items := items_of I ih hn hn' (show A.in1.units + m < cLine by show A.units + 1 + m < _; omega) rr rr' av av2
        have h := RcAt.tuples (A := A) t t2 hu0 items
        rw [List.size_toArray, List.size_toArray, ← av.length, ← av2.length, ← rr.length, ← rr'.length, eqDs_range] at h
        exact EqAt.of_refs hab h
      | lst es =>
        obtain ⟨b, us, rfl, q', rr'⟩ := rep_lst.mp r'
        cases e'
        obtain ⟨its2, av2, t3, _⟩ := I.list q'
        have t2 := t3.isList
        exact EqAt.tuple_list t t2 hu0
      | exn c m =>
        simp only [dep] at hd'; exact absurd hu (by omega)
    | lst ds =>
      obtain ⟨a, vs, rfl, q, rr⟩ := rep_lst.mp r
      cases e
      obtain ⟨its, av, t1, _⟩ := I.list q
      have t := t1.isList
      cases d' with
      | non =>
        rw [rep_non.mp r'] at e'; cases e'
        exact EqAt.list_none t hu0
      | bl b =>
        rw [rep_bl.mp r'] at e'; cases e'
        exact EqAt.list_bool b t hu0
      | int b =>
        rw [rep_int.mp r'] at e'; obtain ⟨t', rfl⟩ := e'
        exact EqAt.list_int b t' t hu0
      | str b =>
        rw [rep_str.mp r'] at e'; obtain ⟨t', rfl⟩ := e'
        exact EqAt.list_str b t' t hu0
      | tup es =>
        obtain ⟨b, us, rfl, q', rr'⟩ := rep_tup.mp r'
        cases e'
        obtain ⟨its2, av2, t2, _⟩ := I.tuple q'
        exact EqAt.list_tuple t t2 hu0
      | lst es =>
        obtain ⟨b, us, rfl, q', rr'⟩ := rep_lst.mp r'
        cases e'
        obtain ⟨its2, av2, t3, _⟩ := I.list q'
        have t2 := t3.isList
        have hn : deps ds ≤ m := by simp only [dep] at hd; omega
        have hn' : deps es ≤ m := by simp only [dep] at hd'; omega
        by_cases hab : a = b
        · subst hab
          rw [Rep.inj I (by omega) r r', eqD_refl]
          exact EqAt.same _
        have items := items_of I ih hn hn' (show A.in1.units + m < cLine by show A.units + 1 + m < _; omega) rr rr' av av2
        by_cases hl : its.toArray.size = its2.toArray.size
        · have h := RcAt.lists (A := A) t t2 hl hu0 items
          rw [List.size_toArray, ← av.length, ← rr.length] at h
          have hl' : ds.length = es.length := by rw [rr.length, rr'.length, av.length, av2.length]; simpa using hl
          have e1 := eqDs_range ds es
          rw [hl', Nat.min_self] at e1
          simp only [beq_self_eq_true, Bool.and_true] at e1
          rw [hl', e1] at h
          exact EqAt.of_refs hab h
        · have h := RcAt.lists_lengths (A := A) t t2 (by simpa using hl) hu0
          have hl' : ds.length ≠ es.length := by rw [rr.length, rr'.length, av.length, av2.length]; simpa using hl
          have e1 := eqDs_range ds es
          rw [show (ds.length == es.length) = false by simpa using hl', Bool.and_false] at e1
          rw [show eqD (.lst ds) (.lst es) = false by rw [eqD, ← e1]]
          exact EqAt.of_refs hab h
      | exn c m =>
        simp only [dep] at hd'; exact absurd hu (by omega)
    | exn c m =>
      simp only [dep] at hd; exact absurd hu (by omega)
end
end Vl

set_option Elab.async false
set_option linter.all false
set_option maxRecDepth 100000
set_option maxHeartbeats 4000000
namespace Vl
open PySem PySem.Spec L2
section
variable {X : Cx} {pins : List (Addr × Obj)} {σ : St} {H : Hp} {s : Shared}
theorem items_at (I : Inv X pins σ H s) {m : Nat} {A : Around} {ds es : List D} {vs us : List V} {its its2 : List Value} (hn : deps ds ≤ m) (hn' : deps es ≤ m) (hu : A.in1.units + m < cLine) (r1 : Reps X.K H ds vs) (r2 : Reps X.K H es us) (a1 : Vals vs its) (a2 : Vals us its2) :
    ∀ j (h1 : j < its.toArray.size) (h2 : j < its2.toArray.size), SeqAt.EqAt A.in1 s its.toArray[j] its2.toArray[j] (eqD (ds.getD j .non) (es.getD j .non)) :=
  items_of I (fun a b c d e f g => eqD_at I m a b c d e f g) hn hn' hu r1 r2 a1 a2
open SeqAt in
theorem rcD_at (I : Inv X pins σ H s) {n : Nat} {d d' : D} {v v' : V} {u u' : Value} {A : Around} (hd : dep d ≤ n) (hd' : dep d' ≤ n) (hu : A.units + n < cLine) (r : Rep X.K H d v) (r' : Rep X.K H d' v') (e : RelV v u) (e' : RelV v' u') : RcAt A s u u' (eqD d d') := by
  have hu0 : A.units < cLine := by omega
  cases d with
  | non =>
    rw [rep_non.mp r] at e; cases e
    cases d' with
    | non =>
      rw [rep_non.mp r'] at e'; cases e'
      exact RcAt.none_none 
    | bl b =>
      rw [rep_bl.mp r'] at e'; cases e'
      exact RcAt.none_bool b
    | int b =>
      rw [rep_int.mp r'] at e'; obtain ⟨t', rfl⟩ := e'
      exact RcAt.none_int b t'
    | str b =>
      rw [rep_str.mp r'] at e'; obtain ⟨t', rfl⟩ := e'
      exact RcAt.none_str b t'
    | tup es =>
      obtain ⟨b, us, rfl, q', rr'⟩ := rep_tup.mp r'
      cases e'
      obtain ⟨its2, av2, t2, _⟩ := I.tuple q'
      exact RcAt.none_tuple t2 hu0
    | lst es =>
      obtain ⟨b, us, rfl, q', rr'⟩ := rep_lst.mp r'
      cases e'
      obtain ⟨its2, av2, t3, _⟩ := I.list q'
      have t2 := t3.isList
      exact RcAt.none_list t2 hu0
    | exn c m =>
      simp only [dep] at hd'; exact absurd hu (by omega)
  | bl x =>
    rw [rep_bl.mp r] at e; cases e
    cases d' with
    | non =>
      rw [rep_non.mp r'] at e'; cases e'
      exact RcAt.bool_none x
    | bl b =>
      rw [rep_bl.mp r'] at e'; cases e'
      exact RcAt.bool_bool x b
    | int b =>
      rw [rep_int.mp r'] at e'; obtain ⟨t', rfl⟩ := e'
      exact RcAt.bool_int x b t'
    | str b =>
      rw [rep_str.mp r'] at e'; obtain ⟨t', rfl⟩ := e'
      exact RcAt.bool_str x b t'
    | tup es =>
      obtain ⟨b, us, rfl, q', rr'⟩ := rep_tup.mp r'
      cases e'
      obtain ⟨its2, av2, t2, _⟩ := I.tuple q'
      exact RcAt.bool_tuple x t2 hu0
    | lst es =>
      obtain ⟨b, us, rfl, q', rr'⟩ := rep_lst.mp r'
      cases e'
      obtain ⟨its2, av2, t3, _⟩ := I.list q'
      have t2 := t3.isList
      exact RcAt.bool_list x t2 hu0
    | exn c m =>
      simp only [dep] at hd'; exact absurd hu (by omega)
  | int x =>
    rw [rep_int.mp r] at e; obtain ⟨t0, rfl⟩ := e
    cases d' with
    | non =>
      rw [rep_non.mp r'] at e'; cases e'
      exact RcAt.int_none x t0
    | bl b =>
      rw [rep_bl.mp r'] at e'; cases e'
      exact RcAt.int_bool x t0 b
    | int b =>
      rw [rep_int.mp r'] at e'; obtain ⟨t', rfl⟩ := e'
      exact RcAt.int_int x t0 b t'
    | str b =>
      rw [rep_str.mp r'] at e'; obtain ⟨t', rfl⟩ := e'
      exact RcAt.int_str x t0 b t'
    | tup es =>
      obtain ⟨b, us, rfl, q', rr'⟩ := rep_tup.mp r'
      cases e'
      obtain ⟨its2, av2, t2, _⟩ := I.tuple q'
      exact RcAt.int_tuple x t0 t2 hu0
    | lst es =>
      obtain ⟨b, us, rfl, q', rr'⟩ := rep_lst.mp r'
      cases e'
      obtain ⟨its2, av2, t3, _⟩ := I.list q'
      have t2 := t3.isList
      exact RcAt.int_list x t0 t2 hu0
    | exn c m =>
      simp only [dep] at hd'; exact absurd hu (by omega)
  | str x =>
    rw [rep_str.mp r] at e; obtain ⟨t0, rfl⟩ := e
    cases d' with
    | non =>
      rw [rep_non.mp r'] at e'; cases e'
      exact RcAt.str_none x t0
    | bl b =>
      rw [rep_bl.mp r'] at e'; cases e'
      exact RcAt.str_bool x t0 b
    | int b =>
      rw [rep_int.mp r'] at e'; obtain ⟨t', rfl⟩ := e'
      exact RcAt.str_int x t0 b t'
    | str b =>
      rw [rep_str.mp r'] at e'; obtain ⟨t', rfl⟩ := e'
      exact RcAt.str_str x t0 b t'
    | tup es =>
      obtain ⟨b, us, rfl, q', rr'⟩ := rep_tup.mp r'
      cases e'
      obtain ⟨its2, av2, t2, _⟩ := I.tuple q'
      exact RcAt.str_tuple x t0 t2 hu0
    | lst es =>
      obtain ⟨b, us, rfl, q', rr'⟩ := rep_lst.mp r'
      cases e'
      obtain ⟨its2, av2, t3, _⟩ := I.list q'
      have t2 := t3.isList
      exact RcAt.str_list x t0 t2 hu0
    | exn c m =>
      simp only [dep] at hd'; exact absurd hu (by omega)
  | tup ds =>
    obtain ⟨a, vs, rfl, q, rr⟩ := rep_tup.mp r
    cases e
    obtain ⟨its, av, t, _⟩ := I.tuple q
    cases d' with
    | non =>
      rw [rep_non.mp r'] at e'; cases e'
      exact RcAt.tuple_none t hu0
    | bl b =>
      rw [rep_bl.mp r'] at e'; cases e'
      exact RcAt.tuple_bool b t hu0
    | int b =>
      rw [rep_int.mp r'] at e'; obtain ⟨t', rfl⟩ := e'
      exact RcAt.tuple_int b t' t hu0
    | str b =>
      rw [rep_str.mp r'] at e'; obtain ⟨t', rfl⟩ := e'
      exact RcAt.tuple_str b t' t hu0
    | tup es =>
      obtain ⟨b, us, rfl, q', rr'⟩ := rep_tup.mp r'
      cases e'
      obtain ⟨its2, av2, t2, _⟩ := I.tuple q'
      obtain ⟨m, rfl⟩ : ∃ m, n = m + 1 := ⟨n - 1, by simp only [dep] at hd; omega⟩
      have hn : deps ds ≤ m := by simp only [dep] at hd; omega
      have hn' : deps es ≤ m := by simp only [dep] at hd'; omega
      have items := items_at I hn hn' (show A.in1.units + m < cLine by show A.units + 1 + m < _; omega) rr rr' av av2
      have h := RcAt.tuples (A := A) t t2 hu0 items
      rw [List.size_toArray, List.size_toArray, ← av.length, ← av2.length, ← rr.length, ← rr'.length, eqDs_range] at h
      exact h
    | lst es =>
      obtain ⟨b, us, rfl, q', rr'⟩ := rep_lst.mp r'
      cases e'
      obtain ⟨its2, av2, t3, _⟩ := I.list q'
      have t2 := t3.isList
      exact RcAt.tuple_list t t2 hu0
    | exn c m =>
      simp only [dep] at hd'; exact absurd hu (by omega)
  | lst ds =>
    obtain ⟨a, vs, rfl, q, rr⟩ := rep_lst.mp r
    cases e
    obtain ⟨its, av, t1, _⟩ := I.list q
    have t := t1.isList
    cases d' with
    | non =>
      rw [rep_non.mp r'] at e'; cases e'
      exact RcAt.list_none t hu0
    | bl b =>
      rw [rep_bl.mp r'] at e'; cases e'
      exact RcAt.list_bool b t hu0
    | int b =>
      rw [rep_int.mp r'] at e'; obtain ⟨t', rfl⟩ := e'
      exact RcAt.list_int b t' t hu0
    | str b =>
      rw [rep_str.mp r'] at e'; obtain ⟨t', rfl⟩ := e'
      exact RcAt.list_str b t' t hu0
    | tup es =>
      obtain ⟨b, us, rfl, q', rr'⟩ := rep_tup.mp r'
      cases e'
      obtain ⟨its2, av2, t2, _⟩ := I.tuple q'
      exact RcAt.list_tuple t t2 hu0
    | lst es =>
      obtain ⟨b, us, rfl, q', rr'⟩ := rep_lst.mp r'
      cases e'
      obtain ⟨its2, av2, t3, _⟩ := I.list q'
      have t2 := t3.isList
      obtain ⟨m, rfl⟩ : ∃ m, n = m + 1 := ⟨n - 1, by simp only [dep] at hd; omega⟩
      have hn : deps ds ≤ m := by simp only [dep] at hd; omega
      have hn' : deps es ≤ m := by simp only [dep] at hd'; omega
      have items := items_at I hn hn' (show A.in1.units + m < cLine by show A.units + 1 + m < _; omega) rr rr' av av2
      by_cases hl : its.toArray.size = its2.toArray.size
      · have h := RcAt.lists (A := A) t t2 hl hu0 items
        rw [List.size_toArray, ← av.length, ← rr.length] at h
        have hl' : ds.length = es.length := by rw [rr.length, rr'.length, av.length, av2.length]; simpa using hl
        have e1 := eqDs_range ds es
        rw [hl', Nat.min_self] at e1
        simp only [beq_self_eq_true, Bool.and_true] at e1
        rw [hl', e1] at h
        exact h
      · have h := RcAt.lists_lengths (A := A) t t2 (by simpa using hl) hu0
        have hl' : ds.length ≠ es.length := by rw [rr.length, rr'.length, av.length, av2.length]; simpa using hl
        have e1 := eqDs_range ds es
        rw [show (ds.length == es.length) = false by simpa using hl', Bool.and_false] at e1
        rw [show eqD (.lst ds) (.lst es) = false by rw [eqD, ← e1]]
        exact h
    | exn c m =>
      simp only [dep] at hd'; exact absurd hu (by omega)
  | exn c m =>
    simp only [dep] at hd; exact absurd hu (by omega)
open SeqAt in
theorem rcneD_at (I : Inv X pins σ H s) {n : Nat} {d d' : D} {v v' : V} {u u' : Value} {A : Around} (hd : dep d ≤ n) (hd' : dep d' ≤ n) (hu : A.units + n < cLine) (r : Rep X.K H d v) (r' : Rep X.K H d' v') (e : RelV v u) (e' : RelV v' u') : RcNeAt A s u u' (!eqD d d') := by
  have hu0 : A.units < cLine := by omega
  cases d with
  | non =>
    rw [rep_non.mp r] at e; cases e
    cases d' with
    | non =>
      rw [rep_non.mp r'] at e'; cases e'
      exact RcNeAt.none_none 
    | bl b =>
      rw [rep_bl.mp r'] at e'; cases e'
      exact RcNeAt.none_bool b
    | int b =>
      rw [rep_int.mp r'] at e'; obtain ⟨t', rfl⟩ := e'
      exact RcNeAt.none_int b t'
    | str b =>
      rw [rep_str.mp r'] at e'; obtain ⟨t', rfl⟩ := e'
      exact RcNeAt.none_str b t'
    | tup es =>
      obtain ⟨b, us, rfl, q', rr'⟩ := rep_tup.mp r'
      cases e'
      obtain ⟨its2, av2, t2, _⟩ := I.tuple q'
      exact RcNeAt.none_tuple t2 hu0
    | lst es =>
      obtain ⟨b, us, rfl, q', rr'⟩ := rep_lst.mp r'
      cases e'
      obtain ⟨its2, av2, t3, _⟩ := I.list q'
      have t2 := t3.isList
      exact RcNeAt.none_list t2 hu0
    | exn c m =>
      simp only [dep] at hd'; exact absurd hu (by omega)
  | bl x =>
    rw [rep_bl.mp r] at e; cases e
    cases d' with
    | non =>
      rw [rep_non.mp r'] at e'; cases e'
      exact RcNeAt.bool_none x
    | bl b =>
      rw [rep_bl.mp r'] at e'; cases e'
      exact RcNeAt.bool_bool x b
    | int b =>
      rw [rep_int.mp r'] at e'; obtain ⟨t', rfl⟩ := e'
      exact RcNeAt.bool_int x b t'
    | str b =>
      rw [rep_str.mp r'] at e'; obtain ⟨t', rfl⟩ := e'
      exact RcNeAt.bool_str x b t'
    | tup es =>
      obtain ⟨b, us, rfl, q', rr'⟩ := rep_tup.mp r'
      cases e'
      obtain ⟨its2, av2, t2, _⟩ := I.tuple q'
      exact RcNeAt.bool_tuple x t2 hu0
    | lst es =>
      obtain ⟨b, us, rfl, q', rr'⟩ := rep_lst.mp r'
      cases e'
      obtain ⟨its2, av2, t3, _⟩ := I.list q'
      have t2 := t3.isList
      exact RcNeAt.bool_list x t2 hu0
    | exn c m =>
      simp only [dep] at hd'; exact absurd hu (by omega)
  | int x =>
    rw [rep_int.mp r] at e; obtain ⟨t0, rfl⟩ := e
    cases d' with
    | non =>
      rw [rep_non.mp r'] at e'; cases e'
      exact RcNeAt.int_none x t0
    | bl b =>
      rw [rep_bl.mp r'] at e'; cases e'
      exact RcNeAt.int_bool x t0 b
    | int b =>
      rw [rep_int.mp r'] at e'; obtain ⟨t', rfl⟩ := e'
      exact RcNeAt.int_int x t0 b t'
    | str b =>
      rw [rep_str.mp r'] at e'; obtain ⟨t', rfl⟩ := e'
      exact RcNeAt.int_str x t0 b t'
    | tup es =>
      obtain ⟨b, us, rfl, q', rr'⟩ := rep_tup.mp r'
      cases e'
      obtain ⟨its2, av2, t2, _⟩ := I.tuple q'
      exact RcNeAt.int_tuple x t0 t2 hu0
    | lst es =>
      obtain ⟨b, us, rfl, q', rr'⟩ := rep_lst.mp r'
      cases e'
      obtain ⟨its2, av2, t3, _⟩ := I.list q'
      have t2 := t3.isList
      exact RcNeAt.int_list x t0 t2 hu0
    | exn c m =>
      simp only [dep] at hd'; exact absurd hu (by omega)
  | str x =>
    rw [rep_str.mp r] at e; obtain ⟨t0, rfl⟩ := e
    cases d' with
    | non =>
      rw [rep_non.mp r'] at e'; cases e'
      exact RcNeAt.str_none x t0
    | bl b =>
      rw [rep_bl.mp r'] at e'; cases e'
      exact RcNeAt.str_bool x t0 b
    | int b =>
      rw [rep_int.mp r'] at e'; obtain ⟨t', rfl⟩ := e'
      exact RcNeAt.str_int x t0 b t'
    | str b =>
      rw [rep_str.mp r'] at e'; obtain ⟨t', rfl⟩ := e'
      exact RcNeAt.str_str x t0 b t'
    | tup es =>
      obtain ⟨b, us, rfl, q', rr'⟩ := rep_tup.mp r'
      cases e'
      obtain ⟨its2, av2, t2, _⟩ := I.tuple q'
      exact RcNeAt.str_tuple x t0 t2 hu0
    | lst es =>
      obtain ⟨b, us, rfl, q', rr'⟩ := rep_lst.mp r'
      cases e'
      obtain ⟨its2, av2, t3, _⟩ := I.list q'
      have t2 := t3.isList
      exact RcNeAt.str_list x t0 t2 hu0
    | exn c m =>
      simp only [dep] at hd'; exact absurd hu (by omega)
  | tup ds =>
    obtain ⟨a, vs, rfl, q, rr⟩ := rep_tup.mp r
    cases e
    obtain ⟨its, av, t, _⟩ := I.tuple q
    cases d' with
    | non =>
      rw [rep_non.mp r'] at e'; cases e'
      exact RcNeAt.tuple_none t hu0
    | bl b =>
      rw [rep_bl.mp r'] at e'; cases e'
      exact RcNeAt.tuple_bool b t hu0
    | int b =>
      rw [rep_int.mp r'] at e'; obtain ⟨t', rfl⟩ := e'
      exact RcNeAt.tuple_int b t' t hu0
    | str b =>
      rw [rep_str.mp r'] at e'; obtain ⟨t', rfl⟩ := e'
      exact RcNeAt.tuple_str b t' t hu0
    | tup es =>
      obtain ⟨b, us, rfl, q', rr'⟩ := rep_tup.mp r'
      cases e'
      obtain ⟨its2, av2, t2, _⟩ := I.tuple q'
      obtain ⟨m, rfl⟩ : ∃ m, n = m + 1 := ⟨n - 1, by simp only [dep] at hd; omega⟩
      have hn : deps ds ≤ m := by simp only [dep] at hd; omega
      have hn' : deps es ≤ m := by simp only [dep] at hd'; omega
      have items := items_at I hn hn' (show A.in1.units + m < cLine by show A.units + 1 + m < _; omega) rr rr' av av2
      have h := RcNeAt.tuples (A := A) t t2 hu0 items
      rw [List.size_toArray, List.size_toArray, ← av.length, ← av2.length, ← rr.length, ← rr'.length, eqDs_range] at h
      exact h
    | lst es =>
      obtain ⟨b, us, rfl, q', rr'⟩ := rep_lst.mp r'
      cases e'
      obtain ⟨its2, av2, t3, _⟩ := I.list q'
      have t2 := t3.isList
      exact RcNeAt.tuple_list t t2 hu0
    | exn c m =>
      simp only [dep] at hd'; exact absurd hu (by omega)
  | lst ds =>
    obtain ⟨a, vs, rfl, q, rr⟩ := rep_lst.mp r
    cases e
    obtain ⟨its, av, t1, _⟩ := I.list q
    have t := t1.isList
    cases d' with
    | non =>
      rw [rep_non.mp r'] at e'; cases e'
      exact RcNeAt.list_none t hu0
    | bl b =>
      rw [rep_bl.mp r'] at e'; cases e'
      exact RcNeAt.list_bool b t hu0
    | int b =>
      rw [rep_int.mp r'] at e'; obtain ⟨t', rfl⟩ := e'
      exact RcNeAt.list_int b t' t hu0
    | str b =>
      rw [rep_str.mp r'] at e'; obtain ⟨t', rfl⟩ := e'
      exact RcNeAt.list_str b t' t hu0
    | tup es =>
      obtain ⟨b, us, rfl, q', rr'⟩ := rep_tup.mp r'
      cases e'
      obtain ⟨its2, av2, t2, _⟩ := I.tuple q'
      exact RcNeAt.list_tuple t t2 hu0
    | lst es =>
      obtain ⟨b, us, rfl, q', rr'⟩ := rep_lst.mp r'
      cases e'
      obtain ⟨its2, av2, t3, _⟩ := I.list q'
      have t2 := t3.isList
      obtain ⟨m, rfl⟩ : ∃ m, n = m + 1 := ⟨n - 1, by simp only [dep] at hd; omega⟩
      have hn : deps ds ≤ m := by simp only [dep] at hd; omega
      have hn' : deps es ≤ m := by simp only [dep] at hd'; omega
      have items := items_at I hn hn' (show A.in1.units + m < cLine by show A.units + 1 + m < _; omega) rr rr' av av2
      by_cases hl : its.toArray.size = its2.toArray.size
      · have h := RcNeAt.lists (A := A) t t2 hl hu0 items
        rw [List.size_toArray, ← av.length, ← rr.length] at h
        have hl' : ds.length = es.length := by rw [rr.length, rr'.length, av.length, av2.length]; simpa using hl
        have e1 := eqDs_range ds es
        rw [hl', Nat.min_self] at e1
        simp only [beq_self_eq_true, Bool.and_true] at e1
        rw [hl', e1] at h
        exact h
      · have h := RcNeAt.lists_lengths (A := A) t t2 (by simpa using hl) hu0
        have hl' : ds.length ≠ es.length := by rw [rr.length, rr'.length, av.length, av2.length]; simpa using hl
        have e1 := eqDs_range ds es
        rw [show (ds.length == es.length) = false by simpa using hl', Bool.and_false] at e1
        rw [show eqD (.lst ds) (.lst es) = false by rw [eqD, ← e1]]
        exact h
    | exn c m =>
      simp only [dep] at hd'; exact absurd hu (by omega)
  | exn c m =>
    simp only [dep] at hd; exact absurd hu (by omega)
end
end Vl

set_option Elab.async false
set_option linter.all false
set_option maxRecDepth 100000
set_option maxHeartbeats 4000000
namespace Vl
open PySem PySem.Spec L2

/-! ### tests, argument lists -/
def PostT (W : Wi) (σ : St) (G H : Hp) (r : Rs Bool) (Q : Bool → Hp → Prop) : Prop :=
  match r with
  | .ok b => ∀ H' G', Ext G H G' H' → Q b H'
  | .ex c n => ∀ H' G', Ext G H G' H' → W c n σ H'
  | .no => False
def tT (K : PySem.W.Frag) (B : Hp × Hp) (W : Wi) (f : Rho → Rs Bool) : TT := fun σ H Q => ∃ ρ G, SR K B σ H ρ G ∧ PostT W σ G H (f ρ) Q
def ST (X : Cx) (B : Hp × Hp) (W : Wi) (e : Expr) (f : Rho → Rs Bool) : Prop := PT X e (tT X.K B W f)
def SW (X : Cx) (B : Hp × Hp) (W : Wi) (e : Expr) (f : Rho → Rs Bool) : Prop := PW X e (tT X.K B W f)
def PostA (K : PySem.W.Frag) (W : Wi) (σ : St) (G H : Hp) (r : Rs (List D)) (Q : List V → Hp → Prop) : Prop :=
  match r with
  | .ok ds => ∀ vs H' G', Ext G H G' H' → Reps K G' ds vs → Q vs H'
  | .ex c n => ∀ H' G', Ext G H G' H' → W c n σ H'
  | .no => False
def tAF (K : PySem.W.Frag) (B : Hp × Hp) (W : Wi) (f : Rho → Rs (List D)) : TA := fun σ H Q => ∃ ρ G, SR K B σ H ρ G ∧ PostA K W σ G H (f ρ) Q
def SA (X : Cx) (B : Hp × Hp) (W : Wi) (es : List Expr) (f : Rho → Rs (List D)) : Prop := PA X es (tAF X.K B W f)
theorem PW.imp {X : Cx} {e : Expr} {t t' : TT} (h : PW X e t) (i : ∀ σ H Q, t' σ H Q → t σ H Q) : PW X e t' := fun wh pins s σ H Q I q => h wh pins s σ H Q I (i σ H Q q)

def toB : D → Rs Bool
  | .bl b => .ok b
  | _ => .no
def fT (f : Rho → Rs D) : Rho → Rs Bool := fun ρ => (f ρ).bind toB
def fAnd (a b : Rho → Rs Bool) : Rho → Rs Bool := fun ρ => (a ρ).bind fun x => if x = true then b ρ else .ok false
def fOr (a b : Rho → Rs Bool) : Rho → Rs Bool := fun ρ => (a ρ).bind fun x => if x = true then .ok true else b ρ
def fNot (a : Rho → Rs Bool) : Rho → Rs Bool := fun ρ => (a ρ).bind fun x => .ok (!x)
def fBv (a : Rho → Rs Bool) : Rho → Rs D := fun ρ => (a ρ).bind fun x => .ok (.bl x)
def fCons (a : Rho → Rs D) (r : Rho → Rs (List D)) : Rho → Rs (List D) := fun ρ => (a ρ).bind fun x => (r ρ).bind fun xs => .ok (x :: xs)
def fNil : Rho → Rs (List D) := fun _ => .ok []
def fA (a : Rho → Rs (List D)) (g : List D → Rs D) : Rho → Rs D := fun ρ => (a ρ).bind g
def fIf (c : Rho → Rs Bool) (a b : Rho → Rs D) : Rho → Rs D := fun ρ => (c ρ).bind fun x => if x = true then a ρ else b ρ

section
variable {X : Cx} {K : PySem.W.Frag} {B : Hp × Hp} {W : Wi} {σ : St} {G H : Hp} {ρ : Rho}
theorem PostT.ext {r : Rs Bool} {Q : Bool → Hp → Prop} {G' H' : Hp} (e : Ext G H G' H') (h : PostT W σ G H r Q) : PostT W σ G' H' r Q := by
  cases r with
  | ok d => exact fun H'' G'' e' => h H'' G'' (e.trans e')
  | ex c n => exact fun H'' G'' e' => h H'' G'' (e.trans e')
  | no => exact h
theorem PostT.mono {r : Rs Bool} {Q Q' : Bool → Hp → Prop} (h : PostT W σ G H r Q) (i : ∀ v H', Q v H' → Q' v H') : PostT W σ G H r Q' := by
  cases r with
  | ok d => exact fun H' G' e => i _ _ (h H' G' e)
  | ex c n => exact h
  | no => exact h
theorem PostA.ext {r : Rs (List D)} {Q : List V → Hp → Prop} {G' H' : Hp} (e : Ext G H G' H') (h : PostA K W σ G H r Q) : PostA K W σ G' H' r Q := by
  cases r with
  | ok d => exact fun v H'' G'' e' r => h v H'' G'' (e.trans e') r
  | ex c n => exact fun H'' G'' e' => h H'' G'' (e.trans e')
  | no => exact h
theorem PostA.mono {r : Rs (List D)} {Q Q' : List V → Hp → Prop} (h : PostA K W σ G H r Q) (i : ∀ v H', Q v H' → Q' v H') : PostA K W σ G H r Q' := by
  cases r with
  | ok d => exact fun v H' G' e r => i _ _ (h v H' G' e r)
  | ex c n => exact h
  | no => exact h

/-! a value as a test -/
theorem tB_of {f : Rho → Rs D} {Q : Bool → Hp → Prop} (h : tT K B W (fT f) σ H Q) : tF K B W f σ H fun x H1 => ∃ c, x = .bl c ∧ Q c H1 := by
  obtain ⟨ρ, G, s, p⟩ := h
  refine ⟨ρ, G, s, ?_⟩
  unfold fT at p
  cases e : f ρ with
  | ok d =>
    rw [e] at p
    cases d with
    | bl b => exact fun v H' G' e r => ⟨b, rep_bl.mp r, p H' G' e⟩
    | _ => exact p.elim
  | ex c n => rw [e] at p; exact p
  | no => rw [e] at p; exact p
theorem st_val {e : Expr} {f : Rho → Rs D} (h : SE X B W e f) (he : ∀ whole, isTrue e X.env whole = (do let v ← whole; standAt e.pos; holding [v] (truthy v)) := by intro _; rfl) : ST X B W e (fT f) :=
  PT.imp (pt_val h he) fun _ _ _ h => tB_of h
theorem st_cmp {a b : Expr} {op : CmpOp} {pos : Pos} {r : R2} {g : D → D → Rs D} {fa fb : Rho → Rs D} (ho : OpR X (compareOp op) r) (hg : OpD X.K r g) (ha : SE X B W a fa) (hb : SE X B W b fb) (hm : behindInMarks op b = false) :
    ST X B W (.Compare a [op] [b] pos) (fT (fOp g fa fb)) := by
  refine PT.imp (pt_cmpR ho ha hb hm) fun σ H Q h => ?_
  exact tOp_of hg (tB_of h)
theorem se_cmp {a b : Expr} {op : CmpOp} {pos : Pos} {r : R2} {g : D → D → Rs D} {fa fb : Rho → Rs D} (ho : OpR X (compareOp op) r) (hg : OpD X.K r g) (ha : SE X B W a fa) (hb : SE X B W b fb) (hm : behindInMarks op b = false) :
    SE X B W (.Compare a [op] [b] pos) (fOp g fa fb) := PE.imp (pe_cmpR ho ha hb hm) fun _ _ _ h => tOp_of hg h
theorem sw_and1 {a : Expr} {pos : Pos} {fa : Rho → Rs Bool} (ha : ST X B W a fa) : SW X B W (.BoolOp .And [a] pos) fa := pw_and1 ha
theorem sw_or1 {a : Expr} {pos : Pos} {fa : Rho → Rs Bool} (ha : ST X B W a fa) : SW X B W (.BoolOp .Or [a] pos) fa := pw_or1 ha
theorem sw_and {a b : Expr} {rest : List Expr} {pos : Pos} {fa fb : Rho → Rs Bool} (ha : ST X B W a fa) (hb : SW X B W (.BoolOp .And (b :: rest) pos) fb) : SW X B W (.BoolOp .And (a :: b :: rest) pos) (fAnd fa fb) := by
  refine PW.imp (pw_and ha hb) fun σ H Q ⟨ρ, G, s, p⟩ => ⟨ρ, G, s, ?_⟩
  unfold fAnd at p
  cases e : fa ρ with
  | ok x =>
    rw [e] at p
    intro H' G' ee
    cases x with
    | true => rw [if_pos rfl]; exact ⟨ρ, G', s.ext ee, PostT.ext ee (show PostT W σ G H (fb ρ) Q from p)⟩
    | false => rw [if_neg (by simp)]; exact (show PostT W σ G H (.ok false) Q from p) H' G' ee
  | ex c n => rw [e] at p; exact p
  | no => rw [e] at p; exact p
theorem sw_or {a b : Expr} {rest : List Expr} {pos : Pos} {fa fb : Rho → Rs Bool} (ha : ST X B W a fa) (hb : SW X B W (.BoolOp .Or (b :: rest) pos) fb) : SW X B W (.BoolOp .Or (a :: b :: rest) pos) (fOr fa fb) := by
  refine PW.imp (pw_or ha hb) fun σ H Q ⟨ρ, G, s, p⟩ => ⟨ρ, G, s, ?_⟩
  unfold fOr at p
  cases e : fa ρ with
  | ok x =>
    rw [e] at p
    intro H' G' ee
    cases x with
    | true => rw [if_pos rfl]; exact (show PostT W σ G H (.ok true) Q from p) H' G' ee
    | false => rw [if_neg (by simp)]; exact ⟨ρ, G', s.ext ee, PostT.ext ee (show PostT W σ G H (fb ρ) Q from p)⟩
  | ex c n => rw [e] at p; exact p
  | no => rw [e] at p; exact p
theorem st_w {e : Expr} {f : Rho → Rs Bool} (h : SW X B W e f) : ST X B W e f := PW.pt h
theorem st_not {a : Expr} {pos : Pos} {fa : Rho → Rs Bool} (ha : ST X B W a fa) : ST X B W (.UnaryOp .Not a pos) (fNot fa) := by
  refine PT.imp (pt_not ha) fun σ H Q ⟨ρ, G, s, p⟩ => ⟨ρ, G, s, ?_⟩
  unfold fNot at p
  cases e : fa ρ with
  | ok x => rw [e] at p; exact p
  | ex c n => rw [e] at p; exact p
  | no => rw [e] at p; exact p
/-! the same as values (bools) -/
def fAndV (a b : Rho → Rs D) : Rho → Rs D := fun ρ => (a ρ).bind fun x => (toB x).bind fun c => if c = true then b ρ else .ok (.bl false)
def fOrV (a b : Rho → Rs D) : Rho → Rs D := fun ρ => (a ρ).bind fun x => (toB x).bind fun c => if c = true then .ok (.bl true) else b ρ
def fNotV (a : Rho → Rs D) : Rho → Rs D := fun ρ => (a ρ).bind fun x => (toB x).bind fun c => .ok (.bl !c)
theorem se_one {op} {a : Expr} {pos : Pos} {fa : Rho → Rs D} (ha : SE X B W a fa) : SE X B W (.BoolOp op [a] pos) fa := pe_one ha
theorem se_and {a b : Expr} {rest : List Expr} {pos : Pos} {fa fb : Rho → Rs D} (ha : SE X B W a fa) (hb : SE X B W (.BoolOp .And (b :: rest) pos) fb) : SE X B W (.BoolOp .And (a :: b :: rest) pos) (fAndV fa fb) := by
  refine PE.imp (pe_and ha hb) fun σ H Q h => ?_
  obtain ⟨ρ, G, s, p⟩ := tF_bind (k := fun ρ x => (toB x).bind fun c => if c = true then fb ρ else .ok (.bl false)) h
  refine ⟨ρ, G, s, p.mono fun v H1 ⟨ρ1, G1, d, s1, r, q⟩ => ?_⟩
  cases d with
  | bl c =>
    refine ⟨c, rep_bl.mp r, ?_⟩
    cases c with
    | true => rw [if_pos rfl]; exact ⟨ρ1, G1, s1, q⟩
    | false => rw [if_neg (by simp)]; exact Post.ok s1 q (rep_bl.mpr rfl)
  | _ => exact q.elim
theorem se_or {a b : Expr} {rest : List Expr} {pos : Pos} {fa fb : Rho → Rs D} (ha : SE X B W a fa) (hb : SE X B W (.BoolOp .Or (b :: rest) pos) fb) : SE X B W (.BoolOp .Or (a :: b :: rest) pos) (fOrV fa fb) := by
  refine PE.imp (pe_or ha hb) fun σ H Q h => ?_
  obtain ⟨ρ, G, s, p⟩ := tF_bind (k := fun ρ x => (toB x).bind fun c => if c = true then .ok (.bl true) else fb ρ) h
  refine ⟨ρ, G, s, p.mono fun v H1 ⟨ρ1, G1, d, s1, r, q⟩ => ?_⟩
  cases d with
  | bl c =>
    refine ⟨c, rep_bl.mp r, ?_⟩
    cases c with
    | true => rw [if_pos rfl]; exact Post.ok s1 q (rep_bl.mpr rfl)
    | false => rw [if_neg (by simp)]; exact ⟨ρ1, G1, s1, q⟩
  | _ => exact q.elim
theorem se_not {a : Expr} {pos : Pos} {fa : Rho → Rs D} (ha : SE X B W a fa) : SE X B W (.UnaryOp .Not a pos) (fNotV fa) := by
  refine PE.imp (pe_not ha) fun σ H Q h => ?_
  obtain ⟨ρ, G, s, p⟩ := tF_bind (k := fun ρ x => (toB x).bind fun c => .ok (.bl !c)) h
  refine ⟨ρ, G, s, p.mono fun v H1 ⟨ρ1, G1, d, s1, r, q⟩ => ?_⟩
  cases d with
  | bl c => exact ⟨c, rep_bl.mp r, Post.ok s1 q (rep_bl.mpr rfl)⟩
  | _ => exact q.elim
theorem se_if {c a b : Expr} {pos : Pos} {fc : Rho → Rs Bool} {fa fb : Rho → Rs D} (hc : ST X B W c fc) (ha : SE X B W a fa) (hb : SE X B W b fb) : SE X B W (.IfExp c a b pos) (fIf fc fa fb) := by
  refine PE.imp (pe_ifExp hc ha hb) fun σ H Q ⟨ρ, G, s, p⟩ => ⟨ρ, G, s, ?_⟩
  unfold fIf at p
  cases e : fc ρ with
  | ok x =>
    rw [e] at p
    intro H' G' ee
    have p' : Post X.K W σ G H (if x = true then fa ρ else fb ρ) Q := p
    cases x with
    | true => rw [if_pos rfl] at p' ⊢; exact ⟨ρ, G', s.ext ee, p'.ext ee⟩
    | false => rw [if_neg (by simp)] at p' ⊢; exact ⟨ρ, G', s.ext ee, p'.ext ee⟩
  | ex c n => rw [e] at p; exact p
  | no => rw [e] at p; exact p

/-! displays -/
theorem sa_nil : SA X B W [] fNil := PA.imp pa_nil fun σ H Q ⟨ρ, G, s, p⟩ => p [] H G s.ext0 (reps_nil.mpr rfl)
theorem sa_cons {e : Expr} {es : List Expr} {fe : Rho → Rs D} {fs : Rho → Rs (List D)} (ha : SE X B W e fe) (hr : SA X B W es fs) (hs : starEach (e :: es) X.env = (false, eval e X.env) :: starEach es X.env := by rfl) : SA X B W (e :: es) (fCons fe fs) := by
  refine PA.imp (pa_cons ha hr hs) fun σ H Q ⟨ρ, G, s, p⟩ => ⟨ρ, G, s, ?_⟩
  unfold fCons at p
  cases e1 : fe ρ with
  | ok d =>
    rw [e1] at p
    intro v H1 G1 x1 r1
    refine ⟨ρ, G1, s.ext x1, ?_⟩
    have p' : PostA X.K W σ G H ((fs ρ).bind fun xs => .ok (d :: xs)) Q := p
    cases e2 : fs ρ with
    | ok ds =>
      rw [e2] at p'
      intro vs H2 G2 x2 r2
      exact p' (v :: vs) H2 G2 (x1.trans x2) (reps_cons.mpr ⟨v, vs, rfl, r1.mono x2.gg, r2⟩)
    | ex c n => rw [e2] at p'; exact fun H2 G2 x2 => p' H2 G2 (x1.trans x2)
    | no => rw [e2] at p'; exact p'
  | ex c n => rw [e1] at p; exact p
  | no => rw [e1] at p; exact p
/-- a call of a known value upon data -/
def CallD (K : PySem.W.Frag) (r : List V → Hp → VK → Prop) (g : List D → Rs D) : Prop :=
  ∀ (B : Hp × Hp) (W : Wi) (σ : St) (ρ : Rho) (G H : Hp) (ds : List D) (vs : List V) (Q : VK), SR K B σ H ρ G → Reps K G ds vs → Post K W σ G H (g ds) Q → r vs H Q
theorem tA_of {t : Rho → Rs (List D)} {g : List D → Rs D} {r : List V → Hp → VK → Prop} {Q : VK} (hg : CallD K r g) (h : tF K B W (fA t g) σ H Q) : tAF K B W t σ H fun vs H1 => r vs H1 Q := by
  obtain ⟨ρ, G, s, p⟩ := h
  refine ⟨ρ, G, s, ?_⟩
  unfold fA at p
  cases e : t ρ with
  | ok ds => rw [e] at p; exact fun vs H1 G1 x r => hg B W σ ρ G1 H1 ds vs Q (s.ext x) r (Post.ext x p)
  | ex c n => rw [e] at p; exact p
  | no => rw [e] at p; exact p
def gTup : List D → Rs D := fun ds => if ds.length ≤ 1000 then .ok (.tup ds) else .no
def gLst : List D → Rs D := fun ds => if ds.length ≤ 1000 then .ok (.lst ds) else .no
theorem sz1000 {n : Nat} (h : n ≤ 1000) : n ≤ sizeLine := Nat.le_of_lt (small1000 h)
theorem se_tup {es : List Expr} {x1} {pos : Pos} {f : Rho → Rs (List D)} (h : SA X B W es f) : SE X B W (.Tuple es x1 pos) (fA f gTup) := by
  refine PE.imp (pe_tup h) fun σ H Q q => tA_of (r := fun xs H1 Q => xs.length ≤ sizeLine ∧ ∀ p, H1 p = none → Q (.ref p) (upd H1 p (.tup xs))) ?_ q
  intro B W σ ρ G H ds vs Q s r p
  unfold gTup at p
  by_cases hl : ds.length ≤ 1000
  · rw [if_pos hl] at p
    refine ⟨by rw [← r.length]; exact sz1000 hl, fun a ha => ?_⟩
    have x := ext_tup (xs := vs) s.en.gh s.en.tp ha
    exact p _ _ _ x (rep_tup.mpr ⟨a, vs, rfl, .of upd_same, r.mono x.gg⟩)
  · rw [if_neg hl] at p; exact p.elim
theorem se_lst {es : List Expr} {pos : Pos} {f : Rho → Rs (List D)} (h : SA X B W es f) : SE X B W (.List es pos) (fA f gLst) := by
  refine PE.imp (pe_lst h) fun σ H Q q => tA_of (r := fun xs H1 Q => xs.length ≤ sizeLine ∧ ∀ p, H1 p = none → Q (.ref p) (upd H1 p (.lst xs))) ?_ q
  intro B W σ ρ G H ds vs Q s r p
  unfold gLst at p
  by_cases hl : ds.length ≤ 1000
  · rw [if_pos hl] at p
    refine ⟨by rw [← r.length]; exact sz1000 hl, fun a ha => ?_⟩
    have x := ext_lst (xs := vs) s.en.gh s.en.tp ha
    exact p _ _ _ x (rep_lst.mpr ⟨a, vs, rfl, .of upd_same, r.mono x.gg⟩)
  · rw [if_neg hl] at p; exact p.elim

/-! indexes -/
def gIx : D → D → Rs D
  | .tup ds, .int i => match atI ds i with | some d => .ok d | none => .no
  | .lst ds, .int i => match atI ds i with | some d => .ok d | none => .no
  | _, _ => .no
theorem atI_reps {ds : List D} {vs : List V} {i : Int} {d : D} (r : Reps K G ds vs) (h : atI ds i = some d) : ∃ v, atI vs i = some v ∧ Rep K G d v := by
  unfold atI at h ⊢
  rw [← r.length]
  cases e : ixN ds.length i with
  | none => rw [e] at h; cases h
  | some j => rw [e] at h; exact r.get (i := j) h
theorem opd_ix : OpD K (rIx K) gIx := by
  intro B W σ ρ G H x y v u Q s rx ry p
  cases y <;> first | (cases x <;> exact p.elim) | skip
  rename_i i
  cases x with
  | tup ds =>
    simp only [gIx] at p
    obtain ⟨a, vs, rfl, q, rr⟩ := rep_tup.mp rx
    cases e : atI ds i with
    | none => rw [e] at p; exact p.elim
    | some d =>
      rw [e] at p
      obtain ⟨w, e2, rw'⟩ := atI_reps rr e
      exact .inr (.inl ⟨a, vs, i, w, rfl, rep_int.mp ry, Same.seqT s.en.gh q, e2, Post.ok s p rw'⟩)
  | lst ds =>
    simp only [gIx] at p
    obtain ⟨a, vs, rfl, q, rr⟩ := rep_lst.mp rx
    cases e : atI ds i with
    | none => rw [e] at p; exact p.elim
    | some d =>
      rw [e] at p
      obtain ⟨w, e2, rw'⟩ := atI_reps rr e
      exact .inl ⟨a, vs, i, w, rfl, rep_int.mp ry, s.en.gh.seq q, e2, Post.ok s p rw'⟩
  | _ => exact p.elim
theorem se_ix {a b : Expr} {pos : Pos} {fa fb : Rho → Rs D} (ha : SE X B W a fa) (hb : SE X B W b fb) (hs : PlainIx b := by intro _ _; rfl) : SE X B W (.Subscript a b pos) (fOp gIx fa fb) :=
  PE.imp (pe_ix ix_seq ha hb hs) fun _ _ _ h => tOp_of opd_ix h

/-! arithmetic -/
instance (i j : Int) : Decidable (CMul i j) := by unfold CMul; exact inferInstance
instance (i j : Int) : Decidable (CPow i j) := by unfold CPow; exact inferInstance
def CDB (i j : Int) : Prop := 0 < j ∧ j < 2 ^ 200
instance (i j : Int) : Decidable (CDB i j) := by unfold CDB; exact inferInstance
theorem CDB.py {i j : Int} (h : CDB i j) : Builtin.divisionGoesByPylong i j = false := by
  refine PyProof.noPylong_of_log2 ?_
  have h1 : j.natAbs < 2 ^ 200 := by
    have := h.1; have := h.2
    omega
  have h2 : j.natAbs.log2 < 200 := (Nat.log2_lt (by have := h.1; omega)).mpr h1
  omega
theorem op_fdivB : OpR X (binaryOp .FloorDiv) (rI CDB fun i j => .int (i / j)) := opI fun i j _ _ _ _ _ hc q => by
  have h1 := hc.1
  rw [← Int.fdiv_eq_ediv_of_nonneg i (by omega)] at q
  exact PyProof.Rows.floordiv_int (by omega) q (.inl hc.py)
def gAdd := gI0 fun i j => D.int (i + j)
def gSub := gI0 fun i j => D.int (i - j)
def gMul := gI CMul fun i j => D.int (i * j)
def gDiv := gI CDB fun i j => D.int (i / j)
instance (i j : Int) : Decidable ((fun (_ : Int) (j : Int) => 0 < j) i j) := inferInstanceAs (Decidable (0 < j))
def gMod := gI (fun _ j => 0 < j) fun i j => D.int (i % j)
def gPow := gI CPow fun i j => D.int (i ^ j.toNat)
variable {a b : Expr} {pos : Pos} {fa fb : Rho → Rs D}
theorem se_sub (ha : SE X B W a fa) (hb : SE X B W b fb) : SE X B W (.BinOp a .Sub b pos) (fOp gSub fa fb) := se_op op_sub (opd_I0 fun _ _ _ => rep_int.mpr rfl) ha hb
theorem se_mul (ha : SE X B W a fa) (hb : SE X B W b fb) : SE X B W (.BinOp a .Mult b pos) (fOp gMul fa fb) := se_op op_mul (opd_I fun _ _ _ => rep_int.mpr rfl) ha hb
theorem se_div (ha : SE X B W a fa) (hb : SE X B W b fb) : SE X B W (.BinOp a .FloorDiv b pos) (fOp gDiv fa fb) := se_op op_fdivB (opd_I fun _ _ _ => rep_int.mpr rfl) ha hb
theorem se_mod (ha : SE X B W a fa) (hb : SE X B W b fb) : SE X B W (.BinOp a .Mod b pos) (fOp gMod fa fb) := se_op op_mod (opd_I fun _ _ _ => rep_int.mpr rfl) ha hb
theorem se_pow (ha : SE X B W a fa) (hb : SE X B W b fb) : SE X B W (.BinOp a .Pow b pos) (fOp gPow fa fb) := se_op op_pow (opd_I fun _ _ _ => rep_int.mpr rfl) ha hb
def gNeg : D → Rs D
  | .int i => .ok (.int (-i))
  | _ => .no
theorem se_neg (ha : SE X B W a fa) : SE X B W (.UnaryOp .USub a pos) (fun ρ => (fa ρ).bind gNeg) := by
  refine PE.imp (pe_un un_neg ha) fun σ H Q h => ?_
  obtain ⟨ρ, G, s, p⟩ := tF_bind (k := fun _ => gNeg) h
  refine ⟨ρ, G, s, p.mono fun v H1 ⟨ρ1, G1, d, s1, r, q⟩ => ?_⟩
  cases d with
  | int i => exact ⟨i, rep_int.mp r, Post.ok s1 q (rep_int.mpr rfl)⟩
  | _ => exact q.elim
/-! a + b: ints or lists -/
def gPlus : D → D → Rs D
  | .int i, .int j => .ok (.int (i + j))
  | .lst a, .lst b => if a.length + b.length ≤ 1000000 then .ok (.lst (a ++ b)) else .no
  | _, _ => .no
theorem sz6 {n : Nat} (h : n ≤ 1000000) : n ≤ sizeLine := Nat.le_trans h (by rw [sizeLine_eq]; decide)
end
end Vl

set_option Elab.async false
set_option linter.all false
set_option maxRecDepth 100000
set_option maxHeartbeats 4000000
namespace Vl
open PySem PySem.Spec L2

section
variable {X : Cx} {K : PySem.W.Frag} {B : Hp × Hp} {W : Wi} {σ : St} {G H : Hp} {ρ : Rho} {a b : Expr} {pos : Pos} {fa fb : Rho → Rs D}
/-! list + list -/
def rCatS (K : PySem.W.Frag) : R2 := fun x y H Q => ∃ l b xs zs, x = .ref l ∧ y = .ref b ∧ SqL K H l xs ∧ SqL K H b zs ∧ xs.length + zs.length ≤ sizeLine ∧ ∀ p, H p = none → Q (.ref p) (upd H p (.lst (xs ++ zs)))
open PyProof.Rows in
theorem op_catS : OpR X (binaryOp .Add) (rCatS X.K) := by
  intro pins s σ H x y v u Q I rx ry h
  obtain ⟨l, b, xs, zs, rfl, rfl, hH, hB, hz, q⟩ := h
  cases rx
  cases ry
  obtain ⟨vs, r, pl, _⟩ := I.list hH
  obtain ⟨ws, r2, pl2, _⟩ := I.list hB
  obtain ⟨⟨cls, dd, data, sl⟩, ho, hc, n, hd⟩ := pl.isList
  obtain ⟨⟨cls2, dd2, data2, sl2⟩, ho2, hc2, n2, hd2⟩ := pl2.isList
  simp only at hc hd hc2 hd2
  subst hc hd hc2 hd2
  have e : vs.toArray ++ ws.toArray = (vs ++ ws).toArray := by simp
  have l1 := r.length
  have l2 := r2.length
  refine concat_meets ⟨_, ho, rfl⟩ ⟨_, ho2, rfl⟩ noFill_list_add seq_list_add PySem.F.slot_list_add PySem.F.entry_list_add (PySem.F.args_list_add_2 _ _) (list_addW l b vs.toArray ws.toArray n n2 dd dd2 sl sl2 (by simp only [List.size_toArray]; omega)) ⟨ho, ho2, ?_⟩
  rw [e]
  exact ⟨.ref _, _, I.lnew (t' := s.toks) (r.append r2) (by rw [List.length_append]; omega), rfl, q _ I.fresh⟩
theorem op_plus : OpR X (binaryOp .Add) (fun x y H Q => rI0 (fun i j => V.int (i + j)) x y H Q ∨ rCatS X.K x y H Q) := op_add.or op_catS
theorem opd_plus : OpD K (fun x y H Q => rI0 (fun i j => V.int (i + j)) x y H Q ∨ rCatS K x y H Q) gPlus := by
  intro B W σ ρ G H x y v u Q s rx ry p
  cases x with
  | int i =>
    cases y with
    | int j => exact .inl ⟨i, j, rep_int.mp rx, rep_int.mp ry, Post.ok s p (rep_int.mpr rfl)⟩
    | _ => exact p.elim
  | lst ds =>
    cases y with
    | lst es =>
      simp only [gPlus] at p
      by_cases hl : ds.length + es.length ≤ 1000000
      · rw [if_pos hl] at p
        obtain ⟨a, vs, rfl, q, r⟩ := rep_lst.mp rx
        obtain ⟨b, us, rfl, q', r'⟩ := rep_lst.mp ry
        refine .inr ⟨a, b, vs, us, rfl, rfl, s.en.gh.seq q, s.en.gh.seq q', by rw [← r.length, ← r'.length]; exact sz6 hl, fun c hc => ?_⟩
        have x := ext_lst (xs := vs ++ us) s.en.gh s.en.tp hc
        exact p _ _ _ x (rep_lst.mpr ⟨c, vs ++ us, rfl, .of upd_same, (r.append r').mono x.gg⟩)
      · rw [if_neg hl] at p; exact p.elim
    | _ => exact p.elim
  | _ => cases y <;> exact p.elim
theorem se_add (ha : SE X B W a fa) (hb : SE X B W b fb) : SE X B W (.BinOp a .Add b pos) (fOp gPlus fa fb) := se_op op_plus opd_plus ha hb

/-! a[lo:hi] of a list -/
def toI : D → Rs Int
  | .int i => .ok i
  | _ => .no
def cutD (xs : List D) (lo hi : Option Int) : List D := (xs.drop (HT.sIx xs.length 0 lo)).take (HT.sIx xs.length xs.length hi - HT.sIx xs.length 0 lo)
theorem cut_reps {ds : List D} {vs : List V} {lo hi : Option Int} (r : Reps K G ds vs) : Reps K G (cutD ds lo hi) (cutV vs lo hi) := by
  unfold cutD cutV
  rw [r.length]
  exact (r.drop _).take _
def gSl (lo hi : Option Int) : D → Rs D
  | .lst ds => .ok (.lst (cutD ds lo hi))
  | _ => .no
def PostO (W : Wi) (σ : St) (G H : Hp) (r : Rs (Option Int)) (Q : Option Int → Hp → Prop) : Prop :=
  match r with
  | .ok b => ∀ H' G', Ext G H G' H' → Q b H'
  | .ex c n => ∀ H' G', Ext G H G' H' → W c n σ H'
  | .no => False
def tO (K : PySem.W.Frag) (B : Hp × Hp) (W : Wi) (f : Rho → Rs (Option Int)) : TO := fun σ H Q => ∃ ρ G, SR K B σ H ρ G ∧ PostO W σ G H (f ρ) Q
def SO (X : Cx) (B : Hp × Hp) (W : Wi) (e : Option Expr) (f : Rho → Rs (Option Int)) : Prop := PO X e (tO X.K B W f)
def fNoP : Rho → Rs (Option Int) := fun _ => .ok none
def fP (f : Rho → Rs D) : Rho → Rs (Option Int) := fun ρ => (f ρ).bind fun d => (toI d).bind fun i => .ok (some i)
theorem PO.imp {e : Option Expr} {t t' : TO} (h : PO X e t) (i : ∀ σ H Q, t' σ H Q → t σ H Q) : PO X e t' := fun pins s σ H Q I q => h pins s σ H Q I (i σ H Q q)
theorem so_none : SO X B W none fNoP := PO.imp po_none fun σ H Q ⟨ρ, G, s, p⟩ => p H G s.ext0
theorem so_some {e : Expr} {f : Rho → Rs D} (h : SE X B W e f) : SO X B W (some e) (fP f) := by
  refine PO.imp (po_some h) fun σ H Q ⟨ρ, G, s, p⟩ => ⟨ρ, G, s, ?_⟩
  unfold fP at p
  cases e1 : f ρ with
  | ok d =>
    rw [e1] at p
    cases d with
    | int i => exact fun w H' G' e r' => ⟨i, rep_int.mp r', p H' G' e⟩
    | _ => exact p.elim
  | ex c n => rw [e1] at p; exact p
  | no => rw [e1] at p; exact p
def fSl (fe : Rho → Rs D) (fl fh : Rho → Rs (Option Int)) : Rho → Rs D := fun ρ => (fe ρ).bind fun x => (fl ρ).bind fun l => (fh ρ).bind fun h => gSl l h x
theorem sl_fin {x : D} {v : V} {l h : Option Int} {Q : VK} (s : SR K B σ H ρ G) (r : Rep K G x v) (p : Post K W σ G H (gSl l h x) Q) : rSlL K v l h H Q := by
  cases x with
  | lst ds =>
    obtain ⟨a, vs, rfl, q, rr⟩ := rep_lst.mp r
    refine ⟨a, vs, rfl, s.en.gh.seq q, fun c hc => ?_⟩
    have x := ext_lst (xs := cutV vs l h) s.en.gh s.en.tp hc
    exact p _ _ _ x (rep_lst.mpr ⟨c, _, rfl, .of upd_same, (cut_reps rr).mono x.gg⟩)
  | _ => exact p.elim
theorem se_slice {e : Expr} {lo hi : Option Expr} {p2 : Pos} {fe : Rho → Rs D} {fl fh : Rho → Rs (Option Int)} (he : SE X B W e fe) (hl : SO X B W lo fl) (hh : SO X B W hi fh) :
    SE X B W (.Subscript e (.Slice lo hi none p2) pos) (fSl fe fl fh) := by
  refine PE.imp (pe_slice sl_list he hl hh) fun σ H Q h => ?_
  obtain ⟨ρ, G, s, p⟩ := tF_bind (k := fun ρ x => (fl ρ).bind fun l => (fh ρ).bind fun h => gSl l h x) h
  refine ⟨ρ, G, s, p.mono fun v H1 ⟨ρ1, G1, d, s1, r, q⟩ => ⟨ρ1, G1, s1, ?_⟩⟩
  cases e1 : fl ρ1 with
  | ok l =>
    rw [e1] at q
    intro H2 G2 x2
    have q' : Post X.K W σ G1 H1 ((fh ρ1).bind fun h => gSl l h d) Q := q
    refine ⟨ρ1, G2, s1.ext x2, ?_⟩
    cases e2 : fh ρ1 with
    | ok h =>
      rw [e2] at q'
      exact fun H3 G3 x3 => sl_fin ((s1.ext x2).ext x3) ((r.mono x2.gg).mono x3.gg) (Post.ext (x2.trans x3) q')
    | ex c n => rw [e2] at q'; exact fun H3 G3 x3 => q' H3 G3 (x2.trans x3)
    | no => rw [e2] at q'; exact q'
  | ex c n => rw [e1] at q; exact q
  | no => rw [e1] at q; exact q

/-! ### calls of Python's own -/
variable {x : Str} {p : Pos} {e : Expr} {es : List Expr} {id T : String} {r : List V → Hp → VK → Prop} {g : List D → Rs D} {fs : Rho → Rs (List D)}
theorem se_callB (hc : CallR X (.builtin id) r) (hd : CallD X.K r g) (hg : Gl X x) (hm : X.mg x = none) (hv : bootBuiltins x = some (.builtin id)) (ha : SA X B W (e :: es) fs) (hn : x ≠ "__name__" := by decide) (hdb : (x == ("__debug__" : Str)) = false := by decide)
    (he : starEach (e :: es) X.env = (false, eval e X.env) :: starEach es X.env := by rfl) (hpl : (backTo pos (starEach es X.env)).any (·.1) = false := by rfl) : SE X B W (.Call (.Name x p) (e :: es) [] pos) (fA fs g) :=
  PE.imp (pe_callB hc hg hm hv ha hn hdb he hpl) fun _ _ _ h => tA_of hd h
theorem se_callTy (hc : CallR X (.type T) r) (hd : CallD X.K r g) (hg : Gl X x) (hm : X.mg x = none) (hv : bootBuiltins x = some (.type T)) (ha : SA X B W (e :: es) fs) (hn : x ≠ "__name__" := by decide) (hdb : (x == ("__debug__" : Str)) = false := by decide)
    (he : starEach (e :: es) X.env = (false, eval e X.env) :: starEach es X.env := by rfl) (hpl : (backTo pos (starEach es X.env)).any (·.1) = false := by rfl) : SE X B W (.Call (.Name x p) (e :: es) [] pos) (fA fs g) :=
  PE.imp (pe_callTy hc hg hm hv ha hn hdb he hpl) fun _ _ _ h => tA_of hd h
def gLen : List D → Rs D
  | [.lst ds] => .ok (.int ds.length)
  | [.tup ds] => .ok (.int ds.length)
  | _ => .no
theorem cd_len : CallD K (fun xs H Q => ∃ p ys, xs = [.ref p] ∧ (SqL K H p ys ∨ SqT K H p ys) ∧ Q (.int ys.length) H) gLen := by
  intro B W σ ρ G H ds vs Q s r p
  match ds, p with
  | [.lst ds], p =>
    obtain ⟨v, vs', rfl, r1, r2⟩ := reps_cons.mp r
    obtain ⟨a, us, rfl, q, rr⟩ := rep_lst.mp r1
    rw [reps_nil.mp r2]
    refine ⟨a, us, rfl, .inl (s.en.gh.seq q), Post.ok s p ?_⟩
    rw [← rr.length]; exact rep_int.mpr rfl
  | [.tup ds], p =>
    obtain ⟨v, vs', rfl, r1, r2⟩ := reps_cons.mp r
    obtain ⟨a, us, rfl, q, rr⟩ := rep_tup.mp r1
    rw [reps_nil.mp r2]
    refine ⟨a, us, rfl, .inr (Same.seqT s.en.gh q), Post.ok s p ?_⟩
    rw [← rr.length]; exact rep_int.mpr rfl
  | [], p => exact p.elim
  | [.non], p => exact p.elim
  | [.bl _], p => exact p.elim
  | [.int _], p => exact p.elim
  | [.str _], p => exact p.elim
  | [.exn _ _], p => exact p.elim
  | _ :: _ :: _, p => exact (by simp only [gLen] at p; exact p.elim)
theorem se_len (hm : X.mg "len" = none) (ha : SE X B W e fa) (hg : Gl X "len" := by rfl) (he : starEach [e] X.env = [(false, eval e X.env)] := by rfl) : SE X B W (.Call (.Name "len" p) [e] [] pos) (fA (fCons fa fNil) gLen) :=
  se_callB call_len_seq cd_len hg hm PySem.boot_len (sa_cons ha sa_nil he)  (by decide) (by decide) he rfl
def gTupOf : List D → Rs D
  | [.lst ds] => .ok (.tup ds)
  | [.tup ds] => .ok (.tup ds)
  | _ => .no
theorem cd_tupOf : CallD K (fun xs H Q => ∃ p ys, xs = [.ref p] ∧ ((SqL K H p ys ∧ ∀ l, H l = none → Q (.ref l) (upd H l (.tup ys))) ∨ (SqT K H p ys ∧ Q (.ref p) H))) gTupOf := by
  intro B W σ ρ G H ds vs Q s r p
  match ds, p with
  | [.lst ds], p =>
    obtain ⟨v, vs', rfl, r1, r2⟩ := reps_cons.mp r
    obtain ⟨a, us, rfl, q, rr⟩ := rep_lst.mp r1
    rw [reps_nil.mp r2]
    refine ⟨a, us, rfl, .inl ⟨s.en.gh.seq q, fun c hc => ?_⟩⟩
    have x := ext_tup (xs := us) s.en.gh s.en.tp hc
    exact p _ _ _ x (rep_tup.mpr ⟨c, us, rfl, .of upd_same, rr.mono x.gg⟩)
  | [.tup ds], p =>
    obtain ⟨v, vs', rfl, r1, r2⟩ := reps_cons.mp r
    obtain ⟨a, us, rfl, q, rr⟩ := rep_tup.mp r1
    rw [reps_nil.mp r2]
    exact ⟨a, us, rfl, .inr ⟨Same.seqT s.en.gh q, Post.ok s p r1⟩⟩
  | [], p => exact p.elim
  | [.non], p => exact p.elim
  | [.bl _], p => exact p.elim
  | [.int _], p => exact p.elim
  | [.str _], p => exact p.elim
  | [.exn _ _], p => exact p.elim
  | _ :: _ :: _, p => exact (by simp only [gTupOf] at p; exact p.elim)
open PyProof.Rows in
theorem call_divmodB : CallR X (.builtin "divmod") (fun xs H Q => ∃ i j, xs = [.int i, .int j] ∧ CDB i j ∧ ∀ p, H p = none → Q (.ref p) (upd H p (.tup [.int (i / j), .int (i % j)]))) := by
  intro pins s σ H xs us Q I r h
  obtain ⟨i, j, rfl, hc, q⟩ := h
  have h1 := hc.1
  obtain ⟨u, w', rfl, ⟨t, rfl⟩, ⟨t', rfl⟩⟩ := vals2 r
  refine divmod_int (by omega) ?_ (.inl hc.py)
  rw [Int.fdiv_eq_ediv_of_nonneg i (by omega), Int.fmod_eq_emod_of_nonneg i (by omega)]
  have hn : H s.heap.objs.size = none := I.hok.fresh (Nat.le_refl _)
  refine ⟨.ref s.heap.objs.size, _, ?_, rfl, q _ hn⟩
  refine I.laid (fun b o e => Heap.get?_push_of_some _ e) (Nat.le_refl _) ⟨by simp only [List.length_cons, List.length_nil]; rw [sizeLine_eq]; decide, [.int (i / j) s.toks, .int (i % j) (s.toks + 1)], .cons ⟨_, rfl⟩ (.cons ⟨_, rfl⟩ .nil), ?_⟩
  exact ⟨_, Heap.get?_push_size s.heap rfl, rfl, 0, rfl⟩
def gDm : List D → Rs D
  | [.int i, .int j] => if CDB i j then .ok (.tup [.int (i / j), .int (i % j)]) else .no
  | _ => .no
theorem cd_dm : CallD K (fun xs H Q => ∃ i j, xs = [.int i, .int j] ∧ CDB i j ∧ ∀ p, H p = none → Q (.ref p) (upd H p (.tup [.int (i / j), .int (i % j)]))) gDm := by
  intro B W σ ρ G H ds vs Q s r p
  unfold gDm at p
  split at p
  · rename_i i j
    obtain ⟨v, vs', rfl, r1, r2⟩ := reps_cons.mp r
    obtain ⟨v2, vs'', rfl, r3, r4⟩ := reps_cons.mp r2
    rw [rep_int.mp r1, rep_int.mp r3, reps_nil.mp r4]
    by_cases hc : CDB i j
    · rw [if_pos hc] at p
      refine ⟨i, j, rfl, hc, fun c hc => ?_⟩
      have x := ext_tup (xs := [.int (i / j), .int (i % j)]) s.en.gh s.en.tp hc
      exact p _ _ _ x (rep_tup.mpr ⟨c, _, rfl, .of upd_same, reps_cons.mpr ⟨_, _, rfl, rep_int.mpr rfl, .one (rep_int.mpr rfl)⟩⟩)
    · rw [if_neg hc] at p; exact p.elim
  · exact p.elim
end
end Vl

set_option Elab.async false
set_option linter.all false
set_option maxRecDepth 100000
set_option maxHeartbeats 4000000
namespace Vl
open PySem PySem.Spec L2

inductive Ou where
  | nx (ρ : Rho) | rt (d : D) | bk (ρ : Rho) | ct (ρ : Rho) | ex (c : Str) (n : Int) (ρ : Rho) | no
def PostS (K : PySem.W.Frag) (B : Hp × Hp) (W : Wi) (G : Hp) (o : Ou) (De : Ends) : Prop :=
  match o with
  | .nx ρ' => ∀ σ' H' G', SR K B σ' H' ρ' G' → Same G G' → De.nx σ' H'
  | .bk ρ' => ∀ σ' H' G', SR K B σ' H' ρ' G' → Same G G' → De.bk σ' H'
  | .ct ρ' => ∀ σ' H' G', SR K B σ' H' ρ' G' → Same G G' → De.ct σ' H'
  | .rt d => ∀ v H' G', Ext B.1 B.2 G' H' → Same G G' → Rep K G' d v → De.rt v H'
  | .ex c n ρ' => ∀ σ' H' G', SR K B σ' H' ρ' G' → Same G G' → W c n σ' H'
  | .no => False
def tS (K : PySem.W.Frag) (B : Hp × Hp) (W : Wi) (g : Rho → Ou) : TS := fun De σ H => ∃ ρ G, SR K B σ H ρ G ∧ PostS K B W G (g ρ) De
def SS (X : Cx) (B : Hp × Hp) (W : Wi) (st : Stmt) (g : Rho → Ou) : Prop := PS X st (tS X.K B W g)
def SSs (X : Cx) (B : Hp × Hp) (W : Wi) (st : List Stmt) (g : Rho → Ou) : Prop := PSs X st (tS X.K B W g)

def oSeq (o : Ou) (k : Rho → Ou) : Ou := match o with
  | .nx ρ => k ρ
  | o => o
def oR {α : Type} (r : Rs α) (ρ : Rho) (k : α → Ou) : Ou := match r with
  | .ok a => k a
  | .ex c n => .ex c n ρ
  | .no => .no

section
variable {X : Cx} {K : PySem.W.Frag} {B : Hp × Hp} {W : Wi} {σ : St} {G G' H : Hp} {ρ : Rho} {De De' : Ends}
theorem PostS.same {o : Ou} (h : PostS K B W G o De) (e : Same G G') : PostS K B W G' o De := by
  cases o with
  | nx ρ' => exact fun σ' H' G'' s q => h σ' H' G'' s (e.trans q)
  | bk ρ' => exact fun σ' H' G'' s q => h σ' H' G'' s (e.trans q)
  | ct ρ' => exact fun σ' H' G'' s q => h σ' H' G'' s (e.trans q)
  | rt d => exact fun v H' G'' x q => h v H' G'' x (e.trans q)
  | ex c n ρ' => exact fun σ' H' G'' s q => h σ' H' G'' s (e.trans q)
  | no => exact h
/-- an expression first -/
theorem post_of {r : Rs D} {k : D → Ou} {Q : VK} (s : SR K B σ H ρ G) (p : PostS K B W G (oR r ρ k) De) (h : ∀ d v H' G', r = .ok d → Ext G H G' H' → Rep K G' d v → PostS K B W G' (k d) De → Q v H') : Post K W σ G H r Q := by
  cases r with
  | ok d => exact fun v H' G' e r => h d v H' G' rfl e r (PostS.same p e.gg)
  | ex c n => exact fun H' G' e => p σ H' G' (s.ext e) e.gg
  | no => exact p

theorem ss_nil : SSs X B W [] .nx := PSs.imp pss_nil fun De σ H ⟨ρ, G, s, p⟩ => p σ H G s (.refl _)
theorem ss_cons {st : Stmt} {rest : List Stmt} {g k : Rho → Ou} (h1 : SS X B W st g) (h2 : SSs X B W rest k) : SSs X B W (st :: rest) (fun ρ => oSeq (g ρ) k) := by
  refine PSs.imp (pss_cons h1 h2) fun De σ H ⟨ρ, G, s, p⟩ => ⟨ρ, G, s, ?_⟩
  dsimp only at p
  cases e : g ρ with
  | nx ρ' => rw [e] at p; exact fun σ' H' G' s' q => ⟨ρ', G', s', PostS.same (show PostS X.K B W G (k ρ') De from p) q⟩
  | bk ρ' => rw [e] at p; exact p
  | ct ρ' => rw [e] at p; exact p
  | rt d => rw [e] at p; exact p
  | ex c n ρ' => rw [e] at p; exact p
  | no => rw [e] at p; exact p
theorem ss_one {st : Stmt} {g : Rho → Ou} (h1 : SS X B W st g) : SSs X B W [st] g := pss_one h1
theorem ss_pass {pos} : SS X B W (.Pass pos) .nx := PS.imp ps_pass fun De σ H ⟨ρ, G, s, p⟩ => p σ H G s (.refl _)
theorem ss_break {pos} : SS X B W (.Break pos) .bk := PS.imp ps_break fun De σ H ⟨ρ, G, s, p⟩ => p σ H G s (.refl _)
theorem ss_continue {pos} : SS X B W (.Continue pos) .ct := PS.imp ps_continue fun De σ H ⟨ρ, G, s, p⟩ => p σ H G s (.refl _)
theorem ss_never {st : Stmt} : SS X B W st (fun _ => .no) := PS.imp ps_never fun De σ H ⟨ρ, G, s, p⟩ => p
theorem sss_never {st : List Stmt} : SSs X B W st (fun _ => .no) := PSs.imp pss_never fun De σ H ⟨ρ, G, s, p⟩ => p
theorem ss_ret {e : Expr} {pos} {f : Rho → Rs D} (h : SE X B W e f) : SS X B W (.Return (some e) pos) (fun ρ => oR (f ρ) ρ .rt) :=
  PS.imp (ps_ret h) fun De σ H ⟨ρ, G, s, p⟩ => ⟨ρ, G, s, post_of s p fun d v H' G' _ e r q => q v H' G' (s.en.trans e) (.refl _) r⟩
theorem ss_retN {pos} : SS X B W (.Return none pos) (fun _ => .rt .non) := PS.imp ps_retN fun De σ H ⟨ρ, G, s, p⟩ => p .non H G s.en (.refl _) (rep_non.mpr rfl)
theorem ss_expr {e : Expr} {pos : Pos} {f : Rho → Rs D} (h : SE X B W e f) (hs : swapsWith e none pos.line X.env = pure false := by rfl) : SS X B W (.Expr e pos) (fun ρ => oR (f ρ) ρ fun _ => .nx ρ) :=
  PS.imp (ps_expr h hs) fun De σ H ⟨ρ, G, s, p⟩ => ⟨ρ, G, s, post_of s p fun d v H' G' _ e r q => q σ H' G' (s.ext e) (.refl _)⟩
theorem ss_if {c : Expr} {a b : List Stmt} {pos : Pos} {fc : Rho → Rs Bool} {ga gb : Rho → Ou} (hc : ST X B W c fc) (ha : SSs X B W a ga) (hb : SSs X B W b gb) : SS X B W (.If c a b pos) (fun ρ => oR (fc ρ) ρ fun x => if x = true then ga ρ else gb ρ) := by
  refine PS.imp (ps_if hc ha hb) fun De σ H ⟨ρ, G, s, p⟩ => ⟨ρ, G, s, ?_⟩
  dsimp only at p
  cases e : fc ρ with
  | ok x =>
    rw [e] at p
    intro H' G' ee
    have p' : PostS X.K B W G (if x = true then ga ρ else gb ρ) De := p
    cases x with
    | true => rw [if_pos rfl] at p' ⊢; exact ⟨ρ, G', s.ext ee, p'.same ee.gg⟩
    | false => rw [if_neg (by simp)] at p' ⊢; exact ⟨ρ, G', s.ext ee, p'.same ee.gg⟩
  | ex c n => rw [e] at p; exact fun H' G' ee => p σ H' G' (s.ext ee) ee.gg
  | no => rw [e] at p; exact p

/-! targets -/
abbrev Tg := D → Rho → Option Rho
def tG (K : PySem.W.Frag) (B : Hp × Hp) (h : Tg) : TG := fun v σ H Q => ∃ ρ G d, SR K B σ H ρ G ∧ Rep K G d v ∧ ∃ ρ', h d ρ = some ρ' ∧ ∀ σ', SR K B σ' H ρ' G → Q σ' H
def tGs (K : PySem.W.Frag) (B : Hp × Hp) (h : List D → Rho → Option Rho) : TGs := fun vs σ H Q => ∃ ρ G ds, SR K B σ H ρ G ∧ Reps K G ds vs ∧ ∃ ρ', h ds ρ = some ρ' ∧ ∀ σ', SR K B σ' H ρ' G → Q σ' H
def SG (X : Cx) (B : Hp × Hp) (tg : Expr) (h : Tg) : Prop := PG X tg (tG X.K B h)
def SGs (X : Cx) (B : Hp × Hp) (tg : List Expr) (h : List D → Rho → Option Rho) : Prop := PGs X tg (tGs X.K B h)
theorem PG.imp {e : Expr} {t t' : TG} (h : PG X e t) (i : ∀ v σ H Q, t' v σ H Q → t v σ H Q) : PG X e t' := fun pins s σ H v u Q I r q => h pins s σ H v u Q I r (i v σ H Q q)
theorem PGs.imp {e : List Expr} {t t' : TGs} (h : PGs X e t) (i : ∀ v σ H Q, t' v σ H Q → t v σ H Q) : PGs X e t' := fun pins s σ H v u Q I r q => h pins s σ H v u Q I r (i v σ H Q q)
def hName (i : Nat) : Tg := fun d ρ => some (ρ.set i (.fz d))
def hNil : List D → Rho → Option Rho := fun ds ρ => match ds with | [] => some ρ | _ => none
def hCons (h : Tg) (k : List D → Rho → Option Rho) : List D → Rho → Option Rho := fun ds ρ => match ds with | d :: ds => (h d ρ).bind (k ds) | [] => none
def hTup (n : Nat) (k : List D → Rho → Option Rho) : Tg := fun d ρ => match d with | .tup ds => if ds.length = n then k ds ρ else none | _ => none
theorem sg_name {i : Nat} {x : Str} {pos : Pos} (hN : X.N.Nodup) (hi : X.N[i]? = some x) (hx : Loc X.env.scope x) (hf : X.fn x = true ∨ X.env.scope.names.lookup x = some .local := by first | exact .inl rfl | exact .inr rfl | assumption) : SG X B (.Name x pos) (hName i) :=
  PG.imp (pg_name hN hi hx hf) fun v σ H Q ⟨ρ, G, d, s, r, ρ', e, q⟩ => by
    cases e
    exact q _ (s.set r)
theorem sgs_nil : SGs X B [] hNil := PGs.imp pgs_nil fun v σ H Q ⟨ρ, G, ds, s, r, ρ', e, q⟩ => by
  cases ds with
  | nil => cases e; exact ⟨reps_nil.mp r, q _ s⟩
  | cons d ds => cases e
theorem sgs_cons {e : Expr} {es : List Expr} {h : Tg} {k : List D → Rho → Option Rho} (h1 : SG X B e h) (h2 : SGs X B es k) (hs : (assignEach (e :: es) X.env).map (·.2) = assign e X.env :: (assignEach es X.env).map (·.2) := by rfl) : SGs X B (e :: es) (hCons h k) :=
  PGs.imp (pgs_cons h1 h2 hs) fun v σ H Q ⟨ρ, G, ds, s, r, ρ', e, q⟩ => by
    cases ds with
    | nil => cases e
    | cons d ds =>
      obtain ⟨w, ws, rfl, r1, r2⟩ := reps_cons.mp r
      unfold hCons at e
      dsimp only at e
      cases e1 : h d ρ with
      | none => rw [e1] at e; cases e
      | some ρ1 =>
        rw [e1] at e
        exact ⟨w, ws, rfl, ρ, G, d, s, r1, ρ1, e1, fun σ1 s1 => ⟨ρ1, G, ds, s1, r2, ρ', e, q⟩⟩
theorem sg_tup {es : List Expr} {k : Nat} {pos : Pos} {n : Nat} {h : List D → Rho → Option Rho} (hc : X.calm = true) (hh : SGs X B es h)
    (hn : (assignEach es X.env).length = n := by rfl) (hst : (assignEach es X.env).findIdx? (·.1) = none := by rfl) : SG X B (.Tuple es k pos) (hTup n h) :=
  PG.imp (pg_tup hc hh hn hst) fun v σ H Q ⟨ρ, G, d, s, r, ρ', e, q⟩ => by
    cases d with
    | tup ds =>
      unfold hTup at e
      dsimp only at e
      by_cases hl : ds.length = n
      · simp only [if_pos hl] at e
        obtain ⟨a, vs, rfl, q1, rr⟩ := rep_tup.mp r
        exact ⟨a, vs, rfl, Same.seqT s.en.gh q1, by rw [← rr.length]; exact hl, ρ, G, ds, s, rr, ρ', e, q⟩
      · simp only [if_neg hl] at e; cases e
    | _ => cases e
def oO (o : Option Rho) : Ou := match o with | some ρ => .nx ρ | none => .no
theorem ss_asg {tg e : Expr} {pos : Pos} {f : Rho → Rs D} {h : Tg} (he : SE X B W e f) (hg : SG X B tg h) (hs : swapsWithSole [tg] e pos.line X.env = pure false := by rfl) (hw : swappedStores [tg] e X.env = pure none := by rfl)
    (h1 : (assignEach [tg] X.env).map (·.2) = [assign tg X.env] := by rfl) : SS X B W (.Assign [tg] e pos) (fun ρ => oR (f ρ) ρ fun d => oO (h d ρ)) :=
  PS.imp (ps_asg he hg hs hw h1) fun De σ H ⟨ρ, G, s, p⟩ => ⟨ρ, G, s, post_of s p fun d v H' G' _ e r q => by
    cases e1 : h d ρ with
    | none => rw [e1] at q; exact q.elim
    | some ρ' => rw [e1] at q; exact ⟨ρ, G', d, s.ext e, r, ρ', e1, fun σ' s' => q σ' H' G' s' (.refl _)⟩⟩
theorem ss_set {i : Nat} {x : Str} {e : Expr} {pos pos' : Pos} {f : Rho → Rs D} (hN : X.N.Nodup) (hi : X.N[i]? = some x) (hx : Loc X.env.scope x) (he : SE X B W e f) (hs : swapsWith e (some (.Name x pos')) pos.line X.env = pure false := by rfl) (hf : X.fn x = true ∨ X.env.scope.names.lookup x = some .local := by first | exact .inl rfl | exact .inr rfl | assumption) :
    SS X B W (.Assign [.Name x pos'] e pos) (fun ρ => oR (f ρ) ρ fun d => .nx (ρ.set i (.fz d))) :=
  PS.imp (ps_set hN hi hx he hs hf) fun De σ H ⟨ρ, G, s, p⟩ => ⟨ρ, G, s, post_of s p fun d v H' G' _ e r q => q _ H' G' ((s.ext e).set r) (.refl _)⟩

/-! own lists -/
theorem SR.setOw (h : SR K B σ H ρ G) {i : Nat} {ds : List D} {vs : List V} {p : Addr} (r : Reps K G ds vs) (hp : H p = none) : SR K B (σ.set i (some (.ref p))) (upd H p (.lst vs)) (ρ.set i (.ow ds)) G := by
  have x := ext_own (xs := vs) h.en.gh h.en.tp hp
  have h' := h.ext x
  have at_i : ∀ {j : Nat} {z : Sl}, (ρ.set i (.ow ds))[j]? = some z → (i = j ∧ z = .ow ds ∧ i < ρ.length) ∨ (i ≠ j ∧ ρ[j]? = some z) := fun {j z} q => by
    by_cases e : i = j
    · subst e
      have hl : i < ρ.length := by
        have := (List.getElem?_eq_some_iff.mp q).1; simpa using this
      rw [List.getElem?_set_self hl] at q
      cases q
      exact .inl ⟨rfl, rfl, hl⟩
    · rw [List.getElem?_set_ne e] at q
      exact .inr ⟨e, q⟩
  refine ⟨h'.en, by simp [h.len], fun j d q => ?_, fun j es q => ?_, fun j k es fs a q1 q2 q3 q4 => ?_⟩
  · rcases at_i q with ⟨_, e, _⟩ | ⟨e, q⟩
    · cases e
    · rw [List.getElem?_set_ne e]; exact h'.fz j d q
  · rcases at_i q with ⟨e, e2, hl⟩ | ⟨e, q⟩
    · subst e; cases e2
      exact ⟨p, vs, List.getElem?_set_self (by rw [← h.len]; exact hl), upd_same, h.en.gh.free hp, h.en.hh.free hp, r⟩
    · rw [List.getElem?_set_ne e]; exact h'.ow j es q
  · have fresh : ∀ {l : Nat} {es : List D}, ρ[l]? = some (.ow es) → σ[l]? ≠ some (some (.ref p)) := fun {l es} q z => by
      obtain ⟨a, vs', h1, h2, _⟩ := h.ow l es q
      rw [h1] at z
      have : a = p := by injection z with z; injection z with z; injection z
      rw [this, hp] at h2; cases h2
    rcases at_i q1 with ⟨e1, _, l1⟩ | ⟨n1, z1⟩
    · rcases at_i q2 with ⟨e2, _⟩ | ⟨n2, z2⟩
      · exact e1.symm.trans e2
      · subst e1
        rw [List.getElem?_set_self (by rw [← h.len]; exact l1)] at q3
        have : a = p := by injection q3 with z; injection z with z; injection z with z; exact z.symm
        subst this
        rw [List.getElem?_set_ne n2] at q4
        exact (fresh z2 q4).elim
    · rcases at_i q2 with ⟨e2, _, l2⟩ | ⟨n2, z2⟩
      · subst e2
        rw [List.getElem?_set_self (by rw [← h.len]; exact l2)] at q4
        have : a = p := by injection q4 with z; injection z with z; injection z with z; exact z.symm
        subst this
        rw [List.getElem?_set_ne n1] at q3
        exact (fresh z1 q3).elim
      · rw [List.getElem?_set_ne n1] at q3
        rw [List.getElem?_set_ne n2] at q4
        exact h.ap j k es fs a z1 z2 q3 q4
/-- a list of one's own changes -/
theorem SR.write (h : SR K B σ H ρ G) {i : Nat} {ds es : List D} {vs : List V} {a : Addr} (q : ρ[i]? = some (.ow ds)) (ha : σ[i]? = some (some (.ref a))) (r : Reps K G es vs) : SR K B σ (upd H a (.lst vs)) (ρ.set i (.ow es)) G := by
  obtain ⟨a', vs0, e1, h2, h3, h4, h5⟩ := h.ow i ds q
  have ea : a' = a := by rw [e1] at ha; injection ha with z; injection z with z; injection z
  subst ea
  have hl : i < ρ.length := (List.getElem?_eq_some_iff.mp q).1
  have at_i : ∀ {j : Nat} {z : Sl}, (ρ.set i (.ow es))[j]? = some z → (i = j ∧ z = .ow es) ∨ (i ≠ j ∧ ρ[j]? = some z) := fun {j z} q => by
    by_cases e : i = j
    · subst e
      rw [List.getElem?_set_self hl] at q
      cases q
      exact .inl ⟨rfl, rfl⟩
    · rw [List.getElem?_set_ne e] at q
      exact .inr ⟨e, q⟩
  have ne : ∀ b o, G b = some o → b ≠ a' := fun b o z w => by rw [w, h3] at z; cases z
  refine ⟨⟨h.en.gg, fun b o z => ?_, fun b o z => ?_, fun b xs z => ?_, h.en.nw⟩, by simp [h.len], fun j d z => ?_, fun j fs z => ?_, fun j k fs gs c z1 z2 z3 z4 => ?_⟩
  · rw [upd_ne (ne_of_none z h4)]; exact h.en.hh b o z
  · rw [upd_ne (ne b o z)]; exact h.en.gh b o z
  · by_cases w : b = a'
    · subst w; rw [upd_same] at z; cases z
    · rw [upd_ne w] at z; exact h.en.tp b xs z
  · rcases at_i z with ⟨_, e⟩ | ⟨_, z⟩
    · cases e
    · exact h.fz j d z
  · rcases at_i z with ⟨e, e2⟩ | ⟨e, z⟩
    · subst e; cases e2
      exact ⟨a', vs, ha, upd_same, h3, h4, r⟩
    · obtain ⟨b, us, w1, w2, w3, w4, w5⟩ := h.ow j fs z
      have hne : b ≠ a' := fun w => by subst w; exact e (h.ap i j ds fs b q z ha w1)
      exact ⟨b, us, w1, by rw [upd_ne hne]; exact w2, w3, w4, w5⟩
  · rcases at_i z1 with ⟨e1, _⟩ | ⟨_, z1⟩ <;> rcases at_i z2 with ⟨e2, _⟩ | ⟨_, z2⟩
    · exact e1.symm.trans e2
    · subst e1; exact h.ap i k ds gs c q z2 z3 z4
    · subst e2; exact h.ap j i fs ds c z1 q z3 z4
    · exact h.ap j k fs gs c z1 z2 z3 z4
def frz (i : Nat) (ρ : Rho) : Rho := match ρ[i]? with | some (.ow ds) => ρ.set i (.fz (.lst ds)) | _ => ρ
theorem SR.frz (h : SR K B σ H ρ G) (i : Nat) : ∃ G', Same G G' ∧ SR K B σ H (frz i ρ) G' := by
  unfold Vl.frz
  split
  · rename_i ds q
    obtain ⟨a, vs, e1, h2, h3, h4, h5⟩ := h.ow i ds q
    have hl : i < ρ.length := (List.getElem?_eq_some_iff.mp q).1
    have gg : Same G (upd G a (.lst vs)) := fun b o z => by rw [upd_ne (ne_of_none z h3)]; exact z
    refine ⟨upd G a (.lst vs), gg, ⟨h.en.gg.trans gg, h.en.hh, fun b o z => ?_, fun b xs z => ?_, fun b o z w => ?_⟩, by simp [h.len], fun j d z => ?_, fun j fs z => ?_, fun j k fs gs c z1 z2 z3 z4 => ?_⟩
    · by_cases w : b = a
      · subst w; rw [upd_same] at z; cases z; exact h2
      · rw [upd_ne w] at z; exact h.en.gh b o z
    · by_cases w : b = a
      · subst w; rw [h2] at z; cases z
      · rw [upd_ne w]; exact h.en.tp b xs z
    · rw [upd_ne (ne_of_none z h4)]; exact h.en.nw b o z w
    · by_cases e : i = j
      · subst e
        rw [List.getElem?_set_self hl] at z
        cases z
        exact ⟨_, e1, rep_lst.mpr ⟨a, vs, rfl, .of upd_same, h5.mono gg⟩⟩
      · rw [List.getElem?_set_ne e] at z
        obtain ⟨v, w1, w2⟩ := h.fz j d z
        exact ⟨v, w1, w2.mono gg⟩
    · by_cases e : i = j
      · subst e; rw [List.getElem?_set_self hl] at z; cases z
      · rw [List.getElem?_set_ne e] at z
        obtain ⟨b, us, w1, w2, w3, w4, w5⟩ := h.ow j fs z
        have hne : b ≠ a := fun w => by subst w; exact e (h.ap i j ds fs b q z e1 w1)
        exact ⟨b, us, w1, w2, by rw [upd_ne hne]; exact w3, w4, w5.mono gg⟩
    · have nj : i ≠ j := fun e => by subst e; rw [List.getElem?_set_self hl] at z1; cases z1
      have nk : i ≠ k := fun e => by subst e; rw [List.getElem?_set_self hl] at z2; cases z2
      rw [List.getElem?_set_ne nj] at z1
      rw [List.getElem?_set_ne nk] at z2
      exact h.ap j k fs gs c z1 z2 z3 z4
  · exact ⟨G, .refl _, h⟩
theorem sss_frz {st : List Stmt} {g : Rho → Ou} (i : Nat) (h : SSs X B W st g) : SSs X B W st (fun ρ => g (frz i ρ)) :=
  PSs.imp h fun De σ H ⟨ρ, G, s, p⟩ => let ⟨G', gg, s'⟩ := s.frz i; ⟨_, G', s', PostS.same p gg⟩
theorem ss_frz {st : Stmt} {g : Rho → Ou} (i : Nat) (h : SS X B W st g) : SS X B W st (fun ρ => g (frz i ρ)) :=
  PS.imp h fun De σ H ⟨ρ, G, s, p⟩ => let ⟨G', gg, s'⟩ := s.frz i; ⟨_, G', s', PostS.same p gg⟩
/-- x = [..] that will change -/
theorem ss_own {i : Nat} {x : Str} {es : List Expr} {pos pos' lp : Pos} {f : Rho → Rs (List D)} (hN : X.N.Nodup) (hi : X.N[i]? = some x) (hx : Loc X.env.scope x) (he : SA X B W es f) (hs : swapsWith (.List es lp) (some (.Name x pos')) pos.line X.env = pure false := by rfl) (hf : X.fn x = true ∨ X.env.scope.names.lookup x = some .local := by first | exact .inl rfl | exact .inr rfl | assumption) :
    SS X B W (.Assign [.Name x pos'] (.List es lp) pos) (fun ρ => oR (f ρ) ρ fun ds => if ds.length ≤ 1000 then .nx (ρ.set i (.ow ds)) else .no) := by
  refine PS.imp (ps_set hN hi hx (pe_lst he) hs hf) fun De σ H ⟨ρ, G, s, p⟩ => ⟨ρ, G, s, ?_⟩
  dsimp only at p
  cases e : f ρ with
  | ok ds =>
    rw [e] at p
    have p' : PostS X.K B W G (if ds.length ≤ 1000 then .nx (ρ.set i (.ow ds)) else .no) De := p
    by_cases hl : ds.length ≤ 1000
    · rw [if_pos hl] at p'
      exact fun vs H' G' x r => ⟨by rw [← r.length]; exact sz1000 hl, fun c hc => p' _ _ G' ((s.ext x).setOw r hc) x.gg⟩
    · rw [if_neg hl] at p'; exact p'.elim
  | ex c n => rw [e] at p; exact fun H' G' x => p σ H' G' (s.ext x) x.gg
  | no => rw [e] at p; exact p
/-- x.append(e), x a list of one's own -/
theorem ss_append {i : Nat} {x : Str} {e : Expr} {pos p1 p2 cp : Pos} {f : Rho → Rs D} (hv : PE X (.Name x p1) (tVar i)) (he : SE X B W e f)
    (hst : starEach [e] X.env = [(false, eval e X.env)]) {pe : PE X (.Call (.Attribute (.Name x p1) "append" p2) [e] [] cp) (tBM X.K "list" rAppend (tVar i) (tCons (tF X.K B W f) tNil))}
    (hs : swapsWith (.Call (.Attribute (.Name x p1) "append" p2) [e] [] cp) none pos.line X.env = pure false := by rfl) :
    SS X B W (.Expr (.Call (.Attribute (.Name x p1) "append" p2) [e] [] cp) pos) (fun ρ => match ρ[i]? with | some (.ow ds) => oR (f ρ) ρ fun d => if ds.length < 1000000 then .nx (ρ.set i (.ow (ds ++ [d]))) else .no | _ => .no) := by
  refine PS.imp (ps_expr pe hs) fun De σ H ⟨ρ, G, s, p⟩ => ?_
  dsimp only at p
  cases q : ρ[i]? with
  | none => rw [q] at p; exact p.elim
  | some z =>
    rw [q] at p
    cases z with
    | no => exact p.elim
    | fz d => exact p.elim
    | ow ds =>
      obtain ⟨a, vs, e1, h2, h3, h4, h5⟩ := s.ow i ds q
      refine ⟨_, e1, .inl ⟨rfl, vs, .of h2⟩, ρ, G, s, post_of s p fun d v H' G' _ x r p' => ?_⟩
      by_cases hl : ds.length < 1000000
      · rw [if_pos hl] at p'
        have s' := s.ext x
        refine ⟨a, vs, v, rfl, rfl, x.hh _ _ h2, by rw [← h5.length]; exact Nat.lt_of_lt_of_le hl (by rw [sizeLine_eq]; decide), ?_⟩
        exact p' σ _ G' (s'.write q e1 ((h5.mono x.gg).append (.one r))) (.refl _)
      · rw [if_neg hl] at p'; exact p'.elim
end
end Vl

set_option Elab.async false
set_option linter.all false
set_option maxRecDepth 100000
set_option maxHeartbeats 4000000
namespace Vl
open PySem PySem.Spec L2

/-! ### for -/
def forD (h : Tg) (gb : Rho → Ou) : List D → Rho → Ou
  | [], ρ => .nx ρ
  | d :: ds, ρ => match h d ρ with
    | none => .no
    | some ρ1 => match gb ρ1 with
      | .nx ρ2 => forD h gb ds ρ2
      | .ct ρ2 => forD h gb ds ρ2
      | .bk ρ2 => .nx ρ2
      | o => o
def WF : Wi := fun _ _ _ _ => False
section
variable {X : Cx} {K : PySem.W.Frag} {B : Hp × Hp} {W : Wi} {σ : St} {G G' H : Hp} {ρ : Rho} {De De' : Ends}
/-- one turn -/
theorem for_turn {h : Tg} {gb : Rho → Ou} {d : D} {ds : List D} {v : V} {Pv : St → Hp → Prop} (s : SR K B σ H ρ G) (r : Rep K G d v) (p : PostS K B W G (forD h gb (d :: ds) ρ) De)
    (hP : ∀ σ' H' ρ' G', SR K B σ' H' ρ' G' → Same G G' → PostS K B W G' (forD h gb ds ρ') De → Pv σ' H') :
    tG K B h v σ H fun σ2 H2 => tS K B W gb { De with nx := Pv, ct := Pv, bk := De.nx } σ2 H2 := by
  unfold forD at p
  cases e : h d ρ with
  | none => rw [e] at p; exact p.elim
  | some ρ1 =>
    rw [e] at p
    refine ⟨ρ, G, d, s, r, ρ1, e, fun σ1 s1 => ⟨ρ1, G, s1, ?_⟩⟩
    dsimp only at p
    cases e2 : gb ρ1 with
    | nx ρ2 => rw [e2] at p; exact fun σ' H' G' s' q => hP σ' H' ρ2 G' s' q (PostS.same p q)
    | ct ρ2 => rw [e2] at p; exact fun σ' H' G' s' q => hP σ' H' ρ2 G' s' q (PostS.same p q)
    | bk ρ2 => rw [e2] at p; exact p
    | rt d => rw [e2] at p; exact p
    | ex c n ρ2 => rw [e2] at p; exact p
    | no => rw [e2] at p; exact p
def gForL (h : Tg) (gb : Rho → Ou) (f : Rho → Rs D) : Rho → Ou := fun ρ => oR (f ρ) ρ fun d => match d with | .lst ds => forD h gb ds ρ | _ => .no
def gForT (h : Tg) (gb : Rho → Ou) (f : Rho → Rs D) : Rho → Ou := fun ρ => oR (f ρ) ρ fun d => match d with | .tup ds => forD h gb ds ρ | _ => .no
def gForR (h : Tg) (gb : Rho → Ou) (f : Rho → Rs D) : Rho → Ou := fun ρ => oR (f ρ) ρ fun d => match d with | .int n => if -(2 ^ 62) ≤ n ∧ n < 2 ^ 62 then forD h gb ((List.range n.toNat).map fun (i : Nat) => .int i) ρ else .no | _ => .no
def gForR2 (h : Tg) (gb : Rho → Ou) (fs : Rho → Rs (List D)) : Rho → Ou := fun ρ => oR (fs ρ) ρ fun ds => match ds with
  | [.int m, .int n] => if (-(2 ^ 62) ≤ m ∧ m < 2 ^ 62 ∧ -(2 ^ 62) ≤ n ∧ n < 2 ^ 62) then forD h gb ((List.range (n - m).toNat).map fun (i : Nat) => .int (m + i)) ρ else .no | _ => .no
theorem ss_forL {tg iter : Expr} {body : List Stmt} {pos : Pos} {f : Rho → Rs D} {h : Tg} {gb : Rho → Ou} (hp : PassesOwn (model X.prog X.w) X.A X.env X.xe) (hc : X.calm = true) (hi : SE X B W iter f) (hg : SG X B tg h) (hb : SSs X B W body gb)
    (hs : ∀ x, foldedSetIterable iter X.env x = pure x := by intro _; rfl) : SS X B W (.For tg iter body [] pos) (gForL h gb f) := by
  refine PS.imp (ps_for hp hc (pi_list hi) hg hb hs) fun De σ H ⟨ρ, G, s, p⟩ => ?_
  refine ⟨ρ, G, s, post_of s p fun d v H1 G1 _ e r p1 => ?_⟩
  cases d with
  | lst ds =>
    obtain ⟨a, vs, rfl, q, rr⟩ := rep_lst.mp r
    refine ⟨a, rfl, ⟨vs, e.gh.seq q⟩, for_list (fun i σ H => ∃ ρ G, SR X.K B σ H ρ G ∧ SqL X.K G a vs ∧ Reps X.K G ds vs ∧ PostS X.K B W G (forD h gb (ds.drop i) ρ) De) ⟨ρ, G1, s.ext e, q, rr, by simpa using p1⟩ (fun i σ H _ ⟨ρ, G, s, q, _⟩ => s.en.gh.seq q) ?_ ?_⟩
    · rintro i x σ2 H2 hx ⟨ρ2, G2, s2, q2, r2, p2⟩
      obtain ⟨d, hd, rd⟩ := r2.get' hx
      have hl := (List.getElem?_eq_some_iff.mp hd).1
      rw [List.drop_eq_getElem_cons hl, (List.getElem?_eq_some_iff.mp hd).2] at p2
      exact for_turn s2 rd p2 fun σ' H' ρ' G' s' q' p' => ⟨ρ', G', s', q'.seq q2, r2.mono q', p'⟩
    · rintro σ2 H2 ⟨ρ2, G2, s2, q2, r2, p2⟩
      rw [← r2.length, List.drop_length] at p2
      exact p2 σ2 H2 G2 s2 (.refl _)
  | _ => exact p1.elim
theorem ss_forT {tg iter : Expr} {body : List Stmt} {pos : Pos} {f : Rho → Rs D} {h : Tg} {gb : Rho → Ou} (hp : PassesOwn (model X.prog X.w) X.A X.env X.xe) (hc : X.calm = true) (hi : SE X B W iter f) (hg : SG X B tg h) (hb : SSs X B W body gb)
    (hs : ∀ x, foldedSetIterable iter X.env x = pure x := by intro _; rfl) : SS X B W (.For tg iter body [] pos) (gForT h gb f) := by
  refine PS.imp (ps_for hp hc (pi_tup hi) hg hb hs) fun De σ H ⟨ρ, G, s, p⟩ => ?_
  refine ⟨ρ, G, s, post_of s p fun d v H1 G1 _ e r p1 => ?_⟩
  cases d with
  | tup ds =>
    obtain ⟨a, vs, rfl, q, rr⟩ := rep_tup.mp r
    refine ⟨a, rfl, ⟨vs, Same.seqT e.gh q⟩, for_tup (fun i σ H => ∃ ρ G, SR X.K B σ H ρ G ∧ SqT X.K G a vs ∧ Reps X.K G ds vs ∧ PostS X.K B W G (forD h gb (ds.drop i) ρ) De) ⟨ρ, G1, s.ext e, q, rr, by simpa using p1⟩ (fun i σ H _ ⟨ρ, G, s, q, _⟩ => Same.seqT s.en.gh q) ?_ ?_⟩
    · rintro i x σ2 H2 hx ⟨ρ2, G2, s2, q2, r2, p2⟩
      obtain ⟨d, hd, rd⟩ := r2.get' hx
      have hl := (List.getElem?_eq_some_iff.mp hd).1
      rw [List.drop_eq_getElem_cons hl, (List.getElem?_eq_some_iff.mp hd).2] at p2
      exact for_turn s2 rd p2 fun σ' H' ρ' G' s' q' p' => ⟨ρ', G', s', Same.seqT q' q2, r2.mono q', p'⟩
    · rintro σ2 H2 ⟨ρ2, G2, s2, q2, r2, p2⟩
      rw [← r2.length, List.drop_length] at p2
      exact p2 σ2 H2 G2 s2 (.refl _)
  | _ => exact p1.elim
theorem range_walk {h : Tg} {gb : Rho → Ou} {lo : Int} {n : Nat} (s : SR K B σ H ρ G) (p : PostS K B W G (forD h gb ((List.range n).map fun (i : Nat) => .int (lo + i)) ρ) De) :
    ∃ W0 : Nat → Nat → St → Hp → Prop, (∃ m, W0 0 m σ H) ∧ ∀ i m σ H, W0 i m σ H →
      ((Itr lo n).stop i H ∧ De.nx σ H) ∨ ((Itr lo n).go i H ∧ ∃ N : St → Hp → Prop, (∀ σ' H', N σ' H' → ∃ m', m' < m ∧ W0 (i + 1) m' σ' H') ∧ ∀ x H', (Itr lo n).yld i H x H' → tG K B h x σ H' fun σ2 H2 => tS K B W gb { De with nx := N, ct := N, bk := De.nx } σ2 H2) := by
  refine for_range (fun i σ H => ∃ ρ G, SR K B σ H ρ G ∧ PostS K B W G (forD h gb (((List.range n).map fun (i : Nat) => D.int (lo + i)).drop i) ρ) De) ⟨ρ, G, s, by simpa using p⟩ ?_ ?_
  · rintro i σ2 H2 hi ⟨ρ2, G2, s2, p2⟩
    have hl : i < ((List.range n).map fun (i : Nat) => D.int (lo + i)).length := by simpa using hi
    rw [List.drop_eq_getElem_cons hl] at p2
    rw [show ((List.range n).map fun (i : Nat) => D.int (lo + i))[i] = D.int (lo + i) by simp] at p2
    exact for_turn s2 (rep_int.mpr rfl) p2 fun σ' H' ρ' G' s' q' p' => ⟨ρ', G', s', p'⟩
  · rintro σ2 H2 ⟨ρ2, G2, s2, p2⟩
    rw [List.drop_eq_nil_of_le (by simp)] at p2
    exact p2 σ2 H2 G2 s2 (.refl _)
theorem ss_forR {tg e : Expr} {body : List Stmt} {pos p1 p2 : Pos} {f : Rho → Rs D} {h : Tg} {gb : Rho → Ou} (hp : PassesOwn (model X.prog X.w) X.A X.env X.xe) (hc : X.calm = true) (hm : X.mg "range" = none) (hi : SE X B W e f) (hg : SG X B tg h) (hb : SSs X B W body gb)
    (hgl : Gl X "range" := by rfl) (hst : starEach [e] X.env = [(false, eval e X.env)] := by rfl)
    (hs : ∀ x, foldedSetIterable (.Call (.Name "range" p1) [e] [] p2) X.env x = pure x := by intro _; rfl) : SS X B W (.For tg (.Call (.Name "range" p1) [e] [] p2) body [] pos) (gForR h gb f) := by
  refine PS.imp (ps_for hp hc (pi_range1 hgl hm (pa_cons hi pa_nil (by rw [hst]; rfl)) hst) hg hb hs) fun De σ H ⟨ρ, G, s, p⟩ => ?_
  refine ⟨ρ, G, s, post_of s p fun d v H1 G1 _ e r p1 => ?_⟩
  cases d with
  | int n =>
    dsimp only at p1
    by_cases c : -(2 ^ 62) ≤ n ∧ n < 2 ^ 62
    · rw [if_pos c] at p1
      refine ⟨n, by rw [rep_int.mp r], c.1, c.2, range_walk (s.ext e) ?_⟩
      simpa using p1
    · rw [if_neg c] at p1; exact p1.elim
  | _ => exact p1.elim
theorem ss_forR2 {tg e e' : Expr} {body : List Stmt} {pos p1 p2 : Pos} {f f' : Rho → Rs D} {h : Tg} {gb : Rho → Ou} (hp : PassesOwn (model X.prog X.w) X.A X.env X.xe) (hc : X.calm = true) (hm : X.mg "range" = none) (hi : SE X B W e f) (hi' : SE X B W e' f') (hg : SG X B tg h) (hb : SSs X B W body gb)
    (hgl : Gl X "range" := by rfl) (hst : starEach [e, e'] X.env = [(false, eval e X.env), (false, eval e' X.env)] := by rfl) (hst2 : starEach [e'] X.env = [(false, eval e' X.env)] := by rfl)
    (hs : ∀ x, foldedSetIterable (.Call (.Name "range" p1) [e, e'] [] p2) X.env x = pure x := by intro _; rfl) : SS X B W (.For tg (.Call (.Name "range" p1) [e, e'] [] p2) body [] pos) (gForR2 h gb (fCons f (fCons f' fNil))) := by
  refine PS.imp (ps_for hp hc (pi_range2 hgl hm (sa_cons hi (sa_cons hi' sa_nil (by rw [hst2]; rfl)) (by rw [hst, hst2])) hst hst2) hg hb hs) fun De σ H ⟨ρ, G, s, p⟩ => ?_
  refine ⟨ρ, G, s, ?_⟩
  unfold gForR2 at p
  cases e1 : fCons f (fCons f' fNil) ρ with
  | ok ds =>
    rw [e1] at p
    intro vs H1 G1 e r
    have p1 := PostS.same p e.gg
    simp only [oR] at p1
    split at p1
    · rename_i m n
      obtain ⟨v, vs', rfl, r1, r2⟩ := reps_cons.mp r
      obtain ⟨v2, vs'', rfl, r3, r4⟩ := reps_cons.mp r2
      rw [rep_int.mp r1, rep_int.mp r3, reps_nil.mp r4]
      by_cases c : (-(2 ^ 62) ≤ m ∧ m < 2 ^ 62 ∧ -(2 ^ 62) ≤ n ∧ n < 2 ^ 62)
      · rw [if_pos c] at p1
        exact ⟨m, n, rfl, c, range_walk (s.ext e) p1⟩
      · rw [if_neg c] at p1; exact p1.elim
    · exact p1.elim
  | ex c n => rw [e1] at p; exact fun H' G' x => p σ H' G' (s.ext x) x.gg
  | no => rw [e1] at p; exact p

/-! ### code that raises nothing -/
def noEx : Ou → Ou
  | .ex _ _ _ => .no
  | o => o
theorem noEx_post {o : Ou} (p : PostS K B W G (noEx o) De) : PostS K B WF G o De := by
  cases o with
  | ex c n ρ => exact p.elim
  | _ => exact p
theorem PS.nox {st : Stmt} {t : TS} (h : PS X.nox st t) : PS X st t := fun pins s σ H D I hw =>
  wpAny_mono (h pins s σ H D (I.wish _) hw) (fun _ _ q => q.unwish) fun _ _ z => False.elim z
theorem ss_nox {st : Stmt} {g : Rho → Ou} (h : SS X.nox B WF st g) : SS X B W st (fun ρ => noEx (g ρ)) :=
  PS.imp (PS.nox h) fun De σ H ⟨ρ, G, s, p⟩ => ⟨ρ, G, s, noEx_post p⟩
theorem sss_nox {st : List Stmt} {g : Rho → Ou} (h : SSs X.nox B WF st g) : SSs X B W st (fun ρ => noEx (g ρ)) :=
  PSs.imp (PSs.nox h) fun De σ H ⟨ρ, G, s, p⟩ => ⟨ρ, G, s, noEx_post p⟩

/-! ### defs -/
def zig (n : Int) : Nat := if 0 ≤ n then 2 * n.toNat else 2 * (-n).toNat + 1
def enc (c : Str) (n : Int) : Value := .str c (zig n)
def RP (K : PySem.W.Frag) (G H : Hp) (Q : VK) (E : XK) (r : Rs D) : Prop := match r with
  | .ok d => ∀ v H' G', Ext G H G' H' → Rep K G' d v → Q v H'
  | .ex c n => ∀ H' G', Ext G H G' H' → E (enc c n) none H'
  | .no => False
def spV (K : PySem.W.Frag) (k : Nat) (g : List D → Rs D) : Sp := fun vs H Q E => vs.length = k ∧ ∃ G ds, Ext G H G H ∧ Reps K G ds vs ∧ RP K G H Q E (g ds)
def fin : Ou → Rs D
  | .nx _ => .ok .non
  | .rt d => .ok d
  | .ex c n _ => .ex c n
  | _ => .no
def noExR {α : Type} : Rs α → Rs α
  | .ex _ _ => .no
  | o => o
def startR (N : List Str) (ds : List D) : Rho := ds.map .fz ++ List.replicate (N.length - ds.length) .no
theorem sr_start {N : List Str} {ds : List D} {vs : List V} (e : Ext G H G H) (r : Reps K G ds vs) : SR K (G, H) (L2.start N vs) H (startR N ds) G := by
  have no_ow : ∀ (i : Nat) (es : List D), (startR N ds)[i]? ≠ some (.ow es) := fun i es q => by
    unfold startR at q
    by_cases hi : i < (ds.map Sl.fz).length
    · rw [List.getElem?_append_left hi, List.getElem?_map] at q
      cases e1 : ds[i]? with
      | none => rw [e1] at q; cases q
      | some d => rw [e1] at q; cases q
    · rw [List.getElem?_append_right (by omega), List.getElem?_replicate] at q
      split at q <;> cases q
  refine ⟨e, ?_, fun i d q => ?_, fun i es q => (no_ow i es q).elim, fun i j es fs a q => (no_ow i es q).elim⟩
  · unfold startR L2.start
    simp [r.length]
  · unfold startR at q
    unfold L2.start
    by_cases hi : i < (ds.map Sl.fz).length
    · rw [List.getElem?_append_left hi, List.getElem?_map] at q
      cases e1 : ds[i]? with
      | none => rw [e1] at q; cases q
      | some d' =>
        rw [e1] at q
        cases q
        obtain ⟨v, h1, h2⟩ := r.get e1
        refine ⟨v, ?_, h2⟩
        rw [List.getElem?_append_left (by rw [List.length_map, ← r.length]; simpa using hi), List.getElem?_map, h1]
        rfl
    · rw [List.getElem?_append_right (by omega), List.getElem?_replicate] at q
      split at q <;> cases q
theorem fin_post {o : Ou} {Q : VK} {E : XK} (h : RP K B.1 B.2 Q E (fin o)) : PostS K B (fun c n _ H' => E (enc c n) none H') G o { nx := fun _ H' => Q .non H', rt := Q } := by
  cases o with
  | nx ρ' => exact fun σ' H' G' s q => h .non H' G' s.en (rep_non.mpr rfl)
  | rt d => exact fun v H' G' x q r => h v H' G' x r
  | ex c n ρ' => exact fun σ' H' G' s q => h H' G' s.en
  | bk _ => exact h.elim
  | ct _ => exact h.elim
  | no => exact h.elim
section
variable {P : Program} {w : World} {mg : Str → Option Value} {base : Heap} {x qual : Str} {st : Stmt} {f : Addr} {fd : FuncData} {N ps : List Str} {k : Nat}
/-- THE RULE for a def that raises nothing -/
theorem fn_v0 {g : Rho → Ou} (F : Fun K x qual st f fd) (S : FnScope N ps (defScope st))
    (hb : ∀ (cdv : Value) (A : Around) (outer : List Env) (s : Shared) (H : Hp) (E : XK) (B : Hp × Hp), Room k (A.deeper (PyProof.Rows.envOfC qual (defScope st) s.heap.objs.size f cdv)) →
      SSs (cxOf CX0 P w K mg base N qual (defScope st) f cdv A outer s H E).nox B WF (defBody st) g) :
    FnOk P w K mg base CX0 (k + 1) f fd ps (spV K ps.length fun ds => noExR (fin (g (startR N ds)))) := by
  refine F.ok S (fun vs H Q E h => h.1) (fun cdv A outer s H vs Q E hr h => ?_)
  obtain ⟨_, G, ds, e, r, h⟩ := h
  dsimp only at h
  refine ⟨_, hb cdv A outer s H E (G, H) hr, startR N ds, G, sr_start e r, ?_⟩
  cases e1 : g (startR N ds) with
  | nx ρ' => rw [e1] at h; exact fun σ' H' G' s q => h .non H' G' s.en (rep_non.mpr rfl)
  | rt d => rw [e1] at h; exact fun v H' G' x q r => h v H' G' x r
  | ex c n ρ' => rw [e1] at h; exact h.elim
  | bk _ => rw [e1] at h; exact h.elim
  | ct _ => rw [e1] at h; exact h.elim
  | no => rw [e1] at h; exact h.elim
/-- the same promise by another function -/
theorem fn_by {CX : CXT} {n : Nat} {g g' : List D → Rs D} (F : FnOk P w K mg base CX k f fd ps (spV K n g)) (h : ∀ ds, ds.length = n → (match g' ds with | .ok d => g ds = .ok d | .ex c m => g ds = .ex c m | .no => True)) :
    FnOk P w K mg base CX k f fd ps (spV K n g') := by
  refine F.imp fun vs H Q E ⟨hl, G, ds, e, r, q⟩ => ⟨hl, G, ds, e, r, ?_⟩
  have hh := h ds (r.length.trans hl)
  cases e1 : g' ds with
  | ok d => rw [e1] at hh q; rw [hh]; exact q
  | ex c n => rw [e1] at hh q; rw [hh]; exact q
  | no => rw [e1] at q; exact q.elim
end
def gCall (n : Nat) (g : List D → Rs D) : List D → Rs D := fun ds => if ds.length = n then noExR (g ds) else .no
/-- f(e, ..) of a def that raises nothing -/
theorem se_call0 {x : Str} {p pos : Pos} {e : Expr} {es : List Expr} {fs : Rho → Rs (List D)} {f : Addr} {fd : FuncData} {ps : List Str} {k n : Nat} {g : List D → Rs D} (F : FnOk X.prog X.w X.K X.mg X.base CX0 k f fd ps (spV X.K n g)) (hr : Room k X.A) (hg : Gl X x) (hm : X.mg x = some (.ref f)) (hk : PySem.W.keepIn X.K (.ref f) = true) (hb : Binds X.K fd ps [])
    (ha : SA X B W (e :: es) fs) (hdb : (x == ("__debug__" : Str)) = false := by decide) (he : starEach (e :: es) X.env = (false, eval e X.env) :: starEach es X.env := by rfl) (hpl : (backTo pos (starEach es X.env)).any (·.1) = false := by rfl) :
    SE X B W (.Call (.Name x p) (e :: es) [] pos) (fA fs (gCall n g)) := by
  refine PE.imp (pe_call F hr hg hm hk hb .nil (pass0 (X := X)) ha hdb he hpl) fun σ H Q h => ?_
  refine tA_of (r := fun vs H1 Q => spV X.K n g (vs ++ []) H1 Q E0) ?_ h
  intro B W σ ρ G H ds vs Q s r p
  rw [List.append_nil]
  unfold gCall at p
  by_cases hl : ds.length = n
  · rw [if_pos hl] at p
    refine ⟨by rw [← r.length]; exact hl, G, ds, s.ext0, r, ?_⟩
    cases e1 : g ds with
    | ok d => rw [e1] at p; exact p
    | ex c n => rw [e1] at p; exact p.elim
    | no => rw [e1] at p; exact p.elim
  · rw [if_neg hl] at p; exact p.elim
end
end Vl

set_option Elab.async false
set_option linter.all false
set_option maxRecDepth 100000
set_option maxHeartbeats 4000000
namespace Vl
open PySem PySem.Spec L2

/-! ### comprehensions -/
theorem compLoop_gen {prog : Program} {w : World} {A : Around} {s : Shared} {R : Result → Shared → Prop} {elt target iter : Expr} {ifs : List Expr} {scope : Scope} {pos : Pos} {it acc : Value} {env : Env} (J : Nat → Shared → Prop)
    (turn : ∀ k t, J k t → wpAny (model prog w) A (pyNext it) (fun o t1 => match o with
      | none => R (.ok .next) t1
      | some x => wpAny (model prog w) A (letOwnedTupleGo target it x) (fun _ t2 => wpAny (model prog w) A (assign target env x) (fun _ t3 =>
          wpAny (model prog w) A (forIn ifs true fun c go => if go = true then do { let y ← isTrue c env (eval c env); pure (ForInStep.yield y) } else pure (ForInStep.yield go)) (fun yes t4 =>
            if yes = true then wpAny (model prog w) A (eval elt env) (fun y t5 =>
              wpAny (model prog w) A (call (.builtin "list.append") [acc, y]) (fun _ t6 => ∃ j, j < k ∧ J j t6) (fun _ _ => False) t5) (fun _ _ => False) t4
            else ∃ j, j < k ∧ J j t4) (fun _ _ => False) t3) (fun _ _ => False) t2) (fun _ _ => False) t1) (fun _ _ => False) t)
    (n : Nat) (h : J n s) : codeAny (model prog w) A (.compLoop (.ListComp elt [⟨target, iter, ifs, 0⟩] scope pos) 0 it acc env) R s := by
  refine codeAny_loop rfl J (fun k t hJ => ?_) n h
  show wpAny _ A (Sem.onRaise (compTurn (.ListComp elt [⟨target, iter, ifs, 0⟩] scope pos) 0 it acc env) (fun x => do noteFrame x env; theTreesLotGoes x)) _ _ t
  refine wpAny_noted ?_
  rw [compTurn_list]
  refine wpAny_bind (wpAny_standAt (wpAny_bind (wpAny_mono (turn k t hJ) (fun o t1 g1 => ?_) fun _ _ z => z.elim)))
  cases o with
  | none => exact wpAny_pure g1
  | some x =>
    refine wpAny_bind (wpAny_mono g1 (fun _ t2 g2 => ?_) fun _ _ z => z.elim)
    refine wpAny_bind (wpAny_mono g2 (fun _ t3 g3 => wpAny_bind (wpAny_mono g3 (fun yes t4 g4 => ?_) fun _ _ z => z.elim)) fun _ _ z => z.elim)
    cases yes with
    | true => exact wpAny_bind (wpAny_bind (wpAny_mono g4 (fun y t5 g5 => wpAny_bind (wpAny_mono g5 (fun _ t6 g6 => wpAny_pure (wpAny_pure ⟨rfl, g6⟩)) fun _ _ z => z.elim)) fun _ _ z => z.elim))
    | false => exact wpAny_pure ⟨rfl, g4⟩
/-- the context of a comprehension's block -/
abbrev compX (X : Cx) (N : List Str) (s₀ : Shared) (H₀ : Hp) (sc : Scope) (cl : List (Str × Addr)) (C : Addr) (ex : List Addr) (pins : List (Addr × Obj)) : Cx where
  prog := X.prog
  w := X.w
  K := X.K
  mg := X.mg
  base := X.base
  A := X.A
  N := N
  s₀ := s₀
  H₀ := H₀
  env := compEnvC sc cl C X.env
  outer := X.stack
  stack := X.stack
  ex := ex
  fn := fun _ => false
  calm := X.calm
  pn := X.pn ++ pins
  xe := fun _ _ => False
def clOf (sc : Scope) (env : Env) : List (Str × Addr) := sc.names.foldl (fun cs y => if y.2 == .free then (y.1, (env.cells.lookup y.1).getD 0) :: cs else cs) []
theorem closureFor_clOf {sc : Scope} {env : Env} (h : ∀ y ∈ sc.names, y.2 = .free → ∃ c, env.cells.lookup y.1 = some c) : closureFor sc env = pure (clOf sc env) := by
  unfold closureFor clOf
  have key : ∀ (l : List (Str × NameKind)) (cs : List (Str × Addr)), (∀ y ∈ l, y.2 = .free → ∃ c, env.cells.lookup y.1 = some c) →
      (forIn l cs (fun (x : Str × NameKind) (r : List (Str × Addr)) => if (x.2 == NameKind.free) = true then do let a ← cellOf env x.1; pure (ForInStep.yield ((x.1, a) :: r)) else pure (ForInStep.yield r)) : Sem (List (Str × Addr))) =
        pure (l.foldl (fun cs y => if y.2 == .free then (y.1, (env.cells.lookup y.1).getD 0) :: cs else cs) cs) := by
    intro l
    induction l with
    | nil => intro cs _; rfl
    | cons y l ih =>
      intro cs hl
      rw [List.forIn_cons, List.foldl_cons]
      by_cases hk : (y.2 == NameKind.free) = true
      · obtain ⟨c, hc⟩ := hl y List.mem_cons_self (by simpa using hk)
        rw [if_pos hk, if_pos hk]
        unfold cellOf
        rw [hc]
        exact ih _ fun z hz => hl z (List.mem_cons_of_mem _ hz)
      · rw [if_neg hk, if_neg hk]
        exact ih _ fun z hz => hl z (List.mem_cons_of_mem _ hz)
  have := key sc.names [] h
  simp only [] at this ⊢
  rw [this]
  rfl
theorem clOf_mem {sc : Scope} {env : Env} : ∀ y ∈ clOf sc env, (∃ k ∈ sc.names, k.1 = y.1 ∧ k.2 = .free) ∧ y.2 = (env.cells.lookup y.1).getD 0 := by
  unfold clOf
  have key : ∀ (l : List (Str × NameKind)) (cs : List (Str × Addr)) (y : Str × Addr), y ∈ l.foldl (fun cs y => if y.2 == .free then (y.1, (env.cells.lookup y.1).getD 0) :: cs else cs) cs →
      y ∈ cs ∨ ((∃ k ∈ l, k.1 = y.1 ∧ k.2 = .free) ∧ y.2 = (env.cells.lookup y.1).getD 0) := by
    intro l
    induction l with
    | nil => intro cs y h; exact .inl h
    | cons z l ih =>
      intro cs y h
      rw [List.foldl_cons] at h
      rcases ih _ y h with h | ⟨⟨k, hk, e⟩, e2⟩
      · by_cases hz : (z.2 == NameKind.free) = true
        · rw [if_pos hz] at h
          rcases List.mem_cons.mp h with e | h
          · subst e
            exact .inr ⟨⟨z, List.mem_cons_self, rfl, by simpa using hz⟩, rfl⟩
          · exact .inl h
        · rw [if_neg hz] at h; exact .inl h
      · exact .inr ⟨⟨k, List.mem_cons_of_mem _ hk, e⟩, e2⟩
  intro y hy
  rcases key sc.names [] y hy with h | h
  · cases h
  · exact h
theorem clOf_has {sc : Scope} {env : Env} {n : Str} (h : (n, NameKind.free) ∈ sc.names) : ∃ c, (clOf sc env).lookup n = some c := by
  have key : ∀ (l : List (Str × NameKind)) (cs : List (Str × Addr)), ((n, NameKind.free) ∈ l ∨ ∃ c, cs.lookup n = some c) → ∃ c, (l.foldl (fun cs y => if y.2 == .free then (y.1, (env.cells.lookup y.1).getD 0) :: cs else cs) cs).lookup n = some c := by
    intro l
    induction l with
    | nil =>
      intro cs h
      rcases h with h | h
      · cases h
      · exact h
    | cons z l ih =>
      intro cs h
      rw [List.foldl_cons]
      refine ih _ ?_
      rcases h with h | ⟨c, hc⟩
      · rcases List.mem_cons.mp h with e | h
        · subst e
          refine .inr ⟨(env.cells.lookup n).getD 0, ?_⟩
          rw [if_pos (by rfl), List.lookup_cons_self]
        · exact .inl h
      · right
        by_cases hz : (z.2 == NameKind.free) = true
        · rw [if_pos hz]
          by_cases e : n = z.1
          · subst e; exact ⟨_, List.lookup_cons_self⟩
          · exact ⟨c, by rw [List.lookup_cons, show (n == z.1) = false by simpa using e]; exact hc⟩
        · rw [if_neg hz]; exact ⟨c, hc⟩
  exact key sc.names [] (.inl h)

section
variable {X : Cx} {pins : List (Addr × Obj)} {σ : St} {H : Hp} {s : Shared}
theorem relabel_lookup {sc : Scope} {env : Env} {x : Str} {k : NameKind} (h : (relabel sc env).names.lookup x = some k) : (∃ k', sc.names.lookup x = some k' ∧ (k' = k ∨ (k' = .free ∧ k = .cell))) := by
  have key : ∀ l : List (Str × NameKind), List.lookup x (l.map fun (n, k) => if (k == .free && env.scope.kind == .function && env.kindOf n == some .cell) then (n, NameKind.cell) else (n, k)) = some k →
      ∃ k', l.lookup x = some k' ∧ (k' = k ∨ (k' = .free ∧ k = .cell)) := by
    intro l
    induction l with
    | nil => intro h; cases h
    | cons y l ih =>
      intro h
      obtain ⟨n, kk⟩ := y
      rw [List.map_cons] at h
      by_cases e : (x == n) = true
      · refine ⟨kk, by rw [List.lookup_cons, e], ?_⟩
        dsimp only at h
        split at h
        · rename_i hc
          rw [List.lookup_cons, e] at h
          have h' : NameKind.cell = k := Option.some.inj h
          exact .inr ⟨by simp only [Bool.and_eq_true, beq_iff_eq] at hc; exact hc.1.1, h'.symm⟩
        · rw [List.lookup_cons, e] at h
          exact .inl (Option.some.inj h)
      · have e' : (x == n) = false := by simpa using e
        obtain ⟨k', a, b⟩ := ih (by
          dsimp only at h
          split at h <;> (rw [List.lookup_cons, e'] at h; exact h))
        exact ⟨k', by rw [List.lookup_cons, e']; exact a, b⟩
  exact key sc.names h
/-- captured names: the j-th name behind the targets stands at caps[j] in the function -/
structure Caps (X : Cx) (sc : Scope) (N : List Str) (nt : Nat) (caps : List Nat) : Prop where
  kind : sc.kind = .function
  nocell : ∀ y ∈ sc.names, y.2 ≠ .cell
  fr : ∀ y ∈ sc.names, y.2 = .free → X.env.kindOf y.1 = some .cell ∨ X.env.kindOf y.1 = some .free
  len : N.length = nt + caps.length
  cap : ∀ (j i : Nat) (x : Str), caps[j]? = some i → N[nt + j]? = some x → X.N[i]? = some x ∧ sc.names.lookup x = some .free
theorem Caps.cells {sc : Scope} {N : List Str} {nt : Nat} {caps : List Nat} (c : Caps X sc N nt caps) (I : Inv X pins σ H s) : ∀ y ∈ sc.names, y.2 = .free → ∃ a, X.env.cells.lookup y.1 = some a :=
  fun y hy hf => I.ok.has y.1 (c.fr y hy hf)
theorem Caps.cl {sc : Scope} {N : List Str} {nt : Nat} {caps : List Nat} (c : Caps X sc N nt caps) (I : Inv X pins σ H s) {x : Str} {a : Addr} (h : (clOf sc X.env).lookup x = some a) : X.env.cells.lookup x = some a := by
  have hm := PySem.mem_of_lookup h
  obtain ⟨⟨k, hk, e1, e2⟩, e3⟩ := clOf_mem _ hm
  obtain ⟨b, hb⟩ := c.cells I k hk e2
  rw [e1] at hb
  dsimp only at e3 hb
  rw [hb] at e3
  rw [hb, e3]; rfl
def startC (nt : Nat) (caps : List Nat) (σ : St) : St := List.replicate nt none ++ caps.map fun i => (σ[i]?).getD none
theorem comp_start {sc : Scope} {N : List Str} {nt : Nat} {caps : List Nat} {fp : List Addr} {h' : Heap} {tk : Nat} (c : Caps X sc N nt caps) (I : Inv X pins σ H s) (hfp : ∀ b ∈ fp, FpOk X pins H b ∧ b < s.heap.objs.size)
    (hn : h'.Ns s.heap.objs.size fun _ => none) (hk : ∀ b o, s.heap.get? b = some o → h'.get? b = some o) :
    Inv (compX X N s H sc (clOf sc X.env) s.heap.objs.size fp pins) [] (startC nt caps σ) H { s with heap := h', toks := tk } := by
  have clX : ∀ {x : Str} {a : Addr}, (clOf sc X.env).lookup x = some a → X.env.cells.lookup x = some a := fun h => c.cl I h
  have stk : ∀ b, b ≠ X.env.locals → b ∉ X.fs → b ∉ frs X.stack := fun b h1 h2 h3 => (List.mem_cons.mp (I.stkSub b h3)).elim h1 h2
  refine ⟨⟨I.ok.mod, c.kind, I.ok.glob, I.ok.blt, Nat.le_refl _, fun x y a h1 h2 => I.ok.inj x y a (clX h1) (clX h2), fun x hx => ?_, fun x a hf => absurd (show false = true from hf) Bool.false_ne_true, I.ok.hd, I.ok.frames, .inl rfl, fun b hb => ⟨Nat.ne_of_lt (hfp b hb).2, fun x a ha => (hfp b hb).1.2.2.2.2.1 x a (clX ha)⟩,
    fun b o e => I.bs b o e, Nat.le_trans I.ok.bsz I.sz, fun b o e hb => ?_, fun b hb => stk b (hfp b hb).1.2.1 (hfp b hb).1.2.2.1, I.stack, I.stkFree⟩,
    rfl, I.bare, Un.kept hk, ⟨_, hn, fun i x v h1 h2 h3 => ?_⟩, fun x a ha => ?_, I.hok.fresh (Nat.le_refl _), fun x a ha => I.freeC x a (clX ha), fun p hp => ?_, I.hok.kept hk, ?_⟩
  · -- has
    have hx' : (relabel sc X.env).names.lookup x = some .cell ∨ (relabel sc X.env).names.lookup x = some .free := hx
    have : sc.names.lookup x = some .free := by
      rcases hx' with hx' | hx'
      · obtain ⟨k', h1, h2⟩ := relabel_lookup hx'
        rcases h2 with h2 | ⟨h2, _⟩
        · subst h2; exact (c.nocell _ (PySem.mem_of_lookup h1) rfl).elim
        · rw [h1, h2]
      · obtain ⟨k', h1, h2⟩ := relabel_lookup hx'
        rcases h2 with h2 | ⟨h2, e⟩
        · rw [h1, h2]
        · cases e
    exact clOf_has (PySem.mem_of_lookup this)
  · -- noex
    obtain ⟨_, _, _, h4, _⟩ := (hfp b hb).1
    rcases h4 with h4 | h4
    · exact I.ok.noex b o e h4
    · exact absurd (Nat.lt_of_lt_of_le (Heap.lt_size e) (Nat.le_trans I.ok.bsz h4)) (Nat.lt_irrefl _)
  · -- loc
    unfold startC at h2
    by_cases hi : i < (List.replicate nt (none : Option V)).length
    · rw [List.getElem?_append_left hi, List.getElem?_replicate] at h2
      split at h2 <;> cases h2
    · rw [List.getElem?_append_right (by omega), List.getElem?_map] at h2
      rw [List.length_replicate] at h2 hi
      cases e : caps[i - nt]? with
      | none => rw [e] at h2; cases h2
      | some k =>
        rw [e] at h2
        have h2' : (σ[k]?).getD none = some v := Option.some.inj h2
        have hs : σ[k]? = some (some v) := by
          cases e3 : σ[k]? with
          | none => rw [e3] at h2'; cases h2'
          | some z => rw [e3] at h2'; exact congrArg some h2'
        obtain ⟨hX, hl0⟩ := c.cap (i - nt) k x e (by rw [show nt + (i - nt) = i by omega]; exact h1)
        have hf : (x, NameKind.free) ∈ sc.names := PySem.mem_of_lookup hl0
        obtain ⟨m, _, hl⟩ := I.loc
        have hkind := c.fr _ hf rfl
        obtain ⟨u, r, l⟩ := hl k x v hX hs (by rcases hkind with q | q; exact .inr (.inl q); exact .inr (.inr q))
        refine ⟨u, r, .inr ⟨?_, ?_⟩⟩
        · have h3' : (relabel sc X.env).names.lookup x = some .local ∨ (relabel sc X.env).names.lookup x = some .cell ∨ (relabel sc X.env).names.lookup x = some .free := h3
          rcases h3' with q | q | q
          · obtain ⟨k', a1, a2⟩ := relabel_lookup q
            exfalso
            rw [hl0] at a1
            cases a1
            rcases a2 with a2 | ⟨_, a2⟩ <;> cases a2
          · exact .inl q
          · exact .inr q
        · obtain ⟨cc, hcc⟩ := clOf_has (env := X.env) hf
          refine ⟨cc, hcc, ?_⟩
          rcases l with ⟨q, _⟩ | ⟨_, c2, hc2, z⟩
          · rcases hkind with q' | q' <;> (rw [q] at q'; cases q')
          · rw [clX hcc] at hc2
            cases hc2
            obtain ⟨o, ho, hd⟩ := z
            exact ⟨o, hk _ _ ho, hd⟩
  · obtain ⟨v, o, ho, hd⟩ := I.cell x a (clX ha)
    exact ⟨v, o, hk _ _ ho, hd⟩
  · rw [List.append_nil] at hp
    obtain ⟨e, n, ne, nf, d⟩ := I.pin p hp
    exact ⟨hk _ _ e, n, Nat.ne_of_lt (Heap.lt_size e), stk _ ne nf, d⟩
  · unfold startC
    rw [List.length_append, List.length_replicate, List.length_map]
    exact c.len.symm
end
end Vl

set_option Elab.async false
set_option linter.all false
set_option maxRecDepth 100000
set_option maxHeartbeats 4000000
namespace Vl
open PySem PySem.Spec L2

/-! ### what is walked, by data -/
def Yl (K : PySem.W.Frag) (J : It) (ds : List D) (G : Hp) : Prop := ∀ (i : Nat) (G1 H1 : Hp), Same G G1 → Ext G1 H1 G1 H1 →
  (∀ d, ds[i]? = some d → J.go i H1 ∧ ∀ x H2, J.yld i H1 x H2 → ∃ G2, Ext G1 H1 G2 H2 ∧ Rep K G2 d x) ∧ (ds.length ≤ i → J.stop i H1)
def PostI (K : PySem.W.Frag) (W : Wi) (σ : St) (G H : Hp) (r : Rs (List D)) (R : It → Hp → Prop) : Prop :=
  match r with
  | .ok ds => ∀ J H' G', Ext G H G' H' → Yl K J ds G' → R J H'
  | .ex c n => ∀ H' G', Ext G H G' H' → W c n σ H'
  | .no => False
def tI (K : PySem.W.Frag) (B : Hp × Hp) (W : Wi) (f : Rho → Rs (List D)) : TI := fun σ H R => ∃ ρ G, SR K B σ H ρ G ∧ PostI K W σ G H (f ρ) R
def SI (X : Cx) (B : Hp × Hp) (W : Wi) (tg iter : Expr) (f : Rho → Rs (List D)) : Prop := PI X tg iter (tI X.K B W f)
def asL : D → Rs (List D)
  | .lst ds => .ok ds
  | _ => .no
def asT : D → Rs (List D)
  | .tup ds => .ok ds
  | _ => .no
def asR : D → Rs (List D)
  | .int n => if -(2 ^ 62) ≤ n ∧ n < 2 ^ 62 then .ok ((List.range n.toNat).map fun (i : Nat) => .int i) else .no
  | _ => .no
section
variable {X : Cx} {K : PySem.W.Frag} {B : Hp × Hp} {W : Wi} {σ : St} {G H : Hp} {ρ : Rho} {tg iter : Expr} {f : Rho → Rs D}
theorem PI.imp {t t' : TI} (h : PI X tg iter t) (i : ∀ σ H R, t' σ H R → t σ H R) : PI X tg iter t' := fun pins s σ H R I q => h pins s σ H R I (i σ H R q)
theorem yl_list {a : Addr} {ds : List D} {vs : List V} (q : SqL K G a vs) (r : Reps K G ds vs) (fn : ∀ H1 xs ys, SqL K H1 a xs → SqL K H1 a ys → xs = ys) : Yl K (Itl K a) ds G := by
  intro i G1 H1 gg e
  have q1 := e.gh.seq (gg.seq q)
  refine ⟨fun d hd => ?_, fun hl => ⟨vs, q1, by rw [← r.length]; exact hl⟩⟩
  obtain ⟨v, hv, rv⟩ := r.get hd
  refine ⟨⟨vs, v, q1, hv⟩, fun x H2 y => ?_⟩
  obtain ⟨e2, y⟩ := y
  subst e2
  have := y vs q1
  rw [hv] at this
  cases this
  exact ⟨G1, e, rv.mono gg⟩
theorem yl_tup {a : Addr} {ds : List D} {vs : List V} (q : SqT K G a vs) (r : Reps K G ds vs) : Yl K (Itt K a) ds G := by
  intro i G1 H1 gg e
  have q1 := Same.seqT e.gh (Same.seqT gg q)
  refine ⟨fun d hd => ?_, fun hl => ⟨vs, q1, by rw [← r.length]; exact hl⟩⟩
  obtain ⟨v, hv, rv⟩ := r.get hd
  refine ⟨⟨vs, v, q1, hv⟩, fun x H2 y => ?_⟩
  obtain ⟨e2, y⟩ := y
  subst e2
  have := y vs q1
  rw [hv] at this
  cases this
  exact ⟨G1, e, rv.mono gg⟩
theorem yl_range {lo : Int} {n : Nat} : Yl K (Itr lo n) ((List.range n).map fun (i : Nat) => .int (lo + i)) G := by
  intro i G1 H1 gg e
  refine ⟨fun d hd => ?_, fun hl => show n ≤ i by simpa using hl⟩
  have hi : i < n := by have := (List.getElem?_eq_some_iff.mp hd).1; simpa using this
  refine ⟨hi, fun x H2 y => ?_⟩
  obtain ⟨e2, y⟩ := y
  subst e2 y
  rw [List.getElem?_map, List.getElem?_range hi] at hd
  cases hd
  exact ⟨G1, e, rep_int.mpr rfl⟩
theorem post_as {as : D → Rs (List D)} {r : Rs D} {R : It → Hp → Prop} {Q : VK} (p : PostI K W σ G H (r.bind as) R) (h : ∀ d v H' G' ds, as d = .ok ds → Ext G H G' H' → Rep K G' d v → (∀ J H'' G'', Ext G' H' G'' H'' → Yl K J ds G'' → R J H'') → Q v H') (hn : ∀ d c n, as d ≠ .ex c n) : Post K W σ G H r Q := by
  cases r with
  | ok d =>
    intro v H' G' e rv
    have p' : PostI K W σ G H (as d) R := p
    cases e1 : as d with
    | ok ds => rw [e1] at p'; exact h d v H' G' ds e1 e rv fun J H'' G'' e' y => p' J H'' G'' (e.trans e') y
    | ex c n => exact (hn d c n e1).elim
    | no => rw [e1] at p'; exact p'.elim
  | ex c n => exact p
  | no => exact p
theorem si_list (hi : SE X B W iter f) : SI X B W tg iter (fun ρ => (f ρ).bind asL) := by
  refine PI.imp (pi_list hi) fun σ H R ⟨ρ, G, s, p⟩ => ⟨ρ, G, s, post_as p (fun d v H' G' ds e1 e rv k => ?_) (fun d c n z => by cases d <;> cases z)⟩
  cases d with
  | lst es =>
    cases e1
    obtain ⟨a, vs, rfl, q, rr⟩ := rep_lst.mp rv
    refine ⟨a, rfl, ⟨vs, e.gh.seq q⟩, k _ H' G' (.refl e.gh e.tp) ?_⟩
    intro i G1 H1 gg e'
    have q1 := e'.gh.seq (gg.seq q)
    refine ⟨fun d hd => ?_, fun hl => ⟨vs, q1, by rw [← rr.length]; exact hl⟩⟩
    obtain ⟨v, hv, rv⟩ := rr.get hd
    refine ⟨⟨vs, v, q1, hv⟩, fun x H2 y => ?_⟩
    obtain ⟨e2, y⟩ := y
    subst e2
    have := y vs q1
    rw [hv] at this
    cases this
    exact ⟨G1, e', rv.mono gg⟩
  | _ => cases e1
theorem si_tup (hi : SE X B W iter f) : SI X B W tg iter (fun ρ => (f ρ).bind asT) := by
  refine PI.imp (pi_tup hi) fun σ H R ⟨ρ, G, s, p⟩ => ⟨ρ, G, s, post_as p (fun d v H' G' ds e1 e rv k => ?_) (fun d c n z => by cases d <;> cases z)⟩
  cases d with
  | tup es =>
    cases e1
    obtain ⟨a, vs, rfl, q, rr⟩ := rep_tup.mp rv
    exact ⟨a, rfl, ⟨vs, Same.seqT e.gh q⟩, k _ H' G' (.refl e.gh e.tp) (yl_tup q rr)⟩
  | _ => cases e1
theorem si_range {e : Expr} {p1 p2 : Pos} (hm : X.mg "range" = none) (hi : SE X B W e f) (hgl : Gl X "range" := by rfl) (hst : starEach [e] X.env = [(false, eval e X.env)] := by rfl) : SI X B W tg (.Call (.Name "range" p1) [e] [] p2) (fun ρ => (f ρ).bind asR) := by
  refine PI.imp (pi_range1 hgl hm (pa_cons hi pa_nil (by rw [hst]; rfl)) hst) fun σ H R ⟨ρ, G, s, p⟩ => ⟨ρ, G, s, post_as p (fun d v H' G' ds e1 e rv k => ?_) (fun d c n z => by cases d <;> first | cases z | (simp only [asR] at z; split at z <;> cases z))⟩
  cases d with
  | int n =>
    simp only [asR] at e1
    by_cases c : -(2 ^ 62) ≤ n ∧ n < 2 ^ 62
    · rw [if_pos c] at e1
      cases e1
      refine ⟨n, by rw [rep_int.mp rv], c.1, c.2, k _ H' G' (.refl e.gh e.tp) ?_⟩
      have := yl_range (K := X.K) (G := G') (lo := 0) (n := n.toNat)
      simpa using this
    · rw [if_neg c] at e1; cases e1
  | _ => cases e1

/-! ### the comprehension -/
def NoOw (ρ : Rho) : Prop := ∀ (i : Nat) (ds : List D), ρ[i]? ≠ some (.ow ds)
def KeepNo (h : Tg) : Prop := ∀ d ρ ρ', NoOw ρ → h d ρ = some ρ' → NoOw ρ'
def startCR (nt : Nat) (caps : List Nat) (ρ : Rho) : Rho := List.replicate nt .no ++ caps.map fun i => match ρ[i]? with | some (.fz d) => .fz d | _ => .no
def compD (h : Tg) (ft : Rho → Rs Bool) (fe : Rho → Rs D) : List D → Rho → Rs (List D)
  | [], _ => .ok []
  | d :: ds, ρ => match h d ρ with
    | none => .no
    | some ρ1 => (ft ρ1).bind fun b => if b = true then (fe ρ1).bind fun y => (compD h ft fe ds ρ1).bind fun ys => .ok (y :: ys) else compD h ft fe ds ρ1
theorem noOw_start {nt : Nat} {caps : List Nat} {ρ : Rho} : NoOw (startCR nt caps ρ) := fun i ds q => by
  unfold startCR at q
  by_cases hi : i < (List.replicate nt Sl.no).length
  · rw [List.getElem?_append_left hi, List.getElem?_replicate] at q
    split at q <;> cases q
  · rw [List.getElem?_append_right (by omega), List.getElem?_map] at q
    cases e : caps[i - (List.replicate nt Sl.no).length]? with
    | none => rw [e] at q; cases q
    | some k =>
      rw [e] at q
      have q' : (match ρ[k]? with | some (.fz d) => Sl.fz d | _ => .no) = .ow ds := Option.some.inj q
      split at q' <;> cases q'
theorem sr_comp {nt : Nat} {caps : List Nat} {p : Addr} (s : SR K B σ H ρ G) (hp : H p = none) : SR K (G, H) (startC nt caps σ) (upd H p (.lst [])) (startCR nt caps ρ) G := by
  refine ⟨ext_own s.en.gh s.en.tp hp, by simp [startC, startCR], fun i d q => ?_, fun i ds q => (noOw_start i ds q).elim, fun i j ds es a q => (noOw_start i ds q).elim⟩
  unfold startCR at q
  unfold startC
  by_cases hi : i < nt
  · rw [List.getElem?_append_left (by simpa using hi), List.getElem?_replicate] at q
    split at q <;> cases q
  · rw [List.getElem?_append_right (by simpa using hi), List.getElem?_map, List.length_replicate] at q
    rw [List.getElem?_append_right (by simpa using hi), List.getElem?_map, List.length_replicate]
    cases e : caps[i - nt]? with
    | none => rw [e] at q; cases q
    | some k =>
      rw [e] at q
      have q' : (match ρ[k]? with | some (.fz d) => Sl.fz d | _ => .no) = .fz d := Option.some.inj q
      cases e2 : ρ[k]? with
      | none => rw [e2] at q'; cases q'
      | some z =>
        rw [e2] at q'
        cases z with
        | fz d' =>
          cases q'
          obtain ⟨v, h1, h2⟩ := s.fz k _ e2
          exact ⟨v, by simp [h1], h2⟩
        | no => cases q'
        | ow _ => cases q'
theorem SR.off {p : Addr} {vs us : List V} (s : SR K B σ H ρ G) (hn : NoOw ρ) (hp : H p = some (.lst vs)) (g : G p = none) (b : B.2 p = none) : SR K B σ (upd H p (.lst us)) ρ G := by
  refine ⟨⟨s.en.gg, fun c o z => ?_, fun c o z => ?_, fun c xs z => ?_, s.en.nw⟩, s.len, s.fz, fun i ds q => (hn i ds q).elim, fun i j ds es a q => (hn i ds q).elim⟩
  · rw [upd_ne (ne_of_none z b)]; exact s.en.hh c o z
  · rw [upd_ne (ne_of_none z g)]; exact s.en.gh c o z
  · by_cases w : c = p
    · subst w; rw [upd_same] at z; cases z
    · rw [upd_ne w] at z; exact s.en.tp c xs z

def gComp (h : Tg) (ft : Rho → Rs Bool) (fe : Rho → Rs D) (nt : Nat) (caps : List Nat) (f : Rho → Rs (List D)) : Rho → Rs D := fun ρ =>
  (f ρ).bind fun ds => noExR ((compD h ft fe ds (startCR nt caps ρ)).bind fun ys => if ys.length ≤ 1000000 then .ok (.lst ys) else .no)
theorem wp_tests_nil {prog : Program} {w : World} {A : Around} {E : Value → Shared → Prop} {s : Shared} {env : Env} {Q : Bool → Shared → Prop} (h : Q true s) :
    wpAny (model prog w) A (forIn ([] : List Expr) true fun c r => if r = true then do let ok ← isTrue c env (eval c env); pure (ForInStep.yield ok) else pure (ForInStep.yield r)) Q E s := by
  simp only [List.forIn_nil]
  exact wpAny_pure h
set_option maxHeartbeats 8000000 in
theorem se_comp {elt : Expr} {ifs : List Expr} {sc : Scope} {pos : Pos} {N : List Str} {nt : Nat} {caps : List Nat} {h : Tg} {ft : Rho → Rs Bool} {fe : Rho → Rs D} {fi : Rho → Rs (List D)}
    (c : Caps X sc N nt caps) (hc : X.calm = true) (hnames : ∀ y ∈ sc.names, y.2 = .local → sc.names.lookup y.1 = some .local) (hi : SI X B W tg iter fi) (hno : KeepNo h)
    (ht : ∀ s₀ H₀ C ex pins B', SG (compX X N s₀ H₀ sc (clOf sc X.env) C ex pins) B' tg h)
    (hif : (ifs = [] ∧ ft = fun _ => .ok true) ∨ ∃ c, ifs = [c] ∧ ∀ s₀ H₀ C ex pins B', ST (compX X N s₀ H₀ sc (clOf sc X.env) C ex pins) B' WF c ft)
    (he : ∀ s₀ H₀ C ex pins B', SE (compX X N s₀ H₀ sc (clOf sc X.env) C ex pins) B' WF elt fe)
    (hs : ∀ x, foldedSetIterable iter X.env x = pure x := by intro _; rfl) :
    SE X B W (.ListComp elt [⟨tg, iter, ifs, 0⟩] sc pos) (gComp h ft fe nt caps fi) := by
  intro pins s σ H Q I hw
  obtain ⟨ρ, G, sr, p⟩ := hw
  rw [eval_ListComp]
  refine wpAny_comprehension_free (use := none) (cl := clOf sc X.env) rfl hs (closureFor_clOf (c.cells I)) c.kind hnames ?_
  show wpAny (model X.prog X.w) X.A (eval iter X.env) _ X.xe s
  refine wpAny_mono (hi pins s σ H (fun J H2 => ∃ G2 ds, Ext G H G2 H2 ∧ Yl X.K J ds G2 ∧ Post X.K W σ G H (noExR ((compD h ft fe ds (startCR nt caps ρ)).bind fun ys => if ys.length ≤ 1000000 then .ok (.lst ys) else .no)) Q) I ⟨ρ, G, sr, ?_⟩) (fun v s1 h1 => wpAny_mono h1 (fun itv s2 h2 => ?_) fun _ _ z => z) fun _ _ z => z
  · unfold gComp at p
    cases e : fi ρ with
    | ok ds => rw [e] at p; exact fun J H' G' x y => ⟨G', ds, x, y, p⟩
    | ex c n => rw [e] at p; exact p
    | no => rw [e] at p; exact p
  obtain ⟨it, fp, tn, J, H2, e, I2, T, st2, f2, G2, ds, x2, yl, p2⟩ := h2
  subst e
  -- what comes out
  obtain ⟨YS, hYS, hlen, hQ⟩ : ∃ YS, compD h ft fe ds (startCR nt caps ρ) = .ok YS ∧ YS.length ≤ 1000000 ∧ ∀ v H' G', Ext G H G' H' → Rep X.K G' (.lst YS) v → Q v H' := by
    cases e : compD h ft fe ds (startCR nt caps ρ) with
    | ok YS =>
      rw [e] at p2
      by_cases hl : YS.length ≤ 1000000
      · refine ⟨YS, rfl, hl, ?_⟩
        have p3 : Post X.K W σ G H (noExR (if YS.length ≤ 1000000 then .ok (.lst YS) else .no)) Q := p2
        rw [if_pos hl] at p3
        exact p3
      · have p3 : Post X.K W σ G H (noExR (if YS.length ≤ 1000000 then .ok (.lst YS) else .no)) Q := p2
        rw [if_neg hl] at p3
        exact p3.elim
    | ex c n => rw [e] at p2; exact p2.elim
    | no => rw [e] at p2; exact p2.elim
  refine wpAny_newObj_type (wpAny_newFunctionEnv c.nocell (by intro y hy; simp at hy) (fun h₁ hns₁ hsb₁ => ?_) c.kind)
  have hD2 : H2 s2.heap.objs.size = none := I2.fresh
  have I3 := I2.lnew (ys := []) (its := []) (t' := s2.toks) .nil (by simp)
  have sr2 : SR X.K B σ H2 ρ G2 := sr.ext x2
  have fpl : ∀ b ∈ fp, b < s2.heap.objs.size := fun b hb => by
    obtain ⟨o, ho, _⟩ := T.obj 0 _ st2 b hb
    exact Heap.lt_size ho
  have hk : ∀ b o, (s2.heap.push { cls := .type "list", data := .seq ([] : List Value).toArray }).get? b = some o → h₁.get? b = some o := fun b o z =>
    (hsb₁.2 b (Nat.ne_of_lt (Heap.lt_size z))).trans (Heap.get?_push_of_some _ z)
  have fpok : ∀ b ∈ fp, FpOk X pins (upd H2 s2.heap.objs.size (.lst [])) b ∧ b < (s2.heap.push { cls := .type "list", data := .seq ([] : List Value).toArray }).objs.size := fun b hb => by
    obtain ⟨g1, g2⟩ := f2 b hb
    refine ⟨⟨?_, g2⟩, ?_⟩
    · rw [upd_ne (Nat.ne_of_lt (fpl b hb))]; exact g1
    · rw [Heap.size_push]; exact Nat.lt_succ_of_lt (fpl b hb)
  have IY := comp_start (h' := h₁) (tk := s2.toks + ([] : List (Str × Value)).length) c I3 fpok hns₁ hk
  generalize hC : (s2.heap.push { cls := .type "list", data := .seq ([] : List Value).toArray }).objs.size = C at *
  have srY := sr_comp (nt := nt) (caps := caps) sr2 hD2
  have stk : ∀ b, b ≠ X.env.locals → b ∉ X.fs → b ∉ frs X.stack := fun b h1 h2 h3 => (List.mem_cons.mp (I2.stkSub b h3)).elim h1 h2
  have hCl : s2.heap.objs.size + 1 = C := by rw [← hC, Heap.size_push]
  have stat : ∀ {H' : Hp}, (∀ b ∈ fp, H' b = none) → ∀ b ∈ fp, FpOk (compX X N { s2 with heap := s2.heap.push { cls := .type "list", data := .seq ([] : List Value).toArray }, toks := s2.toks } (upd H2 s2.heap.objs.size (.lst [])) sc (clOf sc X.env) C fp pins) [] H' b := fun {H'} hn b hb => by
    obtain ⟨_, g2, g3, g4, g5, g6⟩ := f2 b hb
    refine ⟨hn b hb, ?_, stk b g2 g3, .inl hb, fun x a ha => g5 x a (c.cl I2 ha), fun p hp => ?_⟩
    · show b ≠ C
      exact Nat.ne_of_lt (hCl ▸ Nat.lt_succ_of_lt (fpl b hb))
    · rw [List.append_nil] at hp; exact g6 p hp
  let Y := compX X N { s2 with heap := s2.heap.push { cls := .type "list", data := .seq ([] : List Value).toArray }, toks := s2.toks } (upd H2 s2.heap.objs.size (.lst [])) sc (clOf sc X.env) C fp pins
  let D' := s2.heap.objs.size
  let Jn : Nat → Shared → Prop := fun n s4 => ∃ (i : Nat) (ρ' : Rho) (σ' : St) (H' G' : Hp) (yds : List D) (yvs : List V) (rest : List D), Inv Y [] σ' H' s4 ∧ tn i s4.heap ∧ (∀ b ∈ fp, H' b = none) ∧ SR X.K (G2, H2) σ' H' ρ' G' ∧ NoOw ρ' ∧ H' D' = some (.lst yvs) ∧ G' D' = none ∧
    Reps X.K G' yds yvs ∧ i ≤ ds.length ∧ n = ds.length - i ∧ compD h ft fe (ds.drop i) ρ' = .ok rest ∧ yds ++ rest = YS
  have loop : ∀ (n : Nat) (s4 : Shared), Jn n s4 → codeAny (model X.prog X.w) X.A (.compLoop (.ListComp elt [⟨tg, iter, ifs, 0⟩] sc pos) 0 (.ref it) (.ref D') Y.env) (compPost (model X.prog X.w) X.A X.xe none (EP X pins σ Q) (.ref D') C) s4 := by
    intro n0 s40 h0
    refine compLoop_gen (J := Jn) ?_ n0 h0
    rintro n s4 ⟨i, ρ', σ', H', G', yds, yvs, rest, I4, st4, fr4, sr4, no4, hD4, hG4, ry4, hi4, rfl, hcd, hY⟩
    by_cases hlt : i < ds.length
    · obtain ⟨yes, _⟩ := yl i G' H' sr4.en.gg sr4.ext0
      obtain ⟨go, yields⟩ := yes ds[i] (by simp [hlt])
      rw [List.drop_eq_getElem_cons hlt] at hcd
      unfold compD at hcd
      cases eh : h ds[i] ρ' with
      | none => rw [eh] at hcd; cases hcd
      | some ρ1 =>
        rw [eh] at hcd
        dsimp only at hcd
        refine thn (T.item Y rfl rfl rfl hc i [] s4 σ' H' (fun _ _ => False) I4 (stat fr4) st4 go) fun r s5 ⟨u, hr, h5⟩ => ?_
        subst hr
        refine thn h5 fun _ s6 ⟨x, H6, I6, r6, y6, st6, fr6⟩ => ?_
        obtain ⟨G6, e6, rep6⟩ := yields x H6 y6
        have sr6 := sr4.ext e6
        have I6' := I6.pinned (stat fr6) (T.obj _ _ st6)
        refine thn (ht _ _ _ _ _ (G2, H2) _ s6 σ' H6 x u (fun σ7 H7 => H7 = H6 ∧ SR X.K (G2, H2) σ7 H6 ρ1 G6) I6' r6 ⟨ρ', G6, ds[i], sr6, rep6, ρ1, eh, fun σ7 z => ⟨rfl, z⟩⟩) fun _ s7 ⟨σ7, H7, I7, eH7, sr7⟩ => ?_
        subst eH7
        have no7 := hno _ _ _ no4 eh
        -- the iterator stands
        have again : ∀ {σ8 : St} {H8 : Hp} {s8 : Shared}, Inv Y ([] ++ pinsAt fp s6.heap) σ8 H8 s8 → Inv Y [] σ8 H8 s8 ∧ tn (i + 1) s8.heap ∧ ∀ b ∈ fp, H8 b = none := fun {σ8 H8 s8} I8 => by
          refine ⟨I8.unpinned, T.keep _ _ _ st6 fun b hb o e => (I8.pin (b, o) (List.mem_append_right _ (List.mem_append_right _ (mem_pinsAt hb e)))).1, fun b hb => ?_⟩
          obtain ⟨o, e, d⟩ := T.obj _ _ st6 b hb
          exact (I8.pin (b, o) (List.mem_append_right _ (List.mem_append_right _ (mem_pinsAt hb e)))).2.1
        obtain ⟨b, hb, hcd⟩ : ∃ b, ft ρ1 = .ok b ∧ (if b = true then (fe ρ1).bind fun y => (compD h ft fe (ds.drop (i + 1)) ρ1).bind fun ys => .ok (y :: ys) else compD h ft fe (ds.drop (i + 1)) ρ1) = .ok rest := by
          cases e : ft ρ1 with
          | ok b => rw [e] at hcd; exact ⟨b, rfl, hcd⟩
          | ex c n => rw [e] at hcd; cases hcd
          | no => rw [e] at hcd; cases hcd
        have test : wpAny (model X.prog X.w) X.A (forIn ifs true fun c r => if r = true then do let ok ← isTrue c Y.env (eval c Y.env); pure (ForInStep.yield ok) else pure (ForInStep.yield r)) (TP Y ([] ++ pinsAt fp s6.heap) σ7 fun b' H8 => b' = b ∧ ∃ G8, Ext G6 H7 G8 H8) (fun _ _ => False) s7 := by
          rcases hif with ⟨e1, e2⟩ | ⟨cc, e1, hst⟩
          · subst e1 e2
            cases hb
            exact wp_tests_nil ⟨H7, I7, rfl, G6, sr7.ext0⟩
          · subst e1
            refine wpAny_tests_one (hst _ _ _ _ _ (G2, H2) _ s7 σ7 H7 _ I7 ⟨ρ1, G6, sr7, ?_⟩)
            rw [hb]
            exact fun H8 G8 e8 => ⟨rfl, G8, e8⟩
        refine thn test fun ok s8 ⟨H8, I8, eb, G8, e8⟩ => ?_
        subst eb
        have sr8 := sr7.ext e8
        have hD8 : H8 D' = some (.lst yvs) := e8.hh _ _ (e6.hh _ _ hD4)
        have hG8 : G8 D' = none := e8.nw _ _ (e6.hh _ _ hD4) (e6.nw _ _ hD4 hG4)
        have ry8 := (ry4.mono e6.gg).mono e8.gg
        cases ok with
        | true =>
          rw [if_pos rfl] at hcd ⊢
          obtain ⟨y, ys, hy, hys, hr⟩ : ∃ y ys, fe ρ1 = .ok y ∧ compD h ft fe (ds.drop (i + 1)) ρ1 = .ok ys ∧ rest = y :: ys := by
            cases e : fe ρ1 with
            | ok y =>
              rw [e] at hcd
              have hcd' : ((compD h ft fe (ds.drop (i + 1)) ρ1).bind fun ys => Rs.ok (y :: ys)) = .ok rest := hcd
              cases e3 : compD h ft fe (ds.drop (i + 1)) ρ1 with
              | ok ys => rw [e3] at hcd'; cases hcd'; exact ⟨y, ys, rfl, rfl, rfl⟩
              | ex c n => rw [e3] at hcd'; cases hcd'
              | no => rw [e3] at hcd'; cases hcd'
            | ex c n => rw [e] at hcd; cases hcd
            | no => rw [e] at hcd; cases hcd
          subst hr
          refine thn (he _ _ _ _ _ (G2, H2) _ s8 σ7 H8 (fun v H9 => ∃ G9, Ext G8 H8 G9 H9 ∧ Rep X.K G9 y v) I8 ⟨ρ1, G8, sr8, ?_⟩) fun u9 s9 ⟨v9, H9, I9, r9, G9, e9, rep9⟩ => ?_
          · rw [hy]; exact fun v H9 G9 e9 r => ⟨G9, e9, r⟩
          have hD9 := e9.hh _ _ hD8
          have hG9 := e9.nw _ _ hD8 hG8
          have ryl := ry8.length
          have hYl : yds.length < 1000000 := by
            have := congrArg List.length hY
            rw [List.length_append, List.length_cons] at this
            omega
          refine thn (mt_append (X := Y) _ s9 σ7 H9 (.ref D') [v9] (.ref D') [u9] (fun _ H10 => H10 = upd H9 D' (.lst (yvs ++ [v9]))) I9 rfl (.cons r9 .nil) ⟨D', yvs, v9, rfl, rfl, hD9, by rw [← ryl]; exact Nat.lt_of_lt_of_le hYl (by rw [sizeLine_eq]; decide), rfl⟩) fun _ s10 ⟨_, H10, I10, _, e10⟩ => ?_
          subst e10
          obtain ⟨J1, J2, J3⟩ := again I10
          refine ⟨ds.length - (i + 1), by omega, i + 1, ρ1, σ7, _, G9, yds ++ [y], yvs ++ [v9], ys, J1, J2, J3, (sr8.ext e9).off no7 hD9 hG9 hD2, no7, upd_same, hG9, (ry8.mono e9.gg).append (.one rep9), hlt, rfl, hys, by rw [List.append_assoc]; exact hY⟩
        | false =>
          rw [if_neg (by simp)] at hcd ⊢
          obtain ⟨J1, J2, J3⟩ := again I8
          exact ⟨ds.length - (i + 1), by omega, i + 1, ρ1, σ7, H8, G8, yds, yvs, rest, J1, J2, J3, sr8, no7, hD8, hG8, ry8, hlt, rfl, hcd, hY⟩
    · have ei : i = ds.length := by omega
      subst ei
      obtain ⟨_, no⟩ := yl ds.length G' H' sr4.en.gg sr4.ext0
      rw [List.drop_length] at hcd
      cases hcd
      rw [List.append_nil] at hY
      subst hY
      refine thn (T.done Y rfl rfl rfl hc ds.length [] s4 σ' H' (fun _ _ => False) I4 (stat fr4) st4 (no (Nat.le_refl _))) fun r s5 ⟨hr, I5⟩ => ?_
      subst hr
      obtain ⟨m, hm, _⟩ := I5.loc
      refine ⟨m, hm, fun h' hs' => ?_⟩
      have ne : ∀ b o, (s2.heap.push { cls := .type "list", data := .seq ([] : List Value).toArray }).get? b = some o → b ≠ C := fun b o e z => by
        have := Heap.lt_size e
        rw [hC, z] at this
        exact Nat.lt_irrefl _ this
      have U := I5.base
      have IX : Inv X pins σ H' { s5 with heap := h' } := by
        refine I3.call' (ch := fp) (s' := { s5 with heap := h' }) I5.os ⟨fun b o e n hb hx => ?_, fun b o e n hb hx => ?_, U.free, fun b o e hx => ?_, U.tups, U.frzs, U.tbls⟩ (fun b o e => ?_) I5.bare fun b hb => ?_
        · exact (hs'.2 b (ne b o e)).trans (U.keep b o e n hb hx)
        · obtain ⟨sl, q⟩ := U.slot b o e n hb hx
          exact ⟨sl, (hs'.2 b (ne b o e)).trans q⟩
        · obtain ⟨o', q⟩ := U.there b o e hx
          exact ⟨o', (hs'.2 b (ne b o e)).trans q⟩
        · have fC : H' C = none := I5.free
          refine (I5.hok b o e).stay (fun c' u' hc' q => (hs'.2 c' ?_).trans q) (fun _ q => q) fun _ _ q => q
          rintro rfl
          rcases hc' with rfl | hc'
          · rw [fC] at e; cases e
          · rw [fC] at hc'; cases hc'
        · obtain ⟨_, g2, _, g4, g5, g6⟩ := f2 b hb
          exact ⟨g4, g2, g5, g6⟩
      refine ⟨.ref D', H', IX, rfl, hQ (.ref D') H' (upd G' D' (.lst yvs)) ?_ ?_⟩
      · have gg : Same G' (upd G' D' (.lst yvs)) := fun b o z => by rw [upd_ne (ne_of_none z hG4)]; exact z
        refine ⟨(x2.gg.trans sr4.en.gg).trans gg, x2.hh.trans sr4.en.hh, fun b o z => ?_, fun b xs z => ?_, fun b o z w => ?_⟩
        · by_cases e : b = D'
          · subst e; rw [upd_same] at z; cases z; exact hD4
          · rw [upd_ne e] at z; exact sr4.en.gh b o z
        · by_cases e : b = D'
          · subst e; rw [hD4] at z; cases z
          · rw [upd_ne e]; exact sr4.en.tp b xs z
        · have z2 := x2.hh b o z
          rw [upd_ne (ne_of_none z2 hD2)]
          exact sr4.en.nw b o z2 (x2.nw b o z w)
      · have gg : Same G' (upd G' D' (.lst yvs)) := fun b o z => by rw [upd_ne (ne_of_none z hG4)]; exact z
        exact rep_lst.mpr ⟨D', yvs, rfl, .of upd_same, ry4.mono gg⟩
  have first : ∀ tk, Jn ds.length { s2 with heap := h₁, toks := tk } := fun tk => by
    have IY' : Inv Y [] (startC nt caps σ) (upd H2 s2.heap.objs.size (.lst [])) { s2 with heap := h₁, toks := tk } := IY.tok tk
    refine ⟨0, startCR nt caps ρ, startC nt caps σ, upd H2 D' (.lst []), G2, [], [], YS, IY', T.keep _ _ _ st2 fun b hb o e => hk b o (Heap.get?_push_of_some _ e), fun b hb => (fpok b hb).1.1, srY, noOw_start, upd_same, sr2.en.gh.free hD2, reps_nil.mpr rfl, Nat.zero_le _, rfl, by simpa using hYS, rfl⟩
  exact codeAny_compStart_list (loop _ _ (first _)) (T.self _ 0 _ _ _ (T.keep _ _ _ st2 fun b hb o e => hk b o (Heap.get?_push_of_some _ e)) (loop _ _ (first _)))
end
end Vl

set_option Elab.async false
set_option linter.all false
set_option maxRecDepth 100000
set_option maxHeartbeats 4000000
namespace Vl
open PySem PySem.Spec L2

section
variable {X : Cx} {K : PySem.W.Frag} {B : Hp × Hp} {W : Wi} {σ : St} {G H : Hp} {ρ : Rho} {a b : Expr} {pos p : Pos} {fa fb : Rho → Rs D}
/-! ### comparisons -/
def rEqD (K : PySem.W.Frag) (n : Nat) : R2 := fun x y H Q => ∃ d d', Rep K H d x ∧ Rep K H d' y ∧ dep d ≤ n ∧ dep d' ≤ n ∧ Q (.bl (eqD d d')) H
def rNeD (K : PySem.W.Frag) (n : Nat) : R2 := fun x y H Q => ∃ d d', Rep K H d x ∧ Rep K H d' y ∧ dep d ≤ n ∧ dep d' ≤ n ∧ Q (.bl (!eqD d d')) H
theorem op_eqD {n : Nat} (hu : X.A.units + n < cLine) : OpR X (compareOp .Eq) (rEqD X.K n) := by
  intro pins s σ H x y v u Q I rx ry ⟨d, d', r, r', hd, hd', q⟩
  exact rcD_at I hd hd' hu r r' rx ry X.prog X.w X.xe _ ⟨.bl _, H, I, rfl, q⟩
theorem op_neD {n : Nat} (hu : X.A.units + n < cLine) : OpR X (compareOp .NotEq) (rNeD X.K n) := by
  intro pins s σ H x y v u Q I rx ry ⟨d, d', r, r', hd, hd', q⟩
  exact rcneD_at I hd hd' hu r r' rx ry X.prog X.w X.xe _ ⟨.bl _, H, I, rfl, q⟩
def gEq : D → D → Rs D := fun x y => if dep x ≤ 8 ∧ dep y ≤ 8 then .ok (.bl (eqD x y)) else .no
def gNe : D → D → Rs D := fun x y => if dep x ≤ 8 ∧ dep y ≤ 8 then .ok (.bl (!eqD x y)) else .no
theorem opd_eq : OpD K (rEqD K 8) gEq := by
  intro B W σ ρ G H x y v u Q s rx ry p
  unfold gEq at p
  by_cases h : dep x ≤ 8 ∧ dep y ≤ 8
  · rw [if_pos h] at p; exact ⟨x, y, rx.mono s.en.gh, ry.mono s.en.gh, h.1, h.2, Post.ok s p (rep_bl.mpr rfl)⟩
  · rw [if_neg h] at p; exact p.elim
theorem opd_ne : OpD K (rNeD K 8) gNe := by
  intro B W σ ρ G H x y v u Q s rx ry p
  unfold gNe at p
  by_cases h : dep x ≤ 8 ∧ dep y ≤ 8
  · rw [if_pos h] at p; exact ⟨x, y, rx.mono s.en.gh, ry.mono s.en.gh, h.1, h.2, Post.ok s p (rep_bl.mpr rfl)⟩
  · rw [if_neg h] at p; exact p.elim
theorem room8 {k : Nat} (hr : Room k X.A) : X.A.units + 8 < cLine := by have := hr.un; omega
theorem se_eq (hu : X.A.units + 8 < cLine) (ha : SE X B W a fa) (hb : SE X B W b fb) : SE X B W (.Compare a [.Eq] [b] pos) (fOp gEq fa fb) := se_cmp (op_eqD hu) opd_eq ha hb (nomark _)
theorem se_ne (hu : X.A.units + 8 < cLine) (ha : SE X B W a fa) (hb : SE X B W b fb) : SE X B W (.Compare a [.NotEq] [b] pos) (fOp gNe fa fb) := se_cmp (op_neD hu) opd_ne ha hb (nomark _)
theorem st_eq (hu : X.A.units + 8 < cLine) (ha : SE X B W a fa) (hb : SE X B W b fb) : ST X B W (.Compare a [.Eq] [b] pos) (fT (fOp gEq fa fb)) := st_cmp (op_eqD hu) opd_eq ha hb (nomark _)
theorem st_ne (hu : X.A.units + 8 < cLine) (ha : SE X B W a fa) (hb : SE X B W b fb) : ST X B W (.Compare a [.NotEq] [b] pos) (fT (fOp gNe fa fb)) := st_cmp (op_neD hu) opd_ne ha hb (nomark _)
def gLt := gI0 fun i j => D.bl (decide (i < j))
def gLe := gI0 fun i j => D.bl (decide (i ≤ j))
def gGt := gI0 fun i j => D.bl (decide (j < i))
def gGe := gI0 fun i j => D.bl (decide (j ≤ i))
theorem se_lt (ha : SE X B W a fa) (hb : SE X B W b fb) : SE X B W (.Compare a [.Lt] [b] pos) (fOp gLt fa fb) := se_cmp op_lt (opd_I0 fun _ _ _ => rep_bl.mpr rfl) ha hb (nomark _)
theorem se_le (ha : SE X B W a fa) (hb : SE X B W b fb) : SE X B W (.Compare a [.LtE] [b] pos) (fOp gLe fa fb) := se_cmp op_le (opd_I0 fun _ _ _ => rep_bl.mpr rfl) ha hb (nomark _)
theorem se_gt (ha : SE X B W a fa) (hb : SE X B W b fb) : SE X B W (.Compare a [.Gt] [b] pos) (fOp gGt fa fb) := se_cmp op_gt (opd_I0 fun _ _ _ => rep_bl.mpr rfl) ha hb (nomark _)
theorem se_ge (ha : SE X B W a fa) (hb : SE X B W b fb) : SE X B W (.Compare a [.GtE] [b] pos) (fOp gGe fa fb) := se_cmp op_ge (opd_I0 fun _ _ _ => rep_bl.mpr rfl) ha hb (nomark _)
theorem st_lt (ha : SE X B W a fa) (hb : SE X B W b fb) : ST X B W (.Compare a [.Lt] [b] pos) (fT (fOp gLt fa fb)) := st_cmp op_lt (opd_I0 fun _ _ _ => rep_bl.mpr rfl) ha hb (nomark _)
theorem st_le (ha : SE X B W a fa) (hb : SE X B W b fb) : ST X B W (.Compare a [.LtE] [b] pos) (fT (fOp gLe fa fb)) := st_cmp op_le (opd_I0 fun _ _ _ => rep_bl.mpr rfl) ha hb (nomark _)
theorem st_gt (ha : SE X B W a fa) (hb : SE X B W b fb) : ST X B W (.Compare a [.Gt] [b] pos) (fT (fOp gGt fa fb)) := st_cmp op_gt (opd_I0 fun _ _ _ => rep_bl.mpr rfl) ha hb (nomark _)
theorem st_ge (ha : SE X B W a fa) (hb : SE X B W b fb) : ST X B W (.Compare a [.GtE] [b] pos) (fT (fOp gGe fa fb)) := st_cmp op_ge (opd_I0 fun _ _ _ => rep_bl.mpr rfl) ha hb (nomark _)

/-! ### isinstance against one of Python's own -/
inductive Ty where
  | int | bool | str | tuple | list | dict
def Ty.nm : Ty → String
  | .int => "int" | .bool => "bool" | .str => "str" | .tuple => "tuple" | .list => "list" | .dict => "dict"
def isD : D → Ty → Bool
  | .int _, .int => true
  | .bl _, .bool => true
  | .bl _, .int => true
  | .str _, .str => true
  | .tup _, .tuple => true
  | .lst _, .list => true
  | _, _ => false
def tyD : D → String
  | .non => "NoneType" | .bl _ => "bool" | .int _ => "int" | .str _ => "str" | .tup _ => "tuple" | .lst _ => "list" | .exn _ _ => ""
def isX : D → Bool
  | .exn _ _ => true
  | _ => false
theorem kit_D (d : D) (t : Ty) (hx : isX d = false) : PySem.W.kitOne K (.type (tyD d)) (.type t.nm) = some (isD d t) := by
  cases d <;> first | (cases hx; done) | (cases t <;> kernel_rfl)
theorem isD_at {pins : List (Addr × Obj)} {s : Shared} {A : Around} {E Q : Value → Shared → Prop} {d : D} {v : V} {u : Value} {t : Ty} (I : Inv X pins σ H s) (hx : isX d = false) (r : Rep X.K H d v) (rv : RelV v u) (h : ∀ tk, Q (.bool (isD d t)) { s with toks := tk }) :
    wpAny (model X.prog X.w) A (call (.builtin "isinstance") [u, .type t.nm]) Q E s := by
  have e := kit_D (K := X.K) d t hx
  cases d with
  | non => rw [rep_non.mp r] at rv; cases rv; exact PySem.W.kia_one PySem.W.kitx_none I.kIn True.intro e (fun z => nomatch z) h
  | bl y => rw [rep_bl.mp r] at rv; cases rv; exact PySem.W.kia_one PySem.W.kitx_bool I.kIn True.intro e (fun z => nomatch z) h
  | int i => rw [rep_int.mp r] at rv; obtain ⟨t, rfl⟩ := rv; exact PySem.W.kia_one PySem.W.kitx_int I.kIn True.intro e (fun z => nomatch z) h
  | str i => rw [rep_str.mp r] at rv; obtain ⟨t, rfl⟩ := rv; exact PySem.W.kia_one PySem.W.kitx_str I.kIn True.intro e (fun z => nomatch z) h
  | tup ds =>
    obtain ⟨a, vs, rfl, q, _⟩ := rep_tup.mp r
    cases rv
    obtain ⟨_, _, ⟨o, h1, h2, _⟩, _⟩ := I.tuple q
    exact PySem.W.kia_one PySem.W.kitx_tuple I.kIn ⟨o, h1, h2⟩ e (fun z => nomatch z) h
  | lst ds =>
    obtain ⟨a, vs, rfl, q, _⟩ := rep_lst.mp r
    cases rv
    obtain ⟨_, _, ⟨o, n, h1, h2, _⟩, _⟩ := I.list q
    exact PySem.W.kia_one PySem.W.kitx_list I.kIn ⟨o, h1, h2⟩ e (fun z => nomatch z) h
  | exn c n => cases hx
def rIsD (K : PySem.W.Frag) (t : Ty) : List V → Hp → VK → Prop := fun xs H Q => ∃ v d, xs = [v, .ty t.nm] ∧ isX d = false ∧ Rep K H d v ∧ Q (.bl (isD d t)) H
theorem call_isD {t : Ty} : CallR X (.builtin "isinstance") (rIsD X.K t) := by
  intro pins s σ H xs us Q I r ⟨v, d, e, hx, rd, q⟩
  subst e
  cases r with
  | cons r1 r2 =>
    cases r2 with
    | cons r3 r4 =>
      cases r4
      cases r3
      exact isD_at I hx rd r1 fun tk => ⟨.bl _, H, I.tok tk, rfl, q⟩
def gIs (t : Ty) : D → Rs D := fun d => if isX d = false then .ok (.bl (isD d t)) else .no
theorem se_is {t : Ty} {x : Str} {e : Expr} {p1 p2 : Pos} {f : Rho → Rs D} (hm : X.mg "isinstance" = none) (hmt : X.mg x = none) (he : SE X B W e f) (hv : bootBuiltins x = some (.type t.nm)) (hg : Gl X "isinstance" := by rfl) (hgx : Gl X x := by rfl)
    (hst : starEach [e, .Name x p2] X.env = [(false, eval e X.env), (false, eval (.Name x p2) X.env)] := by rfl) (hst2 : starEach [.Name x p2] X.env = [(false, eval (.Name x p2) X.env)] := by rfl) (hn : x ≠ "__name__" := by decide) (hd : (x == ("__debug__" : Str)) = false := by decide) :
    SE X B W (.Call (.Name "isinstance" p1) [e, .Name x p2] [] pos) (fun ρ => (f ρ).bind (gIs t)) := by
  refine PE.imp (pe_callB (call_isD (t := t)) hg hm PyProof.Rows.boot_isinstance (pa_cons he (pa_cons (pe_bltn (v := .ty t.nm) hgx hmt hv rfl hn hd) pa_nil (by rw [hst2]; rfl)) (by rw [hst, hst2])) (by decide) (by decide) (by rw [hst, hst2]) (by rw [hst2]; rfl)) fun σ H Q h => ?_
  obtain ⟨ρ, G, s, p⟩ := tF_bind (k := fun _ => gIs t) h
  refine ⟨ρ, G, s, p.mono fun v H1 ⟨ρ1, G1, d, s1, r, q⟩ => ?_⟩
  unfold gIs at q
  by_cases hx : isX d = false
  · rw [if_pos hx] at q; exact ⟨v, d, rfl, hx, r.mono s1.en.gh, Post.ok s1 q (rep_bl.mpr rfl)⟩
  · rw [if_neg hx] at q; exact q.elim

/-! ### all, any of a list of truths -/
def bools : List D → Option (List Bool)
  | [] => some []
  | .bl b :: ds => (bools ds).map (b :: ·)
  | _ => none
theorem bools_reps : ∀ {ds : List D} {vs : List V} {bs : List Bool}, Reps K G ds vs → bools ds = some bs → vs = bs.map V.bl
  | [], _, bs, r, e => by cases e; rw [reps_nil.mp r]; rfl
  | .bl b :: ds, _, bs, r, e => by
    obtain ⟨v, vs', rfl, r1, r2⟩ := reps_cons.mp r
    simp only [bools] at e
    cases e1 : bools ds with
    | none => rw [e1] at e; cases e
    | some cs => rw [e1] at e; cases e; rw [rep_bl.mp r1, bools_reps r2 e1]; rfl
  | .non :: _, _, _, _, e => by cases e
  | .int _ :: _, _, _, _, e => by cases e
  | .str _ :: _, _, _, _, e => by cases e
  | .tup _ :: _, _, _, _, e => by cases e
  | .lst _ :: _, _, _, _, e => by cases e
  | .exn _ _ :: _, _, _, _, e => by cases e
theorem vals_bools : ∀ {bs : List Bool} {us : List Value}, Vals (bs.map V.bl) us → us = bs.map Value.bool
  | [], _, .nil => rfl
  | b :: bs, _, .cons r t => by rw [vals_bools t]; cases r; rfl
theorem range_all (bs : List Bool) : (List.range bs.length).all (fun i => bs.getD i false) = bs.all id := by
  induction bs with
  | nil => rfl
  | cons b bs ih =>
    rw [List.length_cons, List.range_succ_eq_map, List.all_cons, List.all_map, List.all_cons, ← ih]
    simp [Function.comp_def]
theorem range_any (bs : List Bool) : (List.range bs.length).any (fun i => bs.getD i false) = bs.any id := by
  induction bs with
  | nil => rfl
  | cons b bs ih =>
    rw [List.length_cons, List.range_succ_eq_map, List.any_cons, List.any_map, List.any_cons, ← ih]
    simp [Function.comp_def]
theorem truth_bools {prog : Program} {w : World} {A : Around} (bs : List Bool) : TruthOf prog w A (fun i v => (bs.map Value.bool).toArray[i]? = some v) fun i => bs.getD i false := by
  intro i v s Q E hP hQ
  have hP' : (bs.map Value.bool)[i]? = some v := by simpa using hP
  rw [List.getElem?_map] at hP'
  cases e : bs[i]? with
  | none => rw [e] at hP'; cases hP'
  | some b =>
    rw [e] at hP'
    cases hP'
    dsimp only at hQ
    rw [List.getD_eq_getElem?_getD, e] at hQ
    exact wpAny_truthy_bool hQ
theorem call_allL (hc : X.calm = true) : CallR X (.builtin "all") (fun xs H Q => ∃ (p : Addr) (bs : List Bool), xs = [.ref p] ∧ SqL X.K H p (bs.map V.bl) ∧ Q (.bl (bs.all id)) H) := by
  intro pins s σ H xs us Q I r ⟨p, bs, e, q, k⟩
  subst e
  obtain ⟨u, rfl, rx⟩ := r.one
  cases rx
  obtain ⟨its, rv, pl, _⟩ := I.list q
  have ei := vals_bools rv
  subst ei
  refine call_all_walk (wpAny_pyIter_list pl.isList ?_)
  refine ⟨_, _, _, _, _, _, fun i => bs.getD i false, rfl, Walks.list (by show X.A.handled = none; exact I.ok.hd hc) _ p (Nat.ne_of_lt (by obtain ⟨o, _, e, _⟩ := pl; exact Heap.lt_size e)) (bs.map Value.bool).toArray, ⟨⟨_, Heap.get?_push_size _ rfl, rfl, rfl⟩, pl.isList.push _⟩, truth_bools bs, fun h' tk hk => ?_⟩
  have e : (List.range (bs.map Value.bool).toArray.size).all (fun i => bs.getD i false) = bs.all id := by
    rw [List.size_toArray, List.length_map]; exact range_all bs
  rw [e]
  refine ⟨.bl _, H, I.kept (t' := tk) (h' := h') fun b o z => hk b o ?_ (Heap.get?_push_of_some _ z), rfl, k⟩
  intro hb
  have : b = s.heap.objs.size := by simpa using hb
  rw [this] at z
  exact absurd (Heap.lt_size z) (Nat.lt_irrefl _)
theorem call_anyL (hc : X.calm = true) : CallR X (.builtin "any") (fun xs H Q => ∃ (p : Addr) (bs : List Bool), xs = [.ref p] ∧ SqL X.K H p (bs.map V.bl) ∧ Q (.bl (bs.any id)) H) := by
  intro pins s σ H xs us Q I r ⟨p, bs, e, q, k⟩
  subst e
  obtain ⟨u, rfl, rx⟩ := r.one
  cases rx
  obtain ⟨its, rv, pl, _⟩ := I.list q
  have ei := vals_bools rv
  subst ei
  refine call_any_walk (wpAny_pyIter_list pl.isList ?_)
  refine ⟨_, _, _, _, _, _, fun i => bs.getD i false, rfl, Walks.list (by show X.A.handled = none; exact I.ok.hd hc) _ p (Nat.ne_of_lt (by obtain ⟨o, _, e, _⟩ := pl; exact Heap.lt_size e)) (bs.map Value.bool).toArray, ⟨⟨_, Heap.get?_push_size _ rfl, rfl, rfl⟩, pl.isList.push _⟩, truth_bools bs, fun h' tk hk => ?_⟩
  have e : (List.range (bs.map Value.bool).toArray.size).any (fun i => bs.getD i false) = bs.any id := by
    rw [List.size_toArray, List.length_map]; exact range_any bs
  rw [e]
  refine ⟨.bl _, H, I.kept (t' := tk) (h' := h') fun b o z => hk b o ?_ (Heap.get?_push_of_some _ z), rfl, k⟩
  intro hb
  have : b = s.heap.objs.size := by simpa using hb
  rw [this] at z
  exact absurd (Heap.lt_size z) (Nat.lt_irrefl _)
def gAll : List D → Rs D
  | [.lst ds] => match bools ds with | some bs => .ok (.bl (bs.all id)) | none => .no
  | _ => .no
def gAny : List D → Rs D
  | [.lst ds] => match bools ds with | some bs => .ok (.bl (bs.any id)) | none => .no
  | _ => .no
theorem cd_all : CallD K (fun xs H Q => ∃ (p : Addr) (bs : List Bool), xs = [.ref p] ∧ SqL K H p (bs.map V.bl) ∧ Q (.bl (bs.all id)) H) gAll := by
  intro B W σ ρ G H ds vs Q s r p
  unfold gAll at p
  split at p
  · rename_i es
    split at p
    · rename_i bs e
      obtain ⟨v, vs', rfl, r1, r2⟩ := reps_cons.mp r
      obtain ⟨a, us, rfl, q, rr⟩ := rep_lst.mp r1
      rw [reps_nil.mp r2]
      have e2 := bools_reps rr e
      subst e2
      exact ⟨a, bs, rfl, s.en.gh.seq q, Post.ok s p (rep_bl.mpr rfl)⟩
    · exact p.elim
  · exact p.elim
theorem cd_any : CallD K (fun xs H Q => ∃ (p : Addr) (bs : List Bool), xs = [.ref p] ∧ SqL K H p (bs.map V.bl) ∧ Q (.bl (bs.any id)) H) gAny := by
  intro B W σ ρ G H ds vs Q s r p
  unfold gAny at p
  split at p
  · rename_i es
    split at p
    · rename_i bs e
      obtain ⟨v, vs', rfl, r1, r2⟩ := reps_cons.mp r
      obtain ⟨a, us, rfl, q, rr⟩ := rep_lst.mp r1
      rw [reps_nil.mp r2]
      have e2 := bools_reps rr e
      subst e2
      exact ⟨a, bs, rfl, s.en.gh.seq q, Post.ok s p (rep_bl.mpr rfl)⟩
    · exact p.elim
  · exact p.elim
end
end Vl

set_option Elab.async false
set_option linter.all false
set_option maxRecDepth 100000
set_option maxHeartbeats 4000000
namespace Vl
open PySem PySem.Spec L2

/-! ### exceptions on their way -/
/-- objects that came behind the entry, and the frames' slots, have changed: nothing else -/
theorem Inv.moved {X : Cx} {pins : List (Addr × Obj)} {σ : St} {H : Hp} {s : Shared} {h' : Heap} {t' : Nat} (I : Inv X pins σ H s) (ch : List Addr)
    (hch : ∀ b ∈ ch, X.s₀.heap.get? b = none ∧ b ≠ X.env.locals ∧ (∀ x c, X.env.cells.lookup x = some c → c ≠ b) ∧ (∀ p ∈ X.pn ++ pins, p.1 ≠ b) ∧ H b = none)
    (keep : ∀ b o, b ∉ frs X.stack → b ∉ ch → s.heap.get? b = some o → h'.get? b = some o)
    (slot : ∀ b o, b ∈ frs X.stack → s.heap.get? b = some o → ∃ sl, h'.get? b = some { o with slots := sl }) : Inv X pins σ H { s with heap := h', toks := t' } := by
  have sub := I.stkSub
  have sup : ∀ b ∈ X.fs, b ∈ frs X.stack := fun b hb => by
    rcases I.ok.stk with e | ⟨e, hf⟩
    · rw [e]; exact hb
    · rw [e]; unfold frs; rw [List.filterMap_cons, hf]; exact List.mem_cons_of_mem _ hb
  have neL : ∀ b o, X.s₀.heap.get? b = some o → b ≠ X.env.locals := fun b o e => Nat.ne_of_lt (Nat.lt_of_lt_of_le (Heap.lt_size e) I.ok.above)
  have nch : ∀ b o, X.s₀.heap.get? b = some o → b ∉ ch := fun b o e z => by rw [(hch b z).1] at e; cases e
  have any : ∀ b o, b ∉ ch → s.heap.get? b = some o → ∃ sl, h'.get? b = some { o with slots := sl } := fun b o hc e => by
    by_cases hb : b ∈ frs X.stack
    · exact slot b o hb e
    · exact ⟨o.slots, keep b o hb hc e⟩
  have lch : X.env.locals ∉ ch := fun z => (hch _ z).2.1 rfl
  have cch : ∀ x c, X.env.cells.lookup x = some c → c ∉ ch := fun x c e z => (hch c z).2.2.1 x c e rfl
  have cellK : ∀ x c v, X.env.cells.lookup x = some c → s.heap.IsCell c v → h'.IsCell c v := fun x c v e ⟨o, ho, hd⟩ => by
    obtain ⟨sl, q⟩ := any c o (cch x c e) ho
    exact ⟨_, q, hd⟩
  refine ⟨I.ok, I.os, I.bare, ⟨fun b o e n hb hx => ?_, fun b o e n hb hx => ?_, I.base.free, fun b o e hx => ?_, I.base.tups, I.base.frzs, I.base.tbls⟩, ?_, fun x c e => ?_, I.free, I.freeC, fun p hp => ?_, fun b o e => ?_, I.len⟩
  · exact keep b o (fun z => (List.mem_cons.mp (sub b z)).elim (neL b o e) hb) (nch b o e) (I.base.keep b o e n hb hx)
  · obtain ⟨sl, q⟩ := I.base.slot b o e n hb hx
    obtain ⟨sl', q'⟩ := slot b _ (sup b hb) q
    exact ⟨sl', q'⟩
  · obtain ⟨o', q⟩ := I.base.there b o e hx
    obtain ⟨sl, q'⟩ := any b o' (nch b o e) q
    exact ⟨_, q'⟩
  · obtain ⟨m, ⟨o, es, ep, ho, r⟩, hl⟩ := I.loc
    obtain ⟨sl, q⟩ := any _ o lch ho
    refine ⟨m, ⟨_, es, ep, q, r⟩, fun i x v h1 h2 h3 => ?_⟩
    obtain ⟨u, ru, l⟩ := hl i x v h1 h2 h3
    refine ⟨u, ru, ?_⟩
    rcases l with l | ⟨k, c, e, z⟩
    · exact .inl l
    · exact .inr ⟨k, c, e, cellK x c _ e z⟩
  · obtain ⟨v, z⟩ := I.cell x c e
    exact ⟨v, cellK x c v e z⟩
  · obtain ⟨e, n, ne, nf, d⟩ := I.pin p hp
    exact ⟨keep _ _ (fun z => (List.mem_cons.mp (sub _ z)).elim ne nf) (fun z => (hch _ z).2.2.2.1 p hp rfl) e, n, ne, nf, d⟩
  · have tr : ∀ c u, H c = some u → c ∉ frs X.stack ∧ c ∉ ch := fun c u z => ⟨fun w => (by rw [I.stkFree c w] at z; cases z), fun w => (by rw [(hch c w).2.2.2.2] at z; cases z)⟩
    refine (I.hok b o e).stay (fun c u hc q => ?_) (fun _ q => q) fun _ _ q => q
    rcases hc with hc | hc
    · subst hc; exact keep c u (tr c _ e).1 (tr c _ e).2 q
    · exact keep c u (tr c _ hc).1 (tr c _ hc).2 q

/-- an exception of the own class called c is on its way: old is the heap at the entry, av what it is none of -/
def Tr (h : Heap) (H : Hp) (old : Heap) (av : List Addr) (ea : Addr) (vs : Array Value) : Prop := ∃ T oT ts, vs[1]? = some (.ref T) ∧ T ≠ ea ∧ h.get? T = some oT ∧ oT.data = .fields ts ∧ ts[3]? = some .none ∧ H T = none ∧ old.get? T = none ∧ T ∉ av
def Fly (K : PySem.W.Frag) (old : Heap) (av : List Addr) (ea : Addr) (c : Str) (n : Int) (h : Heap) (H : Hp) (tr : Bool) : Prop :=
  ∃ C oe vs a0, PySem.W.nsIn K mainGlobals c = some (some (.ref C)) ∧ h.get? ea = some oe ∧ oe.cls = .ref C ∧ oe.data = .fields vs ∧ vs[0]? = some a0 ∧ H ea = none ∧ old.get? ea = none ∧ ea ∉ av ∧ n = 0 ∧
    (if tr = true then Tr h H old av ea vs else vs[1]? = some .none)
def CXv (P : Program) (w : World) (K : PySem.W.Frag) : CXT := fun outer H s E e s' => ∃ ea c n H', e = .ref ea ∧ s'.os = s.os ∧ PyProof.Rows.AllBare s'.gens ∧ Un (frs outer) [] H H' s.heap s'.heap ∧ HOk P w H' s'.heap ∧ Fly K s.heap [] ea c n s'.heap H' true ∧ E (enc c n) none H'
/-- what is wanted of exceptions here, W, is what the context wants -/
def PassV (X : Cx) (W : Wi) : Prop := ∀ pins σ H s ea c n tr, Inv X pins σ H s → Fly X.K X.s₀.heap ((X.pn ++ pins).map (·.1)) ea c n s.heap H tr → W c n σ H → X.xe (.ref ea) s

section
variable {X : Cx} {pins : List (Addr × Obj)} {σ : St} {H : Hp} {s : Shared} {ea : Addr} {c : Str} {n : Int} {tr : Bool}
/-- an untracked record that came behind the entry is none of the frame's -/
theorem rec_ok (I : Inv X pins σ H s) {b : Addr} {o : Obj} {vs : Array Value} (e : s.heap.get? b = some o) (d : o.data = .fields vs) (hold : X.s₀.heap.get? b = none) (hn : H b = none) (hp : ∀ p ∈ X.pn ++ pins, p.1 ≠ b) :
    X.s₀.heap.get? b = none ∧ b ≠ X.env.locals ∧ (∀ x c, X.env.cells.lookup x = some c → c ≠ b) ∧ (∀ p ∈ X.pn ++ pins, p.1 ≠ b) ∧ H b = none := by
  refine ⟨hold, fun z => ?_, fun x c hc z => ?_, hp, hn⟩
  · obtain ⟨m, ⟨o', es, ep, ho, hd, _⟩, _⟩ := I.loc
    rw [← z, e] at ho; cases ho; rw [d] at hd; cases hd
  · obtain ⟨v, o', ho, hd⟩ := I.cell x c hc
    rw [z, e] at ho; cases ho; rw [d] at hd; cases hd
theorem not_frame (I : Inv X pins σ H s) {b : Addr} {o : Obj} {vs : Array Value} (e : s.heap.get? b = some o) (d : o.data = .fields vs) : b ∉ frs X.stack := fun z => by
  obtain ⟨_, o', ho, hnf⟩ := I.stack.mem z
  rw [e] at ho; cases ho; exact hnf vs d

theorem objok_here {P : Program} {w : World} {H : Hp} {h : Heap} {a : Addr} {o : HO} (x : ObjOk P w H h a o) : ∃ u, h.get? a = some u := by
  induction o with
  | lst xs => obtain ⟨z, its, n, r, e⟩ := x; exact ⟨_, e⟩
  | tup xs => obtain ⟨z, its, r, ob, e, c⟩ := x; exact ⟨_, e⟩
  | dK kvs => obtain ⟨z, y, vs, r, ob, es, ep, e, c⟩ := x; exact ⟨_, e⟩
  | dT kvs => obtain ⟨z, y, xs, r, ob, es, ep, e, c⟩ := x; exact ⟨_, e⟩
  | set S n => obtain ⟨ob, es, ep, t, e, c⟩ := x; exact ⟨_, e⟩
  | ins C dx fs => obtain ⟨d, z, ne, e, _⟩ := x; exact ⟨_, e⟩
  | own y => obtain ⟨ob, e⟩ := x; exact ⟨_, e⟩
  | xd fs => obtain ⟨mA, ⟨od, es, ep, e, c⟩, r⟩ := x; exact ⟨_, e⟩
  | rng lo hi => obtain ⟨t, u, v, e⟩ := x; exact ⟨_, e⟩
  | frz ob u ih => obtain ⟨e, q⟩ := x; exact ⟨_, e⟩
  | tbl ps => exact ⟨_, (show h.get? a = some { cls := .none, data := .fields ps } from x)⟩
  | met f y => exact ⟨_, (show h.get? a = some (PySem.W.methodObj (.ref f) (.ref y)) from x)⟩
  | ext φ => obtain ⟨p, ⟨o, e⟩, st⟩ := x; exact ⟨_, e⟩
/-- the heap without the frames and the exception's own records -/
theorem fly_moved (I : Inv X pins σ H s) {ch : List Addr} {h' : Heap} {t' : Nat} (hch : ∀ b ∈ ch, ∃ o vs, s.heap.get? b = some o ∧ o.data = .fields vs ∧ X.s₀.heap.get? b = none ∧ H b = none ∧ b ∉ (X.pn ++ pins).map (·.1))
    (st : (PySem.W.hideAll s.heap (frs X.stack ++ ch)).StaysIn h') (up : s.heap.UpToSlots h') : Inv X pins σ H { s with heap := h', toks := t' } := by
  refine Inv.moved I ch (fun b hb => ?_) (fun b o h1 h2 e => st b o (PySem.W.hideAll_get _ e (by rw [List.mem_append]; exact fun z => z.elim h1 h2))) (fun b o hb e => ?_)
  · obtain ⟨o, vs, e, d, h1, h2, h3⟩ := hch b hb
    exact rec_ok I e d h1 h2 fun p hp z => h3 (List.mem_map.mpr ⟨p, hp, z⟩)
  · obtain ⟨_, o', ho, hnf⟩ := I.stack.mem hb
    rw [e] at ho; cases ho
    exact up b o e hnf
/-- what is traced behind a step is fresh -/
theorem fly_new (I : Inv X pins σ H s) (hex : X.ex = []) {ch : List Addr} {h' : Heap} {T : Addr} {oT : Obj} {ts : Array Value} (hch : ∀ b ∈ ch, ∃ o vs, s.heap.get? b = some o ∧ o.data = .fields vs ∧ X.s₀.heap.get? b = none ∧ H b = none ∧ b ∉ (X.pn ++ pins).map (·.1))
    (up : s.heap.UpToSlots h') (hT : h'.get? T = some oT) (dT : oT.data = .fields ts) (hn : (PySem.W.hideAll s.heap (frs X.stack ++ ch)).get? T = none) :
    H T = none ∧ X.s₀.heap.get? T = none ∧ T ∉ (X.pn ++ pins).map (·.1) := by
  by_cases hc : T ∈ ch
  · obtain ⟨o, vs, e, d, h1, h2, h3⟩ := hch T hc
    exact ⟨h2, h1, h3⟩
  have hf : T ∉ frs X.stack := fun z => by
    obtain ⟨_, o', ho, hnf⟩ := I.stack.mem z
    obtain ⟨sl, q⟩ := up T o' ho hnf
    rw [hT] at q; cases q
    exact hnf ts dT
  have hs : s.heap.get? T = none := by
    cases e : s.heap.get? T with
    | none => rfl
    | some o => rw [PySem.W.hideAll_get _ e (by rw [List.mem_append]; exact fun z => z.elim hf hc)] at hn; cases hn
  refine ⟨?_, ?_, fun z => ?_⟩
  · cases e : H T with
    | none => rfl
    | some u =>
      obtain ⟨o, z⟩ := objok_here (I.hok T u e)
      rw [hs] at z; cases z
  · cases e : X.s₀.heap.get? T with
    | none => rfl
    | some o =>
      obtain ⟨o', q⟩ := I.base.there T o e (by rw [hex]; simp)
      rw [hs] at q; cases q
  · obtain ⟨p, hp, e⟩ := List.mem_map.mp z
    have := (I.pin p hp).1
    rw [e, hs] at this; cases this
end
end Vl

set_option Elab.async false
set_option linter.all false
set_option maxRecDepth 100000
set_option maxHeartbeats 4000000
namespace Vl
open PySem PySem.Spec L2

section
variable {X : Cx} {pins : List (Addr × Obj)} {σ : St} {H : Hp} {s : Shared} {ea : Addr} {c : Str} {n : Int} {tr : Bool}
/-- the exception's own records -/
theorem fly_ch (I : Inv X pins σ H s) (F : Fly X.K X.s₀.heap ((X.pn ++ pins).map (·.1)) ea c n s.heap H tr) :
    ∃ ch : List Addr, ea ∈ ch ∧ (∀ b ∈ ch, ∃ o vs, s.heap.get? b = some o ∧ o.data = .fields vs ∧ X.s₀.heap.get? b = none ∧ H b = none ∧ b ∉ (X.pn ++ pins).map (·.1)) ∧
      ∃ C oe vs a0, PySem.W.nsIn X.K mainGlobals c = some (some (.ref C)) ∧ s.heap.get? ea = some oe ∧ oe.cls = .ref C ∧ oe.data = .fields vs ∧ vs[0]? = some a0 ∧ n = 0 ∧ X.s₀.heap.get? ea = none ∧ H ea = none ∧ ea ∉ (X.pn ++ pins).map (·.1) ∧
        (if tr = true then ∃ T oT ts, vs[1]? = some (.ref T) ∧ T ∈ ch ∧ T ≠ ea ∧ s.heap.get? T = some oT ∧ oT.data = .fields ts ∧ ts[3]? = some .none else vs[1]? = some .none) := by
  obtain ⟨C, oe, vs, a0, h1, h2, h3, h4, h5, h6, h7, h8, h9, h10⟩ := F
  cases tr with
  | false =>
    refine ⟨[ea], by simp, fun b hb => ?_, C, oe, vs, a0, h1, h2, h3, h4, h5, h9, h7, h6, h8, h10⟩
    obtain rfl : b = ea := by simpa using hb
    exact ⟨oe, vs, h2, h4, h7, h6, h8⟩
  | true =>
    rw [if_pos rfl] at h10
    obtain ⟨T, oT, ts, t1, t2, t3, t4, t5, t6, t7, t8⟩ := h10
    refine ⟨[ea, T], by simp, fun b hb => ?_, C, oe, vs, a0, h1, h2, h3, h4, h5, h9, h7, h6, h8, ?_⟩
    · rcases List.mem_cons.mp hb with rfl | hb
      · exact ⟨oe, vs, h2, h4, h7, h6, h8⟩
      · obtain rfl : b = T := by simpa using hb
        exact ⟨oT, ts, t3, t4, t7, t6, t8⟩
    · rw [if_pos rfl]
      exact ⟨T, oT, ts, t1, by simp, t2, t3, t4, t5⟩
/-- an exception leaves a frame -/
theorem leave_v {M : Model} {Q : Unit → Shared → Prop} {E : Value → Shared → Prop} {outer : List Env} {L : Addr} (hst : X.stack = X.env :: outer) (hf : X.env.frame = some L) (hex : X.ex = []) (I : Inv X pins σ H s) (F : Fly X.K X.s₀.heap ((X.pn ++ pins).map (·.1)) ea c n s.heap H tr)
    (hQ : ∀ h', Inv X pins σ H { s with heap := h' } → Fly X.K X.s₀.heap ((X.pn ++ pins).map (·.1)) ea c n h' H true → Q () { s with heap := h' }) : wpAny M X.A (leaving X.env (.ref ea)) Q E s := by
  obtain ⟨ch, he, hch, C, oe, vs, a0, h1, h2, h3, h4, h5, h9, h7, h6, h8, h10⟩ := fly_ch I F
  have hfr : X.A.frames = some (X.env :: outer) := by rw [← hst]; exact I.ok.frames
  have hl : s.heap.FunFrames (PySem.W.hideAll s.heap (frs X.stack ++ ch)) (X.env :: outer) := by
    have := PySem.W.funFrames_hide (as := frs X.stack ++ ch) I.stack fun env he b hb => List.mem_append_left _ (List.mem_filterMap.mpr ⟨env, he, hb⟩)
    rw [hst] at this ⊢; exact this
  have hkb : (PySem.W.hideAll s.heap (frs X.stack ++ ch)).StaysIn s.heap := fun b o e => PySem.W.of_hideAll _ e
  have hn : ∀ b ∈ ch, (PySem.W.hideAll s.heap (frs X.stack ++ ch)).get? b = none := fun b hb => PySem.W.hideAll_none _ (List.mem_append_right _ hb)
  have fin : ∀ h', (PySem.W.hideAll s.heap (frs X.stack ++ ch)).StaysIn h' → h'.TracedW (PySem.W.hideAll s.heap (frs X.stack ++ ch)) ea oe.cls a0 → s.heap.UpToSlots h' → Q () { s with heap := h' } := fun h' k1 k2 k3 => by
    have I' := fly_moved (t' := s.toks) I hch k1 k3
    obtain ⟨oe', vs', T, oT, ts, e1, ⟨e2, e3⟩, e4, e5, e6, e7, e8, e9, e10⟩ := k2
    obtain ⟨n1, n2, n3⟩ := fly_new I hex hch k3 e8 e9 e6
    refine hQ h' I' ⟨C, oe', vs', a0, h1, e1, e2.trans h3, e4, e3, h6, h7, h8, h9, ?_⟩
    rw [if_pos rfl]
    exact ⟨T, oT, ts, e5, e7, e8, e9, e10, n1, n2, n3⟩
  cases tr with
  | false =>
    rw [if_neg (by decide)] at h10
    exact wpAny_leaving_firstW hfr hl hf h2 hkb (hn _ he) h4 h10 h5 fun h' ⟨k1, _, k2, k3⟩ => fin h' k1 k2 k3
  | true =>
    rw [if_pos rfl] at h10
    obtain ⟨T, oT, ts, t1, t0, t2, t3, t4, t5⟩ := h10
    exact wpAny_leaves_onW hfr hf ⟨hkb, hn _ he, hl, oe, vs, T, oT, ts, h2, ⟨rfl, h5⟩, h4, t1, hn _ t0, t2, t3, t4, t5⟩ fun h' ⟨k1, _, _, k2⟩ k3 => fin h' k1 k2 k3
end

section
variable {P : Program} {w : World} {K : PySem.W.Frag} {mg : Str → Option Value} {base : Heap} {x qual : Str} {st : Stmt} {f : Addr} {fd : FuncData} {N ps : List Str} {k : Nat}
theorem pass_body {scope : Scope} {cdv : Value} {A : Around} {outer : List Env} {s : Shared} {H : Hp} {E : XK} : PassV (cxOf (CXv P w K) P w K mg base N qual scope f cdv A outer s H E) (fun c n _ H' => E (enc c n) none H') := by
  intro pins σ H1 s1 ea c n tr I F w1
  refine leave_v (L := s.heap.objs.size) (outer := outer) rfl rfl rfl I F fun h' I' F' => ?_
  obtain ⟨C, oe, vs, a0, h1, h2, h3, h4, h5, h6, h7, h8, h9, h10⟩ := F'
  refine ⟨ea, c, n, H1, rfl, I'.os, I'.bare, I'.base, I'.hok, ⟨C, oe, vs, a0, h1, h2, h3, h4, h5, h6, h7, by simp, h9, ?_⟩, w1⟩
  rw [if_pos rfl] at h10 ⊢
  obtain ⟨T, oT, ts, t1, t2, t3, t4, t5, t6, t7, t8⟩ := h10
  exact ⟨T, oT, ts, t1, t2, t3, t4, t5, t6, t7, by simp⟩
end
end Vl

set_option Elab.async false
set_option linter.all false
set_option maxRecDepth 100000
set_option maxHeartbeats 4000000
namespace Vl
open PySem PySem.Spec L2

theorem zig_inj {a b : Int} (h : zig a = zig b) : a = b := by
  unfold zig at h
  split at h <;> split at h <;> omega
theorem enc_inj {c c' : Str} {n n' : Int} (h : enc c n = enc c' n') : c = c' ∧ n = n' := by
  unfold enc at h
  injection h with h1 h2
  exact ⟨h1, zig_inj h2⟩

/-- what a def's caller does with an exception -/
def PassC (X : Cx) (W : Wi) : Prop := ∀ (pins : List (Addr × Obj)) (σ : St) (H : Hp) (s : Shared) (e : Value) (s' : Shared), Inv X pins σ H s →
  CXv X.prog X.w X.K X.stack H s (fun v _ H' => ∃ c n, v = enc c n ∧ W c n σ H') e s' → X.xe e s'
theorem passC_F {X : Cx} : PassC X WF := fun pins σ H s e s' I ⟨ea, c, n, H', _, _, _, _, _, _, _, _, _, w⟩ => w.elim
theorem passC_of {X : Cx} {W : Wi} (hp : PassV X W) (hex : X.ex = []) : PassC X W := by
  intro pins σ H s e s' I ⟨ea, c, n, H', e1, os, bare, un, hok, F, c0, n0, e2, w⟩
  subst e1
  obtain ⟨rfl, rfl⟩ := enc_inj e2
  have I' : Inv X pins σ H' s' := I.call' (ch := []) os un hok bare (fun b z => absurd z (by simp))
  obtain ⟨C, oe, vs, a0, h1, h2, h3, h4, h5, h6, h7, h8, h9, h10⟩ := F
  have old : ∀ b, s.heap.get? b = none → X.s₀.heap.get? b = none := fun b hb => by
    cases q : X.s₀.heap.get? b with
    | none => rfl
    | some o =>
      obtain ⟨o', z⟩ := I.base.there b o q (by rw [hex]; simp)
      rw [hb] at z; cases z
  have npin : ∀ b, s.heap.get? b = none → b ∉ (X.pn ++ pins).map (·.1) := fun b hb z => by
    obtain ⟨p, hp, e⟩ := List.mem_map.mp z
    have := (I.pin p hp).1
    rw [e, hb] at this; cases this
  refine hp pins σ H' s' ea c n true I' ⟨C, oe, vs, a0, h1, h2, h3, h4, h5, h6, old _ h7, npin _ h7, h9, ?_⟩ w
  rw [if_pos rfl] at h10 ⊢
  obtain ⟨T, oT, ts, t1, t2, t3, t4, t5, t6, t7, t8⟩ := h10
  exact ⟨T, oT, ts, t1, t2, t3, t4, t5, t6, old _ t7, npin _ t7⟩

section
variable {P : Program} {w : World} {K : PySem.W.Frag} {mg : Str → Option Value} {base : Heap} {x qual : Str} {st : Stmt} {f : Addr} {fd : FuncData} {N ps : List Str} {k : Nat}
/-- THE RULE for a def that may raise -/
theorem fn_v {g : Rho → Ou} (F : Fun K x qual st f fd) (S : FnScope N ps (defScope st))
    (hb : ∀ (cdv : Value) (A : Around) (outer : List Env) (s : Shared) (H : Hp) (E : XK) (B : Hp × Hp), Room k (A.deeper (PyProof.Rows.envOfC qual (defScope st) s.heap.objs.size f cdv)) →
      SSs (cxOf (CXv P w K) P w K mg base N qual (defScope st) f cdv A outer s H E) B (fun c n _ H' => E (enc c n) none H') (defBody st) g) :
    FnOk P w K mg base (CXv P w K) (k + 1) f fd ps (spV K ps.length fun ds => fin (g (startR N ds))) := by
  obtain ⟨oc, od, kV, doc, pm, an, cdv, ct, osl, rfl, lk, hcd⟩ := F.ex
  refine fn_of lk hcd S (fun vs H Q E h => h.1) fun A outer s H vs Q E hr h => ?_
  obtain ⟨_, G, ds, e, r, h⟩ := h
  dsimp only at h
  exact ⟨_, hb cdv A outer s H E (G, H) hr, startR N ds, G, sr_start e r, fin_post (B := (G, H)) h⟩
end

def gCallX (n : Nat) (g : List D → Rs D) : List D → Rs D := fun ds => if ds.length = n then g ds else .no
section
variable {X : Cx} {B : Hp × Hp} {W : Wi}
/-- f(e, ..) of a def that may raise -/
theorem se_call {x : Str} {p pos : Pos} {e : Expr} {es : List Expr} {fs : Rho → Rs (List D)} {f : Addr} {fd : FuncData} {ps : List Str} {k n : Nat} {g : List D → Rs D} (F : FnOk X.prog X.w X.K X.mg X.base (CXv X.prog X.w X.K) k f fd ps (spV X.K n g)) (hr : Room k X.A) (hg : Gl X x) (hm : X.mg x = some (.ref f)) (hk : PySem.W.keepIn X.K (.ref f) = true) (hb : Binds X.K fd ps [])
    (hx : PassC X W) (ha : SA X B W (e :: es) fs) (hdb : (x == ("__debug__" : Str)) = false := by decide) (he : starEach (e :: es) X.env = (false, eval e X.env) :: starEach es X.env := by rfl) (hpl : (backTo pos (starEach es X.env)).any (·.1) = false := by rfl) :
    SE X B W (.Call (.Name x p) (e :: es) [] pos) (fA fs (gCallX n g)) := by
  intro pins s σ H Q I h
  refine wpAny_Call_Name_kw (ld_glob I hg hm ?_ hdb)
  have h2 : tAF X.K B W fs σ H fun vs H1 => spV X.K n g vs H1 Q fun v _ H' => ∃ c n, v = enc c n ∧ W c n σ H' := by
    obtain ⟨ρ, G, s, p⟩ := h
    refine ⟨ρ, G, s, ?_⟩
    unfold fA at p
    cases e : fs ρ with
    | ex c n => rw [e] at p; exact p
    | no => rw [e] at p; exact p
    | ok ds =>
      rw [e] at p
      intro vs H1 G1 x r
      have p := Post.ext x p
      unfold gCallX at p; dsimp only [Rs.bind] at p
      by_cases hl : ds.length = n
      · rw [if_pos hl] at p
        refine ⟨by rw [← r.length]; exact hl, G1, ds, (s.ext x).ext0, r, ?_⟩
        cases e1 : g ds with
        | ok d => rw [e1] at p; exact p
        | ex c n => rw [e1] at p; exact fun H' G' y => ⟨c, n, rfl, p H' G' y⟩
        | no => rw [e1] at p; exact p.elim
      · rw [if_neg hl] at p; exact p.elim
  refine PySem.W.callWith_K (h₀ := X.base) I.ok.mod.kin hk (thn (ha pos pins s σ H _ I h2) fun us s1 ⟨vs, H1, I1, r, q⟩ => ⟨I1.kIn, ?_⟩) he hpl
  have hl : (us ++ []).length = ps.length := by rw [List.append_nil, ← r.length]; exact F.len _ _ _ _ q
  have hbb := hb s1 us I1.kIn hl
  rw [List.append_nil] at hbb
  refine wpAny_call (codeAny_mono (F.run X.A X.stack s1 H1 ⟨us, []⟩ us vs Q _ hr I1.env0 hbb r q) fun r s' hq => ?_)
  cases r with
  | error e => exact hx pins σ H1 s1 e s' I1 hq
  | ok fl =>
    cases fl with
    | ret u => exact I1.after hq
    | next => exact False.elim hq
    | brk => exact False.elim hq
    | cont => exact False.elim hq

/-! raise -/
/-- the class object, as it lies -/
theorem exc_obj {K : PySem.W.Frag} {h : Heap} {C : Addr} {bmB : List Value} {newId : String} (Z : K.In h) (q : PySem.W.excIn K C bmB newId = true) :
    ∃ bm N nm qn bs hd sn sub ab col dd k0 k1 k2 k3 k5 mN, h.get? C = some (excClassObj nm qn C N bs bm hd sn sub ab col dd k0 k1 k2 k3 k5 newId) ∧ h.Ns N mN ∧ mN "__init__" = none ∧ OwnTail h bmB bm := by
  unfold PySem.W.excIn at q
  split at q
  next dd cl sl ho =>
    split at q
    next C1 tl a0 a1 a2 a3 nw a5 hmro hsl =>
      simp only [Bool.and_eq_true, Bool.not_eq_true', beq_iff_eq] at q
      obtain ⟨⟨⟨⟨⟨q1, q2⟩, q3⟩, q4⟩, q5⟩, q6⟩ := q
      subst q1 q2
      obtain ⟨y1, y2, y3, y4, y5, y6, y7, y8, y9, y10, y11⟩ := cl
      dsimp only at hmro q3 q5 q6
      subst hmro q3
      have e : sl = #[a0, a1, a2, a3, some (.builtin nw), a5] := by
        cases sl
        exact congrArg Array.mk hsl
      rw [e] at ho
      exact ⟨tl, y4, y1, y5, y2, y6, y7, y8, y9, y10, dd, a0, a1, a2, a3, a5, _, Z _ _ ho, .of_isNs (PySem.W.isNs_of_in Z q5), PySem.W.nsMap_none_of_in Z q5 q6, PySem.W.tail_of_in Z q4⟩
    next => cases q
  next => cases q
/-- raise C(e, ..), C an own class without __init__ -/
theorem ss_raise {x : Str} {np cpos pos : Pos} {e : Expr} {es : List Expr} {fs : Rho → Rs (List D)} {C : Addr} {bmB bmN : List Value} {Bn Bb newId nid inN initId : String}
    (hp : PassV X W) (hex : X.ex = []) (hc : X.calm = true) (hg : Gl X x) (hm : X.mg x = some (.ref C)) (hn : PySem.W.nsIn X.K mainGlobals x = some (some (.ref C))) (q : PySem.W.excIn X.K C bmB newId = true)
    (Fn : ExcBaseFacts Bn newId inN bmN) (hBn : bmB.contains (.type Bn) = true) (FB : ExcBaseFacts Bb nid initId bmB)
    (ha : SA X B W (e :: es) fs) (hlen : (e :: es).length ≤ 1000) (hdb : (x == ("__debug__" : Str)) = false := by decide) (he : starEach (e :: es) X.env = (false, eval e X.env) :: starEach es X.env := by rfl) (hpl : (backTo cpos (starEach es X.env)).any (·.1) = false := by rfl) :
    SS X B W (.Raise (some (.Call (.Name x np) (e :: es) [] cpos)) none pos) (fun ρ => oR (fs ρ) ρ fun ds => if ds.length ≤ 1000 then .ex x 0 ρ else .no) := by
  intro pins s σ H De I ⟨ρ, G, sr, p⟩
  obtain ⟨tl, N, nm, qn, bs, hdct, sn, sub, ab, col, dd, k0, k1, k2, k3, k5, mN, hC, hN, hni, T⟩ := exc_obj I.ok.mod.kin q
  refine wpAny_Raise_call_subU (C := C) (nm := nm) (q := qn) (N := N) (bs := bs) (bm := tl) (hdct := hdct) (sn := sn) (sub := sub) (ab := ab) (col := col) (dd := dd) (k0 := k0) (k1 := k1) (k2 := k2) (k3 := k3) (k5 := k5)
    Fn hBn FB (mN := mN) (T.hasType FB.hasBase) (I.ok.hd hc) (by rw [he]; show (false || (backTo cpos (starEach es X.env)).any (·.1)) = false; rw [hpl]; rfl) hni (ld_glob I hg hm ⟨rfl, ?_⟩ hdb)
  have h2 : tAF X.K B W fs σ H fun vs H1 => vs.length ≤ 1000 ∧ W x 0 σ H1 := by
    refine ⟨ρ, G, sr, ?_⟩
    dsimp only at p
    cases e : fs ρ with
    | ok ds =>
      rw [e] at p
      dsimp only [oR] at p
      by_cases hl : ds.length ≤ 1000
      · rw [if_pos hl] at p
        exact fun vs H1 G1 y r => ⟨by rw [← r.length]; exact hl, p σ H1 G1 (sr.ext y) y.gg⟩
      · rw [if_neg hl] at p; exact p.elim
    | ex c n => rw [e] at p; exact fun H1 G1 y => p σ H1 G1 (sr.ext y) y.gg
    | no => rw [e] at p; exact p
  have h3 := ha cpos pins s σ H _ I h2
  rw [he] at h3 ⊢
  refine Calls.evalArgs_plain (wpAny_mono h3 (fun us s2 ⟨vs, H1, I1, r, hl, w⟩ => ⟨rfl, by rw [← r.length]; exact sz1000 hl, I1.bk _ _ hC, hN.keeps I1.bk, T.keeps I1.bk, fun h' ea hm' => ?_⟩) fun _ _ y => y)
  have I2 : Inv X pins σ H1 { s2 with heap := h' } := I1.kept (t' := s2.toks) hm'.keeps
  obtain ⟨t, h1, h2', h3'⟩ := hm'.there
  have new : s2.heap.get? ea = none := hm'.new
  refine hp pins σ H1 _ ea x 0 false I2 ⟨C, _, _, _, hn, h1, rfl, rfl, rfl, ?_, ?_, fun z => ?_, rfl, ?_⟩ w
  · cases z : H1 ea with
    | none => rfl
    | some u => obtain ⟨o, z⟩ := objok_here (I1.hok _ _ z); rw [new] at z; cases z
  · cases z : X.s₀.heap.get? ea with
    | none => rfl
    | some o => obtain ⟨o', z⟩ := I1.base.there _ o z (by rw [hex]; simp); rw [new] at z; cases z
  · obtain ⟨p, hp, e⟩ := List.mem_map.mp z
    have := (I1.pin p hp).1
    rw [e, new] at this; cases this
  · rw [if_neg (by decide)]; rfl
end
end Vl

set_option Elab.async false
set_option linter.all false
set_option maxRecDepth 100000
set_option maxHeartbeats 4000000
namespace Vl
open PySem PySem.Spec L2

section
variable {X : Cx} {pins : List (Addr × Obj)} {σ : St} {H : Hp} {s : Shared} {ea : Addr} {c : Str} {n : Int} {tr : Bool}
/-- an exception is looked at by a try statement, and lands -/
theorem catch_v {M : Model} {Q : Unit → Shared → Prop} {E : Value → Shared → Prop} {outer : List Env} {L : Addr} (hst : X.stack = X.env :: outer) (hf : X.env.frame = some L) (hex : X.ex = []) (I : Inv X pins σ H s) (F : Fly X.K X.s₀.heap ((X.pn ++ pins).map (·.1)) ea c n s.heap H tr)
    (hQ : ∀ h', Inv X pins σ H { s with heap := h' } → Fly X.K X.s₀.heap ((X.pn ++ pins).map (·.1)) ea c n h' H true → Q () { s with heap := h' }) :
    wpAny M X.A (noteFrame (.ref ea) X.env) (fun _ s2 => wpAny M X.A (setFlight (.ref ea) none) Q E s2) E s := by
  obtain ⟨ch, he, hch, C, oe, vs, a0, h1, h2, h3, h4, h5, h9, h7, h6, h8, h10⟩ := fly_ch I F
  have hfr : X.A.frames = some (X.env :: outer) := by rw [← hst]; exact I.ok.frames
  have hl : s.heap.FunFrames (PySem.W.hideAll s.heap (frs X.stack ++ ch)) (X.env :: outer) := by
    have := PySem.W.funFrames_hide (as := frs X.stack ++ ch) I.stack fun env he b hb => List.mem_append_left _ (List.mem_filterMap.mpr ⟨env, he, hb⟩)
    rw [hst] at this ⊢; exact this
  have hkb : (PySem.W.hideAll s.heap (frs X.stack ++ ch)).StaysIn s.heap := fun b o e => PySem.W.of_hideAll _ e
  have hn : ∀ b ∈ ch, (PySem.W.hideAll s.heap (frs X.stack ++ ch)).get? b = none := fun b hb => PySem.W.hideAll_none _ (List.mem_append_right _ hb)
  have fin : ∀ h', (PySem.W.hideAll s.heap (frs X.stack ++ ch)).StaysIn h' → h'.TracedW (PySem.W.hideAll s.heap (frs X.stack ++ ch)) ea oe.cls a0 → s.heap.UpToSlots h' → Q () { s with heap := h' } := fun h' k1 k2 k3 => by
    have I' := fly_moved (t' := s.toks) I hch k1 k3
    obtain ⟨oe', vs', T, oT, ts, e1, ⟨e2, e3⟩, e4, e5, e6, e7, e8, e9, e10⟩ := k2
    obtain ⟨n1, n2, n3⟩ := fly_new I hex hch k3 e8 e9 e6
    refine hQ h' I' ⟨C, oe', vs', a0, h1, e1, e2.trans h3, e4, e3, h6, h7, h8, h9, ?_⟩
    rw [if_pos rfl]
    exact ⟨T, oT, ts, e5, e7, e8, e9, e10, n1, n2, n3⟩
  cases tr with
  | false =>
    rw [if_neg (by decide)] at h10
    unfold noteFrame
    simp only [hf]
    refine wpAny_bind (wpAny_field h2 h4 h10 ?_)
    rw [if_neg (by decide)]
    refine wpAny_entryW hfr hl hf h2 hkb (hn _ he) h4 (Array.getElem?_eq_some_iff.mp h10).1 h5 fun h' ⟨k1, k2, k3, k4⟩ => ?_
    exact wpAny_landsW ⟨k1, hn _ he, k2, k3⟩ fun h'' ⟨q1, _, _, q2⟩ q3 => fin h'' q1 q2 (Heap.UpToSlots.trans k4 q3)
  | true =>
    rw [if_pos rfl] at h10
    obtain ⟨T, oT, ts, t1, t0, t2, t3, t4, t5⟩ := h10
    refine wpAny_looks_onW hfr hf ⟨hkb, hn _ he, hl, oe, vs, T, oT, ts, h2, ⟨rfl, h5⟩, h4, t1, hn _ t0, t2, t3, t4, t5⟩ fun h' hh k4 => ?_
    exact wpAny_landsW hh fun h'' ⟨q1, _, _, q2⟩ q3 => fin h'' q1 q2 (Heap.UpToSlots.trans k4 q3)
/-- it lands again -/
theorem land_v {M : Model} {A : Around} {Q : Unit → Shared → Prop} {E : Value → Shared → Prop} (hex : X.ex = []) (I : Inv X pins σ H s) (F : Fly X.K X.s₀.heap ((X.pn ++ pins).map (·.1)) ea c n s.heap H true)
    (hQ : ∀ h', Inv X pins σ H { s with heap := h' } → Fly X.K X.s₀.heap ((X.pn ++ pins).map (·.1)) ea c n h' H true → Q () { s with heap := h' }) :
    wpAny M A (setFlight (.ref ea) none) Q E s := by
  obtain ⟨ch, he, hch, C, oe, vs, a0, h1, h2, h3, h4, h5, h9, h7, h6, h8, h10⟩ := fly_ch I F
  have hl : s.heap.FunFrames (PySem.W.hideAll s.heap (frs X.stack ++ ch)) X.stack := 
    PySem.W.funFrames_hide (as := frs X.stack ++ ch) I.stack fun env he b hb => List.mem_append_left _ (List.mem_filterMap.mpr ⟨env, he, hb⟩)
  have hkb : (PySem.W.hideAll s.heap (frs X.stack ++ ch)).StaysIn s.heap := fun b o e => PySem.W.of_hideAll _ e
  have hn : ∀ b ∈ ch, (PySem.W.hideAll s.heap (frs X.stack ++ ch)).get? b = none := fun b hb => PySem.W.hideAll_none _ (List.mem_append_right _ hb)
  rw [if_pos rfl] at h10
  obtain ⟨T, oT, ts, t1, t0, t2, t3, t4, t5⟩ := h10
  refine PyProof.Rows.lands_againW (base := PySem.W.hideAll s.heap (frs X.stack ++ ch)) (l := X.stack) ⟨hkb, hn _ he, hl, oe, vs, T, oT, ts, h2, ⟨rfl, h5⟩, h4, t1, hn _ t0, t2, t3, t4, t5⟩ fun h' ⟨k1, _, _, k2⟩ k3 => ?_
  have I' := fly_moved (t' := s.toks) I hch k1 k3
  obtain ⟨oe', vs', T, oT, ts, e1, ⟨e2, e3⟩, e4, e5, e6, e7, e8, e9, e10⟩ := k2
  obtain ⟨n1, n2, n3⟩ := fly_new I hex hch k3 e8 e9 e6
  refine hQ h' I' ⟨C, oe', vs', a0, h1, e1, e2.trans h3, e4, e3, h6, h7, h8, h9, ?_⟩
  rw [if_pos rfl]
  exact ⟨T, oT, ts, e5, e7, e8, e9, e10, n1, n2, n3⟩

/-- an untracked record is tracked from here on -/
theorem Inv.track (I : Inv X pins σ H s) {o : HO} (hr : X.s₀.heap.get? ea = none ∧ ea ≠ X.env.locals ∧ (∀ x c, X.env.cells.lookup x = some c → c ≠ ea) ∧ (∀ p ∈ X.pn ++ pins, p.1 ≠ ea) ∧ H ea = none)
    (new : ObjOk X.prog X.w (upd H ea o) s.heap ea o) : Inv X pins σ (upd H ea o) s := by
  obtain ⟨r1, r2, r3, r4, r5⟩ := hr
  have ne : ∀ b u, H b = some u → b ≠ ea := fun b u e => ne_of_none e r5
  refine ⟨I.ok, I.os, I.bare, ⟨I.base.keep, I.base.slot, fun b o' e n hx => ?_, I.base.there, fun b xs e => ?_, fun b o' u e => ?_, fun b ps e => ?_⟩, I.loc, I.cell, ?_, fun x c e => ?_, fun p hp => ?_, fun b u e => ?_, I.len⟩
  · rw [upd_ne (fun z => by rw [z, r1] at e; cases e)]; exact I.base.free b o' e n hx
  · have := I.base.tups b xs e; rw [upd_ne (ne _ _ this)]; exact this
  · have := I.base.frzs b o' u e; rw [upd_ne (ne _ _ this)]; exact this
  · obtain ⟨m, this⟩ := I.base.tbls b ps e; exact ⟨m, by rw [upd_ne (ne _ _ this)]; exact this⟩
  · rw [upd_ne (Ne.symm r2)]; exact I.free
  · rw [upd_ne (r3 x c e)]; exact I.freeC x c e
  · obtain ⟨e, n, q⟩ := I.pin p hp
    exact ⟨e, by rw [upd_ne (r4 p hp)]; exact n, q⟩
  · by_cases hb : b = ea
    · subst hb; rw [upd_same] at e; cases e; exact new
    · rw [upd_ne hb] at e
      exact (I.hok b u e).stay (fun c v _ q => q) (fun c q => by rw [upd_ne (ne_of_none q r5)]; exact q) fun c xs q => by rw [upd_ne (ne_of_none q r5)]; exact q
end

/-! ### the handler's suite -/
abbrev markX (X : Cx) (ea : Addr) : Cx := { X with A := X.A.mark (some (.ref ea)), calm := false, xe := fun _ _ => False }
section
variable {X : Cx} {pins : List (Addr × Obj)} {σ : St} {H : Hp} {s : Shared} {ea : Addr}
theorem Inv.marked (I : Inv X pins σ H s) : Inv (markX X ea) pins σ H s :=
  ⟨⟨I.ok.mod, I.ok.kind, I.ok.glob, I.ok.blt, I.ok.above, I.ok.inj, I.ok.has, I.ok.cab, (fun z => nomatch z), I.ok.frames, I.ok.stk, I.ok.exf, I.ok.bs, I.ok.bsz, I.ok.noex, I.ok.exfs, I.ok.funs, I.ok.frf⟩,
    I.os, I.bare, I.base, I.loc, I.cell, I.free, I.freeC, I.pin, I.hok, I.len⟩
theorem Inv.unmarked {τ : St} {H' : Hp} {s' : Shared} (I : Inv X pins σ H s) (J : Inv (markX X ea) pins τ H' s') : Inv X pins τ H' s' :=
  ⟨I.ok, J.os, J.bare, J.base, J.loc, J.cell, J.free, J.freeC, J.pin, J.hok, J.len⟩
/-- the name that the exception had goes -/
theorem goes_ok {M : Model} {A : Around} {E : Value → Shared → Prop} {i : Nat} {x : Str} {pos : Pos} {Q : Unit → Shared → Prop} (I : Inv X pins σ H s) (hN : X.N.Nodup) (hi : X.N[i]? = some x) (hk : X.env.kindOf x = some .local)
    (h : ∀ s', Inv X pins (σ.set i none) H s' → Q () s') : wpAny M A (do bindName X.env x .none; unbindBehindTheSuite X.env x pos) Q E s := by
  obtain ⟨m, hn, hl⟩ := id I.loc
  have hcls : (X.env.scope.kind == .class || (X.env.scope.kind == .module && X.env.locals != X.env.globals)) = false := by rw [I.ok.kind]; rfl
  refine wpAny_nameGoes_keeps hk hn hcls fun h' v hn' hs => ?_
  have hiσ : i < σ.length := by rw [I.len]; exact (List.getElem?_eq_some_iff.mp hi).1
  have cne := I.cne
  obtain ⟨oL, _, _, hoL, _⟩ := id hn
  have tracked : HOk X.prog X.w H h' := fun b ob e => by
    refine (I.hok b ob e).stay (fun c w' hc q => (hs.2 c ?_).trans q) (fun _ q => q) fun _ _ q => q
    rintro rfl
    rcases hc with rfl | hc
    · rw [I.free] at e; cases e
    · rw [I.free] at hc; cases hc
  refine h _ ⟨I.ok, I.os, I.bare, ⟨fun b o e n hb hx => ?_, fun b o e n hb hx => ?_, I.base.free, fun b o e hx => ?_, I.base.tups, I.base.frzs, I.base.tbls⟩, ⟨_, hn', fun j y v' e1 e2 e3 => ?_⟩, fun y c e => ?_, I.free, I.freeC, fun p hp => ?_, tracked, by simpa using I.len⟩
  · exact (hs.2 b (Nat.ne_of_lt (Nat.lt_of_lt_of_le (Heap.lt_size e) I.ok.above))).trans (I.base.keep b o e n hb hx)
  · obtain ⟨sl, e1⟩ := I.base.slot b o e n hb hx
    exact ⟨sl, (hs.2 b (Nat.ne_of_lt (Nat.lt_of_lt_of_le (Heap.lt_size e) I.ok.above))).trans e1⟩
  · obtain ⟨o', e1⟩ := I.base.there b o e hx
    exact ⟨o', (hs.2 b (Nat.ne_of_lt (Nat.lt_of_lt_of_le (Heap.lt_size e) I.ok.above))).trans e1⟩
  · by_cases hj : j = i
    · subst hj
      rw [List.getElem?_set_self hiσ] at e2
      cases e2
    · rw [List.getElem?_set_ne (Ne.symm hj)] at e2
      obtain ⟨u', r', q⟩ := hl j y v' e1 e2 e3
      refine ⟨u', r', ?_⟩
      rcases q with ⟨k, e⟩ | ⟨k, c, e, z⟩
      · refine .inl ⟨k, ?_⟩
        have : y ≠ x := fun e => hj (nodup_ix hN e1 (e ▸ hi))
        simp [this, e]
      · exact .inr ⟨k, c, e, z.sameBut hs (cne y c e)⟩
  · obtain ⟨w', z⟩ := I.cell y c e
    exact ⟨w', z.sameBut hs (cne y c e)⟩
  · obtain ⟨e, n, ne, nf, d⟩ := I.pin p hp
    exact ⟨(hs.2 p.1 ne).trans e, n, ne, nf, d⟩
end
end Vl

set_option Elab.async false
set_option linter.all false
set_option maxRecDepth 100000
set_option maxHeartbeats 4000000
namespace Vl
open PySem PySem.Spec PySem.Calls PySem.W L2

/-! ### isinstance of an exception that is of the class -/
section
variable {K : PySem.W.Frag}
theorem isE_ans {x t c : Value} {h0 : Heap} (ty : ∀ (M : Model), Looks M h0 (typeOf x) t) (e : PySem.W.kitOne K t c = some true) :
    Answers (fun s => K.In s.heap ∧ s.heap = h0) x c true := by
  intro dep tk prog w A R s hs
  obtain ⟨h1, g, d, t0, os⟩ := s
  obtain ⟨⟨Z, e0⟩, hq⟩ := hs
  dsimp only at e0 Z
  subst e0
  have LT := ty (model prog w)
  unfold PySem.W.kitOne at e
  delta Builtin.«isinstance.nested»
  refine wpAny_bind (LT.at ?_)
  by_cases same : (t == c) = true
  · rw [if_pos same]
    first | exact wpAny_bind (wpAny_rule (hq t0)) | exact wpAny_bind (wpAny_rule (wpAny_pure (hq t0)))
  · rw [if_neg same] at e ⊢
    obtain ⟨l1, l2, l3⟩ := PySem.W.kit_cls (M := model prog w) Z e
    have l4 : Looks (model prog w) h1 (isInstance x c) true := LT.andThen l3
    refine wpAny_bind (l1.at ?_)
    rw [if_pos (by decide)]
    k_delta "plainIsInstance"
    refine wpAny_bind (wpAny_bind (l2.at ?_))
    simp only [Bool.not_true, if_false, Bool.false_eq_true]
    refine wpAny_bind (l4.at ?_)
    first
      | exact wpAny_pure (wpAny_pure (hq t0)) | (simp only [if_true]; first | exact wpAny_pure (wpAny_pure (hq t0)) | exact wpAny_pure (hq t0) | exact wpAny_bind (wpAny_pure (wpAny_pure (hq t0))))
end

section
variable {X : Cx} {B : Hp × Hp} {W : Wi}
/-- isinstance(e, C) of an exception whose class m says is C or below it; of others nothing is told -/
def gIsE (m : Str → Bool) : D → Rs D
  | .exn c n => if m c = true then .ok (.bl true) else .no
  | _ => .no
theorem call_isE {m : Str → Bool} {C : Addr} (hm : ∀ c C', m c = true → PySem.W.nsIn X.K mainGlobals c = some (some (.ref C')) → PySem.W.kitOne X.K (.ref C') (.ref C) = some true) :
    CallR X (.builtin "isinstance") (fun xs H Q => ∃ v d, xs = [v, .ref C] ∧ (∃ c n, d = D.exn c n ∧ m c = true) ∧ Rep X.K H d v ∧ Q (.bl true) H) := by
  intro pins s σ H xs us Q I r ⟨v, d, e, ⟨c, n, hd, mc⟩, rd, q⟩
  subst e hd
  cases r with
  | cons r1 r2 =>
    cases r2 with
    | cons r3 r4 =>
      cases r4
      obtain ⟨a, C', rfl, hn, hH⟩ := rep_exn.mp rd
      cases r1
      obtain rfl := (show _ = Value.ref C from r3)
      obtain ⟨⟨o, vs, h1, h2, h3⟩, _⟩ := I.hok _ _ hH
      have ty : ∀ M : Model, Looks M s.heap (typeOf (.ref a)) (.ref C') := fun M => by
        have : Looks M s.heap (typeOf (.ref a)) o.cls := (Looks.ld h1).andThen .now
        rw [h2] at this
        exact this
      refine call_isinstance (S := fun _ R s' => (X.K.In s'.heap ∧ s'.heap = s.heap) ∧ ∀ tk, R (.ok (.ret (.bool true))) { s' with toks := tk })
        (fun prog w A R s' hs => isinstance_outer (isE_ans ty (hm c C' mc hn) 0 _ prog w A R s' hs) (fun z => nomatch z)) ⟨⟨I.kIn, rfl⟩, fun tk => ?_⟩
      exact ⟨.bl true, H, I.tok tk, rfl, q⟩
theorem se_isE {m : Str → Bool} {C : Addr} {x : Str} {e : Expr} {p1 p2 pos : Pos} {f : Rho → Rs D} (hm : ∀ c C', m c = true → PySem.W.nsIn X.K mainGlobals c = some (some (.ref C')) → PySem.W.kitOne X.K (.ref C') (.ref C) = some true)
    (hi : X.mg "isinstance" = none) (hmt : X.mg x = some (.ref C)) (he : SE X B W e f) (hg : Gl X "isinstance" := by rfl) (hgx : Gl X x := by rfl)
    (hst : starEach [e, .Name x p2] X.env = [(false, eval e X.env), (false, eval (.Name x p2) X.env)] := by rfl) (hst2 : starEach [.Name x p2] X.env = [(false, eval (.Name x p2) X.env)] := by rfl) (hd : (x == ("__debug__" : Str)) = false := by decide) :
    SE X B W (.Call (.Name "isinstance" p1) [e, .Name x p2] [] pos) (fun ρ => (f ρ).bind (gIsE m)) := by
  refine PE.imp (pe_callB (call_isE hm) hg hi PyProof.Rows.boot_isinstance (pa_cons he (pa_cons (pe_glob (v := .ref C) hgx hmt rfl hd) pa_nil (by rw [hst2]; rfl)) (by rw [hst, hst2])) (by decide) (by decide) (by rw [hst, hst2]) (by rw [hst2]; rfl)) fun σ H Q h => ?_
  obtain ⟨ρ, G, s, p⟩ := tF_bind (k := fun _ => gIsE m) h
  refine ⟨ρ, G, s, p.mono fun v H1 ⟨ρ1, G1, d, s1, r, q⟩ => ?_⟩
  cases d with
  | exn c n =>
    simp only [gIsE] at q
    by_cases mc : m c = true
    · rw [if_pos mc] at q; exact ⟨v, _, rfl, ⟨c, n, rfl, mc⟩, r.mono s1.en.gh, Post.ok s1 q (rep_bl.mpr rfl)⟩
    · rw [if_neg mc] at q; exact q.elim
  | _ => exact q.elim

/-! ### try: .. except C as e: .. -/
theorem SR.unset {K : PySem.W.Frag} {σ : St} {H G : Hp} {ρ : Rho} (h : SR K B σ H ρ G) (i : Nat) : SR K B (σ.set i none) H (ρ.set i .no) G := by
  have ne : ∀ {j : Nat} {x : Sl}, (ρ.set i .no)[j]? = some x → x ≠ .no → i ≠ j ∧ ρ[j]? = some x := fun {j x} q hx => by
    by_cases e : i = j
    · subst e
      have hl : i < ρ.length := by
        have := (List.getElem?_eq_some_iff.mp q).1; simpa using this
      rw [List.getElem?_set_self hl] at q
      cases q; exact absurd rfl hx
    · rw [List.getElem?_set_ne e] at q; exact ⟨e, q⟩
  refine ⟨h.en, by simp [h.len], fun j d q => ?_, fun j ds q => ?_, fun j k ds es a q1 q2 q3 q4 => ?_⟩
  · obtain ⟨e, q⟩ := ne q (by simp); rw [List.getElem?_set_ne e]; exact h.fz j d q
  · obtain ⟨e, q⟩ := ne q (by simp); rw [List.getElem?_set_ne e]; exact h.ow j ds q
  · obtain ⟨e1, q1⟩ := ne q1 (by simp)
    obtain ⟨e2, q2⟩ := ne q2 (by simp)
    rw [List.getElem?_set_ne e1] at q3; rw [List.getElem?_set_ne e2] at q4
    exact h.ap j k ds es a q1 q2 q3 q4
def offI (i : Nat) : Ou → Ou
  | .nx ρ => .nx (ρ.set i .no)
  | .bk ρ => .bk (ρ.set i .no)
  | .ct ρ => .ct (ρ.set i .no)
  | .rt d => .rt d
  | _ => .no
def gTry (m : Str → Bool) (i : Nat) (gb gs : Rho → Ou) : Rho → Ou := fun ρ => match gb ρ with
  | .ex c n ρ' => if m c = true then offI i (gs (ρ'.set i (.fz (.exn c n)))) else .no
  | o => o
theorem ext_exn {G H : Hp} (gh : Same G H) (tp : ∀ a xs, H a = some (.tup xs) → G a = some (.tup xs)) {p : Addr} {φ : Heap → Prop} (hp : H p = none) : Ext G H (upd G p (.ext φ)) (upd H p (.ext φ)) where
  gg := fun b o e => by rw [upd_ne (ne_of_none (gh _ _ e) hp)]; exact e
  hh := fun b o e => by rw [upd_ne (ne_of_none e hp)]; exact e
  gh := fun b o e => by
    by_cases q : b = p
    · subst q; rw [upd_same] at e ⊢; exact e
    · rw [upd_ne q] at e ⊢; exact gh _ _ e
  tp := fun b ys e => by
    by_cases q : b = p
    · subst q; rw [upd_same] at e; cases e
    · rw [upd_ne q] at e ⊢; exact tp _ _ e
  nw := fun b o e n => by rw [upd_ne (ne_of_none e hp)]; exact n
abbrev tryX (X : Cx) (E : Value → Shared → Prop) (pl : List (Addr × Obj)) : Cx := { X with xe := E, pn := X.pn ++ pl }
theorem Inv.tried {pins : List (Addr × Obj)} {σ : St} {H : Hp} {s : Shared} {E : Value → Shared → Prop} (I : Inv X pins σ H s) : Inv (tryX X E pins) [] σ H s :=
  ⟨⟨I.ok.mod, I.ok.kind, I.ok.glob, I.ok.blt, I.ok.above, I.ok.inj, I.ok.has, I.ok.cab, I.ok.hd, I.ok.frames, I.ok.stk, I.ok.exf, I.ok.bs, I.ok.bsz, I.ok.noex, I.ok.exfs, I.ok.funs, I.ok.frf⟩,
    I.os, I.bare, I.base, I.loc, I.cell, I.free, I.freeC, fun p hp => I.pin p (by simpa using hp), I.hok, I.len⟩
theorem Inv.untried {pins pins' : List (Addr × Obj)} {σ τ : St} {H H' : Hp} {s s' : Shared} {E : Value → Shared → Prop} (I : Inv X pins σ H s) (J : Inv (tryX X E pins) pins' τ H' s') : Inv X pins τ H' s' :=
  ⟨I.ok, J.os, J.bare, J.base, J.loc, J.cell, J.free, J.freeC, fun p hp => J.pin p (List.mem_append_left _ hp), J.hok, J.len⟩
theorem Fly.weak {K : PySem.W.Frag} {old : Heap} {av av' : List Addr} {ea : Addr} {c : Str} {n : Int} {h : Heap} {H : Hp} {tr : Bool} (F : Fly K old av ea c n h H tr) (w : ∀ b, b ∈ av' → b ∈ av) : Fly K old av' ea c n h H tr := by
  obtain ⟨C, oe, vs, a0, h1, h2, h3, h4, h5, h6, h7, h8, h9, h10⟩ := F
  refine ⟨C, oe, vs, a0, h1, h2, h3, h4, h5, h6, h7, fun z => h8 (w _ z), h9, ?_⟩
  cases tr with
  | false => exact h10
  | true =>
    rw [if_pos rfl] at h10 ⊢
    obtain ⟨T, oT, ts, t1, t2, t3, t4, t5, t6, t7, t8⟩ := h10
    exact ⟨T, oT, ts, t1, t2, t3, t4, t5, t6, t7, fun z => t8 (w _ z)⟩
theorem ss_try {body suite : List Stmt} {b₀ : Stmt} {x n : Str} {np hpos pos : Pos} {i : Nat} {CB : Addr} {m : Str → Bool} {gb gs : Rho → Ou} {outer : List Env} {L : Addr}
    (hst : X.stack = X.env :: outer) (hf : X.env.frame = some L) (hex : X.ex = []) (hN : X.N.Nodup) (hi : X.N[i]? = some n) (hk : X.env.kindOf n = some .local)
    (hg : Gl X x) (hmx : X.mg x = some (.ref CB)) (hm : ∀ c C, m c = true → PySem.W.nsIn X.K mainGlobals c = some (some (.ref C)) → PySem.W.exmOne X.K (.ref C) (.ref CB) = some true)
    (hb : ∀ (E : Value → Shared → Prop) (pl : List (Addr × Obj)) (W' : Wi), PassV (tryX X E pl) W' → SSs (tryX X E pl) B W' body gb) (hs : ∀ ea, SSs (markX X ea) B WF (b₀ :: suite) gs)
    (hd : (x == ("__debug__" : Str)) = false := by decide) :
    SS X B W (.Try body [.ExceptHandler (some (.Name x np)) (some n) (b₀ :: suite) hpos] [] [] pos) (gTry m i gb gs) := by
  intro pins s σ H De I ⟨ρ, G, sr, p⟩
  refine wpAny_Try_except ?_
  let E1 : Value → Shared → Prop := fun e s₁ => wpAny (model X.prog X.w) X.A (noteFrame e X.env) (fun _ s₂ => wpAny (model X.prog X.w) X.A (setFlight e none) (fun _ s₃ => wpAny (model X.prog X.w) X.A (handleBy e X.env [.ExceptHandler (some (.Name x np)) (some n) (b₀ :: suite) hpos]) (SP X pins De) X.xe s₃) X.xe s₂) X.xe s₁
  let W1 : Wi := fun c k σ' H' => ∃ ρ' G', gb ρ = .ex c k ρ' ∧ SR X.K B σ' H' ρ' G' ∧ Same G G'
  have hpost : PostS X.K B W1 G (gb ρ) De := by
    unfold gTry at p
    cases e : gb ρ with
    | ex c k ρ' => exact fun σ' H' G' s' q => ⟨ρ', G', e, s', q⟩
    | nx _ => rw [e] at p; exact p
    | bk _ => rw [e] at p; exact p
    | ct _ => rw [e] at p; exact p
    | rt _ => rw [e] at p; exact p
    | no => rw [e] at p; exact p
  have hpass : PassV (tryX X E1 pins) W1 := by
    intro pins' σ' H' s1 ea c k tr I1 F1 ⟨ρ', G', e1, sr', sg⟩
    have J1 : Inv X pins σ' H' s1 := (Inv.untried I I1)
    have F1' : Fly X.K X.s₀.heap ((X.pn ++ pins).map (·.1)) ea c k s1.heap H' tr := F1.weak fun b z => by
      obtain ⟨q, hq, e⟩ := List.mem_map.mp z
      exact List.mem_map.mpr ⟨q, List.mem_append_left _ hq, e⟩
    unfold gTry at p
    rw [e1] at p
    dsimp only at p
    by_cases mc : m c = true
    · rw [if_pos mc] at p
      refine catch_v hst hf hex J1 F1' fun h' J2 F2 => ?_
      refine wpAny_handleBy_cons (codeAny_handlers_test (ld_glob (X := markX X ea) (Inv.marked J2) hg hmx ?_ hd)) (by intro q; cases q)
      have LT : ∃ C, PySem.W.nsIn X.K mainGlobals c = some (some (.ref C)) ∧ Looks (model X.prog X.w) h' (typeOf (.ref ea)) (.ref C) := by
        obtain ⟨C, oe, vs, a0, h1, h2, h3, _⟩ := F2
        refine ⟨C, h1, ?_⟩
        have : Looks (model X.prog X.w) h' (typeOf (.ref ea)) oe.cls := (Looks.ld h2).andThen .now
        rw [h3] at this
        exact this
      obtain ⟨C, hC, LT⟩ := LT
      refine (PySem.W.exm_one J2.kIn LT (hm c C mc hC)).here ?_
      show codeAny _ _ _ _ _
      refine codeAny_handlers_suite_as ?_
      refine land_v hex J2 F2 fun h'' J3 F3 => ?_
      obtain ⟨C', oe, vs, a0, h1, h2, h3, h4, h5, h6, h7, h8, h9, h10⟩ := F3
      have J4 : Inv X pins σ' (upd H' ea (.ext (ExnAt ea C' k))) { s1 with heap := h'' } := by
        refine Inv.track J3 (rec_ok J3 h2 h4 h7 h6 fun q hq z => h8 (List.mem_map.mpr ⟨q, hq, z⟩)) ⟨⟨oe, vs, h2, h3, h4, h9⟩, ⟨oe, h2⟩, ?_⟩
        intro a1 a2 ⟨o, ws, b1, b2, b3, b4⟩ kp
        exact ⟨o, ws, kp o b1, b2, b3, b4⟩
      have x4 : Ext G' H' (upd G' ea (.ext (ExnAt ea C' k))) (upd H' ea (.ext (ExnAt ea C' k))) := ext_exn sr'.en.gh sr'.en.tp h6
      have sr4 := (sr'.ext x4).set (i := i) (d := .exn c k) (v := .ref ea) (rep_exn.mpr ⟨ea, C', rfl, h1, upd_same⟩)
      refine store_ok (X := markX X ea) (Inv.marked J4) hN hi (.inl hk) (v := .ref ea) rfl (fun s5 J5 => ?_) (.inr hk)
      have hpost2 : PostS X.K B WF (upd G' ea (.ext (ExnAt ea C' k))) (gs (ρ'.set i (.fz (.exn c k)))) { nx := fun σ6 H6 => De.nx (σ6.set i none) H6, bk := fun σ6 H6 => De.bk (σ6.set i none) H6, ct := fun σ6 H6 => De.ct (σ6.set i none) H6, rt := De.rt } := by
        have sg4 := sg.trans x4.gg
        cases e : gs (ρ'.set i (.fz (.exn c k))) with
        | nx ρ6 => rw [e] at p; exact fun σ6 H6 G6 s6 q6 => p _ H6 G6 (s6.unset i) (sg4.trans q6)
        | bk ρ6 => rw [e] at p; exact fun σ6 H6 G6 s6 q6 => p _ H6 G6 (s6.unset i) (sg4.trans q6)
        | ct ρ6 => rw [e] at p; exact fun σ6 H6 G6 s6 q6 => p _ H6 G6 (s6.unset i) (sg4.trans q6)
        | rt d => rw [e] at p; exact fun v H6 G6 s6 q6 => p v H6 G6 s6 (sg4.trans q6)
        | ex c' k' ρ6 => rw [e] at p; exact p.elim
        | no => rw [e] at p; exact p.elim
      refine wpAny_mono (hs ea pins s5 _ _ _ J5 ⟨_, _, sr4, hpost2⟩) (fun f s6 h => ?_) fun _ _ z => z.elim
      show wpAny _ _ _ _ _ _
      cases f with
      | next => obtain ⟨σ6, H6, J6, d6⟩ := h; exact goes_ok (Inv.unmarked I J6) hN hi hk fun s7 J7 => ⟨_, _, J7, d6⟩
      | brk => obtain ⟨σ6, H6, J6, d6⟩ := h; exact goes_ok (Inv.unmarked I J6) hN hi hk fun s7 J7 => ⟨_, _, J7, d6⟩
      | cont => obtain ⟨σ6, H6, J6, d6⟩ := h; exact goes_ok (Inv.unmarked I J6) hN hi hk fun s7 J7 => ⟨_, _, J7, d6⟩
      | ret u => obtain ⟨v, σ6, H6, J6, rv, d6⟩ := h; exact goes_ok (Inv.unmarked I J6) hN hi hk fun s7 J7 => ⟨v, _, _, J7, rv, d6⟩
    · rw [if_neg mc] at p; exact p.elim
  refine wpAny_mono (hb E1 pins W1 hpass [] s σ H De (Inv.tried I) ⟨ρ, G, sr, hpost⟩) (fun f s1 h => ?_) fun _ _ z => z
  cases f with
  | next => obtain ⟨σ6, H6, J6, d6⟩ := h; exact wpAny_execs_nil ⟨σ6, H6, (Inv.untried I J6), d6⟩
  | brk => obtain ⟨σ6, H6, J6, d6⟩ := h; exact ⟨σ6, H6, (Inv.untried I J6), d6⟩
  | cont => obtain ⟨σ6, H6, J6, d6⟩ := h; exact ⟨σ6, H6, (Inv.untried I J6), d6⟩
  | ret u => obtain ⟨v, σ6, H6, J6, rv, d6⟩ := h; exact ⟨v, σ6, H6, (Inv.untried I J6), rv, d6⟩
end
end Vl

set_option Elab.async false
set_option linter.all false
set_option maxRecDepth 100000
set_option maxHeartbeats 4000000
namespace Vl
open PySem PySem.Spec PySem.Calls PySem.W L2
/-! ### readings in short words -/
def rNx : Rho → Ou := fun ρ => .nx ρ
def rNo : Rho → Ou := fun _ => .no
def rSeq (g k : Rho → Ou) : Rho → Ou := fun ρ => oSeq (g ρ) k
def rRet (f : Rho → Rs D) : Rho → Ou := fun ρ => oR (f ρ) ρ .rt
def rRetN : Rho → Ou := fun _ => .rt .non
def rExp (f : Rho → Rs D) : Rho → Ou := fun ρ => oR (f ρ) ρ fun _ => .nx ρ
def rIf (c : Rho → Rs Bool) (a b : Rho → Ou) : Rho → Ou := fun ρ => oR (c ρ) ρ fun x => if x = true then a ρ else b ρ
def rAsg (f : Rho → Rs D) (h : Tg) : Rho → Ou := fun ρ => oR (f ρ) ρ fun d => oO (h d ρ)
def rSet (i : Nat) (f : Rho → Rs D) : Rho → Ou := fun ρ => oR (f ρ) ρ fun d => .nx (ρ.set i (.fz d))
def rRse (x : Str) (fs : Rho → Rs (List D)) : Rho → Ou := fun ρ => oR (fs ρ) ρ fun ds => if ds.length ≤ 1000 then .ex x 0 ρ else .no
def rNox (g : Rho → Ou) : Rho → Ou := fun ρ => noEx (g ρ)
def fNeg (f : Rho → Rs D) : Rho → Rs D := fun ρ => (f ρ).bind gNeg
def fB (f : Rho → Rs D) (g : D → Rs D) : Rho → Rs D := fun ρ => (f ρ).bind g
def fL (f : Rho → Rs D) (g : D → Rs (List D)) : Rho → Rs (List D) := fun ρ => (f ρ).bind g
section
variable {X : Cx} {B : Hp × Hp} {W : Wi}
theorem rs_nil : SSs X B W [] rNx := ss_nil
theorem rs_cons {st : Stmt} {rest : List Stmt} {g k : Rho → Ou} (h1 : SS X B W st g) (h2 : SSs X B W rest k) : SSs X B W (st :: rest) (rSeq g k) := ss_cons h1 h2
theorem rs_one {st : Stmt} {g : Rho → Ou} (h1 : SS X B W st g) : SSs X B W [st] g := ss_one h1
theorem rs_no {st : Stmt} : SS X B W st rNo := ss_never
theorem rs_pass {pos} : SS X B W (.Pass pos) rNx := ss_pass
theorem rs_ret {e : Expr} {pos} {f : Rho → Rs D} (h : SE X B W e f) : SS X B W (.Return (some e) pos) (rRet f) := ss_ret h
theorem rs_retN {pos} : SS X B W (.Return none pos) rRetN := ss_retN
theorem rs_exp {e : Expr} {pos : Pos} {f : Rho → Rs D} (h : SE X B W e f) (hs : swapsWith e none pos.line X.env = pure false := by rfl) : SS X B W (.Expr e pos) (rExp f) := ss_expr h hs
theorem rs_if {c : Expr} {a b : List Stmt} {pos : Pos} {fc : Rho → Rs Bool} {ga gb : Rho → Ou} (hc : ST X B W c fc) (ha : SSs X B W a ga) (hb : SSs X B W b gb) : SS X B W (.If c a b pos) (rIf fc ga gb) := ss_if hc ha hb
theorem rs_asg {tg e : Expr} {pos : Pos} {f : Rho → Rs D} {h : Tg} (he : SE X B W e f) (hg : SG X B tg h) (hs : swapsWithSole [tg] e pos.line X.env = pure false := by rfl) (hw : swappedStores [tg] e X.env = pure none := by rfl)
    (h1 : (assignEach [tg] X.env).map (·.2) = [assign tg X.env] := by rfl) : SS X B W (.Assign [tg] e pos) (rAsg f h) := ss_asg he hg hs hw h1
theorem rs_set (i : Nat) {x : Str} {e : Expr} {pos pos' : Pos} {f : Rho → Rs D} (hN : X.N.Nodup) (he : SE X B W e f) (hi : X.N[i]? = some x := by rfl) (hx : Loc X.env.scope x := by first | exact Or.inl rfl | exact Or.inr rfl) (hs : swapsWith e (some (.Name x pos')) pos.line X.env = pure false := by rfl) (hf : X.fn x = true ∨ X.env.scope.names.lookup x = some .local := by first | exact .inl rfl | exact .inr rfl | assumption) :
    SS X B W (.Assign [.Name x pos'] e pos) (rSet i f) := ss_set hN hi hx he hs hf
theorem rs_nox {st : Stmt} {g : Rho → Ou} (h : SS X.nox B WF st g) : SS X B W st (rNox g) := ss_nox h
theorem re_neg {a : Expr} {pos : Pos} {fa : Rho → Rs D} (ha : SE X B W a fa) : SE X B W (.UnaryOp .USub a pos) (fNeg fa) := se_neg ha
theorem rg (i : Nat) {x : Str} {pos : Pos} (hN : X.N.Nodup) (hi : X.N[i]? = some x := by rfl) (hx : Loc X.env.scope x := by first | exact Or.inl rfl | exact Or.inr rfl) (hf : X.fn x = true ∨ X.env.scope.names.lookup x = some .local := by first | exact .inl rfl | exact .inr rfl | assumption) : SG X B (.Name x pos) (hName i) :=
  sg_name hN hi hx hf
theorem re_is {t : Ty} {x : Str} {e : Expr} {p1 p2 pos : Pos} {f : Rho → Rs D} (hm : X.mg "isinstance" = none) (hmt : X.mg x = none) (he : SE X B W e f) (hv : bootBuiltins x = some (.type t.nm)) (hg : Gl X "isinstance" := by rfl) (hgx : Gl X x := by rfl)
    (hst : starEach [e, .Name x p2] X.env = [(false, eval e X.env), (false, eval (.Name x p2) X.env)] := by rfl) (hst2 : starEach [.Name x p2] X.env = [(false, eval (.Name x p2) X.env)] := by rfl) (hn : x ≠ "__name__" := by decide) (hd : (x == ("__debug__" : Str)) = false := by decide) :
    SE X B W (.Call (.Name "isinstance" p1) [e, .Name x p2] [] pos) (fB f (gIs t)) := se_is hm hmt he hv hg hgx hst hst2 hn hd
theorem re_isE {m : Str → Bool} {C : Addr} {x : Str} {e : Expr} {p1 p2 pos : Pos} {f : Rho → Rs D} (hm : ∀ c C', m c = true → PySem.W.nsIn X.K mainGlobals c = some (some (.ref C')) → PySem.W.kitOne X.K (.ref C') (.ref C) = some true)
    (hi : X.mg "isinstance" = none) (hmt : X.mg x = some (.ref C)) (he : SE X B W e f) (hg : Gl X "isinstance" := by rfl) (hgx : Gl X x := by rfl)
    (hst : starEach [e, .Name x p2] X.env = [(false, eval e X.env), (false, eval (.Name x p2) X.env)] := by rfl) (hst2 : starEach [.Name x p2] X.env = [(false, eval (.Name x p2) X.env)] := by rfl) (hd : (x == ("__debug__" : Str)) = false := by decide) :
    SE X B W (.Call (.Name "isinstance" p1) [e, .Name x p2] [] pos) (fB f (gIsE m)) := se_isE hm hi hmt he hg hgx hst hst2 hd
theorem ri_list {tg iter : Expr} {f : Rho → Rs D} (hi : SE X B W iter f) : SI X B W tg iter (fL f asL) := si_list hi
theorem ri_tup {tg iter : Expr} {f : Rho → Rs D} (hi : SE X B W iter f) : SI X B W tg iter (fL f asT) := si_tup hi
theorem ri_range {tg e : Expr} {p1 p2 : Pos} {f : Rho → Rs D} (hm : X.mg "range" = none) (hi : SE X B W e f) (hgl : Gl X "range" := by rfl) (hst : starEach [e] X.env = [(false, eval e X.env)] := by rfl) : SI X B W tg (.Call (.Name "range" p1) [e] [] p2) (fL f asR) := si_range hm hi hgl hst
theorem re_all {e : Expr} {p pos : Pos} {fa : Rho → Rs D} (hc : X.calm = true) (hm : X.mg "all" = none) (ha : SE X B W e fa) (hg : Gl X "all" := by rfl) (he : starEach [e] X.env = [(false, eval e X.env)] := by rfl) : SE X B W (.Call (.Name "all" p) [e] [] pos) (fA (fCons fa fNil) gAll) :=
  se_callB (call_allL hc) cd_all hg hm rfl (sa_cons ha sa_nil he) (by decide) (by decide) he rfl
theorem re_divmod {e e' : Expr} {p pos : Pos} {fa fb : Rho → Rs D} (hm : X.mg "divmod" = none) (ha : SE X B W e fa) (hb : SE X B W e' fb) (hg : Gl X "divmod" := by rfl) (he : starEach [e, e'] X.env = [(false, eval e X.env), (false, eval e' X.env)] := by rfl) (he' : starEach [e'] X.env = [(false, eval e' X.env)] := by rfl) :
    SE X B W (.Call (.Name "divmod" p) [e, e'] [] pos) (fA (fCons fa (fCons fb fNil)) gDm) :=
  se_callB call_divmodB cd_dm hg hm rfl (sa_cons ha (sa_cons hb sa_nil he') (by rw [he, he'])) (by decide) (by decide) (by rw [he, he']) (by rw [he']; rfl)
end

/-! ### a def of the text, known to be worth v -/
def Okd (P : Program) (w : World) (K : PySem.W.Frag) (mg : Str → Option Value) (base : Heap) (x : Str) (k n : Nat) (v : List D → Rs D) : Prop :=
  ∃ f fd ps, FnOk P w K mg base (CXv P w K) k f fd ps (spV K n v) ∧ mg x = some (.ref f) ∧ PySem.W.keepIn K (.ref f) = true ∧ Binds K fd ps []
theorem Okd.by {P : Program} {w : World} {K : PySem.W.Frag} {mg : Str → Option Value} {base : Heap} {x : Str} {k n : Nat} {v v' : List D → Rs D} (O : Okd P w K mg base x k n v) (h : ∀ ds, ds.length = n → (match v' ds with | .ok d => v ds = .ok d | .ex c m => v ds = .ex c m | .no => True)) : Okd P w K mg base x k n v' := by
  obtain ⟨f, fd, ps, F, r⟩ := O
  exact ⟨f, fd, ps, fn_by F h, r⟩
theorem okd_of {P : Program} {w : World} {K : PySem.W.Frag} {mg : Str → Option Value} {base : Heap} {x : Str} {st : Stmt} {f : Addr} {fd : FuncData} {N ps : List Str} {k : Nat} {g : Rho → Ou} (F : Fun K x x st f fd) (hm : mg x = some (.ref f)) (S : FnScope N ps (defScope st))
    (hbi : ∀ (kV doc pm : Value) (an : Option Addr) (cdv ct : Value) (us : List Value), us.length = ps.length → bindArgs (PySem.W.fnOf x x (defArgs st) (defBody st) (defScope st) .none kV doc pm an cdv ct) ⟨us, []⟩ = pure (ps.zip us))
    (hb : ∀ (cdv : Value) (A : Around) (outer : List Env) (s : Shared) (H : Hp) (E : XK) (B : Hp × Hp), Room k (A.deeper (PyProof.Rows.envOfC x (defScope st) s.heap.objs.size f cdv)) →
      PassC (cxOf (CXv P w K) P w K mg base N x (defScope st) f cdv A outer s H E) (fun c n _ H' => E (enc c n) none H') →
      SSs (cxOf (CXv P w K) P w K mg base N x (defScope st) f cdv A outer s H E) B (fun c n _ H' => E (enc c n) none H') (defBody st) g) :
    Okd P w K mg base x (k + 1) ps.length (fun ds => fin (g (startR N ds))) :=
  ⟨f, fd, ps, fn_v F S fun cdv A outer s H E B hr => hb cdv A outer s H E B hr (passC_of pass_body rfl), hm, F.kp, F.binds hbi⟩
section
variable {X : Cx} {B : Hp × Hp} {W : Wi}
theorem re_call {x : Str} {p pos : Pos} {e : Expr} {es : List Expr} {fs : Rho → Rs (List D)} {k n : Nat} {g : List D → Rs D} (O : Okd X.prog X.w X.K X.mg X.base x k n g) (hr : Room k X.A) (hx : PassC X W) (ha : SA X B W (e :: es) fs) (hg : Gl X x := by rfl) (hdb : (x == ("__debug__" : Str)) = false := by decide)
    (he : starEach (e :: es) X.env = (false, eval e X.env) :: starEach es X.env := by rfl) (hpl : (backTo pos (starEach es X.env)).any (·.1) = false := by rfl) : SE X B W (.Call (.Name x p) (e :: es) [] pos) (fA fs (gCallX n g)) := by
  obtain ⟨f, fd, ps, F, hm, hk, hb⟩ := O
  exact se_call F hr hg hm hk hb hx ha hdb he hpl
end
end Vl

set_option Elab.async false
set_option linter.all false
set_option maxRecDepth 100000
set_option maxHeartbeats 4000000
namespace Vl
open PySem PySem.Spec PySem.Calls PySem.W L2
/-! ### comprehensions in short words -/
def capsB (S sc : Scope) (NX N : List Str) (nt : Nat) (caps : List Nat) : Bool :=
  decide (sc.kind = .function) && sc.names.all (fun y => y.2 != .cell) && sc.names.all (fun y => y.2 != .free || S.names.lookup y.1 == some .cell || S.names.lookup y.1 == some .free) && decide (N.length = nt + caps.length) &&
    (List.range caps.length).all fun j => match caps[j]?, N[nt + j]? with | some i, some x => NX[i]? == some x && sc.names.lookup x == some .free | _, _ => true
theorem caps_of {X : Cx} {sc : Scope} {N : List Str} {nt : Nat} {caps : List Nat} (S : Scope) (NX : List Str) (h : capsB S sc NX N nt caps = true) (hS : X.env.scope = S := by rfl) (hX : X.N = NX := by rfl) : Caps X sc N nt caps := by
  unfold capsB at h
  simp only [Bool.and_eq_true, decide_eq_true_eq, List.all_eq_true, bne_iff_ne, Bool.or_eq_true, beq_iff_eq, ne_eq] at h
  obtain ⟨⟨⟨⟨h1, h2⟩, h3⟩, h4⟩, h5⟩ := h
  refine ⟨h1, fun y hy => h2 y hy, fun y hy hf => ?_, h4, fun j i x e1 e2 => ?_⟩
  · have := h3 y hy
    unfold Env.kindOf
    rw [hS]
    rcases this with (h | h) | h
    · exact absurd hf h
    · exact .inl h
    · exact .inr h
  · have := h5 j (by rw [List.mem_range]; exact (List.getElem?_eq_some_iff.mp e1).1)
    rw [e1, e2] at this
    simp only [Bool.and_eq_true, beq_iff_eq] at this
    rw [hX]
    exact this
theorem keep_name {i : Nat} : KeepNo (hName i) := by
  intro d ρ ρ' no e j ds q
  unfold hName at e
  cases e
  by_cases c : i = j
  · subst c
    have hl : i < ρ.length := by
      have := (List.getElem?_eq_some_iff.mp q).1; simpa using this
    rw [List.getElem?_set_self hl] at q
    cases q
  · rw [List.getElem?_set_ne c] at q; exact no j ds q
def KeepNos (h : List D → Rho → Option Rho) : Prop := ∀ ds ρ ρ', NoOw ρ → h ds ρ = some ρ' → NoOw ρ'
theorem keep_nil : KeepNos hNil := fun ds ρ ρ' no e => by
  cases ds with
  | nil => cases e; exact no
  | cons _ _ => cases e
theorem keep_cons {h : Tg} {k : List D → Rho → Option Rho} (h1 : KeepNo h) (h2 : KeepNos k) : KeepNos (hCons h k) := fun ds ρ ρ' no e => by
  cases ds with
  | nil => cases e
  | cons d ds =>
    simp only [hCons] at e
    cases e1 : h d ρ with
    | none => rw [e1] at e; cases e
    | some ρ1 => rw [e1] at e; exact h2 ds ρ1 ρ' (h1 d ρ ρ1 no e1) e
theorem keep_tup {n : Nat} {k : List D → Rho → Option Rho} (h : KeepNos k) : KeepNo (hTup n k) := fun d ρ ρ' no e => by
  cases d with
  | tup ds =>
    simp only [hTup] at e
    split at e
    · exact h ds ρ ρ' no e
    · cases e
  | _ => cases e
theorem re_comp {X : Cx} {B : Hp × Hp} {W : Wi} {tg iter : Expr} {elt : Expr} {sc : Scope} {pos : Pos} {N : List Str} {nt : Nat} {caps : List Nat} {h : Tg} {fe : Rho → Rs D} {fi : Rho → Rs (List D)}
    (c : Caps X sc N nt caps) (hc : X.calm = true) (hnames : sc.names.all (fun y => y.2 != .local || sc.names.lookup y.1 == some .local) = true) (hi : SI X B W tg iter fi) (hno : KeepNo h)
    (ht : ∀ s₀ H₀ C ex pins B', SG (compX X N s₀ H₀ sc (clOf sc X.env) C ex pins) B' tg h)
    (he : ∀ s₀ H₀ C ex pins B', SE (compX X N s₀ H₀ sc (clOf sc X.env) C ex pins) B' WF elt fe)
    (hs : ∀ x, foldedSetIterable iter X.env x = pure x := by intro _; rfl) :
    SE X B W (.ListComp elt [⟨tg, iter, [], 0⟩] sc pos) (gComp h (fun _ => .ok true) fe nt caps fi) :=
  se_comp c hc (fun y hy hl => by
    have := List.all_eq_true.mp hnames y hy
    simp only [Bool.or_eq_true, bne_iff_ne, beq_iff_eq, ne_eq] at this
    exact this.elim (fun z => absurd hl z) id) hi hno ht (.inl ⟨rfl, rfl⟩) he hs
theorem re_compIf {X : Cx} {B : Hp × Hp} {W : Wi} {tg iter : Expr} {elt cnd : Expr} {sc : Scope} {pos : Pos} {N : List Str} {nt : Nat} {caps : List Nat} {h : Tg} {ft : Rho → Rs Bool} {fe : Rho → Rs D} {fi : Rho → Rs (List D)}
    (c : Caps X sc N nt caps) (hc : X.calm = true) (hnames : sc.names.all (fun y => y.2 != .local || sc.names.lookup y.1 == some .local) = true) (hi : SI X B W tg iter fi) (hno : KeepNo h)
    (ht : ∀ s₀ H₀ C ex pins B', SG (compX X N s₀ H₀ sc (clOf sc X.env) C ex pins) B' tg h)
    (hif : ∀ s₀ H₀ C ex pins B', ST (compX X N s₀ H₀ sc (clOf sc X.env) C ex pins) B' WF cnd ft)
    (he : ∀ s₀ H₀ C ex pins B', SE (compX X N s₀ H₀ sc (clOf sc X.env) C ex pins) B' WF elt fe)
    (hs : ∀ x, foldedSetIterable iter X.env x = pure x := by intro _; rfl) :
    SE X B W (.ListComp elt [⟨tg, iter, [cnd], 0⟩] sc pos) (gComp h ft fe nt caps fi) :=
  se_comp c hc (fun y hy hl => by
    have := List.all_eq_true.mp hnames y hy
    simp only [Bool.or_eq_true, bne_iff_ne, beq_iff_eq, ne_eq] at this
    exact this.elim (fun z => absurd hl z) id) hi hno ht (.inr ⟨cnd, rfl, hif⟩) he hs
def rPar (i j : Nat) (fs : Rho → Rs (List D)) : Rho → Ou := fun ρ => oR (fs ρ) ρ fun ds => match ds with
  | [d, e] => .nx ((ρ.set i (.fz d)).set j (.fz e))
  | _ => .no
theorem rs_par {X : Cx} {B : Hp × Hp} {W : Wi} (i j : Nat) {x y : Str} {a b : Expr} {fs : Rho → Rs (List D)} {px py pt pos : Pos} {kt k2 pt2} (hc : X.calm = true) (hN : X.N.Nodup) (ha : SA X B W [a, b] fs) (hi : X.N[i]? = some x := by rfl) (hj : X.N[j]? = some y := by rfl) (hij : i ≠ j := by decide)
    (hx : X.env.scope.names.lookup x = some .local := by rfl) (hy : X.env.scope.names.lookup y = some .local := by rfl)
    (hw : swappedStores [.Tuple [.Name x px, .Name y py] kt pt] (.Tuple [a, b] k2 pt2) X.env = pure (some [x, y]) := by rfl)
    (hs : swapsWithSole [.Tuple [.Name x px, .Name y py] kt pt] (.Tuple [a, b] k2 pt2) pos.line X.env = pure false := by rfl) :
    SS X B W (.Assign [.Tuple [.Name x px, .Name y py] kt pt] (.Tuple [a, b] k2 pt2) pos) (rPar i j fs) := by
  refine PS.imp (ps_par hc hN hi hj hij hx hy ha hw hs) fun De σ H ⟨ρ, G, s, p⟩ => ⟨ρ, G, s, ?_⟩
  unfold rPar at p
  cases e : fs ρ with
  | ok ds =>
    rw [e] at p
    dsimp only [oR] at p
    match ds, p with
    | [d, d'], p =>
      intro vs H1 G1 x r
      obtain ⟨v, us, rfl, r1, r2⟩ := reps_cons.mp r
      obtain ⟨v', us', rfl, r3, r4⟩ := reps_cons.mp r2
      cases reps_nil.mp r4
      exact ⟨v, v', rfl, p _ H1 G1 (((s.ext x).set r1).set r3) x.gg⟩
    | [], p => exact p.elim
    | [_], p => exact p.elim
    | _ :: _ :: _ :: _, p => exact p.elim
  | ex c n => rw [e] at p; exact fun H1 G1 x => p σ H1 G1 (s.ext x) x.gg
  | no => rw [e] at p; exact p
theorem kit_same {K : Frag} (C : Addr) : kitOne K (.ref C) (.ref C) = some true := by unfold kitOne; rw [if_pos (by simp)]
theorem kit_below {K : Frag} {a b : Value} (h : exmOne K a b = some true) : kitOne K a b = some true := by
  unfold exmOne at h
  split at h
  · unfold kitOne; split
    · rfl
    · exact h
  · cases h
end Vl

set_option Elab.async false
set_option linter.all false
set_option maxRecDepth 100000
set_option maxHeartbeats 4000000
namespace Vl
open PySem PySem.Spec PySem.Calls PySem.W L2
/-- the law's head: v is what its def is worth -/
theorem walk_v {l : OpenLaw} {k : Nat} {q : Program} {loose : List Str} {XP : (Str → Option Value) → Heap → Prop} {YP : World → Heap → Prop} {d : DefRec} {K : Params → Frag} {v : List D → Rs D} (hn : l.most = some 63) (hdf : d.params.defaults = []) (hr : Room k callerA)
    (hY : ∀ (w : World) (h : Heap), YP w h → (K w.params).In h) (hv : ∀ ns : List Int, ns.length ≤ 63 → v [.lst (ns.map D.int)] = .ok (.bl true))
    (F : ∀ (w : World) (mg : Str → Option Value) (fa : Addr) (h : Heap), (K w.params).In h → h.Ns mainGlobals mg → mg d.name = some (.ref fa) →
      ∃ fd : FuncData, (∀ (s : Shared) (u : Value), BindsTo s fd ⟨[u], []⟩ [("script", u)]) ∧ ∀ base : Heap, (K w.params).In base → base.Ns mainGlobals mg → FnOk l.prog w (K w.params) mg base (CXv l.prog w (K w.params)) k fa fd ["script"] (spV (K w.params) 1 v)) :
    WalkO q loose XP YP l.row.toRowW d [] (fun f vs => PySem.call f vs) := by
  refine L2.walk_of (n := 63) (k := k) (x := "script") (CX := fun w => CXv l.prog w (K w.params)) (sp := fun w => spV (K w.params) 1 v) hn (by decide) hdf hr hY F (fun w H a ns hl _ hS => ?_) fun w H s e s' h => ?_
  · refine ⟨rfl, H, [.lst (ns.map D.int)], .refl (.refl _) (fun _ _ e => e), Reps.one (rep_lst.mpr ⟨a, _, rfl, hS, reps_ints ns⟩), ?_⟩
    rw [hv ns hl]
    exact fun u H' G' _ r => rep_bl.mp r
  · obtain ⟨_, _, _, _, _, _, _, _, _, _, z⟩ := h
    exact z.elim
end Vl

set_option Elab.async false
set_option linter.all false
set_option maxRecDepth 100000
set_option maxHeartbeats 4000000
namespace K05
open PySem PySem.Spec PySem.Calls PySem.W L2 Vl
def top (i : Nat) : Stmt := PySem.Challenge.pw_edgemoss_k05_cells_turned.main.body.getD i (.Pass ⟨0, 0, 0, 0⟩)
abbrev s_check_turn : Stmt := top 6
abbrev s_turned_cell : Stmt := top 7
abbrev s_turned : Stmt := top 8
abbrev s_back_of : Stmt := top 9
abbrev s_turned_on : Stmt := top 10
abbrev s__law_deal : Stmt := top 12
abbrev s__law_whole : Stmt := top 13
abbrev s__law_spot : Stmt := top 14
abbrev s__law_refused : Stmt := top 15
abbrev s_law : Stmt := top 16
def m_BadTurn (c : Str) : Bool := c == "BadTurn"
def m_MossError (c : Str) : Bool := c == "MossError" || c == "BadTurn"
abbrev e_MossError := m_MossError
structure Txt (K : Frag) (mg : Str → Option Value) (C_BadTurn : Addr) (C_MossError : Addr) : Prop where
  b_all : mg "all" = none
  b_bool : mg "bool" = none
  b_divmod : mg "divmod" = none
  b_int : mg "int" = none
  b_isinstance : mg "isinstance" = none
  b_range : mg "range" = none
  b_tuple : mg "tuple" = none
  c_BadTurn : mg "BadTurn" = some (.ref C_BadTurn)
  n_BadTurn : nsIn K mainGlobals "BadTurn" = some (some (.ref C_BadTurn))
  x_BadTurn : excIn K C_BadTurn [.type "ValueError", .type "Exception", .type "BaseException", .type "object"] "ValueError.__new__" = true
  i_BadTurn : ∀ c C, m_BadTurn c = true → nsIn K mainGlobals c = some (some (.ref C)) → kitOne K (.ref C) (.ref C_BadTurn) = some true
  c_MossError : mg "MossError" = some (.ref C_MossError)
  n_MossError : nsIn K mainGlobals "MossError" = some (some (.ref C_MossError))
  x_MossError : excIn K C_MossError [.type "ValueError", .type "Exception", .type "BaseException", .type "object"] "ValueError.__new__" = true
  i_MossError : ∀ c C, m_MossError c = true → nsIn K mainGlobals c = some (some (.ref C)) → kitOne K (.ref C) (.ref C_MossError) = some true
  e_MossError : ∀ c C, m_MossError c = true → nsIn K mainGlobals c = some (some (.ref C)) → exmOne K (.ref C) (.ref C_MossError) = some true
section
variable {P : Program} {w : World} {K : Frag} {mg : Str → Option Value} {base : Heap} {C_BadTurn : Addr} {C_MossError : Addr}
theorem sc_check_turn : FnScope ["turn"] ["turn"] (defScope s_check_turn) := ⟨rfl, rfl, rfl, by decide +kernel, rfl, by decide +kernel, by decide +kernel⟩
def g_check_turn : Rho → Ou :=
    rIf (fOr (fT (fOp gLt (fVar 0) (fC (.int 0)))) (fT (fOp gGt (fVar 0) (fC (.int 7))))) (rRse "BadTurn" (fCons (fC (.str "turns are numbered from 0 to 7")) fNil)) rNx
def v_check_turn : List D → Rs D := fun ds => fin (g_check_turn (startR ["turn"] ds))
theorem ok_check_turn (T : Txt K mg C_BadTurn C_MossError) {f : Addr} {fd : FuncData} (F : Fun K "check_turn" "check_turn" s_check_turn f fd) (hm : mg "check_turn" = some (.ref f))  : Okd P w K mg base "check_turn" 1 1 v_check_turn :=
  okd_of (k := 0) (g := g_check_turn) F hm sc_check_turn (fun _ _ _ _ _ _ us hl => match us, hl with | [_], _ => rfl) fun cdv A outer s H E B hr hx =>
    rs_one (rs_if (st_w (sw_or (st_lt (sv 0) se_int) (sw_or1 (st_gt (sv 0) se_int)))) (rs_one (ss_raise pass_body rfl rfl rfl T.c_BadTurn T.n_BadTurn T.x_BadTurn PySem.F.excBase_ValueError (by decide) PySem.F.excBase_ValueError (sa_cons se_str sa_nil) (by decide))) rs_nil)
theorem sc_turned_cell : FnScope ["cell", "turn", "here", "quarter"] ["cell", "turn"] (defScope s_turned_cell) := ⟨rfl, rfl, rfl, by decide +kernel, rfl, by decide +kernel, by decide +kernel⟩
def g_turned_cell : Rho → Ou :=
    rSeq (rExp (fA (fCons (fVar 1) fNil) (gCallX 1 v_check_turn)))
    (rSeq (rSet 2 (fVar 0))
    (rSeq (rIf (fT (fOp gEq (fOp gDiv (fVar 1) (fC (.int 4))) (fC (.int 1)))) (rSet 2 (fA (fCons (fOp gIx (fVar 2) (fC (.int 0))) (fCons (fNeg (fOp gIx (fVar 2) (fC (.int 1)))) fNil)) gTup)) rNx)
    (rSeq (rNox (gForR (hName 3) (rSet 2 (fA (fCons (fOp gIx (fVar 2) (fC (.int 1))) (fCons (fNeg (fOp gIx (fVar 2) (fC (.int 0)))) fNil)) gTup)) (fOp gMod (fVar 1) (fC (.int 4)))))
    (rRet (fVar 2)))))
def v_turned_cell : List D → Rs D := fun ds => fin (g_turned_cell (startR ["cell", "turn", "here", "quarter"] ds))
theorem ok_turned_cell (T : Txt K mg C_BadTurn C_MossError) {f : Addr} {fd : FuncData} (F : Fun K "turned_cell" "turned_cell" s_turned_cell f fd) (hm : mg "turned_cell" = some (.ref f)) (O_check_turn : Okd P w K mg base "check_turn" 1 1 v_check_turn) : Okd P w K mg base "turned_cell" 2 2 v_turned_cell :=
  okd_of (k := 1) (g := g_turned_cell) F hm sc_turned_cell (fun _ _ _ _ _ _ us hl => match us, hl with | [_, _], _ => rfl) fun cdv A outer s H E B hr hx =>
    rs_cons (rs_exp (re_call O_check_turn (hr.mono (by decide)) hx (sa_cons (sv 1) sa_nil)))
    (rs_cons (rs_set 2 sc_turned_cell.nd (sv 0))
    (rs_cons (rs_if (st_eq (room8 hr) (se_div (sv 1) se_int) se_int) (rs_one (rs_set 2 sc_turned_cell.nd (se_tup (sa_cons (se_ix (sv 2) se_int) (sa_cons (re_neg (se_ix (sv 2) se_int)) sa_nil))))) rs_nil)
    (rs_cons (rs_nox (ss_forR PassesOwn.never rfl T.b_range (se_mod (sv 1) se_int) (rg 3 sc_turned_cell.nd) (rs_one (rs_set 2 sc_turned_cell.nd (se_tup (sa_cons (se_ix (sv 2) se_int) (sa_cons (re_neg (se_ix (sv 2) se_int)) sa_nil)))))))
    (rs_one (rs_ret (sv 2))))))
theorem sc_turned : FnScope ["shape", "turn"] ["shape", "turn"] (defScope s_turned) := ⟨rfl, rfl, rfl, by decide +kernel, rfl, by decide +kernel, by decide +kernel⟩
def g_turned : Rho → Ou :=
    rSeq (rExp (fA (fCons (fVar 1) fNil) (gCallX 1 v_check_turn)))
    rNo
def v_turned : List D → Rs D := fun ds => fin (g_turned (startR ["shape", "turn"] ds))
theorem ok_turned (T : Txt K mg C_BadTurn C_MossError) {f : Addr} {fd : FuncData} (F : Fun K "turned" "turned" s_turned f fd) (hm : mg "turned" = some (.ref f)) (O_check_turn : Okd P w K mg base "check_turn" 1 1 v_check_turn) : Okd P w K mg base "turned" 2 2 v_turned :=
  okd_of (k := 1) (g := g_turned) F hm sc_turned (fun _ _ _ _ _ _ us hl => match us, hl with | [_, _], _ => rfl) fun cdv A outer s H E B hr hx =>
    rs_cons (rs_exp (re_call O_check_turn (hr.mono (by decide)) hx (sa_cons (sv 1) sa_nil)))
    (rs_one rs_no)
theorem sc_back_of : FnScope ["turn"] ["turn"] (defScope s_back_of) := ⟨rfl, rfl, rfl, by decide +kernel, rfl, by decide +kernel, by decide +kernel⟩
def g_back_of : Rho → Ou :=
    rSeq (rExp (fA (fCons (fVar 0) fNil) (gCallX 1 v_check_turn)))
    (rSeq (rIf (fT (fOp gEq (fOp gDiv (fVar 0) (fC (.int 4))) (fC (.int 1)))) (rRet (fVar 0)) rNx)
    (rRet (fOp gMod (fOp gSub (fC (.int 4)) (fVar 0)) (fC (.int 4)))))
def v_back_of : List D → Rs D := fun ds => fin (g_back_of (startR ["turn"] ds))
theorem ok_back_of (T : Txt K mg C_BadTurn C_MossError) {f : Addr} {fd : FuncData} (F : Fun K "back_of" "back_of" s_back_of f fd) (hm : mg "back_of" = some (.ref f)) (O_check_turn : Okd P w K mg base "check_turn" 1 1 v_check_turn) : Okd P w K mg base "back_of" 2 1 v_back_of :=
  okd_of (k := 1) (g := g_back_of) F hm sc_back_of (fun _ _ _ _ _ _ us hl => match us, hl with | [_], _ => rfl) fun cdv A outer s H E B hr hx =>
    rs_cons (rs_exp (re_call O_check_turn (hr.mono (by decide)) hx (sa_cons (sv 0) sa_nil)))
    (rs_cons (rs_if (st_eq (room8 hr) (se_div (sv 0) se_int) se_int) (rs_one (rs_ret (sv 0))) rs_nil)
    (rs_one (rs_ret (se_mod (se_sub se_int (sv 0)) se_int))))
theorem sc_turned_on : FnScope ["one", "other", "mirrorings", "quarters"] ["one", "other"] (defScope s_turned_on) := ⟨rfl, rfl, rfl, by decide +kernel, rfl, by decide +kernel, by decide +kernel⟩
def g_turned_on : Rho → Ou :=
    rSeq (rExp (fA (fCons (fVar 0) fNil) (gCallX 1 v_check_turn)))
    (rSeq (rExp (fA (fCons (fVar 1) fNil) (gCallX 1 v_check_turn)))
    (rSeq (rSet 2 (fOp gMod (fOp gPlus (fOp gDiv (fVar 0) (fC (.int 4))) (fOp gDiv (fVar 1) (fC (.int 4)))) (fC (.int 2))))
    (rSeq (rIf (fT (fOp gEq (fOp gDiv (fVar 1) (fC (.int 4))) (fC (.int 1)))) (rSet 3 (fOp gMod (fOp gSub (fVar 1) (fVar 0)) (fC (.int 4)))) (rSet 3 (fOp gMod (fOp gPlus (fVar 1) (fVar 0)) (fC (.int 4)))))
    (rRet (fOp gPlus (fOp gMul (fVar 2) (fC (.int 4))) (fVar 3))))))
def v_turned_on : List D → Rs D := fun ds => fin (g_turned_on (startR ["one", "other", "mirrorings", "quarters"] ds))
theorem ok_turned_on (T : Txt K mg C_BadTurn C_MossError) {f : Addr} {fd : FuncData} (F : Fun K "turned_on" "turned_on" s_turned_on f fd) (hm : mg "turned_on" = some (.ref f)) (O_check_turn : Okd P w K mg base "check_turn" 1 1 v_check_turn) : Okd P w K mg base "turned_on" 2 2 v_turned_on :=
  okd_of (k := 1) (g := g_turned_on) F hm sc_turned_on (fun _ _ _ _ _ _ us hl => match us, hl with | [_, _], _ => rfl) fun cdv A outer s H E B hr hx =>
    rs_cons (rs_exp (re_call O_check_turn (hr.mono (by decide)) hx (sa_cons (sv 0) sa_nil)))
    (rs_cons (rs_exp (re_call O_check_turn (hr.mono (by decide)) hx (sa_cons (sv 1) sa_nil)))
    (rs_cons (rs_set 2 sc_turned_on.nd (se_mod (se_add (se_div (sv 0) se_int) (se_div (sv 1) se_int)) se_int))
    (rs_cons (rs_if (st_eq (room8 hr) (se_div (sv 1) se_int) se_int) (rs_one (rs_set 3 sc_turned_on.nd (se_mod (se_sub (sv 1) (sv 0)) se_int))) (rs_one (rs_set 3 sc_turned_on.nd (se_mod (se_add (sv 1) (sv 0)) se_int))))
    (rs_one (rs_ret (se_add (se_mul (sv 2) se_int) (sv 3)))))))
theorem sc__law_deal : FnScope ["cell", "many", "number", "one", "k", "two"] ["cell", "many"] (defScope s__law_deal) := ⟨rfl, rfl, rfl, by decide +kernel, rfl, by decide +kernel, by decide +kernel⟩
def g__law_deal : Rho → Ou :=
    rSeq (rIf (fT (fOp gGe (fVar 0) (fOp gPow (fC (.int 10)) (fC (.int 18))))) (rRet (fOp gSub (fVar 0) (fOp gPow (fC (.int 10)) (fC (.int 18))))) rNx)
    (rSeq (rSet 2 (fC (.int 0)))
    (rSeq (rSet 3 (fOp gMod (fOp gMul (fOp gPlus (fOp gMod (fVar 0) (fC (.int 2147483647))) (fC (.int 977))) (fC (.int 69621))) (fC (.int 2147483647))))
    (rSeq (rNox (gForR (hName 4) (rSeq (rSet 3 (fOp gMod (fOp gPlus (fOp gPlus (fOp gMul (fVar 3) (fC (.int 48271))) (fVar 4)) (fC (.int 1))) (fC (.int 2147483647))))
    (rSeq (rSet 5 (fOp gMod (fOp gMul (fVar 3) (fVar 3)) (fC (.int 2147483629))))
    (rSet 2 (fOp gPlus (fOp gMul (fVar 2) (fC (.int 999983))) (fOp gMod (fOp gPlus (fOp gDiv (fVar 5) (fC (.int 1021))) (fVar 5)) (fC (.int 999983))))))) (fVar 1)))
    (rRet (fVar 2)))))
def v__law_deal : List D → Rs D := fun ds => fin (g__law_deal (startR ["cell", "many", "number", "one", "k", "two"] ds))
theorem ok__law_deal (T : Txt K mg C_BadTurn C_MossError) {f : Addr} {fd : FuncData} (F : Fun K "_law_deal" "_law_deal" s__law_deal f fd) (hm : mg "_law_deal" = some (.ref f))  : Okd P w K mg base "_law_deal" 1 2 v__law_deal :=
  okd_of (k := 0) (g := g__law_deal) F hm sc__law_deal (fun _ _ _ _ _ _ us hl => match us, hl with | [_, _], _ => rfl) fun cdv A outer s H E B hr hx =>
    rs_cons (rs_if (st_ge (sv 0) (se_pow se_int se_int)) (rs_one (rs_ret (se_sub (sv 0) (se_pow se_int se_int)))) rs_nil)
    (rs_cons (rs_set 2 sc__law_deal.nd se_int)
    (rs_cons (rs_set 3 sc__law_deal.nd (se_mod (se_mul (se_add (se_mod (sv 0) se_int) se_int) se_int) se_int))
    (rs_cons (rs_nox (ss_forR PassesOwn.never rfl T.b_range (sv 1) (rg 4 sc__law_deal.nd) (rs_cons (rs_set 3 sc__law_deal.nd (se_mod (se_add (se_add (se_mul (sv 3) se_int) (sv 4)) se_int) se_int))
    (rs_cons (rs_set 5 sc__law_deal.nd (se_mod (se_mul (sv 3) (sv 3)) se_int))
    (rs_one (rs_set 2 sc__law_deal.nd (se_add (se_mul (sv 2) se_int) (se_mod (se_add (se_div (sv 5) se_int) (sv 5)) se_int))))))))
    (rs_one (rs_ret (sv 2))))))
theorem sc__law_whole : FnScope ["found"] ["found"] (defScope s__law_whole) := ⟨rfl, rfl, rfl, by decide +kernel, rfl, by decide +kernel, by decide +kernel⟩
def g__law_whole : Rho → Ou :=
    rRet (fAndV (fB (fVar 0) (gIs .int)) (fNotV (fB (fVar 0) (gIs .bool))))
def v__law_whole : List D → Rs D := fun ds => fin (g__law_whole (startR ["found"] ds))
theorem ok__law_whole (T : Txt K mg C_BadTurn C_MossError) {f : Addr} {fd : FuncData} (F : Fun K "_law_whole" "_law_whole" s__law_whole f fd) (hm : mg "_law_whole" = some (.ref f))  : Okd P w K mg base "_law_whole" 1 1 v__law_whole :=
  okd_of (k := 0) (g := g__law_whole) F hm sc__law_whole (fun _ _ _ _ _ _ us hl => match us, hl with | [_], _ => rfl) fun cdv A outer s H E B hr hx =>
    rs_one (rs_ret (se_and (re_is (t := .int) T.b_isinstance T.b_int (sv 0) PyProof.Rows.Boot.«int») (se_one (se_not (re_is (t := .bool) T.b_isinstance T.b_bool (sv 0) PyProof.Rows.Boot.«bool»)))))
theorem sc__law_spot : FnScope ["number", "far", "way", "size", "row", "column"] ["number", "far"] (defScope s__law_spot) := ⟨rfl, rfl, rfl, by decide +kernel, rfl, by decide +kernel, by decide +kernel⟩
def g__law_spot : Rho → Ou :=
    rSeq (rAsg (fA (fCons (fVar 0) (fCons (fC (.int 6)) fNil)) gDm) (hTup 2 (hCons (hName 0) (hCons (hName 2) hNil))))
    (rSeq (rSet 3 (fOp gIx (fA (fCons (fC (.int 4)) (fCons (fC (.int 4)) (fCons (fC (.int 6)) (fCons (fC (.int 3)) (fCons (fOp gPlus (fOp gMul (fC (.int 2)) (fVar 1)) (fC (.int 1))) (fCons (fC (.int 3)) fNil)))))) gLst) (fVar 2)))
    (rSeq (rAsg (fA (fCons (fVar 0) (fCons (fVar 3) fNil)) gDm) (hTup 2 (hCons (hName 0) (hCons (hName 4) hNil))))
    (rSeq (rAsg (fA (fCons (fVar 0) (fCons (fVar 3) fNil)) gDm) (hTup 2 (hCons (hName 0) (hCons (hName 5) hNil))))
    (rSeq (rIf (fT (fOp gEq (fVar 2) (fC (.int 4)))) (rRet (fA (fCons (fVar 0) (fCons (fA (fCons (fOp gSub (fVar 4) (fVar 1)) (fCons (fOp gSub (fVar 5) (fVar 1)) fNil)) gTup) fNil)) gTup)) rNx)
    (rSeq (rIf (fT (fOp gEq (fVar 2) (fC (.int 5)))) (rRet (fA (fCons (fVar 0) (fCons (fA (fCons (fOp gSub (fVar 1) (fVar 4)) (fCons (fOp gSub (fVar 5) (fVar 1)) fNil)) gTup) fNil)) gTup)) rNx)
    (rRet (fA (fCons (fVar 0) (fCons (fA (fCons (fOp gSub (fVar 4) (fC (.int 1))) (fCons (fOp gSub (fVar 5) (fC (.int 2))) fNil)) gTup) fNil)) gTup)))))))
def v__law_spot : List D → Rs D := fun ds => fin (g__law_spot (startR ["number", "far", "way", "size", "row", "column"] ds))
theorem ok__law_spot (T : Txt K mg C_BadTurn C_MossError) {f : Addr} {fd : FuncData} (F : Fun K "_law_spot" "_law_spot" s__law_spot f fd) (hm : mg "_law_spot" = some (.ref f))  : Okd P w K mg base "_law_spot" 1 2 v__law_spot :=
  okd_of (k := 0) (g := g__law_spot) F hm sc__law_spot (fun _ _ _ _ _ _ us hl => match us, hl with | [_, _], _ => rfl) fun cdv A outer s H E B hr hx =>
    rs_cons (rs_asg (re_divmod T.b_divmod (sv 0) se_int) (sg_tup rfl (sgs_cons (rg 0 sc__law_spot.nd) (sgs_cons (rg 2 sc__law_spot.nd) sgs_nil))))
    (rs_cons (rs_set 3 sc__law_spot.nd (se_ix (se_lst (sa_cons se_int (sa_cons se_int (sa_cons se_int (sa_cons se_int (sa_cons (se_add (se_mul se_int (sv 1)) se_int) (sa_cons se_int sa_nil))))))) (sv 2)))
    (rs_cons (rs_asg (re_divmod T.b_divmod (sv 0) (sv 3)) (sg_tup rfl (sgs_cons (rg 0 sc__law_spot.nd) (sgs_cons (rg 4 sc__law_spot.nd) sgs_nil))))
    (rs_cons (rs_asg (re_divmod T.b_divmod (sv 0) (sv 3)) (sg_tup rfl (sgs_cons (rg 0 sc__law_spot.nd) (sgs_cons (rg 5 sc__law_spot.nd) sgs_nil))))
    (rs_cons (rs_if (st_eq (room8 hr) (sv 2) se_int) (rs_one (rs_ret (se_tup (sa_cons (sv 0) (sa_cons (se_tup (sa_cons (se_sub (sv 4) (sv 1)) (sa_cons (se_sub (sv 5) (sv 1)) sa_nil))) sa_nil))))) rs_nil)
    (rs_cons (rs_if (st_eq (room8 hr) (sv 2) se_int) (rs_one (rs_ret (se_tup (sa_cons (sv 0) (sa_cons (se_tup (sa_cons (se_sub (sv 1) (sv 4)) (sa_cons (se_sub (sv 5) (sv 1)) sa_nil))) sa_nil))))) rs_nil)
    (rs_one (rs_ret (se_tup (sa_cons (sv 0) (sa_cons (se_tup (sa_cons (se_sub (sv 4) se_int) (sa_cons (se_sub (sv 5) se_int) sa_nil))) sa_nil))))))))))
theorem sc__law_refused : FnScope ["way", "turn", "good", "told", "e"] ["way", "turn", "good"] (defScope s__law_refused) := ⟨rfl, rfl, rfl, by decide +kernel, rfl, by decide +kernel, by decide +kernel⟩
def g__law_refused : Rho → Ou :=
    rSeq (rSet 3 (fC (.bl false)))
    (rSeq (gTry e_MossError 4 (rIf (fT (fOp gEq (fVar 0) (fC (.int 0)))) (rExp (fA (fCons (fA (fCons (fC (.int 1)) (fCons (fC (.int 2)) fNil)) gTup) (fCons (fVar 1) fNil)) (gCallX 2 v_turned_cell))) (rIf (fT (fOp gEq (fVar 0) (fC (.int 1)))) (rExp (fA (fCons (fA (fCons (fA fNil gTup) (fCons (fC (.bl false)) fNil)) gTup) (fCons (fVar 1) fNil)) (gCallX 2 v_turned))) (rIf (fT (fOp gEq (fVar 0) (fC (.int 2)))) (rExp (fA (fCons (fVar 1) fNil) (gCallX 1 v_back_of))) (rIf (fT (fOp gEq (fVar 0) (fC (.int 3)))) (rExp (fA (fCons (fVar 1) (fCons (fVar 2) fNil)) (gCallX 2 v_turned_on))) (rExp (fA (fCons (fVar 2) (fCons (fVar 1) fNil)) (gCallX 2 v_turned_on))))))) (rSet 3 (fB (fVar 4) (gIsE m_BadTurn))))
    (rRet (fVar 3)))
def v__law_refused : List D → Rs D := fun ds => fin (g__law_refused (startR ["way", "turn", "good", "told", "e"] ds))
theorem ok__law_refused (T : Txt K mg C_BadTurn C_MossError) {f : Addr} {fd : FuncData} (F : Fun K "_law_refused" "_law_refused" s__law_refused f fd) (hm : mg "_law_refused" = some (.ref f)) (O_turned_cell : Okd P w K mg base "turned_cell" 2 2 v_turned_cell) (O_turned : Okd P w K mg base "turned" 2 2 v_turned) (O_back_of : Okd P w K mg base "back_of" 2 1 v_back_of) (O_turned_on : Okd P w K mg base "turned_on" 2 2 v_turned_on) : Okd P w K mg base "_law_refused" 3 3 v__law_refused :=
  okd_of (k := 2) (g := g__law_refused) F hm sc__law_refused (fun _ _ _ _ _ _ us hl => match us, hl with | [_, _, _], _ => rfl) fun cdv A outer s H E B hr hx =>
    rs_cons (rs_set 3 sc__law_refused.nd se_bl)
    (rs_cons (ss_try (m := e_MossError) (i := 4) rfl rfl rfl sc__law_refused.nd rfl rfl rfl T.c_MossError T.e_MossError (fun E1 pl W1 hpv => rs_one (rs_if (st_eq (room8 hr) (sv 0) se_int) (rs_one (rs_exp (re_call O_turned_cell (hr.mono (by decide)) (passC_of hpv rfl) (sa_cons (se_tup (sa_cons se_int (sa_cons se_int sa_nil))) (sa_cons (sv 1) sa_nil))))) (rs_one (rs_if (st_eq (room8 hr) (sv 0) se_int) (rs_one (rs_exp (re_call O_turned (hr.mono (by decide)) (passC_of hpv rfl) (sa_cons (se_tup (sa_cons (se_tup sa_nil) (sa_cons se_bl sa_nil))) (sa_cons (sv 1) sa_nil))))) (rs_one (rs_if (st_eq (room8 hr) (sv 0) se_int) (rs_one (rs_exp (re_call O_back_of (hr.mono (by decide)) (passC_of hpv rfl) (sa_cons (sv 1) sa_nil)))) (rs_one (rs_if (st_eq (room8 hr) (sv 0) se_int) (rs_one (rs_exp (re_call O_turned_on (hr.mono (by decide)) (passC_of hpv rfl) (sa_cons (sv 1) (sa_cons (sv 2) sa_nil))))) (rs_one (rs_exp (re_call O_turned_on (hr.mono (by decide)) (passC_of hpv rfl) (sa_cons (sv 2) (sa_cons (sv 1) sa_nil))))))))))))) (fun ea => rs_one (rs_set 3 sc__law_refused.nd (re_isE (m := m_BadTurn) T.i_BadTurn T.b_isinstance T.c_BadTurn (sv 4)))))
    (rs_one (rs_ret (sv 3))))
theorem sc_law : FnScope ["script", "cell", "number", "spot", "turn", "row", "column", "quarter", "found", "back", "far", "good", "odd"] ["script"] (defScope s_law) := ⟨rfl, rfl, rfl, by decide +kernel, rfl, by decide +kernel, by decide +kernel⟩
def g_law : Rho → Ou :=
    rSeq (rNox (gForL (hName 1) (rSeq (rAsg (fA (fCons (fA (fCons (fVar 1) (fCons (fC (.int 12)) fNil)) (gCallX 2 v__law_deal)) (fCons (fOp gPow (fC (.int 10)) (fC (.int 12))) fNil)) (gCallX 2 v__law_spot)) (hTup 2 (hCons (hName 2) (hCons (hName 3) hNil))))
    (rSeq (gForR (hName 4) (rSeq (rAsg (fVar 3) (hTup 2 (hCons (hName 5) (hCons (hName 6) hNil))))
    (rSeq (rIf (fT (fOp gGt (fVar 4) (fC (.int 3)))) (rSet 6 (fOp gSub (fC (.int 0)) (fVar 6))) rNx)
    (rSeq (gForR (hName 7) (rPar 5 6 (fCons (fVar 6) (fCons (fOp gSub (fC (.int 0)) (fVar 5)) fNil))) (fOp gMod (fVar 4) (fC (.int 4))))
    (rSeq (rSet 8 (fA (fCons (fVar 3) (fCons (fVar 4) fNil)) (gCallX 2 v_turned_cell)))
    (rSeq (rIf (fOr (fNot (fT (fB (fVar 8) (gIs .tuple)))) (fOr (fT (fOp gNe (fVar 8) (fA (fCons (fVar 5) (fCons (fVar 6) fNil)) gTup))) (fNot (fT (fA (fCons (fOp gPlus (fOp gIx (fVar 8) (fC (.int 0))) (fOp gIx (fVar 8) (fC (.int 1)))) fNil) (gCallX 1 v__law_whole)))))) (rRet (fC (.bl false))) rNx)
    (rSeq (rSet 9 (fA (fCons (fVar 4) fNil) (gCallX 1 v_back_of)))
    (rIf (fOr (fNot (fT (fA (fCons (fVar 9) fNil) (gCallX 1 v__law_whole)))) (fT (fOp gNe (fA (fCons (fVar 8) (fCons (fVar 9) fNil)) (gCallX 2 v_turned_cell)) (fVar 3)))) (rRet (fC (.bl false))) rNx))))))) (fC (.int 8)))
    (rSeq (rAsg (fA (fCons (fVar 2) (fCons (fOp gPow (fC (.int 10)) (fC (.int 30))) fNil)) gDm) (hTup 2 (hCons (hName 2) (hCons (hName 10) hNil))))
    (rSeq (rAsg (fA (fCons (fVar 2) (fCons (fC (.int 8)) fNil)) gDm) (hTup 2 (hCons (hName 2) (hCons (hName 11) hNil))))
    (rSeq (rSet 12 (fOp gIx (fA (fCons (fNeg (fC (.int 1))) (fCons (fC (.int 8)) (fCons (fOp gSub (fNeg (fC (.int 1))) (fVar 10)) (fCons (fOp gPlus (fC (.int 8)) (fVar 10)) fNil)))) gLst) (fOp gMod (fVar 2) (fC (.int 4)))))
    (rIf (fNot (fT (fA (fCons (gComp (hName 0) (fun _ => .ok true) (fA (fCons (fVar 0) (fCons (fVar 1) (fCons (fVar 2) fNil))) (gCallX 3 v__law_refused)) 1 [12, 11] (fL (fC (.int 5)) asR)) fNil) gAll))) (rRet (fC (.bl false))) rNx)))))) (fOp gPlus (fSl (fVar 0) fNoP (fP (fC (.int 40)))) (fA (fCons (fC (.int 0)) fNil) gLst))))
    (rRet (fC (.bl true)))
def v_law : List D → Rs D := fun ds => fin (g_law (startR ["script", "cell", "number", "spot", "turn", "row", "column", "quarter", "found", "back", "far", "good", "odd"] ds))
theorem b_law (T : Txt K mg C_BadTurn C_MossError) {f : Addr} (O__law_spot : Okd P w K mg base "_law_spot" 1 2 v__law_spot) (O__law_deal : Okd P w K mg base "_law_deal" 1 2 v__law_deal) (O_turned_cell : Okd P w K mg base "turned_cell" 2 2 v_turned_cell) (O__law_whole : Okd P w K mg base "_law_whole" 1 1 v__law_whole) (O_back_of : Okd P w K mg base "back_of" 2 1 v_back_of) (O__law_refused : Okd P w K mg base "_law_refused" 3 3 v__law_refused) {cdv : Value} {A : Around} {outer : List Env} {s : Shared} {H : Hp} {E : XK} {B : Hp × Hp} (hr : Room 3 (A.deeper (PyProof.Rows.envOfC "law" (defScope s_law) s.heap.objs.size f cdv)))
    (hx : PassC (cxOf (CXv P w K) P w K mg base ["script", "cell", "number", "spot", "turn", "row", "column", "quarter", "found", "back", "far", "good", "odd"] "law" (defScope s_law) f cdv A outer s H E) (fun c n _ H' => E (enc c n) none H')) :
    SSs (cxOf (CXv P w K) P w K mg base ["script", "cell", "number", "spot", "turn", "row", "column", "quarter", "found", "back", "far", "good", "odd"] "law" (defScope s_law) f cdv A outer s H E) B (fun c n _ H' => E (enc c n) none H') (defBody s_law) g_law :=
    rs_cons (rs_nox (ss_forL PassesOwn.never rfl (se_add (se_slice (sv 0) so_none (so_some se_int)) (se_lst (sa_cons se_int sa_nil))) (rg 1 sc_law.nd) (rs_cons (rs_asg (re_call O__law_spot (hr.mono (by decide)) passC_F (sa_cons (re_call O__law_deal (hr.mono (by decide)) passC_F (sa_cons (sv 1) (sa_cons se_int sa_nil))) (sa_cons (se_pow se_int se_int) sa_nil))) (sg_tup rfl (sgs_cons (rg 2 sc_law.nd) (sgs_cons (rg 3 sc_law.nd) sgs_nil))))
    (rs_cons (ss_forR PassesOwn.never rfl T.b_range se_int (rg 4 sc_law.nd) (rs_cons (rs_asg (sv 3) (sg_tup rfl (sgs_cons (rg 5 sc_law.nd) (sgs_cons (rg 6 sc_law.nd) sgs_nil))))
    (rs_cons (rs_if (st_gt (sv 4) se_int) (rs_one (rs_set 6 sc_law.nd (se_sub se_int (sv 6)))) rs_nil)
    (rs_cons (ss_forR PassesOwn.never rfl T.b_range (se_mod (sv 4) se_int) (rg 7 sc_law.nd) (rs_one (rs_par 5 6 rfl sc_law.nd (sa_cons (sv 6) (sa_cons (se_sub se_int (sv 5)) sa_nil)))))
    (rs_cons (rs_set 8 sc_law.nd (re_call O_turned_cell (hr.mono (by decide)) passC_F (sa_cons (sv 3) (sa_cons (sv 4) sa_nil))))
    (rs_cons (rs_if (st_w (sw_or (st_not (st_val (re_is (t := .tuple) T.b_isinstance T.b_tuple (sv 8) PyProof.Rows.Boot.«tuple»))) (sw_or (st_ne (room8 hr) (sv 8) (se_tup (sa_cons (sv 5) (sa_cons (sv 6) sa_nil)))) (sw_or1 (st_not (st_val (re_call O__law_whole (hr.mono (by decide)) passC_F (sa_cons (se_add (se_ix (sv 8) se_int) (se_ix (sv 8) se_int)) sa_nil)))))))) (rs_one (rs_ret se_bl)) rs_nil)
    (rs_cons (rs_set 9 sc_law.nd (re_call O_back_of (hr.mono (by decide)) passC_F (sa_cons (sv 4) sa_nil)))
    (rs_one (rs_if (st_w (sw_or (st_not (st_val (re_call O__law_whole (hr.mono (by decide)) passC_F (sa_cons (sv 9) sa_nil)))) (sw_or1 (st_ne (room8 hr) (re_call O_turned_cell (hr.mono (by decide)) passC_F (sa_cons (sv 8) (sa_cons (sv 9) sa_nil))) (sv 3))))) (rs_one (rs_ret se_bl)) rs_nil)))))))))
    (rs_cons (rs_asg (re_divmod T.b_divmod (sv 2) (se_pow se_int se_int)) (sg_tup rfl (sgs_cons (rg 2 sc_law.nd) (sgs_cons (rg 10 sc_law.nd) sgs_nil))))
    (rs_cons (rs_asg (re_divmod T.b_divmod (sv 2) se_int) (sg_tup rfl (sgs_cons (rg 2 sc_law.nd) (sgs_cons (rg 11 sc_law.nd) sgs_nil))))
    (rs_cons (rs_set 12 sc_law.nd (se_ix (se_lst (sa_cons (re_neg se_int) (sa_cons se_int (sa_cons (se_sub (re_neg se_int) (sv 10)) (sa_cons (se_add se_int (sv 10)) sa_nil))))) (se_mod (sv 2) se_int)))
    (rs_one (rs_if (st_not (st_val (re_all rfl T.b_all (re_comp (caps_of (defScope s_law) ["script", "cell", "number", "spot", "turn", "row", "column", "quarter", "found", "back", "far", "good", "odd"] (N := ["way", "odd", "good"]) (nt := 1) (caps := [12, 11]) (by decide +kernel)) rfl (by decide +kernel) (ri_range T.b_range se_int) keep_name (fun s₀ H₀ C ex pins B1 => rg 0 (show List.Nodup (["way", "odd", "good"] : List Str) by decide)) (fun s₀ H₀ C ex pins B1 => re_call O__law_refused (hr.mono (by decide)) passC_F (sa_cons (sv 0) (sa_cons (sv 1) (sa_cons (sv 2) sa_nil)))))))) (rs_one (rs_ret se_bl)) rs_nil)))))))))
    (rs_one (rs_ret se_bl))
end
section
variable {l : OpenLaw} {w : World} {K : Frag} {h : Heap} {mg : Str → Option Value} {fa : Addr} {C_BadTurn : Addr} {C_MossError : Addr}
  {f_check_turn : Addr} {od_check_turn an_check_turn : Option Addr} {sl_check_turn : Array (Option Value)} {oc_check_turn kV_check_turn dc_check_turn pm_check_turn cd_check_turn ct_check_turn : Value}
  {f_turned_cell : Addr} {od_turned_cell an_turned_cell : Option Addr} {sl_turned_cell : Array (Option Value)} {oc_turned_cell kV_turned_cell dc_turned_cell pm_turned_cell cd_turned_cell ct_turned_cell : Value}
  {f_turned : Addr} {od_turned an_turned : Option Addr} {sl_turned : Array (Option Value)} {oc_turned kV_turned dc_turned pm_turned cd_turned ct_turned : Value}
  {f_back_of : Addr} {od_back_of an_back_of : Option Addr} {sl_back_of : Array (Option Value)} {oc_back_of kV_back_of dc_back_of pm_back_of cd_back_of ct_back_of : Value}
  {f_turned_on : Addr} {od_turned_on an_turned_on : Option Addr} {sl_turned_on : Array (Option Value)} {oc_turned_on kV_turned_on dc_turned_on pm_turned_on cd_turned_on ct_turned_on : Value}
  {f__law_deal : Addr} {od__law_deal an__law_deal : Option Addr} {sl__law_deal : Array (Option Value)} {oc__law_deal kV__law_deal dc__law_deal pm__law_deal cd__law_deal ct__law_deal : Value}
  {f__law_whole : Addr} {od__law_whole an__law_whole : Option Addr} {sl__law_whole : Array (Option Value)} {oc__law_whole kV__law_whole dc__law_whole pm__law_whole cd__law_whole ct__law_whole : Value}
  {f__law_spot : Addr} {od__law_spot an__law_spot : Option Addr} {sl__law_spot : Array (Option Value)} {oc__law_spot kV__law_spot dc__law_spot pm__law_spot cd__law_spot ct__law_spot : Value}
  {f__law_refused : Addr} {od__law_refused an__law_refused : Option Addr} {sl__law_refused : Array (Option Value)} {oc__law_refused kV__law_refused dc__law_refused pm__law_refused cd__law_refused ct__law_refused : Value}
  {f_law : Addr} {od_law an_law : Option Addr} {sl_law : Array (Option Value)} {oc_law kV_law dc_law pm_law cd_law ct_law : Value}
set_option maxHeartbeats 4000000 in
theorem all_mk (X : K.In h) (G : h.Ns mainGlobals mg) (hfa : mg "law" = some (.ref fa))
    (n_BadTurn : nsIn K mainGlobals "BadTurn" = some (some (.ref C_BadTurn)))
    (x_BadTurn : excIn K C_BadTurn [.type "ValueError", .type "Exception", .type "BaseException", .type "object"] "ValueError.__new__" = true)
    (n_MossError : nsIn K mainGlobals "MossError" = some (some (.ref C_MossError)))
    (x_MossError : excIn K C_MossError [.type "ValueError", .type "Exception", .type "BaseException", .type "object"] "ValueError.__new__" = true)
    (e_MossError_MossError : exmOne K (.ref C_MossError) (.ref C_MossError) = some true)
    (e_MossError_BadTurn : exmOne K (.ref C_BadTurn) (.ref C_MossError) = some true)
    (a_check_turn : nsIn K mainGlobals "check_turn" = some (some (.ref f_check_turn)))
    (l_check_turn : K.lookup f_check_turn = some ⟨oc_check_turn, od_check_turn, .func (fnOf "check_turn" "check_turn" (defArgs s_check_turn) (defBody s_check_turn) (defScope s_check_turn) .none kV_check_turn dc_check_turn pm_check_turn an_check_turn cd_check_turn ct_check_turn), sl_check_turn⟩)
    (d_check_turn : codeIn K cd_check_turn "check_turn" = true)
    (k_check_turn : keepIn K (.ref f_check_turn) = true)
    (a_turned_cell : nsIn K mainGlobals "turned_cell" = some (some (.ref f_turned_cell)))
    (l_turned_cell : K.lookup f_turned_cell = some ⟨oc_turned_cell, od_turned_cell, .func (fnOf "turned_cell" "turned_cell" (defArgs s_turned_cell) (defBody s_turned_cell) (defScope s_turned_cell) .none kV_turned_cell dc_turned_cell pm_turned_cell an_turned_cell cd_turned_cell ct_turned_cell), sl_turned_cell⟩)
    (d_turned_cell : codeIn K cd_turned_cell "turned_cell" = true)
    (k_turned_cell : keepIn K (.ref f_turned_cell) = true)
    (a_turned : nsIn K mainGlobals "turned" = some (some (.ref f_turned)))
    (l_turned : K.lookup f_turned = some ⟨oc_turned, od_turned, .func (fnOf "turned" "turned" (defArgs s_turned) (defBody s_turned) (defScope s_turned) .none kV_turned dc_turned pm_turned an_turned cd_turned ct_turned), sl_turned⟩)
    (d_turned : codeIn K cd_turned "turned" = true)
    (k_turned : keepIn K (.ref f_turned) = true)
    (a_back_of : nsIn K mainGlobals "back_of" = some (some (.ref f_back_of)))
    (l_back_of : K.lookup f_back_of = some ⟨oc_back_of, od_back_of, .func (fnOf "back_of" "back_of" (defArgs s_back_of) (defBody s_back_of) (defScope s_back_of) .none kV_back_of dc_back_of pm_back_of an_back_of cd_back_of ct_back_of), sl_back_of⟩)
    (d_back_of : codeIn K cd_back_of "back_of" = true)
    (k_back_of : keepIn K (.ref f_back_of) = true)
    (a_turned_on : nsIn K mainGlobals "turned_on" = some (some (.ref f_turned_on)))
    (l_turned_on : K.lookup f_turned_on = some ⟨oc_turned_on, od_turned_on, .func (fnOf "turned_on" "turned_on" (defArgs s_turned_on) (defBody s_turned_on) (defScope s_turned_on) .none kV_turned_on dc_turned_on pm_turned_on an_turned_on cd_turned_on ct_turned_on), sl_turned_on⟩)
    (d_turned_on : codeIn K cd_turned_on "turned_on" = true)
    (k_turned_on : keepIn K (.ref f_turned_on) = true)
    (a__law_deal : nsIn K mainGlobals "_law_deal" = some (some (.ref f__law_deal)))
    (l__law_deal : K.lookup f__law_deal = some ⟨oc__law_deal, od__law_deal, .func (fnOf "_law_deal" "_law_deal" (defArgs s__law_deal) (defBody s__law_deal) (defScope s__law_deal) .none kV__law_deal dc__law_deal pm__law_deal an__law_deal cd__law_deal ct__law_deal), sl__law_deal⟩)
    (d__law_deal : codeIn K cd__law_deal "_law_deal" = true)
    (k__law_deal : keepIn K (.ref f__law_deal) = true)
    (a__law_whole : nsIn K mainGlobals "_law_whole" = some (some (.ref f__law_whole)))
    (l__law_whole : K.lookup f__law_whole = some ⟨oc__law_whole, od__law_whole, .func (fnOf "_law_whole" "_law_whole" (defArgs s__law_whole) (defBody s__law_whole) (defScope s__law_whole) .none kV__law_whole dc__law_whole pm__law_whole an__law_whole cd__law_whole ct__law_whole), sl__law_whole⟩)
    (d__law_whole : codeIn K cd__law_whole "_law_whole" = true)
    (k__law_whole : keepIn K (.ref f__law_whole) = true)
    (a__law_spot : nsIn K mainGlobals "_law_spot" = some (some (.ref f__law_spot)))
    (l__law_spot : K.lookup f__law_spot = some ⟨oc__law_spot, od__law_spot, .func (fnOf "_law_spot" "_law_spot" (defArgs s__law_spot) (defBody s__law_spot) (defScope s__law_spot) .none kV__law_spot dc__law_spot pm__law_spot an__law_spot cd__law_spot ct__law_spot), sl__law_spot⟩)
    (d__law_spot : codeIn K cd__law_spot "_law_spot" = true)
    (k__law_spot : keepIn K (.ref f__law_spot) = true)
    (a__law_refused : nsIn K mainGlobals "_law_refused" = some (some (.ref f__law_refused)))
    (l__law_refused : K.lookup f__law_refused = some ⟨oc__law_refused, od__law_refused, .func (fnOf "_law_refused" "_law_refused" (defArgs s__law_refused) (defBody s__law_refused) (defScope s__law_refused) .none kV__law_refused dc__law_refused pm__law_refused an__law_refused cd__law_refused ct__law_refused), sl__law_refused⟩)
    (d__law_refused : codeIn K cd__law_refused "_law_refused" = true)
    (k__law_refused : keepIn K (.ref f__law_refused) = true)
    (a_law : nsIn K mainGlobals "law" = some (some (.ref f_law)))
    (l_law : K.lookup f_law = some ⟨oc_law, od_law, .func (fnOf "law" "law" (defArgs s_law) (defBody s_law) (defScope s_law) .none kV_law dc_law pm_law an_law cd_law ct_law), sl_law⟩)
    (d_law : codeIn K cd_law "law" = true)
    (k_law : keepIn K (.ref f_law) = true)
    (z_all : nsIn K mainGlobals "all" = some none)
    (z_bool : nsIn K mainGlobals "bool" = some none)
    (z_divmod : nsIn K mainGlobals "divmod" = some none)
    (z_int : nsIn K mainGlobals "int" = some none)
    (z_isinstance : nsIn K mainGlobals "isinstance" = some none)
    (z_range : nsIn K mainGlobals "range" = some none)
    (z_tuple : nsIn K mainGlobals "tuple" = some none) :
    ∃ fd : FuncData, (∀ (s : Shared) (v : Value), BindsTo s fd ⟨[v], []⟩ [("script", v)]) ∧ ∀ base : Heap, K.In base → base.Ns mainGlobals mg → FnOk l.prog w K mg base (CXv l.prog w K) 4 fa fd ["script"] (spV K 1 v_law) := by
  have e := hfa.symm.trans (mg_of X G a_law)
  cases e
  have T : Txt K mg C_BadTurn C_MossError := ⟨mg_none_of X G z_all,
    mg_none_of X G z_bool,
    mg_none_of X G z_divmod,
    mg_none_of X G z_int,
    mg_none_of X G z_isinstance,
    mg_none_of X G z_range,
    mg_none_of X G z_tuple,
    mg_of X G n_BadTurn,
    n_BadTurn,
    x_BadTurn,
    (fun c C hc hC => (by simp only [m_BadTurn, Bool.or_eq_true, beq_iff_eq, or_assoc] at hc; exact (fun z => by subst z; rw [n_BadTurn] at hC; cases hC; exact kit_same _) hc)),
    mg_of X G n_MossError,
    n_MossError,
    x_MossError,
    (fun c C hc hC => (by simp only [m_MossError, Bool.or_eq_true, beq_iff_eq, or_assoc] at hc; exact (fun z => z.elim (fun z => by subst z; rw [n_MossError] at hC; cases hC; exact kit_same _) (fun z => by subst z; rw [n_BadTurn] at hC; cases hC; exact kit_below e_MossError_BadTurn)) hc)),
    (fun c C hc hC => (by simp only [m_MossError, Bool.or_eq_true, beq_iff_eq, or_assoc] at hc; exact (fun z => z.elim (fun z => by subst z; rw [n_MossError] at hC; cases hC; exact e_MossError_MossError) (fun z => by subst z; rw [n_BadTurn] at hC; cases hC; exact e_MossError_BadTurn)) hc))⟩
  have F_check_turn := fun_mk (st := s_check_turn) l_check_turn d_check_turn k_check_turn
  have F_turned_cell := fun_mk (st := s_turned_cell) l_turned_cell d_turned_cell k_turned_cell
  have F_turned := fun_mk (st := s_turned) l_turned d_turned k_turned
  have F_back_of := fun_mk (st := s_back_of) l_back_of d_back_of k_back_of
  have F_turned_on := fun_mk (st := s_turned_on) l_turned_on d_turned_on k_turned_on
  have F__law_deal := fun_mk (st := s__law_deal) l__law_deal d__law_deal k__law_deal
  have F__law_whole := fun_mk (st := s__law_whole) l__law_whole d__law_whole k__law_whole
  have F__law_spot := fun_mk (st := s__law_spot) l__law_spot d__law_spot k__law_spot
  have F__law_refused := fun_mk (st := s__law_refused) l__law_refused d__law_refused k__law_refused
  have F_law := fun_mk (st := s_law) l_law d_law k_law
  refine ⟨fnOf "law" "law" (defArgs s_law) (defBody s_law) (defScope s_law) .none kV_law dc_law pm_law an_law cd_law ct_law, fun s v => .of_eq rfl, fun base _ _ => ?_⟩
  have O_check_turn := ok_check_turn (P := l.prog) (w := w) (base := base) T F_check_turn (mg_of X G a_check_turn) 
  have O_turned_cell := ok_turned_cell (P := l.prog) (w := w) (base := base) T F_turned_cell (mg_of X G a_turned_cell) O_check_turn
  have O_turned := ok_turned (P := l.prog) (w := w) (base := base) T F_turned (mg_of X G a_turned) O_check_turn
  have O_back_of := ok_back_of (P := l.prog) (w := w) (base := base) T F_back_of (mg_of X G a_back_of) O_check_turn
  have O_turned_on := ok_turned_on (P := l.prog) (w := w) (base := base) T F_turned_on (mg_of X G a_turned_on) O_check_turn
  have O__law_deal := ok__law_deal (P := l.prog) (w := w) (base := base) T F__law_deal (mg_of X G a__law_deal) 
  have O__law_whole := ok__law_whole (P := l.prog) (w := w) (base := base) T F__law_whole (mg_of X G a__law_whole) 
  have O__law_spot := ok__law_spot (P := l.prog) (w := w) (base := base) T F__law_spot (mg_of X G a__law_spot) 
  have O__law_refused := ok__law_refused (P := l.prog) (w := w) (base := base) T F__law_refused (mg_of X G a__law_refused) O_turned_cell O_turned O_back_of O_turned_on
  exact fn_v F_law sc_law fun cdv A outer s H E B hr => b_law T O__law_spot O__law_deal O_turned_cell O__law_whole O_back_of O__law_refused hr (passC_of pass_body rfl)
end
end K05

set_option Elab.async false
set_option linter.all false
set_option maxRecDepth 100000
set_option maxHeartbeats 4000000
namespace Vl
open PySem PySem.Spec PySem.Calls PySem.W L2
/-! ### readings run -/
section
variable {ρ ρ1 : Rho} {d x y z : D} {f fa fb : Rho → Rs D} {g k a b : Rho → Ou} {r : Ou} {ds : List D} {fs : Rho → Rs (List D)} {c c1 c2 : Rho → Rs Bool} {t u : Bool} {i j : Nat}
theorem seq_nx (h : g ρ = .nx ρ1) (h2 : k ρ1 = r) : rSeq g k ρ = r := by unfold rSeq; rw [h]; exact h2
theorem seq_rt (h : g ρ = .rt d) : rSeq g k ρ = .rt d := by unfold rSeq; rw [h]; rfl
theorem seq_ex {e : Str} {n : Int} (h : g ρ = .ex e n ρ1) : rSeq g k ρ = .ex e n ρ1 := by unfold rSeq; rw [h]; rfl
theorem v_c : fC d ρ = .ok d := rfl
theorem v_var (h : ρ[i]? = some (.fz d)) : fVar i ρ = .ok d := by unfold fVar; rw [h]
theorem v_op {o : D → D → Rs D} {r : Rs D} (h1 : fa ρ = .ok x) (h2 : fb ρ = .ok y) (h3 : o x y = r) : fOp o fa fb ρ = r := by unfold fOp; rw [h1]; show (fb ρ).bind _ = _; rw [h2]; exact h3
theorem v_neg {n : Int} (h1 : fa ρ = .ok (.int n)) : fNeg fa ρ = .ok (.int (-n)) := by unfold fNeg; rw [h1]; rfl
theorem v_nil : fNil ρ = .ok [] := rfl
theorem v_cons (h1 : fa ρ = .ok x) (h2 : fs ρ = .ok ds) : fCons fa fs ρ = .ok (x :: ds) := by unfold fCons; rw [h1]; show (fs ρ).bind _ = _; rw [h2]; rfl
theorem v_a {o : List D → Rs D} {r : Rs D} (h1 : fs ρ = .ok ds) (h2 : o ds = r) : fA fs o ρ = r := by unfold fA; rw [h1]; exact h2
theorem v_b {o : D → Rs D} {r : Rs D} (h1 : fa ρ = .ok x) (h2 : o x = r) : fB fa o ρ = r := by unfold fB; rw [h1]; exact h2
theorem v_call {n : Nat} {v : List D → Rs D} {r : Rs D} (hl : ds.length = n) (h : v ds = r) : gCallX n v ds = r := by unfold gCallX; rw [if_pos hl]; exact h
theorem v_tup (hl : ds.length ≤ 1000) : gTup ds = .ok (.tup ds) := by unfold gTup; rw [if_pos hl]
theorem v_lst (hl : ds.length ≤ 1000) : gLst ds = .ok (.lst ds) := by unfold gLst; rw [if_pos hl]
theorem v_t (h : fa ρ = .ok (.bl t)) : fT fa ρ = .ok t := by unfold fT; rw [h]; rfl
theorem v_not (h : c ρ = .ok t) : fNot c ρ = .ok (!t) := by unfold fNot; rw [h]; rfl
theorem v_or_t (h : c1 ρ = .ok true) : fOr c1 c2 ρ = .ok true := by unfold fOr; rw [h]; rfl
theorem v_or_f (h : c1 ρ = .ok false) (h2 : c2 ρ = .ok t) : fOr c1 c2 ρ = .ok t := by unfold fOr; rw [h]; exact h2
theorem v_and_f (h : c1 ρ = .ok false) : fAnd c1 c2 ρ = .ok false := by unfold fAnd; rw [h]; rfl
theorem v_and_t (h : c1 ρ = .ok true) (h2 : c2 ρ = .ok t) : fAnd c1 c2 ρ = .ok t := by unfold fAnd; rw [h]; exact h2
theorem s_if_t (h : c ρ = .ok true) (h2 : a ρ = r) : rIf c a b ρ = r := by unfold rIf; rw [h]; exact h2
theorem s_if_f (h : c ρ = .ok false) (h2 : b ρ = r) : rIf c a b ρ = r := by unfold rIf; rw [h]; exact h2
theorem s_set (h : fa ρ = .ok x) : rSet i fa ρ = .nx (ρ.set i (.fz x)) := by unfold rSet; rw [h]; rfl
theorem s_ret (h : fa ρ = .ok x) : rRet fa ρ = .rt x := by unfold rRet; rw [h]; rfl
theorem s_exp (h : fa ρ = .ok x) : rExp fa ρ = .nx ρ := by unfold rExp; rw [h]; rfl
theorem s_exp_ex {e : Str} {n : Int} (h : fa ρ = .ex e n) : rExp fa ρ = .ex e n ρ := by unfold rExp; rw [h]; rfl
theorem s_asg {h : Tg} (h1 : fa ρ = .ok x) (h2 : h x ρ = some ρ1) : rAsg fa h ρ = .nx ρ1 := by unfold rAsg; rw [h1]; show oO (h x ρ) = _; rw [h2]; rfl
theorem s_par (h1 : fs ρ = .ok [x, y]) : rPar i j fs ρ = .nx ((ρ.set i (.fz x)).set j (.fz y)) := by unfold rPar; rw [h1]; rfl
theorem s_nx : rNx ρ = .nx ρ := rfl
theorem s_nox (h : g ρ = .nx ρ1) : rNox g ρ = .nx ρ1 := by unfold rNox; rw [h]; rfl
theorem s_forR {h : Tg} {n : Int} {N : Nat} (h1 : fa ρ = .ok (.int n)) (hb : n < 2 ^ 62) (hN : n = (N : Int)) (h2 : forD h g ((List.range N).map fun (i : Nat) => .int i) ρ = r) : gForR h g fa ρ = r := by
  have hc : -(2 ^ 62) ≤ n ∧ n < 2 ^ 62 := ⟨by subst hN; omega, hb⟩
  unfold gForR; rw [h1]
  simp only [oR]
  rw [if_pos hc, hN, Int.toNat_natCast]
  exact h2
theorem s_forL {h : Tg} (h1 : fa ρ = .ok (.lst ds)) (h2 : forD h g ds ρ = r) : gForL h g fa ρ = r := by unfold gForL; rw [h1]; exact h2
theorem s_forT {h : Tg} (h1 : fa ρ = .ok (.tup ds)) (h2 : forD h g ds ρ = r) : gForT h g fa ρ = r := by unfold gForT; rw [h1]; exact h2
theorem forD_all {h : Tg} (P : Rho → Prop) : ∀ {ds : List D} {ρ : Rho}, P ρ → (∀ d ∈ ds, ∀ ρ, P ρ → ∃ ρ1 ρ', h d ρ = some ρ1 ∧ g ρ1 = .nx ρ' ∧ P ρ') → ∃ ρ', forD h g ds ρ = .nx ρ' ∧ P ρ'
  | [], ρ, p, _ => ⟨ρ, rfl, p⟩
  | d :: ds, ρ, p, st => by
    obtain ⟨ρ1, ρ2, e1, e2, p2⟩ := st d (by simp) ρ p
    obtain ⟨ρ', e, p'⟩ := forD_all (ds := ds) P p2 fun d' hd => st d' (by simp [hd])
    refine ⟨ρ', ?_, p'⟩
    simp only [forD, e1, e2]
    exact e
theorem s_try_nx {m : Str → Bool} {gs : Rho → Ou} (h : g ρ = .nx ρ1) : gTry m i g gs ρ = .nx ρ1 := by unfold gTry; rw [h]
theorem s_try_ex {m : Str → Bool} {gs : Rho → Ou} {e : Str} {n : Int} (h : g ρ = .ex e n ρ1) (hm : m e = true) (h2 : offI i (gs (ρ1.set i (.fz (.exn e n)))) = r) : gTry m i g gs ρ = r := by unfold gTry; rw [h]; show (if _ then _ else _) = _; rw [if_pos hm]; exact h2
theorem compD_map {h : Tg} {fe : Rho → Rs D} (P : Rho → Prop) (F : D → D) : ∀ {ds : List D} {ρ : Rho}, P ρ → (∀ d ∈ ds, ∀ ρ, P ρ → ∃ ρ1, h d ρ = some ρ1 ∧ fe ρ1 = .ok (F d) ∧ P ρ1) → compD h (fun _ => .ok true) fe ds ρ = .ok (ds.map F)
  | [], ρ, p, _ => rfl
  | d :: ds, ρ, p, st => by
    obtain ⟨ρ1, e1, e2, p2⟩ := st d (by simp) ρ p
    have e := compD_map (ds := ds) P F p2 fun d' hd => st d' (by simp [hd])
    simp only [compD, e1, Rs.bind, e2, e, if_true, List.map_cons]
theorem v_comp {h : Tg} {ft : Rho → Rs Bool} {fe : Rho → Rs D} {nt : Nat} {caps : List Nat} {fi : Rho → Rs (List D)} {ys : List D} (h1 : fi ρ = .ok ds) (h2 : compD h ft fe ds (startCR nt caps ρ) = .ok ys) (hl : ys.length ≤ 1000000) : gComp h ft fe nt caps fi ρ = .ok (.lst ys) := by
  unfold gComp; rw [h1]
  show noExR ((compD h ft fe ds (startCR nt caps ρ)).bind _) = _
  rw [h2]
  show noExR (if ys.length ≤ 1000000 then _ else _) = _
  rw [if_pos hl]; rfl
theorem v_l {o : D → Rs (List D)} (h1 : fa ρ = .ok x) (h2 : o x = .ok ds) : fL fa o ρ = .ok ds := by unfold fL; rw [h1]; exact h2
/-! data -/
variable {m n : Int}
theorem q_mul (h : CMul m n) : gMul (.int m) (.int n) = .ok (.int (m * n)) := by simp [gMul, gI, h]
theorem q_mod (h : 0 < n) : gMod (.int m) (.int n) = .ok (.int (m % n)) := by simp [gMod, gI, h]
theorem q_div (h : CDB m n) : gDiv (.int m) (.int n) = .ok (.int (m / n)) := by simp [gDiv, gI, h]
theorem q_pow (h : CPow m n) : gPow (.int m) (.int n) = .ok (.int (m ^ n.toNat)) := by simp [gPow, gI, h]
theorem q_plus : gPlus (.int m) (.int n) = .ok (.int (m + n)) := rfl
theorem gPlus_lst {a b : List D} (h : a.length + b.length ≤ 1000000) : gPlus (.lst a) (.lst b) = .ok (.lst (a ++ b)) := by simp only [gPlus]; rw [if_pos h]
theorem q_sub : Vl.gSub (.int m) (.int n) = .ok (.int (m - n)) := rfl
theorem q_dm (h : CDB m n) : gDm [.int m, .int n] = .ok (.tup [.int (m / n), .int (m % n)]) := by simp [gDm, h]
theorem q_lt : gLt (.int m) (.int n) = .ok (.bl (decide (m < n))) := rfl
theorem q_le : gLe (.int m) (.int n) = .ok (.bl (decide (m ≤ n))) := rfl
theorem q_gt : gGt (.int m) (.int n) = .ok (.bl (decide (n < m))) := rfl
theorem q_ge : gGe (.int m) (.int n) = .ok (.bl (decide (n ≤ m))) := rfl
theorem q_eqI : gEq (.int m) (.int n) = .ok (.bl (decide (m = n))) := by simp [gEq, dep, eqD]; rfl
theorem q_neI : gNe (.int m) (.int n) = .ok (.bl (!decide (m = n))) := by simp [gNe, dep, eqD]; rfl
theorem q_eq (h1 : dep x ≤ 8) (h2 : dep y ≤ 8) : gEq x y = .ok (.bl (eqD x y)) := by unfold gEq; rw [if_pos ⟨h1, h2⟩]
theorem q_ne (h1 : dep x ≤ 8) (h2 : dep y ≤ 8) : gNe x y = .ok (.bl (!eqD x y)) := by unfold gNe; rw [if_pos ⟨h1, h2⟩]
theorem q_ne_same (h1 : dep x ≤ 8) (e : x = y) : gNe x y = .ok (.bl false) := by subst e; rw [q_ne h1 h1, eqD_refl]; rfl
theorem q_ix (h : atI ds m = some d) : gIx (.tup ds) (.int m) = .ok d := by simp [gIx, h]
theorem q_ixL (h : atI ds m = some d) : gIx (.lst ds) (.int m) = .ok d := by simp [gIx, h]
theorem cdb (h : 0 < n) (h2 : n < 2 ^ 200) : CDB m n := ⟨h, h2⟩
end
end Vl

set_option Elab.async false
set_option linter.all false
set_option maxRecDepth 100000
set_option maxHeartbeats 4000000
namespace K05
open PySem PySem.Spec PySem.Calls PySem.W L2 Vl
theorem w_check_bad {t : Int} (h : t < 0 ∨ 7 < t) : v_check_turn [.int t] = .ex "BadTurn" 0 := by
  unfold v_check_turn g_check_turn
  have e : startR ["turn"] [.int t] = [.fz (.int t)] := rfl
  rw [e]
  rcases h with h | h
  · simp [rIf, fOr, fT, fOp, fVar, fC, gLt, gGt, gI0, Rs.bind, toB, oR, h, rRse, fCons, fNil, fin]
  · have h' : ¬ t < 0 := by omega
    simp [rIf, fOr, fT, fOp, fVar, fC, gLt, gGt, gI0, Rs.bind, toB, oR, h, h', rRse, fCons, fNil, fin]
theorem w_check_ok {t : Int} (h : 0 ≤ t) (h2 : t ≤ 7) : v_check_turn [.int t] = .ok .non := by
  unfold v_check_turn g_check_turn
  have e : startR ["turn"] [.int t] = [.fz (.int t)] := rfl
  rw [e]
  have h' : ¬ t < 0 := by omega
  have h'' : ¬ 7 < t := by omega
  simp [rIf, fOr, fT, fOp, fVar, fC, gLt, gGt, gI0, Rs.bind, toB, oR, h', h'', rNx, fin]
theorem w_tc_bad {d : D} {t : Int} (h : t < 0 ∨ 7 < t) : v_turned_cell [d, .int t] = .ex "BadTurn" 0 := by
  unfold v_turned_cell g_turned_cell
  have e : startR ["cell", "turn", "here", "quarter"] [d, .int t] = [.fz d, .fz (.int t), .no, .no] := rfl
  rw [e]
  simp [rSeq, rExp, fA, fCons, fVar, fNil, gCallX, w_check_bad h, oR, Rs.bind, oSeq, fin]
theorem w_t_bad {d : D} {t : Int} (h : t < 0 ∨ 7 < t) : v_turned [d, .int t] = .ex "BadTurn" 0 := by
  unfold v_turned g_turned
  have e : startR ["shape", "turn"] [d, .int t] = [.fz d, .fz (.int t)] := rfl
  rw [e]
  simp [rSeq, rExp, fA, fCons, fVar, fNil, gCallX, w_check_bad h, oR, Rs.bind, oSeq, fin]
theorem w_back_bad {t : Int} (h : t < 0 ∨ 7 < t) : v_back_of [.int t] = .ex "BadTurn" 0 := by
  unfold v_back_of g_back_of
  have e : startR ["turn"] [.int t] = [.fz (.int t)] := rfl
  rw [e]
  simp [rSeq, rExp, fA, fCons, fVar, fNil, gCallX, w_check_bad h, oR, Rs.bind, oSeq, fin]
theorem w_on_bad1 {d : D} {t : Int} (h : t < 0 ∨ 7 < t) : v_turned_on [.int t, d] = .ex "BadTurn" 0 := by
  unfold v_turned_on g_turned_on
  have e : startR ["one", "other", "mirrorings", "quarters"] [.int t, d] = [.fz (.int t), .fz d, .no, .no] := rfl
  rw [e]
  simp [rSeq, rExp, fA, fCons, fVar, fNil, gCallX, w_check_bad h, oR, Rs.bind, oSeq, fin]
theorem w_on_bad2 {a t : Int} (h1 : 0 ≤ a) (h2 : a ≤ 7) (h : t < 0 ∨ 7 < t) : v_turned_on [.int a, .int t] = .ex "BadTurn" 0 := by
  unfold v_turned_on g_turned_on
  have e : startR ["one", "other", "mirrorings", "quarters"] [.int a, .int t] = [.fz (.int a), .fz (.int t), .no, .no] := rfl
  rw [e]
  simp [rSeq, rExp, fA, fCons, fVar, fNil, gCallX, w_check_bad h, w_check_ok h1 h2, oR, Rs.bind, oSeq, fin]
theorem w_whole (x : Int) : v__law_whole [.int x] = .ok (.bl true) := by kernel_rfl
theorem w_tc (r c : Int) : ∀ t : Fin 8, ∃ r' c' : Int, v_turned_cell [.tup [.int r, .int c], .int (t.1 : Int)] = .ok (.tup [.int r', .int c'])
  | ⟨0, _⟩ => ⟨r, c, by kernel_rfl⟩
  | ⟨1, _⟩ => ⟨c, -r, by kernel_rfl⟩
  | ⟨2, _⟩ => ⟨-r, -c, by kernel_rfl⟩
  | ⟨3, _⟩ => ⟨-c, - -r, by kernel_rfl⟩
  | ⟨4, _⟩ => ⟨r, -c, by kernel_rfl⟩
  | ⟨5, _⟩ => ⟨-c, -r, by kernel_rfl⟩
  | ⟨6, _⟩ => ⟨-r, - -c, by kernel_rfl⟩
  | ⟨7, _⟩ => ⟨- -c, - -r, by kernel_rfl⟩

theorem w_deal (c : Int) : ∃ n : Int, v__law_deal [.int c, .int 12] = .ok (.int n) := by
  unfold v__law_deal g__law_deal
  have e : startR ["cell", "many", "number", "one", "k", "two"] [.int c, .int 12] = [.fz (.int c), .fz (.int 12), .no, .no, .no, .no] := rfl
  rw [e]
  by_cases h : (10 : Int) ^ 18 ≤ c
  · refine ⟨c - 10 ^ 18, ?_⟩
    rw [seq_rt (d := .int (c - 10 ^ 18))]
    · rfl
    · refine s_if_t ?_ ?_
      · repeat' (first | exact v_c | exact v_nil | exact v_var rfl | exact s_nx | apply v_op | apply v_neg | apply v_cons | apply v_a | apply v_b | (apply v_call; exact rfl) | exact v_tup (Nat.le_of_ble_eq_true rfl) | exact v_lst (Nat.le_of_ble_eq_true rfl) | apply v_t | apply v_not | apply s_set | apply s_ret | apply s_exp | apply s_asg | apply s_par | exact q_plus | exact q_sub | exact q_lt | exact q_le | exact q_gt | exact q_ge | exact q_eqI | exact q_neI | exact q_mod (by decide) | exact q_div ⟨by decide, by decide⟩ | exact q_dm ⟨by decide, by decide⟩ | exact q_pow ⟨by decide, by decide, by decide⟩ | exact q_mul (.inr ⟨by decide, by decide⟩) | exact q_mul (.inl ⟨by decide, by decide⟩) | exact (rfl : (_ : Option Rho) = some _))
        exact congrArg (fun b => Rs.ok (D.bl b)) (decide_eq_true h)
      · repeat' (first | exact v_c | exact v_nil | exact v_var rfl | exact s_nx | apply v_op | apply v_neg | apply v_cons | apply v_a | apply v_b | (apply v_call; exact rfl) | exact v_tup (Nat.le_of_ble_eq_true rfl) | exact v_lst (Nat.le_of_ble_eq_true rfl) | apply v_t | apply v_not | apply s_set | apply s_ret | apply s_exp | apply s_asg | apply s_par | exact q_plus | exact q_sub | exact q_lt | exact q_le | exact q_gt | exact q_ge | exact q_eqI | exact q_neI | exact q_mod (by decide) | exact q_div ⟨by decide, by decide⟩ | exact q_dm ⟨by decide, by decide⟩ | exact q_pow ⟨by decide, by decide, by decide⟩ | exact q_mul (.inr ⟨by decide, by decide⟩) | exact q_mul (.inl ⟨by decide, by decide⟩) | exact (rfl : (_ : Option Rho) = some _))
  · have main : ∃ (n : Int) (ρ : Rho), (rSeq (rSet 2 (fC (.int 0)))
    (rSeq (rSet 3 (fOp gMod (fOp gMul (fOp gPlus (fOp gMod (fVar 0) (fC (.int 2147483647))) (fC (.int 977))) (fC (.int 69621))) (fC (.int 2147483647))))
    (rSeq (rNox (gForR (hName 4) (rSeq (rSet 3 (fOp gMod (fOp gPlus (fOp gPlus (fOp gMul (fVar 3) (fC (.int 48271))) (fVar 4)) (fC (.int 1))) (fC (.int 2147483647))))
    (rSeq (rSet 5 (fOp gMod (fOp gMul (fVar 3) (fVar 3)) (fC (.int 2147483629))))
    (rSet 2 (fOp gPlus (fOp gMul (fVar 2) (fC (.int 999983))) (fOp gMod (fOp gPlus (fOp gDiv (fVar 5) (fC (.int 1021))) (fVar 5)) (fC (.int 999983))))))) (fVar 1)))
    (rRet (fVar 2))))) [.fz (.int c), .fz (.int 12), .no, .no, .no, .no] = .rt (.int n) := by
      let Pv : Rho → Prop := fun ρ => ∃ (n o : Int) (a b : Sl), ρ = [.fz (.int c), .fz (.int 12), .fz (.int n), .fz (.int o), a, b] ∧ 0 ≤ o ∧ o < 2147483647
      obtain ⟨ρ', e1, n, o, a, b, rfl, _⟩ := forD_all (h := hName 4) (g := rSeq (rSet 3 (fOp gMod (fOp gPlus (fOp gPlus (fOp gMul (fVar 3) (fC (.int 48271))) (fVar 4)) (fC (.int 1))) (fC (.int 2147483647))))
        (rSeq (rSet 5 (fOp gMod (fOp gMul (fVar 3) (fVar 3)) (fC (.int 2147483629))))
        (rSet 2 (fOp gPlus (fOp gMul (fVar 2) (fC (.int 999983))) (fOp gMod (fOp gPlus (fOp gDiv (fVar 5) (fC (.int 1021))) (fVar 5)) (fC (.int 999983))))))) Pv
        (ds := (List.range 12).map fun (i : Nat) => .int i) (ρ := [.fz (.int c), .fz (.int 12), .fz (.int 0), .fz (.int ((c % 2147483647 + 977) * 69621 % 2147483647)), .no, .no])
        ⟨_, _, _, _, rfl, Int.emod_nonneg _ (by decide), Int.emod_lt_of_pos _ (by decide)⟩ (by
          rintro d hd ρ ⟨n, o, a, b, rfl, h1, h2⟩
          obtain ⟨i, _, rfl⟩ := List.mem_map.mp hd
          apply Exists.intro
          apply Exists.intro
          refine ⟨rfl, ?_, ?_⟩
          · apply seq_nx
            · repeat' (first | exact v_c | exact v_nil | exact v_var rfl | exact s_nx | apply v_op | apply v_neg | apply v_cons | apply v_a | apply v_b | (apply v_call; exact rfl) | exact v_tup (Nat.le_of_ble_eq_true rfl) | exact v_lst (Nat.le_of_ble_eq_true rfl) | apply v_t | apply v_not | apply s_set | apply s_ret | apply s_exp | apply s_asg | apply s_par | exact q_plus | exact q_sub | exact q_lt | exact q_le | exact q_gt | exact q_ge | exact q_eqI | exact q_neI | exact q_mod (by decide) | exact q_div ⟨by decide, by decide⟩ | exact q_dm ⟨by decide, by decide⟩ | exact q_pow ⟨by decide, by decide, by decide⟩ | exact q_mul (.inr ⟨by decide, by decide⟩) | exact q_mul (.inl ⟨by decide, by decide⟩) | exact (rfl : (_ : Option Rho) = some _))
            apply seq_nx
            · exact s_set (v_op (v_op (v_var rfl) (v_var rfl) (q_mul (.inl ⟨Int.lt_of_lt_of_le (by decide) (Int.emod_nonneg _ (by decide)), Int.lt_trans (Int.emod_lt_of_pos _ (by decide)) (by decide)⟩))) v_c (q_mod (by decide)))
            · repeat' (first | exact v_c | exact v_nil | exact v_var rfl | exact s_nx | apply v_op | apply v_neg | apply v_cons | apply v_a | apply v_b | (apply v_call; exact rfl) | exact v_tup (Nat.le_of_ble_eq_true rfl) | exact v_lst (Nat.le_of_ble_eq_true rfl) | apply v_t | apply v_not | apply s_set | apply s_ret | apply s_exp | apply s_asg | apply s_par | exact q_plus | exact q_sub | exact q_lt | exact q_le | exact q_gt | exact q_ge | exact q_eqI | exact q_neI | exact q_mod (by decide) | exact q_div ⟨by decide, by decide⟩ | exact q_dm ⟨by decide, by decide⟩ | exact q_pow ⟨by decide, by decide, by decide⟩ | exact q_mul (.inr ⟨by decide, by decide⟩) | exact q_mul (.inl ⟨by decide, by decide⟩) | exact (rfl : (_ : Option Rho) = some _))
          · exact ⟨_, _, _, _, rfl, Int.emod_nonneg _ (by decide), Int.emod_lt_of_pos _ (by decide)⟩)
      refine ⟨n, [], ?_⟩
      apply seq_nx
      · repeat' (first | exact v_c | exact v_nil | exact v_var rfl | exact s_nx | apply v_op | apply v_neg | apply v_cons | apply v_a | apply v_b | (apply v_call; exact rfl) | exact v_tup (Nat.le_of_ble_eq_true rfl) | exact v_lst (Nat.le_of_ble_eq_true rfl) | apply v_t | apply v_not | apply s_set | apply s_ret | apply s_exp | apply s_asg | apply s_par | exact q_plus | exact q_sub | exact q_lt | exact q_le | exact q_gt | exact q_ge | exact q_eqI | exact q_neI | exact q_mod (by decide) | exact q_div ⟨by decide, by decide⟩ | exact q_dm ⟨by decide, by decide⟩ | exact q_pow ⟨by decide, by decide, by decide⟩ | exact q_mul (.inr ⟨by decide, by decide⟩) | exact q_mul (.inl ⟨by decide, by decide⟩) | exact (rfl : (_ : Option Rho) = some _))
      apply seq_nx
      · repeat' (first | exact v_c | exact v_nil | exact v_var rfl | exact s_nx | apply v_op | apply v_neg | apply v_cons | apply v_a | apply v_b | (apply v_call; exact rfl) | exact v_tup (Nat.le_of_ble_eq_true rfl) | exact v_lst (Nat.le_of_ble_eq_true rfl) | apply v_t | apply v_not | apply s_set | apply s_ret | apply s_exp | apply s_asg | apply s_par | exact q_plus | exact q_sub | exact q_lt | exact q_le | exact q_gt | exact q_ge | exact q_eqI | exact q_neI | exact q_mod (by decide) | exact q_div ⟨by decide, by decide⟩ | exact q_dm ⟨by decide, by decide⟩ | exact q_pow ⟨by decide, by decide, by decide⟩ | exact q_mul (.inr ⟨by decide, by decide⟩) | exact q_mul (.inl ⟨by decide, by decide⟩) | exact (rfl : (_ : Option Rho) = some _))
      apply seq_nx
      · exact s_nox (s_forR (N := 12) (v_var rfl) (by decide) rfl e1)
      · repeat' (first | exact v_c | exact v_nil | exact v_var rfl | exact s_nx | apply v_op | apply v_neg | apply v_cons | apply v_a | apply v_b | (apply v_call; exact rfl) | exact v_tup (Nat.le_of_ble_eq_true rfl) | exact v_lst (Nat.le_of_ble_eq_true rfl) | apply v_t | apply v_not | apply s_set | apply s_ret | apply s_exp | apply s_asg | apply s_par | exact q_plus | exact q_sub | exact q_lt | exact q_le | exact q_gt | exact q_ge | exact q_eqI | exact q_neI | exact q_mod (by decide) | exact q_div ⟨by decide, by decide⟩ | exact q_dm ⟨by decide, by decide⟩ | exact q_pow ⟨by decide, by decide, by decide⟩ | exact q_mul (.inr ⟨by decide, by decide⟩) | exact q_mul (.inl ⟨by decide, by decide⟩) | exact (rfl : (_ : Option Rho) = some _))
    obtain ⟨n, _, e1⟩ := main
    refine ⟨n, ?_⟩
    rw [seq_nx (ρ1 := [.fz (.int c), .fz (.int 12), .no, .no, .no, .no]) (s_if_f (v_t (v_op (v_var rfl) (v_op v_c v_c (q_pow ⟨by decide, by decide, by decide⟩)) (by rw [q_ge]; exact congrArg (fun b => Rs.ok (D.bl b)) (decide_eq_false h)))) s_nx) e1]
    rfl

theorem w_spot {n far : Int} (h0 : 0 ≤ far) (h1 : far < 2 ^ 100) : ∃ m r c : Int, v__law_spot [.int n, .int far] = .ok (.tup [.int m, .tup [.int r, .int c]]) := by
  unfold v__law_spot g__law_spot
  have e : startR ["number", "far", "way", "size", "row", "column"] [.int n, .int far] = [.fz (.int n), .fz (.int far), .no, .no, .no, .no] := rfl
  rw [e]
  have c1 : CDB n 6 := ⟨by decide, by decide⟩
  have main : ∀ (q w : Int), 0 ≤ w → w < 6 → ∃ (m r c : Int), (rSeq (rSet 3 (fOp gIx (fA (fCons (fC (.int 4)) (fCons (fC (.int 4)) (fCons (fC (.int 6)) (fCons (fC (.int 3)) (fCons (fOp gPlus (fOp gMul (fC (.int 2)) (fVar 1)) (fC (.int 1))) (fCons (fC (.int 3)) fNil)))))) gLst) (fVar 2)))
    (rSeq (rAsg (fA (fCons (fVar 0) (fCons (fVar 3) fNil)) gDm) (hTup 2 (hCons (hName 0) (hCons (hName 4) hNil))))
    (rSeq (rAsg (fA (fCons (fVar 0) (fCons (fVar 3) fNil)) gDm) (hTup 2 (hCons (hName 0) (hCons (hName 5) hNil))))
    (rSeq (rIf (fT (fOp gEq (fVar 2) (fC (.int 4)))) (rRet (fA (fCons (fVar 0) (fCons (fA (fCons (fOp Vl.gSub (fVar 4) (fVar 1)) (fCons (fOp Vl.gSub (fVar 5) (fVar 1)) fNil)) gTup) fNil)) gTup)) rNx)
    (rSeq (rIf (fT (fOp gEq (fVar 2) (fC (.int 5)))) (rRet (fA (fCons (fVar 0) (fCons (fA (fCons (fOp Vl.gSub (fVar 1) (fVar 4)) (fCons (fOp Vl.gSub (fVar 5) (fVar 1)) fNil)) gTup) fNil)) gTup)) rNx)
    (rRet (fA (fCons (fVar 0) (fCons (fA (fCons (fOp Vl.gSub (fVar 4) (fC (.int 1))) (fCons (fOp Vl.gSub (fVar 5) (fC (.int 2))) fNil)) gTup) fNil)) gTup))))))) [.fz (.int q), .fz (.int far), .fz (.int w), .no, .no, .no] = .rt (.tup [.int m, .tup [.int r, .int c]]) := by
    intro q w hw0 hw6
    have size : ∃ z : Int, (0 < z ∧ z < 2 ^ 200) ∧ gIx (.lst [.int 4, .int 4, .int 6, .int 3, .int (2 * far + 1), .int 3]) (.int w) = .ok (.int z) := by
      have hw : w = 0 ∨ w = 1 ∨ w = 2 ∨ w = 3 ∨ w = 4 ∨ w = 5 := by omega
      rcases hw with rfl | rfl | rfl | rfl | rfl | rfl
      · exact ⟨4, by decide, rfl⟩
      · exact ⟨4, by decide, rfl⟩
      · exact ⟨6, by decide, rfl⟩
      · exact ⟨3, by decide, rfl⟩
      · refine ⟨2 * far + 1, ⟨by omega, ?_⟩, rfl⟩
        have : (2 : Int) ^ 200 = 2 ^ 100 * 2 ^ 100 := by decide
        have h3 : (2 : Int) ^ 100 = 1267650600228229401496703205376 := by decide
        rw [this, h3]
        rw [h3] at h1
        omega
      · exact ⟨3, by decide, rfl⟩
    obtain ⟨z, hz, ez⟩ := size
    have cz : ∀ i, CDB i z := fun i => hz
    by_cases h4 : w = 4
    · apply Exists.intro; apply Exists.intro; apply Exists.intro
      apply seq_nx
      · apply s_set
        refine v_op (x := .lst [.int 4, .int 4, .int 6, .int 3, .int (2 * far + 1), .int 3]) ?_ (v_var rfl) ez
        repeat' (first | exact v_c | exact v_nil | exact v_var rfl | exact s_nx | apply v_op | apply v_neg | apply v_cons | apply v_a | apply v_b | (apply v_call; exact rfl) | exact v_tup (Nat.le_of_ble_eq_true rfl) | exact v_lst (Nat.le_of_ble_eq_true rfl) | apply v_t | apply v_not | apply s_set | apply s_ret | apply s_exp | apply s_asg | apply s_par | exact q_plus | exact q_sub | exact q_lt | exact q_le | exact q_gt | exact q_ge | exact q_eqI | exact q_neI | exact q_mod (by decide) | exact q_div ⟨by decide, by decide⟩ | exact q_dm ⟨by decide, by decide⟩ | exact q_pow ⟨by decide, by decide, by decide⟩ | exact q_mul (.inr ⟨by decide, by decide⟩) | exact q_mul (.inl ⟨by decide, by decide⟩) | exact (rfl : (_ : Option Rho) = some _))
      apply seq_nx
      · exact s_asg (v_a (v_cons (v_var rfl) (v_cons (v_var rfl) v_nil)) (q_dm (cz _))) rfl
      apply seq_nx
      · exact s_asg (v_a (v_cons (v_var rfl) (v_cons (v_var rfl) v_nil)) (q_dm (cz _))) rfl
      apply seq_rt
      apply s_if_t
      · exact v_t (v_op (v_var rfl) v_c (q_eqI.trans (congrArg (fun b => Rs.ok (D.bl b)) (decide_eq_true h4))))
      repeat' (first | exact v_c | exact v_nil | exact v_var rfl | exact s_nx | apply v_op | apply v_neg | apply v_cons | apply v_a | apply v_b | (apply v_call; exact rfl) | exact v_tup (Nat.le_of_ble_eq_true rfl) | exact v_lst (Nat.le_of_ble_eq_true rfl) | apply v_t | apply v_not | apply s_set | apply s_ret | apply s_exp | apply s_asg | apply s_par | exact q_plus | exact q_sub | exact q_lt | exact q_le | exact q_gt | exact q_ge | exact q_eqI | exact q_neI | exact q_mod (by decide) | exact q_div ⟨by decide, by decide⟩ | exact q_dm ⟨by decide, by decide⟩ | exact q_pow ⟨by decide, by decide, by decide⟩ | exact q_mul (.inr ⟨by decide, by decide⟩) | exact q_mul (.inl ⟨by decide, by decide⟩) | exact (rfl : (_ : Option Rho) = some _))
    by_cases h5 : w = 5
    · apply Exists.intro; apply Exists.intro; apply Exists.intro
      apply seq_nx
      · apply s_set
        refine v_op (x := .lst [.int 4, .int 4, .int 6, .int 3, .int (2 * far + 1), .int 3]) ?_ (v_var rfl) ez
        repeat' (first | exact v_c | exact v_nil | exact v_var rfl | exact s_nx | apply v_op | apply v_neg | apply v_cons | apply v_a | apply v_b | (apply v_call; exact rfl) | exact v_tup (Nat.le_of_ble_eq_true rfl) | exact v_lst (Nat.le_of_ble_eq_true rfl) | apply v_t | apply v_not | apply s_set | apply s_ret | apply s_exp | apply s_asg | apply s_par | exact q_plus | exact q_sub | exact q_lt | exact q_le | exact q_gt | exact q_ge | exact q_eqI | exact q_neI | exact q_mod (by decide) | exact q_div ⟨by decide, by decide⟩ | exact q_dm ⟨by decide, by decide⟩ | exact q_pow ⟨by decide, by decide, by decide⟩ | exact q_mul (.inr ⟨by decide, by decide⟩) | exact q_mul (.inl ⟨by decide, by decide⟩) | exact (rfl : (_ : Option Rho) = some _))
      apply seq_nx
      · exact s_asg (v_a (v_cons (v_var rfl) (v_cons (v_var rfl) v_nil)) (q_dm (cz _))) rfl
      apply seq_nx
      · exact s_asg (v_a (v_cons (v_var rfl) (v_cons (v_var rfl) v_nil)) (q_dm (cz _))) rfl
      apply seq_nx
      · exact s_if_f (v_t (v_op (v_var rfl) v_c (q_eqI.trans (congrArg (fun b => Rs.ok (D.bl b)) (decide_eq_false h4))))) s_nx
      apply seq_rt
      apply s_if_t
      · exact v_t (v_op (v_var rfl) v_c (q_eqI.trans (congrArg (fun b => Rs.ok (D.bl b)) (decide_eq_true h5))))
      repeat' (first | exact v_c | exact v_nil | exact v_var rfl | exact s_nx | apply v_op | apply v_neg | apply v_cons | apply v_a | apply v_b | (apply v_call; exact rfl) | exact v_tup (Nat.le_of_ble_eq_true rfl) | exact v_lst (Nat.le_of_ble_eq_true rfl) | apply v_t | apply v_not | apply s_set | apply s_ret | apply s_exp | apply s_asg | apply s_par | exact q_plus | exact q_sub | exact q_lt | exact q_le | exact q_gt | exact q_ge | exact q_eqI | exact q_neI | exact q_mod (by decide) | exact q_div ⟨by decide, by decide⟩ | exact q_dm ⟨by decide, by decide⟩ | exact q_pow ⟨by decide, by decide, by decide⟩ | exact q_mul (.inr ⟨by decide, by decide⟩) | exact q_mul (.inl ⟨by decide, by decide⟩) | exact (rfl : (_ : Option Rho) = some _))
    · apply Exists.intro; apply Exists.intro; apply Exists.intro
      apply seq_nx
      · apply s_set
        refine v_op (x := .lst [.int 4, .int 4, .int 6, .int 3, .int (2 * far + 1), .int 3]) ?_ (v_var rfl) ez
        repeat' (first | exact v_c | exact v_nil | exact v_var rfl | exact s_nx | apply v_op | apply v_neg | apply v_cons | apply v_a | apply v_b | (apply v_call; exact rfl) | exact v_tup (Nat.le_of_ble_eq_true rfl) | exact v_lst (Nat.le_of_ble_eq_true rfl) | apply v_t | apply v_not | apply s_set | apply s_ret | apply s_exp | apply s_asg | apply s_par | exact q_plus | exact q_sub | exact q_lt | exact q_le | exact q_gt | exact q_ge | exact q_eqI | exact q_neI | exact q_mod (by decide) | exact q_div ⟨by decide, by decide⟩ | exact q_dm ⟨by decide, by decide⟩ | exact q_pow ⟨by decide, by decide, by decide⟩ | exact q_mul (.inr ⟨by decide, by decide⟩) | exact q_mul (.inl ⟨by decide, by decide⟩) | exact (rfl : (_ : Option Rho) = some _))
      apply seq_nx
      · exact s_asg (v_a (v_cons (v_var rfl) (v_cons (v_var rfl) v_nil)) (q_dm (cz _))) rfl
      apply seq_nx
      · exact s_asg (v_a (v_cons (v_var rfl) (v_cons (v_var rfl) v_nil)) (q_dm (cz _))) rfl
      apply seq_nx
      · exact s_if_f (v_t (v_op (v_var rfl) v_c (q_eqI.trans (congrArg (fun b => Rs.ok (D.bl b)) (decide_eq_false h4))))) s_nx
      apply seq_nx
      · exact s_if_f (v_t (v_op (v_var rfl) v_c (q_eqI.trans (congrArg (fun b => Rs.ok (D.bl b)) (decide_eq_false h5))))) s_nx
      repeat' (first | exact v_c | exact v_nil | exact v_var rfl | exact s_nx | apply v_op | apply v_neg | apply v_cons | apply v_a | apply v_b | (apply v_call; exact rfl) | exact v_tup (Nat.le_of_ble_eq_true rfl) | exact v_lst (Nat.le_of_ble_eq_true rfl) | apply v_t | apply v_not | apply s_set | apply s_ret | apply s_exp | apply s_asg | apply s_par | exact q_plus | exact q_sub | exact q_lt | exact q_le | exact q_gt | exact q_ge | exact q_eqI | exact q_neI | exact q_mod (by decide) | exact q_div ⟨by decide, by decide⟩ | exact q_dm ⟨by decide, by decide⟩ | exact q_pow ⟨by decide, by decide, by decide⟩ | exact q_mul (.inr ⟨by decide, by decide⟩) | exact q_mul (.inl ⟨by decide, by decide⟩) | exact (rfl : (_ : Option Rho) = some _))
  obtain ⟨m, r, c, e1⟩ := main (n / 6) (n % 6) (Int.emod_nonneg _ (by decide)) (Int.emod_lt_of_pos _ (by decide))
  refine ⟨m, r, c, ?_⟩
  rw [seq_nx (s_asg (v_a (v_cons (v_var rfl) (v_cons v_c v_nil)) (q_dm c1)) rfl) e1]
  rfl
theorem w_ref_end {m : Str → Bool} {ρ : Rho} {w o g : Int} (h : ρ = [.fz (.int w), .fz (.int o), .fz (.int g), .fz (.bl false), .no]) :
    rSeq (gTry e_MossError 4 (fun _ => .ex "BadTurn" 0 ρ) (rSet 3 (fB (fVar 4) (gIsE m_BadTurn)))) (rRet (fVar 3)) ρ = .rt (.bl true) := by
  subst h
  kernel_rfl
theorem w_refused {w o g : Int} (hw : 0 ≤ w) (hw5 : w < 5) (ho : o < 0 ∨ 7 < o) (hg : 0 ≤ g) (hg7 : g ≤ 7) : v__law_refused [.int w, .int o, .int g] = .ok (.bl true) := by
  unfold v__law_refused g__law_refused
  have e : startR ["way", "turn", "good", "told", "e"] [.int w, .int o, .int g] = [.fz (.int w), .fz (.int o), .fz (.int g), .no, .no] := rfl
  rw [e]
  suffices hs : ∀ gb : Rho → Ou, gb [.fz (.int w), .fz (.int o), .fz (.int g), .fz (.bl false), .no] = .ex "BadTurn" 0 [.fz (.int w), .fz (.int o), .fz (.int g), .fz (.bl false), .no] →
      rSeq (rSet 3 (fC (.bl false))) (rSeq (gTry e_MossError 4 gb (rSet 3 (fB (fVar 4) (gIsE m_BadTurn)))) (rRet (fVar 3))) [.fz (.int w), .fz (.int o), .fz (.int g), .no, .no] = .rt (.bl true) by
    rw [hs]
    · rfl
    have yes : ∀ {a b : Int}, a = b → gEq (.int a) (.int b) = .ok (.bl true) := fun h => q_eqI.trans (congrArg (fun b => Rs.ok (D.bl b)) (decide_eq_true h))
    have no : ∀ {a b : Int}, ¬ a = b → gEq (.int a) (.int b) = .ok (.bl false) := fun h => q_eqI.trans (congrArg (fun b => Rs.ok (D.bl b)) (decide_eq_false h))
    by_cases h0 : w = 0
    · exact s_if_t (v_t (v_op (v_var rfl) v_c (yes h0))) (s_exp_ex (v_a (v_cons (v_a (v_cons v_c (v_cons v_c v_nil)) (v_tup (by decide))) (v_cons (v_var rfl) v_nil)) (v_call rfl (w_tc_bad ho))))
    refine s_if_f (v_t (v_op (v_var rfl) v_c (no h0))) ?_
    by_cases h1 : w = 1
    · exact s_if_t (v_t (v_op (v_var rfl) v_c (yes h1))) (s_exp_ex (v_a (v_cons (v_a (v_cons (v_a v_nil (v_tup (by decide))) (v_cons v_c v_nil)) (v_tup (by decide))) (v_cons (v_var rfl) v_nil)) (v_call rfl (w_t_bad ho))))
    refine s_if_f (v_t (v_op (v_var rfl) v_c (no h1))) ?_
    by_cases h2 : w = 2
    · exact s_if_t (v_t (v_op (v_var rfl) v_c (yes h2))) (s_exp_ex (v_a (v_cons (v_var rfl) v_nil) (v_call rfl (w_back_bad ho))))
    refine s_if_f (v_t (v_op (v_var rfl) v_c (no h2))) ?_
    by_cases h3 : w = 3
    · exact s_if_t (v_t (v_op (v_var rfl) v_c (yes h3))) (s_exp_ex (v_a (v_cons (v_var rfl) (v_cons (v_var rfl) v_nil)) (v_call rfl (w_on_bad1 ho))))
    exact s_if_f (v_t (v_op (v_var rfl) v_c (no h3))) (s_exp_ex (v_a (v_cons (v_var rfl) (v_cons (v_var rfl) v_nil)) (v_call rfl (w_on_bad2 hg hg7 ho))))
  intro gb hgb
  refine seq_nx (s_set v_c) (seq_nx (ρ1 := [.fz (.int w), .fz (.int o), .fz (.int g), .fz (.bl true), .no]) ?_ (s_ret (v_var rfl)))
  exact s_try_ex hgb (by decide) (by kernel_rfl)
end K05

set_option Elab.async false
set_option linter.all false
set_option maxRecDepth 100000
set_option maxHeartbeats 4000000
namespace K05
open PySem PySem.Spec PySem.Calls PySem.W L2 Vl
def gTurn : Rho → Ou := (rSeq (rAsg (fVar 3) (hTup 2 (hCons (hName 5) (hCons (hName 6) hNil))))
    (rSeq (rIf (fT (fOp gGt (fVar 4) (fC (.int 3)))) (rSet 6 (fOp Vl.gSub (fC (.int 0)) (fVar 6))) rNx)
    (rSeq (gForR (hName 7) (rPar 5 6 (fCons (fVar 6) (fCons (fOp Vl.gSub (fC (.int 0)) (fVar 5)) fNil))) (fOp gMod (fVar 4) (fC (.int 4))))
    (rSeq (rSet 8 (fA (fCons (fVar 3) (fCons (fVar 4) fNil)) (gCallX 2 v_turned_cell)))
    (rSeq (rIf (fOr (fNot (fT (fB (fVar 8) (gIs .tuple)))) (fOr (fT (fOp gNe (fVar 8) (fA (fCons (fVar 5) (fCons (fVar 6) fNil)) Vl.gTup))) (fNot (fT (fA (fCons (fOp gPlus (fOp gIx (fVar 8) (fC (.int 0))) (fOp gIx (fVar 8) (fC (.int 1)))) fNil) (gCallX 1 v__law_whole)))))) (rRet (fC (.bl false))) rNx)
    (rSeq (rSet 9 (fA (fCons (fVar 4) fNil) (gCallX 1 v_back_of)))
    (rIf (fOr (fNot (fT (fA (fCons (fVar 9) fNil) (gCallX 1 v__law_whole)))) (fT (fOp gNe (fA (fCons (fVar 8) (fCons (fVar 9) fNil)) (gCallX 2 v_turned_cell)) (fVar 3)))) (rRet (fC (.bl false))) rNx)))))))
theorem turn_step {r c t r1 c1 r2 c2 r3 c3 b : Int} {a0 a1 a2 a5 a6 a7 a8 a9 a10 a11 a12 a7' : Sl}
    (h3 : rSeq (rIf (fT (fOp gGt (fVar 4) (fC (.int 3)))) (rSet 6 (fOp Vl.gSub (fC (.int 0)) (fVar 6))) rNx)
      (gForR (hName 7) (rPar 5 6 (fCons (fVar 6) (fCons (fOp Vl.gSub (fC (.int 0)) (fVar 5)) fNil))) (fOp gMod (fVar 4) (fC (.int 4))))
      [a0, a1, a2, .fz (.tup [.int r, .int c]), .fz (.int t), .fz (.int r), .fz (.int c), a7, a8, a9, a10, a11, a12] =
      .nx [a0, a1, a2, .fz (.tup [.int r, .int c]), .fz (.int t), .fz (.int r1), .fz (.int c1), a7', a8, a9, a10, a11, a12])
    (h4 : v_turned_cell [.tup [.int r, .int c], .int t] = .ok (.tup [.int r2, .int c2])) (e1 : r2 = r1) (e2 : c2 = c1)
    (h6 : v_back_of [.int t] = .ok (.int b)) (h7 : v_turned_cell [.tup [.int r2, .int c2], .int b] = .ok (.tup [.int r3, .int c3])) (e3 : r3 = r) (e4 : c3 = c) :
    gTurn [a0, a1, a2, .fz (.tup [.int r, .int c]), .fz (.int t), a5, a6, a7, a8, a9, a10, a11, a12] =
      .nx [a0, a1, a2, .fz (.tup [.int r, .int c]), .fz (.int t), .fz (.int r1), .fz (.int c1), a7', .fz (.tup [.int r2, .int c2]), .fz (.int b), a10, a11, a12] := by
  unfold gTurn
  refine seq_nx (s_asg (v_var rfl) rfl) ?_
  have h3' : ∀ k : Rho → Ou, rSeq (rIf (fT (fOp gGt (fVar 4) (fC (.int 3)))) (rSet 6 (fOp Vl.gSub (fC (.int 0)) (fVar 6))) rNx)
      (rSeq (gForR (hName 7) (rPar 5 6 (fCons (fVar 6) (fCons (fOp Vl.gSub (fC (.int 0)) (fVar 5)) fNil))) (fOp gMod (fVar 4) (fC (.int 4)))) k)
      [a0, a1, a2, .fz (.tup [.int r, .int c]), .fz (.int t), .fz (.int r), .fz (.int c), a7, a8, a9, a10, a11, a12] =
      k [a0, a1, a2, .fz (.tup [.int r, .int c]), .fz (.int t), .fz (.int r1), .fz (.int c1), a7', a8, a9, a10, a11, a12] := fun k => by
    unfold rSeq at h3 ⊢
    generalize rIf (fT (fOp gGt (fVar 4) (fC (.int 3)))) (rSet 6 (fOp Vl.gSub (fC (.int 0)) (fVar 6))) rNx [a0, a1, a2, .fz (.tup [.int r, .int c]), .fz (.int t), .fz (.int r), .fz (.int c), a7, a8, a9, a10, a11, a12] = o at h3 ⊢
    cases o with
    | nx ρ => simp only [oSeq] at h3 ⊢; rw [h3]
    | _ => cases h3
  refine (h3' _).trans ?_
  refine seq_nx (s_set (v_a (v_cons (v_var rfl) (v_cons (v_var rfl) v_nil)) (v_call rfl h4))) ?_
  refine seq_nx (s_if_f (v_or_f (v_not (t := true) (v_t (v_b (v_var rfl) rfl))) (v_or_f (v_t (v_op (v_var rfl) (v_a (v_cons (v_var rfl) (v_cons (v_var rfl) v_nil)) (v_tup (Nat.le_of_ble_eq_true rfl))) (q_ne_same (Nat.le_of_ble_eq_true rfl) (by rw [e1, e2]))))
    (v_not (t := true) (v_t (v_a (v_cons (v_op (v_op (v_var rfl) v_c rfl) (v_op (v_var rfl) v_c rfl) q_plus) v_nil) (v_call rfl (w_whole _))))))) s_nx) ?_
  refine seq_nx (s_set (v_a (v_cons (v_var rfl) v_nil) (v_call rfl h6))) ?_
  exact s_if_f (v_or_f (v_not (t := true) (v_t (v_a (v_cons (v_var rfl) v_nil) (v_call rfl (w_whole _))))) (v_t (v_op (v_a (v_cons (v_var rfl) (v_cons (v_var rfl) v_nil)) (v_call rfl h7)) (v_var rfl) (q_ne_same (Nat.le_of_ble_eq_true rfl) (by rw [e3, e4]))))) s_nx
def PT (n r c : Int) (ρ : Rho) : Prop := ∃ a0 a1 a4 a5 a6 a7 a8 a9 a10 a11 a12, ρ = [a0, a1, .fz (.int n), .fz (.tup [.int r, .int c]), a4, a5, a6, a7, a8, a9, a10, a11, a12]
theorem turn_all {n r c : Int} : ∀ d ∈ ((List.range 8).map fun (i : Nat) => D.int i), ∀ ρ, PT n r c ρ → ∃ ρ1 ρ', hName 4 d ρ = some ρ1 ∧ gTurn ρ1 = .nx ρ' ∧ PT n r c ρ' := by
  rintro d hd ρ ⟨a0, a1, a4, a5, a6, a7, a8, a9, a10, a11, a12, rfl⟩
  obtain ⟨i, hi, rfl⟩ := List.mem_map.mp hd
  have hi8 := List.mem_range.mp hi
  have : i = 0 ∨ i = 1 ∨ i = 2 ∨ i = 3 ∨ i = 4 ∨ i = 5 ∨ i = 6 ∨ i = 7 := by omega
  rcases this with rfl | rfl | rfl | rfl | rfl | rfl | rfl | rfl
  · exact ⟨_, _, rfl, turn_step (r1 := r) (c1 := c) (r2 := r) (c2 := c) (b := 0) (r3 := r) (c3 := c) (a7' := a7) (by kernel_rfl) (by kernel_rfl) (by omega) (by omega) (by kernel_rfl) (by kernel_rfl) (by omega) (by omega), ⟨a0, a1, _, _, _, _, _, _, _, _, _, rfl⟩⟩
  · exact ⟨_, _, rfl, turn_step (r1 := c) (c1 := 0 - r) (r2 := c) (c2 := -r) (b := 3) (r3 := - -r) (c3 := - -c) (a7' := .fz (.int 0)) (by kernel_rfl) (by kernel_rfl) (by omega) (by omega) (by kernel_rfl) (by kernel_rfl) (by omega) (by omega), ⟨a0, a1, _, _, _, _, _, _, _, _, _, rfl⟩⟩
  · exact ⟨_, _, rfl, turn_step (r1 := 0 - r) (c1 := 0 - c) (r2 := -r) (c2 := -c) (b := 2) (r3 := - -r) (c3 := - -c) (a7' := .fz (.int 1)) (by kernel_rfl) (by kernel_rfl) (by omega) (by omega) (by kernel_rfl) (by kernel_rfl) (by omega) (by omega), ⟨a0, a1, _, _, _, _, _, _, _, _, _, rfl⟩⟩
  · exact ⟨_, _, rfl, turn_step (r1 := 0 - c) (c1 := 0 - (0 - r)) (r2 := -c) (c2 := - -r) (b := 1) (r3 := - -r) (c3 := - -c) (a7' := .fz (.int 2)) (by kernel_rfl) (by kernel_rfl) (by omega) (by omega) (by kernel_rfl) (by kernel_rfl) (by omega) (by omega), ⟨a0, a1, _, _, _, _, _, _, _, _, _, rfl⟩⟩
  · exact ⟨_, _, rfl, turn_step (r1 := r) (c1 := 0 - c) (r2 := r) (c2 := -c) (b := 4) (r3 := r) (c3 := - -c) (a7' := a7) (by kernel_rfl) (by kernel_rfl) (by omega) (by omega) (by kernel_rfl) (by kernel_rfl) (by omega) (by omega), ⟨a0, a1, _, _, _, _, _, _, _, _, _, rfl⟩⟩
  · exact ⟨_, _, rfl, turn_step (r1 := 0 - c) (c1 := 0 - r) (r2 := -c) (c2 := -r) (b := 5) (r3 := - -r) (c3 := - -c) (a7' := .fz (.int 0)) (by kernel_rfl) (by kernel_rfl) (by omega) (by omega) (by kernel_rfl) (by kernel_rfl) (by omega) (by omega), ⟨a0, a1, _, _, _, _, _, _, _, _, _, rfl⟩⟩
  · exact ⟨_, _, rfl, turn_step (r1 := 0 - r) (c1 := 0 - (0 - c)) (r2 := -r) (c2 := - -c) (b := 6) (r3 := - -r) (c3 := - - - -c) (a7' := .fz (.int 1)) (by kernel_rfl) (by kernel_rfl) (by omega) (by omega) (by kernel_rfl) (by kernel_rfl) (by omega) (by omega), ⟨a0, a1, _, _, _, _, _, _, _, _, _, rfl⟩⟩
  · exact ⟨_, _, rfl, turn_step (r1 := 0 - (0 - c)) (c1 := 0 - (0 - r)) (r2 := - -c) (c2 := - -r) (b := 7) (r3 := - - - -r) (c3 := - - - -c) (a7' := .fz (.int 2)) (by kernel_rfl) (by kernel_rfl) (by omega) (by omega) (by kernel_rfl) (by kernel_rfl) (by omega) (by omega), ⟨a0, a1, _, _, _, _, _, _, _, _, _, rfl⟩⟩
theorem turns {n r c : Int} {ρ : Rho} (h : PT n r c ρ) : ∃ ρ', gForR (hName 4) gTurn (fC (.int 8)) ρ = .nx ρ' ∧ PT n r c ρ' := by
  obtain ⟨ρ', e, p⟩ := forD_all (h := hName 4) (g := gTurn) (PT n r c) h turn_all
  exact ⟨ρ', s_forR (N := 8) v_c (by decide) rfl e, p⟩
def gBody : Rho → Ou := (rSeq (rAsg (fA (fCons (fA (fCons (fVar 1) (fCons (fC (.int 12)) fNil)) (gCallX 2 v__law_deal)) (fCons (fOp gPow (fC (.int 10)) (fC (.int 12))) fNil)) (gCallX 2 v__law_spot)) (hTup 2 (hCons (hName 2) (hCons (hName 3) hNil))))
    (rSeq (gForR (hName 4) gTurn (fC (.int 8)))
    (rSeq (rAsg (fA (fCons (fVar 2) (fCons (fOp gPow (fC (.int 10)) (fC (.int 30))) fNil)) gDm) (hTup 2 (hCons (hName 2) (hCons (hName 10) hNil))))
    (rSeq (rAsg (fA (fCons (fVar 2) (fCons (fC (.int 8)) fNil)) gDm) (hTup 2 (hCons (hName 2) (hCons (hName 11) hNil))))
    (rSeq (rSet 12 (fOp gIx (fA (fCons (fNeg (fC (.int 1))) (fCons (fC (.int 8)) (fCons (fOp Vl.gSub (fNeg (fC (.int 1))) (fVar 10)) (fCons (fOp gPlus (fC (.int 8)) (fVar 10)) fNil)))) gLst) (fOp gMod (fVar 2) (fC (.int 4)))))
    (rIf (fNot (fT (fA (fCons (gComp (hName 0) (fun _ => .ok true) (fA (fCons (fVar 0) (fCons (fVar 1) (fCons (fVar 2) fNil))) (gCallX 3 v__law_refused)) 1 [12, 11] (fL (fC (.int 5)) asR)) fNil) gAll))) (rRet (fC (.bl false))) rNx))))))
def P13 (ρ : Rho) : Prop := ∃ a0 a1 a2 a3 a4 a5 a6 a7 a8 a9 a10 a11 a12 : Sl, ρ = [a0, a1, a2, a3, a4, a5, a6, a7, a8, a9, a10, a11, a12]
theorem body_ok (x : Int) (ρ : Rho) (h : P13 ρ) : ∃ ρ1 ρ', hName 1 (.int x) ρ = some ρ1 ∧ gBody ρ1 = .nx ρ' ∧ P13 ρ' := by
  obtain ⟨a0, a1, a2, a3, a4, a5, a6, a7, a8, a9, a10, a11, a12, rfl⟩ := h
  obtain ⟨n, hn⟩ := w_deal x
  obtain ⟨m, r, c, hs⟩ := w_spot (n := n) (far := 10 ^ Int.toNat 12) (by decide) (by decide)
  obtain ⟨ρ2, e2, b0, b1, b4, b5, b6, b7, b8, b9, b10, b11, b12, rfl⟩ := turns (n := m) (r := r) (c := c) (ρ := [a0, .fz (.int x), .fz (.int m), .fz (.tup [.int r, .int c]), a4, a5, a6, a7, a8, a9, a10, a11, a12]) ⟨_, _, _, _, _, _, _, _, _, _, _, rfl⟩
  have far0 : 0 ≤ m % 10 ^ Int.toNat 30 := Int.emod_nonneg _ (by decide)
  have good0 : 0 ≤ m / 10 ^ Int.toNat 30 % 8 := Int.emod_nonneg _ (by decide)
  have good8 : m / 10 ^ Int.toNat 30 % 8 < 8 := Int.emod_lt_of_pos _ (by decide)
  generalize hfar : m % 10 ^ Int.toNat 30 = far at far0
  generalize hq : m / 10 ^ Int.toNat 30 = q at good0 good8
  have w0 : 0 ≤ q / 8 % 4 := Int.emod_nonneg _ (by decide)
  have w4 : q / 8 % 4 < 4 := Int.emod_lt_of_pos _ (by decide)
  have odd : ∃ o : Int, (o < 0 ∨ 7 < o) ∧ gIx (.lst [.int (-1), .int 8, .int (-1 - far), .int (8 + far)]) (.int (q / 8 % 4)) = .ok (.int o) := by
    generalize q / 8 % 4 = w at w0 w4
    have hw : w = 0 ∨ w = 1 ∨ w = 2 ∨ w = 3 := by omega
    rcases hw with rfl | rfl | rfl | rfl
    · exact ⟨-1, by decide, rfl⟩
    · exact ⟨8, by decide, rfl⟩
    · exact ⟨-1 - far, .inl (by omega), rfl⟩
    · exact ⟨8 + far, .inr (by omega), rfl⟩
  obtain ⟨o, ho, eo⟩ := odd
  have comp : compD (hName 0) (fun _ => .ok true) (fA (fCons (fVar 0) (fCons (fVar 1) (fCons (fVar 2) fNil))) (gCallX 3 v__law_refused)) ((List.range 5).map fun (i : Nat) => .int i) [.no, .fz (.int o), .fz (.int (q % 8))] = .ok (((List.range 5).map fun (i : Nat) => D.int i).map fun _ => .bl true) := by
    refine compD_map (fun ρ => ∃ a, ρ = [a, .fz (.int o), .fz (.int (q % 8))]) _ ⟨_, rfl⟩ ?_
    rintro d hd ρ ⟨a, rfl⟩
    obtain ⟨i, hi, rfl⟩ := List.mem_map.mp hd
    have hi5 := List.mem_range.mp hi
    exact ⟨_, rfl, v_a (v_cons (v_var rfl) (v_cons (v_var rfl) (v_cons (v_var rfl) v_nil))) (v_call rfl (w_refused (by omega) (by omega) ho good0 (by omega))), _, rfl⟩
  refine ⟨_, [b0, b1, .fz (.int (q / 8)), .fz (.tup [.int r, .int c]), b4, b5, b6, b7, b8, b9, .fz (.int far), .fz (.int (q % 8)), .fz (.int o)], rfl, ?_, ⟨_, _, _, _, _, _, _, _, _, _, _, _, _, rfl⟩⟩
  unfold gBody
  refine seq_nx (s_asg (v_a (v_cons (v_a (v_cons (v_var rfl) (v_cons v_c v_nil)) (v_call rfl hn)) (v_cons (v_op v_c v_c (q_pow ⟨by decide, by decide, by decide⟩)) v_nil)) (v_call rfl hs)) rfl) ?_
  refine seq_nx e2 ?_
  have d1 : gDm [.int m, .int (10 ^ Int.toNat 30)] = .ok (.tup [.int q, .int far]) := by rw [q_dm ⟨by decide, by decide⟩, hq, hfar]
  refine seq_nx (s_asg (v_a (v_cons (v_var rfl) (v_cons (v_op v_c v_c (q_pow ⟨by decide, by decide, by decide⟩)) v_nil)) d1) rfl) ?_
  refine seq_nx (s_asg (v_a (v_cons (v_var rfl) (v_cons v_c v_nil)) (q_dm ⟨by decide, by decide⟩)) rfl) ?_
  refine seq_nx (s_set (v_op (x := .lst [.int (-1), .int 8, .int (-1 - far), .int (8 + far)]) (y := .int (q / 8 % 4)) ?_ ?_ eo)) ?_
  · repeat' (first | exact v_c | exact v_nil | exact v_var rfl | exact s_nx | apply v_op | apply v_neg | apply v_cons | apply v_a | apply v_b | (apply v_call; exact rfl) | exact v_tup (Nat.le_of_ble_eq_true rfl) | exact v_lst (Nat.le_of_ble_eq_true rfl) | apply v_t | apply v_not | apply s_set | apply s_ret | apply s_exp | apply s_asg | apply s_par | exact q_plus | exact q_sub | exact q_lt | exact q_le | exact q_gt | exact q_ge | exact q_eqI | exact q_neI | exact q_mod (by decide) | exact q_div ⟨by decide, by decide⟩ | exact q_dm ⟨by decide, by decide⟩ | exact q_pow ⟨by decide, by decide, by decide⟩ | exact q_mul (.inr ⟨by decide, by decide⟩) | exact q_mul (.inl ⟨by decide, by decide⟩) | exact (rfl : (_ : Option Rho) = some _))
  · repeat' (first | exact v_c | exact v_nil | exact v_var rfl | exact s_nx | apply v_op | apply v_neg | apply v_cons | apply v_a | apply v_b | (apply v_call; exact rfl) | exact v_tup (Nat.le_of_ble_eq_true rfl) | exact v_lst (Nat.le_of_ble_eq_true rfl) | apply v_t | apply v_not | apply s_set | apply s_ret | apply s_exp | apply s_asg | apply s_par | exact q_plus | exact q_sub | exact q_lt | exact q_le | exact q_gt | exact q_ge | exact q_eqI | exact q_neI | exact q_mod (by decide) | exact q_div ⟨by decide, by decide⟩ | exact q_dm ⟨by decide, by decide⟩ | exact q_pow ⟨by decide, by decide, by decide⟩ | exact q_mul (.inr ⟨by decide, by decide⟩) | exact q_mul (.inl ⟨by decide, by decide⟩) | exact (rfl : (_ : Option Rho) = some _))
  exact s_if_f (v_not (t := true) (v_t (v_a (v_cons (v_comp (v_l v_c rfl) comp (by decide)) v_nil) rfl))) s_nx
theorem law_true (ns : List Int) (_ : ns.length ≤ 63) : v_law [.lst (ns.map D.int)] = .ok (.bl true) := by
  have e : startR ["script", "cell", "number", "spot", "turn", "row", "column", "quarter", "found", "back", "far", "good", "odd"] [.lst (ns.map D.int)] = [.fz (.lst (ns.map D.int)), .no, .no, .no, .no, .no, .no, .no, .no, .no, .no, .no, .no] := rfl
  have eg : g_law = rSeq (rNox (gForL (hName 1) gBody (fOp gPlus (fSl (fVar 0) fNoP (fP (fC (.int 40)))) (fA (fCons (fC (.int 0)) fNil) gLst)))) (rRet (fC (.bl true))) := rfl
  unfold v_law
  rw [e, eg]
  have it : (fOp gPlus (fSl (fVar 0) fNoP (fP (fC (.int 40)))) (fA (fCons (fC (.int 0)) fNil) gLst)) [.fz (.lst (ns.map D.int)), .no, .no, .no, .no, .no, .no, .no, .no, .no, .no, .no, .no] = .ok (.lst (cutD (ns.map D.int) none (some 40) ++ [.int 0])) := by
    refine v_op (x := .lst (cutD (ns.map D.int) none (some 40))) rfl (y := .lst [.int 0]) rfl ?_
    exact gPlus_lst (by
      have : (cutD (ns.map D.int) none (some 40)).length ≤ ns.length := by
        unfold cutD
        rw [List.length_take, List.length_drop, List.length_map]
        omega
      show _ + 1 ≤ _
      omega)
  have all : ∀ d ∈ cutD (ns.map D.int) none (some 40) ++ [.int 0], ∃ x : Int, d = .int x := by
    intro d hd
    rcases List.mem_append.mp hd with hd | hd
    · have := List.mem_of_mem_drop (List.mem_of_mem_take hd)
      obtain ⟨x, _, rfl⟩ := List.mem_map.mp this
      exact ⟨x, rfl⟩
    · exact ⟨0, by simpa using hd⟩
  obtain ⟨ρ', e1, _⟩ := forD_all (h := hName 1) (g := gBody) P13 (ds := cutD (ns.map D.int) none (some 40) ++ [.int 0]) (ρ := [.fz (.lst (ns.map D.int)), .no, .no, .no, .no, .no, .no, .no, .no, .no, .no, .no, .no]) ⟨_, _, _, _, _, _, _, _, _, _, _, _, _, rfl⟩ (by
    intro d hd ρ p
    obtain ⟨x, rfl⟩ := all d hd
    exact body_ok x ρ p)
  rw [seq_nx (s_nox (s_forL it e1)) (s_ret v_c)]
  rfl
end K05

set_option Elab.async false
set_option linter.all false
open PySem PySem.W PyProof.Rows
set_option maxRecDepth 100000 in
set_option maxHeartbeats 0 in
theorem PySem.Challenge.cw_edgemoss_k05_cells_turned_holds : PySem.Challenge.rw_edgemoss_k05_cells_turned.Holds := by
  w_on; o_law; k_head; (case hw => w_witness2)
  k_fill
  refine Vl.walk_v (l := PySem.Challenge.rw_edgemoss_k05_cells_turned) (k := 4) (v := K05.v_law) rfl rfl ⟨rfl, by decide, by decide⟩ (fun w h Y => PySem.W.kIn_of Y) ?V ?F
  case V => exact K05.law_true
  case F =>
    intro w mg fa h KX G hmg
    refine' K05.all_mk KX G hmg ?n_BadTurn ?x_BadTurn ?n_MossError ?x_MossError ?e_MossError_MossError ?e_MossError_BadTurn ?a_check_turn ?l_check_turn ?d_check_turn ?k_check_turn ?a_turned_cell ?l_turned_cell ?d_turned_cell ?k_turned_cell ?a_turned ?l_turned ?d_turned ?k_turned ?a_back_of ?l_back_of ?d_back_of ?k_back_of ?a_turned_on ?l_turned_on ?d_turned_on ?k_turned_on ?a__law_deal ?l__law_deal ?d__law_deal ?k__law_deal ?a__law_whole ?l__law_whole ?d__law_whole ?k__law_whole ?a__law_spot ?l__law_spot ?d__law_spot ?k__law_spot ?a__law_refused ?l__law_refused ?d__law_refused ?k__law_refused ?a_law ?l_law ?d_law ?k_law ?z_all ?z_bool ?z_divmod ?z_int ?z_isinstance ?z_range ?z_tuple
    (case n_BadTurn => k_is)
    (case x_BadTurn => k_exc)
    (case n_MossError => k_is)
    (case x_MossError => k_exc)
    (case e_MossError_MossError => kts_exm)
    (case e_MossError_BadTurn => kts_exm)
    (case a_check_turn => k_is)
    (case l_check_turn => k_is)
    (case d_check_turn => k_is)
    (case k_check_turn => k_is)
    (case a_turned_cell => k_is)
    (case l_turned_cell => k_is)
    (case d_turned_cell => k_is)
    (case k_turned_cell => k_is)
    (case a_turned => k_is)
    (case l_turned => k_is)
    (case d_turned => k_is)
    (case k_turned => k_is)
    (case a_back_of => k_is)
    (case l_back_of => k_is)
    (case d_back_of => k_is)
    (case k_back_of => k_is)
    (case a_turned_on => k_is)
    (case l_turned_on => k_is)
    (case d_turned_on => k_is)
    (case k_turned_on => k_is)
    (case a__law_deal => k_is)
    (case l__law_deal => k_is)
    (case d__law_deal => k_is)
    (case k__law_deal => k_is)
    (case a__law_whole => k_is)
    (case l__law_whole => k_is)
    (case d__law_whole => k_is)
    (case k__law_whole => k_is)
    (case a__law_spot => k_is)
    (case l__law_spot => k_is)
    (case d__law_spot => k_is)
    (case k__law_spot => k_is)
    (case a__law_refused => k_is)
    (case l__law_refused => k_is)
    (case d__law_refused => k_is)
    (case k__law_refused => k_is)
    (case a_law => k_is)
    (case l_law => k_is)
    (case d_law => k_is)
    (case k_law => k_is)
    (case z_all => k_is)
    (case z_bool => k_is)
    (case z_divmod => k_is)
    (case z_int => k_is)
    (case z_isinstance => k_is)
    (case z_range => k_is)
    (case z_tuple => k_is)

