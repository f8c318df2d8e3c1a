import PyProof.Rows.All
import Wide.All
import OpenK.AllK
import Wide.FinOn
import Lean
import PyProof.EqAt
import PyProof.EqKinds
import PyProof.TupleCall
import PySem.Challenge.RW_overlaid_k47_rows_of_no_form
set_option Elab.async false
set_option linter.all false
set_option maxRecDepth 100000
/-! THE HAND LAYER, for ints, bools, texts, own classes, LISTS and tuples (index, slices, in, append, pop ..), calls, loops. Paste it whole ahead of your own text; what your proof does not reach may be deleted. -/
namespace L2
open PySem PySem.Spec PyProof.Rows

/-- a key: an int or a str -/
abbrev Key := Sum Int Str
def keyIs : Key → Value → Bool
  | .inl k, v => Value.isInt k v
  | .inr x, v => Value.isStrOf x v
def keyH (w : World) : Key → Int
  | .inl k => hashInt k
  | .inr x => hashStr w x
theorem keyIs_shape : ∀ {k : Key} {v : Value}, keyIs k v = true → (∃ i t, k = Sum.inl i ∧ v = Value.int i t) ∨ (∃ x t, k = Sum.inr x ∧ v = Value.str x t)
  | .inl i, v, h => by
    obtain ⟨t, e⟩ := Value.isInt_shape (k := i) (v := v) h
    exact .inl ⟨i, t, rfl, e⟩
  | .inr x, v, h => by
    obtain ⟨t, e⟩ := Value.isStrOf_shape (x := x) (v := v) h
    exact .inr ⟨x, t, rfl, e⟩
theorem keyIs_int (i : Int) (t : Tok) : keyIs (.inl i) (.int i t) = true := by simp [keyIs, Value.isInt]
theorem keyIs_str (x : Str) (t : Tok) : keyIs (.inr x) (.str x t) = true := by simp [keyIs, Value.isStrOf]
theorem key_ll (a b : Int) : decide ((Sum.inl a : Key) = Sum.inl b) = (a == b) := by
  by_cases e : a = b
  · subst e; simp
  · have h : ¬ (Sum.inl a : Key) = Sum.inl b := fun q => e (Sum.inl.inj q)
    rw [decide_eq_false h]
    exact (beq_eq_false_iff_ne.mpr e).symm
theorem key_rr (a b : Str) : decide ((Sum.inr a : Key) = Sum.inr b) = decide (a = b) := by
  by_cases e : a = b
  · subst e; simp
  · have h : ¬ (Sum.inr a : Key) = Sum.inr b := fun q => e (Sum.inr.inj q)
    rw [decide_eq_false h, decide_eq_false e]
theorem key_lr (a : Int) (b : Str) : decide ((Sum.inl a : Key) = Sum.inr b) = false := decide_eq_false (fun q => nomatch q)
theorem key_rl (a : Str) (b : Int) : decide ((Sum.inr a : Key) = Sum.inl b) = false := decide_eq_false (fun q => nomatch q)

def mixKind (prog : Program) (w : World) : PySem.KeyKind prog w Key where
  is := keyIs
  hash := keyH w
  inj := fun v a b ha hb => by
    rcases keyIs_shape ha with ⟨i, t, rfl, rfl⟩ | ⟨x, t, rfl, rfl⟩
    · rcases keyIs_shape hb with ⟨j, u, rfl, e⟩ | ⟨y, u, rfl, e⟩
      · injection e with e1 _; rw [e1]
      · exact nomatch e
    · rcases keyIs_shape hb with ⟨j, u, rfl, e⟩ | ⟨y, u, rfl, e⟩
      · exact nomatch e
      · injection e with e1 _; rw [e1]
  byValue := fun k v h => by
    rcases keyIs_shape h with ⟨i, t, rfl, rfl⟩ | ⟨x, t, rfl, rfl⟩ <;> rfl
  pyHash := fun hv h => by
    rcases keyIs_shape hv with ⟨i, t, rfl, rfl⟩ | ⟨x, t, rfl, rfl⟩
    · exact wpAny_pyHash_int h
    · exact wpAny_pyHash_str h
  eqBool := fun hu hv h => by
    rcases keyIs_shape hu with ⟨i, t, rfl, rfl⟩ | ⟨x, t, rfl, rfl⟩
    · rcases keyIs_shape hv with ⟨j, u, rfl, rfl⟩ | ⟨y, u, rfl, rfl⟩
      · rw [key_ll] at h; exact wpAny_eqBool_int h
      · rw [key_lr] at h; exact SeqAt.EqAt.int_str i t y u _ _ _ _ h
    · rcases keyIs_shape hv with ⟨j, u, rfl, rfl⟩ | ⟨y, u, rfl, rfl⟩
      · rw [key_rl] at h; exact SeqAt.EqAt.str_int x t j u _ _ _ _ h
      · rw [key_rr] at h; exact wpAny_eqBool_str h
  «strs» := fun k x t v h => by
    rcases keyIs_shape h with ⟨i, u, rfl, e⟩ | ⟨y, u, rfl, e⟩
    · exact nomatch e
    · injection e with e1 _
      subst e1
      cases v <;> rfl

theorem mixKind_int (prog : Program) (w : World) (i : Int) (t : Tok) : (mixKind prog w).is (.inl i) (.int i t) = true := keyIs_int i t
theorem mixKind_str (prog : Program) (w : World) (x : Str) (t : Tok) : (mixKind prog w).is (.inr x) (.str x t) = true := keyIs_str x t
end L2

namespace L2
open PySem PySem.Spec PyProof.Rows

/-- a value, without the heap -/
inductive V where
  | non | bl (b : Bool) | int (i : Int) | str (x : Str) | byt (b : Array UInt8) | flt (b : UInt64) | ref (a : Addr) | ty (n : String)
  deriving DecidableEq

def RelV : V → Value → Prop
  | .non, u => u = Value.none
  | .bl b, u => u = Value.bool b
  | .int i, u => ∃ t, u = Value.int i t
  | .str x, u => ∃ t, u = Value.str x t
  | .byt b, u => ∃ t, u = Value.bytes b t
  | .flt b, u => ∃ t, u = Value.float b t
  | .ref a, u => u = Value.ref a
  | .ty n, u => u = Value.type n

abbrev Vals : List V → List Value → Prop := Paired RelV
theorem Vals.length {xs : List V} {us : List Value} (r : Vals xs us) : xs.length = us.length := Paired.length r
theorem Vals.get : ∀ {xs : List V} {us : List Value} {i : Nat} {x : V}, Vals xs us → xs[i]? = some x → ∃ u, us[i]? = some u ∧ RelV x u
  | _, _, _, _, .nil, e => by simp at e
  | _, _, 0, _, .cons r _, e => by simp at e; subst e; exact ⟨_, rfl, r⟩
  | _, _, i + 1, x, .cons _ t, e => by
    obtain ⟨u, h1, h2⟩ := Vals.get (i := i) (x := x) t (by simpa using e)
    exact ⟨u, by simpa using h1, h2⟩
theorem Vals.set {x : V} {u : Value} (r : RelV x u) : ∀ {xs : List V} {us : List Value} (i : Nat), Vals xs us → Vals (xs.set i x) (us.set i u)
  | _, _, _, .nil => .nil
  | _, _, 0, .cons _ t => .cons r t
  | _, _, i + 1, .cons q t => .cons q (Vals.set r i t)
theorem Vals.append : ∀ {xs ys : List V} {us ws : List Value}, Vals xs us → Vals ys ws → Vals (xs ++ ys) (us ++ ws)
  | _, _, _, _, .nil, s => s
  | _, _, _, _, .cons r t, s => .cons r (Vals.append t s)
theorem Vals.take : ∀ {xs : List V} {us : List Value} (n : Nat), Vals xs us → Vals (xs.take n) (us.take n)
  | _, _, 0, _ => .nil
  | _, _, _ + 1, .nil => .nil
  | _, _, n + 1, .cons r t => .cons r (Vals.take n t)
theorem Vals.drop : ∀ {xs : List V} {us : List Value} (n : Nat), Vals xs us → Vals (xs.drop n) (us.drop n)
  | _, _, 0, r => r
  | _, _, _ + 1, .nil => .nil
  | _, _, n + 1, .cons _ t => Vals.drop n t
theorem Vals.none_of : ∀ {xs : List V} {us : List Value} {i : Nat}, Vals xs us → xs[i]? = none → us[i]? = none := fun {xs us i} r e => by
  have h1 := r.length
  have h2 : xs.length ≤ i := List.getElem?_eq_none_iff.mp e
  exact List.getElem?_eq_none_iff.mpr (by omega)

def RelO : Option V → Option Value → Prop
  | some v, some u => RelV v u
  | none, none => True
  | _, _ => False
def KV {κ : Type} : List (κ × V) → List (κ × Value) → Prop := Paired fun (p : κ × V) (q : κ × Value) => p.1 = q.1 ∧ RelV p.2 q.2

/-- a key of a dict (00_mix): an int or a text -/
def kV : Key → V
  | .inl i => .int i
  | .inr x => .str x

/-- what stands at a tracked address -/
inductive HO where
  /-- a list -/
  | lst (xs : List V)
  /-- a tuple (never changes) -/
  | tup (xs : List V)
  /-- a dict whose keys are ints and texts; one whose keys are tuples of ints and texts (the empty one is both) -/
  | dK (kvs : List (Key × V)) | dT (kvs : List (List Key × V))
  /-- a set of ints: its members, its size -/
  | set (S : Int → Bool) (n : Nat)
  /-- an instance of the class at C, its dict at dx, its attributes -/
  | ins (C dx : Addr) (fs : List (Str × V))
  /-- the dict of the instance at x -/
  | own (x : Addr)
  /-- the dict of an exception -/
  | xd (fs : List (Str × V))
  /-- a bound method, f of x -/
  | met (f x : Addr)
  /-- a range object lo, lo + 1, .. below hi -/
  | rng (lo hi : Int)
  /-- a thing that is known to the object (the script; a dict while a loop walks it): read, never written while it is so -/
  | frz (o : Obj) (u : HO)
  /-- a code object's table -/
  | tbl (ps : Array Value)
  /-- any other thing, by what is true of its one object (a def of one's own: SetO a S n := HO.ext fun h => ..) -/
  | ext (φ : Heap → Prop)

abbrev Hp := Addr → Option HO
def upd (H : Hp) (a : Addr) (o : HO) : Hp := fun b => if b = a then some o else H b
theorem upd_same {H : Hp} {a : Addr} {o : HO} : upd H a o a = some o := by unfold upd; rw [if_pos rfl]
theorem upd_ne {H : Hp} {a b : Addr} {o : HO} (h : b ≠ a) : upd H a o b = H b := by unfold upd; rw [if_neg h]
/-- two objects of different content stand apart -/
theorem ne_of {H : Hp} {a b : Addr} {o u : HO} (h : H a = some o) (h' : H b = some u) (d : o ≠ u) : a ≠ b := by
  intro e; subst e; rw [h] at h'; exact d (Option.some.inj h')
theorem ne_of_none {H : Hp} {a b : Addr} {o : HO} (h : H a = some o) (h' : H b = none) : a ≠ b := by
  intro e; subst e; rw [h] at h'; cases h'

section
variable (P : Program) (w : World)
def ObjOk (H : Hp) (h : Heap) (a : Addr) : HO → Prop
  | .lst xs => xs.length ≤ sizeLine ∧ ∃ (its : List Value) (n : Nat), Vals xs its ∧ h.get? a = some { cls := .type "list", data := .seq its.toArray n }
  | .tup xs => xs.length ≤ sizeLine ∧ ∃ its : List Value, Vals xs its ∧ IsTup h a its.toArray
  | .dK kvs => kvs.length ≤ sizeLine ∧ (a == sysModules) = false ∧ ∃ vs, KV kvs vs ∧ h.DictOf (mixKind P w) a vs
  | .dT kvs => kvs.length ≤ sizeLine ∧ (a == sysModules) = false ∧ ∃ xs : List (List Key × Addr × Value),
      Paired (fun (p : List Key × V) (q : List Key × Addr × Value) => p.1 = q.1 ∧ H q.2.1 = some (.tup (p.1.map kV)) ∧ RelV p.2 q.2.2) kvs xs ∧
      ∃ o es ep, h.get? a = some o ∧ o.ExactDict ∧ o.data = .dict es ep ∧ es.toList = xs.map (entryOfKey (tupleKind (mixKind P w))) ∧ (xs.map (·.1)).Nodup
  | .set S n => h.SetOf (intKind P w) a S n
  | .ins C dx fs => H dx = some (.own a) ∧ fs.length ≤ 1000 ∧ dx ≠ a ∧ h.get? a = some (PySem.W.instObj C dx) ∧
      ∃ mA, h.Ns1 dx mA ∧ (∀ f, RelO (fs.lookup f) (mA f)) ∧ PySem.Within mA (fs.map (·.1))
  | .own _ => ∃ o, h.get? a = some o
  | .xd fs => ∃ mA, h.Ns1 a mA ∧ ∀ f, RelO (fs.lookup f) (mA f)
  | .rng lo hi => ∃ t u v, h.get? a = some { cls := .type "range", data := .fields #[.int lo t, .int hi u, .int 1 v] }
  | .frz o u => h.get? a = some o ∧ ObjOk H h a u
  | .tbl ps => h.get? a = some { cls := .none, data := .fields ps }
  | .met f x => h.get? a = some (PySem.W.methodObj (.ref f) (.ref x))
  | .ext φ => φ h ∧ (∃ o, h.get? a = some o) ∧ ∀ h1 h2 : Heap, φ h1 → (∀ o, h1.get? a = some o → h2.get? a = some o) → φ h2
/-- the abstract heap is held -/
def HOk (H : Hp) (h : Heap) : Prop := ∀ a o, H a = some o → ObjOk P w H h a o
end

section
variable {P : Program} {w : World} {H H' : Hp} {h h' : Heap} {a : Addr} {o : HO}
theorem ObjOk.lt (x : ObjOk P w H h a o) : a < h.objs.size := by
  cases o with
  | lst xs => obtain ⟨_, _, _, _, e⟩ := x; exact Heap.lt_size e
  | tup xs => obtain ⟨_, _, _, p⟩ := x; exact p.lt
  | dK kvs => obtain ⟨_, _, _, _, o, _, _, e, _⟩ := x; exact Heap.lt_size e
  | dT kvs => obtain ⟨_, _, _, _, o, _, _, e, _⟩ := x; exact Heap.lt_size e
  | set S n => obtain ⟨o, _, _, _, e, _⟩ := x; exact Heap.lt_size e
  | ins C dx fs => obtain ⟨_, _, _, e, _⟩ := x; exact Heap.lt_size e
  | own y => obtain ⟨_, e⟩ := x; exact Heap.lt_size e
  | xd fs => obtain ⟨_, ⟨_, _, _, e, _⟩, _⟩ := x; exact Heap.lt_size e
  | rng lo hi => obtain ⟨_, _, _, e⟩ := x; exact Heap.lt_size e
  | frz ob u => obtain ⟨e, _⟩ := x; exact Heap.lt_size e
  | tbl ps => exact Heap.lt_size (show h.get? a = some _ from x)
  | met f y => exact Heap.lt_size (show h.get? a = some _ from x)
  | ext φ => obtain ⟨_, ⟨_, e⟩, _⟩ := x; exact Heap.lt_size e
theorem Paired.mapP {α β : Type} {F G : α → β → Prop} : ∀ {l₁ : List α} {l₂ : List β}, Paired F l₁ l₂ → (∀ a b, F a b → G a b) → Paired G l₁ l₂
  | _, _, .nil, _ => .nil
  | _, _, .cons r t, f => .cons (f _ _ r) (Paired.mapP t f)
/-- what an object's description leans on: its own object, its own dict, the tuples -/
theorem ObjOk.stay (x : ObjOk P w H h a o) (k : ∀ b u, (b = a ∨ H b = some (.own a)) → h.get? b = some u → h'.get? b = some u)
    (ho : ∀ b, H b = some (.own a) → H' b = some (.own a)) (ht : ∀ b xs, H b = some (.tup xs) → H' b = some (.tup xs)) : ObjOk P w H' h' a o := by
  induction o with
  | lst xs => obtain ⟨z, its, n, r, e⟩ := x; exact ⟨z, its, n, r, k _ _ (.inl rfl) e⟩
  | tup xs => obtain ⟨z, its, r, ob, e, c⟩ := x; exact ⟨z, its, r, ob, k _ _ (.inl rfl) e, c⟩
  | dK kvs => obtain ⟨z, y, vs, r, ob, es, ep, e, c⟩ := x; exact ⟨z, y, vs, r, ob, es, ep, k _ _ (.inl rfl) e, c⟩
  | dT kvs =>
    obtain ⟨z, y, xs, r, ob, es, ep, e, c⟩ := x
    exact ⟨z, y, xs, Paired.mapP r fun p q z => ⟨z.1, ht _ _ z.2.1, z.2.2⟩, ob, es, ep, k _ _ (.inl rfl) e, c⟩
  | set S n => obtain ⟨ob, es, ep, t, e, c⟩ := x; exact ⟨ob, es, ep, t, k _ _ (.inl rfl) e, c⟩
  | ins C dx fs =>
    obtain ⟨d, z, ne, e, mA, ⟨od, es, ep, e2, c⟩, r⟩ := x
    exact ⟨ho _ d, z, ne, k _ _ (.inl rfl) e, mA, ⟨od, es, ep, k _ _ (.inr d) e2, c⟩, r⟩
  | own y => obtain ⟨ob, e⟩ := x; exact ⟨ob, k _ _ (.inl rfl) e⟩
  | xd fs => obtain ⟨mA, ⟨od, es, ep, e, c⟩, r⟩ := x; exact ⟨mA, ⟨od, es, ep, k _ _ (.inl rfl) e, c⟩, r⟩
  | rng lo hi => obtain ⟨t, u, v, e⟩ := x; exact ⟨t, u, v, k _ _ (.inl rfl) e⟩
  | frz ob u ih => obtain ⟨e, q⟩ := x; exact ⟨k _ _ (.inl rfl) e, ih q⟩
  | tbl ps =>
    have e : h.get? a = some { cls := .none, data := .fields ps } := x
    show h'.get? a = some { cls := .none, data := .fields ps }
    exact k a _ (.inl rfl) e
  | met f y =>
    have e : h.get? a = some (PySem.W.methodObj (.ref f) (.ref y)) := x
    show h'.get? a = some (PySem.W.methodObj (.ref f) (.ref y))
    exact k a _ (.inl rfl) e
  | ext φ => obtain ⟨p, ⟨o, e⟩, st⟩ := x; exact ⟨st _ _ p fun o q => k _ _ (.inl rfl) q, ⟨o, k _ _ (.inl rfl) e⟩, st⟩
theorem HOk.lt (x : HOk P w H h) (e : H a = some o) : a < h.objs.size := (x a o e).lt
theorem HOk.fresh (x : HOk P w H h) (e : h.objs.size ≤ a) : H a = none := by
  cases q : H a with
  | none => rfl
  | some u => exact absurd (Nat.lt_of_lt_of_le (x.lt q) e) (Nat.lt_irrefl _)
/-- every object of the heap is kept -/
theorem HOk.kept (x : HOk P w H h) (k : ∀ b u, h.get? b = some u → h'.get? b = some u) : HOk P w H h' := fun a o e =>
  (x a o e).stay (fun b u _ q => k b u q) (fun _ q => q) fun _ _ q => q
/-- a new object is laid and tracked -/
theorem HOk.laid (x : HOk P w H h) (k : ∀ b u, h.get? b = some u → h'.get? b = some u) (hp : h.objs.size ≤ a) (new : ObjOk P w (upd H a o) h' a o) : HOk P w (upd H a o) h' := fun b u e => by
  have hn := x.fresh hp
  by_cases hb : b = a
  · subst hb; rw [upd_same] at e; cases e; exact new
  · rw [upd_ne hb] at e
    exact (x b u e).stay (fun c v _ q => k c v q) (fun c q => by rw [upd_ne (ne_of_none q hn)]; exact q) fun c xs q => by rw [upd_ne (ne_of_none q hn)]; exact q
end

/-- what may be read as u: it is u, or a known u -/
def Rd (H : Hp) (a : Addr) (u : HO) : Prop := H a = some u ∨ ∃ o, H a = some (.frz o u)
theorem Rd.of {H : Hp} {a : Addr} {u : HO} (h : H a = some u) : Rd H a u := .inl h
theorem Rd.ok {P : Program} {w : World} {H : Hp} {h : Heap} {a : Addr} {u : HO} (r : Rd H a u) (x : HOk P w H h) : ObjOk P w H h a u := by
  rcases r with r | ⟨o, r⟩
  · exact x a u r
  · obtain ⟨_, q⟩ := x a _ r
    exact q
/-- what may be written -/
def Mut : Option HO → Prop
  | some (.lst _) => True
  | some (.dK _) => True
  | some (.dT _) => True
  | some (.set _ _) => True
  | some (.ins _ _ _) => True
  | some (.ext _) => True
  | _ => False
section
variable {P : Program} {w : World} {H : Hp} {h h' : Heap} {x e : Addr} {o' : HO}
/-- the object at e is changed: x itself, or the dict of the instance x -/
theorem HOk.write (ok : HOk P w H h) (mu : Mut (H x)) (he : e = x ∨ H e = some (.own x)) (k : ∀ b u, b ≠ e → h.get? b = some u → h'.get? b = some u) (heo : ∃ u, h'.get? e = some u)
    (new : ObjOk P w (upd H x o') h' x o') : HOk P w (upd H x o') h' := fun b u q => by
  have nown : ∀ c y, H c = some (.own y) → c ≠ x := fun c y r z => by subst z; rw [r] at mu; exact mu
  have ntup : ∀ c xs, H c = some (.tup xs) → c ≠ x := fun c xs r z => by subst z; rw [r] at mu; exact mu
  by_cases hb : b = x
  · subst hb; rw [upd_same] at q; cases q; exact new
  · rw [upd_ne hb] at q
    by_cases hbe : b = e
    · have q' : H b = some (.own x) := by
        rcases he with z | z
        · exact absurd (hbe.trans z) hb
        · rw [hbe]; exact z
      rw [q] at q'; cases q'
      obtain ⟨v, hv⟩ := heo
      exact ⟨v, by rw [hbe]; exact hv⟩
    · refine (ok b u q).stay (fun c v hc r => k c v ?_ r) (fun c r => by rw [upd_ne (nown c b r)]; exact r) fun c xs r => by rw [upd_ne (ntup c xs r)]; exact r
      rcases hc with rfl | hc
      · exact hbe
      · rintro rfl
        rcases he with z | z
        · exact nown c b hc z
        · rw [hc] at z; cases z; exact hb rfl
end

/-! ### kept unless tracked; of the frames at fs (the callers') the slots may change (an exception that passes writes there); of the records at ex (iterators) nothing is said -/
structure Un (fs ex : List Addr) (H H' : Hp) (h h' : Heap) : Prop where
  keep : ∀ b o, h.get? b = some o → H b = none → b ∉ fs → b ∉ ex → h'.get? b = some o
  slot : ∀ b o, h.get? b = some o → H b = none → b ∈ fs → b ∉ ex → ∃ sl, h'.get? b = some { o with slots := sl }
  free : ∀ b o, h.get? b = some o → H b = none → b ∉ ex → H' b = none
  there : ∀ b o, h.get? b = some o → b ∉ ex → ∃ o', h'.get? b = some o'
  tups : ∀ b xs, H b = some (.tup xs) → H' b = some (.tup xs)
  frzs : ∀ b o u, H b = some (.frz o u) → H' b = some (.frz o u)
  tbls : ∀ b ps, H b = some (.tbl ps) → ∃ more, H' b = some (.tbl (ps ++ more))
section
variable {fs fs' ex ex' : List Addr} {H H1 H2 : Hp} {h h1 h2 h' : Heap} {a x e : Addr} {o : HO}
theorem Un.any (u : Un fs ex H H1 h h1) {b : Addr} {ob : Obj} (q : h.get? b = some ob) (n : H b = none) (hx : b ∉ ex) : ∃ sl, h1.get? b = some { ob with slots := sl } := by
  by_cases hb : b ∈ fs
  · exact u.slot b ob q n hb hx
  · exact ⟨ob.slots, u.keep b ob q n hb hx⟩
theorem Un.trans (a : Un fs ex H H1 h h1) (b : Un fs ex H1 H2 h1 h2) : Un fs ex H H2 h h2 where
  keep := fun c ob q n hc hx => b.keep c ob (a.keep c ob q n hc hx) (a.free c ob q n hx) hc hx
  slot := fun c ob q n hc hx => by
    obtain ⟨sl, e1⟩ := a.slot c ob q n hc hx
    obtain ⟨sl', e2⟩ := b.slot c _ e1 (a.free c ob q n hx) hc hx
    exact ⟨sl', e2⟩
  free := fun c ob q n hx => by
    obtain ⟨o', e1⟩ := a.there c ob q hx
    exact b.free c o' e1 (a.free c ob q n hx) hx
  there := fun c ob q hx => by
    obtain ⟨o', e1⟩ := a.there c ob q hx
    exact b.there c o' e1 hx
  tups := fun c xs q => b.tups c xs (a.tups c xs q)
  frzs := fun c ob xs q => b.frzs c ob xs (a.frzs c ob xs q)
  tbls := fun c ps q => by
    obtain ⟨m1, e1⟩ := a.tbls c ps q
    obtain ⟨m2, e2⟩ := b.tbls c _ e1
    exact ⟨m1 ++ m2, by rw [e2, Array.append_assoc]⟩
theorem Un.kept (k : ∀ b u, h.get? b = some u → h'.get? b = some u) : Un fs ex H H h h' :=
  ⟨fun b ob q _ _ _ => k b ob q, fun b ob q _ _ _ => ⟨ob.slots, k b ob q⟩, fun _ _ _ n _ => n, fun b ob q _ => ⟨ob, k b ob q⟩, fun _ _ q => q, fun _ _ _ q => q, fun _ ps q => ⟨#[], by rw [q]; simp⟩⟩
theorem Un.refl : Un fs ex H H h h := Un.kept fun _ _ q => q
theorem Un.laid (k : ∀ b u, h.get? b = some u → h'.get? b = some u) (hp : h.objs.size ≤ a) (hn : H a = none) : Un fs ex H (upd H a o) h h' where
  keep := fun b u q _ _ _ => k b u q
  slot := fun b u q _ _ _ => ⟨u.slots, k b u q⟩
  free := fun b u q n _ => by rw [upd_ne (Nat.ne_of_lt (Nat.lt_of_lt_of_le (Heap.lt_size q) hp))]; exact n
  there := fun b u q _ => ⟨u, k b u q⟩
  tups := fun b xs q => by rw [upd_ne (ne_of_none q hn)]; exact q
  frzs := fun b u xs q => by rw [upd_ne (ne_of_none q hn)]; exact q
  tbls := fun b ps q => ⟨#[], by rw [upd_ne (ne_of_none q hn), q]; simp⟩
theorem Un.write (mu : Mut (H x)) (he : e = x ∨ H e = some (.own x)) (k : ∀ b u, b ≠ e → h.get? b = some u → h'.get? b = some u) (heo : ∃ u, h'.get? e = some u) : Un fs ex H (upd H x o) h h' := by
  have hx : ∀ b, H b = none → b ≠ x := fun b n z => by subst z; rw [n] at mu; exact mu
  have hb : ∀ b, H b = none → b ≠ e := fun b n z => by
    subst z
    rcases he with r | r
    · exact hx b n r
    · rw [n] at r; cases r
  have hm : ∀ b u, H b = some u → ¬ Mut (some u) → b ≠ x := fun b u q nm z => by subst z; rw [q] at mu; exact nm mu
  refine ⟨fun b u q n _ _ => k b u (hb b n) q, fun b u q n _ _ => ⟨u.slots, k b u (hb b n) q⟩, fun b u q n _ => by rw [upd_ne (hx b n)]; exact n, fun b u q _ => ?_,
    fun b xs q => by rw [upd_ne (hm b _ q fun z => z)]; exact q, fun b u xs q => by rw [upd_ne (hm b _ q fun z => z)]; exact q, fun b ps q => ⟨#[], by rw [upd_ne (hm b _ q fun z => z), q]; simp⟩⟩
  by_cases hbe : b = e
  · subst hbe; exact heo
  · exact ⟨u, k b u hbe q⟩
theorem Un.mono (u : Un fs ex H H1 h h1) (hs : ∀ b ∈ fs, b ∈ fs') (hx : ∀ b ∈ ex, b ∈ ex') : Un fs' ex' H H1 h h1 :=
  ⟨fun b ob q n hb he => u.keep b ob q n (fun z => hb (hs b z)) fun z => he (hx b z), fun _ _ q n _ he => u.any q n fun z => he (hx _ z), fun b ob q n he => u.free b ob q n fun z => he (hx b z), fun b ob q he => u.there b ob q fun z => he (hx b z), u.tups, u.frzs, u.tbls⟩
end

/-! ### the heap without what is tracked -/
def trk (h : Heap) (H : Hp) : List Addr := (List.range h.objs.size).filter fun a => (H a).isSome
def hidT (h : Heap) (H : Hp) : Heap := PySem.W.hideAll h (trk h H)
theorem hidT_size (h : Heap) (H : Hp) : (hidT h H).objs.size = h.objs.size := PySem.W.hideAll_size _ _
theorem hidT_get {h : Heap} {H : Hp} {b : Addr} {o : Obj} (e : h.get? b = some o) (n : H b = none) : (hidT h H).get? b = some o :=
  PySem.W.hideAll_get _ e fun hm => by
    have q : (H b).isSome = true := (List.mem_filter.mp hm).2
    rw [n] at q; simp at q
theorem of_hidT {h : Heap} {H : Hp} {b : Addr} {o : Obj} (e : (hidT h H).get? b = some o) : h.get? b = some o ∧ H b = none := by
  have e' : h.get? b = some o := PySem.W.of_hideAll (trk h H) e
  refine ⟨e', ?_⟩
  cases q : H b with
  | none => rfl
  | some x =>
    have hm : b ∈ trk h H := List.mem_filter.mpr ⟨List.mem_range.mpr (Heap.lt_size e'), by simp [q]⟩
    have z : (hidT h H).get? b = none := PySem.W.hideAll_none (trk h H) hm
    rw [z] at e; cases e

/-! ### OpenK's ledger, filled with every new object but one -/
def allNews (g h : Heap) (L : Addr) : List (Addr × Obj) := (List.range h.objs.size).filterMap fun a => if a = L ∨ (g.get? a).isSome = true then none else (h.get? a).map fun o => (a, o)
def rest (g h : Heap) (L d : Addr) : List (Addr × Obj) := (allNews g h L).filter fun p => decide (p.1 ≠ d)
end L2

namespace L2
open PySem PySem.Spec PyProof.Rows

/-- the module's facts, over the base: the heap at the law's entry without what is tracked there -/
structure Mod (K : PySem.W.Frag) (mg : Str → Option Value) (base : Heap) : Prop where
  kin : K.In base
  glob : base.Ns mainGlobals mg
  blt : ∃ mb, base.Ns builtinsNs mb ∧ ∀ x : Str, x ≠ "__name__" → mb x = bootBuiltins x
  nolimit : base.NoLimit

/-- the context: a def's body (or a comprehension's block) running. base: fixed through the whole law; s₀, H₀: the entry; outer: the frames whose slots others may change (a def's callers); stack: all frames that run;
   ex: iterators that were made ahead of the entry and are walked here (a comprehension's); fn: the names whose cells were made at the entry (a def: all; a comprehension's block: its own); calm: not within an except suite; pn: pins that every state bears; xe: what is wanted of an exception that leaves the code -/
structure Cx where
  prog : Program
  w : World
  K : PySem.W.Frag
  mg : Str → Option Value
  base : Heap
  A : Around
  N : List Str
  s₀ : Shared
  H₀ : Hp
  env : Env
  outer : List Env
  stack : List Env
  ex : List Addr
  fn : Str → Bool
  calm : Bool
  pn : List (Addr × Obj)
  xe : Value → Shared → Prop
/-- the callers' frames -/
def frs (l : List Env) : List Addr := l.filterMap (·.frame)
abbrev Cx.fs (X : Cx) : List Addr := frs X.outer

def Vis (sc : Scope) (x : Str) : Prop := sc.names.lookup x = some .local ∨ sc.names.lookup x = some .cell ∨ sc.names.lookup x = some .free
def Loc (sc : Scope) (x : Str) : Prop := sc.names.lookup x = some .local ∨ sc.names.lookup x = some .cell
def Look (env : Env) (h : Heap) (m : Str → Option Value) (x : Str) (u : Value) : Prop :=
  (env.kindOf x = some .local ∧ m x = some u) ∨ ((env.kindOf x = some .cell ∨ env.kindOf x = some .free) ∧ ∃ c, env.cells.lookup x = some c ∧ h.IsCell c (some u))

structure Cx.Ok (X : Cx) : Prop where
  mod : Mod X.K X.mg X.base
  kind : X.env.scope.kind = .function
  glob : X.env.globals = mainGlobals
  blt : X.env.builtins = builtinsNs
  above : X.s₀.heap.objs.size ≤ X.env.locals
  inj : ∀ x y c, X.env.cells.lookup x = some c → X.env.cells.lookup y = some c → x = y
  has : ∀ x, (X.env.kindOf x = some .cell ∨ X.env.kindOf x = some .free) → ∃ c, X.env.cells.lookup x = some c
  cab : ∀ x c, X.fn x = true → X.env.cells.lookup x = some c → X.s₀.heap.objs.size ≤ c
  hd : X.calm = true → X.A.handled = none
  frames : X.A.frames = some X.stack
  stk : X.stack = X.outer ∨ (X.stack = X.env :: X.outer ∧ X.env.frame = some X.env.locals)
  exf : ∀ b ∈ X.ex, b ≠ X.env.locals ∧ ∀ x c, X.env.cells.lookup x = some c → c ≠ b
  bs : ∀ b o, X.base.get? b = some o → X.s₀.heap.get? b = some o ∧ X.H₀ b = none
  bsz : X.base.objs.size ≤ X.s₀.heap.objs.size
  noex : ∀ b o, X.base.get? b = some o → b ∉ X.ex
  exfs : ∀ b ∈ X.ex, b ∉ X.fs
  funs : X.s₀.heap.FunFrames X.base X.outer
  frf : ∀ b ∈ X.fs, X.H₀ b = none

structure Inv (X : Cx) (pins : List (Addr × Obj)) (σ : List (Option V)) (H : Hp) (s : Shared) : Prop where
  ok : X.Ok
  os : s.os = X.s₀.os
  bare : AllBare s.gens
  base : Un X.fs X.ex X.H₀ H X.s₀.heap s.heap
  loc : ∃ m, s.heap.Ns X.env.locals m ∧ ∀ (i : Nat) (x : Str) (v : V), X.N[i]? = some x → σ[i]? = some (some v) → Vis X.env.scope x → ∃ u, RelV v u ∧ Look X.env s.heap m x u
  cell : ∀ x c, X.env.cells.lookup x = some c → ∃ v, s.heap.IsCell c v
  free : H X.env.locals = none
  freeC : ∀ x c, X.env.cells.lookup x = some c → H c = none
  pin : ∀ p ∈ X.pn ++ pins, s.heap.get? p.1 = some p.2 ∧ H p.1 = none ∧ p.1 ≠ X.env.locals ∧ p.1 ∉ X.fs ∧ ∀ v, p.2.data ≠ .cell v
  hok : HOk X.prog X.w H s.heap
  len : σ.length = X.N.length

section
variable {X : Cx} {pins : List (Addr × Obj)} {σ : List (Option V)} {H H' : Hp} {s : Shared} {h' : Heap}

theorem Cx.Ok.nofr (ok : X.Ok) {b : Addr} {o : Obj} (e : X.base.get? b = some o) : b ∉ X.fs := fun hb => by
  have := (ok.funs.mem hb).1
  rw [e] at this; cases this
theorem Inv.bs (I : Inv X pins σ H s) : ∀ b o, X.base.get? b = some o → s.heap.get? b = some o ∧ H b = none := fun b o e =>
  ⟨I.base.keep b o (I.ok.bs b o e).1 (I.ok.bs b o e).2 (I.ok.nofr e) (I.ok.noex b o e), I.base.free b o (I.ok.bs b o e).1 (I.ok.bs b o e).2 (I.ok.noex b o e)⟩
theorem Inv.bk (I : Inv X pins σ H s) : ∀ b o, X.base.get? b = some o → s.heap.get? b = some o := fun b o e => (I.bs b o e).1
theorem Inv.mod (I : Inv X pins σ H s) : Mod X.K X.mg X.base := I.ok.mod
theorem Inv.kIn (I : Inv X pins σ H s) : X.K.In s.heap := I.ok.mod.kin.keeps I.bk
theorem Inv.nolimit (I : Inv X pins σ H s) : s.heap.NoLimit := I.ok.mod.nolimit.keeps I.bk
/-- the frame over the base: for OpenK's rules (K.In X.base is I.mod.kin) -/
theorem Inv.fr (I : Inv X pins σ H s) : ∃ m, Fr X.base X.env.locals s.heap m :=
  let ⟨m, hn, _⟩ := I.loc
  ⟨m, hn, I.bk, Nat.le_trans I.ok.bsz I.ok.above⟩
theorem Inv.lt (I : Inv X pins σ H s) : X.env.locals < s.heap.objs.size := let ⟨_, hn, _⟩ := I.loc; hn.lt
theorem Inv.sz (I : Inv X pins σ H s) : X.s₀.heap.objs.size ≤ s.heap.objs.size := Nat.le_trans I.ok.above (Nat.le_of_lt I.lt)
theorem Inv.nofs (I : Inv X pins σ H s) {a : Addr} (h : s.heap.objs.size ≤ a) : a ∉ X.fs := fun hb => by
  obtain ⟨_, o, ho, _⟩ := I.ok.funs.mem hb
  exact absurd (Nat.lt_of_lt_of_le (Heap.lt_size ho) (Nat.le_trans I.sz h)) (Nat.lt_irrefl _)
theorem Inv.cne (I : Inv X pins σ H s) : ∀ x c, X.env.cells.lookup x = some c → c ≠ X.env.locals := fun x c e z => by
  obtain ⟨v, o, ho, hd⟩ := I.cell x c e
  obtain ⟨m, ⟨o', es, ep, ho', hd', _⟩, _⟩ := I.loc
  rw [z, ho'] at ho; cases ho; rw [hd'] at hd; cases hd
theorem Inv.funs (I : Inv X pins σ H s) : s.heap.FunFrames X.base X.outer := by
  have all : ∀ (l : List Env), (∀ b ∈ frs l, b ∈ X.fs) → X.s₀.heap.FunFrames X.base l → s.heap.FunFrames X.base l := by
    intro l
    induction l with
    | nil => intro _ _; trivial
    | cons env r ih =>
      intro hs hl
      obtain ⟨hk, ⟨L, o, hf, hn, ho, hd⟩, hr⟩ := hl
      have hL : L ∈ X.fs := hs L (by unfold frs; rw [List.filterMap_cons, hf]; exact List.mem_cons_self)
      obtain ⟨sl, e⟩ := I.base.slot L o ho (I.ok.frf L hL) hL fun z => I.ok.exfs L z hL
      exact ⟨hk, ⟨L, _, hf, hn, e, hd⟩, ih (fun b hb => hs b (by unfold frs; rw [List.filterMap_cons, hf]; exact List.mem_cons_of_mem _ hb)) hr⟩
  exact all X.outer (fun _ hb => hb) I.ok.funs

/-- the frames that run, for a call -/
theorem Inv.stack (I : Inv X pins σ H s) : s.heap.FunFrames X.base X.stack := by
  rcases I.ok.stk with e | ⟨e, hf⟩
  · rw [e]; exact I.funs
  · rw [e]
    obtain ⟨m, hn, _⟩ := I.loc
    refine .cons (by rw [I.ok.kind]; decide) hf hn ?_ I.funs
    exact Heap.get?_none_of_le (Nat.le_trans I.ok.bsz I.ok.above)
theorem Inv.stkSub (I : Inv X pins σ H s) : ∀ b ∈ frs X.stack, b ∈ X.env.locals :: X.fs := fun b hb => by
  rcases I.ok.stk with e | ⟨e, hf⟩
  · rw [e] at hb; exact List.mem_cons_of_mem _ hb
  · rw [e] at hb
    unfold frs at hb
    rw [List.filterMap_cons, hf] at hb
    exact hb
theorem Inv.stkFree (I : Inv X pins σ H s) : ∀ b ∈ frs X.stack, H b = none := fun b hb => by
  rcases List.mem_cons.mp (I.stkSub b hb) with e | hb
  · rw [e]; exact I.free
  · obtain ⟨_, o, ho, _⟩ := I.ok.funs.mem hb
    exact I.base.free b o ho (I.ok.frf b hb) fun z => I.ok.exfs b z hb

/-- THE STEP: the untracked objects but the frame and the records at ch are kept (the callers' frames up to slots), the frame's map is kept, the new abstract heap is held -/
theorem Inv.step {g' : Array GenState} {t' : Nat} {d' : Drawn} {ch : List Addr} (I : Inv X pins σ H s)
    (hch : ∀ b ∈ ch, (b ∈ X.ex ∨ X.s₀.heap.objs.size ≤ b) ∧ b ≠ X.env.locals ∧ (∀ x c, X.env.cells.lookup x = some c → c ≠ b) ∧ ∀ p ∈ X.pn ++ pins, p.1 ≠ b)
    (keep : ∀ b o, b ≠ X.env.locals → b ∉ X.fs → b ∉ ch → s.heap.get? b = some o → H b = none → h'.get? b = some o)
    (slot : ∀ b o, b ≠ X.env.locals → b ∈ X.fs → b ∉ ch → s.heap.get? b = some o → H b = none → ∃ sl, h'.get? b = some { o with slots := sl }) (free : ∀ b o, b ∉ ch → s.heap.get? b = some o → H b = none → H' b = none)
    (there : ∀ b o, b ∉ ch → s.heap.get? b = some o → ∃ o', h'.get? b = some o')
    (tups : ∀ b xs, H b = some (.tup xs) → H' b = some (.tup xs)) (frzs : ∀ b o u, H b = some (.frz o u) → H' b = some (.frz o u)) (tbls : ∀ b ps, H b = some (.tbl ps) → ∃ more, H' b = some (.tbl (ps ++ more)))
    (ns : ∀ m, s.heap.Ns X.env.locals m → h'.Ns X.env.locals m) (hok : HOk X.prog X.w H' h') (hg : AllBare g') :
    Inv X pins σ H' { s with heap := h', gens := g', drawn := d', toks := t' } := by
  have neL : ∀ b o, X.s₀.heap.get? b = some o → b ≠ X.env.locals := fun b o e => Nat.ne_of_lt (Nat.lt_of_lt_of_le (Heap.lt_size e) I.ok.above)
  have neC : ∀ b o, X.s₀.heap.get? b = some o → b ∉ X.ex → b ∉ ch := fun b o e hx hb => by
    rcases (hch b hb).1 with z | z
    · exact hx z
    · exact absurd (Nat.lt_of_lt_of_le (Heap.lt_size e) z) (Nat.lt_irrefl _)
  have cellK : ∀ x c, X.env.cells.lookup x = some c → ∀ v, s.heap.IsCell c v → h'.IsCell c v := fun x c e v ⟨o, ho, hd⟩ => by
    have nch : c ∉ ch := fun z => (hch c z).2.2.1 x c e rfl
    by_cases hc : c ∈ X.fs
    · obtain ⟨sl, q⟩ := slot c o (I.cne x c e) hc nch ho (I.freeC x c e)
      exact ⟨_, q, hd⟩
    · exact ⟨o, keep c o (I.cne x c e) hc nch ho (I.freeC x c e), hd⟩
  refine ⟨I.ok, I.os, hg, ⟨fun b o e n hb hx => ?_, fun b o e n hb hx => ?_, fun b o e n hx => ?_, fun b o e hx => ?_, fun b xs e => tups b xs (I.base.tups b xs e), fun b o xs e => frzs b o xs (I.base.frzs b o xs e), fun b ps e => ?_⟩, ?_, fun x c e => ?_, ?_, fun x c e => ?_, fun p hp => ?_, hok, I.len⟩
  · exact keep b o (neL b o e) hb (neC b o e hx) (I.base.keep b o e n hb hx) (I.base.free b o e n hx)
  · obtain ⟨sl, e1⟩ := I.base.slot b o e n hb hx
    obtain ⟨sl', e2⟩ := slot b _ (neL b o e) hb (neC b o e hx) e1 (I.base.free b o e n hx)
    exact ⟨sl', e2⟩
  · obtain ⟨o', e1⟩ := I.base.there b o e hx
    exact free b o' (neC b o e hx) e1 (I.base.free b o e n hx)
  · obtain ⟨o', e1⟩ := I.base.there b o e hx
    exact there b o' (neC b o e hx) e1
  · obtain ⟨m1, e1⟩ := I.base.tbls b ps e
    obtain ⟨m2, e2⟩ := tbls b _ e1
    exact ⟨m1 ++ m2, by rw [e2, Array.append_assoc]⟩
  · obtain ⟨m, hn, hl⟩ := I.loc
    refine ⟨m, ns m hn, fun i x v e1 e2 e3 => ?_⟩
    obtain ⟨u, r, l⟩ := hl i x v e1 e2 e3
    refine ⟨u, r, ?_⟩
    rcases l with l | ⟨k, c, e, z⟩
    · exact .inl l
    · exact .inr ⟨k, c, e, cellK x c e _ z⟩
  · obtain ⟨v, z⟩ := I.cell x c e
    exact ⟨v, cellK x c e v z⟩
  · obtain ⟨m, ⟨o, _, _, ho, _⟩, _⟩ := I.loc
    exact free _ o (fun z => (hch _ z).2.1 rfl) ho I.free
  · obtain ⟨v, o, ho, hd⟩ := I.cell x c e
    exact free c o (fun z => (hch c z).2.2.1 x c e rfl) ho (I.freeC x c e)
  · obtain ⟨e, n, ne, nf, d⟩ := I.pin p hp
    have nch : p.1 ∉ ch := fun z => (hch p.1 z).2.2.2 p hp rfl
    exact ⟨keep p.1 p.2 ne nf nch e n, free p.1 p.2 nch e n, ne, nf, d⟩
/-- .. where the frame's own object is kept too -/
theorem Inv.un {t' : Nat} (I : Inv X pins σ H s) (u : Un X.fs [] H H' s.heap h') (hok : HOk X.prog X.w H' h') : Inv X pins σ H' { s with heap := h', toks := t' } := by
  obtain ⟨m, ⟨o, es, ep, ho, r⟩, _⟩ := id I.loc
  obtain ⟨sl, hL⟩ := u.any ho I.free (by simp)
  exact I.step (g' := s.gens) (d' := s.drawn) (ch := []) (fun _ z => nomatch z) (fun b o _ hb _ e n => u.keep b o e n hb (by simp)) (fun b o _ hb _ e n => u.slot b o e n hb (by simp)) (fun b o _ e n => u.free b o e n (by simp)) (fun b o _ e => u.there b o e (by simp)) u.tups u.frzs u.tbls (fun m' hm => by
    obtain ⟨o', es', ep', ho', r'⟩ := hm
    rw [ho] at ho'; cases ho'
    exact ⟨_, es', ep', hL, r'⟩) hok I.bare
/-- behind a call (or a comprehension's block): the slots of this frame may have changed too, the records at ch may have turned -/
theorem Inv.call {g' : Array GenState} {t' : Nat} {d' : Drawn} {ch : List Addr} (I : Inv X pins σ H s) (u : Un (frs X.stack) ch H H' s.heap h') (hok : HOk X.prog X.w H' h') (hg : AllBare g')
    (hch : ∀ b ∈ ch, (b ∈ X.ex ∨ X.s₀.heap.objs.size ≤ b) ∧ b ≠ X.env.locals ∧ (∀ x c, X.env.cells.lookup x = some c → c ≠ b) ∧ ∀ p ∈ X.pn ++ pins, p.1 ≠ b) :
    Inv X pins σ H' { s with heap := h', gens := g', drawn := d', toks := t' } := by
  obtain ⟨m, ⟨o, es, ep, ho, r⟩, _⟩ := id I.loc
  obtain ⟨sl, hL⟩ := u.any ho I.free fun z => (hch _ z).2.1 rfl
  exact I.step (ch := ch) hch (fun b o hL hb hc e n => u.keep b o e n (fun z => (List.mem_cons.mp (I.stkSub b z)).elim hL hb) hc) (fun b o _ _ hc e n => u.any e n hc) (fun b o hc e n => u.free b o e n hc) (fun b o hc e => u.there b o e hc) u.tups u.frzs u.tbls (fun m' hm => by
    obtain ⟨o', es', ep', ho', r'⟩ := hm
    rw [ho] at ho'; cases ho'
    exact ⟨_, es', ep', hL, r'⟩) hok hg
/-- an untracked record of ours (an iterator) has turned -/
theorem Inv.turned {t' : Nat} {it : Addr} (I : Inv X pins σ H s) (k : ∀ b o, b ≠ it → s.heap.get? b = some o → h'.get? b = some o) (hn : H it = none) (hL : it ≠ X.env.locals)
    (h1 : it ∈ X.ex ∨ X.s₀.heap.objs.size ≤ it) (h2 : ∀ x c, X.env.cells.lookup x = some c → c ≠ it) (h3 : ∀ p ∈ X.pn ++ pins, p.1 ≠ it) : Inv X pins σ H { s with heap := h', toks := t' } := by
  have nit : ∀ b u, H b = some u → b ≠ it := fun b u e z => by rw [z, hn] at e; cases e
  refine I.step (g' := s.gens) (d' := s.drawn) (ch := [it]) (fun b hb => ?_) (fun b o _ _ hc e _ => k b o (fun z => hc (by simp [z])) e) (fun b o _ _ hc e _ => ⟨o.slots, k b o (fun z => hc (by simp [z])) e⟩) (fun _ _ _ _ n => n)
    (fun b o hc e => ⟨o, k b o (fun z => hc (by simp [z])) e⟩) (fun _ _ e => e) (fun _ _ _ e => e) (fun b ps e => ⟨#[], by rw [e]; simp⟩) (fun m hm => ?_) (fun b u e => ?_) I.bare
  · have e : b = it := by simpa using hb
    subst e
    exact ⟨h1, hL, h2, h3⟩
  · obtain ⟨o, es, ep, ho, r⟩ := hm
    exact ⟨o, es, ep, k _ o (Ne.symm hL) ho, r⟩
  · refine (I.hok b u e).stay (fun c v hc q => k c v ?_ q) (fun _ q => q) fun _ _ q => q
    rcases hc with z | z
    · rw [z]; exact nit b u e
    · exact nit c _ z
theorem Inv.tok (I : Inv X pins σ H s) (t : Nat) : Inv X pins σ H { s with toks := t } := I.un (h' := s.heap) (t' := t) Un.refl I.hok
/-- all objects kept -/
theorem Inv.kept {t' : Nat} (I : Inv X pins σ H s) (k : ∀ b u, s.heap.get? b = some u → h'.get? b = some u) : Inv X pins σ H { s with heap := h', toks := t' } := I.un (Un.kept k) (I.hok.kept k)
/-- a new object laid and tracked -/
theorem Inv.laid {a : Addr} {o : HO} {t' : Nat} (I : Inv X pins σ H s) (k : ∀ b u, s.heap.get? b = some u → h'.get? b = some u) (hp : s.heap.objs.size ≤ a) (new : ObjOk X.prog X.w (upd H a o) h' a o) :
    Inv X pins σ (upd H a o) { s with heap := h', toks := t' } := I.un (Un.laid k hp (I.hok.fresh hp)) (I.hok.laid k hp new)
/-- an object written -/
theorem Inv.write {x e : Addr} {o : HO} {t' : Nat} (I : Inv X pins σ H s) (mu : Mut (H x)) (he : e = x ∨ H e = some (.own x)) (k : ∀ b u, b ≠ e → s.heap.get? b = some u → h'.get? b = some u) (heo : ∃ u, h'.get? e = some u)
    (new : ObjOk X.prog X.w (upd H x o) h' x o) : Inv X pins σ (upd H x o) { s with heap := h', toks := t' } := I.un (Un.write mu he k heo) (I.hok.write mu he k heo new)
/-- forgetting slots, pins -/
theorem Inv.weak {σ' : List (Option V)} (I : Inv X pins σ H s) (hl : σ'.length = σ.length) (w : ∀ (i : Nat) v, σ'[i]? = some (some v) → σ[i]? = some (some v)) : Inv X pins σ' H s :=
  ⟨I.ok, I.os, I.bare, I.base, let ⟨m, hn, hl'⟩ := I.loc; ⟨m, hn, fun i x v e1 e2 e3 => hl' i x v e1 (w i v e2) e3⟩, I.cell, I.free, I.freeC, I.pin, I.hok, hl.trans I.len⟩
theorem Inv.pins_of {pins' : List (Addr × Obj)} (I : Inv X pins σ H s) (h : ∀ p ∈ pins', s.heap.get? p.1 = some p.2 ∧ H p.1 = none ∧ p.1 ≠ X.env.locals ∧ p.1 ∉ X.fs ∧ ∀ v, p.2.data ≠ .cell v) : Inv X pins' σ H s :=
  ⟨I.ok, I.os, I.bare, I.base, I.loc, I.cell, I.free, I.freeC, fun p hp => (List.mem_append.mp hp).elim (fun z => I.pin p (List.mem_append_left _ z)) (h p), I.hok, I.len⟩

theorem nodup_ix {N : List Str} (hN : N.Nodup) {i j : Nat} {x : Str} (a : N[i]? = some x) (b : N[j]? = some x) : i = j := by
  obtain ⟨h1, e1⟩ := List.getElem?_eq_some_iff.mp a
  obtain ⟨h2, e2⟩ := List.getElem?_eq_some_iff.mp b
  exact (List.getElem_inj hN).mp (e1.trans e2.symm)

/-- a name is stored; what changed -/
theorem store_ok2 {M : Model} {A : Around} {E : Value → Shared → Prop} {i : Nat} {x : Str} {v : V} {u : Value} {Q : Unit → Shared → Prop} (I : Inv X pins σ H s) (hN : X.N.Nodup) (hi : X.N[i]? = some x) (hx : Loc X.env.scope x) (r : RelV v u)
    (h : ∀ s', Inv X pins (σ.set i (some v)) H s' → (∃ a, Heap.SameBut a s.heap s'.heap ∧ (a = X.env.locals ∨ X.env.cells.lookup x = some a)) → Q () s') (hf : X.fn x = true ∨ X.env.scope.names.lookup x = some .local := by first | exact .inl rfl | exact .inr rfl | assumption) : wpAny M A (storeName X.env x u) Q E s := by
  obtain ⟨m, hn, hl⟩ := id I.loc
  have hcls : (X.env.scope.kind == .class || (X.env.scope.kind == .module && X.env.locals != X.env.globals)) = false := by rw [I.ok.kind]; rfl
  have hiσ : i < σ.length := by rw [I.len]; exact (List.getElem?_eq_some_iff.mp hi).1
  have cne := I.cne
  have tracked : ∀ {a : Addr} {h' : Heap}, (∃ o, s.heap.get? a = some o ∧ H a = none) → Heap.SameBut a s.heap h' → HOk X.prog X.w H h' := fun {a h'} ha hs b ob e => by
    obtain ⟨_, _, hfree⟩ := ha
    refine (I.hok b ob e).stay (fun c w' hc q => (hs.2 c ?_).trans q) (fun _ q => q) fun _ _ q => q
    rintro rfl
    rcases hc with rfl | hc
    · rw [hfree] at e; cases e
    · rw [hfree] at hc; cases hc
  rcases hx with hk | hk
  · refine wpAny_storeName_local hk hn (fun h' hn' hs => ?_) hcls
    obtain ⟨oL, _, _, hoL, _⟩ := id hn
    refine h _ ⟨I.ok, I.os, I.bare, ⟨fun b o e n hb hx => ?_, fun b o e n hb hx => ?_, I.base.free, fun b o e hx => ?_, I.base.tups, I.base.frzs, I.base.tbls⟩, ⟨_, hn', fun j y v' e1 e2 e3 => ?_⟩, fun y c e => ?_, I.free, I.freeC, fun p hp => ?_, tracked ⟨oL, hoL, I.free⟩ hs, by simpa using I.len⟩ ⟨_, hs, .inl rfl⟩
    · exact (hs.2 b (Nat.ne_of_lt (Nat.lt_of_lt_of_le (Heap.lt_size e) I.ok.above))).trans (I.base.keep b o e n hb hx)
    · obtain ⟨sl, e1⟩ := I.base.slot b o e n hb hx
      exact ⟨sl, (hs.2 b (Nat.ne_of_lt (Nat.lt_of_lt_of_le (Heap.lt_size e) I.ok.above))).trans e1⟩
    · obtain ⟨o', e1⟩ := I.base.there b o e hx
      exact ⟨o', (hs.2 b (Nat.ne_of_lt (Nat.lt_of_lt_of_le (Heap.lt_size e) I.ok.above))).trans e1⟩
    · by_cases hj : j = i
      · subst hj
        rw [hi] at e1; cases e1
        rw [List.getElem?_set_self hiσ] at e2
        cases e2
        exact ⟨u, r, .inl ⟨hk, by simp⟩⟩
      · rw [List.getElem?_set_ne (Ne.symm hj)] at e2
        obtain ⟨u', r', q⟩ := hl j y v' e1 e2 e3
        refine ⟨u', r', ?_⟩
        rcases q with ⟨k, e⟩ | ⟨k, c, e, z⟩
        · refine .inl ⟨k, ?_⟩
          have : y ≠ x := fun e => hj (nodup_ix hN e1 (e ▸ hi))
          simp [this, e]
        · exact .inr ⟨k, c, e, z.sameBut hs (cne y c e)⟩
    · obtain ⟨w', z⟩ := I.cell y c e
      exact ⟨w', z.sameBut hs (cne y c e)⟩
    · obtain ⟨e, n, ne, nf, d⟩ := I.pin p hp
      exact ⟨(hs.2 p.1 ne).trans e, n, ne, nf, d⟩
  · have hfn : X.fn x = true := by
      rcases hf with z | z
      · exact z
      · rw [z] at hk; cases hk
    obtain ⟨c, hc⟩ := I.ok.has x (.inl hk)
    obtain ⟨w', z⟩ := I.cell x c hc
    refine wpAny_storeName_cell I.ok.kind hk hc z (fun h' hc' hs => ?_)
    obtain ⟨oc, hoc, hocd⟩ := id z
    refine h { s with heap := h' } ⟨I.ok, I.os, I.bare, ⟨fun b o e n hb hx => ?_, fun b o e n hb hx => ?_, I.base.free, fun b o e hx => ?_, I.base.tups, I.base.frzs, I.base.tbls⟩, ⟨m, hn.sameBut hs (Ne.symm (cne x c hc)), fun j y v' e1 e2 e3 => ?_⟩, fun y c' e => ?_, I.free, I.freeC, fun p hp => ?_, tracked ⟨oc, hoc, I.freeC x c hc⟩ hs, by simpa using I.len⟩ ⟨c, hs, .inr hc⟩
    · exact (hs.2 b (Nat.ne_of_lt (Nat.lt_of_lt_of_le (Heap.lt_size e) (I.ok.cab x c hfn hc)))).trans (I.base.keep b o e n hb hx)
    · obtain ⟨sl, e1⟩ := I.base.slot b o e n hb hx
      exact ⟨sl, (hs.2 b (Nat.ne_of_lt (Nat.lt_of_lt_of_le (Heap.lt_size e) (I.ok.cab x c hfn hc)))).trans e1⟩
    · obtain ⟨o', e1⟩ := I.base.there b o e hx
      exact ⟨o', (hs.2 b (Nat.ne_of_lt (Nat.lt_of_lt_of_le (Heap.lt_size e) (I.ok.cab x c hfn hc)))).trans e1⟩
    · by_cases hj : j = i
      · subst hj
        rw [hi] at e1; cases e1
        rw [List.getElem?_set_self hiσ] at e2
        cases e2
        exact ⟨u, r, .inr ⟨.inl hk, c, hc, hc'⟩⟩
      · rw [List.getElem?_set_ne (Ne.symm hj)] at e2
        obtain ⟨u', r', q⟩ := hl j y v' e1 e2 e3
        refine ⟨u', r', ?_⟩
        rcases q with q | ⟨k, c', e, z'⟩
        · exact .inl q
        · refine .inr ⟨k, c', e, z'.sameBut hs ?_⟩
          rintro rfl
          exact hj (nodup_ix hN e1 (I.ok.inj _ _ _ e hc ▸ hi))
    · by_cases hcc : c' = c
      · subst hcc; exact ⟨_, hc'⟩
      · obtain ⟨w2, z2⟩ := I.cell y c' e
        exact ⟨w2, z2.sameBut hs hcc⟩
    · obtain ⟨e, n, ne, nf, d⟩ := I.pin p hp
      refine ⟨(hs.2 p.1 ?_).trans e, n, ne, nf, d⟩
      intro q
      rw [q, hoc] at e
      have q' : oc = p.2 := Option.some.inj e
      exact d w' (by rw [← q']; exact hocd)
theorem store_ok {M : Model} {A : Around} {E : Value → Shared → Prop} {i : Nat} {x : Str} {v : V} {u : Value} {Q : Unit → Shared → Prop} (I : Inv X pins σ H s) (hN : X.N.Nodup) (hi : X.N[i]? = some x) (hx : Loc X.env.scope x) (r : RelV v u)
    (h : ∀ s', Inv X pins (σ.set i (some v)) H s' → Q () s') (hf : X.fn x = true ∨ X.env.scope.names.lookup x = some .local := by first | exact .inl rfl | exact .inr rfl | assumption) : wpAny M A (storeName X.env x u) Q E s :=
  store_ok2 I hN hi hx r (fun s' I' _ => h s' I') hf
/-- behind a call or a block, the state as it is -/
theorem Inv.call' {s' : Shared} {ch : List Addr} (I : Inv X pins σ H s) (ho : s'.os = s.os) (u : Un (frs X.stack) ch H H' s.heap s'.heap) (hok : HOk X.prog X.w H' s'.heap) (hg : AllBare s'.gens)
    (hch : ∀ b ∈ ch, (b ∈ X.ex ∨ X.s₀.heap.objs.size ≤ b) ∧ b ≠ X.env.locals ∧ (∀ x c, X.env.cells.lookup x = some c → c ≠ b) ∧ ∀ p ∈ X.pn ++ pins, p.1 ≠ b) : Inv X pins σ H' s' := by
  obtain ⟨h', g', d', t', o'⟩ := s'
  have e : o' = s.os := ho
  subst e
  exact I.call (g' := g') (t' := t') (d' := d') u hok hg hch
end

/-! ### the judgements -/
/-- an exception: its class, its own dict's address (where it has one), the abstract heap behind it -/
abbrev XK := Value → Option Addr → Hp → Prop
abbrev St := List (Option V)
abbrev VK := V → Hp → Prop
/-- an expression's reading; a test's; an argument list's -/
abbrev TE := St → Hp → VK → Prop
abbrev TT := St → Hp → (Bool → Hp → Prop) → Prop
abbrev TA := St → Hp → (List V → Hp → Prop) → Prop
/-- what is wanted behind a statement -/
structure Ends where
  nx : St → Hp → Prop
  rt : VK
  bk : St → Hp → Prop := fun _ _ => False
  ct : St → Hp → Prop := fun _ _ => False
abbrev TS := Ends → St → Hp → Prop

def EP (X : Cx) (pins : List (Addr × Obj)) (σ : St) (Q : VK) (u : Value) (s' : Shared) : Prop := ∃ v H', Inv X pins σ H' s' ∧ RelV v u ∧ Q v H'
def TP (X : Cx) (pins : List (Addr × Obj)) (σ : St) (Q : Bool → Hp → Prop) (b : Bool) (s' : Shared) : Prop := ∃ H', Inv X pins σ H' s' ∧ Q b H'
def AP (X : Cx) (pins : List (Addr × Obj)) (σ : St) (Q : List V → Hp → Prop) (us : List Value) (s' : Shared) : Prop := ∃ vs H', Inv X pins σ H' s' ∧ Vals vs us ∧ Q vs H'
def SP (X : Cx) (pins : List (Addr × Obj)) (D : Ends) (f : Flow) (s' : Shared) : Prop :=
  match f with
  | .next => ∃ σ' H', Inv X pins σ' H' s' ∧ D.nx σ' H'
  | .brk => ∃ σ' H', Inv X pins σ' H' s' ∧ D.bk σ' H'
  | .cont => ∃ σ' H', Inv X pins σ' H' s' ∧ D.ct σ' H'
  | .ret u => ∃ v σ' H', Inv X pins σ' H' s' ∧ RelV v u ∧ D.rt v H'

def PE (X : Cx) (e : Expr) (t : TE) : Prop :=
  ∀ (pins : List (Addr × Obj)) (s : Shared) (σ : St) (H : Hp) (Q : VK), Inv X pins σ H s → t σ H Q → wpAny (model X.prog X.w) X.A (eval e X.env) (EP X pins σ Q) X.xe s
def PT (X : Cx) (e : Expr) (t : TT) : Prop :=
  ∀ (pins : List (Addr × Obj)) (s : Shared) (σ : St) (H : Hp) (Q : Bool → Hp → Prop), Inv X pins σ H s → t σ H Q → wpAny (model X.prog X.w) X.A (isTrue e X.env (eval e X.env)) (TP X pins σ Q) X.xe s
/-- a test whatever its 'whole' is (and, or) -/
def PW (X : Cx) (e : Expr) (t : TT) : Prop :=
  ∀ (whole : Sem Value) (pins : List (Addr × Obj)) (s : Shared) (σ : St) (H : Hp) (Q : Bool → Hp → Prop), Inv X pins σ H s → t σ H Q → wpAny (model X.prog X.w) X.A (isTrue e X.env whole) (TP X pins σ Q) X.xe s
theorem PW.pt {X : Cx} {e : Expr} {t : TT} (h : PW X e t) : PT X e t := h _
/-- an argument list (no star), from the left -/
def PA (X : Cx) (es : List Expr) (t : TA) : Prop :=
  ∀ (pos : Pos) (pins : List (Addr × Obj)) (s : Shared) (σ : St) (H : Hp) (Q : List V → Hp → Prop), Inv X pins σ H s → t σ H Q → wpAny (model X.prog X.w) X.A (spliced (backTo pos (starEach es X.env))) (AP X pins σ Q) X.xe s
def PS (X : Cx) (st : Stmt) (t : TS) : Prop :=
  ∀ (pins : List (Addr × Obj)) (s : Shared) (σ : St) (H : Hp) (D : Ends), Inv X pins σ H s → t D σ H → wpAny (model X.prog X.w) X.A (exec st X.env) (SP X pins D) X.xe s
def PSs (X : Cx) (st : List Stmt) (t : TS) : Prop :=
  ∀ (pins : List (Addr × Obj)) (s : Shared) (σ : St) (H : Hp) (D : Ends), Inv X pins σ H s → t D σ H → wpAny (model X.prog X.w) X.A (execs st X.env) (SP X pins D) X.xe s
/-- weaken the end -/
theorem thn {α : Type} {t : Sem α} {Q Q' : α → Shared → Prop} {M : Model} {A : Around} {E : Value → Shared → Prop} {s : Shared} (h : wpAny M A t Q E s) (hQ : ∀ a s, Q a s → Q' a s) : wpAny M A t Q' E s := wpAny_mono h hQ fun _ _ x => x
end L2

namespace L2
open PySem PySem.Spec PyProof.Rows
section
variable {X : Cx}


/-! ### names and constants -/
def tVar (i : Nat) : TE := fun σ H Q => ∃ v, σ[i]? = some (some v) ∧ Q v H
def tC (v : V) : TE := fun _ H Q => Q v H
theorem pe_var {i : Nat} {x : Str} {pos : Pos} (hN : X.N[i]? = some x) (hv : Vis X.env.scope x) (hd : (x == ("__debug__" : Str)) = false := by decide) (hcd : (x == ("__classdict__" : Str)) = false := by decide) : PE X (.Name x pos) (tVar i) := by
  intro pins s σ H Q I h
  obtain ⟨v, e, h⟩ := h
  obtain ⟨m, hn, hl⟩ := I.loc
  obtain ⟨u, r, l⟩ := hl i x v hN e hv
  have fin : EP X pins σ Q u s := ⟨v, H, I, r, h⟩
  rcases l with ⟨hk, hm⟩ | ⟨hk, c, hc, hcell⟩
  · exact wpAny_Name (wpAny_loadName_local I.ok.kind hk hn hm fin) hd
  · rcases hk with hk | hk
    · exact wpAny_Name (wpAny_loadName_cell I.ok.kind hk hc hcell fin) hd
    · exact wpAny_Name (wpAny_loadName_free I.ok.kind hk hc hcell fin hcd) hd
theorem pe_int {i j pos} : PE X (.Constant (.int i) j pos) (tC (.int i)) := fun _ _ _ H _ I h => wpAny_Constant_int ⟨.int i, H, I.tok _, ⟨_, rfl⟩, h⟩
theorem pe_bl {b j pos} : PE X (.Constant (.bool b) j pos) (tC (.bl b)) := fun _ _ _ H _ I h => Constant_bool ⟨.bl b, H, I, rfl, h⟩
theorem pe_non {j pos} : PE X (.Constant .none j pos) (tC .non) := fun _ _ _ H _ I h => Constant_none ⟨.non, H, I, rfl, h⟩
theorem pe_str {x j pos} : PE X (.Constant (.str x) j pos) (tC (.str x)) := fun _ _ _ H _ I h => Calls.Constant_str ⟨.str x, H, I.tok _, ⟨_, rfl⟩, h⟩

/-- a global name of the def -/
def Gl (X : Cx) (x : Str) : Prop := X.env.kindOf x = some .globalImplicit
theorem ld_glob {E : Value → Shared → Prop} {pins : List (Addr × Obj)} {s : Shared} {σ : St} {H : Hp} {x : Str} {u : Value} {pos : Pos} {Q : Value → Shared → Prop} (I : Inv X pins σ H s) (hg : Gl X x) (hm : X.mg x = some u) (h : Q u s)
    (hd : (x == ("__debug__" : Str)) = false := by decide) : wpAny (model X.prog X.w) X.A (eval (.Name x pos) X.env) Q E s :=
  Calls.Name_function_global I.ok.kind hg (Calls.loadGlobal_global (by rw [I.ok.glob]; exact I.mod.glob.keeps I.bk) hm h) hd
theorem ld_blt {E : Value → Shared → Prop} {pins : List (Addr × Obj)} {s : Shared} {σ : St} {H : Hp} {x : Str} {u : Value} {pos : Pos} {Q : Value → Shared → Prop} (I : Inv X pins σ H s) (hg : Gl X x) (hm : X.mg x = none) (hv : bootBuiltins x = some u) (h : Q u s)
    (hn : x ≠ "__name__" := by decide) (hd : (x == ("__debug__" : Str)) = false := by decide) : wpAny (model X.prog X.w) X.A (eval (.Name x pos) X.env) Q E s := by
  obtain ⟨mb, h1, h2⟩ := I.mod.blt
  exact Calls.Name_function_global I.ok.kind hg (Calls.loadGlobal_builtin (by rw [I.ok.glob]; exact I.mod.glob.keeps I.bk) hm (by rw [I.ok.blt]; exact h1.keeps I.bk) ((h2 x hn).trans hv) h) hd
/-- a module's constant, a class, a function, as a value -/
theorem pe_glob {x : Str} {v : V} {u : Value} {pos : Pos} (hg : Gl X x) (hm : X.mg x = some u) (r : RelV v u) (hd : (x == ("__debug__" : Str)) = false := by decide) : PE X (.Name x pos) (tC v) :=
  fun _ _ _ H _ I h => ld_glob I hg hm ⟨v, H, I, r, h⟩ hd
theorem pe_bltn {x : Str} {v : V} {u : Value} {pos : Pos} (hg : Gl X x) (hm : X.mg x = none) (hv : bootBuiltins x = some u) (r : RelV v u) (hn : x ≠ "__name__" := by decide) (hd : (x == ("__debug__" : Str)) = false := by decide) : PE X (.Name x pos) (tC v) :=
  fun _ _ _ H _ I h => ld_blt I hg hm hv ⟨v, H, I, r, h⟩ hn hd

/-! ### arithmetic -/
variable {a b : Expr} {ta tb : TE} {pos : Pos}

/-! ### comparisons -/
/-- a comparison as a value, as a test -/
def tB (t : TE) : TT := fun σ H Q => t σ H fun x H1 => ∃ c, x = .bl c ∧ Q c H1
/-- an expression whose value is a bool, as a test -/
theorem pt_val {e : Expr} {t : TE} (h : PE X e t) (he : ∀ whole, isTrue e X.env whole = (do let v ← whole; standAt e.pos; holding [v] (truthy v)) := by intro _; rfl) : PT X e (tB t) := by
  intro pins s σ H Q I hw
  refine isTrue_plain (thn (h pins s σ H _ I hw) fun v s1 ⟨x, H1, I1, r1, q1⟩ => ?_) (he _)
  obtain ⟨d, rfl, q⟩ := q1
  cases r1
  exact wpAny_truthy_bool ⟨H1, I1, q⟩

/-! ### and, or, not -/
variable {tA tB' : TT} {rest : List Expr}
def tAnd (t u : TT) : TT := fun σ H Q => t σ H fun c H1 => if c = true then u σ H1 Q else Q false H1
def tOr (t u : TT) : TT := fun σ H Q => t σ H fun c H1 => if c = true then Q true H1 else u σ H1 Q
def tNot (t : TT) : TT := fun σ H Q => t σ H fun c H1 => Q (!c) H1
theorem pw_and1 (ha : PT X a tA) : PW X (.BoolOp .And [a] pos) tA := by
  intro wh pins s σ H Q I h
  refine isTrue_and (thn (ha pins s σ H Q I h) fun c s1 e => ?_)
  cases c with
  | true => exact isTrue_and_nil e
  | false => exact e
theorem pw_or1 (ha : PT X a tA) : PW X (.BoolOp .Or [a] pos) tA := by
  intro wh pins s σ H Q I h
  refine isTrue_or (thn (ha pins s σ H Q I h) fun c s1 e => ?_)
  cases c with
  | false => exact isTrue_or_nil e
  | true => exact e
theorem pw_and (ha : PT X a tA) (hb : PW X (.BoolOp .And (b :: rest) pos) tB') : PW X (.BoolOp .And (a :: b :: rest) pos) (tAnd tA tB') := by
  intro wh pins s σ H Q I h
  refine isTrue_and (thn (ha pins s σ H _ I h) fun c s1 ⟨H1, I1, q1⟩ => ?_)
  cases c with
  | true => exact hb wh pins s1 σ H1 Q I1 q1
  | false => exact ⟨H1, I1, q1⟩
theorem pw_or (ha : PT X a tA) (hb : PW X (.BoolOp .Or (b :: rest) pos) tB') : PW X (.BoolOp .Or (a :: b :: rest) pos) (tOr tA tB') := by
  intro wh pins s σ H Q I h
  refine isTrue_or (thn (ha pins s σ H _ I h) fun c s1 ⟨H1, I1, q1⟩ => ?_)
  cases c with
  | true => exact ⟨H1, I1, q1⟩
  | false => exact hb wh pins s1 σ H1 Q I1 q1
theorem pt_not (ha : PT X a tA) : PT X (.UnaryOp .Not a pos) (tNot tA) := by
  intro pins s σ H Q I h
  exact isTrue_not (ha pins s σ H (fun c H1 => Q (!c) H1) I h)
/-- .. as values (bools) -/
def tAndV (ta tb : TE) : TE := fun σ H Q => ta σ H fun x H1 => ∃ c, x = .bl c ∧ if c = true then tb σ H1 Q else Q (.bl false) H1
def tOrV (ta tb : TE) : TE := fun σ H Q => ta σ H fun x H1 => ∃ c, x = .bl c ∧ if c = true then Q (.bl true) H1 else tb σ H1 Q
def tNotV (ta : TE) : TE := fun σ H Q => ta σ H fun x H1 => ∃ c, x = .bl c ∧ Q (.bl (!c)) H1
theorem pe_one {op} {t : TE} (h : PE X a t) : PE X (.BoolOp op [a] pos) t := fun pins s σ H Q I hw => BoolOp_one (h pins s σ H Q I hw)
theorem pe_and (ha : PE X a ta) (hb : PE X (.BoolOp .And (b :: rest) pos) tb) : PE X (.BoolOp .And (a :: b :: rest) pos) (tAndV ta tb) := by
  intro pins s σ H Q I h
  refine BoolOp_and (thn (ha pins s σ H _ I h) fun v s1 ⟨x, H1, I1, r1, q1⟩ => ?_)
  obtain ⟨c, rfl, q1⟩ := q1
  cases r1
  refine wpAny_truthy_bool ?_
  cases c with
  | true => exact hb pins s1 σ H1 Q I1 q1
  | false => exact ⟨.bl false, H1, I1, rfl, q1⟩
theorem pe_or (ha : PE X a ta) (hb : PE X (.BoolOp .Or (b :: rest) pos) tb) : PE X (.BoolOp .Or (a :: b :: rest) pos) (tOrV ta tb) := by
  intro pins s σ H Q I h
  refine BoolOp_or (thn (ha pins s σ H _ I h) fun v s1 ⟨x, H1, I1, r1, q1⟩ => ?_)
  obtain ⟨c, rfl, q1⟩ := q1
  cases r1
  refine wpAny_truthy_bool ?_
  cases c with
  | false => exact hb pins s1 σ H1 Q I1 q1
  | true => exact ⟨.bl true, H1, I1, rfl, q1⟩
theorem pe_not (ha : PE X a ta) : PE X (.UnaryOp .Not a pos) (tNotV ta) := by
  intro pins s σ H Q I h
  refine UnaryOp_ (thn (ha pins s σ H _ I h) fun v s1 ⟨x, H1, I1, r1, q1⟩ => ?_)
  obtain ⟨c, rfl, q1⟩ := q1
  cases r1
  exact not_of (wpAny_truthy_bool ⟨.bl (!c), H1, I1, rfl, q1⟩)
/-- a if t else b -/
def tIf (t : TT) (ta tb : TE) : TE := fun σ H Q => t σ H fun c H1 => if c = true then ta σ H1 Q else tb σ H1 Q
theorem pe_ifExp {c : Expr} (hc : PT X c tA) (ha : PE X a ta) (hb : PE X b tb) : PE X (.IfExp c a b pos) (tIf tA ta tb) := by
  intro pins s σ H Q I h
  refine wpAny_IfExp (thn (hc pins s σ H _ I h) fun d s1 ⟨H1, I1, q1⟩ => ?_)
  cases d with
  | true => exact ha pins s1 σ H1 Q I1 q1
  | false => exact hb pins s1 σ H1 Q I1 q1
end
end L2

namespace L2
open PySem PySem.Spec PyProof.Rows

/-! ### a list, a tuple that is read: tracked, frozen, or an object of the module -/
def SqL (K : PySem.W.Frag) (H : Hp) (a : Addr) (xs : List V) : Prop :=
  Rd H a (.lst xs) ∨
    ∃ (o : Obj) (its : Array Value) (n : Nat), K.lookup a = some o ∧ o.cls = .type "list" ∧ o.dict = none ∧ o.data = .seq its n ∧ its.size ≤ sizeLine ∧ Vals xs its.toList
def SqT (K : PySem.W.Frag) (H : Hp) (a : Addr) (xs : List V) : Prop :=
  Rd H a (.tup xs) ∨
    ∃ (o : Obj) (its : Array Value) (n : Nat), K.lookup a = some o ∧ o.cls = .type "tuple" ∧ o.data = .seq its n ∧ its.size ≤ sizeLine ∧ Vals xs its.toList
def absV : Value → Option V
  | .none => some .non
  | .bool b => some (.bl b)
  | .int i _ => some (.int i)
  | .str x _ => some (.str x)
  | .bytes b _ => some (.byt b)
  | .float b _ => some (.flt b)
  | .ref a => some (.ref a)
  | .type n => some (.ty n)
  | _ => none
theorem RelV.abs {x : V} {u : Value} (r : RelV x u) : absV u = some x := by
  cases x with
  | non => cases r; rfl
  | bl _ => cases r; rfl
  | int _ => obtain ⟨t, rfl⟩ := r; rfl
  | str _ => obtain ⟨t, rfl⟩ := r; rfl
  | byt _ => obtain ⟨t, rfl⟩ := r; rfl
  | flt _ => obtain ⟨t, rfl⟩ := r; rfl
  | ref _ => cases r; rfl
  | ty _ => cases r; rfl
theorem RelV.inj {x y : V} {u : Value} (r : RelV x u) (q : RelV y u) : x = y := Option.some.inj (r.abs.symm.trans q.abs)
theorem Vals.inj : ∀ {xs ys : List V} {us : List Value}, Vals xs us → Vals ys us → xs = ys
  | _, _, _, .nil, .nil => rfl
  | _, _, _, .cons r t, .cons r' t' => by rw [r.inj r', Vals.inj t t']
section
variable {X : Cx} {pins : List (Addr × Obj)} {σ : St} {H : Hp} {s : Shared} {a : Addr} {xs ys : List V}
theorem SqL.of {K : PySem.W.Frag} (h : H a = some (.lst xs)) : SqL K H a xs := .inl (.inl h)
theorem SqT.of {K : PySem.W.Frag} (h : H a = some (.tup xs)) : SqT K H a xs := .inl (.inl h)
theorem Inv.list (I : Inv X pins σ H s) (h : SqL X.K H a xs) : ∃ its : List Value, Vals xs its ∧ PlainL s.heap a its.toArray ∧ xs.length ≤ sizeLine := by
  rcases h with h | ⟨o, its, n, hk, hc, hd, hs, hz, r⟩
  · obtain ⟨z, its, n, r, e⟩ := h.ok I.hok
    exact ⟨its, r, ⟨_, n, e, rfl, rfl, rfl⟩, z⟩
  · refine ⟨its.toList, r, ⟨o, n, I.kIn a o hk, hc, hd, by simpa using hs⟩, ?_⟩
    have e := r.length
    simp only [Array.length_toList] at e
    omega
theorem Inv.tuple (I : Inv X pins σ H s) (h : SqT X.K H a xs) : ∃ its : List Value, Vals xs its ∧ IsTup s.heap a its.toArray ∧ xs.length ≤ sizeLine := by
  rcases h with h | ⟨o, its, n, hk, hc, hs, hz, r⟩
  · obtain ⟨z, its, r, p⟩ := h.ok I.hok
    exact ⟨its, r, p, z⟩
  · refine ⟨its.toList, r, ⟨o, I.kIn a o hk, hc, n, by simpa using hs⟩, ?_⟩
    have e := r.length
    simp only [Array.length_toList] at e
    omega
theorem Inv.list_inj (I : Inv X pins σ H s) (h : SqL X.K H a xs) (h' : SqL X.K H a ys) : xs = ys := by
  obtain ⟨its, r, ⟨o, n, e, _, _, d⟩, _⟩ := I.list h
  obtain ⟨its', r', ⟨o', n', e', _, _, d'⟩, _⟩ := I.list h'
  rw [e] at e'; cases e'
  rw [d] at d'
  injection d' with d1 _
  have : its = its' := by simpa using congrArg Array.toList d1
  subst this
  exact r.inj r'
end

/-! ### another wish about exceptions -/
abbrev Cx.wish (X : Cx) (E : Value → Shared → Prop) : Cx := { X with xe := E }
/-- no exception leaves -/
abbrev Cx.nox (X : Cx) : Cx := X.wish fun _ _ => False
theorem Cx.Ok.wish {X : Cx} (ok : X.Ok) (E : Value → Shared → Prop) : (X.wish E).Ok :=
  ⟨ok.mod, ok.kind, ok.glob, ok.blt, ok.above, ok.inj, ok.has, ok.cab, ok.hd, ok.frames, ok.stk, ok.exf, ok.bs, ok.bsz, ok.noex, ok.exfs, ok.funs, ok.frf⟩
theorem Cx.Ok.unwish {X : Cx} {E : Value → Shared → Prop} (ok : (X.wish E).Ok) : X.Ok :=
  ⟨ok.mod, ok.kind, ok.glob, ok.blt, ok.above, ok.inj, ok.has, ok.cab, ok.hd, ok.frames, ok.stk, ok.exf, ok.bs, ok.bsz, ok.noex, ok.exfs, ok.funs, ok.frf⟩
section
variable {X : Cx} {pins : List (Addr × Obj)} {σ : St} {H : Hp} {s : Shared} {E : Value → Shared → Prop}
theorem Inv.wish (I : Inv X pins σ H s) (E : Value → Shared → Prop) : Inv (X.wish E) pins σ H s := ⟨I.ok.wish E, I.os, I.bare, I.base, I.loc, I.cell, I.free, I.freeC, I.pin, I.hok, I.len⟩
theorem Inv.unwish (I : Inv (X.wish E) pins σ H s) : Inv X pins σ H s := ⟨I.ok.unwish, I.os, I.bare, I.base, I.loc, I.cell, I.free, I.freeC, I.pin, I.hok, I.len⟩
theorem SP.unwish {D : Ends} {f : Flow} {s' : Shared} (h : SP (X.wish E) pins D f s') : SP X pins D f s' := by
  cases f with
  | next => obtain ⟨σ', H', I, q⟩ := h; exact ⟨σ', H', I.unwish, q⟩
  | brk => obtain ⟨σ', H', I, q⟩ := h; exact ⟨σ', H', I.unwish, q⟩
  | cont => obtain ⟨σ', H', I, q⟩ := h; exact ⟨σ', H', I.unwish, q⟩
  | ret u => obtain ⟨v, σ', H', I, r, q⟩ := h; exact ⟨v, σ', H', I.unwish, r, q⟩
theorem PE.nox {e : Expr} {t : TE} (h : PE X.nox e t) : PE X e t := fun pins s σ H Q I hw =>
  wpAny_mono (h pins s σ H Q (I.wish _) hw) (fun _ _ ⟨v, H', I', r, q⟩ => ⟨v, H', I'.unwish, r, q⟩) fun _ _ z => False.elim z
theorem PT.nox {e : Expr} {t : TT} (h : PT X.nox e t) : PT X e t := fun pins s σ H Q I hw =>
  wpAny_mono (h pins s σ H Q (I.wish _) hw) (fun _ _ ⟨H', I', q⟩ => ⟨H', I'.unwish, q⟩) fun _ _ z => False.elim z
theorem PSs.nox {st : List Stmt} {t : TS} (h : PSs X.nox st t) : PSs X st t := fun pins s σ H D I hw =>
  wpAny_mono (h pins s σ H D (I.wish _) hw) (fun _ _ q => q.unwish) fun _ _ z => False.elim z
end

/-! ### blocks and small statements -/
section
variable {X : Cx} {st : Stmt} {rest : List Stmt} {t u : TS} {e : Expr} {te : TE} {pos : Pos}
def tNext : TS := fun D σ H => D.nx σ H
def tSeq (t u : TS) : TS := fun D σ H => t { D with nx := u D } σ H
theorem pss_nil : PSs X [] tNext := fun _ _ σ H _ I h => wpAny_execs_nil ⟨σ, H, I, h⟩
theorem pss_cons (h1 : PS X st t) (h2 : PSs X rest u) : PSs X (st :: rest) (tSeq t u) := by
  intro pins s σ H D I h
  refine wpAny_execs_cons (thn (h1 pins s σ H { D with nx := u D } I h) fun f s1 q => ?_)
  cases f with
  | next =>
    obtain ⟨σ', H', I', q⟩ := q
    exact h2 pins s1 σ' H' D I' q
  | ret v => exact q
  | brk => exact q
  | cont => exact q
theorem pss_one (h1 : PS X st t) : PSs X [st] t := by
  intro pins s σ H D I h
  refine wpAny_execs_cons (thn (h1 pins s σ H D I h) fun f s1 q => ?_)
  cases f with
  | next => exact wpAny_execs_nil q
  | ret v => exact q
  | brk => exact q
  | cont => exact q
/-- in a def's body nothing is shown -/
theorem Inv.quiet {pins : List (Addr × Obj)} {σ : St} {H : Hp} {s : Shared} (I : Inv X pins σ H s) : interactive X.env = false := by simp [interactive, I.ok.kind]
/-- an expression whose value is dropped -/
def tDrop (te : TE) : TS := fun D σ H => te σ H fun _ H1 => D.nx σ H1
theorem ps_expr (he : PE X e te) (hs : swapsWith e none pos.line X.env = pure false := by rfl) : PS X (.Expr e pos) (tDrop te) := by
  intro pins s σ H D I h
  exact wpAny_Expr_any (thn (he pins s σ H _ I h) fun v s1 ⟨x, H1, I1, r1, q1⟩ => ⟨σ, H1, I1, q1⟩) I.quiet hs
def tRet (te : TE) : TS := fun D σ H => te σ H D.rt
theorem ps_ret (he : PE X e te) : PS X (.Return (some e) pos) (tRet te) := by
  intro pins s σ H D I h
  exact wpAny_Return_some (thn (he pins s σ H _ I h) fun v s1 ⟨x, H1, I1, r1, q1⟩ => ⟨x, σ, H1, I1, r1, q1⟩)
def tIfS (c : TT) (t u : TS) : TS := fun D σ H => c σ H fun b H1 => if b = true then t D σ H1 else u D σ H1
theorem ps_if {c : Expr} {a b : List Stmt} {tc : TT} (hc : PT X c tc) (ha : PSs X a t) (hb : PSs X b u) : PS X (.If c a b pos) (tIfS tc t u) := by
  intro pins s σ H D I h
  refine wpAny_If (thn (hc pins s σ H _ I h) fun d s1 ⟨H1, I1, q1⟩ => ?_)
  cases d with
  | true => exact ha pins s1 σ H1 D I1 q1
  | false => exact hb pins s1 σ H1 D I1 q1
/-- code that the proof never comes to -/
def tNever : TS := fun _ _ _ => False
theorem ps_never : PS X st tNever := fun _ _ _ _ _ _ h => h.elim
end

/-! ### targets -/
abbrev TG := V → St → Hp → (St → Hp → Prop) → Prop
abbrev TGs := List V → St → Hp → (St → Hp → Prop) → Prop
def PG (X : Cx) (target : Expr) (t : TG) : Prop :=
  ∀ (pins : List (Addr × Obj)) (s : Shared) (σ : St) (H : Hp) (v : V) (u : Value) (Q : St → Hp → Prop), Inv X pins σ H s → RelV v u → t v σ H Q →
    wpAny (model X.prog X.w) X.A (assign target X.env u) (fun _ s' => ∃ σ' H', Inv X pins σ' H' s' ∧ Q σ' H') X.xe s
/-- several targets, one after another -/
def PGs (X : Cx) (ts : List Expr) (t : TGs) : Prop :=
  ∀ (pins : List (Addr × Obj)) (s : Shared) (σ : St) (H : Hp) (vs : List V) (us : List Value) (Q : St → Hp → Prop), Inv X pins σ H s → Vals vs us → t vs σ H Q →
    wpAny (model X.prog X.w) X.A (assignInOrder ((assignEach ts X.env).map (·.2)) us) (fun _ s' => ∃ σ' H', Inv X pins σ' H' s' ∧ Q σ' H') X.xe s
section
variable {X : Cx} {pos : Pos}
def gName (i : Nat) : TG := fun v σ H Q => Q (σ.set i (some v)) H
theorem pg_name {i : Nat} {x : Str} (hN : X.N.Nodup) (hi : X.N[i]? = some x) (hx : Loc X.env.scope x) (hf : X.fn x = true ∨ X.env.scope.names.lookup x = some .local := by first | exact .inl rfl | exact .inr rfl | assumption) : PG X (.Name x pos) (gName i) := by
  intro pins s σ H v u Q I r h
  exact wpAny_assign_Name (store_ok I hN hi hx r (fun s' I' => ⟨_, H, I', h⟩) hf)
def gNil : TGs := fun vs σ H Q => vs = [] ∧ Q σ H
def gCons (t : TG) (u : TGs) : TGs := fun vs σ H Q => ∃ v r, vs = v :: r ∧ t v σ H fun σ' H' => u r σ' H' Q
theorem pgs_nil : PGs X [] gNil := by
  intro pins s σ H vs us Q I r h
  obtain ⟨e, h⟩ := h
  subst e
  cases r
  exact assignInOrder_nil ⟨σ, H, I, h⟩
theorem pgs_cons {e : Expr} {es : List Expr} {t : TG} {u : TGs} (h1 : PG X e t) (h2 : PGs X es u)
    (hs : (assignEach (e :: es) X.env).map (·.2) = assign e X.env :: (assignEach es X.env).map (·.2) := by rfl) : PGs X (e :: es) (gCons t u) := by
  intro pins s σ H vs us Q I r h
  obtain ⟨v, vr, e1, h⟩ := h
  subst e1
  cases r with
  | cons r rr =>
    rw [hs]
    refine assignInOrder_cons (thn (h1 pins s σ H _ _ _ I r h) fun _ s1 ⟨σ1, H1, I1, q1⟩ => ?_)
    exact h2 pins s1 σ1 H1 _ _ Q I1 rr q1
/-- (a, b, ..) = a tuple of that length -/
def gTup (K : PySem.W.Frag) (n : Nat) (t : TGs) : TG := fun v σ H Q => ∃ a xs, v = .ref a ∧ SqT K H a xs ∧ xs.length = n ∧ t xs σ H Q
theorem pg_tup {es : List Expr} {k : Nat} {t : TGs} {n : Nat} (hc : X.calm = true) (h : PGs X es t)
    (hn : (assignEach es X.env).length = n := by rfl) (hst : (assignEach es X.env).findIdx? (·.1) = none := by rfl) : PG X (.Tuple es k pos) (gTup X.K n t) := by
  intro pins s σ H v u Q I r hw
  obtain ⟨a, xs, e1, hq, hl, hw⟩ := hw
  subst e1
  cases r
  obtain ⟨its, rv, ht, hz⟩ := I.tuple hq
  refine assign_Tuple_tuple (I.ok.hd hc) ht (by simp [hn, ← hl, rv.length]) hst fun h' hx => ?_
  have I1 : Inv X pins σ H { s with heap := h' } := I.kept (t' := s.toks) fun b o e => hx b o (Nat.ne_of_lt (Heap.lt_size e)) e
  exact h pins _ σ H xs _ Q I1 (by simpa using rv) hw
/-- target = value -/
def tAsg (te : TE) (g : TG) : TS := fun D σ H => te σ H fun x H1 => g x σ H1 D.nx
theorem ps_asg {tg e : Expr} {te : TE} {g : TG} (he : PE X e te) (hg : PG X tg g) (hs : swapsWithSole [tg] e pos.line X.env = pure false := by rfl) (hw : swappedStores [tg] e X.env = pure none := by rfl)
    (h1 : (assignEach [tg] X.env).map (·.2) = [assign tg X.env] := by rfl) : PS X (.Assign [tg] e pos) (tAsg te g) := by
  intro pins s σ H D I h
  refine wpAny_Assign_stores (thn (he pins s σ H _ I h) fun v s1 ⟨x, H1, I1, r1, q1⟩ => ?_) hs hw
  rw [h1]
  exact thn (hg pins s1 σ H1 x v _ I1 r1 q1) fun _ s2 q => q
/-- name = value -/
theorem ps_set {i : Nat} {x : Str} {e : Expr} {te : TE} {pos' : Pos} (hN : X.N.Nodup) (hi : X.N[i]? = some x) (hx : Loc X.env.scope x) (he : PE X e te) (hs : swapsWith e (some (.Name x pos')) pos.line X.env = pure false := by rfl) (hf : X.fn x = true ∨ X.env.scope.names.lookup x = some .local := by first | exact .inl rfl | exact .inr rfl | assumption) :
    PS X (.Assign [.Name x pos'] e pos) (tAsg te (gName i)) := by
  intro pins s σ H D I h
  refine wpAny_Assign_Name (thn (he pins s σ H _ I h) fun v s1 ⟨y, H1, I1, r1, q1⟩ => ?_) hs
  exact store_ok I1 hN hi hx r1 (fun s2 I2 => ⟨_, H1, I2, q1⟩) hf
end

/-! ### while -/
section
variable {X : Cx} {pos : Pos}
end

/-! ### what a loop or a comprehension walks -/
/-- at turn i: it yields x (the heap may grow), or it stops -/
structure It where
  go : Nat → Hp → Prop
  yld : Nat → Hp → V → Hp → Prop
  stop : Nat → Hp → Prop
/-- the iterator's own objects may turn: they are not the frame's, not pinned, younger than the entry (or a comprehension's own) -/
def FpOk (X : Cx) (pins : List (Addr × Obj)) (H : Hp) (b : Addr) : Prop :=
  H b = none ∧ b ≠ X.env.locals ∧ b ∉ X.fs ∧ (b ∈ X.ex ∨ X.s₀.heap.objs.size ≤ b) ∧ (∀ x c, X.env.cells.lookup x = some c → c ≠ b) ∧ ∀ p ∈ X.pn ++ pins, p.1 ≠ b
theorem Inv.fpOk {X : Cx} {pins : List (Addr × Obj)} {σ : St} {H H' : Hp} {s : Shared} {b : Addr} (I : Inv X pins σ H s) (hb : s.heap.objs.size ≤ b) (hn : H' b = none) : FpOk X pins H' b := by
  refine ⟨hn, Nat.ne_of_gt (Nat.lt_of_lt_of_le I.lt hb), I.nofs hb, .inr (Nat.le_trans I.sz hb), fun x c e z => ?_, fun p hp z => ?_⟩
  · obtain ⟨v, q⟩ := I.cell x c e
    exact absurd (Nat.lt_of_lt_of_le q.lt (by rw [z]; exact hb)) (Nat.lt_irrefl _)
  · exact absurd (Nat.lt_of_lt_of_le (Heap.lt_size (I.pin p hp).1) (by rw [z]; exact hb)) (Nat.lt_irrefl _)
structure Turn (P : Program) (w : World) (K : PySem.W.Frag) (tg : Expr) (J : It) (fp : List Addr) (it : Addr) (tn : Nat → Heap → Prop) : Prop where
  mem : it ∈ fp
  obj : ∀ i h, tn i h → ∀ b ∈ fp, ∃ o, h.get? b = some o ∧ ∀ v, o.data ≠ .cell v
  keep : ∀ i h h', tn i h → (∀ b ∈ fp, ∀ o, h.get? b = some o → h'.get? b = some o) → tn i h'
  item : ∀ (X : Cx), X.prog = P → X.w = w → X.K = K → X.calm = true → ∀ (i : Nat) (pins : List (Addr × Obj)) (s : Shared) (σ : St) (H : Hp) (E : Value → Shared → Prop), Inv X pins σ H s → (∀ b ∈ fp, FpOk X pins H b) → tn i s.heap → J.go i H →
    wpAny (model P w) X.A (pyNext (.ref it)) (fun r s1 => ∃ u, r = some u ∧
      wpAny (model P w) X.A (letOwnedTupleGo tg (.ref it) u) (fun _ s2 => ∃ x H', Inv X pins σ H' s2 ∧ RelV x u ∧ J.yld i H x H' ∧ tn (i + 1) s2.heap ∧ ∀ b ∈ fp, H' b = none) E s1) E s
  done : ∀ (X : Cx), X.prog = P → X.w = w → X.K = K → X.calm = true → ∀ (i : Nat) (pins : List (Addr × Obj)) (s : Shared) (σ : St) (H : Hp) (E : Value → Shared → Prop), Inv X pins σ H s → (∀ b ∈ fp, FpOk X pins H b) → tn i s.heap → J.stop i H →
    wpAny (model P w) X.A (pyNext (.ref it)) (fun r s1 => r = none ∧ Inv X pins σ H s1) E s
  self : ∀ (A : Around) (i : Nat) (s : Shared) (Q : Value → Shared → Prop) (E : Value → Shared → Prop), tn i s.heap → Q (.ref it) s → wpAny (model P w) A (pyIter (.ref it)) Q E s
abbrev TI := St → Hp → (It → Hp → Prop) → Prop
/-- an iterator has come -/
def PIE (X : Cx) (pins : List (Addr × Obj)) (σ : St) (tg : Expr) (R : It → Hp → Prop) (itv : Value) (s2 : Shared) : Prop :=
  ∃ (it : Addr) (fp : List Addr) (tn : Nat → Heap → Prop) (J : It) (H' : Hp), itv = .ref it ∧ Inv X pins σ H' s2 ∧ Turn X.prog X.w X.K tg J fp it tn ∧ tn 0 s2.heap ∧ (∀ b ∈ fp, FpOk X pins H' b) ∧ R J H'
def PI (X : Cx) (tg iter : Expr) (wi : TI) : Prop :=
  ∀ (pins : List (Addr × Obj)) (s : Shared) (σ : St) (H : Hp) (R : It → Hp → Prop), Inv X pins σ H s → wi σ H R →
    wpAny (model X.prog X.w) X.A (eval iter X.env) (fun v s1 => wpAny (model X.prog X.w) X.A (pyIter v) (PIE X pins σ tg R) X.xe s1) X.xe s

/-- the step ahead of the store is nothing for an iterator that keeps no tuple -/
theorem go_of {M : Model} {A : Around} {E : Value → Shared → Prop} {s : Shared} {tg : Expr} {it : Addr} {u : Value} {o : Obj} {n : String} {vs : Array Value} {Q : Unit → Shared → Prop} (ho : s.heap.get? it = some o) (hc : o.cls = .type n) (hd : o.data = .fields vs)
    (hn : ["enumerate", "zip", "dict_itemiterator", "dict_reverseitemiterator", "odict_iterator", "itertools.zip_longest", "itertools.pairwise"].contains n = false) (hQ : Q () s) : wpAny M A (letOwnedTupleGo tg (.ref it) u) Q E s := by
  unfold letOwnedTupleGo
  cases tg <;> first
    | exact wpAny_pure hQ
    | (cases u <;> first
        | exact wpAny_pure hQ
        | (refine wpAny_bind (wpAny_load ho ?_)
           rw [hc, hd]
           show wpAny M A (if (["enumerate", "zip", "dict_itemiterator", "dict_reverseitemiterator", "odict_iterator", "itertools.zip_longest", "itertools.pairwise"].contains n && vs[0]? == some (rawInt _)) = true then _ else _) Q E s
           rw [if_neg (by intro h; rw [hn, Bool.false_and] at h; cases h)]
           exact wpAny_pure hQ))

/-- the list at a, as it stands at each turn (a loop may append to it) -/
def Itl (K : PySem.W.Frag) (a : Addr) : It :=
  ⟨fun i H => ∃ xs x, SqL K H a xs ∧ xs[i]? = some x, fun i H x H' => H' = H ∧ ∀ xs, SqL K H a xs → xs[i]? = some x, fun i H => ∃ xs, SqL K H a xs ∧ xs.length ≤ i⟩
/-- lo, lo + 1, .. (n of them) -/
def Itr (lo : Int) (n : Nat) : It := ⟨fun i _ => i < n, fun i H x H' => H' = H ∧ x = .int (lo + i), fun i _ => n ≤ i⟩
theorem turn_list {P : Program} {w : World} {K : PySem.W.Frag} {tg : Expr} (a it : Addr) : Turn P w K tg (Itl K a) [it] it (fun i h => h.IsListIter it a i) where
  mem := by simp
  obj := fun i h st b hb => by
    have e : b = it := by simpa using hb
    subst e
    obtain ⟨o, e, c, d⟩ := st
    exact ⟨o, e, fun v z => by rw [d] at z; cases z⟩
  keep := fun i h h' st k => st.at fun o e => k it (by simp) o e
  item := by
    intro X hP hw hK hc i pins s σ H E I hf st hg
    subst hP hw hK
    obtain ⟨xs, x, hq, hx⟩ := hg
    obtain ⟨its, rv, p, hz⟩ := I.list hq
    obtain ⟨u, hu, ru⟩ := rv.get hx
    obtain ⟨f0, f1, f2, f3, f4, f5⟩ := hf it (by simp)
    refine wpAny_pyNext_list_item st p.isList (x := u) (by simpa using hu) fun h' st' sb => ?_
    have I1 : Inv X pins σ H { s with heap := h' } := I.turned (t' := s.toks) (fun b o hb e => (sb.2 b hb).trans e) f0 f1 f3 f4 f5
    obtain ⟨o, e, c, d⟩ := id st'
    exact ⟨u, rfl, go_of (s := { s with heap := h' }) e c d (by decide) ⟨x, H, I1, ru, ⟨rfl, fun ys hy => by rw [I.list_inj hy hq]; exact hx⟩, st', fun b hb => (hf b hb).1⟩⟩
  done := by
    intro X hP hw hK hc i pins s σ H E I hf st hg
    subst hP hw hK
    obtain ⟨xs, hq, hx⟩ := hg
    obtain ⟨its, rv, p, hz⟩ := I.list hq
    obtain ⟨f0, f1, f2, f3, f4, f5⟩ := hf it (by simp)
    have hl := rv.length
    exact wpAny_pyNext_list_end (I.ok.hd hc) st p.isList (by simp; omega) fun h' eb => ⟨rfl, I.turned (t' := s.toks) (fun b o hb e => eb b o hb e) f0 f1 f3 f4 f5⟩
  self := fun _ _ _ _ _ st h => wpAny_pyIter_listiter st h
theorem turn_range {P : Program} {w : World} {K : PySem.W.Frag} {tg : Expr} (it : Addr) (lo : Int) (n : Nat) : Turn P w K tg (Itr lo n) [it] it (fun i h => IsRangeIter h it (lo + (i : Nat) * 1) ((n : Int) - (i : Nat)) 1) where
  mem := by simp
  obj := fun i h st b hb => by
    have e : b = it := by simpa using hb
    subst e
    exact ⟨_, st, fun v z => by
      have z' : Data.fields _ = Data.cell v := z
      cases z'⟩
  keep := fun i h h' st k => k it (by simp) _ st
  item := by
    intro X hP hw hK hc i pins s σ H E I hf st hg
    subst hP hw hK
    obtain ⟨f0, f1, f2, f3, f4, f5⟩ := hf it (by simp)
    have W := Walks.range (prog := X.prog) (w := X.w) (I.ok.hd hc) it lo 1 n
    refine W.item i s _ _ hg st fun v h' tk hv st' kk => ?_
    obtain ⟨t, rfl⟩ := hv
    have I1 : Inv X pins σ H { s with heap := h', toks := tk } := I.turned (fun b o hb e => kk b o (by simpa using hb) e) f0 f1 f3 f4 f5
    refine ⟨_, rfl, go_of (s := { s with heap := h', toks := tk }) (n := "range_iterator") st' rfl rfl (by decide) ⟨.int (lo + i), H, I1, ⟨t, ?_⟩, ⟨rfl, rfl⟩, st', fun b hb => (hf b hb).1⟩⟩
    rw [Int.mul_one]
  done := by
    intro X hP hw hK hc i pins s σ H E I hf st hg
    subst hP hw hK
    obtain ⟨f0, f1, f2, f3, f4, f5⟩ := hf it (by simp)
    exact wpAny_pyNext_range_end (I.ok.hd hc) st (by have : n ≤ i := hg; omega) fun h' eb => ⟨rfl, I.turned (t' := s.toks) (fun b o hb e => eb b o hb e) f0 f1 f3 f4 f5⟩
  self := fun _ _ _ _ _ st h => wpAny_pyIter_rangeiter st h
end L2

namespace L2
open PySem PySem.Spec PyProof.Rows
section
variable {X : Cx} {tg : Expr}
def iList (K : PySem.W.Frag) (tl : TE) : TI := fun σ H R => tl σ H fun x H1 => ∃ a, x = .ref a ∧ (∃ xs, SqL K H1 a xs) ∧ R (Itl K a) H1
theorem pi_list {l : Expr} {tl : TE} (hl : PE X l tl) : PI X tg l (iList X.K tl) := by
  intro pins s σ H R I h
  refine thn (hl pins s σ H _ I h) fun v s1 ⟨x, H1, I1, r1, q1⟩ => ?_
  obtain ⟨a, e, ⟨xs, hq⟩, q⟩ := q1
  subst e
  cases r1
  obtain ⟨its, rv, p, hz⟩ := I1.list hq
  refine wpAny_pyIter_list p.isList ?_
  refine ⟨s1.heap.objs.size, [s1.heap.objs.size], _, _, H1, rfl, I1.kept (t' := s1.toks) fun b o e => Heap.get?_push_of_some _ e, turn_list a _, ⟨_, Heap.get?_push_size _ rfl, rfl, rfl⟩, fun b hb => ?_, q⟩
  have e : b = s1.heap.objs.size := by simpa using hb
  subst e
  exact I1.fpOk (Nat.le_refl _) (I1.hok.fresh (Nat.le_refl _))
/-- a range object just made, walked -/
theorem range_it {pins : List (Addr × Obj)} {σ : St} {H : Hp} {s : Shared} {R : It → Hp → Prop} {E : Value → Shared → Prop} {lo hi : Int} {t u v : Tok} {tk : Nat} (I : Inv X pins σ H s) (h1 : -(2 ^ 62) ≤ lo) (h2 : lo < 2 ^ 62) (h3 : -(2 ^ 62) ≤ hi) (h4 : hi < 2 ^ 62)
    (q : R (Itr lo (hi - lo).toNat) H) : wpAny (model X.prog X.w) X.A (pyIter (.ref s.heap.objs.size)) (PIE X pins σ tg R) E { s with heap := s.heap.push { cls := .type "range", data := .fields #[.int lo t, .int hi u, .int 1 v] }, toks := tk } := by
  refine wpAny_pyIter_range (IsRange.new ..) (small_one h1 h2 h3 h4) ?_
  have I1 : Inv X pins σ H { s with heap := s.heap.push { cls := .type "range", data := .fields #[.int lo t, .int hi u, .int 1 v] }, toks := tk } := I.kept fun b o e => Heap.get?_push_of_some _ e
  refine ⟨(s.heap.push { cls := .type "range", data := .fields #[.int lo t, .int hi u, .int 1 v] }).objs.size, [(s.heap.push { cls := .type "range", data := .fields #[.int lo t, .int hi u, .int 1 v] }).objs.size], _, _, H, rfl,
    I1.kept (t' := tk) fun b o e => Heap.get?_push_of_some _ e, turn_range _ lo (hi - lo).toNat, ?_, fun b hb => ?_, q⟩
  · have e1 : lo + ((0 : Nat) : Int) * 1 = lo := by simp
    have e2 : (((hi - lo).toNat : Nat) : Int) - ((0 : Nat) : Int) = Builtin.Range.rangeSize lo hi 1 := by rw [rangeSize_one]; split <;> omega
    show IsRangeIter _ _ (lo + ((0 : Nat) : Int) * 1) ((((hi - lo).toNat : Nat) : Int) - ((0 : Nat) : Int)) 1
    rw [e1, e2]
    exact Heap.get?_push_size _ rfl
  · have e : b = (s.heap.push { cls := .type "range", data := .fields #[.int lo t, .int hi u, .int 1 v] }).objs.size := by simpa using hb
    subst e
    exact I1.fpOk (Nat.le_refl _) (I1.hok.fresh (Nat.le_refl _))
def iRng1 (ta : TA) : TI := fun σ H R => ta σ H fun vs H1 => ∃ j : Int, vs = [.int j] ∧ -(2 ^ 62) ≤ j ∧ j < 2 ^ 62 ∧ R (Itr 0 j.toNat) H1
theorem pi_range1 {a : Expr} {ta : TA} {p pos : Pos} (hg : Gl X "range") (hm : X.mg "range" = none) (ha : PA X [a] ta) (hs : starEach [a] X.env = [(false, eval a X.env)] := by rfl) : PI X tg (.Call (.Name "range" p) [a] [] pos) (iRng1 ta) := by
  intro pins s σ H R I h
  refine Call_ (ld_blt I hg hm boot_range (PyProof.Rows.callWith_type1 (thn (ha pos pins s σ H _ I h) fun us s1 ⟨vs, H1, I1, r1, q1⟩ => ?_) hs rfl))
  obtain ⟨j, e, q1, q2, q⟩ := q1
  subst e
  cases r1 with
  | cons r rr =>
    cases rr
    obtain ⟨t, rfl⟩ := r
    exact call_range_1 (range_it I1 (by omega) (by omega) q1 q2 (by simpa using q))

/-! ### for -/
/-- W: the invariant by the turn and a measure; N: what the body is to reach -/
def tFor (wi : TI) (g : TG) (tb : TS) : TS := fun D σ H => wi σ H fun J H1 => ∃ W : Nat → Nat → St → Hp → Prop, (∃ m, W 0 m σ H1) ∧ ∀ i m σ H, W i m σ H →
  (J.stop i H ∧ D.nx σ H) ∨ (J.go i H ∧ ∃ N : St → Hp → Prop, (∀ σ' H', N σ' H' → ∃ m', m' < m ∧ W (i + 1) m' σ' H') ∧ ∀ x H', J.yld i H x H' → g x σ H' fun σ2 H2 => tb { D with nx := N, ct := N, bk := D.nx } σ2 H2)
/-- the records at fp as they stand -/
def pinsAt (fp : List Addr) (h : Heap) : List (Addr × Obj) := fp.filterMap fun b => (h.get? b).map fun o => (b, o)
theorem mem_pinsAt {fp : List Addr} {h : Heap} {b : Addr} {o : Obj} (hb : b ∈ fp) (e : h.get? b = some o) : (b, o) ∈ pinsAt fp h := List.mem_filterMap.mpr ⟨b, hb, by rw [e]; rfl⟩
theorem of_pinsAt {fp : List Addr} {h : Heap} {p : Addr × Obj} (hp : p ∈ pinsAt fp h) : p.1 ∈ fp ∧ h.get? p.1 = some p.2 := by
  obtain ⟨b, hb, e⟩ := List.mem_filterMap.mp hp
  cases q : h.get? b with
  | none => rw [q] at e; cases e
  | some o =>
    rw [q] at e
    have e' : (b, o) = p := Option.some.inj e
    subst e'
    exact ⟨hb, q⟩
theorem Inv.pinned {pins : List (Addr × Obj)} {σ : St} {H : Hp} {s : Shared} {fp : List Addr} (I : Inv X pins σ H s) (hf : ∀ b ∈ fp, FpOk X pins H b) (ho : ∀ b ∈ fp, ∃ o, s.heap.get? b = some o ∧ ∀ v, o.data ≠ .cell v) : Inv X (pins ++ pinsAt fp s.heap) σ H s :=
  I.pins_of fun p hp => (List.mem_append.mp hp).elim (fun z => I.pin p (List.mem_append_right _ z)) fun z => by
    obtain ⟨hb, e⟩ := of_pinsAt z
    obtain ⟨f0, f1, f2, _⟩ := hf p.1 hb
    obtain ⟨o, e', d⟩ := ho p.1 hb
    rw [e] at e'; cases e'
    exact ⟨e, f0, f1, f2, d⟩
theorem Inv.unpinned {pins pl : List (Addr × Obj)} {σ : St} {H : Hp} {s : Shared} (I : Inv X (pins ++ pl) σ H s) : Inv X pins σ H s := I.pins_of fun p hp => I.pin p (List.mem_append_right _ (List.mem_append_left _ hp))
theorem ps_for {iter : Expr} {body : List Stmt} {wi : TI} {g : TG} {tb : TS} {pos : Pos} (hp : PassesOwn (model X.prog X.w) X.A X.env X.xe) (hc : X.calm = true) (hi : PI X tg iter wi) (hg : PG X tg g) (hb : PSs X body tb)
    (hs : ∀ x, foldedSetIterable iter X.env x = pure x := by intro _; rfl) : PS X (.For tg iter body [] pos) (tFor wi g tb) := by
  intro pins s σ H D I h
  refine wpAny_For (thn (hi pins s σ H _ I h) fun v s1 h1 => thn h1 fun itv s2 h2 => ?_) hs
  obtain ⟨it, fp, tn, J, H2, e, I2, T, st2, f2, W, ⟨m0, w0⟩, turn⟩ := h2
  subst e
  -- what stays true of the iterator's objects through the loop
  have stat : ∀ {H' : Hp}, (∀ b ∈ fp, H' b = none) → ∀ b ∈ fp, FpOk X pins H' b := fun hn b hb => ⟨hn b hb, (f2 b hb).2⟩
  refine codeAny_forLoop_any (fun n s' => ∃ i σ' H', Inv X pins σ' H' s' ∧ tn i s'.heap ∧ (∀ b ∈ fp, H' b = none) ∧ W i n σ' H') ?_ m0 ⟨0, σ, H2, I2, st2, fun b hb => (f2 b hb).1, w0⟩
  rintro n s3 ⟨i, σ3, H3, I3, st3, fr3, w3⟩
  rcases turn i n σ3 H3 w3 with ⟨stop, qn⟩ | ⟨go, N, hN, step⟩
  · refine wpAny_passesOwn hp (thn (T.done X rfl rfl rfl hc i pins s3 σ3 H3 X.xe I3 (stat fr3) st3 stop) fun r s4 ⟨hr, I4⟩ => ?_)
    subst hr
    exact wpAny_execs_nil ⟨σ3, H3, I4, qn⟩
  · refine wpAny_passesOwn hp (thn (T.item X rfl rfl rfl hc i pins s3 σ3 H3 X.xe I3 (stat fr3) st3 go) fun r s4 ⟨u, hr, h4⟩ => ?_)
    subst hr
    refine wpAny_passesOwn hp (thn h4 fun _ s5 ⟨x, H5, I5, r5, y5, st5, fr5⟩ => ?_)
    have I5' := I5.pinned (stat fr5) (T.obj _ _ st5)
    refine wpAny_passesOwn hp (thn (hg _ s5 σ3 H5 x u _ I5' r5 (step x H5 y5)) fun _ s6 ⟨σ6, H6, I6, q6⟩ => ?_)
    refine wpAny_passesOwn hp (thn (hb _ s6 σ6 H6 _ I6 q6) fun f s7 q7 => ?_)
    have again : ∀ {σ7 : St} {H7 : Hp}, Inv X (pins ++ pinsAt fp s5.heap) σ7 H7 s7 → N σ7 H7 → ∃ m, m < n ∧ ∃ i σ' H', Inv X pins σ' H' s7 ∧ tn i s7.heap ∧ (∀ b ∈ fp, H' b = none) ∧ W i m σ' H' := fun {σ7 H7} I7 n7 => by
      obtain ⟨m', hm, w7⟩ := hN σ7 H7 n7
      refine ⟨m', hm, i + 1, σ7, H7, I7.unpinned, T.keep _ _ _ st5 fun b hb o e => (I7.pin (b, o) (List.mem_append_right _ (List.mem_append_right _ (mem_pinsAt hb e)))).1, fun b hb => ?_, w7⟩
      obtain ⟨o, e, d⟩ := T.obj _ _ st5 b hb
      exact (I7.pin (b, o) (List.mem_append_right _ (List.mem_append_right _ (mem_pinsAt hb e)))).2.1
    cases f with
    | next => obtain ⟨σ7, H7, I7, n7⟩ := q7; exact again I7 n7
    | cont => obtain ⟨σ7, H7, I7, n7⟩ := q7; exact again I7 n7
    | brk => obtain ⟨σ7, H7, I7, q7⟩ := q7; exact ⟨σ7, H7, I7.unpinned, q7⟩
    | ret v => obtain ⟨x7, σ7, H7, I7, r7, q7⟩ := q7; exact ⟨x7, σ7, H7, I7.unpinned, r7, q7⟩
end

/-! ### the forms one uses -/
/-- over a list that the body leaves as it is -/
theorem for_list {K : PySem.W.Frag} {a : Addr} {xs : List V} {g : TG} {tb : TS} {D : Ends} {σ : St} {H : Hp} (Pv : Nat → St → Hp → Prop) (h0 : Pv 0 σ H) (hl : ∀ i σ H, i ≤ xs.length → Pv i σ H → SqL K H a xs)
    (hs : ∀ i x σ H, xs[i]? = some x → Pv i σ H → g x σ H fun σ2 H2 => tb { D with nx := Pv (i + 1), ct := Pv (i + 1), bk := D.nx } σ2 H2) (hd : ∀ σ H, Pv xs.length σ H → D.nx σ H) :
    ∃ W : Nat → Nat → St → Hp → Prop, (∃ m, W 0 m σ H) ∧ ∀ i m σ H, W i m σ H →
      ((Itl K a).stop i H ∧ D.nx σ H) ∨ ((Itl K a).go i H ∧ ∃ N : St → Hp → Prop, (∀ σ' H', N σ' H' → ∃ m', m' < m ∧ W (i + 1) m' σ' H') ∧ ∀ x H', (Itl K a).yld i H x H' → g x σ H' fun σ2 H2 => tb { D with nx := N, ct := N, bk := D.nx } σ2 H2) := by
  refine ⟨fun i m σ H => m = xs.length - i ∧ i ≤ xs.length ∧ Pv i σ H, ⟨xs.length, by simp, Nat.zero_le _, h0⟩, ?_⟩
  rintro i m σ H ⟨rfl, hi, p⟩
  have q := hl i σ H hi p
  by_cases hlt : i < xs.length
  · refine .inr ⟨⟨xs, xs[i], q, by simp [hlt]⟩, Pv (i + 1), fun σ' H' p' => ⟨xs.length - (i + 1), by omega, rfl, hlt, p'⟩, fun x H' y => ?_⟩
    obtain ⟨e, y⟩ := y
    subst e
    exact hs i x σ _ (y xs q) p
  · have e : i = xs.length := by omega
    subst e
    exact .inl ⟨⟨xs, q, Nat.le_refl _⟩, hd σ H p⟩
theorem for_range {lo : Int} {n : Nat} {g : TG} {tb : TS} {D : Ends} {σ : St} {H : Hp} (Pv : Nat → St → Hp → Prop) (h0 : Pv 0 σ H)
    (hs : ∀ i σ H, i < n → Pv i σ H → g (.int (lo + i)) σ H fun σ2 H2 => tb { D with nx := Pv (i + 1), ct := Pv (i + 1), bk := D.nx } σ2 H2) (hd : ∀ σ H, Pv n σ H → D.nx σ H) :
    ∃ W : Nat → Nat → St → Hp → Prop, (∃ m, W 0 m σ H) ∧ ∀ i m σ H, W i m σ H →
      ((Itr lo n).stop i H ∧ D.nx σ H) ∨ ((Itr lo n).go i H ∧ ∃ N : St → Hp → Prop, (∀ σ' H', N σ' H' → ∃ m', m' < m ∧ W (i + 1) m' σ' H') ∧ ∀ x H', (Itr lo n).yld i H x H' → g x σ H' fun σ2 H2 => tb { D with nx := N, ct := N, bk := D.nx } σ2 H2) := by
  refine ⟨fun i m σ H => m = n - i ∧ i ≤ n ∧ Pv i σ H, ⟨n, by simp, Nat.zero_le _, h0⟩, ?_⟩
  rintro i m σ H ⟨rfl, hi, p⟩
  by_cases hlt : i < n
  · refine .inr ⟨hlt, Pv (i + 1), fun σ' H' p' => ⟨n - (i + 1), by omega, rfl, hlt, p'⟩, fun x H' y => ?_⟩
    obtain ⟨e, y⟩ := y
    subst e y
    exact hs i σ _ hlt p
  · have e : i = n := by omega
    subst e
    exact .inl ⟨Nat.le_refl _, hd σ H p⟩
end L2

namespace L2
open PySem PySem.Spec PyProof.Rows

abbrev R2 := V → V → Hp → VK → Prop
/-- a two-place operation on values: f is binaryOp op, inplaceOp op or compareOp op -/
def OpR (X : Cx) (f : Value → Value → Sem Value) (r : R2) : Prop :=
  ∀ (pins : List (Addr × Obj)) (s : Shared) (σ : St) (H : Hp) (x y : V) (v u : Value) (Q : VK), Inv X pins σ H s → RelV x v → RelV y u → r x y H Q →
    wpAny (model X.prog X.w) X.A (f v u) (EP X pins σ Q) X.xe s
/-- a call of a value that is known (a builtin, a type) with values -/
def CallR (X : Cx) (f : Value) (r : List V → Hp → VK → Prop) : Prop :=
  ∀ (pins : List (Addr × Obj)) (s : Shared) (σ : St) (H : Hp) (xs : List V) (us : List Value) (Q : VK), Inv X pins σ H s → Vals xs us → r xs H Q →
    wpAny (model X.prog X.w) X.A (call f us) (EP X pins σ Q) X.xe s

def tOp (r : R2) (ta tb : TE) : TE := fun σ H Q => ta σ H fun x H1 => tb σ H1 fun y H2 => r x y H2 Q
/-- ints in, under C, and a value out -/
def rI (C : Int → Int → Prop) (g : Int → Int → V) : R2 := fun x y H Q => ∃ i j, x = .int i ∧ y = .int j ∧ C i j ∧ Q (g i j) H
def rI0 (g : Int → Int → V) : R2 := fun x y H Q => ∃ i j, x = .int i ∧ y = .int j ∧ Q (g i j) H

section
variable {X : Cx} {a b c : Expr} {ta tb tc : TE} {pos : Pos}

theorem binT (ha : PE X a ta) (hb : PE X b tb) {pins : List (Addr × Obj)} {s : Shared} {σ : St} {H : Hp} {R : V → V → Hp → Prop} (I : Inv X pins σ H s)
    (h : ta σ H fun x H1 => tb σ H1 fun y H2 => R x y H2) {Q : Value → Shared → Prop} {f : Value → Value → Sem Value}
    (hf : ∀ v u s2 x y H2, Inv X pins σ H2 s2 → RelV x v → RelV y u → R x y H2 → wpAny (model X.prog X.w) X.A (f v u) Q X.xe s2) :
    wpAny (model X.prog X.w) X.A (eval a X.env) (fun v s₁ => wpAny (model X.prog X.w) X.A (eval b X.env) (fun u s₂ => wpAny (model X.prog X.w) X.A (f v u) Q X.xe s₂) X.xe s₁) X.xe s := by
  refine thn (ha pins s σ H _ I h) fun v s1 ⟨x, H1, I1, r1, q1⟩ => ?_
  refine thn (hb pins s1 σ H1 _ I1 q1) fun u s2 ⟨y, H2, I2, r2, q2⟩ => ?_
  exact hf v u s2 x y H2 I2 r1 r2 q2

theorem pe_op {op : Operator} {r : R2} (ho : OpR X (binaryOp op) r) (ha : PE X a ta) (hb : PE X b tb) : PE X (.BinOp a op b pos) (tOp r ta tb) := by
  intro pins s σ H Q I h
  exact wpAny_BinOp (binT ha hb I h fun v u s2 x y H2 I2 rx ry q => ho pins s2 σ H2 x y v u Q I2 rx ry q)

/-! ### ints -/
theorem opI {f : Value → Value → Sem Value} {C : Int → Int → Prop} {g : Int → Int → Int}
    (rule : ∀ (i j : Int) (t u : Tok) (s : Shared) (Q : Value → Shared → Prop) (E : Value → Shared → Prop), C i j → Q (.int (g i j) s.toks) { s with toks := s.toks + 1 } → wpAny (model X.prog X.w) X.A (f (.int i t) (.int j u)) Q E s) :
    OpR X f (rI C fun i j => .int (g i j)) := by
  intro pins s σ H x y v u Q I rx ry h
  obtain ⟨i, j, rfl, rfl, hc, q⟩ := h
  obtain ⟨t, rfl⟩ := rx
  obtain ⟨t', rfl⟩ := ry
  exact rule i j t t' s _ _ hc ⟨.int (g i j), H, I.tok _, ⟨_, rfl⟩, q⟩
theorem opI0 {f : Value → Value → Sem Value} {g : Int → Int → Int}
    (rule : ∀ (i j : Int) (t u : Tok) (s : Shared) (Q : Value → Shared → Prop) (E : Value → Shared → Prop), Q (.int (g i j) s.toks) { s with toks := s.toks + 1 } → wpAny (model X.prog X.w) X.A (f (.int i t) (.int j u)) Q E s) :
    OpR X f (rI0 fun i j => .int (g i j)) := by
  intro pins s σ H x y v u Q I rx ry h
  obtain ⟨i, j, rfl, rfl, q⟩ := h
  obtain ⟨t, rfl⟩ := rx
  obtain ⟨t', rfl⟩ := ry
  exact rule i j t t' s _ _ ⟨.int (g i j), H, I.tok _, ⟨_, rfl⟩, q⟩
theorem opB0 {f : Value → Value → Sem Value} {g : Int → Int → Bool}
    (rule : ∀ (i j : Int) (t u : Tok) (s : Shared) (Q : Value → Shared → Prop) (E : Value → Shared → Prop), Q (.bool (g i j)) s → wpAny (model X.prog X.w) X.A (f (.int i t) (.int j u)) Q E s) :
    OpR X f (rI0 fun i j => .bl (g i j)) := by
  intro pins s σ H x y v u Q I rx ry h
  obtain ⟨i, j, rfl, rfl, q⟩ := h
  obtain ⟨t, rfl⟩ := rx
  obtain ⟨t', rfl⟩ := ry
  exact rule i j t t' s _ _ ⟨.bl (g i j), H, I, rfl, q⟩

def CPow (i j : Int) : Prop := 0 ≤ j ∧ j ≤ 1000000 ∧ i.natAbs < 2 ^ 64
def CMul (i j : Int) : Prop := (-(2 ^ 64) < i ∧ i < 2 ^ 64) ∨ (-(2 ^ 64) < j ∧ j < 2 ^ 64)
theorem CMul.ok {i j : Int} (h : CMul i j) : IntMulOk i j := by
  rcases h with ⟨h1, h2⟩ | ⟨h1, h2⟩
  · exact .of_left (intBits_le_64 h1 h2)
  · exact .of_right (intBits_le_64 h1 h2)
theorem two_pow_nn (k : Nat) : (0 : Int) ≤ 2 ^ k := by
  rw [two_pow_cast]
  exact Int.natCast_nonneg _

theorem op_add : OpR X (binaryOp .Add) (rI0 fun i j => .int (i + j)) := opI0 fun _ _ _ _ _ _ _ q => add_int q
theorem op_sub : OpR X (binaryOp .Sub) (rI0 fun i j => .int (i - j)) := opI0 fun _ _ _ _ _ _ _ q => sub_int q
theorem op_mul : OpR X (binaryOp .Mult) (rI CMul fun i j => .int (i * j)) := opI fun _ _ _ _ _ _ _ hc q => mul_int q hc.ok
/-- % by a positive divisor of any size -/
theorem op_mod : OpR X (binaryOp .Mod) (rI (fun _ j => 0 < j) fun i j => .int (i % j)) := opI fun i j _ _ _ _ _ hc q => by
  have h1 : (0 : Int) < j := hc
  exact mod_int' (by omega) (by rw [Int.fmod_eq_emod_of_nonneg i (by omega)]; exact q)
theorem op_pow : OpR X (binaryOp .Pow) (rI CPow fun i j => .int (i ^ j.toNat)) := opI fun _ _ _ _ _ _ _ hc q => pow_int_small hc.1 hc.2.1 hc.2.2 q
theorem op_shr : OpR X (binaryOp .RShift) (rI (fun _ j => 0 ≤ j) fun i j => .int (i / 2 ^ j.toNat)) := opI fun i j _ _ _ _ _ hc q =>
  rshift_int hc (by rw [Int.fdiv_eq_ediv_of_nonneg i (two_pow_nn _)]; exact q)



/-! ### bools among ints: n += (a < b) -/
end

/-! ### comparisons -/
/-- the scalars that == tells apart as data does -/
def scal : V → V → Bool
  | .non, .non => true | .non, .int _ => true | .int _, .non => true | .non, .bl _ => true | .bl _, .non => true | .non, .str _ => true | .str _, .non => true
  | .int _, .int _ => true | .bl _, .bl _ => true | .str _, .str _ => true | .byt _, .byt _ => true
  | .int _, .str _ => true | .str _, .int _ => true | .bl _, .str _ => true | .str _, .bl _ => true
  | _, _ => false
def rEq : R2 := fun x y H Q => scal x y = true ∧ Q (.bl (decide (x = y))) H
def rNe : R2 := fun x y H Q => scal x y = true ∧ Q (.bl (!decide (x = y))) H

theorem dec_int {i j : Int} : decide (V.int i = V.int j) = (i == j) := by
  rw [Bool.eq_iff_iff]
  simp
theorem dec_bl {i j : Bool} : decide (V.bl i = V.bl j) = (i == j) := by
  rw [Bool.eq_iff_iff]
  simp
theorem dec_str {i j : Str} : decide (V.str i = V.str j) = (i == j) := by
  rw [Bool.eq_iff_iff]
  simp
theorem dec_byt {i j : Array UInt8} : decide (V.byt i = V.byt j) = (i.toList == j.toList) := by
  rw [Bool.eq_iff_iff]
  cases i
  cases j
  simp

section
variable {X : Cx} {a b c : Expr} {ta tb tc : TE} {pos : Pos}
theorem fin_bl {pins : List (Addr × Obj)} {σ : St} {H : Hp} {s : Shared} {Q : VK} {k k' : Bool} (I : Inv X pins σ H s) (q : Q (.bl k) H) (e : k = k') : EP X pins σ Q (.bool k') s := by
  subst e
  exact ⟨.bl k, H, I, rfl, q⟩
theorem op_eq : OpR X (compareOp .Eq) rEq := by
  intro pins s σ H x y v u Q I rx ry h
  obtain ⟨hs, q⟩ := h
  cases x with
  | non =>
    cases rx
    cases y with
    | non => cases ry; exact PySem.EqNone.eq_none_none (fin_bl I q (by simp))
    | bl j => cases ry; exact PySem.EqNone.eq_none_bool (fin_bl I q (by simp))
    | int j => obtain ⟨t', rfl⟩ := ry; exact PySem.EqNone.eq_none_int (fin_bl I q (by simp))
    | str j => obtain ⟨t', rfl⟩ := ry; exact PySem.EqNone.eq_none_str (fin_bl I q (by simp))
    | _ => exact absurd (show false = true from hs) Bool.false_ne_true
  | bl i =>
    cases rx
    cases y with
    | non => cases ry; exact PySem.EqNone.eq_bool_none (fin_bl I q (by simp))
    | bl j => cases ry; exact eq_bool (fin_bl I q dec_bl)
    | str j => obtain ⟨t', rfl⟩ := ry; exact PySem.EqMixed.eq_bool_str (fin_bl I q (by simp))
    | _ => exact absurd (show false = true from hs) Bool.false_ne_true
  | int i =>
    obtain ⟨t, rfl⟩ := rx
    cases y with
    | non => cases ry; exact PySem.EqNone.eq_int_none (fin_bl I q (by simp))
    | int j => obtain ⟨t', rfl⟩ := ry; exact eq_int (fin_bl I q dec_int)
    | str j => obtain ⟨t', rfl⟩ := ry; exact PySem.EqMixed.eq_int_str (fin_bl I q (by simp))
    | _ => exact absurd (show false = true from hs) Bool.false_ne_true
  | str i =>
    obtain ⟨t, rfl⟩ := rx
    cases y with
    | non => cases ry; exact PySem.EqNone.eq_str_none (fin_bl I q (by simp))
    | bl j => cases ry; exact PySem.EqMixed.eq_str_bool (fin_bl I q (by simp))
    | int j => obtain ⟨t', rfl⟩ := ry; exact PySem.EqMixed.eq_str_int (fin_bl I q (by simp))
    | str j => obtain ⟨t', rfl⟩ := ry; exact eq_str (fin_bl I q dec_str)
    | _ => exact absurd (show false = true from hs) Bool.false_ne_true
  | byt i =>
    obtain ⟨t, rfl⟩ := rx
    cases y with
    | byt j => obtain ⟨t', rfl⟩ := ry; exact PySem.W.eq_bytes (fin_bl I q dec_byt)
    | _ => exact absurd (show false = true from hs) Bool.false_ne_true
  | _ => cases y <;> exact absurd (show false = true from hs) Bool.false_ne_true
theorem op_ne : OpR X (compareOp .NotEq) rNe := by
  intro pins s σ H x y v u Q I rx ry h
  obtain ⟨hs, q⟩ := h
  cases x with
  | non =>
    cases rx
    cases y with
    | non => cases ry; exact PySem.EqNone.ne_none_none (fin_bl I q (by simp))
    | bl j => cases ry; exact PySem.EqNone.ne_none_bool (fin_bl I q (by simp))
    | int j => obtain ⟨t', rfl⟩ := ry; exact PySem.EqNone.ne_none_int (fin_bl I q (by simp))
    | str j => obtain ⟨t', rfl⟩ := ry; exact PySem.EqNone.ne_none_str (fin_bl I q (by simp))
    | _ => exact absurd (show false = true from hs) Bool.false_ne_true
  | bl i =>
    cases rx
    cases y with
    | non => cases ry; exact PySem.EqNone.ne_bool_none (fin_bl I q (by simp))
    | bl j => cases ry; exact ne_bool (fin_bl I q (congrArg not dec_bl))
    | str j => obtain ⟨t', rfl⟩ := ry; exact PySem.EqMixed.ne_bool_str (fin_bl I q (by simp))
    | _ => exact absurd (show false = true from hs) Bool.false_ne_true
  | int i =>
    obtain ⟨t, rfl⟩ := rx
    cases y with
    | non => cases ry; exact PySem.EqNone.ne_int_none (fin_bl I q (by simp))
    | int j => obtain ⟨t', rfl⟩ := ry; exact ne_int (fin_bl I q (congrArg not dec_int))
    | str j => obtain ⟨t', rfl⟩ := ry; exact PySem.EqMixed.ne_int_str (fin_bl I q (by simp))
    | _ => exact absurd (show false = true from hs) Bool.false_ne_true
  | str i =>
    obtain ⟨t, rfl⟩ := rx
    cases y with
    | non => cases ry; exact PySem.EqNone.ne_str_none (fin_bl I q (by simp))
    | bl j => cases ry; exact PySem.EqMixed.ne_str_bool (fin_bl I q (by simp))
    | int j => obtain ⟨t', rfl⟩ := ry; exact PySem.EqMixed.ne_str_int (fin_bl I q (by simp))
    | str j => obtain ⟨t', rfl⟩ := ry; exact ne_str (fin_bl I q (congrArg not dec_str))
    | _ => exact absurd (show false = true from hs) Bool.false_ne_true
  | byt i =>
    obtain ⟨t, rfl⟩ := rx
    cases y with
    | byt j => obtain ⟨t', rfl⟩ := ry; exact PySem.W.ne_bytes (fin_bl I q (congrArg not dec_byt))
    | _ => exact absurd (show false = true from hs) Bool.false_ne_true
  | _ => cases y <;> exact absurd (show false = true from hs) Bool.false_ne_true

theorem op_lt : OpR X (compareOp .Lt) (rI0 fun i j => .bl (decide (i < j))) := opB0 fun _ _ _ _ _ _ _ q => lt_int q
theorem op_le : OpR X (compareOp .LtE) (rI0 fun i j => .bl (decide (i ≤ j))) := opB0 fun _ _ _ _ _ _ _ q => le_int q
theorem op_gt : OpR X (compareOp .Gt) (rI0 fun i j => .bl (decide (j < i))) := opB0 fun _ _ _ _ _ _ _ q => gt_int q
theorem op_ge : OpR X (compareOp .GtE) (rI0 fun i j => .bl (decide (j ≤ i))) := opB0 fun _ _ _ _ _ _ _ q => ge_int q

/-- is None, is not None: the right side a value none -/
theorem op_isN : OpR X (compareOp .Is) (fun x y H Q => y = .non ∧ Q (.bl (decide (x = .non))) H) := by
  intro pins s σ H x y v u Q I rx ry h
  obtain ⟨rfl, q⟩ := h
  cases ry
  refine is_none_gen (fin_bl I q ?_)
  cases x <;> first
    | (cases rx; rfl)
    | (obtain ⟨t, rfl⟩ := rx; rfl)


/-- two rules for one operation: by cases -/
theorem OpR.or {f : Value → Value → Sem Value} {r r' : R2} (h : OpR X f r) (h' : OpR X f r') : OpR X f (fun x y H Q => r x y H Q ∨ r' x y H Q) := by
  intro pins s σ H x y v u Q I rx ry q
  rcases q with q | q
  · exact h pins s σ H x y v u Q I rx ry q
  · exact h' pins s σ H x y v u Q I rx ry q

theorem nomark (b : Expr) {op : CmpOp} (h : op ≠ .In := by decide) (h2 : op ≠ .NotIn := by decide) : behindInMarks op b = false := by
  have e1 : (op == CmpOp.In) = false := by cases op <;> first | rfl | exact absurd rfl h
  have e2 : (op == CmpOp.NotIn) = false := by cases op <;> first | rfl | exact absurd rfl h2
  cases b <;> simp [behindInMarks, e1, e2]
/-- a comparison as a value; hm: nomark b, or (for in, not in) by with_unfolding_all rfl -/
theorem pe_cmpR {op : CmpOp} {r : R2} (ho : OpR X (compareOp op) r) (ha : PE X a ta) (hb : PE X b tb) (hm : behindInMarks op b = false) : PE X (.Compare a [op] [b] pos) (tOp r ta tb) := by
  intro pins s σ H Q I h
  exact wpAny_Compare1 (binT ha hb I h fun v u s2 x y H2 I2 rx ry q => ho pins s2 σ H2 x y v u Q I2 rx ry q) hm
/-- a reading of a value as a test -/
def tTest (t : TE) : TT := fun σ H Q => t σ H fun x H' => ∃ k, x = .bl k ∧ Q k H'
theorem pt_cmpR {op : CmpOp} {r : R2} (ho : OpR X (compareOp op) r) (ha : PE X a ta) (hb : PE X b tb) (hm : behindInMarks op b = false) : PT X (.Compare a [op] [b] pos) (tTest (tOp r ta tb)) := by
  intro pins s σ H Q I h
  refine wpAny_isTrue_Compare1 (thn (ha pins s σ H _ I h) fun v s1 ⟨x, H1, I1, r1, q1⟩ => thn (hb pins s1 σ H1 _ I1 q1) fun u s2 ⟨y, H2, I2, r2, q2⟩ =>
    thn (ho pins s2 σ H2 x y v u _ I2 r1 r2 q2) fun c s3 ⟨z, H3, I3, r3, k, e, q3⟩ => ?_) hm
  subst e
  cases r3
  exact wpAny_truthy_bool ⟨H3, I3, q3⟩
/-- a op1 b op2 c -/
def tChain (r r' : R2) (ta tb tc : TE) : TE := fun σ H Q => ta σ H fun x H1 => tb σ H1 fun y H2 => r x y H2 fun z H3 => ∃ k, z = .bl k ∧
  (if k = true then tc σ H3 fun w' H4 => r' y w' H4 Q else Q (.bl false) H3)
theorem pe_chain {op op' : CmpOp} {r r' : R2} (ho : OpR X (compareOp op) r) (ho' : OpR X (compareOp op') r') (ha : PE X a ta) (hb : PE X b tb) (hc : PE X c tc)
    (hm : lastMarks [op, op'] [b, c] = false := by with_unfolding_all rfl) : PE X (.Compare a [op, op'] [b, c] pos) (tChain r r' ta tb tc) := by
  intro pins s σ H Q I h
  refine Compare_chain (thn (ha pins s σ H _ I h) fun v s1 ⟨x, H1, I1, r1, q1⟩ => chain_link (thn (hb pins s1 σ H1 _ I1 q1) fun u s2 ⟨y, H2, I2, r2, q2⟩ =>
    thn (ho pins s2 σ H2 x y v u _ I2 r1 r2 q2) fun d s3 ⟨z, H3, I3, r3, k, e, q3⟩ => ?_)) hm
  subst e
  cases r3
  refine wpAny_truthy_bool ?_
  cases k with
  | false => exact ite_ff ⟨.bl false, H3, I3, rfl, q3⟩
  | true => exact ite_tt (chain_last (thn (hc pins s3 σ H3 _ I3 q3) fun w' s4 ⟨z', H4, I4, r4, q4⟩ => ho' pins s4 σ H4 y z' u w' Q I4 r2 r4 q4))
theorem pt_chain {op op' : CmpOp} {r r' : R2} (ho : OpR X (compareOp op) r) (ho' : OpR X (compareOp op') r') (ha : PE X a ta) (hb : PE X b tb) (hc : PE X c tc)
    (hm : lastMarks [op, op'] [b, c] = false := by with_unfolding_all rfl) : PT X (.Compare a [op, op'] [b, c] pos) (tTest (tChain r r' ta tb tc)) := by
  intro pins s σ H Q I h
  refine isTrue_chain (thn (ha pins s σ H _ I h) fun v s1 ⟨x, H1, I1, r1, q1⟩ => test_link (thn (hb pins s1 σ H1 _ I1 q1) fun u s2 ⟨y, H2, I2, r2, q2⟩ =>
    thn (ho pins s2 σ H2 x y v u _ I2 r1 r2 q2) fun d s3 ⟨z, H3, I3, r3, k, e, q3⟩ => ?_)) hm
  subst e
  cases r3
  refine wpAny_truthy_bool ?_
  cases k with
  | false =>
    obtain ⟨k', e', q'⟩ := q3
    cases e'
    exact ite_ff ⟨H3, I3, q'⟩
  | true =>
    refine ite_tt (test_last (thn (hc pins s3 σ H3 _ I3 q3) fun w' s4 ⟨z', H4, I4, r4, q4⟩ => thn (ho' pins s4 σ H4 y z' u w' _ I4 r2 r4 q4) fun d' s5 ⟨z2, H5, I5, r5, k2, e2, q5⟩ => ?_))
    subst e2
    cases r5
    exact wpAny_truthy_bool ⟨H5, I5, q5⟩

/-! ### truth -/
theorem line63 : (sizeLine : Nat) < 2 ^ 63 := by rw [sizeLine_eq]; decide

/-! ### strs and bytes -/
theorem op_add_str : OpR X (binaryOp .Add) (fun x y H Q => ∃ i j, x = .str i ∧ y = .str j ∧ i.length + j.length ≤ sizeLine ∧ Q (.str (i ++ j)) H) := by
  intro pins s σ H x y v u Q I rx ry h
  obtain ⟨i, j, rfl, rfl, hz, q⟩ := h
  obtain ⟨t, rfl⟩ := rx
  obtain ⟨t', rfl⟩ := ry
  exact add_str (fun t' tk => ⟨.str (i ++ j), H, I.tok _, ⟨_, rfl⟩, q⟩) hz


/-! ### scalar builtins, by CallR -/
theorem vals1 {x : V} {us : List Value} (r : Vals [x] us) : ∃ u, us = [u] ∧ RelV x u := by
  cases r with
  | cons r1 r2 => cases r2; exact ⟨_, rfl, r1⟩
theorem vals2 {x y : V} {us : List Value} (r : Vals [x, y] us) : ∃ u w', us = [u, w'] ∧ RelV x u ∧ RelV y w' := by
  cases r with
  | cons r1 r2 =>
    cases r2 with
    | cons r3 r4 => cases r4; exact ⟨_, _, rfl, r1, r3⟩
theorem call_min2 (hc : X.calm = true) : CallR X (.builtin "min") (fun xs H Q => ∃ i j, xs = [.int i, .int j] ∧ Q (.int (if j < i then j else i)) H) := by
  intro pins s σ H xs us Q I r h
  obtain ⟨i, j, rfl, q⟩ := h
  obtain ⟨u, w', rfl, ⟨t, rfl⟩, ⟨t', rfl⟩⟩ := vals2 r
  refine min_two_ints (I.ok.hd hc) fun h' tk k => ⟨_, H, I.kept k, ?_, q⟩
  by_cases hj : j < i
  · rw [if_pos hj, if_pos hj]; exact ⟨_, rfl⟩
  · rw [if_neg hj, if_neg hj]; exact ⟨_, rfl⟩
end
end L2

namespace L2
open PySem PySem.Spec PyProof.Rows

/-! ### an instance, its attributes a map -/
structure ObjM (h : Heap) (x dx C : Addr) (mA : Str → Option Value) : Prop where
  obj : h.get? x = some (PySem.W.instObj C dx)
  ns : h.Ns1 dx mA
  ne : dx ≠ x

theorem lookIn_ns {h : Heap} {dx : Addr} {mA : Str → Option Value} (n : h.Ns1 dx mA) : ∃ od, h.get? dx = some od ∧ ∀ name, PySem.W.lookIn name od = some (mA name) := by
  obtain ⟨o, es, ep, ho, hd, hk, _, hm⟩ := n
  refine ⟨o, ho, fun name => ?_⟩
  have e := hm name
  unfold nsFind findBy at e
  rw [← Array.find?_toList] at e
  unfold PySem.W.lookIn
  rw [hd]
  dsimp only
  split
  · rename_i y q
    rw [q] at e
    exact congrArg some e
  · rename_i q
    rw [q] at e
    have a : es.toList.any (·.refKey) = false := by
      rw [List.any_eq_false]
      intro y hy
      obtain ⟨z, t, hkey⟩ := hk y (Array.mem_toList_iff.mp hy)
      simp [DictEntry.refKey, hkey]
    have a' : ¬ es.toList.any (·.refKey) = true := by rw [a]; exact Bool.false_ne_true
    rw [if_neg a']
    exact congrArg some e

theorem ObjM.look {h : Heap} {x dx C : Addr} {mA : Str → Option Value} (I : ObjM h x dx C mA) : ∃ od, PySem.W.InstAt h x (PySem.W.instObj C dx) C (some od) ∧ ∀ name, PySem.W.lookIn name od = some (mA name) :=
  let ⟨od, ho, hl⟩ := lookIn_ns I.ns
  ⟨od, ⟨I.obj, rfl, rfl, ho⟩, hl⟩

section
variable {prog : Program} {w : World} {A : Around} {E : Value → Shared → Prop} {s : Shared} {K : PySem.W.Frag} {x dx C f : Addr} {mA : Str → Option Value} {name : Str} {v : Value}

theorem get_map {expr : Bool} {Q : Value → Shared → Prop} (X : K.In s.heap) (I : ObjM s.heap x dx C mA) (hg : PySem.W.plainGet K C name = true) (hh : PySem.W.hasDictIn K C = true)
    (ha : PySem.W.findIn K (.ref C) name = some none) (hv : mA name = some v) (hv' : PySem.W.handedIn v = true) (h : Q v { s with toks := s.toks + 1 }) :
    wpAny (model prog w) A (getAttr (.ref x) name expr) Q E s := by
  obtain ⟨od, J, hl⟩ := I.look
  exact PySem.W.get_value X J (PySem.W.plainGet_of hg).1 (PySem.W.findObj_own hh ha rfl (by rw [hl, hv])) hv' h


theorem get_meth {pl : Sem Bool} {Q : Value × List Value → Shared → Prop} (X : K.In s.heap) (I : ObjM s.heap x dx C mA) (hg : PySem.W.plainGet K C name = true)
    (hf : PySem.W.findIn K (.ref C) name = some (some (.ref f))) (ht : PySem.W.isFn K (.ref f) = true) (hv : mA name = none) (h : Q (.ref f, [.ref x]) s) :
    wpAny (model prog w) A (getMethod (.ref x) name pl) Q E s := by
  obtain ⟨od, J, hl⟩ := I.look
  exact PySem.W.method_fn X J (PySem.W.plainGet_of hg).1 (PySem.W.plainGet_of hg).2 hf (beq_iff_eq.mp ht) (by show (PySem.W.lookIn name od).map (·.isSome) = some false; rw [hl, hv]; rfl) h

theorem set_map {ns : List Str} {Q : Unit → Shared → Prop} (X : K.In s.heap) (I : ObjM s.heap x dx C mA)
    (hs : PySem.W.findIn K (.ref C) "__setattr__" = some (some (.builtin "object.__setattr__"))) (hp : PySem.W.plainOver K C = true) (ht : PySem.W.takerIn K C name = some none) (hh : PySem.W.hasDictIn K C = true)
    (hw : PySem.Within mA ns) (hsz : ns.length ≤ sizeLine)
    (h : ∀ h', ObjM h' x dx C (fun y => if y = name then some v else mA y) → Heap.SameBut dx s.heap h' → Q () { s with heap := h', toks := s.toks + 2 }) :
    wpAny (model prog w) A (setAttr (.ref x) name v) Q E s := by
  obtain ⟨od, J, hl⟩ := I.look
  refine PySem.W.set_plain X J hs (PySem.W.osa_open (s := { s with toks := s.toks + 1 }) (r := none) X J hp ht fun b => ?_)
  obtain ⟨cd, hc, hd'⟩ := PySem.W.any_some hh
  have hx : s.heap.get? x = some ⟨.ref C, some dx, .plain, #[]⟩ := I.obj
  refine wpAny_bind (wpAny_pure (wpAny_bind (wpAny_bind (wpAny_loadPart hx (wpAny_bind (PySem.W.Looks.here (s := { s with toks := s.toks + 1 }) (PySem.W.looks_clsIn X hc) ?_))))))
  rw [hd']
  refine wpAny_pure (a := some dx) (wpAny_bind (wpAny_pure (wpAny_bind ?_)))
  refine wpAny_nsSet1 (s := { s with toks := s.toks + 1 }) I.ns fun h' hn2 hs2 => ?_
  obtain ⟨oD, esD, epD, hoD, hdD, hcD⟩ := hn2.count (PySem.Within.cons name v hw)
  refine wpAny_bind (wpAny_lookBehind hoD (by rw [hdD]; exact pastItsLine_dict (Nat.le_trans hcD (by rw [List.length_cons]; omega))) ?_)
  exact wpAny_pure (h _ ⟨(hs2.2 _ (Ne.symm I.ne)).trans I.obj, hn2, I.ne⟩ hs2)

/-- C(..): the dict at the heap's end, the instance behind it; then its __init__ -/
theorem make_map {R : Result → Shared → Prop} {vs : List Value} {kw : List (Str × Value)} (X : K.In s.heap) (hm : PySem.W.makesIn K C = true)
    (hi : PySem.W.findIn K (.ref C) "__init__" = some (some (.ref f))) (hf : PySem.W.typeIn K (.ref f) = some (.type "function"))
    (h : codeAny (model prog w) (A.under (.builtin "type.__call__" ⟨.ref C :: vs, kw⟩)) (.call (.ref f) ⟨.ref (s.heap.objs.size + 1) :: vs, kw⟩) (PySem.W.InitBack (s.heap.objs.size + 1) R)
      { s with heap := (s.heap.push PySem.W.emptyDict).push (PySem.W.instObj C s.heap.objs.size) }) :
    codeAny (model prog w) A (.call (.ref C) ⟨vs, kw⟩) R s := by
  obtain ⟨hh, g, d, t, os⟩ := s
  exact PySem.W.make_core (PySem.W.makes_of X hm) (PySem.W.looks_findIn X hi) (fun self => PySem.W.bind_fn X self hf) (.inl rfl) h
end

/-! ### the attributes as a list of pairs -/
def putF (f : Str) (v : V) : List (Str × V) → List (Str × V)
  | [] => [(f, v)]
  | (g, x) :: r => if g = f then (g, v) :: r else (g, x) :: putF f v r
theorem lookup_putF (f g : Str) (v : V) : ∀ fs : List (Str × V), (putF f v fs).lookup g = if g = f then some v else fs.lookup g
  | [] => by
    show List.lookup g [(f, v)] = _
    by_cases h : g = f
    · have hb : (g == f) = true := beq_iff_eq.mpr h
      simp only [List.lookup, hb, if_pos h]
    · have hb : (g == f) = false := beq_eq_false_iff_ne.mpr h
      simp only [List.lookup, hb, if_neg h]
  | (k, x) :: r => by
    have ih := lookup_putF f g v r
    rw [show putF f v ((k, x) :: r) = (if k = f then (k, v) :: r else (k, x) :: putF f v r) from rfl]
    by_cases hk : k = f
    · rw [if_pos hk]
      by_cases h : g = k
      · have hb : (g == k) = true := beq_iff_eq.mpr h
        simp only [List.lookup, hb, if_pos (h.trans hk)]
      · have hb : (g == k) = false := beq_eq_false_iff_ne.mpr h
        simp only [List.lookup, hb, if_neg (fun e : g = f => h (e.trans hk.symm))]
    · rw [if_neg hk]
      by_cases h : g = k
      · have hb : (g == k) = true := beq_iff_eq.mpr h
        simp only [List.lookup, hb, if_neg (fun e : g = f => hk (h.symm.trans e))]
      · have hb : (g == k) = false := beq_eq_false_iff_ne.mpr h
        simp only [List.lookup, hb]
        exact ih
theorem keys_putF (f : Str) (v : V) : ∀ fs : List (Str × V), f ∈ (putF f v fs).map (·.1) ∧ ∀ g, g ∈ fs.map (·.1) → g ∈ (putF f v fs).map (·.1)
  | [] => ⟨by simp [putF], fun g h => by simp at h⟩
  | (k, x) :: r => by
    obtain ⟨i1, i2⟩ := keys_putF f v r
    rw [show putF f v ((k, x) :: r) = (if k = f then (k, v) :: r else (k, x) :: putF f v r) from rfl]
    by_cases hk : k = f
    · rw [if_pos hk]
      subst hk
      exact ⟨by simp, fun g h => by simpa using h⟩
    · rw [if_neg hk]
      refine ⟨?_, fun g h => ?_⟩
      · rw [List.map_cons]
        exact List.mem_cons_of_mem _ i1
      · rw [List.map_cons] at h ⊢
        rcases List.mem_cons.mp h with e | e
        · exact List.mem_cons.mpr (.inl e)
        · exact List.mem_cons_of_mem _ (i2 g e)
theorem length_putF (f : Str) (v : V) : ∀ fs : List (Str × V), (putF f v fs).length ≤ fs.length + 1
  | [] => by simp [putF]
  | (k, x) :: r => by
    have ih := length_putF f v r
    rw [show putF f v ((k, x) :: r) = (if k = f then (k, v) :: r else (k, x) :: putF f v r) from rfl]
    by_cases hk : k = f
    · rw [if_pos hk, List.length_cons, List.length_cons]; omega
    · rw [if_neg hk, List.length_cons, List.length_cons]; omega

theorem RelO.some_of {v : V} {o : Option Value} (r : RelO (some v) o) : ∃ u, o = some u ∧ RelV v u := by
  cases o with
  | none => exact (show False from r).elim
  | some u => exact ⟨u, rfl, r⟩
theorem RelO.none_of {o : Option Value} (r : RelO none o) : o = none := by
  cases o with
  | none => rfl
  | some u => exact (show False from r).elim
theorem handed_of {v : V} {u : Value} (r : RelV v u) : PySem.W.handedIn u = true := by
  cases v with
  | non => cases (show u = Value.none from r); rfl
  | bl b => cases (show u = Value.bool b from r); rfl
  | int i => obtain ⟨t, e⟩ := (show ∃ t, u = Value.int i t from r); cases e; rfl
  | str x => obtain ⟨t, e⟩ := (show ∃ t, u = Value.str x t from r); cases e; rfl
  | byt b => obtain ⟨t, e⟩ := (show ∃ t, u = Value.bytes b t from r); cases e; rfl
  | flt b => obtain ⟨t, e⟩ := (show ∃ t, u = Value.float b t from r); cases e; rfl
  | ref a => cases (show u = Value.ref a from r); rfl
  | ty n => cases (show u = Value.type n from r); rfl

section
variable {P : Program} {w : World} {H H' : Hp} {h h' : Heap} {a C dx : Addr} {fs fs' : List (Str × V)}
theorem ins_get (hok : HOk P w H h) (e : H a = some (.ins C dx fs)) : ∃ mA, ObjM h a dx C mA ∧ (∀ f, RelO (fs.lookup f) (mA f)) ∧ PySem.Within mA (fs.map (·.1)) ∧ fs.length ≤ 1000 ∧ H dx = some (.own a) := by
  obtain ⟨d, z, ne, ob, mA, n, r, q⟩ := (show ObjOk P w H h a (.ins C dx fs) from hok a _ e)
  exact ⟨mA, ⟨ob, n, ne⟩, r, q, z, d⟩
end

/-! ### what of the text a class must have -/
structure Cls (K : PySem.W.Frag) (C : Addr) : Prop where
  pg : PySem.W.plainGet K C Str.empty = true
  hd : PySem.W.hasDictIn K C = true
  po : PySem.W.plainOver K C = true
  sa : PySem.W.findIn K (.ref C) "__setattr__" = some (some (.builtin "object.__setattr__"))
theorem Cls.get {K : PySem.W.Frag} {C : Addr} (c : Cls K C) (f : Str) : PySem.W.plainGet K C f = true := c.pg
/-- no class of it has the name -/
def NoAttr (K : PySem.W.Frag) (C : Addr) (f : Str) : Prop := PySem.W.findIn K (.ref C) f = some none
theorem NoAttr.taker {K : PySem.W.Frag} {C : Addr} {f : Str} (n : NoAttr K C f) : PySem.W.takerIn K C f = some none := by
  unfold PySem.W.takerIn
  rw [show PySem.W.findIn K (.ref C) f = some none from n]
  rfl
/-- a constant of the class -/
structure Con (K : PySem.W.Frag) (C : Addr) (f : Str) (v : V) (u : Value) : Prop where
  at_ : PySem.W.findIn K (.ref C) f = some (some u)
  rel : RelV v u
  get : PySem.W.specialIn K u "__get__" = some none
  cp : PySem.W.copiedNames.contains f = false
/-- a method: a plain def of the class or of one above it -/
structure Meth (K : PySem.W.Frag) (C : Addr) (m : Str) (f : Addr) : Prop where
  at_ : PySem.W.findIn K (.ref C) m = some (some (.ref f))
  fn : PySem.W.isFn K (.ref f) = true
  kp : PySem.W.keepIn K (.ref f) = true

section
variable {X : Cx} {pins : List (Addr × Obj)} {σ : St} {H : Hp} {s : Shared} {a C dx : Addr} {fs : List (Str × V)} {f : Str} {v : V} {A : Around} {E : Value → Shared → Prop}

theorem getattr_ok {b : Bool} {Q : Value → Shared → Prop} (I : Inv X pins σ H s) (e : H a = some (.ins C dx fs)) (c : Cls X.K C) (n : NoAttr X.K C f) (l : fs.lookup f = some v)
    (h : ∀ u s', Inv X pins σ H s' → RelV v u → Q u s') : wpAny (model X.prog X.w) A (getAttr (.ref a) f b) Q E s := by
  obtain ⟨mA, O, r, _, _, _⟩ := ins_get I.hok e
  obtain ⟨u, hu, ru⟩ := RelO.some_of (v := v) (o := mA f) (by rw [← l]; exact r f)
  exact get_map I.kIn O (c.get f) c.hd n hu (handed_of ru) (h u _ (I.tok _) ru)


theorem getmeth_ok {m : Str} {g : Addr} {pl : Sem Bool} {Q : Value × List Value → Shared → Prop} (I : Inv X pins σ H s) (e : H a = some (.ins C dx fs)) (c : Cls X.K C) (k : Meth X.K C m g) (l : fs.lookup m = none)
    (h : Q (.ref g, [.ref a]) s) : wpAny (model X.prog X.w) A (getMethod (.ref a) m pl) Q E s := by
  obtain ⟨mA, O, r, _, _, _⟩ := ins_get I.hok e
  have hn : mA m = none := RelO.none_of (by rw [← l]; exact r m)
  exact get_meth I.kIn O (c.get m) k.at_ k.fn hn h

theorem setattr_ok {y : V} {u : Value} {Q : Unit → Shared → Prop} (I : Inv X pins σ H s) (e : H a = some (.ins C dx fs)) (c : Cls X.K C) (n : NoAttr X.K C f) (hl : fs.length < 1000) (ry : RelV y u)
    (h : ∀ s', Inv X pins σ (upd H a (.ins C dx (putF f y fs))) s' → Q () s') : wpAny (model X.prog X.w) A (setAttr (.ref a) f u) Q E s := by
  obtain ⟨mA, O, r, wi, _, ho⟩ := ins_get I.hok e
  have hz : (fs.map (·.1)).length ≤ sizeLine := by rw [List.length_map, sizeLine_eq]; omega
  refine set_map I.kIn O c.sa c.po n.taker c.hd wi hz fun h' O' sb => h _ ?_
  have hd : ∃ o, h'.get? dx = some o := let ⟨o, _, _, e', _⟩ := O'.ns; ⟨o, e'⟩
  refine I.write (x := a) (e := dx) (by rw [e]; exact True.intro) (.inr ho) (fun b q hb z => (sb.2 b hb).trans z) hd ?_
  refine ⟨by rw [upd_ne O.ne]; exact ho, ?_, O.ne, O'.obj, _, O'.ns, fun g => ?_, fun g hg => ?_⟩
  · have := length_putF f y fs; omega
  · show RelO ((putF f y fs).lookup g) (if g = f then some u else mA g)
    rw [lookup_putF]
    by_cases q : g = f
    · rw [if_pos q, if_pos q]; exact ry
    · rw [if_neg q, if_neg q]; exact r g
  · by_cases q : g = f
    · rw [q]; exact (keys_putF f y fs).1
    · refine (keys_putF f y fs).2 g (wi g fun z => hg ?_)
      show (if g = f then some u else mA g) = none
      rw [if_neg q]; exact z

/-- a new instance, tracked, without attributes -/
theorem Inv.made (I : Inv X pins σ H s) : Inv X pins σ (upd (upd H s.heap.objs.size (.own (s.heap.objs.size + 1))) (s.heap.objs.size + 1) (.ins C s.heap.objs.size []))
    { s with heap := (s.heap.push PySem.W.emptyDict).push (PySem.W.instObj C s.heap.objs.size) } := by
  have e1 : (s.heap.push PySem.W.emptyDict).get? s.heap.objs.size = some PySem.W.emptyDict := Heap.get?_push_size s.heap rfl
  have e2 : ((s.heap.push PySem.W.emptyDict).push (PySem.W.instObj C s.heap.objs.size)).get? (s.heap.objs.size + 1) = some (PySem.W.instObj C s.heap.objs.size) := by
    have := Heap.get?_push_size (s.heap.push PySem.W.emptyDict) (o := PySem.W.instObj C s.heap.objs.size) rfl
    rwa [Heap.size_push] at this
  have e3 : (s.heap.push PySem.W.emptyDict).Ns s.heap.objs.size (fun _ => none) := ⟨PySem.W.emptyDict, #[], _, e1, rfl, (fun e he => absurd he (by simp)), fun _ => rfl⟩
  have I1 := I.laid (a := s.heap.objs.size) (o := .own (s.heap.objs.size + 1)) (h' := s.heap.push PySem.W.emptyDict) (t' := s.toks) (fun b u q => Heap.get?_push_of_some _ q) (Nat.le_refl _) ⟨_, e1⟩
  refine I1.laid (a := s.heap.objs.size + 1) (o := .ins C s.heap.objs.size []) (t' := s.toks) (fun b u q => Heap.get?_push_of_some _ q) (Nat.le_of_eq (Heap.size_push _ _)) ?_
  have ne : s.heap.objs.size ≠ s.heap.objs.size + 1 := Nat.ne_of_lt (Nat.lt_succ_self _)
  refine ⟨by rw [upd_ne ne, upd_same], Nat.zero_le _, ne, e2, fun _ => none, (Heap.Ns1.of_empty e3).at fun o q => Heap.get?_push_of_some _ q, fun _ => True.intro, fun y hy => absurd rfl hy⟩

/-- e.f where nothing but the object is asked: through attributeBase (super) and the last hold -/
theorem attr_of {prog : Program} {w : World} {env : Env} {e : Expr} {f : Str} {pos : Pos} {s : Shared} {Q : Value → Shared → Prop} (hb : attributeBase e f env (eval e env) = eval e env)
    (h : wpAny (model prog w) A (eval e env) (fun o s₁ => wpAny (model prog w) A (getAttr o f true) Q E s₁) E s) : wpAny (model prog w) A (eval (.Attribute e f pos) env) Q E s :=
  Attribute_any_ h (by rw [arm_eval_Attribute, hb])
end

/-! ### readings and rules -/
/-- e.f, an attribute of the instance -/
def tFld (K : PySem.W.Frag) (ta : TE) (f : Str) : TE := fun σ H Q => ta σ H fun x H1 => ∃ a C dx fs v, x = .ref a ∧ H1 a = some (.ins C dx fs) ∧ Cls K C ∧ NoAttr K C f ∧ fs.lookup f = some v ∧ Q v H1
/-- e.f = value -/
def sFld (K : PySem.W.Frag) (ta tv : TE) (f : Str) : TS := fun D σ H => tv σ H fun y H1 => ta σ H1 fun x H2 => ∃ a C dx fs, x = .ref a ∧ H2 a = some (.ins C dx fs) ∧ Cls K C ∧ NoAttr K C f ∧ fs.length < 1000 ∧
  D.nx σ (upd H2 a (.ins C dx (putF f y fs)))

section
variable {X : Cx} {o e value : Expr} {f : Str} {pos pos' tpos : Pos} {ta tv : TE}
theorem pe_fld (he : PE X e ta) (hb : attributeBase e f X.env (eval e X.env) = eval e X.env) : PE X (.Attribute e f pos) (tFld X.K ta f) := by
  intro pins s σ H Q I h
  refine attr_of hb (thn (he pins s σ H _ I h) fun u s1 ⟨x, H1, I1, rx, a, C, dx, fs, v, ex, ea, c, n, l, q⟩ => ?_)
  subst ex
  obtain rfl : u = Value.ref a := rx
  exact getattr_ok I1 ea c n l fun u' s2 I2 ru => ⟨v, H1, I2, ru, q⟩
theorem ps_fld (ha : PE X o ta) (hv : PE X value tv) (hs : swapsWith value (some (.Attribute o f pos')) pos.line X.env = pure false) : PS X (.Assign [.Attribute o f pos'] value pos) (sFld X.K ta tv f) := by
  intro pins s σ H D I h
  refine plainObj_wpAny_Assign_Attribute (thn (hv pins s σ H _ I h) fun u s1 ⟨y, H1, I1, ry, q⟩ => thn (ha pins s1 σ H1 _ I1 q) fun ov s2 ⟨x, H2, I2, rx, a, C, dx, fs, ex, ea, c, n, l, q2⟩ => ?_) hs
  subst ex
  obtain rfl : ov = Value.ref a := rx
  exact setattr_ok I2 ea c n l ry fun s3 I3 => ⟨σ, _, I3, q2⟩

end

/-! ### isinstance -/
section
variable {X : Cx} {pins : List (Addr × Obj)} {σ : St} {H : Hp} {s : Shared} {A : Around} {E : Value → Shared → Prop} {Q : Value → Shared → Prop} {c : Value} {b : Bool}
/-- the type of a value, as the fragment's deciders take it; for an instance its class -/
inductive TyOf (K : PySem.W.Frag) (H : Hp) : V → Value → Prop where
  | non : TyOf K H .non (.type "NoneType")
  | bl (x : Bool) : TyOf K H (.bl x) (.type "bool")
  | int (i : Int) : TyOf K H (.int i) (.type "int")
  | str (x : Str) : TyOf K H (.str x) (.type "str")
  | flt (x : UInt64) : TyOf K H (.flt x) (.type "float")
  | lst {a : Addr} {xs : List V} (e : H a = some (.lst xs)) : TyOf K H (.ref a) (.type "list")
  | frz {a : Addr} {o : Obj} {xs : List V} (e : H a = some (.frz o (.lst xs))) : TyOf K H (.ref a) (.type "list")
  | tup {a : Addr} {xs : List V} (e : H a = some (.tup xs)) : TyOf K H (.ref a) (.type "tuple")
  | dK {a : Addr} {kvs : List (Key × V)} (e : H a = some (.dK kvs)) : TyOf K H (.ref a) (.type "dict")
  | dT {a : Addr} {kvs : List (List Key × V)} (e : H a = some (.dT kvs)) : TyOf K H (.ref a) (.type "dict")
  | ins {a C dx : Addr} {fs : List (Str × V)} (e : H a = some (.ins C dx fs)) (cl : Cls K C) (ha : PySem.W.findIn K (.ref C) "__class__" = some (some (.builtin "object.__class__")))
      (hn : PySem.W.specialIn K (.builtin "object.__class__") "__get__" = some (some (.builtin "getset_descriptor.__get__"))) (htk : PySem.W.takesIn K (.builtin "object.__class__") = some true)
      (hm : PySem.W.mroIn K C (.type "object") = some true) : TyOf K H (.ref a) (.ref C)
/-- isinstance(x, c) for one class c, a built-in or an own one: kitOne's answer -/
theorem isinst_ok {x : V} {u t : Value} (I : Inv X pins σ H s) (rx : RelV x u) (ty : TyOf X.K H x t) (e : PySem.W.kitOne X.K t c = some b) (h : ∀ tk, Q (.bool b) { s with toks := tk }) :
    wpAny (model X.prog X.w) A (call (.builtin "isinstance") [u, c]) Q E s := by
  cases ty with
  | non => cases (show u = Value.none from rx); exact PySem.W.kia_one PySem.W.kitx_none I.kIn True.intro e (fun z => nomatch z) h
  | bl y => cases (show u = Value.bool y from rx); exact PySem.W.kia_one PySem.W.kitx_bool I.kIn True.intro e (fun z => nomatch z) h
  | int i => obtain ⟨t, q⟩ := (show ∃ t, u = Value.int i t from rx); cases q; exact PySem.W.kia_one PySem.W.kitx_int I.kIn True.intro e (fun z => nomatch z) h
  | str y => obtain ⟨t, q⟩ := (show ∃ t, u = Value.str y t from rx); cases q; exact PySem.W.kia_one PySem.W.kitx_str I.kIn True.intro e (fun z => nomatch z) h
  | flt y => obtain ⟨t, q⟩ := (show ∃ t, u = Value.float y t from rx); cases q; exact PySem.W.kia_one PySem.W.kitx_float I.kIn True.intro e (fun z => nomatch z) h
  | @lst a xs ea =>
    cases (show u = Value.ref a from rx)
    obtain ⟨_, _, n, _, h1⟩ := (show ObjOk X.prog X.w H s.heap a (.lst xs) from I.hok a _ ea)
    exact PySem.W.kia_one PySem.W.kitx_list I.kIn ⟨_, h1, rfl⟩ e (fun z => nomatch z) h
  | @frz a ob xs ea =>
    cases (show u = Value.ref a from rx)
    obtain ⟨_, _, _, n, _, h1⟩ := (show ObjOk X.prog X.w H s.heap a (.frz ob (.lst xs)) from I.hok a _ ea)
    exact PySem.W.kia_one PySem.W.kitx_list I.kIn ⟨_, h1, rfl⟩ e (fun z => nomatch z) h
  | @tup a xs ea =>
    cases (show u = Value.ref a from rx)
    obtain ⟨_, _, _, p⟩ := (show ObjOk X.prog X.w H s.heap a (.tup xs) from I.hok a _ ea)
    obtain ⟨o, h1, h2, _⟩ := p
    exact PySem.W.kia_one PySem.W.kitx_tuple I.kIn ⟨o, h1, h2⟩ e (fun z => nomatch z) h
  | @dK a kvs ea =>
    cases (show u = Value.ref a from rx)
    obtain ⟨_, _, vs, _, p⟩ := (show ObjOk X.prog X.w H s.heap a (.dK kvs) from I.hok a _ ea)
    obtain ⟨o, es, ep, h1, h2, _⟩ := p
    exact PySem.W.kia_one PySem.W.kitx_dict I.kIn ⟨o, h1, h2.1⟩ e (fun z => nomatch z) h
  | @dT a kvs ea =>
    cases (show u = Value.ref a from rx)
    obtain ⟨_, _, xs, _, o, es, ep, h1, h2, _⟩ := (show ObjOk X.prog X.w H s.heap a (.dT kvs) from I.hok a _ ea)
    exact PySem.W.kia_one PySem.W.kitx_dict I.kIn ⟨o, h1, h2.1⟩ e (fun z => nomatch z) h
  | @ins a C dx fs ea cl ha hn htk hm =>
    cases (show u = Value.ref a from rx)
    obtain ⟨mA, O, _⟩ := ins_get I.hok ea
    obtain ⟨od, J, _⟩ := O.look
    exact PySem.W.kia_one (PySem.W.kitx_own (cl.get _) cl.hd ha hn htk hm) I.kIn J e (fun z => nomatch z) h
end
end L2

namespace L2
open PySem PySem.Spec PyProof.Rows

/-! ### room -/
structure Room (k : Nat) (A : Around) : Prop where
  hd : A.handled = none
  dp : A.depth + 3 * k + 5 < recursionLimit
  un : A.units + 16 * k + 200 < cLine
theorem Room.mono {j k : Nat} {A : Around} (r : Room k A) (h : j ≤ k) : Room j A := ⟨r.hd, by have := r.dp; omega, by have := r.un; omega⟩
theorem Room.deeper {k : Nat} {A : Around} (r : Room (k + 1) A) (env : Env) : Room k (A.deeper env) :=
  ⟨r.hd, by have := r.dp; show A.depth + 1 + 3 * k + 5 < _; omega, by have := r.un; show A.units + 3 + 16 * k + 200 < _; omega⟩
theorem Room.in1 {k : Nat} {A : Around} (r : Room (k + 1) A) : Room k A.in1 :=
  ⟨r.hd, by have := r.dp; show A.depth + 3 * k + 5 < _; omega, by have := r.un; show A.units + 1 + 16 * k + 200 < _; omega⟩
theorem make_depth {A : Around} {C : Addr} {us : List Value} {kw : List (Str × Value)} : (A.under (.builtin "type.__call__" ⟨.ref C :: us, kw⟩)).depth = A.depth + 1 := by
  first | rfl | simp [Around.under, Code.weight, Code.isCreation, Code.isGuard, Code.isCaller, Code.frames, Code.isFrame, guardIds]
theorem make_units {A : Around} {C : Addr} {us : List Value} {kw : List (Str × Value)} : (A.under (.builtin "type.__call__" ⟨.ref C :: us, kw⟩)).units = A.units + 1 := by
  first | rfl | simp [Around.under, Code.cUnits, Code.frames, Code.isFrame]
theorem Room.make {k : Nat} {A : Around} (r : Room (k + 1) A) (C : Addr) (us : List Value) (kw : List (Str × Value)) : Room k (A.under (.builtin "type.__call__" ⟨.ref C :: us, kw⟩)) :=
  ⟨r.hd, by have := r.dp; rw [make_depth]; omega, by have := r.un; rw [make_units]; omega⟩
theorem Room.depth {k : Nat} {A : Around} (r : Room k A) : A.depth < recursionLimit := by have := r.dp; omega
theorem Room.units {k : Nat} {A : Around} (r : Room k A) : A.units + 64 < cLine := by have := r.un; omega

/-! ### argument lists and displays -/
def tNil : TA := fun _ H Q => Q [] H
def tCons (ta : TE) (tr : TA) : TA := fun σ H Q => ta σ H fun x H1 => tr σ H1 fun xs H2 => Q (x :: xs) H2
section
variable {X : Cx} {e : Expr} {es : List Expr} {te : TE} {t : TA} {pos : Pos}
theorem pa_nil : PA X [] tNil := fun _ _ _ _ H Q I h => Calls.spliced_nil ⟨[], H, I, .nil, h⟩
theorem pa_cons (ha : PE X e te) (hr : PA X es t) (hs : starEach (e :: es) X.env = (false, eval e X.env) :: starEach es X.env := by rfl) : PA X (e :: es) (tCons te t) := by
  intro pos pins s σ H Q I h
  rw [hs]
  show wpAny _ _ (spliced ((false, eval e X.env) :: backTo pos (starEach es X.env))) _ _ s
  refine Calls.spliced_cons (thn (ha pins s σ H _ I h) fun u s1 ⟨x, H1, I1, r1, q1⟩ => ?_)
  exact thn (hr pos pins s1 σ H1 _ I1 q1) fun us s2 ⟨xs, H2, I2, r2, q2⟩ => ⟨x :: xs, H2, I2, .cons r1 r2, q2⟩

/-- a tuple, a list of written items -/
def tTup (t : TA) : TE := fun σ H Q => t σ H fun xs H1 => xs.length ≤ sizeLine ∧ ∀ p, H1 p = none → Q (.ref p) (upd H1 p (.tup xs))
def tLst (t : TA) : TE := fun σ H Q => t σ H fun xs H1 => xs.length ≤ sizeLine ∧ ∀ p, H1 p = none → Q (.ref p) (upd H1 p (.lst xs))
theorem pe_tup {x1} (h : PA X es t) : PE X (.Tuple es x1 pos) (tTup t) := by
  intro pins s σ H Q I hq
  refine wpAny_Tuple_spliced (thn (h pos pins s σ H _ I hq) fun us s1 ⟨xs, H1, I1, r, z, q⟩ => ⟨by rw [← r.length]; exact z, ?_⟩)
  have hf : H1 s1.heap.objs.size = none := I1.hok.fresh (Nat.le_refl _)
  refine ⟨.ref s1.heap.objs.size, upd H1 s1.heap.objs.size (.tup xs), I1.laid (t' := s1.toks) (fun b u e => Heap.get?_push_of_some _ e) (Nat.le_refl _) ?_, rfl, q _ hf⟩
  exact ⟨z, us, r, ⟨_, Heap.get?_push_size _ rfl, rfl, _, rfl⟩⟩
theorem pe_lst (h : PA X es t) : PE X (.List es pos) (tLst t) := by
  intro pins s σ H Q I hq
  refine wpAny_List_spliced (thn (h pos pins s σ H _ I hq) fun us s1 ⟨xs, H1, I1, r, z, q⟩ => ⟨by rw [← r.length]; exact z, ?_⟩)
  have hf : H1 s1.heap.objs.size = none := I1.hok.fresh (Nat.le_refl _)
  refine ⟨.ref s1.heap.objs.size, upd H1 s1.heap.objs.size (.lst xs), I1.laid (t' := s1.toks) (fun b u e => Heap.get?_push_of_some _ e) (Nat.le_refl _) ?_, rfl, q _ hf⟩
  exact ⟨z, us, 0, r, Heap.get?_push_size _ rfl⟩
end

/-! ### what a def promises -/
/-- a def's promise: the bound arguments in the parameters' order, the heap, the wanted end, the wanted exception -/
abbrev Sp := List V → Hp → VK → XK → Prop
/-- how an exception lies behind a call (file 08 gives it): the callers' frames, abstract heap and state ahead of the call, the wish, the exception, the state -/
abbrev CXT := List Env → Hp → Shared → XK → Value → Shared → Prop

/-- the state at a call -/
structure Env0 (P : Program) (w : World) (K : PySem.W.Frag) (mg : Str → Option Value) (base : Heap) (A : Around) (outer : List Env) (s : Shared) (H : Hp) : Prop where
  frames : A.frames = some outer
  mod : Mod K mg base
  bs : ∀ b o, base.get? b = some o → s.heap.get? b = some o ∧ H b = none
  bsz : base.objs.size ≤ s.heap.objs.size
  funs : s.heap.FunFrames base outer
  frf : ∀ b ∈ frs outer, H b = none
  hok : HOk P w H s.heap
  bare : AllBare s.gens
/-- a call's end -/
def CE (outer : List Env) (P : Program) (w : World) (H : Hp) (s : Shared) (Q : VK) (u : Value) (s' : Shared) : Prop :=
  ∃ v H', s'.os = s.os ∧ AllBare s'.gens ∧ Un (frs outer) [] H H' s.heap s'.heap ∧ HOk P w H' s'.heap ∧ RelV v u ∧ Q v H'
def CR (CX : CXT) (outer : List Env) (P : Program) (w : World) (H : Hp) (s : Shared) (Q : VK) (E : XK) (r : Result) (s' : Shared) : Prop :=
  match r with
  | .ok (.ret u) => CE outer P w H s Q u s'
  | .ok _ => False
  | .error e => CX outer H s E e s'
structure FnOk (P : Program) (w : World) (K : PySem.W.Frag) (mg : Str → Option Value) (base : Heap) (CX : CXT) (k : Nat) (f : Addr) (fd : FuncData) (ps : List Str) (sp : Sp) : Prop where
  len : ∀ vs H Q E, sp vs H Q E → vs.length = ps.length
  run : ∀ (A : Around) (outer : List Env) (s : Shared) (H : Hp) (args : Args) (us : List Value) (vs : List V) (Q : VK) (E : XK), Room k A → Env0 P w K mg base A outer s H → BindsTo s fd args (ps.zip us) → Vals vs us → sp vs H Q E →
    codeAny (model P w) A (.call (.ref f) args) (CR CX outer P w H s Q E) s
theorem FnOk.mono {P : Program} {w : World} {K : PySem.W.Frag} {mg : Str → Option Value} {base : Heap} {CX : CXT} {j k : Nat} {f : Addr} {fd : FuncData} {ps : List Str} {sp : Sp} (F : FnOk P w K mg base CX j f fd ps sp) (h : j ≤ k) :
    FnOk P w K mg base CX k f fd ps sp := ⟨F.len, fun A outer s H args us vs Q E hr => F.run A outer s H args us vs Q E (hr.mono h)⟩
/-- a weaker promise -/
theorem FnOk.imp {P : Program} {w : World} {K : PySem.W.Frag} {mg : Str → Option Value} {base : Heap} {CX : CXT} {k : Nat} {f : Addr} {fd : FuncData} {ps : List Str} {sp sp' : Sp} (F : FnOk P w K mg base CX k f fd ps sp)
    (h : ∀ vs H Q E, sp' vs H Q E → sp vs H Q E) : FnOk P w K mg base CX k f fd ps sp' :=
  ⟨fun vs H Q E q => F.len vs H Q E (h _ _ _ _ q), fun A outer s H args us vs Q E hr he hb hv hs => F.run A outer s H args us vs Q E hr he hb hv (h _ _ _ _ hs)⟩

theorem Env0.make {P : Program} {w : World} {K : PySem.W.Frag} {mg : Str → Option Value} {base : Heap} {A : Around} {outer : List Env} {s : Shared} {H : Hp} (e : Env0 P w K mg base A outer s H) (C : Addr) (us : List Value) (kw : List (Str × Value)) :
    Env0 P w K mg base (A.under (.builtin "type.__call__" ⟨.ref C :: us, kw⟩)) outer s H := ⟨by first | exact e.frames | (simpa [Around.under, Code.envs, Code.isFrame, pushEnvs] using e.frames), e.mod, e.bs, e.bsz, e.funs, e.frf, e.hok, e.bare⟩
theorem Env0.in1 {P : Program} {w : World} {K : PySem.W.Frag} {mg : Str → Option Value} {base : Heap} {A : Around} {outer : List Env} {s : Shared} {H : Hp} (e : Env0 P w K mg base A outer s H) :
    Env0 P w K mg base A.in1 outer s H := ⟨e.frames, e.mod, e.bs, e.bsz, e.funs, e.frf, e.hok, e.bare⟩

section
variable {X : Cx} {pins : List (Addr × Obj)} {σ : St} {H : Hp} {s s' : Shared}
/-- from a body: what a callee wants -/
theorem Inv.env0 (I : Inv X pins σ H s) : Env0 X.prog X.w X.K X.mg X.base X.A X.stack s H :=
  ⟨I.ok.frames, I.ok.mod, I.bs, Nat.le_trans I.ok.bsz I.sz, I.stack, I.stkFree, I.hok, I.bare⟩
/-- behind a call -/
theorem Inv.after {Q : VK} {u : Value} (I : Inv X pins σ H s) (h : CE X.stack X.prog X.w H s Q u s') : EP X pins σ Q u s' := by
  obtain ⟨v, H', os, bare, un, hok, r, q⟩ := h
  obtain ⟨hh, g, d, t, os'⟩ := s'
  obtain rfl : os' = s.os := os
  exact ⟨v, H', I.call (h' := hh) (g' := g) (d' := d) (t' := t) (ch := []) un hok bare (fun b z => absurd z (by simp)), r, q⟩
end

/-! ### calls -/
/-- f(..): the written arguments, then the defaults dvs; E: what is wanted of an exception -/
def tCall (sp : Sp) (dvs : List V) (E : XK) (t : TA) : TE := fun σ H Q => t σ H fun vs H1 => sp (vs ++ dvs) H1 Q E
/-- o.m(..) of an instance of the class at C -/
def tMeth (C : Addr) (m : Str) (sp : Sp) (dvs : List V) (E : XK) (ta : TE) (t : TA) : TE := fun σ H Q => ta σ H fun x H1 => ∃ a dx fs, x = .ref a ∧ H1 a = some (.ins C dx fs) ∧ fs.lookup m = none ∧
  t σ H1 fun vs H2 => sp (x :: (vs ++ dvs)) H2 Q E
/-- C(..): a new instance and its dict, then __init__ -/
def tMake (C : Addr) (sp : Sp) (dvs : List V) (E : XK) (t : TA) : TE := fun σ H Q => t σ H fun vs H1 => ∀ x dx, H1 x = none → H1 dx = none → dx ≠ x →
  sp (.ref x :: (vs ++ dvs)) (upd (upd H1 dx (.own x)) x (.ins C dx [])) (fun v H2 => v = .non ∧ Q (.ref x) H2) E

/-- how the parameters are bound: us the positional arguments, kw the keywords' values by name, ds the defaults that fill up -/
def Binds (K : PySem.W.Frag) (fd : FuncData) (ps : List Str) (ds : List Value) : Prop :=
  ∀ (s : Shared) (us : List Value), K.In s.heap → (us ++ ds).length = ps.length → BindsTo s fd ⟨us, []⟩ (ps.zip (us ++ ds))
/-- every parameter is given -/
theorem Binds.all {K : PySem.W.Frag} {fd : FuncData} {ps : List Str} (h : ∀ us : List Value, us.length = ps.length → bindArgs fd ⟨us, []⟩ = pure (ps.zip us)) : Binds K fd ps [] := fun s us _ hl => by
  rw [List.append_nil] at hl ⊢
  exact .of_eq (h us hl)

/-- an exception of a callee reaches what this body wants of exceptions -/
def Passes (CX : CXT) (X : Cx) (E : XK) : Prop := ∀ (pins : List (Addr × Obj)) (σ : St) (H : Hp) (s : Shared) (e : Value) (s' : Shared), Inv X pins σ H s → CX X.stack H s E e s' → X.xe e s'

section
variable {X : Cx} {CX : CXT} {k : Nat} {f C : Addr} {fd : FuncData} {ps : List Str} {sp : Sp} {dvs : List V} {ds : List Value} {E : XK} {x m : Str} {p pos apos : Pos} {e o : Expr} {es : List Expr} {ta : TE} {t : TA}

/-- the callee runs -/
theorem run_fn {pins : List (Addr × Obj)} {σ : St} {H : Hp} {s : Shared} {Q : VK} {us : List Value} {vs : List V} (F : FnOk X.prog X.w X.K X.mg X.base CX k f fd ps sp) (hr : Room k X.A) (hb : Binds X.K fd ps ds) (hd : Vals dvs ds) (hx : Passes CX X E)
    (I : Inv X pins σ H s) (r : Vals vs us) (h : sp (vs ++ dvs) H Q E) : wpAny (model X.prog X.w) X.A (call (.ref f) us) (EP X pins σ Q) X.xe s := by
  have r2 : Vals (vs ++ dvs) (us ++ ds) := r.append hd
  have hl : (us ++ ds).length = ps.length := by rw [← r2.length]; exact F.len _ _ _ _ h
  refine wpAny_call (codeAny_mono (F.run X.A X.stack s H ⟨us, []⟩ (us ++ ds) (vs ++ dvs) Q E hr I.env0 (hb s us I.kIn hl) r2 h) fun r s' hq => ?_)
  cases r with
  | error e => exact hx pins σ H s e s' I hq
  | ok fl =>
    cases fl with
    | ret u => exact I.after hq
    | next => exact False.elim hq
    | brk => exact False.elim hq
    | cont => exact False.elim hq

theorem pe_call (F : FnOk X.prog X.w X.K X.mg X.base CX k f fd ps sp) (hr : Room k X.A) (hg : Gl X x) (hm : X.mg x = some (.ref f)) (hk : PySem.W.keepIn X.K (.ref f) = true) (hb : Binds X.K fd ps ds) (hd : Vals dvs ds) (hx : Passes CX X E)
    (ha : PA X (e :: es) t) (hdb : (x == ("__debug__" : Str)) = false := by decide) (he : starEach (e :: es) X.env = (false, eval e X.env) :: starEach es X.env := by rfl) (hpl : (backTo pos (starEach es X.env)).any (·.1) = false := by rfl) :
    PE X (.Call (.Name x p) (e :: es) [] pos) (tCall sp dvs E t) := by
  intro pins s σ H Q I h
  refine wpAny_Call_Name_kw (ld_glob I hg hm ?_ hdb)
  refine PySem.W.callWith_K (h₀ := X.base) I.ok.mod.kin hk (thn (ha pos pins s σ H _ I h) fun us s1 ⟨vs, H1, I1, r, q⟩ => ⟨I1.kIn, ?_⟩) he hpl
  exact run_fn F hr hb hd hx I1 r q
theorem pe_call0 (F : FnOk X.prog X.w X.K X.mg X.base CX k f fd ps sp) (hr : Room k X.A) (hg : Gl X x) (hm : X.mg x = some (.ref f)) (hk : PySem.W.keepIn X.K (.ref f) = true) (hb : Binds X.K fd ps ds) (hd : Vals dvs ds) (hx : Passes CX X E)
    (hdb : (x == ("__debug__" : Str)) = false := by decide) : PE X (.Call (.Name x p) [] [] pos) (tCall sp dvs E tNil) := by
  intro pins s σ H Q I h
  refine wpAny_Call_Name_kw (ld_glob I hg hm ?_ hdb)
  exact PySem.W.callWith_K0 I.kIn hk (run_fn (us := []) F hr hb hd hx I .nil h)

/-- o.m(e, ..) -/
theorem pe_meth {pl : Sem Bool} (he : PE X o ta) (c : Cls X.K C) (hm : Meth X.K C m f) (F : FnOk X.prog X.w X.K X.mg X.base CX k f fd ps sp) (hr : Room k X.A) (hb : Binds X.K fd ps ds) (hd : Vals dvs ds) (hx : Passes CX X E) (ha : PA X (e :: es) t)
    (hst : starEach (e :: es) X.env = (false, eval e X.env) :: starEach es X.env := by rfl) (hpl : (backTo pos (starEach es X.env)).any (·.1) = false := by rfl)
    (ht : eval (.Call (.Attribute o m apos) (e :: es) [] pos) X.env = (do
      let ov ← eval o X.env
      standAt apos.atName
      let (f, first) ← holding [ov] (getMethod ov m pl)
      callWith pos f first (backTo pos (starEach (e :: es) X.env)) (backToKw pos (keywordEach [] X.env))) := by rfl) :
    PE X (.Call (.Attribute o m apos) (e :: es) [] pos) (tMeth C m sp dvs E ta t) := by
  intro pins s σ H Q I h
  refine PySem.W.methodCall_KW (pl := pl) (thn (he pins s σ H _ I h) fun u s1 ⟨x, H1, I1, rx, a, dx, fs, ex, ea, l, q⟩ => ?_) ht
  subst ex
  obtain rfl : u = Value.ref a := rx
  refine getmeth_ok I1 ea c hm l ?_
  refine PySem.W.callWith_K (first := [.ref a]) (h₀ := X.base) I.ok.mod.kin hm.kp (thn (ha pos pins s1 σ H1 _ I1 q) fun us s2 ⟨vs, H2, I2, r, q2⟩ => ⟨I2.kIn, ?_⟩) hst hpl
  exact run_fn (us := .ref a :: us) (vs := .ref a :: vs) F hr hb hd hx I2 (.cons rfl r) q2
/-- o.m() -/
theorem pe_meth0 {pl : Sem Bool} (he : PE X o ta) (c : Cls X.K C) (hm : Meth X.K C m f) (F : FnOk X.prog X.w X.K X.mg X.base CX k f fd ps sp) (hr : Room k X.A) (hb : Binds X.K fd ps ds) (hd : Vals dvs ds) (hx : Passes CX X E)
    (ht : eval (.Call (.Attribute o m apos) [] [] pos) X.env = (do
      let ov ← eval o X.env
      standAt apos.atName
      let (f, first) ← holding [ov] (getMethod ov m pl)
      callWith pos f first (backTo pos (starEach [] X.env)) (backToKw pos (keywordEach [] X.env))) := by rfl) :
    PE X (.Call (.Attribute o m apos) [] [] pos) (tMeth C m sp dvs E ta tNil) := by
  intro pins s σ H Q I h
  refine PySem.W.methodCall_KW (pl := pl) (thn (he pins s σ H _ I h) fun u s1 ⟨x, H1, I1, rx, a, dx, fs, ex, ea, l, q⟩ => ?_) ht
  subst ex
  obtain rfl : u = Value.ref a := rx
  refine getmeth_ok I1 ea c hm l ?_
  exact PySem.W.callWith_K0 (first := [.ref a]) I1.kIn hm.kp (run_fn (us := [.ref a]) (vs := [.ref a]) F hr hb hd hx I1 (.cons rfl .nil) q)

/-- what a class must have to be made -/
structure Mk (K : PySem.W.Frag) (C f : Addr) : Prop where
  makes : PySem.W.makesIn K C = true
  init : PySem.W.findIn K (.ref C) "__init__" = some (some (.ref f))
  fn : PySem.W.isFn K (.ref f) = true
  kp : PySem.W.keepIn K (.ref C) = true

theorem run_make {pins : List (Addr × Obj)} {σ : St} {H : Hp} {s : Shared} {Q : VK} {us : List Value} {vs : List V} (M : Mk X.K C f) (F : FnOk X.prog X.w X.K X.mg X.base CX k f fd ps sp) (hr : Room (k + 1) X.A) (hb : Binds X.K fd ps ds) (hd : Vals dvs ds)
    (hx : Passes CX X E) (I : Inv X pins σ H s) (r : Vals vs us)
    (h : ∀ x dx, H x = none → H dx = none → dx ≠ x → sp (.ref x :: (vs ++ dvs)) (upd (upd H dx (.own x)) x (.ins C dx [])) (fun v H2 => v = .non ∧ Q (.ref x) H2) E) :
    wpAny (model X.prog X.w) X.A (call (.ref C) us) (EP X pins σ Q) X.xe s := by
  have hq := h (s.heap.objs.size + 1) s.heap.objs.size (I.hok.fresh (Nat.le_succ _)) (I.hok.fresh (Nat.le_refl _)) (Nat.ne_of_lt (Nat.lt_succ_self _))
  have I2 := Inv.made (C := C) I
  have r2 : Vals (V.ref (s.heap.objs.size + 1) :: (vs ++ dvs)) (Value.ref (s.heap.objs.size + 1) :: (us ++ ds)) := .cons rfl (r.append hd)
  have hl : (Value.ref (s.heap.objs.size + 1) :: us ++ ds).length = ps.length := by
    have e := r2.length
    rw [F.len _ _ _ _ hq] at e
    exact e.symm
  refine wpAny_call (make_map (f := f) I.kIn M.makes M.init (beq_iff_eq.mp M.fn) (codeAny_mono (F.run _ X.stack _ _ ⟨Value.ref (s.heap.objs.size + 1) :: us, []⟩ (Value.ref (s.heap.objs.size + 1) :: (us ++ ds)) _ _ E (hr.make C us [])
    (I2.env0.make C us []) (hb _ (Value.ref (s.heap.objs.size + 1) :: us) I2.kIn hl) r2 hq) fun r s' hq' => ?_))
  cases r with
  | error e => exact hx pins σ _ _ e s' I2 hq'
  | ok fl =>
    cases fl with
    | ret u =>
      obtain ⟨v, H', I3, rv, ev, q3⟩ := I2.after hq'
      subst ev
      exact ⟨rv, ⟨V.ref (s.heap.objs.size + 1), H', I3, rfl, q3⟩⟩
    | next => exact False.elim hq'
    | brk => exact False.elim hq'
    | cont => exact False.elim hq'
theorem pe_make0 (M : Mk X.K C f) (F : FnOk X.prog X.w X.K X.mg X.base CX k f fd ps sp) (hr : Room (k + 1) X.A) (hg : Gl X x) (hm : X.mg x = some (.ref C)) (hb : Binds X.K fd ps ds) (hd : Vals dvs ds) (hx : Passes CX X E)
    (hdb : (x == ("__debug__" : Str)) = false := by decide) : PE X (.Call (.Name x p) [] [] pos) (tMake C sp dvs E tNil) := by
  intro pins s σ H Q I h
  refine wpAny_Call_Name_kw (ld_glob I hg hm ?_ hdb)
  exact PySem.W.callWith_K0 I.kIn M.kp (run_make (us := []) M F hr hb hd hx I .nil h)
end

/-! ### keywords -/
section
variable {X : Cx} {CX : CXT} {k : Nat} {f C : Addr} {fd : FuncData} {ps ks : List Str} {sp : Sp} {E : XK} {x m : Str} {p pos apos kpos : Pos} {e o : Expr} {es : List Expr} {kws : List Keyword} {te ta : TE} {t tk : TA} {nm : Option Str}

/-- how a call with keywords binds: g puts the positional values us and the keywords' values ws (names ks) in the parameters' order, defaults among them -/
structure KBinds (K : PySem.W.Frag) (fd : FuncData) (ps ks : List Str) (g : List Value → List Value → List Value) (gV : List V → List V → List V) : Prop where
  to : ∀ (s : Shared) (us ws : List Value), K.In s.heap → (g us ws).length = ps.length → BindsTo s fd ⟨us, ks.zip ws⟩ (ps.zip (g us ws))
  rel : ∀ {vs : List V} {us : List Value} {zs : List V} {ws : List Value}, Vals vs us → Vals zs ws → Vals (gV vs zs) (g us ws)
variable {g : List Value → List Value → List Value} {gV : List V → List V → List V}
end

/-! ### a def's body keeps its promise -/
/-- names: the parameters first -/
structure FnScope (N P : List Str) (sc : Scope) : Prop where
  kind : sc.kind = .function
  co : sc.isCoroutine = false
  gen : sc.isGenerator = false
  nd : N.Nodup
  pre : N.take P.length = P
  par : ∀ x ∈ P, sc.names.lookup x = some .local ∨ sc.names.lookup x = some .cell
  nofree : ∀ y ∈ sc.names, y.2 ≠ .free

theorem bindL_out {kindOf : Str → Option NameKind} {x : Str} : ∀ {binds : List (Str × Value)} {m : Str → Option Value}, (∀ v, (x, v) ∉ binds) → bindL kindOf binds m x = m x
  | [], _, _ => rfl
  | (n, v) :: r, m, h => by
    unfold bindL
    rw [bindL_out fun w hw => h w (List.mem_cons_of_mem _ hw)]
    split
    · have : x ≠ n := by rintro rfl; exact h v List.mem_cons_self
      simp [this]
    · rfl
theorem bindC_out {kindOf : Str → Option NameKind} {x : Str} : ∀ {binds : List (Str × Value)} {m : Str → Option Value}, (∀ v, (x, v) ∉ binds) → bindC kindOf binds m x = m x
  | [], _, _ => rfl
  | (n, v) :: r, m, h => by
    unfold bindC
    rw [bindC_out fun w hw => h w (List.mem_cons_of_mem _ hw)]
    split
    · rfl
    · have : x ≠ n := by rintro rfl; exact h v List.mem_cons_self
      simp [this]
theorem bindL_get {kindOf : Str → Option NameKind} {x : Str} {v : Value} : ∀ {P : List Str} {vs : List Value} {i : Nat} {m : Str → Option Value}, P.Nodup → P[i]? = some x → vs[i]? = some v → kindOf x = some .local →
    bindL kindOf (P.zip vs) m x = some v
  | [], _, _, _, _, h, _, _ => by simp at h
  | _ :: _, [], _, _, _, _, h, _ => by simp at h
  | p :: P, w :: vs, 0, m, nd, h1, h2, hk => by
    simp at h1 h2; subst h1; subst h2
    show bindL kindOf ((p, w) :: P.zip vs) m p = _
    unfold bindL
    rw [bindL_out fun v hv => (List.nodup_cons.mp nd).1 (List.of_mem_zip hv).1, if_pos hk]
    simp
  | p :: P, w :: vs, i + 1, m, nd, h1, h2, hk => by
    show bindL kindOf ((p, w) :: P.zip vs) m x = _
    unfold bindL
    exact bindL_get (i := i) (List.nodup_cons.mp nd).2 (by simpa using h1) (by simpa using h2) hk
theorem bindC_get {kindOf : Str → Option NameKind} {x : Str} {v : Value} : ∀ {P : List Str} {vs : List Value} {i : Nat} {m : Str → Option Value}, P.Nodup → P[i]? = some x → vs[i]? = some v → kindOf x ≠ some .local →
    bindC kindOf (P.zip vs) m x = some v
  | [], _, _, _, _, h, _, _ => by simp at h
  | _ :: _, [], _, _, _, _, h, _ => by simp at h
  | p :: P, w :: vs, 0, m, nd, h1, h2, hk => by
    simp at h1 h2; subst h1; subst h2
    show bindC kindOf ((p, w) :: P.zip vs) m p = _
    unfold bindC
    rw [bindC_out fun v hv => (List.nodup_cons.mp nd).1 (List.of_mem_zip hv).1, if_neg hk]
    simp
  | p :: P, w :: vs, i + 1, m, nd, h1, h2, hk => by
    show bindC kindOf ((p, w) :: P.zip vs) m x = _
    unfold bindC
    exact bindC_get (i := i) (List.nodup_cons.mp nd).2 (by simpa using h1) (by simpa using h2) hk

/-- the names' values at the entry -/
def start (N : List Str) (vs : List V) : St := vs.map some ++ List.replicate (N.length - vs.length) none

/-- the context of a def's body, at its entry; an exception leaves the frame, then lies as CX says -/
def cxOf (CX : CXT) (P : Program) (w : World) (K : PySem.W.Frag) (mg : Str → Option Value) (base : Heap) (N : List Str) (qual : Str) (scope : Scope) (f : Addr) (cd : Value) (A : Around) (outer : List Env) (s : Shared) (H : Hp) (E : XK) : Cx where
  prog := P
  w := w
  K := K
  mg := mg
  base := base
  A := A.deeper (envOfC qual scope s.heap.objs.size f cd)
  N := N
  s₀ := s
  H₀ := H
  env := envOfC qual scope s.heap.objs.size f cd
  outer := outer
  stack := envOfC qual scope s.heap.objs.size f cd :: outer
  ex := []
  calm := true
  fn := fun _ => true
  pn := []
  xe := fun e s' => wpAny (model P w) (A.deeper (envOfC qual scope s.heap.objs.size f cd)) (leaving (envOfC qual scope s.heap.objs.size f cd) e) (fun _ s'' => CX outer H s E e s'') (fun e' s'' => CX outer H s E e' s'') s'

theorem cell_has {sc : Scope} {n : Nat} {x : Str} (h : sc.names.lookup x = some .cell) : ∃ c, (cellsFrom n sc.names []).lookup x = some c := by
  have q := PySem.W.cellsFrom_some sc.names n [] (.inl h)
  exact Option.isSome_iff_exists.mp q

theorem inv_start {CX : CXT} {P : Program} {w : World} {K : PySem.W.Frag} {mg : Str → Option Value} {base : Heap} {N ps : List Str} {qual : Str} {scope : Scope} {f : Addr} {cd : Value} {A : Around} {outer : List Env} {s s1 : Shared} {H : Hp} {E : XK} {us : List Value} {vs : List V}
    (S : FnScope N ps scope) (hd : A.handled = none) (e0 : Env0 P w K mg base A outer s H) (hl : vs.length = ps.length) (r : Vals vs us)
    (x : InCallC s s.heap.objs.size (bindL (envOfC qual scope s.heap.objs.size f cd).kindOf (ps.zip us) fun _ => none) (cellsFrom (s.heap.objs.size + 1) scope.names []) (bindC (envOfC qual scope s.heap.objs.size f cd).kindOf (ps.zip us) fun _ => none) s1) :
    Inv (cxOf CX P w K mg base N qual scope f cd A outer s H E) [] (start N vs) H s1 := by
  have hpl : ps.length ≤ N.length := by have := congrArg List.length S.pre; rw [List.length_take] at this; omega
  obtain ⟨h1, tk, rfl, hk⟩ := x.done
  have noA : ∀ b : Addr, b ∉ (cxOf CX P w K mg base N qual scope f cd A outer s H E).ex := fun b z => absurd (show b ∈ ([] : List Addr) from z) (by simp)
  refine ⟨⟨e0.mod, S.kind, rfl, rfl, Nat.le_refl _, fun y z c h1 h2 => ?_, fun y hy => ?_, fun y c _ h => ?_, fun _ => hd, Around.frames_deeper e0.frames, .inr ⟨rfl, rfl⟩, fun b z => absurd z (noA b), e0.bs, e0.bsz, fun b _ _ => noA b, fun b z => absurd z (noA b), e0.funs, e0.frf⟩,
    rfl, e0.bare, Un.kept hk, ⟨_, x.toInCall.ns, fun i y v h1 h2 h3 => ?_⟩, fun y c h => ⟨_, x.cell y c h⟩, e0.hok.fresh (Nat.le_refl _), fun y c h => ?_, fun p hp => absurd (show p ∈ ([] : List (Addr × Obj)) from hp) (by simp), e0.hok.kept hk, ?_⟩
  · exact name_of_addr x.apart (PySem.mem_of_lookup h1) (PySem.mem_of_lookup h2)
  · have hy : scope.names.lookup y = some .cell ∨ scope.names.lookup y = some .free := hy
    rcases hy with hy | hy
    · exact cell_has hy
    · exact absurd rfl (S.nofree _ (PySem.mem_of_lookup hy))
  · exact Nat.le_of_lt (x.above y c (PySem.mem_of_lookup h))
  · have hi : i < vs.length := by
      unfold start at h2
      by_cases hi : i < vs.length
      · exact hi
      · rw [List.getElem?_append_right (by simpa using hi)] at h2
        rw [List.getElem?_replicate] at h2
        split at h2 <;> cases h2
    have ha : vs[i]? = some v := by
      unfold start at h2
      rw [List.getElem?_append_left (by simpa using hi), List.getElem?_map] at h2
      cases e : vs[i]? with
      | none => rw [e] at h2; cases h2
      | some a => rw [e] at h2; cases h2; rfl
    obtain ⟨u, hu, rv⟩ := r.get ha
    have hp : ps[i]? = some y := by
      rw [← S.pre, List.getElem?_take_of_lt (by omega)]; exact h1
    have ndP : ps.Nodup := by rw [← S.pre]; exact S.nd.sublist (List.take_sublist _ _)
    refine ⟨u, rv, ?_⟩
    rcases S.par y (List.mem_of_getElem? hp) with k | k
    · exact .inl ⟨k, bindL_get ndP hp hu k⟩
    · obtain ⟨c, e⟩ := cell_has (n := s.heap.objs.size + 1) k
      refine .inr ⟨.inl k, c, e, ?_⟩
      have q := x.cell y c e
      rw [bindC_get ndP hp hu (by show scope.names.lookup y ≠ _; rw [k]; decide)] at q
      exact q
  · exact e0.hok.fresh (Nat.le_of_lt (x.above y c (PySem.mem_of_lookup h)))
  · unfold start
    show _ = N.length
    rw [List.length_append, List.length_map, List.length_replicate]
    omega

/-- THE RULE: a def (or a method) of the text, by its body. The body's reading t is chosen for each entry; it is run at the parameters' values -/
theorem fn_of {CX : CXT} {P : Program} {w : World} {K : PySem.W.Frag} {mg : Str → Option Value} {base : Heap} {k : Nat} {f : Addr} {name qual : Str} {params : Arguments} {body : List Stmt} {scope : Scope} {dV kV doc pm cdv ct oc : Value} {an od : Option Addr}
    {osl : Array (Option Value)} {N ps : List Str} {sp : Sp} (lk : K.lookup f = some ⟨oc, od, .func (PySem.W.fnOf name qual params body scope dV kV doc pm an cdv ct), osl⟩) (hcd : PySem.W.codeIn K cdv qual = true) (S : FnScope N ps scope)
    (len : ∀ vs H Q E, sp vs H Q E → vs.length = ps.length)
    (hbody : ∀ (A : Around) (outer : List Env) (s : Shared) (H : Hp) (vs : List V) (Q : VK) (E : XK), Room k (A.deeper (envOfC qual scope s.heap.objs.size f cdv)) → sp vs H Q E →
      ∃ t, PSs (cxOf CX P w K mg base N qual scope f cdv A outer s H E) body t ∧ t { nx := fun _ H' => Q .non H', rt := Q } (start N vs) H) :
    FnOk P w K mg base CX (k + 1) f (PySem.W.fnOf name qual params body scope dV kV doc pm an cdv ct) ps sp := by
  refine ⟨len, fun A outer s H args us vs Q E hr e0 hb r hsp => ?_⟩
  have hl := len _ _ _ _ hsp
  have KX : K.In s.heap := e0.mod.kin.keeps fun b o e => (e0.bs b o e).1
  have lim : s.heap.NoLimit := e0.mod.nolimit.keeps fun b o e => (e0.bs b o e).1
  have hkind : ∀ y ∈ ps.zip us, scope.names.lookup y.1 = some .local ∨ (scope.names.lookup y.1 = some .cell ∧ ((cellsFrom (s.heap.objs.size + 1) scope.names []).lookup y.1).isSome = true) := fun ⟨n, v⟩ hy => by
    rcases S.par n (List.of_mem_zip hy).1 with q | q
    · exact .inl q
    · exact .inr ⟨q, PySem.W.cellsFrom_some _ _ _ (.inl q)⟩
  refine codeAny_call_function hr.depth (KX _ _ lk) rfl S.co S.gen rfl (PySem.W.codeRec_of KX hcd) (hb _ _ _ _ ?_)
  refine wpAny_newFunctionEnv_cells S.kind hkind fun env he s1 x => ?_
  subst he
  refine ⟨lim.keeps x.toInCall.keep, codeAny_func ?_⟩
  obtain ⟨t, ht, hq⟩ := hbody A outer s H vs Q E (hr.deeper _) hsp
  have I : Inv (cxOf CX P w K mg base N qual scope f cdv A outer s H E) [] (start N vs) H s1 := inv_start S hr.hd e0 hl r x
  refine wpAny_mono (ht [] s1 (start N vs) H _ I hq) (fun fl s' hs => ?_) fun e s' hs => hs
  have fin : ∀ {σ' : St} {H' : Hp} {v : V} {u : Value}, Inv (cxOf CX P w K mg base N qual scope f cdv A outer s H E) [] σ' H' s' → RelV v u → Q v H' → CE outer P w H s Q u s' :=
    fun {σ' H' v u} J rv q => ⟨v, H', J.os, J.bare, J.base, J.hok, rv, q⟩
  cases fl with
  | ret u =>
    obtain ⟨v, σ', H', J, rv, q⟩ := hs
    exact fin J rv q
  | next =>
    obtain ⟨σ', H', J, q⟩ := hs
    exact fin (v := V.non) (u := Value.none) J rfl q
  | brk =>
    obtain ⟨_, _, _, q⟩ := hs
    exact False.elim q
  | cont =>
    obtain ⟨_, _, _, q⟩ := hs
    exact False.elim q
end L2

namespace L2
open PySem PySem.Spec PyProof.Rows
section
variable {X : Cx} {x : Str} {p pos : Pos} {e : Expr} {es : List Expr} {t : TA} {id T : String} {r : List V → Hp → VK → Prop}

def tCB (r : List V → Hp → VK → Prop) (t : TA) : TE := fun σ H Q => t σ H fun vs H1 => r vs H1 Q
/-- f(e, ..), f a built-in function -/
theorem pe_callB (hc : CallR X (.builtin id) r) (hg : Gl X x) (hm : X.mg x = none) (hv : bootBuiltins x = some (.builtin id)) (ha : PA X (e :: es) t) (hn : x ≠ "__name__" := by decide) (hdb : (x == ("__debug__" : Str)) = false := by decide)
    (he : starEach (e :: es) X.env = (false, eval e X.env) :: starEach es X.env := by rfl) (hpl : (backTo pos (starEach es X.env)).any (·.1) = false := by rfl) : PE X (.Call (.Name x p) (e :: es) [] pos) (tCB r t) := by
  intro pins s σ H Q I h
  refine wpAny_Call_Name_kw (ld_blt I hg hm hv ?_ hn hdb)
  exact PyProof.Rows.callWith_builtin1 (thn (ha pos pins s σ H _ I h) fun us s1 ⟨vs, H1, I1, r1, q1⟩ => hc pins s1 σ H1 vs us Q I1 r1 q1) he hpl
/-- T(e, ..), T a built-in type -/
theorem pe_callTy (hc : CallR X (.type T) r) (hg : Gl X x) (hm : X.mg x = none) (hv : bootBuiltins x = some (.type T)) (ha : PA X (e :: es) t) (hn : x ≠ "__name__" := by decide) (hdb : (x == ("__debug__" : Str)) = false := by decide)
    (he : starEach (e :: es) X.env = (false, eval e X.env) :: starEach es X.env := by rfl) (hpl : (backTo pos (starEach es X.env)).any (·.1) = false := by rfl) : PE X (.Call (.Name x p) (e :: es) [] pos) (tCB r t) := by
  intro pins s σ H Q I h
  refine wpAny_Call_Name_kw (ld_blt I hg hm hv ?_ hn hdb)
  exact PyProof.Rows.callWith_type1 (thn (ha pos pins s σ H _ I h) fun us s1 ⟨vs, H1, I1, r1, q1⟩ => hc pins s1 σ H1 vs us Q I1 r1 q1) he hpl
end
end L2

namespace HT
open PySem PyProof.Rows



section
open PySem.SeqAt
open PySem.AutoSeq1 (wpAny_loadPart')
open PySem.MeetsSeq PySem.MeetsSeq2 PySem.MeetsSeq3

end

section
variable {prog : Program} {w : World} {A : Around} {E : Value → Shared → Prop} {s : Shared}



/-! ### t[a:b], not the whole -/
/-- a slice's bound as a place among n (d where it is left out) -/
def sIx (n d : Nat) : Option Int → Nat
  | none => d
  | some v => if v < 0 then (v + (n : Int)).toNat else min v.toNat n
theorem sIx_none (n d : Nat) : sIx n d none = d := rfl
theorem sIx_le (n d : Nat) (hd : d ≤ n) (o : Option Int) : sIx n d o ≤ n := by
  cases o with
  | none => exact hd
  | some v =>
    show (if v < 0 then (v + (n : Int)).toNat else min v.toNat n) ≤ n
    by_cases hv : v < 0
    · rw [if_pos hv]; omega
    · rw [if_neg hv]; exact Nat.min_le_right _ _

end
end HT

namespace L2
open PySem PySem.Spec PyProof.Rows

/-! ### the parts of a slice -/
abbrev TO := St → Hp → (Option Int → Hp → Prop) → Prop
/-- a slice's part (left out, or an int) -/
def PO (X : Cx) (e : Option Expr) (t : TO) : Prop :=
  ∀ (pins : List (Addr × Obj)) (s : Shared) (σ : St) (H : Hp) (Q : Option Int → Hp → Prop), Inv X pins σ H s → t σ H Q →
    wpAny (model X.prog X.w) X.A (evalPart e X.env) (fun u s' => ∃ o H', Inv X pins σ H' s' ∧ IsPart u o ∧ Q o H') X.xe s
def tNoPart : TO := fun _ H Q => Q none H
def tPart (t : TE) : TO := fun σ H Q => t σ H fun x H1 => ∃ i, x = .int i ∧ Q (some i) H1


section
variable {X : Cx} {e : Expr} {te : TE} {lo hi : Option Expr} {tl th : TO} {pos p2 : Pos}

theorem po_none : PO X none tNoPart := by
  intro pins s σ H Q I h
  rw [evalPart_none]
  exact wpAny_pure ⟨none, H, I, .none, h⟩
theorem po_some (h : PE X e te) : PO X (some e) (tPart te) := by
  intro pins s σ H Q I hw
  rw [evalPart_some]
  refine thn (h pins s σ H _ I hw) fun u s1 ⟨x, H1, I1, r1, q1⟩ => ?_
  obtain ⟨i, rfl, q⟩ := q1
  obtain ⟨t, rfl⟩ := r1
  exact ⟨some i, H1, I1, .int i t, q⟩

/-- what a slice of a value is, by values: the slice object stands at sl -/
def SlR (X : Cx) (r : V → Option Int → Option Int → Hp → VK → Prop) : Prop :=
  ∀ (pins : List (Addr × Obj)) (s : Shared) (σ : St) (H : Hp) (x : V) (v vl vu : Value) (lo hi : Option Int) (sl : Addr) (Q : VK), Inv X pins σ H s → RelV x v → s.heap.IsSliceOf sl vl vu .none → IsPart vl lo → IsPart vu hi → r x lo hi H Q →
    ∃ T id, typeLookup (.type T) "__getitem__" = pure (some (.builtin id)) ∧ s.TypeIs v T ∧ wpAny (model X.prog X.w) X.A (getItem v (.ref sl)) (EP X pins σ Q) X.xe s
theorem SlR.or {r r' : V → Option Int → Option Int → Hp → VK → Prop} (h : SlR X r) (h' : SlR X r') : SlR X (fun x lo hi H Q => r x lo hi H Q ∨ r' x lo hi H Q) := by
  intro pins s σ H x v vl vu lo hi sl Q I rx hs pl pu q
  rcases q with q | q
  · exact h pins s σ H x v vl vu lo hi sl Q I rx hs pl pu q
  · exact h' pins s σ H x v vl vu lo hi sl Q I rx hs pl pu q
def tSl (r : V → Option Int → Option Int → Hp → VK → Prop) (te : TE) (tl th : TO) : TE := fun σ H Q => te σ H fun x H1 => tl σ H1 fun l H2 => th σ H2 fun u H3 => r x l u H3 Q
/-- a[lo:hi], any a -/
theorem pe_slice {r : V → Option Int → Option Int → Hp → VK → Prop} (hr : SlR X r) (he : PE X e te) (hl : PO X lo tl) (hu : PO X hi th) : PE X (.Subscript e (.Slice lo hi none p2) pos) (tSl r te tl th) := by
  intro pins s σ H Q I h
  refine Subscript_ (thn (he pins s σ H _ I h) fun v s1 ⟨x, H1, I1, r1, q1⟩ => ?_)
  refine wpAny_Slice (thn (hl pins s1 σ H1 _ I1 q1) fun vl s2 ⟨l, H2, I2, pl, q2⟩ => thn (hu pins s2 σ H2 _ I2 q2) fun vu s3 ⟨u, H3, I3, pu, q3⟩ => ?_)
  rw [evalPart_none]
  refine wpAny_pure ?_
  have I4 : Inv X pins σ H3 { s3 with heap := s3.heap.push { cls := .type "slice", data := .fields #[vl, vu, .none] } } := I3.kept (t' := s3.toks) fun b ob q => Heap.get?_push_of_some _ q
  obtain ⟨T, id, hT, ht, hg⟩ := hr pins { s3 with heap := s3.heap.push { cls := .type "slice", data := .fields #[vl, vu, .none] } } σ H3 x v vl vu l u s3.heap.objs.size Q I4 r1 (Heap.IsSliceOf.new ..) pl pu q3
  show wpAny (model X.prog X.w) X.A (subscriptTail e (.Slice lo hi none p2) v (.ref s3.heap.objs.size)) (EP X pins σ Q) X.xe { s3 with heap := s3.heap.push { cls := .type "slice", data := .fields #[vl, vu, .none] } }
  exact tail_any (ops := [.ref s3.heap.objs.size, v]) ht hT hg (by with_unfolding_all rfl)

/-- the items of xs[lo:hi] -/
def cutV (xs : List V) (lo hi : Option Int) : List V := (xs.drop (HT.sIx xs.length 0 lo)).take (HT.sIx xs.length xs.length hi - HT.sIx xs.length 0 lo)
theorem cutV_length (xs : List V) (lo hi : Option Int) : (cutV xs lo hi).length ≤ xs.length := by
  unfold cutV
  rw [List.length_take, List.length_drop]
  omega

/-! ### t < u, t + u -/
end
end L2

namespace L2
open PySem PySem.Spec PyProof.Rows

/-! ### places -/
/-- the place that an index of any sign means -/
def ixN (n : Nat) (i : Int) : Option Nat := if 0 ≤ i then (if i < n then some i.toNat else none) else if -(n : Int) ≤ i then some (i + n).toNat else none
def atI {α : Type} (xs : List α) (i : Int) : Option α := (ixN xs.length i).bind fun j => xs[j]?
theorem ixN_seq {n : Nat} {i : Int} {j : Nat} (h : ixN n i = some j) : seqIndex? i n = some j ∧ j < n ∧ -(n : Int) ≤ i ∧ i < n := by
  unfold ixN at h
  by_cases h0 : 0 ≤ i
  · rw [if_pos h0] at h
    by_cases h1 : i < n
    · rw [if_pos h1] at h
      have e : i.toNat = j := Option.some.inj h
      exact ⟨by rw [seqIndex_of h0 h1, e], by omega, by omega, h1⟩
    · rw [if_neg h1] at h; cases h
  · rw [if_neg h0] at h
    by_cases h1 : -(n : Int) ≤ i
    · rw [if_pos h1] at h
      have e : (i + n).toNat = j := Option.some.inj h
      exact ⟨by rw [seqIndex_neg (by omega) h1, e], by omega, h1, by omega⟩
    · rw [if_neg h1] at h; cases h
theorem atI_get {α : Type} {xs : List α} {i : Int} {v : α} (h : atI xs i = some v) : ∃ j, seqIndex? i xs.length = some j ∧ xs[j]? = some v ∧ j < xs.length ∧ -(xs.length : Int) ≤ i ∧ i < xs.length := by
  unfold atI at h
  cases e : ixN xs.length i with
  | none => rw [e] at h; cases h
  | some j =>
    rw [e] at h
    obtain ⟨h1, h2, h3, h4⟩ := ixN_seq e
    exact ⟨j, h1, h, h2, h3, h4⟩
theorem atI_nat {α : Type} {xs : List α} {j : Nat} {v : α} (h : xs[j]? = some v) : atI xs (j : Int) = some v := by
  have hj : j < xs.length := (List.getElem?_eq_some_iff.mp h).1
  have e : ixN xs.length (j : Int) = some j := by
    unfold ixN
    rw [if_pos (by omega), if_pos (by omega)]; simp
  unfold atI; rw [e]; exact h

/-! ### what may be subscripted -/
/-- what stands as an index of a plain subscript -/
def PlainIx (b : Expr) : Prop := ∀ o i, subscripted b false o i = operate [o, i] (getItem o i)
/-- a subscript by values -/
def IxR (X : Cx) (r : R2) : Prop :=
  ∀ (value slice : Expr) (pins : List (Addr × Obj)) (s : Shared) (σ : St) (H : Hp) (x y : V) (v u : Value) (Q : VK), Inv X pins σ H s → RelV x v → RelV y u → r x y H Q →
    subscripted slice false v u = operate [v, u] (getItem v u) → wpAny (model X.prog X.w) X.A (subscriptTail value slice v u) (EP X pins σ Q) X.xe s
/-- a call of a builtin's method by values: the receiver, the arguments -/
def MtR (X : Cx) (id : String) (r : V → List V → Hp → VK → Prop) : Prop :=
  ∀ (pins : List (Addr × Obj)) (s : Shared) (σ : St) (H : Hp) (x : V) (xs : List V) (v : Value) (us : List Value) (Q : VK), Inv X pins σ H s → RelV x v → Vals xs us → r x xs H Q →
    wpAny (model X.prog X.w) X.A (call (.builtin id) (v :: us)) (EP X pins σ Q) X.xe s
section
variable {X : Cx} {a b : Expr} {ta tb : TE} {pos : Pos}
theorem IxR.or {r r' : R2} (h : IxR X r) (h' : IxR X r') : IxR X (fun x y H Q => r x y H Q ∨ r' x y H Q) := by
  intro value slice pins s σ H x y v u Q I rx ry q hs
  rcases q with q | q
  · exact h value slice pins s σ H x y v u Q I rx ry q hs
  · exact h' value slice pins s σ H x y v u Q I rx ry q hs
theorem MtR.or {id : String} {r r' : V → List V → Hp → VK → Prop} (h : MtR X id r) (h' : MtR X id r') : MtR X id (fun x xs H Q => r x xs H Q ∨ r' x xs H Q) := by
  intro pins s σ H x xs v us Q I rx rs q
  rcases q with q | q
  · exact h pins s σ H x xs v us Q I rx rs q
  · exact h' pins s σ H x xs v us Q I rx rs q
/-- a[b] -/
theorem pe_ix {r : R2} (hr : IxR X r) (ha : PE X a ta) (hb : PE X b tb) (hs : PlainIx b) : PE X (.Subscript a b pos) (tOp r ta tb) := by
  intro pins s σ H Q I h
  exact Subscript_ (binT ha hb I h fun v u s2 x y H2 I2 rx ry q => hr a b pins s2 σ H2 x y v u Q I2 rx ry q (hs _ _))

def rIxL (K : PySem.W.Frag) : R2 := fun x y H Q => ∃ p xs i v, x = .ref p ∧ y = .int i ∧ SqL K H p xs ∧ atI xs i = some v ∧ Q v H
def rIxS : R2 := fun x y H Q => ∃ z i c, x = .str z ∧ y = .int i ∧ z.length ≤ sizeLine ∧ atI z.cps.toList i = some c ∧ Q (.str ⟨#[c]⟩) H
theorem ix_list : IxR X (rIxL X.K) := by
  intro value slice pins s σ H x y v u Q I rx ry h hs
  obtain ⟨p, xs, i, z, rfl, rfl, hq, he, q⟩ := h
  cases rx
  obtain ⟨t, rfl⟩ := ry
  obtain ⟨its, r, pl, hz⟩ := I.list hq
  obtain ⟨j, h1, h2, h3, h4, h5⟩ := atI_get he
  obtain ⟨w, ew, rw'⟩ := r.get h2
  have hl := r.length
  have hn := line63
  have fin : EP X pins σ Q w s := ⟨z, H, I, rw', q⟩
  by_cases h0 : 0 ≤ i
  · have hj : i.toNat = j := by
      rw [seqIndex_of h0 h5] at h1
      exact Option.some.inj h1
    exact item_listR pl.isList h0 (by omega) (by rw [hj]; simpa using ew) fin hs
  · have hj : (i + (its.toArray.size : Int)).toNat = j := by
      rw [seqIndex_neg (by omega) h4] at h1
      rw [List.size_toArray, ← hl]
      exact Option.some.inj h1
    exact subscriptTail_builtinR (x := w) pl.isList.typeIs slot_list_getitem.lookup
      (wpAny_getItem_list_neg (Q := fun r s' => r = w ∧ EP X pins σ Q r s') pl.isList (by omega) (by rw [List.size_toArray] <;> omega) (by omega) (by rw [hj]; simpa using ew) ⟨rfl, fin⟩) hs
theorem ix_str : IxR X rIxS := by
  intro value slice pins s σ H x y v u Q I rx ry h hs
  obtain ⟨z, i, c, rfl, rfl, hz, he, q⟩ := h
  obtain ⟨t, rfl⟩ := rx
  obtain ⟨t', rfl⟩ := ry
  obtain ⟨j, h1, h2, h3, h4, h5⟩ := atI_get he
  have hl : z.cps.toList.length = z.length := by simp [Str.length]
  rw [hl] at h1 h4 h5
  have hn := line63
  exact tail_any (typeIs_str s z t) slot_str_getitem.lookup (getItem_str (c := c) (by
    have e1 : decide (i < -(2 ^ 63 : Int)) = false := decide_eq_false (by omega)
    have e2 : decide (i ≥ 2 ^ 63) = false := decide_eq_false (by omega)
    rw [e1, e2, Bool.or_false]) (by rw [h1]; simpa using h2) ⟨.str ⟨#[c]⟩, H, I.tok _, ⟨_, rfl⟩, q⟩) hs

/-! ### xs[i] = v, any sign -/
theorem Inv.lst {pins : List (Addr × Obj)} {σ : St} {H : Hp} {s : Shared} {p : Addr} {xs : List V} (I : Inv X pins σ H s) (h : H p = some (.lst xs)) :
    ∃ (its : List Value) (n : Nat), Vals xs its ∧ s.heap.get? p = some { cls := .type "list", data := .seq its.toArray n } ∧ xs.length ≤ sizeLine := by
  obtain ⟨z, its, n, r, e⟩ := I.hok p _ h
  exact ⟨its, n, r, e, z⟩

/-! ### slices -/
theorem slice_bounds (lo hi : Option Int) (n : Nat) : (sliceBounds lo hi none n).1 = ((HT.sIx n 0 lo : Nat) : Int) ∧ (sliceBounds lo hi none n).2.1 = ((HT.sIx n n hi : Nat) : Int) ∧ (sliceBounds lo hi none n).2.2 = 1 := by
  refine ⟨?_, ?_, rfl⟩
  · cases lo with
    | none => simp [sliceBounds, HT.sIx]
    | some i =>
      simp only [sliceBounds, HT.sIx, Option.getD_none, show (1 : Int) > 0 by decide, if_true]
      by_cases h : i < 0
      · simp only [h, if_true] <;> omega
      · simp only [h, if_false] <;> omega
  · cases hi with
    | none => simp [sliceBounds, HT.sIx]
    | some i =>
      simp only [sliceBounds, HT.sIx, Option.getD_none, show (1 : Int) > 0 by decide, if_true]
      by_cases h : i < 0
      · simp only [h, if_true] <;> omega
      · simp only [h, if_false] <;> omega
theorem slicePick_cut (its : List Value) (lo hi : Option Int) : slicePick its.toArray lo hi none = ((its.drop (HT.sIx its.length 0 lo)).take (HT.sIx its.length its.length hi - HT.sIx its.length 0 lo)).toArray := by
  obtain ⟨h1, h2, h3⟩ := slice_bounds lo hi its.toArray.size
  unfold slicePick
  rw [h1, h2, h3]
  simp only [sliceRange_one, pick_run, List.size_toArray] <;> rfl
/-- xs[lo:hi] of a list: a new list -/
def rSlL (K : PySem.W.Frag) : V → Option Int → Option Int → Hp → VK → Prop := fun x lo hi H Q => ∃ a xs, x = .ref a ∧ SqL K H a xs ∧ ∀ p, H p = none → Q (.ref p) (upd H p (.lst (cutV xs lo hi)))
theorem sl_list : SlR X (rSlL X.K) := by
  intro pins s σ H x v vl vu lo hi sl Q I rx hs pl pu h
  obtain ⟨a, xs, rfl, hx, q⟩ := h
  cases rx
  obtain ⟨its, r, ht, hz⟩ := I.list hx
  have hlen := r.length
  refine ⟨"list", _, slot_list_getitem.lookup, ht.isList.typeIs, ?_⟩
  refine wpAny_getItem_list_slice ht.isList hs pl pu .none (by simp) ?_ (by rw [List.size_toArray] <;> omega)
  rw [slicePick_cut, ← hlen]
  refine ⟨.ref s.heap.objs.size, _, I.laid (t' := s.toks) (o := .lst (cutV xs lo hi)) (fun b ob q => Heap.get?_push_of_some _ q) (Nat.le_refl _) ?_, rfl, q _ (I.hok.fresh (Nat.le_refl _))⟩
  exact ⟨Nat.le_trans (cutV_length xs lo hi) hz, _, 0, (r.drop (HT.sIx xs.length 0 lo)).take (HT.sIx xs.length xs.length hi - HT.sIx xs.length 0 lo), Heap.get?_push_size _ rfl⟩

/-! ### in, not in: flat items -/
def flatV : V → Bool
  | .non => true
  | .bl _ => true
  | .int _ => true
  | .str _ => true
  | _ => false
/-- == of flat values -/
def eqV : V → V → Bool
  | .non, .non => true
  | .bl a, .bl b => a == b
  | .bl a, .int b => (if a then 1 else 0) == b
  | .int a, .bl b => a == (if b then 1 else 0)
  | .int a, .int b => a == b
  | .str a, .str b => a == b
  | _, _ => false
theorem eqAt_V {A : Around} {s : Shared} {y x : V} {u v : Value} (ry : RelV y u) (rx : RelV x v) (fy : flatV y = true) (fx : flatV x = true) : SeqAt.EqAt A s u v (eqV y x) := by
  cases y with
  | non =>
    cases ry
    cases x with
    | non => cases rx; exact SeqAt.EqAt.same _
    | bl b => cases rx; exact SeqAt.EqAt.none_bool b
    | int b => obtain ⟨t, rfl⟩ := rx; exact SeqAt.EqAt.none_int b t
    | str b => obtain ⟨t, rfl⟩ := rx; exact SeqAt.EqAt.none_str b t
    | _ => exact absurd (show false = true from fx) Bool.false_ne_true
  | bl a =>
    cases ry
    cases x with
    | non => cases rx; exact SeqAt.EqAt.bool_none a
    | bl b => cases rx; exact SeqAt.EqAt.bool_bool a b
    | int b => obtain ⟨t, rfl⟩ := rx; exact SeqAt.EqAt.bool_int a b t
    | str b => obtain ⟨t, rfl⟩ := rx; exact SeqAt.EqAt.bool_str a b t
    | _ => exact absurd (show false = true from fx) Bool.false_ne_true
  | int a =>
    obtain ⟨t', rfl⟩ := ry
    cases x with
    | non => cases rx; exact SeqAt.EqAt.int_none a t'
    | bl b => cases rx; exact SeqAt.EqAt.int_bool a t' b
    | int b => obtain ⟨t, rfl⟩ := rx; exact SeqAt.EqAt.int_int a t' b t
    | str b => obtain ⟨t, rfl⟩ := rx; exact SeqAt.EqAt.int_str a t' b t
    | _ => exact absurd (show false = true from fx) Bool.false_ne_true
  | str a =>
    obtain ⟨t', rfl⟩ := ry
    cases x with
    | non => cases rx; exact SeqAt.EqAt.str_none a t'
    | bl b => cases rx; exact SeqAt.EqAt.str_bool a t' b
    | int b => obtain ⟨t, rfl⟩ := rx; exact SeqAt.EqAt.str_int a t' b t
    | str b => obtain ⟨t, rfl⟩ := rx; exact SeqAt.EqAt.str_str a t' b t
    | _ => exact absurd (show false = true from fx) Bool.false_ne_true
  | _ => exact absurd (show false = true from fy) Bool.false_ne_true
/-- the items' answers, read off the values (a value's own answer does not lean on its token) -/
def eqU (x : V) (u : Value) : Bool := match u with
  | .none => eqV .non x
  | .bool b => eqV (.bl b) x
  | .int i _ => eqV (.int i) x
  | .str z _ => eqV (.str z) x
  | _ => false
theorem eqU_of {x y : V} {u : Value} (r : RelV y u) (f : flatV y = true) : eqU x u = eqV y x := by
  cases y with
  | non => cases r; rfl
  | bl b => cases r; rfl
  | int i => obtain ⟨t, rfl⟩ := r; rfl
  | str z => obtain ⟨t, rfl⟩ := r; rfl
  | _ => exact absurd (show false = true from f) Bool.false_ne_true
theorem any_eqU {x : V} : ∀ {xs : List V} {us : List Value}, Vals xs us → xs.all flatV = true → us.any (eqU x) = xs.any fun y => eqV y x
  | _, _, .nil, _ => rfl
  | y :: xs, u :: us, .cons r t, f => by
    rw [List.all_cons, Bool.and_eq_true] at f
    rw [List.any_cons, List.any_cons, eqU_of r f.1, any_eqU t f.2]
theorem mem_eqAt {A : Around} {s : Shared} {x : V} {v : Value} (rx : RelV x v) (fx : flatV x = true) : ∀ {xs : List V} {us : List Value}, Vals xs us → xs.all flatV = true → ∀ u ∈ us, SeqAt.EqAt A s u v (eqU x u)
  | _, _, .nil, _ => fun u hu => by cases hu
  | y :: xs, u :: us, .cons r t, f => fun u' hu => by
    rw [List.all_cons, Bool.and_eq_true] at f
    rcases List.mem_cons.mp hu with rfl | hu
    · rw [eqU_of r f.1]; exact eqAt_V r rx f.1 fx
    · exact mem_eqAt rx fx t f.2 u' hu
def inV (x : V) (xs : List V) : Bool := xs.any fun y => eqV y x
/-- x in a list or tuple of flat items -/
def rIn (K : PySem.W.Frag) (neg : Bool) : R2 := fun x y H Q => ∃ p xs, y = .ref p ∧ (SqL K H p xs ∨ SqT K H p xs) ∧ flatV x = true ∧ xs.all flatV = true ∧ Q (.bl (if neg then !inV x xs else inV x xs)) H
theorem op_in_seq : OpR X (compareOp .In) (rIn X.K false) := by
  intro pins s σ H x y v u Q I rx ry h
  obtain ⟨p, xs, rfl, hq, fx, fs, q⟩ := h
  cases ry
  rcases hq with hq | hq
  · obtain ⟨its, r, pl, hz⟩ := I.list hq
    refine SeqAt.in_listAt (eqU x) pl.isList (fun w hw => mem_eqAt rx fx r fs w (by simpa using hw)) ⟨.bl _, H, I, rfl, ?_⟩
    rw [show its.toArray.any (eqU x) = its.any (eqU x) by simp, any_eqU r fs]
    exact q
  · obtain ⟨its, r, pl, hz⟩ := I.tuple hq
    refine SeqAt.in_tupleAt (eqU x) pl (fun w hw => mem_eqAt rx fx r fs w (by simpa using hw)) ⟨.bl _, H, I, rfl, ?_⟩
    rw [show its.toArray.any (eqU x) = its.any (eqU x) by simp, any_eqU r fs]
    exact q

/-! ### len, list(x), tuple(x) of any list or tuple that is read -/
theorem call_len_seq : CallR X (.builtin "len") (fun xs H Q => ∃ p ys, xs = [.ref p] ∧ (SqL X.K H p ys ∨ SqT X.K H p ys) ∧ Q (.int ys.length) H) := by
  intro pins s σ H xs us Q I r h
  obtain ⟨p, ys, rfl, hq, q⟩ := h
  obtain ⟨u, rfl, rx⟩ := vals1 r
  cases rx
  have hn := line63
  rcases hq with hq | hq
  · obtain ⟨its, r', pl, hz⟩ := I.list hq
    have hlen := r'.length
    exact Calls.call_len_list pl.isList (by simp only [List.size_toArray] <;> omega) ⟨.int ys.length, H, I.tok _, ⟨s.toks + 1, by rw [List.size_toArray, hlen]⟩, q⟩
  · obtain ⟨its, r', pl, hz⟩ := I.tuple hq
    have hlen := r'.length
    exact len_tuple pl (by simp only [List.size_toArray] <;> omega) ⟨.int ys.length, H, I.tok _, ⟨s.toks + 1, by rw [List.size_toArray, hlen]⟩, q⟩
theorem call_len_str : CallR X (.builtin "len") (fun xs H Q => ∃ z, xs = [.str z] ∧ z.length ≤ sizeLine ∧ Q (.int z.length) H) := by
  intro pins s σ H xs us Q I r h
  obtain ⟨z, rfl, hz, q⟩ := h
  obtain ⟨u, rfl, t, rfl⟩ := vals1 r
  have hn := line63
  exact len_str (by omega) ⟨.int z.length, H, I.tok _, ⟨_, rfl⟩, q⟩
theorem CallR.or {f : Value} {r r' : List V → Hp → VK → Prop} (h : CallR X f r) (h' : CallR X f r') : CallR X f (fun xs H Q => r xs H Q ∨ r' xs H Q) := by
  intro pins s σ H xs us Q I rs q
  rcases q with q | q
  · exact h pins s σ H xs us Q I rs q
  · exact h' pins s σ H xs us Q I rs q

/-! ### the call of a builtin's method: o.m(..) -/
/-- the value is of that builtin type -/
def tyV (K : PySem.W.Frag) (T : String) (x : V) (H : Hp) : Prop := match x with
  | .str _ => T = "str"
  | .int _ => T = "int"
  | .ref p => (T = "list" ∧ ∃ xs, SqL K H p xs) ∨ (T = "tuple" ∧ ∃ o, K.lookup p = some o ∧ o.cls = .type "tuple" ∧ o.dict = none) ∨
      (T = "dict" ∧ ((∃ kvs, H p = some (.dK kvs)) ∨ ∃ kvs, H p = some (.dT kvs))) ∨ (T = "set" ∧ ∃ S n, H p = some (.set S n))
  | _ => False
theorem tyV_is {pins : List (Addr × Obj)} {σ : St} {H : Hp} {s : Shared} {T : String} {x : V} {v : Value} (I : Inv X pins σ H s) (r : RelV x v) (ty : tyV X.K T x H) :
    s.TypeIs v T ∧ ∀ a, v = .ref a → ∃ ob, s.heap.get? a = some ob ∧ ob.dict = none := by
  cases x with
  | str z =>
    obtain ⟨t, rfl⟩ := r
    cases (show T = "str" from ty)
    exact ⟨typeIs_str s z t, fun _ e => nomatch e⟩
  | int i =>
    obtain ⟨t, rfl⟩ := r
    cases (show T = "int" from ty)
    exact ⟨typeIs_int s i t, fun _ e => nomatch e⟩
  | ref p =>
    cases r
    rcases ty with ⟨rfl, xs, hq⟩ | ⟨rfl, o, hk, hc, hd⟩ | ⟨rfl, hk⟩ | ⟨rfl, S, n, hk⟩
    · obtain ⟨its, _, pl, _⟩ := I.list hq
      refine ⟨pl.isList.typeIs, fun a e => ?_⟩
      cases e
      obtain ⟨o, n, e, c, hd, _⟩ := pl
      exact ⟨o, e, hd⟩
    · refine ⟨⟨o, I.kIn p o hk, hc⟩, fun a e => ?_⟩
      cases e
      exact ⟨o, I.kIn _ o hk, hd⟩
    · have z : ∃ o, s.heap.get? p = some o ∧ o.ExactDict := by
        rcases hk with ⟨kvs, hk⟩ | ⟨kvs, hk⟩
        · obtain ⟨_, _, _, _, o, _, _, e, ex, _⟩ := I.hok p _ hk
          exact ⟨o, e, ex⟩
        · obtain ⟨_, _, _, _, o, _, _, e, ex, _⟩ := I.hok p _ hk
          exact ⟨o, e, ex⟩
      obtain ⟨o, e, ex⟩ := z
      refine ⟨⟨o, e, ex.1⟩, fun a e2 => ?_⟩
      cases e2
      exact ⟨o, e, ex.2.1⟩
    · obtain ⟨o, _, _, _, e, ex, _⟩ := I.hok p _ hk
      refine ⟨⟨o, e, ex.1⟩, fun a e2 => ?_⟩
      cases e2
      exact ⟨o, e, ex.2.1⟩
  | _ => exact False.elim ty
def tBM (K : PySem.W.Frag) (T : String) (r : V → List V → Hp → VK → Prop) (to : TE) (t : TA) : TE := fun σ H Q => to σ H fun x H1 => tyV K T x H1 ∧ t σ H1 fun xs H2 => r x xs H2 Q
variable {o e : Expr} {es : List Expr} {to : TE} {t : TA} {name : Str} {apos cpos : Pos} {T id : String} {r : V → List V → Hp → VK → Prop}
theorem pe_bm (pa : PlainAttrs T) (slot : Slot T name id) (hty : typeOf (.builtin id) = pure (.type "method_descriptor")) (hm : MtR X id r) (ho : PE X o to) (ha : PA X (e :: es) t)
    (hbase : attributeBase o name X.env (eval o X.env) = eval o X.env := by rfl)
    (hfew : ((backTo cpos (starEach (e :: es) X.env)).all (fun x => !x.1) && (backToKw cpos (keywordEach [] X.env)).all (fun x => x.1.isSome)
      && decide ((e :: es).length + ([] : List Keyword).length + (if ([] : List Keyword).isEmpty then 0 else 1) < 30)) = true := by rfl)
    (hline : (apos.endLine == cpos.line) = true := by rfl) (hs : starEach (e :: es) X.env = (false, eval e X.env) :: starEach es X.env := by rfl) (hplain : (backTo cpos (starEach es X.env)).any (·.1) = false := by rfl) :
    PE X (.Call (.Attribute o name apos) (e :: es) [] cpos) (tBM X.K T r to t) := by
  intro pins s σ H Q I h
  refine wpAny_Call_method_late hbase hfew hline rfl (thn (ho pins s σ H _ I h) fun v s1 ⟨x, H1, I1, r1, ty, q1⟩ => ?_)
  obtain ⟨h1, h2⟩ := tyV_is I1 r1 ty
  refine ⟨T, id, pa, slot, hty, h1, h2, ?_⟩
  have hA := ha cpos pins s1 σ H1 _ I1 q1
  rw [hs] at hA ⊢
  refine Calls.callWith_builtin (by show (false || (backTo cpos (starEach es X.env)).any (·.1)) = false; rw [hplain] <;> rfl) (Calls.evalArgs_plain ?_)
  exact thn hA fun us s2 ⟨vs, H2, I2, r2, q2⟩ => hm pins s2 σ H2 x vs v us Q I2 r1 r2 q2
/- xs.append(e), list.index on a module's tuple .. are MtR facts of 06m -/
end
end L2

namespace L2
open PySem PySem.Spec PyProof.Rows

def MtM (X : Cx) (id : String) (r : V → List V → Hp → VK → Prop) : Prop :=
  ∀ (pins : List (Addr × Obj)) (s : Shared) (σ : St) (H : Hp) (x : V) (xs : List V) (v : Value) (us : List Value) (Q : VK), Inv X pins σ H s → RelV x v → Vals xs us → r x xs H Q →
    wpAny (model X.prog X.w) X.A (call (.builtin id) (v :: us)) (EP X pins σ Q) X.xe s

/-! ### lists of values -/
theorem Vals.one : ∀ {x : V} {us : List Value}, Vals [x] us → ∃ u, us = [u] ∧ RelV x u
  | _, _, .cons r .nil => ⟨_, rfl, r⟩
theorem Vals.two : ∀ {x y : V} {us : List Value}, Vals [x, y] us → ∃ u v, us = [u, v] ∧ RelV x u ∧ RelV y v
  | _, _, _, .cons r (.cons q .nil) => ⟨_, _, rfl, r, q⟩
theorem Vals.zero : ∀ {us : List Value}, Vals [] us → us = []
  | _, .nil => rfl
theorem Vals.dropLast {xs : List V} {us : List Value} (h : Vals xs us) : Vals xs.dropLast us.dropLast := by
  induction h with
  | nil => exact .nil
  | cons r t ih =>
    cases t with
    | nil => exact .nil
    | cons q t' => exact .cons r ih
theorem Vals.eraseIdx : ∀ {xs : List V} {us : List Value} (i : Nat), Vals xs us → Vals (xs.eraseIdx i) (us.eraseIdx i)
  | _, _, _, .nil => .nil
  | _, _, 0, .cons _ t => t
  | _, _, i + 1, .cons r t => .cons r (Vals.eraseIdx i t)
theorem Vals.reverse {xs : List V} {us : List Value} (h : Vals xs us) : Vals xs.reverse us.reverse := by
  induction h with
  | nil => exact .nil
  | cons r t ih => rw [List.reverse_cons, List.reverse_cons]; exact Vals.append ih (.cons r .nil)
theorem Vals.rep {xs : List V} {us : List Value} (h : Vals xs us) : ∀ k : Nat, Vals (List.replicate k xs).flatten (List.replicate k us).flatten
  | 0 => .nil
  | k + 1 => by
    rw [List.replicate_succ, List.replicate_succ, List.flatten_cons, List.flatten_cons]
    exact Vals.append h (Vals.rep h k)
theorem foldl_rep (its : List Value) : ∀ (k : Nat) (acc : List Value),
    List.foldl (fun x1 x2 => x1 ++ x2) acc.toArray (List.replicate k its.toArray) = (acc ++ (List.replicate k its).flatten).toArray
  | 0, acc => by simp
  | k + 1, acc => by
    have e : acc.toArray ++ its.toArray = (acc ++ its).toArray := by simp
    have e2 : (acc ++ its) ++ (List.replicate k its).flatten = acc ++ (List.replicate (k + 1) its).flatten := by
      rw [List.replicate_succ, List.flatten_cons, List.append_assoc]
    rw [← e2, ← foldl_rep its k (acc ++ its), ← e, List.replicate_succ, List.foldl_cons]

section
variable {X : Cx} {pins : List (Addr × Obj)} {σ : St} {H : Hp} {s : Shared} {l b : Addr} {xs ys zs : List V}

/-! ### the two steps: a tracked list is rewritten, a new list is laid -/
theorem Inv.lset {its its' : List Value} {n : Nat} {f : Array Value → Array Value} {t' : Nat} (I : Inv X pins σ H s) (hH : H l = some (.lst xs))
    (e : s.heap.get? l = some { cls := .type "list", data := .seq its.toArray n }) (hf : f its.toArray = its'.toArray) (hv : Vals ys its') (hz : ys.length ≤ sizeLine) :
    Inv X pins σ (upd H l (.lst ys)) { s with heap := s.heap.update l (Obj.mapSeq f), toks := t' } := by
  have q := PySem.IsL.update e f
  rw [hf] at q
  refine I.write (x := l) (e := l) (by rw [hH]; exact trivial) (.inl rfl) (fun b' u hb hu => (Heap.get?_update_other s.heap (Obj.mapSeq f) (Ne.symm hb)).trans hu) ⟨_, q⟩ ?_
  exact ⟨hz, its', _, hv, q⟩
theorem Inv.lnew {its : List Value} {t' : Nat} (I : Inv X pins σ H s) (hv : Vals ys its) (hz : ys.length ≤ sizeLine) :
    Inv X pins σ (upd H s.heap.objs.size (.lst ys)) { s with heap := s.heap.push { cls := .type "list", data := .seq its.toArray }, toks := t' } :=
  I.laid (fun _ _ q => Heap.get?_push_of_some _ q) (Nat.le_refl _) ⟨hz, its, 0, hv, Heap.get?_push_size _ rfl⟩
theorem Inv.fresh (I : Inv X pins σ H s) : H s.heap.objs.size = none := I.hok.fresh (Nat.le_refl _)
theorem Inv.lstM (I : Inv X pins σ H s) (hH : H l = some (.lst xs)) : xs.length ≤ sizeLine ∧ ∃ (its : List Value) (n : Nat), Vals xs its ∧ xs.length = its.length ∧ s.heap.get? l = some { cls := .type "list", data := .seq its.toArray n } := by
  obtain ⟨z, its, n, r, e⟩ := I.hok l _ hH
  exact ⟨z, its, n, r, r.length, e⟩

theorem notLongL {n : Nat} (h : n ≤ sizeLine) : Builtin.List.listTooLong n = false := by
  unfold Builtin.List.listTooLong
  exact decide_eq_false (by omega)
end

section
variable {X : Cx}

/-! ### methods -/






/-! ### list + list, list += list, list * int -/
def rCat : R2 := fun x y H Q => ∃ l b xs zs, x = .ref l ∧ y = .ref b ∧ H l = some (.lst xs) ∧ H b = some (.lst zs) ∧ xs.length + zs.length ≤ sizeLine ∧ ∀ p, H p = none → Q (.ref p) (upd H p (.lst (xs ++ zs)))
theorem op_cat : OpR X (binaryOp .Add) rCat := by
  intro pins s σ H x y v u Q I rx ry h
  obtain ⟨l, b, xs, zs, rfl, rfl, hH, hB, hz, q⟩ := h
  cases rx
  cases ry
  obtain ⟨z, its, n, r, hl, e⟩ := I.lstM hH
  obtain ⟨z2, its2, n2, r2, hl2, e2⟩ := I.lstM hB
  refine PySem.P.add_list e e2 ?_ (by rw [List.size_toArray, List.size_toArray]; omega)
  have ea : its.toArray ++ its2.toArray = (its ++ its2).toArray := by simp
  rw [ea]
  exact ⟨.ref _, _, I.lnew (t' := s.toks) (r.append r2) (by rw [List.length_append]; omega), rfl, q _ I.fresh⟩
/-- a list times an int (a negative one is nothing) -/
def rRep : R2 := fun x y H Q => ∃ l k xs, x = .ref l ∧ y = .int k ∧ H l = some (.lst xs) ∧ -(2 ^ 63) ≤ k ∧ k < 2 ^ 63 ∧ xs.length * k.toNat ≤ sizeLine ∧
  ∀ p, H p = none → Q (.ref p) (upd H p (.lst (List.replicate k.toNat xs).flatten))
theorem len_rep {α : Type} (xs : List α) (k : Nat) : (List.replicate k xs).flatten.length = k * xs.length := by
  induction k with
  | zero => simp
  | succ k ih => rw [List.replicate_succ, List.flatten_cons, List.length_append, ih, Nat.succ_mul, Nat.add_comm]
theorem op_rep : OpR X (binaryOp .Mult) rRep := by
  intro pins s σ H x y v u Q I rx ry h
  obtain ⟨l, k, xs, rfl, rfl, hH, h1, h2, hz, q⟩ := h
  cases rx
  obtain ⟨t, rfl⟩ := ry
  obtain ⟨z, its, n, r, hl, e⟩ := I.lstM hH
  have hlen : its.toArray.size * k.toNat ≤ sizeLine := by rw [List.size_toArray, ← hl]; exact hz
  have hcap : ¬ its.toArray.size * k.toNat > (2 ^ 63 - 1) / 8 := by
    have : (sizeLine : Nat) ≤ (2 ^ 63 - 1) / 8 := by decide
    omega
  have hfit : ¬ (!Builtin.List.listFitsIndex k) = true := by
    rw [fitsIndex_both h1 h2]
    exact Bool.false_ne_true
  have hlong : ¬ Builtin.List.listTooLong (its.toArray.size * k.toNat) = true := by
    rw [notLongL hlen]
    exact Bool.false_ne_true
  have hnew : List.foldl (fun x1 x2 => x1 ++ x2) #[] (List.replicate (if its.toArray.isEmpty = true then 0 else k.toNat) its.toArray) = (List.replicate k.toNat its).flatten.toArray := by
    have f0 : ∀ m : Nat, List.foldl (fun x1 x2 => x1 ++ x2) #[] (List.replicate m its.toArray) = (List.replicate m its).flatten.toArray := fun m => by
      have := foldl_rep its m []
      rw [List.nil_append] at this
      exact this
    rw [f0]
    cases its with
    | nil => simp
    | cons a r' => rw [if_neg (by simp)]
  refine wpAny_binaryOp_repeat_ref (T := "list") (U := "int") (by decide) ⟨_, e, rfl⟩ (fun s' => typeIs_int s' k t) noFill_list_mul F.fills_int_mul F.slot_int_rmul repeat_list F.slot_int_index.lookup
    (call_meets F.slot_int_rmul (typeIs_int s k t) F.entry_int_rmul (F.args_int_rmul_2 _ _) (int___rmul___int_list k t l its.toArray n)
      ⟨e, rfl, ⟨_, e, rfl⟩, call_meets F.slot_list_mul ⟨_, e, rfl⟩ F.entry_list_mul (F.args_list_mul_2 _ _) (AutoListH.list___mul___list_int_3 l its.toArray n k t hfit hcap hlong) ⟨e, ?_⟩⟩)
  rw [hnew]
  exact ⟨.ref _, _, I.lnew (t' := s.toks) (r.rep k.toNat) (by rw [len_rep, Nat.mul_comm]; exact hz), rfl, q _ I.fresh⟩

/-! ### del xs[i] -/
end

/-! ### xs[a:b] = ys -/
section
variable {prog : Program} {w : World} {A : Around} {E : Value → Shared → Prop} {s : Shared}
set_option maxRecDepth 100000 in
end

section
variable {X : Cx}
end
end L2

namespace Att
open PySem PySem.W PySem.Calls PyProof.Rows

/-! ### the script -/
theorem ints_of_wellAll {P : Params} {h : Heap} : ∀ (ns : List Int) (vs : List Value), WellAll P h vs (ns.map WData.int) → IntsAre vs ns := by
  intro ns
  induction ns with
  | nil =>
    intro vs w
    rw [List.map_nil] at w
    cases w
    exact .nil
  | cons n ns ih =>
    intro vs w
    rw [List.map_cons] at w
    cases w with
    | cons a b =>
      cases a
      exact .cons _ _ (ih _ b)

theorem script_of {l : OpenLaw} {n : Nat} (hn : l.most = some n) {P : Params} {h : Heap} {args : List WData} {vals : List Value}
    (hpre : l.row.toRowW.claim.pre args = true) (hwl : WellAll P h vals args) :
    ∃ a vs ns, vals = [Value.ref a] ∧ args = [WData.list (ns.map WData.int)] ∧ h.get? a = some { cls := .type "list", data := .seq vs.toArray } ∧ IntsAre vs ns ∧ ns.length ≤ n := by
  have hsh : WShape.hasAll [] args [.list .int] = true := (pre_splitW hpre).1
  have hc : l.pre.holds [] { args := args } = true := (pre_splitW hpre).2
  obtain ⟨d, r, rfl, h1, h2⟩ := hasAllW_cons hsh
  obtain rfl := hasAllW_nil h2
  obtain ⟨xs, rfl, h3⟩ := hasW_list h1
  obtain ⟨ns, rfl⟩ := items_int h3
  have hlen : ns.length ≤ n := by
    unfold OpenLaw.pre at hc
    have h4 : (WTm.not (.lt (.lit (.int (n : Int))) (.len (.arg 0)))).holds [] { args := [.list (ns.map .int)] } = true := by
      have h4 := (holds_andW hc).1
      rw [hn] at h4
      exact h4
    have h5 := condW_of h4 (w_not (w_lt w_lit (w_len_list (w_arg rfl))))
    rw [List.length_map] at h5
    refine Nat.le_of_not_lt fun q => ?_
    have q' : (n : Int) < ((ns.length : Nat) : Int) := by omega
    first
      | (rw [decide_eq_true q'] at h5; exact absurd h5 (by decide))
      | (simp at h5; omega)
  cases hwl with
  | cons w1 w2 =>
    cases w2
    cases w1 with
    | list ho hall => exact ⟨_, _, ns, rfl, rfl, ho, ints_of_wellAll ns _ hall, hlen⟩

theorem post_true (l : OpenLaw) (args : List WData) : l.row.toRowW.claim.post args (.bool true) args = true :=
  postW_of (r := l.row.toRowW) (X := (true == true))
    (show WShape.has [] (.bool true) .bool = true by first | rfl | decide | simp [WShape.has, WShape.arms, WShape.armsAll])
    (show (WTm.eq .res (.lit (.bool true))).value [] { args := args, res := some (.bool true), after := args } = some (.bool (true == true)) from w_eq_bool (w_res rfl) w_lit) rfl

/-! ### the attachment: holds_open's last premise (the goal 'hc' behind k_head) from a wpAny of the law's body -/

/-- the same from a codeAny of the CALL (for a layer whose function contracts speak of calls) -/
theorem attach_call {l : OpenLaw} {n : Nat} {q : Program} {loose : List Str} {XP : (Str → Option Value) → Heap → Prop} {YP : World → Heap → Prop} {d : DefRec}
    (hn : l.most = some n) (hdf : d.params.defaults = [])
    (call : ∀ (w : World) (s₀ s₁ : Shared) (mg mb : Str → Option Value) (fa : Addr) (o : Obj) (pm cd doc : Value) (a : Addr) (vs : List Value) (ns : List Int),
      Ground q loose [] XP w s₀ mg mb s₁.heap → YP w s₁.heap →
      s₁.heap.get? fa = some o → o.data = .func (docDef d.name d.params d.body d.scope pm cd doc) → s₁.heap.CodeRec cd d.name → mg d.name = some (.ref fa) →
      s₁.heap.get? a = some { cls := .type "list", data := .seq vs.toArray } → IntsAre vs ns → ns.length ≤ n → s₁.gens = #[] →
      codeAny (model l.prog w) callerA (.call (.ref fa) ⟨[.ref a], []⟩) (fun r s' => r = .ok (.ret (.bool true)) ∧ OldK s₁.heap s'.heap ∧ s'.os = s₁.os ∧ AllBare s'.gens) s₁) :
    WalkO q loose XP YP l.row.toRowW d [] (fun f vs => PySem.call f vs) := by
  intro w s₀ s₁ mg mb G Y fa o pm cd doc dV kV ho hd hcd hD hmg hg args vals as hpre hlay hrd hwl hlo
  obtain rfl : dV = .none := Dflts.none hD hdf
  obtain rfl : kV = .none := Dflts.noKw hD
  obtain ⟨a, vs, ns, rfl, rfl, hobj, hints, hlen⟩ := script_of hn hpre hwl
  refine enter_call (codeAny_mono (call w s₀ s₁ mg mb fa o pm cd doc a vs ns G Y ho (fd_plain hd) hcd hmg hobj hints hlen hg) fun r s' hq => ?_)
  obtain ⟨rfl, h2, h3, h4⟩ := hq
  exact ⟨.inl ⟨.bool true, .bool true, [], rfl, fun _ => rfl, .bool true, post_true l _, fun _ => ⟨List.Pairwise.nil, fun _ hm => (nomatch hm)⟩⟩, h2, h3, h4⟩


/-! ### rules over ANY heap (no ledger) from facts about the written part K: the library's own take a ledger (News) for what they write -/
section
variable {prog : Program} {w : World} {A : Around} {E : Value → Shared → Prop} {s : Shared} {K : Frag}





/-! the whole heap as the ledger: makes every rule that writes through a ledger a rule over any heap -/
def ledger (h : Heap) (L d : Addr) : List (Addr × Obj) := (List.range h.objs.size).filterMap fun a => if a = L ∨ a = d then none else (h.get? a).map fun o => (a, o)

end
end Att

namespace L2
open PySem PySem.Spec PyProof.Rows

theorem vals_ints : ∀ {vs : List Value} {ns : List Int}, IntsAre vs ns → Vals (ns.map V.int) vs
  | _, _, .nil => .nil
  | _, _, .cons n t h => .cons ⟨t, rfl⟩ (vals_ints h)

/-- nothing is tracked but the script, known to the object (or it is an object of the module) -/
def Only (H : Hp) : Prop := ∀ b, H b = none ∨ ∃ o xs, H b = some (.frz o (.lst xs))

/-- THE HEAD: the law's promise, at the heap behind the top. F, the promise of the law's def, may use that base is part of the heap (so K.In base, base.Ns mainGlobals mg stand in Mod) -/
theorem law_call {P : Program} {w : World} {K : PySem.W.Frag} {mg mb : Str → Option Value} {CX : CXT} {k : Nat} {fa a : Addr} {fd : FuncData} {x : Str} {sp : Sp} {s₁ : Shared} {vs : List Value} {ns : List Int}
    (KX : K.In s₁.heap) (hns : s₁.heap.Ns mainGlobals mg) (hb : s₁.heap.Ns builtinsNs mb) (hbb : ∀ x : Str, x ≠ "__name__" → mb x = bootBuiltins x) (hlim : s₁.heap.NoLimit) (hg : s₁.gens = #[])
    (ha : s₁.heap.get? a = some { cls := .type "list", data := .seq vs.toArray }) (hi : IntsAre vs ns) (hl : ns.length ≤ sizeLine) (hr : Room k callerA)
    (F : ∀ base : Heap, K.In base → base.Ns mainGlobals mg → FnOk P w K mg base CX k fa fd [x] sp) (hbind : ∀ (s : Shared) (u : Value), BindsTo s fd ⟨[u], []⟩ [(x, u)])
    (hsp : ∀ H : Hp, Only H → SqL K H a (ns.map V.int) → sp [.ref a] H (fun v _ => v = .bl true) fun _ _ _ => False)
    (hCX : ∀ H e s', CX [] H s₁ (fun _ _ _ => False) e s' → False) :
    codeAny (model P w) callerA (.call (.ref fa) ⟨[.ref a], []⟩) (fun r s' => r = .ok (.ret (.bool true)) ∧ OldK s₁.heap s'.heap ∧ s'.os = s₁.os ∧ AllBare s'.gens) s₁ := by
  have rv := vals_ints hi
  have lenV := hi.length
  -- from an abstract heap in which nothing but the script may be tracked
  have core : ∀ H : Hp, Only H → SqL K H a (ns.map V.int) → HOk P w H s₁.heap → (∀ b, H b ≠ none → b = a) → (H a ≠ none → K.lookup a = none) →
      codeAny (model P w) callerA (.call (.ref fa) ⟨[.ref a], []⟩) (fun r s' => r = .ok (.ret (.bool true)) ∧ OldK s₁.heap s'.heap ∧ s'.os = s₁.os ∧ AllBare s'.gens) s₁ := by
    intro H hO hS hok hA hK
    have base_of : ∀ {b : Addr} {o : Obj}, s₁.heap.get? b = some o → H b = none → (hidT s₁.heap H).get? b = some o := fun e n => hidT_get e n
    have noA : ∀ {b : Addr} {o : Obj} {es : Array DictEntry} {ep : Nat}, s₁.heap.get? b = some o → o.data = .dict es ep → H b = none := fun {b o es ep} e d => by
      cases q : H b with
      | none => rfl
      | some u =>
        have e' : b = a := hA b (by rw [q]; simp)
        subst e'
        rw [ha] at e; cases e
        have d' : Data.seq vs.toArray _ = Data.dict es ep := d
        cases d'
    have nsK : ∀ {b : Addr} {m : Str → Option Value}, s₁.heap.Ns b m → (hidT s₁.heap H).Ns b m := fun {b m} ⟨o, es, ep, e, d, r⟩ => ⟨o, es, ep, base_of e (noA e d), d, r⟩
    have hKb : K.In (hidT s₁.heap H) := fun b o e => base_of (KX b o e) (by
      cases q : H b with
      | none => rfl
      | some u =>
        have e' : b = a := hA b (by rw [q]; simp)
        subst e'
        rw [hK (by rw [q]; simp)] at e; cases e)
    have hM : Mod K mg (hidT s₁.heap H) := ⟨hKb, nsK hns, ⟨mb, nsK hb, hbb⟩, let ⟨mc, h1, h2⟩ := hlim; ⟨mc, nsK h1, h2⟩⟩
    have e0 : Env0 P w K mg (hidT s₁.heap H) callerA [] s₁ H := ⟨rfl, hM, fun b o e => of_hidT e, Nat.le_of_eq (hidT_size _ _), trivial, fun b hb => absurd (show b ∈ ([] : List Addr) from hb) (by simp), hok, .of_eq hg⟩
    refine codeAny_mono ((F _ hKb (nsK hns)).run callerA [] s₁ H ⟨[.ref a], []⟩ [.ref a] [.ref a] _ _ hr e0 (hbind s₁ (.ref a)) (.cons rfl .nil) (hsp H hO hS)) fun r s' h => ?_
    cases r with
    | error e => exact (hCX H e s' h).elim
    | ok fl =>
      cases fl with
      | next => exact False.elim h
      | brk => exact False.elim h
      | cont => exact False.elim h
      | ret u =>
        obtain ⟨v, H', os, bare, un, hok', r', q⟩ := h
        have q' : v = .bl true := q
        subst q'
        obtain rfl : u = Value.bool true := r'
        refine ⟨rfl, OldK.of_keep fun b o e => ?_, os, bare⟩
        cases q : H b with
        | none => exact un.keep b o e q (by intro z; exact absurd (show b ∈ ([] : List Addr) from z) (by simp)) (by simp)
        | some u =>
          rcases hO b with z | ⟨ob, xs, z⟩
          · rw [q] at z; cases z
          · have z2 := un.frzs b ob _ z
            obtain ⟨e1, _⟩ := hok b _ z
            obtain ⟨e2, _⟩ := hok' b _ z2
            rw [e] at e1; cases e1
            exact e2
  cases hk : K.lookup a with
  | some o =>
    -- the script is one of the module's own objects
    have e := KX a o hk
    rw [ha] at e
    cases e
    refine core (fun _ => none) (fun _ => .inl rfl) (.inr ⟨_, vs.toArray, _, hk, rfl, rfl, rfl, by rw [List.size_toArray, lenV]; exact hl, by simpa using rv⟩) (fun b u z => by have z' : (none : Option HO) = some u := z; cases z') (fun b z => absurd rfl z) fun z => absurd rfl z
  | none =>
    refine core (fun b => if b = a then some (.frz { cls := .type "list", data := .seq vs.toArray } (.lst (ns.map V.int))) else none) (fun b => ?_) (.inl (.inr ⟨{ cls := .type "list", data := .seq vs.toArray }, if_pos rfl⟩)) (fun b u z => ?_) (fun b z => ?_) fun _ => hk
    · by_cases hb : b = a
      · exact .inr ⟨_, _, if_pos hb⟩
      · exact .inl (if_neg hb)
    · by_cases hb : b = a
      · have z' := (if_pos hb).symm.trans z
        cases z'
        subst hb
        exact ⟨ha, by rw [List.length_map]; exact hl, vs, _, rv, ha⟩
      · have z' := (if_neg hb).symm.trans z
        cases z'
    · by_cases hb : b = a
      · exact hb
      · exact absurd (if_neg hb) z
end L2

namespace L2
open PySem PySem.Spec PyProof.Rows

abbrev KOf {K : PySem.W.Frag} {h : Heap} (_ : K.In h) : PySem.W.Frag := K

/-- the goal that k_head leaves (case hc), from the law's promise. F gives the function object fd (K's own) once, then the promise over every base -/
theorem walk_of {l : PySem.W.OpenLaw} {n k : Nat} {q : Program} {loose : List Str} {XP : (Str → Option Value) → Heap → Prop} {YP : World → Heap → Prop} {d : DefRec} {K : Params → PySem.W.Frag} {CX : World → CXT} {sp : World → Sp} {x : Str}
    (hn : l.most = some n) (hn2 : n ≤ sizeLine) (hdf : d.params.defaults = []) (hr : Room k callerA)
    (hY : ∀ (w : World) (h : Heap), YP w h → (K w.params).In h)
    (F : ∀ (w : World) (mg : Str → Option Value) (fa : Addr) (h : Heap), (K w.params).In h → h.Ns mainGlobals mg → mg d.name = some (.ref fa) →
      ∃ fd : FuncData, (∀ (s : Shared) (u : Value), BindsTo s fd ⟨[u], []⟩ [(x, u)]) ∧
        ∀ base : Heap, (K w.params).In base → base.Ns mainGlobals mg → FnOk l.prog w (K w.params) mg base (CX w) k fa fd [x] (sp w))
    (hsp : ∀ (w : World) (H : Hp) (a : Addr) (ns : List Int), ns.length ≤ n → Only H → SqL (K w.params) H a (ns.map V.int) → sp w [.ref a] H (fun v _ => v = .bl true) fun _ _ _ => False)
    (hCX : ∀ (w : World) (H : Hp) (s : Shared) (e : Value) (s' : Shared), CX w [] H s (fun _ _ _ => False) e s' → False) :
    PySem.W.WalkO q loose XP YP l.row.toRowW d [] (fun f vs => PySem.call f vs) := by
  refine Att.attach_call hn hdf fun w s₀ s₁ mg mb fa o pm cd doc a vs ns G Y ho hd hcd hmg hobj hints hlen hg => ?_
  have KX := hY w _ Y
  obtain ⟨fd, hb, hF⟩ := F w mg fa _ KX G.T.g hmg
  exact law_call KX G.T.g G.T.b G.T.builtins G.T.nolimit hg hobj hints (Nat.le_trans hlen hn2) hr hF hb (fun H hO hS => hsp w H a ns hlen hO hS) fun H e s' => hCX w H s₁ e s'
end L2

/- THE LAST THEOREM (shape; LID, My.* are yours):
   My.Adr: a structure of the addresses that your layer names (classes, functions); My.Txt K t: a structure (Prop) of the equations over K;
   My.txt_mk : {K} {implicit addresses ..} (e1 : nsIn K mainGlobals "law" = some (some (.ref f))) (e2 : K.lookup f = some ⟨oc, od, .func (fnOf "law" "law" params body scope dV kV doc pm an cdv ct), sl⟩) (e3 : codeIn K cdv "law" = true) .. : ∃ t, My.Txt K t

set_option maxRecDepth 100000 in
set_option maxHeartbeats 0 in
theorem PySem.Challenge.cw_LID_holds : PySem.Challenge.rw_LID.Holds := by
  w_on; o_law; k_head; (case hw => w_witness2)
  k_fill
  refine L2.walk_of (l := PySem.Challenge.rw_LID) (n := 63) (k := 40) (x := "script") (CX := fun w => ..) (sp := fun _ => My.sp_law) rfl (by decide) rfl ⟨rfl, by decide, by decide⟩ (fun w h Y => PySem.W.kIn_of Y) ?F ?S ?C
  case F =>
    intro w mg fa h KX G hmg
    have T : ∃ t, My.Txt (L2.KOf KX) t := by
      dsimp only [L2.KOf]                          -- K must stand as «<heap const> w.params» for k_is
      refine' My.txt_mk ?e1 ?e2 ?e3 ..
      (case e1 => PySem.W.k_is)                    -- in the order: a name -> its address -> its object -> its parts
      (case e2 => PySem.W.k_is)
      ..
    obtain ⟨t, T⟩ := T
    have e0 := hmg.symm.trans (PySem.W.mg_of KX G T.law)
    cases e0                                       -- fa is the law's own address
    exact ⟨_, fun s u => .of_eq rfl, fun base kb nb => My.law_fn T kb nb⟩     -- if «.of_eq rfl» comes too early: refine' ⟨_, ?b, fun base kb nb => My.law_fn T kb nb⟩; exact fun s u => .of_eq rfl
  case S => exact fun w H a ns hl hO hS => ..
  case C => exact ..
(the tactic k_is has no namespace: write k_is) -/

/-! SHORT WORDS over the layer: a def of the text, its body, what a loop and a test want. -/
namespace L2
open PySem PySem.Spec PyProof.Rows

/-! ### the text by places -/
/-- the j-th statement of a class's body -/
def inClass (s : Stmt) (j : Nat) : Stmt := match s with
  | .ClassDef _ _ _ body _ _ _ _ _ _ _ => body.getD j (.Pass ⟨0, 0, 0, 0⟩)
  | _ => .Pass ⟨0, 0, 0, 0⟩
def defArgs (s : Stmt) : Arguments := match s with
  | .FunctionDef _ a _ _ _ _ _ _ _ _ => a
  | _ => { posonlyargs := [], args := [], vararg := none, kwonlyargs := [], kw_defaults := [], kwarg := none, defaults := [] }
def defBody (s : Stmt) : List Stmt := match s with
  | .FunctionDef _ _ b _ _ _ _ _ _ _ => b
  | _ => []
def defScope (s : Stmt) : Scope := match s with
  | .FunctionDef _ _ _ _ _ _ sc _ _ _ => sc
  | _ => { kind := .function, names := [], isGenerator := false, isCoroutine := false }

/-! ### no exception leaves a def -/
abbrev CX0 : CXT := fun _ _ _ _ _ _ => False
abbrev E0 : XK := fun _ _ _ => False
theorem pass0 {X : Cx} : Passes CX0 X E0 := fun _ _ _ _ _ _ _ h => h.elim

/-! ### a def (or method) of the text as it stands behind the top -/
structure Fun (K : PySem.W.Frag) (x qual : Str) (st : Stmt) (f : Addr) (fd : FuncData) : Prop where
  ex : ∃ (oc : Value) (od : Option Addr) (kV doc pm : Value) (an : Option Addr) (cdv ct : Value) (osl : Array (Option Value)),
    fd = PySem.W.fnOf x qual (defArgs st) (defBody st) (defScope st) .none kV doc pm an cdv ct ∧ K.lookup f = some ⟨oc, od, .func fd, osl⟩ ∧ PySem.W.codeIn K cdv qual = true
  kp : PySem.W.keepIn K (.ref f) = true
section
variable {P : Program} {w : World} {K : PySem.W.Frag} {mg : Str → Option Value} {base : Heap}
/-- THE RULE for a def: its body as a term of rules, and the reading of that term -/
theorem Fun.ok {x qual : Str} {st : Stmt} {f : Addr} {fd : FuncData} {N ps : List Str} {k : Nat} {sp : Sp} (F : Fun K x qual st f fd) (S : FnScope N ps (defScope st)) (len : ∀ vs H Q E, sp vs H Q E → vs.length = ps.length)
    (hbody : ∀ (cdv : Value) (A : Around) (outer : List Env) (s : Shared) (H : Hp) (vs : List V) (Q : VK) (E : XK), Room k (A.deeper (envOfC qual (defScope st) s.heap.objs.size f cdv)) → sp vs H Q E →
      ∃ t, PSs (cxOf CX0 P w K mg base N qual (defScope st) f cdv A outer s H E).nox (defBody st) t ∧ t { nx := fun _ H' => Q .non H', rt := Q } (start N vs) H) : FnOk P w K mg base CX0 (k + 1) f fd ps sp := by
  obtain ⟨oc, od, kV, doc, pm, an, cdv, ct, osl, rfl, lk, hcd⟩ := F.ex
  refine fn_of lk hcd S len fun A outer s H vs Q E hr hsp => ?_
  obtain ⟨t, h, q⟩ := hbody cdv A outer s H vs Q E hr hsp
  exact ⟨t, h.nox, q⟩
/-- how its arguments bind (no defaults): h is «fun _ _ _ _ _ _ us hl => match us, hl with | [_, _], _ => rfl», one _ a parameter -/
theorem Fun.binds {x qual : Str} {st : Stmt} {f : Addr} {fd : FuncData} {ps : List Str} (F : Fun K x qual st f fd)
    (h : ∀ (kV doc pm : Value) (an : Option Addr) (cdv ct : Value) (us : List Value), us.length = ps.length → bindArgs (PySem.W.fnOf x qual (defArgs st) (defBody st) (defScope st) .none kV doc pm an cdv ct) ⟨us, []⟩ = pure (ps.zip us)) : Binds K fd ps [] := by
  obtain ⟨oc, od, kV, doc, pm, an, cdv, ct, osl, rfl, lk, hcd⟩ := F.ex
  exact .all (h kV doc pm an cdv ct)
theorem fun_mk {x qual : Str} {st : Stmt} {f : Addr} {oc : Value} {od an : Option Addr} {osl : Array (Option Value)} {kV doc pm cdv ct : Value} (l : K.lookup f = some ⟨oc, od, .func (PySem.W.fnOf x qual (defArgs st) (defBody st) (defScope st) .none kV doc pm an cdv ct), osl⟩)
    (c : PySem.W.codeIn K cdv qual = true) (k : PySem.W.keepIn K (.ref f) = true) : Fun K x qual st f (PySem.W.fnOf x qual (defArgs st) (defBody st) (defScope st) .none kV doc pm an cdv ct) := ⟨⟨oc, od, kV, doc, pm, an, cdv, ct, osl, rfl, l, c⟩, k⟩
end
theorem small1000 {n : Nat} (h : n ≤ 1000) : n < sizeLine := Nat.lt_of_le_of_lt h (by decide)

/-! ### expressions in short: the name that stands in the i-th slot -/
section
variable {X : Cx}
theorem pv (i : Nat) {x : Str} {pos : Pos} (hN : X.N[i]? = some x := by rfl) (hv : Vis X.env.scope x := by first | exact Or.inl rfl | exact Or.inr (Or.inl rfl) | exact Or.inr (Or.inr rfl)) (hd : (x == ("__debug__" : Str)) = false := by decide)
    (hcd : (x == ("__classdict__" : Str)) = false := by decide) : PE X (.Name x pos) (tVar i) := pe_var hN hv hd hcd
end

/-! ### tests -/
theorem iteF {A B : Prop} (h : B) : if false = true then A else B := by
  rw [if_neg Bool.false_ne_true]
  exact h
theorem iteT {A B : Prop} (h : A) : if true = true then A else B := by
  rw [if_pos rfl]
  exact h
theorem ite2 {c A B : Prop} [Decidable c] (h1 : c → A) (h2 : ¬ c → B) : if c then A else B := by
  by_cases h : c
  · rw [if_pos h]
    exact h1 h
  · rw [if_neg h]
    exact h2 h

/-! ### heaps -/
/-- all that was tracked is as it was -/
def Same (H H' : Hp) : Prop := ∀ b o, H b = some o → H' b = some o
theorem Same.refl (H : Hp) : Same H H := fun _ _ h => h
theorem Same.trans {H H1 H2 : Hp} (a : Same H H1) (b : Same H1 H2) : Same H H2 := fun c o h => b c o (a c o h)
theorem Same.free {H H' : Hp} (e : Same H H') {l : Addr} (h : H' l = Option.none) : H l = Option.none := by
  cases q : H l with
  | none => rfl
  | some o =>
    rw [e l o q] at h
    cases h
theorem Same.seq {K : PySem.W.Frag} {H H' : Hp} {a : Addr} {xs : List V} (e : Same H H') (h : SqL K H a xs) : SqL K H' a xs := by
  rcases h with (h | ⟨o, h⟩) | h
  · exact .inl (.inl (e _ _ h))
  · exact .inl (.inr ⟨o, e _ _ h⟩)
  · exact .inr h

end L2

set_option maxHeartbeats 4000000
namespace L2
open PySem PySem.Spec PyProof.Rows

/-! ### comprehensions -/
/-- what is asked of a comprehension's block: sc its names, outer the names around it, M the outer names that it may see (others hidden), x its own -/
def compOK (outer sc : Scope) (x : Str) (M N : List Str) : Bool :=
  decide (sc.kind = .function) && sc.names.all (fun y => decide (y.2 ≠ .cell)) && sc.names.all (fun y => decide (y.2 = .local → sc.names.lookup y.1 = some .local)) && decide (sc.names.lookup x = some .local) &&
  sc.names.all (fun y => decide (y.2 = .free → (outer.names.lookup y.1 = some .cell ∨ outer.names.lookup y.1 = some .free))) &&
  decide ((M ++ [x]).Nodup) && decide (M.length = N.length) && (M.zip N).all (fun p => decide (p.1 = p.2 ∨ sc.names.lookup p.1 = none)) && M.all (fun y => decide (sc.names.lookup y ≠ some .local))

theorem lookup_relabel {env : Env} : ∀ {names : List (Str × NameKind)} {x : Str} {k' : NameKind},
    (names.map fun (n, k) => if (k == NameKind.free && env.scope.kind == .function && env.kindOf n == some .cell) then (n, NameKind.cell) else (n, k)).lookup x = some k' →
    ∃ k, names.lookup x = some k ∧ (k' = k ∨ (k = .free ∧ k' = .cell))
  | [], _, _, h => by simp at h
  | (n, k) :: r, x, k', h => by
    have ih := @lookup_relabel env r x k'
    have h' : List.lookup x ((if (k == NameKind.free && env.scope.kind == .function && env.kindOf n == some .cell) = true then (n, NameKind.cell) else (n, k)) :: _) = some k' := h
    cases hx : x == n with
    | true =>
      by_cases hc : ((k == NameKind.free && env.scope.kind == .function && env.kindOf n == some .cell)) = true
      · rw [if_pos hc] at h'
        simp only [List.lookup_cons, hx] at h'
        refine ⟨k, by simp [List.lookup_cons, hx], .inr ⟨?_, (Option.some.inj h').symm⟩⟩
        simp only [Bool.and_eq_true, beq_iff_eq] at hc
        exact hc.1.1
      · rw [if_neg hc] at h'
        simp only [List.lookup_cons, hx] at h'
        exact ⟨k, by simp [List.lookup_cons, hx], .inl (Option.some.inj h').symm⟩
    | false =>
      have h'' : List.lookup x (r.map fun (n, k) => if (k == NameKind.free && env.scope.kind == .function && env.kindOf n == some .cell) then (n, NameKind.cell) else (n, k)) = some k' := by
        by_cases hc : ((k == NameKind.free && env.scope.kind == .function && env.kindOf n == some .cell)) = true
        · rw [if_pos hc] at h'; simp only [List.lookup_cons, hx] at h'; exact h'
        · rw [if_neg hc] at h'; simp only [List.lookup_cons, hx] at h'; exact h'
      obtain ⟨k0, a, b⟩ := ih h''
      exact ⟨k0, by simp only [List.lookup_cons, hx]; exact a, b⟩

theorem closure_go {env : Env} : ∀ (names : List (Str × NameKind)) (cs : List (Str × Addr)), (∀ y ∈ names, y.2 = .free → ∃ c, env.cells.lookup y.1 = some c) → (∀ y c, cs.lookup y = some c → env.cells.lookup y = some c) →
    ∃ cl, (forIn names cs fun (x : Str × NameKind) (r : List (Str × Addr)) => (if (x.2 == NameKind.free) = true then (do let a ← cellOf env x.1; pure (ForInStep.yield ((x.1, a) :: r))) else pure (ForInStep.yield r) : Sem _)) = pure cl ∧
      (∀ y c, cl.lookup y = some c → env.cells.lookup y = some c) ∧ (∀ y, ((∃ c, cs.lookup y = some c) ∨ (y, NameKind.free) ∈ names) → ∃ c, cl.lookup y = some c)
  | [], cs, _, hc => ⟨cs, rfl, hc, fun y h => by
      rcases h with h | h
      · exact h
      · cases h⟩
  | (n, k) :: r, cs, hf, hc => by
    by_cases hk : k = .free
    · subst hk
      obtain ⟨a, ha⟩ := hf (n, .free) List.mem_cons_self rfl
      have hc' : ∀ y c, List.lookup y ((n, a) :: cs) = some c → env.cells.lookup y = some c := fun y c e => by
        simp only [List.lookup_cons] at e
        split at e
        · rename_i q
          have q' : y = n := by simpa using q
          subst q'
          exact ha.trans e
        · exact hc y c e
      obtain ⟨cl, h1, h2, h3⟩ := closure_go r ((n, a) :: cs) (fun y hy => hf y (List.mem_cons_of_mem _ hy)) hc'
      refine ⟨cl, ?_, h2, fun y h => ?_⟩
      · rw [List.forIn_cons]
        show ((if (NameKind.free == NameKind.free) = true then (do let a ← cellOf env n; pure (ForInStep.yield ((n, a) :: cs))) else pure (ForInStep.yield cs) : Sem _) >>= _) = _
        rw [if_pos (by decide)]
        have e : cellOf env n = pure a := by unfold cellOf; rw [ha]
        rw [e]
        exact h1
      · refine h3 y ?_
        rcases h with ⟨c, h⟩ | h
        · left
          simp only [List.lookup_cons]
          split
          · exact ⟨_, rfl⟩
          · exact ⟨c, h⟩
        · rcases List.mem_cons.mp h with q | q
          · left
            cases q
            exact ⟨a, by simp [List.lookup_cons]⟩
          · exact .inr q
    · obtain ⟨cl, h1, h2, h3⟩ := closure_go r cs (fun y hy => hf y (List.mem_cons_of_mem _ hy)) hc
      refine ⟨cl, ?_, h2, fun y h => ?_⟩
      · rw [List.forIn_cons]
        show ((if (k == NameKind.free) = true then (do let a ← cellOf env n; pure (ForInStep.yield ((n, a) :: cs))) else pure (ForInStep.yield cs) : Sem _) >>= _) = _
        rw [if_neg (by simpa using hk)]
        exact h1
      · refine h3 y ?_
        rcases h with h | h
        · exact .inl h
        · rcases List.mem_cons.mp h with q | q
          · cases q; exact absurd rfl hk
          · exact .inr q

theorem closure_ok {env : Env} {scope : Scope} (hf : ∀ y ∈ scope.names, y.2 = .free → ∃ c, env.cells.lookup y.1 = some c) :
    ∃ cl, closureFor scope env = pure cl ∧ (∀ y c, cl.lookup y = some c → env.cells.lookup y = some c) ∧ (∀ y, (y, NameKind.free) ∈ scope.names → ∃ c, cl.lookup y = some c) := by
  obtain ⟨cl, h1, h2, h3⟩ := closure_go scope.names [] hf (fun y c e => by simp at e)
  refine ⟨cl, ?_, h2, fun y h => h3 y (.inr h)⟩
  unfold closureFor
  rw [← bind_pure (x := (pure cl : Sem _)), ← h1]

/-- a block's own: its cells, its frame, the state and the heap ahead of it, the iterator's records -/
structure CB where
  cl : List (Str × Addr)
  C : Addr
  s2 : Shared
  H2 : Hp
  fp : List Addr
/-- the block's context -/
def Cx.comp (X : Cx) (N' : List Str) (scope : Scope) (b : CB) : Cx where
  prog := X.prog
  w := X.w
  K := X.K
  mg := X.mg
  base := X.base
  A := X.A
  N := N'
  s₀ := b.s2
  H₀ := b.H2
  env := compEnvC scope b.cl b.C X.env
  outer := X.stack
  stack := X.stack
  ex := b.fp
  fn := fun _ => false
  calm := X.calm
  pn := []
  xe := fun _ _ => False

structure CompOK (outer sc : Scope) (x : Str) (M N : List Str) : Prop where
  kind : sc.kind = .function
  nocell : ∀ y ∈ sc.names, y.2 ≠ .cell
  loc : ∀ y ∈ sc.names, y.2 = .local → sc.names.lookup y.1 = some .local
  own : sc.names.lookup x = some .local
  free : ∀ y ∈ sc.names, y.2 = .free → (outer.names.lookup y.1 = some .cell ∨ outer.names.lookup y.1 = some .free)
  nd : (M ++ [x]).Nodup
  len : M.length = N.length
  same : ∀ p ∈ M.zip N, p.1 = p.2 ∨ sc.names.lookup p.1 = none
  noloc : ∀ y ∈ M, sc.names.lookup y ≠ some .local
theorem compOK_of {outer sc : Scope} {x : Str} {M N : List Str} (h : compOK outer sc x M N = true) : CompOK outer sc x M N := by
  unfold compOK at h
  simp only [Bool.and_eq_true, decide_eq_true_eq, List.all_eq_true] at h
  obtain ⟨⟨⟨⟨⟨⟨⟨⟨h1, h2⟩, h3⟩, h4⟩, h5⟩, h6⟩, h7⟩, h8⟩, h9⟩ := h
  exact ⟨h1, h2, h3, h4, h5, h6, h7, h8, h9⟩

section
variable {X : Cx} {pins : List (Addr × Obj)} {σ : St} {H2 : Hp} {s2 : Shared} {scope : Scope} {x : Str} {M : List Str} {cl : List (Str × Addr)} {fp : List Addr} {h1 : Heap} {t' : Nat}

/-- the block's entry -/
theorem Inv.comp (I : Inv X pins σ H2 s2) (K : CompOK X.env.scope scope x M X.N) (hcl : ∀ y c, cl.lookup y = some c → X.env.cells.lookup y = some c) (hcf : ∀ y, (y, NameKind.free) ∈ scope.names → ∃ c, cl.lookup y = some c)
    (hfp : ∀ b ∈ fp, FpOk X pins H2 b) (hlt : ∀ b ∈ fp, b < s2.heap.objs.size) (kp : ∀ b o, s2.heap.get? b = some o → h1.get? b = some o) (hD : h1.get? s2.heap.objs.size = some { cls := .type "list", dict := none, data := .seq ([] : List Value).toArray })
    (hC : h1.Ns (s2.heap.objs.size + 1) (fun _ => none)) :
    Inv (X.comp (M ++ [x]) scope ⟨cl, s2.heap.objs.size + 1, s2, H2, fp⟩) [] (σ ++ [none]) (upd H2 s2.heap.objs.size (.lst [])) { s2 with heap := h1, toks := t' } := by
  have cellLt : ∀ y c, cl.lookup y = some c → c < s2.heap.objs.size := fun y c e => by
    obtain ⟨v, z⟩ := I.cell y c (hcl y c e)
    exact z.lt
  have kindEq : ∀ y k', (compEnvC scope cl (s2.heap.objs.size + 1) X.env).kindOf y = some k' → ∃ k, scope.names.lookup y = some k ∧ (k' = k ∨ (k = .free ∧ k' = .cell)) := fun y k' e => lookup_relabel e
  have freeOf : ∀ y k', (compEnvC scope cl (s2.heap.objs.size + 1) X.env).kindOf y = some k' → (k' = .cell ∨ k' = .free) → (y, NameKind.free) ∈ scope.names := fun y k' e hk => by
    obtain ⟨k, e1, e2⟩ := kindEq y k' e
    have mem := PySem.mem_of_lookup e1
    have : k = .free := by
      rcases e2 with rfl | ⟨rfl, _⟩
      · rcases hk with rfl | rfl
        · exact absurd rfl (K.nocell _ mem)
        · rfl
      · rfl
    subst this
    exact mem
  have hDn : H2 s2.heap.objs.size = none := I.hok.fresh (Nat.le_refl _)
  refine ⟨⟨I.ok.mod, K.kind, I.ok.glob, I.ok.blt, Nat.le_succ _, fun y z c e1 e2 => I.ok.inj y z c (hcl y c e1) (hcl z c e2), fun y hy => ?_, fun y c hf _ => ?_, I.ok.hd, I.ok.frames, .inl rfl, fun b hb => ⟨Nat.ne_of_lt (Nat.lt_succ_of_lt (hlt b hb)), fun y c e => (hfp b hb).2.2.2.2.1 y c (hcl y c e)⟩,
    fun b o e => I.bs b o e, Nat.le_trans I.ok.bsz I.sz, fun b o e hb => ?_, fun b hb hf => ?_, I.stack, I.stkFree⟩, rfl, I.bare, Un.laid kp (Nat.le_refl _) hDn, ⟨_, hC, fun i y v e1 e2 e3 => ?_⟩, fun y c e => ?_, ?_, fun y c e => ?_, fun p hp => absurd (show p ∈ ([] : List (Addr × Obj)) from hp) (by simp), I.hok.laid kp (Nat.le_refl _) ?_, ?_⟩
  · rcases hy with hy | hy
    · exact hcf y (freeOf y _ hy (.inl rfl))
    · exact hcf y (freeOf y _ hy (.inr rfl))
  · exact absurd (show false = true from hf) Bool.false_ne_true
  · obtain ⟨f0, f1, f2, f3, f4, f5⟩ := hfp b hb
    rcases f3 with z | z
    · exact I.ok.noex b o e z
    · exact absurd (Nat.lt_of_lt_of_le (Heap.lt_size (I.ok.bs b o e).1) z) (Nat.lt_irrefl _)
  · obtain ⟨f0, f1, f2, f3, f4, f5⟩ := hfp b hb
    rcases List.mem_cons.mp (I.stkSub b hf) with z | z
    · exact f1 z
    · exact f2 z
  · -- names
    have hi : i < σ.length := by
      by_cases hi : i < σ.length
      · exact hi
      · have hz : (σ ++ [none])[i]? = some (some v) := e2
        rw [List.getElem?_append_right (by omega)] at hz
        by_cases hq : i - σ.length = 0
        · rw [hq] at hz; cases hz
        · rw [List.getElem?_eq_none (by simp; omega)] at hz; cases hz
    have e2' : σ[i]? = some (some v) := by
      have hz : (σ ++ [none])[i]? = some (some v) := e2
      rw [List.getElem?_append_left hi] at hz
      exact hz
    have hiM : i < M.length := by rw [K.len, ← I.len]; exact hi
    have e1' : M[i]? = some y := by
      have hz : (M ++ [x])[i]? = some y := e1
      rw [List.getElem?_append_left hiM] at hz
      exact hz
    have hyM : y ∈ M := List.mem_of_getElem? e1'
    have e3' : ∃ k', (compEnvC scope cl (s2.heap.objs.size + 1) X.env).kindOf y = some k' ∧ (k' = .cell ∨ k' = .free) := by
      rcases e3 with z | z | z
      · obtain ⟨k, a, b⟩ := kindEq y _ z
        rcases b with b | ⟨_, b⟩
        · subst b; exact absurd a (K.noloc y hyM)
        · cases b
      · exact ⟨_, z, .inl rfl⟩
      · exact ⟨_, z, .inr rfl⟩
    obtain ⟨k', ek, hk⟩ := e3'
    have mem := freeOf y k' ek hk
    obtain ⟨k0, a0, _⟩ := kindEq y k' ek
    have hiN : i < X.N.length := by rw [← K.len]; exact hiM
    have eN : X.N[i]? = some y := by
      have hz : (M[i], X.N[i]) ∈ M.zip X.N := by
        rw [List.mem_iff_getElem?]
        exact ⟨i, List.getElem?_zip_eq_some.mpr ⟨List.getElem?_eq_getElem hiM, List.getElem?_eq_getElem hiN⟩⟩
      have eM : M[i] = y := by
        rw [List.getElem?_eq_getElem hiM] at e1'
        exact Option.some.inj e1'
      rcases K.same _ hz with q | q
      · rw [List.getElem?_eq_getElem hiN]
        have q' : M[i] = X.N[i] := q
        rw [← q', eM]
      · have q' : scope.names.lookup M[i] = none := q
        rw [eM, a0] at q'
        cases q'
    have hv := K.free _ mem rfl
    obtain ⟨m, hn, hl⟩ := I.loc
    obtain ⟨u, r, l⟩ := hl i y v eN e2' (hv.elim (fun z => .inr (.inl z)) (fun z => .inr (.inr z)))
    refine ⟨u, r, .inr ⟨?_, ?_⟩⟩
    · rcases hk with rfl | rfl
      · exact .inl ek
      · exact .inr ek
    · obtain ⟨c, ec⟩ := hcf y mem
      refine ⟨c, ec, ?_⟩
      rcases l with ⟨z, _⟩ | ⟨_, c', ec', cc⟩
      · have z' : X.env.scope.names.lookup y = some .local := z
        rcases hv with q | q <;> (rw [z'] at q; cases q)
      · have := (hcl y c ec).symm.trans ec'
        cases this
        obtain ⟨o, ho, hd⟩ := cc
        exact ⟨o, kp _ o ho, hd⟩
  · obtain ⟨v, o, ho, hd⟩ := I.cell y c (hcl y c e)
    exact ⟨v, o, kp _ o ho, hd⟩
  · show upd H2 s2.heap.objs.size (.lst []) (s2.heap.objs.size + 1) = none
    rw [upd_ne (Nat.succ_ne_self _)]
    exact I.hok.fresh (Nat.le_succ _)
  · rw [upd_ne (Nat.ne_of_lt (cellLt y c e))]
    exact I.freeC y c (hcl y c e)
  · exact ⟨Nat.zero_le _, [], _, .nil, hD⟩
  · show (σ ++ [none]).length = (M ++ [x]).length
    simp [I.len, K.len]
end
end L2

namespace L2
open PySem PySem.Spec PyProof.Rows

/-- the loop of a list comprehension of one clause -/
theorem comp_loop {prog : Program} {w : World} {A : Around} {R : Result → Shared → Prop} {s : Shared} {elt target iter : Expr} {ifs : List Expr} {scope : Scope} {pos : Pos} {it acc : Value} {env : Env} (I : Nat → Shared → Prop)
    (onward : ∀ n s, I n s → wpAny (model prog w) A (pyNext it) (fun r za => match r with
      | none => R (.ok .next) za
      | some v => wpAny (model prog w) A (letOwnedTupleGo target it v) (fun _ zb => wpAny (model prog w) A (assign target env v) (fun _ zc =>
          wpAny (model prog w) A (forIn ifs true fun c r => if r = true then do let ok ← isTrue c env (eval c env); pure (ForInStep.yield ok) else pure (ForInStep.yield r)) (fun ok zd =>
            if ok = true then wpAny (model prog w) A (eval elt env) (fun x ze =>
              wpAny (model prog w) A (call (.builtin "list.append") [acc, x]) (fun _ zf => ∃ m, m < n ∧ I m zf) (fun _ _ => False) ze) (fun _ _ => False) zd
            else ∃ m, m < n ∧ I m zd) (fun _ _ => False) zc) (fun _ _ => False) zb) (fun _ _ => False) za) (fun _ _ => False) s)
    (n : Nat) (h : I n s) :
    codeAny (model prog w) A (.compLoop (.ListComp elt [⟨target, iter, ifs, 0⟩] scope pos) 0 it acc env) R s :=
  by
  refine codeAny_loop rfl I (fun n s hJ => ?_) n h
  show wpAny _ A ((compTurn (.ListComp elt [⟨target, iter, ifs, 0⟩] scope pos) 0 it acc env).onRaise (fun ex =>  do noteFrame ex env; theTreesLotGoes ex)) _ _ s
  refine wpAny_noted (wpAny_mono (E := fun _ _ => False) ?_ (fun _ _ q => q) fun _ _ z => z.elim)
  rw [compTurn_list]
  refine wpAny_bind (wpAny_standAt (wpAny_bind (wpAny_mono (onward n s hJ) (fun r za ya => ?_) fun _ _ u => u)))
  cases r with
  | none => exact wpAny_pure ya
  | some v =>
    refine wpAny_bind (wpAny_mono ya (fun _ zb yb => ?_) fun _ _ u => u)
    refine wpAny_bind (wpAny_mono yb (fun _ zc yc => wpAny_bind (wpAny_mono yc (fun ok zd yd => ?_) fun _ _ u => u)) fun _ _ u => u)
    cases ok with
    | false => exact wpAny_pure ⟨rfl, yd⟩
    | true =>
      exact wpAny_bind (wpAny_bind (wpAny_mono yd (fun x ze ye => wpAny_bind (wpAny_mono ye (fun _ zf yf => wpAny_pure (wpAny_pure ⟨rfl, yf⟩)) fun _ _ u => u)) fun _ _ u => u))

/-- the tests of a clause -/
def PIfs (X : Cx) (ifs : List Expr) (t : TT) : Prop :=
  ∀ (pins : List (Addr × Obj)) (s : Shared) (σ : St) (H : Hp) (Q : Bool → Hp → Prop), Inv X pins σ H s → t σ H Q →
    wpAny (model X.prog X.w) X.A (forIn ifs true fun c r => if r = true then do let ok ← isTrue c X.env (eval c X.env); pure (ForInStep.yield ok) else pure (ForInStep.yield r)) (TP X pins σ Q) X.xe s
def tNoIf : TT := fun _ H Q => Q true H
theorem pif_nil {X : Cx} : PIfs X [] tNoIf := fun pins s σ H Q I h => wpAny_tests_nil ⟨H, I, h⟩
theorem pif_one {X : Cx} {c : Expr} {t : TT} (h : PT X c t) : PIfs X [c] t := fun pins s σ H Q I q => wpAny_tests_one (h pins s σ H Q I q)

/-- [elt for x in iter if ..]: D is the list that is made -/
def tComp (wi : TI) (tc : CB → TT) (te : CB → TE) : TE := fun σ H Q => wi σ H fun J H1 => ∀ D, H1 D = none → ∀ b : CB, ∃ W : Nat → Nat → List V → Hp → Prop, (∃ m, W 0 m [] (upd H1 D (.lst []))) ∧
  ∀ i m ys H, W i m ys H → (J.stop i H ∧ Q (.ref D) H) ∨ (J.go i H ∧ ys.length < sizeLine ∧ ∃ N : List V → Hp → Prop, (∀ ys' H', N ys' H' → ∃ m', m' < m ∧ W (i + 1) m' ys' H') ∧ ∀ x H', J.yld i H x H' → tc b (σ ++ [some x]) H' fun ok H2 =>
    if ok = true then te b (σ ++ [some x]) H2 fun v H3 => H3 D = some (.lst ys) ∧ N (ys ++ [v]) (upd H3 D (.lst (ys ++ [v]))) else N ys H2)

theorem append_call {X : Cx} {pins : List (Addr × Obj)} {σ : St} {H : Hp} {s : Shared} {D : Addr} {ys : List V} {v : V} {u : Value} {E : Value → Shared → Prop} (I : Inv X pins σ H s) (hD : H D = some (.lst ys)) (hz : ys.length < sizeLine) (r : RelV v u) :
    wpAny (model X.prog X.w) X.A (call (.builtin "list.append") [.ref D, u]) (fun _ s' => Inv X pins σ (upd H D (.lst (ys ++ [v]))) s') E s := by
  obtain ⟨z, its, n, rv, hl, e⟩ := I.lstM hD
  refine call_meets F.slot_list_append ⟨_, e, rfl⟩ F.entry_list_append (F.args_list_append_2 _ _) (PySem.list_append D its.toArray n u (by rw [List.size_toArray]; omega)) ⟨e, ?_⟩
  refine I.lset (its' := its ++ [u]) hD e (by simp) (rv.append (.cons r .nil)) ?_
  rw [List.length_append, List.length_singleton]
  omega

theorem SameBut.unC {H H' : Hp} {fs ex : List Addr} {h h1 h2 : Heap} {C : Addr} (u : Un fs ex H H' h h1) (sb : Heap.SameBut C h1 h2) (hC : h.objs.size ≤ C) : Un fs ex H H' h h2 := by
  have ne : ∀ b o, h.get? b = some o → b ≠ C := fun b o e z => by subst z; exact absurd (Nat.lt_of_lt_of_le (Heap.lt_size e) hC) (Nat.lt_irrefl _)
  refine ⟨fun b o e n hb hx => (sb.2 b (ne b o e)).trans (u.keep b o e n hb hx), fun b o e n hb hx => ?_, u.free, fun b o e hx => ?_, u.tups, u.frzs, u.tbls⟩
  · obtain ⟨sl, q⟩ := u.slot b o e n hb hx
    exact ⟨sl, (sb.2 b (ne b o e)).trans q⟩
  · obtain ⟨o', q⟩ := u.there b o e hx
    exact ⟨o', (sb.2 b (ne b o e)).trans q⟩
theorem SameBut.hokC {P : Program} {w : World} {H : Hp} {h1 h2 : Heap} {C : Addr} (ok : HOk P w H h1) (sb : Heap.SameBut C h1 h2) (hn : H C = none) : HOk P w H h2 := fun b ob e => by
  refine (ok b ob e).stay (fun c w' hc q => (sb.2 c ?_).trans q) (fun _ q => q) fun _ _ q => q
  rintro rfl
  rcases hc with rfl | hc
  · rw [hn] at e; cases e
  · rw [hn] at hc; cases hc

theorem comp_core {X : Cx} {iter elt : Expr} {ifs : List Expr} {x : Str} {px pos pos0 : Pos} {scope : Scope} (M : List Str) {wi : TI} {tc : CB → TT} {te : CB → TE} {use : Option (Value → Sem Unit)} {R : Value → Shared → Prop}
    {pins : List (Addr × Obj)} {s : Shared} {σ : St} {H : Hp} {Q : VK} (I : Inv X pins σ H s) (h : tComp wi tc te σ H Q)
    (hfin : ∀ (D C : Addr) (m : Str → Option Value) (s' : Shared) (H' : Hp), s'.heap.Ns C m → FpOk X pins H' C → (∀ h', Heap.SameBut C s'.heap h' → Inv X pins σ H' { s' with heap := h' }) → Q (.ref D) H' → compPost (model X.prog X.w) X.A X.xe use R (.ref D) C (.ok .next) s')
    (hc : X.calm = true) (hi : PI X (.Name x px) iter wi)
    (hif : ∀ b : CB, PIfs (X.comp (M ++ [x]) scope b) ifs (tc b)) (he : ∀ b : CB, PE (X.comp (M ++ [x]) scope b) elt (te b))
    (ok : compOK X.env.scope scope x M X.N = true := by kernel_rfl)
    (hs : ∀ x, foldedSetIterable iter X.env x = pure x := by intro _; rfl) :
    wpAny (model X.prog X.w) X.A (comprehension (.ListComp elt [⟨.Name x px, iter, ifs, 0⟩] scope pos) scope X.env pos0 (newList []) false (eval iter X.env) use) R X.xe s := by
  have K := compOK_of ok
  obtain ⟨cl, hclos, hcl, hcf⟩ := closure_ok (env := X.env) (scope := scope) fun y hy hk => I.ok.has y.1 (K.free y hy hk)
  refine wpAny_comprehension_free (use := use) rfl hs hclos K.kind K.loc ?_
  refine thn (hi pins s σ H _ I h) fun v s1 h1 => thn h1 fun itv s2 h2 => ?_
  obtain ⟨it, fp, tn, J, H2, rfl, I2, T, st2, f2, hq⟩ := h2
  refine wpAny_newObj_type (wpAny_newFunctionEnv K.nocell (by intro y hy; simp at hy) (fun h₁ hns₁ hsb₁ => ?_) K.kind)
  dsimp only at hns₁ hsb₁ ⊢
  have hsize : (s2.heap.push { cls := .type "list", dict := none, data := .seq ([] : List Value).toArray }).objs.size = s2.heap.objs.size + 1 := Heap.size_push ..
  rw [hsize] at hns₁ hsb₁
  have ltD : s2.heap.objs.size ≠ s2.heap.objs.size + 1 := Nat.ne_of_lt (Nat.lt_succ_self _)
  have kp : ∀ b o, s2.heap.get? b = some o → h₁.get? b = some o := fun b o e => hsb₁.extBut b o (Nat.ne_of_lt (Nat.lt_succ_of_lt (Heap.lt_size e))) (Heap.get?_push_of_some _ (Heap.get?_push_of_some _ e))
  have hD : h₁.get? s2.heap.objs.size = some { cls := .type "list", dict := none, data := .seq ([] : List Value).toArray } := hsb₁.extBut _ _ ltD (Heap.get?_push_of_some _ (Heap.get?_push_size _ rfl))
  have hlt : ∀ b ∈ fp, b < s2.heap.objs.size := fun b hb => let ⟨o, e, _⟩ := T.obj _ _ st2 b hb; Heap.lt_size e
  have I3 := I2.comp (t' := s2.toks + ([] : List (Str × Value)).length) K hcl hcf f2 hlt kp hD hns₁
  obtain ⟨W, ⟨m0, w0⟩, step⟩ := hq s2.heap.objs.size (I2.hok.fresh (Nat.le_refl _)) ⟨cl, s2.heap.objs.size + 1, s2, H2, fp⟩
  have st3 : tn 0 h₁ := T.keep _ _ _ st2 fun b _ o e => kp b o e
  have fr3 : ∀ b ∈ fp, (upd H2 s2.heap.objs.size (.lst [])) b = none := fun b hb => by rw [upd_ne (Nat.ne_of_lt (hlt b hb))]; exact (f2 b hb).1
  -- what the block's end gives
  have fin : ∀ (s' : Shared) (σ' : St) (H' : Hp), Inv (X.comp (M ++ [x]) scope ⟨cl, s2.heap.objs.size + 1, s2, H2, fp⟩) [] σ' H' s' → Q (.ref s2.heap.objs.size) H' →
      compPost (model X.prog X.w) X.A X.xe use R (.ref s2.heap.objs.size) (s2.heap.objs.size + 1) (.ok .next) s' := fun s' σ' H' J' q => by
    obtain ⟨m, hn, _⟩ := id J'.loc
    have hC : H' (s2.heap.objs.size + 1) = none := J'.free
    refine hfin _ _ m s' H' hn (I2.fpOk (Nat.le_succ _) hC) (fun h' sb => ?_) q
    exact I2.call' (ch := fp) (show s'.os = s2.os from J'.os) (SameBut.unC J'.base sb (Nat.le_succ _)) (SameBut.hokC J'.hok sb hC) J'.bare fun b hb => by
      obtain ⟨f0, f1, f2', f3, f4, f5⟩ := f2 b hb
      exact ⟨f3, f1, f4, f5⟩
  have stat : ∀ {H' : Hp}, (∀ b ∈ fp, H' b = none) → ∀ b ∈ fp, FpOk (X.comp (M ++ [x]) scope ⟨cl, s2.heap.objs.size + 1, s2, H2, fp⟩) [] H' b := fun hn b hb => by
    obtain ⟨f0, f1, f2', f3, f4, f5⟩ := f2 b hb
    refine ⟨hn b hb, Nat.ne_of_lt (Nat.lt_succ_of_lt (hlt b hb)), fun z => ?_, .inl hb, fun y c e => f4 y c (hcl y c e), fun p hp => absurd (show p ∈ ([] : List (Addr × Obj)) from hp) (by simp)⟩
    rcases List.mem_cons.mp (I2.stkSub b z) with z | z
    · exact f1 z
    · exact f2' z
  have len3 : σ.length = M.length := by rw [I.len, K.len]
  have loop : codeAny (model X.prog X.w) X.A (.compLoop (.ListComp elt [⟨.Name x px, iter, ifs, 0⟩] scope pos) 0 (.ref it) (.ref s2.heap.objs.size) (compEnvC scope cl (s2.heap.objs.size + 1) X.env))
      (compPost (model X.prog X.w) X.A X.xe use R (.ref s2.heap.objs.size) (s2.heap.objs.size + 1)) { s2 with heap := h₁, toks := s2.toks + ([] : List (Str × Value)).length } := by
    refine comp_loop (fun n s' => ∃ i ys H', Inv (X.comp (M ++ [x]) scope ⟨cl, s2.heap.objs.size + 1, s2, H2, fp⟩) [] (σ ++ [none]) H' s' ∧ tn i s'.heap ∧ (∀ b ∈ fp, H' b = none) ∧ W i n ys H') ?_ m0 ⟨0, [], _, I3, st3, fr3, w0⟩
    rintro n s4 ⟨i, ys, H4, I4, st4, fr4, w4⟩
    rcases step i n ys H4 w4 with ⟨stop, q⟩ | ⟨go, hz, N, hN, st⟩
    · refine wpAny_mono (T.done (X.comp (M ++ [x]) scope ⟨cl, s2.heap.objs.size + 1, s2, H2, fp⟩) rfl rfl rfl hc i [] s4 _ H4 (fun _ _ => False) I4 (stat fr4) st4 stop) (fun r s5 ⟨hr, I5⟩ => ?_) fun _ _ z => z
      subst hr
      exact fin s5 _ H4 I5 q
    · refine wpAny_mono (T.item (X.comp (M ++ [x]) scope ⟨cl, s2.heap.objs.size + 1, s2, H2, fp⟩) rfl rfl rfl hc i [] s4 _ H4 (fun _ _ => False) I4 (stat fr4) st4 go) (fun r s5 ⟨u, hr, h5⟩ => ?_) fun _ _ z => z
      subst hr
      refine wpAny_mono h5 (fun _ s6 ⟨xv, H6, I6, r6, y6, st6, fr6⟩ => ?_) fun _ _ z => z
      have I6' := I6.pinned (stat fr6) (T.obj _ _ st6)
      have hset : (σ ++ [none]).set σ.length (some xv) = σ ++ [some xv] := by simp
      have hNx : (X.comp (M ++ [x]) scope ⟨cl, s2.heap.objs.size + 1, s2, H2, fp⟩).N[σ.length]? = some x := by
        show (M ++ [x])[σ.length]? = some x
        rw [len3]; simp
      have hlx : (X.comp (M ++ [x]) scope ⟨cl, s2.heap.objs.size + 1, s2, H2, fp⟩).env.scope.names.lookup x = some .local := lookup_relabel_local K.own
      have PGx : PG (X.comp (M ++ [x]) scope ⟨cl, s2.heap.objs.size + 1, s2, H2, fp⟩) (.Name x px) (gName σ.length) := pg_name K.nd hNx (.inl hlx) (.inr hlx)
      refine wpAny_mono (PGx _ s6 _ H6 xv u (fun σ' H' => σ' = σ ++ [some xv] ∧ H' = H6) I6' r6 ⟨hset, rfl⟩) (fun _ s7 ⟨σ7, H7, I7, e7, e7'⟩ => ?_) fun _ _ z => z
      subst e7 e7'
      have again : ∀ {ys' : List V} {H8 : Hp} {s8 : Shared} {m : Nat}, Inv (X.comp (M ++ [x]) scope ⟨cl, s2.heap.objs.size + 1, s2, H2, fp⟩) ([] ++ pinsAt fp s6.heap) (σ ++ [some xv]) H8 s8 → m < n → W (i + 1) m ys' H8 →
          ∃ m, m < n ∧ ∃ i ys H', Inv (X.comp (M ++ [x]) scope ⟨cl, s2.heap.objs.size + 1, s2, H2, fp⟩) [] (σ ++ [none]) H' s8 ∧ tn i s8.heap ∧ (∀ b ∈ fp, H' b = none) ∧ W i m ys H' := fun {ys' H8 s8 m} I8 hm w8 => by
        refine ⟨m, hm, i + 1, ys', H8, (I8.unpinned).weak (by simp) (fun j v e => ?_), T.keep _ _ _ st6 fun b hb o e => (I8.pin (b, o) (List.mem_append_right _ (List.mem_append_right _ (mem_pinsAt hb e)))).1, fun b hb => ?_, w8⟩
        · by_cases hj : j < σ.length
          · rw [List.getElem?_append_left hj] at e ⊢; exact e
          · rw [List.getElem?_append_right (by omega)] at e
            by_cases hq : j - σ.length = 0
            · rw [hq] at e; cases e
            · rw [List.getElem?_eq_none (by simp; omega)] at e; cases e
        · obtain ⟨o, e, d⟩ := T.obj _ _ st6 b hb
          exact (I8.pin (b, o) (List.mem_append_right _ (List.mem_append_right _ (mem_pinsAt hb e)))).2.1
      refine wpAny_mono (hif ⟨cl, s2.heap.objs.size + 1, s2, H2, fp⟩ _ s7 _ _ _ I7 (st xv _ y6)) (fun ok s8 ⟨H8, I8, q8⟩ => ?_) fun _ _ z => z
      cases ok with
      | false =>
        rw [if_neg Bool.false_ne_true] at q8
        obtain ⟨m, hm, w8⟩ := hN _ _ q8
        exact again I8 hm w8
      | true =>
        rw [if_pos rfl] at q8
        refine wpAny_mono (he ⟨cl, s2.heap.objs.size + 1, s2, H2, fp⟩ _ s8 _ H8 _ I8 q8) (fun xu s9 ⟨v9, H9, I9, r9, hD9, n9⟩ => ?_) fun _ _ z => z
        obtain ⟨m, hm, w9⟩ := hN _ _ n9
        exact wpAny_mono (append_call (X := X.comp (M ++ [x]) scope ⟨cl, s2.heap.objs.size + 1, s2, H2, fp⟩) I9 hD9 hz r9) (fun _ s10 I10 => again I10 hm w9) fun _ _ z => z
  rw [hsize]
  exact codeAny_compStart_list loop (T.self X.A 0 _ _ _ st3 loop)


theorem pe_comp {X : Cx} {iter elt : Expr} {ifs : List Expr} {x : Str} {px pos : Pos} {scope : Scope} (M : List Str) {wi : TI} {tc : CB → TT} {te : CB → TE}
    (hc : X.calm = true) (hi : PI X (.Name x px) iter wi)
    (hif : ∀ b : CB, PIfs (X.comp (M ++ [x]) scope b) ifs (tc b)) (he : ∀ b : CB, PE (X.comp (M ++ [x]) scope b) elt (te b))
    (ok : compOK X.env.scope scope x M X.N = true := by kernel_rfl)
    (hs : ∀ x, foldedSetIterable iter X.env x = pure x := by intro _; rfl) :
    PE X (.ListComp elt [⟨.Name x px, iter, ifs, 0⟩] scope pos) (tComp wi tc te) := by
  intro pins s σ H Q I h
  rw [eval_ListComp]
  exact comp_core M (use := none) (R := EP X pins σ Q) I h (fun D C m s' H' hn _ hI q => ⟨m, hn, fun h' sb => ⟨.ref D, H', hI h' sb, rfl, q⟩⟩) hc hi hif he ok hs
end L2

namespace L2
open PySem PySem.Spec PyProof.Rows

/-! ### comprehensions in the forms one uses -/
theorem comp_range {lo : Int} {n : Nat} {tc : TT} {te : TE} {σ : St} {H1 : Hp} {Q : Hp → Prop} {D : Addr} (Pv : Nat → List V → Hp → Prop) (hn : n < sizeLine) (h0 : Pv 0 [] (upd H1 D (.lst [])))
    (hl : ∀ i ys H, Pv i ys H → ys.length ≤ i)
    (hs : ∀ i ys H, i < n → Pv i ys H → tc (σ ++ [some (.int (lo + i))]) H fun b H2 => if b = true then te (σ ++ [some (.int (lo + i))]) H2 fun v H3 => H3 D = some (.lst ys) ∧ Pv (i + 1) (ys ++ [v]) (upd H3 D (.lst (ys ++ [v]))) else Pv (i + 1) ys H2)
    (hd : ∀ ys H, Pv n ys H → Q H) :
    ∃ W : Nat → Nat → List V → Hp → Prop, (∃ m, W 0 m [] (upd H1 D (.lst []))) ∧
      ∀ i m ys H, W i m ys H → ((Itr lo n).stop i H ∧ Q H) ∨ ((Itr lo n).go i H ∧ ys.length < sizeLine ∧ ∃ N : List V → Hp → Prop, (∀ ys' H', N ys' H' → ∃ m', m' < m ∧ W (i + 1) m' ys' H') ∧ ∀ x H', (Itr lo n).yld i H x H' → tc (σ ++ [some x]) H' fun b H2 =>
        if b = true then te (σ ++ [some x]) H2 fun v H3 => H3 D = some (.lst ys) ∧ N (ys ++ [v]) (upd H3 D (.lst (ys ++ [v]))) else N ys H2) := by
  refine ⟨fun i m ys H => m = n - i ∧ i ≤ n ∧ Pv i ys H, ⟨n, by simp, Nat.zero_le _, h0⟩, ?_⟩
  rintro i m ys H ⟨rfl, hi, p⟩
  by_cases hlt : i < n
  · refine .inr ⟨hlt, Nat.lt_of_le_of_lt (hl i ys H p) (Nat.lt_trans hlt hn), Pv (i + 1), fun ys' H' p' => ⟨n - (i + 1), by omega, rfl, hlt, p'⟩, fun x H' y => ?_⟩
    obtain ⟨e, y⟩ := y
    subst e y
    exact hs i ys _ hlt p
  · have e : i = n := by omega
    subst e
    exact .inl ⟨Nat.le_refl _, hd ys H p⟩

/-! ### data, and == of data -/
mutual
def DatV (K : PySem.W.Frag) (H : Hp) : PyData → V → Prop
  | .none, v => v = .non
  | .bool b, v => v = .bl b
  | .int i, v => v = .int i
  | .str x, v => v = .str x ∧ PyData.strOk x = true
  | .list ds, v => ∃ a xs, v = .ref a ∧ SqL K H a xs ∧ DatVs K H ds xs
  | .tuple ds, v => ∃ a xs, v = .ref a ∧ SqT K H a xs ∧ DatVs K H ds xs
  | .dict _, _ => False
def DatVs (K : PySem.W.Frag) (H : Hp) : List PyData → List V → Prop
  | [], xs => xs = []
  | d :: ds, xs => ∃ x r, xs = x :: r ∧ DatV K H d x ∧ DatVs K H ds r
end
section
variable {X : Cx} {pins : List (Addr × Obj)} {σ : St} {H : Hp} {s : Shared}
mutual
theorem DatV.reads (I : Inv X pins σ H s) : ∀ (d : PyData) (v : V) (u : Value), DatV X.K H d v → RelV v u → (∃ as, Reads s.heap u d as) ∧ d.canLay0 = true
  | .none, v, u, h, r => by
    rw [DatV] at h; subst h; cases r; exact ⟨⟨_, .none⟩, by simp [PyData.canLay0]⟩
  | .bool b, v, u, h, r => by
    rw [DatV] at h; subst h; cases r; exact ⟨⟨_, .bool b⟩, by simp [PyData.canLay0]⟩
  | .int i, v, u, h, r => by
    rw [DatV] at h; subst h; obtain ⟨t, rfl⟩ := r; exact ⟨⟨_, .int i t⟩, by simp [PyData.canLay0]⟩
  | .str x, v, u, h, r => by
    rw [DatV] at h; obtain ⟨h, hx⟩ := h; subst h; obtain ⟨t, rfl⟩ := r; exact ⟨⟨_, .str x t⟩, by simp [PyData.canLay0, hx]⟩
  | .list ds, v, u, h, r => by
    rw [DatV] at h; obtain ⟨a, xs, rfl, hq, hd⟩ := h
    cases r
    obtain ⟨its, rv, p, hz⟩ := I.list hq
    obtain ⟨⟨as, ra⟩, cl⟩ := DatVs.reads I ds xs its hd rv
    obtain ⟨o, ho, hc, n, hdt⟩ := p.isList
    exact ⟨⟨_, .list ho hc hdt (by simpa using ra)⟩, by rw [PyData.canLay0]; exact cl⟩
  | .tuple ds, v, u, h, r => by
    rw [DatV] at h; obtain ⟨a, xs, rfl, hq, hd⟩ := h
    cases r
    obtain ⟨its, rv, p, hz⟩ := I.tuple hq
    obtain ⟨⟨as, ra⟩, cl⟩ := DatVs.reads I ds xs its hd rv
    obtain ⟨o, ho, hc, n, hdt⟩ := p
    exact ⟨⟨_, .tuple ho hc hdt (by simpa using ra)⟩, by rw [PyData.canLay0]; exact cl⟩
  | .dict _, v, u, h, r => by rw [DatV] at h; exact h.elim
theorem DatVs.reads (I : Inv X pins σ H s) : ∀ (ds : List PyData) (vs : List V) (us : List Value), DatVs X.K H ds vs → Vals vs us → (∃ as, ReadsAll s.heap us ds as) ∧ PyData.canLayAll0 ds = true
  | [], vs, us, h, r => by
    rw [DatVs] at h; subst h; cases r; exact ⟨⟨_, .nil⟩, by simp [PyData.canLayAll0]⟩
  | d :: ds, vs, us, h, r => by
    rw [DatVs] at h; obtain ⟨x, rr, rfl, h1, h2⟩ := h
    cases r with
    | cons r1 r2 =>
      obtain ⟨⟨as, ra⟩, ca⟩ := DatV.reads I d x _ h1 r1
      obtain ⟨⟨bs, rb⟩, cb⟩ := DatVs.reads I ds rr _ h2 r2
      exact ⟨⟨_, .cons ra rb⟩, by rw [PyData.canLayAll0, ca, cb]; rfl⟩
end
def rEqD (K : PySem.W.Frag) (neg : Bool) : R2 := fun x y H Q => ∃ da db, DatV K H da x ∧ DatV K H db y ∧ min da.depth db.depth ≤ 64 ∧ Q (.bl (if neg then !PyData.eqv da db else PyData.eqv da db)) H
theorem op_eqD {k : Nat} (hr : Room k X.A) : OpR X (compareOp .Eq) (rEqD X.K false) := by
  intro pins s σ H x y v u Q I rx ry h
  obtain ⟨da, db, h1, h2, hd, q⟩ := h
  obtain ⟨⟨as, ra⟩, ca⟩ := DatV.reads I da x v h1 rx
  obtain ⟨⟨bs, rb⟩, cb⟩ := DatV.reads I db y u h2 ry
  exact SeqAt.compareEq_reads ra rb ca cb (by have := hr.units; omega) ⟨.bl _, H, I, rfl, q⟩
theorem op_neD {k : Nat} (hr : Room k X.A) : OpR X (compareOp .NotEq) (rEqD X.K true) := by
  intro pins s σ H x y v u Q I rx ry h
  obtain ⟨da, db, h1, h2, hd, q⟩ := h
  obtain ⟨⟨as, ra⟩, ca⟩ := DatV.reads I da x v h1 rx
  obtain ⟨⟨bs, rb⟩, cb⟩ := DatV.reads I db y u h2 ry
  exact SeqAt.compareNe_reads ra rb ca cb (by have := hr.units; omega) ⟨.bl _, H, I, rfl, q⟩
end

/-! ### lists of ints, of signs -/
theorem datVs_ints {K : PySem.W.Frag} {H : Hp} : ∀ ns : List Int, DatVs K H (ns.map PyData.int) (ns.map V.int)
  | [] => by simp [DatVs]
  | n :: ns => by
    rw [List.map_cons, List.map_cons, DatVs]
    exact ⟨_, _, rfl, by rw [DatV], datVs_ints ns⟩
theorem datV_ints {K : PySem.W.Frag} {H : Hp} {a : Addr} {ns : List Int} (h : SqL K H a (ns.map V.int)) : DatV K H (.list (ns.map PyData.int)) (.ref a) := by
  rw [DatV]; exact ⟨a, _, rfl, h, datVs_ints ns⟩
/-- a sign: a text of one code -/
abbrev sgS (c : Nat) : Str := ⟨#[c]⟩
abbrev sg (c : Nat) : V := .str (sgS c)
theorem datVs_sgs {K : PySem.W.Frag} {H : Hp} : ∀ cs : List Nat, (∀ c ∈ cs, c < 0x110000) → DatVs K H (cs.map fun c => PyData.str (sgS c)) (cs.map sg)
  | [], _ => by simp [DatVs]
  | c :: cs, h => by
    rw [List.map_cons, List.map_cons, DatVs]
    refine ⟨_, _, rfl, ?_, datVs_sgs cs fun c hc => h c (List.mem_cons_of_mem _ hc)⟩
    rw [DatV]
    exact ⟨rfl, by simp [PyData.strOk, h c List.mem_cons_self]⟩
theorem datV_sgs {K : PySem.W.Frag} {H : Hp} {a : Addr} {cs : List Nat} (h : SqL K H a (cs.map sg)) (hc : ∀ c ∈ cs, c < 0x110000) : DatV K H (.list (cs.map fun c => PyData.str (sgS c))) (.ref a) := by
  rw [DatV]; exact ⟨a, _, rfl, h, datVs_sgs cs hc⟩
theorem depthAll_ints : ∀ ns : List Int, PyData.depthAll (ns.map PyData.int) ≤ 1
  | [] => by simp [PyData.depthAll]
  | n :: ns => by
    have := depthAll_ints ns
    rw [List.map_cons, PyData.depthAll]
    simp only [PyData.depth]
    omega
theorem depthAll_sgs : ∀ cs : List Nat, PyData.depthAll (cs.map fun c => PyData.str (sgS c)) ≤ 1
  | [] => by simp [PyData.depthAll]
  | c :: cs => by
    have := depthAll_sgs cs
    rw [List.map_cons, PyData.depthAll]
    simp only [PyData.depth]
    omega
theorem depth_ints (ns : List Int) : (PyData.list (ns.map PyData.int)).depth ≤ 2 := by
  have := depthAll_ints ns
  rw [PyData.depth]; omega
theorem depth_sgs (cs : List Nat) : (PyData.list (cs.map fun c => PyData.str (sgS c))).depth ≤ 2 := by
  have := depthAll_sgs cs
  rw [PyData.depth]; omega
theorem eqvAll_ints : ∀ ns ms : List Int, PyData.eqvAll (ns.map PyData.int) (ms.map PyData.int) = decide (ns = ms)
  | [], [] => by simp [PyData.eqvAll]
  | [], _ :: _ => by simp [PyData.eqvAll]
  | _ :: _, [] => by simp [PyData.eqvAll]
  | n :: ns, m :: ms => by
    rw [List.map_cons, List.map_cons, PyData.eqvAll, eqvAll_ints ns ms]
    rw [PyData.eqv, Bool.beq_eq_decide_eq]
    simp
theorem sgS_inj {a b : Nat} : (sgS a == sgS b) = decide (a = b) := by
  by_cases h : a = b
  · subst h; simp
  · have : sgS a ≠ sgS b := fun e => h (by simpa [sgS] using e)
    simp [h, this]
theorem eqvAll_sgs : ∀ cs ds : List Nat, PyData.eqvAll (cs.map fun c => PyData.str (sgS c)) (ds.map fun c => PyData.str (sgS c)) = decide (cs = ds)
  | [], [] => by simp [PyData.eqvAll]
  | [], _ :: _ => by simp [PyData.eqvAll]
  | _ :: _, [] => by simp [PyData.eqvAll]
  | c :: cs, d :: ds => by
    rw [List.map_cons, List.map_cons, PyData.eqvAll, eqvAll_sgs cs ds, PyData.eqv, sgS_inj]
    simp
theorem eqv_ints (ns ms : List Int) : PyData.eqv (.list (ns.map PyData.int)) (.list (ms.map PyData.int)) = decide (ns = ms) := by rw [PyData.eqv, eqvAll_ints]
theorem eqv_sgs (cs ds : List Nat) : PyData.eqv (.list (cs.map fun c => PyData.str (sgS c))) (.list (ds.map fun c => PyData.str (sgS c))) = decide (cs = ds) := by rw [PyData.eqv, eqvAll_sgs]

/-- == of two lists of ints; of two lists of signs -/
def rEqI (K : PySem.W.Frag) (neg : Bool) : R2 := fun x y H Q => ∃ (a b : Addr) (ns ms : List Int), x = .ref a ∧ y = .ref b ∧ SqL K H a (ns.map V.int) ∧ SqL K H b (ms.map V.int) ∧ Q (.bl (if neg then !decide (ns = ms) else decide (ns = ms))) H
def rEqS (K : PySem.W.Frag) (neg : Bool) : R2 := fun x y H Q => ∃ (a b : Addr) (cs ds : List Nat), x = .ref a ∧ y = .ref b ∧ SqL K H a (cs.map sg) ∧ SqL K H b (ds.map sg) ∧ (∀ c ∈ cs, c < 0x110000) ∧ (∀ c ∈ ds, c < 0x110000) ∧ Q (.bl (if neg then !decide (cs = ds) else decide (cs = ds))) H
section
variable {X : Cx} {k : Nat}
theorem OpR.imp {f : Value → Value → Sem Value} {r r' : R2} (h : OpR X f r) (i : ∀ x y H Q, r' x y H Q → r x y H Q) : OpR X f r' := fun pins s σ H x y v u Q I rx ry q => h pins s σ H x y v u Q I rx ry (i _ _ _ _ q)
theorem rEqI.toD {K : PySem.W.Frag} {neg : Bool} : ∀ x y H Q, rEqI K neg x y H Q → rEqD K neg x y H Q := by
  rintro x y H Q ⟨a, b, ns, ms, rfl, rfl, h1, h2, q⟩
  refine ⟨_, _, datV_ints h1, datV_ints h2, Nat.le_trans (Nat.min_le_left _ _) (Nat.le_trans (depth_ints ns) (by decide)), ?_⟩
  rw [eqv_ints]
  exact q
theorem rEqS.toD {K : PySem.W.Frag} {neg : Bool} : ∀ x y H Q, rEqS K neg x y H Q → rEqD K neg x y H Q := by
  rintro x y H Q ⟨a, b, ns, ms, rfl, rfl, h1, h2, c1, c2, q⟩
  refine ⟨_, _, datV_sgs h1 c1, datV_sgs h2 c2, Nat.le_trans (Nat.min_le_left _ _) (Nat.le_trans (depth_sgs ns) (by decide)), ?_⟩
  rw [eqv_sgs]
  exact q
theorem op_eqLS (hr : Room k X.A) : OpR X (compareOp .Eq) (rEqS X.K false) := (op_eqD hr).imp rEqS.toD
theorem op_le_str : OpR X (compareOp .LtE) (fun x y H Q => ∃ i j, x = .str i ∧ y = .str j ∧ Q (.bl (!decide (j.cps.toList < i.cps.toList))) H) := by
  intro pins s σ H x y v u Q I rx ry h
  obtain ⟨i, j, rfl, rfl, q⟩ := h
  obtain ⟨t, rfl⟩ := rx
  obtain ⟨t', rfl⟩ := ry
  exact PySem.P.le_str ⟨.bl _, H, I, rfl, q⟩
/-- isinstance of a value whose type is known, a built-in type -/
theorem call_isinst : CallR X (.builtin "isinstance") (fun xs H Q => ∃ x t c b, xs = [x, .ty c] ∧ TyOf X.K H x t ∧ PySem.W.kitOne X.K t (.type c) = some b ∧ Q (.bl b) H) := by
  intro pins s σ H xs us Q I r h
  obtain ⟨x, t, c, b, rfl, ty, e, q⟩ := h
  obtain ⟨u, u', rfl, rx, rc⟩ := vals2 r
  cases rc
  exact isinst_ok I rx ty e fun tk => ⟨.bl b, H, I.tok tk, rfl, q⟩
/-- s[lo:hi] of a text -/
def cutS (z : Str) (lo hi : Option Int) : Str := Txt.slice z lo hi
def rSlS : V → Option Int → Option Int → Hp → VK → Prop := fun x lo hi H Q => ∃ z, x = .str z ∧ z.length ≤ sizeLine ∧ Q (.str (cutS z lo hi)) H
theorem sl_str : SlR X rSlS := by
  intro pins s σ H x v vl vu lo hi sl Q I rx hs pl pu h
  obtain ⟨z, rfl, hz, q⟩ := h
  obtain ⟨t, rfl⟩ := rx
  have fin : ∀ t' k, EP X pins σ Q (.str (Txt.slice z lo hi) t') { s with toks := k } := fun t' k => ⟨.str _, H, I.tok k, ⟨t', rfl⟩, q⟩
  refine ⟨"str", _, F.slot_str_getitem.lookup, typeIs_str _ _ _, ?_⟩
  obtain ⟨o, ho, hc, hd⟩ := hs
  cases pl with
  | none =>
    cases pu with
    | none => exact wpAny_getItem_str_slice (l := none) (u := none) (st := none) ⟨o, ho, hc, hd⟩ rfl (post_val_or_str ⟨Nat.le_trans (Txt.slice_le z _ _) hz, fun t' k => fin t' k⟩)
    | int j uj => exact wpAny_getItem_str_slice (l := none) (u := some (j, uj)) (st := none) ⟨o, ho, hc, hd⟩ rfl (post_val_or_str ⟨Nat.le_trans (Txt.slice_le z _ _) hz, fun t' k => fin t' k⟩)
  | int i ui =>
    cases pu with
    | none => exact wpAny_getItem_str_slice (l := some (i, ui)) (u := none) (st := none) ⟨o, ho, hc, hd⟩ rfl (post_val_or_str ⟨Nat.le_trans (Txt.slice_le z _ _) hz, fun t' k => fin t' k⟩)
    | int j uj => exact wpAny_getItem_str_slice (l := some (i, ui)) (u := some (j, uj)) (st := none) ⟨o, ho, hc, hd⟩ rfl (post_val_or_str ⟨Nat.le_trans (Txt.slice_le z _ _) hz, fun t' k => fin t' k⟩)
end
end L2

namespace L2
open PySem PySem.Spec PyProof.Rows
/-! ### a def of the text, by its name -/
structure Fn (P : Program) (w : World) (K : PySem.W.Frag) (mg : Str → Option Value) (base : Heap) (CX : CXT) (x : Str) (k : Nat) (ps : List Str) (sp : Sp) : Prop where
  ex : ∃ f fd, FnOk P w K mg base CX k f fd ps sp ∧ mg x = some (.ref f) ∧ PySem.W.keepIn K (.ref f) = true ∧ Binds K fd ps [] ∧ ∃ oc od osl, K.lookup f = some ⟨oc, od, .func fd, osl⟩
theorem pe_fn {X : Cx} {CX : CXT} {k j : Nat} {ps : List Str} {sp : Sp} {E : XK} {x : Str} {p pos : Pos} {e : Expr} {es : List Expr} {t : TA} (F : Fn X.prog X.w X.K X.mg X.base CX x k ps sp) (hr : Room j X.A) (hx : Passes CX X E) (ha : PA X (e :: es) t) (hg : Gl X x := by rfl) (hj : k ≤ j := by decide)
    (hdb : (x == ("__debug__" : Str)) = false := by decide) (he : starEach (e :: es) X.env = (false, eval e X.env) :: starEach es X.env := by rfl) (hpl : (backTo pos (starEach es X.env)).any (·.1) = false := by rfl) :
    PE X (.Call (.Name x p) (e :: es) [] pos) (tCall sp [] E t) := by
  obtain ⟨f, fd, F, hm, hk, hb, _⟩ := F.ex
  exact pe_call F (hr.mono hj) hg hm hk hb .nil hx ha hdb he hpl
/-- what the top has written of a def -/
structure FF (K : PySem.W.Frag) (x : Str) (st : Stmt) : Prop where
  ex : ∃ (f : Addr) (oc : Value) (od an : Option Addr) (osl : Array (Option Value)) (kV doc pm cdv ct : Value), PySem.W.nsIn K mainGlobals x = some (some (.ref f)) ∧
    K.lookup f = some ⟨oc, od, .func (PySem.W.fnOf x x (defArgs st) (defBody st) (defScope st) .none kV doc pm an cdv ct), osl⟩ ∧ PySem.W.codeIn K cdv x = true ∧ PySem.W.keepIn K (.ref f) = true
theorem ff_mk {K : PySem.W.Frag} {x : Str} {st : Stmt} {f : Addr} {oc : Value} {od an : Option Addr} {osl : Array (Option Value)} {kV doc pm cdv ct : Value} (a : PySem.W.nsIn K mainGlobals x = some (some (.ref f)))
    (l : K.lookup f = some ⟨oc, od, .func (PySem.W.fnOf x x (defArgs st) (defBody st) (defScope st) .none kV doc pm an cdv ct), osl⟩) (c : PySem.W.codeIn K cdv x = true) (k : PySem.W.keepIn K (.ref f) = true) : FF K x st := ⟨f, oc, od, an, osl, kV, doc, pm, cdv, ct, a, l, c, k⟩
/-- the facts of the module that a def wants -/
structure Md (K : PySem.W.Frag) (mg : Str → Option Value) : Prop where
  ns : ∀ x v, PySem.W.nsIn K mainGlobals x = some v → mg x = v
theorem md_of {K : PySem.W.Frag} {h : Heap} {mg : Str → Option Value} (X : K.In h) (G : h.Ns mainGlobals mg) : Md K mg := ⟨fun x v e => by
  cases v with
  | none => exact PySem.W.mg_none_of X G e
  | some u => exact PySem.W.mg_of X G e⟩
/-- THE RULE for a def of the text: no exception leaves it -/
theorem fn_ok {P : Program} {w : World} {K : PySem.W.Frag} {mg : Str → Option Value} {base : Heap} {x : Str} {st : Stmt} {N ps : List Str} {k : Nat} {sp : Sp} (M : Md K mg) (F : FF K x st) (S : FnScope N ps (defScope st))
    (hbind : ∀ (kV doc pm : Value) (an : Option Addr) (cdv ct : Value) (us : List Value), us.length = ps.length → bindArgs (PySem.W.fnOf x x (defArgs st) (defBody st) (defScope st) .none kV doc pm an cdv ct) ⟨us, []⟩ = pure (ps.zip us))
    (len : ∀ vs H Q E, sp vs H Q E → vs.length = ps.length)
    (hbody : ∀ (f : Addr) (cdv : Value) (A : Around) (outer : List Env) (s : Shared) (H : Hp) (vs : List V) (Q : VK) (E : XK), Room k (A.deeper (envOfC x (defScope st) s.heap.objs.size f cdv)) → sp vs H Q E →
      ∃ t, PSs (cxOf CX0 P w K mg base N x (defScope st) f cdv A outer s H E).nox (defBody st) t ∧ t { nx := fun _ H' => Q .non H', rt := Q } (start N vs) H) : Fn P w K mg base CX0 x (k + 1) ps sp := by
  obtain ⟨f, oc, od, an, osl, kV, doc, pm, cdv, ct, a, l, c, kk⟩ := F.ex
  have F1 := fun_mk (st := st) l c kk
  exact ⟨f, _, F1.ok S len (fun cdv A outer s H vs Q E hr h => hbody f cdv A outer s H vs Q E hr h), M.ns _ _ a, kk, F1.binds hbind, oc, od, osl, l⟩
/-- the law's own def, for the head -/
theorem law_of {P : Program} {w : World} {K : PySem.W.Frag} {mg : Str → Option Value} {st : Stmt} {fa : Addr} {k : Nat} {sp : Sp} {CX : CXT} (M : Md K mg) (F : FF K "law" st) (hfa : mg "law" = some (.ref fa))
    (hb : ∀ (kV doc pm : Value) (an : Option Addr) (cdv ct : Value) (s : Shared) (v : Value), BindsTo s (PySem.W.fnOf "law" "law" (defArgs st) (defBody st) (defScope st) .none kV doc pm an cdv ct) ⟨[v], []⟩ [("script", v)])
    (h : ∀ base : Heap, Fn P w K mg base CX "law" k ["script"] sp) :
    ∃ fd : FuncData, (∀ (s : Shared) (v : Value), BindsTo s fd ⟨[v], []⟩ [("script", v)]) ∧ ∀ base : Heap, K.In base → base.Ns mainGlobals mg → FnOk P w K mg base CX k fa fd ["script"] sp := by
  obtain ⟨f, oc, od, an, osl, kV, doc, pm, cdv, ct, a, l, c, kk⟩ := F.ex
  have e := hfa.symm.trans (M.ns _ _ a)
  cases e
  refine ⟨_, hb kV doc pm an cdv ct, fun base _ _ => ?_⟩
  obtain ⟨f', fd', F', hm', _, _, oc', od', osl', l'⟩ := (h base).ex
  have e := hm'.symm.trans (M.ns _ _ a)
  cases e
  rw [l] at l'
  cases l'
  exact F'
/-- the built-in names that the text does not bind -/
structure Bl (mg : Str → Option Value) : Prop where
  max : mg "max" = none
  int : mg "int" = none
  len : mg "len" = none
  range : mg "range" = none
  list : mg "list" = none
  isinst : mg "isinstance" = none
  bool : mg "bool" = none
  str : mg "str" = none
  tuple : mg "tuple" = none
  rev : mg "reversed" = none
  zip : mg "zip" = none
  min : mg "min" = none
  sum : mg "sum" = none
  enumerate : mg "enumerate" = none
  dict : mg "dict" = none
theorem bl_of {K : PySem.W.Frag} {mg : Str → Option Value} (M : Md K mg) (b1 : PySem.W.nsIn K mainGlobals "max" = some none) (b2 : PySem.W.nsIn K mainGlobals "int" = some none) (b3 : PySem.W.nsIn K mainGlobals "len" = some none) (b4 : PySem.W.nsIn K mainGlobals "range" = some none) (b5 : PySem.W.nsIn K mainGlobals "list" = some none) (b6 : PySem.W.nsIn K mainGlobals "isinstance" = some none) (b7 : PySem.W.nsIn K mainGlobals "bool" = some none) (b8 : PySem.W.nsIn K mainGlobals "str" = some none) (b9 : PySem.W.nsIn K mainGlobals "tuple" = some none) (b10 : PySem.W.nsIn K mainGlobals "reversed" = some none) (b11 : PySem.W.nsIn K mainGlobals "zip" = some none) (b12 : PySem.W.nsIn K mainGlobals "min" = some none) (b13 : PySem.W.nsIn K mainGlobals "sum" = some none) (b14 : PySem.W.nsIn K mainGlobals "enumerate" = some none) (b15 : PySem.W.nsIn K mainGlobals "dict" = some none) : Bl mg :=
  ⟨M.ns _ _ b1, M.ns _ _ b2, M.ns _ _ b3, M.ns _ _ b4, M.ns _ _ b5, M.ns _ _ b6, M.ns _ _ b7, M.ns _ _ b8, M.ns _ _ b9, M.ns _ _ b10, M.ns _ _ b11, M.ns _ _ b12, M.ns _ _ b13, M.ns _ _ b14, M.ns _ _ b15⟩
/-- everything tracked but p is as it was -/
def Keep (p : Addr) (H H' : Hp) : Prop := ∀ b o, H b = some o → b ≠ p → H' b = some o
theorem Keep.refl (p : Addr) (H : Hp) : Keep p H H := fun _ _ h _ => h
theorem Keep.trans {p : Addr} {H H1 H2 : Hp} (a : Keep p H H1) (b : Keep p H1 H2) : Keep p H H2 := fun c o h n => b c o (a c o h n) n
theorem Same.keep {p : Addr} {H H' : Hp} (a : Same H H') : Keep p H H' := fun c o h _ => a c o h
theorem Keep.upd {p : Addr} {H : Hp} {o : HO} : Keep p H (upd H p o) := fun c u h n => by rw [upd_ne n]; exact h
theorem Same.upd {H : Hp} {p : Addr} {o : HO} (h : H p = none) : Same H (upd H p o) := fun c u e => by rw [upd_ne (ne_of_none e h)]; exact e
theorem Keep.free {p : Addr} {H H' : Hp} (a : Keep p H H') {o : HO} (hp : H' p = some o) {l : Addr} (h : H' l = none) : H l = none := by
  cases q : H l with
  | none => rfl
  | some u =>
    have : l ≠ p := fun z => by subst z; rw [hp] at h; cases h
    rw [a l u q this] at h; cases h

/-! ### built-in calls in short -/
theorem bt_min : bootBuiltins "min" = some (.builtin "min") := by decide +kernel
theorem bt_len : bootBuiltins "len" = some (.builtin "len") := by decide +kernel
theorem bt_isinst : bootBuiltins "isinstance" = some (.builtin "isinstance") := by decide +kernel
theorem bt_str : bootBuiltins "str" = some (.type "str") := by decide +kernel
theorem bt_list : bootBuiltins "list" = some (.type "list") := by decide +kernel
section
variable {X : Cx} {e e2 : Expr} {te te2 : TE} {p p2 pos : Pos}
theorem PE.imp {t t' : TE} (h : PE X e t) (i : ∀ σ H Q, t' σ H Q → t σ H Q) : PE X e t' := fun pins s σ H Q I q => h pins s σ H Q I (i σ H Q q)
def tLenL (K : PySem.W.Frag) (te : TE) : TE := fun σ H Q => te σ H fun x H1 => ∃ a ys, x = .ref a ∧ SqL K H1 a ys ∧ Q (.int ys.length) H1
def tLenS (te : TE) : TE := fun σ H Q => te σ H fun x H1 => ∃ z, x = .str z ∧ z.length ≤ sizeLine ∧ Q (.int z.length) H1
def tIsi (K : PySem.W.Frag) (c : String) (te : TE) : TE := fun σ H Q => te σ H fun x H1 => ∃ t b, TyOf K H1 x t ∧ PySem.W.kitOne K t (.type c) = some b ∧ Q (.bl b) H1


def r1 (r : V → Hp → VK → Prop) : List V → Hp → VK → Prop := fun xs H Q => match xs with | [x] => r x H Q | _ => False
def r2' (r : V → V → Hp → VK → Prop) : List V → Hp → VK → Prop := fun xs H Q => match xs with | [x, y] => r x y H Q | _ => False
theorem callR1 {f : Value} {r : V → Hp → VK → Prop} (h : ∀ pins s σ H x us Q, Inv X pins σ H s → Vals [x] us → r x H Q → wpAny (model X.prog X.w) X.A (call f us) (EP X pins σ Q) X.xe s) : CallR X f (r1 r) := by
  intro pins s σ H xs us Q I rv q
  match xs, q with
  | [x], q => exact h pins s σ H x us Q I rv q
theorem callR2 {f : Value} {r : V → V → Hp → VK → Prop} (h : ∀ pins s σ H x y us Q, Inv X pins σ H s → Vals [x, y] us → r x y H Q → wpAny (model X.prog X.w) X.A (call f us) (EP X pins σ Q) X.xe s) : CallR X f (r2' r) := by
  intro pins s σ H xs us Q I rv q
  match xs, q with
  | [x, y], q => exact h pins s σ H x y us Q I rv q
theorem pe_lenL (hm : X.mg "len" = none) (ha : PE X e te) (hg : Gl X "len" := by rfl) (he : starEach [e] X.env = [(false, eval e X.env)] := by rfl) : PE X (.Call (.Name "len" p) [e] [] pos) (tLenL X.K te) :=
  pe_callB (r := r1 fun x H Q => ∃ a ys, x = .ref a ∧ SqL X.K H a ys ∧ Q (.int ys.length) H) (callR1 fun pins s σ H x us Q I rv ⟨a, ys, ex, h, q⟩ => call_len_seq pins s σ H _ us Q I rv ⟨a, ys, by rw [ex], .inl h, q⟩) hg hm bt_len (pa_cons ha pa_nil (by exact he)) (he := by exact he)
theorem pe_lenS (hm : X.mg "len" = none) (ha : PE X e te) (hg : Gl X "len" := by rfl) (he : starEach [e] X.env = [(false, eval e X.env)] := by rfl) : PE X (.Call (.Name "len" p) [e] [] pos) (tLenS te) :=
  pe_callB (r := r1 fun x H Q => ∃ z, x = .str z ∧ z.length ≤ sizeLine ∧ Q (.int z.length) H) (callR1 fun pins s σ H x us Q I rv ⟨z, ex, h, q⟩ => call_len_str pins s σ H _ us Q I rv ⟨z, by rw [ex], h, q⟩) hg hm bt_len (pa_cons ha pa_nil (by exact he)) (he := by exact he)
theorem pe_isi {T : Str} {c : String} (hm : X.mg "isinstance" = none) (hT : X.mg T = none) (hb : bootBuiltins T = some (.type c)) (ha : PE X e te) (hg : Gl X "isinstance" := by rfl) (hgT : Gl X T := by rfl) (he : starEach [e, .Name T p2] X.env = [(false, eval e X.env), (false, eval (.Name T p2) X.env)] := by rfl)
    (hn : T ≠ "__name__" := by decide) (hd : (T == ("__debug__" : Str)) = false := by decide) : PE X (.Call (.Name "isinstance" p) [e, .Name T p2] [] pos) (tIsi X.K c te) :=
  pe_callB (r := r2' fun x y H Q => ∃ t b, y = .ty c ∧ TyOf X.K H x t ∧ PySem.W.kitOne X.K t (.type c) = some b ∧ Q (.bl b) H)
    (callR2 fun pins s σ H x y us Q I rv ⟨t, b, ey, ty, ek, q⟩ => call_isinst pins s σ H _ us Q I rv ⟨x, t, c, b, by rw [ey], ty, ek, q⟩) hg hm bt_isinst
    (pa_cons ha (pa_cons (pe_bltn (v := .ty c) hgT hT hb rfl hn hd) pa_nil) (by exact he)) (he := by exact he) |>.imp fun σ H Q h => by
      show te σ H fun x H1 => ∃ t b, V.ty c = .ty c ∧ _
      simp only [true_and]
      exact h
end
end L2

namespace L2
open PySem PySem.Spec PyProof.Rows
theorem sIx_pos (n d : Nat) (i : Int) (h : 0 ≤ i) : HT.sIx n d (some i) = min i.toNat n := by
  show (if i < 0 then (i + (n : Int)).toNat else min i.toNat n) = min i.toNat n
  rw [if_neg (by omega)]
theorem take_min {α : Type} (xs : List α) (k : Nat) : xs.take (min k xs.length) = xs.take k := by
  rcases Nat.le_total k xs.length with h | h
  · rw [Nat.min_eq_left h]
  · rw [Nat.min_eq_right h, List.take_length, List.take_of_length_le h]
theorem drop_min {α : Type} (xs : List α) (k : Nat) : xs.drop (min k xs.length) = xs.drop k := by
  rcases Nat.le_total k xs.length with h | h
  · rw [Nat.min_eq_left h]
  · rw [Nat.min_eq_right h, List.drop_length, List.drop_of_length_le h]
/-- a slice of a list, its bounds from 0 on -/
def cutL {α : Type} (xs : List α) (lo hi : Option Int) : List α := (xs.drop (HT.sIx xs.length 0 lo)).take (HT.sIx xs.length xs.length hi - HT.sIx xs.length 0 lo)
theorem cutL_hi {α : Type} (xs : List α) (k : Int) (h : 0 ≤ k) : cutL xs none (some k) = xs.take k.toNat := by
  unfold cutL
  rw [sIx_pos _ _ _ h, HT.sIx_none, List.drop_zero, Nat.sub_zero, take_min]
theorem cutL_lo {α : Type} (xs : List α) (k : Int) (h : 0 ≤ k) : cutL xs (some k) none = xs.drop k.toNat := by
  unfold cutL
  rw [sIx_pos _ _ _ h, HT.sIx_none, drop_min]
  exact List.take_of_length_le (by rw [List.length_drop]; omega)
theorem cutL_both {α : Type} (xs : List α) (i j : Int) (hi : 0 ≤ i) (hj : i ≤ j) : cutL xs (some i) (some j) = (xs.drop i.toNat).take (j.toNat - i.toNat) := by
  unfold cutL
  rw [sIx_pos _ _ _ hi, sIx_pos _ _ _ (Int.le_trans hi hj), drop_min]
  rcases Nat.le_total j.toNat xs.length with h | h
  · rw [Nat.min_eq_left h, Nat.min_eq_left (by omega)]
  · rw [Nat.min_eq_right h]
    rcases Nat.le_total i.toNat xs.length with h' | h'
    · rw [Nat.min_eq_left h', List.take_of_length_le (by rw [List.length_drop]; omega), List.take_of_length_le (by rw [List.length_drop]; omega)]
    · rw [List.drop_of_length_le h']; simp
theorem cutL_map {α β : Type} (f : α → β) (xs : List α) (lo hi : Option Int) : cutL (xs.map f) lo hi = (cutL xs lo hi).map f := by
  unfold cutL
  rw [List.length_map, List.map_take, List.map_drop]
theorem cutV_cutL (xs : List V) (lo hi : Option Int) : cutV xs lo hi = cutL xs lo hi := rfl
theorem strIx_eq (lo hi : Option Int) (n : Nat) : Builtin.Str.strSliceIndices lo hi 1 n = (List.range (HT.sIx n n hi - HT.sIx n 0 lo)).map (HT.sIx n 0 lo + ·) := by
  obtain ⟨h1, h2, h3⟩ := slice_bounds lo hi n
  have e : Builtin.Str.strSliceIndices lo hi 1 n = sliceRange (sliceBounds lo hi none n).1 (sliceBounds lo hi none n).2.1 (sliceBounds lo hi none n).2.2 := by
    cases lo <;> cases hi <;> rfl
  rw [e, h1, h2, h3, sliceRange_one]
theorem cutS_eq (cs : List Nat) (lo hi : Option Int) : cutS ⟨cs.toArray⟩ lo hi = ⟨(cutL cs lo hi).toArray⟩ := by
  unfold cutS Txt.slice
  have hl : (Str.length ⟨cs.toArray⟩) = cs.length := by simp [Str.length]
  rw [hl, strIx_eq]
  have e := pick_run cs.toArray (HT.sIx cs.length 0 lo) (HT.sIx cs.length cs.length hi - HT.sIx cs.length 0 lo)
  have le1 := HT.sIx_le cs.length 0 (Nat.zero_le _) lo
  have le2 := HT.sIx_le cs.length cs.length (Nat.le_refl _) hi
  split
  · rename_i hc
    simp only [List.length_map, List.length_range, beq_self_eq_true, Bool.true_and, beq_iff_eq] at hc
    unfold cutL
    have z : HT.sIx cs.length 0 lo = 0 ∨ cs.length = 0 := by omega
    have : (cs.drop (HT.sIx cs.length 0 lo)).take (HT.sIx cs.length cs.length hi - HT.sIx cs.length 0 lo) = cs := by
      rcases z with z | z
      · rw [z] at hc ⊢
        rw [List.drop_zero]
        exact List.take_of_length_le (by omega)
      · have : cs = [] := List.length_eq_zero_iff.mp z
        subst this; simp
    rw [this]
  · rw [e]
    rfl
theorem atI_ex {α : Type} (xs : List α) (r : Int) (h0 : 0 ≤ r) (h1 : r < xs.length) : ∃ v, xs[r.toNat]? = some v ∧ v ∈ xs ∧ atI xs r = some v := by
  have hl : r.toNat < xs.length := by omega
  refine ⟨xs[r.toNat], by simp [hl], List.getElem_mem hl, ?_⟩
  have e : ((r.toNat : Nat) : Int) = r := by omega
  have q : atI xs ((r.toNat : Nat) : Int) = some xs[r.toNat] := atI_nat (by simp [hl])
  rw [e] at q
  exact q
theorem str_len (cs : List Nat) : (Str.length ⟨cs.toArray⟩) = cs.length := by simp [Str.length]
theorem str_app (a b : List Nat) : ((⟨a.toArray⟩ : Str) ++ (⟨b.toArray⟩ : Str)) = ⟨(a ++ b).toArray⟩ := by
  show Str.mk _ = _
  simp
end L2

namespace L2
open PySem PySem.Spec PyProof.Rows
theorem tNoIf_go {σ : St} {H : Hp} {A B : Hp → Prop} (h : A H) : tNoIf σ H fun b H2 => if b = true then A H2 else B H2 := by
  show if true = true then A H else B H
  rw [if_pos rfl]
  exact h
theorem datVs_nil {K : PySem.W.Frag} {H : Hp} : DatVs K H [] [] := by rw [DatVs]
theorem datVs_cons {K : PySem.W.Frag} {H : Hp} {d : PyData} {ds : List PyData} {v : V} {vs : List V} (h : DatV K H d v) (g : DatVs K H ds vs) : DatVs K H (d :: ds) (v :: vs) := by
  rw [DatVs]; exact ⟨v, vs, rfl, h, g⟩
theorem datV_lst {K : PySem.W.Frag} {H : Hp} {p : Addr} {ds : List PyData} {vs : List V} (h : SqL K H p vs) (g : DatVs K H ds vs) : DatV K H (.list ds) (.ref p) := by
  rw [DatV]; exact ⟨p, vs, rfl, h, g⟩
theorem datV_bool {K : PySem.W.Frag} {H : Hp} (b : Bool) : DatV K H (.bool b) (.bl b) := by rw [DatV]
theorem datV_str {K : PySem.W.Frag} {H : Hp} (x : Str) (h : PyData.strOk x = true) : DatV K H (.str x) (.str x) := by rw [DatV]; exact ⟨rfl, h⟩
theorem Same.tup {K : PySem.W.Frag} {H H' : Hp} {a : Addr} {xs : List V} (e : Same H H') (h : H a = some (.tup xs)) : SqT K H' a xs := SqT.of (e _ _ h)
end L2

namespace L2
open PySem PySem.Spec PyProof.Rows
section
variable {X : Cx} {a b e : Expr} {rest : List Expr} {ta tb te : TE} {p pos : Pos}
end
/-! ### to go on at the first statement -/
def FW (J : It) (g : TG) (tb : TS) (D : Ends) (σ : St) (H1 : Hp) : Prop := ∃ W : Nat → Nat → St → Hp → Prop, (∃ m, W 0 m σ H1) ∧ ∀ i m σ H, W i m σ H →
  (J.stop i H ∧ D.nx σ H) ∨ (J.go i H ∧ ∃ N : St → Hp → Prop, (∀ σ' H', N σ' H' → ∃ m', m' < m ∧ W (i + 1) m' σ' H') ∧ ∀ x H', J.yld i H x H' → g x σ H' fun σ2 H2 => tb { D with nx := N, ct := N, bk := D.nx } σ2 H2)
theorem seq_for {wi : TI} {g : TG} {tb rest : TS} {D : Ends} {σ : St} {H : Hp} (h : wi σ H fun J H1 => FW J g tb { D with nx := rest D } σ H1) : tSeq (tFor wi g tb) rest D σ H := h
theorem seq_drop {te : TE} {rest : TS} {D : Ends} {σ : St} {H : Hp} (h : te σ H fun _ H1 => rest D σ H1) : tSeq (tDrop te) rest D σ H := h
end L2

namespace L2
open PySem PySem.Spec PyProof.Rows
/-! ### // by a divisor of up to sixty figures -/
def CDivL (i j : Int) : Prop := 0 < j ∧ j < 1000000000000000000000000000000000000000000000000000000000000
theorem op_fdivL {X : Cx} : OpR X (binaryOp .FloorDiv) (rI CDivL fun i j => .int (i / j)) := opI fun i j _ _ _ _ _ hc q => by
  have hn : j.natAbs.log2 < 9000 := by
    have h0 : j.natAbs ≠ 0 := by have := hc.1; omega
    rw [Nat.log2_lt h0]
    have h1 : j.natAbs < 1000000000000000000000000000000000000000000000000000000000000 := by have := hc.1; have := hc.2; omega
    exact Nat.lt_of_lt_of_le h1 (Nat.le_trans (show 1000000000000000000000000000000000000000000000000000000000000 ≤ 2 ^ 200 by decide) (Nat.pow_le_pow_right (by decide) (by decide)))
  refine floordiv_int (by have := hc.1; omega) ?_ (.inl (PyProof.noPylong_of_log2 hn))
  rw [Int.fdiv_eq_ediv_of_nonneg _ (by have := hc.1; omega)]
  exact q
/-! ### records turned, and a new object -/
/-! ### zip of two lists -/
/-! ### xs[::-1] -/
end L2

namespace L2
open PySem PySem.Spec PyProof.Rows
section
variable {X : Cx} {e e2 : Expr} {te te2 : TE} {p p2 pos : Pos}
def tMin2 (te te2 : TE) : TE := fun σ H Q => te σ H fun x H1 => te2 σ H1 fun y H2 => ∃ i j, x = .int i ∧ y = .int j ∧ Q (.int (if j < i then j else i)) H2
theorem pe_min (hc : X.calm = true) (hm : X.mg "min" = none) (ha : PE X e te) (hb : PE X e2 te2) (hg : Gl X "min" := by rfl) (he : starEach [e, e2] X.env = [(false, eval e X.env), (false, eval e2 X.env)] := by rfl) (he2 : starEach [e2] X.env = [(false, eval e2 X.env)] := by rfl) : PE X (.Call (.Name "min" p) [e, e2] [] pos) (tMin2 te te2) :=
  pe_callB (r := r2' fun x y H Q => ∃ i j, x = .int i ∧ y = .int j ∧ Q (.int (if j < i then j else i)) H) (callR2 fun pins s σ H x y us Q I rv ⟨i, j, ex, ey, q⟩ => call_min2 hc pins s σ H _ us Q I rv ⟨i, j, by rw [ex, ey], q⟩) hg hm bt_min (pa_cons ha (pa_cons hb pa_nil (by exact he2)) (by rw [he, he2])) (he := by rw [he, he2]) (hpl := by rw [he2]; rfl)
end
end L2
namespace L2
open PySem PySem.Spec PyProof.Rows
/-! ### a row of written whole numbers -/
end L2

namespace L2
open PySem PySem.Spec PyProof.Rows
/-! ### enumerate of a list -/
end L2

namespace L2
open PySem PySem.Spec PyProof.Rows
/-! ### sum of a list of small numbers -/
section
variable {X : Cx}
variable {e : Expr} {te : TE} {p pos : Pos}
end
end L2

namespace L2
open PySem PySem.Spec PyProof.Rows
/-! ### list of a text -/
theorem vals_of_get : ∀ {xs : List V} {us : List Value}, xs.length = us.length → (∀ (i : Nat) (x : V) (u : Value), xs[i]? = some x → us[i]? = some u → RelV x u) → Vals xs us
  | [], [], _, _ => .nil
  | [], _ :: _, h, _ => by simp at h
  | _ :: _, [], h, _ => by simp at h
  | x :: xs, u :: us, h, g => .cons (g 0 x u rfl rfl) (vals_of_get (by simpa using h) fun i x' u' a b => g (i + 1) x' u' (by simpa using a) (by simpa using b))
section
variable {X : Cx} {e : Expr} {te : TE} {p pos : Pos}
theorem call_listS (hc : X.calm = true) : CallR X (.type "list") (fun xs H Q => ∃ z : Str, xs = [.str z] ∧ z.length ≤ sizeLine ∧ ∀ l, H l = none → Q (.ref l) (upd H l (.lst (z.cps.toList.map sg)))) := by
  intro pins s σ H xs us Q I r h
  obtain ⟨z, rfl, hz, q⟩ := h
  obtain ⟨u, rfl, rx⟩ := vals1 r
  obtain ⟨t, rfl⟩ := rx
  refine call_list_str (hn := hz) (I.ok.hd hc) z t fun h' tk acc c k hl hit => ?_
  refine ⟨.ref _, _, I.laid (t' := tk) (o := .lst (z.cps.toList.map sg)) k (Nat.le_refl _) ?_, rfl, q _ (I.hok.fresh (Nat.le_refl _))⟩
  obtain ⟨hsz, hat⟩ := hit
  refine ⟨by rw [List.length_map]; simpa [Str.length] using hz, acc.toList, c, ?_, by simpa using hl⟩
  refine vals_of_get (by rw [List.length_map]; simp [hsz]) fun i x u hx hu => ?_
  have hu' : acc[i]? = some u := by simpa using hu
  obtain ⟨c', t', h1, rfl⟩ := hat i u hu'
  rw [List.getElem?_map] at hx
  have : z.cps.toList[i]? = some c' := by simpa using h1
  rw [this] at hx
  have e : sg c' = x := Option.some.inj hx
  subst e
  exact ⟨t', rfl⟩
def tListS (te : TE) : TE := fun σ H Q => te σ H fun x H1 => ∃ z : Str, x = .str z ∧ z.length ≤ sizeLine ∧ ∀ l, H1 l = none → Q (.ref l) (upd H1 l (.lst (z.cps.toList.map sg)))
theorem pe_listS (hc : X.calm = true) (hm : X.mg "list" = none) (ha : PE X e te) (hg : Gl X "list" := by rfl) (he : starEach [e] X.env = [(false, eval e X.env)] := by rfl) : PE X (.Call (.Name "list" p) [e] [] pos) (tListS te) :=
  pe_callTy (r := r1 fun x H Q => ∃ z : Str, x = .str z ∧ z.length ≤ sizeLine ∧ ∀ l, H l = none → Q (.ref l) (upd H l (.lst (z.cps.toList.map sg)))) (callR1 fun pins s σ H x us Q I rv ⟨z, ex, h, q⟩ => call_listS hc pins s σ H _ us Q I rv ⟨z, by rw [ex], h, q⟩) hg hm bt_list (pa_cons ha pa_nil (by exact he)) (he := by exact he)
end
end L2

namespace L2
open PySem PySem.Spec PyProof.Rows
/-! ### a comprehension with several names -/

structure CompOK2 (outer sc : Scope) (xs : List Str) (M N : List Str) : Prop where
  kind : sc.kind = .function
  nocell : ∀ y ∈ sc.names, y.2 ≠ .cell
  loc : ∀ y ∈ sc.names, y.2 = .local → sc.names.lookup y.1 = some .local
  own : ∀ x ∈ xs, sc.names.lookup x = some .local
  free : ∀ y ∈ sc.names, y.2 = .free → (outer.names.lookup y.1 = some .cell ∨ outer.names.lookup y.1 = some .free)
  nd : (M ++ xs).Nodup
  len : M.length = N.length
  same : ∀ p ∈ M.zip N, p.1 = p.2 ∨ sc.names.lookup p.1 = none
  noloc : ∀ y ∈ M, sc.names.lookup y ≠ some .local

section
variable {X : Cx} {pins : List (Addr × Obj)} {σ : St} {H2 : Hp} {s2 : Shared} {scope : Scope} {xs M : List Str} {cl : List (Str × Addr)} {fp : List Addr} {h1 : Heap} {t' : Nat}

end


/-! ### isinstance with a row of built-in classes -/
inductive TyB (H : Hp) : V → Value → Prop where
  | non : TyB H .non (.type "NoneType")
  | bl (x : Bool) : TyB H (.bl x) (.type "bool")
  | int (i : Int) : TyB H (.int i) (.type "int")
  | str (x : Str) : TyB H (.str x) (.type "str")
  | lst {a : Addr} {xs : List V} (e : H a = some (.lst xs)) : TyB H (.ref a) (.type "list")
  | tup {a : Addr} {xs : List V} (e : H a = some (.tup xs)) : TyB H (.ref a) (.type "tuple")
section
variable {X : Cx} {e : Expr} {te : TE} {p pos : Pos}
end
/-! ### the walk of a comprehension over zip -/
end L2

namespace L2
open PySem PySem.Spec PyProof.Rows
/-! ### exceptions: how one lies behind a call -/
def CXx (P : Program) (w : World) : CXT := fun outer H s E e s' =>
  ∃ (a : Addr) (cls a0 : Value) (B : Heap) (H' : Hp), e = .ref a ∧ s'.os = s.os ∧ AllBare s'.gens ∧ Un (frs outer) [] H H' s.heap s'.heap ∧ HOk P w H' s'.heap ∧ H' a = none ∧ s.heap.get? a = none ∧
    Heap.FlyingW B outer a cls a0 s'.heap ∧ (∀ b o, s'.heap.get? b = some o → b ∉ frs outer → (s.heap.get? b ≠ none ∨ H' b ≠ none) → B.get? b = some o) ∧ E cls none H'
theorem frames_move {h h' base base' : Heap} : ∀ {l : List Env}, (∀ L ∈ frs l, base'.get? L = none ∧ ∀ o, h.get? L = some o → (∀ vs, o.data ≠ .fields vs) → ∃ o', h'.get? L = some o' ∧ o'.data = o.data) → h.FunFrames base l → h'.FunFrames base' l
  | [], _, _ => trivial
  | env :: r, k, ⟨h1, ⟨L, o, h2, h3, h4, h5⟩, h6⟩ => by
    have hL : L ∈ frs (env :: r) := List.mem_filterMap.mpr ⟨env, List.mem_cons_self, h2⟩
    obtain ⟨k1, k2⟩ := k L hL
    obtain ⟨o', e1, e2⟩ := k2 o h4 h5
    refine ⟨h1, ⟨L, o', h2, k1, e1, fun vs => by rw [e2]; exact h5 vs⟩, frames_move (fun L' hL' => k L' ?_) h6⟩
    obtain ⟨en, e3, e4⟩ := List.mem_filterMap.mp hL'
    exact List.mem_filterMap.mpr ⟨en, List.mem_cons_of_mem _ e3, e4⟩
theorem frames_data {h base : Heap} : ∀ {l : List Env}, h.FunFrames base l → ∀ L ∈ frs l, ∃ o, h.get? L = some o ∧ ∀ vs, o.data ≠ .fields vs
  | [], _, L, hL => by cases hL
  | env :: r, ⟨h1, ⟨L', o, h2, h3, h4, h5⟩, h6⟩, L, hL => by
    obtain ⟨en, e3, e4⟩ := List.mem_filterMap.mp hL
    rcases List.mem_cons.mp e3 with z | z
    · subst z
      have : L = L' := Option.some.inj (e4.symm.trans h2)
      subst this
      exact ⟨o, h4, h5⟩
    · exact frames_data h6 L (List.mem_filterMap.mpr ⟨en, z, e4⟩)
theorem ObjOk.isAt {P : Program} {w : World} {H : Hp} {h : Heap} {a : Addr} {o : HO} (x : ObjOk P w H h a o) : ∃ ob, h.get? a = some ob := by
  cases o with
  | lst xs => obtain ⟨_, _, _, _, q⟩ := x; exact ⟨_, q⟩
  | tup xs => obtain ⟨_, _, _, ob, q, _⟩ := x; exact ⟨_, q⟩
  | dK kvs => obtain ⟨_, _, _, _, ob, _, _, q, _⟩ := x; exact ⟨_, q⟩
  | dT kvs => obtain ⟨_, _, _, _, ob, _, _, q, _⟩ := x; exact ⟨_, q⟩
  | set S n => obtain ⟨ob, _, _, _, q, _⟩ := x; exact ⟨_, q⟩
  | ins C dx fs => obtain ⟨_, _, _, q, _⟩ := x; exact ⟨_, q⟩
  | own y => obtain ⟨_, q⟩ := x; exact ⟨_, q⟩
  | xd fs => obtain ⟨_, ⟨_, _, _, q, _⟩, _⟩ := x; exact ⟨_, q⟩
  | rng lo hi => obtain ⟨_, _, _, q⟩ := x; exact ⟨_, q⟩
  | frz ob u => obtain ⟨q, _⟩ := x; exact ⟨_, q⟩
  | tbl ps => exact ⟨_, (show h.get? a = some _ from x)⟩
  | met f y => exact ⟨_, (show h.get? a = some _ from x)⟩
  | ext φ => obtain ⟨_, ⟨_, q⟩, _⟩ := x; exact ⟨_, q⟩
theorem objOk_none {P : Program} {w : World} {H : Hp} {h : Heap} (x : HOk P w H h) {a : Addr} (e : h.get? a = none) : H a = none := by
  cases q : H a with
  | none => rfl
  | some o =>
    obtain ⟨ob, q'⟩ := (x a o q).isAt
    rw [e] at q'; cases q'
section
variable {X : Cx} {pins : List (Addr × Obj)} {σ : St} {H1 : Hp} {s1 : Shared}
/-- the frames behind a state of a body -/
theorem Inv.fsAt (I : Inv X pins σ H1 s1) : ∀ L ∈ X.fs, ∃ o, s1.heap.get? L = some o ∧ (∀ vs, o.data ≠ .fields vs) ∧ H1 L = none ∧ X.base.get? L = none := fun L hL => by
  obtain ⟨o, h1, h2⟩ := frames_data I.ok.funs L hL
  have hx : L ∉ X.ex := fun z => I.ok.exfs L z hL
  obtain ⟨sl, e⟩ := I.base.slot L o h1 (I.ok.frf L hL) hL hx
  exact ⟨_, e, h2, I.base.free L o h1 (I.ok.frf L hL) hx, (I.ok.funs.mem hL).1⟩
/-- an exception that was made in a body leaves it -/
theorem leave_made {A : Around} {outer : List Env} {s : Shared} {H : Hp} {E : XK} {env : Env} {P : Program} {w : World} {e : Addr} {cls : Value} {args : List Value} {h2 : Heap} {tk : Nat} (hX : X.A = A.deeper env ∧ X.env = env ∧ X.stack = env :: outer ∧ X.outer = outer ∧ X.s₀ = s ∧ X.H₀ = H ∧ X.ex = [] ∧ X.prog = P ∧ X.w = w) (hfr : env.frame = some env.locals)
    (I : Inv X pins σ H1 s1) (hx : Heap.MadeExcOf s1.heap h2 e cls args) (hE : E cls none H1) :
    wpAny (model P w) (A.deeper env) (leaving env (.ref e)) (fun _ s'' => CXx P w outer H s E (.ref e) s'') (fun e' s'' => CXx P w outer H s E e' s'') { s1 with heap := h2, toks := tk } := by
  obtain ⟨xA, xe, xs, xo, x0, xH, xx, xP, xw⟩ := hX
  subst xe xP xw x0 xH xo
  have hlt := I.lt
  have hL : ∀ L ∈ frs (X.env :: X.outer), ∃ o, s1.heap.get? L = some o ∧ (∀ vs, o.data ≠ .fields vs) ∧ H1 L = none := fun L hm => by
    obtain ⟨en, e3, e4⟩ := List.mem_filterMap.mp hm
    rcases List.mem_cons.mp e3 with z | z
    · subst z
      have : L = X.env.locals := Option.some.inj (e4.symm.trans hfr)
      subst this
      obtain ⟨m, hn, _⟩ := I.loc
      obtain ⟨o, es, ep, ho, hd, _⟩ := id hn
      exact ⟨o, ho, (fun vs q => by rw [hd] at q; cases q), I.free⟩
    · obtain ⟨o, h1, h2, h3, _⟩ := I.fsAt L (List.mem_filterMap.mpr ⟨en, z, e4⟩)
      exact ⟨o, h1, h2, h3⟩
  have trk : ∀ b u, H1 b = some u → b ∉ frs (X.env :: X.outer) := fun b u e hm => by
    obtain ⟨_, _, _, h3⟩ := hL b hm
    rw [h3] at e; cases e
  have old : ∀ b o, X.s₀.heap.get? b = some o → b ≠ X.env.locals := fun b o q z => by
    have := Nat.lt_of_lt_of_le (Heap.lt_size q) I.ok.above
    rw [z] at this; exact absurd this (Nat.lt_irrefl _)
  have nin : ∀ b, b ≠ X.env.locals → b ∉ frs X.outer → b ∉ frs (X.env :: X.outer) := fun b h1 h2 hm => by
    obtain ⟨en, e3, e4⟩ := List.mem_filterMap.mp hm
    rcases List.mem_cons.mp e3 with z | z
    · subst z
      exact h1 (Option.some.inj (e4.symm.trans hfr))
    · exact h2 (List.mem_filterMap.mpr ⟨en, z, e4⟩)
  refine wpAny_leaves_madeW (base := PySem.W.hideAll s1.heap (frs (X.env :: X.outer))) (h := s1.heap) (by rw [← xA, I.ok.frames, xs]) hfr (fun b o q => PySem.W.of_hideAll _ q) ?_ hx fun h' t f1 f2 f3 f4 => ?_
  · have F : s1.heap.FunFrames X.base X.outer := I.funs
    have F' : s1.heap.FunFrames (PySem.W.hideAll s1.heap (frs (X.env :: X.outer))) X.outer := frames_move (fun L hm => ⟨PySem.W.hideAll_none _ (by
      obtain ⟨en, e3, e4⟩ := List.mem_filterMap.mp hm
      exact List.mem_filterMap.mpr ⟨en, List.mem_cons_of_mem _ e3, e4⟩), fun o q _ => ⟨o, q, rfl⟩⟩) F
    obtain ⟨o, ho, hd, _⟩ := hL X.env.locals (List.mem_filterMap.mpr ⟨X.env, List.mem_cons_self, hfr⟩)
    exact ⟨by rw [I.ok.kind]; decide, ⟨X.env.locals, o, hfr, PySem.W.hideAll_none _ (List.mem_filterMap.mpr ⟨X.env, List.mem_cons_self, hfr⟩), ho, hd⟩, F'⟩
  · have st : ∀ b o, s1.heap.get? b = some o → b ∉ frs (X.env :: X.outer) → h'.get? b = some o := fun b o q n => f1.1 b o (PySem.W.hideAll_get _ q n)
    have sl : ∀ b o, s1.heap.get? b = some o → (∀ vs, o.data ≠ .fields vs) → ∃ z, h'.get? b = some { o with slots := z } := fun b o q n => f4 b o (hx.keeps b o q) n
    have isAt : ∀ b u, H1 b = some u → ∃ o, s1.heap.get? b = some o := fun b u q => by
      cases q' : s1.heap.get? b with
      | some o => exact ⟨o, rfl⟩
      | none => exact absurd q (by rw [objOk_none I.hok q']; simp)
    have eNew : H1 e = none := objOk_none I.hok hx.new
    refine ⟨e, cls, .ref t, PySem.W.hideAll s1.heap (frs (X.env :: X.outer)), H1, rfl, I.os, I.bare, ⟨fun b o q n hb _ => ?_, fun b o q n hb _ => ?_, fun b o q n _ => I.base.free b o q n (by rw [xx]; simp), fun b o q _ => ?_, I.base.tups, I.base.frzs, I.base.tbls⟩, fun b u q => ?_, eNew, ?_, f1, ?_, hE⟩
    · exact st b o (I.base.keep b o q n hb (by rw [xx]; simp)) (nin b (old b o q) hb)
    · obtain ⟨z, q'⟩ := I.base.slot b o q n hb (by rw [xx]; simp)
      obtain ⟨o', q2, q3⟩ := frames_data I.ok.funs b hb
      rw [q] at q2; cases q2
      obtain ⟨z', q4⟩ := sl b _ q' q3
      exact ⟨z', q4⟩
    · obtain ⟨o', q'⟩ := I.base.there b o q (by rw [xx]; simp)
      by_cases hb : b ∈ frs X.outer
      · obtain ⟨o2, h1, h2, _⟩ := I.fsAt b hb
        obtain ⟨z, q4⟩ := sl b o2 h1 h2
        exact ⟨_, q4⟩
      · exact ⟨o', st b o' q' (nin b (old b o q) hb)⟩
    · refine (I.hok b u q).stay (fun c v hc q' => st c v q' ?_) (fun _ q' => q') fun _ _ q' => q'
      rcases hc with z | z
      · rw [z]; exact trk b u q
      · exact trk c _ z
    · cases q : X.s₀.heap.get? e with
      | none => rfl
      | some o =>
        obtain ⟨o', q'⟩ := I.base.there e o q (by rw [xx]; simp)
        rw [hx.new] at q'; cases q'
    · intro b o q hb hor
      have ex : ∃ o1, s1.heap.get? b = some o1 ∧ b ∉ frs (X.env :: X.outer) := by
        rcases hor with z | z
        · cases q0 : X.s₀.heap.get? b with
          | none => exact absurd q0 z
          | some o0 =>
            obtain ⟨o1, q1⟩ := I.base.there b o0 q0 (by rw [xx]; simp)
            exact ⟨o1, q1, nin b (old b o0 q0) hb⟩
        · cases q0 : H1 b with
          | none => exact absurd q0 z
          | some u =>
            obtain ⟨o1, q1⟩ := isAt b u q0
            exact ⟨o1, q1, trk b u q0⟩
      obtain ⟨o1, q1, nb⟩ := ex
      have := st b o1 q1 nb
      rw [q] at this; cases this
      exact PySem.W.hideAll_get _ q1 nb
/-- an exception of a call in a body leaves it -/
theorem leave_on {A : Around} {outer : List Env} {s : Shared} {H : Hp} {E E' : XK} {env : Env} {P : Program} {w : World} {e : Value} {s' : Shared} (hX : X.A = A.deeper env ∧ X.env = env ∧ X.stack = env :: outer ∧ X.outer = outer ∧ X.s₀ = s ∧ X.H₀ = H ∧ X.ex = [] ∧ X.prog = P ∧ X.w = w) (hfr : env.frame = some env.locals)
    (I : Inv X pins σ H1 s1) (hx : CXx P w X.stack H1 s1 E' e s') (hE : ∀ cls H', E' cls none H' → E cls none H') :
    wpAny (model P w) (A.deeper env) (leaving env e) (fun _ s'' => CXx P w outer H s E e s'') (fun e' s'' => CXx P w outer H s E e' s'') s' := by
  obtain ⟨xA, xe, xs, xo, x0, xH, xx, xP, xw⟩ := hX
  subst xe xP xw x0 xH xo
  rw [xs] at hx
  obtain ⟨a, cls, a0, B, H', rfl, os, gb, un, hok, ha, hn, fl, hB, he⟩ := hx
  have hL0 : X.env.locals ∈ frs (X.env :: X.outer) := List.mem_filterMap.mpr ⟨X.env, List.mem_cons_self, hfr⟩
  have sub : ∀ b, b ∈ frs X.outer → b ∈ frs (X.env :: X.outer) := fun b hm => by
    obtain ⟨en, e3, e4⟩ := List.mem_filterMap.mp hm
    exact List.mem_filterMap.mpr ⟨en, List.mem_cons_of_mem _ e3, e4⟩
  have nin : ∀ b, b ≠ X.env.locals → b ∉ frs X.outer → b ∉ frs (X.env :: X.outer) := fun b h1 h2 hm => by
    obtain ⟨en, e3, e4⟩ := List.mem_filterMap.mp hm
    rcases List.mem_cons.mp e3 with z | z
    · subst z
      exact h1 (Option.some.inj (e4.symm.trans hfr))
    · exact h2 (List.mem_filterMap.mpr ⟨en, z, e4⟩)
  have old : ∀ b o, X.s₀.heap.get? b = some o → b ≠ X.env.locals := fun b o q z => by
    have := Nat.lt_of_lt_of_le (Heap.lt_size q) I.ok.above
    rw [z] at this; exact absurd this (Nat.lt_irrefl _)
  -- the frames are not tracked behind the call either
  have frn : ∀ b, b ∈ frs (X.env :: X.outer) → H1 b = none ∧ H' b = none ∧ ∃ o, s1.heap.get? b = some o ∧ ∀ vs, o.data ≠ .fields vs := fun b hm => by
    have h1 : ∃ o, s1.heap.get? b = some o ∧ (∀ vs, o.data ≠ .fields vs) ∧ H1 b = none := by
      obtain ⟨en, e3, e4⟩ := List.mem_filterMap.mp hm
      rcases List.mem_cons.mp e3 with z | z
      · subst z
        have : b = X.env.locals := Option.some.inj (e4.symm.trans hfr)
        subst this
        obtain ⟨m, hn', _⟩ := I.loc
        obtain ⟨o, es, ep, ho, hd, _⟩ := id hn'
        exact ⟨o, ho, (fun vs q => by rw [hd] at q; cases q), I.free⟩
      · obtain ⟨o, h1, h2, h3, _⟩ := I.fsAt b (List.mem_filterMap.mpr ⟨en, z, e4⟩)
        exact ⟨o, h1, h2, h3⟩
    obtain ⟨o, h2, h3, h4⟩ := h1
    exact ⟨h4, un.free b o h2 h4 (by simp), o, h2, h3⟩
  refine wpAny_leaves_onW (base := B) (by rw [← xA, I.ok.frames, xs]) hfr fl fun h' f1 f4 => ?_
  have st : ∀ b o, s'.heap.get? b = some o → b ∉ frs (X.env :: X.outer) → (s1.heap.get? b ≠ none ∨ H' b ≠ none) → h'.get? b = some o := fun b o q n z => f1.1 b o (hB b o q n z)
  refine ⟨a, cls, a0, B, H', rfl, os.trans I.os, gb, ⟨fun b o q n hb _ => ?_, fun b o q n hb _ => ?_, fun b o q n _ => ?_, fun b o q _ => ?_, fun b xs' q => un.tups b xs' (I.base.tups b xs' q), fun b o u q => un.frzs b o u (I.base.frzs b o u q), fun b ps q => ?_⟩, fun b u q => ?_, ha, ?_, f1, ?_, hE _ _ he⟩
  · have q1 := I.base.keep b o q n hb (by rw [xx]; simp)
    have n1 := I.base.free b o q n (by rw [xx]; simp)
    have nb := nin b (old b o q) hb
    have q2 := un.keep b o q1 n1 nb (by simp)
    exact st b o q2 nb (.inl (by rw [q1]; simp))
  · obtain ⟨z1, q1⟩ := I.base.slot b o q n hb (by rw [xx]; simp)
    have n1 := I.base.free b o q n (by rw [xx]; simp)
    obtain ⟨z2, q2⟩ := un.slot b _ q1 n1 (sub b hb) (by simp)
    obtain ⟨o', q3, q4⟩ := frames_data I.ok.funs b hb
    rw [q] at q3; cases q3
    obtain ⟨z3, q5⟩ := f4 b _ q2 q4
    exact ⟨z3, q5⟩
  · exact un.free b _ (I.base.there b o q (by rw [xx]; simp)).choose_spec (I.base.free b o q n (by rw [xx]; simp)) (by simp)
  · obtain ⟨o1, q1⟩ := I.base.there b o q (by rw [xx]; simp)
    obtain ⟨o2, q2⟩ := un.there b o1 q1 (by simp)
    by_cases hb : b ∈ frs X.outer
    · obtain ⟨n1, n2, o3, q3, q4⟩ := frn b (sub b hb)
      obtain ⟨z2, q5⟩ := un.slot b o3 q3 n1 (sub b hb) (by simp)
      obtain ⟨z3, q6⟩ := f4 b _ q5 q4
      exact ⟨_, q6⟩
    · exact ⟨o2, st b o2 q2 (nin b (old b o q) hb) (.inl (by rw [q1]; simp))⟩
  · obtain ⟨m1, q1⟩ := I.base.tbls b ps q
    obtain ⟨m2, q2⟩ := un.tbls b _ q1
    exact ⟨m1 ++ m2, by rw [q2, Array.append_assoc]⟩
  · refine (hok b u q).stay (fun c v hc q' => st c v q' ?_ (.inr ?_)) (fun _ q' => q') fun _ _ q' => q'
    · intro hm
      rcases hc with z | z
      · rw [z] at hm; rw [(frn b hm).2.1] at q; cases q
      · rw [(frn c hm).2.1] at z; cases z
    · rcases hc with z | z
      · rw [z, q]; simp
      · rw [z]; simp
  · cases q : X.s₀.heap.get? a with
    | none => rfl
    | some o =>
      obtain ⟨o', q'⟩ := I.base.there a o q (by rw [xx]; simp)
      rw [hn] at q'; cases q'
  · intro b o q hb hor
    have ex : ∃ o2, s'.heap.get? b = some o2 ∧ b ∉ frs (X.env :: X.outer) ∧ (s1.heap.get? b ≠ none ∨ H' b ≠ none) := by
      rcases hor with z | z
      · cases q0 : X.s₀.heap.get? b with
        | none => exact absurd q0 z
        | some o0 =>
          obtain ⟨o1, q1⟩ := I.base.there b o0 q0 (by rw [xx]; simp)
          obtain ⟨o2, q2⟩ := un.there b o1 q1 (by simp)
          exact ⟨o2, q2, nin b (old b o0 q0) hb, .inl (by rw [q1]; simp)⟩
      · cases q0 : H' b with
        | none => exact absurd q0 z
        | some u =>
          obtain ⟨o2, q2⟩ := (hok b u q0).isAt
          exact ⟨o2, q2, (fun hm => by rw [(frn b hm).2.1] at q0; cases q0), .inr (by simp)⟩
    obtain ⟨o2, q2, nb, hor'⟩ := ex
    have := st b o2 q2 nb hor'
    rw [q] at this; cases this
    exact hB b _ q2 nb hor'
end
/-! ### own classes under ValueError, raised -/
abbrev mroV : List Value := [.type "ValueError", .type "Exception", .type "BaseException", .type "object"]
/-- what the top has written of such a class -/
structure Exc (K : PySem.W.Frag) (mg : Str → Option Value) (x : Str) (C : Addr) : Prop where
  bound : mg x = some (.ref C)
  isIn : PySem.W.excIn K C mroV "ValueError.__new__" = true
theorem exc_obj {K : PySem.W.Frag} {C : Addr} (q : PySem.W.excIn K C mroV "ValueError.__new__" = true) (h : Heap) (X : K.In h) :
    ∃ bm N nm qn bs hdct sn sub ab col dd k0 k1 k2 k3 k5 mN, h.get? C = some (excClassObj nm qn C N bs bm hdct sn sub ab col dd k0 k1 k2 k3 k5 "ValueError.__new__") ∧ h.Ns N mN ∧ mN "__init__" = none ∧ OwnTail h mroV bm := by
  unfold PySem.W.excIn at q
  split at q
  case h_2 => cases q
  case h_1 dd cd sl ho =>
    split at q
    case h_2 => cases q
    case h_1 C' bm k0 k1 k2 k3 n k5 hm hs =>
      simp only [Bool.and_eq_true, beq_iff_eq, Bool.not_eq_true'] at q
      obtain ⟨⟨⟨⟨⟨e1, e2⟩, hdel⟩, ht⟩, hok⟩, hni⟩ := q
      subst e1 e2
      obtain ⟨nm, bs, mro, nsA, qn, hd, sn, sub, ab, col, del⟩ := cd
      have hm' : mro = .ref C' :: bm := hm
      have hdel' : del = false := hdel
      subst hm' hdel'
      have esl : sl = #[k0, k1, k2, k3, some (.builtin "ValueError.__new__"), k5] := by
        cases sl with
        | mk l => exact congrArg Array.mk hs
      subst esl
      exact ⟨bm, nsA, nm, qn, bs, hd, sn, sub, ab, col, dd, k0, k1, k2, k3, k5, _, X _ _ ho, .of_isNs (PySem.W.isNs_of_in X hok), PySem.W.nsMap_none_of_in X hok hni, PySem.W.tail_of_in X ht⟩
/-- raise C("..") in a def's body -/
theorem ps_raise {P : Program} {w : World} {K : PySem.W.Frag} {mg : Str → Option Value} {base : Heap} {N : List Str} {qual : Str} {scope : Scope} {f : Addr} {cd : Value} {A : Around} {outer : List Env} {s : Shared} {H : Hp} {E : XK}
    {x : Str} {C : Addr} {np cpos pos : Pos} {e0 : Expr} {te : TE} (O : Exc K mg x C) (he : PE (cxOf (CXx P w) P w K mg base N qual scope f cd A outer s H E) e0 te)
    (hg : Gl (cxOf (CXx P w) P w K mg base N qual scope f cd A outer s H E) x := by rfl)
    (hst : starEach [e0] (envOfC qual scope s.heap.objs.size f cd) = [(false, eval e0 (envOfC qual scope s.heap.objs.size f cd))] := by rfl) (hd : (x == ("__debug__" : Str)) = false := by decide) :
    PS (cxOf (CXx P w) P w K mg base N qual scope f cd A outer s H E) (.Raise (some (.Call (.Name x np) [e0] [] cpos)) none pos) (fun D σ H1 => te σ H1 fun v H2 => [v].length = 1 ∧ E (.ref C) none H2) := by
  intro pins s1 σ H1 D I h
  obtain ⟨tl, Nn, nm, q, bs, hdct, sn, sub, ab, col, dd, k0, k1, k2, k3, k5, mN, hC, hN, hni, T⟩ := exc_obj O.isIn base I.ok.mod.kin
  refine wpAny_Raise_call_subT (C := C) (nm := nm) (q := q) (N := Nn) (bs := bs) (bm := tl) (hdct := hdct) (sn := sn) (sub := sub) (ab := ab) (col := col) (dd := dd) (k0 := k0) (k1 := k1) (k2 := k2) (k3 := k3) (k5 := k5) (env := envOfC qual scope s.heap.objs.size f cd)
    F.excBase_ValueError (mN := mN) (T.hasType F.excBase_ValueError.hasBase) (I.ok.hd rfl) (by rw [hst]; rfl) hni (ld_glob I hg O.bound ⟨rfl, ?_⟩ hd)
  rw [hst]
  refine Calls.evalArgs_plain ?_
  have hp := (pa_cons he pa_nil (by exact hst)) cpos pins s1 σ H1 (fun vs H2 => vs.length = 1 ∧ E (.ref C) none H2) I h
  have hp' : wpAny (model P w) (A.deeper (envOfC qual scope s.heap.objs.size f cd)) (spliced (backTo cpos (starEach [e0] (envOfC qual scope s.heap.objs.size f cd)))) _ _ s1 := hp
  rw [hst] at hp'
  refine thn hp' fun us s2 ⟨vs, H2, I2, r2, l2, q2⟩ => ?_
  refine ⟨rfl, ?_, I2.bk _ _ hC, hN.keeps I2.bk, T.keeps I2.bk, fun h' e made => ?_⟩
  · show us.length ≤ sizeLine
    rw [← r2.length, l2]; decide
  · exact leave_made (tk := s2.toks) (A := A) (outer := outer) (s := s) (H := H) (E := E) (env := envOfC qual scope s.heap.objs.size f cd) ⟨rfl, rfl, rfl, rfl, rfl, rfl, rfl, rfl, rfl⟩ rfl I2 made q2
/-- an exception of a call passes -/
theorem pass_x {P : Program} {w : World} {K : PySem.W.Frag} {mg : Str → Option Value} {base : Heap} {N : List Str} {qual : Str} {scope : Scope} {f : Addr} {cd : Value} {A : Around} {outer : List Env} {s : Shared} {H : Hp} {E : XK} :
    Passes (CXx P w) (cxOf (CXx P w) P w K mg base N qual scope f cd A outer s H E) E := fun pins σ H1 s1 e s' I hx =>
  leave_on (A := A) (outer := outer) (s := s) (H := H) (E := E) (E' := E) (env := envOfC qual scope s.heap.objs.size f cd) ⟨rfl, rfl, rfl, rfl, rfl, rfl, rfl, rfl, rfl⟩ rfl I hx fun _ _ z => z
end L2

namespace L2
open PySem PySem.Spec PyProof.Rows
/-! ### try .. except C as n: the tried body, what is caught, the suite -/
/-- how an exception comes out of a tried body: out of a call, at the slots of the beginning -/
def tryE (X : Cx) (pins : List (Addr × Obj)) (σ0 : St) (E0 : XK) : Value → Shared → Prop := fun e s' => ∃ H1 s1, Inv X pins σ0 H1 s1 ∧ CXx X.prog X.w X.stack H1 s1 E0 e s'
abbrev tryCx (X : Cx) (pins : List (Addr × Obj)) (σ0 : St) (E0 : XK) : Cx := { X with pn := X.pn ++ pins, xe := tryE X pins σ0 E0 }
abbrev sufCx (X : Cx) (e : Addr) (xe : Value → Shared → Prop) : Cx := { X with A := X.A.mark (some (.ref e)), calm := false, xe := xe }
section
variable {X : Cx} {pins : List (Addr × Obj)} {σ σ0 : St} {H H1 : Hp} {s s1 : Shared} {E0 : XK}
theorem Inv.toTry (I : Inv X pins σ H s) : Inv (tryCx X pins σ0 E0) [] σ H s :=
  ⟨⟨I.ok.mod, I.ok.kind, I.ok.glob, I.ok.blt, I.ok.above, I.ok.inj, I.ok.has, I.ok.cab, I.ok.hd, I.ok.frames, I.ok.stk, I.ok.exf, I.ok.bs, I.ok.bsz, I.ok.noex, I.ok.exfs, I.ok.funs, I.ok.frf⟩, I.os, I.bare, I.base, I.loc, I.cell, I.free, I.freeC, fun p hp => I.pin p (by simpa using hp), I.hok, I.len⟩
theorem Inv.ofTry {pins' : List (Addr × Obj)} (I : Inv (tryCx X pins σ0 E0) pins' σ H s) : Inv X pins σ H s :=
  ⟨⟨I.ok.mod, I.ok.kind, I.ok.glob, I.ok.blt, I.ok.above, I.ok.inj, I.ok.has, I.ok.cab, I.ok.hd, I.ok.frames, I.ok.stk, I.ok.exf, I.ok.bs, I.ok.bsz, I.ok.noex, I.ok.exfs, I.ok.funs, I.ok.frf⟩, I.os, I.bare, I.base, I.loc, I.cell, I.free, I.freeC, fun p hp => I.pin p (List.mem_append_left _ hp), I.hok, I.len⟩
theorem Inv.toSuf {e : Addr} {xe : Value → Shared → Prop} (I : Inv X pins σ H s) : Inv (sufCx X e xe) pins σ H s :=
  ⟨⟨I.ok.mod, I.ok.kind, I.ok.glob, I.ok.blt, I.ok.above, I.ok.inj, I.ok.has, I.ok.cab, (fun q => by cases q), I.ok.frames, I.ok.stk, I.ok.exf, I.ok.bs, I.ok.bsz, I.ok.noex, I.ok.exfs, I.ok.funs, I.ok.frf⟩, I.os, I.bare, I.base, I.loc, I.cell, I.free, I.freeC, I.pin, I.hok, I.len⟩
theorem Inv.ofSuf {e : Addr} {xe : Value → Shared → Prop} (hd : X.calm = true → X.A.handled = none) (I : Inv (sufCx X e xe) pins σ H s) : Inv X pins σ H s :=
  ⟨⟨I.ok.mod, I.ok.kind, I.ok.glob, I.ok.blt, I.ok.above, I.ok.inj, I.ok.has, I.ok.cab, hd, I.ok.frames, I.ok.stk, I.ok.exf, I.ok.bs, I.ok.bsz, I.ok.noex, I.ok.exfs, I.ok.funs, I.ok.frf⟩, I.os, I.bare, I.base, I.loc, I.cell, I.free, I.freeC, I.pin, I.hok, I.len⟩
/-- a call in a tried body -/
def tAt (σ0 : St) (t : TE) : TE := fun σ H Q => σ = σ0 ∧ t σ H Q
/-- the state in which an exception is caught -/
theorem Inv.caught {s' : Shared} {H' : Hp} {B h5 : Heap} (hst : X.stack = X.env :: X.outer) (hfr : X.env.frame = some X.env.locals) (I : Inv X pins σ H1 s1) (os : s'.os = s1.os) (gb : AllBare s'.gens)
    (un : Un (frs X.stack) [] H1 H' s1.heap s'.heap) (hok : HOk X.prog X.w H' s'.heap) (hB : ∀ b o, s'.heap.get? b = some o → b ∉ frs X.stack → (s1.heap.get? b ≠ none ∨ H' b ≠ none) → B.get? b = some o)
    (st5 : ∀ b o, B.get? b = some o → h5.get? b = some o) (up : s'.heap.UpToSlots h5) : Inv X pins σ H' { s' with heap := h5 } := by
  have frn : ∀ b, b ∈ frs X.stack → H1 b = none ∧ H' b = none ∧ ∃ o, s1.heap.get? b = some o ∧ ∀ vs, o.data ≠ .fields vs := fun b hm => by
    have h1 : ∃ o, s1.heap.get? b = some o ∧ (∀ vs, o.data ≠ .fields vs) ∧ H1 b = none := by
      rw [hst] at hm
      obtain ⟨en, e3, e4⟩ := List.mem_filterMap.mp hm
      rcases List.mem_cons.mp e3 with z | z
      · subst z
        have : b = X.env.locals := Option.some.inj (e4.symm.trans hfr)
        subst this
        obtain ⟨m, hn', _⟩ := I.loc
        obtain ⟨o, es, ep, ho, hd, _⟩ := id hn'
        exact ⟨o, ho, (fun vs q => by rw [hd] at q; cases q), I.free⟩
      · obtain ⟨o, h1, h2, h3, _⟩ := I.fsAt b (List.mem_filterMap.mpr ⟨en, z, e4⟩)
        exact ⟨o, h1, h2, h3⟩
    obtain ⟨o, h2, h3, h4⟩ := h1
    exact ⟨h4, un.free b o h2 h4 (by simp), o, h2, h3⟩
  have st : ∀ b o, s'.heap.get? b = some o → b ∉ frs X.stack → (s1.heap.get? b ≠ none ∨ H' b ≠ none) → h5.get? b = some o := fun b o q n z => st5 b o (hB b o q n z)
  refine I.call' (ch := []) os ⟨fun b o q n hb hx => ?_, fun b o q n hb hx => ?_, un.free, fun b o q hx => ?_, un.tups, un.frzs, un.tbls⟩ (fun b u q => ?_) gb (by simp)
  · exact st b o (un.keep b o q n hb hx) hb (.inl (by rw [q]; simp))
  · obtain ⟨z, q'⟩ := un.slot b o q n hb hx
    obtain ⟨_, _, o2, q2, q3⟩ := frn b hb
    rw [q] at q2; cases q2
    obtain ⟨z', q4⟩ := up b _ q' q3
    exact ⟨z', q4⟩
  · by_cases hb : b ∈ frs X.stack
    · obtain ⟨n1, _, o2, q2, q3⟩ := frn b hb
      rw [q] at q2; cases q2
      obtain ⟨z, q'⟩ := un.slot b o q n1 hb hx
      obtain ⟨z', q4⟩ := up b _ q' q3
      exact ⟨_, q4⟩
    · obtain ⟨o2, q2⟩ := un.there b o q hx
      exact ⟨o2, st b o2 q2 hb (.inl (by rw [q]; simp))⟩
  · refine (hok b u q).stay (fun c v hc q' => st c v q' ?_ (.inr ?_)) (fun _ q' => q') fun _ _ q' => q'
    · intro hm
      rcases hc with z | z
      · rw [z] at hm; rw [(frn b hm).2.1] at q; cases q
      · rw [(frn c hm).2.1] at z; cases z
    · rcases hc with z | z
      · rw [z, q]; simp
      · rw [z]; simp
/-- what is known of a caught thing: its class -/
def excAt (e : Addr) (cls : Value) : Heap → Prop := fun h => ∃ o, h.get? e = some o ∧ o.cls = cls
/-- a new thing is tracked by its class -/
theorem Inv.track {e : Addr} {cls : Value} (I : Inv X pins σ H s) (hn : H e = none) (h0 : X.s₀.heap.get? e = none) (hl : e ≠ X.env.locals) (hc : ∀ x c, X.env.cells.lookup x = some c → c ≠ e) (hp : ∀ p ∈ X.pn ++ pins, p.1 ≠ e)
    (hx : excAt e cls s.heap) : Inv X pins σ (upd H e (.ext (excAt e cls))) s := by
  have ne : ∀ {b : Addr} {o : HO}, H b = some o → (upd H e (.ext (excAt e cls))) b = some o := fun {b o} q => by
    rw [upd_ne (fun z => by rw [z, hn] at q; cases q)]; exact q
  have nn : ∀ {b : Addr}, b ≠ e → H b = none → (upd H e (.ext (excAt e cls))) b = none := fun {b} z q => by rw [upd_ne z]; exact q
  refine ⟨I.ok, I.os, I.bare, ⟨I.base.keep, I.base.slot, fun b o q n hx => nn (fun z => by rw [z, h0] at q; cases q) (I.base.free b o q n hx), I.base.there, fun b xs q => ne (I.base.tups b xs q), fun b o u q => ne (I.base.frzs b o u q), fun b ps q => ?_⟩, I.loc, I.cell, nn (Ne.symm hl) I.free, fun x c q => nn (hc x c q) (I.freeC x c q), fun p q => ?_, fun b u q => ?_, I.len⟩
  · obtain ⟨m, q'⟩ := I.base.tbls b ps q
    exact ⟨m, ne q'⟩
  · obtain ⟨a1, a2, a3, a4, a5⟩ := I.pin p q
    exact ⟨a1, nn (hp p q) a2, a3, a4, a5⟩
  · by_cases z : b = e
    · subst z
      rw [upd_same] at q
      cases q
      refine ⟨hx, ?_, fun h1 h2 ⟨o, q1, q2⟩ k => ⟨o, k o q1, q2⟩⟩
      obtain ⟨o, q, _⟩ := hx
      exact ⟨o, q⟩
    · rw [upd_ne z] at q
      exact (I.hok b u q).stay (fun c v _ q' => q') (fun c q' => ne q') fun c xs q' => ne q'
/-- the name goes -/
theorem unbind_ok {M : Model} {A : Around} {E : Value → Shared → Prop} {i : Nat} {x : Str} {pos : Pos} {Q : Unit → Shared → Prop} (I : Inv X pins σ H s) (hN : X.N.Nodup) (hi : X.N[i]? = some x) (hk : X.env.kindOf x = some .local) (hlo : Loc X.env.scope x)
    (h : ∀ s', Inv X pins (σ.set i none) H s' → Q () s') : wpAny M A (do bindName X.env x .none; unbindBehindTheSuite X.env x pos) Q E s := by
  have hcls : (X.env.scope.kind == .class || (X.env.scope.kind == .module && X.env.locals != X.env.globals)) = false := by rw [I.ok.kind]; rfl
  refine wpAny_bind (wpAny_bindName (store_ok I hN hi hlo (v := .non) rfl (fun s1 I1 => ?_) (.inr hk)))
  unfold unbindBehindTheSuite
  refine wpAny_onRaise ?_
  have hiσ : i < σ.length := by rw [I.len]; exact (List.getElem?_eq_some_iff.mp hi).1
  obtain ⟨m, hn, hl⟩ := id I1.loc
  obtain ⟨u0, r0, lk⟩ := hl i x .non hi (by rw [List.getElem?_set_self hiσ]) (.inl hk)
  have hv : m x = some u0 := by
    rcases lk with ⟨_, e⟩ | ⟨k, _⟩
    · exact e
    · rcases k with k | k
      · have := hk.symm.trans k; cases this
      · have := hk.symm.trans k; cases this
  refine wpAny_unbindName_local hk hn hv hcls fun h' u hn' hs => ?_
  obtain ⟨oL, _, _, hoL, _⟩ := id hn
  have cne := I1.cne
  refine h _ ⟨I1.ok, I1.os, I1.bare, ⟨fun b o e n hb hx => ?_, fun b o e n hb hx => ?_, I1.base.free, fun b o e hx => ?_, I1.base.tups, I1.base.frzs, I1.base.tbls⟩, ⟨_, hn', fun j y v' e1 e2 e3 => ?_⟩, fun y c e => ?_, I1.free, I1.freeC, fun p hp => ?_, fun b ob e => ?_, by simpa using I1.len⟩
  · exact (hs.2 b (Nat.ne_of_lt (Nat.lt_of_lt_of_le (Heap.lt_size e) I.ok.above))).trans (I1.base.keep b o e n hb hx)
  · obtain ⟨sl, e1⟩ := I1.base.slot b o e n hb hx
    exact ⟨sl, (hs.2 b (Nat.ne_of_lt (Nat.lt_of_lt_of_le (Heap.lt_size e) I.ok.above))).trans e1⟩
  · obtain ⟨o', e1⟩ := I1.base.there b o e hx
    exact ⟨o', (hs.2 b (Nat.ne_of_lt (Nat.lt_of_lt_of_le (Heap.lt_size e) I.ok.above))).trans e1⟩
  · by_cases hj : j = i
    · subst hj
      rw [List.getElem?_set_self hiσ] at e2
      cases e2
    · rw [List.getElem?_set_ne (Ne.symm hj)] at e2
      obtain ⟨u', r', q⟩ := hl j y v' e1 (by rw [List.getElem?_set_ne (Ne.symm hj)]; exact e2) e3
      refine ⟨u', r', ?_⟩
      rcases q with ⟨k, e⟩ | ⟨k, c, e, z⟩
      · refine .inl ⟨k, ?_⟩
        have : y ≠ x := fun e => hj (nodup_ix hN e1 (e ▸ hi))
        simp [this, e]
      · exact .inr ⟨k, c, e, z.sameBut hs (cne y c e)⟩
  · obtain ⟨w', z⟩ := I1.cell y c e
    exact ⟨w', z.sameBut hs (cne y c e)⟩
  · obtain ⟨e, n, ne, nf, d⟩ := I1.pin p hp
    exact ⟨(hs.2 p.1 ne).trans e, n, ne, nf, d⟩
  · refine (I1.hok b ob e).stay (fun c w' hc q => (hs.2 c ?_).trans q) (fun _ q => q) fun _ _ q => q
    rintro rfl
    rcases hc with rfl | hc
    · rw [I1.free] at e; cases e
    · rw [I1.free] at hc; cases hc
end
/-- what is wanted behind the suite, where the name goes -/
def Ends.drop (D : Ends) (i : Nat) : Ends := ⟨fun σ H => D.nx (σ.set i none) H, D.rt, fun σ H => D.bk (σ.set i none) H, fun σ H => D.ct (σ.set i none) H⟩
def tTry (K : PySem.W.Frag) (C : Addr) (i : Nat) (tb : St → XK → TS) (th : TS) : TS := fun D σ H =>
  tb σ (fun cls _ H' => PySem.W.exmOne K cls (.ref C) = some true ∧ ∀ e, H' e = none → th (D.drop i) (σ.set i (some (.ref e))) (upd H' e (.ext (excAt e cls)))) D σ H
theorem ps_try {X : Cx} {body suite : List Stmt} {b₀ : Stmt} {x n : Str} {np hpos pos : Pos} {C : Addr} {i : Nat} {tb : St → XK → TS} {th : TS} (hC : X.mg x = some (.ref C)) (hN : X.N.Nodup) (hi : X.N[i]? = some n) (hk : X.env.kindOf n = some .local)
    (hb : ∀ pins σ0 E0, PSs (tryCx X pins σ0 E0) body (tb σ0 E0)) (hs : ∀ e xe, PSs (sufCx X e xe) (b₀ :: suite) th) (hlo : Loc X.env.scope n := by first | exact .inl rfl | exact .inr rfl)
    (hst : X.stack = X.env :: X.outer := by rfl) (hex : X.ex = [] := by rfl) (hfr : X.env.frame = some X.env.locals := by rfl) (hg : Gl X x := by rfl) (hd : (x == ("__debug__" : Str)) = false := by decide) :
    PS X (.Try body [.ExceptHandler (some (.Name x np)) (some n) (b₀ :: suite) hpos] [] [] pos) (tTry X.K C i tb th) := by
  intro pins s σ H D I h
  refine wpAny_Try_except (wpAny_mono (hb pins σ _ [] s σ H D I.toTry h) (fun f s1 q => ?_) fun e s' q => ?_)
  · cases f with
    | next =>
      obtain ⟨σ', H', I', q⟩ := q
      exact wpAny_execs_nil ⟨σ', H', I'.ofTry, q⟩
    | brk => obtain ⟨σ', H', I', q⟩ := q; exact ⟨σ', H', I'.ofTry, q⟩
    | cont => obtain ⟨σ', H', I', q⟩ := q; exact ⟨σ', H', I'.ofTry, q⟩
    | ret u => obtain ⟨v, σ', H', I', r, q⟩ := q; exact ⟨v, σ', H', I'.ofTry, r, q⟩
  · obtain ⟨H1, s1, I1, a, cls, a0, B, H', rfl, os, gb, un, hok, ha, hn, fl, hB, hm, hE⟩ := q
    have fl' : Heap.FlyingW B (X.env :: X.outer) a cls a0 s'.heap := by rw [← hst]; exact fl
    refine wpAny_looks_onW (base := B) (by rw [I1.ok.frames, hst]) hfr fl' fun h4 held4 up4 => ?_
    refine wpAny_landsW held4 fun h5 fl5 up5 => ?_
    have up := up4.trans up5
    have I5 : Inv X pins σ H' { s' with heap := h5 } := I1.caught hst hfr os gb un hok hB fl5.1 up
    refine wpAny_handleBy_cons (codeAny_handlers_test (ld_glob (X := sufCx X a fun _ _ => False) (I5.toSuf) hg hC ?_ hd)) (by intro q; cases q)
    obtain ⟨oe, hoe, hoc⟩ := fl5.there
    have LT : PySem.W.Looks (model X.prog X.w) h5 (typeOf (.ref a)) cls := by
      rw [← hoc]
      exact (PySem.W.Looks.ld hoe).andThen .now
    refine (PySem.W.exm_one (M := model X.prog X.w) I5.kIn LT hm).here ?_
    refine codeAny_handlers_suite_as ?_
    refine lands_againW fl5 fun h6 fl6 up6 => ?_
    have I6 : Inv X pins σ H' { s' with heap := h6 } := I1.caught hst hfr os gb un hok hB fl6.1 (up.trans up6)
    obtain ⟨oe6, hoe6, hoc6⟩ := fl6.there
    have I7 : Inv X pins σ (upd H' a (.ext (excAt a cls))) { s' with heap := h6 } := by
      refine I6.track ha ?_ ?_ (fun y c q => ?_) (fun p q => ?_) ⟨oe6, hoe6, hoc6⟩
      · cases q : X.s₀.heap.get? a with
        | none => rfl
        | some o =>
          obtain ⟨o', q'⟩ := I1.base.there a o q (by rw [hex]; simp)
          rw [hn] at q'; cases q'
      · intro z
        obtain ⟨m, hnn, _⟩ := I1.loc
        obtain ⟨o, _, _, ho, _⟩ := id hnn
        rw [← z, hn] at ho; cases ho
      · intro z
        obtain ⟨w', o, ho, _⟩ := I1.cell y c q
        rw [z, hn] at ho; cases ho
      · intro z
        have := (I1.pin p q).1
        rw [z, hn] at this; cases this
    refine store_ok I7 hN hi hlo (v := .ref a) rfl (fun s8 I8 => ?_) (.inr hk)
    refine wpAny_mono (hs a _ pins s8 _ _ (D.drop i) I8.toSuf (hE a ha)) (fun f s9 q => ?_) (fun _ _ z => z)
    cases f with
    | next =>
      obtain ⟨σ', H9, I9, q⟩ := q
      exact unbind_ok (I9.ofSuf I.ok.hd) hN hi hk hlo fun s10 I10 => ⟨_, _, I10, q⟩
    | brk =>
      obtain ⟨σ', H9, I9, q⟩ := q
      exact unbind_ok (I9.ofSuf I.ok.hd) hN hi hk hlo fun s10 I10 => ⟨_, _, I10, q⟩
    | cont =>
      obtain ⟨σ', H9, I9, q⟩ := q
      exact unbind_ok (I9.ofSuf I.ok.hd) hN hi hk hlo fun s10 I10 => ⟨_, _, I10, q⟩
    | ret u =>
      obtain ⟨v, σ', H9, I9, r, q⟩ := q
      exact unbind_ok (I9.ofSuf I.ok.hd) hN hi hk hlo fun s10 I10 => ⟨v, _, _, I10, r, q⟩
end L2

namespace PySem.W
open PySem PySem.Spec PySem.Calls PyProof.Rows Builtin Builtin.ObjectAttr Builtin.Getset_descriptor
section
variable {prog : Program} {w : World} {A : Around} {E : Value → Shared → Prop} {K : Frag} {h : Heap} {g : Array GenState} {d : Drawn} {t : Nat} {os : OsState} {a D : Addr} {o : Obj} {R : Result → Shared → Prop}
theorem exc_class_get {tp : Value} (X : K.In h) (hx : h.get? a = some o) (hc : o.cls = .ref D) (hm : mroIn K D (.type "object") = some true)
    (hq : R (.ok (.ret (.ref D))) ⟨h, g, d, t, os⟩) : codeAny (model prog w) A (.call (.builtin "getset_descriptor.__get__") ⟨[.builtin "object.__class__", .ref a, tp], []⟩) R ⟨h, g, d, t, os⟩ := by
  have L0 : Looks (model prog w) h (typeOf (.ref a)) (.ref D) := by
    rw [← hc]; exact (Looks.ld hx).andThen .now
  have Lm := looks_mroIn (M := model prog w) X hm
  refine codeAny_call_builtin KF.slot_gs.plain KF.entry_gs (KF.slot_gs.check _ _ _ _ _ _ _ _ KF.type_class (KF.args_gs _ _ _) ?go)
  case go => (unfold Builtin.«getset_descriptor.__get__» descrGet; rw [dga_obj]; refine wpAny_bind (wpAny_pure ?_); unfold descrGetter descrCheckInstance descrNameAndClass isInstance; simp only [KF.owner_class]; (repeat lk); refine ⟨Code.quiet_builtin _ (by decide +kernel), codeAny_builtin KF.entry_class ?_⟩; unfold Builtin.«object.__class__» shownTypeOf; (repeat lk); exact hq)
theorem exc_ga_check {M : Model} {nameV : Value} {Q : Unit → Shared → Prop} (X : K.In h) (hx : h.get? a = some o) (hc : o.cls = .ref D) (hb : mroIn K D (.type "BaseException") = some true) (hq : Q () ⟨h, g, d, t, os⟩) :
    wpAny M A (checkBuiltinCall "BaseException.__getattribute__" ⟨[.ref a, nameV], []⟩) Q E ⟨h, g, d, t, os⟩ := by
  have bk : builtinKind "BaseException.__getattribute__" = some .slot := by decide +kernel
  have sp : splitId "BaseException.__getattribute__" = some ("BaseException", "__getattribute__") := by decide +kernel
  have ok := F.args_bexc_ga (.ref a) nameV
  have L0 : Looks M h (typeOf (.ref a)) (.ref D) := by
    rw [← hc]; exact (Looks.ld hx).andThen .now
  have L1 := looks_mroIn (M := M) X hb
  simp only [checkBuiltinCall, bk, sp]
  refine wpAny_bind ?_
  · unfold isInstance
    repeat (first | with_reducible refine Looks.at (by assumption) ?_ | wp_step)
    exact hq
theorem exc_entry {tk : Tok} {Q : Fin → Shared → Prop} (X : K.In h) (hx : h.get? a = some o) (hc : o.cls = .ref D) (hm : mroIn K D (.type "object") = some true) (hcl : findIn K (.ref D) "__class__" = some (some (.builtin "object.__class__"))) (hq : Q (.done (.ret (.ref D))) ⟨h, g, d, t, os⟩) :
    wpAny (model prog w) A (Builtin.«object.__getattribute__» ⟨[.ref a, .str "__class__" tk], []⟩) Q E ⟨h, g, d, t, os⟩ :=
  by
  have L0 : Looks (model prog w) h (typeOf (.ref a)) (.ref D) := by
    rw [← hc]; exact (Looks.ld hx).andThen .now
  have L1 := looks_findIn (M := model prog w) X hcl
  have fa := F.typeOf_object_class; have fb := F.slot_gs_get.lookup; have fc := F.slot_gs_set.lookup
  repeat (any_goals (first | assumption | with_reducible refine Looks.at L0 ?_ | with_reducible refine Looks.at L1 ?_ | wp_step))
  refine exc_class_get X hx hc hm ?_; repeat (any_goals (first | assumption | wp_step))
theorem exc_class {Q : Option Value → Shared → Prop} (X : K.In h) (hx : h.get? a = some o) (hc : o.cls = .ref D) (hm : mroIn K D (.type "object") = some true) (hb : mroIn K D (.type "BaseException") = some true)
    (hga : findIn K (.ref D) "__getattribute__" = some (some (.builtin "BaseException.__getattribute__"))) (hgt : findIn K (.ref D) "__getattr__" = some none) (hcl : findIn K (.ref D) "__class__" = some (some (.builtin "object.__class__")))
    (hq : Q (some (.ref D)) ⟨h, g, d, t + 1, os⟩) : wpAny (model prog w) A (getAttr? (.ref a) "__class__") Q E ⟨h, g, d, t, os⟩ := by
  have L0 : Looks (model prog w) h (typeOf (.ref a)) (.ref D) := by
    rw [← hc]; exact (Looks.ld hx).andThen .now
  have La := looks_findIn (M := model prog w) X hga
  have Lb := looks_findIn (M := model prog w) X hgt
  have f3 := F.excAttr_ValueError.ga.bind (.ref a)
  have nb : (Value.builtin "BaseException.__getattribute__" == Value.builtin "object.__getattribute__") = false := by decide +kernel
  have nh : (onTheHeap (Value.ref D) && Value.builtin "BaseException.__getattribute__" == Value.builtin "object.__getattribute__") = false := by rw [nb]; rfl
  unfold getAttr? getAttrBy? getAttrBy; refine wpAny_bind (wpAny_mkText (wpAny_bind (wpAny_attempt (wpAny_holding (wpAny_bind (L0.at (wpAny_bind (La.at ?_))))))))
  repeat (any_goals (first | assumption | with_reducible refine Looks.at L0 ?_ | with_reducible refine Looks.at La ?_ | with_reducible refine Looks.at Lb ?_ | wp_step))
  refine codeAny_call_builtin F.excAttr_ValueError.ga.plain F.entry_bexc_ga (exc_ga_check X hx hc hb (exc_entry X hx hc hm hcl ?_)); repeat (any_goals (first | assumption | wp_step))
/-- what the top must say of an own class of exceptions, for isinstance -/
def excKit (K : Frag) (D : Addr) : Bool := (clsIn K D).isSome && mroIn K D (.type "object") == some true && mroIn K D (.type "BaseException") == some true && findIn K (.ref D) "__getattribute__" == some (some (.builtin "BaseException.__getattribute__"))
  && findIn K (.ref D) "__getattr__" == some none && findIn K (.ref D) "__class__" == some (some (.builtin "object.__class__"))
theorem kitx_exc {x D : Addr} (e : excKit K D = true) : KitX K (.ref x) (.ref D) (fun h => ∃ o, h.get? x = some o ∧ o.cls = .ref D) := by
  simp only [excKit, Bool.and_eq_true, beq_iff_eq] at e
  obtain ⟨⟨⟨⟨⟨e0, e1⟩, e2⟩, e3⟩, e4⟩, e5⟩ := e
  obtain ⟨cdD, hcD⟩ := Option.isSome_iff_exists.mp e0
  refine ⟨fun M h _ ⟨o, h1, h2⟩ => ?_, fun _ _ X _ => ?_, fun h tp dd its n sl X htp => ?_, fun {prog w A E Q s} X ⟨o, h1, h2⟩ k => ?_⟩
  · rw [← h2]; exact (Looks.ld h1).andThen .now
  · unfold clsIn at hcD
    split at hcD
    · rename_i c' d' cd' sl' ho
      exact fun A' Q' E' s' k q => by unfold isType loadHead; exact wpAny_bind (wpAny_loadPart (k _ _ (X _ _ ho)) (wpAny_pure q))
    · cases hcD
  · refine Bool.eq_false_iff.mpr fun q => ?_
    obtain rfl : D = tp := Value.ref.inj (beq_iff_eq.mp q)
    unfold clsIn at hcD
    split at hcD
    · rename_i c' d' cd' sl' ho
      cases (X _ _ ho).symm.trans htp
    · cases hcD
  · obtain ⟨h, g, d, t, os⟩ := s
    exact exc_class X h1 h2 e1 e2 e3 e4 e5 k
end
end PySem.W

namespace L2
open PySem PySem.Spec PyProof.Rows
/-! ### isinstance of a caught thing; count and index of truths; lists of texts as data -/
section
variable {X : Cx} {e e2 : Expr} {te te2 : TE} {p p2 pos : Pos}
def tIsE (K : PySem.W.Frag) (c : Value) (te : TE) : TE := fun σ H Q => te σ H fun x H1 => ∃ (a D : Addr) (b : Bool), x = .ref a ∧ H1 a = some (.ext (excAt a (.ref D))) ∧ PySem.W.excKit K D = true ∧ PySem.W.kitOne K (.ref D) c = some b ∧ Q (.bl b) H1
theorem call_isE {c : Value} {cv : V} (hcv : ∀ u, RelV cv u → u = c) (pins : List (Addr × Obj)) (s : Shared) (σ : St) (H : Hp) (x : V) (us : List Value) (Q : VK) (I : Inv X pins σ H s) (rv : Vals [x, cv] us)
    (h : ∃ (a D : Addr) (b : Bool), x = .ref a ∧ H a = some (.ext (excAt a (.ref D))) ∧ PySem.W.excKit X.K D = true ∧ PySem.W.kitOne X.K (.ref D) c = some b ∧ Q (.bl b) H) : wpAny (model X.prog X.w) X.A (call (.builtin "isinstance") us) (EP X pins σ Q) X.xe s := by
  obtain ⟨a, D, b, rfl, hH, hk, ek, q⟩ := h
  obtain ⟨u, v, rfl, rx, ry⟩ := rv.two
  cases rx
  obtain rfl := hcv v ry
  obtain ⟨hx, _⟩ := (show ObjOk X.prog X.w H s.heap a (.ext (excAt a (.ref D))) from I.hok a _ hH)
  have fin : ∀ tk, EP X pins σ Q (.bool b) { s with toks := tk } := fun tk => ⟨.bl b, H, I.kept (h' := s.heap) (t' := tk) fun _ _ q => q, rfl, q⟩
  exact PySem.W.kia_one (PySem.W.kitx_exc hk) I.kIn hx ek (fun z => nomatch z) fin
/-- isinstance(e, C), C an own class -/
theorem pe_isE {T : Str} {C : Addr} (hm : X.mg "isinstance" = none) (hT : X.mg T = some (.ref C)) (ha : PE X e te) (hg : Gl X "isinstance" := by rfl) (hgT : Gl X T := by rfl) (he : starEach [e, .Name T p2] X.env = [(false, eval e X.env), (false, eval (.Name T p2) X.env)] := by rfl)
    (hd : (T == ("__debug__" : Str)) = false := by decide) : PE X (.Call (.Name "isinstance" p) [e, .Name T p2] [] pos) (tIsE X.K (.ref C) te) :=
  pe_callB (r := r2' fun x y H Q => y = .ref C ∧ ∃ (a D : Addr) (b : Bool), x = .ref a ∧ H a = some (.ext (excAt a (.ref D))) ∧ PySem.W.excKit X.K D = true ∧ PySem.W.kitOne X.K (.ref D) (.ref C) = some b ∧ Q (.bl b) H)
    (callR2 fun pins s σ H x y us Q I rv ⟨ey, h⟩ => by subst ey; exact call_isE (c := .ref C) (cv := .ref C) (fun u r => r) pins s σ H x us Q I rv h) hg hm bt_isinst
    (pa_cons ha (pa_cons (pe_glob (v := .ref C) hgT hT rfl hd) pa_nil) (by exact he)) (he := by exact he) |>.imp fun σ H Q h => by
      show te σ H fun x H1 => V.ref C = .ref C ∧ _
      simp only [true_and]
      exact h
/-- isinstance(e, C), C a built-in class -/
theorem pe_isEB {T : Str} {c : String} (hm : X.mg "isinstance" = none) (hT : X.mg T = none) (hb : bootBuiltins T = some (.type c)) (ha : PE X e te) (hg : Gl X "isinstance" := by rfl) (hgT : Gl X T := by rfl) (he : starEach [e, .Name T p2] X.env = [(false, eval e X.env), (false, eval (.Name T p2) X.env)] := by rfl)
    (hn : T ≠ "__name__" := by decide) (hd : (T == ("__debug__" : Str)) = false := by decide) : PE X (.Call (.Name "isinstance" p) [e, .Name T p2] [] pos) (tIsE X.K (.type c) te) :=
  pe_callB (r := r2' fun x y H Q => y = .ty c ∧ ∃ (a D : Addr) (b : Bool), x = .ref a ∧ H a = some (.ext (excAt a (.ref D))) ∧ PySem.W.excKit X.K D = true ∧ PySem.W.kitOne X.K (.ref D) (.type c) = some b ∧ Q (.bl b) H)
    (callR2 fun pins s σ H x y us Q I rv ⟨ey, h⟩ => by subst ey; exact call_isE (c := .type c) (cv := .ty c) (fun u r => r) pins s σ H x us Q I rv h) hg hm bt_isinst
    (pa_cons ha (pa_cons (pe_bltn (v := .ty c) hgT hT hb rfl hn hd) pa_nil) (by exact he)) (he := by exact he) |>.imp fun σ H Q h => by
      show te σ H fun x H1 => V.ty c = .ty c ∧ _
      simp only [true_and]
      exact h
end
/-! ### all own classes of exceptions of a text -/
def excFacts (K : PySem.W.Frag) (CE : Addr) (Cs : List Addr) : Bool :=
  Cs.all fun D => PySem.W.exmOne K (.ref D) (.ref CE) == some true && PySem.W.excKit K D && PySem.W.excIn K D mroV "ValueError.__new__" && PySem.W.kitOne K (.ref D) (.type "ValueError") == some true && Cs.all fun C => PySem.W.kitOne K (.ref D) (.ref C) == some (D == C)
structure ExF (K : PySem.W.Frag) (CE D : Addr) (Cs : List Addr) : Prop where
  exm : PySem.W.exmOne K (.ref D) (.ref CE) = some true
  kit : PySem.W.excKit K D = true
  isIn : PySem.W.excIn K D mroV "ValueError.__new__" = true
  val : PySem.W.kitOne K (.ref D) (.type "ValueError") = some true
  one : ∀ C ∈ Cs, PySem.W.kitOne K (.ref D) (.ref C) = some (D == C)
theorem excFacts.of {K : PySem.W.Frag} {CE : Addr} {Cs : List Addr} (h : excFacts K CE Cs = true) : ∀ D ∈ Cs, ExF K CE D Cs := fun D hD => by
  have h1 := List.all_eq_true.mp h D hD
  simp only [Bool.and_eq_true, beq_iff_eq] at h1
  obtain ⟨⟨⟨⟨a, b⟩, c⟩, d⟩, e⟩ := h1
  exact ⟨a, b, c, d, fun C hC => beq_iff_eq.mp (List.all_eq_true.mp e C hC)⟩
theorem ExF.any {K : PySem.W.Frag} {CE D : Addr} {Cs : List Addr} (h : ExF K CE D Cs) : ∀ cs : List Addr, (∀ c ∈ cs, c ∈ Cs) → PySem.W.kitAny K (.ref D) (cs.map Value.ref) = some (cs.any fun c => D == c)
  | [], _ => rfl
  | c :: r, hc => by
    have h1 := h.one c (hc c List.mem_cons_self)
    have h2 := h.any r fun d hd => hc d (List.mem_cons_of_mem _ hd)
    rw [List.map_cons, PySem.W.kitAny, h1]
    cases q : D == c with
    | true => simp [q]
    | false => simp [q, h2]
/-! ### count and index of truths -/
section
variable {X : Cx}
theorem bools_its {xs : List Bool} {its : List Value} (r : Vals (xs.map V.bl) its) : its = xs.map Value.bool := by
  induction xs generalizing its with
  | nil => cases r; rfl
  | cons b xs ih =>
    cases r with
    | cons r t => cases r; rw [ih t]; rfl
end
/-! ### lists of texts as data -/
end L2
namespace L2
open PySem PySem.Spec PyProof.Rows
theorem bt_ValueError : bootBuiltins "ValueError" = some (.type "ValueError") := by decide +kernel
section
variable {X : Cx}
end
end L2

namespace PySem.W
open PySem PySem.Spec PySem.Calls PyProof.Rows
/-! ### enumerate(xs, start=1) -/
section
variable {prog : Program} {w : World} {A : Around} {E : Value → Shared → Prop} {s : Shared}
end
end PySem.W
namespace L2
open PySem PySem.Spec PyProof.Rows
/-! ### max of a list, index of a number -/
section
variable {X : Cx} {e : Expr} {te : TE} {p pos : Pos}
end
end L2

namespace L2
open PySem PySem.Spec PyProof.Rows
/-! ### products of large numbers; any of a list of truths -/
def CMulB (i j : Int) : Prop := i.natAbs < 2 ^ 1000 ∧ j.natAbs < 2 ^ 1000
theorem op_mulB {X : Cx} : OpR X (binaryOp .Mult) (rI CMulB fun i j => .int (i * j)) := opI fun _ _ _ _ _ _ _ hc q => mul_int q (IntMulOk.of_bits (Nat.le_trans (intBits_le hc.1) (by decide)) (Nat.le_trans (intBits_le hc.2) (by decide)))
section
variable {X : Cx} {e : Expr} {te : TE} {p pos : Pos}
end
end L2

namespace L2
open PySem PySem.Spec PyProof.Rows

/-! ### lists of pairs as tables -/
section
variable {κ : Type} [DecidableEq κ]
def valV (kvs : List (κ × V)) (k : κ) : Option V := (kvs.find? fun kv => decide (kv.1 = k)).map (·.2)
/-- in its place, or at the end -/
def putK (kvs : List (κ × V)) (k : κ) (v : V) : List (κ × V) :=
  if (kvs.any fun kv => decide (kv.1 = k)) = true then kvs.map (fun kv => if kv.1 = k then (kv.1, v) else kv) else kvs ++ [(k, v)]
def dropK (kvs : List (κ × V)) (k : κ) : List (κ × V) := kvs.filter fun kv => decide (kv.1 ≠ k)

theorem valV_pos {p : κ × V} {r : List (κ × V)} {k : κ} (e : p.1 = k) : valV (p :: r) k = some p.2 := by simp [valV, List.find?_cons, e]
theorem valV_neg {p : κ × V} {r : List (κ × V)} {k : κ} (e : ¬ p.1 = k) : valV (p :: r) k = valV r k := by simp [valV, List.find?_cons, e]
theorem valV_any (k : κ) : ∀ kvs : List (κ × V), (kvs.any fun kv => decide (kv.1 = k)) = (valV kvs k).isSome
  | [] => rfl
  | p :: r => by
    rw [List.any_cons]
    by_cases e : p.1 = k
    · simp only [valV_pos e, decide_eq_true e, Bool.true_or, Option.isSome_some]
    · rw [valV_neg e, decide_eq_false e, Bool.false_or]; exact valV_any k r
theorem valV_map (k j : κ) (y : V) : ∀ kvs : List (κ × V), valV (kvs.map fun kv => if kv.1 = k then (kv.1, y) else kv) j = (valV kvs j).map fun x => if j = k then y else x
  | [] => rfl
  | p :: r => by
    have ih := valV_map k j y r
    rw [List.map_cons]
    by_cases h : p.1 = k
    · rw [if_pos h]
      by_cases e : p.1 = j
      · rw [valV_pos (p := (p.1, y)) e, valV_pos e, Option.map_some, if_pos (e.symm.trans h)]
      · rw [valV_neg (p := (p.1, y)) e, valV_neg e, ih]
    · rw [if_neg h]
      by_cases e : p.1 = j
      · rw [valV_pos (p := p) e, valV_pos e, Option.map_some, if_neg (fun z => h (e.trans z))]
      · rw [valV_neg (p := p) e, valV_neg e, ih]
theorem valV_snoc (k j : κ) (y : V) : ∀ kvs : List (κ × V), valV kvs k = none → valV (kvs ++ [(k, y)]) j = if j = k then some y else valV kvs j
  | [], _ => by
    by_cases e : k = j
    · rw [if_pos e.symm]; exact valV_pos (p := (k, y)) e
    · rw [if_neg (fun z => e z.symm)]; exact valV_neg (p := (k, y)) e
  | p :: r, hn => by
    rw [List.cons_append]
    have hk : ¬ p.1 = k := fun z => by rw [valV_pos z] at hn; cases hn
    rw [valV_neg hk] at hn
    have ih := valV_snoc k j y r hn
    by_cases e : p.1 = j
    · rw [valV_pos e, valV_pos e, if_neg (fun z => hk (e.trans z))]
    · rw [valV_neg e, valV_neg e, ih]
theorem valV_put (kvs : List (κ × V)) (k j : κ) (y : V) : valV (putK kvs k y) j = if j = k then some y else valV kvs j := by
  unfold putK
  by_cases a : (kvs.any fun kv => decide (kv.1 = k)) = true
  · rw [if_pos a, valV_map]
    rw [valV_any] at a
    by_cases e : j = k
    · obtain ⟨x, hx⟩ := Option.isSome_iff_exists.mp a
      rw [if_pos e, e, hx, Option.map_some, if_pos rfl]
    · rw [if_neg e]
      cases valV kvs j with
      | none => rfl
      | some x => rw [Option.map_some, if_neg e]
  · rw [if_neg a]
    refine valV_snoc k j y kvs ?_
    rw [valV_any] at a
    cases q : valV kvs k with
    | none => rfl
    | some x => rw [q] at a; exact (a rfl).elim
theorem length_putK (kvs : List (κ × V)) (k : κ) (v : V) : (putK kvs k v).length ≤ kvs.length + 1 := by
  unfold putK
  split
  · rw [List.length_map]; omega
  · rw [List.length_append, List.length_cons, List.length_nil]; omega

theorem RelO.isSome_eq {o : Option V} {u : Option Value} (r : RelO o u) : o.isSome = u.isSome := by
  cases o with
  | none => cases u with
    | none => rfl
    | some _ => exact (show False from r).elim
  | some _ => cases u with
    | none => exact (show False from r).elim
    | some _ => rfl
theorem RelO.getD {o : Option V} {u : Option Value} {d : V} {d' : Value} (r : RelO o u) (rd : RelV d d') : RelV (o.getD d) (u.getD d') := by
  cases o with
  | none => cases u with
    | none => exact rd
    | some _ => exact (show False from r).elim
  | some _ => cases u with
    | none => exact (show False from r).elim
    | some _ => exact r

/-- raw tables of the same keys -/
theorem KV.val {kvs : List (κ × V)} {vs : List (κ × Value)} (r : KV kvs vs) (k : κ) : RelO (valV kvs k) (valueAt vs k) := by
  unfold KV at r
  induction r with
  | nil => exact True.intro
  | @cons p q ps qs h t ih =>
    obtain ⟨h1, h2⟩ := h
    by_cases e : p.1 = k
    · have e' : q.1 = k := h1.symm.trans e
      have b : valueAt (q :: qs) k = some q.2 := by simp [valueAt, List.find?_cons, e']
      rw [valV_pos e, b]; exact h2
    · have e' : ¬ q.1 = k := fun z => e (h1.trans z)
      have b : valueAt (q :: qs) k = valueAt qs k := by simp [valueAt, List.find?_cons, e']
      rw [valV_neg e, b]; exact ih
theorem KV.any {kvs : List (κ × V)} {vs : List (κ × Value)} (r : KV kvs vs) (k : κ) : (kvs.any fun kv => decide (kv.1 = k)) = vs.any fun kv => decide (kv.1 = k) := by
  unfold KV at r
  induction r with
  | nil => rfl
  | cons h t ih => rw [List.any_cons, List.any_cons, ih, h.1]
theorem KV.repl {kvs : List (κ × V)} {vs : List (κ × Value)} (r : KV kvs vs) (k : κ) {y : V} {u : Value} (ry : RelV y u) :
    KV (kvs.map fun kv => if kv.1 = k then (kv.1, y) else kv) (vs.map fun kv => if kv.1 = k then (kv.1, u) else kv) := by
  unfold KV at r ⊢
  induction r with
  | nil => exact .nil
  | @cons p q ps qs h t ih =>
    rw [List.map_cons, List.map_cons]
    refine .cons ?_ ih
    obtain ⟨h1, h2⟩ := h
    by_cases e : p.1 = k
    · rw [if_pos e, if_pos (h1.symm.trans e)]; exact ⟨h1, ry⟩
    · rw [if_neg e, if_neg (fun z => e (h1.trans z))]; exact ⟨h1, h2⟩
theorem KV.put {kvs : List (κ × V)} {vs : List (κ × Value)} (r : KV kvs vs) (k : κ) {y : V} {u : Value} (ry : RelV y u) : KV (putK kvs k y) (stored vs k u) := by
  unfold putK stored
  rw [r.any k]
  by_cases e : (vs.any fun kv => decide (kv.1 = k)) = true
  · rw [if_pos e, if_pos e]; exact r.repl k ry
  · rw [if_neg e, if_neg e]; exact Paired.snoc r ⟨rfl, ry⟩
theorem KV.drop {kvs : List (κ × V)} {vs : List (κ × Value)} (r : KV kvs vs) (k : κ) : KV (dropK kvs k) (without vs k) := by
  unfold KV at r ⊢
  unfold dropK without
  induction r with
  | nil => exact .nil
  | @cons p q ps qs h t ih =>
    obtain ⟨h1, h2⟩ := h
    rw [List.filter_cons, List.filter_cons]
    by_cases e : p.1 = k
    · have a : ¬ decide (p.1 ≠ k) = true := by simp [e]
      have b : ¬ decide (q.1 ≠ k) = true := by simp [h1.symm.trans e]
      rw [if_neg a, if_neg b]; exact ih
    · have e' : ¬ q.1 = k := fun z => e (h1.trans z)
      have a : decide (p.1 ≠ k) = true := by simp [e]
      have b : decide (q.1 ≠ k) = true := by simp [e']
      rw [if_pos a, if_pos b]; exact .cons ⟨h1, h2⟩ ih
theorem KV.keys {kvs : List (κ × V)} {vs : List (κ × Value)} (r : KV kvs vs) : kvs.map (·.1) = vs.map (·.1) := by
  unfold KV at r
  induction r with
  | nil => rfl
  | cons h t ih => rw [List.map_cons, List.map_cons, ih, h.1]
theorem KV.length {kvs : List (κ × V)} {vs : List (κ × Value)} (r : KV kvs vs) : kvs.length = vs.length := Paired.length r
end


/-! ### a tracked dict, its keys ints and texts or tuples of these -/
theorem kV_is {P : Program} {w : World} {k : Key} {u : Value} (r : RelV (kV k) u) : (mixKind P w).is k u = true := by
  cases k with
  | inl i => obtain ⟨t, e⟩ := (show ∃ t, u = Value.int i t from r); subst e; exact mixKind_int P w i t
  | inr x => obtain ⟨t, e⟩ := (show ∃ t, u = Value.str x t from r); subst e; exact mixKind_str P w x t

/-- raw entries of a dict with tuple keys -/
abbrev KT (H : Hp) : List (List Key × V) → List (List Key × Addr × Value) → Prop := Paired fun p q => p.1 = q.1 ∧ H q.2.1 = some (.tup (p.1.map kV)) ∧ RelV p.2 q.2.2
theorem KT.val {H : Hp} {kvs : List (List Key × V)} {xs : List (List Key × Addr × Value)} (r : KT H kvs xs) (k : List Key) : RelO (valV kvs k) ((atKey xs k).map (·.2)) := by
  induction r with
  | nil => exact True.intro
  | @cons p q ps qs h t ih =>
    obtain ⟨h1, _, h2⟩ := h
    by_cases e : p.1 = k
    · have e' : q.1 = k := h1.symm.trans e
      have b : atKey (q :: qs) k = some q.2 := by simp [atKey, List.find?_cons, e']
      rw [valV_pos e, b]; exact h2
    · have e' : ¬ q.1 = k := fun z => e (h1.trans z)
      have b : atKey (q :: qs) k = atKey qs k := by simp [atKey, List.find?_cons, e']
      rw [valV_neg e, b]; exact ih
theorem KT.repl {H : Hp} {kvs : List (List Key × V)} {xs : List (List Key × Addr × Value)} (r : KT H kvs xs) (k : List Key) {y : V} {u : Value} (ry : RelV y u) :
    KT H (kvs.map fun kv => if kv.1 = k then (kv.1, y) else kv) (xs.map (putAt k u)) := by
  induction r with
  | nil => exact .nil
  | @cons p q ps qs h t ih =>
    rw [List.map_cons, List.map_cons]
    refine .cons ?_ ih
    obtain ⟨h1, h2, h3⟩ := h
    unfold putAt
    by_cases e : p.1 = k
    · rw [if_pos e, if_pos (h1.symm.trans e)]; exact ⟨h1, h2, ry⟩
    · rw [if_neg e, if_neg (fun z => e (h1.trans z))]; exact ⟨h1, h2, h3⟩
theorem KT.put {H : Hp} {kvs : List (List Key × V)} {xs : List (List Key × Addr × Value)} (r : KT H kvs xs) (k : List Key) {b : Addr} {y : V} {u : Value} (hb : H b = some (.tup (k.map kV))) (ry : RelV y u) :
    KT H (putK kvs k y) (storedH xs k b u) := by
  have e : (kvs.any fun kv => decide (kv.1 = k)) = (atKey xs k).isSome := by
    rw [valV_any, (r.val k).isSome_eq, Option.isSome_map]
  unfold putK storedH
  rw [e]
  by_cases q : (atKey xs k).isSome = true
  · rw [if_pos q, if_pos q]; exact r.repl k ry
  · rw [if_neg q, if_neg q]; exact Paired.snoc r ⟨rfl, hb, ry⟩
theorem KT.keeps {H H' : Hp} {kvs : List (List Key × V)} {xs : List (List Key × Addr × Value)} (r : KT H kvs xs) (ht : ∀ b ys, H b = some (.tup ys) → H' b = some (.tup ys)) : KT H' kvs xs :=
  Paired.mapP r fun _ _ z => ⟨z.1, ht _ _ z.2.1, z.2.2⟩

section
variable {P : Program} {w : World} {H : Hp} {h : Heap} {a : Addr}
theorem rd_of {u : HO} (ok : HOk P w H h) (e : Rd H a u) : ObjOk P w H h a u := e.ok ok
theorem dk_rd {kvs : List (Key × V)} (ok : HOk P w H h) (e : Rd H a (.dK kvs)) : kvs.length ≤ sizeLine ∧ (a == sysModules) = false ∧ ∃ vs, KV kvs vs ∧ h.DictOf (mixKind P w) a vs :=
  show ObjOk P w H h a (.dK kvs) from rd_of ok e
theorem dk_of {kvs : List (Key × V)} (ok : HOk P w H h) (e : H a = some (.dK kvs)) : kvs.length ≤ sizeLine ∧ (a == sysModules) = false ∧ ∃ vs, KV kvs vs ∧ h.DictOf (mixKind P w) a vs := dk_rd ok (.inl e)
end

/-- what the dict at a holds at the key y -/
def DGet (H : Hp) (a : Addr) (y : V) (r : Option V) : Prop :=
  (∃ kvs k, Rd H a (.dK kvs) ∧ y = kV k ∧ r = valV kvs k) ∨ ∃ kvs k b, Rd H a (.dT kvs) ∧ y = .ref b ∧ H b = some (.tup (k.map kV)) ∧ r = valV kvs k
/-- the heap behind a[y] = v -/
def DPut (H : Hp) (a : Addr) (y v : V) (H' : Hp) : Prop :=
  (∃ kvs k, H a = some (.dK kvs) ∧ y = kV k ∧ kvs.length < sizeLine ∧ H' = upd H a (.dK (putK kvs k v))) ∨
  ∃ kvs k b, H a = some (.dT kvs) ∧ y = .ref b ∧ H b = some (.tup (k.map kV)) ∧ kvs.length < sizeLine ∧ H' = upd H a (.dT (putK kvs k v))
theorem DGet.k {H : Hp} {a : Addr} {kvs : List (Key × V)} {k : Key} (e : H a = some (.dK kvs)) : DGet H a (kV k) (valV kvs k) := .inl ⟨kvs, k, .inl e, rfl, rfl⟩
theorem DGet.t {H : Hp} {a b : Addr} {kvs : List (List Key × V)} {k : List Key} (e : H a = some (.dT kvs)) (eb : H b = some (.tup (k.map kV))) : DGet H a (.ref b) (valV kvs k) := .inr ⟨kvs, k, b, .inl e, rfl, eb, rfl⟩
theorem DPut.k {H : Hp} {a : Addr} {kvs : List (Key × V)} {k : Key} {v : V} (e : H a = some (.dK kvs)) (hl : kvs.length < sizeLine) : DPut H a (kV k) v (upd H a (.dK (putK kvs k v))) := .inl ⟨kvs, k, e, rfl, hl, rfl⟩
theorem DPut.t {H : Hp} {a b : Addr} {kvs : List (List Key × V)} {k : List Key} {v : V} (e : H a = some (.dT kvs)) (eb : H b = some (.tup (k.map kV))) (hl : kvs.length < sizeLine) :
    DPut H a (.ref b) v (upd H a (.dT (putK kvs k v))) := .inr ⟨kvs, k, b, e, rfl, eb, hl, rfl⟩


section
variable {X : Cx} {pins : List (Addr × Obj)} {σ : St} {H : Hp} {s : Shared} {a : Addr} {y v : V} {u r : Value} {o : Option V} {A : Around} {E : Value → Shared → Prop}

theorem Inv.big (I : Inv X pins σ H s) : sysModules < s.heap.objs.size := by
  have h : mainGlobals < s.heap.objs.size := (I.mod.glob.keeps I.bk).lt
  exact Nat.lt_trans (by decide) h

/-- a dict's object is replaced -/
theorem d_write {h' : Heap} {t' : Nat} {ob : HO} (I : Inv X pins σ H s) (mu : Mut (H a)) (hs : Heap.SameBut a s.heap h') (he : ∃ q, h'.get? a = some q) (new : ObjOk X.prog X.w (upd H a ob) h' a ob) :
    Inv X pins σ (upd H a ob) { s with heap := h', toks := t' } :=
  I.write (x := a) (e := a) mu (.inl rfl) (fun b q hb z => (hs.2 b hb).trans z) he new
theorem dk_new {P : Program} {w : World} {H' : Hp} {h' : Heap} {kvs : List (Key × V)} {vs : List (Key × Value)} (z : kvs.length ≤ sizeLine) (hd : (a == sysModules) = false) (rel : KV kvs vs) (dd : h'.DictOf (mixKind P w) a vs) :
    ObjOk P w H' h' a (.dK kvs) := ⟨z, hd, vs, rel, dd⟩
end

section
variable {X : Cx} {pins : List (Addr × Obj)} {σ : St} {H : Hp} {s : Shared} {a : Addr} {kvs : List (Key × V)} {k : Key} {u : Value} {A : Around} {E : Value → Shared → Prop}
end


/-! ### readings and rules -/
/-- the element of a subscription, not a slice -/
def NoSl (i : Expr) : Prop := ∀ ov iv, subscripted i false ov iv = operate [ov, iv] (getItem ov iv)
theorem subD_of {prog : Program} {w : World} {A : Around} {E : Value → Shared → Prop} {s : Shared} {env : Env} {value slice : Expr} {pos : Pos} {T id : String} {Q : Value → Shared → Prop}
    (hl : typeLookup (.type T) "__getitem__" = pure (some (.builtin id))) (hs : NoSl slice)
    (h : wpAny (model prog w) A (eval value env) (fun o s₁ => wpAny (model prog w) A (eval slice env) (fun i s₂ => s₂.TypeIs o T ∧ wpAny (model prog w) A (getItem o i) Q E s₂) E s₁) E s) :
    wpAny (model prog w) A (eval (.Subscript value slice pos) env) Q E s := by
  refine Subscript_ (wpAny_mono h (fun o s₁ h₁ => wpAny_mono h₁ (fun i s₂ h₂ => ?_) fun _ _ x => x) fun _ _ x => x)
  obtain ⟨hT, h₂⟩ := h₂
  unfold subscriptTail
  refine wpAny_bind ?_
  rw [getitemInPython_of_ne hT.not_modules]
  refine wpAny_bind (wpAny_specialOf hT hl ?_)
  have fin : wpAny (model prog w) A (subscripted slice false o i) (fun r s₃ => wpAny (model prog w) A (letTemporaryGo value o r >>= fun _ => pure r) Q E s₃) E s₂ := by
    rw [hs o i]
    exact wpAny_operating (wpAny_mono h₂ (fun r s₃ h₃ => wpAny_bind (wpAny_letTemporaryGo (wpAny_pure h₃))) fun _ _ x => x)
  first
    | exact wpAny_pure (wpAny_bind fin)
    | exact wpAny_bind (wpAny_pure (wpAny_bind fin))
    | exact wpAny_bind fin



section
variable {X : Cx} {o i e value : Expr} {pos pos' tpos : Pos} {td ty tv : TE}
end


/-! ### displays -/
theorem dk_empty {P : Program} {w : World} {H : Hp} (h : Heap) (hb : sysModules < h.objs.size) : ObjOk P w H (h.push { cls := .type "dict", data := .dict #[] }) h.objs.size (.dK []) :=
  ⟨Nat.zero_le _, beq_eq_false_iff_ne.mpr (Ne.symm (Nat.ne_of_lt hb)), [], .nil, Heap.DictOf.new h⟩
theorem dt_empty {P : Program} {w : World} {H : Hp} (h : Heap) (hb : sysModules < h.objs.size) : ObjOk P w H (h.push { cls := .type "dict", data := .dict #[] }) h.objs.size (.dT []) :=
  ⟨Nat.zero_le _, beq_eq_false_iff_ne.mpr (Ne.symm (Nat.ne_of_lt hb)), [], .nil, _, #[], 0, Heap.get?_push_size _ rfl, ⟨rfl, rfl, rfl⟩, rfl, rfl, List.nodup_nil⟩
def tDNewT : TE := fun _ H Q => ∀ p, H p = none → Q (.ref p) (upd H p (.dT []))
section
variable {X : Cx} {pos : Pos}
theorem pe_dnewT : PE X (.Dict [] [] pos) tDNewT := fun pins s σ H Q I h =>
  wpAny_Dict_empty ⟨.ref s.heap.objs.size, _, I.laid (a := s.heap.objs.size) (o := .dT []) (t' := s.toks) (fun _ _ q => Heap.get?_push_of_some _ q) (Nat.le_refl _) (dt_empty s.heap I.big), rfl, h _ (I.hok.fresh (Nat.le_refl _))⟩
end

/-- the pairs of a display, from the left -/
def tPairs : List (TE × TE) → St → Hp → (List (V × V) → Hp → Prop) → Prop
  | [], _, H, Q => Q [] H
  | (tk, tv) :: r, σ, H, Q => tk σ H fun x H1 => tv σ H1 fun y H2 => tPairs r σ H2 fun ps H3 => Q ((x, y) :: ps) H3
abbrev VV : List (V × V) → List (Value × Value) → Prop := Paired fun p q => RelV p.1 q.1 ∧ RelV p.2 q.2
def PPs (X : Cx) (pos : Pos) (keys : List (Option Expr)) (values : List Expr) (trs : List (TE × TE)) : Prop :=
  ∀ (pins : List (Addr × Obj)) (s : Shared) (σ : St) (H : Hp) (Q : List (V × V) → Hp → Prop), Inv X pins σ H s → tPairs trs σ H Q →
    wpAny (model X.prog X.w) X.A (evalPairs (pairTrees keys values X.env pos)) (fun vs s' => ∃ ps H', Inv X pins σ H' s' ∧ VV ps vs ∧ Q ps H') X.xe s
theorem pps_nil {X : Cx} {pos : Pos} : PPs X pos [] [] [] := fun pins s σ H Q I h => pairTrees_nil_walk ⟨[], H, I, .nil, h⟩
theorem pps_cons {X : Cx} {pos : Pos} {k v : Expr} {ks : List (Option Expr)} {vs : List Expr} {tk tv : TE} {trs : List (TE × TE)} (hk : PE X k tk) (hv : PE X v tv) (hr : PPs X pos ks vs trs) :
    PPs X pos (some k :: ks) (v :: vs) ((tk, tv) :: trs) := fun pins s σ H Q I h =>
  pairTrees_cons_walk (thn (hk pins s σ H _ I h) fun u s1 ⟨x, H1, I1, rx, q1⟩ => thn (hv pins s1 σ H1 _ I1 q1) fun w2 s2 ⟨y, H2, I2, ry, q2⟩ =>
    thn (hr pins s2 σ H2 _ I2 q2) fun ws s3 ⟨ps, H3, I3, rel, q3⟩ => ⟨(x, y) :: ps, H3, I3, .cons ⟨rx, ry⟩ rel, q3⟩)

def mergeK (kvs more : List (Key × V)) : List (Key × V) := more.foldl (fun acc kv => putK acc kv.1 kv.2) kvs
theorem KV.merge : ∀ {more : List (Key × V)} {rs : List (Key × Value)} {kvs : List (Key × V)} {vs : List (Key × Value)}, KV more rs → KV kvs vs → KV (mergeK kvs more) (merged vs rs) := by
  intro more rs kvs vs r
  unfold KV at r
  induction r generalizing kvs vs with
  | nil => intro q; exact q
  | @cons p q ps qs h t ih =>
    intro r0
    have e : KV (putK kvs p.1 p.2) (stored vs q.1 q.2) := by
      have := r0.put p.1 h.2
      rw [← h.1]; exact this
    exact ih e
theorem length_mergeK : ∀ (more kvs : List (Key × V)), (mergeK kvs more).length ≤ kvs.length + more.length
  | [], kvs => by show kvs.length ≤ kvs.length + 0; omega
  | p :: r, kvs => by
    have h1 := length_mergeK r (putK kvs p.1 p.2)
    have h2 := length_putK kvs p.1 p.2
    show (mergeK (putK kvs p.1 p.2) r).length ≤ _
    rw [List.length_cons]; omega
theorem carries_of {P : Program} {w : World} : ∀ {kvs : List (Key × V)} {ws : List (Value × Value)}, VV (kvs.map fun kv => (kV kv.1, kv.2)) ws → ∃ rs, Carries (mixKind P w) ws rs ∧ KV kvs rs
  | [], _, r => by rw [List.map_nil] at r; cases r; exact ⟨[], True.intro, .nil⟩
  | p :: kvs, _, r => by
    rw [List.map_cons] at r
    cases r with
    | @cons a b as bs h t =>
      obtain ⟨rs, c, q⟩ := carries_of (P := P) (w := w) t
      obtain ⟨b1, b2⟩ := b
      exact ⟨(p.1, b2) :: rs, ⟨kV_is h.1, rfl, c⟩, .cons ⟨rfl, h.2⟩ q⟩
/-- {k: v, ..} with keys ints and texts; the new dict stands empty while the pairs are made -/
def tDisp (trs : List (TE × TE)) : TE := fun σ H Q => ∀ p, H p = none → tPairs trs σ (upd H p (.dK [])) fun ps H2 => H2 p = some (.dK []) ∧ ∃ kvs : List (Key × V), ps = kvs.map (fun kv => (kV kv.1, kv.2)) ∧ kvs.length ≤ 15 ∧ Q (.ref p) (upd H2 p (.dK (mergeK [] kvs)))
theorem pe_disp {X : Cx} {pos : Pos} {keys : List (Option Expr)} {values : List Expr} {trs : List (TE × TE)} (h : PPs X pos keys values trs) (hall : keys.all (·.isSome) = true) (hl : keys.length = values.length) (h0 : keys ≠ [])
    (h15 : keys.length ≤ 15) : PE X (.Dict keys values pos) (tDisp trs) := by
  intro pins s σ H Q I q
  have hn := I.hok.fresh (Nat.le_refl s.heap.objs.size)
  have I1 := I.laid (a := s.heap.objs.size) (o := .dK []) (h' := s.heap.push { cls := .type "dict", data := .dict #[] }) (t' := s.toks) (fun _ _ q => Heap.get?_push_of_some _ q) (Nat.le_refl _) (dk_empty s.heap I.big)
  refine wpAny_Dict_walk (knd := mixKind X.prog X.w) hall hl h0 h15 (thn (h pins _ σ _ _ I1 (q _ hn)) fun ws s2 ⟨ps, H2, I2, rel, e, kvs, ep, lk, q2⟩ => ?_)
  subst ep
  obtain ⟨rs, c, rk⟩ := carries_of (P := X.prog) (w := X.w) rel
  obtain ⟨z, hd, vs0, r0, dd⟩ := dk_of I2.hok e
  cases r0
  refine ⟨rs, c, dd, fun h' dd' hs => ⟨.ref s.heap.objs.size, _, ?_, rfl, q2⟩⟩
  have hz : (mergeK [] kvs).length ≤ sizeLine := by
    have h1 := length_mergeK kvs []
    rw [List.length_nil] at h1
    rw [sizeLine_eq]; omega
  have he : ∃ q, h'.get? s.heap.objs.size = some q := let ⟨q, _, _, hq, _⟩ := dd'; ⟨q, hq⟩
  exact d_write I2 (by rw [e]; exact True.intro) hs he (dk_new hz hd (rk.merge .nil) dd')


/-! ### methods -/
/-- a method call o.m(e) of a built-in, with one argument: what must be seen of the text -/
structure M1 (X : Cx) (o : Expr) (m : Str) (apos : Pos) (e : Expr) (cpos : Pos) : Prop where
  base : attributeBase o m X.env (eval o X.env) = eval o X.env
  few : ((backTo cpos (starEach [e] X.env)).all (fun x => !x.1) && (backToKw cpos (keywordEach [] X.env)).all (fun x => x.1.isSome)
    && decide (([e] : List Expr).length + ([] : List Keyword).length + (if ([] : List Keyword).isEmpty then 0 else 1) < 30)) = true
  line : (apos.endLine == cpos.line) = true
  trees : backTo cpos (starEach [e] X.env) = [(false, eval e X.env)]
structure M2 (X : Cx) (o : Expr) (m : Str) (apos : Pos) (e f : Expr) (cpos : Pos) : Prop where
  base : attributeBase o m X.env (eval o X.env) = eval o X.env
  few : ((backTo cpos (starEach [e, f] X.env)).all (fun x => !x.1) && (backToKw cpos (keywordEach [] X.env)).all (fun x => x.1.isSome)
    && decide (([e, f] : List Expr).length + ([] : List Keyword).length + (if ([] : List Keyword).isEmpty then 0 else 1) < 30)) = true
  line : (apos.endLine == cpos.line) = true
  trees : backTo cpos (starEach [e, f] X.env) = [(false, eval e X.env), (false, eval f X.env)]


section
variable {X : Cx} {pins : List (Addr × Obj)} {σ : St} {H : Hp} {s : Shared} {a : Addr} {y d : V} {u r : Value} {o : Option V} {A : Around} {E : Value → Shared → Prop}
end

section
variable {X : Cx} {o e f : Expr} {apos cpos : Pos} {td ty tx : TE}
end

/-! ### dict(d): a copy -/
section
variable {X : Cx} {pins : List (Addr × Obj)} {σ : St} {H : Hp} {s : Shared} {a : Addr} {kvs : List (Key × V)} {A : Around} {E : Value → Shared → Prop}
end


section
variable {X : Cx} {pins : List (Addr × Obj)} {σ : St} {H : Hp} {s : Shared} {a : Addr} {y : V} {u : Value} {A : Around} {E : Value → Shared → Prop}
end
end L2


namespace L2
open PySem PySem.Spec PyProof.Rows
/-! ### sum of a list of numbers of any size -/
section
variable {X : Cx}
variable {e : Expr} {te : TE} {p pos : Pos}
end
/-! ### the walk of a comprehension over enumerate -/
/-! ### a dict of numbers by numbers -/
/-- at w there lies a dict that tells f at each of qs -/
def DictN (H : Hp) (w : Addr) (qs : List Nat) (f : Nat → Int) : Prop := ∃ kvs : List (Key × V), H w = some (.dK kvs) ∧ kvs.length ≤ qs.length ∧ (∀ q ∈ qs, valV kvs (.inl (q : Int)) = some (.int (f q))) ∧ ∀ k : Int, (∀ q ∈ qs, (q : Int) ≠ k) → valV kvs (.inl k) = none
theorem DictN.new {H : Hp} {w : Addr} {f : Nat → Int} (h : H w = some (.dK [])) : DictN H w [] f := ⟨[], h, Nat.le_refl _, fun q hq => absurd hq (List.not_mem_nil), fun _ _ => rfl⟩
theorem DictN.get {H : Hp} {w : Addr} {qs : List Nat} {f : Nat → Int} (h : DictN H w qs f) {q : Nat} (hq : q ∈ qs) : DGet H w (.int (q : Int)) (some (.int (f q))) := by
  obtain ⟨kvs, h1, _, h2, _⟩ := h
  have := DGet.k (k := .inl (q : Int)) h1
  rw [h2 q hq] at this
  exact this
theorem DictN.put {H : Hp} {w : Addr} {qs : List Nat} {f : Nat → Int} (h : DictN H w qs f) {q : Nat} {z : Int} (hz : z = f q) (hl : qs.length < 1000) : ∃ H', DPut H w (.int (q : Int)) (.int z) H' ∧ DictN H' w (qs ++ [q]) f ∧ ∀ b o, H b = some o → b ≠ w → H' b = some o := by
  subst hz
  obtain ⟨kvs, h1, h2, h3, h4⟩ := h
  refine ⟨_, DPut.k (k := .inl (q : Int)) h1 (Nat.lt_of_le_of_lt h2 (Nat.lt_of_lt_of_le hl (by decide))), ⟨_, upd_same, ?_, fun p hp => ?_, fun k hk => ?_⟩, fun b o e ne => by rw [upd_ne ne]; exact e⟩
  · rw [List.length_append, List.length_singleton]
    have := length_putK kvs (.inl (q : Int)) (.int (f q))
    omega
  · rw [valV_put]
    by_cases e : p = q
    · subst e; rw [if_pos rfl]
    · rw [if_neg (fun z => e (by have := Sum.inl.inj z; omega))]
      rcases List.mem_append.mp hp with hp | hp
      · exact h3 p hp
      · exact absurd (List.mem_singleton.mp hp) e
  · rw [valV_put, if_neg (fun z => hk q (by simp) (Sum.inl.inj z).symm)]
    exact h4 k fun p hp => hk p (List.mem_append_left _ hp)
/-! ### name = [comprehension with several names] -/
/-! ### for over reversed(list) -/
end L2

namespace L2
open PySem PySem.Spec PyProof.Rows
/-! ### d.setdefault(k, x), keys that are tuples -/
section
variable {prog : Program} {w : World} {κ : Type} [DecidableEq κ] {knd : HeapKind prog w κ} {A : Around} {E : Value → Shared → Prop} {s : Shared}
end
theorem KT.snoc {H : Hp} {kvs : List (List Key × V)} {xs : List (List Key × Addr × Value)} (r : KT H kvs xs) {k : List Key} {c : Addr} {y : V} {u : Value} (hc : H c = some (.tup (k.map kV))) (ry : RelV y u) : KT H (kvs ++ [(k, y)]) (xs ++ [(k, c, u)]) :=
  Paired.snoc r ⟨rfl, hc, ry⟩
section
variable {X : Cx} {pins : List (Addr × Obj)} {σ : St} {H : Hp} {s : Shared} {a c : Addr} {kvs : List (List Key × V)} {k : List Key} {v : V} {r : Value} {A : Around} {E : Value → Shared → Prop}
end
/-! ### tuple(list) -/
section
variable {X : Cx} {e : Expr} {te : TE} {p pos : Pos}
end
/-! ### a dict is held still -/
theorem Inv.still {X : Cx} {pins : List (Addr × Obj)} {σ : St} {H : Hp} {s : Shared} {a : Addr} {kvs : List (List Key × V)} (I : Inv X pins σ H s) (e : H a = some (.dT kvs)) :
    ∃ o, s.heap.get? a = some o ∧ Inv X pins σ (upd H a (.frz o (.dT kvs))) s := by
  obtain ⟨z, hd, xs, rel, o, es, ep, h1, h2, h3, h4, h5⟩ := (show ObjOk X.prog X.w H s.heap a (.dT kvs) from I.hok a _ e)
  refine ⟨o, h1, d_write (h' := s.heap) (t' := s.toks) I (by rw [e]; exact True.intro) ⟨rfl, fun _ _ => rfl⟩ ⟨o, h1⟩ ⟨h1, z, hd, xs, KT.keeps rel fun b ys eb => ?_, o, es, ep, h1, h2, h3, h4, h5⟩⟩
  rw [upd_ne (ne_of eb e (fun z => nomatch z))]
  exact eb
/-! ### for x in d.values() -/
section
variable {prog : Program} {w : World} {A : Around} {E : Value → Shared → Prop} {s : Shared} {it d : Addr} {i n ep : Nat} {od : Obj} {es : Array DictEntry}
end
/-! ### in, not in a list of data -/
/-! ### a comprehension over a tuple -/
end L2

namespace L2
open PySem PySem.Spec PyProof.Rows
/-! ### f-strings of written texts and numbers -/
section
variable {X : Cx}
end
end L2

namespace L2
open PySem PySem.Spec PyProof.Rows
/-! ### for k, x in d.items() -/
section
variable {prog : Program} {w : World} {A : Around} {E : Value → Shared → Prop} {s : Shared} {it d : Addr} {i n ep : Nat} {od : Obj} {es : Array DictEntry}
end
end L2

namespace L2
open PySem PySem.Spec PyProof.Rows
/-! ### min(xs, key=len, default=d) of a list of lists -/
section
variable {s : Shared} {prog : Program} {w : World} {A : Around} {E : Value → Shared → Prop}
def Grown (h0 h : Heap) : Prop := ∀ b o, h0.get? b = some o → h.get? b = some o
theorem Grown.but {h0 h h' : Heap} {a : Addr} (g : Grown h0 h) (n : h0.get? a = none) (k : ∀ b o, b ≠ a → h.get? b = some o → h'.get? b = some o) : Grown h0 h' := fun b o e => k b o (fun z => by rw [z, n] at e; cases e) (g b o e)
end
end L2

namespace L2
open PySem PySem.Spec PyProof.Rows
/-! ### < of lists of numbers, and of pairs of a number and such a list -/
def ltL : List Int → List Int → Bool
  | [], [] => false
  | [], _ :: _ => true
  | _ :: _, [] => false
  | x :: xs, y :: ys => if x = y then ltL xs ys else decide (x < y)
theorem ltL_nil_left : ∀ ys : List Int, ltL [] ys = decide (0 < ys.length)
  | [] => rfl
  | _ :: _ => by simp [ltL]
theorem ltL_nil_right : ∀ xs : List Int, ltL xs [] = false
  | [] => rfl
  | _ :: _ => rfl
section
open SeqAt MeetsSeq MeetsSeq2 MeetsSeq3 SeqRoads2
open AutoSeq1 (wpAny_loadPart')
def LtAt (A : Around) (s : Shared) (y x : Value) (b : Bool) : Prop := ∀ (prog : Program) (w : World) (E : Value → Shared → Prop) (Q : Value → Shared → Prop), Q (.bool b) s → wpAny (model prog w) A (richCompare .Lt y x) Q E s
theorem LtAt.ints {A : Around} {s : Shared} {i j : Int} {t u : Tok} : LtAt A s (.int i t) (.int j u) (decide (i < j)) := fun prog w E Q h =>
  richCompare_gives (op := .Lt) (typeIs_int s _ t) (typeIs_int s _ u) F.slot_int_lt F.entry_int_lt (F.args_int_lt_2 _ _) (gives_int_lt _ _ t u) (fun x => nomatch x) h
/-- items that are these numbers -/
def Nums (xs : List Int) (items : Array Value) : Prop := items.size = xs.length ∧ ∀ (j : Nat) (h : j < items.size), ∃ (x : Int) (t : Tok), xs[j]? = some x ∧ items[j] = .int x t
theorem eqI {A : Around} {s : Shared} {i j : Int} {t u : Tok} : EqAt A s (.int i t) (.int j u) (decide (i = j)) := by
  have := eqAt_V (A := A) (s := s) (y := .int i) (x := .int j) (u := .int i t) (v := .int j u) ⟨t, rfl⟩ ⟨u, rfl⟩ rfl rfl
  have e : eqV (.int i) (.int j) = decide (i = j) := by show (i == j) = _; by_cases h : i = j <;> simp [h]
  rw [e] at this
  exact this
theorem lt_loop {l b : Addr} {items items2 : Array Value} {n n2 : Nat} {dd dd2 : Option Addr} {sl sl2 : Array (Option Value)} {xs ys : List Int} (N1 : Nums xs items) (N2 : Nums ys items2) (k : Nat) :
    ∀ i : Nat, items.size - i = k → i ≤ items.size → i ≤ items2.size → Meets (Builtin.«list.__eq__.loop» ⟨[.ref l, .ref b, rawInt i, rawInt 0], []⟩)
      (fun A R s => s.heap.get? l = some { cls := .type "list", dict := dd, data := .seq items n, slots := sl } ∧ s.heap.get? b = some { cls := .type "list", dict := dd2, data := .seq items2 n2, slots := sl2 } ∧ R (.ok (.ret (.bool (ltL (xs.drop i) (ys.drop i))))) s) := by
  induction k with
  | zero =>
    intro i hk hle hle2 prog w A R s h
    obtain ⟨hp, g, d, tk, os⟩ := s; obtain ⟨hl, hb, h⟩ := h
    wp_walk using wpAny_loadPart' hl, wpAny_loadPart' hb
    have none1 : items[((i : Nat) : Int).toNat]? = none := by simp; omega
    have e1 : xs.drop i = [] := List.drop_eq_nil_of_le (by rw [← N1.1]; omega)
    rw [e1, ltL_nil_left, List.length_drop, ← N2.1] at h
    rw [none1]
    wp_walk using wpAny_loadPart' hl, wpAny_loadPart' hb
    have e2 : decide (items.size < items2.size) = decide (0 < items2.size - i) := decide_eq_decide.mpr (by omega)
    show R (.ok (.ret (.bool (decide (items.size < items2.size))))) _
    rw [e2]
    exact h
  | succ k ih =>
    intro i hk hle hle2 prog w A R s h
    obtain ⟨hp, g, d, tk, os⟩ := s; obtain ⟨hl, hb, h⟩ := h
    have lt1 : i < items.size := by omega
    by_cases lt2 : i < items2.size
    · obtain ⟨x, t, hx, ex⟩ := N1.2 i lt1
      obtain ⟨y, u, hy, ey⟩ := N2.2 i lt2
      have dx : xs.drop i = x :: xs.drop (i + 1) := by
        obtain ⟨q1, q2⟩ := List.getElem?_eq_some_iff.mp hx
        rw [List.drop_eq_getElem_cons q1, q2]
      have dy : ys.drop i = y :: ys.drop (i + 1) := by
        obtain ⟨q1, q2⟩ := List.getElem?_eq_some_iff.mp hy
        rw [List.drop_eq_getElem_cons q1, q2]
      wp_walk using wpAny_loadPart' hl, wpAny_loadPart' hb
      have at1 : items[((i : Nat) : Int).toNat]? = some (.int x t) := by simp [lt1, ex]
      have at2 : items2[((i : Nat) : Int).toNat]? = some (.int y u) := by simp [lt2, ey]
      have hc : ((i : Int) + 1) = ((i + 1 : Nat) : Int) := by push_cast; rfl
      rw [dx, dy] at h
      simp only [ltL] at h
      rw [at1, at2]
      refine wpAny_bind (eqI prog w _ _ ?_)
      by_cases exy : x = y
      · rw [if_pos exy] at h
        rw [decide_eq_true exy]
        wp_walk
        rw [hc]
        exact ⟨plainId_quiet plain_eq_loop _, codeAny_builtin entry_eq_loop (by
          rw [Around.under_plainId plain_eq_loop _]
          exact ih (i + 1) (by omega) (by omega) (by omega) prog w A R _ ⟨hl, hb, h⟩)⟩
      · rw [if_neg exy] at h
        rw [decide_eq_false exy]
        wp_walk using wpAny_loadPart' hl, wpAny_loadPart' hb
        rw [at1, at2]
        refine wpAny_bind (LtAt.ints prog w _ _ ?_)
        wp_walk
        exact h
    · wp_walk using wpAny_loadPart' hl, wpAny_loadPart' hb
      obtain ⟨x, t, hx, ex⟩ := N1.2 i lt1
      have at1 : items[((i : Nat) : Int).toNat]? = some (.int x t) := by simp [lt1, ex]
      have none2 : items2[((i : Nat) : Int).toNat]? = none := by simp; omega
      have e1 : ys.drop i = [] := List.drop_eq_nil_of_le (by rw [← N2.1]; omega)
      rw [e1, ltL_nil_right] at h
      rw [at1, none2]
      wp_walk using wpAny_loadPart' hl, wpAny_loadPart' hb
      have e2 : decide (items.size < items2.size) = false := decide_eq_false (by omega)
      show R (.ok (.ret (.bool (decide (items.size < items2.size))))) _
      rw [e2]
      exact h
theorem list_lt {l b : Addr} {items items2 : Array Value} {n n2 : Nat} {dd dd2 : Option Addr} {sl sl2 : Array (Option Value)} {xs ys : List Int} (N1 : Nums xs items) (N2 : Nums ys items2) : Meets (Builtin.«list.__lt__» ⟨[.ref l, .ref b], []⟩)
    (fun A R s => s.heap.get? l = some { cls := .type "list", dict := dd, data := .seq items n, slots := sl } ∧ s.heap.get? b = some { cls := .type "list", dict := dd2, data := .seq items2 n2, slots := sl2 } ∧ R (.ok (.ret (.bool (ltL xs ys)))) s) := by
  intro prog w A R s h
  obtain ⟨hp, g, d, tk, os⟩ := s; obtain ⟨hl, hb, h⟩ := h
  have sub := AutoSeq1.sub_list_list
  wp_walk using wpAny_loadPart' hl, wpAny_loadPart' hb
  exact ⟨plainId_quiet plain_eq_loop _, codeAny_builtin entry_eq_loop (by
    rw [Around.under_plainId plain_eq_loop _]
    exact lt_loop N1 N2 _ 0 rfl (Nat.zero_le _) (Nat.zero_le _) prog w A R _ ⟨hl, hb, by simpa using h⟩)⟩
theorem LtAt.lists {A : Around} {s : Shared} {l b : Addr} {items items2 : Array Value} {xs ys : List Int} (hl : s.heap.IsList l items) (hb : s.heap.IsList b items2) (N1 : Nums xs items) (N2 : Nums ys items2) (hu : A.units < cLine) : LtAt A s (.ref l) (.ref b) (ltL xs ys) := fun prog w E Q h => by
  obtain ⟨⟨cls, dd, data, sl⟩, ho, hc, n, hd⟩ := id hl
  obtain ⟨⟨cls2, dd2, data2, sl2⟩, ho2, hc2, n2, hd2⟩ := id hb
  simp only at hc hd hc2 hd2; subst hc hd hc2 hd2
  exact richCompare_meets_room (op := .Lt) ⟨_, ho, rfl⟩ ⟨_, ho2, rfl⟩ F.slot_list_lt F.entry_list_lt (F.args_list_lt_2 _ _) (list_lt N1 N2) ⟨ho, ho2, show Value.bool (ltL xs ys) ≠ Value.notImplemented ∧ Q (.bool (ltL xs ys)) s from ⟨(fun x => nomatch x), h⟩⟩ hu
end
end L2

namespace L2
open PySem PySem.Spec PyProof.Rows
/-! ### short forms, so that the terms stay small -/
theorem us1 {C : List Value → Prop} (h : ∀ a, C [a]) : ∀ us : List Value, us.length = 1 → C us
  | [a], _ => h a
theorem us2 {C : List Value → Prop} (h : ∀ a b, C [a, b]) : ∀ us : List Value, us.length = 2 → C us
  | [a, b], _ => h a b
theorem us3 {C : List Value → Prop} (h : ∀ a b c, C [a, b, c]) : ∀ us : List Value, us.length = 3 → C us
  | [a, b, c], _ => h a b c
theorem us4 {C : List Value → Prop} (h : ∀ a b c d, C [a, b, c, d]) : ∀ us : List Value, us.length = 4 → C us
  | [a, b, c, d], _ => h a b c d
end L2

namespace L2
open PySem PySem.Spec PyProof.Rows
/-! ### walking a text; list(range(0, b, c)) -/
def Its (z : Str) : It := ⟨fun i _ => i < z.cps.size, fun i H x H' => H' = H ∧ ∃ c, z.cps[i]? = some c ∧ x = sg c, fun i _ => z.cps.size ≤ i⟩
theorem turn_str {P : Program} {w : World} {K : PySem.W.Frag} {tg : Expr} (it : Addr) (z : Str) (t : Tok) : Turn P w K tg (Its z) [it] it (fun i h => i ≤ z.cps.size ∧ h.IsStrIter it "str_ascii_iterator" z t i) where
  mem := by simp
  obj := fun i h st b hb => by
    have e : b = it := by simpa using hb
    subst e
    obtain ⟨_, o, e, c, d⟩ := st
    exact ⟨o, e, fun v z => by rw [d] at z; cases z⟩
  keep := fun i h h' st k => by
    obtain ⟨hi, o, e, r⟩ := st
    exact ⟨hi, o, k it (by simp) o e, r⟩
  item := by
    intro X hP hw hK hc i pins s σ H E I hf st hg
    subst hP hw hK
    obtain ⟨f0, f1, f2, f3, f4, f5⟩ := hf it (by simp)
    have W := Walks.strAscii (prog := X.prog) (w := X.w) (I.ok.hd hc) it z t
    refine W.item i s _ _ hg st.2 fun v h' tk hv st' kk => ?_
    obtain ⟨c, u, hc', rfl⟩ := hv
    have I1 : Inv X pins σ H { s with heap := h', toks := tk } := I.turned (fun b o hb e => kk b o (by simpa using hb) e) f0 f1 f3 f4 f5
    obtain ⟨o, e, oc, od⟩ := id st'
    exact ⟨_, rfl, go_of (s := { s with heap := h', toks := tk }) (n := "str_ascii_iterator") e oc od (by decide) ⟨sg c, H, I1, ⟨u, rfl⟩, ⟨rfl, c, hc', rfl⟩, ⟨hg, st'⟩, fun b hb => (hf b hb).1⟩⟩
  done := by
    intro X hP hw hK hc i pins s σ H E I hf st hg
    subst hP hw hK
    obtain ⟨f0, f1, f2, f3, f4, f5⟩ := hf it (by simp)
    have W := Walks.strAscii (prog := X.prog) (w := X.w) (I.ok.hd hc) it z t
    have e : i = z.cps.size := Nat.le_antisymm st.1 hg
    subst e
    exact W.done s _ _ st.2 fun h' tk kk => ⟨rfl, I.turned (fun b o hb e => kk b o (by simpa using hb) e) f0 f1 f3 f4 f5⟩
  self := fun A i s Q E st h => wpAny_pyIter_striter_ascii st.2 h
section
variable {X : Cx} {tg : Expr}
def iStr (tl : TE) : TI := fun σ H R => tl σ H fun x H1 => ∃ z : Str, x = .str z ∧ z.cps.all (· < 128) = true ∧ R (Its z) H1
theorem pi_str {l : Expr} {tl : TE} (hl : PE X l tl) : PI X tg l (iStr tl) := by
  intro pins s σ H R I h
  refine thn (hl pins s σ H _ I h) fun v s1 ⟨x, H1, I1, r1, q1⟩ => ?_
  obtain ⟨z, e, ha, q⟩ := q1
  subst e
  obtain ⟨t, rfl⟩ := r1
  refine wpAny_pyIter_ascii ha ?_
  refine ⟨s1.heap.objs.size, [s1.heap.objs.size], _, _, H1, rfl, I1.kept (t' := s1.toks) fun b o e => Heap.get?_push_of_some _ e, turn_str _ z t, ⟨Nat.zero_le _, _, Heap.get?_push_size _ rfl, rfl, rfl⟩, fun b hb => ?_, q⟩
  have e : b = s1.heap.objs.size := by simpa using hb
  subst e
  exact I1.fpOk (Nat.le_refl _) (I1.hok.fresh (Nat.le_refl _))
end
theorem comp_str {z : Str} {tc : TT} {te : TE} {σ : St} {H1 : Hp} {Q : Hp → Prop} {D : Addr} (Pv : Nat → List V → Hp → Prop) (hn : z.cps.size < sizeLine) (h0 : Pv 0 [] (upd H1 D (.lst [])))
    (hl : ∀ i ys H, Pv i ys H → ys.length ≤ i)
    (hs : ∀ i c ys H, z.cps[i]? = some c → Pv i ys H → tc (σ ++ [some (sg c)]) H fun b H2 => if b = true then te (σ ++ [some (sg c)]) H2 fun v H3 => H3 D = some (.lst ys) ∧ Pv (i + 1) (ys ++ [v]) (upd H3 D (.lst (ys ++ [v]))) else Pv (i + 1) ys H2)
    (hd : ∀ ys H, Pv z.cps.size ys H → Q H) :
    ∃ W : Nat → Nat → List V → Hp → Prop, (∃ m, W 0 m [] (upd H1 D (.lst []))) ∧
      ∀ i m ys H, W i m ys H → ((Its z).stop i H ∧ Q H) ∨ ((Its z).go i H ∧ ys.length < sizeLine ∧ ∃ N : List V → Hp → Prop, (∀ ys' H', N ys' H' → ∃ m', m' < m ∧ W (i + 1) m' ys' H') ∧ ∀ x H', (Its z).yld i H x H' → tc (σ ++ [some x]) H' fun b H2 =>
        if b = true then te (σ ++ [some x]) H2 fun v H3 => H3 D = some (.lst ys) ∧ N (ys ++ [v]) (upd H3 D (.lst (ys ++ [v]))) else N ys H2) := by
  refine ⟨fun i m ys H => m = z.cps.size - i ∧ i ≤ z.cps.size ∧ Pv i ys H, ⟨z.cps.size, by simp, Nat.zero_le _, h0⟩, ?_⟩
  rintro i m ys H ⟨rfl, hi, p⟩
  by_cases hlt : i < z.cps.size
  · refine .inr ⟨hlt, Nat.lt_of_le_of_lt (hl i ys H p) (Nat.lt_trans hlt hn), Pv (i + 1), fun ys' H' p' => ⟨z.cps.size - (i + 1), by omega, rfl, hlt, p'⟩, fun x H' y => ?_⟩
    obtain ⟨e, c, hc, rfl⟩ := y
    subst e
    exact hs i c ys _ hc p
  · have e : i = z.cps.size := by omega
    subst e
    exact .inl ⟨Nat.le_refl _, hd ys H p⟩
section
variable {X : Cx} {a b c : Expr} {ta : TA} {p p2 pos pos2 : Pos}
end
end L2

namespace L2
open PySem PySem.Spec PyProof.Rows
/-! ### min of a list of triples (number, number, number or list of numbers) -/
abbrev K3 := Int × Int × List Int
section
variable {s : Shared} {prog : Program} {w : World} {A : Around} {E : Value → Shared → Prop}
end
section
open SeqAt MeetsSeq MeetsSeq2 MeetsSeq3 SeqRoads2
open AutoSeq1 (wpAny_loadPart')
end
/-- a triple that stands at an address, its last part a number or a list of numbers -/
def Trip (isL : Bool) (H : Hp) (c : Addr) (k : K3) : Prop := match isL with
  | false => ∃ d : Int, k.2.2 = [d] ∧ H c = some (.tup [.int k.1, .int k.2.1, .int d])
  | true => ∃ g : Addr, H c = some (.tup [.int k.1, .int k.2.1, .ref g]) ∧ H g = some (.lst (k.2.2.map V.int))
/-- triples in a list, by their keys -/
structure Trips (isL : Bool) (H : Hp) (cs : List Addr) (ks : List K3) : Prop where
  len : cs.length = ks.length
  at_ : ∀ (i : Nat) (c : Addr) (k : K3), cs[i]? = some c → ks[i]? = some k → Trip isL H c k
section
variable {X : Cx} {e d : Expr} {te td : TE} {p pos kp : Pos} {k : Nat}
end
end L2

namespace L2
open PySem PySem.Spec PyProof.Rows
/-! ### for x in reversed(range(n)) -/
section
variable {prog : Program} {w : World} {A : Around} {E : Value → Shared → Prop} {s : Shared}
end
section
variable {X : Cx} {tg a : Expr} {ta : TA} {p p2 pos pos2 : Pos}
end
end L2

namespace L2
open PySem PySem.Spec PyProof.Rows
/-! ### in and not in a dict, as operators -/
/-! ### zip of two tuples -/
section
variable {prog : Program} {w : World} {A : Around} {E : Value → Shared → Prop} {s : Shared}
theorem IsTup.at {h h' : Heap} {a : Addr} {items : Array Value} (x : h.IsTuple a items) (k : ∀ o, h.get? a = some o → h'.get? a = some o) : h'.IsTuple a items := by
  obtain ⟨o, ho, r⟩ := x
  exact ⟨o, k o ho, r⟩
theorem IsTupIt.at {h h' : Heap} {a t : Addr} {i : Nat} (x : h.IsTupleIter a t i) (k : ∀ o, h.get? a = some o → h'.get? a = some o) : h'.IsTupleIter a t i := by
  obtain ⟨o, ho, r⟩ := x
  exact ⟨o, k o ho, r⟩
end
section
variable {prog : Program} {w : World} {A : Around} {E : Value → Shared → Prop} {s : Shared}
end
end L2

namespace L2
open PySem PySem.Spec PyProof.Rows
/-! ### a def of the text called while an exception is handled -/
structure RoomH (k : Nat) (A : Around) : Prop where
  dp : A.depth + 3 * k + 5 < recursionLimit
  un : A.units + 16 * k + 200 < cLine
theorem roomH {k : Nat} {A : Around} {v : Option Value} (r : Room k A) : RoomH k (A.mark v) := ⟨r.dp, r.un⟩
structure FnHOk (P : Program) (w : World) (K : PySem.W.Frag) (mg : Str → Option Value) (base : Heap) (k : Nat) (f : Addr) (fd : FuncData) (ps : List Str) (sp : Sp) : Prop where
  len : ∀ vs H Q E, sp vs H Q E → vs.length = ps.length
  run : ∀ (A : Around) (outer : List Env) (s : Shared) (H : Hp) (args : Args) (us : List Value) (vs : List V) (Q : VK), RoomH k A → Env0 P w K mg base A outer s H → BindsTo s fd args (ps.zip us) → Vals vs us → sp vs H Q E0 →
    codeAny (model P w) A (.call (.ref f) args) (CR CX0 outer P w H s Q E0) s
structure FnH (P : Program) (w : World) (K : PySem.W.Frag) (mg : Str → Option Value) (base : Heap) (x : Str) (k : Nat) (ps : List Str) (sp : Sp) : Prop where
  ex : ∃ f fd, FnHOk P w K mg base k f fd ps sp ∧ mg x = some (.ref f) ∧ PySem.W.keepIn K (.ref f) = true ∧ Binds K fd ps []
theorem pe_fnH {X : Cx} {k j : Nat} {ps : List Str} {sp : Sp} {x : Str} {p pos : Pos} {e : Expr} {es : List Expr} {t : TA} (F : FnH X.prog X.w X.K X.mg X.base x k ps sp) (hr : RoomH j X.A) (ha : PA X (e :: es) t) (hg : Gl X x := by rfl) (hj : k ≤ j := by decide)
    (hdb : (x == ("__debug__" : Str)) = false := by decide) (he : starEach (e :: es) X.env = (false, eval e X.env) :: starEach es X.env := by rfl) (hpl : (backTo pos (starEach es X.env)).any (·.1) = false := by rfl) :
    PE X (.Call (.Name x p) (e :: es) [] pos) (tCall sp [] E0 t) := by
  obtain ⟨f, fd, F, hm, hk, hb⟩ := F.ex
  have hr : RoomH k X.A := ⟨by have := hr.dp; omega, by have := hr.un; omega⟩
  intro pins s σ H Q I h
  refine wpAny_Call_Name_kw (ld_glob I hg hm ?_ hdb)
  refine PySem.W.callWith_K (h₀ := X.base) I.ok.mod.kin hk (thn (ha pos pins s σ H _ I h) fun us s1 ⟨vs, H1, I1, r, q⟩ => ⟨I1.kIn, ?_⟩) he hpl
  have r2 : Vals (vs ++ []) (us ++ []) := r.append .nil
  have hl : (us ++ []).length = ps.length := by rw [← r2.length]; exact F.len _ _ _ _ q
  refine wpAny_call (codeAny_mono (F.run X.A X.stack s1 H1 ⟨us, []⟩ (us ++ []) (vs ++ []) Q hr I1.env0 (hb s1 us I1.kIn hl) r2 q) fun r s' hq => ?_)
  cases r with
  | error e => exact False.elim hq
  | ok fl =>
    cases fl with
    | ret u => exact I1.after hq
    | next => exact False.elim hq
    | brk => exact False.elim hq
    | cont => exact False.elim hq
/-- a body's context while something is handled -/
abbrev cxH (P : Program) (w : World) (K : PySem.W.Frag) (mg : Str → Option Value) (base : Heap) (N : List Str) (qual : Str) (scope : Scope) (f : Addr) (cd : Value) (A : Around) (outer : List Env) (s : Shared) (H : Hp) : Cx :=
  { cxOf CX0 P w K mg base N qual scope f cd A outer s H E0 with calm := false, xe := fun _ _ => False }
theorem fnH_ok {P : Program} {w : World} {K : PySem.W.Frag} {mg : Str → Option Value} {base : Heap} {x : Str} {st : Stmt} {N ps : List Str} {k : Nat} {sp : Sp} (M : Md K mg) (F : FF K x st) (S : FnScope N ps (defScope st))
    (hbind : ∀ (kV doc pm : Value) (an : Option Addr) (cdv ct : Value) (us : List Value), us.length = ps.length → bindArgs (PySem.W.fnOf x x (defArgs st) (defBody st) (defScope st) .none kV doc pm an cdv ct) ⟨us, []⟩ = pure (ps.zip us))
    (len : ∀ vs H Q E, sp vs H Q E → vs.length = ps.length)
    (hbody : ∀ (f : Addr) (cdv : Value) (A : Around) (outer : List Env) (s : Shared) (H : Hp) (vs : List V) (Q : VK), RoomH k (A.deeper (envOfC x (defScope st) s.heap.objs.size f cdv)) → sp vs H Q E0 →
      ∃ t, PSs (cxH P w K mg base N x (defScope st) f cdv A outer s H) (defBody st) t ∧ t { nx := fun _ H' => Q .non H', rt := Q } (start N vs) H) : FnH P w K mg base x (k + 1) ps sp := by
  obtain ⟨f, oc, od, an, osl, kV, doc, pm, cdv, ct, a, l, c, kk⟩ := F.ex
  have F1 := fun_mk (st := st) l c kk
  refine ⟨f, _, ⟨len, fun A outer s H args us vs Q hr e0 hb r hsp => ?_⟩, M.ns _ _ a, kk, F1.binds hbind⟩
  have hl := len _ _ _ _ hsp
  have KX : K.In s.heap := e0.mod.kin.keeps fun b o e => (e0.bs b o e).1
  have lim : s.heap.NoLimit := e0.mod.nolimit.keeps fun b o e => (e0.bs b o e).1
  have hkind : ∀ y ∈ ps.zip us, (defScope st).names.lookup y.1 = some .local ∨ ((defScope st).names.lookup y.1 = some .cell ∧ ((cellsFrom (s.heap.objs.size + 1) (defScope st).names []).lookup y.1).isSome = true) := fun ⟨n, v⟩ hy => by
    rcases S.par n (List.of_mem_zip hy).1 with q | q
    · exact .inl q
    · exact .inr ⟨q, PySem.W.cellsFrom_some _ _ _ (.inl q)⟩
  refine codeAny_call_function (show A.depth < recursionLimit by have := hr.dp; omega) (KX _ _ l) rfl S.co S.gen rfl (PySem.W.codeRec_of KX c) (hb _ _ _ _ ?_)
  refine wpAny_newFunctionEnv_cells S.kind hkind fun env he s1 x' => ?_
  subst he
  refine ⟨lim.keeps x'.toInCall.keep, codeAny_func ?_⟩
  have hr' : RoomH k (A.deeper (envOfC x (defScope st) s.heap.objs.size f cdv)) := ⟨by have := hr.dp; show A.depth + 1 + 3 * k + 5 < _; omega, by have := hr.un; show A.units + 3 + 16 * k + 200 < _; omega⟩
  obtain ⟨t, ht, hq⟩ := hbody f cdv A outer s H vs Q hr' hsp
  have e1 : Env0 P w K mg base ({ A with handled := none } : Around) outer s H := ⟨e0.frames, e0.mod, e0.bs, e0.bsz, e0.funs, e0.frf, e0.hok, e0.bare⟩
  have I0 : Inv (cxOf CX0 P w K mg base N x (defScope st) f cdv ({ A with handled := none } : Around) outer s H E0) [] (start N vs) H s1 := inv_start S rfl e1 hl r x'
  have I : Inv (cxH P w K mg base N x (defScope st) f cdv A outer s H) [] (start N vs) H s1 :=
    ⟨⟨I0.ok.mod, I0.ok.kind, I0.ok.glob, I0.ok.blt, I0.ok.above, I0.ok.inj, I0.ok.has, I0.ok.cab, (fun q => by cases q), Around.frames_deeper e0.frames, I0.ok.stk, I0.ok.exf, I0.ok.bs, I0.ok.bsz, I0.ok.noex, I0.ok.exfs, I0.ok.funs, I0.ok.frf⟩, I0.os, I0.bare, I0.base, I0.loc, I0.cell, I0.free, I0.freeC, I0.pin, I0.hok, I0.len⟩
  refine wpAny_mono (ht [] s1 (start N vs) H _ I hq) (fun fl s' hs => ?_) fun e s' hs => False.elim hs
  have fin : ∀ {σ' : St} {H' : Hp} {v : V} {u : Value}, Inv (cxH P w K mg base N x (defScope st) f cdv A outer s H) [] σ' H' s' → RelV v u → Q v H' → CE outer P w H s Q u s' := fun {σ' H' v u} J rv q => ⟨v, H', J.os, J.bare, J.base, J.hok, rv, q⟩
  cases fl with
  | ret u => obtain ⟨v, σ', H', J, rv, q⟩ := hs; exact fin J rv q
  | next => obtain ⟨σ', H', J, q⟩ := hs; exact fin (v := V.non) (u := Value.none) J rfl q
  | brk => obtain ⟨_, _, _, q⟩ := hs; exact False.elim q
  | cont => obtain ⟨_, _, _, q⟩ := hs; exact False.elim q
end L2

namespace L2
open PySem PySem.Spec PyProof.Rows
/-! ### all of a list of truths -/
theorem bt_all : bootBuiltins "all" = some (.builtin "all") := by decide +kernel
theorem all_range (bs : List Bool) : ((List.range bs.length).all fun i => (bs[i]?).getD false) = bs.all id := by
  rw [Bool.eq_iff_iff, List.all_eq_true, List.all_eq_true]
  constructor
  · intro h b hb
    obtain ⟨i, hi, e⟩ := List.getElem_of_mem hb
    have := h i (by simpa using hi)
    rw [List.getElem?_eq_getElem hi, e] at this
    exact this
  · intro h i hi
    have hi' : i < bs.length := by simpa using hi
    rw [List.getElem?_eq_getElem hi']
    exact h _ (List.getElem_mem hi')
section
variable {X : Cx} {e : Expr} {te : TE} {p pos : Pos}
def tAllL (te : TE) : TE := fun σ H Q => te σ H fun x H1 => ∃ (l : Addr) (bs : List Bool), x = .ref l ∧ H1 l = some (.lst (bs.map V.bl)) ∧ Q (.bl (bs.all id)) H1
theorem pe_allL (hc : X.calm = true) (hm : X.mg "all" = none) (ha : PE X e te) (hg : Gl X "all" := by rfl) (he : starEach [e] X.env = [(false, eval e X.env)] := by rfl) : PE X (.Call (.Name "all" p) [e] [] pos) (tAllL te) :=
  pe_callB (r := r1 fun x H Q => ∃ (l : Addr) (bs : List Bool), x = .ref l ∧ H l = some (.lst (bs.map V.bl)) ∧ Q (.bl (bs.all id)) H)
    (callR1 fun pins s σ H x us Q I rv ⟨l, bs, ex, hH, q⟩ => by
      subst ex
      obtain ⟨u, rfl, ru⟩ := rv.one
      cases ru
      obtain ⟨z, its, n, r, hl, e1⟩ := I.lstM hH
      obtain rfl := bools_its r
      have hL : s.heap.IsList l (bs.map Value.bool).toArray := ⟨_, e1, rfl, n, rfl⟩
      have llt : l < s.heap.objs.size := Heap.lt_size e1
      refine call_all_walk (wpAny_pyIter_list hL ?_)
      refine ⟨s.heap.objs.size, [s.heap.objs.size, l], [s.heap.objs.size], (bs.map Value.bool).toArray.size, _, _, fun i => (bs[i]?).getD false, rfl, Walks.list (by first | exact I.ok.hd hc | (show X.A.in1.handled = none; exact I.ok.hd hc)) s.heap.objs.size l (Nat.ne_of_lt llt) (bs.map Value.bool).toArray, ⟨⟨_, Heap.get?_push_size _ rfl, rfl, rfl⟩, hL.push _⟩, fun i v s' Q' E' hP hQ => ?_, fun h' tk hk => ?_⟩
      · have hP' : (bs.map Value.bool)[i]? = some v := by simpa using hP
        rw [List.getElem?_map] at hP'
        cases e : bs[i]? with
        | none => rw [e] at hP'; cases hP'
        | some b =>
          rw [e] at hP'
          obtain rfl : Value.bool b = v := Option.some.inj hP'
          simp only [e, Option.getD_some] at hQ
          exact wpAny_truthy_bool hQ
      · have e : ((List.range (bs.map Value.bool).toArray.size).all fun i => (bs[i]?).getD false) = bs.all id := by
          rw [List.size_toArray, List.length_map]; exact all_range bs
        rw [e]
        exact ⟨.bl (bs.all id), H, I.kept (h' := h') (t' := tk) fun b o e => hk b o (by simp; exact Nat.ne_of_lt (Heap.lt_size e)) (Heap.get?_push_of_some _ e), rfl, q⟩) hg hm bt_all (pa_cons ha pa_nil (by exact he)) (he := by exact he)
end
/-! ### how often a text stands in a list of texts -/
section
variable {X : Cx}
end
/-! ### list(range(a, b)), list(range(a, b, c)) -/
section
variable {X : Cx} {a b c : Expr} {ta : TA} {p p2 pos pos2 : Pos}
end
/-! ### try .. except C, without a name -/
end L2

namespace L2
open PySem PySem.Spec PyProof.Rows
/-! ### s.partition(sep), sep.join(a list of texts) -/
/-- the three parts -/
def cut3 (x y : Str) : List Str := match Builtin.Str.occurrences x y 0 x.length 1 with
  | i :: _ => [Builtin.Str.strSub x 0 i, y, Builtin.Str.strSub x (i + y.length) x.length]
  | [] => [x, Str.empty, Str.empty]
def rPart : V → List V → Hp → VK → Prop := fun x vs H Q => ∃ s sep : Str, x = .str s ∧ vs = [.str sep] ∧ (sep.length == 0) = false ∧ s.length ≤ sizeLine ∧ ∀ a, H a = none → Q (.ref a) (upd H a (.tup ((cut3 s sep).map V.str)))
theorem mt_partition {X : Cx} : MtM X "str.partition" rPart := by
  intro pins s σ H x vs v us Q I rx rv h
  obtain ⟨z, sep, rfl, rfl, h1, h2, q⟩ := h
  obtain ⟨t, rfl⟩ := rx
  obtain ⟨u, rfl, ru⟩ := rv.one
  obtain ⟨t', rfl⟩ := ru
  have fr : H s.heap.objs.size = none := I.fresh
  refine call_meets F.slot_str_partition (typeIs_str s _ t) F.entry_str_partition (F.args_str_partition_2 _ _) (meets_str_partition z sep t t' h1 h2) ?_
  have q' := q _ fr
  unfold cut3 at q'
  revert q'
  cases Builtin.Str.occurrences z sep 0 z.length 1 with
  | nil =>
    intro q'
    exact ⟨.ref s.heap.objs.size, _, I.laid (a := s.heap.objs.size) (o := .tup [.str z, .str Str.empty, .str Str.empty]) (t' := s.toks + 1) (fun b o e => Heap.get?_push_of_some _ e) (Nat.le_refl _) ⟨(by show 3 ≤ sizeLine; decide), _, .cons ⟨t, rfl⟩ (.cons ⟨s.toks, rfl⟩ (.cons ⟨s.toks, rfl⟩ .nil)), ⟨_, Heap.get?_push_size _ rfl, rfl, _, rfl⟩⟩, rfl, q'⟩
  | cons i r =>
    intro q'
    exact ⟨.ref s.heap.objs.size, _, I.laid (a := s.heap.objs.size) (o := .tup [.str (Builtin.Str.strSub z 0 i), .str sep, .str (Builtin.Str.strSub z (i + sep.length) z.length)]) (t' := s.toks + 1 + 1) (fun b o e => Heap.get?_push_of_some _ e) (Nat.le_refl _) ⟨(by show 3 ≤ sizeLine; decide), _, .cons ⟨s.toks, rfl⟩ (.cons ⟨t', rfl⟩ (.cons ⟨s.toks + 1, rfl⟩ .nil)), ⟨_, Heap.get?_push_size _ rfl, rfl, _, rfl⟩⟩, rfl, q'⟩
/-! ### by a sign: what stands ahead of it and behind it -/
theorem occ_full {s sub : Str} {hi : Nat} : ∀ (l : List Nat) (st : Array Nat × Nat), 1 ≤ st.1.size → (forIn l st (StrLaws.occBody s sub hi 1)).run = st
  | [], st, _ => rfl
  | a :: l, st, h => by
    rw [List.forIn_cons]
    unfold StrLaws.occBody
    rw [if_neg fun z => by have := z.1.1.1; omega]
    exact occ_full l st h
theorem occ_find {s sub : Str} {hi : Nat} : ∀ (l : List Nat) (free : Nat), (∀ i ∈ l, free ≤ i) → (forIn l ((#[] : Array Nat), free) (StrLaws.occBody s sub hi 1)).run.fst = match l.find? (fun i => decide (i + sub.length ≤ hi) && Builtin.Str.subAt s sub i) with | some i => #[i] | none => #[]
  | [], _, _ => rfl
  | a :: l, free, hf => by
    rw [List.forIn_cons, List.find?_cons]
    have ha : free ≤ a := hf a List.mem_cons_self
    by_cases hc : a + sub.length ≤ hi ∧ Builtin.Str.subAt s sub a = true
    · have e : (decide (a + sub.length ≤ hi) && Builtin.Str.subAt s sub a) = true := by rw [decide_eq_true hc.1, hc.2]; rfl
      rw [e]
      have : StrLaws.occBody s sub hi 1 a (#[], free) = pure (ForInStep.yield (#[a], a + sub.length)) := if_pos ⟨⟨⟨Nat.zero_lt_one, ha⟩, hc.1⟩, hc.2⟩
      rw [this]
      have := occ_full (s := s) (sub := sub) (hi := hi) l (#[a], a + sub.length) (Nat.le_refl 1)
      exact congrArg Prod.fst this
    · have e : (decide (a + sub.length ≤ hi) && Builtin.Str.subAt s sub a) = false := by
        by_cases h1 : a + sub.length ≤ hi
        · have : Builtin.Str.subAt s sub a = false := Bool.eq_false_iff.mpr fun z => hc ⟨h1, z⟩
          rw [this, Bool.and_false]
        · rw [decide_eq_false h1, Bool.false_and]
      rw [e]
      have : StrLaws.occBody s sub hi 1 a (#[], free) = pure (ForInStep.yield (#[], free)) := if_neg fun z => hc ⟨z.1.2, z.2⟩
      rw [this]
      exact occ_find l free fun i m => hf i (List.mem_cons_of_mem _ m)
theorem subAt_one {cs : List Nat} {c i : Nat} : Builtin.Str.subAt ⟨cs.toArray⟩ ⟨#[c]⟩ i = decide (cs[i]? = some c) := by
  show ((cs.toArray.extract i (i + 1)) == #[c]) = _
  have e : cs.toArray.extract i (i + 1) = ((cs.drop i).take 1).toArray := by
    apply Array.toList_inj.mp
    simp [List.extract_eq_drop_take]
  rw [e]
  by_cases h : i < cs.length
  · have e1 : (cs.drop i).take 1 = [cs[i]] := by rw [List.drop_eq_getElem_cons h]; rfl
    rw [e1, List.getElem?_eq_getElem h]
    by_cases q : cs[i] = c <;> simp [q]
  · rw [List.drop_eq_nil_of_le (by omega), List.getElem?_eq_none (by omega)]
    simp
theorem occ_sign {cs : List Nat} {c : Nat} : Builtin.Str.occurrences ⟨cs.toArray⟩ ⟨#[c]⟩ 0 cs.length 1 = ((List.range' 0 (cs.length + 1)).find? fun i => decide (cs[i]? = some c)).toList := by
  rw [StrLaws.occ_eq, occ_find _ _ fun i _ => Nat.zero_le i]
  have e : (fun i => decide (i + (⟨#[c]⟩ : Str).length ≤ cs.length) && Builtin.Str.subAt ⟨cs.toArray⟩ ⟨#[c]⟩ i) = fun i => decide (cs[i]? = some c) := by
    funext i
    rw [subAt_one]
    by_cases h : cs[i]? = some c
    · have := (List.getElem?_eq_some_iff.mp h).1
      rw [decide_eq_true h, Bool.and_true]
      exact decide_eq_true (show i + 1 ≤ cs.length by omega)
    · rw [decide_eq_false h, Bool.and_false]
  rw [e]
  show (match (List.range' 0 (cs.length + 1)).find? fun i => decide (cs[i]? = some c) with | some i => #[i] | none => #[]).toList = _
  cases (List.range' 0 (cs.length + 1)).find? fun i => decide (cs[i]? = some c) <;> rfl
theorem cut3_none {cs : List Nat} {c : Nat} (h : c ∉ cs) : cut3 ⟨cs.toArray⟩ ⟨#[c]⟩ = [⟨cs.toArray⟩, Str.empty, Str.empty] := by
  have e : Builtin.Str.occurrences ⟨cs.toArray⟩ ⟨#[c]⟩ 0 (⟨cs.toArray⟩ : Str).length 1 = [] := by
    have l : (⟨cs.toArray⟩ : Str).length = cs.length := by show cs.toArray.size = _; simp
    rw [l, occ_sign]
    have : ((List.range' 0 (cs.length + 1)).find? fun i => decide (cs[i]? = some c)) = none := List.find?_eq_none.mpr fun i _ z => h (List.mem_of_getElem? (of_decide_eq_true z))
    rw [this]; rfl
  unfold cut3
  rw [e]
theorem cut3_at {a b : List Nat} {c : Nat} (h : c ∉ a) : cut3 ⟨(a ++ c :: b).toArray⟩ ⟨#[c]⟩ = [⟨a.toArray⟩, ⟨#[c]⟩, ⟨b.toArray⟩] := by
  have l : (⟨(a ++ c :: b).toArray⟩ : Str).length = (a ++ c :: b).length := by show (a ++ c :: b).toArray.size = _; simp
  have hit : (a ++ c :: b)[a.length]? = some c := by simp
  have e : Builtin.Str.occurrences ⟨(a ++ c :: b).toArray⟩ ⟨#[c]⟩ 0 (⟨(a ++ c :: b).toArray⟩ : Str).length 1 = [a.length] := by
    rw [l, occ_sign]
    have : ((List.range' 0 ((a ++ c :: b).length + 1)).find? fun i => decide ((a ++ c :: b)[i]? = some c)) = some a.length := by
      have sp : List.range' 0 ((a ++ c :: b).length + 1) = List.range' 0 a.length ++ (a.length :: List.range' (a.length + 1) (b.length + 1)) := by
        have : (a ++ c :: b).length + 1 = a.length + (1 + (b.length + 1)) := by simp; omega
        rw [this, ← List.range'_append_1, Nat.zero_add, ← List.range'_append_1]
        rfl
      rw [sp, List.find?_append]
      have n : ((List.range' 0 a.length).find? fun i => decide ((a ++ c :: b)[i]? = some c)) = none := List.find?_eq_none.mpr fun i m z => by
        have hi : i < a.length := by have := (List.mem_range'_1.mp m).2; omega
        rw [decide_eq_true_eq, List.getElem?_append_left hi] at z
        exact h (List.mem_of_getElem? z)
      rw [n, List.find?_cons_of_pos (by rw [hit]; simp)]
      rfl
    rw [this]; rfl
  unfold cut3
  rw [e, l]
  show [Builtin.Str.strSub _ 0 a.length, _, Builtin.Str.strSub _ (a.length + 1) _] = _
  have e1 : (a ++ c :: b).toArray.extract 0 a.length = a.toArray := by apply Array.toList_inj.mp; simp [List.extract_eq_drop_take]
  have e2 : (a ++ c :: b).toArray.extract (a.length + 1) (a ++ c :: b).length = b.toArray := by
    apply Array.toList_inj.mp
    simp [List.extract_eq_drop_take]
    exact List.take_of_length_le (by omega)
  unfold Builtin.Str.strSub
  rw [e1, e2]
/-! ### sep.join(a list of texts) -/
def rJoin : V → List V → Hp → VK → Prop := fun x vs H Q => ∃ (sep : Str) (l : Addr) (ts : List Str), x = .str sep ∧ vs = [.ref l] ∧ H l = some (.lst (ts.map V.str)) ∧ JoinOk sep ts = true ∧ Q (.str (Txt.join sep ts)) H
theorem strs_of : ∀ {ts : List Str} {us : List Value}, Vals (ts.map V.str) us → ∃ l : List (Str × Tok), l.map (·.1) = ts ∧ us = strValues l
  | [], _, .nil => ⟨[], rfl, rfl⟩
  | t :: ts, _, .cons ⟨tk, e⟩ r => by
    obtain ⟨l, e1, e2⟩ := strs_of r
    exact ⟨(t, tk) :: l, by rw [List.map_cons, e1], by rw [e, e2]; rfl⟩
theorem mt_join {X : Cx} : MtM X "str.join" rJoin := by
  intro pins s σ H x vs v us Q I rx rv h
  obtain ⟨sep, l, ts, rfl, rfl, hl, ok, q⟩ := h
  obtain ⟨t, rfl⟩ := rx
  obtain ⟨u, rfl, ru⟩ := rv.one
  cases ru
  obtain ⟨z, its, n, r, hz, e⟩ := I.lstM hl
  obtain ⟨ls, e1, rfl⟩ := strs_of r
  exact SC.join (l := ls) (texts := ts) ⟨_, e, rfl, n, rfl⟩ e1 ok fun t' k => ⟨.str _, H, I.kept (h' := s.heap) (t' := k) (fun b o e => e), ⟨t', rfl⟩, q⟩
end L2

namespace L2
open PySem PySem.Spec PyProof.Rows
/-! ### o.m(e, ..) in a tried body, where the method may raise -/
section
variable {X : Cx} {pins : List (Addr × Obj)} {σ0 : St} {E0 : XK}
theorem pe_methT {pl : Sem Bool} {k j : Nat} {C f : Addr} {fd : FuncData} {m : Str} {ps : List Str} {sp : Sp} {o e : Expr} {es : List Expr} {apos pos : Pos} {ta : TE} {t : TA} (he : PE (tryCx X pins σ0 E0) o ta) (c : Cls X.K C) (hm : Meth X.K C m f) (F : FnOk X.prog X.w X.K X.mg X.base (CXx X.prog X.w) k f fd ps sp) (hr : Room j X.A) (hb : Binds X.K fd ps []) (ha : PA (tryCx X pins σ0 E0) (e :: es) t) (hj : k ≤ j := by decide)
    (hst : starEach (e :: es) X.env = (false, eval e X.env) :: starEach es X.env := by rfl) (hpl : (backTo pos (starEach es X.env)).any (·.1) = false := by rfl)
    (ht : eval (.Call (.Attribute o m apos) (e :: es) [] pos) X.env = (do
      let ov ← eval o X.env
      standAt apos.atName
      let (f, first) ← holding [ov] (getMethod ov m pl)
      callWith pos f first (backTo pos (starEach (e :: es) X.env)) (backToKw pos (keywordEach [] X.env))) := by rfl) :
    PE (tryCx X pins σ0 E0) (.Call (.Attribute o m apos) (e :: es) [] pos) (tAt σ0 (tMeth C m sp [] E0 ta t)) := by
  have hr := hr.mono hj
  intro pins' s σ H Q I h
  obtain ⟨rfl, h⟩ := h
  refine PySem.W.methodCall_KW (pl := pl) (thn (he pins' s σ H _ I h) fun u s1 ⟨x, H1, I1, rx, a, dx, fs, ex, ea, l, q⟩ => ?_) ht
  subst ex
  obtain rfl : u = Value.ref a := rx
  refine getmeth_ok I1 ea c hm l ?_
  refine PySem.W.callWith_K (first := [.ref a]) (h₀ := X.base) I.ok.mod.kin hm.kp (thn (ha pos pins' s1 σ H1 _ I1 q) fun us s2 ⟨vs, H2, I2, r, q2⟩ => ⟨I2.kIn, ?_⟩) hst hpl
  have r2 : Vals ((.ref a :: vs) ++ []) ((.ref a :: us) ++ []) := (show Vals (.ref a :: vs) (.ref a :: us) from .cons rfl r).append .nil
  have hl : ((.ref a :: us) ++ [] : List Value).length = ps.length := by rw [← r2.length]; exact F.len _ _ _ _ q2
  refine wpAny_call (codeAny_mono (F.run X.A X.stack s2 H2 ⟨.ref a :: us, []⟩ ((.ref a :: us) ++ []) ((.ref a :: vs) ++ []) Q E0 hr I2.env0 (hb s2 _ I2.kIn hl) r2 q2) fun rr s' hq => ?_)
  cases rr with
  | error ee => exact ⟨H2, s2, I2.ofTry, hq⟩
  | ok fl =>
    cases fl with
    | ret u => exact I2.after hq
    | next => exact False.elim hq
    | brk => exact False.elim hq
    | cont => exact False.elim hq
end
end L2

namespace L2
open PySem PySem.Spec PyProof.Rows
/-! ### methods by their class and name -/
structure MF (K : PySem.W.Frag) (C : Addr) (x qual : Str) (st : Stmt) : Prop where
  ex : ∃ (f : Addr) (oc : Value) (od an : Option Addr) (osl : Array (Option Value)) (kV doc pm cdv ct : Value), PySem.W.findIn K (.ref C) x = some (some (.ref f)) ∧ PySem.W.isFn K (.ref f) = true ∧
    K.lookup f = some ⟨oc, od, .func (PySem.W.fnOf x qual (defArgs st) (defBody st) (defScope st) .none kV doc pm an cdv ct), osl⟩ ∧ PySem.W.codeIn K cdv qual = true ∧ PySem.W.keepIn K (.ref f) = true
theorem mf_mk {K : PySem.W.Frag} {C : Addr} {x qual : Str} {st : Stmt} {f : Addr} {oc : Value} {od an : Option Addr} {osl : Array (Option Value)} {kV doc pm cdv ct : Value} (a : PySem.W.findIn K (.ref C) x = some (some (.ref f))) (i : PySem.W.isFn K (.ref f) = true)
    (l : K.lookup f = some ⟨oc, od, .func (PySem.W.fnOf x qual (defArgs st) (defBody st) (defScope st) .none kV doc pm an cdv ct), osl⟩) (c : PySem.W.codeIn K cdv qual = true) (k : PySem.W.keepIn K (.ref f) = true) : MF K C x qual st := ⟨f, oc, od, an, osl, kV, doc, pm, cdv, ct, a, i, l, c, k⟩
structure Mt (P : Program) (w : World) (K : PySem.W.Frag) (mg : Str → Option Value) (base : Heap) (CX : CXT) (C : Addr) (x : Str) (k : Nat) (ps : List Str) (sp : Sp) : Prop where
  ex : ∃ f fd, FnOk P w K mg base CX k f fd ps sp ∧ Meth K C x f ∧ Binds K fd ps []
theorem mt_ok {CX : CXT} {P : Program} {w : World} {K : PySem.W.Frag} {mg : Str → Option Value} {base : Heap} {C : Addr} {x qual : Str} {st : Stmt} {N ps : List Str} {k : Nat} {sp : Sp} (F : MF K C x qual st) (S : FnScope N ps (defScope st))
    (hbind : ∀ (kV doc pm : Value) (an : Option Addr) (cdv ct : Value) (us : List Value), us.length = ps.length → bindArgs (PySem.W.fnOf x qual (defArgs st) (defBody st) (defScope st) .none kV doc pm an cdv ct) ⟨us, []⟩ = pure (ps.zip us))
    (len : ∀ vs H Q E, sp vs H Q E → vs.length = ps.length)
    (hbody : ∀ (f : Addr) (cdv : Value) (A : Around) (outer : List Env) (s : Shared) (H : Hp) (vs : List V) (Q : VK) (E : XK), Room k (A.deeper (envOfC qual (defScope st) s.heap.objs.size f cdv)) → sp vs H Q E →
      ∃ t, PSs (cxOf CX P w K mg base N qual (defScope st) f cdv A outer s H E) (defBody st) t ∧ t { nx := fun _ H' => Q .non H', rt := Q } (start N vs) H) : Mt P w K mg base CX C x (k + 1) ps sp := by
  obtain ⟨f, oc, od, an, osl, kV, doc, pm, cdv, ct, a, i, l, c, kk⟩ := F.ex
  have F1 := fun_mk (st := st) l c kk
  exact ⟨f, _, fn_of l c S len (fun A outer s H vs Q E hr h => hbody f cdv A outer s H vs Q E hr h), ⟨a, i, kk⟩, F1.binds hbind⟩
section
variable {X : Cx} {CX : CXT} {k j : Nat} {C : Addr} {ps : List Str} {sp : Sp} {E : XK} {x m : Str} {p pos apos : Pos} {e o : Expr} {es : List Expr} {ta : TE} {t : TA}
theorem pe_mth {pl : Sem Bool} (he : PE X o ta) (c : Cls X.K C) (F : Mt X.prog X.w X.K X.mg X.base CX C m k ps sp) (hr : Room j X.A) (hx : Passes CX X E) (ha : PA X (e :: es) t) (hj : k ≤ j := by decide)
    (hst : starEach (e :: es) X.env = (false, eval e X.env) :: starEach es X.env := by rfl) (hpl : (backTo pos (starEach es X.env)).any (·.1) = false := by rfl)
    (ht : eval (.Call (.Attribute o m apos) (e :: es) [] pos) X.env = (do
      let ov ← eval o X.env
      standAt apos.atName
      let (f, first) ← holding [ov] (getMethod ov m pl)
      callWith pos f first (backTo pos (starEach (e :: es) X.env)) (backToKw pos (keywordEach [] X.env))) := by rfl) :
    PE X (.Call (.Attribute o m apos) (e :: es) [] pos) (tMeth C m sp [] E ta t) := by
  obtain ⟨f, fd, F, hm, hb⟩ := F.ex
  exact pe_meth he c hm F (hr.mono hj) hb .nil hx ha hst hpl ht
theorem pe_mth0 {pl : Sem Bool} (he : PE X o ta) (c : Cls X.K C) (F : Mt X.prog X.w X.K X.mg X.base CX C m k ps sp) (hr : Room j X.A) (hx : Passes CX X E) (hj : k ≤ j := by decide)
    (ht : eval (.Call (.Attribute o m apos) [] [] pos) X.env = (do
      let ov ← eval o X.env
      standAt apos.atName
      let (f, first) ← holding [ov] (getMethod ov m pl)
      callWith pos f first (backTo pos (starEach [] X.env)) (backToKw pos (keywordEach [] X.env))) := by rfl) :
    PE X (.Call (.Attribute o m apos) [] [] pos) (tMeth C m sp [] E ta tNil) := by
  obtain ⟨f, fd, F, hm, hb⟩ := F.ex
  exact pe_meth0 he c hm F (hr.mono hj) hb .nil hx ht
/-! ### a def that a name of the body holds -/
def tCallV (i : Nat) (f : Addr) (sp : Sp) (E : XK) (t : TA) : TE := fun σ H Q => σ[i]? = some (some (.ref f)) ∧ tCall sp [] E t σ H Q
theorem pe_callV {i : Nat} {y : Str} {f : Addr} {fd : FuncData} (hv : PE X (.Name x p) (tVar i)) (F : FnOk X.prog X.w X.K X.mg X.base CX k f fd ps sp) (hk : PySem.W.keepIn X.K (.ref f) = true) (hb : Binds X.K fd ps []) (hr : Room j X.A) (hx : Passes CX X E) (ha : PA X (e :: es) t) (hj : k ≤ j := by decide)
    (he : starEach (e :: es) X.env = (false, eval e X.env) :: starEach es X.env := by rfl) (hpl : (backTo pos (starEach es X.env)).any (·.1) = false := by rfl) :
    PE X (.Call (.Name x p) (e :: es) [] pos) (tCallV i f sp E t) := by
  intro pins s σ H Q I h
  obtain ⟨h1, h2⟩ := h
  refine wpAny_Call_Name_kw (thn (hv pins s σ H (fun v H' => v = .ref f ∧ H' = H) I ⟨_, h1, rfl, rfl⟩) fun u s1 ⟨v, H1, I1, r1, e1, e2⟩ => ?_)
  subst e1; subst e2
  obtain rfl : u = Value.ref f := r1
  refine PySem.W.callWith_K (h₀ := X.base) I.ok.mod.kin hk (thn (ha pos pins s1 σ _ _ I1 h2) fun us s2 ⟨vs, H2, I2, r, q⟩ => ⟨I2.kIn, ?_⟩) he hpl
  exact run_fn F (hr.mono hj) hb .nil hx I2 r q
end
/-! ### a dict of the top -/
structure DK (K : PySem.W.Frag) (P : Program) (w : World) (d : Addr) (kvs : List (Key × V)) : Prop where
  sys : (d == sysModules) = false
  ex : ∃ o vs, K.lookup d = some o ∧ KV kvs vs ∧ o.IsDictOf (mixKind P w) vs
section
variable {X : Cx} {d : Addr} {kvs : List (Key × V)}
theorem DK.at {pins : List (Addr × Obj)} {σ : St} {H : Hp} {s : Shared} (g : DK X.K X.prog X.w d kvs) (I : Inv X pins σ H s) : ∃ vs, KV kvs vs ∧ s.heap.DictOf (mixKind X.prog X.w) d vs := by
  obtain ⟨_, o, vs, l, r, h⟩ := g
  exact ⟨vs, r, Heap.dictOf_iff.mpr ⟨o, I.kIn _ _ l, h⟩⟩
def rInK (d : Addr) (kvs : List (Key × V)) : R2 := fun y x H Q => x = .ref d ∧ ∃ k, y = kV k ∧ Q (.bl (valV kvs k).isSome) H
theorem op_inK (g : DK X.K X.prog X.w d kvs) : OpR X (compareOp .In) (rInK d kvs) := by
  intro pins s σ H y x v u Q I ry rx h
  obtain ⟨e, k, ey, q⟩ := h
  subst e; subst ey
  obtain rfl : u = Value.ref d := rx
  obtain ⟨vs, rel, dd⟩ := g.at I
  refine wpAny_in_of (kV_is ry) g.sys dd.mapOf ?_
  rw [← (rel.val k).isSome_eq]
  exact ⟨.bl (valV kvs k).isSome, H, I.tok _, rfl, q⟩
def tDGetK (d : Addr) (kvs : List (Key × V)) (td ty : TE) : TE := fun σ H Q => td σ H fun x H1 => ty σ H1 fun y H2 => x = .ref d ∧ ∃ k v, y = kV k ∧ valV kvs k = some v ∧ Q v H2
theorem pe_dgetK {o i : Expr} {pos : Pos} {td ty : TE} (g : DK X.K X.prog X.w d kvs) (ho : PE X o td) (hi : PE X i ty) (hs : NoSl i) : PE X (.Subscript o i pos) (tDGetK d kvs td ty) := by
  intro pins s σ H Q I h
  refine subD_of PySem.F.slot_dict_getitem.lookup hs (thn (ho pins s σ H _ I h) fun u s1 ⟨x, H1, I1, rx, q1⟩ => thn (hi pins s1 σ H1 _ I1 q1) fun iv s2 ⟨y, H2, I2, ry, ex, k, v, ey, l, q2⟩ => ?_)
  subst ex; subst ey
  obtain rfl : u = Value.ref d := rx
  obtain ⟨vs, rel, dd⟩ := g.at I2
  obtain ⟨w', hw, rw'⟩ := RelO.some_of (v := v) (o := valueAt vs k) (by rw [← l]; exact rel.val k)
  exact ⟨dd.typeIs, wpAny_getItem_of (kV_is ry) dd.mapOf hw ⟨v, H2, I2.tok _, rw', q2⟩⟩
end
end L2

namespace L2
open PySem PySem.Spec PyProof.Rows
/-! ### for over a text -/
theorem for_str {z : Str} {g : TG} {tb : TS} {D : Ends} {σ : St} {H : Hp} (Pv : Nat → St → Hp → Prop) (h0 : Pv 0 σ H)
    (hs : ∀ i c σ H, z.cps[i]? = some c → Pv i σ H → g (sg c) σ H fun σ2 H2 => tb { D with nx := Pv (i + 1), ct := Pv (i + 1), bk := D.nx } σ2 H2) (hd : ∀ σ H, Pv z.cps.size σ H → D.nx σ H) :
    ∃ W : Nat → Nat → St → Hp → Prop, (∃ m, W 0 m σ H) ∧ ∀ i m σ H, W i m σ H →
      ((Its z).stop i H ∧ D.nx σ H) ∨ ((Its z).go i H ∧ ∃ N : St → Hp → Prop, (∀ σ' H', N σ' H' → ∃ m', m' < m ∧ W (i + 1) m' σ' H') ∧ ∀ x H', (Its z).yld i H x H' → g x σ H' fun σ2 H2 => tb { D with nx := N, ct := N, bk := D.nx } σ2 H2) := by
  refine ⟨fun i m σ H => m = z.cps.size - i ∧ i ≤ z.cps.size ∧ Pv i σ H, ⟨z.cps.size, by simp, Nat.zero_le _, h0⟩, ?_⟩
  rintro i m σ H ⟨rfl, hi, p⟩
  by_cases hlt : i < z.cps.size
  · refine .inr ⟨hlt, Pv (i + 1), fun σ' H' p' => ⟨z.cps.size - (i + 1), by omega, rfl, hlt, p'⟩, fun x H' y => ?_⟩
    obtain ⟨e, c, hc, rfl⟩ := y
    subst e
    exact hs i c σ _ hc p
  · have e : i = z.cps.size := by omega
    subst e
    exact .inl ⟨Nat.le_refl _, hd σ H p⟩
/-! ### a method by its name in a tried body -/
section
variable {X : Cx} {pins : List (Addr × Obj)} {σ0 : St} {E0 : XK}
theorem pe_mthT {pl : Sem Bool} {k j : Nat} {C : Addr} {m : Str} {ps : List Str} {sp : Sp} {o e : Expr} {es : List Expr} {apos pos : Pos} {ta : TE} {t : TA} (he : PE (tryCx X pins σ0 E0) o ta) (c : Cls X.K C) (F : Mt X.prog X.w X.K X.mg X.base (CXx X.prog X.w) C m k ps sp) (hr : Room j X.A) (ha : PA (tryCx X pins σ0 E0) (e :: es) t) (hj : k ≤ j := by decide)
    (hst : starEach (e :: es) X.env = (false, eval e X.env) :: starEach es X.env := by rfl) (hpl : (backTo pos (starEach es X.env)).any (·.1) = false := by rfl)
    (ht : eval (.Call (.Attribute o m apos) (e :: es) [] pos) X.env = (do
      let ov ← eval o X.env
      standAt apos.atName
      let (f, first) ← holding [ov] (getMethod ov m pl)
      callWith pos f first (backTo pos (starEach (e :: es) X.env)) (backToKw pos (keywordEach [] X.env))) := by rfl) :
    PE (tryCx X pins σ0 E0) (.Call (.Attribute o m apos) (e :: es) [] pos) (tAt σ0 (tMeth C m sp [] E0 ta t)) := by
  obtain ⟨f, fd, F, hm, hb⟩ := F.ex
  exact pe_methT he c hm F hr hb ha hj hst hpl ht
end
/-! ### the codes of a text -/
def cd (x : Str) : List Nat := x.cps.toList
theorem of_cd (x : Str) : (⟨(cd x).toArray⟩ : Str) = x := by cases x; simp [cd]
theorem cd_mk (l : List Nat) : cd ⟨l.toArray⟩ = l := by simp [cd]
theorem cd_len (x : Str) : x.length = (cd x).length := by simp [cd, Str.length]
theorem cd_inj {x y : Str} : x = y ↔ cd x = cd y := ⟨fun e => by rw [e], fun e => by rw [← of_cd x, ← of_cd y, e]⟩
theorem cd_app (x y : Str) : cd (x ++ y) = cd x ++ cd y := by
  have := str_app (cd x) (cd y)
  rw [of_cd, of_cd] at this
  rw [this, cd_mk]
theorem cd_cut (x : Str) (lo hi : Option Int) : cd (cutS x lo hi) = cutL (cd x) lo hi := by
  conv => lhs; rw [← of_cd x]
  rw [cutS_eq, cd_mk]
theorem cd_sg (c : Nat) : cd (sgS c) = [c] := rfl
theorem str_dec (x y : Str) : decide (V.str x = V.str y) = decide (cd x = cd y) := by
  by_cases h : x = y
  · subst h; simp
  · rw [decide_eq_false (fun e => h (V.str.inj e)), decide_eq_false fun e => h (cd_inj.mpr e)]
/-- what stands ahead of the first blank, and behind it -/
def nmOf (cs : List Nat) : List Nat := cs.takeWhile fun c => decide (c ≠ 32)
def rsOf (cs : List Nat) : List Nat := (cs.dropWhile fun c => decide (c ≠ 32)).drop 1
theorem nm_sp {a b : List Nat} (h : 32 ∉ a) : nmOf (a ++ 32 :: b) = a ∧ rsOf (a ++ 32 :: b) = b := by
  have t : ∀ x ∈ a, decide (x ≠ 32) = true := fun x hx => decide_eq_true fun e => h (e ▸ hx)
  unfold nmOf rsOf
  constructor
  · rw [List.takeWhile_append_of_pos t, List.takeWhile_cons_of_neg (by decide), List.append_nil]
  · rw [List.dropWhile_append_of_pos t, List.dropWhile_cons_of_neg (by decide)]; rfl
theorem split32 : ∀ l : List Nat, 32 ∉ l ∨ ∃ a b, l = a ++ 32 :: b ∧ 32 ∉ a
  | [] => .inl (by simp)
  | c :: l => by
    by_cases h : c = 32
    · subst h; exact .inr ⟨[], l, rfl, by simp⟩
    · rcases split32 l with q | ⟨a, b, e, ha⟩
      · exact .inl fun m => (List.mem_cons.mp m).elim (fun z => h z.symm) q
      · exact .inr ⟨c :: a, b, by rw [e]; rfl, fun m => (List.mem_cons.mp m).elim (fun z => h z.symm) ha⟩
theorem nm_no : ∀ {l : List Nat}, 32 ∉ l → nmOf l = l ∧ rsOf l = []
  | [], _ => ⟨rfl, rfl⟩
  | c :: l, h => by
    have hc : decide (c ≠ 32) = true := decide_eq_true fun e => h (by rw [e]; exact List.mem_cons_self)
    have ih := nm_no (l := l) fun m => h (List.mem_cons_of_mem _ m)
    unfold nmOf rsOf at *
    constructor
    · rw [List.takeWhile_cons_of_pos (p := fun c => decide (c ≠ 32)) hc, ih.1]
    · rw [List.dropWhile_cons_of_pos (p := fun c => decide (c ≠ 32)) hc, ih.2]
theorem cut3_blank (x : Str) : ∃ m : Str, cut3 x " " = [⟨(nmOf (cd x)).toArray⟩, m, ⟨(rsOf (cd x)).toArray⟩] := by
  have eb : (Str.ofString " ") = ⟨#[32]⟩ := by decide +kernel
  rw [eb]
  rcases split32 (cd x) with h | ⟨a, b, e, ha⟩
  · have := cut3_none (cs := cd x) (c := 32) h
    rw [of_cd] at this
    rw [this, (nm_no h).1, (nm_no h).2, of_cd]
    exact ⟨_, rfl⟩
  · have := cut3_at (a := a) (b := b) (c := 32) ha
    rw [← e, of_cd] at this
    rw [this, e, (nm_sp ha).1, (nm_sp ha).2]
    exact ⟨_, rfl⟩
end L2

namespace L2
open PySem PySem.Spec PyProof.Rows
/-! ### a def without arguments; a new instance -/
theorem pe_fn0 {X : Cx} {CX : CXT} {k j : Nat} {ps : List Str} {sp : Sp} {E : XK} {x : Str} {p pos : Pos} (F : Fn X.prog X.w X.K X.mg X.base CX x k ps sp) (hr : Room j X.A) (hx : Passes CX X E) (hg : Gl X x := by rfl) (hj : k ≤ j := by decide) (hdb : (x == ("__debug__" : Str)) = false := by decide) :
    PE X (.Call (.Name x p) [] [] pos) (tCall sp [] E tNil) := by
  obtain ⟨f, fd, F, hm, hk, hb, _⟩ := F.ex
  exact pe_call0 F (hr.mono hj) hg hm hk hb .nil hx hdb
structure MkF (P : Program) (w : World) (K : PySem.W.Frag) (mg : Str → Option Value) (base : Heap) (CX : CXT) (C : Addr) (k : Nat) (ps : List Str) (sp : Sp) : Prop where
  ex : ∃ f fd, Mk K C f ∧ FnOk P w K mg base CX k f fd ps sp ∧ Binds K fd ps []
theorem pe_mk0 {X : Cx} {CX : CXT} {k j : Nat} {C : Addr} {ps : List Str} {sp : Sp} {E : XK} {x : Str} {p pos : Pos} (F : MkF X.prog X.w X.K X.mg X.base CX C k ps sp) (hr : Room j X.A) (hg : Gl X x) (hm : X.mg x = some (.ref C)) (hx : Passes CX X E) (hj : k + 1 ≤ j := by decide) (hdb : (x == ("__debug__" : Str)) = false := by decide) :
    PE X (.Call (.Name x p) [] [] pos) (tMake C sp [] E tNil) := by
  obtain ⟨f, fd, M, F, hb⟩ := F.ex
  exact pe_make0 M F (hr.mono hj) hg hm hb .nil hx hdb
theorem mkf_of {P : Program} {w : World} {K : PySem.W.Frag} {mg : Str → Option Value} {base : Heap} {CX : CXT} {C : Addr} {k : Nat} {ps : List Str} {sp : Sp} (m : PySem.W.makesIn K C = true) (kp : PySem.W.keepIn K (.ref C) = true) (F : Mt P w K mg base CX C "__init__" k ps sp) : MkF P w K mg base CX C k ps sp := by
  obtain ⟨f, fd, F, hm, hb⟩ := F.ex
  exact ⟨f, fd, ⟨m, hm.at_, hm.fn, kp⟩, F, hb⟩
end L2

namespace L2
open PySem PySem.Spec PyProof.Rows
/-! ### a dict that the top has written: texts with defs -/
def entL (pm : Params) (es : List (Str × Tok × Addr)) : List DictEntry := es.map fun e => ⟨PyData.keyHash pm e.1, .str e.1 e.2.1, .ref e.2.2⟩
theorem dk_mk {K : PySem.W.Frag} {P : Program} {w : World} {d : Addr} (es : List (Str × Tok × Addr)) {o : Obj} (l : K.lookup d = some o) {n : Nat} (ho : o = { cls := .type "dict", data := .dict (entL w.params es).toArray n }) (hs : (d == sysModules) = false) (nd : (es.map (·.1)).Nodup) : DK K P w d (es.map fun e => (.inr e.1, .ref e.2.2)) := by
  refine ⟨hs, o, es.map fun e => (.inr e.1, .ref e.2.2), l, ?_, ?_⟩
  · induction es with
    | nil => exact .nil
    | cons e es ih => exact .cons ⟨rfl, rfl⟩ (by
        clear ih ho nd
        induction es with
        | nil => exact .nil
        | cons e es ih => exact .cons ⟨rfl, rfl⟩ ih)
  · subst ho
    refine ⟨_, _, ⟨rfl, rfl, rfl⟩, rfl, ?_, ?_, ?_⟩
    · intro x hx
      have hx : x ∈ entL w.params es := by simpa using hx
      unfold entL at hx
      obtain ⟨e, he, rfl⟩ := List.mem_map.mp hx
      exact ⟨.inr e.1, mixKind_str P w e.1 e.2.1, rfl⟩
    · have : ∀ l : List (Str × Tok × Addr), Pairs (mixKind P w) (entL w.params l) (l.map fun e => (.inr e.1, .ref e.2.2)) := fun l => by
        induction l with
        | nil => exact .nil
        | cons e l ih => exact .cons (mixKind_str P w e.1 e.2.1) rfl ih
      simpa using this es
    · rw [List.map_map]
      have : ∀ l : List (Str × Tok × Addr), (l.map (·.1)).Nodup → (l.map ((fun x : Key × Value => x.1) ∘ fun e => (.inr e.1, .ref e.2.2))).Nodup := fun l => by
        induction l with
        | nil => exact fun _ => List.nodup_nil
        | cons e l ih =>
          intro h
          obtain ⟨h1, h2⟩ := List.nodup_cons.mp h
          refine List.nodup_cons.mpr ⟨fun m => h1 ?_, ih h2⟩
          obtain ⟨e', he, ee⟩ := List.mem_map.mp m
          have : e'.1 = e.1 := Sum.inr.inj ee
          exact List.mem_map.mpr ⟨e', he, this⟩
      exact this es nd
/-! ### an f-string of a written text and a number, told -/
def tFsI (x : Str) (te : TE) : TE := fun σ H Q => te σ H fun v H' => ∃ i : Int, v = .int i ∧ i.natAbs.log2 < 1900 ∧ Q (.str (Str.empty ++ x ++ Str.ofString (toString i))) H'
theorem pe_fstrI {X : Cx} {x : Str} {e : Expr} {te : TE} {j : Nat} {p1 p2 pos : Pos} (he : PE X e te) (hl : x.length ≤ 2000) (hs : evalEach [.Constant (.str x) j p1, .FormattedValue e (-1) none p2] X.env = [eval (.Constant (.str x) j p1) X.env, eval (.FormattedValue e (-1) none p2) X.env] := by rfl) :
    PE X (.JoinedStr [.Constant (.str x) j p1, .FormattedValue e (-1) none p2] pos) (tFsI x te) := by
  intro pins s σ H Q I h
  have l0 : (Str.empty ++ x).length = x.length := by rw [strLen_append]; show 0 + _ = _; omega
  refine JoinedStr_many (joinParts_cons (Calls.Constant_str ⟨by rw [l0]; show _ ≤ 2 ^ 24; omega, ?_⟩))
  show wpAny _ _ (joinParts _ [eval (.FormattedValue e (-1) none p2) X.env]) _ _ _
  refine joinParts_cons (FormattedValue_plain (thn (he pins _ σ H _ (I.tok _) h) fun v s1 ⟨y, H1, I1, ry, i, ey, hi, q⟩ => ?_))
  subst ey
  obtain ⟨k, rfl⟩ := ry
  refine formatField_int_small (by omega) ?_
  have li := int_text_length_le (a := i) (k := 1900) (by decide) hi
  have l1 : (Str.empty ++ x ++ Str.ofString (toString i)).length ≤ 4000 := by rw [strLen_append, l0, PySem.ofString_length]; omega
  refine ⟨by show _ ≤ 2 ^ 24; exact Nat.le_trans l1 (by decide), joinParts_nil ?_ (by show _ ≤ 2 ^ 24; exact Nat.le_trans l1 (by decide))⟩
  exact ⟨.str (Str.empty ++ x ++ Str.ofString (toString i)), H1, I1.kept (h' := s1.heap) (t' := s1.toks + 1 + 1 + 1) (fun _ _ q => q), ⟨_, rfl⟩, q⟩
/-! ### the same rules, closed: Lean does not look into what stands below -/
structure PEw (X : Cx) (e : Expr) (t : TE) : Prop where
  h : PE X e t
structure PAw (X : Cx) (es : List Expr) (t : TA) : Prop where
  h : PA X es t
section
variable {X : Cx} {e a b : Expr} {es : List Expr} {te ta tb : TE} {t : TA} {pos : Pos}
theorem paw_nil : PAw X [] tNil := ⟨pa_nil⟩
theorem paw_cons (ha : PEw X e te) (hr : PAw X es t) (hs : starEach (e :: es) X.env = (false, eval e X.env) :: starEach es X.env := by rfl) : PAw X (e :: es) (tCons te t) := ⟨pa_cons ha.h hr.h hs⟩
theorem pew_lst (h : PAw X es t) : PEw X (.List es pos) (tLst t) := ⟨pe_lst h.h⟩
theorem pew_tup {k : Nat} (h : PAw X es t) : PEw X (.Tuple es k pos) (tTup t) := ⟨pe_tup h.h⟩
theorem pew_str {x : Str} {j : Nat} : PEw X (.Constant (.str x) j pos) (tC (.str x)) := ⟨pe_str⟩
theorem pew_int {i : Int} {j : Nat} : PEw X (.Constant (.int i) j pos) (tC (.int i)) := ⟨pe_int⟩
theorem pew_bl {i : Bool} {j : Nat} : PEw X (.Constant (.bool i) j pos) (tC (.bl i)) := ⟨pe_bl⟩
theorem pew_non {j : Nat} : PEw X (.Constant .none j pos) (tC .non) := ⟨pe_non⟩
theorem pew_op {op : Operator} {r : R2} (ho : OpR X (binaryOp op) r) (ha : PEw X a ta) (hb : PEw X b tb) : PEw X (.BinOp a op b pos) (tOp r ta tb) := ⟨pe_op ho ha.h hb.h⟩
theorem pe_opw {op : Operator} {r : R2} (ho : OpR X (binaryOp op) r) (ha : PE X a ta) (hb : PEw X b tb) : PE X (.BinOp a op b pos) (tOp r ta tb) := pe_op ho ha hb.h
theorem pew_dnewT : PEw X (.Dict [] [] pos) tDNewT := ⟨pe_dnewT⟩
theorem pew_disp1 (ha : PEw X a ta) (hb : PEw X b tb) : PEw X (.Dict [some a] [b] pos) (tDisp [(ta, tb)]) := ⟨pe_disp (pps_cons ha.h hb.h pps_nil) rfl rfl (by simp) (by show 1 ≤ 15; decide)⟩
end
end L2

namespace Ov
open PySem L2
def top (i : Nat) : Stmt := PySem.Challenge.pw_overlaid_k47_rows_of_no_form.main.body.getD i (.Pass ⟨0, 0, 0, 0⟩)
/-- small letters -/
def Low (t : List Nat) : Prop := ∀ c ∈ t, 97 ≤ c ∧ c ≤ 122
theorem Low.cp {t : List Nat} (h : Low t) : ∀ c ∈ t, c < 0x110000 := fun c hc => by have := h c hc; omega
theorem Low.take {t : List Nat} (h : Low t) (n : Nat) : Low (t.take n) := fun c hc => h c (List.mem_of_mem_take hc)
theorem Low.drop {t : List Nat} (h : Low t) (n : Nat) : Low (t.drop n) := fun c hc => h c (List.mem_of_mem_drop hc)
theorem Low.app {t u : List Nat} (h : Low t) (g : Low u) : Low (t ++ u) := fun c hc => (List.mem_append.mp hc).elim (h c) (g c)
theorem Low.nil : Low [] := fun c hc => by cases hc
theorem Low.set {t : List Nat} (h : Low t) (n c : Nat) (hc : 97 ≤ c ∧ c ≤ 122) : Low (t.set n c) := fun d hd => by
  rcases List.mem_or_eq_of_mem_set hd with q | q
  · exact h d q
  · subst q; exact hc
theorem sz {n : Nat} (h : n ≤ 1000) : n ≤ sizeLine := Nat.le_of_lt (small1000 h)
def vInts (ks : List Nat) : List V := (ks.map fun (k : Nat) => (k : Int)).map V.int
theorem vInts_snoc (ks : List Nat) (i : Nat) : vInts (ks ++ [i]) = vInts ks ++ [V.int (0 + (i : Int))] := by
  simp [vInts]
theorem vInts_len (ks : List Nat) : (vInts ks).length = ks.length := by simp [vInts]
theorem filter_len {i : Nat} (p : Nat → Bool) : ((List.range i).filter p).length ≤ i := by
  have := List.length_filter_le p (List.range i)
  simpa using this
abbrev azS : Str := "abcdefghijklmnopqrstuvwxyz"
theorem azS_len : azS.length = 26 := by decide +kernel
theorem azS_all : ∀ c ∈ azS.cps.toList, 97 ≤ c ∧ c ≤ 122 := by decide +kernel
theorem az_at {r : Int} (r0 : 0 ≤ r) (r1 : r < 26) : ∃ c, atI azS.cps.toList r = some c ∧ 97 ≤ c ∧ c ≤ 122 := by
  obtain ⟨c, _, hm, e⟩ := atI_ex azS.cps.toList r r0 (by have := azS_len; simp only [Str.length] at this; simp; omega)
  exact ⟨c, e, azS_all c hm⟩
theorem meet_if {c : TT} {t u rest : TS} {D : Ends} {σ : St} {H : Hp} (T : St → Hp → Prop) (hr : ∀ σ' H', T σ' H' → rest D σ' H') (h : ∀ R : St → Hp → Prop, (∀ σ' H', T σ' H' → R σ' H') → c σ H fun b H1 => if b = true then t { D with nx := R } σ H1 else u { D with nx := R } σ H1) : tSeq (tIfS c t u) rest D σ H := h (rest D) hr
theorem seq_set {te : TE} {i : Nat} {rest : TS} {D : Ends} {σ : St} {H : Hp} (h : te σ H fun x H1 => rest D (σ.set i (some x)) H1) : tSeq (tAsg te (gName i)) rest D σ H := h
theorem seq_setC {v : V} {i : Nat} {rest : TS} {D : Ends} {σ : St} {H : Hp} (h : rest D (σ.set i (some v)) H) : tSeq (tAsg (tC v) (gName i)) rest D σ H := h

end Ov

namespace Ov
open PySem L2
/-- the places at which u lies in t -/
def liesIn (t u : List Nat) : List Nat := (List.range (t.length + 1 - u.length)).filter fun p => decide ((t.drop p).take u.length = u)
/-- the places at which the word's signs are others, up to the j-th -/
def parts (t u : List Nat) (p j : Nat) : List Nat := (List.range j).filter fun q => !decide (t[p + q]? = u[q]?)
theorem lies_step (t u : List Nat) (i : Nat) : ((List.range (i + 1)).filter fun p => decide ((t.drop p).take u.length = u)) = ((List.range i).filter fun p => decide ((t.drop p).take u.length = u)) ++ (if (t.drop i).take u.length = u then [i] else []) := by
  rw [List.range_succ, List.filter_append]
  congr 1
  by_cases h : (t.drop i).take u.length = u <;> simp [h]
def spLies : Sp := fun vs H Q _ => ∃ (a b : Addr) (t u : List Nat), vs = [.ref a, .ref b] ∧ H a = some (.lst (t.map sg)) ∧ H b = some (.lst (u.map sg)) ∧ Low t ∧ Low u ∧ t.length ≤ 900 ∧ u.length ≤ 900 ∧ 1 ≤ u.length ∧
  ∀ (r : Addr) (H' : Hp), H r = none → H' r = some (.lst (vInts (liesIn t u))) → Same H H' → Q (.ref r) H'

end Ov

namespace Ov
open PySem L2
abbrev sStir : Stmt := top 64
abbrev sDigit : Stmt := top 65
abbrev sWord : Stmt := top 66
def spStir : Sp := fun vs H Q _ => ∃ c k : Int, vs = [.int c, .int k] ∧ 0 ≤ k ∧ k ≤ 1000 ∧ ∀ r : Int, Q (.int r) H
def spDigit : Sp := fun vs H Q _ => ∃ c k n : Int, vs = [.int c, .int k, .int n] ∧ 0 ≤ k ∧ k ≤ 1000 ∧ 1 ≤ n ∧ ∀ r : Int, 0 ≤ r → r < n → Q (.int r) H
def spWord : Sp := fun vs H Q _ => ∃ c b n s : Int, vs = [.int c, .int b, .int n, .int s] ∧ 0 ≤ b ∧ b ≤ 400 ∧ 0 ≤ n ∧ n ≤ 400 ∧ 1 ≤ s ∧
  ∀ (t : List Nat) (r : Addr) (H' : Hp), H r = none → H' r = some (.lst (t.map sg)) → Low t → t.length = n.toNat → Same H H' → Q (.ref r) H'
theorem small_bits {i : Int} (h0 : 0 ≤ i) (h1 : i < 10 ^ 200) : i.natAbs < 2 ^ 1000 := by
  have h2 : (i.natAbs : Int) = i := Int.natAbs_of_nonneg h0
  have h3 : (10 : Int) ^ 200 ≤ 2 ^ 1000 := by decide +kernel
  have h4 : ((2 ^ 1000 : Nat) : Int) = (2 : Int) ^ 1000 := by norm_cast
  omega
section
variable {P : Program} {w : World} {K : PySem.W.Frag} {mg : Str → Option Value} {base : Heap}
theorem scStir : FnScope ["cell", "k", "number"] ["cell", "k"] (defScope sStir) := ⟨rfl, rfl, rfl, by decide +kernel, rfl, by decide +kernel, by decide +kernel⟩
theorem ok_stir (M : Md K mg) (B : Bl mg) (F : FF K "_law_stir" sStir) : Fn P w K mg base CX0 "_law_stir" 1 ["cell", "k"] spStir := by
  refine fn_ok M F scStir (fun _ _ _ _ _ _ => us2 fun _ _ => rfl) (fun vs H Q E h => ?_) (fun f cdv A outer s H vs Q E hr h => ?_)
  · obtain ⟨c, k, rfl, _⟩ := h; rfl
  · obtain ⟨c, n, rfl, n0, n1, k⟩ := h
    refine ⟨_, (pss_cons (ps_set (i := 2) scStir.nd rfl (.inl rfl) (pe_op op_add (pe_op op_add (pe_op op_mod (pv 0) (pe_op op_pow pe_int pe_int)) (pe_op op_mul pe_int (pv 1))) pe_int))
      (pss_one (ps_ret (pe_op op_mod (pe_op op_fdivL (pe_op op_mulB (pe_op op_mulB (pv 2) (pe_op op_add (pv 2) (pe_op op_mul pe_int (pv 1)))) (pe_op op_add (pv 2) pe_int)) pe_int) (pe_op op_pow pe_int pe_int))))), ?_⟩
    have p60 : (0 : Int) < 10 ^ Int.toNat 60 := by decide +kernel
    have m0 := Int.emod_nonneg c (show (10 : Int) ^ Int.toNat 60 ≠ 0 by omega)
    have m1 := Int.emod_lt_of_pos c p60
    refine ⟨_, rfl, _, _, rfl, rfl, ⟨by decide, by decide, by decide⟩, _, _, rfl, rfl, p60, _, rfl, _, _, rfl, rfl, .inl ⟨by decide, by decide⟩, _, _, rfl, rfl, _, _, rfl, rfl, ?_⟩
    have x0 : 0 ≤ c % 10 ^ Int.toNat 60 + 3 * n + 1 := by omega
    have x1 : c % 10 ^ Int.toNat 60 + 3 * n + 1 < 10 ^ 61 := by
      have : (10 : Int) ^ Int.toNat 60 + 3 * 1000 + 1 < 10 ^ 61 := by decide +kernel
      omega
    refine ⟨_, rfl, _, rfl, _, rfl, _, _, rfl, rfl, .inl ⟨by decide, by decide⟩, _, _, rfl, rfl, _, _, rfl, rfl, ⟨small_bits x0 (by omega), small_bits (by omega) (by omega)⟩, _, rfl, _, _, rfl, rfl, _, _, rfl, rfl, ⟨?_, small_bits (by omega) (by omega)⟩, ?_⟩
    · generalize c % 10 ^ Int.toNat 60 + 3 * n + 1 = x at *
      refine small_bits (Int.mul_nonneg x0 (by omega)) ?_
      have h1 : x * (x + 2 * n) ≤ 10 ^ 61 * (x + 2 * n) := Int.mul_le_mul_of_nonneg_right (by omega) (by omega)
      have h2 : (10 : Int) ^ 61 * (x + 2 * n) ≤ 10 ^ 61 * (10 ^ 62) := Int.mul_le_mul_of_nonneg_left (by omega) (by omega)
      have h3 : (10 : Int) ^ 61 * 10 ^ 62 < 10 ^ 200 := by decide +kernel
      omega
    · exact ⟨_, _, rfl, rfl, ⟨by decide, by decide⟩, _, _, rfl, rfl, ⟨by decide, by decide, by decide⟩, _, _, rfl, rfl, (by show (0 : Int) < 10 ^ Int.toNat 40; decide +kernel), k _⟩
theorem scDigit : FnScope ["cell", "k", "many"] ["cell", "k", "many"] (defScope sDigit) := ⟨rfl, rfl, rfl, by decide +kernel, rfl, by decide +kernel, by decide +kernel⟩
theorem ok_digit (M : Md K mg) (B : Bl mg) (F : FF K "_law_digit" sDigit) (F_law_stir : Fn P w K mg base CX0 "_law_stir" 1 ["cell", "k"] spStir) : Fn P w K mg base CX0 "_law_digit" 2 ["cell", "k", "many"] spDigit := by
  refine fn_ok M F scDigit (fun _ _ _ _ _ _ => us3 fun _ _ _ => rfl) (fun vs H Q E h => ?_) (fun f cdv A outer s H vs Q E hr h => ?_)
  · obtain ⟨c, k, n, rfl, _⟩ := h; rfl
  · obtain ⟨c, j, n, rfl, j0, j1, n1, k⟩ := h
    refine ⟨_, (pss_cons (ps_if (pt_cmpR op_ge (pv 0) (pe_op op_pow pe_int pe_int) (nomark _)) (pss_one (ps_ret (pe_op op_mod (pe_op op_mod (pe_op op_shr (pv 0) (pe_op op_mul pe_int (pv 1))) pe_int) (pv 2)))) pss_nil)
      (pss_one (ps_ret (pe_op op_mod (pe_fn F_law_stir hr pass0 (pa_cons (pv 0) (pa_cons (pv 1) pa_nil))) (pv 2))))), ?_⟩
    refine ⟨_, rfl, _, _, rfl, rfl, ⟨by decide, by decide, by decide⟩, _, _, rfl, rfl, _, rfl, ?_⟩
    refine ite2 (fun hc => ?_) (fun hc => ?_)
    · refine ⟨_, rfl, _, rfl, _, _, rfl, rfl, .inl ⟨by decide, by decide⟩, _, _, rfl, rfl, (by show 0 ≤ 16 * j; omega), _, _, rfl, rfl, (by show (0 : Int) < 65536; decide), _, rfl, _, _, rfl, rfl, (by show 0 < n; omega), ?_⟩
      exact k _ (Int.emod_nonneg _ (by omega)) (Int.emod_lt_of_pos _ (by omega))
    · refine ⟨_, rfl, _, rfl, c, j, rfl, j0, j1, fun r => ⟨_, rfl, _, _, rfl, rfl, (by show 0 < n; omega), ?_⟩⟩
      exact k _ (Int.emod_nonneg _ (by omega)) (Int.emod_lt_of_pos _ (by omega))
theorem scWord : FnScope ["cell", "begin", "many", "sorts", "letters", "off"] ["cell", "begin", "many", "sorts"] (defScope sWord) := ⟨rfl, rfl, rfl, by decide +kernel, rfl, by decide +kernel, by decide +kernel⟩
theorem ok_word (M : Md K mg) (B : Bl mg) (F : FF K "_law_word" sWord) (F_law_digit : Fn P w K mg base CX0 "_law_digit" 2 ["cell", "k", "many"] spDigit) : Fn P w K mg base CX0 "_law_word" 3 ["cell", "begin", "many", "sorts"] spWord := by
  refine fn_ok M F scWord (fun _ _ _ _ _ _ => us4 fun _ _ _ _ => rfl) (fun vs H Q E h => ?_) (fun f cdv A outer s H vs Q E hr h => ?_)
  · obtain ⟨c, b, n, s, rfl, _⟩ := h; rfl
  · obtain ⟨c, b, n, so, rfl, b0, b1, n0, n1, s1, k⟩ := h
    refine ⟨_, (pss_cons (ps_set (i := 4) scWord.nd rfl (.inr rfl) pe_str)
      (pss_cons (ps_set (i := 5) scWord.nd rfl (.inr rfl) (pe_fn F_law_digit hr pass0 (pa_cons (pv 0) (pa_cons (pv 1) (pa_cons pe_int pa_nil)))))
      (pss_one (ps_ret (pe_comp ["cell", "begin", "many", "sorts", "letters", "off"] rfl (pi_range1 (by rfl) B.range (pa_cons (pv 2) pa_nil)) (fun _ => by exact pif_nil) (fun _ => by exact (pe_ix ix_str (pv 4) (pe_op op_mod (pe_op op_add (pv 5) (pe_fn F_law_digit hr pass0 (pa_cons (pv 0) (pa_cons (pe_op op_add (pe_op op_add (pv 1) pe_int) (pv 6)) (pa_cons (pv 3) pa_nil))))) pe_int) (fun _ _ => rfl)))))))), ?_⟩
    have azl := azS_len
    refine ⟨_, rfl, _, rfl, c, b, 26, rfl, b0, by omega, by decide, fun off o0 o1 => ?_⟩
    refine ⟨_, rfl, n, rfl, by omega, by omega, fun D hD cb => ?_⟩
    refine comp_range (lo := 0) (n := n.toNat) (fun i ys H2 => ∃ t : List Nat, ys = t.map sg ∧ Low t ∧ t.length = i ∧ Same H H2 ∧ H2 D = some (.lst ys)) (small1000 (by omega)) ?_ ?_ ?_ ?_
    · exact ⟨[], rfl, Low.nil, rfl, Same.upd hD, upd_same⟩
    · rintro i ys H2 ⟨t, rfl, _, rfl, _⟩
      simp
    · rintro i ys H2 hi ⟨t, rfl, lt, rfl, s2, hD2⟩
      refine tNoIf_go ?_
      refine ⟨_, rfl, _, rfl, _, rfl, _, rfl, _, _, rfl, rfl, _, rfl, _, _, rfl, rfl, _, rfl, c, _, so, rfl, by omega, by omega, s1, fun r r0 r1 => ?_⟩
      have m0 := Int.emod_nonneg (off + r) (show (26 : Int) ≠ 0 by decide)
      have m1 := Int.emod_lt_of_pos (off + r) (show (0 : Int) < 26 by decide)
      obtain ⟨ch, ec, c1, c2⟩ := az_at m0 m1
      refine ⟨_, _, rfl, rfl, _, _, rfl, rfl, (by show (0 : Int) < 26; decide), azS, _, ch, rfl, rfl, sz (by omega), ec, hD2, t ++ [ch], by simp, ?_, by simp, ?_, upd_same⟩
      · exact lt.app fun d hd => by rw [List.mem_singleton.mp hd]; exact ⟨c1, c2⟩
      · intro b o e
        rw [upd_ne (ne_of_none e hD)]
        exact s2 b o e
    · rintro ys H2 ⟨t, rfl, lt, hl, s2, hD2⟩
      exact k t D H2 hD hD2 lt hl s2
end

end Ov

namespace Ov
open PySem L2
abbrev sIsSign : Stmt := top 12
abbrev sCheck : Stmt := top 13
def spIsSign : Sp := fun vs H Q _ => ∃ c : Nat, vs = [sg c] ∧ 97 ≤ c ∧ c ≤ 122 ∧ Q (.bl true) H
def spCheck : Sp := fun vs H Q _ => ∃ (a : Addr) (t : List Nat), vs = [.ref a] ∧ H a = some (.lst (t.map sg)) ∧ Low t ∧ Q .non H
theorem sg_ge {c : Nat} (h : 97 ≤ c) : (!decide ((sgS c).cps.toList < (Str.ofString "a").cps.toList)) = true := by
  have e : (Str.ofString "a").cps.toList = [97] := by decide +kernel
  rw [e]
  have : ¬ ([c] < [97]) := fun q => by
    cases q with
    | rel r => omega
    | cons r => cases r
  simp [this]
theorem sg_le {c : Nat} (h : c ≤ 122) : (!decide ((Str.ofString "z").cps.toList < (sgS c).cps.toList)) = true := by
  have e : (Str.ofString "z").cps.toList = [122] := by decide +kernel
  rw [e]
  have : ¬ ([122] < [c]) := fun q => by
    cases q with
    | rel r => omega
    | cons r => cases r
  simp [this]
section
variable {P : Program} {w : World} {K : PySem.W.Frag} {mg : Str → Option Value} {base : Heap}
theorem scIsSign : FnScope ["sign"] ["sign"] (defScope sIsSign) := ⟨rfl, rfl, rfl, by decide +kernel, rfl, by decide +kernel, by decide +kernel⟩
theorem ok_is_sign (M : Md K mg) (B : Bl mg) (F : FF K "is_sign" sIsSign) : Fn P w K mg base CX0 "is_sign" 1 ["sign"] spIsSign := by
  refine fn_ok M F scIsSign (fun _ _ _ _ _ _ => us1 fun _ => rfl) (fun vs H Q E h => ?_) (fun f cdv A outer s H vs Q E hr h => ?_)
  · obtain ⟨c, rfl, _⟩ := h; rfl
  · obtain ⟨c, rfl, c1, c2, k⟩ := h
    refine ⟨_, (pss_one (ps_ret (pe_and (pe_isi B.isinst B.str bt_str (pv 0)) (pe_and (pe_cmpR op_eq (pe_lenS B.len (pv 0)) pe_int (nomark _)) (pe_one (pe_chain op_le_str op_le_str pe_str (pv 0) pe_str)))))), ?_⟩
    refine ⟨_, rfl, _, true, TyOf.str _, rfl, _, rfl, iteT ?_⟩
    refine ⟨_, rfl, _, rfl, sz (by show 1 ≤ 1000; decide), rfl, true, rfl, iteT ?_⟩
    refine ⟨_, rfl, _, _, rfl, rfl, _, rfl, ?_⟩
    rw [sg_ge c1]
    refine iteT ⟨_, _, rfl, rfl, ?_⟩
    rw [sg_le c2]
    exact k
theorem scCheck : FnScope ["text", "sign"] ["text"] (defScope sCheck) := ⟨rfl, rfl, rfl, by decide +kernel, rfl, by decide +kernel, by decide +kernel⟩
theorem ok_check (M : Md K mg) (B : Bl mg) (F : FF K "check_signs" sCheck) (Fis_sign : Fn P w K mg base CX0 "is_sign" 1 ["sign"] spIsSign) : Fn P w K mg base CX0 "check_signs" 2 ["text"] spCheck := by
  refine fn_ok M F scCheck (fun _ _ _ _ _ _ => us1 fun _ => rfl) (fun vs H Q E h => ?_) (fun f cdv A outer s H vs Q E hr h => ?_)
  · obtain ⟨a, t, rfl, _⟩ := h; rfl
  · obtain ⟨a, t, rfl, ha, lt, k⟩ := h
    refine ⟨_, (pss_one (ps_for PassesOwn.never rfl (pi_list (pv 0)) (pg_name (i := 1) scCheck.nd rfl (.inl rfl))
      (pss_one (ps_if (pt_not (pt_val (pe_fn Fis_sign hr pass0 (pa_cons (pv 1) pa_nil)))) (pss_one ps_never) pss_nil)))), ?_⟩
    refine ⟨_, rfl, a, rfl, ⟨_, SqL.of ha⟩, for_list (K := K) (a := a) (xs := t.map sg) (fun i σ H2 => H2 = H ∧ ∃ v, σ = [some (.ref a), v]) ⟨rfl, none, rfl⟩ (fun i σ H2 _ h2 => by rw [h2.1]; exact SqL.of ha) ?_ ?_⟩
    · rintro i x σ H2 hx ⟨rfl, v, rfl⟩
      rw [List.getElem?_map] at hx
      cases e : t[i]? with
      | none => rw [e] at hx; cases hx
      | some c =>
        rw [e] at hx
        have : sg c = x := Option.some.inj hx
        subst this
        have hc := lt c (List.mem_of_getElem? e)
        exact ⟨_, rfl, c, rfl, hc.1, hc.2, true, rfl, iteF ⟨rfl, _, rfl⟩⟩
    · rintro σ H2 ⟨rfl, _⟩
      exact k
end

end Ov

namespace Ov
open PySem L2
abbrev sCheckWord : Stmt := top 14
abbrev sLiesAt : Stmt := top 21
def spCheckWord : Sp := fun vs H Q _ => ∃ (a : Addr) (t : List Nat), vs = [.ref a] ∧ H a = some (.lst (t.map sg)) ∧ Low t ∧ 1 ≤ t.length ∧ Q .non H
section
variable {P : Program} {w : World} {K : PySem.W.Frag} {mg : Str → Option Value} {base : Heap}
theorem scCheckWord : FnScope ["word"] ["word"] (defScope sCheckWord) := ⟨rfl, rfl, rfl, by decide +kernel, rfl, by decide +kernel, by decide +kernel⟩
theorem ok_check_word (M : Md K mg) (B : Bl mg) (F : FF K "check_word" sCheckWord) (Fcheck_signs : Fn P w K mg base CX0 "check_signs" 2 ["text"] spCheck) : Fn P w K mg base CX0 "check_word" 3 ["word"] spCheckWord := by
  refine fn_ok M F scCheckWord (fun _ _ _ _ _ _ => us1 fun _ => rfl) (fun vs H Q E h => ?_) (fun f cdv A outer s H vs Q E hr h => ?_)
  · obtain ⟨a, t, rfl, _⟩ := h; rfl
  · obtain ⟨a, t, rfl, ha, lt, t1, k⟩ := h
    refine ⟨_, (pss_cons (ps_if (pt_cmpR op_eq (pe_lenL B.len (pv 0)) pe_int (nomark _)) (pss_one ps_never) pss_nil)
      (pss_one (ps_expr (pe_fn Fcheck_signs hr pass0 (pa_cons (pv 0) pa_nil))))), ?_⟩
    refine ⟨_, rfl, a, _, rfl, SqL.of ha, rfl, _, rfl, ?_⟩
    rw [decide_eq_false (fun q => by have := V.int.inj q; rw [List.length_map] at this; omega)]
    exact iteF ⟨_, rfl, a, t, rfl, ha, lt, k⟩
theorem scLiesAt : FnScope ["text", "word", "many"] ["text", "word"] (defScope sLiesAt) := ⟨rfl, rfl, rfl, by decide +kernel, rfl, by decide +kernel, by decide +kernel⟩
theorem ok_lies_at (M : Md K mg) (B : Bl mg) (F : FF K "lies_at" sLiesAt) (Fcheck_signs : Fn P w K mg base CX0 "check_signs" 2 ["text"] spCheck) (Fcheck_word : Fn P w K mg base CX0 "check_word" 3 ["word"] spCheckWord) : Fn P w K mg base CX0 "lies_at" 4 ["text", "word"] spLies := by
  refine fn_ok M F scLiesAt (fun _ _ _ _ _ _ => us2 fun _ _ => rfl) (fun vs H Q E h => ?_) (fun f cdv A outer s H vs Q E hr h => ?_)
  · obtain ⟨a, b, t, u, rfl, _⟩ := h; rfl
  · obtain ⟨a, b, t, u, rfl, ha, hb, lt, lu, tl, ul, u1, k⟩ := h
    refine ⟨_, (pss_cons (ps_expr (pe_fn Fcheck_word hr pass0 (pa_cons (pv 1) pa_nil)))
      (pss_cons (ps_expr (pe_fn Fcheck_signs hr pass0 (pa_cons (pv 0) pa_nil)))
      (pss_cons (ps_set (i := 2) scLiesAt.nd rfl (.inr rfl) (pe_lenL B.len (pv 1)))
      (pss_one (ps_ret (pe_comp ["text", "word", "many"] rfl (pi_range1 (by rfl) B.range (pa_cons (pe_op op_add (pe_op op_sub (pe_lenL B.len (pv 0)) (pv 2)) pe_int) pa_nil)) (fun _ => by exact (pif_one (pt_cmpR (op_eqLS (by exact hr)) (pe_slice sl_list (pv 0) (po_some (pv 3)) (po_some (pe_op op_add (pv 3) (pv 2)))) (pv 1) (nomark _)))) (fun _ => by exact (pv 3)))))))), ?_⟩
    refine ⟨_, rfl, b, u, rfl, hb, lu, u1, ?_⟩
    refine ⟨_, rfl, a, t, rfl, ha, lt, ?_⟩
    refine ⟨_, rfl, b, _, rfl, SqL.of hb, ?_⟩
    refine ⟨_, rfl, a, _, rfl, SqL.of ha, _, rfl, _, _, rfl, rfl, _, _, rfl, rfl, _, rfl, by rw [List.length_map, List.length_map]; omega, by rw [List.length_map, List.length_map]; omega, fun D hD cb => ?_⟩
    rw [List.length_map, List.length_map, show ((t.length : Int) - (u.length : Int) + 1).toNat = t.length + 1 - u.length by omega]
    refine comp_range (lo := 0) (n := t.length + 1 - u.length) (fun i ys H2 => ys = vInts ((List.range i).filter fun p => decide ((t.drop p).take u.length = u)) ∧ Same H H2 ∧ H2 D = some (.lst ys)) (small1000 (by omega)) ?_ ?_ ?_ ?_
    · exact ⟨rfl, Same.upd hD, upd_same⟩
    · rintro i ys H2 ⟨rfl, _⟩
      rw [vInts_len]; exact filter_len _
    · rintro i ys H2 hi ⟨rfl, s2, hD2⟩
      refine ⟨_, rfl, _, rfl, _, rfl, _, rfl, _, rfl, _, _, rfl, rfl, _, rfl, a, _, rfl, SqL.of (s2 _ _ ha), fun p1 hp1 => ?_⟩
      have s3 := s2.trans (Same.upd (o := .lst (cutV (t.map sg) (some (0 + (i : Int))) (some (0 + (i : Int) + (u.length : Int))))) hp1)
      refine ⟨_, rfl, p1, b, (t.drop i).take u.length, u, rfl, rfl, SqL.of ?_, SqL.of (s3 _ _ hb), ((lt.drop _).take _).cp, lu.cp, _, rfl, ?_⟩
      · rw [upd_same, cutV_cutL, cutL_map, cutL_both _ _ _ (by omega) (by omega), show (0 + (i : Int)).toNat = i by omega, show (0 + (i : Int) + (u.length : Int)).toNat - i = u.length by omega]
      · have hD3 := (Same.upd (o := .lst (cutV (t.map sg) (some (0 + (i : Int))) (some (0 + (i : Int) + (u.length : Int))))) hp1) _ _ hD2
        refine ite2 (fun hc => ?_) (fun hc => ?_)
        · have hc' : (t.drop i).take u.length = u := by simpa using hc
          refine ⟨_, rfl, hD3, ?_, ?_, upd_same⟩
          · rw [lies_step, if_pos hc', vInts_snoc]
          · intro b o e
            rw [upd_ne (ne_of_none e hD)]
            exact s3 b o e
        · have hc' : ¬ (t.drop i).take u.length = u := by simpa using hc
          refine ⟨?_, s3, hD3⟩
          rw [lies_step, if_neg hc', List.append_nil]
    · rintro ys H2 ⟨rfl, s2, hD2⟩
      exact k D H2 hD hD2 s2
end

end Ov

namespace Ov
open PySem L2
theorem takeWhile_all {α : Type} {f : α → Bool} : ∀ {l : List α}, (∀ x ∈ l, f x = true) → l.takeWhile f = l
  | [], _ => rfl
  | x :: l, h => by
    rw [List.takeWhile_cons, h x List.mem_cons_self, if_pos rfl, takeWhile_all fun y hy => h y (List.mem_cons_of_mem _ hy)]
/-- a sign is in one of the places -/
def cov (ks : List Nat) (m i : Nat) : Bool := ks.any fun p => decide (p ≤ i ∧ i < p + m)
/-- the least sign that is in none of them (n where there is none) -/
def bareOf (n m : Nat) (ks : List Nat) : Nat := ((List.range n).takeWhile (cov ks m)).length
theorem bareOf_le (n m : Nat) (ks : List Nat) : bareOf n m ks ≤ n := by
  unfold bareOf
  have := (List.takeWhile_sublist (cov ks m) (l := List.range n)).length_le
  simpa using this
theorem takeWhile_len {n x : Nat} {f : Nat → Bool} (hx : x ≤ n) (h1 : ∀ i, i < x → f i = true) (h2 : x < n → f x = false) : ((List.range n).takeWhile f).length = x := by
  have e : List.range n = List.range x ++ (List.range (n - x)).map (x + ·) := by
    rw [← List.range_add]; congr 1; omega
  have a : (List.range x).takeWhile f = List.range x := by
    apply takeWhile_all
    intro i hi
    exact h1 i (by simpa using hi)
  rw [e, List.takeWhile_append, a]
  simp only [List.length_range, if_true]
  by_cases hlt : x < n
  · obtain ⟨d, hd⟩ : ∃ d, n - x = d + 1 := ⟨n - x - 1, by omega⟩
    rw [hd, List.range_succ_eq_map, List.map_cons, List.takeWhile_cons]
    simp [h2 hlt]
  · have : n - x = 0 := by omega
    rw [this]; simp
theorem bareOf_eq {n m x : Nat} {ks : List Nat} (hx : x ≤ n) (h1 : ∀ i, i < x → cov ks m i = true) (h2 : x < n → cov ks m x = false) : bareOf n m ks = x := takeWhile_len hx h1 h2
/-- going along -/
def fb (m : Nat) : Nat → List Nat → Nat
  | reach, [] => reach
  | reach, p :: r => if p > reach then reach else fb m (p + m) r
theorem cov_true {ks : List Nat} {m i : Nat} : cov ks m i = true ↔ ∃ p ∈ ks, p ≤ i ∧ i < p + m := by
  unfold cov
  rw [List.any_eq_true]
  constructor
  · rintro ⟨p, hp, h⟩; exact ⟨p, hp, of_decide_eq_true h⟩
  · rintro ⟨p, hp, h⟩; exact ⟨p, hp, decide_eq_true h⟩
theorem cov_false {ks : List Nat} {m i : Nat} : cov ks m i = false ↔ ∀ p ∈ ks, ¬ (p ≤ i ∧ i < p + m) := by
  rw [← Bool.not_eq_true, cov_true]
  constructor
  · intro h p hp q; exact h ⟨p, hp, q⟩
  · rintro h ⟨p, hp, q⟩; exact h p hp q
theorem fb_spec {m n : Nat} : ∀ (ks D : List Nat) (R : Nat), (D ++ ks).Pairwise (· < ·) → (∀ p ∈ D, p + m ≤ R) → (∀ i, i < R → cov D m i = true) → R ≤ n → (∀ p ∈ ks, p + m ≤ n) →
    fb m R ks ≤ n ∧ (∀ i, i < fb m R ks → cov (D ++ ks) m i = true) ∧ cov (D ++ ks) m (fb m R ks) = false
  | [], D, R, hs, hd, hc, hr, hk => by
    rw [List.append_nil]
    refine ⟨hr, hc, ?_⟩
    rw [cov_false]
    intro p hp q
    have := hd p hp
    simp only [fb] at q
    omega
  | p :: r, D, R, hs, hd, hc, hr, hk => by
    simp only [fb]
    have hsp := List.pairwise_append.mp hs
    have hpr := List.pairwise_cons.mp hsp.2.1
    by_cases h : p > R
    · rw [if_pos h]
      refine ⟨hr, fun i hi => ?_, ?_⟩
      · obtain ⟨q, hq, z⟩ := cov_true.mp (hc i hi)
        exact cov_true.mpr ⟨q, List.mem_append_left _ hq, z⟩
      · rw [cov_false]
        intro q hq z
        rcases List.mem_append.mp hq with hq | hq
        · have := hd q hq; omega
        · rcases List.mem_cons.mp hq with rfl | hq
          · omega
          · have := hpr.1 q hq; omega
    · rw [if_neg h]
      have e : D ++ p :: r = (D ++ [p]) ++ r := by simp
      rw [e] at hs ⊢
      refine fb_spec r (D ++ [p]) (p + m) hs (fun q hq => ?_) (fun i hi => ?_) (hk p List.mem_cons_self) (fun q hq => hk q (List.mem_cons_of_mem _ hq))
      · rcases List.mem_append.mp hq with hq | hq
        · have := hsp.2.2 q hq p List.mem_cons_self; omega
        · rw [List.mem_singleton.mp hq]; omega
      · by_cases hi2 : i < R
        · obtain ⟨q, hq, z⟩ := cov_true.mp (hc i hi2)
          exact cov_true.mpr ⟨q, List.mem_append_left _ hq, z⟩
        · exact cov_true.mpr ⟨p, by simp, by omega, hi⟩
theorem fb_bare {m n : Nat} {ks : List Nat} (hs : ks.Pairwise (· < ·)) (hk : ∀ p ∈ ks, p + m ≤ n) : fb m 0 ks = bareOf n m ks := by
  obtain ⟨h1, h2, h3⟩ := fb_spec (m := m) (n := n) ks [] 0 (by simpa using hs) (by simp) (by simp) (Nat.zero_le _) hk
  rw [List.nil_append] at h2 h3
  exact (bareOf_eq h1 h2 fun _ => h3).symm
theorem lies_sorted (t u : List Nat) : (liesIn t u).Pairwise (· < ·) := by
  unfold liesIn
  exact List.Pairwise.filter _ List.pairwise_lt_range
theorem lies_in {t u : List Nat} {p : Nat} (h : p ∈ liesIn t u) (u1 : 1 ≤ u.length) : p + u.length ≤ t.length := by
  unfold liesIn at h
  have := (List.mem_filter.mp h).1
  simp at this
  omega

end Ov

namespace Ov
open PySem L2
theorem vInts_get {ks : List Nat} {i : Nat} {x : V} (h : (vInts ks)[i]? = some x) : ∃ k, ks[i]? = some k ∧ x = V.int (k : Int) := by
  unfold vInts at h
  rw [List.map_map, List.getElem?_map] at h
  cases q : ks[i]? with
  | none => rw [q] at h; cases h
  | some k => rw [q] at h; exact ⟨k, rfl, (Option.some.inj h).symm⟩

end Ov

namespace Ov
open PySem L2
abbrev sCheckSome : Stmt := top 15
abbrev sFirstBare : Stmt := top 23
def spCheckSome : Sp := fun vs H Q _ => ∃ (a : Addr) (t : List Nat), vs = [.ref a] ∧ H a = some (.lst (t.map sg)) ∧ 1 ≤ t.length ∧ Q .non H
def spFirstBare : Sp := fun vs H Q _ => ∃ (a : Addr) (ks : List Nat) (m : Nat), vs = [.ref a, .int (m : Int)] ∧ H a = some (.lst (vInts ks)) ∧ Q (.int (fb m 0 ks : Nat)) H
section
variable {P : Program} {w : World} {K : PySem.W.Frag} {mg : Str → Option Value} {base : Heap}
theorem scCheckSome : FnScope ["text"] ["text"] (defScope sCheckSome) := ⟨rfl, rfl, rfl, by decide +kernel, rfl, by decide +kernel, by decide +kernel⟩
theorem ok_check_some (M : Md K mg) (B : Bl mg) (F : FF K "check_some" sCheckSome) : Fn P w K mg base CX0 "check_some" 1 ["text"] spCheckSome := by
  refine fn_ok M F scCheckSome (fun _ _ _ _ _ _ => us1 fun _ => rfl) (fun vs H Q E h => ?_) (fun f cdv A outer s H vs Q E hr h => ?_)
  · obtain ⟨a, t, rfl, _⟩ := h; rfl
  · obtain ⟨a, t, rfl, ha, t1, k⟩ := h
    refine ⟨_, (pss_one (ps_if (pt_cmpR op_eq (pe_lenL B.len (pv 0)) pe_int (nomark _)) (pss_one ps_never) pss_nil)), ?_⟩
    refine ⟨_, rfl, a, _, rfl, SqL.of ha, rfl, _, rfl, ?_⟩
    rw [decide_eq_false (fun q => by have := V.int.inj q; rw [List.length_map] at this; omega)]
    exact iteF k
theorem scFirstBare : FnScope ["places", "many", "reach", "place"] ["places", "many"] (defScope sFirstBare) := ⟨rfl, rfl, rfl, by decide +kernel, rfl, by decide +kernel, by decide +kernel⟩
theorem ok_first_bare (M : Md K mg) (B : Bl mg) (F : FF K "first_bare" sFirstBare) : Fn P w K mg base CX0 "first_bare" 1 ["places", "many"] spFirstBare := by
  refine fn_ok M F scFirstBare (fun _ _ _ _ _ _ => us2 fun _ _ => rfl) (fun vs H Q E h => ?_) (fun f cdv A outer s H vs Q E hr h => ?_)
  · obtain ⟨a, ks, m, rfl, _⟩ := h; rfl
  · obtain ⟨a, ks, m, rfl, ha, k⟩ := h
    refine ⟨_, (pss_cons (ps_set (i := 2) scFirstBare.nd rfl (.inl rfl) pe_int)
      (pss_cons (ps_for PassesOwn.never rfl (pi_list (pv 0)) (pg_name (i := 3) scFirstBare.nd rfl (.inl rfl))
      (pss_cons (ps_if (pt_cmpR op_gt (pv 3) (pv 2) (nomark _)) (pss_one (ps_ret (pv 2))) pss_nil)
      (pss_one (ps_set (i := 2) scFirstBare.nd rfl (.inl rfl) (pe_op op_add (pv 3) (pv 1))))))
      (pss_one (ps_ret (pv 2))))), ?_⟩
    refine ⟨_, rfl, a, rfl, ⟨_, SqL.of ha⟩, for_list (K := K) (a := a) (xs := vInts ks) (fun i σ H2 => H2 = H ∧ ∃ (R : Nat) (v3 : Option V), σ = [some (.ref a), some (.int (m : Int)), some (.int (R : Int)), v3] ∧ fb m 0 ks = fb m R (ks.drop i)) ⟨rfl, 0, none, rfl, rfl⟩ (fun i σ H2 _ h2 => by rw [h2.1]; exact SqL.of ha) ?_ ?_⟩
    · rintro i x σ H2 hx ⟨rfl, R, v3, rfl, e⟩
      obtain ⟨p, hp, rfl⟩ := vInts_get hx
      have ed : ks.drop i = p :: ks.drop (i + 1) := by
        obtain ⟨h1, h2⟩ := List.getElem?_eq_some_iff.mp hp
        rw [List.drop_eq_getElem_cons h1, h2]
      rw [ed] at e
      refine ⟨_, rfl, _, rfl, _, _, rfl, rfl, _, rfl, ?_⟩
      refine ite2 (fun hc => ?_) (fun hc => ?_)
      · have hc' : R < p := by simpa using hc
        refine ⟨_, rfl, ?_⟩
        have : fb m 0 ks = R := by rw [e]; simp only [fb]; rw [if_pos hc']
        rw [this] at k
        exact k
      · have hc' : ¬ p > R := by simpa using hc
        refine ⟨_, rfl, _, rfl, _, _, rfl, rfl, rfl, p + m, some (.int (p : Int)), ?_, ?_⟩
        · rw [Int.natCast_add]
          rfl
        · rw [e]; simp only [fb]; rw [if_neg hc']
    · rintro σ H2 ⟨rfl, R, v3, rfl, e⟩
      rw [vInts_len, List.drop_length] at e
      simp only [fb] at e
      rw [e] at k
      exact ⟨_, rfl, k⟩
end

end Ov

namespace Ov
open PySem L2
abbrev sCovered : Stmt := top 24
/-- what covered tells -/
def spCovered : Sp := fun vs H Q _ => ∃ (a b : Addr) (t u : List Nat), vs = [.ref a, .ref b] ∧ H a = some (.lst (t.map sg)) ∧ H b = some (.lst (u.map sg)) ∧ Low t ∧ Low u ∧ 1 ≤ t.length ∧ t.length ≤ 900 ∧ u.length ≤ 900 ∧ 1 ≤ u.length ∧
  (∀ (r : Addr) (H' : Hp), H r = none → Same H H' → bareOf t.length u.length (liesIn t u) < t.length → H' r = some (.tup [.str "bare", .int (bareOf t.length u.length (liesIn t u) : Nat)]) → Q (.ref r) H') ∧
  (∀ (r q : Addr) (H' : Hp), H r = none → H q = none → Same H H' → bareOf t.length u.length (liesIn t u) = t.length → H' q = some (.lst (vInts (liesIn t u))) → H' r = some (.tup [.str "covers", .ref q]) → Q (.ref r) H')
section
variable {P : Program} {w : World} {K : PySem.W.Frag} {mg : Str → Option Value} {base : Heap}
theorem scCovered : FnScope ["text", "word", "places", "bare"] ["text", "word"] (defScope sCovered) := ⟨rfl, rfl, rfl, by decide +kernel, rfl, by decide +kernel, by decide +kernel⟩
theorem ok_covered (M : Md K mg) (B : Bl mg) (F : FF K "covered" sCovered) (Flies_at : Fn P w K mg base CX0 "lies_at" 4 ["text", "word"] spLies) (Fcheck_some : Fn P w K mg base CX0 "check_some" 1 ["text"] spCheckSome) (Ffirst_bare : Fn P w K mg base CX0 "first_bare" 1 ["places", "many"] spFirstBare) : Fn P w K mg base CX0 "covered" 5 ["text", "word"] spCovered := by
  refine fn_ok M F scCovered (fun _ _ _ _ _ _ => us2 fun _ _ => rfl) (fun vs H Q E h => ?_) (fun f cdv A outer s H vs Q E hr h => ?_)
  · obtain ⟨a, b, t, u, rfl, _⟩ := h; rfl
  · obtain ⟨a, b, t, u, rfl, ha, hb, lt, lu, t1, tl, ul, u1, k1, k2⟩ := h
    refine ⟨_, (pss_cons (ps_set (i := 2) scCovered.nd rfl (.inl rfl) (pe_fn Flies_at hr pass0 (pa_cons (pv 0) (pa_cons (pv 1) pa_nil))))
      (pss_cons (ps_expr (pe_fn Fcheck_some hr pass0 (pa_cons (pv 0) pa_nil)))
      (pss_cons (ps_set (i := 3) scCovered.nd rfl (.inl rfl) (pe_fn Ffirst_bare hr pass0 (pa_cons (pv 2) (pa_cons (pe_lenL B.len (pv 1)) pa_nil))))
      (pss_cons (ps_if (pt_cmpR op_lt (pv 3) (pe_lenL B.len (pv 0)) (nomark _)) (pss_one (ps_ret (pe_tup (pa_cons pe_str (pa_cons (pv 3) pa_nil))))) pss_nil)
      (pss_one (ps_ret (pe_tup (pa_cons pe_str (pa_cons (pv 2) pa_nil))))))))), ?_⟩
    refine ⟨_, rfl, _, rfl, a, b, t, u, rfl, ha, hb, lt, lu, tl, ul, u1, fun q H1 hq0 hq1 s1 => ?_⟩
    refine ⟨_, rfl, a, t, rfl, s1 _ _ ha, t1, ?_⟩
    refine ⟨_, rfl, _, rfl, b, _, rfl, SqL.of (s1 _ _ hb), q, liesIn t u, u.length, by rw [List.length_map]; rfl, hq1, ?_⟩
    have ef : fb u.length 0 (liesIn t u) = bareOf t.length u.length (liesIn t u) := fb_bare (lies_sorted t u) fun p hp => lies_in hp u1
    rw [ef]
    have hbl := bareOf_le t.length u.length (liesIn t u)
    refine ⟨_, rfl, _, rfl, a, _, rfl, SqL.of (s1 _ _ ha), _, _, rfl, rfl, _, rfl, ?_⟩
    refine ite2 (fun hc => ?_) (fun hc => ?_)
    · have hc' : bareOf t.length u.length (liesIn t u) < t.length := by simpa using hc
      exact ⟨_, rfl, by show 2 ≤ sizeLine; decide, fun r hr0 => k1 r _ (s1.free hr0) (s1.trans (Same.upd hr0)) hc' upd_same⟩
    · have hc' : ¬ bareOf t.length u.length (liesIn t u) < t.length := by simpa using hc
      exact ⟨_, rfl, by show 2 ≤ sizeLine; decide, fun r hr0 => k2 r q _ (s1.free hr0) hq0 (s1.trans (Same.upd hr0)) (by omega) ((Same.upd hr0) _ _ hq1) upd_same⟩
end

end Ov

namespace Ov
open PySem L2
/-! ### rows of no form -/
def lowB (c : Nat) : Bool := decide (97 ≤ c) && decide (c ≤ 122)
def ltrs (cs : List Nat) : Bool := decide (cs ≠ []) && cs.all lowB
def digB (c : Nat) : Bool := decide (48 ≤ c) && decide (c ≤ 57)
def lenB (cs : List Nat) : Bool := decide (1 ≤ cs.length) && decide (cs.length ≤ 3) && cs.all digB && (decide (cs = [48]) || decide (cs.head? ≠ some 48))
abbrev wText : List Nat := [116, 101, 120, 116]
abbrev wWord : List Nat := [119, 111, 114, 100]
abbrev wTexts : List Nat := [116, 101, 120, 116, 115]
def deeds : List (List Nat) := [[99, 111, 118, 101, 114, 115], [115, 104, 111, 114, 116, 101, 115, 116], [108, 105, 101, 115], [108, 97, 105, 100], [102, 101, 119, 101, 115, 116], [119, 114, 111, 110, 103], [101, 110, 100, 115]]
structure NoForm (cs : List Nat) : Prop where
  text : nmOf cs = wText → rsOf cs ≠ [45] ∧ ltrs (rsOf cs) = false
  word : nmOf cs = wWord → ltrs (rsOf cs) = false
  texts : nmOf cs = wTexts → lenB (rsOf cs) = false
  deed : cs ∉ deeds
def noFormB (cs : List Nat) : Bool := (decide (nmOf cs ≠ wText) || (decide (rsOf cs ≠ [45]) && !ltrs (rsOf cs))) && (decide (nmOf cs ≠ wWord) || !ltrs (rsOf cs)) && (decide (nmOf cs ≠ wTexts) || !lenB (rsOf cs)) && decide (cs ∉ deeds)
theorem NoForm.of {cs : List Nat} (h : noFormB cs = true) : NoForm cs := by
  unfold noFormB at h
  simp only [Bool.and_eq_true, Bool.or_eq_true, decide_eq_true_eq, Bool.not_eq_true'] at h
  obtain ⟨⟨⟨h1, h2⟩, h3⟩, h4⟩ := h
  exact ⟨fun e => h1.resolve_left fun z => z e, fun e => h2.resolve_left fun z => z e, fun e => h3.resolve_left fun z => z e, h4⟩
/-- a sign put in -/
def insC (cs : List Nat) (n c : Nat) : List Nat := cs.take n ++ c :: cs.drop n
theorem mem_insC {cs : List Nat} {n c : Nat} : c ∈ insC cs n c := by unfold insC; simp
theorem low_not {cs ds : List Nat} {c : Nat} (hc : lowB c = false) (h : c ∈ cs) (hd : ds.all lowB = true) : cs ≠ ds := fun e => by
  have := List.all_eq_true.mp hd c (e ▸ h)
  rw [hc] at this
  cases this
theorem deed_not {cs : List Nat} {c : Nat} (hc : lowB c = false) (h : c ∈ cs) : cs ∉ deeds := fun m => by
  have : ∀ d ∈ deeds, d.all lowB = true := by decide
  exact low_not hc h (this cs m) rfl
theorem ltrs_not {cs : List Nat} {c : Nat} (hc : lowB c = false) (h : c ∈ cs) : ltrs cs = false := by
  unfold ltrs
  have : cs.all lowB = false := Bool.eq_false_iff.mpr fun z => by have := List.all_eq_true.mp z c h; rw [hc] at this; cases this
  rw [this, Bool.and_false]
/-- where the sign is put in, the name ahead of the first blank -/
theorem nm_ins {a b : List Nat} {n c : Nat} (h : 32 ∉ a) : (n ≤ a.length ∧ c ≠ 32 ∧ c ∈ nmOf (insC (a ++ 32 :: b) n c)) ∨ (n ≤ a.length ∧ c = 32 ∧ nmOf (insC (a ++ 32 :: b) n c) = a.take n ∧ rsOf (insC (a ++ 32 :: b) n c) = a.drop n ++ 32 :: b) ∨ (a.length < n ∧ nmOf (insC (a ++ 32 :: b) n c) = a ∧ c ∈ rsOf (insC (a ++ 32 :: b) n c) ∧ rsOf (insC (a ++ 32 :: b) n c) = insC b (n - a.length - 1) c) := by
  by_cases hn : n ≤ a.length
  · have e : insC (a ++ 32 :: b) n c = a.take n ++ c :: (a.drop n ++ 32 :: b) := by
      unfold insC
      rw [List.take_append_of_le_length hn, List.drop_append_of_le_length hn]
    have ht : 32 ∉ a.take n := fun m => h (List.mem_of_mem_take m)
    by_cases hc : c = 32
    · subst hc
      rw [e]
      exact .inr (.inl ⟨hn, rfl, (nm_sp ht).1, (nm_sp ht).2⟩)
    · refine .inl ⟨hn, hc, ?_⟩
      have e2 : a.take n ++ c :: (a.drop n ++ 32 :: b) = (a.take n ++ c :: a.drop n) ++ 32 :: b := by simp
      have h2 : 32 ∉ a.take n ++ c :: a.drop n := fun m => by
        rcases List.mem_append.mp m with m | m
        · exact ht m
        · rcases List.mem_cons.mp m with m | m
          · exact hc m.symm
          · exact h (List.mem_of_mem_drop m)
      rw [e, e2, (nm_sp h2).1]
      simp
  · refine .inr (.inr ⟨by omega, ?_⟩)
    have e : insC (a ++ 32 :: b) n c = a ++ 32 :: insC b (n - a.length - 1) c := by
      unfold insC
      obtain ⟨m, rfl⟩ : ∃ m, n = a.length + (m + 1) := ⟨n - a.length - 1, by omega⟩
      rw [List.take_length_add_append, List.drop_length_add_append, List.take_succ_cons, List.drop_succ_cons, show a.length + (m + 1) - a.length - 1 = m by omega]
      simp
    rw [e]
    exact ⟨(nm_sp h).1, by rw [(nm_sp h).2]; exact mem_insC, (nm_sp h).2⟩
/-- 'text ' or 'word ' and letters, a sign put in that is none -/
theorem ins_text {a b : List Nat} (ha : a = wText ∨ a = wWord) {n c : Nat} (hb : b ≠ []) (hc : lowB c = false) : NoForm (insC (a ++ 32 :: b) n c) := by
  have h32 : 32 ∉ a := by rcases ha with rfl | rfl <;> decide
  have al : a.length = 4 := by rcases ha with rfl | rfl <;> rfl
  have dd := deed_not hc (mem_insC (cs := a ++ 32 :: b) (n := n) (c := c))
  rcases nm_ins (b := b) (n := n) (c := c) h32 with ⟨_, _, m⟩ | ⟨hn, rfl, e1, e2⟩ | ⟨hn, e1, m, e2⟩
  · exact ⟨fun e => absurd e (low_not hc m (by decide)), fun e => absurd e (low_not hc m (by decide)), fun e => absurd e (low_not hc m (by decide)), dd⟩
  · have r32 : 32 ∈ a.drop n ++ 32 :: b := by simp
    have rl : ltrs (a.drop n ++ 32 :: b) = false := ltrs_not (by decide) r32
    refine ⟨fun _ => by rw [e2]; exact ⟨fun z => by have := congrArg List.length z; simp at this; have := List.length_pos_iff.mpr hb; omega, rl⟩, fun _ => by rw [e2]; exact rl, fun z => ?_, dd⟩
    rw [e1] at z
    have := congrArg List.length z
    rw [List.length_take] at this
    simp at this
    omega
  · have rl : ltrs (rsOf (insC (a ++ 32 :: b) n c)) = false := ltrs_not hc m
    refine ⟨fun _ => ⟨fun z => ?_, rl⟩, fun _ => rl, fun z => ?_, dd⟩
    · rw [e2] at z
      have := congrArg List.length z
      unfold insC at this
      rw [List.length_append, List.length_cons, List.length_take, List.length_drop] at this
      have := List.length_pos_iff.mpr hb
      simp at *
      omega
    · rw [e1] at z
      have := congrArg List.length z
      rw [al] at this
      cases this

/-- the signs that are put in -/
def signL : List Nat := [32, 33, 34, 35, 36, 38, 39, 40, 41, 42, 43, 44, 45, 46, 47, 58, 59, 60, 61, 62, 63, 64, 65, 66, 67, 68, 69, 70, 71, 72, 73, 74, 75, 76, 77, 78, 79, 80, 81, 82, 83, 84, 85, 86, 87, 88, 89, 90, 91, 92, 93, 94, 95, 96, 123, 124, 125, 126]
def figL : List Nat := [48, 49, 50, 51, 52, 53, 54, 55, 56, 57]
def moreL : List Nat := [48, 49, 50, 51, 52, 53, 54, 55, 56, 57, 9, 10]
theorem sign_low : ∀ c ∈ signL ++ figL, lowB c = false := by decide +kernel
def fixL : List (List Nat) := [[99, 111, 118, 101, 114, 115], [108, 105, 101, 115], [116, 101, 120, 116, 115, 32, 49, 50]]
theorem fix_all : (fixL.all fun cs => (List.range 9).all fun n => signL.all fun c => noFormB (insC cs n c)) = true := by decide +kernel
theorem ins_fix {cs : List Nat} (h : cs ∈ fixL) {n c : Nat} (hn : n ≤ cs.length) (hc : c ∈ signL) : NoForm (insC cs n c) := by
  have hl : ∀ cs ∈ fixL, cs.length ≤ 8 := by decide
  have := hl cs h
  exact .of (List.all_eq_true.mp (List.all_eq_true.mp (List.all_eq_true.mp fix_all cs h) n (List.mem_range.mpr (by omega))) c hc)
theorem walk_all : ((signL ++ moreL).all fun c => noFormB ([116, 101, 120, 116, 32, 97, 98] ++ [c] ++ [99]) && noFormB ([119, 111, 114, 100, 32] ++ [c] ++ [97, 98])) = true := by decide +kernel
theorem walk_no {c : Nat} (hc : c ∈ signL ++ moreL) : NoForm ([116, 101, 120, 116, 32, 97, 98] ++ [c] ++ [99]) ∧ NoForm ([119, 111, 114, 100, 32] ++ [c] ++ [97, 98]) := by
  have := List.all_eq_true.mp walk_all c hc
  rw [Bool.and_eq_true] at this
  exact ⟨.of this.1, .of this.2⟩

end Ov

namespace Ov
open PySem L2
/-- the own classes of exceptions, as the top has them -/
structure Exs (K : PySem.W.Frag) (mg : Str → Option Value) (cCoverError cNoWord cNoSign cNoText cNoCover cNoChain cNoForm cNoNumber cNoneYet cTooMany : Addr) : Prop where
  bCoverError : mg "CoverError" = some (.ref cCoverError)
  bNoWord : mg "NoWord" = some (.ref cNoWord)
  bNoSign : mg "NoSign" = some (.ref cNoSign)
  bNoText : mg "NoText" = some (.ref cNoText)
  bNoCover : mg "NoCover" = some (.ref cNoCover)
  bNoChain : mg "NoChain" = some (.ref cNoChain)
  bNoForm : mg "NoForm" = some (.ref cNoForm)
  bNoNumber : mg "NoNumber" = some (.ref cNoNumber)
  bNoneYet : mg "NoneYet" = some (.ref cNoneYet)
  bTooMany : mg "TooMany" = some (.ref cTooMany)
  nValueError : mg "ValueError" = none
  facts : excFacts K cCoverError [cNoWord, cNoSign, cNoText, cNoCover, cNoChain, cNoForm, cNoNumber, cNoneYet, cTooMany] = true
  nd : [cNoWord, cNoSign, cNoText, cNoCover, cNoChain, cNoForm, cNoNumber, cNoneYet, cTooMany].Nodup
theorem exs_mk {K : PySem.W.Frag} {mg : Str → Option Value} {c0 c1 c2 c3 c4 c5 c6 c7 c8 c9 : Addr} (M : Md K mg) (a0 : PySem.W.nsIn K mainGlobals "CoverError" = some (some (.ref c0))) (a1 : PySem.W.nsIn K mainGlobals "NoWord" = some (some (.ref c1))) (a2 : PySem.W.nsIn K mainGlobals "NoSign" = some (some (.ref c2)))
    (a3 : PySem.W.nsIn K mainGlobals "NoText" = some (some (.ref c3))) (a4 : PySem.W.nsIn K mainGlobals "NoCover" = some (some (.ref c4))) (a5 : PySem.W.nsIn K mainGlobals "NoChain" = some (some (.ref c5))) (a6 : PySem.W.nsIn K mainGlobals "NoForm" = some (some (.ref c6)))
    (a7 : PySem.W.nsIn K mainGlobals "NoNumber" = some (some (.ref c7))) (a8 : PySem.W.nsIn K mainGlobals "NoneYet" = some (some (.ref c8))) (a9 : PySem.W.nsIn K mainGlobals "TooMany" = some (some (.ref c9))) (av : PySem.W.nsIn K mainGlobals "ValueError" = some none)
    (f : excFacts K c0 [c1, c2, c3, c4, c5, c6, c7, c8, c9] = true) (nd : [c1, c2, c3, c4, c5, c6, c7, c8, c9].Nodup) : Exs K mg c0 c1 c2 c3 c4 c5 c6 c7 c8 c9 :=
  ⟨M.ns _ _ a0, M.ns _ _ a1, M.ns _ _ a2, M.ns _ _ a3, M.ns _ _ a4, M.ns _ _ a5, M.ns _ _ a6, M.ns _ _ a7, M.ns _ _ a8, M.ns _ _ a9, M.ns _ _ av, f, nd⟩

end Ov

namespace Ov
open PySem L2
abbrev sInit : Stmt := inClass (top 61) 0
abbrev sToldText : Stmt := inClass (top 61) 1
abbrev sToldWord : Stmt := inClass (top 61) 2
/-- the attributes of a desk -/
def fld (t w : V) : List (Str × V) := [("text", t), ("word", w)]
theorem tw_ne : ¬ (("text" : Str) = "word") := by decide +kernel
theorem fld_init (t w : V) : putF "word" w (putF "text" t []) = fld t w := by
  show (if ("text" : Str) = "word" then [(("text" : Str), w)] else (("text" : Str), t) :: putF "word" w []) = fld t w
  rw [if_neg tw_ne]; rfl
theorem fld_putT (t w v : V) : putF "text" v (fld t w) = fld v w := by
  show (if ("text" : Str) = "text" then _ else _) = _
  rw [if_pos rfl]; rfl
theorem fld_putW (t w v : V) : putF "word" v (fld t w) = fld t v := by
  show (if ("text" : Str) = "word" then _ else (("text" : Str), t) :: (if ("word" : Str) = "word" then [(("word" : Str), v)] else _)) = fld t v
  rw [if_neg tw_ne, if_pos rfl]; rfl
theorem fld_text (t w : V) : (fld t w).lookup ("text" : Str) = some t := by
  rw [← fld_init, lookup_putF, if_neg tw_ne, lookup_putF, if_pos rfl]
theorem fld_word (t w : V) : (fld t w).lookup ("word" : Str) = some w := by
  rw [← fld_init, lookup_putF, if_pos rfl]
theorem fld_no (t w : V) {m : Str} (h1 : ¬ m = "word") (h2 : ¬ m = "text") : (fld t w).lookup m = none := by
  rw [← fld_init, lookup_putF, if_neg h1, lookup_putF, if_neg h2]; rfl
structure DeskT (K : PySem.W.Frag) (mg : Str → Option Value) (C : Addr) : Prop where
  cl : Cls K C
  nT : NoAttr K C "text"
  nW : NoAttr K C "word"
  g : mg "Desk" = some (.ref C)
def spInit (C : Addr) : Sp := fun vs H Q _ => ∃ (x dx : Addr), vs = [.ref x] ∧ H x = some (.ins C dx []) ∧ ∀ H' : Hp, H' x = some (.ins C dx (fld .non .non)) → Keep x H H' → Q .non H'
def spTold (C cNY : Addr) (b : Bool) : Sp := fun vs H Q E => ∃ (x dx : Addr) (t w : V), vs = [.ref x] ∧ H x = some (.ins C dx (fld t w)) ∧ ((if b then t else w) = .non → E (.ref cNY) none H) ∧ ((if b then t else w) ≠ .non → Q (if b then t else w) H)
section
variable {P : Program} {w : World} {K : PySem.W.Frag} {mg : Str → Option Value} {base : Heap}
theorem scInit : FnScope ["self"] ["self"] (defScope sInit) := ⟨rfl, rfl, rfl, by decide +kernel, rfl, by decide +kernel, by decide +kernel⟩
theorem ok_init {C : Addr} (T : DeskT K mg C) (F : MF K C "__init__" "Desk.__init__" sInit) : Mt P w K mg base CX0 C "__init__" 1 ["self"] (spInit C) := by
  refine mt_ok F scInit (fun _ _ _ _ _ _ => us1 fun _ => rfl) (fun vs H Q E h => ?_) (fun f cdv A outer s H vs Q E hr h => ?_)
  · obtain ⟨x, dx, rfl, _⟩ := h; rfl
  · obtain ⟨x, dx, rfl, hx, k⟩ := h
    refine ⟨_, (pss_cons (ps_fld (pv 0) pe_non rfl)
      (pss_one (ps_fld (pv 0) pe_non rfl))), ?_⟩
    refine ⟨_, rfl, x, C, dx, [], rfl, hx, T.cl, T.nT, (by show 0 < 1000; decide), _, rfl, x, C, dx, _, rfl, upd_same, T.cl, T.nW, (by show 1 < 1000; decide), ?_⟩
    refine k _ (by rw [upd_same, fld_init]) fun z o e n => ?_
    rw [upd_ne n, upd_ne n]; exact e
theorem scToldText : FnScope ["self"] ["self"] (defScope sToldText) := ⟨rfl, rfl, rfl, by decide +kernel, rfl, by decide +kernel, by decide +kernel⟩
theorem ok_told_text {C cNY : Addr} (T : DeskT K mg C) (ONoneYet : Exc K mg "NoneYet" cNY) (F : MF K C "told_text" "Desk.told_text" sToldText) : Mt P w K mg base (CXx P w) C "told_text" 1 ["self"] (spTold C cNY true) := by
  refine mt_ok F scToldText (fun _ _ _ _ _ _ => us1 fun _ => rfl) (fun vs H Q E h => ?_) (fun f cdv A outer s H vs Q E hr h => ?_)
  · obtain ⟨x, dx, t, w, rfl, _⟩ := h; rfl
  · obtain ⟨x, dx, t, wd, rfl, hx, k1, k2⟩ := h
    refine ⟨_, (pss_cons (ps_if (pt_cmpR op_isN (pe_fld (pv 0) rfl) pe_non (nomark _)) (pss_one (ps_raise ONoneYet pe_str)) pss_nil)
      (pss_one (ps_ret (pe_fld (pv 0) rfl)))), ?_⟩
    refine ⟨_, rfl, x, C, dx, _, _, rfl, hx, T.cl, T.nT, fld_text _ _, rfl, _, rfl, ?_⟩
    by_cases h : t = .non
    · rw [decide_eq_true h]
      exact iteT ⟨rfl, k1 h⟩
    · rw [decide_eq_false h]
      exact iteF ⟨_, rfl, x, C, dx, _, _, rfl, hx, T.cl, T.nT, fld_text _ _, k2 h⟩
theorem scToldWord : FnScope ["self"] ["self"] (defScope sToldWord) := ⟨rfl, rfl, rfl, by decide +kernel, rfl, by decide +kernel, by decide +kernel⟩
theorem ok_told_word {C cNY : Addr} (T : DeskT K mg C) (ONoneYet : Exc K mg "NoneYet" cNY) (F : MF K C "told_word" "Desk.told_word" sToldWord) : Mt P w K mg base (CXx P w) C "told_word" 1 ["self"] (spTold C cNY false) := by
  refine mt_ok F scToldWord (fun _ _ _ _ _ _ => us1 fun _ => rfl) (fun vs H Q E h => ?_) (fun f cdv A outer s H vs Q E hr h => ?_)
  · obtain ⟨x, dx, t, w, rfl, _⟩ := h; rfl
  · obtain ⟨x, dx, t, wd, rfl, hx, k1, k2⟩ := h
    refine ⟨_, (pss_cons (ps_if (pt_cmpR op_isN (pe_fld (pv 0) rfl) pe_non (nomark _)) (pss_one (ps_raise ONoneYet pe_str)) pss_nil)
      (pss_one (ps_ret (pe_fld (pv 0) rfl)))), ?_⟩
    refine ⟨_, rfl, x, C, dx, _, _, rfl, hx, T.cl, T.nW, fld_word _ _, rfl, _, rfl, ?_⟩
    by_cases h : wd = .non
    · rw [decide_eq_true h]
      exact iteT ⟨rfl, k1 h⟩
    · rw [decide_eq_false h]
      exact iteF ⟨_, rfl, x, C, dx, _, _, rfl, hx, T.cl, T.nW, fld_word _ _, k2 h⟩
end

end Ov

namespace Ov
open PySem L2
abbrev sTellLaid : Stmt := top 55
abbrev tT : List Nat := [97, 97, 98, 97, 97]
abbrev tW : List Nat := [97, 97]
def spTL : Sp := fun vs H Q _ => ∃ a b : Addr, vs = [.ref a, .ref b] ∧ H a = some (.lst (tT.map sg)) ∧ H b = some (.lst (tW.map sg)) ∧ ∀ H', Same H H' → Q (.str "bare 2") H'
theorem bare2 : bareOf tT.length tW.length (liesIn tT tW) = 2 := by decide +kernel
theorem str_bare2 : Str.empty ++ Str.ofString "bare " ++ Str.ofString (toString (2 : Int)) = Str.ofString "bare 2" := by decide +kernel
section
variable {P : Program} {w : World} {K : PySem.W.Frag} {mg : Str → Option Value} {base : Heap}
theorem scTellLaid : FnScope ["text", "word", "kind", "found"] ["text", "word"] (defScope sTellLaid) := ⟨rfl, rfl, rfl, by decide +kernel, rfl, by decide +kernel, by decide +kernel⟩
theorem ok_tell_laid (M : Md K mg) (B : Bl mg) (F : FF K "tell_laid" sTellLaid) (Fcovered : Fn P w K mg base CX0 "covered" 5 ["text", "word"] spCovered) : Fn P w K mg base CX0 "tell_laid" 6 ["text", "word"] spTL := by
  refine fn_ok M F scTellLaid (fun _ _ _ _ _ _ => us2 fun _ _ => rfl) (fun vs H Q E h => ?_) (fun f cdv A outer s H vs Q E hr h => ?_)
  · obtain ⟨a, b, rfl, _⟩ := h; rfl
  · obtain ⟨a, b, rfl, ha, hb, k⟩ := h
    refine ⟨_, (pss_cons (ps_asg (pe_fn Fcovered hr pass0 (pa_cons (pv 0) (pa_cons (pv 1) pa_nil))) (pg_tup rfl (pgs_cons (pg_name (i := 2) scTellLaid.nd rfl (.inl rfl)) (pgs_cons (pg_name (i := 3) scTellLaid.nd rfl (.inl rfl)) pgs_nil))))
      (pss_one (ps_ret (pe_ifExp (pt_cmpR op_eq (pv 2) pe_str (nomark _)) (pe_fstrI (pv 3) (by decide +kernel)) (pe_fstrI (pe_lenL B.len (pv 3)) (by decide +kernel)))))), ?_⟩
    refine ⟨_, rfl, _, rfl, a, b, tT, tW, rfl, ha, hb, (by unfold Low; decide), (by unfold Low; decide), by decide, by decide, by decide, by decide, fun r H1 hr0 s1 _ hr1 => ?_, fun r q H1 _ _ _ e => ?_⟩
    · rw [bare2] at hr1
      refine ⟨r, _, rfl, SqT.of hr1, rfl, ?_⟩
      refine ⟨_, _, rfl, _, _, rfl, rfl, ?_⟩
      refine ⟨_, rfl, rfl, _, rfl, ?_⟩
      rw [decide_eq_true rfl]
      refine iteT ⟨_, rfl, 2, rfl, by decide +kernel, ?_⟩
      rw [str_bare2]
      exact k _ s1
    · rw [bare2] at e; cases e
end

end Ov

namespace Ov
open PySem L2
abbrev sAreLetters : Stmt := top 49
abbrev sIsLength : Stmt := top 50
/-- a sign of any kind, a text of them -/
def spSgn : Sp := fun vs H Q _ => ∃ c : Nat, vs = [sg c] ∧ Q (.bl (lowB c)) H
def Asc (x : Str) : Prop := x.cps.all (· < 128) = true ∧ x.length ≤ 400
def spLet : Sp := fun vs H Q _ => ∃ x : Str, vs = [.str x] ∧ Asc x ∧ ∀ H', Same H H' → Q (.bl (ltrs (cd x))) H'
def spLen : Sp := fun vs H Q _ => ∃ x : Str, vs = [.str x] ∧ Asc x ∧ ∀ H', Same H H' → Q (.bl (lenB (cd x))) H'
theorem one_lt {a b : Nat} : decide ([a] < [b]) = decide (a < b) := by
  by_cases h : a < b
  · rw [decide_eq_true h]
    exact decide_eq_true (List.Lex.rel h)
  · rw [decide_eq_false h]
    refine decide_eq_false fun q => ?_
    cases q with
    | rel r => exact h r
    | cons r => cases r
theorem sg_from {c : Nat} {a : Nat} {x : Str} (e : x.cps.toList = [a]) : (!decide ((sgS c).cps.toList < x.cps.toList)) = decide (a ≤ c) := by
  rw [e, show (sgS c).cps.toList = [c] from rfl, one_lt]
  by_cases h : c < a
  · rw [decide_eq_true h, decide_eq_false (by omega)]; rfl
  · rw [decide_eq_false h, decide_eq_true (by omega)]; rfl
theorem sg_to {c : Nat} {a : Nat} {x : Str} (e : x.cps.toList = [a]) : (!decide (x.cps.toList < (sgS c).cps.toList)) = decide (c ≤ a) := by
  rw [e, show (sgS c).cps.toList = [c] from rfl, one_lt]
  by_cases h : a < c
  · rw [decide_eq_true h, decide_eq_false (by omega)]; rfl
  · rw [decide_eq_false h, decide_eq_true (by omega)]; rfl
theorem a_codes : (Str.ofString "a").cps.toList = [97] := by decide +kernel
theorem z_codes : (Str.ofString "z").cps.toList = [122] := by decide +kernel
theorem f0_codes : (Str.ofString "0").cps.toList = [48] := by decide +kernel
theorem f9_codes : (Str.ofString "9").cps.toList = [57] := by decide +kernel
theorem all_bl (f : Nat → Bool) (l : List Nat) : ((l.map f).all id) = l.all f := by
  induction l with
  | nil => rfl
  | cons a l ih => rw [List.map_cons, List.all_cons, List.all_cons, ih]; rfl
theorem take_snoc {l : List Nat} {i c : Nat} (h : l[i]? = some c) : l.take (i + 1) = l.take i ++ [c] := by
  rw [List.take_add_one, h]; rfl
section
variable {P : Program} {w : World} {K : PySem.W.Frag} {mg : Str → Option Value} {base : Heap}
theorem ok_sgn (M : Md K mg) (B : Bl mg) (F : FF K "is_sign" sIsSign) : Fn P w K mg base CX0 "is_sign" 1 ["sign"] spSgn := by
  refine fn_ok M F scIsSign (fun _ _ _ _ _ _ => us1 fun _ => rfl) (fun vs H Q E h => ?_) (fun f cdv A outer s H vs Q E hr h => ?_)
  · obtain ⟨c, rfl, _⟩ := h; rfl
  · obtain ⟨c, rfl, k⟩ := h
    refine ⟨_, (pss_one (ps_ret (pe_and (pe_isi B.isinst B.str bt_str (pv 0)) (pe_and (pe_cmpR op_eq (pe_lenS B.len (pv 0)) pe_int (nomark _)) (pe_one (pe_chain op_le_str op_le_str pe_str (pv 0) pe_str)))))), ?_⟩
    refine ⟨_, rfl, _, true, TyOf.str _, rfl, _, rfl, iteT ?_⟩
    refine ⟨_, rfl, _, rfl, sz (by show 1 ≤ 1000; decide), rfl, true, rfl, iteT ?_⟩
    refine ⟨_, rfl, _, _, rfl, rfl, _, rfl, ?_⟩
    rw [sg_from a_codes]
    unfold lowB at k
    by_cases h : 97 ≤ c
    · rw [decide_eq_true h] at k ⊢
      refine iteT ⟨_, _, rfl, rfl, ?_⟩
      rw [sg_to z_codes]
      exact k
    · rw [decide_eq_false h] at k ⊢
      exact iteF k
theorem scAreLetters : FnScope ["row"] ["row"] (defScope sAreLetters) := ⟨rfl, rfl, rfl, by decide +kernel, rfl, by decide +kernel, by decide +kernel⟩
theorem ok_are_letters (M : Md K mg) (B : Bl mg) (nall : mg "all" = none) (F : FF K "are_letters" sAreLetters) (Fis_sign : Fn P w K mg base CX0 "is_sign" 1 ["sign"] spSgn) : Fn P w K mg base CX0 "are_letters" 2 ["row"] spLet := by
  refine fn_ok M F scAreLetters (fun _ _ _ _ _ _ => us1 fun _ => rfl) (fun vs H Q E h => ?_) (fun f cdv A outer s H vs Q E hr h => ?_)
  · obtain ⟨x, rfl, _⟩ := h; rfl
  · obtain ⟨x, rfl, hx, k⟩ := h
    refine ⟨_, (pss_one (ps_ret (pe_and (pe_cmpR op_gt (pe_lenS B.len (pv 0)) pe_int (nomark _)) (pe_one (pe_allL rfl nall (pe_comp ["row"] rfl (pi_str (pv 0)) (fun _ => by exact pif_nil) (fun _ => by exact (pe_fn Fis_sign hr pass0 (pa_cons (pv 1) pa_nil))))))))), ?_⟩
    refine ⟨_, rfl, _, rfl, sz (by have := hx.2; omega), _, _, rfl, rfl, _, rfl, ?_⟩
    unfold ltrs at k
    have el : decide ((x.length : Int) > 0) = decide (cd x ≠ []) := by
      rw [cd_len]
      cases cd x with
      | nil => rfl
      | cons a l => rw [decide_eq_true (List.cons_ne_nil _ _), decide_eq_true (by simp)]
    rw [el]
    by_cases h : cd x ≠ []
    · rw [decide_eq_true h] at k ⊢
      refine iteT ?_
      refine ⟨_, rfl, x, rfl, hx.1, fun D hD cb => ?_⟩
      refine comp_str (z := x) (fun i ys H2 => ys = ((cd x).take i).map (fun c => V.bl (lowB c)) ∧ i ≤ (cd x).length ∧ Same H H2 ∧ H2 D = some (.lst ys)) (by have := hx.2; exact small1000 (by unfold Str.length at this; omega)) ?_ ?_ ?_ ?_
      · exact ⟨rfl, Nat.zero_le _, Same.upd hD, upd_same⟩
      · rintro i ys H2 ⟨rfl, _⟩; rw [List.length_map, List.length_take]; omega
      · rintro i c ys H2 hc ⟨rfl, il, s2, hD2⟩
        have hc' : (cd x)[i]? = some c := by unfold cd; rw [Array.getElem?_toList]; exact hc
        refine tNoIf_go ⟨_, rfl, c, rfl, hD2, ?_, (List.getElem?_eq_some_iff.mp hc').1, fun z o e => ?_, upd_same⟩
        · rw [take_snoc hc', List.map_append]; rfl
        · rw [upd_ne (ne_of_none e hD)]; exact s2 _ _ e
      · rintro ys H2 ⟨rfl, _, s2, hD2⟩
        rw [List.take_of_length_le (by unfold cd; simp)] at hD2
        refine ⟨D, (cd x).map lowB, rfl, by rw [List.map_map]; exact hD2, ?_⟩
        rw [all_bl]
        exact k _ s2
    · rw [decide_eq_false h] at k ⊢
      exact iteF (k _ (Same.refl _))
theorem scIsLength : FnScope ["row"] ["row"] (defScope sIsLength) := ⟨rfl, rfl, rfl, by decide +kernel, rfl, by decide +kernel, by decide +kernel⟩
theorem ok_is_length (M : Md K mg) (B : Bl mg) (nall : mg "all" = none) (F : FF K "is_length" sIsLength) : Fn P w K mg base CX0 "is_length" 1 ["row"] spLen := by
  refine fn_ok M F scIsLength (fun _ _ _ _ _ _ => us1 fun _ => rfl) (fun vs H Q E h => ?_) (fun f cdv A outer s H vs Q E hr h => ?_)
  · obtain ⟨x, rfl, _⟩ := h; rfl
  · obtain ⟨x, rfl, hx, k⟩ := h
    refine ⟨_, (pss_cons (ps_if (PW.pt (pw_or (pt_not (pt_chain op_le op_le pe_int (pe_lenS B.len (pv 0)) pe_int)) (pw_or1 (pt_not (pt_val (pe_allL rfl nall (pe_comp ["row"] rfl (pi_str (pv 0)) (fun _ => by exact pif_nil) (fun _ => by exact (pe_chain op_le_str op_le_str pe_str (pv 1) pe_str))))))))) (pss_one (ps_ret pe_bl)) pss_nil)
      (pss_one (ps_ret (pe_or (pe_cmpR op_eq (pv 0) pe_str (nomark _)) (pe_one (pe_cmpR op_ne (pe_ix ix_str (pv 0) pe_int (fun _ _ => rfl)) pe_str (nomark _))))))), ?_⟩
    have xl := cd_len x
    refine meet_if (fun σ H' => σ = [some (.str x)] ∧ Same H H' ∧ 1 ≤ (cd x).length ∧ (cd x).length ≤ 3 ∧ (cd x).all digB = true) ?_ fun R hR => ?_
    · rintro σ H' ⟨rfl, s1, l1, l3, da⟩
      refine ⟨_, rfl, rfl, _, rfl, ?_⟩
      unfold lenB at k
      rw [decide_eq_true l1, decide_eq_true l3, da, Bool.true_and, Bool.true_and, Bool.true_and] at k
      rw [str_dec, show cd (Str.ofString "0") = [48] from f0_codes]
      by_cases h : cd x = [48]
      · rw [decide_eq_true h, Bool.true_or] at k
        rw [decide_eq_true h]
        exact iteT (k _ s1)
      · rw [decide_eq_false h, Bool.false_or] at k
        rw [decide_eq_false h]
        refine iteF ?_
        cases e : cd x with
        | nil => rw [e] at l1; cases l1
        | cons a l =>
          rw [e] at k
          refine ⟨_, rfl, x, _, a, rfl, rfl, sz (by have := hx.2; omega), (show atI (cd x) ((0 : Nat) : Int) = some a from atI_nat (by rw [e]; rfl)), rfl, ?_⟩
          have ek : (!decide (V.str ⟨#[a]⟩ = V.str "0")) = decide (([a] ++ l).head? ≠ some 48) := by
            rw [str_dec, show cd (Str.ofString "0") = [48] from f0_codes, show cd ⟨#[a]⟩ = [a] from rfl]
            by_cases h : a = 48
            · subst h; simp
            · simp [h]
          rw [ek]
          exact k _ s1
    · unfold lenB at k
      refine ⟨_, rfl, x, rfl, sz (by have := hx.2; omega), _, _, rfl, rfl, _, rfl, ?_⟩
      rw [show decide (1 ≤ (x.length : Int)) = decide (1 ≤ (cd x).length) by rw [xl]; by_cases h : 1 ≤ (cd x).length <;> simp [h] <;> omega]
      by_cases l1 : 1 ≤ (cd x).length
      · rw [decide_eq_true l1] at k ⊢
        refine iteT ⟨_, _, rfl, rfl, _, rfl, ?_⟩
        rw [show decide ((x.length : Int) ≤ 3) = decide ((cd x).length ≤ 3) by rw [xl]; by_cases h : (cd x).length ≤ 3 <;> simp [h] <;> omega]
        by_cases l3 : (cd x).length ≤ 3
        · rw [decide_eq_true l3] at k ⊢
          refine iteF ?_
          refine ⟨_, rfl, x, rfl, hx.1, fun D hD cb => ?_⟩
          refine comp_str (z := x) (fun i ys H2 => ys = ((cd x).take i).map (fun c => V.bl (digB c)) ∧ i ≤ (cd x).length ∧ Same H H2 ∧ H2 D = some (.lst ys)) (by have := hx.2; exact small1000 (by unfold Str.length at this; omega)) ?_ ?_ ?_ ?_
          · exact ⟨rfl, Nat.zero_le _, Same.upd hD, upd_same⟩
          · rintro i ys H2 ⟨rfl, _⟩; rw [List.length_map, List.length_take]; omega
          · rintro i c ys H2 hc ⟨rfl, il, s2, hD2⟩
            have hc' : (cd x)[i]? = some c := by unfold cd; rw [Array.getElem?_toList]; exact hc
            have fin : ∀ b : Bool, b = digB c → H2 D = some (.lst (((cd x).take i).map (fun c => V.bl (digB c)))) ∧ (((cd x).take i).map (fun c => V.bl (digB c)) ++ [V.bl b] = ((cd x).take (i + 1)).map (fun c => V.bl (digB c)) ∧ i + 1 ≤ (cd x).length ∧ Same H (L2.upd H2 D (.lst (((cd x).take i).map (fun c => V.bl (digB c)) ++ [V.bl b]))) ∧ (L2.upd H2 D (.lst (((cd x).take i).map (fun c => V.bl (digB c)) ++ [V.bl b]))) D = some (.lst (((cd x).take i).map (fun c => V.bl (digB c)) ++ [V.bl b]))) := fun b hb => by
              refine ⟨hD2, ?_, (List.getElem?_eq_some_iff.mp hc').1, fun z o e => ?_, upd_same⟩
              · rw [take_snoc hc', List.map_append, hb]; rfl
              · rw [upd_ne (ne_of_none e hD)]; exact s2 _ _ e
            refine tNoIf_go ⟨_, rfl, _, _, rfl, rfl, _, rfl, ?_⟩
            rw [sg_from f0_codes]
            by_cases h : 48 ≤ c
            · rw [decide_eq_true h]
              refine iteT ⟨_, _, rfl, rfl, ?_⟩
              rw [sg_to f9_codes]
              exact fin _ (by unfold digB; rw [decide_eq_true h]; rfl)
            · rw [decide_eq_false h]
              exact iteF (fin _ (by unfold digB; rw [decide_eq_false h]; rfl))
          · rintro ys H2 ⟨rfl, _, s2, hD2⟩
            rw [List.take_of_length_le (by unfold cd; simp)] at hD2
            refine ⟨D, (cd x).map digB, rfl, by rw [List.map_map]; exact hD2, ?_⟩
            rw [all_bl]
            cases ea : (cd x).all digB with
            | true => exact ⟨_, rfl, iteF (hR _ _ ⟨rfl, s2, l1, l3, ea⟩)⟩
            | false =>
              rw [ea] at k
              exact ⟨_, rfl, iteT (k _ s2)⟩
        · rw [decide_eq_false l3] at k ⊢
          exact iteT (k _ (Same.refl _))
      · rw [decide_eq_false l1] at k ⊢
        exact iteF ⟨_, rfl, iteT (k _ (Same.refl _))⟩
end

end Ov

namespace Ov
open PySem L2
abbrev sSay : Stmt := inClass (top 61) 3
/-- a thing that is no text -/
def NoTx (H : Hp) (v : V) : Prop := v = .non ∨ (∃ b, v = .bl b) ∨ (∃ i, v = .int i) ∨ ∃ a, v = .ref a ∧ ((∃ xs, H a = some (.lst xs)) ∨ (∃ xs, H a = some (.tup xs)) ∨ (∃ kv, H a = some (.dK kv)) ∨ ∃ kv, H a = some (.dT kv))
/-- a row of no form -/
def NoRow (H : Hp) (v : V) : Prop := NoTx H v ∨ ∃ s : Str, v = .str s ∧ Asc s ∧ NoForm (cd s)
theorem NoRow.same {H H' : Hp} {v : V} (h : NoRow H v) (s : Same H H') : NoRow H' v := by
  rcases h with (h | h | h | ⟨a, e, h⟩) | h
  · exact .inl (.inl h)
  · exact .inl (.inr (.inl h))
  · exact .inl (.inr (.inr (.inl h)))
  · refine .inl (.inr (.inr (.inr ⟨a, e, ?_⟩)))
    rcases h with ⟨x, h⟩ | ⟨x, h⟩ | ⟨x, h⟩ | ⟨x, h⟩
    · exact .inl ⟨x, s _ _ h⟩
    · exact .inr (.inl ⟨x, s _ _ h⟩)
    · exact .inr (.inr (.inl ⟨x, s _ _ h⟩))
    · exact .inr (.inr (.inr ⟨x, s _ _ h⟩))
  · exact .inr h
theorem NoTx.ty {K : PySem.W.Frag} {H : Hp} {v : V} (h : NoTx H v) : ∃ t, TyOf K H v t ∧ PySem.W.kitOne K t (.type "str") = some false := by
  rcases h with rfl | ⟨b, rfl⟩ | ⟨i, rfl⟩ | ⟨a, rfl, ⟨x, h⟩ | ⟨x, h⟩ | ⟨x, h⟩ | ⟨x, h⟩⟩
  · exact ⟨_, .non, rfl⟩
  · exact ⟨_, .bl _, rfl⟩
  · exact ⟨_, .int _, rfl⟩
  · exact ⟨_, .lst h, rfl⟩
  · exact ⟨_, .tup h, rfl⟩
  · exact ⟨_, .dK h, rfl⟩
  · exact ⟨_, .dT h, rfl⟩
/-- what the desk says: of a row of no form; of the two that tell it something; of the one that asks -/
def spSay (C cNF cNY : Addr) : Sp := fun vs H Q E => ∃ (x dx : Addr) (row t wd : V), vs = [.ref x, row] ∧ H x = some (.ins C dx (fld t wd)) ∧
  ((NoRow H row ∧ ∀ H', Same H H' → E (.ref cNF) none H') ∨
   (row = .str "laid" ∧ t = .non ∧ ∀ H', Same H H' → E (.ref cNY) none H') ∨
   (row = .str "laid" ∧ ∃ a b, t = .ref a ∧ wd = .ref b ∧ H a = some (.lst (tT.map sg)) ∧ H b = some (.lst (tW.map sg)) ∧ ∀ H', Same H H' → Q (.str "bare 2") H') ∨
   (row = .str "text aabaa" ∧ ∀ v a H', H' x = some (.ins C dx (fld (.ref a) wd)) → H' a = some (.lst (tT.map sg)) → Keep x H H' → Q v H') ∨
   (row = .str "word aa" ∧ ∀ v a H', H' x = some (.ins C dx (fld t (.ref a))) → H' a = some (.lst (tW.map sg)) → Keep x H H' → Q v H'))
structure NoTell (cs : List Nat) : Prop where
  text : nmOf cs = wText → rsOf cs ≠ [45] ∧ ltrs (rsOf cs) = false
  word : nmOf cs = wWord → ltrs (rsOf cs) = false
  texts : nmOf cs = wTexts → lenB (rsOf cs) = false
theorem wText_eq : cd (Str.ofString "text") = wText := by decide +kernel
theorem wWord_eq : cd (Str.ofString "word") = wWord := by decide +kernel
theorem wTexts_eq : cd (Str.ofString "texts") = wTexts := by decide +kernel
theorem wDash_eq : cd (Str.ofString "-") = [45] := by decide +kernel
theorem rs_sub : ∀ (cs : List Nat), (rsOf cs).Sublist cs := fun cs => by
  unfold rsOf
  exact (List.drop_sublist _ _).trans (List.dropWhile_sublist _)
theorem Asc.rs {s : Str} (h : Asc s) : Asc ⟨(rsOf (cd s)).toArray⟩ := by
  have sub := rs_sub (cd s)
  constructor
  · show ((rsOf (cd s)).toArray).all _ = true
    rw [Array.all_eq_true_iff_forall_mem]
    intro c hc
    have hc : c ∈ rsOf (cd s) := by simpa using hc
    have := sub.subset hc
    have h1 := h.1
    rw [Array.all_eq_true_iff_forall_mem] at h1
    exact h1 c (by unfold cd at this; simpa using this)
  · rw [str_len]
    have := sub.length_le
    have h2 := h.2
    rw [cd_len] at h2
    omega
theorem val_none {kvs : List (Key × V)} {k : Key} (h : ∀ kv ∈ kvs, kv.1 ≠ k) : valV kvs k = none := by
  unfold valV
  rw [List.find?_eq_none.mpr fun kv hkv => by simpa using h kv hkv]; rfl
section
variable {P : Program} {w : World} {K : PySem.W.Frag} {mg : Str → Option Value} {base : Heap} {C cNF cNY aOF_TEXT aOF_BOTH g1 g2 f1 f2 f3 f4 f5 : Addr}
theorem scSay : FnScope ["self", "row", "name", "blank", "rest", "deed"] ["self", "row"] (defScope sSay) := ⟨rfl, rfl, rfl, by decide +kernel, rfl, by decide +kernel, by decide +kernel⟩
theorem ok_say (M : Md K mg) (B : Bl mg) (T : DeskT K mg C) (F : MF K C "say" "Desk.say" sSay) (ONoForm : Exc K mg "NoForm" cNF) (Mtold_text : Mt P w K mg base (CXx P w) C "told_text" 1 ["self"] (spTold C cNY true)) (Mtold_word : Mt P w K mg base (CXx P w) C "told_word" 1 ["self"] (spTold C cNY false))
    (Fare_letters : Fn P w K mg base CX0 "are_letters" 2 ["row"] spLet) (Fis_length : Fn P w K mg base CX0 "is_length" 1 ["row"] spLen) (Ftell : Fn P w K mg base CX0 "tell_laid" 6 ["text", "word"] spTL) (gtell : mg "tell_laid" = some (.ref f2))
    (gOF_TEXT : mg "OF_TEXT" = some (.ref aOF_TEXT)) (gOF_BOTH : mg "OF_BOTH" = some (.ref aOF_BOTH)) (dOF_TEXT : DK K P w aOF_TEXT [(.inr "covers", .ref g1), (.inr "shortest", .ref g2)])
    (dOF_BOTH : DK K P w aOF_BOTH [(.inr "lies", .ref f1), (.inr "laid", .ref f2), (.inr "fewest", .ref f3), (.inr "wrong", .ref f4), (.inr "ends", .ref f5)]) : Mt P w K mg base (CXx P w) C "say" 7 ["self", "row"] (spSay C cNF cNY) := by
  have cDesk := T.cl
  obtain ⟨fL, fdL, Fdeed, hmL, kdeed, bdeed, _⟩ := Ftell.ex
  have e := gtell.symm.trans hmL
  cases e
  refine mt_ok F scSay (fun _ _ _ _ _ _ => us2 fun _ _ => rfl) (fun vs H Q E h => ?_) (fun f cdv A outer s H vs Q E hr h => ?_)
  · obtain ⟨x, dx, row, t, wd, rfl, _⟩ := h; rfl
  · obtain ⟨x, dx, row, t, wd, rfl, hx, h⟩ := h
    refine ⟨_, (pss_cons (ps_if (pt_not (pt_val (pe_isi B.isinst B.str bt_str (pv 1)))) (pss_one (ps_raise ONoForm pe_str)) pss_nil)
      (pss_cons (ps_asg (pe_bm PySem.F.plainAttrs_str PySem.F.slot_str_partition PySem.F.type_str_partition mt_partition (pv 1) (pa_cons pe_str pa_nil)) (pg_tup rfl (pgs_cons (pg_name (i := 2) scSay.nd rfl (.inl rfl)) (pgs_cons (pg_name (i := 3) scSay.nd rfl (.inl rfl)) (pgs_cons (pg_name (i := 4) scSay.nd rfl (.inl rfl)) pgs_nil)))))
      (pss_cons (ps_if (PW.pt (pw_and (pt_cmpR op_eq (pv 2) pe_str (nomark _)) (pw_and1 (PW.pt (pw_or (pt_cmpR op_eq (pv 4) pe_str (nomark _)) (pw_or1 (pt_val (pe_fn Fare_letters hr pass0 (pa_cons (pv 4) pa_nil))))))))) (pss_cons (ps_fld (pv 0) (pe_ifExp (pt_cmpR op_eq (pv 4) pe_str (nomark _)) (pe_lst pa_nil) (pe_listS rfl B.list (pv 4))) rfl)
      (pss_one (ps_ret (pe_fstrI (pe_lenL B.len (pe_fld (pv 0) rfl)) (by decide +kernel))))) pss_nil)
      (pss_cons (ps_if (PW.pt (pw_and (pt_cmpR op_eq (pv 2) pe_str (nomark _)) (pw_and1 (pt_val (pe_fn Fare_letters hr pass0 (pa_cons (pv 4) pa_nil)))))) (pss_cons (ps_fld (pv 0) (pe_listS rfl B.list (pv 4)) rfl)
      (pss_one (ps_ret (pe_fstrI (pe_lenL B.len (pe_fld (pv 0) rfl)) (by decide +kernel))))) pss_nil)
      (pss_cons (ps_if (PW.pt (pw_and (pt_cmpR op_eq (pv 2) pe_str (nomark _)) (pw_and1 (pt_val (pe_fn Fis_length hr pass0 (pa_cons (pv 4) pa_nil)))))) (pss_one ps_never) pss_nil)
      (pss_cons (ps_if (pt_cmpR (op_inK dOF_TEXT) (pv 1) (pe_glob (v := .ref aOF_TEXT) (by rfl) gOF_TEXT rfl) (by with_unfolding_all rfl)) (pss_cons ps_never
      (pss_one ps_never)) pss_nil)
      (pss_cons (ps_if (pt_cmpR (op_inK dOF_BOTH) (pv 1) (pe_glob (v := .ref aOF_BOTH) (by rfl) gOF_BOTH rfl) (by with_unfolding_all rfl)) (pss_cons (ps_set (i := 5) scSay.nd rfl (.inl rfl) (pe_dgetK dOF_BOTH (pe_glob (v := .ref aOF_BOTH) (by rfl) gOF_BOTH rfl) (pv 1) (fun _ _ => rfl)))
      (pss_one (ps_ret (pe_callV (y := "") (pv 5) Fdeed kdeed bdeed hr pass0 (pa_cons (pe_mth0 (pv 0) cDesk Mtold_text hr pass_x) (pa_cons (pe_mth0 (pv 0) cDesk Mtold_word hr pass_x) pa_nil)))))) pss_nil)
      (pss_one (ps_raise ONoForm pe_str))))))))), ?_⟩
    by_cases hrow : ¬ ∃ s, row = .str s
    · rcases h with ⟨h | ⟨s, e, _⟩, kE⟩ | ⟨e, _⟩ | ⟨e, _⟩ | ⟨e, _⟩ | ⟨e, _⟩
      · obtain ⟨ty, hty, hk⟩ := h.ty (K := K)
        exact ⟨_, rfl, ty, false, hty, hk, _, rfl, iteT ⟨rfl, kE _ (Same.refl _)⟩⟩
      all_goals exact absurd ⟨_, e⟩ hrow
    obtain ⟨s0, rfl⟩ := Classical.not_not.mp hrow
    clear hrow
    have asc : Asc s0 := by
      rcases h with ⟨(h | ⟨_, h⟩ | ⟨_, h⟩ | ⟨_, h, _⟩) | ⟨s, e, h, _⟩, kE⟩ | ⟨e, _⟩ | ⟨e, _⟩ | ⟨e, _⟩ | ⟨e, _⟩
      · cases h
      · cases h
      · cases h
      · cases h
      · cases e; exact h
      all_goals (cases e; exact ⟨by decide +kernel, by decide +kernel⟩)
    refine ⟨_, rfl, _, true, TyOf.str _, rfl, _, rfl, iteF ?_⟩
    refine ⟨_, rfl, rfl, s0, " ", rfl, rfl, by decide +kernel, sz (by have := asc.2; omega), fun q hq => ?_⟩
    obtain ⟨mid, e3⟩ := cut3_blank s0
    rw [e3]
    have s1 := Same.upd (o := .tup (List.map V.str [⟨(nmOf (cd s0)).toArray⟩, mid, ⟨(rsOf (cd s0)).toArray⟩])) hq
    have hq1 := upd_same (H := H) (a := q) (o := .tup (List.map V.str [⟨(nmOf (cd s0)).toArray⟩, mid, ⟨(rsOf (cd s0)).toArray⟩]))
    generalize L2.upd H q (.tup (List.map V.str [⟨(nmOf (cd s0)).toArray⟩, mid, ⟨(rsOf (cd s0)).toArray⟩])) = H1 at s1 hq1 ⊢
    refine ⟨q, _, rfl, SqT.of hq1, rfl, _, _, rfl, _, _, rfl, _, _, rfl, rfl, ?_⟩
    have ascR := asc.rs
    have decN : ∀ z : Str, decide (V.str ⟨(nmOf (cd s0)).toArray⟩ = V.str z) = decide (nmOf (cd s0) = cd z) := fun z => by rw [str_dec, cd_mk (nmOf (cd s0))]
    have decR : decide (V.str ⟨(rsOf (cd s0)).toArray⟩ = V.str "-") = decide (rsOf (cd s0) = [45]) := by rw [str_dec, cd_mk (rsOf (cd s0)), wDash_eq]
    have hx1 := s1 _ _ hx
    rcases (show (NoTell (cd s0) ∧ ((cd s0 ∉ deeds ∧ ∀ H', Same H H' → E (.ref cNF) none H') ∨ (s0 = "laid" ∧ ((t = .non ∧ ∀ H', Same H H' → E (.ref cNY) none H') ∨ ∃ a b, t = .ref a ∧ wd = .ref b ∧ H a = some (.lst (tT.map sg)) ∧ H b = some (.lst (tW.map sg)) ∧ ∀ H', Same H H' → Q (.str "bare 2") H')))) ∨ (s0 = "text aabaa" ∧ ∀ v a H', H' x = some (.ins C dx (fld (.ref a) wd)) → H' a = some (.lst (tT.map sg)) → Keep x H H' → Q v H') ∨ (s0 = "word aa" ∧ ∀ v a H', H' x = some (.ins C dx (fld t (.ref a))) → H' a = some (.lst (tW.map sg)) → Keep x H H' → Q v H') by
      rcases h with ⟨(h | ⟨_, h⟩ | ⟨_, h⟩ | ⟨_, h, _⟩) | ⟨s, e, _, h⟩, kE⟩ | ⟨e, h⟩ | ⟨e, h⟩ | ⟨e, h⟩ | ⟨e, h⟩
      · cases h
      · cases h
      · cases h
      · cases h
      · cases e; exact .inl ⟨⟨h.text, h.word, h.texts⟩, .inl ⟨h.deed, kE⟩⟩
      · cases e; exact .inl ⟨⟨by decide +kernel, by decide +kernel, by decide +kernel⟩, .inr ⟨rfl, .inl h⟩⟩
      · cases e; exact .inl ⟨⟨by decide +kernel, by decide +kernel, by decide +kernel⟩, .inr ⟨rfl, .inr h⟩⟩
      · cases e; exact .inr (.inl ⟨rfl, h⟩)
      · cases e; exact .inr (.inr ⟨rfl, h⟩)) with ⟨nt, hn⟩ | ⟨e, k⟩ | ⟨e, k⟩
    · -- the three ifs that tell
      dsimp only
      refine meet_if (fun σ H' => σ = [some (.ref x), some (.str s0), some (.str ⟨(nmOf (cd s0)).toArray⟩), some (.str mid), some (.str ⟨(rsOf (cd s0)).toArray⟩), none] ∧ Same H1 H') ?_ fun R hR => ?_
      rotate_left
      · refine ⟨_, rfl, rfl, _, rfl, ?_⟩
        rw [decN, wText_eq]
        by_cases h : nmOf (cd s0) = wText
        · rw [decide_eq_true h]
          refine iteT ⟨_, rfl, rfl, _, rfl, ?_⟩
          rw [decR, decide_eq_false (nt.text h).1]
          refine iteF ⟨_, rfl, _, rfl, ascR, fun H2 s2 => ?_⟩
          rw [cd_mk (rsOf (cd s0)), (nt.text h).2]
          exact ⟨_, rfl, iteF (hR _ _ ⟨rfl, s2⟩)⟩
        · rw [decide_eq_false h]
          exact iteF (iteF (hR _ _ ⟨rfl, Same.refl _⟩))
      rintro σ H2 ⟨rfl, s2⟩
      refine meet_if (fun σ H' => σ = [some (.ref x), some (.str s0), some (.str ⟨(nmOf (cd s0)).toArray⟩), some (.str mid), some (.str ⟨(rsOf (cd s0)).toArray⟩), none] ∧ Same H1 H') ?_ fun R hR => ?_
      rotate_left
      · refine ⟨_, rfl, rfl, _, rfl, ?_⟩
        rw [decN, wWord_eq]
        by_cases h : nmOf (cd s0) = wWord
        · rw [decide_eq_true h]
          refine iteT ⟨_, rfl, _, rfl, ascR, fun H3 s3 => ?_⟩
          rw [cd_mk (rsOf (cd s0)), nt.word h]
          exact ⟨_, rfl, iteF (hR _ _ ⟨rfl, s2.trans s3⟩)⟩
        · rw [decide_eq_false h]
          exact iteF (iteF (hR _ _ ⟨rfl, s2⟩))
      clear s2
      rintro σ H2 ⟨rfl, s2⟩
      refine meet_if (fun σ H' => σ = [some (.ref x), some (.str s0), some (.str ⟨(nmOf (cd s0)).toArray⟩), some (.str mid), some (.str ⟨(rsOf (cd s0)).toArray⟩), none] ∧ Same H1 H') ?_ fun R hR => ?_
      rotate_left
      · refine ⟨_, rfl, rfl, _, rfl, ?_⟩
        rw [decN, wTexts_eq]
        by_cases h : nmOf (cd s0) = wTexts
        · rw [decide_eq_true h]
          refine iteT ⟨_, rfl, _, rfl, ascR, fun H3 s3 => ?_⟩
          rw [cd_mk (rsOf (cd s0)), nt.texts h]
          exact ⟨_, rfl, iteF (hR _ _ ⟨rfl, s2.trans s3⟩)⟩
        · rw [decide_eq_false h]
          exact iteF (iteF (hR _ _ ⟨rfl, s2⟩))
      clear s2
      rintro σ H2 ⟨rfl, s2⟩
      have s02 := s1.trans s2
      have dd : ∀ d ∈ ["covers", "shortest", "lies", "laid", "fewest", "wrong", "ends"], cd (Str.ofString d) ∈ deeds := by decide +kernel
      have n1 : valV [((.inr "covers" : Key), V.ref g1), (.inr "shortest", .ref g2)] (.inr s0) = none := by
        have : s0 ≠ "covers" ∧ s0 ≠ "shortest" := by
          rcases hn with ⟨hn, _⟩ | ⟨rfl, _⟩
          · exact ⟨fun e => hn (e ▸ dd "covers" (by simp)), fun e => hn (e ▸ dd "shortest" (by simp))⟩
          · exact ⟨by decide +kernel, by decide +kernel⟩
        refine val_none fun kv hkv => ?_
        simp only [List.mem_cons, List.not_mem_nil, or_false] at hkv
        rcases hkv with rfl | rfl
        · exact fun e => this.1 (Sum.inr.inj e).symm
        · exact fun e => this.2 (Sum.inr.inj e).symm
      refine ⟨_, rfl, rfl, .inr s0, rfl, _, rfl, ?_⟩
      rw [n1]
      refine iteF ?_
      rcases hn with ⟨hn, kE⟩ | ⟨rfl, hn⟩
      · have n2 : valV [((.inr "lies" : Key), V.ref f1), (.inr "laid", .ref f2), (.inr "fewest", .ref f3), (.inr "wrong", .ref f4), (.inr "ends", .ref f5)] (.inr s0) = none := by
          refine val_none fun kv hkv => ?_
          simp only [List.mem_cons, List.not_mem_nil, or_false] at hkv
          rcases hkv with rfl | rfl | rfl | rfl | rfl
          · exact fun e => hn ((Sum.inr.inj e) ▸ dd "lies" (by simp))
          · exact fun e => hn ((Sum.inr.inj e) ▸ dd "laid" (by simp))
          · exact fun e => hn ((Sum.inr.inj e) ▸ dd "fewest" (by simp))
          · exact fun e => hn ((Sum.inr.inj e) ▸ dd "wrong" (by simp))
          · exact fun e => hn ((Sum.inr.inj e) ▸ dd "ends" (by simp))
        refine ⟨_, rfl, rfl, .inr s0, rfl, _, rfl, ?_⟩
        rw [n2]
        exact iteF ⟨rfl, kE _ s02⟩
      · have n2 : valV [((.inr "lies" : Key), V.ref f1), (.inr "laid", .ref f2), (.inr "fewest", .ref f3), (.inr "wrong", .ref f4), (.inr "ends", .ref f5)] (.inr "laid") = some (.ref f2) := by
          unfold valV
          have ne : (Sum.inr (Str.ofString "lies") : Key) ≠ .inr "laid" := by decide +kernel
          rw [List.find?_cons_of_neg (p := fun kv : Key × V => decide (kv.1 = .inr "laid")) (fun h => ne (of_decide_eq_true h)), List.find?_cons_of_pos (p := fun kv : Key × V => decide (kv.1 = .inr "laid")) (decide_eq_true rfl)]; rfl
        refine ⟨_, rfl, rfl, .inr "laid", rfl, _, rfl, ?_⟩
        rw [n2]
        refine iteT ?_
        refine ⟨_, rfl, rfl, .inr "laid", .ref f2, rfl, n2, ?_⟩
        have nT : ¬ (("told_text" : Str) = "word") ∧ ¬ (("told_text" : Str) = "text") ∧ ¬ (("told_word" : Str) = "word") ∧ ¬ (("told_word" : Str) = "text") := by decide +kernel
        have hx2 := s02 _ _ hx
        refine ⟨rfl, _, rfl, x, dx, _, rfl, hx2, fld_no _ _ nT.1 nT.2.1, x, dx, t, wd, rfl, hx2, fun e => ?_, fun e => ?_⟩
        · rcases hn with ⟨_, kE⟩ | ⟨a, b, rfl, _⟩
          · exact kE _ s02
          · cases e
        · rcases hn with ⟨rfl, _⟩ | ⟨a, b, rfl, rfl, ha, hb, k⟩
          · exact absurd rfl e
          refine ⟨_, rfl, x, dx, _, rfl, hx2, fld_no _ _ nT.2.2.1 nT.2.2.2, x, dx, _, _, rfl, hx2, fun e => (nomatch e), fun _ => ?_⟩
          exact ⟨a, b, rfl, s02 _ _ ha, s02 _ _ hb, fun H3 s3 => k _ (s02.trans s3)⟩
    · subst e
      have e1 : nmOf (cd (Str.ofString "text aabaa")) = wText := by decide +kernel
      have e2 : rsOf (cd (Str.ofString "text aabaa")) = tT := by decide +kernel
      refine ⟨_, rfl, rfl, _, rfl, ?_⟩
      rw [decN, wText_eq, e1, decide_eq_true rfl]
      refine iteT ⟨_, rfl, rfl, _, rfl, ?_⟩
      rw [decR, e2, decide_eq_false (by decide)]
      refine iteF ⟨_, rfl, _, rfl, by rw [← e2]; exact ascR, fun H2 s2 => ?_⟩
      rw [cd_mk tT, show ltrs tT = true by decide]
      refine ⟨_, rfl, iteT ?_⟩
      refine ⟨_, rfl, rfl, _, rfl, ?_⟩
      rw [show decide (V.str ⟨tT.toArray⟩ = V.str "-") = false by decide +kernel]
      refine iteF ⟨_, rfl, _, rfl, by decide +kernel, fun l hl => ?_⟩
      have s3 := Same.upd (o := .lst (List.map sg (⟨tT.toArray⟩ : Str).cps.toList)) hl
      have hl3 : (L2.upd H2 l (.lst (List.map sg (⟨tT.toArray⟩ : Str).cps.toList))) l = some (.lst (tT.map sg)) := by rw [upd_same]
      generalize L2.upd H2 l (.lst (List.map sg (⟨tT.toArray⟩ : Str).cps.toList)) = H3 at s3 hl3 ⊢
      have s03 := (s1.trans s2).trans s3
      have hx3 := s03 _ _ hx
      have nlx : l ≠ x := ne_of hl3 hx3 (by intro z; cases z)
      refine ⟨_, rfl, x, C, dx, _, rfl, hx3, T.cl, T.nT, (by show 2 < 1000; decide), ?_⟩
      rw [fld_putT]
      refine ⟨_, rfl, x, C, dx, _, _, rfl, upd_same, T.cl, T.nT, fld_text _ _, l, _, rfl, SqL.of (by rw [upd_ne nlx]; exact hl3), _, rfl, by decide +kernel, ?_⟩
      refine k _ l _ upd_same (by rw [upd_ne nlx]; exact hl3) fun z o hz n => ?_
      rw [upd_ne n]; exact s03 _ _ hz
    · subst e
      have e1 : nmOf (cd (Str.ofString "word aa")) = wWord := by decide +kernel
      have e2 : rsOf (cd (Str.ofString "word aa")) = tW := by decide +kernel
      have d1 : decide (V.str ⟨(nmOf (cd (Str.ofString "word aa"))).toArray⟩ = V.str "text") = false := by rw [decN, wText_eq, e1]; decide
      have d2 : decide (V.str ⟨(nmOf (cd (Str.ofString "word aa"))).toArray⟩ = V.str "word") = true := by rw [decN, wWord_eq, e1]; decide
      refine ⟨_, rfl, rfl, _, rfl, ?_⟩
      rw [d1]
      refine iteF (iteF ?_)
      refine ⟨_, rfl, rfl, _, rfl, ?_⟩
      rw [d2]
      refine iteT ⟨_, rfl, _, rfl, ascR, fun H2 s2 => ?_⟩
      rw [e2, cd_mk tW, show ltrs tW = true by decide]
      refine ⟨_, rfl, iteT ?_⟩
      refine ⟨_, rfl, _, rfl, by decide +kernel, fun l hl => ?_⟩
      have s3 := Same.upd (o := .lst (List.map sg (⟨tW.toArray⟩ : Str).cps.toList)) hl
      have hl3 : (L2.upd H2 l (.lst (List.map sg (⟨tW.toArray⟩ : Str).cps.toList))) l = some (.lst (tW.map sg)) := by rw [upd_same]
      generalize L2.upd H2 l (.lst (List.map sg (⟨tW.toArray⟩ : Str).cps.toList)) = H3 at s3 hl3 ⊢
      have s03 := (s1.trans s2).trans s3
      have hx3 := s03 _ _ hx
      have nlx : l ≠ x := ne_of hl3 hx3 (by intro z; cases z)
      refine ⟨_, rfl, x, C, dx, _, rfl, hx3, T.cl, T.nW, (by show 2 < 1000; decide), ?_⟩
      rw [fld_putW]
      refine ⟨_, rfl, x, C, dx, _, _, rfl, upd_same, T.cl, T.nW, fld_word _ _, l, _, rfl, SqL.of (by rw [upd_ne nlx]; exact hl3), _, rfl, by decide +kernel, ?_⟩
      refine k _ l _ upd_same (by rw [upd_ne nlx]; exact hl3) fun z o hz n => ?_
      rw [upd_ne n]; exact s03 _ _ hz
end

end Ov

namespace Ov
open PySem L2
abbrev sClass : Stmt := top 68
def noneF : List Bool := [false, false, false, false, false, false, true, false, false, false]
def nyF : List Bool := [false, false, false, false, false, false, false, false, true, false]
def spClass (cNF cNY : Addr) : Sp := fun vs H Q _ => ∃ (e D : Addr), vs = [.ref e] ∧ H e = some (.ext (excAt e (.ref D))) ∧ (D = cNF ∨ D = cNY) ∧ ∀ (r : Addr) (H' : Hp), H r = none → (D = cNF → H' r = some (.lst (noneF.map V.bl))) → (D = cNY → H' r = some (.lst (nyF.map V.bl))) → Same H H' → Q (.ref r) H'
section
variable {P : Program} {w : World} {K : PySem.W.Frag} {mg : Str → Option Value} {base : Heap} {cCoverError cNoWord cNoSign cNoText cNoCover cNoChain cNoForm cNoNumber cNoneYet cTooMany : Addr}
theorem scClass : FnScope ["e", "flags"] ["e"] (defScope sClass) := ⟨rfl, rfl, rfl, by decide +kernel, rfl, by decide +kernel, by decide +kernel⟩
theorem ok_classH (M : Md K mg) (B : Bl mg) (F : FF K "_law_class" sClass) (S : Exs K mg cCoverError cNoWord cNoSign cNoText cNoCover cNoChain cNoForm cNoNumber cNoneYet cTooMany) : FnH P w K mg base "_law_class" 1 ["e"] (spClass cNoForm cNoneYet) := by
  obtain ⟨bCoverError, bNoWord, bNoSign, bNoText, bNoCover, bNoChain, bNoForm, bNoNumber, bNoneYet, bTooMany, nValueError, facts, nd⟩ := S
  refine fnH_ok M F scClass (fun _ _ _ _ _ _ => us1 fun _ => rfl) (fun vs H Q E h => ?_) (fun f cdv A outer s H vs Q hr h => ?_)
  · obtain ⟨e, D, rfl, _⟩ := h; rfl
  · obtain ⟨e, D, rfl, hH, hD, k⟩ := h
    have hm : D ∈ [cNoWord, cNoSign, cNoText, cNoCover, cNoChain, cNoForm, cNoNumber, cNoneYet, cTooMany] := by rcases hD with rfl | rfl <;> simp
    have hF := excFacts.of facts D hm
    have efl : (D = cNoForm → [D == cNoWord, D == cNoSign, D == cNoText, D == cTooMany, D == cNoChain, D == cNoCover, D == cNoForm, D == cNoNumber, D == cNoneYet, false] = noneF) ∧ (D = cNoneYet → [D == cNoWord, D == cNoSign, D == cNoText, D == cTooMany, D == cNoChain, D == cNoCover, D == cNoForm, D == cNoNumber, D == cNoneYet, false] = nyF) := by
      have ne : ∀ x y : Addr, x ≠ y → (x == y) = false := fun x y q => beq_eq_false_iff_ne.mpr q
      simp only [List.nodup_cons, List.mem_cons, List.not_mem_nil, or_false, not_or] at nd
      obtain ⟨⟨_, _, _, _, a5, a6, a7, a8⟩, ⟨_, _, _, b5, b6, b7, b8⟩, ⟨_, _, c5, c6, c7, c8⟩, ⟨_, d5, d6, d7, d8⟩, ⟨e5, e6, e7, e8⟩, ⟨f6, f7, f8⟩, ⟨g7, g8⟩, h8, _⟩ := nd
      constructor
      · rintro rfl
        rw [ne _ _ (Ne.symm a5), ne _ _ (Ne.symm b5), ne _ _ (Ne.symm c5), ne _ _ f8, ne _ _ (Ne.symm e5), ne _ _ (Ne.symm d5), beq_self_eq_true, ne _ _ f6, ne _ _ f7]; rfl
      · rintro rfl
        rw [ne _ _ (Ne.symm a7), ne _ _ (Ne.symm b7), ne _ _ (Ne.symm c7), ne _ _ h8, ne _ _ (Ne.symm e7), ne _ _ (Ne.symm d7), ne _ _ (Ne.symm f7), ne _ _ (Ne.symm g7), beq_self_eq_true]; rfl
    refine ⟨_, (pss_cons (ps_set (i := 1) scClass.nd rfl (.inl rfl) (pe_lst (pa_cons (pe_isE B.isinst bNoWord (pv 0)) (pa_cons (pe_isE B.isinst bNoSign (pv 0)) (pa_cons (pe_isE B.isinst bNoText (pv 0)) (pa_cons (pe_isE B.isinst bTooMany (pv 0)) pa_nil))))))
      (pss_cons (ps_set (i := 1) scClass.nd rfl (.inl rfl) (pe_op op_cat (pv 1) (pe_lst (pa_cons (pe_isE B.isinst bNoChain (pv 0)) (pa_cons (pe_isE B.isinst bNoCover (pv 0)) (pa_cons (pe_isE B.isinst bNoForm (pv 0)) (pa_cons (pe_isE B.isinst bNoNumber (pv 0)) pa_nil)))))))
      (pss_one (ps_ret (pe_op op_cat (pv 1) (pe_lst (pa_cons (pe_isE B.isinst bNoneYet (pv 0)) (pa_cons (pe_not (pe_isEB B.isinst nValueError bt_ValueError (pv 0))) pa_nil)))))))), ?_⟩
    refine seq_set ?_
    refine ⟨_, rfl, e, D, _, rfl, hH, hF.kit, hF.one cNoWord (by simp), _, rfl, e, D, _, rfl, hH, hF.kit, hF.one cNoSign (by simp), _, rfl, e, D, _, rfl, hH, hF.kit, hF.one cNoText (by simp), _, rfl, e, D, _, rfl, hH, hF.kit, hF.one cTooMany (by simp), by show 4 ≤ sizeLine; decide, fun l hl => ?_⟩
    have s1 := Same.upd (o := .lst [V.bl (D == cNoWord), .bl (D == cNoSign), .bl (D == cNoText), .bl (D == cTooMany)]) hl
    have hl1 := upd_same (H := H) (a := l) (o := .lst [V.bl (D == cNoWord), .bl (D == cNoSign), .bl (D == cNoText), .bl (D == cTooMany)])
    generalize L2.upd H l (.lst [V.bl (D == cNoWord), .bl (D == cNoSign), .bl (D == cNoText), .bl (D == cTooMany)]) = H2 at s1 hl1 ⊢
    have hH2 := s1 _ _ hH
    refine seq_set ?_
    refine ⟨_, rfl, _, rfl, e, D, _, rfl, hH2, hF.kit, hF.one cNoChain (by simp), _, rfl, e, D, _, rfl, hH2, hF.kit, hF.one cNoCover (by simp), _, rfl, e, D, _, rfl, hH2, hF.kit, hF.one cNoForm (by simp), _, rfl, e, D, _, rfl, hH2, hF.kit, hF.one cNoNumber (by simp), by show 4 ≤ sizeLine; decide, fun l2 hl2 => ?_⟩
    have s2 := Same.upd (o := .lst [V.bl (D == cNoChain), .bl (D == cNoCover), .bl (D == cNoForm), .bl (D == cNoNumber)]) hl2
    have hl22 := upd_same (H := H2) (a := l2) (o := .lst [V.bl (D == cNoChain), .bl (D == cNoCover), .bl (D == cNoForm), .bl (D == cNoNumber)])
    generalize L2.upd H2 l2 (.lst [V.bl (D == cNoChain), .bl (D == cNoCover), .bl (D == cNoForm), .bl (D == cNoNumber)]) = H3 at s2 hl22 ⊢
    refine ⟨l, l2, _, _, rfl, rfl, s2 _ _ hl1, hl22, by show 8 ≤ sizeLine; decide, fun l3 hl3 => ?_⟩
    have s3 := Same.upd (o := .lst ([V.bl (D == cNoWord), .bl (D == cNoSign), .bl (D == cNoText), .bl (D == cTooMany)] ++ [V.bl (D == cNoChain), .bl (D == cNoCover), .bl (D == cNoForm), .bl (D == cNoNumber)])) hl3
    have hl33 := upd_same (H := H3) (a := l3) (o := .lst ([V.bl (D == cNoWord), .bl (D == cNoSign), .bl (D == cNoText), .bl (D == cTooMany)] ++ [V.bl (D == cNoChain), .bl (D == cNoCover), .bl (D == cNoForm), .bl (D == cNoNumber)]))
    generalize L2.upd H3 l3 (.lst ([V.bl (D == cNoWord), .bl (D == cNoSign), .bl (D == cNoText), .bl (D == cTooMany)] ++ [V.bl (D == cNoChain), .bl (D == cNoCover), .bl (D == cNoForm), .bl (D == cNoNumber)])) = H4 at s3 hl33 ⊢
    have hH4 := s3 _ _ (s2 _ _ hH2)
    refine ⟨_, rfl, _, rfl, e, D, _, rfl, hH4, hF.kit, hF.one cNoneYet (by simp), _, rfl, e, D, _, rfl, hH4, hF.kit, hF.val, _, rfl, by show 2 ≤ sizeLine; decide, fun l4 hl4 => ?_⟩
    have s4 := Same.upd (o := .lst [V.bl (D == cNoneYet), .bl false]) hl4
    have hl44 := upd_same (H := H4) (a := l4) (o := .lst [V.bl (D == cNoneYet), .bl false])
    refine ⟨l3, l4, _, _, rfl, rfl, s4 _ _ hl33, hl44, by show 10 ≤ sizeLine; decide, fun l5 hl5 => ?_⟩
    have s14 := ((s1.trans s2).trans s3).trans s4
    refine k l5 _ (s14.free hl5) (fun z => ?_) (fun z => ?_) (s14.trans (Same.upd hl5))
    · rw [upd_same, ← efl.1 z]; rfl
    · rw [upd_same, ← efl.2 z]; rfl
end

end Ov

namespace Ov
open PySem L2
abbrev sSaid : Stmt := top 69
theorem meet_try {K : PySem.W.Frag} {C : Addr} {i : Nat} {tb : St → XK → TS} {th rest : TS} {D : Ends} {σ : St} {H : Hp} (T : St → Hp → Prop) (hr : ∀ σ' H', T σ' H' → rest D σ' H') (h : ∀ R : St → Hp → Prop, (∀ σ' H', T σ' H' → R σ' H') → tTry K C i tb th { D with nx := R } σ H) : tSeq (tTry K C i tb th) rest D σ H := h (rest D) hr
theorem try_by {K : PySem.W.Frag} {C : Addr} {i : Nat} {tb : St → XK → TS} {th : TS} {D : Ends} {σ : St} {H : Hp} (Ex : XK) (hEx : ∀ cls o H', Ex cls o H' → PySem.W.exmOne K cls (.ref C) = some true ∧ ∀ e, H' e = none → th (D.drop i) (σ.set i (some (.ref e))) (L2.upd H' e (.ext (excAt e cls)))) (hb : ∀ Ex' : XK, (∀ cls o H', Ex cls o H' → Ex' cls o H') → tb σ Ex' D σ H) : tTry K C i tb th D σ H := hb _ hEx
/-- what is said of a row of no form; of 'laid' -/
def spSaid (C : Addr) : Sp := fun vs H Q _ => ∃ (x dx : Addr) (row t wd : V), vs = [.ref x, row] ∧ H x = some (.ins C dx (fld t wd)) ∧
  ((NoRow H row ∧ ∀ r H', H r = none → H' r = some (.lst (noneF.map V.bl)) → Same H H' → Q (.ref r) H') ∨
   (row = .str "laid" ∧ t = .non ∧ ∀ r H', H r = none → H' r = some (.lst (nyF.map V.bl)) → Same H H' → Q (.ref r) H') ∨
   (row = .str "laid" ∧ ∃ a b, t = .ref a ∧ wd = .ref b ∧ H a = some (.lst (tT.map sg)) ∧ H b = some (.lst (tW.map sg)) ∧ ∀ H', Same H H' → Q (.str "bare 2") H'))
section
variable {P : Program} {w : World} {K : PySem.W.Frag} {mg : Str → Option Value} {base : Heap} {C cCoverError cNoWord cNoSign cNoText cNoCover cNoChain cNoForm cNoNumber cNoneYet cTooMany : Addr}
theorem scSaid : FnScope ["desk", "row", "found", "e"] ["desk", "row"] (defScope sSaid) := ⟨rfl, rfl, rfl, by decide +kernel, rfl, by decide +kernel, by decide +kernel⟩
theorem ok_said (M : Md K mg) (B : Bl mg) (T : DeskT K mg C) (F : FF K "_law_said" sSaid) (S : Exs K mg cCoverError cNoWord cNoSign cNoText cNoCover cNoChain cNoForm cNoNumber cNoneYet cTooMany) (Msay : Mt P w K mg base (CXx P w) C "say" 7 ["self", "row"] (spSay C cNoForm cNoneYet))
    (F_law_class : FnH P w K mg base "_law_class" 1 ["e"] (spClass cNoForm cNoneYet)) : Fn P w K mg base CX0 "_law_said" 8 ["desk", "row"] (spSaid C) := by
  have cDesk := T.cl
  have bCoverError := S.bCoverError
  have hF := excFacts.of S.facts cNoForm (by simp)
  have hY := excFacts.of S.facts cNoneYet (by simp)
  have nfy : cNoForm ≠ cNoneYet := by
    have nd := S.nd
    simp only [List.nodup_cons, List.mem_cons, List.not_mem_nil, or_false, not_or] at nd
    exact nd.2.2.2.2.2.1.2.1
  have nS : ¬ (("say" : Str) = "word") ∧ ¬ (("say" : Str) = "text") := by decide +kernel
  refine fn_ok M F scSaid (fun _ _ _ _ _ _ => us2 fun _ _ => rfl) (fun vs H Q E h => ?_) (fun f cdv A outer s H vs Q E hr h => ?_)
  · obtain ⟨x, dx, row, t, wd, rfl, _⟩ := h; rfl
  · obtain ⟨x, dx, row, t, wd, rfl, hx, h⟩ := h
    refine ⟨_, (pss_cons (ps_set (i := 2) scSaid.nd rfl (.inl rfl) pe_non)
      (pss_cons (ps_try (i := 3) bCoverError scSaid.nd rfl rfl (fun _ _ _ => by exact (pss_one (ps_set (i := 2) scSaid.nd rfl (.inl rfl) (pe_mthT (pv 0) cDesk Msay hr (pa_cons (pv 1) pa_nil)))))
      (fun _ _ => by exact (pss_one (ps_set (i := 2) scSaid.nd rfl (.inl rfl) (pe_fnH F_law_class (roomH hr) (pa_cons (pv 3) pa_nil))))))
      (pss_one (ps_ret (pv 2))))), ?_⟩
    refine seq_setC ?_
    refine meet_try (fun σ H' => ∃ v, σ[2]? = some (some v) ∧ Q v H') (fun σ H' h => ?_) fun R hR => ?_
    · obtain ⟨v, hv, q⟩ := h
      exact ⟨_, hv, q⟩
    refine try_by (fun cls _ H' => Same H H' ∧ ((cls = .ref cNoForm ∧ ∀ r H', H r = none → H' r = some (.lst (noneF.map V.bl)) → Same H H' → Q (.ref r) H') ∨ (cls = .ref cNoneYet ∧ ∀ r H', H r = none → H' r = some (.lst (nyF.map V.bl)) → Same H H' → Q (.ref r) H'))) ?_ fun Ex hEx => ?_
    · rintro _ _ H' ⟨s', ⟨rfl, k⟩ | ⟨rfl, k⟩⟩
      · refine ⟨hF.exm, fun e he => ?_⟩
        have se := Same.upd (o := .ext (excAt e (.ref cNoForm))) he
        refine ⟨_, rfl, e, cNoForm, rfl, upd_same, .inl rfl, fun r H2 hr0 hr2 _ s2 => hR _ _ ⟨.ref r, rfl, k r H2 ((s'.trans se).free hr0) (hr2 rfl) ((s'.trans se).trans s2)⟩⟩
      · refine ⟨hY.exm, fun e he => ?_⟩
        have se := Same.upd (o := .ext (excAt e (.ref cNoneYet))) he
        refine ⟨_, rfl, e, cNoneYet, rfl, upd_same, .inr rfl, fun r H2 hr0 _ hr2 s2 => hR _ _ ⟨.ref r, rfl, k r H2 ((s'.trans se).free hr0) (hr2 rfl) ((s'.trans se).trans s2)⟩⟩
    · refine ⟨rfl, _, rfl, x, dx, _, rfl, hx, fld_no _ _ nS.1 nS.2, _, rfl, x, dx, row, t, wd, rfl, hx, ?_⟩
      rcases h with ⟨h, k⟩ | ⟨rfl, rfl, k⟩ | ⟨rfl, a, b, rfl, rfl, ha, hb, k⟩
      · exact .inl ⟨h, fun H' s' => hEx _ _ _ ⟨s', .inl ⟨rfl, k⟩⟩⟩
      · exact .inr (.inl ⟨rfl, rfl, fun H' s' => hEx _ _ _ ⟨s', .inr ⟨rfl, k⟩⟩⟩)
      · exact .inr (.inr (.inl ⟨rfl, a, b, rfl, rfl, ha, hb, fun H' s' => hR _ _ ⟨_, rfl, k H' s'⟩⟩))
end

end Ov

namespace Ov
open PySem L2
abbrev sSignsL : Stmt := top 71
def okV : V → Bool
  | .str s => s.cps.all (· < 128) && decide (s.length ≤ 400) && noFormB (cd s)
  | _ => false
def GoodS (v : V) : Prop := ∃ s : Str, v = .str s ∧ Asc s ∧ NoForm (cd s)
theorem good_of : ∀ {v : V}, okV v = true → GoodS v
  | .str s, h => by
    unfold okV at h
    rw [Bool.and_eq_true, Bool.and_eq_true, decide_eq_true_eq] at h
    exact ⟨s, rfl, ⟨h.1.1, h.1.2⟩, .of h.2⟩
  | .non, h => (nomatch h)
  | .bl _, h => (nomatch h)
  | .int _, h => (nomatch h)
  | .byt _, h => (nomatch h)
  | .flt _, h => (nomatch h)
  | .ref _, h => (nomatch h)
  | .ty _, h => (nomatch h)
/-- so many rows of no form, texts all -/
def Rows (xs : List V) (n : Nat) : Prop := xs.length = n ∧ ∀ v ∈ xs, GoodS v
theorem cat_rows {H : Hp} {l : Addr} {xs ys : List V} {n : Nat} {Q : VK} (m : Nat) (hl : H l = some (.lst xs)) (hx : Rows xs n) (hy : ys.all okV = true) (hm : n + ys.length = m) (hz : m ≤ 400) (k : ∀ r H' zs, H' r = some (.lst zs) → Rows zs m → Same H H' → Q (.ref r) H') :
    ys.length ≤ sizeLine ∧ ∀ p, H p = none → rCat (.ref l) (.ref p) (L2.upd H p (.lst ys)) Q := by
  refine ⟨sz (by omega), fun p hp => ?_⟩
  have s1 := Same.upd (o := .lst ys) hp
  refine ⟨l, p, _, _, rfl, rfl, s1 _ _ hl, upd_same, sz (by rw [hx.1]; omega), fun r hr => ?_⟩
  refine k r _ _ upd_same ⟨by rw [List.length_append, hx.1]; exact hm, fun v hv => ?_⟩ (s1.trans (Same.upd hr))
  rcases List.mem_append.mp hv with hv | hv
  · exact hx.2 v hv
  · exact good_of (List.all_eq_true.mp hy v hv)
def spMenu : Sp := fun vs H Q _ => vs = [] ∧ ∀ r H' zs, H' r = some (.lst zs) → zs.length = 76 → (∀ v ∈ zs, NoRow H' v) → Same H H' → Q (.ref r) H'
def spSignsL : Sp := fun vs H Q _ => vs = [] ∧ Q (.str ⟨signL.toArray⟩) H
section
variable {P : Program} {w : World} {K : PySem.W.Frag} {mg : Str → Option Value} {base : Heap}
theorem scSignsL : FnScope [] [] (defScope sSignsL) := ⟨rfl, rfl, rfl, by decide +kernel, rfl, by decide +kernel, by decide +kernel⟩
theorem ok_signsL (M : Md K mg) (F : FF K "_law_signs" sSignsL) : Fn P w K mg base CX0 "_law_signs" 1 [] spSignsL := by
  refine fn_ok M F scSignsL (fun _ _ _ _ _ _ us hl => match us, hl with | .nil, _ => rfl) (fun vs H Q E h => ?_) (fun f cdv A outer s H vs Q E hr h => ?_)
  · obtain ⟨rfl, _⟩ := h; rfl
  · obtain ⟨rfl, k⟩ := h
    refine ⟨_, (pss_one (ps_ret pe_str)), ?_⟩
    have e : (Str.ofString " !\"#$&'()*+,-./:;<=>?@ABCDEFGHIJKLMNOPQRSTUVWXYZ[\\]^_`{|}~") = ⟨signL.toArray⟩ := by decide +kernel
    rw [← e] at k
    exact k
end

end Ov

namespace Ov
open PySem L2
abbrev sMenu : Stmt := top 70
section
variable {P : Program} {w : World} {K : PySem.W.Frag} {mg : Str → Option Value} {base : Heap}
theorem scMenu : FnScope ["some"] [] (defScope sMenu) := ⟨rfl, rfl, rfl, by decide +kernel, rfl, by decide +kernel, by decide +kernel⟩
theorem ok_menu (M : Md K mg) (B : Bl mg) (F : FF K "_law_menu" sMenu) : Fn P w K mg base CX0 "_law_menu" 1 [] spMenu := by
  refine fn_ok M F scMenu (fun _ _ _ _ _ _ us hl => match us, hl with | .nil, _ => rfl) (fun vs H Q E h => ?_) (fun f cdv A outer s H vs Q E hr h => ?_)
  · obtain ⟨rfl, _⟩ := h; rfl
  · obtain ⟨rfl, k⟩ := h
    refine ⟨_, (pss_cons (ps_set (i := 0) scMenu.nd rfl (.inl rfl) (pe_lst (pa_cons pe_str (pa_cons pe_str (pa_cons pe_str (pa_cons pe_str (pa_cons pe_str (pa_cons pe_str pa_nil))))))))
      (pss_cons (ps_set (i := 0) scMenu.nd rfl (.inl rfl) (pe_opw op_cat (pv 0) (pew_lst (paw_cons pew_str (paw_cons pew_str (paw_cons pew_str (paw_cons pew_str (paw_cons pew_str (paw_cons pew_str paw_nil)))))))))
      (pss_cons (ps_set (i := 0) scMenu.nd rfl (.inl rfl) (pe_opw op_cat (pv 0) (pew_lst (paw_cons pew_str (paw_cons pew_str (paw_cons pew_str (paw_cons pew_str (paw_cons pew_str paw_nil))))))))
      (pss_cons (ps_set (i := 0) scMenu.nd rfl (.inl rfl) (pe_opw op_cat (pv 0) (pew_lst (paw_cons pew_str (paw_cons pew_str (paw_cons pew_str (paw_cons pew_str paw_nil)))))))
      (pss_cons (ps_set (i := 0) scMenu.nd rfl (.inl rfl) (pe_opw op_cat (pv 0) (pew_lst (paw_cons pew_str (paw_cons pew_str (paw_cons pew_str (paw_cons pew_str (paw_cons pew_str paw_nil))))))))
      (pss_cons (ps_set (i := 0) scMenu.nd rfl (.inl rfl) (pe_opw op_cat (pv 0) (pew_lst (paw_cons pew_str (paw_cons pew_str (paw_cons pew_str (paw_cons pew_str (paw_cons pew_str paw_nil))))))))
      (pss_cons (ps_set (i := 0) scMenu.nd rfl (.inl rfl) (pe_opw op_cat (pv 0) (pew_lst (paw_cons pew_str (paw_cons pew_str (paw_cons pew_str (paw_cons pew_str (paw_cons pew_str (paw_cons pew_str paw_nil)))))))))
      (pss_cons (ps_set (i := 0) scMenu.nd rfl (.inl rfl) (pe_opw op_cat (pv 0) (pew_lst (paw_cons pew_str (paw_cons pew_str (paw_cons pew_str (paw_cons pew_str (paw_cons pew_str paw_nil))))))))
      (pss_cons (ps_set (i := 0) scMenu.nd rfl (.inl rfl) (pe_opw op_cat (pv 0) (pew_lst (paw_cons pew_str (paw_cons pew_str (paw_cons pew_str (paw_cons pew_str paw_nil)))))))
      (pss_cons (ps_set (i := 0) scMenu.nd rfl (.inl rfl) (pe_opw op_cat (pv 0) (pew_lst (paw_cons pew_str (paw_cons pew_str (paw_cons pew_str paw_nil))))))
      (pss_cons (ps_set (i := 0) scMenu.nd rfl (.inl rfl) (pe_opw op_cat (pv 0) (pew_lst (paw_cons pew_str (paw_cons pew_str (paw_cons pew_str (paw_cons pew_str (paw_cons pew_str (paw_cons pew_str (paw_cons pew_str (paw_cons pew_str (paw_cons pew_str paw_nil))))))))))))
      (pss_cons (ps_set (i := 0) scMenu.nd rfl (.inl rfl) (pe_opw op_cat (pv 0) (pew_lst (paw_cons pew_str (paw_cons pew_str (paw_cons pew_str (paw_cons pew_str (paw_cons pew_str (paw_cons pew_str (paw_cons pew_str (paw_cons pew_str paw_nil)))))))))))
      (pss_one (ps_ret (pe_opw op_cat (pv 0) (pew_lst (paw_cons pew_non (paw_cons pew_int (paw_cons pew_bl (paw_cons (pew_lst paw_nil) (paw_cons (pew_lst (paw_cons pew_str paw_nil)) (paw_cons (pew_tup (paw_cons pew_str (paw_cons pew_str paw_nil))) (paw_cons (pew_op op_pow pew_int pew_int) (paw_cons pew_dnewT (paw_cons (pew_disp1 pew_str pew_str) (paw_cons (pew_tup paw_nil) paw_nil)))))))))))))))))))))))))), ?_⟩
    refine seq_set ⟨by show 6 ≤ sizeLine; decide, fun l1 h1 => ?_⟩
    have s1 := Same.upd (o := .lst [V.str "", V.str " ", V.str "text", V.str "text ", V.str "text A", V.str "text a b"]) h1
    have hl1 := upd_same (H := H) (a := l1) (o := .lst [V.str "", V.str " ", V.str "text", V.str "text ", V.str "text A", V.str "text a b"])
    have r1 : Rows [V.str "", V.str " ", V.str "text", V.str "text ", V.str "text A", V.str "text a b"] 6 := ⟨rfl, fun v hv => good_of (List.all_eq_true.mp (by decide +kernel : [V.str "", V.str " ", V.str "text", V.str "text ", V.str "text A", V.str "text a b"].all okV = true) v hv)⟩
    generalize L2.upd H l1 (.lst [V.str "", V.str " ", V.str "text", V.str "text ", V.str "text A", V.str "text a b"]) = H1 at s1 hl1 ⊢
    generalize [V.str "", V.str " ", V.str "text", V.str "text ", V.str "text A", V.str "text a b"] = z1 at hl1 r1
    refine seq_set ⟨_, rfl, cat_rows 12 hl1 r1 (by decide +kernel) rfl (by decide) fun l2 H2 z2 hl2 r2 s2 => ?_⟩
    refine seq_set ⟨_, rfl, cat_rows 17 hl2 r2 (by decide +kernel) rfl (by decide) fun l3 H3 z3 hl3 r3 s3 => ?_⟩
    refine seq_set ⟨_, rfl, cat_rows 21 hl3 r3 (by decide +kernel) rfl (by decide) fun l4 H4 z4 hl4 r4 s4 => ?_⟩
    refine seq_set ⟨_, rfl, cat_rows 26 hl4 r4 (by decide +kernel) rfl (by decide) fun l5 H5 z5 hl5 r5 s5 => ?_⟩
    refine seq_set ⟨_, rfl, cat_rows 31 hl5 r5 (by decide +kernel) rfl (by decide) fun l6 H6 z6 hl6 r6 s6 => ?_⟩
    refine seq_set ⟨_, rfl, cat_rows 37 hl6 r6 (by decide +kernel) rfl (by decide) fun l7 H7 z7 hl7 r7 s7 => ?_⟩
    refine seq_set ⟨_, rfl, cat_rows 42 hl7 r7 (by decide +kernel) rfl (by decide) fun l8 H8 z8 hl8 r8 s8 => ?_⟩
    refine seq_set ⟨_, rfl, cat_rows 46 hl8 r8 (by decide +kernel) rfl (by decide) fun l9 H9 z9 hl9 r9 s9 => ?_⟩
    refine seq_set ⟨_, rfl, cat_rows 49 hl9 r9 (by decide +kernel) rfl (by decide) fun la Ha za hla ra sa => ?_⟩
    refine seq_set ⟨_, rfl, cat_rows 58 hla ra (by decide +kernel) rfl (by decide) fun lb Hb zb hlb rb sb => ?_⟩
    refine seq_set ⟨_, rfl, cat_rows 66 hlb rb (by decide +kernel) rfl (by decide) fun lc Hc zc hlc rc sc => ?_⟩
    have sAll := ((((((((((s1.trans s2).trans s3).trans s4).trans s5).trans s6).trans s7).trans s8).trans s9).trans sa).trans sb).trans sc
    have rc : Rows zc 66 := rc
    clear hl1 hl2 hl3 hl4 hl5 hl6 hl7 hl8 hl9 hla hlb r1 r2 r3 r4 r5 r6 r7 r8 r9 ra rb
    refine ⟨_, rfl, ?_⟩
    refine ⟨Nat.zero_le _, fun p1 hp1 => ?_⟩
    have t1 := Same.upd (o := .lst []) hp1
    have hp1' := upd_same (H := Hc) (a := p1) (o := .lst [])
    generalize L2.upd Hc p1 (.lst []) = Hd at t1 hp1' ⊢
    refine ⟨by show 1 ≤ sizeLine; decide, fun p2 hp2 => ?_⟩
    have t2 := Same.upd (o := .lst [V.str "covers"]) hp2
    have hp2' := upd_same (H := Hd) (a := p2) (o := .lst [V.str "covers"])
    generalize L2.upd Hd p2 (.lst [V.str "covers"]) = He at t2 hp2' ⊢
    refine ⟨by show 2 ≤ sizeLine; decide, fun p3 hp3 => ?_⟩
    have t3 := Same.upd (o := .tup [V.str "text", V.str "ab"]) hp3
    have hp3' := upd_same (H := He) (a := p3) (o := .tup [V.str "text", V.str "ab"])
    generalize L2.upd He p3 (.tup [V.str "text", V.str "ab"]) = Hf at t3 hp3' ⊢
    refine ⟨_, _, rfl, rfl, ⟨by decide, by decide, by decide⟩, fun p4 hp4 => ?_⟩
    have t4 := Same.upd (o := .dT []) hp4
    have hp4' := upd_same (H := Hf) (a := p4) (o := .dT [])
    generalize L2.upd Hf p4 (.dT []) = Hg at t4 hp4' ⊢
    intro p5 hp5
    refine ⟨upd_same, [(.inr "text", .str "ab")], rfl, by decide, ?_⟩
    have t5 : Same Hg (L2.upd (L2.upd Hg p5 (.dK [])) p5 (.dK (mergeK [] [(.inr "text", .str "ab")]))) := fun z o e => by
      rw [upd_ne (ne_of_none e hp5), upd_ne (ne_of_none e hp5)]; exact e
    have hp5' := upd_same (H := L2.upd Hg p5 (.dK [])) (a := p5) (o := .dK (mergeK [] [(.inr "text", .str "ab")]))
    generalize L2.upd (L2.upd Hg p5 (.dK [])) p5 (.dK (mergeK [] [(.inr "text", .str "ab")])) = Hh at t5 hp5' ⊢
    refine ⟨Nat.zero_le _, fun p6 hp6 => ?_⟩
    have t6 := Same.upd (o := .tup []) hp6
    have hp6' := upd_same (H := Hh) (a := p6) (o := .tup [])
    generalize L2.upd Hh p6 (.tup []) = Hi at t6 hp6' ⊢
    refine ⟨by show 10 ≤ sizeLine; decide, fun p7 hp7 => ?_⟩
    have t7 := Same.upd (o := .lst [V.non, .int 3, .bl true, .ref p1, .ref p2, .ref p3, .int (10 ^ Int.toNat 20), .ref p4, .ref p5, .ref p6]) hp7
    have tA := ((((t1.trans t2).trans t3).trans t4).trans t5).trans t6
    refine ⟨lc, p7, _, _, rfl, rfl, t7 _ _ (tA _ _ hlc), upd_same, by rw [rc.1]; show 76 ≤ sizeLine; decide, fun q hq => ?_⟩
    have t8 := (tA.trans t7).trans (Same.upd (o := .lst (zc ++ [V.non, .int 3, .bl true, .ref p1, .ref p2, .ref p3, .int (10 ^ Int.toNat 20), .ref p4, .ref p5, .ref p6])) hq)
    refine k q _ _ upd_same (by rw [List.length_append, rc.1]; rfl) (fun v hv => ?_) (sAll.trans t8)
    rcases List.mem_append.mp hv with hv | hv
    · exact .inr (rc.2 v hv)
    · have u : Same Hi (L2.upd (L2.upd Hi p7 (.lst [V.non, .int 3, .bl true, .ref p1, .ref p2, .ref p3, .int (10 ^ Int.toNat 20), .ref p4, .ref p5, .ref p6])) q (.lst (zc ++ [V.non, .int 3, .bl true, .ref p1, .ref p2, .ref p3, .int (10 ^ Int.toNat 20), .ref p4, .ref p5, .ref p6]))) := t7.trans (Same.upd hq)
      refine NoRow.same (H := Hi) (.inl ?_) u
      simp only [List.mem_cons, List.not_mem_nil, or_false] at hv
      rcases hv with rfl | rfl | rfl | rfl | rfl | rfl | rfl | rfl | rfl | rfl
      · exact .inl rfl
      · exact .inr (.inr (.inl ⟨_, rfl⟩))
      · exact .inr (.inl ⟨_, rfl⟩)
      · exact .inr (.inr (.inr ⟨p1, rfl, .inl ⟨_, t6 _ _ (t5 _ _ (t4 _ _ (t3 _ _ (t2 _ _ hp1'))))⟩⟩))
      · exact .inr (.inr (.inr ⟨p2, rfl, .inl ⟨_, t6 _ _ (t5 _ _ (t4 _ _ (t3 _ _ hp2')))⟩⟩))
      · exact .inr (.inr (.inr ⟨p3, rfl, .inr (.inl ⟨_, t6 _ _ (t5 _ _ (t4 _ _ hp3'))⟩)⟩))
      · exact .inr (.inr (.inl ⟨_, rfl⟩))
      · exact .inr (.inr (.inr ⟨p4, rfl, .inr (.inr (.inr ⟨_, t6 _ _ (t5 _ _ hp4')⟩))⟩))
      · exact .inr (.inr (.inr ⟨p5, rfl, .inr (.inr (.inl ⟨_, t6 _ _ hp5'⟩))⟩))
      · exact .inr (.inr (.inr ⟨p6, rfl, .inr (.inl ⟨_, hp6'⟩)⟩))
end

end Ov

namespace Ov
open PySem L2
abbrev sLonger : Stmt := top 72
def spLonger : Sp := fun vs H Q _ => ∃ c : Int, vs = [.int c] ∧ ∀ (s : Str) (H' : Hp), Asc s → NoForm (cd s) → Same H H' → Q (.str s) H'
theorem join_signs : ∀ t : List Nat, Str.join Str.empty (t.map sgS) = ⟨t.toArray⟩
  | [] => rfl
  | [c] => rfl
  | c :: d :: r => by
    have ih := join_signs (d :: r)
    show sgS c ++ Str.empty ++ Str.join Str.empty ((d :: r).map sgS) = _
    rw [ih]
    refine cd_inj.mpr ?_
    rw [cd_app, cd_app, cd_mk, cd_mk]; rfl
theorem sum_signs (t : List Nat) : ((t.map sgS).map (·.length)).sum = t.length := by
  induction t with
  | nil => rfl
  | cons c t ih => rw [List.map_cons, List.map_cons, List.sum_cons, ih, List.length_cons, show (sgS c).length = 1 from rfl]; omega
theorem cd_txt : cd (Str.ofString "text ") = wText ++ [32] := by decide +kernel
theorem cd_wrd : cd (Str.ofString "word ") = wWord ++ [32] := by decide +kernel
theorem cd_cov : cd (Str.ofString "covers") = [99, 111, 118, 101, 114, 115] := by decide +kernel
theorem cd_lie : cd (Str.ofString "lies") = [108, 105, 101, 115] := by decide +kernel
theorem cd_t12 : cd (Str.ofString "texts 12") = [116, 101, 120, 116, 115, 32, 49, 50] := by decide +kernel
/-- the good rows: which of them are longer by figures, too -/
def RowL (cs : List Nat) (b : Bool) : Prop := (b = true ∧ ∃ a t, (a = wText ∨ a = wWord) ∧ cs = a ++ 32 :: t ∧ Low t ∧ 1 ≤ t.length ∧ t.length ≤ 200) ∨ (b = false ∧ cs ∈ fixL)
theorem sign_asc : (signL ++ figL).all (· < 128) = true := by decide +kernel
theorem RowL.len {cs : List Nat} {b : Bool} (h : RowL cs b) : cs.length ≤ 205 ∧ ∀ c ∈ cs, c < 128 := by
  rcases h with ⟨_, a, t, ha, rfl, lt, _, tl⟩ | ⟨_, h⟩
  · have : ∀ a, a = wText ∨ a = wWord → a.length = 4 ∧ ∀ c ∈ a, c < 128 := by rintro a (rfl | rfl) <;> decide
    obtain ⟨a1, a2⟩ := this a ha
    refine ⟨by rw [List.length_append, List.length_cons]; omega, fun c hc => ?_⟩
    rcases List.mem_append.mp hc with hc | hc
    · exact a2 c hc
    · rcases List.mem_cons.mp hc with rfl | hc
      · decide
      · have := lt c hc; omega
  · have : ∀ cs ∈ fixL, cs.length ≤ 205 ∧ ∀ c ∈ cs, c < 128 := by decide
    exact this cs h
theorem RowL.no {cs : List Nat} {b : Bool} (h : RowL cs b) {n c : Nat} (hn : n ≤ cs.length) (hc : c ∈ signL ++ (if b then figL else [])) : NoForm (insC cs n c) := by
  rcases h with ⟨rfl, a, t, ha, rfl, lt, t1, tl⟩ | ⟨rfl, h⟩
  · exact ins_text ha (by intro z; rw [z] at t1; cases t1) (sign_low c hc)
  · exact ins_fix h hn (by simpa using hc)
theorem asc_of {s : Str} (h1 : ∀ c ∈ cd s, c < 128) (h2 : (cd s).length ≤ 400) : Asc s := by
  refine ⟨?_, by rw [cd_len]; exact h2⟩
  rw [Array.all_eq_true_iff_forall_mem]
  intro c hc
  exact decide_eq_true (h1 c (by unfold cd; simpa using hc))
theorem five_in {cs : List Nat} {b : Bool} (h : RowL cs b) {x : Str} (hx : cd x = cs) : inV (.str (cutS x none (some 5))) [.str "text ", .str "word "] = b := by
  have e : ∀ y : Str, eqV (.str y) (.str (cutS x none (some 5))) = decide (cd y = cs.take 5) := fun y => by
    show (y == cutS x none (some 5)) = _
    rw [← hx, show (cd x).take 5 = cutL (cd x) none (some 5) from (cutL_hi (cd x) 5 (by decide)).symm, ← cd_cut]
    by_cases q : y = cutS x none (some 5)
    · rw [← q]; simp
    · rw [decide_eq_false fun z => q (cd_inj.mpr z)]; exact beq_eq_false_iff_ne.mpr q
  show (eqV _ _ || (eqV _ _ || false)) = b
  rw [e, e, cd_txt, cd_wrd]
  rcases h with ⟨rfl, a, t, ha, rfl, _⟩ | ⟨rfl, h⟩
  · rcases ha with rfl | rfl
    · rw [show (wText ++ 32 :: t).take 5 = wText ++ [32] from rfl]; decide
    · rw [show (wWord ++ 32 :: t).take 5 = wWord ++ [32] from rfl]; decide
  · have : ∀ cs ∈ fixL, (decide (wText ++ [32] = cs.take 5) || (decide (wWord ++ [32] = cs.take 5) || false)) = false := by decide
    exact this cs h
section
variable {P : Program} {w : World} {K : PySem.W.Frag} {mg : Str → Option Value} {base : Heap}
theorem scLonger : FnScope ["cell", "many", "letters", "row", "at", "signs"] ["cell"] (defScope sLonger) := ⟨rfl, rfl, rfl, by decide +kernel, rfl, by decide +kernel, by decide +kernel⟩
theorem ok_longer (M : Md K mg) (B : Bl mg) (F : FF K "_law_longer" sLonger) (F_law_digit : Fn P w K mg base CX0 "_law_digit" 2 ["cell", "k", "many"] spDigit) (F_law_word : Fn P w K mg base CX0 "_law_word" 3 ["cell", "begin", "many", "sorts"] spWord) (F_law_signs : Fn P w K mg base CX0 "_law_signs" 1 [] spSignsL) : Fn P w K mg base CX0 "_law_longer" 4 ["cell"] spLonger := by
  refine fn_ok M F scLonger (fun _ _ _ _ _ _ => us1 fun _ => rfl) (fun vs H Q E h => ?_) (fun f cdv A outer s H vs Q E hr h => ?_)
  · obtain ⟨c, rfl, _⟩ := h; rfl
  · obtain ⟨c, rfl, k⟩ := h
    refine ⟨_, (pss_cons (ps_set (i := 1) scLonger.nd rfl (.inl rfl) (pe_op op_add pe_int (pe_fn F_law_digit hr pass0 (pa_cons (pv 0) (pa_cons pe_int (pa_cons (pe_ix ix_list (pe_lst (pa_cons pe_int (pa_cons pe_int pa_nil))) (pe_fn F_law_digit hr pass0 (pa_cons (pv 0) (pa_cons pe_int (pa_cons pe_int pa_nil)))) (fun _ _ => rfl)) pa_nil))))))
      (pss_cons (ps_set (i := 2) scLonger.nd rfl (.inl rfl) (pe_bm PySem.F.plainAttrs_str PySem.F.slot_str_join PySem.F.type_str_join mt_join pe_str (pa_cons (pe_fn F_law_word hr pass0 (pa_cons (pv 0) (pa_cons pe_int (pa_cons (pv 1) (pa_cons pe_int pa_nil))))) pa_nil)))
      (pss_cons (ps_set (i := 3) scLonger.nd rfl (.inl rfl) (pe_ix ix_list (pe_lst (pa_cons (pe_op op_add_str pe_str (pv 2)) (pa_cons (pe_op op_add_str pe_str (pv 2)) (pa_cons pe_str (pa_cons pe_str (pa_cons pe_str pa_nil)))))) (pe_fn F_law_digit hr pass0 (pa_cons (pv 0) (pa_cons pe_int (pa_cons pe_int pa_nil)))) (fun _ _ => rfl)))
      (pss_cons (ps_set (i := 4) scLonger.nd rfl (.inl rfl) (pe_fn F_law_digit hr pass0 (pa_cons (pv 0) (pa_cons pe_int (pa_cons (pe_op op_add (pe_lenS B.len (pv 3)) pe_int) pa_nil)))))
      (pss_cons (ps_set (i := 5) scLonger.nd rfl (.inl rfl) (pe_fn0 F_law_signs hr pass0))
      (pss_cons (ps_if (pt_cmpR op_in_seq (pe_slice sl_str (pv 3) po_none (po_some pe_int)) (pe_lst (pa_cons pe_str (pa_cons pe_str pa_nil))) (by with_unfolding_all rfl)) (pss_one (ps_set (i := 5) scLonger.nd rfl (.inl rfl) (pe_op op_add_str (pv 5) pe_str))) pss_nil)
      (pss_one (ps_ret (pe_op op_add_str (pe_op op_add_str (pe_slice sl_str (pv 3) po_none (po_some (pv 4))) (pe_ix ix_str (pv 5) (pe_fn F_law_digit hr pass0 (pa_cons (pv 0) (pa_cons pe_int (pa_cons (pe_lenS B.len (pv 5)) pa_nil)))) (fun _ _ => rfl))) (pe_slice sl_str (pv 3) (po_some (pv 4)) po_none)))))))))), ?_⟩
    refine seq_set ?_
    refine ⟨_, rfl, by show 2 ≤ sizeLine; decide, fun l1 h1 => ?_⟩
    have s1 := Same.upd (o := .lst [V.int 5, .int 200]) h1
    have hl1 := upd_same (H := H) (a := l1) (o := .lst [V.int 5, .int 200])
    generalize L2.upd H l1 (.lst [V.int 5, .int 200]) = H1 at s1 hl1 ⊢
    refine ⟨_, rfl, c, 7, 2, rfl, by decide, by decide, by decide, fun r7 r70 r71 => ?_⟩
    obtain ⟨u, e7, u1, u2⟩ : ∃ u : Int, atI [V.int 5, .int 200] r7 = some (.int u) ∧ 1 ≤ u ∧ u ≤ 200 := by
      rcases (show r7 = 0 ∨ r7 = 1 by omega) with rfl | rfl
      · exact ⟨5, rfl, by decide, by decide⟩
      · exact ⟨200, rfl, by decide, by decide⟩
    refine ⟨l1, _, _, _, rfl, rfl, SqL.of hl1, e7, c, 6, u, rfl, by decide, by decide, u1, fun r6 r60 r61 => ?_⟩
    refine ⟨_, _, rfl, rfl, ?_⟩
    have m1 : 1 ≤ 1 + r6 := by omega
    have m2 : 1 + r6 ≤ 200 := by omega
    refine seq_set ?_
    refine ⟨rfl, _, rfl, _, rfl, c, 10, 1 + r6, 26, rfl, by decide, by decide, by omega, by omega, by decide, fun t q H2 hq0 hq lt tl s2 => ?_⟩
    have et : t.map sg = (t.map sgS).map V.str := by rw [List.map_map]; rfl
    have tl : t.length = (1 + r6).toNat := tl
    refine ⟨Str.ofString "", q, t.map sgS, rfl, rfl, by rw [← et]; exact hq, PyProof.Rows.joinOk_of ?_, ?_⟩
    · rw [sum_signs, List.length_map, show (Str.ofString "").length = 0 by decide +kernel]
      omega
    rw [show Txt.join (Str.ofString "") (t.map sgS) = ⟨t.toArray⟩ by rw [show Str.ofString "" = Str.empty by decide +kernel]; exact (StrLaws.glued_eq_join _ _).trans (join_signs t)]
    have s02 := s1.trans s2
    refine seq_set ?_
    have e5 : (Str.ofString "text ").length = 5 ∧ (Str.ofString "word ").length = 5 := by decide +kernel
    have tL := str_len t
    refine ⟨_, rfl, _, _, rfl, rfl, sz (by rw [e5.1, tL]; omega), _, rfl, _, _, rfl, rfl, sz (by rw [e5.2, tL]; omega), by show 5 ≤ sizeLine; decide, fun l3 h3 => ?_⟩
    refine ⟨_, rfl, c, 2, 5, rfl, by decide, by decide, by decide, fun r2 r20 r21 => ?_⟩
    obtain ⟨row, b, e2, hrow⟩ : ∃ (row : Str) (b : Bool), atI [V.str (Str.ofString "text " ++ ⟨t.toArray⟩), .str (Str.ofString "word " ++ ⟨t.toArray⟩), .str "covers", .str "lies", .str "texts 12"] r2 = some (.str row) ∧ RowL (cd row) b := by
      rcases (show r2 = 0 ∨ r2 = 1 ∨ r2 = 2 ∨ r2 = 3 ∨ r2 = 4 by omega) with rfl | rfl | rfl | rfl | rfl
      · exact ⟨_, true, rfl, .inl ⟨rfl, wText, t, .inl rfl, by rw [cd_app, cd_txt, cd_mk]; simp, lt, by omega, by omega⟩⟩
      · exact ⟨_, true, rfl, .inl ⟨rfl, wWord, t, .inr rfl, by rw [cd_app, cd_wrd, cd_mk]; simp, lt, by omega, by omega⟩⟩
      · exact ⟨_, false, rfl, .inr ⟨rfl, by rw [cd_cov]; decide⟩⟩
      · exact ⟨_, false, rfl, .inr ⟨rfl, by rw [cd_lie]; decide⟩⟩
      · exact ⟨_, false, rfl, .inr ⟨rfl, by rw [cd_t12]; decide⟩⟩
    refine ⟨l3, _, _, _, rfl, rfl, SqL.of upd_same, e2, ?_⟩
    have s3 := s02.trans (Same.upd (o := .lst [V.str (Str.ofString "text " ++ ⟨t.toArray⟩), .str (Str.ofString "word " ++ ⟨t.toArray⟩), .str "covers", .str "lies", .str "texts 12"]) h3)
    generalize L2.upd H2 l3 _ = H3 at s3 ⊢
    obtain ⟨rl, rasc⟩ := hrow.len
    have rL := cd_len row
    refine seq_set ?_
    refine ⟨_, rfl, _, rfl, row, rfl, sz (by omega), _, _, rfl, rfl, c, 3, _, rfl, by decide, by decide, by omega, fun n n0 n1 => ?_⟩
    refine seq_set ⟨rfl, ?_⟩
    refine meet_if (fun σ H' => σ = [some (.int c), some (.int (1 + r6)), some (.str ⟨t.toArray⟩), some (.str row), some (.int n), some (.str ⟨(signL ++ (if b then figL else [])).toArray⟩)] ∧ Same H H') ?_ fun R hR => ?_
    rotate_left
    · refine ⟨_, rfl, 5, rfl, row, rfl, sz (by omega), by show 2 ≤ sizeLine; decide, fun l4 h4 => ?_⟩
      have s4 := s3.trans (Same.upd (o := .lst [V.str "text ", .str "word "]) h4)
      refine ⟨l4, _, rfl, .inl (SqL.of upd_same), rfl, rfl, _, rfl, ?_⟩
      rw [five_in hrow rfl]
      cases b with
      | true =>
        refine iteT ⟨_, rfl, _, _, rfl, rfl, by decide +kernel, ?_⟩
        refine hR _ _ ⟨?_, s4⟩
        rw [show (⟨signL.toArray⟩ : Str) ++ Str.ofString "0123456789" = ⟨(signL ++ (if true then figL else [])).toArray⟩ by decide +kernel]
        rfl
      | false =>
        refine iteF (hR _ _ ⟨?_, s4⟩)
        rw [show (signL ++ (if false then figL else [])) = signL by decide +kernel]
        rfl
    · rintro σ H4 ⟨rfl, s4⟩
      have gl : (signL ++ (if b then figL else [])).length = 58 ∨ (signL ++ (if b then figL else [])).length = 68 := by cases b <;> decide +kernel
      generalize hg : (signL ++ (if b then figL else [])) = gs at gl
      have gL := str_len gs
      refine ⟨_, rfl, _, rfl, n, rfl, row, rfl, sz (by omega), _, rfl, _, rfl, _, rfl, _, rfl, sz (by omega), c, 4, _, rfl, by decide, by decide, by omega, fun j j0 j1 => ?_⟩
      have hj : j.toNat < gs.length := by omega
      have hjs : gs[j.toNat]? = some gs[j.toNat] := List.getElem?_eq_getElem hj
      have hja : atI gs j = some gs[j.toNat] := by
        have := atI_nat hjs
        rwa [show ((j.toNat : Nat) : Int) = j by omega] at this
      have c1 : (cd (cutS row none (some n))) = (cd row).take n.toNat := by rw [cd_cut, cutL_hi _ _ n0]
      have c2 : (cd (cutS row (some n) none)) = (cd row).drop n.toNat := by rw [cd_cut, cutL_lo _ _ n0]
      have l1 : (cutS row none (some n)).length ≤ 205 := by rw [cd_len, c1, List.length_take]; omega
      have l2 : (cutS row (some n) none).length ≤ 205 := by rw [cd_len, c2, List.length_drop]; omega
      have l3 : (⟨#[gs[j.toNat]]⟩ : Str).length = 1 := rfl
      refine ⟨_, j, gs[j.toNat], rfl, rfl, sz (by omega), hja, _, _, rfl, rfl, sz (by rw [l3]; omega), ?_⟩
      refine ⟨_, rfl, _, rfl, n, rfl, row, rfl, sz (by omega), _, _, rfl, rfl, sz (by rw [strLen_append, l3]; omega), ?_⟩
      have e : cd (cutS row none (some n) ++ ⟨#[gs[j.toNat]]⟩ ++ cutS row (some n) none) = insC (cd row) n.toNat gs[j.toNat] := by
        rw [cd_app, cd_app, c1, c2, show cd ⟨#[gs[j.toNat]]⟩ = [gs[j.toNat]] from rfl]
        unfold insC
        simp
      have gm : gs[j.toNat] ∈ signL ++ (if b then figL else []) := by rw [hg]; exact List.getElem_mem hj
      refine k _ _ (asc_of (fun c hc => ?_) ?_) ?_ s4
      · rw [e] at hc
        unfold insC at hc
        rcases List.mem_append.mp hc with hc | hc
        · exact rasc c (List.mem_of_mem_take hc)
        · rcases List.mem_cons.mp hc with rfl | hc
          · have := List.all_eq_true.mp sign_asc gs[j.toNat] (by
              cases b with
              | true => exact gm
              | false => exact List.mem_append_left _ (by simpa using gm))
            exact of_decide_eq_true this
          · exact rasc c (List.mem_of_mem_drop hc)
      · rw [e]
        unfold insC
        rw [List.length_append, List.length_cons, List.length_take, List.length_drop]
        omega
      · rw [e]
        exact hrow.no (by omega) gm
end

end Ov

namespace Ov
open PySem L2
abbrev sLaw : Stmt := top 73
abbrev sCellAt : Stmt := top 63
def spLaw (K : PySem.W.Frag) : Sp := fun vs H Q _ => ∃ (a : Addr) (ns : List Int), vs = [.ref a] ∧ SqL K H a (ns.map V.int) ∧ ns.length ≤ 63 ∧ ∀ H', Q (.bl true) H'
def spCellK (K : PySem.W.Frag) : Sp := fun vs H Q _ => ∃ (a : Addr) (ns : List Int) (i : Nat), vs = [.ref a, .int (i : Int)] ∧ SqL K H a (ns.map V.int) ∧ ∀ c : Int, Q (.int c) H
def pBls (bs : List Bool) : PyData := .list (bs.map PyData.bool)
theorem datVs_bls {K : PySem.W.Frag} {H : Hp} : ∀ bs : List Bool, DatVs K H (bs.map PyData.bool) (bs.map V.bl)
  | [] => datVs_nil
  | b :: bs => datVs_cons (datV_bool b) (datVs_bls bs)
theorem bls_none : (pBls noneF).depth ≤ 64 ∧ PyData.eqv (pBls noneF) (pBls noneF) = true ∧ (pBls nyF).depth ≤ 64 ∧ PyData.eqv (pBls nyF) (pBls nyF) = true ∧ (PyData.list [pBls noneF, pBls noneF]).depth ≤ 64 ∧ PyData.eqv (.list [pBls noneF, pBls noneF]) (.list [pBls noneF, pBls noneF]) = true := by
  simp [pBls, noneF, nyF, PyData.depth, PyData.depthAll, PyData.eqv, PyData.eqvAll]
/-- the desk, as it is told or not, and what is due of it -/
def Due (C : Addr) (H : Hp) (x : Addr) (d : V) : Prop := ∃ (dx : Addr) (t wd : V), H x = some (.ins C dx (fld t wd)) ∧
  ((t = .non ∧ ∃ p, d = .ref p ∧ H p = some (.lst (nyF.map V.bl))) ∨ (d = .str "bare 2" ∧ ∃ a b, t = .ref a ∧ wd = .ref b ∧ H a = some (.lst (tT.map sg)) ∧ H b = some (.lst (tW.map sg))))
theorem Due.same {C : Addr} {H H' : Hp} {x : Addr} {d : V} (h : Due C H x d) (s : Same H H') : Due C H' x d := by
  obtain ⟨dx, t, wd, h1, ⟨e, p, e2, h2⟩ | ⟨e, a, b, e1, e2, h2, h3⟩⟩ := h
  · exact ⟨dx, t, wd, s _ _ h1, .inl ⟨e, p, e2, s _ _ h2⟩⟩
  · exact ⟨dx, t, wd, s _ _ h1, .inr ⟨e, a, b, e1, e2, s _ _ h2, s _ _ h3⟩⟩
theorem passF {P : Program} {w : World} {X : Cx} : Passes (CXx P w) X E0 := fun _ _ _ _ _ _ _ h => by
  obtain ⟨_, _, _, _, _, _, _, _, _, _, _, _, _, _, h⟩ := h
  exact h.elim
/-- [False] * 8 + [True, False]; [False] * 6 + [True] + [False] * 3 -/
theorem t_due {σ : St} {H : Hp} {Q : VK} (k : ∀ r H', H' r = some (.lst (nyF.map V.bl)) → Same H H' → Q (.ref r) H') : tOp rCat (tOp rRep (tLst (tCons (tC (.bl false)) tNil)) (tC (.int 8))) (tLst (tCons (tC (.bl true)) (tCons (tC (.bl false)) tNil))) σ H Q := by
  refine ⟨by show 1 ≤ sizeLine; decide, fun l hl => ?_⟩
  refine ⟨l, 8, _, rfl, rfl, upd_same, by decide, by decide, by show 8 ≤ sizeLine; decide, fun p hp => ?_⟩
  refine ⟨by show 2 ≤ sizeLine; decide, fun l2 hl2 => ?_⟩
  refine ⟨p, l2, _, _, rfl, rfl, (Same.upd hl2) _ _ upd_same, upd_same, by show 10 ≤ sizeLine; decide, fun r hr => ?_⟩
  exact k r _ upd_same ((((Same.upd hl).trans (Same.upd hp)).trans (Same.upd hl2)).trans (Same.upd hr))
theorem t_none {σ : St} {H : Hp} {Q : VK} (k : ∀ r H', H' r = some (.lst (noneF.map V.bl)) → Same H H' → Q (.ref r) H') : tOp rCat (tOp rCat (tOp rRep (tLst (tCons (tC (.bl false)) tNil)) (tC (.int 6))) (tLst (tCons (tC (.bl true)) tNil))) (tOp rRep (tLst (tCons (tC (.bl false)) tNil)) (tC (.int 3))) σ H Q := by
  refine ⟨by show 1 ≤ sizeLine; decide, fun l hl => ?_⟩
  refine ⟨l, 6, _, rfl, rfl, upd_same, by decide, by decide, by show 6 ≤ sizeLine; decide, fun p hp => ?_⟩
  refine ⟨by show 1 ≤ sizeLine; decide, fun l2 hl2 => ?_⟩
  refine ⟨p, l2, _, _, rfl, rfl, (Same.upd hl2) _ _ upd_same, upd_same, by show 7 ≤ sizeLine; decide, fun r hr => ?_⟩
  refine ⟨by show 1 ≤ sizeLine; decide, fun l3 hl3 => ?_⟩
  refine ⟨l3, 3, _, rfl, rfl, upd_same, by decide, by decide, by show 3 ≤ sizeLine; decide, fun p2 hp2 => ?_⟩
  refine ⟨r, p2, _, _, rfl, rfl, (Same.upd hp2) _ _ ((Same.upd hl3) _ _ upd_same), upd_same, by show 10 ≤ sizeLine; decide, fun q hq => ?_⟩
  exact k q _ upd_same (((((((Same.upd hl).trans (Same.upd hp)).trans (Same.upd hl2)).trans (Same.upd hr)).trans (Same.upd hl3)).trans (Same.upd hp2)).trans (Same.upd hq))
def rowZ : Str := (⟨signL.toArray⟩ : Str) ++ Str.ofString "0123456789\t\n"
theorem rowZ_cd : cd rowZ = signL ++ moreL := by decide +kernel
theorem rowZ_asc : rowZ.cps.all (· < 128) = true := by decide +kernel
theorem rowZ_at {i c : Nat} (h : rowZ.cps[i]? = some c) : c ∈ signL ++ moreL := by
  rw [← rowZ_cd]
  exact List.mem_of_getElem? (show (cd rowZ)[i]? = some c by unfold cd; rw [Array.getElem?_toList]; exact h)
theorem cd_tab : cd (Str.ofString "text ab") = [116, 101, 120, 116, 32, 97, 98] ∧ cd (Str.ofString "c") = [99] ∧ cd (Str.ofString "word ") = [119, 111, 114, 100, 32] ∧ cd (Str.ofString "ab") = [97, 98] := by decide +kernel
theorem moreA : (signL ++ moreL).all (· < 128) = true := by decide +kernel
theorem rows_at {c : Nat} (h : c ∈ signL ++ moreL) : GoodS (.str (Str.ofString "text ab" ++ sgS c ++ Str.ofString "c")) ∧ GoodS (.str (Str.ofString "word " ++ sgS c ++ Str.ofString "ab")) := by
  obtain ⟨e1, e2, e3, e4⟩ := cd_tab
  have f1 : cd (Str.ofString "text ab" ++ sgS c ++ Str.ofString "c") = [116, 101, 120, 116, 32, 97, 98] ++ [c] ++ [99] := by rw [cd_app, cd_app, e1, e2, cd_sg]
  have f2 : cd (Str.ofString "word " ++ sgS c ++ Str.ofString "ab") = [119, 111, 114, 100, 32] ++ [c] ++ [97, 98] := by rw [cd_app, cd_app, e3, e4, cd_sg]
  have cl : c < 128 := of_decide_eq_true (List.all_eq_true.mp moreA c h)
  obtain ⟨n1, n2⟩ := walk_no h
  refine ⟨⟨_, rfl, asc_of ?_ ?_, by rw [f1]; exact n1⟩, ⟨_, rfl, asc_of ?_ ?_, by rw [f2]; exact n2⟩⟩
  · rw [f1]; intro d hd; simp at hd; omega
  · rw [f1]; simp
  · rw [f2]; intro d hd; simp at hd; omega
  · rw [f2]; simp
section
variable {P : Program} {w : World} {K : PySem.W.Frag} {mg : Str → Option Value} {base : Heap} {C cNF cNY : Addr}
theorem scCellAt : FnScope ["script", "k"] ["script", "k"] (defScope sCellAt) := ⟨rfl, rfl, rfl, by decide +kernel, rfl, by decide +kernel, by decide +kernel⟩
theorem ok_cell_at (M : Md K mg) (B : Bl mg) (F : FF K "_law_cell_at" sCellAt) : Fn P w K mg base CX0 "_law_cell_at" 1 ["script", "k"] (spCellK K) := by
  refine fn_ok M F scCellAt (fun _ _ _ _ _ _ => us2 fun _ _ => rfl) (fun vs H Q E h => ?_) (fun f cdv A outer s H vs Q E hr h => ?_)
  · obtain ⟨a, ns, i, rfl, _⟩ := h; rfl
  · obtain ⟨a, ns, i, rfl, hS, k⟩ := h
    refine ⟨_, (pss_cons (ps_if (pt_cmpR op_lt (pv 1) (pe_lenL B.len (pv 0)) (nomark _)) (pss_one (ps_ret (pe_ix ix_list (pv 0) (pv 1) (fun _ _ => rfl)))) pss_nil)
      (pss_one (ps_ret pe_int))), ?_⟩
    refine ⟨_, rfl, _, rfl, a, _, rfl, hS, _, _, rfl, rfl, _, rfl, ?_⟩
    refine ite2 (fun hc => ?_) (fun hc => k 0)
    have hi : i < ns.length := by have := of_decide_eq_true hc; rw [List.length_map] at this; omega
    exact ⟨_, rfl, _, rfl, a, _, _, _, rfl, rfl, hS, atI_nat (v := V.int ns[i]) (by rw [List.getElem?_map, List.getElem?_eq_getElem hi]; rfl), k _⟩
theorem scLaw : FnScope ["script", "head", "desk", "due", "menu", "none", "sign", "k", "cell", "row"] ["script"] (defScope sLaw) := ⟨rfl, rfl, rfl, by decide +kernel, rfl, by decide +kernel, by decide +kernel⟩
theorem ok_law (M : Md K mg) (B : Bl mg) (T : DeskT K mg C) (F : FF K "law" sLaw) (MkDesk : MkF P w K mg base CX0 C 1 ["self"] (spInit C)) (F_law_cell_at : Fn P w K mg base CX0 "_law_cell_at" 1 ["script", "k"] (spCellK K)) (F_law_digit : Fn P w K mg base CX0 "_law_digit" 2 ["cell", "k", "many"] spDigit) (Msay : Mt P w K mg base (CXx P w) C "say" 7 ["self", "row"] (spSay C cNF cNY))
    (F_law_menu : Fn P w K mg base CX0 "_law_menu" 1 [] spMenu) (F_law_signs : Fn P w K mg base CX0 "_law_signs" 1 [] spSignsL) (F_law_said : Fn P w K mg base CX0 "_law_said" 8 ["desk", "row"] (spSaid C)) (F_law_longer : Fn P w K mg base CX0 "_law_longer" 4 ["cell"] spLonger) : Fn P w K mg base CX0 "law" 9 ["script"] (spLaw K) := by
  have cDesk := T.cl
  have gDesk := T.g
  refine fn_ok M F scLaw (fun _ _ _ _ _ _ => us1 fun _ => rfl) (fun vs H Q E h => ?_) (fun f cdv A outer s H vs Q E hr h => ?_)
  · obtain ⟨a, ns, rfl, _⟩ := h; rfl
  · obtain ⟨a0, ns, rfl, hS, hlen, k⟩ := h
    refine ⟨_, (pss_cons (ps_set (i := 1) scLaw.nd rfl (.inl rfl) (pe_fn F_law_cell_at hr pass0 (pa_cons (pv 0) (pa_cons pe_int pa_nil))))
      (pss_cons (ps_set (i := 2) scLaw.nd rfl (.inl rfl) (pe_mk0 MkDesk hr rfl gDesk pass0))
      (pss_cons (ps_set (i := 3) scLaw.nd rfl (.inl rfl) (pe_op op_cat (pe_op op_rep (pe_lst (pa_cons pe_bl pa_nil)) pe_int) (pe_lst (pa_cons pe_bl (pa_cons pe_bl pa_nil)))))
      (pss_cons (ps_if (pt_cmpR op_eq (pe_fn F_law_digit hr pass0 (pa_cons (pv 1) (pa_cons pe_int (pa_cons pe_int pa_nil)))) pe_int (nomark _)) (pss_cons (ps_expr (pe_mth (pv 2) cDesk Msay hr passF (pa_cons pe_str pa_nil)))
      (pss_cons (ps_expr (pe_mth (pv 2) cDesk Msay hr passF (pa_cons pe_str pa_nil)))
      (pss_one (ps_set (i := 3) scLaw.nd rfl (.inl rfl) pe_str)))) pss_nil)
      (pss_cons (ps_set (i := 4) scLaw.nd rfl (.inl rfl) (pe_fn0 F_law_menu hr pass0))
      (pss_cons (ps_set (i := 5) scLaw.nd rfl (.inl rfl) (pe_op op_cat (pe_op op_cat (pe_op op_rep (pe_lst (pa_cons pe_bl pa_nil)) pe_int) (pe_lst (pa_cons pe_bl pa_nil))) (pe_op op_rep (pe_lst (pa_cons pe_bl pa_nil)) pe_int)))
      (pss_cons (ps_for PassesOwn.never rfl (pi_str (pe_op op_add_str (pe_fn0 F_law_signs hr pass0) pe_str)) (pg_name (i := 6) scLaw.nd rfl (.inl rfl))
      (pss_one (ps_if (pt_cmpR (op_neD (by exact hr)) (pe_lst (pa_cons (pe_fn F_law_said hr pass0 (pa_cons (pv 2) (pa_cons (pe_op op_add_str (pe_op op_add_str pe_str (pv 6)) pe_str) pa_nil))) (pa_cons (pe_fn F_law_said hr pass0 (pa_cons (pv 2) (pa_cons (pe_op op_add_str (pe_op op_add_str pe_str (pv 6)) pe_str) pa_nil))) pa_nil))) (pe_lst (pa_cons (pv 5) (pa_cons (pv 5) pa_nil))) (nomark _)) (pss_one (ps_ret pe_bl)) pss_nil)))
      (pss_cons (ps_for PassesOwn.never rfl (pi_range1 (by rfl) B.range (pa_cons (pe_min rfl B.min pe_int (pe_op op_add pe_int (pe_lenL B.len (pv 0)))) pa_nil)) (pg_name (i := 7) scLaw.nd rfl (.inl rfl))
      (pss_cons (ps_set (i := 8) scLaw.nd rfl (.inl rfl) (pe_fn F_law_cell_at hr pass0 (pa_cons (pv 0) (pa_cons (pv 7) pa_nil))))
      (pss_cons (ps_set (i := 9) scLaw.nd rfl (.inl rfl) (pe_ix ix_list (pv 4) (pe_op op_mod (pe_op op_add (pe_op op_add (pe_fn F_law_digit hr pass0 (pa_cons (pv 1) (pa_cons pe_int (pa_cons (pe_lenL B.len (pv 4)) pa_nil)))) (pe_op op_mulB (pv 7) pe_int)) (pe_fn F_law_digit hr pass0 (pa_cons (pv 8) (pa_cons pe_int (pa_cons pe_int pa_nil))))) (pe_lenL B.len (pv 4))) (fun _ _ => rfl)))
      (pss_cons (ps_if (pt_cmpR op_eq (pe_fn F_law_digit hr pass0 (pa_cons (pv 8) (pa_cons pe_int (pa_cons pe_int pa_nil)))) pe_int (nomark _)) (pss_one (ps_set (i := 9) scLaw.nd rfl (.inl rfl) (pe_fn F_law_longer hr pass0 (pa_cons (pv 8) pa_nil)))) pss_nil)
      (pss_one (ps_if (PW.pt (pw_or (pt_cmpR (op_neD (by exact hr)) (pe_fn F_law_said hr pass0 (pa_cons (pv 2) (pa_cons (pv 9) pa_nil))) (pv 5) (nomark _)) (pw_or1 (pt_cmpR (op_neD (by exact hr)) (pe_fn F_law_said hr pass0 (pa_cons (pv 2) (pa_cons pe_str pa_nil))) (pv 3) (nomark _))))) (pss_one (ps_ret pe_bl)) pss_nil))))))
      (pss_one (ps_ret pe_bl)))))))))), ?_⟩
    refine seq_set ⟨_, rfl, a0, ns, 0, rfl, hS, fun head => ?_⟩
    refine seq_set fun x dx hx hdx nx => ?_
    refine ⟨x, dx, rfl, upd_same, fun H1 hx1 k1 => ⟨rfl, ?_⟩⟩
    have s01 : Same H H1 := fun z o e => k1 _ _ (by rw [upd_ne (ne_of_none e hx), upd_ne (ne_of_none e hdx)]; exact e) (ne_of_none e hx)
    refine seq_set (t_due fun du H2 hd2 s12 => ?_)
    have s02 := s01.trans s12
    have hx2 := s12 _ _ hx1
    have nS : ¬ (("say" : Str) = "word") ∧ ¬ (("say" : Str) = "text") := by decide +kernel
    refine meet_if (fun σ H' => ∃ d, Due C H' x d ∧ Same H H' ∧ σ = [some (.ref a0), some (.int head), some (.ref x), some d, none, none, none, none, none, none]) ?_ fun R hR => ?_
    rotate_left
    · refine ⟨_, rfl, head, 0, 2, rfl, by decide, by decide, by decide, fun r0 _ _ => ⟨rfl, _, rfl, ?_⟩⟩
      refine ite2 (fun _ => ?_) fun _ => hR _ _ ⟨.ref du, ⟨dx, _, _, hx2, .inl ⟨rfl, du, rfl, hd2⟩⟩, s02, rfl⟩
      refine seq_drop ⟨_, rfl, x, dx, _, rfl, hx2, fld_no _ _ nS.1 nS.2, x, dx, _, _, _, rfl, hx2, .inr (.inr (.inr (.inl ⟨rfl, fun v a H3 hx3 ha3 k3 => ?_⟩)))⟩
      have s03 : Same H H3 := fun z o e => k3 _ _ (s02 _ _ e) (ne_of_none e hx)
      have nax : a ≠ x := ne_of ha3 hx3 (by intro z; cases z)
      refine seq_drop ⟨_, rfl, x, dx, _, rfl, hx3, fld_no _ _ nS.1 nS.2, x, dx, _, _, _, rfl, hx3, .inr (.inr (.inr (.inr ⟨rfl, fun v2 b H4 hx4 hb4 k4 => ?_⟩)))⟩
      have s04 : Same H H4 := fun z o e => k4 _ _ (s03 _ _ e) (ne_of_none e hx)
      exact hR _ _ ⟨.str "bare 2", ⟨dx, _, _, hx4, .inr ⟨rfl, a, b, rfl, rfl, k4 _ _ ha3 nax, hb4⟩⟩, s04, rfl⟩
    rintro σ H5 ⟨d, hd5, s05, rfl⟩
    clear hd2 s12 hx2 s02 s01 hx1 k1
    refine seq_set ⟨rfl, fun mr H6 zs hm6 zl hz6 s6 => ?_⟩
    refine seq_set (t_none fun nr H7 hn7 s7 => ?_)
    have hd7 := hd5.same (s6.trans s7)
    have hm7 := s7 _ _ hm6
    have hz7 : ∀ v ∈ zs, NoRow H7 v := fun v hv => (hz6 v hv).same s7
    have hS7 := (s05.trans (s6.trans s7)).seq hS
    clear hd5 hm6 hz6 s6 s7 s05 hS
    refine seq_for ⟨rfl, _, _, rfl, rfl, by decide +kernel, rowZ, rfl, rowZ_asc, ?_⟩
    refine for_str (z := rowZ) (fun i σ H' => Same H7 H' ∧ ∃ v6, σ = [some (.ref a0), some (.int head), some (.ref x), some d, some (.ref mr), some (.ref nr), v6, none, none, none]) ⟨Same.refl _, none, rfl⟩ ?_ ?_
    · rintro i c σ H8 hc ⟨s8, v6, rfl⟩
      obtain ⟨g1, g2⟩ := rows_at (rowZ_at hc)
      have hd8 := hd7.same s8
      have hn8 := s8 _ _ hn7
      have L : (Str.ofString "text ab").length = 7 ∧ (Str.ofString "c").length = 1 ∧ (Str.ofString "word ").length = 5 ∧ (Str.ofString "ab").length = 2 := by decide +kernel
      have L1 : (sgS c).length = 1 := rfl
      refine ⟨_, rfl, _, rfl, _, _, rfl, rfl, sz (by rw [L.1, L1]; decide), _, _, rfl, rfl, sz (by rw [strLen_append, L.1, L1, L.2.1]; decide), ?_⟩
      obtain ⟨dx8, t8, w8, hx8, _⟩ := hd8
      refine ⟨x, dx8, _, t8, w8, rfl, hx8, .inl ⟨.inr g1, fun r1 H9 _ hr9 s9 => ?_⟩⟩
      refine ⟨_, rfl, _, rfl, _, _, rfl, rfl, sz (by rw [L.2.2.1, L1]; decide), _, _, rfl, rfl, sz (by rw [strLen_append, L.2.2.1, L1, L.2.2.2]; decide), ?_⟩
      refine ⟨x, dx8, _, t8, w8, rfl, s9 _ _ hx8, .inl ⟨.inr g2, fun r2 H10 _ hr10 s10 => ?_⟩⟩
      refine ⟨by show 2 ≤ sizeLine; decide, fun q1 hq1 => ?_⟩
      have t1 := Same.upd (o := .lst [V.ref r1, .ref r2]) hq1
      refine ⟨_, rfl, _, rfl, by show 2 ≤ sizeLine; decide, fun q2 hq2 => ?_⟩
      have t2 := t1.trans (Same.upd (o := .lst [V.ref nr, .ref nr]) hq2)
      have hn10 := t2 _ _ (s10 _ _ (s9 _ _ hn8))
      refine ⟨.list [pBls noneF, pBls noneF], .list [pBls noneF, pBls noneF], datV_lst (SqL.of ((Same.upd hq2) _ _ upd_same)) (datVs_cons (datV_lst (SqL.of (t2 _ _ (s10 _ _ hr9))) (datVs_bls _)) (datVs_cons (datV_lst (SqL.of (t2 _ _ hr10)) (datVs_bls _)) datVs_nil)), datV_lst (SqL.of upd_same) (datVs_cons (datV_lst (SqL.of hn10) (datVs_bls _)) (datVs_cons (datV_lst (SqL.of hn10) (datVs_bls _)) datVs_nil)), Nat.le_trans (Nat.min_le_left _ _) bls_none.2.2.2.2.1, _, rfl, ?_⟩
      rw [bls_none.2.2.2.2.2]
      exact iteF ⟨(s8.trans (s9.trans s10)).trans t2, _, rfl⟩
    rintro σ H8 ⟨s8, v6, rfl⟩
    have hd8 := hd7.same s8
    have hn8 := s8 _ _ hn7
    have hm8 := s8 _ _ hm7
    have hz8 : ∀ v ∈ zs, NoRow H8 v := fun v hv => (hz7 v hv).same s8
    have hS8 := s8.seq hS7
    clear hd7 hn7 hm7 hz7 hS7 s8
    dsimp only
    refine seq_for ⟨_, rfl, a0, _, rfl, hS8, _, _, rfl, rfl, _, _, rfl, rfl, _, rfl, ?_⟩
    rw [List.length_map]
    refine ⟨by split <;> omega, by split <;> omega, ?_⟩
    refine for_range (lo := 0) (fun i σ H' => Same H8 H' ∧ ∃ v6 v7 v8 v9, σ = [some (.ref a0), some (.int head), some (.ref x), some d, some (.ref mr), some (.ref nr), v6, v7, v8, v9]) ⟨Same.refl _, _, _, _, _, rfl⟩ ?_ ?_
    · rintro i σ H9 hi ⟨s9, v6', v7, v8, v9, rfl⟩
      have hd9 := hd8.same s9
      have hn9 := s9 _ _ hn8
      have hm9 := s9 _ _ hm8
      have hz9 : ∀ v ∈ zs, NoRow H9 v := fun v hv => (hz8 v hv).same s9
      have hS9 := s9.seq hS8
      rw [Int.zero_add]
      refine seq_set ⟨_, rfl, _, rfl, a0, ns, i, rfl, hS9, fun c => ?_⟩
      refine seq_set ?_
      refine ⟨_, rfl, _, rfl, _, rfl, mr, _, rfl, SqL.of hm9, head, 1, _, rfl, by decide, by decide, by rw [zl]; decide, fun r1 r10 r11 => ?_⟩
      have hi2 : i < 70 := by revert hi; split <;> omega
      refine ⟨_, rfl, _, _, rfl, rfl, ⟨Nat.lt_of_lt_of_le (show Int.natAbs (i : Int) < 2 ^ 10 by rw [Int.natAbs_natCast]; omega) (Nat.pow_le_pow_right (by decide) (by decide)), Nat.lt_of_lt_of_le (show Int.natAbs 11 < 2 ^ 10 by decide) (Nat.pow_le_pow_right (by decide) (by decide))⟩, _, _, rfl, rfl, _, rfl, c, 1, 3, rfl, by decide, by decide, by decide, fun r2 r20 r21 => ?_⟩
      refine ⟨_, _, rfl, rfl, _, rfl, mr, _, rfl, SqL.of hm9, _, _, rfl, rfl, (by show (0 : Int) < ((zs.length : Nat) : Int); rw [zl]; decide), ?_⟩
      rw [zl]
      dsimp only
      have j0 := Int.emod_nonneg (r1 + (i : Int) * 11 + r2) (show ((76 : Nat) : Int) ≠ 0 by decide)
      have j1 := Int.emod_lt_of_pos (r1 + (i : Int) * 11 + r2) (show (0 : Int) < ((76 : Nat) : Int) by decide)
      generalize (r1 + (i : Int) * 11 + r2) % ((76 : Nat) : Int) = j at j0 j1
      have hj : j.toNat < zs.length := by omega
      have ej : atI zs j = some zs[j.toNat] := by
        have := atI_nat (List.getElem?_eq_getElem hj)
        rwa [show ((j.toNat : Nat) : Int) = j by omega] at this
      refine ⟨mr, _, j, _, rfl, rfl, SqL.of hm9, ej, ?_⟩
      have hr9 := hz9 _ (List.getElem_mem hj)
      generalize zs[j.toNat] = rw0 at hr9
      refine meet_if (fun σ H' => ∃ v, NoRow H' v ∧ Same H9 H' ∧ σ = [some (.ref a0), some (.int head), some (.ref x), some d, some (.ref mr), some (.ref nr), v6', some (.int (i : Int)), some (.int c), some v]) ?_ fun R hR => ?_
      rotate_left
      · refine ⟨_, rfl, c, 5, 3, rfl, by decide, by decide, by decide, fun r3 _ _ => ⟨rfl, _, rfl, ?_⟩⟩
        refine ite2 (fun _ => ?_) fun _ => hR _ _ ⟨_, hr9, Same.refl _, rfl⟩
        exact ⟨_, rfl, c, rfl, fun z H10 az nz s10 => hR _ _ ⟨.str z, .inr ⟨z, rfl, az, nz⟩, s10, rfl⟩⟩
      rintro σ H10 ⟨v, nv, s10, rfl⟩
      have s810 := s9.trans s10
      obtain ⟨dxa, ta, wa, hxa, hca⟩ := hd8.same s810
      refine ⟨_, rfl, _, rfl, x, dxa, v, ta, wa, rfl, hxa, .inl ⟨nv, fun ra Ha _ hra sa => ?_⟩⟩
      have hna := sa _ _ (s810 _ _ hn8)
      refine ⟨_, rfl, pBls noneF, pBls noneF, datV_lst (SqL.of hra) (datVs_bls _), datV_lst (SqL.of hna) (datVs_bls _), Nat.le_trans (Nat.min_le_left _ _) bls_none.1, _, rfl, ?_⟩
      rw [show PyData.eqv (pBls noneF) (pBls noneF) = true from bls_none.2.1]
      refine iteF ?_
      have hxa' := sa _ _ hxa
      rcases hca with ⟨rfl, p, rfl, hp⟩ | ⟨rfl, a, b, rfl, rfl, ha, hb⟩
      · refine ⟨_, rfl, x, dxa, _, _, wa, rfl, hxa', .inr (.inl ⟨rfl, rfl, fun rb Hb _ hrb sb => ?_⟩)⟩
        refine ⟨_, rfl, pBls nyF, pBls nyF, datV_lst (SqL.of hrb) (datVs_bls _), datV_lst (SqL.of (sb _ _ (sa _ _ hp))) (datVs_bls _), Nat.le_trans (Nat.min_le_left _ _) bls_none.2.2.1, _, rfl, ?_⟩
        rw [show PyData.eqv (pBls nyF) (pBls nyF) = true from bls_none.2.2.2.1]
        exact iteF ⟨s810.trans (sa.trans sb), _, _, _, _, rfl⟩
      · refine ⟨_, rfl, x, dxa, _, _, _, rfl, hxa', .inr (.inr ⟨rfl, a, b, rfl, rfl, sa _ _ ha, sa _ _ hb, fun Hb sb => ?_⟩)⟩
        refine ⟨_, rfl, .str "bare 2", .str "bare 2", datV_str _ (by decide +kernel), datV_str _ (by decide +kernel), by decide, _, rfl, ?_⟩
        rw [show PyData.eqv (.str "bare 2") (.str "bare 2") = true by simp [PyData.eqv]]
        exact iteF ⟨s810.trans (sa.trans sb), _, _, _, _, rfl⟩
    · rintro σ H9 ⟨s9, v6', v7, v8, v9, rfl⟩
      exact k H9
end

end Ov

namespace Ov
open PySem L2
theorem all_mk {P : Program} {w : World} {K : PySem.W.Frag} {h : Heap} {mg : Str → Option Value} {fa C dT dB g1 g2 h1 h2 h3 h4 h5 : Addr} {nT nB : Nat} {k1 k2 t1 t2 t3 t4 t5 : Tok} (X : K.In h) (G : h.Ns mainGlobals mg) (hfa : mg "law" = some (.ref fa))
    (f1 : FF K "_law_cell_at" sCellAt) (f2 : FF K "_law_stir" sStir) (f3 : FF K "_law_digit" sDigit) (f4 : FF K "_law_word" sWord) (f5 : FF K "is_sign" sIsSign) (f6 : FF K "check_signs" sCheck) (f7 : FF K "check_word" sCheckWord) (f8 : FF K "check_some" sCheckSome) (f9 : FF K "lies_at" sLiesAt) (f10 : FF K "first_bare" sFirstBare)
    (f11 : FF K "covered" sCovered) (f12 : FF K "tell_laid" sTellLaid) (f13 : FF K "are_letters" sAreLetters) (f14 : FF K "is_length" sIsLength) (f15 : FF K "_law_class" sClass) (f16 : FF K "_law_said" sSaid) (f17 : FF K "_law_menu" sMenu) (f18 : FF K "_law_signs" sSignsL) (f19 : FF K "_law_longer" sLonger) (f20 : FF K "law" sLaw)
    (x : Md K mg → ∃ c0 c1 c2 c3 c4 c5 c6 c7 c8 c9 : Addr, Exs K mg c0 c1 c2 c3 c4 c5 c6 c7 c8 c9) (na : PySem.W.nsIn K mainGlobals "all" = some none)
    (gD : PySem.W.nsIn K mainGlobals "Desk" = some (some (.ref C))) (q1 : PySem.W.plainGet K C Str.empty = true) (q2 : PySem.W.hasDictIn K C = true) (q3 : PySem.W.plainOver K C = true) (q4 : PySem.W.findIn K (.ref C) "__setattr__" = some (some (.builtin "object.__setattr__"))) (q5 : PySem.W.makesIn K C = true) (q6 : PySem.W.keepIn K (.ref C) = true)
    (q7 : PySem.W.findIn K (.ref C) "text" = some none) (q8 : PySem.W.findIn K (.ref C) "word" = some none)
    (m1 : MF K C "__init__" "Desk.__init__" sInit) (m2 : MF K C "told_text" "Desk.told_text" sToldText) (m3 : MF K C "told_word" "Desk.told_word" sToldWord) (m4 : MF K C "say" "Desk.say" sSay)
    (gT : PySem.W.nsIn K mainGlobals "OF_TEXT" = some (some (.ref dT))) (lT : K.lookup dT = some { cls := .type "dict", data := .dict #[⟨PyData.keyHash w.params "covers", .str "covers" k1, .ref g1⟩, ⟨PyData.keyHash w.params "shortest", .str "shortest" k2, .ref g2⟩] nT }) (sT : (dT == sysModules) = false)
    (gB : PySem.W.nsIn K mainGlobals "OF_BOTH" = some (some (.ref dB))) (lB : K.lookup dB = some { cls := .type "dict", data := .dict #[⟨PyData.keyHash w.params "lies", .str "lies" t1, .ref h1⟩, ⟨PyData.keyHash w.params "laid", .str "laid" t2, .ref h2⟩, ⟨PyData.keyHash w.params "fewest", .str "fewest" t3, .ref h3⟩, ⟨PyData.keyHash w.params "wrong", .str "wrong" t4, .ref h4⟩, ⟨PyData.keyHash w.params "ends", .str "ends" t5, .ref h5⟩] nB }) (sB : (dB == sysModules) = false)
    (gL : PySem.W.nsIn K mainGlobals "tell_laid" = some (some (.ref h2))) (b : Md K mg → Bl mg) :
    ∃ fd : FuncData, (∀ (s : Shared) (v : Value), BindsTo s fd ⟨[v], []⟩ [("script", v)]) ∧ ∀ base : Heap, K.In base → base.Ns mainGlobals mg → FnOk P w K mg base CX0 9 fa fd ["script"] (spLaw K) := by
  have M := md_of X G
  have Bl := b M
  obtain ⟨c0, c1, c2, c3, c4, c5, c6, c7, c8, c9, S⟩ := x M
  refine law_of M f20 hfa (fun _ _ _ _ _ _ s v => .of_eq rfl) fun base => ?_
  have oF : Exc K mg "NoForm" c6 := ⟨S.bNoForm, (excFacts.of S.facts c6 (by simp)).isIn⟩
  have oY : Exc K mg "NoneYet" c8 := ⟨S.bNoneYet, (excFacts.of S.facts c8 (by simp)).isIn⟩
  have T : DeskT K mg C := ⟨⟨q1, q2, q3, q4⟩, q7, q8, M.ns _ _ gD⟩
  have D1 := dk_mk (P := P) (w := w) [("covers", k1, g1), ("shortest", k2, g2)] lT (n := nT) rfl sT (show (["covers", "shortest"] : List Str).Nodup by decide +kernel)
  have D2 := dk_mk (P := P) (w := w) [("lies", t1, h1), ("laid", t2, h2), ("fewest", t3, h3), ("wrong", t4, h4), ("ends", t5, h5)] lB (n := nB) rfl sB (show (["lies", "laid", "fewest", "wrong", "ends"] : List Str).Nodup by decide +kernel)
  have g1 := ok_cell_at (P := P) (w := w) (base := base) M Bl f1
  have g2 := ok_stir (P := P) (w := w) (base := base) M Bl f2
  have g3 := ok_digit M Bl f3 g2
  have g4 := ok_word M Bl f4 g3
  have g5 := ok_is_sign (P := P) (w := w) (base := base) M Bl f5
  have g5' := ok_sgn (P := P) (w := w) (base := base) M Bl f5
  have g6 := ok_check M Bl f6 g5
  have g7 := ok_check_word M Bl f7 g6
  have g8 := ok_check_some (P := P) (w := w) (base := base) M Bl f8
  have g9 := ok_lies_at M Bl f9 g6 g7
  have g10 := ok_first_bare (P := P) (w := w) (base := base) M Bl f10
  have g11 := ok_covered M Bl f11 g9 g8 g10
  have g12 := ok_tell_laid M Bl f12 g11
  have g13 := ok_are_letters M Bl (M.ns _ _ na) f13 g5'
  have g14 := ok_is_length (P := P) (w := w) (base := base) M Bl (M.ns _ _ na) f14
  have i1 := ok_init (P := P) (w := w) (base := base) T m1
  have i2 := ok_told_text (P := P) (w := w) (base := base) T oY m2
  have i3 := ok_told_word (P := P) (w := w) (base := base) T oY m3
  have i4 := ok_say M Bl T m4 oF i2 i3 g13 g14 g12 (M.ns _ _ gL) (M.ns _ _ gT) (M.ns _ _ gB) D1 D2
  have g15 := ok_classH (P := P) (w := w) (base := base) M Bl f15 S
  have g16 := ok_said M Bl T f16 S i4 g15
  have g17 := ok_menu (P := P) (w := w) (base := base) M Bl f17
  have g18 := ok_signsL (P := P) (w := w) (base := base) M f18
  have g19 := ok_longer M Bl f19 g3 g4 g18
  exact ok_law M Bl T f20 (mkf_of q5 q6 i1) g1 g3 i4 g17 g18 g16 g19

end Ov

namespace Ov
open PySem L2
theorem walk {l : PySem.W.OpenLaw} {q : Program} {loose : List Str} {XP : (Str → Option Value) → Heap → Prop} {YP : World → Heap → Prop} {d : DefRec} {K : Params → PySem.W.Frag} (hn : l.most = some 63) (hdf : d.params.defaults = [])
    (hY : ∀ (w : World) (h : Heap), YP w h → (K w.params).In h)
    (F : ∀ (w : World) (mg : Str → Option Value) (fa : Addr) (h : Heap), (K w.params).In h → h.Ns mainGlobals mg → mg d.name = some (.ref fa) →
      ∃ fd : FuncData, (∀ (s : Shared) (u : Value), BindsTo s fd ⟨[u], []⟩ [("script", u)]) ∧ ∀ base : Heap, (K w.params).In base → base.Ns mainGlobals mg → FnOk l.prog w (K w.params) mg base CX0 9 fa fd ["script"] (spLaw (K w.params))) :
    PySem.W.WalkO q loose XP YP l.row.toRowW d [] (fun f vs => PySem.call f vs) :=
  L2.walk_of (n := 63) (k := 9) (x := "script") (CX := fun _ => CX0) (sp := fun w => spLaw (K w.params)) hn (by decide) hdf ⟨rfl, by decide, by decide⟩ hY F (fun _ _ a ns hl _ hS => ⟨a, ns, rfl, hS, hl, fun _ => rfl⟩) fun _ _ _ _ _ z => z

end Ov

namespace PySem.W.Fast
theorem tw3754464658818530731:True:=trivial
theorem tw9960394080080983377:True:=trivial
theorem tw11828540808818643750:True:=trivial
theorem tw688188385463417004:True:=trivial
theorem tw13109854426378732840:True:=trivial
theorem tw2015551857016906573:True:=trivial
theorem tw7977812030336962279:True:=trivial
theorem tw10356388738511334669:True:=trivial
theorem tw16837350351051294966:True:=trivial
theorem tw14010172647486571010:True:=trivial
theorem tw1714481931488574017:True:=trivial
theorem tw16115509615328208956:True:=trivial
theorem tw12533973668543025974:True:=trivial
theorem tw3951836399019000890:True:=trivial
theorem tw13482975424617973274:True:=trivial
theorem tw18377574453368270602:True:=trivial
theorem tw7524411149896993770:True:=trivial
theorem tw12080298953591783711:True:=trivial
theorem tw3697131388556776011:True:=trivial
theorem tw13988371587870113145:True:=trivial
theorem tw11690033321248393896:True:=trivial
theorem tw2864994225955392251:True:=trivial
theorem tw3313434372119334299:True:=trivial
theorem tw10415050373898692011:True:=trivial
theorem tw18327209268379553159:True:=trivial
theorem tw5271633139754919440:True:=trivial
theorem tw5284203378097957961:True:=trivial
theorem tw8914520598683699671:True:=trivial
theorem tw2558995390396750851:True:=trivial
theorem tw650788066299993781:True:=trivial
theorem tw3842059509450886644:True:=trivial
theorem tw9305470523566597549:True:=trivial
theorem tw2343758984545127365:True:=trivial
theorem tw15552751072897724613:True:=trivial
theorem tw11469101495935249180:True:=trivial
theorem tw7181135176568183290:True:=trivial
theorem tw2351595605666635861:True:=trivial
theorem tw15758945456004486822:True:=trivial
theorem tw11153429312714092921:True:=trivial
theorem tw941954167818288720:True:=trivial
theorem tw11600487441366337226:True:=trivial
theorem tw3688375005416513798:True:=trivial
theorem tw10072397894436967283:True:=trivial
theorem tw111798240280378600:True:=trivial
theorem tw1551187967394141748:True:=trivial
theorem tw16197723870274715757:True:=trivial
theorem tw7714056760669624782:True:=trivial
theorem tw4367373817732453048:True:=trivial
theorem tw5540745128749284477:True:=trivial
theorem tw17235262018726080002:True:=trivial
end PySem.W.Fast

open PySem PySem.W PyProof.Rows
set_option maxRecDepth 100000 in
set_option maxHeartbeats 0 in
theorem PySem.Challenge.cw_overlaid_k47_rows_of_no_form_holds : PySem.Challenge.rw_overlaid_k47_rows_of_no_form.Holds := by
  w_on; o_law; k_head; (case hw => w_witness2)
  k_fill
  refine Ov.walk (l := PySem.Challenge.rw_overlaid_k47_rows_of_no_form) rfl rfl (fun w h Y => PySem.W.km_in_of Y) ?F
  case F =>
    intro w mg fa h KX G hmg
    refine' Ov.all_mk KX G hmg ?f1 ?f2 ?f3 ?f4 ?f5 ?f6 ?f7 ?f8 ?f9 ?f10 ?f11 ?f12 ?f13 ?f14 ?f15 ?f16 ?f17 ?f18 ?f19 ?f20 ?X ?Nall ?gD ?q1 ?q2 ?q3 ?q4 ?q5 ?q6 ?q7 ?q8 ?m1 ?m2 ?m3 ?m4 ?gT ?lT ?sT ?gB ?lB ?sB ?gL ?B
    (case f1 => (refine' L2.ff_mk ?a ?l ?c ?k; (case a => k_is); (case l => k_is); (case c => k_is); (case k => k_is)))
    (case f2 => (refine' L2.ff_mk ?a ?l ?c ?k; (case a => k_is); (case l => k_is); (case c => k_is); (case k => k_is)))
    (case f3 => (refine' L2.ff_mk ?a ?l ?c ?k; (case a => k_is); (case l => k_is); (case c => k_is); (case k => k_is)))
    (case f4 => (refine' L2.ff_mk ?a ?l ?c ?k; (case a => k_is); (case l => k_is); (case c => k_is); (case k => k_is)))
    (case f5 => (refine' L2.ff_mk ?a ?l ?c ?k; (case a => k_is); (case l => k_is); (case c => k_is); (case k => k_is)))
    (case f6 => (refine' L2.ff_mk ?a ?l ?c ?k; (case a => k_is); (case l => k_is); (case c => k_is); (case k => k_is)))
    (case f7 => (refine' L2.ff_mk ?a ?l ?c ?k; (case a => k_is); (case l => k_is); (case c => k_is); (case k => k_is)))
    (case f8 => (refine' L2.ff_mk ?a ?l ?c ?k; (case a => k_is); (case l => k_is); (case c => k_is); (case k => k_is)))
    (case f9 => (refine' L2.ff_mk ?a ?l ?c ?k; (case a => k_is); (case l => k_is); (case c => k_is); (case k => k_is)))
    (case f10 => (refine' L2.ff_mk ?a ?l ?c ?k; (case a => k_is); (case l => k_is); (case c => k_is); (case k => k_is)))
    (case f11 => (refine' L2.ff_mk ?a ?l ?c ?k; (case a => k_is); (case l => k_is); (case c => k_is); (case k => k_is)))
    (case f12 => (refine' L2.ff_mk ?a ?l ?c ?k; (case a => k_is); (case l => k_is); (case c => k_is); (case k => k_is)))
    (case f13 => (refine' L2.ff_mk ?a ?l ?c ?k; (case a => k_is); (case l => k_is); (case c => k_is); (case k => k_is)))
    (case f14 => (refine' L2.ff_mk ?a ?l ?c ?k; (case a => k_is); (case l => k_is); (case c => k_is); (case k => k_is)))
    (case f15 => (refine' L2.ff_mk ?a ?l ?c ?k; (case a => k_is); (case l => k_is); (case c => k_is); (case k => k_is)))
    (case f16 => (refine' L2.ff_mk ?a ?l ?c ?k; (case a => k_is); (case l => k_is); (case c => k_is); (case k => k_is)))
    (case f17 => (refine' L2.ff_mk ?a ?l ?c ?k; (case a => k_is); (case l => k_is); (case c => k_is); (case k => k_is)))
    (case f18 => (refine' L2.ff_mk ?a ?l ?c ?k; (case a => k_is); (case l => k_is); (case c => k_is); (case k => k_is)))
    (case f19 => (refine' L2.ff_mk ?a ?l ?c ?k; (case a => k_is); (case l => k_is); (case c => k_is); (case k => k_is)))
    (case f20 => (refine' L2.ff_mk ?a ?l ?c ?k; (case a => k_is); (case l => k_is); (case c => k_is); (case k => k_is)))
    (case X => (intro M; refine' ⟨_, _, _, _, _, _, _, _, _, _, Ov.exs_mk M ?a0 ?a1 ?a2 ?a3 ?a4 ?a5 ?a6 ?a7 ?a8 ?a9 ?av ?ef ?nd⟩; (case a0 => k_is); (case a1 => k_is); (case a2 => k_is); (case a3 => k_is); (case a4 => k_is); (case a5 => k_is); (case a6 => k_is); (case a7 => k_is); (case a8 => k_is); (case a9 => k_is); (case av => k_is); (case ef => kernel_rfl); (case nd => decide)))
    (case Nall => k_is); (case gD => k_is); (case q1 => k_is); (case q2 => k_is); (case q3 => k_is); (case q4 => k_is); (case q5 => k_is); (case q6 => k_is); (case q7 => k_is); (case q8 => k_is)
    (case m1 => (refine' L2.mf_mk ?a ?i ?l ?c ?k; (case a => k_is); (case i => k_is); (case l => k_is); (case c => k_is); (case k => k_is)))
    (case m2 => (refine' L2.mf_mk ?a ?i ?l ?c ?k; (case a => k_is); (case i => k_is); (case l => k_is); (case c => k_is); (case k => k_is)))
    (case m3 => (refine' L2.mf_mk ?a ?i ?l ?c ?k; (case a => k_is); (case i => k_is); (case l => k_is); (case c => k_is); (case k => k_is)))
    (case m4 => (refine' L2.mf_mk ?a ?i ?l ?c ?k; (case a => k_is); (case i => k_is); (case l => k_is); (case c => k_is); (case k => k_is)))
    (case gT => k_is); (case lT => k_is); (case gB => k_is); (case lB => k_is)
    (case gL => k_is)
    (case sT => rfl); (case sB => rfl)
    (case B => (intro M; refine' L2.bl_of M ?b1 ?b2 ?b3 ?b4 ?b5 ?b6 ?b7 ?b8 ?b9 ?b10 ?b11 ?b12 ?b13 ?b14 ?b15; (case b1 => k_is); (case b2 => k_is); (case b3 => k_is); (case b4 => k_is); (case b5 => k_is); (case b6 => k_is); (case b7 => k_is); (case b8 => k_is); (case b9 => k_is); (case b10 => k_is); (case b11 => k_is); (case b12 => k_is); (case b13 => k_is); (case b14 => k_is); (case b15 => k_is)))
