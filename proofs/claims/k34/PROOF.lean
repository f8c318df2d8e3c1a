import PyProof.Rows.All
import Wide.All
import OpenK.AllK
import Wide.FinOn
import Lean
import PyProof.EqAt
import PyProof.EqKinds
import PyProof.TupleCall
import PySem.Challenge.RW_overlaid_k34_whole_wrong_signs
set_option Elab.async false
set_option linter.all false
set_option maxRecDepth 100000
/-! THE HAND LAYER, for ints, bools, texts, own classes, LISTS and tuples (index, slices, in, append, pop ..), calls, loops. Paste it whole ahead of your own text; what your proof does not reach may be deleted. -/
namespace L2
open PySem PySem.Spec PyProof.Rows

/-- a key: an int or a str -/
abbrev Key := Sum Int Str
def keyIs : Key → Value → Bool
  | .inl k, v => Value.isInt k v
  | .inr x, v => Value.isStrOf x v
def keyH (w : World) : Key → Int
  | .inl k => hashInt k
  | .inr x => hashStr w x
theorem keyIs_shape : ∀ {k : Key} {v : Value}, keyIs k v = true → (∃ i t, k = Sum.inl i ∧ v = Value.int i t) ∨ (∃ x t, k = Sum.inr x ∧ v = Value.str x t)
  | .inl i, v, h => by
    obtain ⟨t, e⟩ := Value.isInt_shape (k := i) (v := v) h
    exact .inl ⟨i, t, rfl, e⟩
  | .inr x, v, h => by
    obtain ⟨t, e⟩ := Value.isStrOf_shape (x := x) (v := v) h
    exact .inr ⟨x, t, rfl, e⟩
theorem keyIs_int (i : Int) (t : Tok) : keyIs (.inl i) (.int i t) = true := by simp [keyIs, Value.isInt]
theorem keyIs_str (x : Str) (t : Tok) : keyIs (.inr x) (.str x t) = true := by simp [keyIs, Value.isStrOf]
theorem key_ll (a b : Int) : decide ((Sum.inl a : Key) = Sum.inl b) = (a == b) := by
  by_cases e : a = b
  · subst e; simp
  · have h : ¬ (Sum.inl a : Key) = Sum.inl b := fun q => e (Sum.inl.inj q)
    rw [decide_eq_false h]
    exact (beq_eq_false_iff_ne.mpr e).symm
theorem key_rr (a b : Str) : decide ((Sum.inr a : Key) = Sum.inr b) = decide (a = b) := by
  by_cases e : a = b
  · subst e; simp
  · have h : ¬ (Sum.inr a : Key) = Sum.inr b := fun q => e (Sum.inr.inj q)
    rw [decide_eq_false h, decide_eq_false e]
theorem key_lr (a : Int) (b : Str) : decide ((Sum.inl a : Key) = Sum.inr b) = false := decide_eq_false (fun q => nomatch q)
theorem key_rl (a : Str) (b : Int) : decide ((Sum.inr a : Key) = Sum.inl b) = false := decide_eq_false (fun q => nomatch q)

def mixKind (prog : Program) (w : World) : PySem.KeyKind prog w Key where
  is := keyIs
  hash := keyH w
  inj := fun v a b ha hb => by
    rcases keyIs_shape ha with ⟨i, t, rfl, rfl⟩ | ⟨x, t, rfl, rfl⟩
    · rcases keyIs_shape hb with ⟨j, u, rfl, e⟩ | ⟨y, u, rfl, e⟩
      · injection e with e1 _; rw [e1]
      · exact nomatch e
    · rcases keyIs_shape hb with ⟨j, u, rfl, e⟩ | ⟨y, u, rfl, e⟩
      · exact nomatch e
      · injection e with e1 _; rw [e1]
  byValue := fun k v h => by
    rcases keyIs_shape h with ⟨i, t, rfl, rfl⟩ | ⟨x, t, rfl, rfl⟩ <;> rfl
  pyHash := fun hv h => by
    rcases keyIs_shape hv with ⟨i, t, rfl, rfl⟩ | ⟨x, t, rfl, rfl⟩
    · exact wpAny_pyHash_int h
    · exact wpAny_pyHash_str h
  eqBool := fun hu hv h => by
    rcases keyIs_shape hu with ⟨i, t, rfl, rfl⟩ | ⟨x, t, rfl, rfl⟩
    · rcases keyIs_shape hv with ⟨j, u, rfl, rfl⟩ | ⟨y, u, rfl, rfl⟩
      · rw [key_ll] at h; exact wpAny_eqBool_int h
      · rw [key_lr] at h; exact SeqAt.EqAt.int_str i t y u _ _ _ _ h
    · rcases keyIs_shape hv with ⟨j, u, rfl, rfl⟩ | ⟨y, u, rfl, rfl⟩
      · rw [key_rl] at h; exact SeqAt.EqAt.str_int x t j u _ _ _ _ h
      · rw [key_rr] at h; exact wpAny_eqBool_str h
  «strs» := fun k x t v h => by
    rcases keyIs_shape h with ⟨i, u, rfl, e⟩ | ⟨y, u, rfl, e⟩
    · exact nomatch e
    · injection e with e1 _
      subst e1
      cases v <;> rfl

theorem mixKind_int (prog : Program) (w : World) (i : Int) (t : Tok) : (mixKind prog w).is (.inl i) (.int i t) = true := keyIs_int i t
theorem mixKind_str (prog : Program) (w : World) (x : Str) (t : Tok) : (mixKind prog w).is (.inr x) (.str x t) = true := keyIs_str x t
end L2

namespace L2
open PySem PySem.Spec PyProof.Rows

/-- a value, without the heap -/
inductive V where
  | non | bl (b : Bool) | int (i : Int) | str (x : Str) | byt (b : Array UInt8) | flt (b : UInt64) | ref (a : Addr) | ty (n : String)
  deriving DecidableEq

def RelV : V → Value → Prop
  | .non, u => u = Value.none
  | .bl b, u => u = Value.bool b
  | .int i, u => ∃ t, u = Value.int i t
  | .str x, u => ∃ t, u = Value.str x t
  | .byt b, u => ∃ t, u = Value.bytes b t
  | .flt b, u => ∃ t, u = Value.float b t
  | .ref a, u => u = Value.ref a
  | .ty n, u => u = Value.type n

abbrev Vals : List V → List Value → Prop := Paired RelV
theorem Vals.length {xs : List V} {us : List Value} (r : Vals xs us) : xs.length = us.length := Paired.length r
theorem Vals.get : ∀ {xs : List V} {us : List Value} {i : Nat} {x : V}, Vals xs us → xs[i]? = some x → ∃ u, us[i]? = some u ∧ RelV x u
  | _, _, _, _, .nil, e => by simp at e
  | _, _, 0, _, .cons r _, e => by simp at e; subst e; exact ⟨_, rfl, r⟩
  | _, _, i + 1, x, .cons _ t, e => by
    obtain ⟨u, h1, h2⟩ := Vals.get (i := i) (x := x) t (by simpa using e)
    exact ⟨u, by simpa using h1, h2⟩
theorem Vals.set {x : V} {u : Value} (r : RelV x u) : ∀ {xs : List V} {us : List Value} (i : Nat), Vals xs us → Vals (xs.set i x) (us.set i u)
  | _, _, _, .nil => .nil
  | _, _, 0, .cons _ t => .cons r t
  | _, _, i + 1, .cons q t => .cons q (Vals.set r i t)
theorem Vals.append : ∀ {xs ys : List V} {us ws : List Value}, Vals xs us → Vals ys ws → Vals (xs ++ ys) (us ++ ws)
  | _, _, _, _, .nil, s => s
  | _, _, _, _, .cons r t, s => .cons r (Vals.append t s)
theorem Vals.take : ∀ {xs : List V} {us : List Value} (n : Nat), Vals xs us → Vals (xs.take n) (us.take n)
  | _, _, 0, _ => .nil
  | _, _, _ + 1, .nil => .nil
  | _, _, n + 1, .cons r t => .cons r (Vals.take n t)
theorem Vals.drop : ∀ {xs : List V} {us : List Value} (n : Nat), Vals xs us → Vals (xs.drop n) (us.drop n)
  | _, _, 0, r => r
  | _, _, _ + 1, .nil => .nil
  | _, _, n + 1, .cons _ t => Vals.drop n t

def RelO : Option V → Option Value → Prop
  | some v, some u => RelV v u
  | none, none => True
  | _, _ => False
def KV {κ : Type} : List (κ × V) → List (κ × Value) → Prop := Paired fun (p : κ × V) (q : κ × Value) => p.1 = q.1 ∧ RelV p.2 q.2

/-- a key of a dict (00_mix): an int or a text -/
def kV : Key → V
  | .inl i => .int i
  | .inr x => .str x

/-- what stands at a tracked address -/
inductive HO where
  /-- a list -/
  | lst (xs : List V)
  /-- a tuple (never changes) -/
  | tup (xs : List V)
  /-- a dict whose keys are ints and texts; one whose keys are tuples of ints and texts (the empty one is both) -/
  | dK (kvs : List (Key × V)) | dT (kvs : List (List Key × V))
  /-- a set of ints: its members, its size -/
  | set (S : Int → Bool) (n : Nat)
  /-- an instance of the class at C, its dict at dx, its attributes -/
  | ins (C dx : Addr) (fs : List (Str × V))
  /-- the dict of the instance at x -/
  | own (x : Addr)
  /-- the dict of an exception -/
  | xd (fs : List (Str × V))
  /-- a bound method, f of x -/
  | met (f x : Addr)
  /-- a range object lo, lo + 1, .. below hi -/
  | rng (lo hi : Int)
  /-- a thing that is known to the object (the script; a dict while a loop walks it): read, never written while it is so -/
  | frz (o : Obj) (u : HO)
  /-- a code object's table -/
  | tbl (ps : Array Value)
  /-- any other thing, by what is true of its one object (a def of one's own: SetO a S n := HO.ext fun h => ..) -/
  | ext (φ : Heap → Prop)

abbrev Hp := Addr → Option HO
def upd (H : Hp) (a : Addr) (o : HO) : Hp := fun b => if b = a then some o else H b
theorem upd_same {H : Hp} {a : Addr} {o : HO} : upd H a o a = some o := by unfold upd; rw [if_pos rfl]
theorem upd_ne {H : Hp} {a b : Addr} {o : HO} (h : b ≠ a) : upd H a o b = H b := by unfold upd; rw [if_neg h]
/-- two objects of different content stand apart -/
theorem ne_of {H : Hp} {a b : Addr} {o u : HO} (h : H a = some o) (h' : H b = some u) (d : o ≠ u) : a ≠ b := by
  intro e; subst e; rw [h] at h'; exact d (Option.some.inj h')
theorem ne_of_none {H : Hp} {a b : Addr} {o : HO} (h : H a = some o) (h' : H b = none) : a ≠ b := by
  intro e; subst e; rw [h] at h'; cases h'

section
variable (P : Program) (w : World)
def ObjOk (H : Hp) (h : Heap) (a : Addr) : HO → Prop
  | .lst xs => xs.length ≤ sizeLine ∧ ∃ (its : List Value) (n : Nat), Vals xs its ∧ h.get? a = some { cls := .type "list", data := .seq its.toArray n }
  | .tup xs => xs.length ≤ sizeLine ∧ ∃ its : List Value, Vals xs its ∧ IsTup h a its.toArray
  | .dK kvs => kvs.length ≤ sizeLine ∧ (a == sysModules) = false ∧ ∃ vs, KV kvs vs ∧ h.DictOf (mixKind P w) a vs
  | .dT kvs => kvs.length ≤ sizeLine ∧ (a == sysModules) = false ∧ ∃ xs : List (List Key × Addr × Value),
      Paired (fun (p : List Key × V) (q : List Key × Addr × Value) => p.1 = q.1 ∧ H q.2.1 = some (.tup (p.1.map kV)) ∧ RelV p.2 q.2.2) kvs xs ∧
      ∃ o es ep, h.get? a = some o ∧ o.ExactDict ∧ o.data = .dict es ep ∧ es.toList = xs.map (entryOfKey (tupleKind (mixKind P w))) ∧ (xs.map (·.1)).Nodup
  | .set S n => h.SetOf (intKind P w) a S n
  | .ins C dx fs => H dx = some (.own a) ∧ fs.length ≤ 1000 ∧ dx ≠ a ∧ h.get? a = some (PySem.W.instObj C dx) ∧
      ∃ mA, h.Ns1 dx mA ∧ (∀ f, RelO (fs.lookup f) (mA f)) ∧ PySem.Within mA (fs.map (·.1))
  | .own _ => ∃ o, h.get? a = some o
  | .xd fs => ∃ mA, h.Ns1 a mA ∧ ∀ f, RelO (fs.lookup f) (mA f)
  | .rng lo hi => ∃ t u v, h.get? a = some { cls := .type "range", data := .fields #[.int lo t, .int hi u, .int 1 v] }
  | .frz o u => h.get? a = some o ∧ ObjOk H h a u
  | .tbl ps => h.get? a = some { cls := .none, data := .fields ps }
  | .met f x => h.get? a = some (PySem.W.methodObj (.ref f) (.ref x))
  | .ext φ => φ h ∧ (∃ o, h.get? a = some o) ∧ ∀ h1 h2 : Heap, φ h1 → (∀ o, h1.get? a = some o → h2.get? a = some o) → φ h2
/-- the abstract heap is held -/
def HOk (H : Hp) (h : Heap) : Prop := ∀ a o, H a = some o → ObjOk P w H h a o
end

section
variable {P : Program} {w : World} {H H' : Hp} {h h' : Heap} {a : Addr} {o : HO}
theorem ObjOk.lt (x : ObjOk P w H h a o) : a < h.objs.size := by
  cases o with
  | lst xs => obtain ⟨_, _, _, _, e⟩ := x; exact Heap.lt_size e
  | tup xs => obtain ⟨_, _, _, p⟩ := x; exact p.lt
  | dK kvs => obtain ⟨_, _, _, _, o, _, _, e, _⟩ := x; exact Heap.lt_size e
  | dT kvs => obtain ⟨_, _, _, _, o, _, _, e, _⟩ := x; exact Heap.lt_size e
  | set S n => obtain ⟨o, _, _, _, e, _⟩ := x; exact Heap.lt_size e
  | ins C dx fs => obtain ⟨_, _, _, e, _⟩ := x; exact Heap.lt_size e
  | own y => obtain ⟨_, e⟩ := x; exact Heap.lt_size e
  | xd fs => obtain ⟨_, ⟨_, _, _, e, _⟩, _⟩ := x; exact Heap.lt_size e
  | rng lo hi => obtain ⟨_, _, _, e⟩ := x; exact Heap.lt_size e
  | frz ob u => obtain ⟨e, _⟩ := x; exact Heap.lt_size e
  | tbl ps => exact Heap.lt_size (show h.get? a = some _ from x)
  | met f y => exact Heap.lt_size (show h.get? a = some _ from x)
  | ext φ => obtain ⟨_, ⟨_, e⟩, _⟩ := x; exact Heap.lt_size e
theorem Paired.mapP {α β : Type} {F G : α → β → Prop} : ∀ {l₁ : List α} {l₂ : List β}, Paired F l₁ l₂ → (∀ a b, F a b → G a b) → Paired G l₁ l₂
  | _, _, .nil, _ => .nil
  | _, _, .cons r t, f => .cons (f _ _ r) (Paired.mapP t f)
/-- what an object's description leans on: its own object, its own dict, the tuples -/
theorem ObjOk.stay (x : ObjOk P w H h a o) (k : ∀ b u, (b = a ∨ H b = some (.own a)) → h.get? b = some u → h'.get? b = some u)
    (ho : ∀ b, H b = some (.own a) → H' b = some (.own a)) (ht : ∀ b xs, H b = some (.tup xs) → H' b = some (.tup xs)) : ObjOk P w H' h' a o := by
  induction o with
  | lst xs => obtain ⟨z, its, n, r, e⟩ := x; exact ⟨z, its, n, r, k _ _ (.inl rfl) e⟩
  | tup xs => obtain ⟨z, its, r, ob, e, c⟩ := x; exact ⟨z, its, r, ob, k _ _ (.inl rfl) e, c⟩
  | dK kvs => obtain ⟨z, y, vs, r, ob, es, ep, e, c⟩ := x; exact ⟨z, y, vs, r, ob, es, ep, k _ _ (.inl rfl) e, c⟩
  | dT kvs =>
    obtain ⟨z, y, xs, r, ob, es, ep, e, c⟩ := x
    exact ⟨z, y, xs, Paired.mapP r fun p q z => ⟨z.1, ht _ _ z.2.1, z.2.2⟩, ob, es, ep, k _ _ (.inl rfl) e, c⟩
  | set S n => obtain ⟨ob, es, ep, t, e, c⟩ := x; exact ⟨ob, es, ep, t, k _ _ (.inl rfl) e, c⟩
  | ins C dx fs =>
    obtain ⟨d, z, ne, e, mA, ⟨od, es, ep, e2, c⟩, r⟩ := x
    exact ⟨ho _ d, z, ne, k _ _ (.inl rfl) e, mA, ⟨od, es, ep, k _ _ (.inr d) e2, c⟩, r⟩
  | own y => obtain ⟨ob, e⟩ := x; exact ⟨ob, k _ _ (.inl rfl) e⟩
  | xd fs => obtain ⟨mA, ⟨od, es, ep, e, c⟩, r⟩ := x; exact ⟨mA, ⟨od, es, ep, k _ _ (.inl rfl) e, c⟩, r⟩
  | rng lo hi => obtain ⟨t, u, v, e⟩ := x; exact ⟨t, u, v, k _ _ (.inl rfl) e⟩
  | frz ob u ih => obtain ⟨e, q⟩ := x; exact ⟨k _ _ (.inl rfl) e, ih q⟩
  | tbl ps =>
    have e : h.get? a = some { cls := .none, data := .fields ps } := x
    show h'.get? a = some { cls := .none, data := .fields ps }
    exact k a _ (.inl rfl) e
  | met f y =>
    have e : h.get? a = some (PySem.W.methodObj (.ref f) (.ref y)) := x
    show h'.get? a = some (PySem.W.methodObj (.ref f) (.ref y))
    exact k a _ (.inl rfl) e
  | ext φ => obtain ⟨p, ⟨o, e⟩, st⟩ := x; exact ⟨st _ _ p fun o q => k _ _ (.inl rfl) q, ⟨o, k _ _ (.inl rfl) e⟩, st⟩
theorem HOk.lt (x : HOk P w H h) (e : H a = some o) : a < h.objs.size := (x a o e).lt
theorem HOk.fresh (x : HOk P w H h) (e : h.objs.size ≤ a) : H a = none := by
  cases q : H a with
  | none => rfl
  | some u => exact absurd (Nat.lt_of_lt_of_le (x.lt q) e) (Nat.lt_irrefl _)
/-- every object of the heap is kept -/
theorem HOk.kept (x : HOk P w H h) (k : ∀ b u, h.get? b = some u → h'.get? b = some u) : HOk P w H h' := fun a o e =>
  (x a o e).stay (fun b u _ q => k b u q) (fun _ q => q) fun _ _ q => q
/-- a new object is laid and tracked -/
theorem HOk.laid (x : HOk P w H h) (k : ∀ b u, h.get? b = some u → h'.get? b = some u) (hp : h.objs.size ≤ a) (new : ObjOk P w (upd H a o) h' a o) : HOk P w (upd H a o) h' := fun b u e => by
  have hn := x.fresh hp
  by_cases hb : b = a
  · subst hb; rw [upd_same] at e; cases e; exact new
  · rw [upd_ne hb] at e
    exact (x b u e).stay (fun c v _ q => k c v q) (fun c q => by rw [upd_ne (ne_of_none q hn)]; exact q) fun c xs q => by rw [upd_ne (ne_of_none q hn)]; exact q
end

/-- what may be read as u: it is u, or a known u -/
def Rd (H : Hp) (a : Addr) (u : HO) : Prop := H a = some u ∨ ∃ o, H a = some (.frz o u)
theorem Rd.of {H : Hp} {a : Addr} {u : HO} (h : H a = some u) : Rd H a u := .inl h
theorem Rd.ok {P : Program} {w : World} {H : Hp} {h : Heap} {a : Addr} {u : HO} (r : Rd H a u) (x : HOk P w H h) : ObjOk P w H h a u := by
  rcases r with r | ⟨o, r⟩
  · exact x a u r
  · obtain ⟨_, q⟩ := x a _ r
    exact q
/-- what may be written -/
def Mut : Option HO → Prop
  | some (.lst _) => True
  | some (.dK _) => True
  | some (.dT _) => True
  | some (.set _ _) => True
  | some (.ins _ _ _) => True
  | some (.ext _) => True
  | _ => False
section
variable {P : Program} {w : World} {H : Hp} {h h' : Heap} {x e : Addr} {o' : HO}
/-- the object at e is changed: x itself, or the dict of the instance x -/
theorem HOk.write (ok : HOk P w H h) (mu : Mut (H x)) (he : e = x ∨ H e = some (.own x)) (k : ∀ b u, b ≠ e → h.get? b = some u → h'.get? b = some u) (heo : ∃ u, h'.get? e = some u)
    (new : ObjOk P w (upd H x o') h' x o') : HOk P w (upd H x o') h' := fun b u q => by
  have nown : ∀ c y, H c = some (.own y) → c ≠ x := fun c y r z => by subst z; rw [r] at mu; exact mu
  have ntup : ∀ c xs, H c = some (.tup xs) → c ≠ x := fun c xs r z => by subst z; rw [r] at mu; exact mu
  by_cases hb : b = x
  · subst hb; rw [upd_same] at q; cases q; exact new
  · rw [upd_ne hb] at q
    by_cases hbe : b = e
    · have q' : H b = some (.own x) := by
        rcases he with z | z
        · exact absurd (hbe.trans z) hb
        · rw [hbe]; exact z
      rw [q] at q'; cases q'
      obtain ⟨v, hv⟩ := heo
      exact ⟨v, by rw [hbe]; exact hv⟩
    · refine (ok b u q).stay (fun c v hc r => k c v ?_ r) (fun c r => by rw [upd_ne (nown c b r)]; exact r) fun c xs r => by rw [upd_ne (ntup c xs r)]; exact r
      rcases hc with rfl | hc
      · exact hbe
      · rintro rfl
        rcases he with z | z
        · exact nown c b hc z
        · rw [hc] at z; cases z; exact hb rfl
end

/-! ### kept unless tracked; of the frames at fs (the callers') the slots may change (an exception that passes writes there); of the records at ex (iterators) nothing is said -/
structure Un (fs ex : List Addr) (H H' : Hp) (h h' : Heap) : Prop where
  keep : ∀ b o, h.get? b = some o → H b = none → b ∉ fs → b ∉ ex → h'.get? b = some o
  slot : ∀ b o, h.get? b = some o → H b = none → b ∈ fs → b ∉ ex → ∃ sl, h'.get? b = some { o with slots := sl }
  free : ∀ b o, h.get? b = some o → H b = none → b ∉ ex → H' b = none
  there : ∀ b o, h.get? b = some o → b ∉ ex → ∃ o', h'.get? b = some o'
  tups : ∀ b xs, H b = some (.tup xs) → H' b = some (.tup xs)
  frzs : ∀ b o u, H b = some (.frz o u) → H' b = some (.frz o u)
  tbls : ∀ b ps, H b = some (.tbl ps) → ∃ more, H' b = some (.tbl (ps ++ more))
section
variable {fs fs' ex ex' : List Addr} {H H1 H2 : Hp} {h h1 h2 h' : Heap} {a x e : Addr} {o : HO}
theorem Un.any (u : Un fs ex H H1 h h1) {b : Addr} {ob : Obj} (q : h.get? b = some ob) (n : H b = none) (hx : b ∉ ex) : ∃ sl, h1.get? b = some { ob with slots := sl } := by
  by_cases hb : b ∈ fs
  · exact u.slot b ob q n hb hx
  · exact ⟨ob.slots, u.keep b ob q n hb hx⟩
theorem Un.trans (a : Un fs ex H H1 h h1) (b : Un fs ex H1 H2 h1 h2) : Un fs ex H H2 h h2 where
  keep := fun c ob q n hc hx => b.keep c ob (a.keep c ob q n hc hx) (a.free c ob q n hx) hc hx
  slot := fun c ob q n hc hx => by
    obtain ⟨sl, e1⟩ := a.slot c ob q n hc hx
    obtain ⟨sl', e2⟩ := b.slot c _ e1 (a.free c ob q n hx) hc hx
    exact ⟨sl', e2⟩
  free := fun c ob q n hx => by
    obtain ⟨o', e1⟩ := a.there c ob q hx
    exact b.free c o' e1 (a.free c ob q n hx) hx
  there := fun c ob q hx => by
    obtain ⟨o', e1⟩ := a.there c ob q hx
    exact b.there c o' e1 hx
  tups := fun c xs q => b.tups c xs (a.tups c xs q)
  frzs := fun c ob xs q => b.frzs c ob xs (a.frzs c ob xs q)
  tbls := fun c ps q => by
    obtain ⟨m1, e1⟩ := a.tbls c ps q
    obtain ⟨m2, e2⟩ := b.tbls c _ e1
    exact ⟨m1 ++ m2, by rw [e2, Array.append_assoc]⟩
theorem Un.kept (k : ∀ b u, h.get? b = some u → h'.get? b = some u) : Un fs ex H H h h' :=
  ⟨fun b ob q _ _ _ => k b ob q, fun b ob q _ _ _ => ⟨ob.slots, k b ob q⟩, fun _ _ _ n _ => n, fun b ob q _ => ⟨ob, k b ob q⟩, fun _ _ q => q, fun _ _ _ q => q, fun _ ps q => ⟨#[], by rw [q]; simp⟩⟩
theorem Un.refl : Un fs ex H H h h := Un.kept fun _ _ q => q
theorem Un.laid (k : ∀ b u, h.get? b = some u → h'.get? b = some u) (hp : h.objs.size ≤ a) (hn : H a = none) : Un fs ex H (upd H a o) h h' where
  keep := fun b u q _ _ _ => k b u q
  slot := fun b u q _ _ _ => ⟨u.slots, k b u q⟩
  free := fun b u q n _ => by rw [upd_ne (Nat.ne_of_lt (Nat.lt_of_lt_of_le (Heap.lt_size q) hp))]; exact n
  there := fun b u q _ => ⟨u, k b u q⟩
  tups := fun b xs q => by rw [upd_ne (ne_of_none q hn)]; exact q
  frzs := fun b u xs q => by rw [upd_ne (ne_of_none q hn)]; exact q
  tbls := fun b ps q => ⟨#[], by rw [upd_ne (ne_of_none q hn), q]; simp⟩
theorem Un.write (mu : Mut (H x)) (he : e = x ∨ H e = some (.own x)) (k : ∀ b u, b ≠ e → h.get? b = some u → h'.get? b = some u) (heo : ∃ u, h'.get? e = some u) : Un fs ex H (upd H x o) h h' := by
  have hx : ∀ b, H b = none → b ≠ x := fun b n z => by subst z; rw [n] at mu; exact mu
  have hb : ∀ b, H b = none → b ≠ e := fun b n z => by
    subst z
    rcases he with r | r
    · exact hx b n r
    · rw [n] at r; cases r
  have hm : ∀ b u, H b = some u → ¬ Mut (some u) → b ≠ x := fun b u q nm z => by subst z; rw [q] at mu; exact nm mu
  refine ⟨fun b u q n _ _ => k b u (hb b n) q, fun b u q n _ _ => ⟨u.slots, k b u (hb b n) q⟩, fun b u q n _ => by rw [upd_ne (hx b n)]; exact n, fun b u q _ => ?_,
    fun b xs q => by rw [upd_ne (hm b _ q fun z => z)]; exact q, fun b u xs q => by rw [upd_ne (hm b _ q fun z => z)]; exact q, fun b ps q => ⟨#[], by rw [upd_ne (hm b _ q fun z => z), q]; simp⟩⟩
  by_cases hbe : b = e
  · subst hbe; exact heo
  · exact ⟨u, k b u hbe q⟩
theorem Un.mono (u : Un fs ex H H1 h h1) (hs : ∀ b ∈ fs, b ∈ fs') (hx : ∀ b ∈ ex, b ∈ ex') : Un fs' ex' H H1 h h1 :=
  ⟨fun b ob q n hb he => u.keep b ob q n (fun z => hb (hs b z)) fun z => he (hx b z), fun _ _ q n _ he => u.any q n fun z => he (hx _ z), fun b ob q n he => u.free b ob q n fun z => he (hx b z), fun b ob q he => u.there b ob q fun z => he (hx b z), u.tups, u.frzs, u.tbls⟩
end

/-! ### the heap without what is tracked -/
def trk (h : Heap) (H : Hp) : List Addr := (List.range h.objs.size).filter fun a => (H a).isSome
def hidT (h : Heap) (H : Hp) : Heap := PySem.W.hideAll h (trk h H)
theorem hidT_size (h : Heap) (H : Hp) : (hidT h H).objs.size = h.objs.size := PySem.W.hideAll_size _ _
theorem hidT_get {h : Heap} {H : Hp} {b : Addr} {o : Obj} (e : h.get? b = some o) (n : H b = none) : (hidT h H).get? b = some o :=
  PySem.W.hideAll_get _ e fun hm => by
    have q : (H b).isSome = true := (List.mem_filter.mp hm).2
    rw [n] at q; simp at q
theorem of_hidT {h : Heap} {H : Hp} {b : Addr} {o : Obj} (e : (hidT h H).get? b = some o) : h.get? b = some o ∧ H b = none := by
  have e' : h.get? b = some o := PySem.W.of_hideAll (trk h H) e
  refine ⟨e', ?_⟩
  cases q : H b with
  | none => rfl
  | some x =>
    have hm : b ∈ trk h H := List.mem_filter.mpr ⟨List.mem_range.mpr (Heap.lt_size e'), by simp [q]⟩
    have z : (hidT h H).get? b = none := PySem.W.hideAll_none (trk h H) hm
    rw [z] at e; cases e

/-! ### OpenK's ledger, filled with every new object but one -/
def allNews (g h : Heap) (L : Addr) : List (Addr × Obj) := (List.range h.objs.size).filterMap fun a => if a = L ∨ (g.get? a).isSome = true then none else (h.get? a).map fun o => (a, o)
def rest (g h : Heap) (L d : Addr) : List (Addr × Obj) := (allNews g h L).filter fun p => decide (p.1 ≠ d)
end L2

namespace L2
open PySem PySem.Spec PyProof.Rows

/-- the module's facts, over the base: the heap at the law's entry without what is tracked there -/
structure Mod (K : PySem.W.Frag) (mg : Str → Option Value) (base : Heap) : Prop where
  kin : K.In base
  glob : base.Ns mainGlobals mg
  blt : ∃ mb, base.Ns builtinsNs mb ∧ ∀ x : Str, x ≠ "__name__" → mb x = bootBuiltins x
  nolimit : base.NoLimit

/-- the context: a def's body (or a comprehension's block) running. base: fixed through the whole law; s₀, H₀: the entry; outer: the frames whose slots others may change (a def's callers); stack: all frames that run;
   ex: iterators that were made ahead of the entry and are walked here (a comprehension's); fn: the names whose cells were made at the entry (a def: all; a comprehension's block: its own); calm: not within an except suite; pn: pins that every state bears; xe: what is wanted of an exception that leaves the code -/
structure Cx where
  prog : Program
  w : World
  K : PySem.W.Frag
  mg : Str → Option Value
  base : Heap
  A : Around
  N : List Str
  s₀ : Shared
  H₀ : Hp
  env : Env
  outer : List Env
  stack : List Env
  ex : List Addr
  fn : Str → Bool
  calm : Bool
  pn : List (Addr × Obj)
  xe : Value → Shared → Prop
/-- the callers' frames -/
def frs (l : List Env) : List Addr := l.filterMap (·.frame)
abbrev Cx.fs (X : Cx) : List Addr := frs X.outer

def Vis (sc : Scope) (x : Str) : Prop := sc.names.lookup x = some .local ∨ sc.names.lookup x = some .cell ∨ sc.names.lookup x = some .free
def Loc (sc : Scope) (x : Str) : Prop := sc.names.lookup x = some .local ∨ sc.names.lookup x = some .cell
def Look (env : Env) (h : Heap) (m : Str → Option Value) (x : Str) (u : Value) : Prop :=
  (env.kindOf x = some .local ∧ m x = some u) ∨ ((env.kindOf x = some .cell ∨ env.kindOf x = some .free) ∧ ∃ c, env.cells.lookup x = some c ∧ h.IsCell c (some u))

structure Cx.Ok (X : Cx) : Prop where
  mod : Mod X.K X.mg X.base
  kind : X.env.scope.kind = .function
  glob : X.env.globals = mainGlobals
  blt : X.env.builtins = builtinsNs
  above : X.s₀.heap.objs.size ≤ X.env.locals
  inj : ∀ x y c, X.env.cells.lookup x = some c → X.env.cells.lookup y = some c → x = y
  has : ∀ x, (X.env.kindOf x = some .cell ∨ X.env.kindOf x = some .free) → ∃ c, X.env.cells.lookup x = some c
  cab : ∀ x c, X.fn x = true → X.env.cells.lookup x = some c → X.s₀.heap.objs.size ≤ c
  hd : X.calm = true → X.A.handled = none
  frames : X.A.frames = some X.stack
  stk : X.stack = X.outer ∨ (X.stack = X.env :: X.outer ∧ X.env.frame = some X.env.locals)
  exf : ∀ b ∈ X.ex, b ≠ X.env.locals ∧ ∀ x c, X.env.cells.lookup x = some c → c ≠ b
  bs : ∀ b o, X.base.get? b = some o → X.s₀.heap.get? b = some o ∧ X.H₀ b = none
  bsz : X.base.objs.size ≤ X.s₀.heap.objs.size
  noex : ∀ b o, X.base.get? b = some o → b ∉ X.ex
  exfs : ∀ b ∈ X.ex, b ∉ X.fs
  funs : X.s₀.heap.FunFrames X.base X.outer
  frf : ∀ b ∈ X.fs, X.H₀ b = none

structure Inv (X : Cx) (pins : List (Addr × Obj)) (σ : List (Option V)) (H : Hp) (s : Shared) : Prop where
  ok : X.Ok
  os : s.os = X.s₀.os
  bare : AllBare s.gens
  base : Un X.fs X.ex X.H₀ H X.s₀.heap s.heap
  loc : ∃ m, s.heap.Ns X.env.locals m ∧ ∀ (i : Nat) (x : Str) (v : V), X.N[i]? = some x → σ[i]? = some (some v) → Vis X.env.scope x → ∃ u, RelV v u ∧ Look X.env s.heap m x u
  cell : ∀ x c, X.env.cells.lookup x = some c → ∃ v, s.heap.IsCell c v
  free : H X.env.locals = none
  freeC : ∀ x c, X.env.cells.lookup x = some c → H c = none
  pin : ∀ p ∈ X.pn ++ pins, s.heap.get? p.1 = some p.2 ∧ H p.1 = none ∧ p.1 ≠ X.env.locals ∧ p.1 ∉ X.fs ∧ ∀ v, p.2.data ≠ .cell v
  hok : HOk X.prog X.w H s.heap
  len : σ.length = X.N.length

section
variable {X : Cx} {pins : List (Addr × Obj)} {σ : List (Option V)} {H H' : Hp} {s : Shared} {h' : Heap}

theorem Cx.Ok.nofr (ok : X.Ok) {b : Addr} {o : Obj} (e : X.base.get? b = some o) : b ∉ X.fs := fun hb => by
  have := (ok.funs.mem hb).1
  rw [e] at this; cases this
theorem Inv.bs (I : Inv X pins σ H s) : ∀ b o, X.base.get? b = some o → s.heap.get? b = some o ∧ H b = none := fun b o e =>
  ⟨I.base.keep b o (I.ok.bs b o e).1 (I.ok.bs b o e).2 (I.ok.nofr e) (I.ok.noex b o e), I.base.free b o (I.ok.bs b o e).1 (I.ok.bs b o e).2 (I.ok.noex b o e)⟩
theorem Inv.bk (I : Inv X pins σ H s) : ∀ b o, X.base.get? b = some o → s.heap.get? b = some o := fun b o e => (I.bs b o e).1
theorem Inv.mod (I : Inv X pins σ H s) : Mod X.K X.mg X.base := I.ok.mod
theorem Inv.kIn (I : Inv X pins σ H s) : X.K.In s.heap := I.ok.mod.kin.keeps I.bk
theorem Inv.nolimit (I : Inv X pins σ H s) : s.heap.NoLimit := I.ok.mod.nolimit.keeps I.bk
/-- the frame over the base: for OpenK's rules (K.In X.base is I.mod.kin) -/
theorem Inv.fr (I : Inv X pins σ H s) : ∃ m, Fr X.base X.env.locals s.heap m :=
  let ⟨m, hn, _⟩ := I.loc
  ⟨m, hn, I.bk, Nat.le_trans I.ok.bsz I.ok.above⟩
theorem Inv.lt (I : Inv X pins σ H s) : X.env.locals < s.heap.objs.size := let ⟨_, hn, _⟩ := I.loc; hn.lt
theorem Inv.sz (I : Inv X pins σ H s) : X.s₀.heap.objs.size ≤ s.heap.objs.size := Nat.le_trans I.ok.above (Nat.le_of_lt I.lt)
theorem Inv.nofs (I : Inv X pins σ H s) {a : Addr} (h : s.heap.objs.size ≤ a) : a ∉ X.fs := fun hb => by
  obtain ⟨_, o, ho, _⟩ := I.ok.funs.mem hb
  exact absurd (Nat.lt_of_lt_of_le (Heap.lt_size ho) (Nat.le_trans I.sz h)) (Nat.lt_irrefl _)
theorem Inv.cne (I : Inv X pins σ H s) : ∀ x c, X.env.cells.lookup x = some c → c ≠ X.env.locals := fun x c e z => by
  obtain ⟨v, o, ho, hd⟩ := I.cell x c e
  obtain ⟨m, ⟨o', es, ep, ho', hd', _⟩, _⟩ := I.loc
  rw [z, ho'] at ho; cases ho; rw [hd'] at hd; cases hd
theorem Inv.funs (I : Inv X pins σ H s) : s.heap.FunFrames X.base X.outer := by
  have all : ∀ (l : List Env), (∀ b ∈ frs l, b ∈ X.fs) → X.s₀.heap.FunFrames X.base l → s.heap.FunFrames X.base l := by
    intro l
    induction l with
    | nil => intro _ _; trivial
    | cons env r ih =>
      intro hs hl
      obtain ⟨hk, ⟨L, o, hf, hn, ho, hd⟩, hr⟩ := hl
      have hL : L ∈ X.fs := hs L (by unfold frs; rw [List.filterMap_cons, hf]; exact List.mem_cons_self)
      obtain ⟨sl, e⟩ := I.base.slot L o ho (I.ok.frf L hL) hL fun z => I.ok.exfs L z hL
      exact ⟨hk, ⟨L, _, hf, hn, e, hd⟩, ih (fun b hb => hs b (by unfold frs; rw [List.filterMap_cons, hf]; exact List.mem_cons_of_mem _ hb)) hr⟩
  exact all X.outer (fun _ hb => hb) I.ok.funs

/-- the frames that run, for a call -/
theorem Inv.stack (I : Inv X pins σ H s) : s.heap.FunFrames X.base X.stack := by
  rcases I.ok.stk with e | ⟨e, hf⟩
  · rw [e]; exact I.funs
  · rw [e]
    obtain ⟨m, hn, _⟩ := I.loc
    refine .cons (by rw [I.ok.kind]; decide) hf hn ?_ I.funs
    exact Heap.get?_none_of_le (Nat.le_trans I.ok.bsz I.ok.above)
theorem Inv.stkSub (I : Inv X pins σ H s) : ∀ b ∈ frs X.stack, b ∈ X.env.locals :: X.fs := fun b hb => by
  rcases I.ok.stk with e | ⟨e, hf⟩
  · rw [e] at hb; exact List.mem_cons_of_mem _ hb
  · rw [e] at hb
    unfold frs at hb
    rw [List.filterMap_cons, hf] at hb
    exact hb
theorem Inv.stkFree (I : Inv X pins σ H s) : ∀ b ∈ frs X.stack, H b = none := fun b hb => by
  rcases List.mem_cons.mp (I.stkSub b hb) with e | hb
  · rw [e]; exact I.free
  · obtain ⟨_, o, ho, _⟩ := I.ok.funs.mem hb
    exact I.base.free b o ho (I.ok.frf b hb) fun z => I.ok.exfs b z hb

/-- THE STEP: the untracked objects but the frame and the records at ch are kept (the callers' frames up to slots), the frame's map is kept, the new abstract heap is held -/
theorem Inv.step {g' : Array GenState} {t' : Nat} {d' : Drawn} {ch : List Addr} (I : Inv X pins σ H s)
    (hch : ∀ b ∈ ch, (b ∈ X.ex ∨ X.s₀.heap.objs.size ≤ b) ∧ b ≠ X.env.locals ∧ (∀ x c, X.env.cells.lookup x = some c → c ≠ b) ∧ ∀ p ∈ X.pn ++ pins, p.1 ≠ b)
    (keep : ∀ b o, b ≠ X.env.locals → b ∉ X.fs → b ∉ ch → s.heap.get? b = some o → H b = none → h'.get? b = some o)
    (slot : ∀ b o, b ≠ X.env.locals → b ∈ X.fs → b ∉ ch → s.heap.get? b = some o → H b = none → ∃ sl, h'.get? b = some { o with slots := sl }) (free : ∀ b o, b ∉ ch → s.heap.get? b = some o → H b = none → H' b = none)
    (there : ∀ b o, b ∉ ch → s.heap.get? b = some o → ∃ o', h'.get? b = some o')
    (tups : ∀ b xs, H b = some (.tup xs) → H' b = some (.tup xs)) (frzs : ∀ b o u, H b = some (.frz o u) → H' b = some (.frz o u)) (tbls : ∀ b ps, H b = some (.tbl ps) → ∃ more, H' b = some (.tbl (ps ++ more)))
    (ns : ∀ m, s.heap.Ns X.env.locals m → h'.Ns X.env.locals m) (hok : HOk X.prog X.w H' h') (hg : AllBare g') :
    Inv X pins σ H' { s with heap := h', gens := g', drawn := d', toks := t' } := by
  have neL : ∀ b o, X.s₀.heap.get? b = some o → b ≠ X.env.locals := fun b o e => Nat.ne_of_lt (Nat.lt_of_lt_of_le (Heap.lt_size e) I.ok.above)
  have neC : ∀ b o, X.s₀.heap.get? b = some o → b ∉ X.ex → b ∉ ch := fun b o e hx hb => by
    rcases (hch b hb).1 with z | z
    · exact hx z
    · exact absurd (Nat.lt_of_lt_of_le (Heap.lt_size e) z) (Nat.lt_irrefl _)
  have cellK : ∀ x c, X.env.cells.lookup x = some c → ∀ v, s.heap.IsCell c v → h'.IsCell c v := fun x c e v ⟨o, ho, hd⟩ => by
    have nch : c ∉ ch := fun z => (hch c z).2.2.1 x c e rfl
    by_cases hc : c ∈ X.fs
    · obtain ⟨sl, q⟩ := slot c o (I.cne x c e) hc nch ho (I.freeC x c e)
      exact ⟨_, q, hd⟩
    · exact ⟨o, keep c o (I.cne x c e) hc nch ho (I.freeC x c e), hd⟩
  refine ⟨I.ok, I.os, hg, ⟨fun b o e n hb hx => ?_, fun b o e n hb hx => ?_, fun b o e n hx => ?_, fun b o e hx => ?_, fun b xs e => tups b xs (I.base.tups b xs e), fun b o xs e => frzs b o xs (I.base.frzs b o xs e), fun b ps e => ?_⟩, ?_, fun x c e => ?_, ?_, fun x c e => ?_, fun p hp => ?_, hok, I.len⟩
  · exact keep b o (neL b o e) hb (neC b o e hx) (I.base.keep b o e n hb hx) (I.base.free b o e n hx)
  · obtain ⟨sl, e1⟩ := I.base.slot b o e n hb hx
    obtain ⟨sl', e2⟩ := slot b _ (neL b o e) hb (neC b o e hx) e1 (I.base.free b o e n hx)
    exact ⟨sl', e2⟩
  · obtain ⟨o', e1⟩ := I.base.there b o e hx
    exact free b o' (neC b o e hx) e1 (I.base.free b o e n hx)
  · obtain ⟨o', e1⟩ := I.base.there b o e hx
    exact there b o' (neC b o e hx) e1
  · obtain ⟨m1, e1⟩ := I.base.tbls b ps e
    obtain ⟨m2, e2⟩ := tbls b _ e1
    exact ⟨m1 ++ m2, by rw [e2, Array.append_assoc]⟩
  · obtain ⟨m, hn, hl⟩ := I.loc
    refine ⟨m, ns m hn, fun i x v e1 e2 e3 => ?_⟩
    obtain ⟨u, r, l⟩ := hl i x v e1 e2 e3
    refine ⟨u, r, ?_⟩
    rcases l with l | ⟨k, c, e, z⟩
    · exact .inl l
    · exact .inr ⟨k, c, e, cellK x c e _ z⟩
  · obtain ⟨v, z⟩ := I.cell x c e
    exact ⟨v, cellK x c e v z⟩
  · obtain ⟨m, ⟨o, _, _, ho, _⟩, _⟩ := I.loc
    exact free _ o (fun z => (hch _ z).2.1 rfl) ho I.free
  · obtain ⟨v, o, ho, hd⟩ := I.cell x c e
    exact free c o (fun z => (hch c z).2.2.1 x c e rfl) ho (I.freeC x c e)
  · obtain ⟨e, n, ne, nf, d⟩ := I.pin p hp
    have nch : p.1 ∉ ch := fun z => (hch p.1 z).2.2.2 p hp rfl
    exact ⟨keep p.1 p.2 ne nf nch e n, free p.1 p.2 nch e n, ne, nf, d⟩
/-- .. where the frame's own object is kept too -/
theorem Inv.un {t' : Nat} (I : Inv X pins σ H s) (u : Un X.fs [] H H' s.heap h') (hok : HOk X.prog X.w H' h') : Inv X pins σ H' { s with heap := h', toks := t' } := by
  obtain ⟨m, ⟨o, es, ep, ho, r⟩, _⟩ := id I.loc
  obtain ⟨sl, hL⟩ := u.any ho I.free (by simp)
  exact I.step (g' := s.gens) (d' := s.drawn) (ch := []) (fun _ z => nomatch z) (fun b o _ hb _ e n => u.keep b o e n hb (by simp)) (fun b o _ hb _ e n => u.slot b o e n hb (by simp)) (fun b o _ e n => u.free b o e n (by simp)) (fun b o _ e => u.there b o e (by simp)) u.tups u.frzs u.tbls (fun m' hm => by
    obtain ⟨o', es', ep', ho', r'⟩ := hm
    rw [ho] at ho'; cases ho'
    exact ⟨_, es', ep', hL, r'⟩) hok I.bare
/-- behind a call (or a comprehension's block): the slots of this frame may have changed too, the records at ch may have turned -/
theorem Inv.call {g' : Array GenState} {t' : Nat} {d' : Drawn} {ch : List Addr} (I : Inv X pins σ H s) (u : Un (frs X.stack) ch H H' s.heap h') (hok : HOk X.prog X.w H' h') (hg : AllBare g')
    (hch : ∀ b ∈ ch, (b ∈ X.ex ∨ X.s₀.heap.objs.size ≤ b) ∧ b ≠ X.env.locals ∧ (∀ x c, X.env.cells.lookup x = some c → c ≠ b) ∧ ∀ p ∈ X.pn ++ pins, p.1 ≠ b) :
    Inv X pins σ H' { s with heap := h', gens := g', drawn := d', toks := t' } := by
  obtain ⟨m, ⟨o, es, ep, ho, r⟩, _⟩ := id I.loc
  obtain ⟨sl, hL⟩ := u.any ho I.free fun z => (hch _ z).2.1 rfl
  exact I.step (ch := ch) hch (fun b o hL hb hc e n => u.keep b o e n (fun z => (List.mem_cons.mp (I.stkSub b z)).elim hL hb) hc) (fun b o _ _ hc e n => u.any e n hc) (fun b o hc e n => u.free b o e n hc) (fun b o hc e => u.there b o e hc) u.tups u.frzs u.tbls (fun m' hm => by
    obtain ⟨o', es', ep', ho', r'⟩ := hm
    rw [ho] at ho'; cases ho'
    exact ⟨_, es', ep', hL, r'⟩) hok hg
/-- an untracked record of ours (an iterator) has turned -/
theorem Inv.turned {t' : Nat} {it : Addr} (I : Inv X pins σ H s) (k : ∀ b o, b ≠ it → s.heap.get? b = some o → h'.get? b = some o) (hn : H it = none) (hL : it ≠ X.env.locals)
    (h1 : it ∈ X.ex ∨ X.s₀.heap.objs.size ≤ it) (h2 : ∀ x c, X.env.cells.lookup x = some c → c ≠ it) (h3 : ∀ p ∈ X.pn ++ pins, p.1 ≠ it) : Inv X pins σ H { s with heap := h', toks := t' } := by
  have nit : ∀ b u, H b = some u → b ≠ it := fun b u e z => by rw [z, hn] at e; cases e
  refine I.step (g' := s.gens) (d' := s.drawn) (ch := [it]) (fun b hb => ?_) (fun b o _ _ hc e _ => k b o (fun z => hc (by simp [z])) e) (fun b o _ _ hc e _ => ⟨o.slots, k b o (fun z => hc (by simp [z])) e⟩) (fun _ _ _ _ n => n)
    (fun b o hc e => ⟨o, k b o (fun z => hc (by simp [z])) e⟩) (fun _ _ e => e) (fun _ _ _ e => e) (fun b ps e => ⟨#[], by rw [e]; simp⟩) (fun m hm => ?_) (fun b u e => ?_) I.bare
  · have e : b = it := by simpa using hb
    subst e
    exact ⟨h1, hL, h2, h3⟩
  · obtain ⟨o, es, ep, ho, r⟩ := hm
    exact ⟨o, es, ep, k _ o (Ne.symm hL) ho, r⟩
  · refine (I.hok b u e).stay (fun c v hc q => k c v ?_ q) (fun _ q => q) fun _ _ q => q
    rcases hc with z | z
    · rw [z]; exact nit b u e
    · exact nit c _ z
theorem Inv.tok (I : Inv X pins σ H s) (t : Nat) : Inv X pins σ H { s with toks := t } := I.un (h' := s.heap) (t' := t) Un.refl I.hok
/-- all objects kept -/
theorem Inv.kept {t' : Nat} (I : Inv X pins σ H s) (k : ∀ b u, s.heap.get? b = some u → h'.get? b = some u) : Inv X pins σ H { s with heap := h', toks := t' } := I.un (Un.kept k) (I.hok.kept k)
/-- a new object laid and tracked -/
theorem Inv.laid {a : Addr} {o : HO} {t' : Nat} (I : Inv X pins σ H s) (k : ∀ b u, s.heap.get? b = some u → h'.get? b = some u) (hp : s.heap.objs.size ≤ a) (new : ObjOk X.prog X.w (upd H a o) h' a o) :
    Inv X pins σ (upd H a o) { s with heap := h', toks := t' } := I.un (Un.laid k hp (I.hok.fresh hp)) (I.hok.laid k hp new)
/-- an object written -/
theorem Inv.write {x e : Addr} {o : HO} {t' : Nat} (I : Inv X pins σ H s) (mu : Mut (H x)) (he : e = x ∨ H e = some (.own x)) (k : ∀ b u, b ≠ e → s.heap.get? b = some u → h'.get? b = some u) (heo : ∃ u, h'.get? e = some u)
    (new : ObjOk X.prog X.w (upd H x o) h' x o) : Inv X pins σ (upd H x o) { s with heap := h', toks := t' } := I.un (Un.write mu he k heo) (I.hok.write mu he k heo new)
/-- forgetting slots, pins -/
theorem Inv.weak {σ' : List (Option V)} (I : Inv X pins σ H s) (hl : σ'.length = σ.length) (w : ∀ (i : Nat) v, σ'[i]? = some (some v) → σ[i]? = some (some v)) : Inv X pins σ' H s :=
  ⟨I.ok, I.os, I.bare, I.base, let ⟨m, hn, hl'⟩ := I.loc; ⟨m, hn, fun i x v e1 e2 e3 => hl' i x v e1 (w i v e2) e3⟩, I.cell, I.free, I.freeC, I.pin, I.hok, hl.trans I.len⟩
theorem Inv.pins_of {pins' : List (Addr × Obj)} (I : Inv X pins σ H s) (h : ∀ p ∈ pins', s.heap.get? p.1 = some p.2 ∧ H p.1 = none ∧ p.1 ≠ X.env.locals ∧ p.1 ∉ X.fs ∧ ∀ v, p.2.data ≠ .cell v) : Inv X pins' σ H s :=
  ⟨I.ok, I.os, I.bare, I.base, I.loc, I.cell, I.free, I.freeC, fun p hp => (List.mem_append.mp hp).elim (fun z => I.pin p (List.mem_append_left _ z)) (h p), I.hok, I.len⟩

theorem nodup_ix {N : List Str} (hN : N.Nodup) {i j : Nat} {x : Str} (a : N[i]? = some x) (b : N[j]? = some x) : i = j := by
  obtain ⟨h1, e1⟩ := List.getElem?_eq_some_iff.mp a
  obtain ⟨h2, e2⟩ := List.getElem?_eq_some_iff.mp b
  exact (List.getElem_inj hN).mp (e1.trans e2.symm)

/-- a name is stored; what changed -/
theorem store_ok2 {M : Model} {A : Around} {E : Value → Shared → Prop} {i : Nat} {x : Str} {v : V} {u : Value} {Q : Unit → Shared → Prop} (I : Inv X pins σ H s) (hN : X.N.Nodup) (hi : X.N[i]? = some x) (hx : Loc X.env.scope x) (r : RelV v u)
    (h : ∀ s', Inv X pins (σ.set i (some v)) H s' → (∃ a, Heap.SameBut a s.heap s'.heap ∧ (a = X.env.locals ∨ X.env.cells.lookup x = some a)) → Q () s') (hf : X.fn x = true ∨ X.env.scope.names.lookup x = some .local := by first | exact .inl rfl | exact .inr rfl | assumption) : wpAny M A (storeName X.env x u) Q E s := by
  obtain ⟨m, hn, hl⟩ := id I.loc
  have hcls : (X.env.scope.kind == .class || (X.env.scope.kind == .module && X.env.locals != X.env.globals)) = false := by rw [I.ok.kind]; rfl
  have hiσ : i < σ.length := by rw [I.len]; exact (List.getElem?_eq_some_iff.mp hi).1
  have cne := I.cne
  have tracked : ∀ {a : Addr} {h' : Heap}, (∃ o, s.heap.get? a = some o ∧ H a = none) → Heap.SameBut a s.heap h' → HOk X.prog X.w H h' := fun {a h'} ha hs b ob e => by
    obtain ⟨_, _, hfree⟩ := ha
    refine (I.hok b ob e).stay (fun c w' hc q => (hs.2 c ?_).trans q) (fun _ q => q) fun _ _ q => q
    rintro rfl
    rcases hc with rfl | hc
    · rw [hfree] at e; cases e
    · rw [hfree] at hc; cases hc
  rcases hx with hk | hk
  · refine wpAny_storeName_local hk hn (fun h' hn' hs => ?_) hcls
    obtain ⟨oL, _, _, hoL, _⟩ := id hn
    refine h _ ⟨I.ok, I.os, I.bare, ⟨fun b o e n hb hx => ?_, fun b o e n hb hx => ?_, I.base.free, fun b o e hx => ?_, I.base.tups, I.base.frzs, I.base.tbls⟩, ⟨_, hn', fun j y v' e1 e2 e3 => ?_⟩, fun y c e => ?_, I.free, I.freeC, fun p hp => ?_, tracked ⟨oL, hoL, I.free⟩ hs, by simpa using I.len⟩ ⟨_, hs, .inl rfl⟩
    · exact (hs.2 b (Nat.ne_of_lt (Nat.lt_of_lt_of_le (Heap.lt_size e) I.ok.above))).trans (I.base.keep b o e n hb hx)
    · obtain ⟨sl, e1⟩ := I.base.slot b o e n hb hx
      exact ⟨sl, (hs.2 b (Nat.ne_of_lt (Nat.lt_of_lt_of_le (Heap.lt_size e) I.ok.above))).trans e1⟩
    · obtain ⟨o', e1⟩ := I.base.there b o e hx
      exact ⟨o', (hs.2 b (Nat.ne_of_lt (Nat.lt_of_lt_of_le (Heap.lt_size e) I.ok.above))).trans e1⟩
    · by_cases hj : j = i
      · subst hj
        rw [hi] at e1; cases e1
        rw [List.getElem?_set_self hiσ] at e2
        cases e2
        exact ⟨u, r, .inl ⟨hk, by simp⟩⟩
      · rw [List.getElem?_set_ne (Ne.symm hj)] at e2
        obtain ⟨u', r', q⟩ := hl j y v' e1 e2 e3
        refine ⟨u', r', ?_⟩
        rcases q with ⟨k, e⟩ | ⟨k, c, e, z⟩
        · refine .inl ⟨k, ?_⟩
          have : y ≠ x := fun e => hj (nodup_ix hN e1 (e ▸ hi))
          simp [this, e]
        · exact .inr ⟨k, c, e, z.sameBut hs (cne y c e)⟩
    · obtain ⟨w', z⟩ := I.cell y c e
      exact ⟨w', z.sameBut hs (cne y c e)⟩
    · obtain ⟨e, n, ne, nf, d⟩ := I.pin p hp
      exact ⟨(hs.2 p.1 ne).trans e, n, ne, nf, d⟩
  · have hfn : X.fn x = true := by
      rcases hf with z | z
      · exact z
      · rw [z] at hk; cases hk
    obtain ⟨c, hc⟩ := I.ok.has x (.inl hk)
    obtain ⟨w', z⟩ := I.cell x c hc
    refine wpAny_storeName_cell I.ok.kind hk hc z (fun h' hc' hs => ?_)
    obtain ⟨oc, hoc, hocd⟩ := id z
    refine h { s with heap := h' } ⟨I.ok, I.os, I.bare, ⟨fun b o e n hb hx => ?_, fun b o e n hb hx => ?_, I.base.free, fun b o e hx => ?_, I.base.tups, I.base.frzs, I.base.tbls⟩, ⟨m, hn.sameBut hs (Ne.symm (cne x c hc)), fun j y v' e1 e2 e3 => ?_⟩, fun y c' e => ?_, I.free, I.freeC, fun p hp => ?_, tracked ⟨oc, hoc, I.freeC x c hc⟩ hs, by simpa using I.len⟩ ⟨c, hs, .inr hc⟩
    · exact (hs.2 b (Nat.ne_of_lt (Nat.lt_of_lt_of_le (Heap.lt_size e) (I.ok.cab x c hfn hc)))).trans (I.base.keep b o e n hb hx)
    · obtain ⟨sl, e1⟩ := I.base.slot b o e n hb hx
      exact ⟨sl, (hs.2 b (Nat.ne_of_lt (Nat.lt_of_lt_of_le (Heap.lt_size e) (I.ok.cab x c hfn hc)))).trans e1⟩
    · obtain ⟨o', e1⟩ := I.base.there b o e hx
      exact ⟨o', (hs.2 b (Nat.ne_of_lt (Nat.lt_of_lt_of_le (Heap.lt_size e) (I.ok.cab x c hfn hc)))).trans e1⟩
    · by_cases hj : j = i
      · subst hj
        rw [hi] at e1; cases e1
        rw [List.getElem?_set_self hiσ] at e2
        cases e2
        exact ⟨u, r, .inr ⟨.inl hk, c, hc, hc'⟩⟩
      · rw [List.getElem?_set_ne (Ne.symm hj)] at e2
        obtain ⟨u', r', q⟩ := hl j y v' e1 e2 e3
        refine ⟨u', r', ?_⟩
        rcases q with q | ⟨k, c', e, z'⟩
        · exact .inl q
        · refine .inr ⟨k, c', e, z'.sameBut hs ?_⟩
          rintro rfl
          exact hj (nodup_ix hN e1 (I.ok.inj _ _ _ e hc ▸ hi))
    · by_cases hcc : c' = c
      · subst hcc; exact ⟨_, hc'⟩
      · obtain ⟨w2, z2⟩ := I.cell y c' e
        exact ⟨w2, z2.sameBut hs hcc⟩
    · obtain ⟨e, n, ne, nf, d⟩ := I.pin p hp
      refine ⟨(hs.2 p.1 ?_).trans e, n, ne, nf, d⟩
      intro q
      rw [q, hoc] at e
      have q' : oc = p.2 := Option.some.inj e
      exact d w' (by rw [← q']; exact hocd)
theorem store_ok {M : Model} {A : Around} {E : Value → Shared → Prop} {i : Nat} {x : Str} {v : V} {u : Value} {Q : Unit → Shared → Prop} (I : Inv X pins σ H s) (hN : X.N.Nodup) (hi : X.N[i]? = some x) (hx : Loc X.env.scope x) (r : RelV v u)
    (h : ∀ s', Inv X pins (σ.set i (some v)) H s' → Q () s') (hf : X.fn x = true ∨ X.env.scope.names.lookup x = some .local := by first | exact .inl rfl | exact .inr rfl | assumption) : wpAny M A (storeName X.env x u) Q E s :=
  store_ok2 I hN hi hx r (fun s' I' _ => h s' I') hf
/-- behind a call or a block, the state as it is -/
theorem Inv.call' {s' : Shared} {ch : List Addr} (I : Inv X pins σ H s) (ho : s'.os = s.os) (u : Un (frs X.stack) ch H H' s.heap s'.heap) (hok : HOk X.prog X.w H' s'.heap) (hg : AllBare s'.gens)
    (hch : ∀ b ∈ ch, (b ∈ X.ex ∨ X.s₀.heap.objs.size ≤ b) ∧ b ≠ X.env.locals ∧ (∀ x c, X.env.cells.lookup x = some c → c ≠ b) ∧ ∀ p ∈ X.pn ++ pins, p.1 ≠ b) : Inv X pins σ H' s' := by
  obtain ⟨h', g', d', t', o'⟩ := s'
  have e : o' = s.os := ho
  subst e
  exact I.call (g' := g') (t' := t') (d' := d') u hok hg hch
end

/-! ### the judgements -/
/-- an exception: its class, its own dict's address (where it has one), the abstract heap behind it -/
abbrev XK := Value → Option Addr → Hp → Prop
abbrev St := List (Option V)
abbrev VK := V → Hp → Prop
/-- an expression's reading; a test's; an argument list's -/
abbrev TE := St → Hp → VK → Prop
abbrev TT := St → Hp → (Bool → Hp → Prop) → Prop
abbrev TA := St → Hp → (List V → Hp → Prop) → Prop
/-- what is wanted behind a statement -/
structure Ends where
  nx : St → Hp → Prop
  rt : VK
  bk : St → Hp → Prop := fun _ _ => False
  ct : St → Hp → Prop := fun _ _ => False
abbrev TS := Ends → St → Hp → Prop

def EP (X : Cx) (pins : List (Addr × Obj)) (σ : St) (Q : VK) (u : Value) (s' : Shared) : Prop := ∃ v H', Inv X pins σ H' s' ∧ RelV v u ∧ Q v H'
def TP (X : Cx) (pins : List (Addr × Obj)) (σ : St) (Q : Bool → Hp → Prop) (b : Bool) (s' : Shared) : Prop := ∃ H', Inv X pins σ H' s' ∧ Q b H'
def AP (X : Cx) (pins : List (Addr × Obj)) (σ : St) (Q : List V → Hp → Prop) (us : List Value) (s' : Shared) : Prop := ∃ vs H', Inv X pins σ H' s' ∧ Vals vs us ∧ Q vs H'
def SP (X : Cx) (pins : List (Addr × Obj)) (D : Ends) (f : Flow) (s' : Shared) : Prop :=
  match f with
  | .next => ∃ σ' H', Inv X pins σ' H' s' ∧ D.nx σ' H'
  | .brk => ∃ σ' H', Inv X pins σ' H' s' ∧ D.bk σ' H'
  | .cont => ∃ σ' H', Inv X pins σ' H' s' ∧ D.ct σ' H'
  | .ret u => ∃ v σ' H', Inv X pins σ' H' s' ∧ RelV v u ∧ D.rt v H'

def PE (X : Cx) (e : Expr) (t : TE) : Prop :=
  ∀ (pins : List (Addr × Obj)) (s : Shared) (σ : St) (H : Hp) (Q : VK), Inv X pins σ H s → t σ H Q → wpAny (model X.prog X.w) X.A (eval e X.env) (EP X pins σ Q) X.xe s
def PT (X : Cx) (e : Expr) (t : TT) : Prop :=
  ∀ (pins : List (Addr × Obj)) (s : Shared) (σ : St) (H : Hp) (Q : Bool → Hp → Prop), Inv X pins σ H s → t σ H Q → wpAny (model X.prog X.w) X.A (isTrue e X.env (eval e X.env)) (TP X pins σ Q) X.xe s
/-- a test whatever its 'whole' is (and, or) -/
def PW (X : Cx) (e : Expr) (t : TT) : Prop :=
  ∀ (whole : Sem Value) (pins : List (Addr × Obj)) (s : Shared) (σ : St) (H : Hp) (Q : Bool → Hp → Prop), Inv X pins σ H s → t σ H Q → wpAny (model X.prog X.w) X.A (isTrue e X.env whole) (TP X pins σ Q) X.xe s
theorem PW.pt {X : Cx} {e : Expr} {t : TT} (h : PW X e t) : PT X e t := h _
/-- an argument list (no star), from the left -/
def PA (X : Cx) (es : List Expr) (t : TA) : Prop :=
  ∀ (pos : Pos) (pins : List (Addr × Obj)) (s : Shared) (σ : St) (H : Hp) (Q : List V → Hp → Prop), Inv X pins σ H s → t σ H Q → wpAny (model X.prog X.w) X.A (spliced (backTo pos (starEach es X.env))) (AP X pins σ Q) X.xe s
def PS (X : Cx) (st : Stmt) (t : TS) : Prop :=
  ∀ (pins : List (Addr × Obj)) (s : Shared) (σ : St) (H : Hp) (D : Ends), Inv X pins σ H s → t D σ H → wpAny (model X.prog X.w) X.A (exec st X.env) (SP X pins D) X.xe s
def PSs (X : Cx) (st : List Stmt) (t : TS) : Prop :=
  ∀ (pins : List (Addr × Obj)) (s : Shared) (σ : St) (H : Hp) (D : Ends), Inv X pins σ H s → t D σ H → wpAny (model X.prog X.w) X.A (execs st X.env) (SP X pins D) X.xe s
/-- weaken the end -/
theorem thn {α : Type} {t : Sem α} {Q Q' : α → Shared → Prop} {M : Model} {A : Around} {E : Value → Shared → Prop} {s : Shared} (h : wpAny M A t Q E s) (hQ : ∀ a s, Q a s → Q' a s) : wpAny M A t Q' E s := wpAny_mono h hQ fun _ _ x => x
end L2

namespace L2
open PySem PySem.Spec PyProof.Rows
section
variable {X : Cx}


/-! ### names and constants -/
def tVar (i : Nat) : TE := fun σ H Q => ∃ v, σ[i]? = some (some v) ∧ Q v H
def tC (v : V) : TE := fun _ H Q => Q v H
theorem pe_var {i : Nat} {x : Str} {pos : Pos} (hN : X.N[i]? = some x) (hv : Vis X.env.scope x) (hd : (x == ("__debug__" : Str)) = false := by decide) (hcd : (x == ("__classdict__" : Str)) = false := by decide) : PE X (.Name x pos) (tVar i) := by
  intro pins s σ H Q I h
  obtain ⟨v, e, h⟩ := h
  obtain ⟨m, hn, hl⟩ := I.loc
  obtain ⟨u, r, l⟩ := hl i x v hN e hv
  have fin : EP X pins σ Q u s := ⟨v, H, I, r, h⟩
  rcases l with ⟨hk, hm⟩ | ⟨hk, c, hc, hcell⟩
  · exact wpAny_Name (wpAny_loadName_local I.ok.kind hk hn hm fin) hd
  · rcases hk with hk | hk
    · exact wpAny_Name (wpAny_loadName_cell I.ok.kind hk hc hcell fin) hd
    · exact wpAny_Name (wpAny_loadName_free I.ok.kind hk hc hcell fin hcd) hd
theorem pe_int {i j pos} : PE X (.Constant (.int i) j pos) (tC (.int i)) := fun _ _ _ H _ I h => wpAny_Constant_int ⟨.int i, H, I.tok _, ⟨_, rfl⟩, h⟩
theorem pe_bl {b j pos} : PE X (.Constant (.bool b) j pos) (tC (.bl b)) := fun _ _ _ H _ I h => Constant_bool ⟨.bl b, H, I, rfl, h⟩
theorem pe_non {j pos} : PE X (.Constant .none j pos) (tC .non) := fun _ _ _ H _ I h => Constant_none ⟨.non, H, I, rfl, h⟩
theorem pe_str {x j pos} : PE X (.Constant (.str x) j pos) (tC (.str x)) := fun _ _ _ H _ I h => Calls.Constant_str ⟨.str x, H, I.tok _, ⟨_, rfl⟩, h⟩

/-- a global name of the def -/
def Gl (X : Cx) (x : Str) : Prop := X.env.kindOf x = some .globalImplicit
theorem ld_glob {E : Value → Shared → Prop} {pins : List (Addr × Obj)} {s : Shared} {σ : St} {H : Hp} {x : Str} {u : Value} {pos : Pos} {Q : Value → Shared → Prop} (I : Inv X pins σ H s) (hg : Gl X x) (hm : X.mg x = some u) (h : Q u s)
    (hd : (x == ("__debug__" : Str)) = false := by decide) : wpAny (model X.prog X.w) X.A (eval (.Name x pos) X.env) Q E s :=
  Calls.Name_function_global I.ok.kind hg (Calls.loadGlobal_global (by rw [I.ok.glob]; exact I.mod.glob.keeps I.bk) hm h) hd
theorem ld_blt {E : Value → Shared → Prop} {pins : List (Addr × Obj)} {s : Shared} {σ : St} {H : Hp} {x : Str} {u : Value} {pos : Pos} {Q : Value → Shared → Prop} (I : Inv X pins σ H s) (hg : Gl X x) (hm : X.mg x = none) (hv : bootBuiltins x = some u) (h : Q u s)
    (hn : x ≠ "__name__" := by decide) (hd : (x == ("__debug__" : Str)) = false := by decide) : wpAny (model X.prog X.w) X.A (eval (.Name x pos) X.env) Q E s := by
  obtain ⟨mb, h1, h2⟩ := I.mod.blt
  exact Calls.Name_function_global I.ok.kind hg (Calls.loadGlobal_builtin (by rw [I.ok.glob]; exact I.mod.glob.keeps I.bk) hm (by rw [I.ok.blt]; exact h1.keeps I.bk) ((h2 x hn).trans hv) h) hd
theorem pe_bltn {x : Str} {v : V} {u : Value} {pos : Pos} (hg : Gl X x) (hm : X.mg x = none) (hv : bootBuiltins x = some u) (r : RelV v u) (hn : x ≠ "__name__" := by decide) (hd : (x == ("__debug__" : Str)) = false := by decide) : PE X (.Name x pos) (tC v) :=
  fun _ _ _ H _ I h => ld_blt I hg hm hv ⟨v, H, I, r, h⟩ hn hd

/-! ### arithmetic -/
variable {a b : Expr} {ta tb : TE} {pos : Pos}

/-! ### comparisons -/
/-- a comparison as a value, as a test -/
def tB (t : TE) : TT := fun σ H Q => t σ H fun x H1 => ∃ c, x = .bl c ∧ Q c H1
/-- an expression whose value is a bool, as a test -/
theorem pt_val {e : Expr} {t : TE} (h : PE X e t) (he : ∀ whole, isTrue e X.env whole = (do let v ← whole; standAt e.pos; holding [v] (truthy v)) := by intro _; rfl) : PT X e (tB t) := by
  intro pins s σ H Q I hw
  refine isTrue_plain (thn (h pins s σ H _ I hw) fun v s1 ⟨x, H1, I1, r1, q1⟩ => ?_) (he _)
  obtain ⟨d, rfl, q⟩ := q1
  cases r1
  exact wpAny_truthy_bool ⟨H1, I1, q⟩

/-! ### and, or, not -/
variable {tA tB' : TT} {rest : List Expr}
def tAnd (t u : TT) : TT := fun σ H Q => t σ H fun c H1 => if c = true then u σ H1 Q else Q false H1
def tOr (t u : TT) : TT := fun σ H Q => t σ H fun c H1 => if c = true then Q true H1 else u σ H1 Q
def tNot (t : TT) : TT := fun σ H Q => t σ H fun c H1 => Q (!c) H1
theorem pw_and1 (ha : PT X a tA) : PW X (.BoolOp .And [a] pos) tA := by
  intro wh pins s σ H Q I h
  refine isTrue_and (thn (ha pins s σ H Q I h) fun c s1 e => ?_)
  cases c with
  | true => exact isTrue_and_nil e
  | false => exact e
theorem pw_or1 (ha : PT X a tA) : PW X (.BoolOp .Or [a] pos) tA := by
  intro wh pins s σ H Q I h
  refine isTrue_or (thn (ha pins s σ H Q I h) fun c s1 e => ?_)
  cases c with
  | false => exact isTrue_or_nil e
  | true => exact e
theorem pw_and (ha : PT X a tA) (hb : PW X (.BoolOp .And (b :: rest) pos) tB') : PW X (.BoolOp .And (a :: b :: rest) pos) (tAnd tA tB') := by
  intro wh pins s σ H Q I h
  refine isTrue_and (thn (ha pins s σ H _ I h) fun c s1 ⟨H1, I1, q1⟩ => ?_)
  cases c with
  | true => exact hb wh pins s1 σ H1 Q I1 q1
  | false => exact ⟨H1, I1, q1⟩
theorem pw_or (ha : PT X a tA) (hb : PW X (.BoolOp .Or (b :: rest) pos) tB') : PW X (.BoolOp .Or (a :: b :: rest) pos) (tOr tA tB') := by
  intro wh pins s σ H Q I h
  refine isTrue_or (thn (ha pins s σ H _ I h) fun c s1 ⟨H1, I1, q1⟩ => ?_)
  cases c with
  | true => exact ⟨H1, I1, q1⟩
  | false => exact hb wh pins s1 σ H1 Q I1 q1
theorem pt_not (ha : PT X a tA) : PT X (.UnaryOp .Not a pos) (tNot tA) := by
  intro pins s σ H Q I h
  exact isTrue_not (ha pins s σ H (fun c H1 => Q (!c) H1) I h)
/-- .. as values (bools) -/
def tAndV (ta tb : TE) : TE := fun σ H Q => ta σ H fun x H1 => ∃ c, x = .bl c ∧ if c = true then tb σ H1 Q else Q (.bl false) H1
def tOrV (ta tb : TE) : TE := fun σ H Q => ta σ H fun x H1 => ∃ c, x = .bl c ∧ if c = true then Q (.bl true) H1 else tb σ H1 Q
theorem pe_one {op} {t : TE} (h : PE X a t) : PE X (.BoolOp op [a] pos) t := fun pins s σ H Q I hw => BoolOp_one (h pins s σ H Q I hw)
theorem pe_and (ha : PE X a ta) (hb : PE X (.BoolOp .And (b :: rest) pos) tb) : PE X (.BoolOp .And (a :: b :: rest) pos) (tAndV ta tb) := by
  intro pins s σ H Q I h
  refine BoolOp_and (thn (ha pins s σ H _ I h) fun v s1 ⟨x, H1, I1, r1, q1⟩ => ?_)
  obtain ⟨c, rfl, q1⟩ := q1
  cases r1
  refine wpAny_truthy_bool ?_
  cases c with
  | true => exact hb pins s1 σ H1 Q I1 q1
  | false => exact ⟨.bl false, H1, I1, rfl, q1⟩
theorem pe_or (ha : PE X a ta) (hb : PE X (.BoolOp .Or (b :: rest) pos) tb) : PE X (.BoolOp .Or (a :: b :: rest) pos) (tOrV ta tb) := by
  intro pins s σ H Q I h
  refine BoolOp_or (thn (ha pins s σ H _ I h) fun v s1 ⟨x, H1, I1, r1, q1⟩ => ?_)
  obtain ⟨c, rfl, q1⟩ := q1
  cases r1
  refine wpAny_truthy_bool ?_
  cases c with
  | false => exact hb pins s1 σ H1 Q I1 q1
  | true => exact ⟨.bl true, H1, I1, rfl, q1⟩
/-- a if t else b -/
def tIf (t : TT) (ta tb : TE) : TE := fun σ H Q => t σ H fun c H1 => if c = true then ta σ H1 Q else tb σ H1 Q
theorem pe_ifExp {c : Expr} (hc : PT X c tA) (ha : PE X a ta) (hb : PE X b tb) : PE X (.IfExp c a b pos) (tIf tA ta tb) := by
  intro pins s σ H Q I h
  refine wpAny_IfExp (thn (hc pins s σ H _ I h) fun d s1 ⟨H1, I1, q1⟩ => ?_)
  cases d with
  | true => exact ha pins s1 σ H1 Q I1 q1
  | false => exact hb pins s1 σ H1 Q I1 q1
end
end L2

namespace L2
open PySem PySem.Spec PyProof.Rows

/-! ### a list, a tuple that is read: tracked, frozen, or an object of the module -/
def SqL (K : PySem.W.Frag) (H : Hp) (a : Addr) (xs : List V) : Prop :=
  Rd H a (.lst xs) ∨
    ∃ (o : Obj) (its : Array Value) (n : Nat), K.lookup a = some o ∧ o.cls = .type "list" ∧ o.dict = none ∧ o.data = .seq its n ∧ its.size ≤ sizeLine ∧ Vals xs its.toList
def SqT (K : PySem.W.Frag) (H : Hp) (a : Addr) (xs : List V) : Prop :=
  Rd H a (.tup xs) ∨
    ∃ (o : Obj) (its : Array Value) (n : Nat), K.lookup a = some o ∧ o.cls = .type "tuple" ∧ o.data = .seq its n ∧ its.size ≤ sizeLine ∧ Vals xs its.toList
def absV : Value → Option V
  | .none => some .non
  | .bool b => some (.bl b)
  | .int i _ => some (.int i)
  | .str x _ => some (.str x)
  | .bytes b _ => some (.byt b)
  | .float b _ => some (.flt b)
  | .ref a => some (.ref a)
  | .type n => some (.ty n)
  | _ => none
theorem RelV.abs {x : V} {u : Value} (r : RelV x u) : absV u = some x := by
  cases x with
  | non => cases r; rfl
  | bl _ => cases r; rfl
  | int _ => obtain ⟨t, rfl⟩ := r; rfl
  | str _ => obtain ⟨t, rfl⟩ := r; rfl
  | byt _ => obtain ⟨t, rfl⟩ := r; rfl
  | flt _ => obtain ⟨t, rfl⟩ := r; rfl
  | ref _ => cases r; rfl
  | ty _ => cases r; rfl
theorem RelV.inj {x y : V} {u : Value} (r : RelV x u) (q : RelV y u) : x = y := Option.some.inj (r.abs.symm.trans q.abs)
theorem Vals.inj : ∀ {xs ys : List V} {us : List Value}, Vals xs us → Vals ys us → xs = ys
  | _, _, _, .nil, .nil => rfl
  | _, _, _, .cons r t, .cons r' t' => by rw [r.inj r', Vals.inj t t']
section
variable {X : Cx} {pins : List (Addr × Obj)} {σ : St} {H : Hp} {s : Shared} {a : Addr} {xs ys : List V}
theorem SqL.of {K : PySem.W.Frag} (h : H a = some (.lst xs)) : SqL K H a xs := .inl (.inl h)
theorem SqT.of {K : PySem.W.Frag} (h : H a = some (.tup xs)) : SqT K H a xs := .inl (.inl h)
theorem Inv.list (I : Inv X pins σ H s) (h : SqL X.K H a xs) : ∃ its : List Value, Vals xs its ∧ PlainL s.heap a its.toArray ∧ xs.length ≤ sizeLine := by
  rcases h with h | ⟨o, its, n, hk, hc, hd, hs, hz, r⟩
  · obtain ⟨z, its, n, r, e⟩ := h.ok I.hok
    exact ⟨its, r, ⟨_, n, e, rfl, rfl, rfl⟩, z⟩
  · refine ⟨its.toList, r, ⟨o, n, I.kIn a o hk, hc, hd, by simpa using hs⟩, ?_⟩
    have e := r.length
    simp only [Array.length_toList] at e
    omega
theorem Inv.tuple (I : Inv X pins σ H s) (h : SqT X.K H a xs) : ∃ its : List Value, Vals xs its ∧ IsTup s.heap a its.toArray ∧ xs.length ≤ sizeLine := by
  rcases h with h | ⟨o, its, n, hk, hc, hs, hz, r⟩
  · obtain ⟨z, its, r, p⟩ := h.ok I.hok
    exact ⟨its, r, p, z⟩
  · refine ⟨its.toList, r, ⟨o, I.kIn a o hk, hc, n, by simpa using hs⟩, ?_⟩
    have e := r.length
    simp only [Array.length_toList] at e
    omega
theorem Inv.list_inj (I : Inv X pins σ H s) (h : SqL X.K H a xs) (h' : SqL X.K H a ys) : xs = ys := by
  obtain ⟨its, r, ⟨o, n, e, _, _, d⟩, _⟩ := I.list h
  obtain ⟨its', r', ⟨o', n', e', _, _, d'⟩, _⟩ := I.list h'
  rw [e] at e'; cases e'
  rw [d] at d'
  injection d' with d1 _
  have : its = its' := by simpa using congrArg Array.toList d1
  subst this
  exact r.inj r'
end

/-! ### another wish about exceptions -/
abbrev Cx.wish (X : Cx) (E : Value → Shared → Prop) : Cx := { X with xe := E }
/-- no exception leaves -/
abbrev Cx.nox (X : Cx) : Cx := X.wish fun _ _ => False
theorem Cx.Ok.wish {X : Cx} (ok : X.Ok) (E : Value → Shared → Prop) : (X.wish E).Ok :=
  ⟨ok.mod, ok.kind, ok.glob, ok.blt, ok.above, ok.inj, ok.has, ok.cab, ok.hd, ok.frames, ok.stk, ok.exf, ok.bs, ok.bsz, ok.noex, ok.exfs, ok.funs, ok.frf⟩
theorem Cx.Ok.unwish {X : Cx} {E : Value → Shared → Prop} (ok : (X.wish E).Ok) : X.Ok :=
  ⟨ok.mod, ok.kind, ok.glob, ok.blt, ok.above, ok.inj, ok.has, ok.cab, ok.hd, ok.frames, ok.stk, ok.exf, ok.bs, ok.bsz, ok.noex, ok.exfs, ok.funs, ok.frf⟩
section
variable {X : Cx} {pins : List (Addr × Obj)} {σ : St} {H : Hp} {s : Shared} {E : Value → Shared → Prop}
theorem Inv.wish (I : Inv X pins σ H s) (E : Value → Shared → Prop) : Inv (X.wish E) pins σ H s := ⟨I.ok.wish E, I.os, I.bare, I.base, I.loc, I.cell, I.free, I.freeC, I.pin, I.hok, I.len⟩
theorem Inv.unwish (I : Inv (X.wish E) pins σ H s) : Inv X pins σ H s := ⟨I.ok.unwish, I.os, I.bare, I.base, I.loc, I.cell, I.free, I.freeC, I.pin, I.hok, I.len⟩
theorem SP.unwish {D : Ends} {f : Flow} {s' : Shared} (h : SP (X.wish E) pins D f s') : SP X pins D f s' := by
  cases f with
  | next => obtain ⟨σ', H', I, q⟩ := h; exact ⟨σ', H', I.unwish, q⟩
  | brk => obtain ⟨σ', H', I, q⟩ := h; exact ⟨σ', H', I.unwish, q⟩
  | cont => obtain ⟨σ', H', I, q⟩ := h; exact ⟨σ', H', I.unwish, q⟩
  | ret u => obtain ⟨v, σ', H', I, r, q⟩ := h; exact ⟨v, σ', H', I.unwish, r, q⟩
theorem PE.nox {e : Expr} {t : TE} (h : PE X.nox e t) : PE X e t := fun pins s σ H Q I hw =>
  wpAny_mono (h pins s σ H Q (I.wish _) hw) (fun _ _ ⟨v, H', I', r, q⟩ => ⟨v, H', I'.unwish, r, q⟩) fun _ _ z => False.elim z
theorem PT.nox {e : Expr} {t : TT} (h : PT X.nox e t) : PT X e t := fun pins s σ H Q I hw =>
  wpAny_mono (h pins s σ H Q (I.wish _) hw) (fun _ _ ⟨H', I', q⟩ => ⟨H', I'.unwish, q⟩) fun _ _ z => False.elim z
theorem PSs.nox {st : List Stmt} {t : TS} (h : PSs X.nox st t) : PSs X st t := fun pins s σ H D I hw =>
  wpAny_mono (h pins s σ H D (I.wish _) hw) (fun _ _ q => q.unwish) fun _ _ z => False.elim z
end

/-! ### blocks and small statements -/
section
variable {X : Cx} {st : Stmt} {rest : List Stmt} {t u : TS} {e : Expr} {te : TE} {pos : Pos}
def tNext : TS := fun D σ H => D.nx σ H
def tSeq (t u : TS) : TS := fun D σ H => t { D with nx := u D } σ H
theorem pss_nil : PSs X [] tNext := fun _ _ σ H _ I h => wpAny_execs_nil ⟨σ, H, I, h⟩
theorem pss_cons (h1 : PS X st t) (h2 : PSs X rest u) : PSs X (st :: rest) (tSeq t u) := by
  intro pins s σ H D I h
  refine wpAny_execs_cons (thn (h1 pins s σ H { D with nx := u D } I h) fun f s1 q => ?_)
  cases f with
  | next =>
    obtain ⟨σ', H', I', q⟩ := q
    exact h2 pins s1 σ' H' D I' q
  | ret v => exact q
  | brk => exact q
  | cont => exact q
theorem pss_one (h1 : PS X st t) : PSs X [st] t := by
  intro pins s σ H D I h
  refine wpAny_execs_cons (thn (h1 pins s σ H D I h) fun f s1 q => ?_)
  cases f with
  | next => exact wpAny_execs_nil q
  | ret v => exact q
  | brk => exact q
  | cont => exact q
/-- in a def's body nothing is shown -/
theorem Inv.quiet {pins : List (Addr × Obj)} {σ : St} {H : Hp} {s : Shared} (I : Inv X pins σ H s) : interactive X.env = false := by simp [interactive, I.ok.kind]
/-- an expression whose value is dropped -/
def tDrop (te : TE) : TS := fun D σ H => te σ H fun _ H1 => D.nx σ H1
theorem ps_expr (he : PE X e te) (hs : swapsWith e none pos.line X.env = pure false := by rfl) : PS X (.Expr e pos) (tDrop te) := by
  intro pins s σ H D I h
  exact wpAny_Expr_any (thn (he pins s σ H _ I h) fun v s1 ⟨x, H1, I1, r1, q1⟩ => ⟨σ, H1, I1, q1⟩) I.quiet hs
def tRet (te : TE) : TS := fun D σ H => te σ H D.rt
theorem ps_ret (he : PE X e te) : PS X (.Return (some e) pos) (tRet te) := by
  intro pins s σ H D I h
  exact wpAny_Return_some (thn (he pins s σ H _ I h) fun v s1 ⟨x, H1, I1, r1, q1⟩ => ⟨x, σ, H1, I1, r1, q1⟩)
def tIfS (c : TT) (t u : TS) : TS := fun D σ H => c σ H fun b H1 => if b = true then t D σ H1 else u D σ H1
theorem ps_if {c : Expr} {a b : List Stmt} {tc : TT} (hc : PT X c tc) (ha : PSs X a t) (hb : PSs X b u) : PS X (.If c a b pos) (tIfS tc t u) := by
  intro pins s σ H D I h
  refine wpAny_If (thn (hc pins s σ H _ I h) fun d s1 ⟨H1, I1, q1⟩ => ?_)
  cases d with
  | true => exact ha pins s1 σ H1 D I1 q1
  | false => exact hb pins s1 σ H1 D I1 q1
/-- code that the proof never comes to -/
def tNever : TS := fun _ _ _ => False
theorem ps_never : PS X st tNever := fun _ _ _ _ _ _ h => h.elim
end

/-! ### targets -/
abbrev TG := V → St → Hp → (St → Hp → Prop) → Prop
abbrev TGs := List V → St → Hp → (St → Hp → Prop) → Prop
def PG (X : Cx) (target : Expr) (t : TG) : Prop :=
  ∀ (pins : List (Addr × Obj)) (s : Shared) (σ : St) (H : Hp) (v : V) (u : Value) (Q : St → Hp → Prop), Inv X pins σ H s → RelV v u → t v σ H Q →
    wpAny (model X.prog X.w) X.A (assign target X.env u) (fun _ s' => ∃ σ' H', Inv X pins σ' H' s' ∧ Q σ' H') X.xe s
/-- several targets, one after another -/
def PGs (X : Cx) (ts : List Expr) (t : TGs) : Prop :=
  ∀ (pins : List (Addr × Obj)) (s : Shared) (σ : St) (H : Hp) (vs : List V) (us : List Value) (Q : St → Hp → Prop), Inv X pins σ H s → Vals vs us → t vs σ H Q →
    wpAny (model X.prog X.w) X.A (assignInOrder ((assignEach ts X.env).map (·.2)) us) (fun _ s' => ∃ σ' H', Inv X pins σ' H' s' ∧ Q σ' H') X.xe s
/-- o[i] = v, by values -/
abbrev TSet := V → V → V → Hp → (Hp → Prop) → Prop
def PSet (X : Cx) (t : TSet) : Prop :=
  ∀ (pins : List (Addr × Obj)) (s : Shared) (σ : St) (H : Hp) (o i v : V) (ov iv u : Value) (Q : Hp → Prop), Inv X pins σ H s → RelV o ov → RelV i iv → RelV v u → t o i v H Q →
    wpAny (model X.prog X.w) X.A (setItem ov iv u) (fun _ s' => ∃ H', Inv X pins σ H' s' ∧ Q H') X.xe s
section
variable {X : Cx} {pos : Pos}
def gName (i : Nat) : TG := fun v σ H Q => Q (σ.set i (some v)) H
theorem pg_name {i : Nat} {x : Str} (hN : X.N.Nodup) (hi : X.N[i]? = some x) (hx : Loc X.env.scope x) (hf : X.fn x = true ∨ X.env.scope.names.lookup x = some .local := by first | exact .inl rfl | exact .inr rfl | assumption) : PG X (.Name x pos) (gName i) := by
  intro pins s σ H v u Q I r h
  exact wpAny_assign_Name (store_ok I hN hi hx r (fun s' I' => ⟨_, H, I', h⟩) hf)
def gNil : TGs := fun vs σ H Q => vs = [] ∧ Q σ H
def gCons (t : TG) (u : TGs) : TGs := fun vs σ H Q => ∃ v r, vs = v :: r ∧ t v σ H fun σ' H' => u r σ' H' Q
theorem pgs_nil : PGs X [] gNil := by
  intro pins s σ H vs us Q I r h
  obtain ⟨e, h⟩ := h
  subst e
  cases r
  exact assignInOrder_nil ⟨σ, H, I, h⟩
theorem pgs_cons {e : Expr} {es : List Expr} {t : TG} {u : TGs} (h1 : PG X e t) (h2 : PGs X es u)
    (hs : (assignEach (e :: es) X.env).map (·.2) = assign e X.env :: (assignEach es X.env).map (·.2) := by rfl) : PGs X (e :: es) (gCons t u) := by
  intro pins s σ H vs us Q I r h
  obtain ⟨v, vr, e1, h⟩ := h
  subst e1
  cases r with
  | cons r rr =>
    rw [hs]
    refine assignInOrder_cons (thn (h1 pins s σ H _ _ _ I r h) fun _ s1 ⟨σ1, H1, I1, q1⟩ => ?_)
    exact h2 pins s1 σ1 H1 _ _ Q I1 rr q1
/-- (a, b, ..) = a tuple of that length -/
def gTup (K : PySem.W.Frag) (n : Nat) (t : TGs) : TG := fun v σ H Q => ∃ a xs, v = .ref a ∧ SqT K H a xs ∧ xs.length = n ∧ t xs σ H Q
theorem pg_tup {es : List Expr} {k : Nat} {t : TGs} {n : Nat} (hc : X.calm = true) (h : PGs X es t)
    (hn : (assignEach es X.env).length = n := by rfl) (hst : (assignEach es X.env).findIdx? (·.1) = none := by rfl) : PG X (.Tuple es k pos) (gTup X.K n t) := by
  intro pins s σ H v u Q I r hw
  obtain ⟨a, xs, e1, hq, hl, hw⟩ := hw
  subst e1
  cases r
  obtain ⟨its, rv, ht, hz⟩ := I.tuple hq
  refine assign_Tuple_tuple (I.ok.hd hc) ht (by simp [hn, ← hl, rv.length]) hst fun h' hx => ?_
  have I1 : Inv X pins σ H { s with heap := h' } := I.kept (t' := s.toks) fun b o e => hx b o (Nat.ne_of_lt (Heap.lt_size e)) e
  exact h pins _ σ H xs _ Q I1 (by simpa using rv) hw
/-- o[i] = .. -/
def gSub (to ti : TE) (t : TSet) : TG := fun v σ H Q => to σ H fun o H1 => ti σ H1 fun i H2 => t o i v H2 fun H3 => Q σ H3
theorem pg_sub {o i : Expr} {to ti : TE} {t : TSet} (ho : PE X o to) (hi : PE X i ti) (hs : PSet X t)
    (ha : ∀ v, assign (.Subscript o i pos) X.env v = (do
      let ov ← holding [v] (eval o X.env)
      let iv ← holding [v, ov] (eval i X.env)
      standAt pos
      holding [v, ov, iv] (setItem ov iv v)
      release [v, ov, iv] []) := by intro _; rfl) : PG X (.Subscript o i pos) (gSub to ti t) := by
  intro pins s σ H v u Q I r h
  rw [ha]
  refine wpAny_bind (wpAny_holding (thn (ho pins s σ H _ I h) fun ov s1 ⟨x, H1, I1, r1, q1⟩ => ?_))
  refine wpAny_bind (wpAny_holding (thn (hi pins s1 σ H1 _ I1 q1) fun iv s2 ⟨y, H2, I2, r2, q2⟩ => ?_))
  refine wpAny_bind (wpAny_standAt (wpAny_bind (wpAny_holding (thn (hs pins s2 σ H2 x y v ov iv u _ I2 r1 r2 r q2) fun _ s3 ⟨H3, I3, q3⟩ => ?_))))
  exact wpAny_release ⟨σ, H3, I3, q3⟩
/-- target = value -/
def tAsg (te : TE) (g : TG) : TS := fun D σ H => te σ H fun x H1 => g x σ H1 D.nx
theorem ps_asg {tg e : Expr} {te : TE} {g : TG} (he : PE X e te) (hg : PG X tg g) (hs : swapsWithSole [tg] e pos.line X.env = pure false := by rfl) (hw : swappedStores [tg] e X.env = pure none := by rfl)
    (h1 : (assignEach [tg] X.env).map (·.2) = [assign tg X.env] := by rfl) : PS X (.Assign [tg] e pos) (tAsg te g) := by
  intro pins s σ H D I h
  refine wpAny_Assign_stores (thn (he pins s σ H _ I h) fun v s1 ⟨x, H1, I1, r1, q1⟩ => ?_) hs hw
  rw [h1]
  exact thn (hg pins s1 σ H1 x v _ I1 r1 q1) fun _ s2 q => q
/-- name = value -/
theorem ps_set {i : Nat} {x : Str} {e : Expr} {te : TE} {pos' : Pos} (hN : X.N.Nodup) (hi : X.N[i]? = some x) (hx : Loc X.env.scope x) (he : PE X e te) (hs : swapsWith e (some (.Name x pos')) pos.line X.env = pure false := by rfl) (hf : X.fn x = true ∨ X.env.scope.names.lookup x = some .local := by first | exact .inl rfl | exact .inr rfl | assumption) :
    PS X (.Assign [.Name x pos'] e pos) (tAsg te (gName i)) := by
  intro pins s σ H D I h
  refine wpAny_Assign_Name (thn (he pins s σ H _ I h) fun v s1 ⟨y, H1, I1, r1, q1⟩ => ?_) hs
  exact store_ok I1 hN hi hx r1 (fun s2 I2 => ⟨_, H1, I2, q1⟩) hf
end

/-! ### while -/
section
variable {X : Cx} {pos : Pos}
/-- the invariant W with its measure -/
def tWhile (c : TT) (tb : TS) : TS := fun D σ H => ∃ W : Nat → St → Hp → Prop, (∃ m, W m σ H) ∧ ∀ m σ H, W m σ H →
  c σ H fun b H1 => if b = true then ∃ N : St → Hp → Prop, (∀ σ' H', N σ' H' → ∃ m', m' < m ∧ W m' σ' H') ∧ tb { D with nx := N, ct := N, bk := D.nx } σ H1 else D.nx σ H1
theorem ps_while {c : Expr} {body : List Stmt} {tc : TT} {tb : TS} (hp : PassesOwn (model X.prog X.w) X.A X.env X.xe) (hc : PT X c tc) (hb : PSs X body tb) : PS X (.While c body [] pos) (tWhile tc tb) := by
  intro pins s σ H D I h
  obtain ⟨W, ⟨m0, w0⟩, turn⟩ := h
  refine wpAny_While (codeAny_whileLoop (fun n s' => ∃ σ' H', Inv X pins σ' H' s' ∧ W n σ' H') ?_ m0 ⟨σ, H, I, w0⟩)
  rintro n s1 ⟨σ1, H1, I1, w1⟩
  refine wpAny_passesOwn hp (thn (hc pins s1 σ1 H1 _ I1 (turn n σ1 H1 w1)) fun b s2 ⟨H2, I2, q2⟩ => ?_)
  cases b with
  | true =>
    obtain ⟨N, hN, q2⟩ := q2
    rw [if_pos rfl]
    refine wpAny_passesOwn hp (thn (hb pins s2 σ1 H2 _ I2 q2) fun f s3 q3 => ?_)
    cases f with
    | next =>
      obtain ⟨σ3, H3, I3, n3⟩ := q3
      obtain ⟨m', hm, w3⟩ := hN σ3 H3 n3
      exact ⟨m', hm, σ3, H3, I3, w3⟩
    | cont =>
      obtain ⟨σ3, H3, I3, n3⟩ := q3
      obtain ⟨m', hm, w3⟩ := hN σ3 H3 n3
      exact ⟨m', hm, σ3, H3, I3, w3⟩
    | brk => exact q3
    | ret v => exact q3
  | false =>
    rw [if_neg Bool.false_ne_true]
    exact wpAny_execs_nil ⟨σ1, H2, I2, q2⟩
end

/-! ### what a loop or a comprehension walks -/
/-- at turn i: it yields x (the heap may grow), or it stops -/
structure It where
  go : Nat → Hp → Prop
  yld : Nat → Hp → V → Hp → Prop
  stop : Nat → Hp → Prop
/-- the iterator's own objects may turn: they are not the frame's, not pinned, younger than the entry (or a comprehension's own) -/
def FpOk (X : Cx) (pins : List (Addr × Obj)) (H : Hp) (b : Addr) : Prop :=
  H b = none ∧ b ≠ X.env.locals ∧ b ∉ X.fs ∧ (b ∈ X.ex ∨ X.s₀.heap.objs.size ≤ b) ∧ (∀ x c, X.env.cells.lookup x = some c → c ≠ b) ∧ ∀ p ∈ X.pn ++ pins, p.1 ≠ b
theorem Inv.fpOk {X : Cx} {pins : List (Addr × Obj)} {σ : St} {H H' : Hp} {s : Shared} {b : Addr} (I : Inv X pins σ H s) (hb : s.heap.objs.size ≤ b) (hn : H' b = none) : FpOk X pins H' b := by
  refine ⟨hn, Nat.ne_of_gt (Nat.lt_of_lt_of_le I.lt hb), I.nofs hb, .inr (Nat.le_trans I.sz hb), fun x c e z => ?_, fun p hp z => ?_⟩
  · obtain ⟨v, q⟩ := I.cell x c e
    exact absurd (Nat.lt_of_lt_of_le q.lt (by rw [z]; exact hb)) (Nat.lt_irrefl _)
  · exact absurd (Nat.lt_of_lt_of_le (Heap.lt_size (I.pin p hp).1) (by rw [z]; exact hb)) (Nat.lt_irrefl _)
structure Turn (P : Program) (w : World) (K : PySem.W.Frag) (tg : Expr) (J : It) (fp : List Addr) (it : Addr) (tn : Nat → Heap → Prop) : Prop where
  mem : it ∈ fp
  obj : ∀ i h, tn i h → ∀ b ∈ fp, ∃ o, h.get? b = some o ∧ ∀ v, o.data ≠ .cell v
  keep : ∀ i h h', tn i h → (∀ b ∈ fp, ∀ o, h.get? b = some o → h'.get? b = some o) → tn i h'
  item : ∀ (X : Cx), X.prog = P → X.w = w → X.K = K → X.calm = true → ∀ (i : Nat) (pins : List (Addr × Obj)) (s : Shared) (σ : St) (H : Hp) (E : Value → Shared → Prop), Inv X pins σ H s → (∀ b ∈ fp, FpOk X pins H b) → tn i s.heap → J.go i H →
    wpAny (model P w) X.A (pyNext (.ref it)) (fun r s1 => ∃ u, r = some u ∧
      wpAny (model P w) X.A (letOwnedTupleGo tg (.ref it) u) (fun _ s2 => ∃ x H', Inv X pins σ H' s2 ∧ RelV x u ∧ J.yld i H x H' ∧ tn (i + 1) s2.heap ∧ ∀ b ∈ fp, H' b = none) E s1) E s
  done : ∀ (X : Cx), X.prog = P → X.w = w → X.K = K → X.calm = true → ∀ (i : Nat) (pins : List (Addr × Obj)) (s : Shared) (σ : St) (H : Hp) (E : Value → Shared → Prop), Inv X pins σ H s → (∀ b ∈ fp, FpOk X pins H b) → tn i s.heap → J.stop i H →
    wpAny (model P w) X.A (pyNext (.ref it)) (fun r s1 => r = none ∧ Inv X pins σ H s1) E s
  self : ∀ (A : Around) (i : Nat) (s : Shared) (Q : Value → Shared → Prop) (E : Value → Shared → Prop), tn i s.heap → Q (.ref it) s → wpAny (model P w) A (pyIter (.ref it)) Q E s
abbrev TI := St → Hp → (It → Hp → Prop) → Prop
/-- an iterator has come -/
def PIE (X : Cx) (pins : List (Addr × Obj)) (σ : St) (tg : Expr) (R : It → Hp → Prop) (itv : Value) (s2 : Shared) : Prop :=
  ∃ (it : Addr) (fp : List Addr) (tn : Nat → Heap → Prop) (J : It) (H' : Hp), itv = .ref it ∧ Inv X pins σ H' s2 ∧ Turn X.prog X.w X.K tg J fp it tn ∧ tn 0 s2.heap ∧ (∀ b ∈ fp, FpOk X pins H' b) ∧ R J H'
def PI (X : Cx) (tg iter : Expr) (wi : TI) : Prop :=
  ∀ (pins : List (Addr × Obj)) (s : Shared) (σ : St) (H : Hp) (R : It → Hp → Prop), Inv X pins σ H s → wi σ H R →
    wpAny (model X.prog X.w) X.A (eval iter X.env) (fun v s1 => wpAny (model X.prog X.w) X.A (pyIter v) (PIE X pins σ tg R) X.xe s1) X.xe s

/-- the step ahead of the store is nothing for an iterator that keeps no tuple -/
theorem go_of {M : Model} {A : Around} {E : Value → Shared → Prop} {s : Shared} {tg : Expr} {it : Addr} {u : Value} {o : Obj} {n : String} {vs : Array Value} {Q : Unit → Shared → Prop} (ho : s.heap.get? it = some o) (hc : o.cls = .type n) (hd : o.data = .fields vs)
    (hn : ["enumerate", "zip", "dict_itemiterator", "dict_reverseitemiterator", "odict_iterator", "itertools.zip_longest", "itertools.pairwise"].contains n = false) (hQ : Q () s) : wpAny M A (letOwnedTupleGo tg (.ref it) u) Q E s := by
  unfold letOwnedTupleGo
  cases tg <;> first
    | exact wpAny_pure hQ
    | (cases u <;> first
        | exact wpAny_pure hQ
        | (refine wpAny_bind (wpAny_load ho ?_)
           rw [hc, hd]
           show wpAny M A (if (["enumerate", "zip", "dict_itemiterator", "dict_reverseitemiterator", "odict_iterator", "itertools.zip_longest", "itertools.pairwise"].contains n && vs[0]? == some (rawInt _)) = true then _ else _) Q E s
           rw [if_neg (by intro h; rw [hn, Bool.false_and] at h; cases h)]
           exact wpAny_pure hQ))

/-- the list at a, as it stands at each turn (a loop may append to it) -/
def Itl (K : PySem.W.Frag) (a : Addr) : It :=
  ⟨fun i H => ∃ xs x, SqL K H a xs ∧ xs[i]? = some x, fun i H x H' => H' = H ∧ ∀ xs, SqL K H a xs → xs[i]? = some x, fun i H => ∃ xs, SqL K H a xs ∧ xs.length ≤ i⟩
/-- lo, lo + 1, .. (n of them) -/
def Itr (lo : Int) (n : Nat) : It := ⟨fun i _ => i < n, fun i H x H' => H' = H ∧ x = .int (lo + i), fun i _ => n ≤ i⟩
theorem turn_list {P : Program} {w : World} {K : PySem.W.Frag} {tg : Expr} (a it : Addr) : Turn P w K tg (Itl K a) [it] it (fun i h => h.IsListIter it a i) where
  mem := by simp
  obj := fun i h st b hb => by
    have e : b = it := by simpa using hb
    subst e
    obtain ⟨o, e, c, d⟩ := st
    exact ⟨o, e, fun v z => by rw [d] at z; cases z⟩
  keep := fun i h h' st k => st.at fun o e => k it (by simp) o e
  item := by
    intro X hP hw hK hc i pins s σ H E I hf st hg
    subst hP hw hK
    obtain ⟨xs, x, hq, hx⟩ := hg
    obtain ⟨its, rv, p, hz⟩ := I.list hq
    obtain ⟨u, hu, ru⟩ := rv.get hx
    obtain ⟨f0, f1, f2, f3, f4, f5⟩ := hf it (by simp)
    refine wpAny_pyNext_list_item st p.isList (x := u) (by simpa using hu) fun h' st' sb => ?_
    have I1 : Inv X pins σ H { s with heap := h' } := I.turned (t' := s.toks) (fun b o hb e => (sb.2 b hb).trans e) f0 f1 f3 f4 f5
    obtain ⟨o, e, c, d⟩ := id st'
    exact ⟨u, rfl, go_of (s := { s with heap := h' }) e c d (by decide) ⟨x, H, I1, ru, ⟨rfl, fun ys hy => by rw [I.list_inj hy hq]; exact hx⟩, st', fun b hb => (hf b hb).1⟩⟩
  done := by
    intro X hP hw hK hc i pins s σ H E I hf st hg
    subst hP hw hK
    obtain ⟨xs, hq, hx⟩ := hg
    obtain ⟨its, rv, p, hz⟩ := I.list hq
    obtain ⟨f0, f1, f2, f3, f4, f5⟩ := hf it (by simp)
    have hl := rv.length
    exact wpAny_pyNext_list_end (I.ok.hd hc) st p.isList (by simp; omega) fun h' eb => ⟨rfl, I.turned (t' := s.toks) (fun b o hb e => eb b o hb e) f0 f1 f3 f4 f5⟩
  self := fun _ _ _ _ _ st h => wpAny_pyIter_listiter st h
theorem turn_range {P : Program} {w : World} {K : PySem.W.Frag} {tg : Expr} (it : Addr) (lo : Int) (n : Nat) : Turn P w K tg (Itr lo n) [it] it (fun i h => IsRangeIter h it (lo + (i : Nat) * 1) ((n : Int) - (i : Nat)) 1) where
  mem := by simp
  obj := fun i h st b hb => by
    have e : b = it := by simpa using hb
    subst e
    exact ⟨_, st, fun v z => by
      have z' : Data.fields _ = Data.cell v := z
      cases z'⟩
  keep := fun i h h' st k => k it (by simp) _ st
  item := by
    intro X hP hw hK hc i pins s σ H E I hf st hg
    subst hP hw hK
    obtain ⟨f0, f1, f2, f3, f4, f5⟩ := hf it (by simp)
    have W := Walks.range (prog := X.prog) (w := X.w) (I.ok.hd hc) it lo 1 n
    refine W.item i s _ _ hg st fun v h' tk hv st' kk => ?_
    obtain ⟨t, rfl⟩ := hv
    have I1 : Inv X pins σ H { s with heap := h', toks := tk } := I.turned (fun b o hb e => kk b o (by simpa using hb) e) f0 f1 f3 f4 f5
    refine ⟨_, rfl, go_of (s := { s with heap := h', toks := tk }) (n := "range_iterator") st' rfl rfl (by decide) ⟨.int (lo + i), H, I1, ⟨t, ?_⟩, ⟨rfl, rfl⟩, st', fun b hb => (hf b hb).1⟩⟩
    rw [Int.mul_one]
  done := by
    intro X hP hw hK hc i pins s σ H E I hf st hg
    subst hP hw hK
    obtain ⟨f0, f1, f2, f3, f4, f5⟩ := hf it (by simp)
    exact wpAny_pyNext_range_end (I.ok.hd hc) st (by have : n ≤ i := hg; omega) fun h' eb => ⟨rfl, I.turned (t' := s.toks) (fun b o hb e => eb b o hb e) f0 f1 f3 f4 f5⟩
  self := fun _ _ _ _ _ st h => wpAny_pyIter_rangeiter st h
end L2

namespace L2
open PySem PySem.Spec PyProof.Rows
section
variable {X : Cx} {tg : Expr}
def iList (K : PySem.W.Frag) (tl : TE) : TI := fun σ H R => tl σ H fun x H1 => ∃ a, x = .ref a ∧ (∃ xs, SqL K H1 a xs) ∧ R (Itl K a) H1
theorem pi_list {l : Expr} {tl : TE} (hl : PE X l tl) : PI X tg l (iList X.K tl) := by
  intro pins s σ H R I h
  refine thn (hl pins s σ H _ I h) fun v s1 ⟨x, H1, I1, r1, q1⟩ => ?_
  obtain ⟨a, e, ⟨xs, hq⟩, q⟩ := q1
  subst e
  cases r1
  obtain ⟨its, rv, p, hz⟩ := I1.list hq
  refine wpAny_pyIter_list p.isList ?_
  refine ⟨s1.heap.objs.size, [s1.heap.objs.size], _, _, H1, rfl, I1.kept (t' := s1.toks) fun b o e => Heap.get?_push_of_some _ e, turn_list a _, ⟨_, Heap.get?_push_size _ rfl, rfl, rfl⟩, fun b hb => ?_, q⟩
  have e : b = s1.heap.objs.size := by simpa using hb
  subst e
  exact I1.fpOk (Nat.le_refl _) (I1.hok.fresh (Nat.le_refl _))
/-- a range object just made, walked -/
theorem range_it {pins : List (Addr × Obj)} {σ : St} {H : Hp} {s : Shared} {R : It → Hp → Prop} {E : Value → Shared → Prop} {lo hi : Int} {t u v : Tok} {tk : Nat} (I : Inv X pins σ H s) (h1 : -(2 ^ 62) ≤ lo) (h2 : lo < 2 ^ 62) (h3 : -(2 ^ 62) ≤ hi) (h4 : hi < 2 ^ 62)
    (q : R (Itr lo (hi - lo).toNat) H) : wpAny (model X.prog X.w) X.A (pyIter (.ref s.heap.objs.size)) (PIE X pins σ tg R) E { s with heap := s.heap.push { cls := .type "range", data := .fields #[.int lo t, .int hi u, .int 1 v] }, toks := tk } := by
  refine wpAny_pyIter_range (IsRange.new ..) (small_one h1 h2 h3 h4) ?_
  have I1 : Inv X pins σ H { s with heap := s.heap.push { cls := .type "range", data := .fields #[.int lo t, .int hi u, .int 1 v] }, toks := tk } := I.kept fun b o e => Heap.get?_push_of_some _ e
  refine ⟨(s.heap.push { cls := .type "range", data := .fields #[.int lo t, .int hi u, .int 1 v] }).objs.size, [(s.heap.push { cls := .type "range", data := .fields #[.int lo t, .int hi u, .int 1 v] }).objs.size], _, _, H, rfl,
    I1.kept (t' := tk) fun b o e => Heap.get?_push_of_some _ e, turn_range _ lo (hi - lo).toNat, ?_, fun b hb => ?_, q⟩
  · have e1 : lo + ((0 : Nat) : Int) * 1 = lo := by simp
    have e2 : (((hi - lo).toNat : Nat) : Int) - ((0 : Nat) : Int) = Builtin.Range.rangeSize lo hi 1 := by rw [rangeSize_one]; split <;> omega
    show IsRangeIter _ _ (lo + ((0 : Nat) : Int) * 1) ((((hi - lo).toNat : Nat) : Int) - ((0 : Nat) : Int)) 1
    rw [e1, e2]
    exact Heap.get?_push_size _ rfl
  · have e : b = (s.heap.push { cls := .type "range", data := .fields #[.int lo t, .int hi u, .int 1 v] }).objs.size := by simpa using hb
    subst e
    exact I1.fpOk (Nat.le_refl _) (I1.hok.fresh (Nat.le_refl _))
def iRng1 (ta : TA) : TI := fun σ H R => ta σ H fun vs H1 => ∃ j : Int, vs = [.int j] ∧ -(2 ^ 62) ≤ j ∧ j < 2 ^ 62 ∧ R (Itr 0 j.toNat) H1
def iRng2 (ta : TA) : TI := fun σ H R => ta σ H fun vs H1 => ∃ i j : Int, vs = [.int i, .int j] ∧ (-(2 ^ 62) ≤ i ∧ i < 2 ^ 62 ∧ -(2 ^ 62) ≤ j ∧ j < 2 ^ 62) ∧ R (Itr i (j - i).toNat) H1
theorem pi_range1 {a : Expr} {ta : TA} {p pos : Pos} (hg : Gl X "range") (hm : X.mg "range" = none) (ha : PA X [a] ta) (hs : starEach [a] X.env = [(false, eval a X.env)] := by rfl) : PI X tg (.Call (.Name "range" p) [a] [] pos) (iRng1 ta) := by
  intro pins s σ H R I h
  refine Call_ (ld_blt I hg hm boot_range (PyProof.Rows.callWith_type1 (thn (ha pos pins s σ H _ I h) fun us s1 ⟨vs, H1, I1, r1, q1⟩ => ?_) hs rfl))
  obtain ⟨j, e, q1, q2, q⟩ := q1
  subst e
  cases r1 with
  | cons r rr =>
    cases rr
    obtain ⟨t, rfl⟩ := r
    exact call_range_1 (range_it I1 (by omega) (by omega) q1 q2 (by simpa using q))
theorem pi_range2 {a b : Expr} {ta : TA} {p pos : Pos} (hg : Gl X "range") (hm : X.mg "range" = none) (ha : PA X [a, b] ta) (hs : starEach [a, b] X.env = [(false, eval a X.env), (false, eval b X.env)] := by rfl) (hs2 : starEach [b] X.env = [(false, eval b X.env)] := by rfl) :
    PI X tg (.Call (.Name "range" p) [a, b] [] pos) (iRng2 ta) := by
  intro pins s σ H R I h
  refine Call_ (ld_blt I hg hm boot_range (PyProof.Rows.callWith_type1 (thn (ha pos pins s σ H _ I h) fun us s1 ⟨vs, H1, I1, r1, q1⟩ => ?_) (by rw [hs, hs2]) (by rw [hs2]; rfl)))
  obtain ⟨i, j, e, ⟨q1, q2, q3, q4⟩, q⟩ := q1
  subst e
  cases r1 with
  | cons r rr =>
    cases rr with
    | cons r' rr =>
      cases rr
      obtain ⟨t, rfl⟩ := r
      obtain ⟨t', rfl⟩ := r'
      exact call_range_2 (range_it I1 q1 q2 q3 q4 q)

/-! ### for -/
/-- W: the invariant by the turn and a measure; N: what the body is to reach -/
def tFor (wi : TI) (g : TG) (tb : TS) : TS := fun D σ H => wi σ H fun J H1 => ∃ W : Nat → Nat → St → Hp → Prop, (∃ m, W 0 m σ H1) ∧ ∀ i m σ H, W i m σ H →
  (J.stop i H ∧ D.nx σ H) ∨ (J.go i H ∧ ∃ N : St → Hp → Prop, (∀ σ' H', N σ' H' → ∃ m', m' < m ∧ W (i + 1) m' σ' H') ∧ ∀ x H', J.yld i H x H' → g x σ H' fun σ2 H2 => tb { D with nx := N, ct := N, bk := D.nx } σ2 H2)
/-- the records at fp as they stand -/
def pinsAt (fp : List Addr) (h : Heap) : List (Addr × Obj) := fp.filterMap fun b => (h.get? b).map fun o => (b, o)
theorem mem_pinsAt {fp : List Addr} {h : Heap} {b : Addr} {o : Obj} (hb : b ∈ fp) (e : h.get? b = some o) : (b, o) ∈ pinsAt fp h := List.mem_filterMap.mpr ⟨b, hb, by rw [e]; rfl⟩
theorem of_pinsAt {fp : List Addr} {h : Heap} {p : Addr × Obj} (hp : p ∈ pinsAt fp h) : p.1 ∈ fp ∧ h.get? p.1 = some p.2 := by
  obtain ⟨b, hb, e⟩ := List.mem_filterMap.mp hp
  cases q : h.get? b with
  | none => rw [q] at e; cases e
  | some o =>
    rw [q] at e
    have e' : (b, o) = p := Option.some.inj e
    subst e'
    exact ⟨hb, q⟩
theorem Inv.pinned {pins : List (Addr × Obj)} {σ : St} {H : Hp} {s : Shared} {fp : List Addr} (I : Inv X pins σ H s) (hf : ∀ b ∈ fp, FpOk X pins H b) (ho : ∀ b ∈ fp, ∃ o, s.heap.get? b = some o ∧ ∀ v, o.data ≠ .cell v) : Inv X (pins ++ pinsAt fp s.heap) σ H s :=
  I.pins_of fun p hp => (List.mem_append.mp hp).elim (fun z => I.pin p (List.mem_append_right _ z)) fun z => by
    obtain ⟨hb, e⟩ := of_pinsAt z
    obtain ⟨f0, f1, f2, _⟩ := hf p.1 hb
    obtain ⟨o, e', d⟩ := ho p.1 hb
    rw [e] at e'; cases e'
    exact ⟨e, f0, f1, f2, d⟩
theorem Inv.unpinned {pins pl : List (Addr × Obj)} {σ : St} {H : Hp} {s : Shared} (I : Inv X (pins ++ pl) σ H s) : Inv X pins σ H s := I.pins_of fun p hp => I.pin p (List.mem_append_right _ (List.mem_append_left _ hp))
theorem ps_for {iter : Expr} {body : List Stmt} {wi : TI} {g : TG} {tb : TS} {pos : Pos} (hp : PassesOwn (model X.prog X.w) X.A X.env X.xe) (hc : X.calm = true) (hi : PI X tg iter wi) (hg : PG X tg g) (hb : PSs X body tb)
    (hs : ∀ x, foldedSetIterable iter X.env x = pure x := by intro _; rfl) : PS X (.For tg iter body [] pos) (tFor wi g tb) := by
  intro pins s σ H D I h
  refine wpAny_For (thn (hi pins s σ H _ I h) fun v s1 h1 => thn h1 fun itv s2 h2 => ?_) hs
  obtain ⟨it, fp, tn, J, H2, e, I2, T, st2, f2, W, ⟨m0, w0⟩, turn⟩ := h2
  subst e
  -- what stays true of the iterator's objects through the loop
  have stat : ∀ {H' : Hp}, (∀ b ∈ fp, H' b = none) → ∀ b ∈ fp, FpOk X pins H' b := fun hn b hb => ⟨hn b hb, (f2 b hb).2⟩
  refine codeAny_forLoop_any (fun n s' => ∃ i σ' H', Inv X pins σ' H' s' ∧ tn i s'.heap ∧ (∀ b ∈ fp, H' b = none) ∧ W i n σ' H') ?_ m0 ⟨0, σ, H2, I2, st2, fun b hb => (f2 b hb).1, w0⟩
  rintro n s3 ⟨i, σ3, H3, I3, st3, fr3, w3⟩
  rcases turn i n σ3 H3 w3 with ⟨stop, qn⟩ | ⟨go, N, hN, step⟩
  · refine wpAny_passesOwn hp (thn (T.done X rfl rfl rfl hc i pins s3 σ3 H3 X.xe I3 (stat fr3) st3 stop) fun r s4 ⟨hr, I4⟩ => ?_)
    subst hr
    exact wpAny_execs_nil ⟨σ3, H3, I4, qn⟩
  · refine wpAny_passesOwn hp (thn (T.item X rfl rfl rfl hc i pins s3 σ3 H3 X.xe I3 (stat fr3) st3 go) fun r s4 ⟨u, hr, h4⟩ => ?_)
    subst hr
    refine wpAny_passesOwn hp (thn h4 fun _ s5 ⟨x, H5, I5, r5, y5, st5, fr5⟩ => ?_)
    have I5' := I5.pinned (stat fr5) (T.obj _ _ st5)
    refine wpAny_passesOwn hp (thn (hg _ s5 σ3 H5 x u _ I5' r5 (step x H5 y5)) fun _ s6 ⟨σ6, H6, I6, q6⟩ => ?_)
    refine wpAny_passesOwn hp (thn (hb _ s6 σ6 H6 _ I6 q6) fun f s7 q7 => ?_)
    have again : ∀ {σ7 : St} {H7 : Hp}, Inv X (pins ++ pinsAt fp s5.heap) σ7 H7 s7 → N σ7 H7 → ∃ m, m < n ∧ ∃ i σ' H', Inv X pins σ' H' s7 ∧ tn i s7.heap ∧ (∀ b ∈ fp, H' b = none) ∧ W i m σ' H' := fun {σ7 H7} I7 n7 => by
      obtain ⟨m', hm, w7⟩ := hN σ7 H7 n7
      refine ⟨m', hm, i + 1, σ7, H7, I7.unpinned, T.keep _ _ _ st5 fun b hb o e => (I7.pin (b, o) (List.mem_append_right _ (List.mem_append_right _ (mem_pinsAt hb e)))).1, fun b hb => ?_, w7⟩
      obtain ⟨o, e, d⟩ := T.obj _ _ st5 b hb
      exact (I7.pin (b, o) (List.mem_append_right _ (List.mem_append_right _ (mem_pinsAt hb e)))).2.1
    cases f with
    | next => obtain ⟨σ7, H7, I7, n7⟩ := q7; exact again I7 n7
    | cont => obtain ⟨σ7, H7, I7, n7⟩ := q7; exact again I7 n7
    | brk => obtain ⟨σ7, H7, I7, q7⟩ := q7; exact ⟨σ7, H7, I7.unpinned, q7⟩
    | ret v => obtain ⟨x7, σ7, H7, I7, r7, q7⟩ := q7; exact ⟨x7, σ7, H7, I7.unpinned, r7, q7⟩
end

/-! ### the forms one uses -/
/-- over a list that the body leaves as it is -/
theorem for_list {K : PySem.W.Frag} {a : Addr} {xs : List V} {g : TG} {tb : TS} {D : Ends} {σ : St} {H : Hp} (Pv : Nat → St → Hp → Prop) (h0 : Pv 0 σ H) (hl : ∀ i σ H, i ≤ xs.length → Pv i σ H → SqL K H a xs)
    (hs : ∀ i x σ H, xs[i]? = some x → Pv i σ H → g x σ H fun σ2 H2 => tb { D with nx := Pv (i + 1), ct := Pv (i + 1), bk := D.nx } σ2 H2) (hd : ∀ σ H, Pv xs.length σ H → D.nx σ H) :
    ∃ W : Nat → Nat → St → Hp → Prop, (∃ m, W 0 m σ H) ∧ ∀ i m σ H, W i m σ H →
      ((Itl K a).stop i H ∧ D.nx σ H) ∨ ((Itl K a).go i H ∧ ∃ N : St → Hp → Prop, (∀ σ' H', N σ' H' → ∃ m', m' < m ∧ W (i + 1) m' σ' H') ∧ ∀ x H', (Itl K a).yld i H x H' → g x σ H' fun σ2 H2 => tb { D with nx := N, ct := N, bk := D.nx } σ2 H2) := by
  refine ⟨fun i m σ H => m = xs.length - i ∧ i ≤ xs.length ∧ Pv i σ H, ⟨xs.length, by simp, Nat.zero_le _, h0⟩, ?_⟩
  rintro i m σ H ⟨rfl, hi, p⟩
  have q := hl i σ H hi p
  by_cases hlt : i < xs.length
  · refine .inr ⟨⟨xs, xs[i], q, by simp [hlt]⟩, Pv (i + 1), fun σ' H' p' => ⟨xs.length - (i + 1), by omega, rfl, hlt, p'⟩, fun x H' y => ?_⟩
    obtain ⟨e, y⟩ := y
    subst e
    exact hs i x σ _ (y xs q) p
  · have e : i = xs.length := by omega
    subst e
    exact .inl ⟨⟨xs, q, Nat.le_refl _⟩, hd σ H p⟩
theorem for_range {lo : Int} {n : Nat} {g : TG} {tb : TS} {D : Ends} {σ : St} {H : Hp} (Pv : Nat → St → Hp → Prop) (h0 : Pv 0 σ H)
    (hs : ∀ i σ H, i < n → Pv i σ H → g (.int (lo + i)) σ H fun σ2 H2 => tb { D with nx := Pv (i + 1), ct := Pv (i + 1), bk := D.nx } σ2 H2) (hd : ∀ σ H, Pv n σ H → D.nx σ H) :
    ∃ W : Nat → Nat → St → Hp → Prop, (∃ m, W 0 m σ H) ∧ ∀ i m σ H, W i m σ H →
      ((Itr lo n).stop i H ∧ D.nx σ H) ∨ ((Itr lo n).go i H ∧ ∃ N : St → Hp → Prop, (∀ σ' H', N σ' H' → ∃ m', m' < m ∧ W (i + 1) m' σ' H') ∧ ∀ x H', (Itr lo n).yld i H x H' → g x σ H' fun σ2 H2 => tb { D with nx := N, ct := N, bk := D.nx } σ2 H2) := by
  refine ⟨fun i m σ H => m = n - i ∧ i ≤ n ∧ Pv i σ H, ⟨n, by simp, Nat.zero_le _, h0⟩, ?_⟩
  rintro i m σ H ⟨rfl, hi, p⟩
  by_cases hlt : i < n
  · refine .inr ⟨hlt, Pv (i + 1), fun σ' H' p' => ⟨n - (i + 1), by omega, rfl, hlt, p'⟩, fun x H' y => ?_⟩
    obtain ⟨e, y⟩ := y
    subst e y
    exact hs i σ _ hlt p
  · have e : i = n := by omega
    subst e
    exact .inl ⟨Nat.le_refl _, hd σ H p⟩
end L2

namespace L2
open PySem PySem.Spec PyProof.Rows

abbrev R2 := V → V → Hp → VK → Prop
/-- a two-place operation on values: f is binaryOp op, inplaceOp op or compareOp op -/
def OpR (X : Cx) (f : Value → Value → Sem Value) (r : R2) : Prop :=
  ∀ (pins : List (Addr × Obj)) (s : Shared) (σ : St) (H : Hp) (x y : V) (v u : Value) (Q : VK), Inv X pins σ H s → RelV x v → RelV y u → r x y H Q →
    wpAny (model X.prog X.w) X.A (f v u) (EP X pins σ Q) X.xe s
/-- a one-place operation -/
def UnR (X : Cx) (f : Value → Sem Value) (r : V → Hp → VK → Prop) : Prop :=
  ∀ (pins : List (Addr × Obj)) (s : Shared) (σ : St) (H : Hp) (x : V) (v : Value) (Q : VK), Inv X pins σ H s → RelV x v → r x H Q →
    wpAny (model X.prog X.w) X.A (f v) (EP X pins σ Q) X.xe s
/-- a call of a value that is known (a builtin, a type) with values -/
def CallR (X : Cx) (f : Value) (r : List V → Hp → VK → Prop) : Prop :=
  ∀ (pins : List (Addr × Obj)) (s : Shared) (σ : St) (H : Hp) (xs : List V) (us : List Value) (Q : VK), Inv X pins σ H s → Vals xs us → r xs H Q →
    wpAny (model X.prog X.w) X.A (call f us) (EP X pins σ Q) X.xe s
/-- a value's truth -/
def TruR (X : Cx) (r : V → Hp → (Bool → Hp → Prop) → Prop) : Prop :=
  ∀ (pins : List (Addr × Obj)) (s : Shared) (σ : St) (H : Hp) (x : V) (v : Value) (Q : Bool → Hp → Prop), Inv X pins σ H s → RelV x v → r x H Q →
    wpAny (model X.prog X.w) X.A (truthy v) (TP X pins σ Q) X.xe s

def tOp (r : R2) (ta tb : TE) : TE := fun σ H Q => ta σ H fun x H1 => tb σ H1 fun y H2 => r x y H2 Q
def tUn (r : V → Hp → VK → Prop) (ta : TE) : TE := fun σ H Q => ta σ H fun x H1 => r x H1 Q
/-- ints in, under C, and a value out -/
def rI (C : Int → Int → Prop) (g : Int → Int → V) : R2 := fun x y H Q => ∃ i j, x = .int i ∧ y = .int j ∧ C i j ∧ Q (g i j) H
def rI0 (g : Int → Int → V) : R2 := fun x y H Q => ∃ i j, x = .int i ∧ y = .int j ∧ Q (g i j) H
def rU (g : Int → V) : V → Hp → VK → Prop := fun x H Q => ∃ i, x = .int i ∧ Q (g i) H

section
variable {X : Cx} {a b c : Expr} {ta tb tc : TE} {pos : Pos}

theorem binT (ha : PE X a ta) (hb : PE X b tb) {pins : List (Addr × Obj)} {s : Shared} {σ : St} {H : Hp} {R : V → V → Hp → Prop} (I : Inv X pins σ H s)
    (h : ta σ H fun x H1 => tb σ H1 fun y H2 => R x y H2) {Q : Value → Shared → Prop} {f : Value → Value → Sem Value}
    (hf : ∀ v u s2 x y H2, Inv X pins σ H2 s2 → RelV x v → RelV y u → R x y H2 → wpAny (model X.prog X.w) X.A (f v u) Q X.xe s2) :
    wpAny (model X.prog X.w) X.A (eval a X.env) (fun v s₁ => wpAny (model X.prog X.w) X.A (eval b X.env) (fun u s₂ => wpAny (model X.prog X.w) X.A (f v u) Q X.xe s₂) X.xe s₁) X.xe s := by
  refine thn (ha pins s σ H _ I h) fun v s1 ⟨x, H1, I1, r1, q1⟩ => ?_
  refine thn (hb pins s1 σ H1 _ I1 q1) fun u s2 ⟨y, H2, I2, r2, q2⟩ => ?_
  exact hf v u s2 x y H2 I2 r1 r2 q2

theorem pe_op {op : Operator} {r : R2} (ho : OpR X (binaryOp op) r) (ha : PE X a ta) (hb : PE X b tb) : PE X (.BinOp a op b pos) (tOp r ta tb) := by
  intro pins s σ H Q I h
  exact wpAny_BinOp (binT ha hb I h fun v u s2 x y H2 I2 rx ry q => ho pins s2 σ H2 x y v u Q I2 rx ry q)
theorem pe_un {op : UnaryOp} {r : V → Hp → VK → Prop} (ho : UnR X (unaryOp op) r) (ha : PE X a ta) : PE X (.UnaryOp op a pos) (tUn r ta) := by
  intro pins s σ H Q I h
  exact UnaryOp_ (thn (ha pins s σ H _ I h) fun v s1 ⟨x, H1, I1, r1, q1⟩ => ho pins s1 σ H1 x v Q I1 r1 q1)

/-! ### ints -/
theorem opI {f : Value → Value → Sem Value} {C : Int → Int → Prop} {g : Int → Int → Int}
    (rule : ∀ (i j : Int) (t u : Tok) (s : Shared) (Q : Value → Shared → Prop) (E : Value → Shared → Prop), C i j → Q (.int (g i j) s.toks) { s with toks := s.toks + 1 } → wpAny (model X.prog X.w) X.A (f (.int i t) (.int j u)) Q E s) :
    OpR X f (rI C fun i j => .int (g i j)) := by
  intro pins s σ H x y v u Q I rx ry h
  obtain ⟨i, j, rfl, rfl, hc, q⟩ := h
  obtain ⟨t, rfl⟩ := rx
  obtain ⟨t', rfl⟩ := ry
  exact rule i j t t' s _ _ hc ⟨.int (g i j), H, I.tok _, ⟨_, rfl⟩, q⟩
theorem opI0 {f : Value → Value → Sem Value} {g : Int → Int → Int}
    (rule : ∀ (i j : Int) (t u : Tok) (s : Shared) (Q : Value → Shared → Prop) (E : Value → Shared → Prop), Q (.int (g i j) s.toks) { s with toks := s.toks + 1 } → wpAny (model X.prog X.w) X.A (f (.int i t) (.int j u)) Q E s) :
    OpR X f (rI0 fun i j => .int (g i j)) := by
  intro pins s σ H x y v u Q I rx ry h
  obtain ⟨i, j, rfl, rfl, q⟩ := h
  obtain ⟨t, rfl⟩ := rx
  obtain ⟨t', rfl⟩ := ry
  exact rule i j t t' s _ _ ⟨.int (g i j), H, I.tok _, ⟨_, rfl⟩, q⟩
theorem opB0 {f : Value → Value → Sem Value} {g : Int → Int → Bool}
    (rule : ∀ (i j : Int) (t u : Tok) (s : Shared) (Q : Value → Shared → Prop) (E : Value → Shared → Prop), Q (.bool (g i j)) s → wpAny (model X.prog X.w) X.A (f (.int i t) (.int j u)) Q E s) :
    OpR X f (rI0 fun i j => .bl (g i j)) := by
  intro pins s σ H x y v u Q I rx ry h
  obtain ⟨i, j, rfl, rfl, q⟩ := h
  obtain ⟨t, rfl⟩ := rx
  obtain ⟨t', rfl⟩ := ry
  exact rule i j t t' s _ _ ⟨.bl (g i j), H, I, rfl, q⟩

def CPow (i j : Int) : Prop := 0 ≤ j ∧ j ≤ 1000000 ∧ i.natAbs < 2 ^ 64
def CMul (i j : Int) : Prop := (-(2 ^ 64) < i ∧ i < 2 ^ 64) ∨ (-(2 ^ 64) < j ∧ j < 2 ^ 64)
theorem CMul.ok {i j : Int} (h : CMul i j) : IntMulOk i j := by
  rcases h with ⟨h1, h2⟩ | ⟨h1, h2⟩
  · exact .of_left (intBits_le_64 h1 h2)
  · exact .of_right (intBits_le_64 h1 h2)

theorem op_add : OpR X (binaryOp .Add) (rI0 fun i j => .int (i + j)) := opI0 fun _ _ _ _ _ _ _ q => add_int q
theorem op_sub : OpR X (binaryOp .Sub) (rI0 fun i j => .int (i - j)) := opI0 fun _ _ _ _ _ _ _ q => sub_int q
theorem op_mul : OpR X (binaryOp .Mult) (rI CMul fun i j => .int (i * j)) := opI fun _ _ _ _ _ _ _ hc q => mul_int q hc.ok
/-- % by a positive divisor of any size -/
theorem op_mod : OpR X (binaryOp .Mod) (rI (fun _ j => 0 < j) fun i j => .int (i % j)) := opI fun i j _ _ _ _ _ hc q => by
  have h1 : (0 : Int) < j := hc
  exact mod_int' (by omega) (by rw [Int.fmod_eq_emod_of_nonneg i (by omega)]; exact q)
theorem op_pow : OpR X (binaryOp .Pow) (rI CPow fun i j => .int (i ^ j.toNat)) := opI fun _ _ _ _ _ _ _ hc q => pow_int_small hc.1 hc.2.1 hc.2.2 q


theorem unI {f : Value → Sem Value} {g : Int → Int}
    (rule : ∀ (i : Int) (t : Tok) (s : Shared) (Q : Value → Shared → Prop) (E : Value → Shared → Prop), Q (.int (g i) s.toks) { s with toks := s.toks + 1 } → wpAny (model X.prog X.w) X.A (f (.int i t)) Q E s) :
    UnR X f (rU fun i => .int (g i)) := by
  intro pins s σ H x v Q I rx h
  obtain ⟨i, rfl, q⟩ := h
  obtain ⟨t, rfl⟩ := rx
  exact rule i t s _ _ ⟨.int (g i), H, I.tok _, ⟨_, rfl⟩, q⟩
theorem un_neg : UnR X (unaryOp .USub) (rU fun i => .int (-i)) := unI fun _ _ _ _ _ q => neg_int q

/-! ### bools among ints: n += (a < b) -/
end

/-! ### comparisons -/
/-- the scalars that == tells apart as data does -/
def scal : V → V → Bool
  | .non, .non => true | .non, .int _ => true | .int _, .non => true | .non, .bl _ => true | .bl _, .non => true | .non, .str _ => true | .str _, .non => true
  | .int _, .int _ => true | .bl _, .bl _ => true | .str _, .str _ => true | .byt _, .byt _ => true
  | .int _, .str _ => true | .str _, .int _ => true | .bl _, .str _ => true | .str _, .bl _ => true
  | _, _ => false
def rEq : R2 := fun x y H Q => scal x y = true ∧ Q (.bl (decide (x = y))) H
def rNe : R2 := fun x y H Q => scal x y = true ∧ Q (.bl (!decide (x = y))) H

theorem dec_int {i j : Int} : decide (V.int i = V.int j) = (i == j) := by
  rw [Bool.eq_iff_iff]
  simp
theorem dec_bl {i j : Bool} : decide (V.bl i = V.bl j) = (i == j) := by
  rw [Bool.eq_iff_iff]
  simp
theorem dec_str {i j : Str} : decide (V.str i = V.str j) = (i == j) := by
  rw [Bool.eq_iff_iff]
  simp
theorem dec_byt {i j : Array UInt8} : decide (V.byt i = V.byt j) = (i.toList == j.toList) := by
  rw [Bool.eq_iff_iff]
  cases i
  cases j
  simp

section
variable {X : Cx} {a b c : Expr} {ta tb tc : TE} {pos : Pos}
theorem fin_bl {pins : List (Addr × Obj)} {σ : St} {H : Hp} {s : Shared} {Q : VK} {k k' : Bool} (I : Inv X pins σ H s) (q : Q (.bl k) H) (e : k = k') : EP X pins σ Q (.bool k') s := by
  subst e
  exact ⟨.bl k, H, I, rfl, q⟩
theorem op_eq : OpR X (compareOp .Eq) rEq := by
  intro pins s σ H x y v u Q I rx ry h
  obtain ⟨hs, q⟩ := h
  cases x with
  | non =>
    cases rx
    cases y with
    | non => cases ry; exact PySem.EqNone.eq_none_none (fin_bl I q (by simp))
    | bl j => cases ry; exact PySem.EqNone.eq_none_bool (fin_bl I q (by simp))
    | int j => obtain ⟨t', rfl⟩ := ry; exact PySem.EqNone.eq_none_int (fin_bl I q (by simp))
    | str j => obtain ⟨t', rfl⟩ := ry; exact PySem.EqNone.eq_none_str (fin_bl I q (by simp))
    | _ => exact absurd (show false = true from hs) Bool.false_ne_true
  | bl i =>
    cases rx
    cases y with
    | non => cases ry; exact PySem.EqNone.eq_bool_none (fin_bl I q (by simp))
    | bl j => cases ry; exact eq_bool (fin_bl I q dec_bl)
    | str j => obtain ⟨t', rfl⟩ := ry; exact PySem.EqMixed.eq_bool_str (fin_bl I q (by simp))
    | _ => exact absurd (show false = true from hs) Bool.false_ne_true
  | int i =>
    obtain ⟨t, rfl⟩ := rx
    cases y with
    | non => cases ry; exact PySem.EqNone.eq_int_none (fin_bl I q (by simp))
    | int j => obtain ⟨t', rfl⟩ := ry; exact eq_int (fin_bl I q dec_int)
    | str j => obtain ⟨t', rfl⟩ := ry; exact PySem.EqMixed.eq_int_str (fin_bl I q (by simp))
    | _ => exact absurd (show false = true from hs) Bool.false_ne_true
  | str i =>
    obtain ⟨t, rfl⟩ := rx
    cases y with
    | non => cases ry; exact PySem.EqNone.eq_str_none (fin_bl I q (by simp))
    | bl j => cases ry; exact PySem.EqMixed.eq_str_bool (fin_bl I q (by simp))
    | int j => obtain ⟨t', rfl⟩ := ry; exact PySem.EqMixed.eq_str_int (fin_bl I q (by simp))
    | str j => obtain ⟨t', rfl⟩ := ry; exact eq_str (fin_bl I q dec_str)
    | _ => exact absurd (show false = true from hs) Bool.false_ne_true
  | byt i =>
    obtain ⟨t, rfl⟩ := rx
    cases y with
    | byt j => obtain ⟨t', rfl⟩ := ry; exact PySem.W.eq_bytes (fin_bl I q dec_byt)
    | _ => exact absurd (show false = true from hs) Bool.false_ne_true
  | _ => cases y <;> exact absurd (show false = true from hs) Bool.false_ne_true
theorem op_ne : OpR X (compareOp .NotEq) rNe := by
  intro pins s σ H x y v u Q I rx ry h
  obtain ⟨hs, q⟩ := h
  cases x with
  | non =>
    cases rx
    cases y with
    | non => cases ry; exact PySem.EqNone.ne_none_none (fin_bl I q (by simp))
    | bl j => cases ry; exact PySem.EqNone.ne_none_bool (fin_bl I q (by simp))
    | int j => obtain ⟨t', rfl⟩ := ry; exact PySem.EqNone.ne_none_int (fin_bl I q (by simp))
    | str j => obtain ⟨t', rfl⟩ := ry; exact PySem.EqNone.ne_none_str (fin_bl I q (by simp))
    | _ => exact absurd (show false = true from hs) Bool.false_ne_true
  | bl i =>
    cases rx
    cases y with
    | non => cases ry; exact PySem.EqNone.ne_bool_none (fin_bl I q (by simp))
    | bl j => cases ry; exact ne_bool (fin_bl I q (congrArg not dec_bl))
    | str j => obtain ⟨t', rfl⟩ := ry; exact PySem.EqMixed.ne_bool_str (fin_bl I q (by simp))
    | _ => exact absurd (show false = true from hs) Bool.false_ne_true
  | int i =>
    obtain ⟨t, rfl⟩ := rx
    cases y with
    | non => cases ry; exact PySem.EqNone.ne_int_none (fin_bl I q (by simp))
    | int j => obtain ⟨t', rfl⟩ := ry; exact ne_int (fin_bl I q (congrArg not dec_int))
    | str j => obtain ⟨t', rfl⟩ := ry; exact PySem.EqMixed.ne_int_str (fin_bl I q (by simp))
    | _ => exact absurd (show false = true from hs) Bool.false_ne_true
  | str i =>
    obtain ⟨t, rfl⟩ := rx
    cases y with
    | non => cases ry; exact PySem.EqNone.ne_str_none (fin_bl I q (by simp))
    | bl j => cases ry; exact PySem.EqMixed.ne_str_bool (fin_bl I q (by simp))
    | int j => obtain ⟨t', rfl⟩ := ry; exact PySem.EqMixed.ne_str_int (fin_bl I q (by simp))
    | str j => obtain ⟨t', rfl⟩ := ry; exact ne_str (fin_bl I q (congrArg not dec_str))
    | _ => exact absurd (show false = true from hs) Bool.false_ne_true
  | byt i =>
    obtain ⟨t, rfl⟩ := rx
    cases y with
    | byt j => obtain ⟨t', rfl⟩ := ry; exact PySem.W.ne_bytes (fin_bl I q (congrArg not dec_byt))
    | _ => exact absurd (show false = true from hs) Bool.false_ne_true
  | _ => cases y <;> exact absurd (show false = true from hs) Bool.false_ne_true

theorem op_lt : OpR X (compareOp .Lt) (rI0 fun i j => .bl (decide (i < j))) := opB0 fun _ _ _ _ _ _ _ q => lt_int q
theorem op_le : OpR X (compareOp .LtE) (rI0 fun i j => .bl (decide (i ≤ j))) := opB0 fun _ _ _ _ _ _ _ q => le_int q
theorem op_gt : OpR X (compareOp .Gt) (rI0 fun i j => .bl (decide (j < i))) := opB0 fun _ _ _ _ _ _ _ q => gt_int q
theorem op_ge : OpR X (compareOp .GtE) (rI0 fun i j => .bl (decide (j ≤ i))) := opB0 fun _ _ _ _ _ _ _ q => ge_int q

/-- is None, is not None: the right side a value none -/
theorem op_isN : OpR X (compareOp .Is) (fun x y H Q => y = .non ∧ Q (.bl (decide (x = .non))) H) := by
  intro pins s σ H x y v u Q I rx ry h
  obtain ⟨rfl, q⟩ := h
  cases ry
  refine is_none_gen (fin_bl I q ?_)
  cases x <;> first
    | (cases rx; rfl)
    | (obtain ⟨t, rfl⟩ := rx; rfl)


/-- two rules for one operation: by cases -/
theorem OpR.or {f : Value → Value → Sem Value} {r r' : R2} (h : OpR X f r) (h' : OpR X f r') : OpR X f (fun x y H Q => r x y H Q ∨ r' x y H Q) := by
  intro pins s σ H x y v u Q I rx ry q
  rcases q with q | q
  · exact h pins s σ H x y v u Q I rx ry q
  · exact h' pins s σ H x y v u Q I rx ry q

theorem nomark (b : Expr) {op : CmpOp} (h : op ≠ .In := by decide) (h2 : op ≠ .NotIn := by decide) : behindInMarks op b = false := by
  have e1 : (op == CmpOp.In) = false := by cases op <;> first | rfl | exact absurd rfl h
  have e2 : (op == CmpOp.NotIn) = false := by cases op <;> first | rfl | exact absurd rfl h2
  cases b <;> simp [behindInMarks, e1, e2]
/-- a comparison as a value; hm: nomark b, or (for in, not in) by with_unfolding_all rfl -/
theorem pe_cmpR {op : CmpOp} {r : R2} (ho : OpR X (compareOp op) r) (ha : PE X a ta) (hb : PE X b tb) (hm : behindInMarks op b = false) : PE X (.Compare a [op] [b] pos) (tOp r ta tb) := by
  intro pins s σ H Q I h
  exact wpAny_Compare1 (binT ha hb I h fun v u s2 x y H2 I2 rx ry q => ho pins s2 σ H2 x y v u Q I2 rx ry q) hm
/-- a reading of a value as a test -/
def tTest (t : TE) : TT := fun σ H Q => t σ H fun x H' => ∃ k, x = .bl k ∧ Q k H'
theorem pt_cmpR {op : CmpOp} {r : R2} (ho : OpR X (compareOp op) r) (ha : PE X a ta) (hb : PE X b tb) (hm : behindInMarks op b = false) : PT X (.Compare a [op] [b] pos) (tTest (tOp r ta tb)) := by
  intro pins s σ H Q I h
  refine wpAny_isTrue_Compare1 (thn (ha pins s σ H _ I h) fun v s1 ⟨x, H1, I1, r1, q1⟩ => thn (hb pins s1 σ H1 _ I1 q1) fun u s2 ⟨y, H2, I2, r2, q2⟩ =>
    thn (ho pins s2 σ H2 x y v u _ I2 r1 r2 q2) fun c s3 ⟨z, H3, I3, r3, k, e, q3⟩ => ?_) hm
  subst e
  cases r3
  exact wpAny_truthy_bool ⟨H3, I3, q3⟩
/-- a op1 b op2 c -/
def tChain (r r' : R2) (ta tb tc : TE) : TE := fun σ H Q => ta σ H fun x H1 => tb σ H1 fun y H2 => r x y H2 fun z H3 => ∃ k, z = .bl k ∧
  (if k = true then tc σ H3 fun w' H4 => r' y w' H4 Q else Q (.bl false) H3)
theorem pe_chain {op op' : CmpOp} {r r' : R2} (ho : OpR X (compareOp op) r) (ho' : OpR X (compareOp op') r') (ha : PE X a ta) (hb : PE X b tb) (hc : PE X c tc)
    (hm : lastMarks [op, op'] [b, c] = false := by with_unfolding_all rfl) : PE X (.Compare a [op, op'] [b, c] pos) (tChain r r' ta tb tc) := by
  intro pins s σ H Q I h
  refine Compare_chain (thn (ha pins s σ H _ I h) fun v s1 ⟨x, H1, I1, r1, q1⟩ => chain_link (thn (hb pins s1 σ H1 _ I1 q1) fun u s2 ⟨y, H2, I2, r2, q2⟩ =>
    thn (ho pins s2 σ H2 x y v u _ I2 r1 r2 q2) fun d s3 ⟨z, H3, I3, r3, k, e, q3⟩ => ?_)) hm
  subst e
  cases r3
  refine wpAny_truthy_bool ?_
  cases k with
  | false => exact ite_ff ⟨.bl false, H3, I3, rfl, q3⟩
  | true => exact ite_tt (chain_last (thn (hc pins s3 σ H3 _ I3 q3) fun w' s4 ⟨z', H4, I4, r4, q4⟩ => ho' pins s4 σ H4 y z' u w' Q I4 r2 r4 q4))
theorem pt_chain {op op' : CmpOp} {r r' : R2} (ho : OpR X (compareOp op) r) (ho' : OpR X (compareOp op') r') (ha : PE X a ta) (hb : PE X b tb) (hc : PE X c tc)
    (hm : lastMarks [op, op'] [b, c] = false := by with_unfolding_all rfl) : PT X (.Compare a [op, op'] [b, c] pos) (tTest (tChain r r' ta tb tc)) := by
  intro pins s σ H Q I h
  refine isTrue_chain (thn (ha pins s σ H _ I h) fun v s1 ⟨x, H1, I1, r1, q1⟩ => test_link (thn (hb pins s1 σ H1 _ I1 q1) fun u s2 ⟨y, H2, I2, r2, q2⟩ =>
    thn (ho pins s2 σ H2 x y v u _ I2 r1 r2 q2) fun d s3 ⟨z, H3, I3, r3, k, e, q3⟩ => ?_)) hm
  subst e
  cases r3
  refine wpAny_truthy_bool ?_
  cases k with
  | false =>
    obtain ⟨k', e', q'⟩ := q3
    cases e'
    exact ite_ff ⟨H3, I3, q'⟩
  | true =>
    refine ite_tt (test_last (thn (hc pins s3 σ H3 _ I3 q3) fun w' s4 ⟨z', H4, I4, r4, q4⟩ => thn (ho' pins s4 σ H4 y z' u w' _ I4 r2 r4 q4) fun d' s5 ⟨z2, H5, I5, r5, k2, e2, q5⟩ => ?_))
    subst e2
    cases r5
    exact wpAny_truthy_bool ⟨H5, I5, q5⟩

/-! ### truth -/
/-- a value's truth by the abstract heap -/
def TruV (K : PySem.W.Frag) (x : V) (H : Hp) (k : Bool) : Prop :=
  match x with
  | .non => k = false
  | .bl b => k = b
  | .int i => k = (i != 0)
  | .str y => y.length ≤ sizeLine ∧ k = ((y.length : Int) != 0)
  | .byt y => y.size ≤ sizeLine ∧ k = ((y.size : Int) != 0)
  | .ref p => (∃ xs, SqL K H p xs ∧ k = !xs.isEmpty) ∨ (∃ xs, SqT K H p xs ∧ k = !xs.isEmpty) ∨ ∃ kvs, H p = some (.dK kvs) ∧ k = !kvs.isEmpty
  | _ => False
theorem isEmpty_kv {κ : Type} {kvs : List (κ × V)} {vs : List (κ × Value)} (r : KV kvs vs) : (!vs.isEmpty) = !kvs.isEmpty := by
  cases r <;> rfl
theorem isEmpty_of {xs : List V} {its : List Value} (r : Vals xs its) : (!its.toArray.isEmpty) = !xs.isEmpty := by
  cases r <;> simp
theorem line63 : (sizeLine : Nat) < 2 ^ 63 := by rw [sizeLine_eq]; decide
theorem tru_ok : TruR X (fun x H Q => ∃ k, TruV X.K x H k ∧ Q k H) := by
  intro pins s σ H x v Q I rx h
  obtain ⟨k, e, q⟩ := h
  have hl := line63
  have hs : sizeLine = 16777216 := sizeLine_eq
  cases x with
  | non =>
    cases rx
    have e' : k = false := e
    subst e'
    exact truthy_none ⟨H, I, q⟩
  | bl b =>
    cases rx
    have e' : k = b := e
    subst e'
    exact wpAny_truthy_bool ⟨H, I, q⟩
  | int i =>
    obtain ⟨t, rfl⟩ := rx
    have e' : k = (i != 0) := e
    subst e'
    exact PySem.P.truthy_int ⟨H, I, q⟩
  | str y =>
    obtain ⟨t, rfl⟩ := rx
    obtain ⟨hy, e'⟩ : y.length ≤ sizeLine ∧ k = ((y.length : Int) != 0) := e
    subst e'
    exact PySem.P.truthy_str (by omega) ⟨H, I.tok _, q⟩
  | byt y =>
    obtain ⟨t, rfl⟩ := rx
    obtain ⟨hy, e'⟩ : y.size ≤ sizeLine ∧ k = ((y.size : Int) != 0) := e
    subst e'
    exact PySem.W.truthy_bytes (by omega) ⟨H, I.tok _, q⟩
  | ref p =>
    cases rx
    have e' : (∃ xs, SqL X.K H p xs ∧ k = !xs.isEmpty) ∨ (∃ xs, SqT X.K H p xs ∧ k = !xs.isEmpty) ∨ ∃ kvs, H p = some (.dK kvs) ∧ k = !kvs.isEmpty := e
    rcases e' with ⟨xs, hx, e'⟩ | ⟨xs, hx, e'⟩ | ⟨kvs, hx, e'⟩
    · subst e'
      obtain ⟨its, r, pl, hz⟩ := I.list hx
      have hlen := r.length
      exact wpAny_truthy_list pl.isList (by simp only [List.size_toArray]; omega) ⟨H, I.tok _, by rw [isEmpty_of r]; exact q⟩
    · subst e'
      obtain ⟨its, r, pl, hz⟩ := I.tuple hx
      have hlen := r.length
      exact truthy_tuple pl (by simp only [List.size_toArray]; omega) ⟨H, I.tok _, by rw [isEmpty_of r]; exact q⟩
    · subst e'
      obtain ⟨hz, hS, vs, r, m⟩ : kvs.length ≤ sizeLine ∧ (p == sysModules) = false ∧ ∃ vs, KV kvs vs ∧ s.heap.DictOf (mixKind X.prog X.w) p vs := I.hok p _ hx
      have hlen : kvs.length = vs.length := Paired.length r
      exact wpAny_truthy_dict hS m (by omega) ⟨H, I.tok _, by rw [isEmpty_kv r]; exact q⟩
  | _ => exact (show False from e).elim
/-- any expression whose test is its value's truth (a name, a call, a subscript, a field ..: he by fun _ => rfl) -/
theorem pt_truth (ha : PE X a ta) (he : ∀ whole, isTrue a X.env whole = (do let v ← whole; standAt a.pos; holding [v] (truthy v))) :
    PT X a (fun σ H Q => ta σ H fun x H' => ∃ k, TruV X.K x H' k ∧ Q k H') := by
  intro pins s σ H Q I h
  exact isTrue_plain (thn (ha pins s σ H _ I h) fun v s1 ⟨x, H1, I1, r1, q1⟩ => tru_ok pins s1 σ H1 x v Q I1 r1 q1) (he _)

/-! ### strs and bytes -/


/-! ### scalar builtins, by CallR -/
theorem vals1 {x : V} {us : List Value} (r : Vals [x] us) : ∃ u, us = [u] ∧ RelV x u := by
  cases r with
  | cons r1 r2 => cases r2; exact ⟨_, rfl, r1⟩
theorem vals2 {x y : V} {us : List Value} (r : Vals [x, y] us) : ∃ u w', us = [u, w'] ∧ RelV x u ∧ RelV y w' := by
  cases r with
  | cons r1 r2 =>
    cases r2 with
    | cons r3 r4 => cases r4; exact ⟨_, _, rfl, r1, r3⟩
theorem call_max2 (hc : X.calm = true) : CallR X (.builtin "max") (fun xs H Q => ∃ i j, xs = [.int i, .int j] ∧ Q (.int (if j > i then j else i)) H) := by
  intro pins s σ H xs us Q I r h
  obtain ⟨i, j, rfl, q⟩ := h
  obtain ⟨u, w', rfl, ⟨t, rfl⟩, ⟨t', rfl⟩⟩ := vals2 r
  refine max_two_ints (I.ok.hd hc) fun h' tk k => ⟨_, H, I.kept k, ?_, q⟩
  by_cases hj : j > i
  · rw [if_pos hj, if_pos hj]; exact ⟨_, rfl⟩
  · rw [if_neg hj, if_neg hj]; exact ⟨_, rfl⟩
theorem call_min2 (hc : X.calm = true) : CallR X (.builtin "min") (fun xs H Q => ∃ i j, xs = [.int i, .int j] ∧ Q (.int (if j < i then j else i)) H) := by
  intro pins s σ H xs us Q I r h
  obtain ⟨i, j, rfl, q⟩ := h
  obtain ⟨u, w', rfl, ⟨t, rfl⟩, ⟨t', rfl⟩⟩ := vals2 r
  refine min_two_ints (I.ok.hd hc) fun h' tk k => ⟨_, H, I.kept k, ?_, q⟩
  by_cases hj : j < i
  · rw [if_pos hj, if_pos hj]; exact ⟨_, rfl⟩
  · rw [if_neg hj, if_neg hj]; exact ⟨_, rfl⟩
end
end L2

namespace L2
open PySem PySem.Spec PyProof.Rows

/-! ### an instance, its attributes a map -/
structure ObjM (h : Heap) (x dx C : Addr) (mA : Str → Option Value) : Prop where
  obj : h.get? x = some (PySem.W.instObj C dx)
  ns : h.Ns1 dx mA
  ne : dx ≠ x

theorem lookIn_ns {h : Heap} {dx : Addr} {mA : Str → Option Value} (n : h.Ns1 dx mA) : ∃ od, h.get? dx = some od ∧ ∀ name, PySem.W.lookIn name od = some (mA name) := by
  obtain ⟨o, es, ep, ho, hd, hk, _, hm⟩ := n
  refine ⟨o, ho, fun name => ?_⟩
  have e := hm name
  unfold nsFind findBy at e
  rw [← Array.find?_toList] at e
  unfold PySem.W.lookIn
  rw [hd]
  dsimp only
  split
  · rename_i y q
    rw [q] at e
    exact congrArg some e
  · rename_i q
    rw [q] at e
    have a : es.toList.any (·.refKey) = false := by
      rw [List.any_eq_false]
      intro y hy
      obtain ⟨z, t, hkey⟩ := hk y (Array.mem_toList_iff.mp hy)
      simp [DictEntry.refKey, hkey]
    have a' : ¬ es.toList.any (·.refKey) = true := by rw [a]; exact Bool.false_ne_true
    rw [if_neg a']
    exact congrArg some e

theorem ObjM.look {h : Heap} {x dx C : Addr} {mA : Str → Option Value} (I : ObjM h x dx C mA) : ∃ od, PySem.W.InstAt h x (PySem.W.instObj C dx) C (some od) ∧ ∀ name, PySem.W.lookIn name od = some (mA name) :=
  let ⟨od, ho, hl⟩ := lookIn_ns I.ns
  ⟨od, ⟨I.obj, rfl, rfl, ho⟩, hl⟩

section
variable {prog : Program} {w : World} {A : Around} {E : Value → Shared → Prop} {s : Shared} {K : PySem.W.Frag} {x dx C f : Addr} {mA : Str → Option Value} {name : Str} {v : Value}





end

/-! ### the attributes as a list of pairs -/

theorem RelO.some_of {v : V} {o : Option Value} (r : RelO (some v) o) : ∃ u, o = some u ∧ RelV v u := by
  cases o with
  | none => exact (show False from r).elim
  | some u => exact ⟨u, rfl, r⟩

section
variable {P : Program} {w : World} {H H' : Hp} {h h' : Heap} {a C dx : Addr} {fs fs' : List (Str × V)}
theorem ins_get (hok : HOk P w H h) (e : H a = some (.ins C dx fs)) : ∃ mA, ObjM h a dx C mA ∧ (∀ f, RelO (fs.lookup f) (mA f)) ∧ PySem.Within mA (fs.map (·.1)) ∧ fs.length ≤ 1000 ∧ H dx = some (.own a) := by
  obtain ⟨d, z, ne, ob, mA, n, r, q⟩ := (show ObjOk P w H h a (.ins C dx fs) from hok a _ e)
  exact ⟨mA, ⟨ob, n, ne⟩, r, q, z, d⟩
end

/-! ### what of the text a class must have -/
structure Cls (K : PySem.W.Frag) (C : Addr) : Prop where
  pg : PySem.W.plainGet K C Str.empty = true
  hd : PySem.W.hasDictIn K C = true
  po : PySem.W.plainOver K C = true
  sa : PySem.W.findIn K (.ref C) "__setattr__" = some (some (.builtin "object.__setattr__"))
theorem Cls.get {K : PySem.W.Frag} {C : Addr} (c : Cls K C) (f : Str) : PySem.W.plainGet K C f = true := c.pg
/-- a constant of the class -/
structure Con (K : PySem.W.Frag) (C : Addr) (f : Str) (v : V) (u : Value) : Prop where
  at_ : PySem.W.findIn K (.ref C) f = some (some u)
  rel : RelV v u
  get : PySem.W.specialIn K u "__get__" = some none
  cp : PySem.W.copiedNames.contains f = false
/-- a method: a plain def of the class or of one above it -/
structure Meth (K : PySem.W.Frag) (C : Addr) (m : Str) (f : Addr) : Prop where
  at_ : PySem.W.findIn K (.ref C) m = some (some (.ref f))
  fn : PySem.W.isFn K (.ref f) = true
  kp : PySem.W.keepIn K (.ref f) = true

section
variable {X : Cx} {pins : List (Addr × Obj)} {σ : St} {H : Hp} {s : Shared} {a C dx : Addr} {fs : List (Str × V)} {f : Str} {v : V} {A : Around} {E : Value → Shared → Prop}





/-- a new instance, tracked, without attributes -/
theorem Inv.made (I : Inv X pins σ H s) : Inv X pins σ (upd (upd H s.heap.objs.size (.own (s.heap.objs.size + 1))) (s.heap.objs.size + 1) (.ins C s.heap.objs.size []))
    { s with heap := (s.heap.push PySem.W.emptyDict).push (PySem.W.instObj C s.heap.objs.size) } := by
  have e1 : (s.heap.push PySem.W.emptyDict).get? s.heap.objs.size = some PySem.W.emptyDict := Heap.get?_push_size s.heap rfl
  have e2 : ((s.heap.push PySem.W.emptyDict).push (PySem.W.instObj C s.heap.objs.size)).get? (s.heap.objs.size + 1) = some (PySem.W.instObj C s.heap.objs.size) := by
    have := Heap.get?_push_size (s.heap.push PySem.W.emptyDict) (o := PySem.W.instObj C s.heap.objs.size) rfl
    rwa [Heap.size_push] at this
  have e3 : (s.heap.push PySem.W.emptyDict).Ns s.heap.objs.size (fun _ => none) := ⟨PySem.W.emptyDict, #[], _, e1, rfl, (fun e he => absurd he (by simp)), fun _ => rfl⟩
  have I1 := I.laid (a := s.heap.objs.size) (o := .own (s.heap.objs.size + 1)) (h' := s.heap.push PySem.W.emptyDict) (t' := s.toks) (fun b u q => Heap.get?_push_of_some _ q) (Nat.le_refl _) ⟨_, e1⟩
  refine I1.laid (a := s.heap.objs.size + 1) (o := .ins C s.heap.objs.size []) (t' := s.toks) (fun b u q => Heap.get?_push_of_some _ q) (Nat.le_of_eq (Heap.size_push _ _)) ?_
  have ne : s.heap.objs.size ≠ s.heap.objs.size + 1 := Nat.ne_of_lt (Nat.lt_succ_self _)
  refine ⟨by rw [upd_ne ne, upd_same], Nat.zero_le _, ne, e2, fun _ => none, (Heap.Ns1.of_empty e3).at fun o q => Heap.get?_push_of_some _ q, fun _ => True.intro, fun y hy => absurd rfl hy⟩

end

/-! ### readings and rules -/

section
variable {X : Cx} {o e value : Expr} {f : Str} {pos pos' tpos : Pos} {ta tv : TE}

end

/-! ### isinstance -/
section
variable {X : Cx} {pins : List (Addr × Obj)} {σ : St} {H : Hp} {s : Shared} {A : Around} {E : Value → Shared → Prop} {Q : Value → Shared → Prop} {c : Value} {b : Bool}
/-- the type of a value, as the fragment's deciders take it; for an instance its class -/
inductive TyOf (K : PySem.W.Frag) (H : Hp) : V → Value → Prop where
  | non : TyOf K H .non (.type "NoneType")
  | bl (x : Bool) : TyOf K H (.bl x) (.type "bool")
  | int (i : Int) : TyOf K H (.int i) (.type "int")
  | str (x : Str) : TyOf K H (.str x) (.type "str")
  | flt (x : UInt64) : TyOf K H (.flt x) (.type "float")
  | lst {a : Addr} {xs : List V} (e : H a = some (.lst xs)) : TyOf K H (.ref a) (.type "list")
  | frz {a : Addr} {o : Obj} {xs : List V} (e : H a = some (.frz o (.lst xs))) : TyOf K H (.ref a) (.type "list")
  | tup {a : Addr} {xs : List V} (e : H a = some (.tup xs)) : TyOf K H (.ref a) (.type "tuple")
  | dK {a : Addr} {kvs : List (Key × V)} (e : H a = some (.dK kvs)) : TyOf K H (.ref a) (.type "dict")
  | dT {a : Addr} {kvs : List (List Key × V)} (e : H a = some (.dT kvs)) : TyOf K H (.ref a) (.type "dict")
  | ins {a C dx : Addr} {fs : List (Str × V)} (e : H a = some (.ins C dx fs)) (cl : Cls K C) (ha : PySem.W.findIn K (.ref C) "__class__" = some (some (.builtin "object.__class__")))
      (hn : PySem.W.specialIn K (.builtin "object.__class__") "__get__" = some (some (.builtin "getset_descriptor.__get__"))) (htk : PySem.W.takesIn K (.builtin "object.__class__") = some true)
      (hm : PySem.W.mroIn K C (.type "object") = some true) : TyOf K H (.ref a) (.ref C)
/-- isinstance(x, c) for one class c, a built-in or an own one: kitOne's answer -/
theorem isinst_ok {x : V} {u t : Value} (I : Inv X pins σ H s) (rx : RelV x u) (ty : TyOf X.K H x t) (e : PySem.W.kitOne X.K t c = some b) (h : ∀ tk, Q (.bool b) { s with toks := tk }) :
    wpAny (model X.prog X.w) A (call (.builtin "isinstance") [u, c]) Q E s := by
  cases ty with
  | non => cases (show u = Value.none from rx); exact PySem.W.kia_one PySem.W.kitx_none I.kIn True.intro e (fun z => nomatch z) h
  | bl y => cases (show u = Value.bool y from rx); exact PySem.W.kia_one PySem.W.kitx_bool I.kIn True.intro e (fun z => nomatch z) h
  | int i => obtain ⟨t, q⟩ := (show ∃ t, u = Value.int i t from rx); cases q; exact PySem.W.kia_one PySem.W.kitx_int I.kIn True.intro e (fun z => nomatch z) h
  | str y => obtain ⟨t, q⟩ := (show ∃ t, u = Value.str y t from rx); cases q; exact PySem.W.kia_one PySem.W.kitx_str I.kIn True.intro e (fun z => nomatch z) h
  | flt y => obtain ⟨t, q⟩ := (show ∃ t, u = Value.float y t from rx); cases q; exact PySem.W.kia_one PySem.W.kitx_float I.kIn True.intro e (fun z => nomatch z) h
  | @lst a xs ea =>
    cases (show u = Value.ref a from rx)
    obtain ⟨_, _, n, _, h1⟩ := (show ObjOk X.prog X.w H s.heap a (.lst xs) from I.hok a _ ea)
    exact PySem.W.kia_one PySem.W.kitx_list I.kIn ⟨_, h1, rfl⟩ e (fun z => nomatch z) h
  | @frz a ob xs ea =>
    cases (show u = Value.ref a from rx)
    obtain ⟨_, _, _, n, _, h1⟩ := (show ObjOk X.prog X.w H s.heap a (.frz ob (.lst xs)) from I.hok a _ ea)
    exact PySem.W.kia_one PySem.W.kitx_list I.kIn ⟨_, h1, rfl⟩ e (fun z => nomatch z) h
  | @tup a xs ea =>
    cases (show u = Value.ref a from rx)
    obtain ⟨_, _, _, p⟩ := (show ObjOk X.prog X.w H s.heap a (.tup xs) from I.hok a _ ea)
    obtain ⟨o, h1, h2, _⟩ := p
    exact PySem.W.kia_one PySem.W.kitx_tuple I.kIn ⟨o, h1, h2⟩ e (fun z => nomatch z) h
  | @dK a kvs ea =>
    cases (show u = Value.ref a from rx)
    obtain ⟨_, _, vs, _, p⟩ := (show ObjOk X.prog X.w H s.heap a (.dK kvs) from I.hok a _ ea)
    obtain ⟨o, es, ep, h1, h2, _⟩ := p
    exact PySem.W.kia_one PySem.W.kitx_dict I.kIn ⟨o, h1, h2.1⟩ e (fun z => nomatch z) h
  | @dT a kvs ea =>
    cases (show u = Value.ref a from rx)
    obtain ⟨_, _, xs, _, o, es, ep, h1, h2, _⟩ := (show ObjOk X.prog X.w H s.heap a (.dT kvs) from I.hok a _ ea)
    exact PySem.W.kia_one PySem.W.kitx_dict I.kIn ⟨o, h1, h2.1⟩ e (fun z => nomatch z) h
  | @ins a C dx fs ea cl ha hn htk hm =>
    cases (show u = Value.ref a from rx)
    obtain ⟨mA, O, _⟩ := ins_get I.hok ea
    obtain ⟨od, J, _⟩ := O.look
    exact PySem.W.kia_one (PySem.W.kitx_own (cl.get _) cl.hd ha hn htk hm) I.kIn J e (fun z => nomatch z) h
end
end L2

namespace L2
open PySem PySem.Spec PyProof.Rows

/-! ### room -/
structure Room (k : Nat) (A : Around) : Prop where
  hd : A.handled = none
  dp : A.depth + 3 * k + 5 < recursionLimit
  un : A.units + 16 * k + 200 < cLine
theorem Room.mono {j k : Nat} {A : Around} (r : Room k A) (h : j ≤ k) : Room j A := ⟨r.hd, by have := r.dp; omega, by have := r.un; omega⟩
theorem Room.deeper {k : Nat} {A : Around} (r : Room (k + 1) A) (env : Env) : Room k (A.deeper env) :=
  ⟨r.hd, by have := r.dp; show A.depth + 1 + 3 * k + 5 < _; omega, by have := r.un; show A.units + 3 + 16 * k + 200 < _; omega⟩
theorem Room.in1 {k : Nat} {A : Around} (r : Room (k + 1) A) : Room k A.in1 :=
  ⟨r.hd, by have := r.dp; show A.depth + 3 * k + 5 < _; omega, by have := r.un; show A.units + 1 + 16 * k + 200 < _; omega⟩
theorem Room.depth {k : Nat} {A : Around} (r : Room k A) : A.depth < recursionLimit := by have := r.dp; omega
theorem Room.units {k : Nat} {A : Around} (r : Room k A) : A.units + 64 < cLine := by have := r.un; omega

/-! ### argument lists and displays -/
def tNil : TA := fun _ H Q => Q [] H
def tCons (ta : TE) (tr : TA) : TA := fun σ H Q => ta σ H fun x H1 => tr σ H1 fun xs H2 => Q (x :: xs) H2
section
variable {X : Cx} {e : Expr} {es : List Expr} {te : TE} {t : TA} {pos : Pos}
theorem pa_nil : PA X [] tNil := fun _ _ _ _ H Q I h => Calls.spliced_nil ⟨[], H, I, .nil, h⟩
theorem pa_cons (ha : PE X e te) (hr : PA X es t) (hs : starEach (e :: es) X.env = (false, eval e X.env) :: starEach es X.env := by rfl) : PA X (e :: es) (tCons te t) := by
  intro pos pins s σ H Q I h
  rw [hs]
  show wpAny _ _ (spliced ((false, eval e X.env) :: backTo pos (starEach es X.env))) _ _ s
  refine Calls.spliced_cons (thn (ha pins s σ H _ I h) fun u s1 ⟨x, H1, I1, r1, q1⟩ => ?_)
  exact thn (hr pos pins s1 σ H1 _ I1 q1) fun us s2 ⟨xs, H2, I2, r2, q2⟩ => ⟨x :: xs, H2, I2, .cons r1 r2, q2⟩

/-- a tuple, a list of written items -/
def tTup (t : TA) : TE := fun σ H Q => t σ H fun xs H1 => xs.length ≤ sizeLine ∧ ∀ p, H1 p = none → Q (.ref p) (upd H1 p (.tup xs))
def tLst (t : TA) : TE := fun σ H Q => t σ H fun xs H1 => xs.length ≤ sizeLine ∧ ∀ p, H1 p = none → Q (.ref p) (upd H1 p (.lst xs))
theorem pe_tup {x1} (h : PA X es t) : PE X (.Tuple es x1 pos) (tTup t) := by
  intro pins s σ H Q I hq
  refine wpAny_Tuple_spliced (thn (h pos pins s σ H _ I hq) fun us s1 ⟨xs, H1, I1, r, z, q⟩ => ⟨by rw [← r.length]; exact z, ?_⟩)
  have hf : H1 s1.heap.objs.size = none := I1.hok.fresh (Nat.le_refl _)
  refine ⟨.ref s1.heap.objs.size, upd H1 s1.heap.objs.size (.tup xs), I1.laid (t' := s1.toks) (fun b u e => Heap.get?_push_of_some _ e) (Nat.le_refl _) ?_, rfl, q _ hf⟩
  exact ⟨z, us, r, ⟨_, Heap.get?_push_size _ rfl, rfl, _, rfl⟩⟩
theorem pe_lst (h : PA X es t) : PE X (.List es pos) (tLst t) := by
  intro pins s σ H Q I hq
  refine wpAny_List_spliced (thn (h pos pins s σ H _ I hq) fun us s1 ⟨xs, H1, I1, r, z, q⟩ => ⟨by rw [← r.length]; exact z, ?_⟩)
  have hf : H1 s1.heap.objs.size = none := I1.hok.fresh (Nat.le_refl _)
  refine ⟨.ref s1.heap.objs.size, upd H1 s1.heap.objs.size (.lst xs), I1.laid (t' := s1.toks) (fun b u e => Heap.get?_push_of_some _ e) (Nat.le_refl _) ?_, rfl, q _ hf⟩
  exact ⟨z, us, 0, r, Heap.get?_push_size _ rfl⟩
end

/-! ### what a def promises -/
/-- a def's promise: the bound arguments in the parameters' order, the heap, the wanted end, the wanted exception -/
abbrev Sp := List V → Hp → VK → XK → Prop
/-- how an exception lies behind a call (file 08 gives it): the callers' frames, abstract heap and state ahead of the call, the wish, the exception, the state -/
abbrev CXT := List Env → Hp → Shared → XK → Value → Shared → Prop

/-- the state at a call -/
structure Env0 (P : Program) (w : World) (K : PySem.W.Frag) (mg : Str → Option Value) (base : Heap) (A : Around) (outer : List Env) (s : Shared) (H : Hp) : Prop where
  frames : A.frames = some outer
  mod : Mod K mg base
  bs : ∀ b o, base.get? b = some o → s.heap.get? b = some o ∧ H b = none
  bsz : base.objs.size ≤ s.heap.objs.size
  funs : s.heap.FunFrames base outer
  frf : ∀ b ∈ frs outer, H b = none
  hok : HOk P w H s.heap
  bare : AllBare s.gens
/-- a call's end -/
def CE (outer : List Env) (P : Program) (w : World) (H : Hp) (s : Shared) (Q : VK) (u : Value) (s' : Shared) : Prop :=
  ∃ v H', s'.os = s.os ∧ AllBare s'.gens ∧ Un (frs outer) [] H H' s.heap s'.heap ∧ HOk P w H' s'.heap ∧ RelV v u ∧ Q v H'
def CR (CX : CXT) (outer : List Env) (P : Program) (w : World) (H : Hp) (s : Shared) (Q : VK) (E : XK) (r : Result) (s' : Shared) : Prop :=
  match r with
  | .ok (.ret u) => CE outer P w H s Q u s'
  | .ok _ => False
  | .error e => CX outer H s E e s'
structure FnOk (P : Program) (w : World) (K : PySem.W.Frag) (mg : Str → Option Value) (base : Heap) (CX : CXT) (k : Nat) (f : Addr) (fd : FuncData) (ps : List Str) (sp : Sp) : Prop where
  len : ∀ vs H Q E, sp vs H Q E → vs.length = ps.length
  run : ∀ (A : Around) (outer : List Env) (s : Shared) (H : Hp) (args : Args) (us : List Value) (vs : List V) (Q : VK) (E : XK), Room k A → Env0 P w K mg base A outer s H → BindsTo s fd args (ps.zip us) → Vals vs us → sp vs H Q E →
    codeAny (model P w) A (.call (.ref f) args) (CR CX outer P w H s Q E) s
theorem FnOk.mono {P : Program} {w : World} {K : PySem.W.Frag} {mg : Str → Option Value} {base : Heap} {CX : CXT} {j k : Nat} {f : Addr} {fd : FuncData} {ps : List Str} {sp : Sp} (F : FnOk P w K mg base CX j f fd ps sp) (h : j ≤ k) :
    FnOk P w K mg base CX k f fd ps sp := ⟨F.len, fun A outer s H args us vs Q E hr => F.run A outer s H args us vs Q E (hr.mono h)⟩
/-- a weaker promise -/
theorem FnOk.imp {P : Program} {w : World} {K : PySem.W.Frag} {mg : Str → Option Value} {base : Heap} {CX : CXT} {k : Nat} {f : Addr} {fd : FuncData} {ps : List Str} {sp sp' : Sp} (F : FnOk P w K mg base CX k f fd ps sp)
    (h : ∀ vs H Q E, sp' vs H Q E → sp vs H Q E) : FnOk P w K mg base CX k f fd ps sp' :=
  ⟨fun vs H Q E q => F.len vs H Q E (h _ _ _ _ q), fun A outer s H args us vs Q E hr he hb hv hs => F.run A outer s H args us vs Q E hr he hb hv (h _ _ _ _ hs)⟩

theorem Env0.in1 {P : Program} {w : World} {K : PySem.W.Frag} {mg : Str → Option Value} {base : Heap} {A : Around} {outer : List Env} {s : Shared} {H : Hp} (e : Env0 P w K mg base A outer s H) :
    Env0 P w K mg base A.in1 outer s H := ⟨e.frames, e.mod, e.bs, e.bsz, e.funs, e.frf, e.hok, e.bare⟩

section
variable {X : Cx} {pins : List (Addr × Obj)} {σ : St} {H : Hp} {s s' : Shared}
/-- from a body: what a callee wants -/
theorem Inv.env0 (I : Inv X pins σ H s) : Env0 X.prog X.w X.K X.mg X.base X.A X.stack s H :=
  ⟨I.ok.frames, I.ok.mod, I.bs, Nat.le_trans I.ok.bsz I.sz, I.stack, I.stkFree, I.hok, I.bare⟩
/-- behind a call -/
theorem Inv.after {Q : VK} {u : Value} (I : Inv X pins σ H s) (h : CE X.stack X.prog X.w H s Q u s') : EP X pins σ Q u s' := by
  obtain ⟨v, H', os, bare, un, hok, r, q⟩ := h
  obtain ⟨hh, g, d, t, os'⟩ := s'
  obtain rfl : os' = s.os := os
  exact ⟨v, H', I.call (h' := hh) (g' := g) (d' := d) (t' := t) (ch := []) un hok bare (fun b z => absurd z (by simp)), r, q⟩
end

/-! ### calls -/
/-- f(..): the written arguments, then the defaults dvs; E: what is wanted of an exception -/
def tCall (sp : Sp) (dvs : List V) (E : XK) (t : TA) : TE := fun σ H Q => t σ H fun vs H1 => sp (vs ++ dvs) H1 Q E

/-- how the parameters are bound: us the positional arguments, kw the keywords' values by name, ds the defaults that fill up -/
def Binds (K : PySem.W.Frag) (fd : FuncData) (ps : List Str) (ds : List Value) : Prop :=
  ∀ (s : Shared) (us : List Value), K.In s.heap → (us ++ ds).length = ps.length → BindsTo s fd ⟨us, []⟩ (ps.zip (us ++ ds))
/-- every parameter is given -/
theorem Binds.all {K : PySem.W.Frag} {fd : FuncData} {ps : List Str} (h : ∀ us : List Value, us.length = ps.length → bindArgs fd ⟨us, []⟩ = pure (ps.zip us)) : Binds K fd ps [] := fun s us _ hl => by
  rw [List.append_nil] at hl ⊢
  exact .of_eq (h us hl)

/-- an exception of a callee reaches what this body wants of exceptions -/
def Passes (CX : CXT) (X : Cx) (E : XK) : Prop := ∀ (pins : List (Addr × Obj)) (σ : St) (H : Hp) (s : Shared) (e : Value) (s' : Shared), Inv X pins σ H s → CX X.stack H s E e s' → X.xe e s'

section
variable {X : Cx} {CX : CXT} {k : Nat} {f C : Addr} {fd : FuncData} {ps : List Str} {sp : Sp} {dvs : List V} {ds : List Value} {E : XK} {x m : Str} {p pos apos : Pos} {e o : Expr} {es : List Expr} {ta : TE} {t : TA}

/-- the callee runs -/
theorem run_fn {pins : List (Addr × Obj)} {σ : St} {H : Hp} {s : Shared} {Q : VK} {us : List Value} {vs : List V} (F : FnOk X.prog X.w X.K X.mg X.base CX k f fd ps sp) (hr : Room k X.A) (hb : Binds X.K fd ps ds) (hd : Vals dvs ds) (hx : Passes CX X E)
    (I : Inv X pins σ H s) (r : Vals vs us) (h : sp (vs ++ dvs) H Q E) : wpAny (model X.prog X.w) X.A (call (.ref f) us) (EP X pins σ Q) X.xe s := by
  have r2 : Vals (vs ++ dvs) (us ++ ds) := r.append hd
  have hl : (us ++ ds).length = ps.length := by rw [← r2.length]; exact F.len _ _ _ _ h
  refine wpAny_call (codeAny_mono (F.run X.A X.stack s H ⟨us, []⟩ (us ++ ds) (vs ++ dvs) Q E hr I.env0 (hb s us I.kIn hl) r2 h) fun r s' hq => ?_)
  cases r with
  | error e => exact hx pins σ H s e s' I hq
  | ok fl =>
    cases fl with
    | ret u => exact I.after hq
    | next => exact False.elim hq
    | brk => exact False.elim hq
    | cont => exact False.elim hq

theorem pe_call (F : FnOk X.prog X.w X.K X.mg X.base CX k f fd ps sp) (hr : Room k X.A) (hg : Gl X x) (hm : X.mg x = some (.ref f)) (hk : PySem.W.keepIn X.K (.ref f) = true) (hb : Binds X.K fd ps ds) (hd : Vals dvs ds) (hx : Passes CX X E)
    (ha : PA X (e :: es) t) (hdb : (x == ("__debug__" : Str)) = false := by decide) (he : starEach (e :: es) X.env = (false, eval e X.env) :: starEach es X.env := by rfl) (hpl : (backTo pos (starEach es X.env)).any (·.1) = false := by rfl) :
    PE X (.Call (.Name x p) (e :: es) [] pos) (tCall sp dvs E t) := by
  intro pins s σ H Q I h
  refine wpAny_Call_Name_kw (ld_glob I hg hm ?_ hdb)
  refine PySem.W.callWith_K (h₀ := X.base) I.ok.mod.kin hk (thn (ha pos pins s σ H _ I h) fun us s1 ⟨vs, H1, I1, r, q⟩ => ⟨I1.kIn, ?_⟩) he hpl
  exact run_fn F hr hb hd hx I1 r q


/-- what a class must have to be made -/
structure Mk (K : PySem.W.Frag) (C f : Addr) : Prop where
  makes : PySem.W.makesIn K C = true
  init : PySem.W.findIn K (.ref C) "__init__" = some (some (.ref f))
  fn : PySem.W.isFn K (.ref f) = true
  kp : PySem.W.keepIn K (.ref C) = true

end

/-! ### keywords -/
section
variable {X : Cx} {CX : CXT} {k : Nat} {f C : Addr} {fd : FuncData} {ps ks : List Str} {sp : Sp} {E : XK} {x m : Str} {p pos apos kpos : Pos} {e o : Expr} {es : List Expr} {kws : List Keyword} {te ta : TE} {t tk : TA} {nm : Option Str}

/-- how a call with keywords binds: g puts the positional values us and the keywords' values ws (names ks) in the parameters' order, defaults among them -/
structure KBinds (K : PySem.W.Frag) (fd : FuncData) (ps ks : List Str) (g : List Value → List Value → List Value) (gV : List V → List V → List V) : Prop where
  to : ∀ (s : Shared) (us ws : List Value), K.In s.heap → (g us ws).length = ps.length → BindsTo s fd ⟨us, ks.zip ws⟩ (ps.zip (g us ws))
  rel : ∀ {vs : List V} {us : List Value} {zs : List V} {ws : List Value}, Vals vs us → Vals zs ws → Vals (gV vs zs) (g us ws)
variable {g : List Value → List Value → List Value} {gV : List V → List V → List V}
end

/-! ### a def's body keeps its promise -/
/-- names: the parameters first -/
structure FnScope (N P : List Str) (sc : Scope) : Prop where
  kind : sc.kind = .function
  co : sc.isCoroutine = false
  gen : sc.isGenerator = false
  nd : N.Nodup
  pre : N.take P.length = P
  par : ∀ x ∈ P, sc.names.lookup x = some .local ∨ sc.names.lookup x = some .cell
  nofree : ∀ y ∈ sc.names, y.2 ≠ .free

theorem bindL_out {kindOf : Str → Option NameKind} {x : Str} : ∀ {binds : List (Str × Value)} {m : Str → Option Value}, (∀ v, (x, v) ∉ binds) → bindL kindOf binds m x = m x
  | [], _, _ => rfl
  | (n, v) :: r, m, h => by
    unfold bindL
    rw [bindL_out fun w hw => h w (List.mem_cons_of_mem _ hw)]
    split
    · have : x ≠ n := by rintro rfl; exact h v List.mem_cons_self
      simp [this]
    · rfl
theorem bindC_out {kindOf : Str → Option NameKind} {x : Str} : ∀ {binds : List (Str × Value)} {m : Str → Option Value}, (∀ v, (x, v) ∉ binds) → bindC kindOf binds m x = m x
  | [], _, _ => rfl
  | (n, v) :: r, m, h => by
    unfold bindC
    rw [bindC_out fun w hw => h w (List.mem_cons_of_mem _ hw)]
    split
    · rfl
    · have : x ≠ n := by rintro rfl; exact h v List.mem_cons_self
      simp [this]
theorem bindL_get {kindOf : Str → Option NameKind} {x : Str} {v : Value} : ∀ {P : List Str} {vs : List Value} {i : Nat} {m : Str → Option Value}, P.Nodup → P[i]? = some x → vs[i]? = some v → kindOf x = some .local →
    bindL kindOf (P.zip vs) m x = some v
  | [], _, _, _, _, h, _, _ => by simp at h
  | _ :: _, [], _, _, _, _, h, _ => by simp at h
  | p :: P, w :: vs, 0, m, nd, h1, h2, hk => by
    simp at h1 h2; subst h1; subst h2
    show bindL kindOf ((p, w) :: P.zip vs) m p = _
    unfold bindL
    rw [bindL_out fun v hv => (List.nodup_cons.mp nd).1 (List.of_mem_zip hv).1, if_pos hk]
    simp
  | p :: P, w :: vs, i + 1, m, nd, h1, h2, hk => by
    show bindL kindOf ((p, w) :: P.zip vs) m x = _
    unfold bindL
    exact bindL_get (i := i) (List.nodup_cons.mp nd).2 (by simpa using h1) (by simpa using h2) hk
theorem bindC_get {kindOf : Str → Option NameKind} {x : Str} {v : Value} : ∀ {P : List Str} {vs : List Value} {i : Nat} {m : Str → Option Value}, P.Nodup → P[i]? = some x → vs[i]? = some v → kindOf x ≠ some .local →
    bindC kindOf (P.zip vs) m x = some v
  | [], _, _, _, _, h, _, _ => by simp at h
  | _ :: _, [], _, _, _, _, h, _ => by simp at h
  | p :: P, w :: vs, 0, m, nd, h1, h2, hk => by
    simp at h1 h2; subst h1; subst h2
    show bindC kindOf ((p, w) :: P.zip vs) m p = _
    unfold bindC
    rw [bindC_out fun v hv => (List.nodup_cons.mp nd).1 (List.of_mem_zip hv).1, if_neg hk]
    simp
  | p :: P, w :: vs, i + 1, m, nd, h1, h2, hk => by
    show bindC kindOf ((p, w) :: P.zip vs) m x = _
    unfold bindC
    exact bindC_get (i := i) (List.nodup_cons.mp nd).2 (by simpa using h1) (by simpa using h2) hk

/-- the names' values at the entry -/
def start (N : List Str) (vs : List V) : St := vs.map some ++ List.replicate (N.length - vs.length) none

/-- the context of a def's body, at its entry; an exception leaves the frame, then lies as CX says -/
def cxOf (CX : CXT) (P : Program) (w : World) (K : PySem.W.Frag) (mg : Str → Option Value) (base : Heap) (N : List Str) (qual : Str) (scope : Scope) (f : Addr) (cd : Value) (A : Around) (outer : List Env) (s : Shared) (H : Hp) (E : XK) : Cx where
  prog := P
  w := w
  K := K
  mg := mg
  base := base
  A := A.deeper (envOfC qual scope s.heap.objs.size f cd)
  N := N
  s₀ := s
  H₀ := H
  env := envOfC qual scope s.heap.objs.size f cd
  outer := outer
  stack := envOfC qual scope s.heap.objs.size f cd :: outer
  ex := []
  calm := true
  fn := fun _ => true
  pn := []
  xe := fun e s' => wpAny (model P w) (A.deeper (envOfC qual scope s.heap.objs.size f cd)) (leaving (envOfC qual scope s.heap.objs.size f cd) e) (fun _ s'' => CX outer H s E e s'') (fun e' s'' => CX outer H s E e' s'') s'

theorem cell_has {sc : Scope} {n : Nat} {x : Str} (h : sc.names.lookup x = some .cell) : ∃ c, (cellsFrom n sc.names []).lookup x = some c := by
  have q := PySem.W.cellsFrom_some sc.names n [] (.inl h)
  exact Option.isSome_iff_exists.mp q

theorem inv_start {CX : CXT} {P : Program} {w : World} {K : PySem.W.Frag} {mg : Str → Option Value} {base : Heap} {N ps : List Str} {qual : Str} {scope : Scope} {f : Addr} {cd : Value} {A : Around} {outer : List Env} {s s1 : Shared} {H : Hp} {E : XK} {us : List Value} {vs : List V}
    (S : FnScope N ps scope) (hd : A.handled = none) (e0 : Env0 P w K mg base A outer s H) (hl : vs.length = ps.length) (r : Vals vs us)
    (x : InCallC s s.heap.objs.size (bindL (envOfC qual scope s.heap.objs.size f cd).kindOf (ps.zip us) fun _ => none) (cellsFrom (s.heap.objs.size + 1) scope.names []) (bindC (envOfC qual scope s.heap.objs.size f cd).kindOf (ps.zip us) fun _ => none) s1) :
    Inv (cxOf CX P w K mg base N qual scope f cd A outer s H E) [] (start N vs) H s1 := by
  have hpl : ps.length ≤ N.length := by have := congrArg List.length S.pre; rw [List.length_take] at this; omega
  obtain ⟨h1, tk, rfl, hk⟩ := x.done
  have noA : ∀ b : Addr, b ∉ (cxOf CX P w K mg base N qual scope f cd A outer s H E).ex := fun b z => absurd (show b ∈ ([] : List Addr) from z) (by simp)
  refine ⟨⟨e0.mod, S.kind, rfl, rfl, Nat.le_refl _, fun y z c h1 h2 => ?_, fun y hy => ?_, fun y c _ h => ?_, fun _ => hd, Around.frames_deeper e0.frames, .inr ⟨rfl, rfl⟩, fun b z => absurd z (noA b), e0.bs, e0.bsz, fun b _ _ => noA b, fun b z => absurd z (noA b), e0.funs, e0.frf⟩,
    rfl, e0.bare, Un.kept hk, ⟨_, x.toInCall.ns, fun i y v h1 h2 h3 => ?_⟩, fun y c h => ⟨_, x.cell y c h⟩, e0.hok.fresh (Nat.le_refl _), fun y c h => ?_, fun p hp => absurd (show p ∈ ([] : List (Addr × Obj)) from hp) (by simp), e0.hok.kept hk, ?_⟩
  · exact name_of_addr x.apart (PySem.mem_of_lookup h1) (PySem.mem_of_lookup h2)
  · have hy : scope.names.lookup y = some .cell ∨ scope.names.lookup y = some .free := hy
    rcases hy with hy | hy
    · exact cell_has hy
    · exact absurd rfl (S.nofree _ (PySem.mem_of_lookup hy))
  · exact Nat.le_of_lt (x.above y c (PySem.mem_of_lookup h))
  · have hi : i < vs.length := by
      unfold start at h2
      by_cases hi : i < vs.length
      · exact hi
      · rw [List.getElem?_append_right (by simpa using hi)] at h2
        rw [List.getElem?_replicate] at h2
        split at h2 <;> cases h2
    have ha : vs[i]? = some v := by
      unfold start at h2
      rw [List.getElem?_append_left (by simpa using hi), List.getElem?_map] at h2
      cases e : vs[i]? with
      | none => rw [e] at h2; cases h2
      | some a => rw [e] at h2; cases h2; rfl
    obtain ⟨u, hu, rv⟩ := r.get ha
    have hp : ps[i]? = some y := by
      rw [← S.pre, List.getElem?_take_of_lt (by omega)]; exact h1
    have ndP : ps.Nodup := by rw [← S.pre]; exact S.nd.sublist (List.take_sublist _ _)
    refine ⟨u, rv, ?_⟩
    rcases S.par y (List.mem_of_getElem? hp) with k | k
    · exact .inl ⟨k, bindL_get ndP hp hu k⟩
    · obtain ⟨c, e⟩ := cell_has (n := s.heap.objs.size + 1) k
      refine .inr ⟨.inl k, c, e, ?_⟩
      have q := x.cell y c e
      rw [bindC_get ndP hp hu (by show scope.names.lookup y ≠ _; rw [k]; decide)] at q
      exact q
  · exact e0.hok.fresh (Nat.le_of_lt (x.above y c (PySem.mem_of_lookup h)))
  · unfold start
    show _ = N.length
    rw [List.length_append, List.length_map, List.length_replicate]
    omega

/-- THE RULE: a def (or a method) of the text, by its body. The body's reading t is chosen for each entry; it is run at the parameters' values -/
theorem fn_of {CX : CXT} {P : Program} {w : World} {K : PySem.W.Frag} {mg : Str → Option Value} {base : Heap} {k : Nat} {f : Addr} {name qual : Str} {params : Arguments} {body : List Stmt} {scope : Scope} {dV kV doc pm cdv ct oc : Value} {an od : Option Addr}
    {osl : Array (Option Value)} {N ps : List Str} {sp : Sp} (lk : K.lookup f = some ⟨oc, od, .func (PySem.W.fnOf name qual params body scope dV kV doc pm an cdv ct), osl⟩) (hcd : PySem.W.codeIn K cdv qual = true) (S : FnScope N ps scope)
    (len : ∀ vs H Q E, sp vs H Q E → vs.length = ps.length)
    (hbody : ∀ (A : Around) (outer : List Env) (s : Shared) (H : Hp) (vs : List V) (Q : VK) (E : XK), Room k (A.deeper (envOfC qual scope s.heap.objs.size f cdv)) → sp vs H Q E →
      ∃ t, PSs (cxOf CX P w K mg base N qual scope f cdv A outer s H E) body t ∧ t { nx := fun _ H' => Q .non H', rt := Q } (start N vs) H) :
    FnOk P w K mg base CX (k + 1) f (PySem.W.fnOf name qual params body scope dV kV doc pm an cdv ct) ps sp := by
  refine ⟨len, fun A outer s H args us vs Q E hr e0 hb r hsp => ?_⟩
  have hl := len _ _ _ _ hsp
  have KX : K.In s.heap := e0.mod.kin.keeps fun b o e => (e0.bs b o e).1
  have lim : s.heap.NoLimit := e0.mod.nolimit.keeps fun b o e => (e0.bs b o e).1
  have hkind : ∀ y ∈ ps.zip us, scope.names.lookup y.1 = some .local ∨ (scope.names.lookup y.1 = some .cell ∧ ((cellsFrom (s.heap.objs.size + 1) scope.names []).lookup y.1).isSome = true) := fun ⟨n, v⟩ hy => by
    rcases S.par n (List.of_mem_zip hy).1 with q | q
    · exact .inl q
    · exact .inr ⟨q, PySem.W.cellsFrom_some _ _ _ (.inl q)⟩
  refine codeAny_call_function hr.depth (KX _ _ lk) rfl S.co S.gen rfl (PySem.W.codeRec_of KX hcd) (hb _ _ _ _ ?_)
  refine wpAny_newFunctionEnv_cells S.kind hkind fun env he s1 x => ?_
  subst he
  refine ⟨lim.keeps x.toInCall.keep, codeAny_func ?_⟩
  obtain ⟨t, ht, hq⟩ := hbody A outer s H vs Q E (hr.deeper _) hsp
  have I : Inv (cxOf CX P w K mg base N qual scope f cdv A outer s H E) [] (start N vs) H s1 := inv_start S hr.hd e0 hl r x
  refine wpAny_mono (ht [] s1 (start N vs) H _ I hq) (fun fl s' hs => ?_) fun e s' hs => hs
  have fin : ∀ {σ' : St} {H' : Hp} {v : V} {u : Value}, Inv (cxOf CX P w K mg base N qual scope f cdv A outer s H E) [] σ' H' s' → RelV v u → Q v H' → CE outer P w H s Q u s' :=
    fun {σ' H' v u} J rv q => ⟨v, H', J.os, J.bare, J.base, J.hok, rv, q⟩
  cases fl with
  | ret u =>
    obtain ⟨v, σ', H', J, rv, q⟩ := hs
    exact fin J rv q
  | next =>
    obtain ⟨σ', H', J, q⟩ := hs
    exact fin (v := V.non) (u := Value.none) J rfl q
  | brk =>
    obtain ⟨_, _, _, q⟩ := hs
    exact False.elim q
  | cont =>
    obtain ⟨_, _, _, q⟩ := hs
    exact False.elim q
end L2

namespace L2
open PySem PySem.Spec PyProof.Rows
section
variable {X : Cx} {x : Str} {p pos : Pos} {e : Expr} {es : List Expr} {t : TA} {id T : String} {r : List V → Hp → VK → Prop}

def tCB (r : List V → Hp → VK → Prop) (t : TA) : TE := fun σ H Q => t σ H fun vs H1 => r vs H1 Q
/-- f(e, ..), f a built-in function -/
theorem pe_callB (hc : CallR X (.builtin id) r) (hg : Gl X x) (hm : X.mg x = none) (hv : bootBuiltins x = some (.builtin id)) (ha : PA X (e :: es) t) (hn : x ≠ "__name__" := by decide) (hdb : (x == ("__debug__" : Str)) = false := by decide)
    (he : starEach (e :: es) X.env = (false, eval e X.env) :: starEach es X.env := by rfl) (hpl : (backTo pos (starEach es X.env)).any (·.1) = false := by rfl) : PE X (.Call (.Name x p) (e :: es) [] pos) (tCB r t) := by
  intro pins s σ H Q I h
  refine wpAny_Call_Name_kw (ld_blt I hg hm hv ?_ hn hdb)
  exact PyProof.Rows.callWith_builtin1 (thn (ha pos pins s σ H _ I h) fun us s1 ⟨vs, H1, I1, r1, q1⟩ => hc pins s1 σ H1 vs us Q I1 r1 q1) he hpl
/-- T(e, ..), T a built-in type -/
theorem pe_callTy (hc : CallR X (.type T) r) (hg : Gl X x) (hm : X.mg x = none) (hv : bootBuiltins x = some (.type T)) (ha : PA X (e :: es) t) (hn : x ≠ "__name__" := by decide) (hdb : (x == ("__debug__" : Str)) = false := by decide)
    (he : starEach (e :: es) X.env = (false, eval e X.env) :: starEach es X.env := by rfl) (hpl : (backTo pos (starEach es X.env)).any (·.1) = false := by rfl) : PE X (.Call (.Name x p) (e :: es) [] pos) (tCB r t) := by
  intro pins s σ H Q I h
  refine wpAny_Call_Name_kw (ld_blt I hg hm hv ?_ hn hdb)
  exact PyProof.Rows.callWith_type1 (thn (ha pos pins s σ H _ I h) fun us s1 ⟨vs, H1, I1, r1, q1⟩ => hc pins s1 σ H1 vs us Q I1 r1 q1) he hpl
end
end L2

namespace HT
open PySem PyProof.Rows



section
open PySem.SeqAt
open PySem.AutoSeq1 (wpAny_loadPart')
open PySem.MeetsSeq PySem.MeetsSeq2 PySem.MeetsSeq3

end

section
variable {prog : Program} {w : World} {A : Around} {E : Value → Shared → Prop} {s : Shared}



/-! ### t[a:b], not the whole -/
/-- a slice's bound as a place among n (d where it is left out) -/
def sIx (n d : Nat) : Option Int → Nat
  | none => d
  | some v => if v < 0 then (v + (n : Int)).toNat else min v.toNat n
theorem sIx_none (n d : Nat) : sIx n d none = d := rfl

end
end HT

namespace L2
open PySem PySem.Spec PyProof.Rows

/-! ### the parts of a slice -/
abbrev TO := St → Hp → (Option Int → Hp → Prop) → Prop
/-- a slice's part (left out, or an int) -/
def PO (X : Cx) (e : Option Expr) (t : TO) : Prop :=
  ∀ (pins : List (Addr × Obj)) (s : Shared) (σ : St) (H : Hp) (Q : Option Int → Hp → Prop), Inv X pins σ H s → t σ H Q →
    wpAny (model X.prog X.w) X.A (evalPart e X.env) (fun u s' => ∃ o H', Inv X pins σ H' s' ∧ IsPart u o ∧ Q o H') X.xe s
def tNoPart : TO := fun _ H Q => Q none H
def tPart (t : TE) : TO := fun σ H Q => t σ H fun x H1 => ∃ i, x = .int i ∧ Q (some i) H1


section
variable {X : Cx} {e : Expr} {te : TE} {lo hi : Option Expr} {tl th : TO} {pos p2 : Pos}

theorem po_none : PO X none tNoPart := by
  intro pins s σ H Q I h
  rw [evalPart_none]
  exact wpAny_pure ⟨none, H, I, .none, h⟩
theorem po_some (h : PE X e te) : PO X (some e) (tPart te) := by
  intro pins s σ H Q I hw
  rw [evalPart_some]
  refine thn (h pins s σ H _ I hw) fun u s1 ⟨x, H1, I1, r1, q1⟩ => ?_
  obtain ⟨i, rfl, q⟩ := q1
  obtain ⟨t, rfl⟩ := r1
  exact ⟨some i, H1, I1, .int i t, q⟩

/-- what a slice of a value is, by values: the slice object stands at sl -/
def SlR (X : Cx) (r : V → Option Int → Option Int → Hp → VK → Prop) : Prop :=
  ∀ (pins : List (Addr × Obj)) (s : Shared) (σ : St) (H : Hp) (x : V) (v vl vu : Value) (lo hi : Option Int) (sl : Addr) (Q : VK), Inv X pins σ H s → RelV x v → s.heap.IsSliceOf sl vl vu .none → IsPart vl lo → IsPart vu hi → r x lo hi H Q →
    ∃ T id, typeLookup (.type T) "__getitem__" = pure (some (.builtin id)) ∧ s.TypeIs v T ∧ wpAny (model X.prog X.w) X.A (getItem v (.ref sl)) (EP X pins σ Q) X.xe s
theorem SlR.or {r r' : V → Option Int → Option Int → Hp → VK → Prop} (h : SlR X r) (h' : SlR X r') : SlR X (fun x lo hi H Q => r x lo hi H Q ∨ r' x lo hi H Q) := by
  intro pins s σ H x v vl vu lo hi sl Q I rx hs pl pu q
  rcases q with q | q
  · exact h pins s σ H x v vl vu lo hi sl Q I rx hs pl pu q
  · exact h' pins s σ H x v vl vu lo hi sl Q I rx hs pl pu q
def tSl (r : V → Option Int → Option Int → Hp → VK → Prop) (te : TE) (tl th : TO) : TE := fun σ H Q => te σ H fun x H1 => tl σ H1 fun l H2 => th σ H2 fun u H3 => r x l u H3 Q
/-- a[lo:hi], any a -/
theorem pe_slice {r : V → Option Int → Option Int → Hp → VK → Prop} (hr : SlR X r) (he : PE X e te) (hl : PO X lo tl) (hu : PO X hi th) : PE X (.Subscript e (.Slice lo hi none p2) pos) (tSl r te tl th) := by
  intro pins s σ H Q I h
  refine Subscript_ (thn (he pins s σ H _ I h) fun v s1 ⟨x, H1, I1, r1, q1⟩ => ?_)
  refine wpAny_Slice (thn (hl pins s1 σ H1 _ I1 q1) fun vl s2 ⟨l, H2, I2, pl, q2⟩ => thn (hu pins s2 σ H2 _ I2 q2) fun vu s3 ⟨u, H3, I3, pu, q3⟩ => ?_)
  rw [evalPart_none]
  refine wpAny_pure ?_
  have I4 : Inv X pins σ H3 { s3 with heap := s3.heap.push { cls := .type "slice", data := .fields #[vl, vu, .none] } } := I3.kept (t' := s3.toks) fun b ob q => Heap.get?_push_of_some _ q
  obtain ⟨T, id, hT, ht, hg⟩ := hr pins { s3 with heap := s3.heap.push { cls := .type "slice", data := .fields #[vl, vu, .none] } } σ H3 x v vl vu l u s3.heap.objs.size Q I4 r1 (Heap.IsSliceOf.new ..) pl pu q3
  show wpAny (model X.prog X.w) X.A (subscriptTail e (.Slice lo hi none p2) v (.ref s3.heap.objs.size)) (EP X pins σ Q) X.xe { s3 with heap := s3.heap.push { cls := .type "slice", data := .fields #[vl, vu, .none] } }
  exact tail_any (ops := [.ref s3.heap.objs.size, v]) ht hT hg (by with_unfolding_all rfl)

/-- the items of xs[lo:hi] -/
def cutV (xs : List V) (lo hi : Option Int) : List V := (xs.drop (HT.sIx xs.length 0 lo)).take (HT.sIx xs.length xs.length hi - HT.sIx xs.length 0 lo)
theorem cutV_length (xs : List V) (lo hi : Option Int) : (cutV xs lo hi).length ≤ xs.length := by
  unfold cutV
  rw [List.length_take, List.length_drop]
  omega

/-! ### t < u, t + u -/
end
end L2

namespace L2
open PySem PySem.Spec PyProof.Rows

/-! ### places -/
/-- the place that an index of any sign means -/
def ixN (n : Nat) (i : Int) : Option Nat := if 0 ≤ i then (if i < n then some i.toNat else none) else if -(n : Int) ≤ i then some (i + n).toNat else none
def atI {α : Type} (xs : List α) (i : Int) : Option α := (ixN xs.length i).bind fun j => xs[j]?
theorem ixN_seq {n : Nat} {i : Int} {j : Nat} (h : ixN n i = some j) : seqIndex? i n = some j ∧ j < n ∧ -(n : Int) ≤ i ∧ i < n := by
  unfold ixN at h
  by_cases h0 : 0 ≤ i
  · rw [if_pos h0] at h
    by_cases h1 : i < n
    · rw [if_pos h1] at h
      have e : i.toNat = j := Option.some.inj h
      exact ⟨by rw [seqIndex_of h0 h1, e], by omega, by omega, h1⟩
    · rw [if_neg h1] at h; cases h
  · rw [if_neg h0] at h
    by_cases h1 : -(n : Int) ≤ i
    · rw [if_pos h1] at h
      have e : (i + n).toNat = j := Option.some.inj h
      exact ⟨by rw [seqIndex_neg (by omega) h1, e], by omega, h1, by omega⟩
    · rw [if_neg h1] at h; cases h
theorem atI_get {α : Type} {xs : List α} {i : Int} {v : α} (h : atI xs i = some v) : ∃ j, seqIndex? i xs.length = some j ∧ xs[j]? = some v ∧ j < xs.length ∧ -(xs.length : Int) ≤ i ∧ i < xs.length := by
  unfold atI at h
  cases e : ixN xs.length i with
  | none => rw [e] at h; cases h
  | some j =>
    rw [e] at h
    obtain ⟨h1, h2, h3, h4⟩ := ixN_seq e
    exact ⟨j, h1, h, h2, h3, h4⟩
theorem atI_nat {α : Type} {xs : List α} {j : Nat} {v : α} (h : xs[j]? = some v) : atI xs (j : Int) = some v := by
  have hj : j < xs.length := (List.getElem?_eq_some_iff.mp h).1
  have e : ixN xs.length (j : Int) = some j := by
    unfold ixN
    rw [if_pos (by omega), if_pos (by omega)]; simp
  unfold atI; rw [e]; exact h
theorem atI_last {α : Type} (xs : List α) (v : α) : atI (xs ++ [v]) (-1) = some v := by
  have hl : (xs ++ [v]).length = xs.length + 1 := by simp
  have e : ixN (xs ++ [v]).length (-1) = some xs.length := by
    unfold ixN
    rw [hl, if_neg (by decide), if_pos (by omega)]
    congr 1
    omega
  unfold atI
  rw [e]
  show (xs ++ [v])[xs.length]? = some v
  simp

/-! ### what may be subscripted -/
/-- what stands as an index of a plain subscript -/
def PlainIx (b : Expr) : Prop := ∀ o i, subscripted b false o i = operate [o, i] (getItem o i)
/-- a subscript by values -/
def IxR (X : Cx) (r : R2) : Prop :=
  ∀ (value slice : Expr) (pins : List (Addr × Obj)) (s : Shared) (σ : St) (H : Hp) (x y : V) (v u : Value) (Q : VK), Inv X pins σ H s → RelV x v → RelV y u → r x y H Q →
    subscripted slice false v u = operate [v, u] (getItem v u) → wpAny (model X.prog X.w) X.A (subscriptTail value slice v u) (EP X pins σ Q) X.xe s
/-- a call of a builtin's method by values: the receiver, the arguments -/
def MtR (X : Cx) (id : String) (r : V → List V → Hp → VK → Prop) : Prop :=
  ∀ (pins : List (Addr × Obj)) (s : Shared) (σ : St) (H : Hp) (x : V) (xs : List V) (v : Value) (us : List Value) (Q : VK), Inv X pins σ H s → RelV x v → Vals xs us → r x xs H Q →
    wpAny (model X.prog X.w) X.A (call (.builtin id) (v :: us)) (EP X pins σ Q) X.xe s
section
variable {X : Cx} {a b : Expr} {ta tb : TE} {pos : Pos}
theorem IxR.or {r r' : R2} (h : IxR X r) (h' : IxR X r') : IxR X (fun x y H Q => r x y H Q ∨ r' x y H Q) := by
  intro value slice pins s σ H x y v u Q I rx ry q hs
  rcases q with q | q
  · exact h value slice pins s σ H x y v u Q I rx ry q hs
  · exact h' value slice pins s σ H x y v u Q I rx ry q hs
theorem MtR.or {id : String} {r r' : V → List V → Hp → VK → Prop} (h : MtR X id r) (h' : MtR X id r') : MtR X id (fun x xs H Q => r x xs H Q ∨ r' x xs H Q) := by
  intro pins s σ H x xs v us Q I rx rs q
  rcases q with q | q
  · exact h pins s σ H x xs v us Q I rx rs q
  · exact h' pins s σ H x xs v us Q I rx rs q
/-- a[b] -/
theorem pe_ix {r : R2} (hr : IxR X r) (ha : PE X a ta) (hb : PE X b tb) (hs : PlainIx b) : PE X (.Subscript a b pos) (tOp r ta tb) := by
  intro pins s σ H Q I h
  exact Subscript_ (binT ha hb I h fun v u s2 x y H2 I2 rx ry q => hr a b pins s2 σ H2 x y v u Q I2 rx ry q (hs _ _))

def rIxL (K : PySem.W.Frag) : R2 := fun x y H Q => ∃ p xs i v, x = .ref p ∧ y = .int i ∧ SqL K H p xs ∧ atI xs i = some v ∧ Q v H
def rIxT (K : PySem.W.Frag) : R2 := fun x y H Q => ∃ p xs i v, x = .ref p ∧ y = .int i ∧ SqT K H p xs ∧ atI xs i = some v ∧ Q v H
def rIxS : R2 := fun x y H Q => ∃ z i c, x = .str z ∧ y = .int i ∧ z.length ≤ sizeLine ∧ atI z.cps.toList i = some c ∧ Q (.str ⟨#[c]⟩) H
theorem ix_list : IxR X (rIxL X.K) := by
  intro value slice pins s σ H x y v u Q I rx ry h hs
  obtain ⟨p, xs, i, z, rfl, rfl, hq, he, q⟩ := h
  cases rx
  obtain ⟨t, rfl⟩ := ry
  obtain ⟨its, r, pl, hz⟩ := I.list hq
  obtain ⟨j, h1, h2, h3, h4, h5⟩ := atI_get he
  obtain ⟨w, ew, rw'⟩ := r.get h2
  have hl := r.length
  have hn := line63
  have fin : EP X pins σ Q w s := ⟨z, H, I, rw', q⟩
  by_cases h0 : 0 ≤ i
  · have hj : i.toNat = j := by
      rw [seqIndex_of h0 h5] at h1
      exact Option.some.inj h1
    exact item_listR pl.isList h0 (by omega) (by rw [hj]; simpa using ew) fin hs
  · have hj : (i + (its.toArray.size : Int)).toNat = j := by
      rw [seqIndex_neg (by omega) h4] at h1
      rw [List.size_toArray, ← hl]
      exact Option.some.inj h1
    exact subscriptTail_builtinR (x := w) pl.isList.typeIs slot_list_getitem.lookup
      (wpAny_getItem_list_neg (Q := fun r s' => r = w ∧ EP X pins σ Q r s') pl.isList (by omega) (by rw [List.size_toArray] <;> omega) (by omega) (by rw [hj]; simpa using ew) ⟨rfl, fin⟩) hs
theorem ix_tup : IxR X (rIxT X.K) := by
  intro value slice pins s σ H x y v u Q I rx ry h hs
  obtain ⟨p, xs, i, z, rfl, rfl, hq, he, q⟩ := h
  cases rx
  obtain ⟨t, rfl⟩ := ry
  obtain ⟨its, r, pl, hz⟩ := I.tuple hq
  obtain ⟨j, h1, h2, h3, h4, h5⟩ := atI_get he
  obtain ⟨w, ew, rw'⟩ := r.get h2
  have hl := r.length
  have hn := line63
  have fin : EP X pins σ Q w s := ⟨z, H, I, rw', q⟩
  exact subscriptTail_builtinR (x := w) pl.typeIs slot_tuple_getitem.lookup
    (getItem_tuple (j := j) (Q := fun r s' => r = w ∧ EP X pins σ Q r s') pl (by omega) (by omega) (by rw [List.size_toArray, ← hl]; exact h1) (by simpa using ew) ⟨rfl, fin⟩) hs
theorem ix_str : IxR X rIxS := by
  intro value slice pins s σ H x y v u Q I rx ry h hs
  obtain ⟨z, i, c, rfl, rfl, hz, he, q⟩ := h
  obtain ⟨t, rfl⟩ := rx
  obtain ⟨t', rfl⟩ := ry
  obtain ⟨j, h1, h2, h3, h4, h5⟩ := atI_get he
  have hl : z.cps.toList.length = z.length := by simp [Str.length]
  rw [hl] at h1 h4 h5
  have hn := line63
  exact tail_any (typeIs_str s z t) slot_str_getitem.lookup (getItem_str (c := c) (by
    have e1 : decide (i < -(2 ^ 63 : Int)) = false := decide_eq_false (by omega)
    have e2 : decide (i ≥ 2 ^ 63) = false := decide_eq_false (by omega)
    rw [e1, e2, Bool.or_false]) (by rw [h1]; simpa using h2) ⟨.str ⟨#[c]⟩, H, I.tok _, ⟨_, rfl⟩, q⟩) hs

/-! ### xs[i] = v, any sign -/
/-- the list's object behind a store -/
theorem mapSeq_set (its : List Value) (n j : Nat) (u : Value) : Obj.mapSeq (·.setIfInBounds j u) { cls := .type "list", data := .seq its.toArray n } = { cls := .type "list", data := .seq (its.set j u).toArray n } := by
  simp [Obj.mapSeq]
theorem Inv.lst {pins : List (Addr × Obj)} {σ : St} {H : Hp} {s : Shared} {p : Addr} {xs : List V} (I : Inv X pins σ H s) (h : H p = some (.lst xs)) :
    ∃ (its : List Value) (n : Nat), Vals xs its ∧ s.heap.get? p = some { cls := .type "list", data := .seq its.toArray n } ∧ xs.length ≤ sizeLine := by
  obtain ⟨z, its, n, r, e⟩ := I.hok p _ h
  exact ⟨its, n, r, e, z⟩
/-- the list at p is written by an update of its object -/
theorem Inv.lstUpd {pins : List (Addr × Obj)} {σ : St} {H : Hp} {s : Shared} {p : Addr} {xs ys : List V} {its its' : List Value} {n n' : Nat} {f : Obj → Obj} (I : Inv X pins σ H s) (h : H p = some (.lst xs))
    (ho : s.heap.get? p = some { cls := .type "list", data := .seq its.toArray n }) (hf : f { cls := .type "list", data := .seq its.toArray n } = { cls := .type "list", data := .seq its'.toArray n' }) (r : Vals ys its') (hz : ys.length ≤ sizeLine) (t : Nat) :
    Inv X pins σ (upd H p (.lst ys)) { s with heap := s.heap.update p f, toks := t } := by
  have e : (s.heap.update p f).get? p = some { cls := .type "list", data := .seq its'.toArray n' } := by
    rw [Heap.get?_update_self f ho (by rw [hf] <;> rfl), hf]
  refine I.write (x := p) (e := p) (by rw [h]; trivial) (.inl rfl) (fun b u hb q => (Heap.get?_update_other _ _ (Ne.symm hb)).trans q) ⟨_, e⟩ ?_
  exact ⟨hz, its', n', r, e⟩
def rSetL : V → V → V → Hp → (Hp → Prop) → Prop := fun o i v H Q => ∃ p xs k j, o = .ref p ∧ i = .int k ∧ H p = some (.lst xs) ∧ ixN xs.length k = some j ∧ Q (upd H p (.lst (xs.set j v)))
theorem set_list : PSet X rSetL := by
  intro pins s σ H o i v ov iv u Q I ro ri rv h
  obtain ⟨p, xs, k, j, rfl, rfl, hp, hj, q⟩ := h
  cases ro
  obtain ⟨t, rfl⟩ := ri
  obtain ⟨its, n, r, ho, hz⟩ := I.lst hp
  obtain ⟨h1, h2, h3, h4⟩ := ixN_seq hj
  have hl := r.length
  have hn := line63
  have I' : Inv X pins σ (upd H p (.lst (xs.set j v))) { s with heap := s.heap.update p (Obj.mapSeq (·.setIfInBounds j u)) } :=
    I.lstUpd hp ho (mapSeq_set its n j u) (r.set rv j) (by rw [List.length_set]; exact hz) s.toks
  by_cases h0 : 0 ≤ k
  · have hk : k.toNat = j := by
      rw [seqIndex_of h0 h4] at h1
      exact Option.some.inj h1
    exact PySem.W.ki_setAt ho h0 (by omega) (by rw [List.size_toArray, ← hl]; exact h4) (by rw [hk]; exact ⟨_, I', q⟩)
  · have hk : (k + (its.toArray.size : Int)).toNat = j := by
      rw [seqIndex_neg (by omega) h3] at h1
      rw [List.size_toArray, ← hl]
      exact Option.some.inj h1
    exact PySem.W.ki_setBack ho (by omega) (by rw [List.size_toArray, ← hl]; exact h3) (by omega) (by rw [hk]; exact ⟨_, I', q⟩)

/-! ### slices -/
theorem slice_bounds (lo hi : Option Int) (n : Nat) : (sliceBounds lo hi none n).1 = ((HT.sIx n 0 lo : Nat) : Int) ∧ (sliceBounds lo hi none n).2.1 = ((HT.sIx n n hi : Nat) : Int) ∧ (sliceBounds lo hi none n).2.2 = 1 := by
  refine ⟨?_, ?_, rfl⟩
  · cases lo with
    | none => simp [sliceBounds, HT.sIx]
    | some i =>
      simp only [sliceBounds, HT.sIx, Option.getD_none, show (1 : Int) > 0 by decide, if_true]
      by_cases h : i < 0
      · simp only [h, if_true] <;> omega
      · simp only [h, if_false] <;> omega
  · cases hi with
    | none => simp [sliceBounds, HT.sIx]
    | some i =>
      simp only [sliceBounds, HT.sIx, Option.getD_none, show (1 : Int) > 0 by decide, if_true]
      by_cases h : i < 0
      · simp only [h, if_true] <;> omega
      · simp only [h, if_false] <;> omega
theorem slicePick_cut (its : List Value) (lo hi : Option Int) : slicePick its.toArray lo hi none = ((its.drop (HT.sIx its.length 0 lo)).take (HT.sIx its.length its.length hi - HT.sIx its.length 0 lo)).toArray := by
  obtain ⟨h1, h2, h3⟩ := slice_bounds lo hi its.toArray.size
  unfold slicePick
  rw [h1, h2, h3]
  simp only [sliceRange_one, pick_run, List.size_toArray] <;> rfl
/-- xs[lo:hi] of a list: a new list -/
def rSlL (K : PySem.W.Frag) : V → Option Int → Option Int → Hp → VK → Prop := fun x lo hi H Q => ∃ a xs, x = .ref a ∧ SqL K H a xs ∧ ∀ p, H p = none → Q (.ref p) (upd H p (.lst (cutV xs lo hi)))
theorem sl_list : SlR X (rSlL X.K) := by
  intro pins s σ H x v vl vu lo hi sl Q I rx hs pl pu h
  obtain ⟨a, xs, rfl, hx, q⟩ := h
  cases rx
  obtain ⟨its, r, ht, hz⟩ := I.list hx
  have hlen := r.length
  refine ⟨"list", _, slot_list_getitem.lookup, ht.isList.typeIs, ?_⟩
  refine wpAny_getItem_list_slice ht.isList hs pl pu .none (by simp) ?_ (by rw [List.size_toArray] <;> omega)
  rw [slicePick_cut, ← hlen]
  refine ⟨.ref s.heap.objs.size, _, I.laid (t' := s.toks) (o := .lst (cutV xs lo hi)) (fun b ob q => Heap.get?_push_of_some _ q) (Nat.le_refl _) ?_, rfl, q _ (I.hok.fresh (Nat.le_refl _))⟩
  exact ⟨Nat.le_trans (cutV_length xs lo hi) hz, _, 0, (r.drop (HT.sIx xs.length 0 lo)).take (HT.sIx xs.length xs.length hi - HT.sIx xs.length 0 lo), Heap.get?_push_size _ rfl⟩

/-! ### in, not in: flat items -/
def flatV : V → Bool
  | .non => true
  | .bl _ => true
  | .int _ => true
  | .str _ => true
  | _ => false
/-- == of flat values -/
def eqV : V → V → Bool
  | .non, .non => true
  | .bl a, .bl b => a == b
  | .bl a, .int b => (if a then 1 else 0) == b
  | .int a, .bl b => a == (if b then 1 else 0)
  | .int a, .int b => a == b
  | .str a, .str b => a == b
  | _, _ => false
theorem eqAt_V {A : Around} {s : Shared} {y x : V} {u v : Value} (ry : RelV y u) (rx : RelV x v) (fy : flatV y = true) (fx : flatV x = true) : SeqAt.EqAt A s u v (eqV y x) := by
  cases y with
  | non =>
    cases ry
    cases x with
    | non => cases rx; exact SeqAt.EqAt.same _
    | bl b => cases rx; exact SeqAt.EqAt.none_bool b
    | int b => obtain ⟨t, rfl⟩ := rx; exact SeqAt.EqAt.none_int b t
    | str b => obtain ⟨t, rfl⟩ := rx; exact SeqAt.EqAt.none_str b t
    | _ => exact absurd (show false = true from fx) Bool.false_ne_true
  | bl a =>
    cases ry
    cases x with
    | non => cases rx; exact SeqAt.EqAt.bool_none a
    | bl b => cases rx; exact SeqAt.EqAt.bool_bool a b
    | int b => obtain ⟨t, rfl⟩ := rx; exact SeqAt.EqAt.bool_int a b t
    | str b => obtain ⟨t, rfl⟩ := rx; exact SeqAt.EqAt.bool_str a b t
    | _ => exact absurd (show false = true from fx) Bool.false_ne_true
  | int a =>
    obtain ⟨t', rfl⟩ := ry
    cases x with
    | non => cases rx; exact SeqAt.EqAt.int_none a t'
    | bl b => cases rx; exact SeqAt.EqAt.int_bool a t' b
    | int b => obtain ⟨t, rfl⟩ := rx; exact SeqAt.EqAt.int_int a t' b t
    | str b => obtain ⟨t, rfl⟩ := rx; exact SeqAt.EqAt.int_str a t' b t
    | _ => exact absurd (show false = true from fx) Bool.false_ne_true
  | str a =>
    obtain ⟨t', rfl⟩ := ry
    cases x with
    | non => cases rx; exact SeqAt.EqAt.str_none a t'
    | bl b => cases rx; exact SeqAt.EqAt.str_bool a t' b
    | int b => obtain ⟨t, rfl⟩ := rx; exact SeqAt.EqAt.str_int a t' b t
    | str b => obtain ⟨t, rfl⟩ := rx; exact SeqAt.EqAt.str_str a t' b t
    | _ => exact absurd (show false = true from fx) Bool.false_ne_true
  | _ => exact absurd (show false = true from fy) Bool.false_ne_true
/-- the items' answers, read off the values (a value's own answer does not lean on its token) -/
def eqU (x : V) (u : Value) : Bool := match u with
  | .none => eqV .non x
  | .bool b => eqV (.bl b) x
  | .int i _ => eqV (.int i) x
  | .str z _ => eqV (.str z) x
  | _ => false
theorem eqU_of {x y : V} {u : Value} (r : RelV y u) (f : flatV y = true) : eqU x u = eqV y x := by
  cases y with
  | non => cases r; rfl
  | bl b => cases r; rfl
  | int i => obtain ⟨t, rfl⟩ := r; rfl
  | str z => obtain ⟨t, rfl⟩ := r; rfl
  | _ => exact absurd (show false = true from f) Bool.false_ne_true
theorem any_eqU {x : V} : ∀ {xs : List V} {us : List Value}, Vals xs us → xs.all flatV = true → us.any (eqU x) = xs.any fun y => eqV y x
  | _, _, .nil, _ => rfl
  | y :: xs, u :: us, .cons r t, f => by
    rw [List.all_cons, Bool.and_eq_true] at f
    rw [List.any_cons, List.any_cons, eqU_of r f.1, any_eqU t f.2]
theorem mem_eqAt {A : Around} {s : Shared} {x : V} {v : Value} (rx : RelV x v) (fx : flatV x = true) : ∀ {xs : List V} {us : List Value}, Vals xs us → xs.all flatV = true → ∀ u ∈ us, SeqAt.EqAt A s u v (eqU x u)
  | _, _, .nil, _ => fun u hu => by cases hu
  | y :: xs, u :: us, .cons r t, f => fun u' hu => by
    rw [List.all_cons, Bool.and_eq_true] at f
    rcases List.mem_cons.mp hu with rfl | hu
    · rw [eqU_of r f.1]; exact eqAt_V r rx f.1 fx
    · exact mem_eqAt rx fx t f.2 u' hu
def inV (x : V) (xs : List V) : Bool := xs.any fun y => eqV y x
/-- x in a list or tuple of flat items -/
def rIn (K : PySem.W.Frag) (neg : Bool) : R2 := fun x y H Q => ∃ p xs, y = .ref p ∧ (SqL K H p xs ∨ SqT K H p xs) ∧ flatV x = true ∧ xs.all flatV = true ∧ Q (.bl (if neg then !inV x xs else inV x xs)) H
theorem op_in_seq : OpR X (compareOp .In) (rIn X.K false) := by
  intro pins s σ H x y v u Q I rx ry h
  obtain ⟨p, xs, rfl, hq, fx, fs, q⟩ := h
  cases ry
  rcases hq with hq | hq
  · obtain ⟨its, r, pl, hz⟩ := I.list hq
    refine SeqAt.in_listAt (eqU x) pl.isList (fun w hw => mem_eqAt rx fx r fs w (by simpa using hw)) ⟨.bl _, H, I, rfl, ?_⟩
    rw [show its.toArray.any (eqU x) = its.any (eqU x) by simp, any_eqU r fs]
    exact q
  · obtain ⟨its, r, pl, hz⟩ := I.tuple hq
    refine SeqAt.in_tupleAt (eqU x) pl (fun w hw => mem_eqAt rx fx r fs w (by simpa using hw)) ⟨.bl _, H, I, rfl, ?_⟩
    rw [show its.toArray.any (eqU x) = its.any (eqU x) by simp, any_eqU r fs]
    exact q
theorem op_notIn_seq : OpR X (compareOp .NotIn) (rIn X.K true) := by
  intro pins s σ H x y v u Q I rx ry h
  obtain ⟨p, xs, rfl, hq, fx, fs, q⟩ := h
  cases ry
  rcases hq with hq | hq
  · obtain ⟨its, r, pl, hz⟩ := I.list hq
    refine SeqAt.notIn_listAt (eqU x) pl.isList (fun w hw => mem_eqAt rx fx r fs w (by simpa using hw)) ⟨.bl _, H, I, rfl, ?_⟩
    rw [show its.toArray.any (eqU x) = its.any (eqU x) by simp, any_eqU r fs]
    exact q
  · obtain ⟨its, r, pl, hz⟩ := I.tuple hq
    refine SeqAt.notIn_tupleAt (eqU x) pl (fun w hw => mem_eqAt rx fx r fs w (by simpa using hw)) ⟨.bl _, H, I, rfl, ?_⟩
    rw [show its.toArray.any (eqU x) = its.any (eqU x) by simp, any_eqU r fs]
    exact q

/-! ### len, list(x), tuple(x) of any list or tuple that is read -/
theorem call_len_seq : CallR X (.builtin "len") (fun xs H Q => ∃ p ys, xs = [.ref p] ∧ (SqL X.K H p ys ∨ SqT X.K H p ys) ∧ Q (.int ys.length) H) := by
  intro pins s σ H xs us Q I r h
  obtain ⟨p, ys, rfl, hq, q⟩ := h
  obtain ⟨u, rfl, rx⟩ := vals1 r
  cases rx
  have hn := line63
  rcases hq with hq | hq
  · obtain ⟨its, r', pl, hz⟩ := I.list hq
    have hlen := r'.length
    exact Calls.call_len_list pl.isList (by simp only [List.size_toArray] <;> omega) ⟨.int ys.length, H, I.tok _, ⟨s.toks + 1, by rw [List.size_toArray, hlen]⟩, q⟩
  · obtain ⟨its, r', pl, hz⟩ := I.tuple hq
    have hlen := r'.length
    exact len_tuple pl (by simp only [List.size_toArray] <;> omega) ⟨.int ys.length, H, I.tok _, ⟨s.toks + 1, by rw [List.size_toArray, hlen]⟩, q⟩
theorem call_len_str : CallR X (.builtin "len") (fun xs H Q => ∃ z, xs = [.str z] ∧ z.length ≤ sizeLine ∧ Q (.int z.length) H) := by
  intro pins s σ H xs us Q I r h
  obtain ⟨z, rfl, hz, q⟩ := h
  obtain ⟨u, rfl, t, rfl⟩ := vals1 r
  have hn := line63
  exact len_str (by omega) ⟨.int z.length, H, I.tok _, ⟨_, rfl⟩, q⟩
theorem CallR.or {f : Value} {r r' : List V → Hp → VK → Prop} (h : CallR X f r) (h' : CallR X f r') : CallR X f (fun xs H Q => r xs H Q ∨ r' xs H Q) := by
  intro pins s σ H xs us Q I rs q
  rcases q with q | q
  · exact h pins s σ H xs us Q I rs q
  · exact h' pins s σ H xs us Q I rs q
theorem call_list_of : CallR X (.type "list") (fun xs H Q => ∃ p ys, xs = [.ref p] ∧ (SqL X.K H p ys ∨ SqT X.K H p ys) ∧ ∀ l, H l = none → Q (.ref l) (upd H l (.lst ys))) := by
  intro pins s σ H xs us Q I r h
  obtain ⟨p, ys, rfl, hq, q⟩ := h
  obtain ⟨u, rfl, rx⟩ := vals1 r
  cases rx
  have fin : ∀ (its : List Value), Vals ys its → ys.length ≤ sizeLine → ∀ (h' : Heap) (c' : Nat), (∀ b o', s.heap.get? b = some o' → h'.get? b = some o') →
      h'.get? s.heap.objs.size = some { cls := .type "list", dict := none, data := .seq its.toArray c', slots := #[] } → EP X pins σ Q (.ref s.heap.objs.size) { s with heap := h' } := fun its r' hz h' c' kp e =>
    ⟨.ref s.heap.objs.size, _, I.laid (t' := s.toks) kp (Nat.le_refl _) (show ObjOk X.prog X.w _ h' _ (.lst ys) from ⟨hz, its, c', r', e⟩), rfl, q _ (I.hok.fresh (Nat.le_refl _))⟩
  rcases hq with hq | hq
  · obtain ⟨its, r', pl, hz⟩ := I.list hq
    have hlen := r'.length
    obtain ⟨o, ho, hc, n, hd⟩ := pl.isList
    exact call_list_seq p (.inl rfl) ho hc hd (fun h' c' kp e => fin its r' hz h' c' kp e) (by simp only [List.size_toArray] <;> omega)
  · obtain ⟨its, r', pl, hz⟩ := I.tuple hq
    have hlen := r'.length
    obtain ⟨o, ho, hc, n, hd⟩ := pl
    exact call_list_seq p (.inr rfl) ho hc hd (fun h' c' kp e => fin its r' hz h' c' kp e) (by simp only [List.size_toArray] <;> omega)
theorem call_tuple_of : CallR X (.type "tuple") (fun xs H Q => ∃ p ys, xs = [.ref p] ∧ ((SqL X.K H p ys ∧ ∀ l, H l = none → Q (.ref l) (upd H l (.tup ys))) ∨ (SqT X.K H p ys ∧ Q (.ref p) H))) := by
  intro pins s σ H xs us Q I r h
  obtain ⟨p, ys, rfl, h⟩ := h
  obtain ⟨u, rfl, rx⟩ := vals1 r
  cases rx
  rcases h with ⟨hq, q⟩ | ⟨hq, q⟩
  · obtain ⟨its, r', pl, hz⟩ := I.list hq
    have hlen := r'.length
    refine call_tuple_list pl.isList (fun h' kp => ?_) (by simp only [List.size_toArray] <;> omega)
    have I1 : Inv X pins σ H { s with heap := h' } := I.kept (t' := s.toks) kp
    have I2 : Inv X pins σ (upd H h'.objs.size (.tup ys)) { s with heap := h'.push { cls := .type "tuple", data := .seq its.toArray } } :=
      I1.laid (t' := s.toks) (fun b o e => Heap.get?_push_of_some _ e) (Nat.le_refl _) (show ObjOk X.prog X.w _ _ _ (.tup ys) from ⟨hz, its, r', IsTup.new _ _⟩)
    exact ⟨.ref h'.objs.size, _, I2, rfl, q _ (I1.hok.fresh (Nat.le_refl _))⟩
  · obtain ⟨its, r', pl, hz⟩ := I.tuple hq
    exact call_tuple_same pl ⟨.ref p, H, I, rfl, q⟩

/-! ### the call of a builtin's method: o.m(..) -/
/-- the value is of that builtin type -/
def tyV (K : PySem.W.Frag) (T : String) (x : V) (H : Hp) : Prop := match x with
  | .str _ => T = "str"
  | .int _ => T = "int"
  | .ref p => (T = "list" ∧ ∃ xs, SqL K H p xs) ∨ (T = "tuple" ∧ ∃ o, K.lookup p = some o ∧ o.cls = .type "tuple" ∧ o.dict = none) ∨
      (T = "dict" ∧ ((∃ kvs, H p = some (.dK kvs)) ∨ ∃ kvs, H p = some (.dT kvs))) ∨ (T = "set" ∧ ∃ S n, H p = some (.set S n))
  | _ => False
theorem tyV_is {pins : List (Addr × Obj)} {σ : St} {H : Hp} {s : Shared} {T : String} {x : V} {v : Value} (I : Inv X pins σ H s) (r : RelV x v) (ty : tyV X.K T x H) :
    s.TypeIs v T ∧ ∀ a, v = .ref a → ∃ ob, s.heap.get? a = some ob ∧ ob.dict = none := by
  cases x with
  | str z =>
    obtain ⟨t, rfl⟩ := r
    cases (show T = "str" from ty)
    exact ⟨typeIs_str s z t, fun _ e => nomatch e⟩
  | int i =>
    obtain ⟨t, rfl⟩ := r
    cases (show T = "int" from ty)
    exact ⟨typeIs_int s i t, fun _ e => nomatch e⟩
  | ref p =>
    cases r
    rcases ty with ⟨rfl, xs, hq⟩ | ⟨rfl, o, hk, hc, hd⟩ | ⟨rfl, hk⟩ | ⟨rfl, S, n, hk⟩
    · obtain ⟨its, _, pl, _⟩ := I.list hq
      refine ⟨pl.isList.typeIs, fun a e => ?_⟩
      cases e
      obtain ⟨o, n, e, c, hd, _⟩ := pl
      exact ⟨o, e, hd⟩
    · refine ⟨⟨o, I.kIn p o hk, hc⟩, fun a e => ?_⟩
      cases e
      exact ⟨o, I.kIn _ o hk, hd⟩
    · have z : ∃ o, s.heap.get? p = some o ∧ o.ExactDict := by
        rcases hk with ⟨kvs, hk⟩ | ⟨kvs, hk⟩
        · obtain ⟨_, _, _, _, o, _, _, e, ex, _⟩ := I.hok p _ hk
          exact ⟨o, e, ex⟩
        · obtain ⟨_, _, _, _, o, _, _, e, ex, _⟩ := I.hok p _ hk
          exact ⟨o, e, ex⟩
      obtain ⟨o, e, ex⟩ := z
      refine ⟨⟨o, e, ex.1⟩, fun a e2 => ?_⟩
      cases e2
      exact ⟨o, e, ex.2.1⟩
    · obtain ⟨o, _, _, _, e, ex, _⟩ := I.hok p _ hk
      refine ⟨⟨o, e, ex.1⟩, fun a e2 => ?_⟩
      cases e2
      exact ⟨o, e, ex.2.1⟩
  | _ => exact False.elim ty
def tBM (K : PySem.W.Frag) (T : String) (r : V → List V → Hp → VK → Prop) (to : TE) (t : TA) : TE := fun σ H Q => to σ H fun x H1 => tyV K T x H1 ∧ t σ H1 fun xs H2 => r x xs H2 Q
variable {o e : Expr} {es : List Expr} {to : TE} {t : TA} {name : Str} {apos cpos : Pos} {T id : String} {r : V → List V → Hp → VK → Prop}
theorem pe_bm (pa : PlainAttrs T) (slot : Slot T name id) (hty : typeOf (.builtin id) = pure (.type "method_descriptor")) (hm : MtR X id r) (ho : PE X o to) (ha : PA X (e :: es) t)
    (hbase : attributeBase o name X.env (eval o X.env) = eval o X.env := by rfl)
    (hfew : ((backTo cpos (starEach (e :: es) X.env)).all (fun x => !x.1) && (backToKw cpos (keywordEach [] X.env)).all (fun x => x.1.isSome)
      && decide ((e :: es).length + ([] : List Keyword).length + (if ([] : List Keyword).isEmpty then 0 else 1) < 30)) = true := by rfl)
    (hline : (apos.endLine == cpos.line) = true := by rfl) (hs : starEach (e :: es) X.env = (false, eval e X.env) :: starEach es X.env := by rfl) (hplain : (backTo cpos (starEach es X.env)).any (·.1) = false := by rfl) :
    PE X (.Call (.Attribute o name apos) (e :: es) [] cpos) (tBM X.K T r to t) := by
  intro pins s σ H Q I h
  refine wpAny_Call_method_late hbase hfew hline rfl (thn (ho pins s σ H _ I h) fun v s1 ⟨x, H1, I1, r1, ty, q1⟩ => ?_)
  obtain ⟨h1, h2⟩ := tyV_is I1 r1 ty
  refine ⟨T, id, pa, slot, hty, h1, h2, ?_⟩
  have hA := ha cpos pins s1 σ H1 _ I1 q1
  rw [hs] at hA ⊢
  refine Calls.callWith_builtin (by show (false || (backTo cpos (starEach es X.env)).any (·.1)) = false; rw [hplain] <;> rfl) (Calls.evalArgs_plain ?_)
  exact thn hA fun us s2 ⟨vs, H2, I2, r2, q2⟩ => hm pins s2 σ H2 x vs v us Q I2 r1 r2 q2
/- xs.append(e), list.index on a module's tuple .. are MtR facts of 06m -/
end
end L2

namespace L2
open PySem PySem.Spec PyProof.Rows

def MtM (X : Cx) (id : String) (r : V → List V → Hp → VK → Prop) : Prop :=
  ∀ (pins : List (Addr × Obj)) (s : Shared) (σ : St) (H : Hp) (x : V) (xs : List V) (v : Value) (us : List Value) (Q : VK), Inv X pins σ H s → RelV x v → Vals xs us → r x xs H Q →
    wpAny (model X.prog X.w) X.A (call (.builtin id) (v :: us)) (EP X pins σ Q) X.xe s

/-! ### lists of values -/
theorem Vals.one : ∀ {x : V} {us : List Value}, Vals [x] us → ∃ u, us = [u] ∧ RelV x u
  | _, _, .cons r .nil => ⟨_, rfl, r⟩
theorem Vals.two : ∀ {x y : V} {us : List Value}, Vals [x, y] us → ∃ u v, us = [u, v] ∧ RelV x u ∧ RelV y v
  | _, _, _, .cons r (.cons q .nil) => ⟨_, _, rfl, r, q⟩
theorem Vals.zero : ∀ {us : List Value}, Vals [] us → us = []
  | _, .nil => rfl
theorem Vals.dropLast {xs : List V} {us : List Value} (h : Vals xs us) : Vals xs.dropLast us.dropLast := by
  induction h with
  | nil => exact .nil
  | cons r t ih =>
    cases t with
    | nil => exact .nil
    | cons q t' => exact .cons r ih
theorem Vals.eraseIdx : ∀ {xs : List V} {us : List Value} (i : Nat), Vals xs us → Vals (xs.eraseIdx i) (us.eraseIdx i)
  | _, _, _, .nil => .nil
  | _, _, 0, .cons _ t => t
  | _, _, i + 1, .cons r t => .cons r (Vals.eraseIdx i t)
theorem Vals.reverse {xs : List V} {us : List Value} (h : Vals xs us) : Vals xs.reverse us.reverse := by
  induction h with
  | nil => exact .nil
  | cons r t ih => rw [List.reverse_cons, List.reverse_cons]; exact Vals.append ih (.cons r .nil)
theorem Vals.rep {xs : List V} {us : List Value} (h : Vals xs us) : ∀ k : Nat, Vals (List.replicate k xs).flatten (List.replicate k us).flatten
  | 0 => .nil
  | k + 1 => by
    rw [List.replicate_succ, List.replicate_succ, List.flatten_cons, List.flatten_cons]
    exact Vals.append h (Vals.rep h k)
theorem len_erase {α : Type} : ∀ (l : List α) (i : Nat), (l.eraseIdx i).length ≤ l.length
  | [], _ => Nat.le_refl _
  | _ :: _, 0 => Nat.le_succ _
  | _ :: r, i + 1 => Nat.succ_le_succ (len_erase r i)
theorem foldl_rep (its : List Value) : ∀ (k : Nat) (acc : List Value),
    List.foldl (fun x1 x2 => x1 ++ x2) acc.toArray (List.replicate k its.toArray) = (acc ++ (List.replicate k its).flatten).toArray
  | 0, acc => by simp
  | k + 1, acc => by
    have e : acc.toArray ++ its.toArray = (acc ++ its).toArray := by simp
    have e2 : (acc ++ its) ++ (List.replicate k its).flatten = acc ++ (List.replicate (k + 1) its).flatten := by
      rw [List.replicate_succ, List.flatten_cons, List.append_assoc]
    rw [← e2, ← foldl_rep its k (acc ++ its), ← e, List.replicate_succ, List.foldl_cons]

section
variable {X : Cx} {pins : List (Addr × Obj)} {σ : St} {H : Hp} {s : Shared} {l b : Addr} {xs ys zs : List V}

/-! ### the two steps: a tracked list is rewritten, a new list is laid -/
theorem Inv.lset {its its' : List Value} {n : Nat} {f : Array Value → Array Value} {t' : Nat} (I : Inv X pins σ H s) (hH : H l = some (.lst xs))
    (e : s.heap.get? l = some { cls := .type "list", data := .seq its.toArray n }) (hf : f its.toArray = its'.toArray) (hv : Vals ys its') (hz : ys.length ≤ sizeLine) :
    Inv X pins σ (upd H l (.lst ys)) { s with heap := s.heap.update l (Obj.mapSeq f), toks := t' } := by
  have q := PySem.IsL.update e f
  rw [hf] at q
  refine I.write (x := l) (e := l) (by rw [hH]; exact trivial) (.inl rfl) (fun b' u hb hu => (Heap.get?_update_other s.heap (Obj.mapSeq f) (Ne.symm hb)).trans hu) ⟨_, q⟩ ?_
  exact ⟨hz, its', _, hv, q⟩
theorem Inv.lnew {its : List Value} {t' : Nat} (I : Inv X pins σ H s) (hv : Vals ys its) (hz : ys.length ≤ sizeLine) :
    Inv X pins σ (upd H s.heap.objs.size (.lst ys)) { s with heap := s.heap.push { cls := .type "list", data := .seq its.toArray }, toks := t' } :=
  I.laid (fun _ _ q => Heap.get?_push_of_some _ q) (Nat.le_refl _) ⟨hz, its, 0, hv, Heap.get?_push_size _ rfl⟩
theorem Inv.fresh (I : Inv X pins σ H s) : H s.heap.objs.size = none := I.hok.fresh (Nat.le_refl _)
theorem Inv.lstM (I : Inv X pins σ H s) (hH : H l = some (.lst xs)) : xs.length ≤ sizeLine ∧ ∃ (its : List Value) (n : Nat), Vals xs its ∧ xs.length = its.length ∧ s.heap.get? l = some { cls := .type "list", data := .seq its.toArray n } := by
  obtain ⟨z, its, n, r, e⟩ := I.hok l _ hH
  exact ⟨z, its, n, r, r.length, e⟩

theorem notLongL {n : Nat} (h : n ≤ sizeLine) : Builtin.List.listTooLong n = false := by
  unfold Builtin.List.listTooLong
  exact decide_eq_false (by omega)
end

section
variable {X : Cx}

/-! ### methods -/
def rAppend : V → List V → Hp → VK → Prop := fun x vs H Q => ∃ l xs y, x = .ref l ∧ vs = [y] ∧ H l = some (.lst xs) ∧ xs.length < sizeLine ∧ Q .non (upd H l (.lst (xs ++ [y])))
theorem mt_append : MtM X "list.append" rAppend := by
  intro pins s σ H x vs v us Q I rx rv h
  obtain ⟨l, xs, y, rfl, rfl, hH, hz, q⟩ := h
  cases rx
  obtain ⟨u, rfl, ru⟩ := rv.one
  obtain ⟨z, its, n, r, hl, e⟩ := I.lstM hH
  refine call_meets F.slot_list_append ⟨_, e, rfl⟩ F.entry_list_append (F.args_list_append_2 _ _) (PySem.list_append l its.toArray n u (by rw [List.size_toArray]; omega)) ⟨e, ?_⟩
  refine ⟨.non, _, I.lset (its' := its ++ [u]) hH e (by simp) (r.append (.cons ru .nil)) ?_, rfl, q⟩
  rw [List.length_append, List.length_singleton]
  omega

def rExtend : V → List V → Hp → VK → Prop := fun x vs H Q => ∃ l b xs zs, x = .ref l ∧ vs = [.ref b] ∧ H l = some (.lst xs) ∧ H b = some (.lst zs) ∧ xs.length + zs.length ≤ sizeLine ∧ Q .non (upd H l (.lst (xs ++ zs)))
theorem mt_extend : MtM X "list.extend" rExtend := by
  intro pins s σ H x vs v us Q I rx rv h
  obtain ⟨l, b, xs, zs, rfl, rfl, hH, hB, hz, q⟩ := h
  cases rx
  obtain ⟨u, rfl, ru⟩ := rv.one
  cases ru
  obtain ⟨z, its, n, r, hl, e⟩ := I.lstM hH
  obtain ⟨z2, its2, n2, r2, hl2, e2⟩ := I.lstM hB
  have hsz : its.toArray.size + its2.toArray.size ≤ sizeLine := by rw [List.size_toArray, List.size_toArray]; omega
  have hlong : ¬ (!its.toArray.isEmpty && Builtin.List.listTooLong (its.toArray.size + its2.toArray.size)) = true := by
    rw [notLongL hsz, Bool.and_false]
    exact Bool.false_ne_true
  refine call_meets F.slot_list_extend ⟨_, e, rfl⟩ F.entry_list_extend (F.args_list_extend_2 _ _)
    (AutoSeq1.list_extend_list_list_0 l its.toArray n b its2.toArray n2 hlong (by rw [List.size_toArray]; omega) (by omega)) ⟨e, e2, ?_⟩
  refine ⟨.non, _, I.lset (its' := its ++ its2) hH e (by simp) (r.append r2) ?_, rfl, q⟩
  rw [List.length_append]
  omega


def rPopAt : V → List V → Hp → VK → Prop := fun x vs H Q => ∃ l xs i k y, x = .ref l ∧ vs = [.int i] ∧ H l = some (.lst xs) ∧ -(2 ^ 63) ≤ i ∧ i < 2 ^ 63 ∧ seqIndex? i xs.length = some k ∧ xs[k]? = some y ∧ Q y (upd H l (.lst (xs.eraseIdx k)))
theorem mt_popAt : MtM X "list.pop" rPopAt := by
  intro pins s σ H x vs v us Q I rx rv h
  obtain ⟨l, xs, i, k, y, rfl, rfl, hH, h1, h2, hk, hy, q⟩ := h
  cases rx
  obtain ⟨u, rfl, ru⟩ := rv.one
  obtain ⟨t, rfl⟩ := ru
  obtain ⟨z, its, n, r, hl, e⟩ := I.lstM hH
  obtain ⟨w, hw, rw'⟩ := r.get hy
  refine call_meets F.slot_list_pop ⟨_, e, rfl⟩ F.entry_list_pop (F.args_list_pop_2 _ _)
    (MeetsSeq.list_pop_at l its.toArray n i t k w (fitsIndex_both h1 h2) (by rw [List.size_toArray, ← hl]; exact hk) (by rw [← Array.getElem?_toList]; exact hw) (by rw [List.size_toArray]; omega)) ⟨e, ?_⟩
  refine ⟨y, _, I.lset (its' := its.eraseIdx k) hH e ?_ (r.eraseIdx k) ?_, rw', q⟩
  · show its.toArray.eraseIdxIfInBounds k = (its.eraseIdx k).toArray
    rw [List.eraseIdxIfInBounds_toArray]
  · have := len_erase xs k
    omega



/-! ### list + list, list += list, list * int -/
def rCat : R2 := fun x y H Q => ∃ l b xs zs, x = .ref l ∧ y = .ref b ∧ H l = some (.lst xs) ∧ H b = some (.lst zs) ∧ xs.length + zs.length ≤ sizeLine ∧ ∀ p, H p = none → Q (.ref p) (upd H p (.lst (xs ++ zs)))
theorem op_cat : OpR X (binaryOp .Add) rCat := by
  intro pins s σ H x y v u Q I rx ry h
  obtain ⟨l, b, xs, zs, rfl, rfl, hH, hB, hz, q⟩ := h
  cases rx
  cases ry
  obtain ⟨z, its, n, r, hl, e⟩ := I.lstM hH
  obtain ⟨z2, its2, n2, r2, hl2, e2⟩ := I.lstM hB
  refine PySem.P.add_list e e2 ?_ (by rw [List.size_toArray, List.size_toArray]; omega)
  have ea : its.toArray ++ its2.toArray = (its ++ its2).toArray := by simp
  rw [ea]
  exact ⟨.ref _, _, I.lnew (t' := s.toks) (r.append r2) (by rw [List.length_append]; omega), rfl, q _ I.fresh⟩
/-- a list times an int (a negative one is nothing) -/
def rRep : R2 := fun x y H Q => ∃ l k xs, x = .ref l ∧ y = .int k ∧ H l = some (.lst xs) ∧ -(2 ^ 63) ≤ k ∧ k < 2 ^ 63 ∧ xs.length * k.toNat ≤ sizeLine ∧
  ∀ p, H p = none → Q (.ref p) (upd H p (.lst (List.replicate k.toNat xs).flatten))
theorem len_rep {α : Type} (xs : List α) (k : Nat) : (List.replicate k xs).flatten.length = k * xs.length := by
  induction k with
  | zero => simp
  | succ k ih => rw [List.replicate_succ, List.flatten_cons, List.length_append, ih, Nat.succ_mul, Nat.add_comm]
theorem op_rep : OpR X (binaryOp .Mult) rRep := by
  intro pins s σ H x y v u Q I rx ry h
  obtain ⟨l, k, xs, rfl, rfl, hH, h1, h2, hz, q⟩ := h
  cases rx
  obtain ⟨t, rfl⟩ := ry
  obtain ⟨z, its, n, r, hl, e⟩ := I.lstM hH
  have hlen : its.toArray.size * k.toNat ≤ sizeLine := by rw [List.size_toArray, ← hl]; exact hz
  have hcap : ¬ its.toArray.size * k.toNat > (2 ^ 63 - 1) / 8 := by
    have : (sizeLine : Nat) ≤ (2 ^ 63 - 1) / 8 := by decide
    omega
  have hfit : ¬ (!Builtin.List.listFitsIndex k) = true := by
    rw [fitsIndex_both h1 h2]
    exact Bool.false_ne_true
  have hlong : ¬ Builtin.List.listTooLong (its.toArray.size * k.toNat) = true := by
    rw [notLongL hlen]
    exact Bool.false_ne_true
  have hnew : List.foldl (fun x1 x2 => x1 ++ x2) #[] (List.replicate (if its.toArray.isEmpty = true then 0 else k.toNat) its.toArray) = (List.replicate k.toNat its).flatten.toArray := by
    have f0 : ∀ m : Nat, List.foldl (fun x1 x2 => x1 ++ x2) #[] (List.replicate m its.toArray) = (List.replicate m its).flatten.toArray := fun m => by
      have := foldl_rep its m []
      rw [List.nil_append] at this
      exact this
    rw [f0]
    cases its with
    | nil => simp
    | cons a r' => rw [if_neg (by simp)]
  refine wpAny_binaryOp_repeat_ref (T := "list") (U := "int") (by decide) ⟨_, e, rfl⟩ (fun s' => typeIs_int s' k t) noFill_list_mul F.fills_int_mul F.slot_int_rmul repeat_list F.slot_int_index.lookup
    (call_meets F.slot_int_rmul (typeIs_int s k t) F.entry_int_rmul (F.args_int_rmul_2 _ _) (int___rmul___int_list k t l its.toArray n)
      ⟨e, rfl, ⟨_, e, rfl⟩, call_meets F.slot_list_mul ⟨_, e, rfl⟩ F.entry_list_mul (F.args_list_mul_2 _ _) (AutoListH.list___mul___list_int_3 l its.toArray n k t hfit hcap hlong) ⟨e, ?_⟩⟩)
  rw [hnew]
  exact ⟨.ref _, _, I.lnew (t' := s.toks) (r.rep k.toNat) (by rw [len_rep, Nat.mul_comm]; exact hz), rfl, q _ I.fresh⟩

/-! ### del xs[i] -/
end

/-! ### xs[a:b] = ys -/
section
variable {prog : Program} {w : World} {A : Around} {E : Value → Shared → Prop} {s : Shared}
set_option maxRecDepth 100000 in
end

section
variable {X : Cx}
end
end L2

namespace Att
open PySem PySem.W PySem.Calls PyProof.Rows

/-! ### the script -/
theorem ints_of_wellAll {P : Params} {h : Heap} : ∀ (ns : List Int) (vs : List Value), WellAll P h vs (ns.map WData.int) → IntsAre vs ns := by
  intro ns
  induction ns with
  | nil =>
    intro vs w
    rw [List.map_nil] at w
    cases w
    exact .nil
  | cons n ns ih =>
    intro vs w
    rw [List.map_cons] at w
    cases w with
    | cons a b =>
      cases a
      exact .cons _ _ (ih _ b)

theorem script_of {l : OpenLaw} {n : Nat} (hn : l.most = some n) {P : Params} {h : Heap} {args : List WData} {vals : List Value}
    (hpre : l.row.toRowW.claim.pre args = true) (hwl : WellAll P h vals args) :
    ∃ a vs ns, vals = [Value.ref a] ∧ args = [WData.list (ns.map WData.int)] ∧ h.get? a = some { cls := .type "list", data := .seq vs.toArray } ∧ IntsAre vs ns ∧ ns.length ≤ n := by
  have hsh : WShape.hasAll [] args [.list .int] = true := (pre_splitW hpre).1
  have hc : l.pre.holds [] { args := args } = true := (pre_splitW hpre).2
  obtain ⟨d, r, rfl, h1, h2⟩ := hasAllW_cons hsh
  obtain rfl := hasAllW_nil h2
  obtain ⟨xs, rfl, h3⟩ := hasW_list h1
  obtain ⟨ns, rfl⟩ := items_int h3
  have hlen : ns.length ≤ n := by
    unfold OpenLaw.pre at hc
    have h4 : (WTm.not (.lt (.lit (.int (n : Int))) (.len (.arg 0)))).holds [] { args := [.list (ns.map .int)] } = true := by
      have h4 := (holds_andW hc).1
      rw [hn] at h4
      exact h4
    have h5 := condW_of h4 (w_not (w_lt w_lit (w_len_list (w_arg rfl))))
    rw [List.length_map] at h5
    refine Nat.le_of_not_lt fun q => ?_
    have q' : (n : Int) < ((ns.length : Nat) : Int) := by omega
    first
      | (rw [decide_eq_true q'] at h5; exact absurd h5 (by decide))
      | (simp at h5; omega)
  cases hwl with
  | cons w1 w2 =>
    cases w2
    cases w1 with
    | list ho hall => exact ⟨_, _, ns, rfl, rfl, ho, ints_of_wellAll ns _ hall, hlen⟩

theorem post_true (l : OpenLaw) (args : List WData) : l.row.toRowW.claim.post args (.bool true) args = true :=
  postW_of (r := l.row.toRowW) (X := (true == true))
    (show WShape.has [] (.bool true) .bool = true by first | rfl | decide | simp [WShape.has, WShape.arms, WShape.armsAll])
    (show (WTm.eq .res (.lit (.bool true))).value [] { args := args, res := some (.bool true), after := args } = some (.bool (true == true)) from w_eq_bool (w_res rfl) w_lit) rfl

/-! ### the attachment: holds_open's last premise (the goal 'hc' behind k_head) from a wpAny of the law's body -/

/-- the same from a codeAny of the CALL (for a layer whose function contracts speak of calls) -/
theorem attach_call {l : OpenLaw} {n : Nat} {q : Program} {loose : List Str} {XP : (Str → Option Value) → Heap → Prop} {YP : World → Heap → Prop} {d : DefRec}
    (hn : l.most = some n) (hdf : d.params.defaults = [])
    (call : ∀ (w : World) (s₀ s₁ : Shared) (mg mb : Str → Option Value) (fa : Addr) (o : Obj) (pm cd doc : Value) (a : Addr) (vs : List Value) (ns : List Int),
      Ground q loose [] XP w s₀ mg mb s₁.heap → YP w s₁.heap →
      s₁.heap.get? fa = some o → o.data = .func (docDef d.name d.params d.body d.scope pm cd doc) → s₁.heap.CodeRec cd d.name → mg d.name = some (.ref fa) →
      s₁.heap.get? a = some { cls := .type "list", data := .seq vs.toArray } → IntsAre vs ns → ns.length ≤ n → s₁.gens = #[] →
      codeAny (model l.prog w) callerA (.call (.ref fa) ⟨[.ref a], []⟩) (fun r s' => r = .ok (.ret (.bool true)) ∧ OldK s₁.heap s'.heap ∧ s'.os = s₁.os ∧ AllBare s'.gens) s₁) :
    WalkO q loose XP YP l.row.toRowW d [] (fun f vs => PySem.call f vs) := by
  intro w s₀ s₁ mg mb G Y fa o pm cd doc dV kV ho hd hcd hD hmg hg args vals as hpre hlay hrd hwl hlo
  obtain rfl : dV = .none := Dflts.none hD hdf
  obtain rfl : kV = .none := Dflts.noKw hD
  obtain ⟨a, vs, ns, rfl, rfl, hobj, hints, hlen⟩ := script_of hn hpre hwl
  refine enter_call (codeAny_mono (call w s₀ s₁ mg mb fa o pm cd doc a vs ns G Y ho (fd_plain hd) hcd hmg hobj hints hlen hg) fun r s' hq => ?_)
  obtain ⟨rfl, h2, h3, h4⟩ := hq
  exact ⟨.inl ⟨.bool true, .bool true, [], rfl, fun _ => rfl, .bool true, post_true l _, fun _ => ⟨List.Pairwise.nil, fun _ hm => (nomatch hm)⟩⟩, h2, h3, h4⟩


/-! ### rules over ANY heap (no ledger) from facts about the written part K: the library's own take a ledger (News) for what they write -/
section
variable {prog : Program} {w : World} {A : Around} {E : Value → Shared → Prop} {s : Shared} {K : Frag}





/-! the whole heap as the ledger: makes every rule that writes through a ledger a rule over any heap -/
def ledger (h : Heap) (L d : Addr) : List (Addr × Obj) := (List.range h.objs.size).filterMap fun a => if a = L ∨ a = d then none else (h.get? a).map fun o => (a, o)

end
end Att

namespace L2
open PySem PySem.Spec PyProof.Rows

theorem vals_ints : ∀ {vs : List Value} {ns : List Int}, IntsAre vs ns → Vals (ns.map V.int) vs
  | _, _, .nil => .nil
  | _, _, .cons n t h => .cons ⟨t, rfl⟩ (vals_ints h)

/-- nothing is tracked but the script, known to the object (or it is an object of the module) -/
def Only (H : Hp) : Prop := ∀ b, H b = none ∨ ∃ o xs, H b = some (.frz o (.lst xs))

/-- THE HEAD: the law's promise, at the heap behind the top. F, the promise of the law's def, may use that base is part of the heap (so K.In base, base.Ns mainGlobals mg stand in Mod) -/
theorem law_call {P : Program} {w : World} {K : PySem.W.Frag} {mg mb : Str → Option Value} {CX : CXT} {k : Nat} {fa a : Addr} {fd : FuncData} {x : Str} {sp : Sp} {s₁ : Shared} {vs : List Value} {ns : List Int}
    (KX : K.In s₁.heap) (hns : s₁.heap.Ns mainGlobals mg) (hb : s₁.heap.Ns builtinsNs mb) (hbb : ∀ x : Str, x ≠ "__name__" → mb x = bootBuiltins x) (hlim : s₁.heap.NoLimit) (hg : s₁.gens = #[])
    (ha : s₁.heap.get? a = some { cls := .type "list", data := .seq vs.toArray }) (hi : IntsAre vs ns) (hl : ns.length ≤ sizeLine) (hr : Room k callerA)
    (F : ∀ base : Heap, K.In base → base.Ns mainGlobals mg → FnOk P w K mg base CX k fa fd [x] sp) (hbind : ∀ (s : Shared) (u : Value), BindsTo s fd ⟨[u], []⟩ [(x, u)])
    (hsp : ∀ H : Hp, Only H → SqL K H a (ns.map V.int) → sp [.ref a] H (fun v _ => v = .bl true) fun _ _ _ => False)
    (hCX : ∀ H e s', CX [] H s₁ (fun _ _ _ => False) e s' → False) :
    codeAny (model P w) callerA (.call (.ref fa) ⟨[.ref a], []⟩) (fun r s' => r = .ok (.ret (.bool true)) ∧ OldK s₁.heap s'.heap ∧ s'.os = s₁.os ∧ AllBare s'.gens) s₁ := by
  have rv := vals_ints hi
  have lenV := hi.length
  -- from an abstract heap in which nothing but the script may be tracked
  have core : ∀ H : Hp, Only H → SqL K H a (ns.map V.int) → HOk P w H s₁.heap → (∀ b, H b ≠ none → b = a) → (H a ≠ none → K.lookup a = none) →
      codeAny (model P w) callerA (.call (.ref fa) ⟨[.ref a], []⟩) (fun r s' => r = .ok (.ret (.bool true)) ∧ OldK s₁.heap s'.heap ∧ s'.os = s₁.os ∧ AllBare s'.gens) s₁ := by
    intro H hO hS hok hA hK
    have base_of : ∀ {b : Addr} {o : Obj}, s₁.heap.get? b = some o → H b = none → (hidT s₁.heap H).get? b = some o := fun e n => hidT_get e n
    have noA : ∀ {b : Addr} {o : Obj} {es : Array DictEntry} {ep : Nat}, s₁.heap.get? b = some o → o.data = .dict es ep → H b = none := fun {b o es ep} e d => by
      cases q : H b with
      | none => rfl
      | some u =>
        have e' : b = a := hA b (by rw [q]; simp)
        subst e'
        rw [ha] at e; cases e
        have d' : Data.seq vs.toArray _ = Data.dict es ep := d
        cases d'
    have nsK : ∀ {b : Addr} {m : Str → Option Value}, s₁.heap.Ns b m → (hidT s₁.heap H).Ns b m := fun {b m} ⟨o, es, ep, e, d, r⟩ => ⟨o, es, ep, base_of e (noA e d), d, r⟩
    have hKb : K.In (hidT s₁.heap H) := fun b o e => base_of (KX b o e) (by
      cases q : H b with
      | none => rfl
      | some u =>
        have e' : b = a := hA b (by rw [q]; simp)
        subst e'
        rw [hK (by rw [q]; simp)] at e; cases e)
    have hM : Mod K mg (hidT s₁.heap H) := ⟨hKb, nsK hns, ⟨mb, nsK hb, hbb⟩, let ⟨mc, h1, h2⟩ := hlim; ⟨mc, nsK h1, h2⟩⟩
    have e0 : Env0 P w K mg (hidT s₁.heap H) callerA [] s₁ H := ⟨rfl, hM, fun b o e => of_hidT e, Nat.le_of_eq (hidT_size _ _), trivial, fun b hb => absurd (show b ∈ ([] : List Addr) from hb) (by simp), hok, .of_eq hg⟩
    refine codeAny_mono ((F _ hKb (nsK hns)).run callerA [] s₁ H ⟨[.ref a], []⟩ [.ref a] [.ref a] _ _ hr e0 (hbind s₁ (.ref a)) (.cons rfl .nil) (hsp H hO hS)) fun r s' h => ?_
    cases r with
    | error e => exact (hCX H e s' h).elim
    | ok fl =>
      cases fl with
      | next => exact False.elim h
      | brk => exact False.elim h
      | cont => exact False.elim h
      | ret u =>
        obtain ⟨v, H', os, bare, un, hok', r', q⟩ := h
        have q' : v = .bl true := q
        subst q'
        obtain rfl : u = Value.bool true := r'
        refine ⟨rfl, OldK.of_keep fun b o e => ?_, os, bare⟩
        cases q : H b with
        | none => exact un.keep b o e q (by intro z; exact absurd (show b ∈ ([] : List Addr) from z) (by simp)) (by simp)
        | some u =>
          rcases hO b with z | ⟨ob, xs, z⟩
          · rw [q] at z; cases z
          · have z2 := un.frzs b ob _ z
            obtain ⟨e1, _⟩ := hok b _ z
            obtain ⟨e2, _⟩ := hok' b _ z2
            rw [e] at e1; cases e1
            exact e2
  cases hk : K.lookup a with
  | some o =>
    -- the script is one of the module's own objects
    have e := KX a o hk
    rw [ha] at e
    cases e
    refine core (fun _ => none) (fun _ => .inl rfl) (.inr ⟨_, vs.toArray, _, hk, rfl, rfl, rfl, by rw [List.size_toArray, lenV]; exact hl, by simpa using rv⟩) (fun b u z => by have z' : (none : Option HO) = some u := z; cases z') (fun b z => absurd rfl z) fun z => absurd rfl z
  | none =>
    refine core (fun b => if b = a then some (.frz { cls := .type "list", data := .seq vs.toArray } (.lst (ns.map V.int))) else none) (fun b => ?_) (.inl (.inr ⟨{ cls := .type "list", data := .seq vs.toArray }, if_pos rfl⟩)) (fun b u z => ?_) (fun b z => ?_) fun _ => hk
    · by_cases hb : b = a
      · exact .inr ⟨_, _, if_pos hb⟩
      · exact .inl (if_neg hb)
    · by_cases hb : b = a
      · have z' := (if_pos hb).symm.trans z
        cases z'
        subst hb
        exact ⟨ha, by rw [List.length_map]; exact hl, vs, _, rv, ha⟩
      · have z' := (if_neg hb).symm.trans z
        cases z'
    · by_cases hb : b = a
      · exact hb
      · exact absurd (if_neg hb) z
end L2

namespace L2
open PySem PySem.Spec PyProof.Rows

abbrev KOf {K : PySem.W.Frag} {h : Heap} (_ : K.In h) : PySem.W.Frag := K

/-- the goal that k_head leaves (case hc), from the law's promise. F gives the function object fd (K's own) once, then the promise over every base -/
theorem walk_of {l : PySem.W.OpenLaw} {n k : Nat} {q : Program} {loose : List Str} {XP : (Str → Option Value) → Heap → Prop} {YP : World → Heap → Prop} {d : DefRec} {K : Params → PySem.W.Frag} {CX : World → CXT} {sp : World → Sp} {x : Str}
    (hn : l.most = some n) (hn2 : n ≤ sizeLine) (hdf : d.params.defaults = []) (hr : Room k callerA)
    (hY : ∀ (w : World) (h : Heap), YP w h → (K w.params).In h)
    (F : ∀ (w : World) (mg : Str → Option Value) (fa : Addr) (h : Heap), (K w.params).In h → h.Ns mainGlobals mg → mg d.name = some (.ref fa) →
      ∃ fd : FuncData, (∀ (s : Shared) (u : Value), BindsTo s fd ⟨[u], []⟩ [(x, u)]) ∧
        ∀ base : Heap, (K w.params).In base → base.Ns mainGlobals mg → FnOk l.prog w (K w.params) mg base (CX w) k fa fd [x] (sp w))
    (hsp : ∀ (w : World) (H : Hp) (a : Addr) (ns : List Int), ns.length ≤ n → Only H → SqL (K w.params) H a (ns.map V.int) → sp w [.ref a] H (fun v _ => v = .bl true) fun _ _ _ => False)
    (hCX : ∀ (w : World) (H : Hp) (s : Shared) (e : Value) (s' : Shared), CX w [] H s (fun _ _ _ => False) e s' → False) :
    PySem.W.WalkO q loose XP YP l.row.toRowW d [] (fun f vs => PySem.call f vs) := by
  refine Att.attach_call hn hdf fun w s₀ s₁ mg mb fa o pm cd doc a vs ns G Y ho hd hcd hmg hobj hints hlen hg => ?_
  have KX := hY w _ Y
  obtain ⟨fd, hb, hF⟩ := F w mg fa _ KX G.T.g hmg
  exact law_call KX G.T.g G.T.b G.T.builtins G.T.nolimit hg hobj hints (Nat.le_trans hlen hn2) hr hF hb (fun H hO hS => hsp w H a ns hlen hO hS) fun H e s' => hCX w H s₁ e s'
end L2

/- THE LAST THEOREM (shape; LID, My.* are yours):
   My.Adr: a structure of the addresses that your layer names (classes, functions); My.Txt K t: a structure (Prop) of the equations over K;
   My.txt_mk : {K} {implicit addresses ..} (e1 : nsIn K mainGlobals "law" = some (some (.ref f))) (e2 : K.lookup f = some ⟨oc, od, .func (fnOf "law" "law" params body scope dV kV doc pm an cdv ct), sl⟩) (e3 : codeIn K cdv "law" = true) .. : ∃ t, My.Txt K t

set_option maxRecDepth 100000 in
set_option maxHeartbeats 0 in
theorem PySem.Challenge.cw_LID_holds : PySem.Challenge.rw_LID.Holds := by
  w_on; o_law; k_head; (case hw => w_witness2)
  k_fill
  refine L2.walk_of (l := PySem.Challenge.rw_LID) (n := 63) (k := 40) (x := "script") (CX := fun w => ..) (sp := fun _ => My.sp_law) rfl (by decide) rfl ⟨rfl, by decide, by decide⟩ (fun w h Y => PySem.W.kIn_of Y) ?F ?S ?C
  case F =>
    intro w mg fa h KX G hmg
    have T : ∃ t, My.Txt (L2.KOf KX) t := by
      dsimp only [L2.KOf]                          -- K must stand as «<heap const> w.params» for k_is
      refine' My.txt_mk ?e1 ?e2 ?e3 ..
      (case e1 => PySem.W.k_is)                    -- in the order: a name -> its address -> its object -> its parts
      (case e2 => PySem.W.k_is)
      ..
    obtain ⟨t, T⟩ := T
    have e0 := hmg.symm.trans (PySem.W.mg_of KX G T.law)
    cases e0                                       -- fa is the law's own address
    exact ⟨_, fun s u => .of_eq rfl, fun base kb nb => My.law_fn T kb nb⟩     -- if «.of_eq rfl» comes too early: refine' ⟨_, ?b, fun base kb nb => My.law_fn T kb nb⟩; exact fun s u => .of_eq rfl
  case S => exact fun w H a ns hl hO hS => ..
  case C => exact ..
(the tactic k_is has no namespace: write k_is) -/

/-! SHORT WORDS over the layer: a def of the text, its body, what a loop and a test want. -/
namespace L2
open PySem PySem.Spec PyProof.Rows

/-! ### the text by places -/
def defArgs (s : Stmt) : Arguments := match s with
  | .FunctionDef _ a _ _ _ _ _ _ _ _ => a
  | _ => { posonlyargs := [], args := [], vararg := none, kwonlyargs := [], kw_defaults := [], kwarg := none, defaults := [] }
def defBody (s : Stmt) : List Stmt := match s with
  | .FunctionDef _ _ b _ _ _ _ _ _ _ => b
  | _ => []
def defScope (s : Stmt) : Scope := match s with
  | .FunctionDef _ _ _ _ _ _ sc _ _ _ => sc
  | _ => { kind := .function, names := [], isGenerator := false, isCoroutine := false }

/-! ### no exception leaves a def -/
abbrev CX0 : CXT := fun _ _ _ _ _ _ => False
abbrev E0 : XK := fun _ _ _ => False
theorem pass0 {X : Cx} : Passes CX0 X E0 := fun _ _ _ _ _ _ _ h => h.elim

/-! ### a def (or method) of the text as it stands behind the top -/
structure Fun (K : PySem.W.Frag) (x qual : Str) (st : Stmt) (f : Addr) (fd : FuncData) : Prop where
  ex : ∃ (oc : Value) (od : Option Addr) (kV doc pm : Value) (an : Option Addr) (cdv ct : Value) (osl : Array (Option Value)),
    fd = PySem.W.fnOf x qual (defArgs st) (defBody st) (defScope st) .none kV doc pm an cdv ct ∧ K.lookup f = some ⟨oc, od, .func fd, osl⟩ ∧ PySem.W.codeIn K cdv qual = true
  kp : PySem.W.keepIn K (.ref f) = true
section
variable {P : Program} {w : World} {K : PySem.W.Frag} {mg : Str → Option Value} {base : Heap}
/-- THE RULE for a def: its body as a term of rules, and the reading of that term -/
theorem Fun.ok {x qual : Str} {st : Stmt} {f : Addr} {fd : FuncData} {N ps : List Str} {k : Nat} {sp : Sp} (F : Fun K x qual st f fd) (S : FnScope N ps (defScope st)) (len : ∀ vs H Q E, sp vs H Q E → vs.length = ps.length)
    (hbody : ∀ (cdv : Value) (A : Around) (outer : List Env) (s : Shared) (H : Hp) (vs : List V) (Q : VK) (E : XK), Room k (A.deeper (envOfC qual (defScope st) s.heap.objs.size f cdv)) → sp vs H Q E →
      ∃ t, PSs (cxOf CX0 P w K mg base N qual (defScope st) f cdv A outer s H E).nox (defBody st) t ∧ t { nx := fun _ H' => Q .non H', rt := Q } (start N vs) H) : FnOk P w K mg base CX0 (k + 1) f fd ps sp := by
  obtain ⟨oc, od, kV, doc, pm, an, cdv, ct, osl, rfl, lk, hcd⟩ := F.ex
  refine fn_of lk hcd S len fun A outer s H vs Q E hr hsp => ?_
  obtain ⟨t, h, q⟩ := hbody cdv A outer s H vs Q E hr hsp
  exact ⟨t, h.nox, q⟩
/-- how its arguments bind (no defaults): h is «fun _ _ _ _ _ _ us hl => match us, hl with | [_, _], _ => rfl», one _ a parameter -/
theorem Fun.binds {x qual : Str} {st : Stmt} {f : Addr} {fd : FuncData} {ps : List Str} (F : Fun K x qual st f fd)
    (h : ∀ (kV doc pm : Value) (an : Option Addr) (cdv ct : Value) (us : List Value), us.length = ps.length → bindArgs (PySem.W.fnOf x qual (defArgs st) (defBody st) (defScope st) .none kV doc pm an cdv ct) ⟨us, []⟩ = pure (ps.zip us)) : Binds K fd ps [] := by
  obtain ⟨oc, od, kV, doc, pm, an, cdv, ct, osl, rfl, lk, hcd⟩ := F.ex
  exact .all (h kV doc pm an cdv ct)
theorem fun_mk {x qual : Str} {st : Stmt} {f : Addr} {oc : Value} {od an : Option Addr} {osl : Array (Option Value)} {kV doc pm cdv ct : Value} (l : K.lookup f = some ⟨oc, od, .func (PySem.W.fnOf x qual (defArgs st) (defBody st) (defScope st) .none kV doc pm an cdv ct), osl⟩)
    (c : PySem.W.codeIn K cdv qual = true) (k : PySem.W.keepIn K (.ref f) = true) : Fun K x qual st f (PySem.W.fnOf x qual (defArgs st) (defBody st) (defScope st) .none kV doc pm an cdv ct) := ⟨⟨oc, od, kV, doc, pm, an, cdv, ct, osl, rfl, l, c⟩, k⟩
end
theorem hu_of {A : Around} {k : Nat} (hr : Room k A) : A.units + 1 < cLine := Nat.lt_of_le_of_lt (Nat.add_le_add_left (by decide : 1 ≤ 64) _) hr.units
theorem small1000 {n : Nat} (h : n ≤ 1000) : n < sizeLine := Nat.lt_of_le_of_lt h (by decide)

/-! ### expressions in short: the name that stands in the i-th slot -/
section
variable {X : Cx}
theorem pv (i : Nat) {x : Str} {pos : Pos} (hN : X.N[i]? = some x := by rfl) (hv : Vis X.env.scope x := by first | exact Or.inl rfl | exact Or.inr (Or.inl rfl) | exact Or.inr (Or.inr rfl)) (hd : (x == ("__debug__" : Str)) = false := by decide)
    (hcd : (x == ("__classdict__" : Str)) = false := by decide) : PE X (.Name x pos) (tVar i) := pe_var hN hv hd hcd
end

/-! ### tests -/
theorem iteF {A B : Prop} (h : B) : if false = true then A else B := by
  rw [if_neg Bool.false_ne_true]
  exact h
theorem iteT {A B : Prop} (h : A) : if true = true then A else B := by
  rw [if_pos rfl]
  exact h
theorem ite2 {c A B : Prop} [Decidable c] (h1 : c → A) (h2 : ¬ c → B) : if c then A else B := by
  by_cases h : c
  · rw [if_pos h]
    exact h1 h
  · rw [if_neg h]
    exact h2 h

/-! ### heaps -/
/-- all that was tracked is as it was -/
def Same (H H' : Hp) : Prop := ∀ b o, H b = some o → H' b = some o
theorem Same.refl (H : Hp) : Same H H := fun _ _ h => h
theorem Same.trans {H H1 H2 : Hp} (a : Same H H1) (b : Same H1 H2) : Same H H2 := fun c o h => b c o (a c o h)
theorem Same.free {H H' : Hp} (e : Same H H') {l : Addr} (h : H' l = Option.none) : H l = Option.none := by
  cases q : H l with
  | none => rfl
  | some o =>
    rw [e l o q] at h
    cases h
theorem Same.seq {K : PySem.W.Frag} {H H' : Hp} {a : Addr} {xs : List V} (e : Same H H') (h : SqL K H a xs) : SqL K H' a xs := by
  rcases h with (h | ⟨o, h⟩) | h
  · exact .inl (.inl (e _ _ h))
  · exact .inl (.inr ⟨o, e _ _ h⟩)
  · exact .inr h

end L2

set_option maxHeartbeats 4000000
namespace L2
open PySem PySem.Spec PyProof.Rows

/-! ### comprehensions -/
/-- what is asked of a comprehension's block: sc its names, outer the names around it, M the outer names that it may see (others hidden), x its own -/
def compOK (outer sc : Scope) (x : Str) (M N : List Str) : Bool :=
  decide (sc.kind = .function) && sc.names.all (fun y => decide (y.2 ≠ .cell)) && sc.names.all (fun y => decide (y.2 = .local → sc.names.lookup y.1 = some .local)) && decide (sc.names.lookup x = some .local) &&
  sc.names.all (fun y => decide (y.2 = .free → (outer.names.lookup y.1 = some .cell ∨ outer.names.lookup y.1 = some .free))) &&
  decide ((M ++ [x]).Nodup) && decide (M.length = N.length) && (M.zip N).all (fun p => decide (p.1 = p.2 ∨ sc.names.lookup p.1 = none)) && M.all (fun y => decide (sc.names.lookup y ≠ some .local))

theorem lookup_relabel {env : Env} : ∀ {names : List (Str × NameKind)} {x : Str} {k' : NameKind},
    (names.map fun (n, k) => if (k == NameKind.free && env.scope.kind == .function && env.kindOf n == some .cell) then (n, NameKind.cell) else (n, k)).lookup x = some k' →
    ∃ k, names.lookup x = some k ∧ (k' = k ∨ (k = .free ∧ k' = .cell))
  | [], _, _, h => by simp at h
  | (n, k) :: r, x, k', h => by
    have ih := @lookup_relabel env r x k'
    have h' : List.lookup x ((if (k == NameKind.free && env.scope.kind == .function && env.kindOf n == some .cell) = true then (n, NameKind.cell) else (n, k)) :: _) = some k' := h
    cases hx : x == n with
    | true =>
      by_cases hc : ((k == NameKind.free && env.scope.kind == .function && env.kindOf n == some .cell)) = true
      · rw [if_pos hc] at h'
        simp only [List.lookup_cons, hx] at h'
        refine ⟨k, by simp [List.lookup_cons, hx], .inr ⟨?_, (Option.some.inj h').symm⟩⟩
        simp only [Bool.and_eq_true, beq_iff_eq] at hc
        exact hc.1.1
      · rw [if_neg hc] at h'
        simp only [List.lookup_cons, hx] at h'
        exact ⟨k, by simp [List.lookup_cons, hx], .inl (Option.some.inj h').symm⟩
    | false =>
      have h'' : List.lookup x (r.map fun (n, k) => if (k == NameKind.free && env.scope.kind == .function && env.kindOf n == some .cell) then (n, NameKind.cell) else (n, k)) = some k' := by
        by_cases hc : ((k == NameKind.free && env.scope.kind == .function && env.kindOf n == some .cell)) = true
        · rw [if_pos hc] at h'; simp only [List.lookup_cons, hx] at h'; exact h'
        · rw [if_neg hc] at h'; simp only [List.lookup_cons, hx] at h'; exact h'
      obtain ⟨k0, a, b⟩ := ih h''
      exact ⟨k0, by simp only [List.lookup_cons, hx]; exact a, b⟩

theorem closure_go {env : Env} : ∀ (names : List (Str × NameKind)) (cs : List (Str × Addr)), (∀ y ∈ names, y.2 = .free → ∃ c, env.cells.lookup y.1 = some c) → (∀ y c, cs.lookup y = some c → env.cells.lookup y = some c) →
    ∃ cl, (forIn names cs fun (x : Str × NameKind) (r : List (Str × Addr)) => (if (x.2 == NameKind.free) = true then (do let a ← cellOf env x.1; pure (ForInStep.yield ((x.1, a) :: r))) else pure (ForInStep.yield r) : Sem _)) = pure cl ∧
      (∀ y c, cl.lookup y = some c → env.cells.lookup y = some c) ∧ (∀ y, ((∃ c, cs.lookup y = some c) ∨ (y, NameKind.free) ∈ names) → ∃ c, cl.lookup y = some c)
  | [], cs, _, hc => ⟨cs, rfl, hc, fun y h => by
      rcases h with h | h
      · exact h
      · cases h⟩
  | (n, k) :: r, cs, hf, hc => by
    by_cases hk : k = .free
    · subst hk
      obtain ⟨a, ha⟩ := hf (n, .free) List.mem_cons_self rfl
      have hc' : ∀ y c, List.lookup y ((n, a) :: cs) = some c → env.cells.lookup y = some c := fun y c e => by
        simp only [List.lookup_cons] at e
        split at e
        · rename_i q
          have q' : y = n := by simpa using q
          subst q'
          exact ha.trans e
        · exact hc y c e
      obtain ⟨cl, h1, h2, h3⟩ := closure_go r ((n, a) :: cs) (fun y hy => hf y (List.mem_cons_of_mem _ hy)) hc'
      refine ⟨cl, ?_, h2, fun y h => ?_⟩
      · rw [List.forIn_cons]
        show ((if (NameKind.free == NameKind.free) = true then (do let a ← cellOf env n; pure (ForInStep.yield ((n, a) :: cs))) else pure (ForInStep.yield cs) : Sem _) >>= _) = _
        rw [if_pos (by decide)]
        have e : cellOf env n = pure a := by unfold cellOf; rw [ha]
        rw [e]
        exact h1
      · refine h3 y ?_
        rcases h with ⟨c, h⟩ | h
        · left
          simp only [List.lookup_cons]
          split
          · exact ⟨_, rfl⟩
          · exact ⟨c, h⟩
        · rcases List.mem_cons.mp h with q | q
          · left
            cases q
            exact ⟨a, by simp [List.lookup_cons]⟩
          · exact .inr q
    · obtain ⟨cl, h1, h2, h3⟩ := closure_go r cs (fun y hy => hf y (List.mem_cons_of_mem _ hy)) hc
      refine ⟨cl, ?_, h2, fun y h => ?_⟩
      · rw [List.forIn_cons]
        show ((if (k == NameKind.free) = true then (do let a ← cellOf env n; pure (ForInStep.yield ((n, a) :: cs))) else pure (ForInStep.yield cs) : Sem _) >>= _) = _
        rw [if_neg (by simpa using hk)]
        exact h1
      · refine h3 y ?_
        rcases h with h | h
        · exact .inl h
        · rcases List.mem_cons.mp h with q | q
          · cases q; exact absurd rfl hk
          · exact .inr q

theorem closure_ok {env : Env} {scope : Scope} (hf : ∀ y ∈ scope.names, y.2 = .free → ∃ c, env.cells.lookup y.1 = some c) :
    ∃ cl, closureFor scope env = pure cl ∧ (∀ y c, cl.lookup y = some c → env.cells.lookup y = some c) ∧ (∀ y, (y, NameKind.free) ∈ scope.names → ∃ c, cl.lookup y = some c) := by
  obtain ⟨cl, h1, h2, h3⟩ := closure_go scope.names [] hf (fun y c e => by simp at e)
  refine ⟨cl, ?_, h2, fun y h => h3 y (.inr h)⟩
  unfold closureFor
  rw [← bind_pure (x := (pure cl : Sem _)), ← h1]

/-- a block's own: its cells, its frame, the state and the heap ahead of it, the iterator's records -/
structure CB where
  cl : List (Str × Addr)
  C : Addr
  s2 : Shared
  H2 : Hp
  fp : List Addr
/-- the block's context -/
def Cx.comp (X : Cx) (N' : List Str) (scope : Scope) (b : CB) : Cx where
  prog := X.prog
  w := X.w
  K := X.K
  mg := X.mg
  base := X.base
  A := X.A
  N := N'
  s₀ := b.s2
  H₀ := b.H2
  env := compEnvC scope b.cl b.C X.env
  outer := X.stack
  stack := X.stack
  ex := b.fp
  fn := fun _ => false
  calm := X.calm
  pn := []
  xe := fun _ _ => False

structure CompOK (outer sc : Scope) (x : Str) (M N : List Str) : Prop where
  kind : sc.kind = .function
  nocell : ∀ y ∈ sc.names, y.2 ≠ .cell
  loc : ∀ y ∈ sc.names, y.2 = .local → sc.names.lookup y.1 = some .local
  own : sc.names.lookup x = some .local
  free : ∀ y ∈ sc.names, y.2 = .free → (outer.names.lookup y.1 = some .cell ∨ outer.names.lookup y.1 = some .free)
  nd : (M ++ [x]).Nodup
  len : M.length = N.length
  same : ∀ p ∈ M.zip N, p.1 = p.2 ∨ sc.names.lookup p.1 = none
  noloc : ∀ y ∈ M, sc.names.lookup y ≠ some .local
theorem compOK_of {outer sc : Scope} {x : Str} {M N : List Str} (h : compOK outer sc x M N = true) : CompOK outer sc x M N := by
  unfold compOK at h
  simp only [Bool.and_eq_true, decide_eq_true_eq, List.all_eq_true] at h
  obtain ⟨⟨⟨⟨⟨⟨⟨⟨h1, h2⟩, h3⟩, h4⟩, h5⟩, h6⟩, h7⟩, h8⟩, h9⟩ := h
  exact ⟨h1, h2, h3, h4, h5, h6, h7, h8, h9⟩

section
variable {X : Cx} {pins : List (Addr × Obj)} {σ : St} {H2 : Hp} {s2 : Shared} {scope : Scope} {x : Str} {M : List Str} {cl : List (Str × Addr)} {fp : List Addr} {h1 : Heap} {t' : Nat}

/-- the block's entry -/
theorem Inv.comp (I : Inv X pins σ H2 s2) (K : CompOK X.env.scope scope x M X.N) (hcl : ∀ y c, cl.lookup y = some c → X.env.cells.lookup y = some c) (hcf : ∀ y, (y, NameKind.free) ∈ scope.names → ∃ c, cl.lookup y = some c)
    (hfp : ∀ b ∈ fp, FpOk X pins H2 b) (hlt : ∀ b ∈ fp, b < s2.heap.objs.size) (kp : ∀ b o, s2.heap.get? b = some o → h1.get? b = some o) (hD : h1.get? s2.heap.objs.size = some { cls := .type "list", dict := none, data := .seq ([] : List Value).toArray })
    (hC : h1.Ns (s2.heap.objs.size + 1) (fun _ => none)) :
    Inv (X.comp (M ++ [x]) scope ⟨cl, s2.heap.objs.size + 1, s2, H2, fp⟩) [] (σ ++ [none]) (upd H2 s2.heap.objs.size (.lst [])) { s2 with heap := h1, toks := t' } := by
  have cellLt : ∀ y c, cl.lookup y = some c → c < s2.heap.objs.size := fun y c e => by
    obtain ⟨v, z⟩ := I.cell y c (hcl y c e)
    exact z.lt
  have kindEq : ∀ y k', (compEnvC scope cl (s2.heap.objs.size + 1) X.env).kindOf y = some k' → ∃ k, scope.names.lookup y = some k ∧ (k' = k ∨ (k = .free ∧ k' = .cell)) := fun y k' e => lookup_relabel e
  have freeOf : ∀ y k', (compEnvC scope cl (s2.heap.objs.size + 1) X.env).kindOf y = some k' → (k' = .cell ∨ k' = .free) → (y, NameKind.free) ∈ scope.names := fun y k' e hk => by
    obtain ⟨k, e1, e2⟩ := kindEq y k' e
    have mem := PySem.mem_of_lookup e1
    have : k = .free := by
      rcases e2 with rfl | ⟨rfl, _⟩
      · rcases hk with rfl | rfl
        · exact absurd rfl (K.nocell _ mem)
        · rfl
      · rfl
    subst this
    exact mem
  have hDn : H2 s2.heap.objs.size = none := I.hok.fresh (Nat.le_refl _)
  refine ⟨⟨I.ok.mod, K.kind, I.ok.glob, I.ok.blt, Nat.le_succ _, fun y z c e1 e2 => I.ok.inj y z c (hcl y c e1) (hcl z c e2), fun y hy => ?_, fun y c hf _ => ?_, I.ok.hd, I.ok.frames, .inl rfl, fun b hb => ⟨Nat.ne_of_lt (Nat.lt_succ_of_lt (hlt b hb)), fun y c e => (hfp b hb).2.2.2.2.1 y c (hcl y c e)⟩,
    fun b o e => I.bs b o e, Nat.le_trans I.ok.bsz I.sz, fun b o e hb => ?_, fun b hb hf => ?_, I.stack, I.stkFree⟩, rfl, I.bare, Un.laid kp (Nat.le_refl _) hDn, ⟨_, hC, fun i y v e1 e2 e3 => ?_⟩, fun y c e => ?_, ?_, fun y c e => ?_, fun p hp => absurd (show p ∈ ([] : List (Addr × Obj)) from hp) (by simp), I.hok.laid kp (Nat.le_refl _) ?_, ?_⟩
  · rcases hy with hy | hy
    · exact hcf y (freeOf y _ hy (.inl rfl))
    · exact hcf y (freeOf y _ hy (.inr rfl))
  · exact absurd (show false = true from hf) Bool.false_ne_true
  · obtain ⟨f0, f1, f2, f3, f4, f5⟩ := hfp b hb
    rcases f3 with z | z
    · exact I.ok.noex b o e z
    · exact absurd (Nat.lt_of_lt_of_le (Heap.lt_size (I.ok.bs b o e).1) z) (Nat.lt_irrefl _)
  · obtain ⟨f0, f1, f2, f3, f4, f5⟩ := hfp b hb
    rcases List.mem_cons.mp (I.stkSub b hf) with z | z
    · exact f1 z
    · exact f2 z
  · -- names
    have hi : i < σ.length := by
      by_cases hi : i < σ.length
      · exact hi
      · have hz : (σ ++ [none])[i]? = some (some v) := e2
        rw [List.getElem?_append_right (by omega)] at hz
        by_cases hq : i - σ.length = 0
        · rw [hq] at hz; cases hz
        · rw [List.getElem?_eq_none (by simp; omega)] at hz; cases hz
    have e2' : σ[i]? = some (some v) := by
      have hz : (σ ++ [none])[i]? = some (some v) := e2
      rw [List.getElem?_append_left hi] at hz
      exact hz
    have hiM : i < M.length := by rw [K.len, ← I.len]; exact hi
    have e1' : M[i]? = some y := by
      have hz : (M ++ [x])[i]? = some y := e1
      rw [List.getElem?_append_left hiM] at hz
      exact hz
    have hyM : y ∈ M := List.mem_of_getElem? e1'
    have e3' : ∃ k', (compEnvC scope cl (s2.heap.objs.size + 1) X.env).kindOf y = some k' ∧ (k' = .cell ∨ k' = .free) := by
      rcases e3 with z | z | z
      · obtain ⟨k, a, b⟩ := kindEq y _ z
        rcases b with b | ⟨_, b⟩
        · subst b; exact absurd a (K.noloc y hyM)
        · cases b
      · exact ⟨_, z, .inl rfl⟩
      · exact ⟨_, z, .inr rfl⟩
    obtain ⟨k', ek, hk⟩ := e3'
    have mem := freeOf y k' ek hk
    obtain ⟨k0, a0, _⟩ := kindEq y k' ek
    have hiN : i < X.N.length := by rw [← K.len]; exact hiM
    have eN : X.N[i]? = some y := by
      have hz : (M[i], X.N[i]) ∈ M.zip X.N := by
        rw [List.mem_iff_getElem?]
        exact ⟨i, List.getElem?_zip_eq_some.mpr ⟨List.getElem?_eq_getElem hiM, List.getElem?_eq_getElem hiN⟩⟩
      have eM : M[i] = y := by
        rw [List.getElem?_eq_getElem hiM] at e1'
        exact Option.some.inj e1'
      rcases K.same _ hz with q | q
      · rw [List.getElem?_eq_getElem hiN]
        have q' : M[i] = X.N[i] := q
        rw [← q', eM]
      · have q' : scope.names.lookup M[i] = none := q
        rw [eM, a0] at q'
        cases q'
    have hv := K.free _ mem rfl
    obtain ⟨m, hn, hl⟩ := I.loc
    obtain ⟨u, r, l⟩ := hl i y v eN e2' (hv.elim (fun z => .inr (.inl z)) (fun z => .inr (.inr z)))
    refine ⟨u, r, .inr ⟨?_, ?_⟩⟩
    · rcases hk with rfl | rfl
      · exact .inl ek
      · exact .inr ek
    · obtain ⟨c, ec⟩ := hcf y mem
      refine ⟨c, ec, ?_⟩
      rcases l with ⟨z, _⟩ | ⟨_, c', ec', cc⟩
      · have z' : X.env.scope.names.lookup y = some .local := z
        rcases hv with q | q <;> (rw [z'] at q; cases q)
      · have := (hcl y c ec).symm.trans ec'
        cases this
        obtain ⟨o, ho, hd⟩ := cc
        exact ⟨o, kp _ o ho, hd⟩
  · obtain ⟨v, o, ho, hd⟩ := I.cell y c (hcl y c e)
    exact ⟨v, o, kp _ o ho, hd⟩
  · show upd H2 s2.heap.objs.size (.lst []) (s2.heap.objs.size + 1) = none
    rw [upd_ne (Nat.succ_ne_self _)]
    exact I.hok.fresh (Nat.le_succ _)
  · rw [upd_ne (Nat.ne_of_lt (cellLt y c e))]
    exact I.freeC y c (hcl y c e)
  · exact ⟨Nat.zero_le _, [], _, .nil, hD⟩
  · show (σ ++ [none]).length = (M ++ [x]).length
    simp [I.len, K.len]
end
end L2

namespace L2
open PySem PySem.Spec PyProof.Rows

/-- the loop of a list comprehension of one clause -/
theorem comp_loop {prog : Program} {w : World} {A : Around} {R : Result → Shared → Prop} {s : Shared} {elt target iter : Expr} {ifs : List Expr} {scope : Scope} {pos : Pos} {it acc : Value} {env : Env} (I : Nat → Shared → Prop)
    (onward : ∀ n s, I n s → wpAny (model prog w) A (pyNext it) (fun r za => match r with
      | none => R (.ok .next) za
      | some v => wpAny (model prog w) A (letOwnedTupleGo target it v) (fun _ zb => wpAny (model prog w) A (assign target env v) (fun _ zc =>
          wpAny (model prog w) A (forIn ifs true fun c r => if r = true then do let ok ← isTrue c env (eval c env); pure (ForInStep.yield ok) else pure (ForInStep.yield r)) (fun ok zd =>
            if ok = true then wpAny (model prog w) A (eval elt env) (fun x ze =>
              wpAny (model prog w) A (call (.builtin "list.append") [acc, x]) (fun _ zf => ∃ m, m < n ∧ I m zf) (fun _ _ => False) ze) (fun _ _ => False) zd
            else ∃ m, m < n ∧ I m zd) (fun _ _ => False) zc) (fun _ _ => False) zb) (fun _ _ => False) za) (fun _ _ => False) s)
    (n : Nat) (h : I n s) :
    codeAny (model prog w) A (.compLoop (.ListComp elt [⟨target, iter, ifs, 0⟩] scope pos) 0 it acc env) R s :=
  by
  refine codeAny_loop rfl I (fun n s hJ => ?_) n h
  show wpAny _ A ((compTurn (.ListComp elt [⟨target, iter, ifs, 0⟩] scope pos) 0 it acc env).onRaise (fun ex =>  do noteFrame ex env; theTreesLotGoes ex)) _ _ s
  refine wpAny_noted (wpAny_mono (E := fun _ _ => False) ?_ (fun _ _ q => q) fun _ _ z => z.elim)
  rw [compTurn_list]
  refine wpAny_bind (wpAny_standAt (wpAny_bind (wpAny_mono (onward n s hJ) (fun r za ya => ?_) fun _ _ u => u)))
  cases r with
  | none => exact wpAny_pure ya
  | some v =>
    refine wpAny_bind (wpAny_mono ya (fun _ zb yb => ?_) fun _ _ u => u)
    refine wpAny_bind (wpAny_mono yb (fun _ zc yc => wpAny_bind (wpAny_mono yc (fun ok zd yd => ?_) fun _ _ u => u)) fun _ _ u => u)
    cases ok with
    | false => exact wpAny_pure ⟨rfl, yd⟩
    | true =>
      exact wpAny_bind (wpAny_bind (wpAny_mono yd (fun x ze ye => wpAny_bind (wpAny_mono ye (fun _ zf yf => wpAny_pure (wpAny_pure ⟨rfl, yf⟩)) fun _ _ u => u)) fun _ _ u => u))

/-- the tests of a clause -/
def PIfs (X : Cx) (ifs : List Expr) (t : TT) : Prop :=
  ∀ (pins : List (Addr × Obj)) (s : Shared) (σ : St) (H : Hp) (Q : Bool → Hp → Prop), Inv X pins σ H s → t σ H Q →
    wpAny (model X.prog X.w) X.A (forIn ifs true fun c r => if r = true then do let ok ← isTrue c X.env (eval c X.env); pure (ForInStep.yield ok) else pure (ForInStep.yield r)) (TP X pins σ Q) X.xe s
def tNoIf : TT := fun _ H Q => Q true H
theorem pif_nil {X : Cx} : PIfs X [] tNoIf := fun pins s σ H Q I h => wpAny_tests_nil ⟨H, I, h⟩
theorem pif_one {X : Cx} {c : Expr} {t : TT} (h : PT X c t) : PIfs X [c] t := fun pins s σ H Q I q => wpAny_tests_one (h pins s σ H Q I q)

/-- [elt for x in iter if ..]: D is the list that is made -/
def tComp (wi : TI) (tc : CB → TT) (te : CB → TE) : TE := fun σ H Q => wi σ H fun J H1 => ∀ D, H1 D = none → ∀ b : CB, ∃ W : Nat → Nat → List V → Hp → Prop, (∃ m, W 0 m [] (upd H1 D (.lst []))) ∧
  ∀ i m ys H, W i m ys H → (J.stop i H ∧ Q (.ref D) H) ∨ (J.go i H ∧ ys.length < sizeLine ∧ ∃ N : List V → Hp → Prop, (∀ ys' H', N ys' H' → ∃ m', m' < m ∧ W (i + 1) m' ys' H') ∧ ∀ x H', J.yld i H x H' → tc b (σ ++ [some x]) H' fun ok H2 =>
    if ok = true then te b (σ ++ [some x]) H2 fun v H3 => H3 D = some (.lst ys) ∧ N (ys ++ [v]) (upd H3 D (.lst (ys ++ [v]))) else N ys H2)

theorem append_call {X : Cx} {pins : List (Addr × Obj)} {σ : St} {H : Hp} {s : Shared} {D : Addr} {ys : List V} {v : V} {u : Value} {E : Value → Shared → Prop} (I : Inv X pins σ H s) (hD : H D = some (.lst ys)) (hz : ys.length < sizeLine) (r : RelV v u) :
    wpAny (model X.prog X.w) X.A (call (.builtin "list.append") [.ref D, u]) (fun _ s' => Inv X pins σ (upd H D (.lst (ys ++ [v]))) s') E s := by
  obtain ⟨z, its, n, rv, hl, e⟩ := I.lstM hD
  refine call_meets F.slot_list_append ⟨_, e, rfl⟩ F.entry_list_append (F.args_list_append_2 _ _) (PySem.list_append D its.toArray n u (by rw [List.size_toArray]; omega)) ⟨e, ?_⟩
  refine I.lset (its' := its ++ [u]) hD e (by simp) (rv.append (.cons r .nil)) ?_
  rw [List.length_append, List.length_singleton]
  omega

theorem SameBut.unC {H H' : Hp} {fs ex : List Addr} {h h1 h2 : Heap} {C : Addr} (u : Un fs ex H H' h h1) (sb : Heap.SameBut C h1 h2) (hC : h.objs.size ≤ C) : Un fs ex H H' h h2 := by
  have ne : ∀ b o, h.get? b = some o → b ≠ C := fun b o e z => by subst z; exact absurd (Nat.lt_of_lt_of_le (Heap.lt_size e) hC) (Nat.lt_irrefl _)
  refine ⟨fun b o e n hb hx => (sb.2 b (ne b o e)).trans (u.keep b o e n hb hx), fun b o e n hb hx => ?_, u.free, fun b o e hx => ?_, u.tups, u.frzs, u.tbls⟩
  · obtain ⟨sl, q⟩ := u.slot b o e n hb hx
    exact ⟨sl, (sb.2 b (ne b o e)).trans q⟩
  · obtain ⟨o', q⟩ := u.there b o e hx
    exact ⟨o', (sb.2 b (ne b o e)).trans q⟩
theorem SameBut.hokC {P : Program} {w : World} {H : Hp} {h1 h2 : Heap} {C : Addr} (ok : HOk P w H h1) (sb : Heap.SameBut C h1 h2) (hn : H C = none) : HOk P w H h2 := fun b ob e => by
  refine (ok b ob e).stay (fun c w' hc q => (sb.2 c ?_).trans q) (fun _ q => q) fun _ _ q => q
  rintro rfl
  rcases hc with rfl | hc
  · rw [hn] at e; cases e
  · rw [hn] at hc; cases hc

theorem comp_core {X : Cx} {iter elt : Expr} {ifs : List Expr} {x : Str} {px pos pos0 : Pos} {scope : Scope} (M : List Str) {wi : TI} {tc : CB → TT} {te : CB → TE} {use : Option (Value → Sem Unit)} {R : Value → Shared → Prop}
    {pins : List (Addr × Obj)} {s : Shared} {σ : St} {H : Hp} {Q : VK} (I : Inv X pins σ H s) (h : tComp wi tc te σ H Q)
    (hfin : ∀ (D C : Addr) (m : Str → Option Value) (s' : Shared) (H' : Hp), s'.heap.Ns C m → FpOk X pins H' C → (∀ h', Heap.SameBut C s'.heap h' → Inv X pins σ H' { s' with heap := h' }) → Q (.ref D) H' → compPost (model X.prog X.w) X.A X.xe use R (.ref D) C (.ok .next) s')
    (hc : X.calm = true) (hi : PI X (.Name x px) iter wi)
    (hif : ∀ b : CB, PIfs (X.comp (M ++ [x]) scope b) ifs (tc b)) (he : ∀ b : CB, PE (X.comp (M ++ [x]) scope b) elt (te b))
    (ok : compOK X.env.scope scope x M X.N = true := by kernel_rfl)
    (hs : ∀ x, foldedSetIterable iter X.env x = pure x := by intro _; rfl) :
    wpAny (model X.prog X.w) X.A (comprehension (.ListComp elt [⟨.Name x px, iter, ifs, 0⟩] scope pos) scope X.env pos0 (newList []) false (eval iter X.env) use) R X.xe s := by
  have K := compOK_of ok
  obtain ⟨cl, hclos, hcl, hcf⟩ := closure_ok (env := X.env) (scope := scope) fun y hy hk => I.ok.has y.1 (K.free y hy hk)
  refine wpAny_comprehension_free (use := use) rfl hs hclos K.kind K.loc ?_
  refine thn (hi pins s σ H _ I h) fun v s1 h1 => thn h1 fun itv s2 h2 => ?_
  obtain ⟨it, fp, tn, J, H2, rfl, I2, T, st2, f2, hq⟩ := h2
  refine wpAny_newObj_type (wpAny_newFunctionEnv K.nocell (by intro y hy; simp at hy) (fun h₁ hns₁ hsb₁ => ?_) K.kind)
  dsimp only at hns₁ hsb₁ ⊢
  have hsize : (s2.heap.push { cls := .type "list", dict := none, data := .seq ([] : List Value).toArray }).objs.size = s2.heap.objs.size + 1 := Heap.size_push ..
  rw [hsize] at hns₁ hsb₁
  have ltD : s2.heap.objs.size ≠ s2.heap.objs.size + 1 := Nat.ne_of_lt (Nat.lt_succ_self _)
  have kp : ∀ b o, s2.heap.get? b = some o → h₁.get? b = some o := fun b o e => hsb₁.extBut b o (Nat.ne_of_lt (Nat.lt_succ_of_lt (Heap.lt_size e))) (Heap.get?_push_of_some _ (Heap.get?_push_of_some _ e))
  have hD : h₁.get? s2.heap.objs.size = some { cls := .type "list", dict := none, data := .seq ([] : List Value).toArray } := hsb₁.extBut _ _ ltD (Heap.get?_push_of_some _ (Heap.get?_push_size _ rfl))
  have hlt : ∀ b ∈ fp, b < s2.heap.objs.size := fun b hb => let ⟨o, e, _⟩ := T.obj _ _ st2 b hb; Heap.lt_size e
  have I3 := I2.comp (t' := s2.toks + ([] : List (Str × Value)).length) K hcl hcf f2 hlt kp hD hns₁
  obtain ⟨W, ⟨m0, w0⟩, step⟩ := hq s2.heap.objs.size (I2.hok.fresh (Nat.le_refl _)) ⟨cl, s2.heap.objs.size + 1, s2, H2, fp⟩
  have st3 : tn 0 h₁ := T.keep _ _ _ st2 fun b _ o e => kp b o e
  have fr3 : ∀ b ∈ fp, (upd H2 s2.heap.objs.size (.lst [])) b = none := fun b hb => by rw [upd_ne (Nat.ne_of_lt (hlt b hb))]; exact (f2 b hb).1
  -- what the block's end gives
  have fin : ∀ (s' : Shared) (σ' : St) (H' : Hp), Inv (X.comp (M ++ [x]) scope ⟨cl, s2.heap.objs.size + 1, s2, H2, fp⟩) [] σ' H' s' → Q (.ref s2.heap.objs.size) H' →
      compPost (model X.prog X.w) X.A X.xe use R (.ref s2.heap.objs.size) (s2.heap.objs.size + 1) (.ok .next) s' := fun s' σ' H' J' q => by
    obtain ⟨m, hn, _⟩ := id J'.loc
    have hC : H' (s2.heap.objs.size + 1) = none := J'.free
    refine hfin _ _ m s' H' hn (I2.fpOk (Nat.le_succ _) hC) (fun h' sb => ?_) q
    exact I2.call' (ch := fp) (show s'.os = s2.os from J'.os) (SameBut.unC J'.base sb (Nat.le_succ _)) (SameBut.hokC J'.hok sb hC) J'.bare fun b hb => by
      obtain ⟨f0, f1, f2', f3, f4, f5⟩ := f2 b hb
      exact ⟨f3, f1, f4, f5⟩
  have stat : ∀ {H' : Hp}, (∀ b ∈ fp, H' b = none) → ∀ b ∈ fp, FpOk (X.comp (M ++ [x]) scope ⟨cl, s2.heap.objs.size + 1, s2, H2, fp⟩) [] H' b := fun hn b hb => by
    obtain ⟨f0, f1, f2', f3, f4, f5⟩ := f2 b hb
    refine ⟨hn b hb, Nat.ne_of_lt (Nat.lt_succ_of_lt (hlt b hb)), fun z => ?_, .inl hb, fun y c e => f4 y c (hcl y c e), fun p hp => absurd (show p ∈ ([] : List (Addr × Obj)) from hp) (by simp)⟩
    rcases List.mem_cons.mp (I2.stkSub b z) with z | z
    · exact f1 z
    · exact f2' z
  have len3 : σ.length = M.length := by rw [I.len, K.len]
  have loop : codeAny (model X.prog X.w) X.A (.compLoop (.ListComp elt [⟨.Name x px, iter, ifs, 0⟩] scope pos) 0 (.ref it) (.ref s2.heap.objs.size) (compEnvC scope cl (s2.heap.objs.size + 1) X.env))
      (compPost (model X.prog X.w) X.A X.xe use R (.ref s2.heap.objs.size) (s2.heap.objs.size + 1)) { s2 with heap := h₁, toks := s2.toks + ([] : List (Str × Value)).length } := by
    refine comp_loop (fun n s' => ∃ i ys H', Inv (X.comp (M ++ [x]) scope ⟨cl, s2.heap.objs.size + 1, s2, H2, fp⟩) [] (σ ++ [none]) H' s' ∧ tn i s'.heap ∧ (∀ b ∈ fp, H' b = none) ∧ W i n ys H') ?_ m0 ⟨0, [], _, I3, st3, fr3, w0⟩
    rintro n s4 ⟨i, ys, H4, I4, st4, fr4, w4⟩
    rcases step i n ys H4 w4 with ⟨stop, q⟩ | ⟨go, hz, N, hN, st⟩
    · refine wpAny_mono (T.done (X.comp (M ++ [x]) scope ⟨cl, s2.heap.objs.size + 1, s2, H2, fp⟩) rfl rfl rfl hc i [] s4 _ H4 (fun _ _ => False) I4 (stat fr4) st4 stop) (fun r s5 ⟨hr, I5⟩ => ?_) fun _ _ z => z
      subst hr
      exact fin s5 _ H4 I5 q
    · refine wpAny_mono (T.item (X.comp (M ++ [x]) scope ⟨cl, s2.heap.objs.size + 1, s2, H2, fp⟩) rfl rfl rfl hc i [] s4 _ H4 (fun _ _ => False) I4 (stat fr4) st4 go) (fun r s5 ⟨u, hr, h5⟩ => ?_) fun _ _ z => z
      subst hr
      refine wpAny_mono h5 (fun _ s6 ⟨xv, H6, I6, r6, y6, st6, fr6⟩ => ?_) fun _ _ z => z
      have I6' := I6.pinned (stat fr6) (T.obj _ _ st6)
      have hset : (σ ++ [none]).set σ.length (some xv) = σ ++ [some xv] := by simp
      have hNx : (X.comp (M ++ [x]) scope ⟨cl, s2.heap.objs.size + 1, s2, H2, fp⟩).N[σ.length]? = some x := by
        show (M ++ [x])[σ.length]? = some x
        rw [len3]; simp
      have hlx : (X.comp (M ++ [x]) scope ⟨cl, s2.heap.objs.size + 1, s2, H2, fp⟩).env.scope.names.lookup x = some .local := lookup_relabel_local K.own
      have PGx : PG (X.comp (M ++ [x]) scope ⟨cl, s2.heap.objs.size + 1, s2, H2, fp⟩) (.Name x px) (gName σ.length) := pg_name K.nd hNx (.inl hlx) (.inr hlx)
      refine wpAny_mono (PGx _ s6 _ H6 xv u (fun σ' H' => σ' = σ ++ [some xv] ∧ H' = H6) I6' r6 ⟨hset, rfl⟩) (fun _ s7 ⟨σ7, H7, I7, e7, e7'⟩ => ?_) fun _ _ z => z
      subst e7 e7'
      have again : ∀ {ys' : List V} {H8 : Hp} {s8 : Shared} {m : Nat}, Inv (X.comp (M ++ [x]) scope ⟨cl, s2.heap.objs.size + 1, s2, H2, fp⟩) ([] ++ pinsAt fp s6.heap) (σ ++ [some xv]) H8 s8 → m < n → W (i + 1) m ys' H8 →
          ∃ m, m < n ∧ ∃ i ys H', Inv (X.comp (M ++ [x]) scope ⟨cl, s2.heap.objs.size + 1, s2, H2, fp⟩) [] (σ ++ [none]) H' s8 ∧ tn i s8.heap ∧ (∀ b ∈ fp, H' b = none) ∧ W i m ys H' := fun {ys' H8 s8 m} I8 hm w8 => by
        refine ⟨m, hm, i + 1, ys', H8, (I8.unpinned).weak (by simp) (fun j v e => ?_), T.keep _ _ _ st6 fun b hb o e => (I8.pin (b, o) (List.mem_append_right _ (List.mem_append_right _ (mem_pinsAt hb e)))).1, fun b hb => ?_, w8⟩
        · by_cases hj : j < σ.length
          · rw [List.getElem?_append_left hj] at e ⊢; exact e
          · rw [List.getElem?_append_right (by omega)] at e
            by_cases hq : j - σ.length = 0
            · rw [hq] at e; cases e
            · rw [List.getElem?_eq_none (by simp; omega)] at e; cases e
        · obtain ⟨o, e, d⟩ := T.obj _ _ st6 b hb
          exact (I8.pin (b, o) (List.mem_append_right _ (List.mem_append_right _ (mem_pinsAt hb e)))).2.1
      refine wpAny_mono (hif ⟨cl, s2.heap.objs.size + 1, s2, H2, fp⟩ _ s7 _ _ _ I7 (st xv _ y6)) (fun ok s8 ⟨H8, I8, q8⟩ => ?_) fun _ _ z => z
      cases ok with
      | false =>
        rw [if_neg Bool.false_ne_true] at q8
        obtain ⟨m, hm, w8⟩ := hN _ _ q8
        exact again I8 hm w8
      | true =>
        rw [if_pos rfl] at q8
        refine wpAny_mono (he ⟨cl, s2.heap.objs.size + 1, s2, H2, fp⟩ _ s8 _ H8 _ I8 q8) (fun xu s9 ⟨v9, H9, I9, r9, hD9, n9⟩ => ?_) fun _ _ z => z
        obtain ⟨m, hm, w9⟩ := hN _ _ n9
        exact wpAny_mono (append_call (X := X.comp (M ++ [x]) scope ⟨cl, s2.heap.objs.size + 1, s2, H2, fp⟩) I9 hD9 hz r9) (fun _ s10 I10 => again I10 hm w9) fun _ _ z => z
  rw [hsize]
  exact codeAny_compStart_list loop (T.self X.A 0 _ _ _ st3 loop)


theorem pe_comp {X : Cx} {iter elt : Expr} {ifs : List Expr} {x : Str} {px pos : Pos} {scope : Scope} (M : List Str) {wi : TI} {tc : CB → TT} {te : CB → TE}
    (hc : X.calm = true) (hi : PI X (.Name x px) iter wi)
    (hif : ∀ b : CB, PIfs (X.comp (M ++ [x]) scope b) ifs (tc b)) (he : ∀ b : CB, PE (X.comp (M ++ [x]) scope b) elt (te b))
    (ok : compOK X.env.scope scope x M X.N = true := by kernel_rfl)
    (hs : ∀ x, foldedSetIterable iter X.env x = pure x := by intro _; rfl) :
    PE X (.ListComp elt [⟨.Name x px, iter, ifs, 0⟩] scope pos) (tComp wi tc te) := by
  intro pins s σ H Q I h
  rw [eval_ListComp]
  exact comp_core M (use := none) (R := EP X pins σ Q) I h (fun D C m s' H' hn _ hI q => ⟨m, hn, fun h' sb => ⟨.ref D, H', hI h' sb, rfl, q⟩⟩) hc hi hif he ok hs
/-- the frame of a block may still change -/
theorem Inv.butC {X : Cx} {pins : List (Addr × Obj)} {σ : St} {H : Hp} {s : Shared} {C : Addr} {h' : Heap} (I : Inv X pins σ H s) (f : FpOk X pins H C) (sb : Heap.SameBut C s.heap h') : Inv X pins σ H { s with heap := h' } := by
  obtain ⟨f0, f1, f2, f3, f4, f5⟩ := f
  refine I.call' (ch := [C]) rfl ⟨fun b o e n _ hx => ?_, fun b o e n _ hx => ?_, fun b o e n _ => n, fun b o e hx => ?_, fun _ _ z => z, fun _ _ _ z => z, fun _ ps z => ⟨#[], by simpa using z⟩⟩ (SameBut.hokC I.hok sb f0) I.bare fun b hb => ?_
  · exact (sb.2 b (by simpa using hx)).trans e
  · exact ⟨o.slots, (sb.2 b (by simpa using hx)).trans e⟩
  · exact ⟨o, (sb.2 b (by simpa using hx)).trans e⟩
  · have : b = C := by simpa using hb
    subst this
    exact ⟨f3, f1, f4, f5⟩
/-- name = [comprehension] -/
theorem ps_setC {X : Cx} {iter elt : Expr} {ifs : List Expr} {x y : Str} {px py pos spos : Pos} {scope : Scope} (M : List Str) {i : Nat} {wi : TI} {tc : CB → TT} {te : CB → TE}
    (hc : X.calm = true) (hN : X.N.Nodup) (hiy : X.N[i]? = some y) (hy : Loc X.env.scope y) (hi : PI X (.Name x px) iter wi)
    (hif : ∀ b : CB, PIfs (X.comp (M ++ [x]) scope b) ifs (tc b)) (he : ∀ b : CB, PE (X.comp (M ++ [x]) scope b) elt (te b))
    (hsw : swapsWith (.ListComp elt [⟨.Name x px, iter, ifs, 0⟩] scope pos) (some (.Name y py)) spos.line X.env = pure true := by rfl)
    (ok : compOK X.env.scope scope x M X.N = true := by kernel_rfl)
    (hs : ∀ x, foldedSetIterable iter X.env x = pure x := by intro _; rfl)
    (hf : X.fn y = true ∨ X.env.scope.names.lookup y = some .local := by first | exact .inl rfl | exact .inr rfl | assumption) :
    PS X (.Assign [.Name y py] (.ListComp elt [⟨.Name x px, iter, ifs, 0⟩] scope pos) spos) (tAsg (tComp wi tc te) (gName i)) := by
  intro pins s σ H D I h
  rw [exec_Assign_Name_used _ _ _ _ hsw]; refine wpAny_bind (wpAny_standAt (wpAny_bind ?_))
  show wpAny _ X.A (do let _ ← comprehension (.ListComp elt [⟨.Name x px, iter, ifs, 0⟩] scope pos) scope X.env _ (newList []) false (eval iter X.env) (some (assign (.Name y py) X.env))) _ _ s
  refine wpAny_bind (wpAny_mono (comp_core M (use := some (assign (.Name y py) X.env)) (R := fun _ s' => _) I h (fun D' C m s' H' hn f hI q => ?_) hc hi hif he ok hs) (fun _ s' hq => wpAny_pure (wpAny_pure hq)) fun _ _ e => e)
  have I' : Inv X pins σ H' s' := hI s'.heap ⟨rfl, fun _ _ => rfl⟩
  show wpAny _ X.A (assign (.Name y py) X.env (.ref D')) _ _ _
  refine wpAny_assign_Name (store_ok2 (v := .ref D') I' hN hiy hy rfl (fun s2 I2 ⟨a, sb, ha⟩ => ?_) hf)
  have hCa : C ≠ a := by
    obtain ⟨f0, f1, f2, f3, f4, f5⟩ := f
    rintro rfl
    rcases ha with z | z
    · exact f1 z
    · exact f4 _ _ z rfl
  exact ⟨m, hn.sameBut sb hCa, fun h' sb' => ⟨_, H', I2.butC f sb', q⟩⟩
end L2

namespace L2
open PySem PySem.Spec PyProof.Rows

/-! ### comprehensions in the forms one uses -/
theorem comp_range {lo : Int} {n : Nat} {tc : TT} {te : TE} {σ : St} {H1 : Hp} {Q : Hp → Prop} {D : Addr} (Pv : Nat → List V → Hp → Prop) (hn : n < sizeLine) (h0 : Pv 0 [] (upd H1 D (.lst [])))
    (hl : ∀ i ys H, Pv i ys H → ys.length ≤ i)
    (hs : ∀ i ys H, i < n → Pv i ys H → tc (σ ++ [some (.int (lo + i))]) H fun b H2 => if b = true then te (σ ++ [some (.int (lo + i))]) H2 fun v H3 => H3 D = some (.lst ys) ∧ Pv (i + 1) (ys ++ [v]) (upd H3 D (.lst (ys ++ [v]))) else Pv (i + 1) ys H2)
    (hd : ∀ ys H, Pv n ys H → Q H) :
    ∃ W : Nat → Nat → List V → Hp → Prop, (∃ m, W 0 m [] (upd H1 D (.lst []))) ∧
      ∀ i m ys H, W i m ys H → ((Itr lo n).stop i H ∧ Q H) ∨ ((Itr lo n).go i H ∧ ys.length < sizeLine ∧ ∃ N : List V → Hp → Prop, (∀ ys' H', N ys' H' → ∃ m', m' < m ∧ W (i + 1) m' ys' H') ∧ ∀ x H', (Itr lo n).yld i H x H' → tc (σ ++ [some x]) H' fun b H2 =>
        if b = true then te (σ ++ [some x]) H2 fun v H3 => H3 D = some (.lst ys) ∧ N (ys ++ [v]) (upd H3 D (.lst (ys ++ [v]))) else N ys H2) := by
  refine ⟨fun i m ys H => m = n - i ∧ i ≤ n ∧ Pv i ys H, ⟨n, by simp, Nat.zero_le _, h0⟩, ?_⟩
  rintro i m ys H ⟨rfl, hi, p⟩
  by_cases hlt : i < n
  · refine .inr ⟨hlt, Nat.lt_of_le_of_lt (hl i ys H p) (Nat.lt_trans hlt hn), Pv (i + 1), fun ys' H' p' => ⟨n - (i + 1), by omega, rfl, hlt, p'⟩, fun x H' y => ?_⟩
    obtain ⟨e, y⟩ := y
    subst e y
    exact hs i ys _ hlt p
  · have e : i = n := by omega
    subst e
    exact .inl ⟨Nat.le_refl _, hd ys H p⟩
theorem comp_list {K : PySem.W.Frag} {a : Addr} {xs : List V} {tc : TT} {te : TE} {σ : St} {H1 : Hp} {Q : Hp → Prop} {D : Addr} (Pv : Nat → List V → Hp → Prop) (hn : xs.length < sizeLine) (h0 : Pv 0 [] (upd H1 D (.lst [])))
    (hl : ∀ i ys H, Pv i ys H → ys.length ≤ i) (hq : ∀ i ys H, i ≤ xs.length → Pv i ys H → SqL K H a xs)
    (hs : ∀ i x ys H, xs[i]? = some x → Pv i ys H → tc (σ ++ [some x]) H fun b H2 => if b = true then te (σ ++ [some x]) H2 fun v H3 => H3 D = some (.lst ys) ∧ Pv (i + 1) (ys ++ [v]) (upd H3 D (.lst (ys ++ [v]))) else Pv (i + 1) ys H2)
    (hd : ∀ ys H, Pv xs.length ys H → Q H) :
    ∃ W : Nat → Nat → List V → Hp → Prop, (∃ m, W 0 m [] (upd H1 D (.lst []))) ∧
      ∀ i m ys H, W i m ys H → ((Itl K a).stop i H ∧ Q H) ∨ ((Itl K a).go i H ∧ ys.length < sizeLine ∧ ∃ N : List V → Hp → Prop, (∀ ys' H', N ys' H' → ∃ m', m' < m ∧ W (i + 1) m' ys' H') ∧ ∀ x H', (Itl K a).yld i H x H' → tc (σ ++ [some x]) H' fun b H2 =>
        if b = true then te (σ ++ [some x]) H2 fun v H3 => H3 D = some (.lst ys) ∧ N (ys ++ [v]) (upd H3 D (.lst (ys ++ [v]))) else N ys H2) := by
  refine ⟨fun i m ys H => m = xs.length - i ∧ i ≤ xs.length ∧ Pv i ys H, ⟨xs.length, by simp, Nat.zero_le _, h0⟩, ?_⟩
  rintro i m ys H ⟨rfl, hi, p⟩
  have q := hq i ys H hi p
  by_cases hlt : i < xs.length
  · refine .inr ⟨⟨xs, xs[i], q, by simp [hlt]⟩, Nat.lt_of_le_of_lt (hl i ys H p) (Nat.lt_trans hlt hn), Pv (i + 1), fun ys' H' p' => ⟨xs.length - (i + 1), by omega, rfl, hlt, p'⟩, fun x H' y => ?_⟩
    obtain ⟨e, y⟩ := y
    subst e
    exact hs i x ys _ (y xs q) p
  · have e : i = xs.length := by omega
    subst e
    exact .inl ⟨⟨xs, q, Nat.le_refl _⟩, hd ys H p⟩

/-! ### data, and == of data -/
mutual
def DatV (K : PySem.W.Frag) (H : Hp) : PyData → V → Prop
  | .none, v => v = .non
  | .bool b, v => v = .bl b
  | .int i, v => v = .int i
  | .str x, v => v = .str x ∧ PyData.strOk x = true
  | .list ds, v => ∃ a xs, v = .ref a ∧ SqL K H a xs ∧ DatVs K H ds xs
  | .tuple ds, v => ∃ a xs, v = .ref a ∧ SqT K H a xs ∧ DatVs K H ds xs
  | .dict _, _ => False
def DatVs (K : PySem.W.Frag) (H : Hp) : List PyData → List V → Prop
  | [], xs => xs = []
  | d :: ds, xs => ∃ x r, xs = x :: r ∧ DatV K H d x ∧ DatVs K H ds r
end
section
variable {X : Cx} {pins : List (Addr × Obj)} {σ : St} {H : Hp} {s : Shared}
mutual
theorem DatV.reads (I : Inv X pins σ H s) : ∀ (d : PyData) (v : V) (u : Value), DatV X.K H d v → RelV v u → (∃ as, Reads s.heap u d as) ∧ d.canLay0 = true
  | .none, v, u, h, r => by
    rw [DatV] at h; subst h; cases r; exact ⟨⟨_, .none⟩, by simp [PyData.canLay0]⟩
  | .bool b, v, u, h, r => by
    rw [DatV] at h; subst h; cases r; exact ⟨⟨_, .bool b⟩, by simp [PyData.canLay0]⟩
  | .int i, v, u, h, r => by
    rw [DatV] at h; subst h; obtain ⟨t, rfl⟩ := r; exact ⟨⟨_, .int i t⟩, by simp [PyData.canLay0]⟩
  | .str x, v, u, h, r => by
    rw [DatV] at h; obtain ⟨h, hx⟩ := h; subst h; obtain ⟨t, rfl⟩ := r; exact ⟨⟨_, .str x t⟩, by simp [PyData.canLay0, hx]⟩
  | .list ds, v, u, h, r => by
    rw [DatV] at h; obtain ⟨a, xs, rfl, hq, hd⟩ := h
    cases r
    obtain ⟨its, rv, p, hz⟩ := I.list hq
    obtain ⟨⟨as, ra⟩, cl⟩ := DatVs.reads I ds xs its hd rv
    obtain ⟨o, ho, hc, n, hdt⟩ := p.isList
    exact ⟨⟨_, .list ho hc hdt (by simpa using ra)⟩, by rw [PyData.canLay0]; exact cl⟩
  | .tuple ds, v, u, h, r => by
    rw [DatV] at h; obtain ⟨a, xs, rfl, hq, hd⟩ := h
    cases r
    obtain ⟨its, rv, p, hz⟩ := I.tuple hq
    obtain ⟨⟨as, ra⟩, cl⟩ := DatVs.reads I ds xs its hd rv
    obtain ⟨o, ho, hc, n, hdt⟩ := p
    exact ⟨⟨_, .tuple ho hc hdt (by simpa using ra)⟩, by rw [PyData.canLay0]; exact cl⟩
  | .dict _, v, u, h, r => by rw [DatV] at h; exact h.elim
theorem DatVs.reads (I : Inv X pins σ H s) : ∀ (ds : List PyData) (vs : List V) (us : List Value), DatVs X.K H ds vs → Vals vs us → (∃ as, ReadsAll s.heap us ds as) ∧ PyData.canLayAll0 ds = true
  | [], vs, us, h, r => by
    rw [DatVs] at h; subst h; cases r; exact ⟨⟨_, .nil⟩, by simp [PyData.canLayAll0]⟩
  | d :: ds, vs, us, h, r => by
    rw [DatVs] at h; obtain ⟨x, rr, rfl, h1, h2⟩ := h
    cases r with
    | cons r1 r2 =>
      obtain ⟨⟨as, ra⟩, ca⟩ := DatV.reads I d x _ h1 r1
      obtain ⟨⟨bs, rb⟩, cb⟩ := DatVs.reads I ds rr _ h2 r2
      exact ⟨⟨_, .cons ra rb⟩, by rw [PyData.canLayAll0, ca, cb]; rfl⟩
end
def rEqD (K : PySem.W.Frag) (neg : Bool) : R2 := fun x y H Q => ∃ da db, DatV K H da x ∧ DatV K H db y ∧ min da.depth db.depth ≤ 64 ∧ Q (.bl (if neg then !PyData.eqv da db else PyData.eqv da db)) H
theorem op_eqD {k : Nat} (hr : Room k X.A) : OpR X (compareOp .Eq) (rEqD X.K false) := by
  intro pins s σ H x y v u Q I rx ry h
  obtain ⟨da, db, h1, h2, hd, q⟩ := h
  obtain ⟨⟨as, ra⟩, ca⟩ := DatV.reads I da x v h1 rx
  obtain ⟨⟨bs, rb⟩, cb⟩ := DatV.reads I db y u h2 ry
  exact SeqAt.compareEq_reads ra rb ca cb (by have := hr.units; omega) ⟨.bl _, H, I, rfl, q⟩
theorem op_neD {k : Nat} (hr : Room k X.A) : OpR X (compareOp .NotEq) (rEqD X.K true) := by
  intro pins s σ H x y v u Q I rx ry h
  obtain ⟨da, db, h1, h2, hd, q⟩ := h
  obtain ⟨⟨as, ra⟩, ca⟩ := DatV.reads I da x v h1 rx
  obtain ⟨⟨bs, rb⟩, cb⟩ := DatV.reads I db y u h2 ry
  exact SeqAt.compareNe_reads ra rb ca cb (by have := hr.units; omega) ⟨.bl _, H, I, rfl, q⟩
end

/-! ### lists of ints, of signs -/
theorem datVs_ints {K : PySem.W.Frag} {H : Hp} : ∀ ns : List Int, DatVs K H (ns.map PyData.int) (ns.map V.int)
  | [] => by simp [DatVs]
  | n :: ns => by
    rw [List.map_cons, List.map_cons, DatVs]
    exact ⟨_, _, rfl, by rw [DatV], datVs_ints ns⟩
theorem datV_ints {K : PySem.W.Frag} {H : Hp} {a : Addr} {ns : List Int} (h : SqL K H a (ns.map V.int)) : DatV K H (.list (ns.map PyData.int)) (.ref a) := by
  rw [DatV]; exact ⟨a, _, rfl, h, datVs_ints ns⟩
/-- a sign: a text of one code -/
abbrev sgS (c : Nat) : Str := ⟨#[c]⟩
abbrev sg (c : Nat) : V := .str (sgS c)
theorem datVs_sgs {K : PySem.W.Frag} {H : Hp} : ∀ cs : List Nat, (∀ c ∈ cs, c < 0x110000) → DatVs K H (cs.map fun c => PyData.str (sgS c)) (cs.map sg)
  | [], _ => by simp [DatVs]
  | c :: cs, h => by
    rw [List.map_cons, List.map_cons, DatVs]
    refine ⟨_, _, rfl, ?_, datVs_sgs cs fun c hc => h c (List.mem_cons_of_mem _ hc)⟩
    rw [DatV]
    exact ⟨rfl, by simp [PyData.strOk, h c List.mem_cons_self]⟩
theorem datV_sgs {K : PySem.W.Frag} {H : Hp} {a : Addr} {cs : List Nat} (h : SqL K H a (cs.map sg)) (hc : ∀ c ∈ cs, c < 0x110000) : DatV K H (.list (cs.map fun c => PyData.str (sgS c))) (.ref a) := by
  rw [DatV]; exact ⟨a, _, rfl, h, datVs_sgs cs hc⟩
theorem depthAll_ints : ∀ ns : List Int, PyData.depthAll (ns.map PyData.int) ≤ 1
  | [] => by simp [PyData.depthAll]
  | n :: ns => by
    have := depthAll_ints ns
    rw [List.map_cons, PyData.depthAll]
    simp only [PyData.depth]
    omega
theorem depthAll_sgs : ∀ cs : List Nat, PyData.depthAll (cs.map fun c => PyData.str (sgS c)) ≤ 1
  | [] => by simp [PyData.depthAll]
  | c :: cs => by
    have := depthAll_sgs cs
    rw [List.map_cons, PyData.depthAll]
    simp only [PyData.depth]
    omega
theorem depth_ints (ns : List Int) : (PyData.list (ns.map PyData.int)).depth ≤ 2 := by
  have := depthAll_ints ns
  rw [PyData.depth]; omega
theorem depth_sgs (cs : List Nat) : (PyData.list (cs.map fun c => PyData.str (sgS c))).depth ≤ 2 := by
  have := depthAll_sgs cs
  rw [PyData.depth]; omega
theorem eqvAll_ints : ∀ ns ms : List Int, PyData.eqvAll (ns.map PyData.int) (ms.map PyData.int) = decide (ns = ms)
  | [], [] => by simp [PyData.eqvAll]
  | [], _ :: _ => by simp [PyData.eqvAll]
  | _ :: _, [] => by simp [PyData.eqvAll]
  | n :: ns, m :: ms => by
    rw [List.map_cons, List.map_cons, PyData.eqvAll, eqvAll_ints ns ms]
    rw [PyData.eqv, Bool.beq_eq_decide_eq]
    simp
theorem sgS_inj {a b : Nat} : (sgS a == sgS b) = decide (a = b) := by
  by_cases h : a = b
  · subst h; simp
  · have : sgS a ≠ sgS b := fun e => h (by simpa [sgS] using e)
    simp [h, this]
theorem eqvAll_sgs : ∀ cs ds : List Nat, PyData.eqvAll (cs.map fun c => PyData.str (sgS c)) (ds.map fun c => PyData.str (sgS c)) = decide (cs = ds)
  | [], [] => by simp [PyData.eqvAll]
  | [], _ :: _ => by simp [PyData.eqvAll]
  | _ :: _, [] => by simp [PyData.eqvAll]
  | c :: cs, d :: ds => by
    rw [List.map_cons, List.map_cons, PyData.eqvAll, eqvAll_sgs cs ds, PyData.eqv, sgS_inj]
    simp
theorem eqv_ints (ns ms : List Int) : PyData.eqv (.list (ns.map PyData.int)) (.list (ms.map PyData.int)) = decide (ns = ms) := by rw [PyData.eqv, eqvAll_ints]
theorem eqv_sgs (cs ds : List Nat) : PyData.eqv (.list (cs.map fun c => PyData.str (sgS c))) (.list (ds.map fun c => PyData.str (sgS c))) = decide (cs = ds) := by rw [PyData.eqv, eqvAll_sgs]

/-- == of two lists of ints; of two lists of signs -/
def rEqI (K : PySem.W.Frag) (neg : Bool) : R2 := fun x y H Q => ∃ (a b : Addr) (ns ms : List Int), x = .ref a ∧ y = .ref b ∧ SqL K H a (ns.map V.int) ∧ SqL K H b (ms.map V.int) ∧ Q (.bl (if neg then !decide (ns = ms) else decide (ns = ms))) H
def rEqS (K : PySem.W.Frag) (neg : Bool) : R2 := fun x y H Q => ∃ (a b : Addr) (cs ds : List Nat), x = .ref a ∧ y = .ref b ∧ SqL K H a (cs.map sg) ∧ SqL K H b (ds.map sg) ∧ (∀ c ∈ cs, c < 0x110000) ∧ (∀ c ∈ ds, c < 0x110000) ∧ Q (.bl (if neg then !decide (cs = ds) else decide (cs = ds))) H
section
variable {X : Cx} {k : Nat}
theorem OpR.imp {f : Value → Value → Sem Value} {r r' : R2} (h : OpR X f r) (i : ∀ x y H Q, r' x y H Q → r x y H Q) : OpR X f r' := fun pins s σ H x y v u Q I rx ry q => h pins s σ H x y v u Q I rx ry (i _ _ _ _ q)
theorem rEqI.toD {K : PySem.W.Frag} {neg : Bool} : ∀ x y H Q, rEqI K neg x y H Q → rEqD K neg x y H Q := by
  rintro x y H Q ⟨a, b, ns, ms, rfl, rfl, h1, h2, q⟩
  refine ⟨_, _, datV_ints h1, datV_ints h2, Nat.le_trans (Nat.min_le_left _ _) (Nat.le_trans (depth_ints ns) (by decide)), ?_⟩
  rw [eqv_ints]
  exact q
theorem rEqS.toD {K : PySem.W.Frag} {neg : Bool} : ∀ x y H Q, rEqS K neg x y H Q → rEqD K neg x y H Q := by
  rintro x y H Q ⟨a, b, ns, ms, rfl, rfl, h1, h2, c1, c2, q⟩
  refine ⟨_, _, datV_sgs h1 c1, datV_sgs h2 c2, Nat.le_trans (Nat.min_le_left _ _) (Nat.le_trans (depth_sgs ns) (by decide)), ?_⟩
  rw [eqv_sgs]
  exact q
theorem op_eqLI (hr : Room k X.A) : OpR X (compareOp .Eq) (rEqI X.K false) := (op_eqD hr).imp rEqI.toD
theorem op_neLI (hr : Room k X.A) : OpR X (compareOp .NotEq) (rEqI X.K true) := (op_neD hr).imp rEqI.toD
theorem op_eqLS (hr : Room k X.A) : OpR X (compareOp .Eq) (rEqS X.K false) := (op_eqD hr).imp rEqS.toD
theorem op_le_str : OpR X (compareOp .LtE) (fun x y H Q => ∃ i j, x = .str i ∧ y = .str j ∧ Q (.bl (!decide (j.cps.toList < i.cps.toList))) H) := by
  intro pins s σ H x y v u Q I rx ry h
  obtain ⟨i, j, rfl, rfl, q⟩ := h
  obtain ⟨t, rfl⟩ := rx
  obtain ⟨t', rfl⟩ := ry
  exact PySem.P.le_str ⟨.bl _, H, I, rfl, q⟩
/-- isinstance of a value whose type is known, a built-in type -/
theorem call_isinst : CallR X (.builtin "isinstance") (fun xs H Q => ∃ x t c b, xs = [x, .ty c] ∧ TyOf X.K H x t ∧ PySem.W.kitOne X.K t (.type c) = some b ∧ Q (.bl b) H) := by
  intro pins s σ H xs us Q I r h
  obtain ⟨x, t, c, b, rfl, ty, e, q⟩ := h
  obtain ⟨u, u', rfl, rx, rc⟩ := vals2 r
  cases rc
  exact isinst_ok I rx ty e fun tk => ⟨.bl b, H, I.tok tk, rfl, q⟩
end
end L2

namespace L2
open PySem PySem.Spec PyProof.Rows
/-! ### a def of the text, by its name -/
structure Fn (P : Program) (w : World) (K : PySem.W.Frag) (mg : Str → Option Value) (base : Heap) (CX : CXT) (x : Str) (k : Nat) (ps : List Str) (sp : Sp) : Prop where
  ex : ∃ f fd, FnOk P w K mg base CX k f fd ps sp ∧ mg x = some (.ref f) ∧ PySem.W.keepIn K (.ref f) = true ∧ Binds K fd ps [] ∧ ∃ oc od osl, K.lookup f = some ⟨oc, od, .func fd, osl⟩
theorem pe_fn {X : Cx} {CX : CXT} {k j : Nat} {ps : List Str} {sp : Sp} {E : XK} {x : Str} {p pos : Pos} {e : Expr} {es : List Expr} {t : TA} (F : Fn X.prog X.w X.K X.mg X.base CX x k ps sp) (hr : Room j X.A) (hx : Passes CX X E) (ha : PA X (e :: es) t) (hg : Gl X x := by rfl) (hj : k ≤ j := by decide)
    (hdb : (x == ("__debug__" : Str)) = false := by decide) (he : starEach (e :: es) X.env = (false, eval e X.env) :: starEach es X.env := by rfl) (hpl : (backTo pos (starEach es X.env)).any (·.1) = false := by rfl) :
    PE X (.Call (.Name x p) (e :: es) [] pos) (tCall sp [] E t) := by
  obtain ⟨f, fd, F, hm, hk, hb, _⟩ := F.ex
  exact pe_call F (hr.mono hj) hg hm hk hb .nil hx ha hdb he hpl
/-- what the top has written of a def -/
structure FF (K : PySem.W.Frag) (x : Str) (st : Stmt) : Prop where
  ex : ∃ (f : Addr) (oc : Value) (od an : Option Addr) (osl : Array (Option Value)) (kV doc pm cdv ct : Value), PySem.W.nsIn K mainGlobals x = some (some (.ref f)) ∧
    K.lookup f = some ⟨oc, od, .func (PySem.W.fnOf x x (defArgs st) (defBody st) (defScope st) .none kV doc pm an cdv ct), osl⟩ ∧ PySem.W.codeIn K cdv x = true ∧ PySem.W.keepIn K (.ref f) = true
theorem ff_mk {K : PySem.W.Frag} {x : Str} {st : Stmt} {f : Addr} {oc : Value} {od an : Option Addr} {osl : Array (Option Value)} {kV doc pm cdv ct : Value} (a : PySem.W.nsIn K mainGlobals x = some (some (.ref f)))
    (l : K.lookup f = some ⟨oc, od, .func (PySem.W.fnOf x x (defArgs st) (defBody st) (defScope st) .none kV doc pm an cdv ct), osl⟩) (c : PySem.W.codeIn K cdv x = true) (k : PySem.W.keepIn K (.ref f) = true) : FF K x st := ⟨f, oc, od, an, osl, kV, doc, pm, cdv, ct, a, l, c, k⟩
/-- the facts of the module that a def wants -/
structure Md (K : PySem.W.Frag) (mg : Str → Option Value) : Prop where
  ns : ∀ x v, PySem.W.nsIn K mainGlobals x = some v → mg x = v
theorem md_of {K : PySem.W.Frag} {h : Heap} {mg : Str → Option Value} (X : K.In h) (G : h.Ns mainGlobals mg) : Md K mg := ⟨fun x v e => by
  cases v with
  | none => exact PySem.W.mg_none_of X G e
  | some u => exact PySem.W.mg_of X G e⟩
/-- THE RULE for a def of the text: no exception leaves it -/
theorem fn_ok {P : Program} {w : World} {K : PySem.W.Frag} {mg : Str → Option Value} {base : Heap} {x : Str} {st : Stmt} {N ps : List Str} {k : Nat} {sp : Sp} (M : Md K mg) (F : FF K x st) (S : FnScope N ps (defScope st))
    (hbind : ∀ (kV doc pm : Value) (an : Option Addr) (cdv ct : Value) (us : List Value), us.length = ps.length → bindArgs (PySem.W.fnOf x x (defArgs st) (defBody st) (defScope st) .none kV doc pm an cdv ct) ⟨us, []⟩ = pure (ps.zip us))
    (len : ∀ vs H Q E, sp vs H Q E → vs.length = ps.length)
    (hbody : ∀ (f : Addr) (cdv : Value) (A : Around) (outer : List Env) (s : Shared) (H : Hp) (vs : List V) (Q : VK) (E : XK), Room k (A.deeper (envOfC x (defScope st) s.heap.objs.size f cdv)) → sp vs H Q E →
      ∃ t, PSs (cxOf CX0 P w K mg base N x (defScope st) f cdv A outer s H E).nox (defBody st) t ∧ t { nx := fun _ H' => Q .non H', rt := Q } (start N vs) H) : Fn P w K mg base CX0 x (k + 1) ps sp := by
  obtain ⟨f, oc, od, an, osl, kV, doc, pm, cdv, ct, a, l, c, kk⟩ := F.ex
  have F1 := fun_mk (st := st) l c kk
  exact ⟨f, _, F1.ok S len (fun cdv A outer s H vs Q E hr h => hbody f cdv A outer s H vs Q E hr h), M.ns _ _ a, kk, F1.binds hbind, oc, od, osl, l⟩
/-- the law's own def, for the head -/
theorem law_of {P : Program} {w : World} {K : PySem.W.Frag} {mg : Str → Option Value} {st : Stmt} {fa : Addr} {k : Nat} {sp : Sp} {CX : CXT} (M : Md K mg) (F : FF K "law" st) (hfa : mg "law" = some (.ref fa))
    (hb : ∀ (kV doc pm : Value) (an : Option Addr) (cdv ct : Value) (s : Shared) (v : Value), BindsTo s (PySem.W.fnOf "law" "law" (defArgs st) (defBody st) (defScope st) .none kV doc pm an cdv ct) ⟨[v], []⟩ [("script", v)])
    (h : ∀ base : Heap, Fn P w K mg base CX "law" k ["script"] sp) :
    ∃ fd : FuncData, (∀ (s : Shared) (v : Value), BindsTo s fd ⟨[v], []⟩ [("script", v)]) ∧ ∀ base : Heap, K.In base → base.Ns mainGlobals mg → FnOk P w K mg base CX k fa fd ["script"] sp := by
  obtain ⟨f, oc, od, an, osl, kV, doc, pm, cdv, ct, a, l, c, kk⟩ := F.ex
  have e := hfa.symm.trans (M.ns _ _ a)
  cases e
  refine ⟨_, hb kV doc pm an cdv ct, fun base _ _ => ?_⟩
  obtain ⟨f', fd', F', hm', _, _, oc', od', osl', l'⟩ := (h base).ex
  have e := hm'.symm.trans (M.ns _ _ a)
  cases e
  rw [l] at l'
  cases l'
  exact F'
/-- the built-in names that the text does not bind -/
structure Bl (mg : Str → Option Value) : Prop where
  max : mg "max" = none
  int : mg "int" = none
  len : mg "len" = none
  range : mg "range" = none
  list : mg "list" = none
  isinst : mg "isinstance" = none
  bool : mg "bool" = none
  str : mg "str" = none
  tuple : mg "tuple" = none
  rev : mg "reversed" = none
  zip : mg "zip" = none
  min : mg "min" = none
  sum : mg "sum" = none
  enumerate : mg "enumerate" = none
  dict : mg "dict" = none
theorem bl_of {K : PySem.W.Frag} {mg : Str → Option Value} (M : Md K mg) (b1 : PySem.W.nsIn K mainGlobals "max" = some none) (b2 : PySem.W.nsIn K mainGlobals "int" = some none) (b3 : PySem.W.nsIn K mainGlobals "len" = some none) (b4 : PySem.W.nsIn K mainGlobals "range" = some none) (b5 : PySem.W.nsIn K mainGlobals "list" = some none) (b6 : PySem.W.nsIn K mainGlobals "isinstance" = some none) (b7 : PySem.W.nsIn K mainGlobals "bool" = some none) (b8 : PySem.W.nsIn K mainGlobals "str" = some none) (b9 : PySem.W.nsIn K mainGlobals "tuple" = some none) (b10 : PySem.W.nsIn K mainGlobals "reversed" = some none) (b11 : PySem.W.nsIn K mainGlobals "zip" = some none) (b12 : PySem.W.nsIn K mainGlobals "min" = some none) (b13 : PySem.W.nsIn K mainGlobals "sum" = some none) (b14 : PySem.W.nsIn K mainGlobals "enumerate" = some none) (b15 : PySem.W.nsIn K mainGlobals "dict" = some none) : Bl mg :=
  ⟨M.ns _ _ b1, M.ns _ _ b2, M.ns _ _ b3, M.ns _ _ b4, M.ns _ _ b5, M.ns _ _ b6, M.ns _ _ b7, M.ns _ _ b8, M.ns _ _ b9, M.ns _ _ b10, M.ns _ _ b11, M.ns _ _ b12, M.ns _ _ b13, M.ns _ _ b14, M.ns _ _ b15⟩
/-- everything tracked but p is as it was -/
def Keep (p : Addr) (H H' : Hp) : Prop := ∀ b o, H b = some o → b ≠ p → H' b = some o
theorem Keep.refl (p : Addr) (H : Hp) : Keep p H H := fun _ _ h _ => h
theorem Keep.trans {p : Addr} {H H1 H2 : Hp} (a : Keep p H H1) (b : Keep p H1 H2) : Keep p H H2 := fun c o h n => b c o (a c o h n) n
theorem Same.keep {p : Addr} {H H' : Hp} (a : Same H H') : Keep p H H' := fun c o h _ => a c o h
theorem Keep.upd {p : Addr} {H : Hp} {o : HO} : Keep p H (upd H p o) := fun c u h n => by rw [upd_ne n]; exact h
theorem Same.upd {H : Hp} {p : Addr} {o : HO} (h : H p = none) : Same H (upd H p o) := fun c u e => by rw [upd_ne (ne_of_none e h)]; exact e
theorem Keep.free {p : Addr} {H H' : Hp} (a : Keep p H H') {o : HO} (hp : H' p = some o) {l : Addr} (h : H' l = none) : H l = none := by
  cases q : H l with
  | none => rfl
  | some u =>
    have : l ≠ p := fun z => by subst z; rw [hp] at h; cases h
    rw [a l u q this] at h; cases h

/-! ### built-in calls in short -/
theorem bt_max : bootBuiltins "max" = some (.builtin "max") := by decide +kernel
theorem bt_min : bootBuiltins "min" = some (.builtin "min") := by decide +kernel
theorem bt_sum : bootBuiltins "sum" = some (.builtin "sum") := by decide +kernel
theorem bt_len : bootBuiltins "len" = some (.builtin "len") := by decide +kernel
theorem bt_isinst : bootBuiltins "isinstance" = some (.builtin "isinstance") := by decide +kernel
theorem bt_str : bootBuiltins "str" = some (.type "str") := by decide +kernel
theorem bt_list : bootBuiltins "list" = some (.type "list") := by decide +kernel
theorem bt_tuple : bootBuiltins "tuple" = some (.type "tuple") := by decide +kernel
theorem bt_rev : bootBuiltins "reversed" = some (.type "reversed") := by decide +kernel
section
variable {X : Cx} {e e2 : Expr} {te te2 : TE} {p p2 pos : Pos}
theorem PE.imp {t t' : TE} (h : PE X e t) (i : ∀ σ H Q, t' σ H Q → t σ H Q) : PE X e t' := fun pins s σ H Q I q => h pins s σ H Q I (i σ H Q q)
def tLenL (K : PySem.W.Frag) (te : TE) : TE := fun σ H Q => te σ H fun x H1 => ∃ a ys, x = .ref a ∧ SqL K H1 a ys ∧ Q (.int ys.length) H1
def tLenS (te : TE) : TE := fun σ H Q => te σ H fun x H1 => ∃ z, x = .str z ∧ z.length ≤ sizeLine ∧ Q (.int z.length) H1
def tMax (te te2 : TE) : TE := fun σ H Q => te σ H fun x H1 => te2 σ H1 fun y H2 => ∃ i j, x = .int i ∧ y = .int j ∧ Q (.int (if j > i then j else i)) H2
def tListOf (K : PySem.W.Frag) (te : TE) : TE := fun σ H Q => te σ H fun x H1 => ∃ a ys, x = .ref a ∧ SqL K H1 a ys ∧ ∀ l, H1 l = none → Q (.ref l) (upd H1 l (.lst ys))
def tIsi (K : PySem.W.Frag) (c : String) (te : TE) : TE := fun σ H Q => te σ H fun x H1 => ∃ t b, TyOf K H1 x t ∧ PySem.W.kitOne K t (.type c) = some b ∧ Q (.bl b) H1


def r1 (r : V → Hp → VK → Prop) : List V → Hp → VK → Prop := fun xs H Q => match xs with | [x] => r x H Q | _ => False
def r2' (r : V → V → Hp → VK → Prop) : List V → Hp → VK → Prop := fun xs H Q => match xs with | [x, y] => r x y H Q | _ => False
theorem callR1 {f : Value} {r : V → Hp → VK → Prop} (h : ∀ pins s σ H x us Q, Inv X pins σ H s → Vals [x] us → r x H Q → wpAny (model X.prog X.w) X.A (call f us) (EP X pins σ Q) X.xe s) : CallR X f (r1 r) := by
  intro pins s σ H xs us Q I rv q
  match xs, q with
  | [x], q => exact h pins s σ H x us Q I rv q
theorem callR2 {f : Value} {r : V → V → Hp → VK → Prop} (h : ∀ pins s σ H x y us Q, Inv X pins σ H s → Vals [x, y] us → r x y H Q → wpAny (model X.prog X.w) X.A (call f us) (EP X pins σ Q) X.xe s) : CallR X f (r2' r) := by
  intro pins s σ H xs us Q I rv q
  match xs, q with
  | [x, y], q => exact h pins s σ H x y us Q I rv q
theorem pe_lenL (hm : X.mg "len" = none) (ha : PE X e te) (hg : Gl X "len" := by rfl) (he : starEach [e] X.env = [(false, eval e X.env)] := by rfl) : PE X (.Call (.Name "len" p) [e] [] pos) (tLenL X.K te) :=
  pe_callB (r := r1 fun x H Q => ∃ a ys, x = .ref a ∧ SqL X.K H a ys ∧ Q (.int ys.length) H) (callR1 fun pins s σ H x us Q I rv ⟨a, ys, ex, h, q⟩ => call_len_seq pins s σ H _ us Q I rv ⟨a, ys, by rw [ex], .inl h, q⟩) hg hm bt_len (pa_cons ha pa_nil (by exact he)) (he := by exact he)
theorem pe_lenS (hm : X.mg "len" = none) (ha : PE X e te) (hg : Gl X "len" := by rfl) (he : starEach [e] X.env = [(false, eval e X.env)] := by rfl) : PE X (.Call (.Name "len" p) [e] [] pos) (tLenS te) :=
  pe_callB (r := r1 fun x H Q => ∃ z, x = .str z ∧ z.length ≤ sizeLine ∧ Q (.int z.length) H) (callR1 fun pins s σ H x us Q I rv ⟨z, ex, h, q⟩ => call_len_str pins s σ H _ us Q I rv ⟨z, by rw [ex], h, q⟩) hg hm bt_len (pa_cons ha pa_nil (by exact he)) (he := by exact he)
theorem pe_max (hc : X.calm = true) (hm : X.mg "max" = none) (ha : PE X e te) (hb : PE X e2 te2) (hg : Gl X "max" := by rfl) (he : starEach [e, e2] X.env = [(false, eval e X.env), (false, eval e2 X.env)] := by rfl) (he2 : starEach [e2] X.env = [(false, eval e2 X.env)] := by rfl) : PE X (.Call (.Name "max" p) [e, e2] [] pos) (tMax te te2) :=
  pe_callB (r := r2' fun x y H Q => ∃ i j, x = .int i ∧ y = .int j ∧ Q (.int (if j > i then j else i)) H) (callR2 fun pins s σ H x y us Q I rv ⟨i, j, ex, ey, q⟩ => call_max2 hc pins s σ H _ us Q I rv ⟨i, j, by rw [ex, ey], q⟩) hg hm bt_max (pa_cons ha (pa_cons hb pa_nil (by exact he2)) (by rw [he, he2])) (he := by rw [he, he2]) (hpl := by rw [he2]; rfl)
theorem pe_listOf (hm : X.mg "list" = none) (ha : PE X e te) (hg : Gl X "list" := by rfl) (he : starEach [e] X.env = [(false, eval e X.env)] := by rfl) : PE X (.Call (.Name "list" p) [e] [] pos) (tListOf X.K te) :=
  pe_callTy (r := r1 fun x H Q => ∃ a ys, x = .ref a ∧ SqL X.K H a ys ∧ ∀ l, H l = none → Q (.ref l) (upd H l (.lst ys))) (callR1 fun pins s σ H x us Q I rv ⟨a, ys, ex, h, q⟩ => call_list_of pins s σ H _ us Q I rv ⟨a, ys, by rw [ex], .inl h, q⟩) hg hm bt_list (pa_cons ha pa_nil (by exact he)) (he := by exact he)
theorem pe_isi {T : Str} {c : String} (hm : X.mg "isinstance" = none) (hT : X.mg T = none) (hb : bootBuiltins T = some (.type c)) (ha : PE X e te) (hg : Gl X "isinstance" := by rfl) (hgT : Gl X T := by rfl) (he : starEach [e, .Name T p2] X.env = [(false, eval e X.env), (false, eval (.Name T p2) X.env)] := by rfl)
    (hn : T ≠ "__name__" := by decide) (hd : (T == ("__debug__" : Str)) = false := by decide) : PE X (.Call (.Name "isinstance" p) [e, .Name T p2] [] pos) (tIsi X.K c te) :=
  pe_callB (r := r2' fun x y H Q => ∃ t b, y = .ty c ∧ TyOf X.K H x t ∧ PySem.W.kitOne X.K t (.type c) = some b ∧ Q (.bl b) H)
    (callR2 fun pins s σ H x y us Q I rv ⟨t, b, ey, ty, ek, q⟩ => call_isinst pins s σ H _ us Q I rv ⟨x, t, c, b, by rw [ey], ty, ek, q⟩) hg hm bt_isinst
    (pa_cons ha (pa_cons (pe_bltn (v := .ty c) hgT hT hb rfl hn hd) pa_nil) (by exact he)) (he := by exact he) |>.imp fun σ H Q h => by
      show te σ H fun x H1 => ∃ t b, V.ty c = .ty c ∧ _
      simp only [true_and]
      exact h
end
end L2

namespace L2
open PySem PySem.Spec PyProof.Rows
theorem sIx_pos (n d : Nat) (i : Int) (h : 0 ≤ i) : HT.sIx n d (some i) = min i.toNat n := by
  show (if i < 0 then (i + (n : Int)).toNat else min i.toNat n) = min i.toNat n
  rw [if_neg (by omega)]
theorem take_min {α : Type} (xs : List α) (k : Nat) : xs.take (min k xs.length) = xs.take k := by
  rcases Nat.le_total k xs.length with h | h
  · rw [Nat.min_eq_left h]
  · rw [Nat.min_eq_right h, List.take_length, List.take_of_length_le h]
theorem drop_min {α : Type} (xs : List α) (k : Nat) : xs.drop (min k xs.length) = xs.drop k := by
  rcases Nat.le_total k xs.length with h | h
  · rw [Nat.min_eq_left h]
  · rw [Nat.min_eq_right h, List.drop_length, List.drop_of_length_le h]
/-- a slice of a list, its bounds from 0 on -/
def cutL {α : Type} (xs : List α) (lo hi : Option Int) : List α := (xs.drop (HT.sIx xs.length 0 lo)).take (HT.sIx xs.length xs.length hi - HT.sIx xs.length 0 lo)
theorem cutL_hi {α : Type} (xs : List α) (k : Int) (h : 0 ≤ k) : cutL xs none (some k) = xs.take k.toNat := by
  unfold cutL
  rw [sIx_pos _ _ _ h, HT.sIx_none, List.drop_zero, Nat.sub_zero, take_min]
theorem cutL_lo {α : Type} (xs : List α) (k : Int) (h : 0 ≤ k) : cutL xs (some k) none = xs.drop k.toNat := by
  unfold cutL
  rw [sIx_pos _ _ _ h, HT.sIx_none, drop_min]
  exact List.take_of_length_le (by rw [List.length_drop]; omega)
theorem cutL_both {α : Type} (xs : List α) (i j : Int) (hi : 0 ≤ i) (hj : i ≤ j) : cutL xs (some i) (some j) = (xs.drop i.toNat).take (j.toNat - i.toNat) := by
  unfold cutL
  rw [sIx_pos _ _ _ hi, sIx_pos _ _ _ (Int.le_trans hi hj), drop_min]
  rcases Nat.le_total j.toNat xs.length with h | h
  · rw [Nat.min_eq_left h, Nat.min_eq_left (by omega)]
  · rw [Nat.min_eq_right h]
    rcases Nat.le_total i.toNat xs.length with h' | h'
    · rw [Nat.min_eq_left h', List.take_of_length_le (by rw [List.length_drop]; omega), List.take_of_length_le (by rw [List.length_drop]; omega)]
    · rw [List.drop_of_length_le h']; simp
theorem cutL_map {α β : Type} (f : α → β) (xs : List α) (lo hi : Option Int) : cutL (xs.map f) lo hi = (cutL xs lo hi).map f := by
  unfold cutL
  rw [List.length_map, List.map_take, List.map_drop]
theorem cutV_cutL (xs : List V) (lo hi : Option Int) : cutV xs lo hi = cutL xs lo hi := rfl
theorem atI_ex {α : Type} (xs : List α) (r : Int) (h0 : 0 ≤ r) (h1 : r < xs.length) : ∃ v, xs[r.toNat]? = some v ∧ v ∈ xs ∧ atI xs r = some v := by
  have hl : r.toNat < xs.length := by omega
  refine ⟨xs[r.toNat], by simp [hl], List.getElem_mem hl, ?_⟩
  have e : ((r.toNat : Nat) : Int) = r := by omega
  have q : atI xs ((r.toNat : Nat) : Int) = some xs[r.toNat] := atI_nat (by simp [hl])
  rw [e] at q
  exact q
theorem ixN_pos (n : Nat) (i : Int) (h0 : 0 ≤ i) (h1 : i < n) : ixN n i = some i.toNat := by
  unfold ixN
  rw [if_pos h0, if_pos h1]
theorem str_len (cs : List Nat) : (Str.length ⟨cs.toArray⟩) = cs.length := by simp [Str.length]
end L2

namespace L2
open PySem PySem.Spec PyProof.Rows
/-- reversed(list), walked -/
def Itv (K : PySem.W.Frag) (a : Addr) (xs : List V) : It :=
  ⟨fun i H => SqL K H a xs ∧ i < xs.length, fun i H x H' => H' = H ∧ xs[xs.length - 1 - i]? = some x, fun i _ => xs.length ≤ i⟩
theorem turn_rev {P : Program} {w : World} {K : PySem.W.Frag} {tg : Expr} (a it : Addr) (xs : List V) : Turn P w K tg (Itv K a xs) [it] it (fun i h => i ≤ xs.length ∧ h.IsRevIter it a ((xs.length : Int) - 1 - (i : Int))) where
  mem := by simp
  obj := fun i h st b hb => by
    have e : b = it := by simpa using hb
    subst e
    obtain ⟨o, e, c, d⟩ := st.2
    exact ⟨o, e, fun v z => by rw [d] at z; cases z⟩
  keep := fun i h h' st k => ⟨st.1, st.2.at fun o e => k it (by simp) o e⟩
  item := by
    intro X hP hw hK hc i pins s σ H E I hf st hg
    subst hP hw hK
    obtain ⟨hq, hx⟩ := hg
    obtain ⟨its, rv, p, hz⟩ := I.list hq
    have hlt : xs.length - 1 - i < xs.length := by omega
    obtain ⟨u, hu, ru⟩ := rv.get (show xs[xs.length - 1 - i]? = some xs[xs.length - 1 - i] by simp [hlt])
    obtain ⟨f0, f1, f2, f3, f4, f5⟩ := hf it (by simp)
    have e1 : (xs.length : Int) - 1 - (i : Int) = ((xs.length - 1 - i : Nat) : Int) := by omega
    have hit := st.2
    rw [e1] at hit
    refine wpAny_pyNext_rev_item hit p.isList (x := u) (by simpa using hu) fun h' st' sb => ?_
    have e2 : ((xs.length - 1 - i : Nat) : Int) - 1 = (xs.length : Int) - 1 - ((i + 1 : Nat) : Int) := by omega
    rw [e2] at st'
    have I1 : Inv X pins σ H { s with heap := h' } := I.turned (t' := s.toks) (fun b o hb e => (sb.2 b hb).trans e) f0 f1 f3 f4 f5
    obtain ⟨o, e, c, d⟩ := id st'
    exact ⟨u, rfl, go_of (s := { s with heap := h' }) e c d (by decide) ⟨_, H, I1, ru, ⟨rfl, by simp [hlt]⟩, ⟨hx, st'⟩, fun b hb => (hf b hb).1⟩⟩
  done := by
    intro X hP hw hK hc i pins s σ H E I hf st hg
    subst hP hw hK
    obtain ⟨f0, f1, f2, f3, f4, f5⟩ := hf it (by simp)
    have hg' : xs.length ≤ i := hg
    have e1 : (xs.length : Int) - 1 - (i : Int) = -1 := by have := st.1; omega
    have hit := st.2
    rw [e1] at hit
    exact wpAny_pyNext_rev_end (I.ok.hd hc) hit fun h' eb => ⟨rfl, I.turned (t' := s.toks) (fun b o hb e => eb b o hb e) f0 f1 f3 f4 f5⟩
  self := fun _ _ _ _ _ st h => wpAny_pyIter_revIter st.2 h
def iRev (K : PySem.W.Frag) (tl : TE) : TI := fun σ H R => tl σ H fun x H1 => ∃ a xs, x = .ref a ∧ SqL K H1 a xs ∧ R (Itv K a xs) H1
theorem pi_rev {X : Cx} {tg e : Expr} {te : TE} {p pos : Pos} (hm : X.mg "reversed" = none) (he : PE X e te) (hg : Gl X "reversed" := by rfl) (hs : starEach [e] X.env = [(false, eval e X.env)] := by rfl) : PI X tg (.Call (.Name "reversed" p) [e] [] pos) (iRev X.K te) := by
  intro pins s σ H R I h
  refine Call_ (ld_blt I hg hm bt_rev (PyProof.Rows.callWith_type1 (thn ((pa_cons he pa_nil (by exact hs)) pos pins s σ H (fun vs H1 => ∃ x, vs = [x] ∧ ∃ a xs, x = .ref a ∧ SqL X.K H1 a xs ∧ R (Itv X.K a xs) H1) I ?_) fun us s1 ⟨vs, H1, I1, r1, q1⟩ => ?_) hs rfl))
  · show te σ H fun x H1 => ∃ x', [x] = [x'] ∧ ∃ a xs, x' = .ref a ∧ SqL X.K H1 a xs ∧ R (Itv X.K a xs) H1
    have e : (fun (x : V) (H1 : Hp) => ∃ x', [x] = [x'] ∧ ∃ a xs, x' = V.ref a ∧ SqL X.K H1 a xs ∧ R (Itv X.K a xs) H1) = fun x H1 => ∃ a xs, x = .ref a ∧ SqL X.K H1 a xs ∧ R (Itv X.K a xs) H1 := by
      funext x H1
      apply propext
      constructor
      · rintro ⟨x', e, r⟩
        cases e
        exact r
      · intro r
        exact ⟨x, rfl, r⟩
    rw [e]
    exact h
  · obtain ⟨x, rfl, a, xs, rfl, hq, q⟩ := q1
    obtain ⟨u, rfl, ru⟩ := vals1 r1
    cases ru
    obtain ⟨its, rv, pl, hz⟩ := I1.list hq
    refine call_reversed_list pl.isList ?_
    have I2 : Inv X pins σ H1 { s1 with heap := s1.heap.push (revObj a ((its.toArray.size : Int) - 1)) } := I1.kept (t' := s1.toks) fun b o e => Heap.get?_push_of_some _ e
    have hl := rv.length
    have st : ({ s1 with heap := s1.heap.push (revObj a ((its.toArray.size : Int) - 1)) } : Shared).heap.IsRevIter s1.heap.objs.size a ((xs.length : Int) - 1 - ((0 : Nat) : Int)) := by
      refine ⟨_, Heap.get?_push_size _ rfl, rfl, ?_⟩
      have : (its.toArray.size : Int) - 1 = (xs.length : Int) - 1 - ((0 : Nat) : Int) := by simp; omega
      rw [← this]; rfl
    refine wpAny_pyIter_revIter st ?_
    refine ⟨s1.heap.objs.size, [s1.heap.objs.size], _, _, H1, rfl, I2, turn_rev a _ xs, ⟨Nat.zero_le _, st⟩, fun b hb => ?_, q⟩
    have e : b = s1.heap.objs.size := by simpa using hb
    subst e
    exact I1.fpOk (Nat.le_refl _) (I1.hok.fresh (Nat.le_refl _))
/-- a comprehension over reversed(list) -/
theorem comp_rev {K : PySem.W.Frag} {a : Addr} {xs : List V} {tc : TT} {te : TE} {σ : St} {H1 : Hp} {Q : Hp → Prop} {D : Addr} (Pv : Nat → List V → Hp → Prop) (hn : xs.length < sizeLine) (h0 : Pv 0 [] (upd H1 D (.lst [])))
    (hl : ∀ i ys H, Pv i ys H → ys.length ≤ i) (hq : ∀ i ys H, i ≤ xs.length → Pv i ys H → SqL K H a xs)
    (hs : ∀ i x ys H, xs[xs.length - 1 - i]? = some x → i < xs.length → Pv i ys H → tc (σ ++ [some x]) H fun b H2 => if b = true then te (σ ++ [some x]) H2 fun v H3 => H3 D = some (.lst ys) ∧ Pv (i + 1) (ys ++ [v]) (upd H3 D (.lst (ys ++ [v]))) else Pv (i + 1) ys H2)
    (hd : ∀ ys H, Pv xs.length ys H → Q H) :
    ∃ W : Nat → Nat → List V → Hp → Prop, (∃ m, W 0 m [] (upd H1 D (.lst []))) ∧
      ∀ i m ys H, W i m ys H → ((Itv K a xs).stop i H ∧ Q H) ∨ ((Itv K a xs).go i H ∧ ys.length < sizeLine ∧ ∃ N : List V → Hp → Prop, (∀ ys' H', N ys' H' → ∃ m', m' < m ∧ W (i + 1) m' ys' H') ∧ ∀ x H', (Itv K a xs).yld i H x H' → tc (σ ++ [some x]) H' fun b H2 =>
        if b = true then te (σ ++ [some x]) H2 fun v H3 => H3 D = some (.lst ys) ∧ N (ys ++ [v]) (upd H3 D (.lst (ys ++ [v]))) else N ys H2) := by
  refine ⟨fun i m ys H => m = xs.length - i ∧ i ≤ xs.length ∧ Pv i ys H, ⟨xs.length, by simp, Nat.zero_le _, h0⟩, ?_⟩
  rintro i m ys H ⟨rfl, hi, p⟩
  have q := hq i ys H hi p
  by_cases hlt : i < xs.length
  · refine .inr ⟨⟨q, hlt⟩, Nat.lt_of_le_of_lt (hl i ys H p) (Nat.lt_trans hlt hn), Pv (i + 1), fun ys' H' p' => ⟨xs.length - (i + 1), by omega, rfl, hlt, p'⟩, fun x H' y => ?_⟩
    obtain ⟨e, y⟩ := y
    subst e
    exact hs i x ys _ y hlt p
  · have e : i = xs.length := by omega
    subst e
    exact .inl ⟨Nat.le_refl _, hd ys H p⟩
theorem tNoIf_go {σ : St} {H : Hp} {A B : Hp → Prop} (h : A H) : tNoIf σ H fun b H2 => if b = true then A H2 else B H2 := by
  show if true = true then A H else B H
  rw [if_pos rfl]
  exact h
def pInts (ns : List Int) : PyData := .list (ns.map PyData.int)
theorem eqv_pInts (cs ds : List Int) : PyData.eqv (pInts cs) (pInts ds) = decide (cs = ds) := eqv_ints cs ds
theorem depth_pInts (cs : List Int) : (pInts cs).depth ≤ 2 := depth_ints cs
theorem Same.tup {K : PySem.W.Frag} {H H' : Hp} {a : Addr} {xs : List V} (e : Same H H') (h : H a = some (.tup xs)) : SqT K H' a xs := SqT.of (e _ _ h)
end L2

namespace L2
open PySem PySem.Spec PyProof.Rows
section
variable {X : Cx} {a b e : Expr} {rest : List Expr} {ta tb te : TE} {p pos : Pos}
end
/-! ### to go on at the first statement -/
def FW (J : It) (g : TG) (tb : TS) (D : Ends) (σ : St) (H1 : Hp) : Prop := ∃ W : Nat → Nat → St → Hp → Prop, (∃ m, W 0 m σ H1) ∧ ∀ i m σ H, W i m σ H →
  (J.stop i H ∧ D.nx σ H) ∨ (J.go i H ∧ ∃ N : St → Hp → Prop, (∀ σ' H', N σ' H' → ∃ m', m' < m ∧ W (i + 1) m' σ' H') ∧ ∀ x H', J.yld i H x H' → g x σ H' fun σ2 H2 => tb { D with nx := N, ct := N, bk := D.nx } σ2 H2)
theorem seq_for {wi : TI} {g : TG} {tb rest : TS} {D : Ends} {σ : St} {H : Hp} (h : wi σ H fun J H1 => FW J g tb { D with nx := rest D } σ H1) : tSeq (tFor wi g tb) rest D σ H := h
end L2

namespace L2
open PySem PySem.Spec PyProof.Rows
/-! ### // by a divisor of up to sixty figures -/
def CDivL (i j : Int) : Prop := 0 < j ∧ j < 1000000000000000000000000000000000000000000000000000000000000
theorem op_fdivL {X : Cx} : OpR X (binaryOp .FloorDiv) (rI CDivL fun i j => .int (i / j)) := opI fun i j _ _ _ _ _ hc q => by
  have hn : j.natAbs.log2 < 9000 := by
    have h0 : j.natAbs ≠ 0 := by have := hc.1; omega
    rw [Nat.log2_lt h0]
    have h1 : j.natAbs < 1000000000000000000000000000000000000000000000000000000000000 := by have := hc.1; have := hc.2; omega
    exact Nat.lt_of_lt_of_le h1 (Nat.le_trans (show 1000000000000000000000000000000000000000000000000000000000000 ≤ 2 ^ 200 by decide) (Nat.pow_le_pow_right (by decide) (by decide)))
  refine floordiv_int (by have := hc.1; omega) ?_ (.inl (PyProof.noPylong_of_log2 hn))
  rw [Int.fdiv_eq_ediv_of_nonneg _ (by have := hc.1; omega)]
  exact q
/-! ### records turned, and a new object -/
theorem Inv.turnLaid {X : Cx} {pins : List (Addr × Obj)} {σ : St} {H : Hp} {s : Shared} {h' : Heap} {t' : Nat} {ch : List Addr} {a : Addr} {o : HO} (I : Inv X pins σ H s) (hch : ∀ b ∈ ch, FpOk X pins H b)
    (k : ∀ b u, b ∉ ch → s.heap.get? b = some u → h'.get? b = some u) (hp : s.heap.objs.size ≤ a) (new : ObjOk X.prog X.w (upd H a o) h' a o) : Inv X pins σ (upd H a o) { s with heap := h', toks := t' } := by
  have hn := I.hok.fresh hp
  have nch : ∀ b u, H b = some u → b ∉ ch := fun b u e hb => by rw [(hch b hb).1] at e; cases e
  refine I.step (g' := s.gens) (d' := s.drawn) (ch := ch) (fun b hb => ?_) (fun b o _ _ hc e _ => k b o hc e) (fun b o _ _ hc e _ => ⟨o.slots, k b o hc e⟩) (fun b o hc e n => ?_) (fun b o hc e => ⟨o, k b o hc e⟩) (fun b xs e => ?_) (fun b o u e => ?_) (fun b ps e => ⟨#[], ?_⟩) (fun m hm => ?_) (fun b u e => ?_) I.bare
  · obtain ⟨f0, f1, f2, f3, f4, f5⟩ := hch b hb
    exact ⟨f3, f1, f4, f5⟩
  · rw [upd_ne (Nat.ne_of_lt (Nat.lt_of_lt_of_le (Heap.lt_size e) hp))]; exact n
  · rw [upd_ne (ne_of_none e hn)]; exact e
  · rw [upd_ne (ne_of_none e hn)]; exact e
  · rw [upd_ne (ne_of_none e hn), e]; simp
  · obtain ⟨o, es, ep, ho, r⟩ := hm
    exact ⟨o, es, ep, k _ o (fun hb => (hch _ hb).2.1 rfl) ho, r⟩
  · by_cases hb : b = a
    · subst hb; rw [upd_same] at e; cases e; exact new
    · rw [upd_ne hb] at e
      refine (I.hok b u e).stay (fun c v hc q => k c v ?_ q) (fun c q => by rw [upd_ne (ne_of_none q hn)]; exact q) fun c xs q => by rw [upd_ne (ne_of_none q hn)]; exact q
      rcases hc with z | z
      · rw [z]; exact nch b u e
      · exact nch c _ z
theorem Inv.turnMany {X : Cx} {pins : List (Addr × Obj)} {σ : St} {H : Hp} {s : Shared} {h' : Heap} {t' : Nat} {ch : List Addr} (I : Inv X pins σ H s) (hch : ∀ b ∈ ch, FpOk X pins H b)
    (k : ∀ b u, b ∉ ch → s.heap.get? b = some u → h'.get? b = some u) : Inv X pins σ H { s with heap := h', toks := t' } := by
  have nch : ∀ b u, H b = some u → b ∉ ch := fun b u e hb => by rw [(hch b hb).1] at e; cases e
  refine I.step (g' := s.gens) (d' := s.drawn) (ch := ch) (fun b hb => ?_) (fun b o _ _ hc e _ => k b o hc e) (fun b o _ _ hc e _ => ⟨o.slots, k b o hc e⟩) (fun b o hc e n => n) (fun b o hc e => ⟨o, k b o hc e⟩) (fun b xs e => e) (fun b o u e => e) (fun b ps e => ⟨#[], by rw [e]; simp⟩) (fun m hm => ?_) (fun b u e => ?_) I.bare
  · obtain ⟨f0, f1, f2, f3, f4, f5⟩ := hch b hb
    exact ⟨f3, f1, f4, f5⟩
  · obtain ⟨o, es, ep, ho, r⟩ := hm
    exact ⟨o, es, ep, k _ o (fun hb => (hch _ hb).2.1 rfl) ho, r⟩
  · refine (I.hok b u e).stay (fun c v hc q => k c v ?_ q) (fun _ q => q) fun _ _ q => q
    rcases hc with z | z
    · rw [z]; exact nch b u e
    · exact nch c _ z
/-! ### zip of two lists -/
def Itz (a b : Addr) : It :=
  ⟨fun i H => ∃ xs ys, H a = some (.lst xs) ∧ H b = some (.lst ys) ∧ i < xs.length ∧ i < ys.length,
   fun i H x H' => ∃ xs ys u v p, H a = some (.lst xs) ∧ H b = some (.lst ys) ∧ xs[i]? = some u ∧ ys[i]? = some v ∧ H p = none ∧ H' = upd H p (.tup [u, v]) ∧ x = .ref p,
   fun i H => ∃ xs ys, H a = some (.lst xs) ∧ H b = some (.lst ys) ∧ (xs.length ≤ i ∨ ys.length ≤ i)⟩
theorem turn_zip {P : Program} {w : World} {K : PySem.W.Frag} {es : List Expr} {kk : Nat} {tp : Pos} (a b z TI TO i1 i2 : Addr) (D : ZipApart z TI TO i1 i2 a b) :
    Turn P w K (.Tuple es kk tp) (Itz a b) [z, TI, TO, i1, i2] z (fun i h => IsZip h z TI TO .none ∧ IsPair h TI (.ref i1) (.ref i2) ∧ (∃ x y, IsPair h TO x y) ∧ h.IsListIter i1 a i ∧ h.IsListIter i2 b i) where
  mem := by simp
  obj := fun i h st c hc => by
    obtain ⟨h1, h2, ⟨x, y, h3⟩, h4, h5⟩ := st
    simp only [List.mem_cons, List.not_mem_nil, or_false] at hc
    rcases hc with rfl | rfl | rfl | rfl | rfl
    · exact ⟨_, h1, fun v q => by have q' : Data.fields _ = Data.cell v := q; cases q'⟩
    · exact ⟨_, h2, fun v q => by have q' : Data.seq _ _ = Data.cell v := q; cases q'⟩
    · exact ⟨_, h3, fun v q => by have q' : Data.seq _ _ = Data.cell v := q; cases q'⟩
    · obtain ⟨o, e, c, d⟩ := h4
      exact ⟨o, e, fun v q => by rw [d] at q; cases q⟩
    · obtain ⟨o, e, c, d⟩ := h5
      exact ⟨o, e, fun v q => by rw [d] at q; cases q⟩
  keep := fun i h h' st k => by
    obtain ⟨h1, h2, ⟨x, y, h3⟩, h4, h5⟩ := st
    exact ⟨k z (by simp) _ h1, k TI (by simp) _ h2, ⟨x, y, k TO (by simp) _ h3⟩, h4.at fun o e => k i1 (by simp) o e, h5.at fun o e => k i2 (by simp) o e⟩
  item := by
    intro X hP hw hK hc i pins s σ H E I hf st hg
    subst hP hw hK
    obtain ⟨h1, h2, ⟨x, y, h3⟩, h4, h5⟩ := st
    obtain ⟨xs, ys, ha, hb, hi1, hi2⟩ := hg
    obtain ⟨_, its1, n1, rv1, hl1, e1⟩ := I.lstM ha
    obtain ⟨_, its2, n2, rv2, hl2, e2⟩ := I.lstM hb
    obtain ⟨u, hu, ru⟩ := rv1.get (show xs[i]? = some xs[i] by simp [hi1])
    obtain ⟨v, hv, rv⟩ := rv2.get (show ys[i]? = some ys[i] by simp [hi2])
    refine wpAny_pyNext_zip_item D h1 h2 h3 h4 h5 ⟨_, e1, rfl, n1, rfl⟩ ⟨_, e2, rfl, n2, rfl⟩ (x := u) (y := v) (by simpa using hu) (by simpa using hv) fun h' z1 z2 z3 z4 z5 z6 z7 => ⟨_, rfl, ?_⟩
    refine wpAny_letOwnedTupleGo_zip (s := { s with heap := h' }) z1 fun h'' y1 sb => ?_
    have zlt : z < s.heap.objs.size := Heap.lt_size h1
    have nz : s.heap.objs.size ≠ z := Nat.ne_of_gt zlt
    have hnew : IsPair h'' s.heap.objs.size u v := sb.extBut _ _ nz z5
    have kk : ∀ c o, c ∉ [z, TI, TO, i1, i2] → s.heap.get? c = some o → h''.get? c = some o := fun c o hc e => by
      simp only [List.mem_cons, List.not_mem_nil, or_false, not_or] at hc
      exact sb.extBut _ _ hc.1 (z7 c o hc.1 hc.2.2.1 hc.2.2.2.1 hc.2.2.2.2 e)
    have I1 : Inv X pins σ (upd H s.heap.objs.size (.tup [xs[i], ys[i]])) { s with heap := h'', toks := s.toks } := I.turnLaid hf kk (Nat.le_refl _) ⟨by show 2 ≤ sizeLine; decide, [u, v], .cons ru (.cons rv .nil), ⟨_, hnew, rfl, _, rfl⟩⟩
    refine ⟨.ref s.heap.objs.size, _, I1, rfl, ⟨xs, ys, xs[i], ys[i], s.heap.objs.size, ha, hb, by simp [hi1], by simp [hi2], I.hok.fresh (Nat.le_refl _), rfl, rfl⟩, ⟨y1, ?_, ⟨u, v, ?_⟩, ?_, ?_⟩, fun c hc => ?_⟩
    · exact sb.extBut _ _ D.TIz (z7 TI _ D.TIz D.TITO D.TIi1 D.TIi2 h2)
    · exact sb.extBut _ _ D.TOz z2
    · exact z3.at fun o e => sb.extBut _ _ D.i1z e
    · exact z4.at fun o e => sb.extBut _ _ D.i2z e
    · rw [upd_ne]
      · exact (hf c hc).1
      · intro q
        subst q
        obtain ⟨o, e, _⟩ : ∃ o, s.heap.get? s.heap.objs.size = some o ∧ True := by
          simp only [List.mem_cons, List.not_mem_nil, or_false] at hc
          rcases hc with q | q | q | q | q
          · rw [q] at *; exact ⟨_, h1, trivial⟩
          · exact ⟨_, q ▸ h2, trivial⟩
          · exact ⟨_, q ▸ h3, trivial⟩
          · obtain ⟨o, e, _⟩ := h4; exact ⟨o, q ▸ e, trivial⟩
          · obtain ⟨o, e, _⟩ := h5; exact ⟨o, q ▸ e, trivial⟩
        exact absurd (Heap.lt_size e) (Nat.lt_irrefl _)
  done := by
    intro X hP hw hK hc i pins s σ H E I hf st hg
    subst hP hw hK
    obtain ⟨h1, h2, ⟨x, y, h3⟩, h4, h5⟩ := st
    obtain ⟨xs, ys, ha, hb, hend⟩ := hg
    obtain ⟨_, its1, n1, rv1, hl1, e1⟩ := I.lstM ha
    obtain ⟨_, its2, n2, rv2, hl2, e2⟩ := I.lstM hb
    refine wpAny_pyNext_zip_end (I.ok.hd hc) D h1 h2 h3 h4 h5 ⟨_, e1, rfl, n1, rfl⟩ ⟨_, e2, rfl, n2, rfl⟩ ?_ fun h' k => ⟨rfl, I.turnMany (t' := s.toks) hf fun c o hc e => ?_⟩
    · rcases hend with q | q
      · left; simp; omega
      · right; simp; omega
    · simp only [List.mem_cons, List.not_mem_nil, or_false, not_or] at hc
      exact k c o hc.1 hc.2.2.1 hc.2.2.2.1 hc.2.2.2.2 e
  self := fun _ _ _ _ _ st h => wpAny_pyIter_zip st.1 h
theorem bt_zip : bootBuiltins "zip" = some (.type "zip") := by decide +kernel
def iZip (te te2 : TE) : TI := fun σ H R => te σ H fun x H1 => te2 σ H1 fun y H2 => ∃ a b xs ys, x = .ref a ∧ y = .ref b ∧ H2 a = some (.lst xs) ∧ H2 b = some (.lst ys) ∧ R (Itz a b) H2
theorem pi_zip {X : Cx} {es : List Expr} {kk : Nat} {tp : Pos} {e e2 : Expr} {te te2 : TE} {p pos : Pos} (hm : X.mg "zip" = none) (he : PE X e te) (he2 : PE X e2 te2) (hg : Gl X "zip" := by rfl)
    (hs : starEach [e, e2] X.env = [(false, eval e X.env), (false, eval e2 X.env)] := by rfl) (hs2 : starEach [e2] X.env = [(false, eval e2 X.env)] := by rfl) : PI X (.Tuple es kk tp) (.Call (.Name "zip" p) [e, e2] [] pos) (iZip te te2) := by
  intro pins s σ H R I h
  refine Call_ (ld_blt I hg hm bt_zip (PyProof.Rows.callWith_type1 (thn ((pa_cons he (pa_cons he2 pa_nil (by exact hs2)) (by rw [hs, hs2])) pos pins s σ H (fun vs H2 => match vs with | [x, y] => ∃ a b xs ys, x = .ref a ∧ y = .ref b ∧ H2 a = some (.lst xs) ∧ H2 b = some (.lst ys) ∧ R (Itz a b) H2 | _ => False) I h) fun us s1 ⟨vs, H1, I1, r1, q1⟩ => ?_) (by rw [hs, hs2]) (by rw [hs2]; rfl)))
  match vs, q1 with
  | [x, y], q1 =>
    obtain ⟨a, b, xs, ys, rfl, rfl, ha, hb, q⟩ := q1
    obtain ⟨u, v, rfl, ru, rv⟩ := r1.two
    cases ru
    cases rv
    obtain ⟨_, its1, n1, rv1, hl1, e1⟩ := I1.lstM ha
    obtain ⟨_, its2, n2, rv2, hl2, e2⟩ := I1.lstM hb
    have ih1 : s1.heap.IsList a its1.toArray := ⟨_, e1, rfl, n1, rfl⟩
    have ih2 : s1.heap.IsList b its2.toArray := ⟨_, e2, rfl, n2, rfl⟩
    refine call_zip_2 ih1 ih2 fun h' z1 z2 z3 z4 z5 z6 z7 => ?_
    have I2 : Inv X pins σ H1 { s1 with heap := h' } := I1.kept (t' := s1.toks) z7
    refine wpAny_pyIter_zip (s := { s1 with heap := h' }) z1 ?_
    refine ⟨_, _, _, Itz a b, H1, rfl, I2, turn_zip a b _ _ _ _ _ (zipApart_new (Heap.lt_size e1) (Heap.lt_size e2)), ⟨z1, z2, ⟨_, _, z3⟩, z4, z5⟩, fun c hc => ?_, q⟩
    have hge : s1.heap.objs.size ≤ c := by
      simp only [List.mem_cons, List.not_mem_nil, or_false] at hc
      rcases hc with q | q | q | q | q <;> (subst q; first | exact Nat.le_add_right _ _ | exact Nat.le_refl _)
    exact I1.fpOk hge (I1.hok.fresh hge)
theorem for_zip {a b : Addr} {xs ys : List V} {g : TG} {tb : TS} {D : Ends} {σ : St} {H : Hp} (Pv : Nat → St → Hp → Prop) (h0 : Pv 0 σ H) (hl : ∀ i σ H, i ≤ min xs.length ys.length → Pv i σ H → H a = some (.lst xs) ∧ H b = some (.lst ys))
    (hs : ∀ i u v p σ H, xs[i]? = some u → ys[i]? = some v → H p = none → Pv i σ H → g (.ref p) σ (upd H p (.tup [u, v])) fun σ2 H2 => tb { D with nx := Pv (i + 1), ct := Pv (i + 1), bk := D.nx } σ2 H2) (hd : ∀ σ H, Pv (min xs.length ys.length) σ H → D.nx σ H) :
    ∃ W : Nat → Nat → St → Hp → Prop, (∃ m, W 0 m σ H) ∧ ∀ i m σ H, W i m σ H →
      ((Itz a b).stop i H ∧ D.nx σ H) ∨ ((Itz a b).go i H ∧ ∃ N : St → Hp → Prop, (∀ σ' H', N σ' H' → ∃ m', m' < m ∧ W (i + 1) m' σ' H') ∧ ∀ x H', (Itz a b).yld i H x H' → g x σ H' fun σ2 H2 => tb { D with nx := N, ct := N, bk := D.nx } σ2 H2) := by
  refine ⟨fun i m σ H => m = min xs.length ys.length - i ∧ i ≤ min xs.length ys.length ∧ Pv i σ H, ⟨min xs.length ys.length, by simp, Nat.zero_le _, h0⟩, ?_⟩
  rintro i m σ H ⟨rfl, hi, p⟩
  obtain ⟨qa, qb⟩ := hl i σ H hi p
  by_cases hlt : i < min xs.length ys.length
  · refine .inr ⟨⟨xs, ys, qa, qb, by omega, by omega⟩, Pv (i + 1), fun σ' H' p' => ⟨min xs.length ys.length - (i + 1), by omega, rfl, hlt, p'⟩, fun x H' y => ?_⟩
    obtain ⟨xs', ys', u, v, q, ea, eb, eu, ev, hq, e1, e2⟩ := y
    rw [qa] at ea
    rw [qb] at eb
    have e3 : xs = xs' := HO.lst.inj (Option.some.inj ea)
    have e4 : ys = ys' := HO.lst.inj (Option.some.inj eb)
    subst e3 e4 e1 e2
    exact hs i u v q σ H eu ev hq p
  · have e : i = min xs.length ys.length := by omega
    subst e
    exact .inl ⟨⟨xs, ys, qa, qb, by omega⟩, hd σ H p⟩
/-! ### xs[::-1] -/
def tRev (K : PySem.W.Frag) (te : TE) : TE := fun σ H Q => te σ H fun x H1 => ∃ a xs, x = .ref a ∧ SqL K H1 a xs ∧ ∀ p, H1 p = none → Q (.ref p) (upd H1 p (.lst xs.reverse))
theorem pe_rev_slice {X : Cx} {e : Expr} {te : TE} {pos p1 p2 p3 : Pos} {j : Nat} (he : PE X e te) : PE X (.Subscript e (.Slice none none (some (.UnaryOp .USub (.Constant (.int 1) j p1) p2)) p3) pos) (tRev X.K te) := by
  intro pins s σ H Q I h
  refine Subscript_ (thn (he pins s σ H _ I h) fun v s1 ⟨x, H1, I1, r1, q1⟩ => ?_)
  obtain ⟨a, xs, rfl, hq, q⟩ := q1
  cases r1
  refine wpAny_Slice ?_
  rw [evalPart_none, evalPart_some]
  refine wpAny_pure (wpAny_pure ?_)
  refine thn (pe_un un_neg (pe_int (i := 1)) pins s1 σ H1 (fun y H' => y = .int (-1) ∧ H' = H1) I1 ⟨1, rfl, rfl, rfl⟩) fun u s2 ⟨y, H2, I2, r2, e1, e2⟩ => ?_
  subst e1 e2
  obtain ⟨t, rfl⟩ := r2
  have I3 : Inv X pins σ H2 { s2 with heap := s2.heap.push { cls := .type "slice", data := .fields #[.none, .none, .int (-1) t] } } := I2.kept (t' := s2.toks) fun b ob q => Heap.get?_push_of_some _ q
  obtain ⟨its, r, ht, hz⟩ := I3.list hq
  have hlen := r.length
  refine tail_any (ops := [.ref a, .ref s2.heap.objs.size]) ht.isList.typeIs slot_list_getitem.lookup (wpAny_getItem_list_slice ht.isList (Heap.IsSliceOf.new ..) .none .none (.int (-1) t) (by simp) ?_ (by rw [List.size_toArray] <;> omega)) (by with_unfolding_all rfl)
  rw [PySem.W.krv_pick]
  refine ⟨.ref _, _, I3.laid (t' := s2.toks) (o := .lst xs.reverse) (fun b ob q => Heap.get?_push_of_some _ q) (Nat.le_refl _) ?_, rfl, q _ (I3.hok.fresh (Nat.le_refl _))⟩
  exact ⟨by rw [List.length_reverse]; exact hz, _, 0, r.reverse, Heap.get?_push_size _ rfl⟩
end L2

namespace L2
open PySem PySem.Spec PyProof.Rows
theorem small5000 {n : Nat} (h : n ≤ 5000) : n < sizeLine := Nat.lt_of_le_of_lt h (by decide)
section
variable {X : Cx} {e e2 : Expr} {te te2 : TE} {p p2 pos : Pos}
def tMin2 (te te2 : TE) : TE := fun σ H Q => te σ H fun x H1 => te2 σ H1 fun y H2 => ∃ i j, x = .int i ∧ y = .int j ∧ Q (.int (if j < i then j else i)) H2
theorem pe_min (hc : X.calm = true) (hm : X.mg "min" = none) (ha : PE X e te) (hb : PE X e2 te2) (hg : Gl X "min" := by rfl) (he : starEach [e, e2] X.env = [(false, eval e X.env), (false, eval e2 X.env)] := by rfl) (he2 : starEach [e2] X.env = [(false, eval e2 X.env)] := by rfl) : PE X (.Call (.Name "min" p) [e, e2] [] pos) (tMin2 te te2) :=
  pe_callB (r := r2' fun x y H Q => ∃ i j, x = .int i ∧ y = .int j ∧ Q (.int (if j < i then j else i)) H) (callR2 fun pins s σ H x y us Q I rv ⟨i, j, ex, ey, q⟩ => call_min2 hc pins s σ H _ us Q I rv ⟨i, j, by rw [ex, ey], q⟩) hg hm bt_min (pa_cons ha (pa_cons hb pa_nil (by exact he2)) (by rw [he, he2])) (he := by rw [he, he2]) (hpl := by rw [he2]; rfl)
end
end L2
namespace L2
open PySem PySem.Spec PyProof.Rows
/-! ### a row of written whole numbers -/
end L2

namespace L2
open PySem PySem.Spec PyProof.Rows
/-! ### enumerate of a list -/
end L2

namespace L2
open PySem PySem.Spec PyProof.Rows
/-! ### sum of a list of small numbers -/
theorem preSum_take {ns : List Int} : ∀ j, j ≤ ns.length → preSum (fun i => ns.getD i 0) j = (ns.take j).sum
  | 0, _ => by simp [preSum]
  | j + 1, h => by
    rw [show preSum (fun i => ns.getD i 0) (j + 1) = preSum (fun i => ns.getD i 0) j + ns.getD j 0 from rfl, preSum_take j (by omega), List.take_succ]
    have : ns[j]? = some (ns.getD j 0) := by
      rw [List.getD_eq_getElem?_getD]
      cases q : ns[j]? with
      | none => rw [List.getElem?_eq_none_iff] at q; omega
      | some v => rfl
    rw [this, List.sum_append]; simp
section
variable {X : Cx}
variable {e : Expr} {te : TE} {p pos : Pos}
def tListT (K : PySem.W.Frag) (te : TE) : TE := fun σ H Q => te σ H fun x H1 => ∃ a ys, x = .ref a ∧ SqT K H1 a ys ∧ ∀ l, H1 l = none → Q (.ref l) (upd H1 l (.lst ys))
theorem pe_listT (hm : X.mg "list" = none) (ha : PE X e te) (hg : Gl X "list" := by rfl) (he : starEach [e] X.env = [(false, eval e X.env)] := by rfl) : PE X (.Call (.Name "list" p) [e] [] pos) (tListT X.K te) :=
  pe_callTy (r := r1 fun x H Q => ∃ a ys, x = .ref a ∧ SqT X.K H a ys ∧ ∀ l, H l = none → Q (.ref l) (upd H l (.lst ys))) (callR1 fun pins s σ H x us Q I rv ⟨a, ys, ex, h, q⟩ => call_list_of pins s σ H _ us Q I rv ⟨a, ys, by rw [ex], .inr h, q⟩) hg hm bt_list (pa_cons ha pa_nil (by exact he)) (he := by exact he)
end
end L2

namespace L2
open PySem PySem.Spec PyProof.Rows
/-! ### list of a text -/
theorem vals_of_get : ∀ {xs : List V} {us : List Value}, xs.length = us.length → (∀ (i : Nat) (x : V) (u : Value), xs[i]? = some x → us[i]? = some u → RelV x u) → Vals xs us
  | [], [], _, _ => .nil
  | [], _ :: _, h, _ => by simp at h
  | _ :: _, [], h, _ => by simp at h
  | x :: xs, u :: us, h, g => .cons (g 0 x u rfl rfl) (vals_of_get (by simpa using h) fun i x' u' a b => g (i + 1) x' u' (by simpa using a) (by simpa using b))
section
variable {X : Cx} {e : Expr} {te : TE} {p pos : Pos}
theorem call_listS (hc : X.calm = true) : CallR X (.type "list") (fun xs H Q => ∃ z : Str, xs = [.str z] ∧ z.length ≤ sizeLine ∧ ∀ l, H l = none → Q (.ref l) (upd H l (.lst (z.cps.toList.map sg)))) := by
  intro pins s σ H xs us Q I r h
  obtain ⟨z, rfl, hz, q⟩ := h
  obtain ⟨u, rfl, rx⟩ := vals1 r
  obtain ⟨t, rfl⟩ := rx
  refine call_list_str (hn := hz) (I.ok.hd hc) z t fun h' tk acc c k hl hit => ?_
  refine ⟨.ref _, _, I.laid (t' := tk) (o := .lst (z.cps.toList.map sg)) k (Nat.le_refl _) ?_, rfl, q _ (I.hok.fresh (Nat.le_refl _))⟩
  obtain ⟨hsz, hat⟩ := hit
  refine ⟨by rw [List.length_map]; simpa [Str.length] using hz, acc.toList, c, ?_, by simpa using hl⟩
  refine vals_of_get (by rw [List.length_map]; simp [hsz]) fun i x u hx hu => ?_
  have hu' : acc[i]? = some u := by simpa using hu
  obtain ⟨c', t', h1, rfl⟩ := hat i u hu'
  rw [List.getElem?_map] at hx
  have : z.cps.toList[i]? = some c' := by simpa using h1
  rw [this] at hx
  have e : sg c' = x := Option.some.inj hx
  subst e
  exact ⟨t', rfl⟩
def tListS (te : TE) : TE := fun σ H Q => te σ H fun x H1 => ∃ z : Str, x = .str z ∧ z.length ≤ sizeLine ∧ ∀ l, H1 l = none → Q (.ref l) (upd H1 l (.lst (z.cps.toList.map sg)))
theorem pe_listS (hc : X.calm = true) (hm : X.mg "list" = none) (ha : PE X e te) (hg : Gl X "list" := by rfl) (he : starEach [e] X.env = [(false, eval e X.env)] := by rfl) : PE X (.Call (.Name "list" p) [e] [] pos) (tListS te) :=
  pe_callTy (r := r1 fun x H Q => ∃ z : Str, x = .str z ∧ z.length ≤ sizeLine ∧ ∀ l, H l = none → Q (.ref l) (upd H l (.lst (z.cps.toList.map sg)))) (callR1 fun pins s σ H x us Q I rv ⟨z, ex, h, q⟩ => call_listS hc pins s σ H _ us Q I rv ⟨z, by rw [ex], h, q⟩) hg hm bt_list (pa_cons ha pa_nil (by exact he)) (he := by exact he)
end
end L2

namespace L2
open PySem PySem.Spec PyProof.Rows
/-! ### a comprehension with several names -/
/-- what is asked of a comprehension's block: sc its names, outer the names around it, M the outer names that it may see (others hidden), x its own -/
def compOK2 (outer sc : Scope) (xs : List Str) (M N : List Str) : Bool :=
  decide (sc.kind = .function) && sc.names.all (fun y => decide (y.2 ≠ .cell)) && sc.names.all (fun y => decide (y.2 = .local → sc.names.lookup y.1 = some .local)) && xs.all (fun x => decide (sc.names.lookup x = some .local)) &&
  sc.names.all (fun y => decide (y.2 = .free → (outer.names.lookup y.1 = some .cell ∨ outer.names.lookup y.1 = some .free))) &&
  decide ((M ++ xs).Nodup) && decide (M.length = N.length) && (M.zip N).all (fun p => decide (p.1 = p.2 ∨ sc.names.lookup p.1 = none)) && M.all (fun y => decide (sc.names.lookup y ≠ some .local))

structure CompOK2 (outer sc : Scope) (xs : List Str) (M N : List Str) : Prop where
  kind : sc.kind = .function
  nocell : ∀ y ∈ sc.names, y.2 ≠ .cell
  loc : ∀ y ∈ sc.names, y.2 = .local → sc.names.lookup y.1 = some .local
  own : ∀ x ∈ xs, sc.names.lookup x = some .local
  free : ∀ y ∈ sc.names, y.2 = .free → (outer.names.lookup y.1 = some .cell ∨ outer.names.lookup y.1 = some .free)
  nd : (M ++ xs).Nodup
  len : M.length = N.length
  same : ∀ p ∈ M.zip N, p.1 = p.2 ∨ sc.names.lookup p.1 = none
  noloc : ∀ y ∈ M, sc.names.lookup y ≠ some .local
theorem compOK2_of {outer sc : Scope} {xs M N : List Str} (h : compOK2 outer sc xs M N = true) : CompOK2 outer sc xs M N := by
  unfold compOK2 at h
  simp only [Bool.and_eq_true, decide_eq_true_eq, List.all_eq_true] at h
  obtain ⟨⟨⟨⟨⟨⟨⟨⟨h1, h2⟩, h3⟩, h4⟩, h5⟩, h6⟩, h7⟩, h8⟩, h9⟩ := h
  exact ⟨h1, h2, h3, h4, h5, h6, h7, h8, h9⟩

section
variable {X : Cx} {pins : List (Addr × Obj)} {σ : St} {H2 : Hp} {s2 : Shared} {scope : Scope} {xs M : List Str} {cl : List (Str × Addr)} {fp : List Addr} {h1 : Heap} {t' : Nat}

/-- the block's entry -/
theorem Inv.comp2 (I : Inv X pins σ H2 s2) (K : CompOK2 X.env.scope scope xs M X.N) (hcl : ∀ y c, cl.lookup y = some c → X.env.cells.lookup y = some c) (hcf : ∀ y, (y, NameKind.free) ∈ scope.names → ∃ c, cl.lookup y = some c)
    (hfp : ∀ b ∈ fp, FpOk X pins H2 b) (hlt : ∀ b ∈ fp, b < s2.heap.objs.size) (kp : ∀ b o, s2.heap.get? b = some o → h1.get? b = some o) (hD : h1.get? s2.heap.objs.size = some { cls := .type "list", dict := none, data := .seq ([] : List Value).toArray })
    (hC : h1.Ns (s2.heap.objs.size + 1) (fun _ => none)) :
    Inv (X.comp (M ++ xs) scope ⟨cl, s2.heap.objs.size + 1, s2, H2, fp⟩) [] (σ ++ List.replicate xs.length none) (upd H2 s2.heap.objs.size (.lst [])) { s2 with heap := h1, toks := t' } := by
  have cellLt : ∀ y c, cl.lookup y = some c → c < s2.heap.objs.size := fun y c e => by
    obtain ⟨v, z⟩ := I.cell y c (hcl y c e)
    exact z.lt
  have kindEq : ∀ y k', (compEnvC scope cl (s2.heap.objs.size + 1) X.env).kindOf y = some k' → ∃ k, scope.names.lookup y = some k ∧ (k' = k ∨ (k = .free ∧ k' = .cell)) := fun y k' e => lookup_relabel e
  have freeOf : ∀ y k', (compEnvC scope cl (s2.heap.objs.size + 1) X.env).kindOf y = some k' → (k' = .cell ∨ k' = .free) → (y, NameKind.free) ∈ scope.names := fun y k' e hk => by
    obtain ⟨k, e1, e2⟩ := kindEq y k' e
    have mem := PySem.mem_of_lookup e1
    have : k = .free := by
      rcases e2 with rfl | ⟨rfl, _⟩
      · rcases hk with rfl | rfl
        · exact absurd rfl (K.nocell _ mem)
        · rfl
      · rfl
    subst this
    exact mem
  have hDn : H2 s2.heap.objs.size = none := I.hok.fresh (Nat.le_refl _)
  refine ⟨⟨I.ok.mod, K.kind, I.ok.glob, I.ok.blt, Nat.le_succ _, fun y z c e1 e2 => I.ok.inj y z c (hcl y c e1) (hcl z c e2), fun y hy => ?_, fun y c hf _ => ?_, I.ok.hd, I.ok.frames, .inl rfl, fun b hb => ⟨Nat.ne_of_lt (Nat.lt_succ_of_lt (hlt b hb)), fun y c e => (hfp b hb).2.2.2.2.1 y c (hcl y c e)⟩,
    fun b o e => I.bs b o e, Nat.le_trans I.ok.bsz I.sz, fun b o e hb => ?_, fun b hb hf => ?_, I.stack, I.stkFree⟩, rfl, I.bare, Un.laid kp (Nat.le_refl _) hDn, ⟨_, hC, fun i y v e1 e2 e3 => ?_⟩, fun y c e => ?_, ?_, fun y c e => ?_, fun p hp => absurd (show p ∈ ([] : List (Addr × Obj)) from hp) (by simp), I.hok.laid kp (Nat.le_refl _) ?_, ?_⟩
  · rcases hy with hy | hy
    · exact hcf y (freeOf y _ hy (.inl rfl))
    · exact hcf y (freeOf y _ hy (.inr rfl))
  · exact absurd (show false = true from hf) Bool.false_ne_true
  · obtain ⟨f0, f1, f2, f3, f4, f5⟩ := hfp b hb
    rcases f3 with z | z
    · exact I.ok.noex b o e z
    · exact absurd (Nat.lt_of_lt_of_le (Heap.lt_size (I.ok.bs b o e).1) z) (Nat.lt_irrefl _)
  · obtain ⟨f0, f1, f2, f3, f4, f5⟩ := hfp b hb
    rcases List.mem_cons.mp (I.stkSub b hf) with z | z
    · exact f1 z
    · exact f2 z
  · -- names
    have hi : i < σ.length := by
      by_cases hi : i < σ.length
      · exact hi
      · have hz : (σ ++ List.replicate xs.length none)[i]? = some (some v) := e2
        rw [List.getElem?_append_right (by omega)] at hz
        rw [List.getElem?_replicate] at hz
        split at hz <;> cases hz
    have e2' : σ[i]? = some (some v) := by
      have hz : (σ ++ List.replicate xs.length none)[i]? = some (some v) := e2
      rw [List.getElem?_append_left hi] at hz
      exact hz
    have hiM : i < M.length := by rw [K.len, ← I.len]; exact hi
    have e1' : M[i]? = some y := by
      have hz : (M ++ xs)[i]? = some y := e1
      rw [List.getElem?_append_left hiM] at hz
      exact hz
    have hyM : y ∈ M := List.mem_of_getElem? e1'
    have e3' : ∃ k', (compEnvC scope cl (s2.heap.objs.size + 1) X.env).kindOf y = some k' ∧ (k' = .cell ∨ k' = .free) := by
      rcases e3 with z | z | z
      · obtain ⟨k, a, b⟩ := kindEq y _ z
        rcases b with b | ⟨_, b⟩
        · subst b; exact absurd a (K.noloc y hyM)
        · cases b
      · exact ⟨_, z, .inl rfl⟩
      · exact ⟨_, z, .inr rfl⟩
    obtain ⟨k', ek, hk⟩ := e3'
    have mem := freeOf y k' ek hk
    obtain ⟨k0, a0, _⟩ := kindEq y k' ek
    have hiN : i < X.N.length := by rw [← K.len]; exact hiM
    have eN : X.N[i]? = some y := by
      have hz : (M[i], X.N[i]) ∈ M.zip X.N := by
        rw [List.mem_iff_getElem?]
        exact ⟨i, List.getElem?_zip_eq_some.mpr ⟨List.getElem?_eq_getElem hiM, List.getElem?_eq_getElem hiN⟩⟩
      have eM : M[i] = y := by
        rw [List.getElem?_eq_getElem hiM] at e1'
        exact Option.some.inj e1'
      rcases K.same _ hz with q | q
      · rw [List.getElem?_eq_getElem hiN]
        have q' : M[i] = X.N[i] := q
        rw [← q', eM]
      · have q' : scope.names.lookup M[i] = none := q
        rw [eM, a0] at q'
        cases q'
    have hv := K.free _ mem rfl
    obtain ⟨m, hn, hl⟩ := I.loc
    obtain ⟨u, r, l⟩ := hl i y v eN e2' (hv.elim (fun z => .inr (.inl z)) (fun z => .inr (.inr z)))
    refine ⟨u, r, .inr ⟨?_, ?_⟩⟩
    · rcases hk with rfl | rfl
      · exact .inl ek
      · exact .inr ek
    · obtain ⟨c, ec⟩ := hcf y mem
      refine ⟨c, ec, ?_⟩
      rcases l with ⟨z, _⟩ | ⟨_, c', ec', cc⟩
      · have z' : X.env.scope.names.lookup y = some .local := z
        rcases hv with q | q <;> (rw [z'] at q; cases q)
      · have := (hcl y c ec).symm.trans ec'
        cases this
        obtain ⟨o, ho, hd⟩ := cc
        exact ⟨o, kp _ o ho, hd⟩
  · obtain ⟨v, o, ho, hd⟩ := I.cell y c (hcl y c e)
    exact ⟨v, o, kp _ o ho, hd⟩
  · show upd H2 s2.heap.objs.size (.lst []) (s2.heap.objs.size + 1) = none
    rw [upd_ne (Nat.succ_ne_self _)]
    exact I.hok.fresh (Nat.le_succ _)
  · rw [upd_ne (Nat.ne_of_lt (cellLt y c e))]
    exact I.freeC y c (hcl y c e)
  · exact ⟨Nat.zero_le _, [], _, .nil, hD⟩
  · show (σ ++ List.replicate xs.length none).length = (M ++ xs).length
    simp [I.len, K.len]
end
/-- [elt for (x, y) in iter if ..] -/
def tComp2 (k : Nat) (wi : TI) (g : CB → TG) (tc : CB → TT) (te : CB → TE) : TE := fun σ H Q => wi σ H fun J H1 => ∀ D, H1 D = none → ∀ b : CB, ∃ W : Nat → Nat → List V → Hp → Prop, (∃ m, W 0 m [] (upd H1 D (.lst []))) ∧
  ∀ i m ys H, W i m ys H → (J.stop i H ∧ Q (.ref D) H) ∨ (J.go i H ∧ ys.length < sizeLine ∧ ∃ N : List V → Hp → Prop, (∀ ys' H', N ys' H' → ∃ m', m' < m ∧ W (i + 1) m' ys' H') ∧ ∀ x H', J.yld i H x H' → g b x (σ ++ List.replicate k none) H' fun σ2 H2 => (∀ j, j < σ.length → σ2[j]? = σ[j]?) ∧ tc b σ2 H2 fun ok H3 =>
    if ok = true then te b σ2 H3 fun v H4 => H4 D = some (.lst ys) ∧ N (ys ++ [v]) (upd H4 D (.lst (ys ++ [v]))) else N ys H3)
theorem comp_core2 {X : Cx} {iter elt tg : Expr} {ifs : List Expr} (xs : List Str) {pos pos0 : Pos} {scope : Scope} (M : List Str) {wi : TI} {tc : CB → TT} {te : CB → TE} {g : CB → TG} {use : Option (Value → Sem Unit)} {R : Value → Shared → Prop}
    {pins : List (Addr × Obj)} {s : Shared} {σ : St} {H : Hp} {Q : VK} (I : Inv X pins σ H s) (h : tComp2 xs.length wi g tc te σ H Q)
    (hfin : ∀ (D C : Addr) (m : Str → Option Value) (s' : Shared) (H' : Hp), s'.heap.Ns C m → FpOk X pins H' C → (∀ h', Heap.SameBut C s'.heap h' → Inv X pins σ H' { s' with heap := h' }) → Q (.ref D) H' → compPost (model X.prog X.w) X.A X.xe use R (.ref D) C (.ok .next) s')
    (hc : X.calm = true) (hi : PI X tg iter wi) (hg : ∀ b : CB, PG (X.comp (M ++ xs) scope b) tg (g b))
    (hif : ∀ b : CB, PIfs (X.comp (M ++ xs) scope b) ifs (tc b)) (he : ∀ b : CB, PE (X.comp (M ++ xs) scope b) elt (te b))
    (ok : compOK2 X.env.scope scope xs M X.N = true := by kernel_rfl)
    (hs : ∀ x, foldedSetIterable iter X.env x = pure x := by intro _; rfl) :
    wpAny (model X.prog X.w) X.A (comprehension (.ListComp elt [⟨tg, iter, ifs, 0⟩] scope pos) scope X.env pos0 (newList []) false (eval iter X.env) use) R X.xe s := by
  have K := compOK2_of ok
  obtain ⟨cl, hclos, hcl, hcf⟩ := closure_ok (env := X.env) (scope := scope) fun y hy hk => I.ok.has y.1 (K.free y hy hk)
  refine wpAny_comprehension_free (use := use) rfl hs hclos K.kind K.loc ?_
  refine thn (hi pins s σ H _ I h) fun v s1 h1 => thn h1 fun itv s2 h2 => ?_
  obtain ⟨it, fp, tn, J, H2, rfl, I2, T, st2, f2, hq⟩ := h2
  refine wpAny_newObj_type (wpAny_newFunctionEnv K.nocell (by intro y hy; simp at hy) (fun h₁ hns₁ hsb₁ => ?_) K.kind)
  dsimp only at hns₁ hsb₁ ⊢
  have hsize : (s2.heap.push { cls := .type "list", dict := none, data := .seq ([] : List Value).toArray }).objs.size = s2.heap.objs.size + 1 := Heap.size_push ..
  rw [hsize] at hns₁ hsb₁
  have ltD : s2.heap.objs.size ≠ s2.heap.objs.size + 1 := Nat.ne_of_lt (Nat.lt_succ_self _)
  have kp : ∀ b o, s2.heap.get? b = some o → h₁.get? b = some o := fun b o e => hsb₁.extBut b o (Nat.ne_of_lt (Nat.lt_succ_of_lt (Heap.lt_size e))) (Heap.get?_push_of_some _ (Heap.get?_push_of_some _ e))
  have hD : h₁.get? s2.heap.objs.size = some { cls := .type "list", dict := none, data := .seq ([] : List Value).toArray } := hsb₁.extBut _ _ ltD (Heap.get?_push_of_some _ (Heap.get?_push_size _ rfl))
  have hlt : ∀ b ∈ fp, b < s2.heap.objs.size := fun b hb => let ⟨o, e, _⟩ := T.obj _ _ st2 b hb; Heap.lt_size e
  have I3 := I2.comp2 (t' := s2.toks + ([] : List (Str × Value)).length) K hcl hcf f2 hlt kp hD hns₁
  obtain ⟨W, ⟨m0, w0⟩, step⟩ := hq s2.heap.objs.size (I2.hok.fresh (Nat.le_refl _)) ⟨cl, s2.heap.objs.size + 1, s2, H2, fp⟩
  have st3 : tn 0 h₁ := T.keep _ _ _ st2 fun b _ o e => kp b o e
  have fr3 : ∀ b ∈ fp, (upd H2 s2.heap.objs.size (.lst [])) b = none := fun b hb => by rw [upd_ne (Nat.ne_of_lt (hlt b hb))]; exact (f2 b hb).1
  -- what the block's end gives
  have fin : ∀ (s' : Shared) (σ' : St) (H' : Hp), Inv (X.comp (M ++ xs) scope ⟨cl, s2.heap.objs.size + 1, s2, H2, fp⟩) [] σ' H' s' → Q (.ref s2.heap.objs.size) H' →
      compPost (model X.prog X.w) X.A X.xe use R (.ref s2.heap.objs.size) (s2.heap.objs.size + 1) (.ok .next) s' := fun s' σ' H' J' q => by
    obtain ⟨m, hn, _⟩ := id J'.loc
    have hC : H' (s2.heap.objs.size + 1) = none := J'.free
    refine hfin _ _ m s' H' hn (I2.fpOk (Nat.le_succ _) hC) (fun h' sb => ?_) q
    exact I2.call' (ch := fp) (show s'.os = s2.os from J'.os) (SameBut.unC J'.base sb (Nat.le_succ _)) (SameBut.hokC J'.hok sb hC) J'.bare fun b hb => by
      obtain ⟨f0, f1, f2', f3, f4, f5⟩ := f2 b hb
      exact ⟨f3, f1, f4, f5⟩
  have stat : ∀ {H' : Hp}, (∀ b ∈ fp, H' b = none) → ∀ b ∈ fp, FpOk (X.comp (M ++ xs) scope ⟨cl, s2.heap.objs.size + 1, s2, H2, fp⟩) [] H' b := fun hn b hb => by
    obtain ⟨f0, f1, f2', f3, f4, f5⟩ := f2 b hb
    refine ⟨hn b hb, Nat.ne_of_lt (Nat.lt_succ_of_lt (hlt b hb)), fun z => ?_, .inl hb, fun y c e => f4 y c (hcl y c e), fun p hp => absurd (show p ∈ ([] : List (Addr × Obj)) from hp) (by simp)⟩
    rcases List.mem_cons.mp (I2.stkSub b z) with z | z
    · exact f1 z
    · exact f2' z
  have len3 : σ.length = M.length := by rw [I.len, K.len]
  have loop : codeAny (model X.prog X.w) X.A (.compLoop (.ListComp elt [⟨tg, iter, ifs, 0⟩] scope pos) 0 (.ref it) (.ref s2.heap.objs.size) (compEnvC scope cl (s2.heap.objs.size + 1) X.env))
      (compPost (model X.prog X.w) X.A X.xe use R (.ref s2.heap.objs.size) (s2.heap.objs.size + 1)) { s2 with heap := h₁, toks := s2.toks + ([] : List (Str × Value)).length } := by
    refine comp_loop (fun n s' => ∃ i ys H', Inv (X.comp (M ++ xs) scope ⟨cl, s2.heap.objs.size + 1, s2, H2, fp⟩) [] (σ ++ List.replicate xs.length none) H' s' ∧ tn i s'.heap ∧ (∀ b ∈ fp, H' b = none) ∧ W i n ys H') ?_ m0 ⟨0, [], _, I3, st3, fr3, w0⟩
    rintro n s4 ⟨i, ys, H4, I4, st4, fr4, w4⟩
    rcases step i n ys H4 w4 with ⟨stop, q⟩ | ⟨go, hz, N, hN, st⟩
    · refine wpAny_mono (T.done (X.comp (M ++ xs) scope ⟨cl, s2.heap.objs.size + 1, s2, H2, fp⟩) rfl rfl rfl hc i [] s4 _ H4 (fun _ _ => False) I4 (stat fr4) st4 stop) (fun r s5 ⟨hr, I5⟩ => ?_) fun _ _ z => z
      subst hr
      exact fin s5 _ H4 I5 q
    · refine wpAny_mono (T.item (X.comp (M ++ xs) scope ⟨cl, s2.heap.objs.size + 1, s2, H2, fp⟩) rfl rfl rfl hc i [] s4 _ H4 (fun _ _ => False) I4 (stat fr4) st4 go) (fun r s5 ⟨u, hr, h5⟩ => ?_) fun _ _ z => z
      subst hr
      refine wpAny_mono h5 (fun _ s6 ⟨xv, H6, I6, r6, y6, st6, fr6⟩ => ?_) fun _ _ z => z
      have I6' := I6.pinned (stat fr6) (T.obj _ _ st6)
      refine wpAny_mono (hg ⟨cl, s2.heap.objs.size + 1, s2, H2, fp⟩ _ s6 _ H6 xv u _ I6' r6 (st xv _ y6)) (fun _ s7 ⟨σ7, H7, I7, ag, q7⟩ => ?_) fun _ _ z => z
      have again : ∀ {ys' : List V} {H8 : Hp} {s8 : Shared} {m : Nat}, Inv (X.comp (M ++ xs) scope ⟨cl, s2.heap.objs.size + 1, s2, H2, fp⟩) ([] ++ pinsAt fp s6.heap) σ7 H8 s8 → m < n → W (i + 1) m ys' H8 →
          ∃ m, m < n ∧ ∃ i ys H', Inv (X.comp (M ++ xs) scope ⟨cl, s2.heap.objs.size + 1, s2, H2, fp⟩) [] (σ ++ List.replicate xs.length none) H' s8 ∧ tn i s8.heap ∧ (∀ b ∈ fp, H' b = none) ∧ W i m ys H' := fun {ys' H8 s8 m} I8 hm w8 => by
        refine ⟨m, hm, i + 1, ys', H8, (I8.unpinned).weak (by rw [List.length_append, List.length_replicate, I8.len]; show _ = (M ++ xs).length; rw [List.length_append, len3]) (fun j v e => ?_), T.keep _ _ _ st6 fun b hb o e => (I8.pin (b, o) (List.mem_append_right _ (List.mem_append_right _ (mem_pinsAt hb e)))).1, fun b hb => ?_, w8⟩
        · by_cases hj : j < σ.length
          · rw [List.getElem?_append_left hj] at e
            rw [ag j hj]; exact e
          · rw [List.getElem?_append_right (by omega), List.getElem?_replicate] at e
            split at e <;> cases e
        · obtain ⟨o, e, d⟩ := T.obj _ _ st6 b hb
          exact (I8.pin (b, o) (List.mem_append_right _ (List.mem_append_right _ (mem_pinsAt hb e)))).2.1
      refine wpAny_mono (hif ⟨cl, s2.heap.objs.size + 1, s2, H2, fp⟩ _ s7 _ _ _ I7 q7) (fun ok s8 ⟨H8, I8, q8⟩ => ?_) fun _ _ z => z
      cases ok with
      | false =>
        rw [if_neg Bool.false_ne_true] at q8
        obtain ⟨m, hm, w8⟩ := hN _ _ q8
        exact again I8 hm w8
      | true =>
        rw [if_pos rfl] at q8
        refine wpAny_mono (he ⟨cl, s2.heap.objs.size + 1, s2, H2, fp⟩ _ s8 _ H8 _ I8 q8) (fun xu s9 ⟨v9, H9, I9, r9, hD9, n9⟩ => ?_) fun _ _ z => z
        obtain ⟨m, hm, w9⟩ := hN _ _ n9
        exact wpAny_mono (append_call (X := X.comp (M ++ xs) scope ⟨cl, s2.heap.objs.size + 1, s2, H2, fp⟩) I9 hD9 hz r9) (fun _ s10 I10 => again I10 hm w9) fun _ _ z => z
  rw [hsize]
  exact codeAny_compStart_list loop (T.self X.A 0 _ _ _ st3 loop)


theorem pe_comp2 {X : Cx} {iter elt tg : Expr} {ifs : List Expr} (xs : List Str) {pos : Pos} {scope : Scope} (M : List Str) {wi : TI} {tc : CB → TT} {te : CB → TE} {g : CB → TG}
    (hc : X.calm = true) (hi : PI X tg iter wi) (hg : ∀ b : CB, PG (X.comp (M ++ xs) scope b) tg (g b))
    (hif : ∀ b : CB, PIfs (X.comp (M ++ xs) scope b) ifs (tc b)) (he : ∀ b : CB, PE (X.comp (M ++ xs) scope b) elt (te b))
    (ok : compOK2 X.env.scope scope xs M X.N = true := by kernel_rfl)
    (hs : ∀ x, foldedSetIterable iter X.env x = pure x := by intro _; rfl) :
    PE X (.ListComp elt [⟨tg, iter, ifs, 0⟩] scope pos) (tComp2 xs.length wi g tc te) := by
  intro pins s σ H Q I h
  rw [eval_ListComp]
  exact comp_core2 xs M (use := none) (R := EP X pins σ Q) I h (fun D C m s' H' hn _ hI q => ⟨m, hn, fun h' sb => ⟨.ref D, H', hI h' sb, rfl, q⟩⟩) hc hi hg hif he ok hs
/-! ### isinstance with a row of built-in classes -/
inductive TyB (H : Hp) : V → Value → Prop where
  | non : TyB H .non (.type "NoneType")
  | bl (x : Bool) : TyB H (.bl x) (.type "bool")
  | int (i : Int) : TyB H (.int i) (.type "int")
  | str (x : Str) : TyB H (.str x) (.type "str")
  | lst {a : Addr} {xs : List V} (e : H a = some (.lst xs)) : TyB H (.ref a) (.type "list")
  | tup {a : Addr} {xs : List V} (e : H a = some (.tup xs)) : TyB H (.ref a) (.type "tuple")
section
variable {X : Cx} {e : Expr} {te : TE} {p pos : Pos}
end
/-! ### the walk of a comprehension over zip -/
theorem comp_zip {a b : Addr} {xs ys : List V} {k : Nat} {g : TG} {tc : TT} {te : TE} {σ : St} {H1 : Hp} {Q : Hp → Prop} {D : Addr} (Pv : Nat → List V → Hp → Prop) (hn : xs.length < sizeLine) (h0 : Pv 0 [] (upd H1 D (.lst [])))
    (hl : ∀ i ys' H, Pv i ys' H → ys'.length ≤ i) (hq : ∀ i ys' H, i ≤ min xs.length ys.length → Pv i ys' H → H a = some (.lst xs) ∧ H b = some (.lst ys))
    (hs : ∀ i u v p ys' H, xs[i]? = some u → ys[i]? = some v → H p = none → Pv i ys' H → g (.ref p) (σ ++ List.replicate k none) (upd H p (.tup [u, v])) fun σ2 H2 => (∀ j, j < σ.length → σ2[j]? = σ[j]?) ∧ tc σ2 H2 fun ok H3 => if ok = true then te σ2 H3 fun v H4 => H4 D = some (.lst ys') ∧ Pv (i + 1) (ys' ++ [v]) (upd H4 D (.lst (ys' ++ [v]))) else Pv (i + 1) ys' H3)
    (hd : ∀ ys' H, Pv (min xs.length ys.length) ys' H → Q H) :
    ∃ W : Nat → Nat → List V → Hp → Prop, (∃ m, W 0 m [] (upd H1 D (.lst []))) ∧
      ∀ i m ys' H, W i m ys' H → ((Itz a b).stop i H ∧ Q H) ∨ ((Itz a b).go i H ∧ ys'.length < sizeLine ∧ ∃ N : List V → Hp → Prop, (∀ ys'' H', N ys'' H' → ∃ m', m' < m ∧ W (i + 1) m' ys'' H') ∧ ∀ x H', (Itz a b).yld i H x H' → g x (σ ++ List.replicate k none) H' fun σ2 H2 => (∀ j, j < σ.length → σ2[j]? = σ[j]?) ∧ tc σ2 H2 fun ok H3 =>
        if ok = true then te σ2 H3 fun v H4 => H4 D = some (.lst ys') ∧ N (ys' ++ [v]) (upd H4 D (.lst (ys' ++ [v]))) else N ys' H3) := by
  refine ⟨fun i m ys' H => m = min xs.length ys.length - i ∧ i ≤ min xs.length ys.length ∧ Pv i ys' H, ⟨min xs.length ys.length, by simp, Nat.zero_le _, h0⟩, ?_⟩
  rintro i m ys' H ⟨rfl, hi, p⟩
  obtain ⟨qa, qb⟩ := hq i ys' H hi p
  by_cases hlt : i < min xs.length ys.length
  · refine .inr ⟨⟨xs, ys, qa, qb, by omega, by omega⟩, by have := hl i ys' H p; omega, Pv (i + 1), fun ys'' H' p' => ⟨min xs.length ys.length - (i + 1), by omega, rfl, hlt, p'⟩, fun x H' y => ?_⟩
    obtain ⟨xs', ys2, u, v, q, ea, eb, eu, ev, hq', e1, e2⟩ := y
    rw [qa] at ea
    rw [qb] at eb
    have e3 : xs = xs' := HO.lst.inj (Option.some.inj ea)
    have e4 : ys = ys2 := HO.lst.inj (Option.some.inj eb)
    subst e3 e4 e1 e2
    exact hs i u v q ys' H eu ev hq' p
  · have e : i = min xs.length ys.length := by omega
    subst e
    exact .inl ⟨⟨xs, ys, qa, qb, by omega⟩, hd ys' H p⟩
end L2

namespace L2
open PySem PySem.Spec PyProof.Rows
/-! ### exceptions: how one lies behind a call -/
theorem frames_data {h base : Heap} : ∀ {l : List Env}, h.FunFrames base l → ∀ L ∈ frs l, ∃ o, h.get? L = some o ∧ ∀ vs, o.data ≠ .fields vs
  | [], _, L, hL => by cases hL
  | env :: r, ⟨h1, ⟨L', o, h2, h3, h4, h5⟩, h6⟩, L, hL => by
    obtain ⟨en, e3, e4⟩ := List.mem_filterMap.mp hL
    rcases List.mem_cons.mp e3 with z | z
    · subst z
      have : L = L' := Option.some.inj (e4.symm.trans h2)
      subst this
      exact ⟨o, h4, h5⟩
    · exact frames_data h6 L (List.mem_filterMap.mpr ⟨en, z, e4⟩)
section
variable {X : Cx} {pins : List (Addr × Obj)} {σ : St} {H1 : Hp} {s1 : Shared}
/-- the frames behind a state of a body -/
theorem Inv.fsAt (I : Inv X pins σ H1 s1) : ∀ L ∈ X.fs, ∃ o, s1.heap.get? L = some o ∧ (∀ vs, o.data ≠ .fields vs) ∧ H1 L = none ∧ X.base.get? L = none := fun L hL => by
  obtain ⟨o, h1, h2⟩ := frames_data I.ok.funs L hL
  have hx : L ∉ X.ex := fun z => I.ok.exfs L z hL
  obtain ⟨sl, e⟩ := I.base.slot L o h1 (I.ok.frf L hL) hL hx
  exact ⟨_, e, h2, I.base.free L o h1 (I.ok.frf L hL) hx, (I.ok.funs.mem hL).1⟩
end
/-! ### own classes under ValueError, raised -/
abbrev mroV : List Value := [.type "ValueError", .type "Exception", .type "BaseException", .type "object"]
/-- what the top has written of such a class -/
structure Exc (K : PySem.W.Frag) (mg : Str → Option Value) (x : Str) (C : Addr) : Prop where
  bound : mg x = some (.ref C)
  isIn : PySem.W.excIn K C mroV "ValueError.__new__" = true
end L2

namespace L2
open PySem PySem.Spec PyProof.Rows
/-! ### try .. except C as n: the tried body, what is caught, the suite -/
section
variable {X : Cx} {pins : List (Addr × Obj)} {σ σ0 : St} {H H1 : Hp} {s s1 : Shared} {E0 : XK}
/-- the state in which an exception is caught -/
theorem Inv.caught {s' : Shared} {H' : Hp} {B h5 : Heap} (hst : X.stack = X.env :: X.outer) (hfr : X.env.frame = some X.env.locals) (I : Inv X pins σ H1 s1) (os : s'.os = s1.os) (gb : AllBare s'.gens)
    (un : Un (frs X.stack) [] H1 H' s1.heap s'.heap) (hok : HOk X.prog X.w H' s'.heap) (hB : ∀ b o, s'.heap.get? b = some o → b ∉ frs X.stack → (s1.heap.get? b ≠ none ∨ H' b ≠ none) → B.get? b = some o)
    (st5 : ∀ b o, B.get? b = some o → h5.get? b = some o) (up : s'.heap.UpToSlots h5) : Inv X pins σ H' { s' with heap := h5 } := by
  have frn : ∀ b, b ∈ frs X.stack → H1 b = none ∧ H' b = none ∧ ∃ o, s1.heap.get? b = some o ∧ ∀ vs, o.data ≠ .fields vs := fun b hm => by
    have h1 : ∃ o, s1.heap.get? b = some o ∧ (∀ vs, o.data ≠ .fields vs) ∧ H1 b = none := by
      rw [hst] at hm
      obtain ⟨en, e3, e4⟩ := List.mem_filterMap.mp hm
      rcases List.mem_cons.mp e3 with z | z
      · subst z
        have : b = X.env.locals := Option.some.inj (e4.symm.trans hfr)
        subst this
        obtain ⟨m, hn', _⟩ := I.loc
        obtain ⟨o, es, ep, ho, hd, _⟩ := id hn'
        exact ⟨o, ho, (fun vs q => by rw [hd] at q; cases q), I.free⟩
      · obtain ⟨o, h1, h2, h3, _⟩ := I.fsAt b (List.mem_filterMap.mpr ⟨en, z, e4⟩)
        exact ⟨o, h1, h2, h3⟩
    obtain ⟨o, h2, h3, h4⟩ := h1
    exact ⟨h4, un.free b o h2 h4 (by simp), o, h2, h3⟩
  have st : ∀ b o, s'.heap.get? b = some o → b ∉ frs X.stack → (s1.heap.get? b ≠ none ∨ H' b ≠ none) → h5.get? b = some o := fun b o q n z => st5 b o (hB b o q n z)
  refine I.call' (ch := []) os ⟨fun b o q n hb hx => ?_, fun b o q n hb hx => ?_, un.free, fun b o q hx => ?_, un.tups, un.frzs, un.tbls⟩ (fun b u q => ?_) gb (by simp)
  · exact st b o (un.keep b o q n hb hx) hb (.inl (by rw [q]; simp))
  · obtain ⟨z, q'⟩ := un.slot b o q n hb hx
    obtain ⟨_, _, o2, q2, q3⟩ := frn b hb
    rw [q] at q2; cases q2
    obtain ⟨z', q4⟩ := up b _ q' q3
    exact ⟨z', q4⟩
  · by_cases hb : b ∈ frs X.stack
    · obtain ⟨n1, _, o2, q2, q3⟩ := frn b hb
      rw [q] at q2; cases q2
      obtain ⟨z, q'⟩ := un.slot b o q n1 hb hx
      obtain ⟨z', q4⟩ := up b _ q' q3
      exact ⟨_, q4⟩
    · obtain ⟨o2, q2⟩ := un.there b o q hx
      exact ⟨o2, st b o2 q2 hb (.inl (by rw [q]; simp))⟩
  · refine (hok b u q).stay (fun c v hc q' => st c v q' ?_ (.inr ?_)) (fun _ q' => q') fun _ _ q' => q'
    · intro hm
      rcases hc with z | z
      · rw [z] at hm; rw [(frn b hm).2.1] at q; cases q
      · rw [(frn c hm).2.1] at z; cases z
    · rcases hc with z | z
      · rw [z, q]; simp
      · rw [z]; simp
end
/-- what is wanted behind the suite, where the name goes -/
def Ends.drop (D : Ends) (i : Nat) : Ends := ⟨fun σ H => D.nx (σ.set i none) H, D.rt, fun σ H => D.bk (σ.set i none) H, fun σ H => D.ct (σ.set i none) H⟩
end L2

namespace PySem.W
open PySem PySem.Spec PySem.Calls PyProof.Rows Builtin Builtin.ObjectAttr Builtin.Getset_descriptor
section
variable {prog : Program} {w : World} {A : Around} {E : Value → Shared → Prop} {K : Frag} {h : Heap} {g : Array GenState} {d : Drawn} {t : Nat} {os : OsState} {a D : Addr} {o : Obj} {R : Result → Shared → Prop}
/-- what the top must say of an own class of exceptions, for isinstance -/
def excKit (K : Frag) (D : Addr) : Bool := (clsIn K D).isSome && mroIn K D (.type "object") == some true && mroIn K D (.type "BaseException") == some true && findIn K (.ref D) "__getattribute__" == some (some (.builtin "BaseException.__getattribute__"))
  && findIn K (.ref D) "__getattr__" == some none && findIn K (.ref D) "__class__" == some (some (.builtin "object.__class__"))
end
end PySem.W

namespace L2
open PySem PySem.Spec PyProof.Rows
/-! ### isinstance of a caught thing; count and index of truths; lists of texts as data -/
section
variable {X : Cx} {e e2 : Expr} {te te2 : TE} {p p2 pos : Pos}
end
/-! ### all own classes of exceptions of a text -/
def excFacts (K : PySem.W.Frag) (CE : Addr) (Cs : List Addr) : Bool :=
  Cs.all fun D => PySem.W.exmOne K (.ref D) (.ref CE) == some true && PySem.W.excKit K D && PySem.W.excIn K D mroV "ValueError.__new__" && PySem.W.kitOne K (.ref D) (.type "ValueError") == some true && Cs.all fun C => PySem.W.kitOne K (.ref D) (.ref C) == some (D == C)
structure ExF (K : PySem.W.Frag) (CE D : Addr) (Cs : List Addr) : Prop where
  exm : PySem.W.exmOne K (.ref D) (.ref CE) = some true
  kit : PySem.W.excKit K D = true
  isIn : PySem.W.excIn K D mroV "ValueError.__new__" = true
  val : PySem.W.kitOne K (.ref D) (.type "ValueError") = some true
  one : ∀ C ∈ Cs, PySem.W.kitOne K (.ref D) (.ref C) = some (D == C)
theorem excFacts.of {K : PySem.W.Frag} {CE : Addr} {Cs : List Addr} (h : excFacts K CE Cs = true) : ∀ D ∈ Cs, ExF K CE D Cs := fun D hD => by
  have h1 := List.all_eq_true.mp h D hD
  simp only [Bool.and_eq_true, beq_iff_eq] at h1
  obtain ⟨⟨⟨⟨a, b⟩, c⟩, d⟩, e⟩ := h1
  exact ⟨a, b, c, d, fun C hC => beq_iff_eq.mp (List.all_eq_true.mp e C hC)⟩
theorem ExF.any {K : PySem.W.Frag} {CE D : Addr} {Cs : List Addr} (h : ExF K CE D Cs) : ∀ cs : List Addr, (∀ c ∈ cs, c ∈ Cs) → PySem.W.kitAny K (.ref D) (cs.map Value.ref) = some (cs.any fun c => D == c)
  | [], _ => rfl
  | c :: r, hc => by
    have h1 := h.one c (hc c List.mem_cons_self)
    have h2 := h.any r fun d hd => hc d (List.mem_cons_of_mem _ hd)
    rw [List.map_cons, PySem.W.kitAny, h1]
    cases q : D == c with
    | true => simp [q]
    | false => simp [q, h2]
/-! ### count and index of truths -/
section
variable {X : Cx}
theorem bools_its {xs : List Bool} {its : List Value} (r : Vals (xs.map V.bl) its) : its = xs.map Value.bool := by
  induction xs generalizing its with
  | nil => cases r; rfl
  | cons b xs ih =>
    cases r with
    | cons r t => cases r; rw [ih t]; rfl
end
/-! ### lists of texts as data -/
end L2
namespace L2
open PySem PySem.Spec PyProof.Rows
section
variable {X : Cx}
end
end L2

namespace PySem.W
open PySem PySem.Spec PySem.Calls PyProof.Rows
/-! ### enumerate(xs, start=1) -/
section
variable {prog : Program} {w : World} {A : Around} {E : Value → Shared → Prop} {s : Shared}
end
end PySem.W
namespace L2
open PySem PySem.Spec PyProof.Rows
/-! ### max of a list, index of a number -/
section
variable {X : Cx} {e : Expr} {te : TE} {p pos : Pos}
end
end L2

namespace L2
open PySem PySem.Spec PyProof.Rows
/-! ### products of large numbers; any of a list of truths -/
section
variable {X : Cx} {e : Expr} {te : TE} {p pos : Pos}
end
end L2

namespace L2
open PySem PySem.Spec PyProof.Rows

/-! ### lists of pairs as tables -/
section
variable {κ : Type} [DecidableEq κ]
def valV (kvs : List (κ × V)) (k : κ) : Option V := (kvs.find? fun kv => decide (kv.1 = k)).map (·.2)
/-- in its place, or at the end -/
def putK (kvs : List (κ × V)) (k : κ) (v : V) : List (κ × V) :=
  if (kvs.any fun kv => decide (kv.1 = k)) = true then kvs.map (fun kv => if kv.1 = k then (kv.1, v) else kv) else kvs ++ [(k, v)]
def dropK (kvs : List (κ × V)) (k : κ) : List (κ × V) := kvs.filter fun kv => decide (kv.1 ≠ k)

theorem valV_pos {p : κ × V} {r : List (κ × V)} {k : κ} (e : p.1 = k) : valV (p :: r) k = some p.2 := by simp [valV, List.find?_cons, e]
theorem valV_neg {p : κ × V} {r : List (κ × V)} {k : κ} (e : ¬ p.1 = k) : valV (p :: r) k = valV r k := by simp [valV, List.find?_cons, e]
theorem valV_any (k : κ) : ∀ kvs : List (κ × V), (kvs.any fun kv => decide (kv.1 = k)) = (valV kvs k).isSome
  | [] => rfl
  | p :: r => by
    rw [List.any_cons]
    by_cases e : p.1 = k
    · simp only [valV_pos e, decide_eq_true e, Bool.true_or, Option.isSome_some]
    · rw [valV_neg e, decide_eq_false e, Bool.false_or]; exact valV_any k r
theorem valV_map (k j : κ) (y : V) : ∀ kvs : List (κ × V), valV (kvs.map fun kv => if kv.1 = k then (kv.1, y) else kv) j = (valV kvs j).map fun x => if j = k then y else x
  | [] => rfl
  | p :: r => by
    have ih := valV_map k j y r
    rw [List.map_cons]
    by_cases h : p.1 = k
    · rw [if_pos h]
      by_cases e : p.1 = j
      · rw [valV_pos (p := (p.1, y)) e, valV_pos e, Option.map_some, if_pos (e.symm.trans h)]
      · rw [valV_neg (p := (p.1, y)) e, valV_neg e, ih]
    · rw [if_neg h]
      by_cases e : p.1 = j
      · rw [valV_pos (p := p) e, valV_pos e, Option.map_some, if_neg (fun z => h (e.trans z))]
      · rw [valV_neg (p := p) e, valV_neg e, ih]
theorem valV_snoc (k j : κ) (y : V) : ∀ kvs : List (κ × V), valV kvs k = none → valV (kvs ++ [(k, y)]) j = if j = k then some y else valV kvs j
  | [], _ => by
    by_cases e : k = j
    · rw [if_pos e.symm]; exact valV_pos (p := (k, y)) e
    · rw [if_neg (fun z => e z.symm)]; exact valV_neg (p := (k, y)) e
  | p :: r, hn => by
    rw [List.cons_append]
    have hk : ¬ p.1 = k := fun z => by rw [valV_pos z] at hn; cases hn
    rw [valV_neg hk] at hn
    have ih := valV_snoc k j y r hn
    by_cases e : p.1 = j
    · rw [valV_pos e, valV_pos e, if_neg (fun z => hk (e.trans z))]
    · rw [valV_neg e, valV_neg e, ih]
theorem valV_put (kvs : List (κ × V)) (k j : κ) (y : V) : valV (putK kvs k y) j = if j = k then some y else valV kvs j := by
  unfold putK
  by_cases a : (kvs.any fun kv => decide (kv.1 = k)) = true
  · rw [if_pos a, valV_map]
    rw [valV_any] at a
    by_cases e : j = k
    · obtain ⟨x, hx⟩ := Option.isSome_iff_exists.mp a
      rw [if_pos e, e, hx, Option.map_some, if_pos rfl]
    · rw [if_neg e]
      cases valV kvs j with
      | none => rfl
      | some x => rw [Option.map_some, if_neg e]
  · rw [if_neg a]
    refine valV_snoc k j y kvs ?_
    rw [valV_any] at a
    cases q : valV kvs k with
    | none => rfl
    | some x => rw [q] at a; exact (a rfl).elim
theorem length_putK (kvs : List (κ × V)) (k : κ) (v : V) : (putK kvs k v).length ≤ kvs.length + 1 := by
  unfold putK
  split
  · rw [List.length_map]; omega
  · rw [List.length_append, List.length_cons, List.length_nil]; omega

theorem RelO.isSome_eq {o : Option V} {u : Option Value} (r : RelO o u) : o.isSome = u.isSome := by
  cases o with
  | none => cases u with
    | none => rfl
    | some _ => exact (show False from r).elim
  | some _ => cases u with
    | none => exact (show False from r).elim
    | some _ => rfl
theorem RelO.getD {o : Option V} {u : Option Value} {d : V} {d' : Value} (r : RelO o u) (rd : RelV d d') : RelV (o.getD d) (u.getD d') := by
  cases o with
  | none => cases u with
    | none => exact rd
    | some _ => exact (show False from r).elim
  | some _ => cases u with
    | none => exact (show False from r).elim
    | some _ => exact r

/-- raw tables of the same keys -/
theorem KV.val {kvs : List (κ × V)} {vs : List (κ × Value)} (r : KV kvs vs) (k : κ) : RelO (valV kvs k) (valueAt vs k) := by
  unfold KV at r
  induction r with
  | nil => exact True.intro
  | @cons p q ps qs h t ih =>
    obtain ⟨h1, h2⟩ := h
    by_cases e : p.1 = k
    · have e' : q.1 = k := h1.symm.trans e
      have b : valueAt (q :: qs) k = some q.2 := by simp [valueAt, List.find?_cons, e']
      rw [valV_pos e, b]; exact h2
    · have e' : ¬ q.1 = k := fun z => e (h1.trans z)
      have b : valueAt (q :: qs) k = valueAt qs k := by simp [valueAt, List.find?_cons, e']
      rw [valV_neg e, b]; exact ih
theorem KV.any {kvs : List (κ × V)} {vs : List (κ × Value)} (r : KV kvs vs) (k : κ) : (kvs.any fun kv => decide (kv.1 = k)) = vs.any fun kv => decide (kv.1 = k) := by
  unfold KV at r
  induction r with
  | nil => rfl
  | cons h t ih => rw [List.any_cons, List.any_cons, ih, h.1]
theorem KV.repl {kvs : List (κ × V)} {vs : List (κ × Value)} (r : KV kvs vs) (k : κ) {y : V} {u : Value} (ry : RelV y u) :
    KV (kvs.map fun kv => if kv.1 = k then (kv.1, y) else kv) (vs.map fun kv => if kv.1 = k then (kv.1, u) else kv) := by
  unfold KV at r ⊢
  induction r with
  | nil => exact .nil
  | @cons p q ps qs h t ih =>
    rw [List.map_cons, List.map_cons]
    refine .cons ?_ ih
    obtain ⟨h1, h2⟩ := h
    by_cases e : p.1 = k
    · rw [if_pos e, if_pos (h1.symm.trans e)]; exact ⟨h1, ry⟩
    · rw [if_neg e, if_neg (fun z => e (h1.trans z))]; exact ⟨h1, h2⟩
theorem KV.put {kvs : List (κ × V)} {vs : List (κ × Value)} (r : KV kvs vs) (k : κ) {y : V} {u : Value} (ry : RelV y u) : KV (putK kvs k y) (stored vs k u) := by
  unfold putK stored
  rw [r.any k]
  by_cases e : (vs.any fun kv => decide (kv.1 = k)) = true
  · rw [if_pos e, if_pos e]; exact r.repl k ry
  · rw [if_neg e, if_neg e]; exact Paired.snoc r ⟨rfl, ry⟩
theorem KV.drop {kvs : List (κ × V)} {vs : List (κ × Value)} (r : KV kvs vs) (k : κ) : KV (dropK kvs k) (without vs k) := by
  unfold KV at r ⊢
  unfold dropK without
  induction r with
  | nil => exact .nil
  | @cons p q ps qs h t ih =>
    obtain ⟨h1, h2⟩ := h
    rw [List.filter_cons, List.filter_cons]
    by_cases e : p.1 = k
    · have a : ¬ decide (p.1 ≠ k) = true := by simp [e]
      have b : ¬ decide (q.1 ≠ k) = true := by simp [h1.symm.trans e]
      rw [if_neg a, if_neg b]; exact ih
    · have e' : ¬ q.1 = k := fun z => e (h1.trans z)
      have a : decide (p.1 ≠ k) = true := by simp [e]
      have b : decide (q.1 ≠ k) = true := by simp [e']
      rw [if_pos a, if_pos b]; exact .cons ⟨h1, h2⟩ ih
theorem KV.keys {kvs : List (κ × V)} {vs : List (κ × Value)} (r : KV kvs vs) : kvs.map (·.1) = vs.map (·.1) := by
  unfold KV at r
  induction r with
  | nil => rfl
  | cons h t ih => rw [List.map_cons, List.map_cons, ih, h.1]
theorem KV.length {kvs : List (κ × V)} {vs : List (κ × Value)} (r : KV kvs vs) : kvs.length = vs.length := Paired.length r
end


/-! ### a tracked dict, its keys ints and texts or tuples of these -/
theorem kV_is {P : Program} {w : World} {k : Key} {u : Value} (r : RelV (kV k) u) : (mixKind P w).is k u = true := by
  cases k with
  | inl i => obtain ⟨t, e⟩ := (show ∃ t, u = Value.int i t from r); subst e; exact mixKind_int P w i t
  | inr x => obtain ⟨t, e⟩ := (show ∃ t, u = Value.str x t from r); subst e; exact mixKind_str P w x t
theorem items_are {P : Program} {w : World} : ∀ {ks : List Key} {us : List Value}, Vals (ks.map kV) us → ItemsAre (mixKind P w) ks us
  | [], _, r => by rw [List.map_nil] at r; cases r; exact .nil
  | k :: ks, _, r => by
    rw [List.map_cons] at r
    cases r with
    | cons h t => exact .cons (kV_is h) (items_are t)

/-- raw entries of a dict with tuple keys -/
abbrev KT (H : Hp) : List (List Key × V) → List (List Key × Addr × Value) → Prop := Paired fun p q => p.1 = q.1 ∧ H q.2.1 = some (.tup (p.1.map kV)) ∧ RelV p.2 q.2.2
theorem KT.val {H : Hp} {kvs : List (List Key × V)} {xs : List (List Key × Addr × Value)} (r : KT H kvs xs) (k : List Key) : RelO (valV kvs k) ((atKey xs k).map (·.2)) := by
  induction r with
  | nil => exact True.intro
  | @cons p q ps qs h t ih =>
    obtain ⟨h1, _, h2⟩ := h
    by_cases e : p.1 = k
    · have e' : q.1 = k := h1.symm.trans e
      have b : atKey (q :: qs) k = some q.2 := by simp [atKey, List.find?_cons, e']
      rw [valV_pos e, b]; exact h2
    · have e' : ¬ q.1 = k := fun z => e (h1.trans z)
      have b : atKey (q :: qs) k = atKey qs k := by simp [atKey, List.find?_cons, e']
      rw [valV_neg e, b]; exact ih
theorem KT.repl {H : Hp} {kvs : List (List Key × V)} {xs : List (List Key × Addr × Value)} (r : KT H kvs xs) (k : List Key) {y : V} {u : Value} (ry : RelV y u) :
    KT H (kvs.map fun kv => if kv.1 = k then (kv.1, y) else kv) (xs.map (putAt k u)) := by
  induction r with
  | nil => exact .nil
  | @cons p q ps qs h t ih =>
    rw [List.map_cons, List.map_cons]
    refine .cons ?_ ih
    obtain ⟨h1, h2, h3⟩ := h
    unfold putAt
    by_cases e : p.1 = k
    · rw [if_pos e, if_pos (h1.symm.trans e)]; exact ⟨h1, h2, ry⟩
    · rw [if_neg e, if_neg (fun z => e (h1.trans z))]; exact ⟨h1, h2, h3⟩
theorem KT.put {H : Hp} {kvs : List (List Key × V)} {xs : List (List Key × Addr × Value)} (r : KT H kvs xs) (k : List Key) {b : Addr} {y : V} {u : Value} (hb : H b = some (.tup (k.map kV))) (ry : RelV y u) :
    KT H (putK kvs k y) (storedH xs k b u) := by
  have e : (kvs.any fun kv => decide (kv.1 = k)) = (atKey xs k).isSome := by
    rw [valV_any, (r.val k).isSome_eq, Option.isSome_map]
  unfold putK storedH
  rw [e]
  by_cases q : (atKey xs k).isSome = true
  · rw [if_pos q, if_pos q]; exact r.repl k ry
  · rw [if_neg q, if_neg q]; exact Paired.snoc r ⟨rfl, hb, ry⟩
theorem KT.keeps {H H' : Hp} {kvs : List (List Key × V)} {xs : List (List Key × Addr × Value)} (r : KT H kvs xs) (ht : ∀ b ys, H b = some (.tup ys) → H' b = some (.tup ys)) : KT H' kvs xs :=
  Paired.mapP r fun _ _ z => ⟨z.1, ht _ _ z.2.1, z.2.2⟩

section
variable {P : Program} {w : World} {H : Hp} {h : Heap} {a : Addr}
theorem rd_of {u : HO} (ok : HOk P w H h) (e : Rd H a u) : ObjOk P w H h a u := e.ok ok
theorem dk_rd {kvs : List (Key × V)} (ok : HOk P w H h) (e : Rd H a (.dK kvs)) : kvs.length ≤ sizeLine ∧ (a == sysModules) = false ∧ ∃ vs, KV kvs vs ∧ h.DictOf (mixKind P w) a vs :=
  show ObjOk P w H h a (.dK kvs) from rd_of ok e
theorem dk_of {kvs : List (Key × V)} (ok : HOk P w H h) (e : H a = some (.dK kvs)) : kvs.length ≤ sizeLine ∧ (a == sysModules) = false ∧ ∃ vs, KV kvs vs ∧ h.DictOf (mixKind P w) a vs := dk_rd ok (.inl e)
/-- a tracked tuple of ints and texts is a key -/
theorem key_of {ks : List Key} (ok : HOk P w H h) (e : H a = some (.tup (ks.map kV))) : (tupleKind (mixKind P w)).is h ks a := by
  obtain ⟨_, its, r, o, h1, h2, n, h3⟩ := (show ObjOk P w H h a (.tup (ks.map kV)) from ok a _ e)
  exact ⟨o, its.toArray, n, h1, h2, h3, by simpa using items_are r⟩
theorem dt_rd {kvs : List (List Key × V)} (ok : HOk P w H h) (e : Rd H a (.dT kvs)) : kvs.length ≤ sizeLine ∧ (a == sysModules) = false ∧
    ∃ xs, KT H kvs xs ∧ h.DictOfH (tupleKind (mixKind P w)) a xs := by
  obtain ⟨z, y, xs, r, o, es, ep, h1, h2, h3, h4, h5⟩ := (show ObjOk P w H h a (.dT kvs) from rd_of ok e)
  refine ⟨z, y, xs, r, o, es, ep, h1, h2, h3, h4, fun x hx => ?_, h5⟩
  have all : ∀ {l : List (List Key × V)} {m : List (List Key × Addr × Value)}, KT H l m → ∀ x ∈ m, (tupleKind (mixKind P w)).is h x.1 x.2.1 := by
    intro l m q
    induction q with
    | nil => intro x hx; exact nomatch hx
    | @cons p q ps qs hq t ih =>
      intro x hx
      rcases List.mem_cons.mp hx with e | hx
      · subst e
        exact key_of ok (by rw [← hq.1]; exact hq.2.1)
      · exact ih x hx
  exact all r x hx
theorem dt_of {kvs : List (List Key × V)} (ok : HOk P w H h) (e : H a = some (.dT kvs)) : kvs.length ≤ sizeLine ∧ (a == sysModules) = false ∧
    ∃ xs, KT H kvs xs ∧ h.DictOfH (tupleKind (mixKind P w)) a xs := dt_rd ok (.inl e)
end

/-- what the dict at a holds at the key y -/
def DGet (H : Hp) (a : Addr) (y : V) (r : Option V) : Prop :=
  (∃ kvs k, Rd H a (.dK kvs) ∧ y = kV k ∧ r = valV kvs k) ∨ ∃ kvs k b, Rd H a (.dT kvs) ∧ y = .ref b ∧ H b = some (.tup (k.map kV)) ∧ r = valV kvs k
/-- the heap behind a[y] = v -/
def DPut (H : Hp) (a : Addr) (y v : V) (H' : Hp) : Prop :=
  (∃ kvs k, H a = some (.dK kvs) ∧ y = kV k ∧ kvs.length < sizeLine ∧ H' = upd H a (.dK (putK kvs k v))) ∨
  ∃ kvs k b, H a = some (.dT kvs) ∧ y = .ref b ∧ H b = some (.tup (k.map kV)) ∧ kvs.length < sizeLine ∧ H' = upd H a (.dT (putK kvs k v))
theorem DGet.k {H : Hp} {a : Addr} {kvs : List (Key × V)} {k : Key} (e : H a = some (.dK kvs)) : DGet H a (kV k) (valV kvs k) := .inl ⟨kvs, k, .inl e, rfl, rfl⟩
theorem DGet.t {H : Hp} {a b : Addr} {kvs : List (List Key × V)} {k : List Key} (e : H a = some (.dT kvs)) (eb : H b = some (.tup (k.map kV))) : DGet H a (.ref b) (valV kvs k) := .inr ⟨kvs, k, b, .inl e, rfl, eb, rfl⟩
theorem DPut.k {H : Hp} {a : Addr} {kvs : List (Key × V)} {k : Key} {v : V} (e : H a = some (.dK kvs)) (hl : kvs.length < sizeLine) : DPut H a (kV k) v (upd H a (.dK (putK kvs k v))) := .inl ⟨kvs, k, e, rfl, hl, rfl⟩
theorem DPut.t {H : Hp} {a b : Addr} {kvs : List (List Key × V)} {k : List Key} {v : V} (e : H a = some (.dT kvs)) (eb : H b = some (.tup (k.map kV))) (hl : kvs.length < sizeLine) :
    DPut H a (.ref b) v (upd H a (.dT (putK kvs k v))) := .inr ⟨kvs, k, b, e, rfl, eb, hl, rfl⟩


section
variable {X : Cx} {pins : List (Addr × Obj)} {σ : St} {H : Hp} {s : Shared} {a : Addr} {y v : V} {u r : Value} {o : Option V} {A : Around} {E : Value → Shared → Prop}

theorem Inv.big (I : Inv X pins σ H s) : sysModules < s.heap.objs.size := by
  have h : mainGlobals < s.heap.objs.size := (I.mod.glob.keeps I.bk).lt
  exact Nat.lt_trans (by decide) h

/-- d[y], there -/
theorem d_getItem {Q : Value → Shared → Prop} (hu : A.units + 1 < cLine) (I : Inv X pins σ H s) (g : DGet H a y (some v)) (ry : RelV y u) (h : ∀ w' s', Inv X pins σ H s' → RelV v w' → Q w' s') :
    wpAny (model X.prog X.w) A (getItem (.ref a) u) Q E s := by
  rcases g with ⟨kvs, k, e, ey, l⟩ | ⟨kvs, k, b, e, ey, eb, l⟩
  · subst ey
    obtain ⟨z, hd, vs, rel, dd⟩ := dk_rd I.hok e
    obtain ⟨w', hw, rw'⟩ := RelO.some_of (v := v) (o := valueAt vs k) (by rw [l]; exact rel.val k)
    exact wpAny_getItem_of (kV_is ry) dd.mapOf hw (h w' _ (I.tok _) rw')
  · subst ey
    cases (show u = Value.ref b from ry)
    obtain ⟨z, hd, xs, rel, dd⟩ := dt_rd I.hok e
    obtain ⟨w', hw, rw'⟩ := RelO.some_of (v := v) (o := (atKey xs k).map (·.2)) (by rw [l]; exact rel.val k)
    obtain ⟨p, hp, hp2⟩ := Option.map_eq_some_iff.mp hw
    refine wpAny_getItem_heap (tupleKind_room_in1 hu) (key_of I.hok eb) dd hp ?_
    rw [hp2]
    exact h w' _ (I.tok _) rw'
/-- y in d -/
theorem d_in {Q : Value → Shared → Prop} (hu : A.units + 1 < cLine) (I : Inv X pins σ H s) (g : DGet H a y o) (ry : RelV y u) (h : ∀ s', Inv X pins σ H s' → Q (.bool o.isSome) s') :
    wpAny (model X.prog X.w) A (compareOp .In u (.ref a)) Q E s := by
  rcases g with ⟨kvs, k, e, ey, l⟩ | ⟨kvs, k, b, e, ey, eb, l⟩
  · subst ey
    obtain ⟨z, hd, vs, rel, dd⟩ := dk_rd I.hok e
    refine wpAny_in_of (kV_is ry) hd dd.mapOf ?_
    rw [← (rel.val k).isSome_eq, ← l]
    exact h _ (I.tok _)
  · subst ey
    cases (show u = Value.ref b from ry)
    obtain ⟨z, hd, xs, rel, dd⟩ := dt_rd I.hok e
    refine wpAny_in_heap (tupleKind_room_in1 hu) (key_of I.hok eb) hd dd ?_
    have q := (rel.val k).isSome_eq
    rw [Option.isSome_map] at q
    rw [← q, ← l]
    exact h _ (I.tok _)
theorem d_notIn {Q : Value → Shared → Prop} (hu : A.units + 1 < cLine) (I : Inv X pins σ H s) (g : DGet H a y o) (ry : RelV y u) (h : ∀ s', Inv X pins σ H s' → Q (.bool (!o.isSome)) s') :
    wpAny (model X.prog X.w) A (compareOp .NotIn u (.ref a)) Q E s := by
  rcases g with ⟨kvs, k, e, ey, l⟩ | ⟨kvs, k, b, e, ey, eb, l⟩
  · subst ey
    obtain ⟨z, hd, vs, rel, dd⟩ := dk_rd I.hok e
    refine wpAny_notIn_of (kV_is ry) hd dd.mapOf ?_
    rw [← (rel.val k).isSome_eq, ← l]
    exact h _ (I.tok _)
  · subst ey
    cases (show u = Value.ref b from ry)
    obtain ⟨z, hd, xs, rel, dd⟩ := dt_rd I.hok e
    refine wpAny_notIn_heap (tupleKind_room_in1 hu) (key_of I.hok eb) hd dd ?_
    have q := (rel.val k).isSome_eq
    rw [Option.isSome_map] at q
    rw [← q, ← l]
    exact h _ (I.tok _)
/-- a dict's object is replaced -/
theorem d_write {h' : Heap} {t' : Nat} {ob : HO} (I : Inv X pins σ H s) (mu : Mut (H a)) (hs : Heap.SameBut a s.heap h') (he : ∃ q, h'.get? a = some q) (new : ObjOk X.prog X.w (upd H a ob) h' a ob) :
    Inv X pins σ (upd H a ob) { s with heap := h', toks := t' } :=
  I.write (x := a) (e := a) mu (.inl rfl) (fun b q hb z => (hs.2 b hb).trans z) he new
theorem dk_new {P : Program} {w : World} {H' : Hp} {h' : Heap} {kvs : List (Key × V)} {vs : List (Key × Value)} (z : kvs.length ≤ sizeLine) (hd : (a == sysModules) = false) (rel : KV kvs vs) (dd : h'.DictOf (mixKind P w) a vs) :
    ObjOk P w H' h' a (.dK kvs) := ⟨z, hd, vs, rel, dd⟩
/-- d[y] = v -/
theorem d_setItem {H' : Hp} {Q : Unit → Shared → Prop} (hu : A.units + 1 < cLine) (I : Inv X pins σ H s) (g : DPut H a y v H') (ry : RelV y u) (rv : RelV v r) (h : ∀ s', Inv X pins σ H' s' → Q () s') :
    wpAny (model X.prog X.w) A (setItem (.ref a) u r) Q E s := by
  rcases g with ⟨kvs, k, e, ey, l, eH⟩ | ⟨kvs, k, b, e, ey, eb, l, eH⟩
  · subst ey eH
    obtain ⟨z, hd, vs, rel, dd⟩ := dk_of I.hok e
    have hz : vs.length ≤ sizeLine := by rw [← rel.length]; exact z
    have hl : (putK kvs k v).length ≤ sizeLine := by have := length_putK kvs k v; omega
    refine wpAny_setItem_pairs (hsz := hz) (kV_is ry) dd fun h' dd' hs => h _ ?_
    have he : ∃ q, h'.get? a = some q := let ⟨q, _, _, hq, _⟩ := dd'; ⟨q, hq⟩
    exact d_write I (by rw [e]; exact True.intro) hs he (dk_new hl hd (rel.put k rv) dd')
  · subst ey eH
    cases (show u = Value.ref b from ry)
    obtain ⟨z, hd, xs, rel, dd⟩ := dt_of I.hok e
    have hz : xs.length ≤ sizeLine := by rw [← Paired.length rel]; exact z
    have hl : (putK kvs k v).length ≤ sizeLine := by have := length_putK kvs k v; omega
    refine wpAny_setItem_heap (hsz := hz) (tupleKind_room_in1 hu) (key_of I.hok eb) dd fun h' dd' hs => h _ ?_
    obtain ⟨q, es, ep, hq, h2, h3, h4, _, h5⟩ := dd'
    refine d_write I (by rw [e]; exact True.intro) hs ⟨q, hq⟩ ⟨hl, hd, _, (rel.put k eb rv).keeps fun c ys ec => ?_, q, es, ep, hq, h2, h3, h4, h5⟩
    rw [upd_ne (ne_of ec e (fun z => nomatch z))]
    exact ec
end

section
variable {X : Cx} {pins : List (Addr × Obj)} {σ : St} {H : Hp} {s : Shared} {a : Addr} {kvs : List (Key × V)} {k : Key} {u : Value} {A : Around} {E : Value → Shared → Prop}
end


/-! ### readings and rules -/
/-- the element of a subscription, not a slice -/
def NoSl (i : Expr) : Prop := ∀ ov iv, subscripted i false ov iv = operate [ov, iv] (getItem ov iv)
theorem subD_of {prog : Program} {w : World} {A : Around} {E : Value → Shared → Prop} {s : Shared} {env : Env} {value slice : Expr} {pos : Pos} {T id : String} {Q : Value → Shared → Prop}
    (hl : typeLookup (.type T) "__getitem__" = pure (some (.builtin id))) (hs : NoSl slice)
    (h : wpAny (model prog w) A (eval value env) (fun o s₁ => wpAny (model prog w) A (eval slice env) (fun i s₂ => s₂.TypeIs o T ∧ wpAny (model prog w) A (getItem o i) Q E s₂) E s₁) E s) :
    wpAny (model prog w) A (eval (.Subscript value slice pos) env) Q E s := by
  refine Subscript_ (wpAny_mono h (fun o s₁ h₁ => wpAny_mono h₁ (fun i s₂ h₂ => ?_) fun _ _ x => x) fun _ _ x => x)
  obtain ⟨hT, h₂⟩ := h₂
  unfold subscriptTail
  refine wpAny_bind ?_
  rw [getitemInPython_of_ne hT.not_modules]
  refine wpAny_bind (wpAny_specialOf hT hl ?_)
  have fin : wpAny (model prog w) A (subscripted slice false o i) (fun r s₃ => wpAny (model prog w) A (letTemporaryGo value o r >>= fun _ => pure r) Q E s₃) E s₂ := by
    rw [hs o i]
    exact wpAny_operating (wpAny_mono h₂ (fun r s₃ h₃ => wpAny_bind (wpAny_letTemporaryGo (wpAny_pure h₃))) fun _ _ x => x)
  first
    | exact wpAny_pure (wpAny_bind fin)
    | exact wpAny_bind (wpAny_pure (wpAny_bind fin))
    | exact wpAny_bind fin

theorem dict_typeIs {X : Cx} {pins : List (Addr × Obj)} {σ : St} {H : Hp} {s : Shared} {a : Addr} {y : V} {o : Option V} (I : Inv X pins σ H s) (g : DGet H a y o) : s.TypeIs (.ref a) "dict" := by
  rcases g with ⟨kvs, k, e, _, _⟩ | ⟨kvs, k, b, e, _, _, _⟩
  · obtain ⟨_, _, vs, _, dd⟩ := dk_rd I.hok e
    exact dd.typeIs
  · obtain ⟨_, _, xs, _, dd⟩ := dt_rd I.hok e
    exact dd.typeIs

/-- d[y] -/
def tDGet (td ty : TE) : TE := fun σ H Q => td σ H fun x H1 => ty σ H1 fun y H2 => ∃ a v, x = .ref a ∧ DGet H2 a y (some v) ∧ Q v H2
/-- d[y] = v -/
def sDPut (td ty tv : TE) : TS := fun D σ H => tv σ H fun v H1 => td σ H1 fun x H2 => ty σ H2 fun y H3 => ∃ a H4, x = .ref a ∧ DPut H3 a y v H4 ∧ D.nx σ H4

section
variable {X : Cx} {o i e value : Expr} {pos pos' tpos : Pos} {td ty tv : TE}
theorem pe_dget (hu : X.A.units + 1 < cLine) (ho : PE X o td) (hi : PE X i ty) (hs : NoSl i) : PE X (.Subscript o i pos) (tDGet td ty) := by
  intro pins s σ H Q I h
  refine subD_of PySem.F.slot_dict_getitem.lookup hs (thn (ho pins s σ H _ I h) fun u s1 ⟨x, H1, I1, rx, q1⟩ => thn (hi pins s1 σ H1 _ I1 q1) fun iv s2 ⟨y, H2, I2, ry, a, v, ex, g, q2⟩ => ?_)
  subst ex
  obtain rfl : u = Value.ref a := rx
  exact ⟨dict_typeIs I2 g, d_getItem hu I2 g ry fun w' s3 I3 rw' => ⟨v, H2, I3, rw', q2⟩⟩
theorem ps_dput (hu : X.A.units + 1 < cLine) (ho : PE X o td) (hi : PE X i ty) (hv : PE X value tv) (hs : swapsWith value (some (.Subscript o i pos')) pos.line X.env = pure false) :
    PS X (.Assign [.Subscript o i pos'] value pos) (sDPut td ty tv) := by
  intro pins s σ H D I h
  refine wpAny_Assign_Subscript (thn (hv pins s σ H _ I h) fun r s1 ⟨v, H1, I1, rv, q1⟩ => thn (ho pins s1 σ H1 _ I1 q1) fun u s2 ⟨x, H2, I2, rx, q2⟩ => thn (hi pins s2 σ H2 _ I2 q2) fun iv s3 ⟨y, H3, I3, ry, a, H4, ex, g, q3⟩ => ?_) hs
  subst ex
  obtain rfl : u = Value.ref a := rx
  exact d_setItem hu I3 g ry rv fun s4 I4 => ⟨σ, H4, I4, q3⟩
end


/-! ### displays -/
theorem dk_empty {P : Program} {w : World} {H : Hp} (h : Heap) (hb : sysModules < h.objs.size) : ObjOk P w H (h.push { cls := .type "dict", data := .dict #[] }) h.objs.size (.dK []) :=
  ⟨Nat.zero_le _, beq_eq_false_iff_ne.mpr (Ne.symm (Nat.ne_of_lt hb)), [], .nil, Heap.DictOf.new h⟩
theorem dt_empty {P : Program} {w : World} {H : Hp} (h : Heap) (hb : sysModules < h.objs.size) : ObjOk P w H (h.push { cls := .type "dict", data := .dict #[] }) h.objs.size (.dT []) :=
  ⟨Nat.zero_le _, beq_eq_false_iff_ne.mpr (Ne.symm (Nat.ne_of_lt hb)), [], .nil, _, #[], 0, Heap.get?_push_size _ rfl, ⟨rfl, rfl, rfl⟩, rfl, rfl, List.nodup_nil⟩
def tDNewT : TE := fun _ H Q => ∀ p, H p = none → Q (.ref p) (upd H p (.dT []))
section
variable {X : Cx} {pos : Pos}
theorem pe_dnewT : PE X (.Dict [] [] pos) tDNewT := fun pins s σ H Q I h =>
  wpAny_Dict_empty ⟨.ref s.heap.objs.size, _, I.laid (a := s.heap.objs.size) (o := .dT []) (t' := s.toks) (fun _ _ q => Heap.get?_push_of_some _ q) (Nat.le_refl _) (dt_empty s.heap I.big), rfl, h _ (I.hok.fresh (Nat.le_refl _))⟩
end

/-- the pairs of a display, from the left -/
def tPairs : List (TE × TE) → St → Hp → (List (V × V) → Hp → Prop) → Prop
  | [], _, H, Q => Q [] H
  | (tk, tv) :: r, σ, H, Q => tk σ H fun x H1 => tv σ H1 fun y H2 => tPairs r σ H2 fun ps H3 => Q ((x, y) :: ps) H3
abbrev VV : List (V × V) → List (Value × Value) → Prop := Paired fun p q => RelV p.1 q.1 ∧ RelV p.2 q.2
def PPs (X : Cx) (pos : Pos) (keys : List (Option Expr)) (values : List Expr) (trs : List (TE × TE)) : Prop :=
  ∀ (pins : List (Addr × Obj)) (s : Shared) (σ : St) (H : Hp) (Q : List (V × V) → Hp → Prop), Inv X pins σ H s → tPairs trs σ H Q →
    wpAny (model X.prog X.w) X.A (evalPairs (pairTrees keys values X.env pos)) (fun vs s' => ∃ ps H', Inv X pins σ H' s' ∧ VV ps vs ∧ Q ps H') X.xe s
theorem pps_nil {X : Cx} {pos : Pos} : PPs X pos [] [] [] := fun pins s σ H Q I h => pairTrees_nil_walk ⟨[], H, I, .nil, h⟩
theorem pps_cons {X : Cx} {pos : Pos} {k v : Expr} {ks : List (Option Expr)} {vs : List Expr} {tk tv : TE} {trs : List (TE × TE)} (hk : PE X k tk) (hv : PE X v tv) (hr : PPs X pos ks vs trs) :
    PPs X pos (some k :: ks) (v :: vs) ((tk, tv) :: trs) := fun pins s σ H Q I h =>
  pairTrees_cons_walk (thn (hk pins s σ H _ I h) fun u s1 ⟨x, H1, I1, rx, q1⟩ => thn (hv pins s1 σ H1 _ I1 q1) fun w2 s2 ⟨y, H2, I2, ry, q2⟩ =>
    thn (hr pins s2 σ H2 _ I2 q2) fun ws s3 ⟨ps, H3, I3, rel, q3⟩ => ⟨(x, y) :: ps, H3, I3, .cons ⟨rx, ry⟩ rel, q3⟩)

def mergeK (kvs more : List (Key × V)) : List (Key × V) := more.foldl (fun acc kv => putK acc kv.1 kv.2) kvs
theorem KV.merge : ∀ {more : List (Key × V)} {rs : List (Key × Value)} {kvs : List (Key × V)} {vs : List (Key × Value)}, KV more rs → KV kvs vs → KV (mergeK kvs more) (merged vs rs) := by
  intro more rs kvs vs r
  unfold KV at r
  induction r generalizing kvs vs with
  | nil => intro q; exact q
  | @cons p q ps qs h t ih =>
    intro r0
    have e : KV (putK kvs p.1 p.2) (stored vs q.1 q.2) := by
      have := r0.put p.1 h.2
      rw [← h.1]; exact this
    exact ih e
theorem length_mergeK : ∀ (more kvs : List (Key × V)), (mergeK kvs more).length ≤ kvs.length + more.length
  | [], kvs => by show kvs.length ≤ kvs.length + 0; omega
  | p :: r, kvs => by
    have h1 := length_mergeK r (putK kvs p.1 p.2)
    have h2 := length_putK kvs p.1 p.2
    show (mergeK (putK kvs p.1 p.2) r).length ≤ _
    rw [List.length_cons]; omega
theorem carries_of {P : Program} {w : World} : ∀ {kvs : List (Key × V)} {ws : List (Value × Value)}, VV (kvs.map fun kv => (kV kv.1, kv.2)) ws → ∃ rs, Carries (mixKind P w) ws rs ∧ KV kvs rs
  | [], _, r => by rw [List.map_nil] at r; cases r; exact ⟨[], True.intro, .nil⟩
  | p :: kvs, _, r => by
    rw [List.map_cons] at r
    cases r with
    | @cons a b as bs h t =>
      obtain ⟨rs, c, q⟩ := carries_of (P := P) (w := w) t
      obtain ⟨b1, b2⟩ := b
      exact ⟨(p.1, b2) :: rs, ⟨kV_is h.1, rfl, c⟩, .cons ⟨rfl, h.2⟩ q⟩
/-- {k: v, ..} with keys ints and texts; the new dict stands empty while the pairs are made -/
def tDisp (trs : List (TE × TE)) : TE := fun σ H Q => ∀ p, H p = none → tPairs trs σ (upd H p (.dK [])) fun ps H2 => H2 p = some (.dK []) ∧ ∃ kvs : List (Key × V), ps = kvs.map (fun kv => (kV kv.1, kv.2)) ∧ kvs.length ≤ 15 ∧ Q (.ref p) (upd H2 p (.dK (mergeK [] kvs)))
theorem pe_disp {X : Cx} {pos : Pos} {keys : List (Option Expr)} {values : List Expr} {trs : List (TE × TE)} (h : PPs X pos keys values trs) (hall : keys.all (·.isSome) = true) (hl : keys.length = values.length) (h0 : keys ≠ [])
    (h15 : keys.length ≤ 15) : PE X (.Dict keys values pos) (tDisp trs) := by
  intro pins s σ H Q I q
  have hn := I.hok.fresh (Nat.le_refl s.heap.objs.size)
  have I1 := I.laid (a := s.heap.objs.size) (o := .dK []) (h' := s.heap.push { cls := .type "dict", data := .dict #[] }) (t' := s.toks) (fun _ _ q => Heap.get?_push_of_some _ q) (Nat.le_refl _) (dk_empty s.heap I.big)
  refine wpAny_Dict_walk (knd := mixKind X.prog X.w) hall hl h0 h15 (thn (h pins _ σ _ _ I1 (q _ hn)) fun ws s2 ⟨ps, H2, I2, rel, e, kvs, ep, lk, q2⟩ => ?_)
  subst ep
  obtain ⟨rs, c, rk⟩ := carries_of (P := X.prog) (w := X.w) rel
  obtain ⟨z, hd, vs0, r0, dd⟩ := dk_of I2.hok e
  cases r0
  refine ⟨rs, c, dd, fun h' dd' hs => ⟨.ref s.heap.objs.size, _, ?_, rfl, q2⟩⟩
  have hz : (mergeK [] kvs).length ≤ sizeLine := by
    have h1 := length_mergeK kvs []
    rw [List.length_nil] at h1
    rw [sizeLine_eq]; omega
  have he : ∃ q, h'.get? s.heap.objs.size = some q := let ⟨q, _, _, hq, _⟩ := dd'; ⟨q, hq⟩
  exact d_write I2 (by rw [e]; exact True.intro) hs he (dk_new hz hd (rk.merge .nil) dd')


/-! ### methods -/
/-- a method call o.m(e) of a built-in, with one argument: what must be seen of the text -/
structure M1 (X : Cx) (o : Expr) (m : Str) (apos : Pos) (e : Expr) (cpos : Pos) : Prop where
  base : attributeBase o m X.env (eval o X.env) = eval o X.env
  few : ((backTo cpos (starEach [e] X.env)).all (fun x => !x.1) && (backToKw cpos (keywordEach [] X.env)).all (fun x => x.1.isSome)
    && decide (([e] : List Expr).length + ([] : List Keyword).length + (if ([] : List Keyword).isEmpty then 0 else 1) < 30)) = true
  line : (apos.endLine == cpos.line) = true
  trees : backTo cpos (starEach [e] X.env) = [(false, eval e X.env)]
structure M2 (X : Cx) (o : Expr) (m : Str) (apos : Pos) (e f : Expr) (cpos : Pos) : Prop where
  base : attributeBase o m X.env (eval o X.env) = eval o X.env
  few : ((backTo cpos (starEach [e, f] X.env)).all (fun x => !x.1) && (backToKw cpos (keywordEach [] X.env)).all (fun x => x.1.isSome)
    && decide (([e, f] : List Expr).length + ([] : List Keyword).length + (if ([] : List Keyword).isEmpty then 0 else 1) < 30)) = true
  line : (apos.endLine == cpos.line) = true
  trees : backTo cpos (starEach [e, f] X.env) = [(false, eval e X.env), (false, eval f X.env)]

/-- a is a dict, whatever its keys -/
def IsD (H : Hp) (a : Addr) : Prop := (∃ kvs, Rd H a (.dK kvs)) ∨ ∃ kvs, Rd H a (.dT kvs)
theorem isD_at {X : Cx} {pins : List (Addr × Obj)} {σ : St} {H : Hp} {s : Shared} {a : Addr} (I : Inv X pins σ H s) (d : IsD H a) :
    s.TypeIs (.ref a) "dict" ∧ (∀ b, Value.ref a = .ref b → ∃ ob, s.heap.get? b = some ob ∧ ob.dict = none) ∧ (a == sysModules) = false := by
  rcases d with ⟨kvs, e⟩ | ⟨kvs, e⟩
  · obtain ⟨_, hd, vs, _, dd⟩ := dk_rd I.hok e
    refine ⟨dd.typeIs, fun b q => ?_, hd⟩
    cases q
    obtain ⟨ob, _, _, h1, h2, _⟩ := dd
    exact ⟨ob, h1, h2.2.1⟩
  · obtain ⟨_, hd, xs, _, dd⟩ := dt_rd I.hok e
    refine ⟨dd.typeIs, fun b q => ?_, hd⟩
    cases q
    obtain ⟨ob, _, _, h1, h2, _⟩ := dd
    exact ⟨ob, h1, h2.2.1⟩

section
variable {X : Cx} {pins : List (Addr × Obj)} {σ : St} {H : Hp} {s : Shared} {a : Addr} {y d : V} {u r : Value} {o : Option V} {A : Around} {E : Value → Shared → Prop}
end

section
variable {X : Cx} {o e f : Expr} {apos cpos : Pos} {td ty tx : TE}
end

/-! ### dict(d): a copy -/
section
variable {X : Cx} {pins : List (Addr × Obj)} {σ : St} {H : Hp} {s : Shared} {a : Addr} {kvs : List (Key × V)} {A : Around} {E : Value → Shared → Prop}
end


section
variable {X : Cx} {pins : List (Addr × Obj)} {σ : St} {H : Hp} {s : Shared} {a : Addr} {y : V} {u : Value} {A : Around} {E : Value → Shared → Prop}
end
end L2


namespace L2
open PySem PySem.Spec PyProof.Rows
/-! ### sum of a list of numbers of any size -/
section
variable {X : Cx}
theorem call_sumG (hc : X.calm = true) : CallR X (.builtin "sum") (fun xs H Q => ∃ (p : Addr) (ns : List Int), xs = [.ref p] ∧ H p = some (.lst (ns.map V.int)) ∧ Q (.int ns.sum) H) := by
  intro pins s σ H xs us Q I r h
  obtain ⟨p, ns, rfl, hp, q⟩ := h
  obtain ⟨u, rfl, rx⟩ := vals1 r
  cases rx
  obtain ⟨_, its, n, rv, hlen, e1⟩ := I.lstM hp
  have isl : s.heap.IsList p its.toArray := ⟨_, e1, rfl, n, rfl⟩
  have below : p < s.heap.objs.size := Heap.lt_size e1
  have hil : its.length = ns.length := by rw [← hlen, List.length_map]
  refine call_sum_walkG (wpAny_pyIter_list isl ?_)
  refine ⟨s.heap.objs.size, [s.heap.objs.size, p], [s.heap.objs.size], _, _, _, fun i => ns.getD i 0, rfl, Walks.list (by first | exact I.ok.hd hc | (show X.A.in1.handled = none; exact I.ok.hd hc)) s.heap.objs.size p (Nat.ne_of_lt below) its.toArray, ⟨⟨_, Heap.get?_push_size _ rfl, rfl, rfl⟩, isl.at fun o q => Heap.get?_push_of_some _ q⟩, ?_, ?_, ?_⟩
  · intro b hb
    rw [Heap.size_push]
    simp only [List.mem_cons, List.not_mem_nil, or_false] at hb
    rcases hb with rfl | rfl
    · exact Nat.lt_succ_self _
    · exact Nat.lt_succ_of_lt below
  · intro i v hv
    have hi : i < ns.length := by
      have := (Array.getElem?_eq_some_iff.mp hv).1
      simp at this; omega
    obtain ⟨u, hu, ru⟩ := rv.get (show (ns.map V.int)[i]? = some (.int ns[i]) by simp [hi])
    have : its[i]? = some v := by simpa using hv
    rw [hu] at this
    cases this
    obtain ⟨t, rfl⟩ := ru
    exact ⟨t, by simp [hi]⟩
  · intro h' tk t' hk
    refine ⟨.int ns.sum, H, ?_, ⟨t', ?_⟩, q⟩
    · exact I.kept (h' := h') (t' := tk) fun b o e => hk b o (by simp; exact Nat.ne_of_lt (Heap.lt_size e)) (Heap.get?_push_of_some _ e)
    · rw [show its.toArray.size = ns.length by simp [hil], preSum_take _ (Nat.le_refl _), List.take_length]
variable {e : Expr} {te : TE} {p pos : Pos}
def tSumG (te : TE) : TE := fun σ H Q => te σ H fun x H1 => ∃ (a : Addr) (ns : List Int), x = .ref a ∧ H1 a = some (.lst (ns.map V.int)) ∧ Q (.int ns.sum) H1
theorem pe_sumG (hc : X.calm = true) (hm : X.mg "sum" = none) (ha : PE X e te) (hg : Gl X "sum" := by rfl) (he : starEach [e] X.env = [(false, eval e X.env)] := by rfl) : PE X (.Call (.Name "sum" p) [e] [] pos) (tSumG te) :=
  pe_callB (r := r1 fun x H Q => ∃ (a : Addr) (ns : List Int), x = .ref a ∧ H a = some (.lst (ns.map V.int)) ∧ Q (.int ns.sum) H) (callR1 fun pins s σ H x us Q I rv ⟨a, ns, ex, h1, q⟩ => call_sumG hc pins s σ H _ us Q I rv ⟨a, ns, by rw [ex], h1, q⟩) hg hm bt_sum (pa_cons ha pa_nil (by exact he)) (he := by exact he)
end
/-! ### the walk of a comprehension over enumerate -/
/-! ### a dict of numbers by numbers -/
/-- at w there lies a dict that tells f at each of qs -/
def DictN (H : Hp) (w : Addr) (qs : List Nat) (f : Nat → Int) : Prop := ∃ kvs : List (Key × V), H w = some (.dK kvs) ∧ kvs.length ≤ qs.length ∧ (∀ q ∈ qs, valV kvs (.inl (q : Int)) = some (.int (f q))) ∧ ∀ k : Int, (∀ q ∈ qs, (q : Int) ≠ k) → valV kvs (.inl k) = none
theorem DictN.new {H : Hp} {w : Addr} {f : Nat → Int} (h : H w = some (.dK [])) : DictN H w [] f := ⟨[], h, Nat.le_refl _, fun q hq => absurd hq (List.not_mem_nil), fun _ _ => rfl⟩
theorem DictN.get {H : Hp} {w : Addr} {qs : List Nat} {f : Nat → Int} (h : DictN H w qs f) {q : Nat} (hq : q ∈ qs) : DGet H w (.int (q : Int)) (some (.int (f q))) := by
  obtain ⟨kvs, h1, _, h2, _⟩ := h
  have := DGet.k (k := .inl (q : Int)) h1
  rw [h2 q hq] at this
  exact this
theorem DictN.put {H : Hp} {w : Addr} {qs : List Nat} {f : Nat → Int} (h : DictN H w qs f) {q : Nat} {z : Int} (hz : z = f q) (hl : qs.length < 1000) : ∃ H', DPut H w (.int (q : Int)) (.int z) H' ∧ DictN H' w (qs ++ [q]) f ∧ ∀ b o, H b = some o → b ≠ w → H' b = some o := by
  subst hz
  obtain ⟨kvs, h1, h2, h3, h4⟩ := h
  refine ⟨_, DPut.k (k := .inl (q : Int)) h1 (Nat.lt_of_le_of_lt h2 (Nat.lt_of_lt_of_le hl (by decide))), ⟨_, upd_same, ?_, fun p hp => ?_, fun k hk => ?_⟩, fun b o e ne => by rw [upd_ne ne]; exact e⟩
  · rw [List.length_append, List.length_singleton]
    have := length_putK kvs (.inl (q : Int)) (.int (f q))
    omega
  · rw [valV_put]
    by_cases e : p = q
    · subst e; rw [if_pos rfl]
    · rw [if_neg (fun z => e (by have := Sum.inl.inj z; omega))]
      rcases List.mem_append.mp hp with hp | hp
      · exact h3 p hp
      · exact absurd (List.mem_singleton.mp hp) e
  · rw [valV_put, if_neg (fun z => hk q (by simp) (Sum.inl.inj z).symm)]
    exact h4 k fun p hp => hk p (List.mem_append_left _ hp)
/-! ### name = [comprehension with several names] -/
/-! ### for over reversed(list) -/
end L2

namespace L2
open PySem PySem.Spec PyProof.Rows
/-! ### d.setdefault(k, x), keys that are tuples -/
section
variable {prog : Program} {w : World} {κ : Type} [DecidableEq κ] {knd : HeapKind prog w κ} {A : Around} {E : Value → Shared → Prop} {s : Shared}
theorem setDef_tree {d c : Addr} {xs : List (κ × Addr × Value)} {k : κ} {v : Value} {R : Value → Shared → Prop} (room : knd.room A) (isk : knd.is s.heap k c) (hm : s.heap.DictOfH knd d xs)
    (old : ∀ p, atKey xs k = some p → R p.2 { s with toks := s.toks + knd.draws k })
    (new : atKey xs k = none → ∀ h', h'.DictOfH knd d (xs ++ [(k, c, v)]) → Heap.SameBut d s.heap h' → R v { s with heap := h', toks := s.toks + knd.draws k })
    (few : xs.length ≤ sizeLine) : wpAny (model prog w) A (dictSetDefault d (.ref c) v) R E s := by
  obtain ⟨o, es, ep, ho, hc, hd, he, his, hn⟩ := id hm
  unfold dictSetDefault; try with_reducible refine wpAny_holding ?_
  refine wpAny_bind (knd.pyHash room isk (wpAny_bind (wpAny_dictFind_heap (s := { s with toks := s.toks + knd.draws k }) room isk ho hd he his hn (fun hno => ?_) fun j p hj => ?_)))
  · have fresh := not_mem_keys_of_get hno
    have none := atKey_none_of_get hno
    refine wpAny_bind (wpAny_rule (wpAny_bind (wpAny_updateDictKeys (hz := by have e := size_of_entries he; omega) (s := { s with toks := s.toks + knd.draws k }) ho hd (wpAny_pure (new none _ ⟨_, _, ep + 1, Heap.get?_update_self _ ho (Obj.isFreed_of_dict (Obj.data_mapDictKeys hd _)), hc.mapDictKeys _, Obj.data_mapDictKeys hd _, ?_, ?_, ?_⟩ (Heap.SameBut.update ..))))))
    · simp [he, entryOfKey]
    · intro x hx
      rcases List.mem_append.mp hx with hl | hx
      · exact knd.keeps (his x hl) ho hd (Heap.SameBut.update ..)
      · rw [List.mem_singleton.mp hx]
        exact knd.keeps isk ho hd (Heap.SameBut.update ..)
    · rw [List.map_append, List.nodup_append]; refine ⟨hn, by simp, fun x hx y hy e => ?_⟩
      have hy' : y = k := by simpa using hy
      exact fresh (hy' ▸ e ▸ hx)
  · refine wpAny_bind (wpAny_dictEntries (s := { s with toks := s.toks + knd.draws k }) ho hd ?_)
    rw [entry_at he j, hj]
    exact wpAny_bind (wpAny_rule (wpAny_pure (old p (atKey_of_get hn hj))))
theorem setDef_meets (knd : HeapKind prog w κ) (d c : Addr) (hd : (d == sysModules) = false) (v : Value) :
    MeetsIn prog w (Builtin.«dict.setdefault» ⟨[.ref d, .ref c, v], []⟩) (fun A R s => knd.room A.in1 ∧ ∃ k xs, knd.is s.heap k c ∧ s.heap.DictOfH knd d xs ∧ xs.length ≤ sizeLine ∧
      (∀ p, atKey xs k = some p → R (.ok (.ret p.2)) { s with toks := s.toks + knd.draws k }) ∧
      (atKey xs k = none → ∀ h', h'.DictOfH knd d (xs ++ [(k, c, v)]) → Heap.SameBut d s.heap h' → R (.ok (.ret v)) { s with heap := h', toks := s.toks + knd.draws k })) :=
  .of_wp fun A R s ⟨room, k, xs, isk, hm, few, old, new⟩ => by
    unfold Builtin.«dict.setdefault»; refine wpAny_bind ?_
    unfold Builtin.Dict.keyAndDefault; refine wpAny_bind (wpAny_notOrdered_dict hm.typeIs ?_); show wpAny _ _ (pure (d, Value.ref c, some v)) _ _ s
    refine wpAny_pure ?_
    show wpAny _ _ (if (d == sysModules) = true then _ else (dictSetDefault d (.ref c) v >>= _)) _ _ s
    rw [if_neg (by rw [hd]; decide)]
    exact wpAny_bind (setDef_tree room isk hm (fun p hp => wpAny_pure ⟨p.2, rfl, old p hp⟩) (fun hn h' hm' sb => wpAny_pure ⟨v, rfl, new hn h' hm' sb⟩) few)
end
theorem KT.snoc {H : Hp} {kvs : List (List Key × V)} {xs : List (List Key × Addr × Value)} (r : KT H kvs xs) {k : List Key} {c : Addr} {y : V} {u : Value} (hc : H c = some (.tup (k.map kV))) (ry : RelV y u) : KT H (kvs ++ [(k, y)]) (xs ++ [(k, c, u)]) :=
  Paired.snoc r ⟨rfl, hc, ry⟩
section
variable {X : Cx} {pins : List (Addr × Obj)} {σ : St} {H : Hp} {s : Shared} {a c : Addr} {kvs : List (List Key × V)} {k : List Key} {v : V} {r : Value} {A : Around} {E : Value → Shared → Prop}
theorem d_setDef {R : Value → Shared → Prop} (room : A.units + 1 < cLine) (I : Inv X pins σ H s) (e : H a = some (.dT kvs)) (ec : H c = some (.tup (k.map kV))) (rv : RelV v r) (few : kvs.length < sizeLine)
    (old : ∀ y, valV kvs k = some y → ∀ u s', Inv X pins σ H s' → RelV y u → R u s') (new : valV kvs k = none → ∀ s', Inv X pins σ (upd H a (.dT (kvs ++ [(k, v)]))) s' → R r s') :
    wpAny (model X.prog X.w) A (call (.builtin "dict.setdefault") [.ref a, .ref c, r]) R E s := by
  obtain ⟨z, hd, xs, rel, dd⟩ := dt_of I.hok e
  have hl : xs.length = kvs.length := (Paired.length rel).symm
  have val := rel.val k
  refine call_meetsIn PySem.F.slot_dict_setdefault dd.typeIs PySem.F.entry_dict_setdefault (PySem.F.args_dict_setdefault_3 _ _ _) (setDef_meets (tupleKind (mixKind X.prog X.w)) a c hd r) ⟨tupleKind_room_in1 room, k, xs, key_of I.hok ec, dd, by omega, fun p hp => ?_, fun hn h' dd' sb => ?_⟩
  · rw [hp] at val
    cases q : valV kvs k with
    | none => rw [q] at val; exact (show False from val).elim
    | some y =>
      rw [q] at val
      exact old y q _ _ (I.tok _) val
  · have q : valV kvs k = none := by
      cases q : valV kvs k with
      | none => rfl
      | some y => rw [q, hn] at val; exact (show False from val).elim
    refine new q _ ?_
    obtain ⟨ob, es, ep, h1, h2, h3, h4, _, h5⟩ := dd'
    refine d_write I (by rw [e]; exact True.intro) sb ⟨ob, h1⟩ ⟨by rw [List.length_append, List.length_singleton]; omega, hd, _, (rel.snoc ec rv).keeps fun b ys eb => ?_, ob, es, ep, h1, h2, h3, h4, h5⟩
    rw [upd_ne (ne_of eb e (fun z => nomatch z))]
    exact eb
end
/-- d.setdefault(y, x), d with tuples for keys -/
def tDDef (td ty tx : TE) : TE := fun σ H Q => td σ H fun x H1 => ∃ a, x = .ref a ∧ IsD H1 a ∧ ty σ H1 fun y H2 => tx σ H2 fun z H3 => ∃ c kvs k, y = .ref c ∧ H3 a = some (.dT kvs) ∧ H3 c = some (.tup (k.map kV)) ∧ kvs.length < sizeLine ∧
  (∀ v, valV kvs k = some v → Q v H3) ∧ (valV kvs k = none → Q z (upd H3 a (.dT (kvs ++ [(k, z)]))))
theorem pe_ddef {X : Cx} {o e f : Expr} {apos cpos : Pos} {td ty tx : TE} (room : X.A.units + 1 < cLine) (ho : PE X o td) (he : PE X e ty) (hf : PE X f tx) (m : M2 X o "setdefault" apos e f cpos) : PE X (.Call (.Attribute o "setdefault" apos) [e, f] [] cpos) (tDDef td ty tx) := by
  intro pins s σ H Q I h
  refine wpAny_Call_method m.base m.few m.line PySem.F.plainAttrs_dict PySem.F.slot_dict_setdefault PySem.F.type_dict_setdefault (thn (ho pins s σ H _ I h) fun u s1 ⟨x, H1, I1, rx, a, ex, d, q1⟩ => ?_)
  subst ex
  obtain rfl : u = Value.ref a := rx
  obtain ⟨t1, t2, _⟩ := isD_at I1 d
  refine ⟨t1, t2, ?_⟩
  rw [m.trees]
  refine Calls.callWith_builtin rfl (Calls.evalArgs_plain (Calls.spliced_cons (thn (he pins s1 σ H1 _ I1 q1) fun iv s2 ⟨y, H2, I2, ry, q2⟩ =>
    Calls.spliced_cons (thn (hf pins s2 σ H2 _ I2 q2) fun fv s3 ⟨z, H3, I3, rz, c, kvs, k, ey, ea, ec, few, old, new⟩ => Calls.spliced_nil ?_))))
  subst ey
  obtain rfl : iv = Value.ref c := ry
  exact d_setDef room I3 ea ec rz few (fun v hv u s4 I4 ru => ⟨v, H3, I4, ru, old v hv⟩) fun hn s4 I4 => ⟨z, _, I4, rz, new hn⟩
/-! ### tuple(list) -/
section
variable {X : Cx} {e : Expr} {te : TE} {p pos : Pos}
def tTupL (K : PySem.W.Frag) (te : TE) : TE := fun σ H Q => te σ H fun x H1 => ∃ a ys, x = .ref a ∧ SqL K H1 a ys ∧ ∀ l, H1 l = none → Q (.ref l) (upd H1 l (.tup ys))
theorem pe_tupL (hm : X.mg "tuple" = none) (ha : PE X e te) (hg : Gl X "tuple" := by rfl) (he : starEach [e] X.env = [(false, eval e X.env)] := by rfl) : PE X (.Call (.Name "tuple" p) [e] [] pos) (tTupL X.K te) :=
  pe_callTy (r := r1 fun x H Q => ∃ a ys, x = .ref a ∧ SqL X.K H a ys ∧ ∀ l, H l = none → Q (.ref l) (upd H l (.tup ys))) (callR1 fun pins s σ H x us Q I rv ⟨a, ys, ex, h, q⟩ => call_tuple_of pins s σ H _ us Q I rv ⟨a, ys, by rw [ex], .inl ⟨h, q⟩⟩) hg hm bt_tuple (pa_cons ha pa_nil (by exact he)) (he := by exact he)
end
/-! ### a dict is held still -/
theorem Inv.still {X : Cx} {pins : List (Addr × Obj)} {σ : St} {H : Hp} {s : Shared} {a : Addr} {kvs : List (List Key × V)} (I : Inv X pins σ H s) (e : H a = some (.dT kvs)) :
    ∃ o, s.heap.get? a = some o ∧ Inv X pins σ (upd H a (.frz o (.dT kvs))) s := by
  obtain ⟨z, hd, xs, rel, o, es, ep, h1, h2, h3, h4, h5⟩ := (show ObjOk X.prog X.w H s.heap a (.dT kvs) from I.hok a _ e)
  refine ⟨o, h1, d_write (h' := s.heap) (t' := s.toks) I (by rw [e]; exact True.intro) ⟨rfl, fun _ _ => rfl⟩ ⟨o, h1⟩ ⟨h1, z, hd, xs, KT.keeps rel fun b ys eb => ?_, o, es, ep, h1, h2, h3, h4, h5⟩⟩
  rw [upd_ne (ne_of eb e (fun z => nomatch z))]
  exact eb
/-! ### for x in d.values() -/
section
variable {prog : Program} {w : World} {A : Around} {E : Value → Shared → Prop} {s : Shared} {it d : Addr} {i n ep : Nat} {od : Obj} {es : Array DictEntry}
end
theorem paired_get {α β : Type} {F : α → β → Prop} : ∀ {l₁ : List α} {l₂ : List β} {i : Nat} {x : α}, Paired F l₁ l₂ → l₁[i]? = some x → ∃ y, l₂[i]? = some y ∧ F x y
  | _, _, 0, _, .cons r _, h => ⟨_, rfl, by cases h; exact r⟩
  | _, _, i + 1, _, .cons _ t, h => by
    obtain ⟨y, e, r⟩ := paired_get (i := i) t (by simpa using h)
    exact ⟨y, by simpa using e, r⟩
theorem still_at {X : Cx} {pins : List (Addr × Obj)} {σ : St} {H : Hp} {s : Shared} {d : Addr} {o : Obj} {kvs : List (List Key × V)} (I : Inv X pins σ H s) (e : H d = some (.frz o (.dT kvs))) {es : Array DictEntry} {ep : Nat} (eo : o.data = .dict es ep) :
    s.heap.get? d = some o ∧ es.size = kvs.length ∧ ∀ (i : Nat) (k : List Key) (x : V), kvs[i]? = some (k, x) → ∃ en : DictEntry, es[i]? = some en ∧ RelV x en.val := by
  obtain ⟨e1, z, hd, xs, rel, o', es', ep', h1, h2, h3, h4, h5⟩ := (show ObjOk X.prog X.w H s.heap d (.frz o (.dT kvs)) from I.hok d _ e)
  rw [e1] at h1
  cases h1
  rw [eo] at h3
  cases h3
  refine ⟨e1, by rw [size_of_entries h4, Paired.length rel], fun i k x hx => ?_⟩
  obtain ⟨y, hy, ry⟩ := paired_get rel hx
  exact ⟨_, by rw [entry_at h4 i, hy]; rfl, ry.2.2⟩
/-! ### in, not in a list of data -/
/-! ### a comprehension over a tuple -/
end L2

namespace L2
open PySem PySem.Spec PyProof.Rows
/-! ### f-strings of written texts and numbers -/
section
variable {X : Cx}
end
end L2

namespace L2
open PySem PySem.Spec PyProof.Rows
/-! ### for k, x in d.items() -/
section
variable {prog : Program} {w : World} {A : Around} {E : Value → Shared → Prop} {s : Shared} {it d : Addr} {i n ep : Nat} {od : Obj} {es : Array DictEntry}
theorem its_meets (d : Addr) (hd : (d == sysModules) = false) :
    MeetsIn prog w (Builtin.«dict.items» ⟨[.ref d], []⟩) (fun _ R s => s.TypeIs (.ref d) "dict" ∧ R (.ok (.ret (.ref s.heap.objs.size))) ({ s with heap := s.heap.push { cls := .type "dict_items", data := .fields #[.ref d] } } : Shared)) :=
  .of_wp fun A R s ⟨ty, q⟩ => by
    refine wpAny_bind ?_; unfold Builtin.Dict.noArgs
    refine wpAny_bind (wpAny_notOrdered_dict ty ?_)
    show wpAny _ _ (pure d) _ _ s
    refine wpAny_pure ?_; show wpAny _ _ (Builtin.Dict.showsAll d >>= _) _ _ s
    unfold Builtin.Dict.showsAll; rw [if_neg (by rw [hd]; decide)]
    exact wpAny_bind (wpAny_pure (wpAny_bind (wpAny_newObj_type (wpAny_pure ⟨_, rfl, q⟩))))
theorem its_iter {v : Addr} {Q : Value → Shared → Prop} (hv : s.heap.IsItemsView v d) (e1 : s.heap.get? d = some od) (e2 : od.data = .dict es ep) (e3 : es.size = n)
    (q : Q (.ref s.heap.objs.size) { s with heap := s.heap.push { cls := .type "dict_itemiterator", data := .fields #[.none, .bool false, .ref d, .int 0 0, .int n 0, .int ep 0, .none, .none] } }) : wpAny (model prog w) A (pyIter (.ref v)) Q E s := by
  obtain ⟨vo, v1, v2, v3⟩ := id hv
  refine wpAny_pyIter_slot hv.typeIs F.slot_dict_items_iter (wpAny_call_entry F.slot_dict_items_iter hv.typeIs F.entry_dict_items_iter ?_ (F.args_dict_items_iter_1 _)); unfold Builtin.«dict_items.__iter__»; refine wpAny_bind (wpAny_pure (wpAny_bind ?_))
  unfold Builtin.Dict_items.dictOf; refine wpAny_bind (wpAny_field v1 v3 (x := .ref d) rfl (wpAny_pure (wpAny_bind ?_)))
  unfold Builtin.Dict_items.newIterator; refine wpAny_bind (wpAny_dictEntries e1 e2 (wpAny_bind (wpAny_dictEpoch e1 e2 ?_)))
  simp only [show Builtin.Dict_items.ownsTuple "dict_itemiterator" = true by decide, if_true]
  refine wpAny_newObj_type (wpAny_pure ⟨_, rfl, "dict_itemiterator", _, ⟨_, Heap.get?_push_size _ rfl, rfl⟩, F.slot_dict_itemiterator_next.lookup, ?_⟩) (by simp only [sizeOk, Builtin.Dict_items.ownedTupleFields, List.size_toArray, List.length_append, List.length_cons, List.length_nil, sizeLine_eq]; omega); simpa [rawInt, e3, Builtin.Dict_items.ownedTupleFields] using q
theorem its_next {en : DictEntry} {ok ov : Value} {Q : Option Value → Shared → Prop} (hit : IsItemIter s.heap it d i n ep ok ov) (e1 : s.heap.get? d = some od) (e2 : od.data = .dict es ep) (e3 : es.size = n) (e4 : es[i]? = some en)
    (q : ∀ h', IsItemIterOut h' it d (i + 1) n ep en.key en.val s.heap.objs.size → h'.get? s.heap.objs.size = some { cls := .type "tuple", data := .seq #[en.key, en.val] } → (∀ b o, b ≠ it → s.heap.get? b = some o → h'.get? b = some o) → Q (some (.ref s.heap.objs.size)) { s with heap := h' }) : wpAny (model prog w) A (pyNext (.ref it)) Q E s := by
  obtain ⟨hq0, gn, dw, tkk, ost⟩ := s
  obtain ⟨lt, eg⟩ := Array.getElem?_eq_some_iff.mp e4
  have tyi : Shared.TypeIs ⟨hq0, gn, dw, tkk, ost⟩ (.ref it) "dict_itemiterator" := ⟨_, hit, rfl⟩
  unfold pyNext; refine wpAny_bind (wpAny_attempt (wpAny_callSpecial?_slot (name := Str.ofString "__next__") tyi F.slot_dict_itemiterator_next (wpAny_call_entry F.slot_dict_itemiterator_next tyi F.entry_dict_itemiterator_next ?_ (F.args_dict_itemiterator_next_1 _))))
  refine wpAny_bind (wpAny_pure (wpAny_bind (wpAny_bind ?_)))
  first | refine wpAny_bind (wpAny_typeNameOfWhole_itemiter tyi (wpAny_pure (wpAny_bind (wpAny_fieldsOf hit rfl ?_)))) | refine wpAny_bind (wpAny_typeNameOf_itemiter tyi (wpAny_pure (wpAny_bind (wpAny_fieldsOf hit rfl ?_))))
  simp only [show Builtin.Dict_items.ownsTuple "dict_itemiterator" = true by decide, if_true]
  show wpAny _ _ (if (Value.ref d == Value.none) = true then _ else _) _ _ _; rw [if_neg (show ¬ ((Value.ref d == Value.none) = true) by exact Bool.false_ne_true)]
  refine wpAny_bind (wpAny_pure (wpAny_bind (wpAny_dictEntries e1 e2 ?_)))
  rw [if_neg (by rw [e3]; simp)]; refine wpAny_bind (wpAny_pure (wpAny_bind (wpAny_dictEpoch e1 e2 ?_)))
  rw [if_neg (by simp)]; refine wpAny_pure ?_
  simp only [show ¬ ((i : Int) < 0) by omega, if_false, Int.toNat_natCast, e4]
  refine wpAny_bind ?_
  first | refine wpAny_bind (wpAny_typeNameOfWhole_itemiter tyi (wpAny_pure (wpAny_bind (wpAny_isOneOf_itemiter tyi ?_)))) | refine wpAny_bind (wpAny_typeNameOf_itemiter tyi (wpAny_pure (wpAny_bind (wpAny_isOneOf_itemiter tyi ?_))))
  show wpAny _ _ (setField (.ref it) 3 (rawInt ((i : Int) + 1)) >>= _) _ _ ⟨hq0, gn, dw, tkk, ost⟩; refine wpAny_bind (wpAny_setField_rec hit (by simp) fun ga0 gea0 gsa0 => ?_)
  replace gsa0 : Heap.SameBut it hq0 ga0 := gsa0
  replace gea0 : IsItemIter ga0 it d (i + 1) n ep ok ov := by
    have ei : ((i + 1 : Nat) : Int) = (i : Int) + 1 := by omega
    unfold IsItemIter; rw [ei]; simpa [rawInt] using gea0
  have gTa0 : Shared.TypeIs ⟨ga0, gn, dw, tkk, ost⟩ (.ref it) "dict_itemiterator" := ⟨_, gea0, rfl⟩
  refine wpAny_bind (wpAny_holding (wpAny_bind (wpAny_isOneOf_itemiter gTa0 (wpAny_bind (wpAny_isOneOf_itemiter gTa0 ?_)))))
  show wpAny _ _ (Builtin.Dict_items.pairFromOwner (.ref it) 6 en.key en.val) _ _ ⟨ga0, gn, dw, tkk, ost⟩; unfold Builtin.Dict_items.pairFromOwner
  refine wpAny_bind (wpAny_newTuple (?_))
  have geb0 : IsItemIter (ga0.push { cls := .type "tuple", data := .seq #[en.key, en.val] }) it d (i + 1) n ep ok ov := Heap.get?_push_of_some _ gea0
  generalize ggb0 : ga0.push { cls := .type "tuple", data := .seq #[en.key, en.val] } = gb0 at geb0
  have gza0 : ga0.objs.size = hq0.objs.size := gsa0.1
  have nil' : hq0.objs.size ≠ it := Nat.ne_of_gt (Heap.lt_size hit)
  have gtb0 : gb0.get? hq0.objs.size = some { cls := .type "tuple", data := .seq #[en.key, en.val] } := by rw [← ggb0, ← gza0]; exact Heap.get?_push_size _ rfl
  have gkb0 : ∀ b o, b ≠ it → hq0.get? b = some o → gb0.get? b = some o := fun b o hb e => by rw [← ggb0]; exact Heap.get?_push_of_some _ (gsa0.extBut b o hb e)
  show wpAny _ _ (Builtin.Dict_items.ownedTupleIsFree (.ref it) >>= _) _ _ ⟨gb0, gn, dw, tkk, ost⟩; rw [gza0]
  refine wpAny_bind ?_; unfold Builtin.Dict_items.ownedTupleIsFree
  refine wpAny_bind (wpAny_field geb0 rfl (x := .none) rfl (wpAny_pure ?_)); simp only [if_true]
  refine wpAny_bind (wpAny_field geb0 rfl (x := ok) rfl (wpAny_bind (wpAny_field geb0 rfl (x := ov) rfl (wpAny_bind (wpAny_setField_rec geb0 (by simp) fun gc0 gec0 gsc0 => ?_)))))
  replace gsc0 : Heap.SameBut it gb0 gc0 := gsc0
  replace gec0 : IsItemIter gc0 it d (i + 1) n ep en.key ov := gec0
  refine wpAny_bind (wpAny_setField_rec gec0 (by simp) fun gd0 ged0 gsd0 => wpAny_bind (wpAny_setField_rec ged0 (by simp) fun ge0 gee0 gse0 => ?_))
  replace gsd0 : Heap.SameBut it gc0 gd0 := gsd0
  replace gse0 : Heap.SameBut it gd0 ge0 := gse0
  replace gee0 : IsItemIterOut ge0 it d (i + 1) n ep en.key en.val hq0.objs.size := gee0
  refine wpAny_bind (wpAny_setField_rec gee0 (by simp) fun gf0 gef0 gsf0 => ?_)
  replace gsf0 : Heap.SameBut it ge0 gf0 := gsf0
  replace gef0 : IsItemIterOut gf0 it d (i + 1) n ep en.key en.val hq0.objs.size := gef0
  have kk : ∀ b o, b ≠ it → gb0.get? b = some o → gf0.get? b = some o := fun b o hb e => gsf0.extBut b o hb (gse0.extBut b o hb (gsd0.extBut b o hb (gsc0.extBut b o hb e)))
  exact wpAny_bind (wpAny_letGo (wpAny_pure (wpAny_pure ⟨_, rfl, wpAny_pure (q gf0 gef0 (kk _ _ nil' gtb0) fun b o hb e => kk b o hb (gkb0 b o hb e))⟩)))
theorem its_end {ok ov : Value} {Q : Option Value → Shared → Prop} (calm : A.handled = none) (hit : IsItemIter s.heap it d i n ep ok ov) (e1 : s.heap.get? d = some od) (e2 : od.data = .dict es ep) (e3 : es.size = n) (e4 : n ≤ i)
    (q : ∀ h', Heap.ExtBut it s.heap h' → Q none { s with heap := h' }) : wpAny (model prog w) A (pyNext (.ref it)) Q E s := by
  have tyi : s.TypeIs (.ref it) "dict_itemiterator" := ⟨_, hit, rfl⟩
  unfold pyNext; refine wpAny_bind (wpAny_attempt (wpAny_callSpecial?_slot (name := Str.ofString "__next__") tyi F.slot_dict_itemiterator_next (wpAny_call_entry F.slot_dict_itemiterator_next tyi F.entry_dict_itemiterator_next ?_ (F.args_dict_itemiterator_next_1 _))))
  refine wpAny_bind (wpAny_pure (wpAny_bind (wpAny_bind ?_)))
  first | refine wpAny_bind (wpAny_typeNameOfWhole_itemiter tyi (wpAny_pure (wpAny_bind (wpAny_fieldsOf hit rfl ?_)))) | refine wpAny_bind (wpAny_typeNameOf_itemiter tyi (wpAny_pure (wpAny_bind (wpAny_fieldsOf hit rfl ?_))))
  simp only [show Builtin.Dict_items.ownsTuple "dict_itemiterator" = true by decide, if_true]
  show wpAny _ _ (if (Value.ref d == Value.none) = true then _ else _) _ _ s; rw [if_neg (show ¬ ((Value.ref d == Value.none) = true) by exact Bool.false_ne_true)]
  refine wpAny_bind (wpAny_pure (wpAny_bind (wpAny_dictEntries e1 e2 ?_)))
  rw [if_neg (by rw [e3]; simp)]; refine wpAny_bind (wpAny_pure (wpAny_bind (wpAny_dictEpoch e1 e2 ?_)))
  rw [if_neg (by simp)]; refine wpAny_pure ?_
  simp only [show ¬ ((i : Int) < 0) by omega, if_false, Int.toNat_natCast, Array.getElem?_eq_none (show es.size ≤ i by omega)]
  refine wpAny_bind ?_
  first | refine wpAny_bind (wpAny_typeNameOfWhole_itemiter tyi (wpAny_pure ?_)) | refine wpAny_bind (wpAny_typeNameOf_itemiter tyi (wpAny_pure ?_))
  show wpAny _ _ (setField (.ref it) 2 .none >>= _) _ _ s; refine wpAny_bind (wpAny_setField hit rfl (by simp) ?_)
  show wpAny _ _ (newExc (.type "StopIteration") [] >>= _) _ _ _; refine wpAny_bind ?_
  simp only [newExc, newTuple]; refine wpAny_bind (wpAny_newObj_type ?_ (by size_fits))
  refine wpAny_bind (m := firstArgMember _ _) (wpAny_of_eq (a := Value.none) (by first | (simp only [firstArgMember]; rfl) | rfl) ?_)
  refine wpAny_newObj_type ?_ (by size_fits); simp only [raiseNew]
  refine wpAny_bind (wpAny_handled ?_); rw [show A.in1.handled = none from calm]
  refine wpAny_bind (wpAny_pure (wpAny_throw ?_)); refine wpAny_bind (wpAny_isInstance (T := "StopIteration") (b := true) ⟨_, Heap.get?_push_size _ rfl, rfl⟩ isSubtype_stop (wpAny_pure ?_))
  exact q _ (((Heap.SameBut.update ..).extBut.push _).push _)
end
/-- the pairs of a dict that is held still -/
def Itits (d : Addr) (o : Obj) (kvs : List (List Key × V)) : It :=
  ⟨fun i H => H d = some (.frz o (.dT kvs)) ∧ i < kvs.length, fun i H x H' => ∃ k v ka p, kvs[i]? = some (k, v) ∧ H ka = some (.tup (k.map kV)) ∧ H p = none ∧ H' = upd H p (.tup [.ref ka, v]) ∧ x = .ref p, fun i H => H d = some (.frz o (.dT kvs)) ∧ kvs.length ≤ i⟩
theorem still_key {X : Cx} {pins : List (Addr × Obj)} {σ : St} {H : Hp} {s : Shared} {d : Addr} {o : Obj} {kvs : List (List Key × V)} (I : Inv X pins σ H s) (e : H d = some (.frz o (.dT kvs))) {es : Array DictEntry} {ep : Nat} (eo : o.data = .dict es ep) :
    ∀ (i : Nat) (k : List Key) (x : V), kvs[i]? = some (k, x) → ∃ (en : DictEntry) (ka : Addr), es[i]? = some en ∧ RelV x en.val ∧ en.key = .ref ka ∧ H ka = some (.tup (k.map kV)) := by
  obtain ⟨e1, z, hd, xs, rel, o', es', ep', h1, h2, h3, h4, h5⟩ := (show ObjOk X.prog X.w H s.heap d (.frz o (.dT kvs)) from I.hok d _ e)
  rw [e1] at h1
  cases h1
  rw [eo] at h3
  cases h3
  intro i k x hx
  obtain ⟨y, hy, ry⟩ := paired_get rel hx
  exact ⟨_, y.2.1, by rw [entry_at h4 i, hy]; rfl, ry.2.2, rfl, ry.2.1⟩
theorem turn_items {P : Program} {w : World} {K : PySem.W.Frag} {els : List Expr} {kk : Nat} {tp : Pos} (d it : Addr) (o : Obj) (kvs : List (List Key × V)) {es : Array DictEntry} {ep : Nat} (eo : o.data = .dict es ep) :
    Turn P w K (.Tuple els kk tp) (Itits d o kvs) [it] it (fun i h => ∃ ok ov, IsItemIter h it d i kvs.length ep ok ov) where
  mem := by simp
  obj := fun i h st b hb => by
    obtain rfl : b = it := by simpa using hb
    obtain ⟨ok, ov, st⟩ := st
    exact ⟨_, st, fun v q => by have q' : Data.fields _ = Data.cell v := q; cases q'⟩
  keep := fun i h h' st k => by
    obtain ⟨ok, ov, st⟩ := st
    exact ⟨ok, ov, k it (by simp) _ st⟩
  item := by
    intro X hP hw hK hc i pins s σ H E I hf st hg
    subst hP hw hK
    obtain ⟨he, hi⟩ := hg
    obtain ⟨ok, ov, st⟩ := st
    obtain ⟨e1, e3, _⟩ := still_at I he eo
    obtain ⟨en, ka, e4, ry, ek, hka⟩ := still_key I he eo i kvs[i].1 kvs[i].2 (List.getElem?_eq_getElem hi)
    refine its_next st e1 eo e3 e4 fun h' out hnew keep => ⟨_, rfl, ?_⟩
    refine wpAny_letOwnedTupleGo_items (s := { s with heap := h' }) out fun h'' y1 sb => ?_
    have nz : s.heap.objs.size ≠ it := Nat.ne_of_gt (Heap.lt_size st)
    have hnew2 := sb.extBut _ _ nz hnew
    have kk : ∀ c u, c ∉ [it] → s.heap.get? c = some u → h''.get? c = some u := fun c u hc e => by
      have hc' : c ≠ it := by simpa using hc
      exact sb.extBut _ _ hc' (keep c u hc' e)
    have I1 : Inv X pins σ (upd H s.heap.objs.size (.tup [.ref ka, kvs[i].2])) { s with heap := h'', toks := s.toks } := I.turnLaid hf kk (Nat.le_refl _) ⟨by show 2 ≤ sizeLine; decide, [en.key, en.val], .cons ek (.cons ry .nil), ⟨_, hnew2, rfl, _, rfl⟩⟩
    refine ⟨.ref s.heap.objs.size, _, I1, rfl, ⟨kvs[i].1, kvs[i].2, ka, s.heap.objs.size, List.getElem?_eq_getElem hi, hka, I.hok.fresh (Nat.le_refl _), rfl, rfl⟩, ⟨_, _, y1⟩, fun c hc => ?_⟩
    obtain rfl : c = it := by simpa using hc
    rw [upd_ne (Ne.symm nz)]
    exact (hf _ hc).1
  done := by
    intro X hP hw hK hc i pins s σ H E I hf st hg
    subst hP hw hK
    obtain ⟨he, hi⟩ := hg
    obtain ⟨ok, ov, st⟩ := st
    obtain ⟨e1, e3, _⟩ := still_at I he eo
    obtain ⟨f0, f1, f2, f3, f4, f5⟩ := hf it (by simp)
    exact its_end (I.ok.hd hc) st e1 eo e3 hi fun h' eb => ⟨rfl, I.turned (t' := s.toks) (fun b ob hb e => eb b ob hb e) f0 f1 f3 f4 f5⟩
  self := fun _ _ _ _ _ st h => by
    obtain ⟨ok, ov, st⟩ := st
    exact PySem.W.kcp_self st h
def iItems (te : TE) : TI := fun σ H R => te σ H fun x H1 => ∃ a kvs, x = .ref a ∧ H1 a = some (.dT kvs) ∧ ∀ o, R (Itits a o kvs) (upd H1 a (.frz o (.dT kvs)))
theorem pi_items {X : Cx} {els : List Expr} {kk : Nat} {tp : Pos} {e : Expr} {te : TE} {apos cpos : Pos} (he : PE X e te) (hbase : attributeBase e "items" X.env (eval e X.env) = eval e X.env := by rfl) (hline : (apos.endLine == cpos.line) = true := by rfl) :
    PI X (.Tuple els kk tp) (.Call (.Attribute e "items" apos) [] [] cpos) (iItems te) := by
  intro pins s σ H R I h
  refine wpAny_Call_method0_late hbase hline (thn (he pins s σ H _ I h) fun v s1 ⟨x, H1, I1, rx, a, kvs, ex, ha, q⟩ => ?_)
  subst ex
  obtain rfl : v = Value.ref a := rx
  obtain ⟨t1, t2⟩ := tyV_is (x := .ref a) (v := .ref a) (T := "dict") I1 rfl (.inr (.inr (.inl ⟨rfl, .inr ⟨kvs, ha⟩⟩)))
  obtain ⟨z, hd, xs, rel, ob, es, ep, h1, h2, h3, h4, h5⟩ := (show ObjOk X.prog X.w H1 s1.heap a (.dT kvs) from I1.hok a _ ha)
  refine ⟨"dict", "dict.items", PySem.F.plainAttrs_dict, PySem.F.slot_dict_items, PySem.F.type_dict_items, t1, t2, Calls.callWith_builtin rfl (PySem.evalArgs_none ?_)⟩
  refine call_meetsIn PySem.F.slot_dict_items t1 PySem.F.entry_dict_items (PySem.F.args_dict_items_1 _) (its_meets a hd) ⟨t1, ?_⟩
  obtain ⟨ob', h1', I2⟩ := I1.still ha
  rw [h1] at h1'
  cases h1'
  have I3 := I2.kept (h' := s1.heap.push { cls := .type "dict_items", data := .fields #[.ref a] }) (t' := s1.toks) fun b o e => Heap.get?_push_of_some _ e
  refine its_iter (d := a) (n := kvs.length) ⟨_, Heap.get?_push_size _ rfl, rfl, rfl⟩ (Heap.get?_push_of_some _ h1) h3 (by rw [size_of_entries h4, Paired.length rel]) ?_
  refine ⟨_, [_], _, Itits a ob kvs, _, rfl, I3.kept (t' := s1.toks) fun b o e => Heap.get?_push_of_some _ e, turn_items a _ ob kvs h3, ⟨_, _, Heap.get?_push_size _ rfl⟩, fun b hb => ?_, q ob⟩
  have eb := List.mem_singleton.mp hb
  subst eb
  exact I3.fpOk (Nat.le_refl _) (I3.hok.fresh (Nat.le_refl _))
theorem for_items {a : Addr} {o : Obj} {kvs : List (List Key × V)} {g : TG} {tb : TS} {D : Ends} {σ : St} {H : Hp} (Pv : Nat → St → Hp → Prop) (h0 : Pv 0 σ H) (hl : ∀ i σ H, i ≤ kvs.length → Pv i σ H → H a = some (.frz o (.dT kvs)))
    (hs : ∀ i k x ka p σ H, kvs[i]? = some (k, x) → H ka = some (.tup (k.map kV)) → H p = none → Pv i σ H → g (.ref p) σ (upd H p (.tup [.ref ka, x])) fun σ2 H2 => tb { D with nx := Pv (i + 1), ct := Pv (i + 1), bk := D.nx } σ2 H2) (hd : ∀ σ H, Pv kvs.length σ H → D.nx σ H) :
    ∃ W : Nat → Nat → St → Hp → Prop, (∃ m, W 0 m σ H) ∧ ∀ i m σ H, W i m σ H →
      ((Itits a o kvs).stop i H ∧ D.nx σ H) ∨ ((Itits a o kvs).go i H ∧ ∃ N : St → Hp → Prop, (∀ σ' H', N σ' H' → ∃ m', m' < m ∧ W (i + 1) m' σ' H') ∧ ∀ x H', (Itits a o kvs).yld i H x H' → g x σ H' fun σ2 H2 => tb { D with nx := N, ct := N, bk := D.nx } σ2 H2) := by
  refine ⟨fun i m σ H => m = kvs.length - i ∧ i ≤ kvs.length ∧ Pv i σ H, ⟨kvs.length, by simp, Nat.zero_le _, h0⟩, ?_⟩
  rintro i m σ H ⟨rfl, hi, p⟩
  have q := hl i σ H hi p
  by_cases hlt : i < kvs.length
  · refine .inr ⟨⟨q, hlt⟩, Pv (i + 1), fun σ' H' p' => ⟨kvs.length - (i + 1), by omega, rfl, hlt, p'⟩, fun x H' y => ?_⟩
    obtain ⟨k, v, ka, pp, ek, hka, hpp, e1, e2⟩ := y
    subst e1 e2
    exact hs i k v ka pp σ H ek hka hpp p
  · have e : i = kvs.length := by omega
    subst e
    exact .inl ⟨⟨q, Nat.le_refl _⟩, hd σ H p⟩
end L2

namespace L2
open PySem PySem.Spec PyProof.Rows
/-! ### min(xs, key=len, default=d) of a list of lists -/
section
variable {s : Shared} {prog : Program} {w : World} {A : Around} {E : Value → Shared → Prop}
def Grown (h0 h : Heap) : Prop := ∀ b o, h0.get? b = some o → h.get? b = some o
theorem Grown.but {h0 h h' : Heap} {a : Addr} (g : Grown h0 h) (n : h0.get? a = none) (k : ∀ b o, b ≠ a → h.get? b = some o → h'.get? b = some o) : Grown h0 h' := fun b o e => k b o (fun z => by rw [z, n] at e; cases e) (g b o e)
end
theorem refs_are : ∀ {cs : List Addr} {us : List Value}, Vals (cs.map V.ref) us → us = cs.map Value.ref
  | [], _, h => by cases h; rfl
  | c :: cs, _, h => by
    cases h with
    | cons r t => cases r; rw [refs_are t]; rfl
end L2

namespace L2
open PySem PySem.Spec PyProof.Rows
/-! ### < of lists of numbers, and of pairs of a number and such a list -/
def ltL : List Int → List Int → Bool
  | [], [] => false
  | [], _ :: _ => true
  | _ :: _, [] => false
  | x :: xs, y :: ys => if x = y then ltL xs ys else decide (x < y)
theorem ltL_nil_left : ∀ ys : List Int, ltL [] ys = decide (0 < ys.length)
  | [] => rfl
  | _ :: _ => by simp [ltL]
theorem ltL_nil_right : ∀ xs : List Int, ltL xs [] = false
  | [] => rfl
  | _ :: _ => rfl
section
open SeqAt MeetsSeq MeetsSeq2 MeetsSeq3 SeqRoads2
open AutoSeq1 (wpAny_loadPart')
def LtAt (A : Around) (s : Shared) (y x : Value) (b : Bool) : Prop := ∀ (prog : Program) (w : World) (E : Value → Shared → Prop) (Q : Value → Shared → Prop), Q (.bool b) s → wpAny (model prog w) A (richCompare .Lt y x) Q E s
theorem LtAt.ints {A : Around} {s : Shared} {i j : Int} {t u : Tok} : LtAt A s (.int i t) (.int j u) (decide (i < j)) := fun prog w E Q h =>
  richCompare_gives (op := .Lt) (typeIs_int s _ t) (typeIs_int s _ u) F.slot_int_lt F.entry_int_lt (F.args_int_lt_2 _ _) (gives_int_lt _ _ t u) (fun x => nomatch x) h
/-- items that are these numbers -/
def Nums (xs : List Int) (items : Array Value) : Prop := items.size = xs.length ∧ ∀ (j : Nat) (h : j < items.size), ∃ (x : Int) (t : Tok), xs[j]? = some x ∧ items[j] = .int x t
theorem eqI {A : Around} {s : Shared} {i j : Int} {t u : Tok} : EqAt A s (.int i t) (.int j u) (decide (i = j)) := by
  have := eqAt_V (A := A) (s := s) (y := .int i) (x := .int j) (u := .int i t) (v := .int j u) ⟨t, rfl⟩ ⟨u, rfl⟩ rfl rfl
  have e : eqV (.int i) (.int j) = decide (i = j) := by show (i == j) = _; by_cases h : i = j <;> simp [h]
  rw [e] at this
  exact this
theorem lt_loop {l b : Addr} {items items2 : Array Value} {n n2 : Nat} {dd dd2 : Option Addr} {sl sl2 : Array (Option Value)} {xs ys : List Int} (N1 : Nums xs items) (N2 : Nums ys items2) (k : Nat) :
    ∀ i : Nat, items.size - i = k → i ≤ items.size → i ≤ items2.size → Meets (Builtin.«list.__eq__.loop» ⟨[.ref l, .ref b, rawInt i, rawInt 0], []⟩)
      (fun A R s => s.heap.get? l = some { cls := .type "list", dict := dd, data := .seq items n, slots := sl } ∧ s.heap.get? b = some { cls := .type "list", dict := dd2, data := .seq items2 n2, slots := sl2 } ∧ R (.ok (.ret (.bool (ltL (xs.drop i) (ys.drop i))))) s) := by
  induction k with
  | zero =>
    intro i hk hle hle2 prog w A R s h
    obtain ⟨hp, g, d, tk, os⟩ := s; obtain ⟨hl, hb, h⟩ := h
    wp_walk using wpAny_loadPart' hl, wpAny_loadPart' hb
    have none1 : items[((i : Nat) : Int).toNat]? = none := by simp; omega
    have e1 : xs.drop i = [] := List.drop_eq_nil_of_le (by rw [← N1.1]; omega)
    rw [e1, ltL_nil_left, List.length_drop, ← N2.1] at h
    rw [none1]
    wp_walk using wpAny_loadPart' hl, wpAny_loadPart' hb
    have e2 : decide (items.size < items2.size) = decide (0 < items2.size - i) := decide_eq_decide.mpr (by omega)
    show R (.ok (.ret (.bool (decide (items.size < items2.size))))) _
    rw [e2]
    exact h
  | succ k ih =>
    intro i hk hle hle2 prog w A R s h
    obtain ⟨hp, g, d, tk, os⟩ := s; obtain ⟨hl, hb, h⟩ := h
    have lt1 : i < items.size := by omega
    by_cases lt2 : i < items2.size
    · obtain ⟨x, t, hx, ex⟩ := N1.2 i lt1
      obtain ⟨y, u, hy, ey⟩ := N2.2 i lt2
      have dx : xs.drop i = x :: xs.drop (i + 1) := by
        obtain ⟨q1, q2⟩ := List.getElem?_eq_some_iff.mp hx
        rw [List.drop_eq_getElem_cons q1, q2]
      have dy : ys.drop i = y :: ys.drop (i + 1) := by
        obtain ⟨q1, q2⟩ := List.getElem?_eq_some_iff.mp hy
        rw [List.drop_eq_getElem_cons q1, q2]
      wp_walk using wpAny_loadPart' hl, wpAny_loadPart' hb
      have at1 : items[((i : Nat) : Int).toNat]? = some (.int x t) := by simp [lt1, ex]
      have at2 : items2[((i : Nat) : Int).toNat]? = some (.int y u) := by simp [lt2, ey]
      have hc : ((i : Int) + 1) = ((i + 1 : Nat) : Int) := by push_cast; rfl
      rw [dx, dy] at h
      simp only [ltL] at h
      rw [at1, at2]
      refine wpAny_bind (eqI prog w _ _ ?_)
      by_cases exy : x = y
      · rw [if_pos exy] at h
        rw [decide_eq_true exy]
        wp_walk
        rw [hc]
        exact ⟨plainId_quiet plain_eq_loop _, codeAny_builtin entry_eq_loop (by
          rw [Around.under_plainId plain_eq_loop _]
          exact ih (i + 1) (by omega) (by omega) (by omega) prog w A R _ ⟨hl, hb, h⟩)⟩
      · rw [if_neg exy] at h
        rw [decide_eq_false exy]
        wp_walk using wpAny_loadPart' hl, wpAny_loadPart' hb
        rw [at1, at2]
        refine wpAny_bind (LtAt.ints prog w _ _ ?_)
        wp_walk
        exact h
    · wp_walk using wpAny_loadPart' hl, wpAny_loadPart' hb
      obtain ⟨x, t, hx, ex⟩ := N1.2 i lt1
      have at1 : items[((i : Nat) : Int).toNat]? = some (.int x t) := by simp [lt1, ex]
      have none2 : items2[((i : Nat) : Int).toNat]? = none := by simp; omega
      have e1 : ys.drop i = [] := List.drop_eq_nil_of_le (by rw [← N2.1]; omega)
      rw [e1, ltL_nil_right] at h
      rw [at1, none2]
      wp_walk using wpAny_loadPart' hl, wpAny_loadPart' hb
      have e2 : decide (items.size < items2.size) = false := decide_eq_false (by omega)
      show R (.ok (.ret (.bool (decide (items.size < items2.size))))) _
      rw [e2]
      exact h
theorem list_lt {l b : Addr} {items items2 : Array Value} {n n2 : Nat} {dd dd2 : Option Addr} {sl sl2 : Array (Option Value)} {xs ys : List Int} (N1 : Nums xs items) (N2 : Nums ys items2) : Meets (Builtin.«list.__lt__» ⟨[.ref l, .ref b], []⟩)
    (fun A R s => s.heap.get? l = some { cls := .type "list", dict := dd, data := .seq items n, slots := sl } ∧ s.heap.get? b = some { cls := .type "list", dict := dd2, data := .seq items2 n2, slots := sl2 } ∧ R (.ok (.ret (.bool (ltL xs ys)))) s) := by
  intro prog w A R s h
  obtain ⟨hp, g, d, tk, os⟩ := s; obtain ⟨hl, hb, h⟩ := h
  have sub := AutoSeq1.sub_list_list
  wp_walk using wpAny_loadPart' hl, wpAny_loadPart' hb
  exact ⟨plainId_quiet plain_eq_loop _, codeAny_builtin entry_eq_loop (by
    rw [Around.under_plainId plain_eq_loop _]
    exact lt_loop N1 N2 _ 0 rfl (Nat.zero_le _) (Nat.zero_le _) prog w A R _ ⟨hl, hb, by simpa using h⟩)⟩
theorem LtAt.lists {A : Around} {s : Shared} {l b : Addr} {items items2 : Array Value} {xs ys : List Int} (hl : s.heap.IsList l items) (hb : s.heap.IsList b items2) (N1 : Nums xs items) (N2 : Nums ys items2) (hu : A.units < cLine) : LtAt A s (.ref l) (.ref b) (ltL xs ys) := fun prog w E Q h => by
  obtain ⟨⟨cls, dd, data, sl⟩, ho, hc, n, hd⟩ := id hl
  obtain ⟨⟨cls2, dd2, data2, sl2⟩, ho2, hc2, n2, hd2⟩ := id hb
  simp only at hc hd hc2 hd2; subst hc hd hc2 hd2
  exact richCompare_meets_room (op := .Lt) ⟨_, ho, rfl⟩ ⟨_, ho2, rfl⟩ F.slot_list_lt F.entry_list_lt (F.args_list_lt_2 _ _) (list_lt N1 N2) ⟨ho, ho2, show Value.bool (ltL xs ys) ≠ Value.notImplemented ∧ Q (.bool (ltL xs ys)) s from ⟨(fun x => nomatch x), h⟩⟩ hu
/-- a pair of a number and a list of numbers, ahead of another one -/
def ltP (a b : Int) (xs ys : List Int) : Bool := if a = b then ltL xs ys else decide (a < b)
theorem ltL_self : ∀ xs : List Int, ltL xs xs = false
  | [] => rfl
  | x :: xs => by simp only [ltL, if_true]; exact ltL_self xs
theorem nums_of {xs : List Int} {its : List Value} (r : Vals (xs.map V.int) its) : Nums xs its.toArray := by
  have hl := r.length
  rw [List.length_map] at hl
  refine ⟨by rw [List.size_toArray]; omega, fun j h => ?_⟩
  have hj : j < xs.length := by rw [List.size_toArray] at h; omega
  obtain ⟨u, hu, ru⟩ := r.get (show (xs.map V.int)[j]? = some (V.int xs[j]) by simp [hj])
  obtain ⟨t, rfl⟩ := ru
  refine ⟨xs[j], t, List.getElem?_eq_getElem hj, ?_⟩
  have h2 := (List.getElem?_eq_some_iff.mp hu).2
  simpa using h2
end
end L2

namespace L2
open PySem PySem.Spec PyProof.Rows
/-! ### short forms, so that the terms stay small -/
theorem us1 {C : List Value → Prop} (h : ∀ a, C [a]) : ∀ us : List Value, us.length = 1 → C us
  | [a], _ => h a
theorem us2 {C : List Value → Prop} (h : ∀ a b, C [a, b]) : ∀ us : List Value, us.length = 2 → C us
  | [a, b], _ => h a b
theorem us3 {C : List Value → Prop} (h : ∀ a b c, C [a, b, c]) : ∀ us : List Value, us.length = 3 → C us
  | [a, b, c], _ => h a b c
theorem us4 {C : List Value → Prop} (h : ∀ a b c d, C [a, b, c, d]) : ∀ us : List Value, us.length = 4 → C us
  | [a, b, c, d], _ => h a b c d
theorem for_listA {K : PySem.W.Frag} {a : Addr} {xs : List V} {g : TG} {tb : TS} {D : Ends} {σ : St} {H : Hp} (Pv : Nat → St → Hp → Prop) (h0 : Pv 0 σ H) (hl : ∀ i σ H, i ≤ xs.length → Pv i σ H → SqL K H a xs)
    (hs : ∀ (D2 : Ends) i x σ H, (∀ σ' H', Pv (i + 1) σ' H' → D2.nx σ' H') → xs[i]? = some x → Pv i σ H → g x σ H fun σ2 H2 => tb D2 σ2 H2) (hd : ∀ σ H, Pv xs.length σ H → D.nx σ H) : FW (Itl K a) g tb D σ H :=
  for_list Pv h0 hl (fun i x σ H hx p => hs _ i x σ H (fun _ _ h => h) hx p) hd
end L2

namespace L2
open PySem PySem.Spec PyProof.Rows
/-! ### walking a text; list(range(0, b, c)) -/
section
variable {X : Cx} {tg : Expr}
end
section
variable {X : Cx} {a b c : Expr} {ta : TA} {p p2 pos pos2 : Pos}
end
theorem op_isNot {X : Cx} : OpR X (compareOp .IsNot) (fun x y H Q => ∃ a b : Bool, x = .bl a ∧ y = .bl b ∧ Q (.bl (!decide (a = b))) H) := by
  intro pins s σ H x y v u Q I rx ry h
  obtain ⟨a, b, rfl, rfl, q⟩ := h
  cases rx
  cases ry
  cases a <;> cases b <;> first | exact wpAny_pure ⟨.bl false, H, I, rfl, q⟩ | exact wpAny_pure ⟨.bl true, H, I, rfl, q⟩
end L2

namespace L2
open PySem PySem.Spec PyProof.Rows
/-! ### min of a list of triples (number, number, number or list of numbers) -/
theorem ltL_trans : ∀ {xs ys zs : List Int}, ltL xs ys = true → ltL ys zs = true → ltL xs zs = true
  | [], [], _, h, _ => by simp [ltL] at h
  | [], _ :: _, [], _, h => by simp [ltL] at h
  | [], _ :: _, _ :: _, _, _ => (rfl : true = true)
  | _ :: _, [], _, h, _ => by simp [ltL] at h
  | _ :: _, _ :: _, [], _, h => by simp [ltL] at h
  | x :: xs, y :: ys, z :: zs, h1, h2 => by
    simp only [ltL] at h1 h2 ⊢
    by_cases e1 : x = y
    · rw [if_pos e1] at h1
      by_cases e2 : y = z
      · rw [if_pos e2] at h2
        rw [if_pos (e1.trans e2)]
        exact ltL_trans h1 h2
      · rw [if_neg e2] at h2
        rw [if_neg (by rw [e1]; exact e2), e1]
        exact h2
    · rw [if_neg e1] at h1
      have l1 := of_decide_eq_true h1
      by_cases e2 : y = z
      · rw [if_neg (by rw [← e2]; exact e1), ← e2]
        exact h1
      · rw [if_neg e2] at h2
        have l2 := of_decide_eq_true h2
        rw [if_neg (by omega)]
        exact decide_eq_true (Int.lt_trans l1 l2)
abbrev K3 := Int × Int × List Int
def lt3 (x y : K3) : Bool := ltL (x.1 :: x.2.1 :: x.2.2) (y.1 :: y.2.1 :: y.2.2)
theorem lt3_irr (x : K3) : lt3 x x = false := ltL_self _
theorem lt3_trans {x y z : K3} (h1 : lt3 x y = true) (h2 : lt3 y z = true) : lt3 x z = true := ltL_trans h1 h2
section
variable {s : Shared} {prog : Program} {w : World} {A : Around} {E : Value → Shared → Prop}
theorem minT_loop {h0 : Heap} {l I S : Addr} {vs : List Value} {kw : List (Str × Value)} {lt : Nat → Nat → Bool} {R : Result → Shared → Prop} (hh : A.handled = none) (hl : h0.IsList l vs.toArray) (nI : h0.get? I = none) (nS : h0.get? S = none) (hSI : S ≠ I)
    (tr : ∀ a b c, lt a b = true → lt b c = true → lt a c = true) (irr : ∀ a, lt a a = false)
    (cmp : ∀ i j vi vj h tk, vs[i]? = some vi → vs[j]? = some vj → Grown h0 h → LtAt A.in1 { s with heap := h, toks := tk } vi vj (lt i j))
    (hR : ∀ i v h' tk', vs[i]? = some v → (∀ j, j < vs.length → lt j i = false) → Grown h0 h' → R (.ok (.ret v)) { s with heap := h', toks := tk' }) :
    ∀ (r j i : Nat) (h : Heap) (tk : Nat) (vb : Value) (c : Nat), vs.length - (j + 1) = r → j + 1 ≤ vs.length → Grown h0 h → h.get? S = some (seqObj "list" #[vb, vb] c) → h.IsListIter I l (j + 1) → vs[i]? = some vb → i ≤ j → (∀ j', j' ≤ j → lt j' i = false) →
      codeAny (model prog w) A (.builtin "min.loop" ⟨[.ref I, .none, .ref S], kw⟩) R { s with heap := h, toks := tk } := by
  have hnm : (toString "min" ++ toString ".loop" : String) = "min.loop" := by decide
  have lI : l ≠ I := fun z => by obtain ⟨o, e, _⟩ := id hl; rw [z, nI] at e; cases e
  have W := Walks.list (prog := prog) (w := w) (A := A.in1) hh I l lI vs.toArray
  have size : vs.toArray.size = vs.length := List.size_toArray ..
  intro r
  induction r with
  | zero =>
    intro j i h tk vb c er hj G hS hit hvb hij best
    refine codeAny_builtin PySem.F.entry_min_loop ?_; rw [Around.under_plainId PySem.F.plain_min_loop _]; show wpAny _ A.in1 (seqItems? (.ref S) >>= _) _ _ _
    refine wpAny_bind (wpAny_seqItems hS rfl ?_); show wpAny _ A.in1 (tryCatch (pyNext (.ref I)) _ >>= _) _ _ _
    refine wpAny_bind (wpAny_tryCatch (W.done _ _ _ ⟨by rw [size, show vs.length = j + 1 by omega]; exact hit, hl.at fun o e => G l o e⟩ fun h' tk' kp => ?_))
    have kp' : ∀ b o, b ≠ I → h.get? b = some o → h'.get? b = some o := fun b o hb e => kp b o (by simpa using hb) e
    have G1 := G.but nI kp'
    have sb := Heap.SameBut.update h' S (Obj.mapSeq fun _ => (#[] : Array Value))
    show wpAny _ A.in1 (updateSeq S (fun _ => #[]) >>= _) _ _ _; refine wpAny_bind ?_
    refine wpAny_updateSeq (kp' S _ hSI hS) rfl (wpAny_bind (wpAny_letGo (wpAny_pure ?_)))
    exact hR i vb _ _ hvb (fun j' hj' => best j' (by omega)) (G1.but nS fun b o hb e => (sb.2 b hb).trans e)
  | succ r ih =>
    intro j i h tk vb c er hj G hS hit hvb hij best
    have jlt : j + 1 < vs.length := by omega
    refine codeAny_builtin PySem.F.entry_min_loop ?_; rw [Around.under_plainId PySem.F.plain_min_loop _]; show wpAny _ A.in1 (seqItems? (.ref S) >>= _) _ _ _
    refine wpAny_bind (wpAny_seqItems hS rfl ?_); show wpAny _ A.in1 (tryCatch (pyNext (.ref I)) _ >>= _) _ _ _
    refine wpAny_bind (wpAny_tryCatch (W.item (j + 1) _ _ _ (by rw [size]; exact jlt) ⟨hit, hl.at fun o e => G l o e⟩ fun v h' tk' hP st' kp => ?_))
    have kp' : ∀ b o, b ≠ I → h.get? b = some o → h'.get? b = some o := fun b o hb e => kp b o (by simpa using hb) e
    have G1 := G.but nI kp'
    have hS1 := kp' S _ hSI hS
    have vat : vs[j + 1]? = some v := by simpa using hP
    show wpAny _ A.in1 (tryCatch (holding [v, v] (richCompare .Lt v vb >>= _)) _ >>= _) _ _ _; refine wpAny_bind (wpAny_tryCatch (wpAny_holding (wpAny_bind (cmp (j + 1) i v vb h' tk' vat hvb G1 prog w _ _ ?_))))
    refine wpAny_bind (wpAny_holding (wpAny_truthy_bool (wpAny_bind (wpAny_letGo (wpAny_pure ?_)))))
    cases less : lt (j + 1) i with
    | true =>
      simp only [if_true]
      refine wpAny_bind (wpAny_updateSeq hS1 rfl (wpAny_bind (wpAny_letGo ?_))); rw [hnm]
      have sb := Heap.SameBut.update h' S (Obj.mapSeq fun _ => #[v, v])
      refine wpAny_pure ⟨plainId_quiet PySem.F.plain_min_loop _, ih (j + 1) (j + 1) _ _ v _ (by omega) jlt (G1.but nS fun b o hb e => (sb.2 b hb).trans e) (get?_update_seq hS1 fun _ => #[v, v]) (st'.1.at fun o e => (sb.2 I hSI.symm).trans e) vat (Nat.le_refl _) fun j' hj' => ?_⟩
      by_cases e : j' = j + 1
      · subst e; exact irr _
      · refine Bool.eq_false_iff.mpr fun z => ?_
        have := tr _ _ _ z less
        rw [best j' (by omega)] at this
        cases this
    | false =>
      simp only [Bool.false_eq_true, if_false]; refine wpAny_bind (wpAny_letGo ?_); rw [hnm]
      refine wpAny_pure ⟨plainId_quiet PySem.F.plain_min_loop _, ih (j + 1) i _ _ vb c (by omega) jlt G1 hS1 st'.1 hvb (by omega) fun j' hj' => ?_⟩
      by_cases e : j' = j + 1
      · subst e; exact less
      · exact best j' (by omega)
theorem minT_go {l : Addr} {vs : List Value} {kw : List (Str × Value)} {lt : Nat → Nat → Bool} {R : Result → Shared → Prop} (hh : A.handled = none) (hl : s.heap.IsList l vs.toArray)
    (tr : ∀ a b c, lt a b = true → lt b c = true → lt a c = true) (irr : ∀ a, lt a a = false)
    (cmp : ∀ i j vi vj h tk, vs[i]? = some vi → vs[j]? = some vj → Grown s.heap h → LtAt A.in1 { s with heap := h, toks := tk } vi vj (lt i j))
    (q0 : vs = [] → ∃ d, kw = [(Str.ofString "default", d)] ∧ ∀ h' tk', Grown s.heap h' → R (.ok (.ret d)) { s with heap := h', toks := tk' })
    (q1 : ∀ i v h' tk', vs[i]? = some v → (∀ j, j < vs.length → lt j i = false) → Grown s.heap h' → R (.ok (.ret v)) { s with heap := h', toks := tk' }) (tk : Nat) :
    codeAny (model prog w) A (.builtin "min.loop" ⟨[.ref s.heap.objs.size, .none, .ref (s.heap.push { cls := .type "list_iterator", data := .fields #[.ref l, .int 0 0] }).objs.size], kw⟩) R { s with heap := (s.heap.push { cls := .type "list_iterator", data := .fields #[.ref l, .int 0 0] }).push (seqObj "list" #[] 0), toks := tk } := by
  have hnm : (toString "min" ++ toString ".loop" : String) = "min.loop" := by decide
  have size1 : (s.heap.push { cls := .type "list_iterator", data := .fields #[.ref l, .int 0 0] }).objs.size = s.heap.objs.size + 1 := Heap.size_push ..
  have nI : s.heap.get? s.heap.objs.size = none := Heap.get?_none_of_le (Nat.le_refl _)
  have nS : s.heap.get? (s.heap.push { cls := .type "list_iterator", data := .fields #[.ref l, .int 0 0] }).objs.size = none := Heap.get?_none_of_le (by rw [size1]; exact Nat.le_succ _)
  have SI : (s.heap.push { cls := .type "list_iterator", data := .fields #[.ref l, .int 0 0] }).objs.size ≠ s.heap.objs.size := by rw [size1]; exact Nat.succ_ne_self _
  have lI : l ≠ s.heap.objs.size := fun z => by obtain ⟨o, e, _⟩ := id hl; rw [z, nI] at e; cases e
  have G : Grown s.heap ((s.heap.push { cls := .type "list_iterator", data := .fields #[.ref l, .int 0 0] }).push (seqObj "list" #[] 0)) := fun b o e => Heap.get?_push_of_some _ (Heap.get?_push_of_some _ e)
  have gI : ((s.heap.push { cls := .type "list_iterator", data := .fields #[.ref l, .int 0 0] }).push (seqObj "list" #[] 0)).IsListIter s.heap.objs.size l 0 := ⟨_, Heap.get?_push_of_some _ (Heap.get?_push_size s.heap (o := { cls := .type "list_iterator", data := .fields #[.ref l, .int 0 0] }) rfl), rfl, rfl⟩
  have gSS : ((s.heap.push { cls := .type "list_iterator", data := .fields #[.ref l, .int 0 0] }).push (seqObj "list" #[] 0)).get? (s.heap.push { cls := .type "list_iterator", data := .fields #[.ref l, .int 0 0] }).objs.size = some (seqObj "list" #[] 0) := Heap.get?_push_size _ rfl
  generalize (s.heap.push { cls := .type "list_iterator", data := .fields #[.ref l, .int 0 0] }).objs.size = S at nS SI gSS ⊢
  generalize (s.heap.push { cls := .type "list_iterator", data := .fields #[.ref l, .int 0 0] }).push (seqObj "list" #[] 0) = hp at G gI gSS ⊢
  have W := Walks.list (prog := prog) (w := w) (A := A.in1) hh s.heap.objs.size l lI vs.toArray
  have size : vs.toArray.size = vs.length := List.size_toArray ..
  refine codeAny_builtin PySem.F.entry_min_loop ?_; rw [Around.under_plainId PySem.F.plain_min_loop _]; show wpAny _ A.in1 (seqItems? (.ref S) >>= _) _ _ _
  refine wpAny_bind (wpAny_seqItems gSS rfl ?_); show wpAny _ A.in1 (tryCatch (pyNext (.ref s.heap.objs.size)) _ >>= _) _ _ _
  by_cases hne : vs = []
  · refine wpAny_bind (wpAny_tryCatch (W.done _ _ _ ⟨by rw [size, hne]; exact gI, hl.at fun o e => G l o e⟩ fun h' tk' kp => ?_))
    have G1 := G.but nI (fun b o hb e => kp b o (by simpa using hb) e)
    obtain ⟨d, rfl, q⟩ := q0 hne
    refine wpAny_bind (wpAny_rule (wpAny_pure (?_)))
    exact q _ _ G1
  · have pos : 0 < vs.length := List.length_pos_iff.mpr hne
    refine wpAny_bind (wpAny_tryCatch (W.item 0 _ _ _ (by rw [size]; exact pos) ⟨gI, hl.at fun o e => G l o e⟩ fun v h' tk' hP st' kp => ?_))
    have kp' : ∀ b o, b ≠ s.heap.objs.size → hp.get? b = some o → h'.get? b = some o := fun b o hb e => kp b o (by simpa using hb) e
    have G1 := G.but nI kp'
    have hS1 := kp' S _ SI gSS
    have vat : vs[0]? = some v := by simpa using hP
    show wpAny _ A.in1 (updateSeq S (fun _ => #[v, v]) >>= _) _ _ _; refine wpAny_bind (wpAny_updateSeq hS1 rfl ?_); rw [hnm]
    have sb := Heap.SameBut.update h' S (Obj.mapSeq fun _ => #[v, v])
    exact wpAny_pure ⟨plainId_quiet PySem.F.plain_min_loop _, minT_loop hh hl nI nS SI tr irr cmp q1 _ 0 0 _ _ v _ rfl pos (G1.but nS fun b o hb e => (sb.2 b hb).trans e) (get?_update_seq hS1 fun _ => #[v, v]) (st'.1.at fun o e => (sb.2 _ SI.symm).trans e) vat (Nat.le_refl _) fun j' hj' => by rw [show j' = 0 by omega]; exact irr 0⟩
theorem minT_call {l : Addr} {vs : List Value} {lt : Nat → Nat → Bool} {Q : Value → Shared → Prop} (hh : A.handled = none) (hl : s.heap.IsList l vs.toArray) (hne : vs ≠ [])
    (tr : ∀ a b c, lt a b = true → lt b c = true → lt a c = true) (irr : ∀ a, lt a a = false)
    (cmp : ∀ i j vi vj h tk, vs[i]? = some vi → vs[j]? = some vj → Grown s.heap h → LtAt A.in1 { s with heap := h, toks := tk } vi vj (lt i j))
    (q1 : ∀ i v h' tk', vs[i]? = some v → (∀ j, j < vs.length → lt j i = false) → Grown s.heap h' → Q v { s with heap := h', toks := tk' }) :
    wpAny (model prog w) A (call (.builtin "min") [Value.ref l]) Q E s := by
  have hnm : (toString "min" ++ toString ".loop" : String) = "min.loop" := by decide
  refine call_function_tree F.kind_min F.plain_min F.entry_min (F.args_min1 _) ?_; show wpAny _ A.in1 (Builtin.Builtins.bindParams "min" ["key", "default"] 0 ⟨[], []⟩ >>= _) _ _ s
  refine wpAny_bind (wpAny_of_eq (show Builtin.Builtins.bindParams "min" ["key", "default"] 0 ⟨[], []⟩ = pure [none, none] from rfl) ?_)
  refine wpAny_bind (wpAny_pure (wpAny_bind (wpAny_pyIter_list hl (wpAny_bind (wpAny_newList ?_ (Nat.zero_le _)))))); rw [hnm]
  exact wpAny_pure ⟨plainId_quiet PySem.F.plain_min_loop _, minT_go hh hl tr irr cmp (fun z => absurd z hne) q1 _⟩
end
section
open SeqAt MeetsSeq MeetsSeq2 MeetsSeq3 SeqRoads2
open AutoSeq1 (wpAny_loadPart')
/-- one triple ahead of another, its last part told -/
def ltT (a b a' b' : Int) (e l : Bool) : Bool := if a = a' then (if b = b' then (if e = true then false else l) else decide (b < b')) else decide (a < a')
theorem triple_lt {p q : Addr} {n n2 : Nat} {dd dd2 : Option Addr} {sl sl2 : Array (Option Value)} {a b a' b' : Int} {t t' u u' : Tok} {v x : Value} {e l : Bool} : Meets (Builtin.«tuple.__lt__» ⟨[.ref p, .ref q], []⟩)
    (fun A R s => s.heap.get? p = some { cls := .type "tuple", dict := dd, data := .seq #[.int a t, .int b t', v] n, slots := sl } ∧ s.heap.get? q = some { cls := .type "tuple", dict := dd2, data := .seq #[.int a' u, .int b' u', x] n2, slots := sl2 } ∧ EqAt A.in1 s v x e ∧ LtAt A.in1 s v x l ∧ R (.ok (.ret (.bool (ltT a b a' b' e l)))) s) :=
  .of_wp fun prog w A R s h => by
    obtain ⟨hp, g, d, tk, os⟩ := s; obtain ⟨hl, hb, eqL, ltA, h⟩ := h
    have sub := AutoSeq1.sub_tuple_tuple
    wp_walk using wpAny_loadPart' hl, wpAny_loadPart' hb, wpAny_forIn_list _ (fun rest c s' => c.1 = none ∧ s' = (⟨hp, g, d, tk, os⟩ : Shared) ∧ ((rest = [(Value.int a t, Value.int a' u), (Value.int b t', Value.int b' u'), (v, x)] ∧ R (.ok (.ret (.bool (ltT a b a' b' e l)))) ⟨hp, g, d, tk, os⟩) ∨ (rest = [(Value.int b t', Value.int b' u'), (v, x)] ∧ R (.ok (.ret (.bool (if b = b' then (if e = true then false else l) else decide (b < b'))))) ⟨hp, g, d, tk, os⟩) ∨ (rest = [(v, x)] ∧ R (.ok (.ret (.bool (if e = true then false else l)))) ⟨hp, g, d, tk, os⟩) ∨ (rest = [] ∧ R (.ok (.ret (.bool false))) ⟨hp, g, d, tk, os⟩))) _
    case turn =>
      rintro ⟨y, z⟩ rest c s' ⟨hc, rfl, hz⟩
      rcases hz with ⟨hz, hR⟩ | ⟨hz, hR⟩ | ⟨hz, hR⟩ | ⟨hz, hR⟩
      · injection hz with hyx hrest
        obtain rfl : y = .int a t := congrArg Prod.fst hyx
        obtain rfl : z = .int a' u := congrArg Prod.snd hyx
        refine wpAny_bind (eqI prog w _ _ ?_)
        unfold ltT at hR
        by_cases e' : a = a'
        · rw [if_pos e'] at hR
          rw [decide_eq_true e']
          wp_walk
          exact ⟨rfl, rfl, .inr (.inl ⟨hrest, hR⟩)⟩
        · rw [if_neg e'] at hR
          rw [decide_eq_false e']
          refine wpAny_bind (wpAny_rule (wpAny_bind (LtAt.ints prog w _ _ ?_)))
          wp_walk
          exact ⟨_, rfl, hR⟩
      · injection hz with hyx hrest
        obtain rfl : y = .int b t' := congrArg Prod.fst hyx
        obtain rfl : z = .int b' u' := congrArg Prod.snd hyx
        refine wpAny_bind (eqI prog w _ _ ?_)
        by_cases e' : b = b'
        · rw [if_pos e'] at hR
          rw [decide_eq_true e']
          wp_walk
          exact ⟨rfl, rfl, .inr (.inr (.inl ⟨hrest, hR⟩))⟩
        · rw [if_neg e'] at hR
          rw [decide_eq_false e']
          refine wpAny_bind (wpAny_rule (wpAny_bind (LtAt.ints prog w _ _ ?_)))
          wp_walk
          exact ⟨_, rfl, hR⟩
      · injection hz with hyx hrest
        obtain rfl : y = v := congrArg Prod.fst hyx
        obtain rfl : z = x := congrArg Prod.snd hyx
        refine wpAny_bind (eqL prog w _ _ ?_)
        cases e with
        | true =>
          wp_walk
          exact ⟨rfl, rfl, .inr (.inr (.inr ⟨hrest, hR⟩))⟩
        | false =>
          refine wpAny_bind (wpAny_rule (wpAny_bind (ltA prog w _ _ ?_)))
          wp_walk
          exact ⟨_, rfl, hR⟩
      · cases hz
    case fin =>
      rintro ⟨c1, c2⟩ s' ⟨hc, rfl, hz⟩
      simp only at hc
      subst hc
      rcases hz with ⟨hz, _⟩ | ⟨hz, _⟩ | ⟨hz, _⟩ | ⟨_, hR⟩
      · cases hz
      · cases hz
      · cases hz
      · wp_walk
        exact ⟨_, rfl, by simpa [Builtin.Tuple.tupleCompareSizes] using hR⟩
    case h =>
      exact ⟨rfl, rfl, .inl ⟨rfl, h⟩⟩
end
/-- a triple that stands at an address, its last part a number or a list of numbers -/
def Trip (isL : Bool) (H : Hp) (c : Addr) (k : K3) : Prop := match isL with
  | false => ∃ d : Int, k.2.2 = [d] ∧ H c = some (.tup [.int k.1, .int k.2.1, .int d])
  | true => ∃ g : Addr, H c = some (.tup [.int k.1, .int k.2.1, .ref g]) ∧ H g = some (.lst (k.2.2.map V.int))
theorem lt3_num (a b a' b' d d' : Int) : ltT a b a' b' (decide (d = d')) (decide (d < d')) = lt3 (a, b, [d]) (a', b', [d']) := by
  unfold ltT lt3
  simp only [ltL]
  by_cases h1 : a = a'
  · rw [if_pos h1, if_pos h1]
    by_cases h2 : b = b'
    · rw [if_pos h2, if_pos h2]
      by_cases h3 : d = d'
      · rw [decide_eq_true h3, if_pos rfl, if_pos h3]
      · rw [decide_eq_false h3, if_neg (by decide), if_neg h3]
    · rw [if_neg h2, if_neg h2]
  · rw [if_neg h1, if_neg h1]
theorem lt3_lst (a b a' b' : Int) (L L' : List Int) : ltT a b a' b' (decide (L = L')) (ltL L L') = lt3 (a, b, L) (a', b', L') := by
  unfold ltT lt3
  simp only [ltL]
  by_cases h1 : a = a'
  · rw [if_pos h1, if_pos h1]
    by_cases h2 : b = b'
    · rw [if_pos h2, if_pos h2]
      by_cases h3 : L = L'
      · rw [decide_eq_true h3, if_pos rfl, h3, ltL_self]
      · rw [decide_eq_false h3, if_neg (by decide)]
    · rw [if_neg h2, if_neg h2]
  · rw [if_neg h1, if_neg h1]
theorem tup3_at {X : Cx} {pins : List (Addr × Obj)} {σ : St} {H : Hp} {s : Shared} {p : Addr} {i j : Int} {z : V} (I : Inv X pins σ H s) (h : H p = some (.tup [.int i, .int j, z])) : ∃ (t t' : Tok) (v : Value) (n : Nat) (dd : Option Addr) (sl : Array (Option Value)), RelV z v ∧ s.heap.get? p = some { cls := .type "tuple", dict := dd, data := .seq #[.int i t, .int j t', v] n, slots := sl } := by
  obtain ⟨_, its, vr, ⟨o, ho, hc, n, hd⟩⟩ := (show ObjOk X.prog X.w H s.heap p (.tup [.int i, .int j, z]) from I.hok p _ h)
  cases vr with
  | cons r1 vr =>
    cases vr with
    | cons r2 vr =>
      cases vr with
      | cons r3 vr =>
        cases vr
        obtain ⟨t, rfl⟩ := r1
        obtain ⟨t', rfl⟩ := r2
        obtain ⟨cl, dd, dt, sl⟩ := o
        have hc' : cl = .type "tuple" := hc
        have hd' : dt = .seq #[.int i t, .int j t', _] n := hd
        subst hc' hd'
        exact ⟨t, t', _, n, dd, sl, r3, ho⟩
/-- two triples of one kind are compared as their keys are -/
theorem trip_lt {X : Cx} {k : Nat} (hr : Room k X.A) {pins : List (Addr × Obj)} {σ : St} {H : Hp} {s : Shared} {isL : Bool} {p q : Addr} {x y : K3} (I : Inv X pins σ H s) (hp : Trip isL H p x) (hq : Trip isL H q y) : LtAt X.A.in1 s (.ref p) (.ref q) (lt3 x y) := by
  intro prog w E Q h
  have hu := hr.units
  obtain ⟨a, b, L⟩ := x
  obtain ⟨a', b', L'⟩ := y
  cases isL with
  | false =>
    obtain ⟨d, ed, hp⟩ := hp
    obtain ⟨d', ed', hq⟩ := hq
    have ed : L = [d] := ed
    have ed' : L' = [d'] := ed'
    subst ed ed'
    obtain ⟨t, t', v, n, dd, sl, rv, e1⟩ := tup3_at I hp
    obtain ⟨u, u', x, n2, dd2, sl2, rx, e2⟩ := tup3_at I hq
    obtain ⟨tv, rfl⟩ := rv
    obtain ⟨tx, rfl⟩ := rx
    rw [← lt3_num] at h
    exact richCompare_meets_room (op := .Lt) ⟨_, e1, rfl⟩ ⟨_, e2, rfl⟩ F.slot_tuple_lt F.entry_tuple_lt (F.args_tuple_lt_2 _ _) (triple_lt (e := decide (d = d')) (l := decide (d < d'))) ⟨e1, e2, eqI, LtAt.ints, show Value.bool _ ≠ Value.notImplemented ∧ _ from ⟨(fun x => nomatch x), h⟩⟩ (by show X.A.units + 1 < cLine; omega)
  | true =>
    obtain ⟨g, hp, hg⟩ := hp
    obtain ⟨g', hq, hg'⟩ := hq
    obtain ⟨t, t', v, n, dd, sl, rv, e1⟩ := tup3_at I hp
    obtain ⟨u, u', x, n2, dd2, sl2, rx, e2⟩ := tup3_at I hq
    cases rv
    cases rx
    have hg : H g = some (.lst (L.map V.int)) := hg
    have hg' : H g' = some (.lst (L'.map V.int)) := hg'
    obtain ⟨_, its, m, r, _, f1⟩ := I.lstM hg
    obtain ⟨_, its2, m2, r2, _, f2⟩ := I.lstM hg'
    obtain ⟨⟨as, ra⟩, ca⟩ := DatV.reads I (pInts L) (.ref g) (.ref g) (datV_ints (K := X.K) (SqL.of hg)) rfl
    obtain ⟨⟨bs, rb⟩, cb⟩ := DatV.reads I (pInts L') (.ref g') (.ref g') (datV_ints (K := X.K) (SqL.of hg')) rfl
    have d1 := depth_pInts L
    have d2 := depth_pInts L'
    have eqA : SeqAt.EqAt X.A.in1.in1 s (.ref g) (.ref g') (decide (L = L')) := by
      have := SeqAt.eqAt_reads (pInts L) (pInts L') X.A.in1.in1 s (.ref g) (.ref g') as bs ra rb ca cb (by show X.A.units + 1 + 1 + _ < cLine; omega)
      rw [eqv_pInts] at this
      exact this
    have ltA : LtAt X.A.in1.in1 s (.ref g) (.ref g') (ltL L L') := LtAt.lists ⟨_, f1, rfl, m, rfl⟩ ⟨_, f2, rfl, m2, rfl⟩ (nums_of r) (nums_of r2) (by show X.A.units + 1 + 1 < cLine; omega)
    rw [← lt3_lst] at h
    exact richCompare_meets_room (op := .Lt) ⟨_, e1, rfl⟩ ⟨_, e2, rfl⟩ F.slot_tuple_lt F.entry_tuple_lt (F.args_tuple_lt_2 _ _) (triple_lt (e := decide (L = L')) (l := ltL L L')) ⟨e1, e2, eqA, ltA, show Value.bool _ ≠ Value.notImplemented ∧ _ from ⟨(fun x => nomatch x), h⟩⟩ (by show X.A.units + 1 < cLine; omega)
def ltAt3 (ks : List K3) (i j : Nat) : Bool := match ks[i]?, ks[j]? with
  | some a, some b => lt3 a b
  | _, _ => false
theorem ltAt3_irr (ks : List K3) (i : Nat) : ltAt3 ks i i = false := by
  unfold ltAt3
  cases ks[i]? with
  | none => rfl
  | some a => exact lt3_irr a
theorem ltAt3_trans (ks : List K3) (a b c : Nat) (h1 : ltAt3 ks a b = true) (h2 : ltAt3 ks b c = true) : ltAt3 ks a c = true := by
  unfold ltAt3 at *
  cases ea : ks[a]? with
  | none => rw [ea] at h1; cases h1
  | some x =>
    cases eb : ks[b]? with
    | none => rw [ea, eb] at h1; cases h1
    | some y =>
      cases ec : ks[c]? with
      | none => rw [eb, ec] at h2; cases h2
      | some z =>
        rw [ea, eb] at h1
        rw [eb, ec] at h2
        exact lt3_trans h1 h2
/-- triples in a list, by their keys -/
structure Trips (isL : Bool) (H : Hp) (cs : List Addr) (ks : List K3) : Prop where
  len : cs.length = ks.length
  at_ : ∀ (i : Nat) (c : Addr) (k : K3), cs[i]? = some c → ks[i]? = some k → Trip isL H c k
section
variable {X : Cx} {e d : Expr} {te td : TE} {p pos kp : Pos} {k : Nat}
def tMinT (te : TE) : TE := fun σ H Q => te σ H fun x H1 => ∃ (isL : Bool) (l : Addr) (cs : List Addr) (ks : List K3), x = .ref l ∧ H1 l = some (.lst (cs.map V.ref)) ∧ Trips isL H1 cs ks ∧ cs ≠ [] ∧ ∀ (i : Nat) (c : Addr) (k : K3), cs[i]? = some c → ks[i]? = some k → (∀ k' ∈ ks, lt3 k' k = false) → Q (.ref c) H1
theorem trips_cmp (hr : Room k X.A) {pins : List (Addr × Obj)} {σ : St} {H : Hp} {s : Shared} {isL : Bool} {cs : List Addr} {ks : List K3} (I : Inv X pins σ H s) (T : Trips isL H cs ks) (i j : Nat) (vi vj : Value) (h : Heap) (tk : Nat) (e1 : (cs.map Value.ref)[i]? = some vi) (e2 : (cs.map Value.ref)[j]? = some vj) (G : Grown s.heap h) :
    LtAt X.A.in1 { s with heap := h, toks := tk } vi vj (ltAt3 ks i j) := by
  rw [List.getElem?_map] at e1 e2
  cases c1 : cs[i]? with
  | none => rw [c1] at e1; cases e1
  | some a =>
    cases c2 : cs[j]? with
    | none => rw [c2] at e2; cases e2
    | some b =>
      rw [c1] at e1
      rw [c2] at e2
      obtain rfl : Value.ref a = vi := Option.some.inj e1
      obtain rfl : Value.ref b = vj := Option.some.inj e2
      have l1 : i < ks.length := by rw [← T.len]; exact (List.getElem?_eq_some_iff.mp c1).1
      have l2 : j < ks.length := by rw [← T.len]; exact (List.getElem?_eq_some_iff.mp c2).1
      have k1 := List.getElem?_eq_getElem l1
      have k2 := List.getElem?_eq_getElem l2
      unfold ltAt3
      rw [k1, k2]
      exact trip_lt hr (I.kept (h' := h) (t' := tk) G) (T.at_ i a _ c1 k1) (T.at_ j b _ c2 k2)
theorem trips_best {isL : Bool} {H : Hp} {cs : List Addr} {ks : List K3} (T : Trips isL H cs ks) {i : Nat} {x : K3} (hx : ks[i]? = some x) (best : ∀ j, j < (cs.map Value.ref).length → ltAt3 ks j i = false) : ∀ k' ∈ ks, lt3 k' x = false := fun k' hk => by
  obtain ⟨j, hj⟩ := List.mem_iff_getElem?.mp hk
  have := best j (by rw [List.length_map, T.len]; exact (List.getElem?_eq_some_iff.mp hj).1)
  unfold ltAt3 at this
  rw [hj, hx] at this
  exact this
theorem pe_minT (hc : X.calm = true) (hm : X.mg "min" = none) (hr : Room k X.A) (ha : PE X e te) (hg : Gl X "min" := by rfl) (he : starEach [e] X.env = [(false, eval e X.env)] := by rfl) : PE X (.Call (.Name "min" p) [e] [] pos) (tMinT te) :=
  pe_callB (r := r1 fun x H Q => ∃ (isL : Bool) (l : Addr) (cs : List Addr) (ks : List K3), x = .ref l ∧ H l = some (.lst (cs.map V.ref)) ∧ Trips isL H cs ks ∧ cs ≠ [] ∧ ∀ (i : Nat) (c : Addr) (k : K3), cs[i]? = some c → ks[i]? = some k → (∀ k' ∈ ks, lt3 k' k = false) → Q (.ref c) H)
    (callR1 fun pins s σ H x us Q I rv ⟨isL, l, cs, ks, ex, hH, T, hne, q⟩ => by
      subst ex
      obtain ⟨u, rfl, ru⟩ := rv.one
      cases ru
      obtain ⟨z, its, n, r, hz, e1⟩ := I.lstM hH
      obtain rfl := refs_are r
      have hL : s.heap.IsList l (cs.map Value.ref).toArray := ⟨_, e1, rfl, n, rfl⟩
      refine minT_call (vs := cs.map Value.ref) (lt := ltAt3 ks) (I.ok.hd hc) hL (by simpa using hne) (ltAt3_trans ks) (ltAt3_irr ks) (trips_cmp hr I T) fun i v h' tk' vat best G => ?_
      rw [List.getElem?_map] at vat
      cases ec : cs[i]? with
      | none => rw [ec] at vat; cases vat
      | some c =>
        rw [ec] at vat
        obtain rfl : Value.ref c = v := Option.some.inj vat
        have l1 : i < ks.length := by rw [← T.len]; exact (List.getElem?_eq_some_iff.mp ec).1
        have k1 := List.getElem?_eq_getElem l1
        exact ⟨.ref c, H, I.kept (h' := h') (t' := tk') G, rfl, q i c _ ec k1 (trips_best T k1 best)⟩) hg hm bt_min (pa_cons ha pa_nil (by exact he)) (he := by exact he)
end
end L2

namespace L2
open PySem PySem.Spec PyProof.Rows
/-! ### for x in reversed(range(n)) -/
def fitB (a b c : Int) : Bool := Builtin.Range.rangeFitsLong a && Builtin.Range.rangeFitsLong b && Builtin.Range.rangeFitsLong c && Builtin.Range.rangeFitsLong (-c) && Builtin.Range.rangeFitsLong (a - c) && Builtin.Range.rangeFitsLong (Builtin.Range.rangeSize a b c)
theorem range_meets (r : Addr) (a b c : Int) (t u v : Tok) (hc0 : ¬ (!(Builtin.Range.rangeFitsLong a && Builtin.Range.rangeFitsLong b && Builtin.Range.rangeFitsLong c && Builtin.Range.rangeFitsLong (-c) && Builtin.Range.rangeFitsLong (a - c) && Builtin.Range.rangeFitsLong (Builtin.Range.rangeSize a b c))) = true) :
    Meets (Builtin.«range.__reversed__» ⟨[.ref r], []⟩) (fun _ R s => s.heap.get? r = some { cls := .type "range", dict := none, data := .fields #[.int a t, .int b u, .int c v], slots := #[] } ∧
      R (.ok (.ret (Value.ref s.heap.objs.size))) { s with heap := s.heap.push { cls := Value.type (if (Builtin.Range.rangeFitsLong a && Builtin.Range.rangeFitsLong b && Builtin.Range.rangeFitsLong c && Builtin.Range.rangeFitsLong (-c) && Builtin.Range.rangeFitsLong (a - c) && Builtin.Range.rangeFitsLong (Builtin.Range.rangeSize a b c)) = true then "range_iterator" else "longrange_iterator"), data := Data.fields #[rawInt (a + (Builtin.Range.rangeSize a b c - 1) * c), rawInt (Builtin.Range.rangeSize a b c), rawInt (-c)] } }) :=
  .of_wp fun prog w A R s hz => by
    obtain ⟨hp, gg, dd, tk, os⟩ := s; obtain ⟨hl, h⟩ := hz
    wp_walk
    exact ⟨_, rfl, h⟩
section
variable {prog : Program} {w : World} {A : Around} {E : Value → Shared → Prop} {s : Shared}
def backObj (n : Nat) : Obj := { cls := .type "range_iterator", data := .fields #[rawInt (0 + ((n : Int) - 1) * 1), rawInt (n : Int), rawInt (-1)] }
theorem size_up (n : Nat) : Builtin.Range.rangeSize 0 (n : Int) 1 = (n : Int) := by rw [rangeSize_one]; split <;> omega
theorem fit_up {n : Nat} (hn : n < 2 ^ 62) : fitB 0 (n : Int) 1 = true := by
  unfold fitB
  rw [size_up]
  simp only [Builtin.Range.rangeFitsLong, Bool.and_eq_true, decide_eq_true_eq]
  omega
theorem range_back {r : Addr} {n : Nat} {t u v : Tok} {Q : Value → Shared → Prop} (hr : IsRange s.heap r 0 (n : Int) 1 t u v) (hn : n < 2 ^ 62) (h : Q (.ref s.heap.objs.size) { s with heap := s.heap.push (backObj n) }) :
    wpAny (model prog w) A (call (.builtin "range.__reversed__") [.ref r]) Q E s := by
  have hT : s.TypeIs (.ref r) "range" := ⟨_, hr, (rfl : _ = _)⟩
  have hf := fit_up hn
  unfold fitB at hf
  refine call_meets F.slot_range_reversed hT F.entry_range_reversed (F.args_range_reversed_1 _) (range_meets r 0 (n : Int) 1 t u v (by rw [hf]; exact Bool.false_ne_true)) ⟨hr, ?_⟩
  rw [hf, if_pos rfl, size_up]
  exact h
theorem new_back {r : Addr} {n : Nat} {t u v : Tok} {Q₁ : Value → Shared → Prop} (hr : IsRange s.heap r 0 (n : Int) 1 t u v) (hn : n < 2 ^ 62) (h : Q₁ (.ref s.heap.objs.size) { s with heap := s.heap.push (backObj n) }) :
    codeAny (model prog w) A (.call (.builtin "reversed.__new__") ⟨[.type "reversed", .ref r], []⟩) (wants Q₁ E) s := by
  have hT : s.TypeIs (.ref r) "range" := ⟨_, hr, (rfl : _ = _)⟩
  refine codeAny_of_tree ?_
  show wpAny _ A.in1 (checkBuiltinCall "reversed.__new__" ⟨[.type "reversed", .ref r], []⟩ >>= fun _ => again (.builtin "reversed.__new__" ⟨[.type "reversed", .ref r], []⟩)) _ _ s
  refine wpAny_bind (wpAny_of_eq (F.newCall_reversed_1 _) (wpAny_pure ⟨plainId_quiet F.plain_reversed_new _, codeAny_builtin F.entry_reversed_new ?_⟩)); rw [Around.under_plainId F.plain_reversed_new _]; unfold Builtin.«reversed.__new__»
  refine wpAny_bind (wpAny_of_eq (newClass_reversed _) ?_); try dsimp only
  refine wpAny_bind (wpAny_of_eq (a := ()) (by first | rfl | kernel_rfl) (wpAny_bind (wpAny_of_eq (a := ()) (by first | rfl | kernel_rfl) ?_))); try dsimp only
  refine wpAny_bind (wpAny_specialOf hT F.slot_range_reversed.lookup ?_); try dsimp only
  refine wpAny_bind (wpAny_of_eq (F.slot_range_reversed.bind _) ?_); try dsimp only
  first
  | rw [if_neg (show ¬ ((Value.builtin "range.__reversed__" == Value.none) = true) from Bool.false_ne_true)]
  | (show wpAny _ _ (if (Value.builtin "range.__reversed__" == Value.none) = true then _ else _) _ _ _; rw [if_neg (show ¬ ((Value.builtin "range.__reversed__" == Value.none) = true) from Bool.false_ne_true)])
  refine wpAny_bind (wpAny_rule (wpAny_bind (m := runValue (.call (.builtin "range.__reversed__") ⟨[.ref r], []⟩)) (show wpAny _ _ (call (.builtin "range.__reversed__") [.ref r]) _ _ _ from range_back hr hn ?_)))
  first | exact wpAny_pure h | exact wpAny_bind (wpAny_pure (wpAny_pure h))
theorem sub_rit : isSubtype (.type "range_iterator") (.type "reversed") = pure false := by rw [isSubtype_type]; kernel_rfl
theorem call_back {r : Addr} {n : Nat} {t u v : Tok} {Q : Value → Shared → Prop} (hr : IsRange s.heap r 0 (n : Int) 1 t u v) (hn : n < 2 ^ 62) (h : Q (.ref s.heap.objs.size) { s with heap := s.heap.push (backObj n) }) :
    wpAny (model prog w) A (call (.type "reversed") [.ref r]) Q E s := by
  refine callType_other (U := "range_iterator") (Q₁ := fun obj s₁ => obj = .ref s.heap.objs.size ∧ s₁ = { s with heap := s.heap.push (backObj n) }) (by decide +kernel) F.create_reversed ⟨_, _, F.mro_reversed⟩ F.made_reversed sub_rit (F.typeCall_reversed_1 _) (new_back hr hn ⟨rfl, rfl⟩) ?_
  rintro obj s₁ ⟨e1, e2⟩
  subst e1 e2
  exact ⟨⟨_, Heap.get?_push_size _ rfl, (rfl : _ = _)⟩, h⟩
end
/-- n - 1, n - 2, .. , 0 -/
def Itd (n : Nat) : It := ⟨fun i _ => i < n, fun i H x H' => H' = H ∧ x = .int ((n : Int) - 1 - i), fun i _ => n ≤ i⟩
theorem turn_back {P : Program} {w : World} {K : PySem.W.Frag} {tg : Expr} (it : Addr) (n : Nat) : Turn P w K tg (Itd n) [it] it (fun i h => IsRangeIter h it ((n : Int) - 1 + (i : Nat) * (-1)) ((n : Int) - (i : Nat)) (-1)) where
  mem := by simp
  obj := fun i h st b hb => by
    have e : b = it := by simpa using hb
    subst e
    exact ⟨_, st, fun v z => by
      have z' : Data.fields _ = Data.cell v := z
      cases z'⟩
  keep := fun i h h' st k => k it (by simp) _ st
  item := by
    intro X hP hw hK hc i pins s σ H E I hf st hg
    subst hP hw hK
    obtain ⟨f0, f1, f2, f3, f4, f5⟩ := hf it (by simp)
    have W := Walks.range (prog := X.prog) (w := X.w) (I.ok.hd hc) it ((n : Int) - 1) (-1) n
    refine W.item i s _ _ hg st fun v h' tk hv st' kk => ?_
    obtain ⟨t, rfl⟩ := hv
    have I1 : Inv X pins σ H { s with heap := h', toks := tk } := I.turned (fun b o hb e => kk b o (by simpa using hb) e) f0 f1 f3 f4 f5
    refine ⟨_, rfl, go_of (s := { s with heap := h', toks := tk }) (n := "range_iterator") st' rfl rfl (by decide) ⟨.int ((n : Int) - 1 - i), H, I1, ⟨t, ?_⟩, ⟨rfl, rfl⟩, st', fun b hb => (hf b hb).1⟩⟩
    congr 1
    omega
  done := by
    intro X hP hw hK hc i pins s σ H E I hf st hg
    subst hP hw hK
    obtain ⟨f0, f1, f2, f3, f4, f5⟩ := hf it (by simp)
    exact wpAny_pyNext_range_end (I.ok.hd hc) st (by have : n ≤ i := hg; omega) fun h' eb => ⟨rfl, I.turned (t' := s.toks) (fun b o hb e => eb b o hb e) f0 f1 f3 f4 f5⟩
  self := fun _ _ _ _ _ st h => wpAny_pyIter_rangeiter st h
section
variable {X : Cx} {tg a : Expr} {ta : TA} {p p2 pos pos2 : Pos}
def iBack (ta : TA) : TI := fun σ H R => ta σ H fun vs H1 => ∃ n : Nat, vs = [.int (n : Int)] ∧ n < 2 ^ 62 ∧ R (Itd n) H1
theorem pi_back (hm : X.mg "reversed" = none) (hmr : X.mg "range" = none) (ha : PA X [a] ta) (hg : Gl X "reversed" := by rfl) (hgr : Gl X "range" := by rfl)
    (he : starEach [Expr.Call (.Name "range" p2) [a] [] pos2] X.env = [(false, eval (Expr.Call (.Name "range" p2) [a] [] pos2) X.env)] := by rfl) (hs : starEach [a] X.env = [(false, eval a X.env)] := by rfl) :
    PI X tg (.Call (.Name "reversed" p) [.Call (.Name "range" p2) [a] [] pos2] [] pos) (iBack ta) := by
  intro pins s σ H R I h
  refine Call_ (ld_blt I hg hm bt_rev (PyProof.Rows.callWith_type1 ?_ he rfl))
  rw [he]
  show wpAny _ _ (spliced ((false, eval (Expr.Call (.Name "range" p2) [a] [] pos2) X.env) :: backTo pos [])) _ _ s
  refine Calls.spliced_cons ?_
  refine Call_ (ld_blt I hgr hmr boot_range (PyProof.Rows.callWith_type1 (thn (ha pos2 pins s σ H _ I h) fun us s1 ⟨vs, H1, I1, r1, q1⟩ => ?_) hs rfl))
  obtain ⟨n, e, hn, q⟩ := q1
  subst e
  cases r1 with
  | cons r rr =>
    cases rr
    obtain ⟨t, rfl⟩ := r
    refine call_range_1 ?_
    refine Calls.spliced_nil ?_
    refine call_back (IsRange.new ..) hn ?_
    have st : IsRangeIter ((s1.heap.push { cls := .type "range", data := .fields #[.int 0 s1.toks, .int (n : Int) t, .int 1 (s1.toks + 1)] }).push (backObj n)) (s1.heap.push { cls := .type "range", data := .fields #[.int 0 s1.toks, .int (n : Int) t, .int 1 (s1.toks + 1)] }).objs.size ((n : Int) - 1 + ((0 : Nat) : Int) * (-1)) ((n : Int) - ((0 : Nat) : Int)) (-1) := by
      have e1 : (n : Int) - 1 + ((0 : Nat) : Int) * (-1) = 0 + ((n : Int) - 1) * 1 := by omega
      have e2 : (n : Int) - ((0 : Nat) : Int) = (n : Int) := by omega
      rw [e1, e2]
      exact Heap.get?_push_size _ (rfl : _ = _)
    refine wpAny_pyIter_rangeiter st ?_
    have I2 : Inv X pins σ H1 { s1 with heap := s1.heap.push { cls := .type "range", data := .fields #[.int 0 s1.toks, .int (n : Int) t, .int 1 (s1.toks + 1)] }, toks := s1.toks + 1 + 1 } := I1.kept fun b o e => Heap.get?_push_of_some _ e
    refine ⟨_, [(s1.heap.push { cls := .type "range", data := .fields #[.int 0 s1.toks, .int (n : Int) t, .int 1 (s1.toks + 1)] }).objs.size], _, _, H1, rfl, I2.kept (t' := s1.toks + 1 + 1) fun b o e => Heap.get?_push_of_some _ e, turn_back _ n, st, fun b hb => ?_, q⟩
    have e : b = (s1.heap.push { cls := .type "range", data := .fields #[.int 0 s1.toks, .int (n : Int) t, .int 1 (s1.toks + 1)] }).objs.size := by simpa using hb
    subst e
    exact I2.fpOk (Nat.le_refl _) (I2.hok.fresh (Nat.le_refl _))
end
theorem for_back {n : Nat} {g : TG} {tb : TS} {D : Ends} {σ : St} {H : Hp} (Pv : Nat → St → Hp → Prop) (h0 : Pv 0 σ H)
    (hs : ∀ (D2 : Ends) i σ H, (∀ σ' H', Pv (i + 1) σ' H' → D2.nx σ' H') → i < n → Pv i σ H → g (.int ((n : Int) - 1 - i)) σ H fun σ2 H2 => tb D2 σ2 H2) (hd : ∀ σ H, Pv n σ H → D.nx σ H) : FW (Itd n) g tb D σ H := by
  refine ⟨fun i m σ H => m = n - i ∧ i ≤ n ∧ Pv i σ H, ⟨n, by simp, Nat.zero_le _, h0⟩, ?_⟩
  rintro i m σ H ⟨rfl, hi, p⟩
  by_cases hlt : i < n
  · refine .inr ⟨hlt, fun σ' H' => ∃ m', m' < n - i ∧ m' = n - (i + 1) ∧ i + 1 ≤ n ∧ Pv (i + 1) σ' H', fun σ' H' h => h, fun x H' y => ?_⟩
    obtain ⟨e, ex⟩ := y
    subst e ex
    exact hs _ i σ _ (fun σ' H' h => ⟨n - (i + 1), by omega, rfl, hlt, h⟩) hlt p
  · have e : i = n := by omega
    subst e
    exact .inl ⟨Nat.le_refl _, hd σ H p⟩
end L2

namespace L2
open PySem PySem.Spec PyProof.Rows
/-! ### in and not in a dict, as operators -/
theorem op_inX {X : Cx} {k : Nat} (hr : Room k X.A) : OpR X (compareOp .In) (fun y x H Q => ∃ a o, x = .ref a ∧ DGet H a y o ∧ Q (.bl o.isSome) H) := by
  intro pins s σ H y x v u Q I ry rx h
  obtain ⟨a, o, e, g, q⟩ := h
  subst e
  obtain rfl : u = Value.ref a := rx
  exact d_in (hu_of hr) I g ry fun s3 I3 => ⟨.bl o.isSome, H, I3, rfl, q⟩
theorem op_notInX {X : Cx} {k : Nat} (hr : Room k X.A) : OpR X (compareOp .NotIn) (fun y x H Q => ∃ a o, x = .ref a ∧ DGet H a y o ∧ Q (.bl (!o.isSome)) H) := by
  intro pins s σ H y x v u Q I ry rx h
  obtain ⟨a, o, e, g, q⟩ := h
  subst e
  obtain rfl : u = Value.ref a := rx
  exact d_notIn (hu_of hr) I g ry fun s3 I3 => ⟨.bl (!o.isSome), H, I3, rfl, q⟩
/-! ### zip of two tuples -/
section
variable {prog : Program} {w : World} {A : Around} {E : Value → Shared → Prop} {s : Shared}
theorem IsTup.at {h h' : Heap} {a : Addr} {items : Array Value} (x : h.IsTuple a items) (k : ∀ o, h.get? a = some o → h'.get? a = some o) : h'.IsTuple a items := by
  obtain ⟨o, ho, r⟩ := x
  exact ⟨o, k o ho, r⟩
theorem IsTupIt.at {h h' : Heap} {a t : Addr} {i : Nat} (x : h.IsTupleIter a t i) (k : ∀ o, h.get? a = some o → h'.get? a = some o) : h'.IsTupleIter a t i := by
  obtain ⟨o, ho, r⟩ := x
  exact ⟨o, k o ho, r⟩
end
section
variable {prog : Program} {w : World} {A : Around} {E : Value → Shared → Prop} {s : Shared}
end
end L2

namespace L2
open PySem PySem.Spec PyProof.Rows
/-! ### a def of the text called while an exception is handled -/
structure RoomH (k : Nat) (A : Around) : Prop where
  dp : A.depth + 3 * k + 5 < recursionLimit
  un : A.units + 16 * k + 200 < cLine
structure FnHOk (P : Program) (w : World) (K : PySem.W.Frag) (mg : Str → Option Value) (base : Heap) (k : Nat) (f : Addr) (fd : FuncData) (ps : List Str) (sp : Sp) : Prop where
  len : ∀ vs H Q E, sp vs H Q E → vs.length = ps.length
  run : ∀ (A : Around) (outer : List Env) (s : Shared) (H : Hp) (args : Args) (us : List Value) (vs : List V) (Q : VK), RoomH k A → Env0 P w K mg base A outer s H → BindsTo s fd args (ps.zip us) → Vals vs us → sp vs H Q E0 →
    codeAny (model P w) A (.call (.ref f) args) (CR CX0 outer P w H s Q E0) s
structure FnH (P : Program) (w : World) (K : PySem.W.Frag) (mg : Str → Option Value) (base : Heap) (x : Str) (k : Nat) (ps : List Str) (sp : Sp) : Prop where
  ex : ∃ f fd, FnHOk P w K mg base k f fd ps sp ∧ mg x = some (.ref f) ∧ PySem.W.keepIn K (.ref f) = true ∧ Binds K fd ps []
end L2

namespace L2
open PySem PySem.Spec PyProof.Rows
/-! ### all of a list of truths -/
theorem bt_all : bootBuiltins "all" = some (.builtin "all") := by decide +kernel
theorem all_range (bs : List Bool) : ((List.range bs.length).all fun i => (bs[i]?).getD false) = bs.all id := by
  rw [Bool.eq_iff_iff, List.all_eq_true, List.all_eq_true]
  constructor
  · intro h b hb
    obtain ⟨i, hi, e⟩ := List.getElem_of_mem hb
    have := h i (by simpa using hi)
    rw [List.getElem?_eq_getElem hi, e] at this
    exact this
  · intro h i hi
    have hi' : i < bs.length := by simpa using hi
    rw [List.getElem?_eq_getElem hi']
    exact h _ (List.getElem_mem hi')
section
variable {X : Cx} {e : Expr} {te : TE} {p pos : Pos}
def tAllL (te : TE) : TE := fun σ H Q => te σ H fun x H1 => ∃ (l : Addr) (bs : List Bool), x = .ref l ∧ H1 l = some (.lst (bs.map V.bl)) ∧ Q (.bl (bs.all id)) H1
theorem pe_allL (hc : X.calm = true) (hm : X.mg "all" = none) (ha : PE X e te) (hg : Gl X "all" := by rfl) (he : starEach [e] X.env = [(false, eval e X.env)] := by rfl) : PE X (.Call (.Name "all" p) [e] [] pos) (tAllL te) :=
  pe_callB (r := r1 fun x H Q => ∃ (l : Addr) (bs : List Bool), x = .ref l ∧ H l = some (.lst (bs.map V.bl)) ∧ Q (.bl (bs.all id)) H)
    (callR1 fun pins s σ H x us Q I rv ⟨l, bs, ex, hH, q⟩ => by
      subst ex
      obtain ⟨u, rfl, ru⟩ := rv.one
      cases ru
      obtain ⟨z, its, n, r, hl, e1⟩ := I.lstM hH
      obtain rfl := bools_its r
      have hL : s.heap.IsList l (bs.map Value.bool).toArray := ⟨_, e1, rfl, n, rfl⟩
      have llt : l < s.heap.objs.size := Heap.lt_size e1
      refine call_all_walk (wpAny_pyIter_list hL ?_)
      refine ⟨s.heap.objs.size, [s.heap.objs.size, l], [s.heap.objs.size], (bs.map Value.bool).toArray.size, _, _, fun i => (bs[i]?).getD false, rfl, Walks.list (by first | exact I.ok.hd hc | (show X.A.in1.handled = none; exact I.ok.hd hc)) s.heap.objs.size l (Nat.ne_of_lt llt) (bs.map Value.bool).toArray, ⟨⟨_, Heap.get?_push_size _ rfl, rfl, rfl⟩, hL.push _⟩, fun i v s' Q' E' hP hQ => ?_, fun h' tk hk => ?_⟩
      · have hP' : (bs.map Value.bool)[i]? = some v := by simpa using hP
        rw [List.getElem?_map] at hP'
        cases e : bs[i]? with
        | none => rw [e] at hP'; cases hP'
        | some b =>
          rw [e] at hP'
          obtain rfl : Value.bool b = v := Option.some.inj hP'
          simp only [e, Option.getD_some] at hQ
          exact wpAny_truthy_bool hQ
      · have e : ((List.range (bs.map Value.bool).toArray.size).all fun i => (bs[i]?).getD false) = bs.all id := by
          rw [List.size_toArray, List.length_map]; exact all_range bs
        rw [e]
        exact ⟨.bl (bs.all id), H, I.kept (h' := h') (t' := tk) fun b o e => hk b o (by simp; exact Nat.ne_of_lt (Heap.lt_size e)) (Heap.get?_push_of_some _ e), rfl, q⟩) hg hm bt_all (pa_cons ha pa_nil (by exact he)) (he := by exact he)
end
/-! ### how often a text stands in a list of texts -/
section
variable {X : Cx}
end
/-! ### list(range(a, b)), list(range(a, b, c)) -/
section
variable {X : Cx} {a b c : Expr} {ta : TA} {p p2 pos pos2 : Pos}
end
/-! ### try .. except C, without a name -/
end L2

namespace L2
open PySem PySem.Spec PyProof.Rows
/-! ### dict of a list of pairs -/
section
variable {prog : Program} {w : World} {A : Around} {E : Value → Shared → Prop} {s : Shared}
end
section
variable {prog : Program} {w : World} {κ : Type} [DecidableEq κ] {knd : KeyKind prog w κ} {A : Around} {E : Value → Shared → Prop} {s : Shared}
end
section
variable {X : Cx} {pins : List (Addr × Obj)} {σ : St} {H : Hp} {s : Shared}
end
section
variable {X : Cx} {e : Expr} {te : TE} {p pos : Pos}
end
/-! ### min of a list of numbers -/
section
variable {X : Cx} {e : Expr} {te : TE} {p pos : Pos}
end
end L2

namespace L2
open PySem PySem.Spec PyProof.Rows
/-! ### sorted of what is sorted already, of any length -/
section
variable {prog : Program} {w : World} {A : Around} {E : Value → Shared → Prop} {s : Shared} {a₀ : Array Keyed}
end
section
variable {prog : Program} {w : World} {κ : Type} [DecidableEq κ] {knd : KeyKind prog w κ} {A : Around} {E : Value → Shared → Prop} {s : Shared}
end
section
variable {X : Cx} {e : Expr} {te : TE} {p pos : Pos}
end
end L2

namespace L2
open PySem PySem.Spec PyProof.Rows
/-! ### names told by a list, < of lists of signs, min of pairs of a number and such a list -/
section
variable {prog : Program} {w : World} {A : Around} {E : Value → Shared → Prop} {s : Shared}
end
section
open SeqAt MeetsSeq MeetsSeq2 MeetsSeq3 SeqRoads2
open AutoSeq1 (wpAny_loadPart')
/-- the codes of signs, as numbers -/
def codes (t : List Nat) : List Int := t.map fun (c : Nat) => (c : Int)
theorem LtAt.signs {A : Around} {s : Shared} {c d : Nat} {t u : Tok} : LtAt A s (.str (sgS c) t) (.str (sgS d) u) (decide ((c : Int) < (d : Int))) := fun prog w E Q h => by
  have e : decide ((sgS c).cps.toList < (sgS d).cps.toList) = decide ((c : Int) < (d : Int)) := by
    apply decide_eq_decide.mpr
    show [c] < [d] ↔ _
    rw [List.cons_lt_cons_iff]
    simp
  rw [← e] at h
  exact richCompare_gives (op := .Lt) (typeIs_str s _ t) (typeIs_str s _ u) F.slot_str_lt F.entry_str_lt (F.args_str_lt_2 _ _) (gives_str_lt _ _ t u) (fun x => nomatch x) h
end
abbrev K2 := Int × List Nat
def lt2 (x y : K2) : Bool := ltP x.1 y.1 (codes x.2) (codes y.2)
/-- a pair of a number and a list of signs that stands at an address -/
def Pair2 (H : Hp) (c : Addr) (k : K2) : Prop := (∀ x ∈ k.2, x < 0x110000) ∧ ∃ g : Addr, H c = some (.tup [.int k.1, .ref g]) ∧ H g = some (.lst (k.2.map sg))
structure Pairs2 (H : Hp) (cs : List Addr) (ks : List K2) : Prop where
  len : cs.length = ks.length
  at_ : ∀ (i : Nat) (c : Addr) (k : K2), cs[i]? = some c → ks[i]? = some k → Pair2 H c k
section
variable {X : Cx} {e d : Expr} {te td : TE} {p pos kp : Pos} {k : Nat}
end
/-! ### for x in range(n, 0, -1) -/
section
variable {X : Cx} {tg a b c : Expr} {ta : TA} {p pos : Pos}
end
/-! ### list(range(n)) -/
section
variable {X : Cx} {a : Expr} {ta : TA} {p p2 pos pos2 : Pos}
end
end L2

namespace Ov
open PySem L2
def top (i : Nat) : Stmt := PySem.Challenge.pw_overlaid_k34_whole_wrong_signs.main.body.getD i (.Pass ⟨0, 0, 0, 0⟩)
abbrev sPot : Stmt := top 34
abbrev sTake : Stmt := top 35
/-- the drawing deck -/
def Hand (H : Hp) (p : Addr) : Prop := ∃ a b n : Int, H p = some (.lst [.int a, .int b, .int n])
def spPot : Sp := fun vs H Q _ => ∃ c : Int, vs = [.int c] ∧ ∀ p H', H p = none → Hand H' p → Same H H' → Q (.ref p) H'
def spTake : Sp := fun vs H Q _ => ∃ (p : Addr) (many : Int), vs = [.ref p, .int many] ∧ Hand H p ∧ 1 ≤ many ∧ many < 1000000000000000000000000000000000000000000000000000000000000 ∧
  ∀ (r : Int) (H' : Hp), 0 ≤ r → r < many → Hand H' p → Keep p H H' → Q (.int r) H'
section
variable {P : Program} {w : World} {K : PySem.W.Frag} {mg : Str → Option Value} {base : Heap}
theorem scPot : FnScope ["cell"] ["cell"] (defScope sPot) := ⟨rfl, rfl, rfl, by decide +kernel, rfl, by decide +kernel, by decide +kernel⟩
theorem ok_pot (M : Md K mg) (B : Bl mg) (F : FF K "_law_pot" sPot) : Fn P w K mg base CX0 "_law_pot" 1 ["cell"] spPot := by
  refine fn_ok M F scPot (fun _ _ _ _ _ _ => us1 fun _ => rfl) (fun vs H Q E h => ?_) (fun f cdv A outer s H vs Q E hr h => ?_)
  · obtain ⟨c, rfl, _⟩ := h; rfl
  · obtain ⟨c, rfl, k⟩ := h
    refine ⟨_, (pss_one (ps_ret (pe_lst (pa_cons (pe_max rfl B.max pe_int (pe_op op_sub (pv 0) (pe_op op_pow pe_int pe_int))) (pa_cons (pe_op op_mod (pv 0) pe_int) (pa_cons pe_int pa_nil)))))), ?_⟩
    refine ⟨_, rfl, _, _, rfl, rfl, ⟨by decide, by decide, by decide⟩, _, _, rfl, rfl, _, _, rfl, rfl, ?_⟩
    refine ⟨_, rfl, _, _, rfl, rfl, (by show (0 : Int) < 99999999977; decide), by show 3 ≤ sizeLine; decide, fun l hl => k l _ hl ⟨_, _, _, upd_same⟩ (Same.upd hl)⟩
theorem scTake : FnScope ["pot", "many", "found", "number"] ["pot", "many"] (defScope sTake) := ⟨rfl, rfl, rfl, by decide +kernel, rfl, by decide +kernel, by decide +kernel⟩
theorem ok_take (M : Md K mg) (F : FF K "_law_take" sTake) : Fn P w K mg base CX0 "_law_take" 1 ["pot", "many"] spTake := by
  refine fn_ok M F scTake (fun _ _ _ _ _ _ => us2 fun _ _ => rfl) (fun vs H Q E h => ?_) (fun f cdv A outer s H vs Q E hr h => ?_)
  · obtain ⟨p, many, rfl, _⟩ := h; rfl
  · obtain ⟨p, many, rfl, ⟨a, b, n, hp⟩, h1, h2, k⟩ := h
    refine ⟨_, (pss_cons (ps_if (pt_cmpR op_gt (pe_ix ix_list (pv 0) pe_int (fun _ _ => rfl)) pe_int (nomark _)) (pss_cons (ps_set (i := 2) scTake.nd rfl (by first | exact Or.inl rfl | exact Or.inr rfl) (pe_op op_mod (pe_ix ix_list (pv 0) pe_int (fun _ _ => rfl)) (pv 1)))
      (pss_cons (ps_asg (pe_op op_fdivL (pe_ix ix_list (pv 0) pe_int (fun _ _ => rfl)) (pv 1)) (pg_sub (pv 0) pe_int set_list))
      (pss_one (ps_ret (pv 2))))) pss_nil)
      (pss_cons (ps_asg (pe_op op_add (pe_ix ix_list (pv 0) pe_int (fun _ _ => rfl)) pe_int) (pg_sub (pv 0) pe_int set_list))
      (pss_cons (ps_set (i := 3) scTake.nd rfl (by first | exact Or.inl rfl | exact Or.inr rfl) (pe_op op_mod (pe_op op_add (pe_ix ix_list (pv 0) pe_int (fun _ _ => rfl)) (pe_op op_mul pe_int (pe_ix ix_list (pv 0) pe_int (fun _ _ => rfl)))) pe_int))
      (pss_cons (ps_set (i := 3) scTake.nd rfl (by first | exact Or.inl rfl | exact Or.inr rfl) (pe_op op_mod (pe_op op_mul (pv 3) (pv 3)) pe_int))
      (pss_cons (ps_set (i := 3) scTake.nd rfl (by first | exact Or.inl rfl | exact Or.inr rfl) (pe_op op_mod (pe_op op_mul (pv 3) (pe_op op_add (pv 3) pe_int)) pe_int))
      (pss_one (ps_ret (pe_op op_mod (pe_op op_fdivL (pv 3) pe_int) (pv 1))))))))), ?_⟩
    refine ⟨_, rfl, p, _, _, _, rfl, rfl, SqL.of hp, atI_nat (j := 0) rfl, _, _, rfl, rfl, _, rfl, ?_⟩
    refine ite2 (fun hc => ?_) (fun hc => ?_)
    · refine ⟨_, rfl, p, _, _, _, rfl, rfl, SqL.of hp, atI_nat (j := 0) rfl, _, rfl, _, _, rfl, rfl, (by show 0 < many; omega), ?_⟩
      refine ⟨_, rfl, p, _, _, _, rfl, rfl, SqL.of hp, atI_nat (j := 0) rfl, _, rfl, _, _, rfl, rfl, ⟨by omega, by omega⟩, ?_⟩
      refine ⟨_, rfl, p, _, 0, 0, rfl, rfl, hp, rfl, _, rfl, ?_⟩
      exact k _ _ (Int.emod_nonneg _ (by omega)) (Int.emod_lt_of_pos _ (by omega)) ⟨_, _, _, upd_same⟩ Keep.upd
    · refine ⟨_, rfl, p, _, _, _, rfl, rfl, SqL.of hp, atI_nat (j := 2) rfl, _, _, rfl, rfl, _, rfl, p, _, 2, 2, rfl, rfl, hp, rfl, ?_⟩
      have k1 : Keep p H (L2.upd H p (.lst ([V.int a, V.int b, V.int n].set 2 (.int (n + 1))))) := Keep.upd
      have hp1 : (L2.upd H p (.lst ([V.int a, V.int b, V.int n].set 2 (.int (n + 1))))) p = some (.lst [.int a, .int b, .int (n + 1)]) := upd_same
      generalize L2.upd H p (.lst ([V.int a, V.int b, V.int n].set 2 (.int (n + 1)))) = H1 at k1 hp1
      refine ⟨_, rfl, p, _, _, _, rfl, rfl, SqL.of hp1, atI_nat (j := 1) rfl, _, rfl, p, _, _, _, rfl, rfl, SqL.of hp1, atI_nat (j := 2) rfl, _, _, rfl, rfl, .inl ⟨by decide, by decide⟩, _, _, rfl, rfl, _, _, rfl, rfl, (by show (0 : Int) < 99999999947; decide), ?_⟩
      have m1 := Int.emod_nonneg (b + 700001 * (n + 1)) (show (99999999947 : Int) ≠ 0 by decide)
      have m2 := Int.emod_lt_of_pos (b + 700001 * (n + 1)) (show (0 : Int) < 99999999947 by decide)
      generalize (b + 700001 * (n + 1)) % 99999999947 = x at m1 m2
      refine ⟨_, rfl, _, rfl, _, _, rfl, rfl, .inl ⟨by omega, by omega⟩, _, _, rfl, rfl, (by show (0 : Int) < 99999999821; decide), ?_⟩
      have m3 := Int.emod_nonneg (x * x) (show (99999999821 : Int) ≠ 0 by decide)
      have m4 := Int.emod_lt_of_pos (x * x) (show (0 : Int) < 99999999821 by decide)
      generalize x * x % 99999999821 = y at m3 m4
      refine ⟨_, rfl, _, rfl, _, _, rfl, rfl, _, _, rfl, rfl, .inl ⟨by omega, by omega⟩, _, _, rfl, rfl, (by show (0 : Int) < 9999999967; decide), ?_⟩
      refine ⟨_, rfl, _, _, rfl, rfl, ⟨by decide, by decide⟩, _, rfl, _, _, rfl, rfl, (by show 0 < many; omega), ?_⟩
      exact k _ _ (Int.emod_nonneg _ (by omega)) (Int.emod_lt_of_pos _ (by omega)) ⟨_, _, _, hp1⟩ k1
end

end Ov

namespace Ov
open PySem L2
abbrev sSigns : Stmt := top 37
abbrev sLetters : Stmt := top 36
def az : List Nat := (List.range 26).map (97 + ·)
theorem az_mem {c : Nat} (h : c ∈ az) : 97 ≤ c ∧ c ≤ 122 := by
  simp [az] at h
  omega
/-- small letters -/
def Low (t : List Nat) : Prop := ∀ c ∈ t, 97 ≤ c ∧ c ≤ 122
theorem Low.cp {t : List Nat} (h : Low t) : ∀ c ∈ t, c < 0x110000 := fun c hc => by have := h c hc; omega
theorem Low.take {t : List Nat} (h : Low t) (n : Nat) : Low (t.take n) := fun c hc => h c (List.mem_of_mem_take hc)
theorem Low.drop {t : List Nat} (h : Low t) (n : Nat) : Low (t.drop n) := fun c hc => h c (List.mem_of_mem_drop hc)
theorem Low.app {t u : List Nat} (h : Low t) (g : Low u) : Low (t ++ u) := fun c hc => (List.mem_append.mp hc).elim (h c) (g c)
theorem Low.nil : Low [] := fun c hc => by cases hc
theorem Low.set {t : List Nat} (h : Low t) (n c : Nat) (hc : 97 ≤ c ∧ c ≤ 122) : Low (t.set n c) := fun d hd => by
  rcases List.mem_or_eq_of_mem_set hd with q | q
  · exact h d q
  · subst q; exact hc
theorem Hand.ne {H : Hp} {p l : Addr} (h : Hand H p) (hl : H l = none) : p ≠ l := by
  obtain ⟨a, b, n, e⟩ := h
  exact ne_of_none e hl
theorem Hand.upd {H : Hp} {p l : Addr} {o : HO} (h : Hand H p) (hl : p ≠ l) : Hand (L2.upd H l o) p := by
  obtain ⟨a, b, n, e⟩ := h
  exact ⟨a, b, n, by rw [upd_ne hl]; exact e⟩
theorem Hand.same {H H' : Hp} {p : Addr} (h : Hand H p) (k : Same H H') : Hand H' p := by
  obtain ⟨a, b, n, e⟩ := h
  exact ⟨a, b, n, k _ _ e⟩
theorem Hand.free {H H' : Hp} {p l : Addr} (h : Hand H' p) (k : Keep p H H') (hl : H' l = none) : H l = none := by
  obtain ⟨a, b, n, e⟩ := h
  exact k.free e hl
theorem hand_ne {H : Hp} {p a : Addr} {t : List Nat} (h : Hand H p) (ha : H a = some (.lst (t.map sg))) : a ≠ p := by
  obtain ⟨x, y, n, e⟩ := h
  refine ne_of ha e fun z => ?_
  have z' : t.map sg = [.int x, .int y, .int n] := HO.lst.inj z
  cases t with
  | nil => cases z'
  | cons c t => cases z'
theorem nd0 {p : Prop} [Decidable p] (h : ¬ decide p = true) : ¬ p := fun z => h (decide_eq_true z)
theorem sz {n : Nat} (h : n ≤ 1000) : n ≤ sizeLine := Nat.le_of_lt (small1000 h)
theorem sz5 {n : Nat} (h : n ≤ 5000) : n ≤ sizeLine := Nat.le_of_lt (small5000 h)
def vInts (ks : List Nat) : List V := (ks.map fun (k : Nat) => (k : Int)).map V.int
theorem vInts_snoc (ks : List Nat) (i : Nat) : vInts (ks ++ [i]) = vInts ks ++ [V.int (0 + (i : Int))] := by
  simp [vInts]
theorem vInts_len (ks : List Nat) : (vInts ks).length = ks.length := by simp [vInts]
theorem filter_len {i : Nat} (p : Nat → Bool) : ((List.range i).filter p).length ≤ i := by
  have := List.length_filter_le p (List.range i)
  simpa using this
theorem sg_at {t : List Nat} {r : Int} (lt : Low t) (r0 : 0 ≤ r) (r1 : r < t.length) : ∃ c, t[r.toNat]? = some c ∧ 97 ≤ c ∧ c ≤ 122 ∧ atI (t.map sg) r = some (sg c) := by
  obtain ⟨v, hv, hm, e⟩ := atI_ex (t.map sg) r r0 (by rw [List.length_map]; exact r1)
  rw [List.getElem?_map] at hv
  cases q : t[r.toNat]? with
  | none => rw [q] at hv; cases hv
  | some c =>
    rw [q] at hv
    have : sg c = v := Option.some.inj hv
    subst this
    exact ⟨c, rfl, (lt c (List.mem_of_getElem? q)).1, (lt c (List.mem_of_getElem? q)).2, e⟩
/-- two lists of signs laid behind one another -/
theorem cat_sg {H : Hp} {l0 l1 : Addr} {t u : List Nat} {Q : VK} (h0 : H l0 = some (.lst (t.map sg))) (h1 : H l1 = some (.lst (u.map sg))) (hz : t.length + u.length ≤ 5000)
    (k : ∀ b, H b = none → Q (.ref b) (L2.upd H b (.lst ((t ++ u).map sg)))) : rCat (.ref l0) (.ref l1) H Q :=
  ⟨l0, l1, _, _, rfl, rfl, h0, h1, by rw [List.length_map, List.length_map]; exact sz5 hz, fun b hb => by have := k b hb; rw [List.map_append] at this; exact this⟩
theorem cut_hi {t : List Nat} {n : Int} (h : 0 ≤ n) : cutV (t.map sg) none (some n) = (t.take n.toNat).map sg := by rw [cutV_cutL, cutL_map, cutL_hi _ _ h]
theorem cut_lo {t : List Nat} {n : Int} (h : 0 ≤ n) : cutV (t.map sg) (some n) none = (t.drop n.toNat).map sg := by rw [cutV_cutL, cutL_map, cutL_lo _ _ h]
def spLetters : Sp := fun vs H Q _ => ∃ p : Addr, vs = [.ref p] ∧ Hand H p ∧ ∀ (z : List Nat) (r : Addr) (H' : Hp), H r = none → H' r = some (.lst (z.map sg)) → Low z → z.Nodup → 1 ≤ z.length → z.length ≤ 26 → Hand H' p → Keep p H H' → Q (.ref r) H'
def spSigns : Sp := fun vs H Q _ => ∃ (p b : Addr) (z : List Nat) (n : Int), vs = [.ref p, .ref b, .int n] ∧ Hand H p ∧ H b = some (.lst (z.map sg)) ∧ Low z ∧ 1 ≤ z.length ∧ z.length ≤ 900 ∧ 0 ≤ n ∧ n ≤ 1000 ∧
  ∀ (t : List Nat) (r : Addr) (H' : Hp), H r = none → H' r = some (.lst (t.map sg)) → Low t → t.length = n.toNat → Hand H' p → Keep p H H' → Q (.ref r) H'
section
variable {P : Program} {w : World} {K : PySem.W.Frag} {mg : Str → Option Value} {base : Heap}
theorem scLetters : FnScope ["pot", "left", "many"] ["pot"] (defScope sLetters) := ⟨rfl, rfl, rfl, by decide +kernel, rfl, by decide +kernel, by decide +kernel⟩
theorem ok_letters (M : Md K mg) (B : Bl mg) (F : FF K "_law_letters" sLetters) (F_law_take : Fn P w K mg base CX0 "_law_take" 1 ["pot", "many"] spTake) : Fn P w K mg base CX0 "_law_letters" 2 ["pot"] spLetters := by
  refine fn_ok M F scLetters (fun _ _ _ _ _ _ => us1 fun _ => rfl) (fun vs H Q E h => ?_) (fun f cdv A outer s H vs Q E hr h => ?_)
  · obtain ⟨p, rfl, _⟩ := h; rfl
  · obtain ⟨p, rfl, hp, k⟩ := h
    refine ⟨_, (pss_cons (ps_set (i := 1) scLetters.nd rfl (by first | exact Or.inl rfl | exact Or.inr rfl) (pe_listS rfl B.list pe_str))
      (pss_cons (ps_set (i := 2) scLetters.nd rfl (by first | exact Or.inl rfl | exact Or.inr rfl) (pe_fn F_law_take hr pass0 (pa_cons (pv 0) (pa_cons pe_int pa_nil))))
      (pss_cons (ps_if (pt_cmpR op_eq (pv 2) pe_int (nomark _)) (pss_one (ps_ret (pv 1))) pss_nil)
      (pss_one (ps_ret (pe_comp ["pot", "left", "many"] rfl (pi_range1 (by rfl) B.range (pa_cons (pv 2) pa_nil)) (fun _ => by exact pif_nil) (fun _ => by exact (pe_bm PySem.F.plainAttrs_list PySem.F.slot_list_pop PySem.F.type_list_pop mt_popAt (pv 1) (pa_cons (pe_fn F_law_take hr pass0 (pa_cons (pv 0) (pa_cons (pe_lenL B.len (pv 1)) pa_nil))) pa_nil))))))))), ?_⟩
    have laz : Low az := fun c hc => az_mem hc
    have naz : az.Nodup := by decide +kernel
    refine ⟨⟨az.toArray⟩, rfl, by rw [str_len]; exact sz (by simp [az]), fun l hl => ?_⟩
    have s1 := Same.upd (o := .lst (az.map sg)) hl
    have hl1 : (L2.upd H l (.lst (az.map sg))) l = some (.lst (az.map sg)) := upd_same
    have hp1 := hp.same s1
    refine ⟨_, rfl, p, 5, rfl, hp1, by decide, by decide, fun m H2 m0 m1 hp2 k2 => ?_⟩
    have nlp : l ≠ p := (hp.ne hl).symm
    have hl2 := k2 _ _ hl1 nlp
    have k02 := s1.keep.trans k2
    refine ⟨_, rfl, rfl, _, rfl, ?_⟩
    refine ite2 (fun hc => ?_) (fun hc => ?_)
    · exact ⟨_, rfl, k az l H2 hl hl2 laz naz (by simp [az]) (by simp [az]) hp2 k02⟩
    · have hm : m ≠ 0 := fun q => nd0 hc (by rw [q])
      refine ⟨_, rfl, m, rfl, by omega, by omega, fun D hD cb => ?_⟩
      have nD : D ≠ p := (hp2.ne hD).symm
      have nlD : l ≠ D := ne_of_none hl2 hD
      have hDn : H D = none := by obtain ⟨x, y, z, e'⟩ := hp2; exact k02.free e' hD
      refine comp_range (lo := 0) (n := m.toNat) (fun i ys H3 => ∃ t left : List Nat, ys = t.map sg ∧ (t ++ left).Perm az ∧ t.length = i ∧ H3 l = some (.lst (left.map sg)) ∧ Hand H3 p ∧ (∀ b o, H b = some o → b ≠ p → H3 b = some o) ∧ H3 D = some (.lst ys)) (small1000 (by omega)) ?_ ?_ ?_ ?_
      · refine ⟨[], az, rfl, List.Perm.refl _, rfl, by rw [upd_ne nlD]; exact hl2, hp2.upd (hp2.ne hD), fun b o e n => ?_, upd_same⟩
        have h1 := k02 b o e n
        rw [upd_ne (ne_of_none h1 hD)]; exact h1
      · rintro i ys H3 ⟨t, left, rfl, _, rfl, _⟩
        simp
      · rintro i ys H3 hi ⟨t, left, rfl, hper, rfl, hl3, hp3, k3, hD3⟩
        have hlen : t.length + left.length = 26 := by have := hper.length_eq; simpa [az] using this
        have hl1' : 1 ≤ left.length := by omega
        refine tNoIf_go ?_
        refine ⟨_, rfl, .inl ⟨rfl, _, SqL.of hl3⟩, _, rfl, _, rfl, l, _, rfl, SqL.of hl3, p, _, rfl, hp3, by rw [List.length_map]; omega, by rw [List.length_map]; omega, fun r H4 r0 r1 hp4 k4 => ?_⟩
        rw [List.length_map] at r1
        have hl4 := k4 _ _ hl3 nlp
        have hD4 := k4 _ _ hD3 nD
        have hr : r.toNat < left.length := by omega
        have hc' : left[r.toNat]? = some left[r.toNat] := by simp [hr]
        refine ⟨l, _, r, r.toNat, sg left[r.toNat], rfl, rfl, hl4, by omega, by omega, ?_, by rw [List.getElem?_map, hc']; rfl, ?_⟩
        · rw [List.length_map]
          exact (ixN_seq (ixN_pos _ _ r0 r1)).1
        · have ee : (left.map sg).eraseIdx r.toNat = (left.eraseIdx r.toNat).map sg := by
            apply List.ext_getElem?
            intro q
            rw [List.getElem?_map, List.getElem?_eraseIdx, List.getElem?_eraseIdx]
            split <;> rw [List.getElem?_map]
          rw [ee]
          refine ⟨by rw [upd_ne nlD.symm]; exact hD4, t ++ [left[r.toNat]], left.eraseIdx r.toNat, by simp, ?_, by simp, by rw [upd_ne nlD, upd_same], ?_, fun b o e n => ?_, upd_same⟩
          · have h1 : (left[r.toNat] :: left.eraseIdx r.toNat).Perm left := by
              rw [List.eraseIdx_eq_take_drop_succ]
              have q := List.perm_middle (a := left[r.toNat]) (l₁ := left.take r.toNat) (l₂ := left.drop (r.toNat + 1))
              rw [← List.drop_eq_getElem_cons hr, List.take_append_drop] at q
              exact q.symm
            have h2 : ((t ++ [left[r.toNat]]) ++ left.eraseIdx r.toNat).Perm (t ++ left) := by
              rw [List.append_assoc]
              exact List.Perm.append_left t h1
            exact h2.trans hper
          · exact (hp4.upd nlp.symm).upd nD.symm
          · rw [upd_ne (ne_of_none e hDn), upd_ne (ne_of_none e hl)]
            exact k4 _ _ (k3 b o e n) n
      · rintro ys H3 ⟨t, left, rfl, hper, hl3, hl4, hp3, k3, hD3⟩
        refine k t D H3 hDn hD3 (fun c hc => az_mem (hper.mem_iff.mp (List.mem_append_left _ hc))) ?_ (by omega) (by omega) hp3 (fun b o e n => k3 b o e n)
        exact (List.nodup_append.mp (hper.nodup_iff.mpr naz)).1
theorem scSigns : FnScope ["pot", "letters", "many"] ["pot", "letters", "many"] (defScope sSigns) := ⟨rfl, rfl, rfl, by decide +kernel, rfl, by decide +kernel, by decide +kernel⟩
theorem ok_signs (M : Md K mg) (B : Bl mg) (F : FF K "_law_signs" sSigns) (F_law_take : Fn P w K mg base CX0 "_law_take" 1 ["pot", "many"] spTake) : Fn P w K mg base CX0 "_law_signs" 2 ["pot", "letters", "many"] spSigns := by
  refine fn_ok M F scSigns (fun _ _ _ _ _ _ => us3 fun _ _ _ => rfl) (fun vs H Q E h => ?_) (fun f cdv A outer s H vs Q E hr h => ?_)
  · obtain ⟨p, b, z, n, rfl, _⟩ := h; rfl
  · obtain ⟨p, b, z, n, rfl, hp, hb, lz, z1, z2, n0, n1, k⟩ := h
    refine ⟨_, (pss_one (ps_ret (pe_comp ["pot", "letters", "many"] rfl (pi_range1 (by rfl) B.range (pa_cons (pv 2) pa_nil)) (fun _ => by exact pif_nil) (fun _ => by exact (pe_ix ix_list (pv 1) (pe_fn F_law_take hr pass0 (pa_cons (pv 0) (pa_cons (pe_lenL B.len (pv 1)) pa_nil))) (fun _ _ => rfl)))))), ?_⟩
    have nbp := hand_ne hp hb
    refine ⟨_, rfl, n, rfl, by omega, by omega, fun D hD cb => ?_⟩
    have nD : D ≠ p := (hp.ne hD).symm
    refine comp_range (lo := 0) (n := n.toNat) (fun i ys H2 => ∃ t : List Nat, ys = t.map sg ∧ Low t ∧ t.length = i ∧ Hand H2 p ∧ Keep p H H2 ∧ H2 D = some (.lst ys)) (small1000 (by omega)) ?_ ?_ ?_ ?_
    · exact ⟨[], rfl, Low.nil, rfl, hp.upd (hp.ne hD), (Same.upd hD).keep, upd_same⟩
    · rintro i ys H2 ⟨t, rfl, _, rfl, _⟩
      simp
    · rintro i ys H2 hi ⟨t, rfl, lt, rfl, hp2, k2, hD2⟩
      refine tNoIf_go ?_
      have hb2 := k2 _ _ hb nbp
      refine ⟨_, rfl, _, rfl, _, rfl, b, _, rfl, SqL.of hb2, p, _, rfl, hp2, by rw [List.length_map]; omega, by rw [List.length_map]; omega, fun r H3 r0 r1 hp3 k3 => ?_⟩
      rw [List.length_map] at r1
      obtain ⟨c, _, c1, c2, ec⟩ := sg_at lz r0 r1
      refine ⟨b, _, r, _, rfl, rfl, SqL.of (k3 _ _ hb2 nbp), ec, k3 _ _ hD2 nD, t ++ [c], by simp, ?_, by simp, hp3.upd nD.symm, ?_, upd_same⟩
      · exact lt.app fun d hd => by rw [List.mem_singleton.mp hd]; exact ⟨c1, c2⟩
      · intro b o e nb
        rw [upd_ne (ne_of_none e hD)]
        exact k3 _ _ (k2 b o e nb) nb
    · rintro ys H2 ⟨t, rfl, lt, hl, hp2, k2, hD2⟩
      exact k t D H2 hD hD2 lt hl hp2 k2
end

end Ov

namespace Ov
open PySem L2
abbrev sWord : Stmt := top 38
def spWord : Sp := fun vs H Q _ => ∃ (p b : Addr) (z : List Nat) (m : Int), vs = [.ref p, .ref b, .int m] ∧ Hand H p ∧ H b = some (.lst (z.map sg)) ∧ Low z ∧ 1 ≤ z.length ∧ z.length ≤ 900 ∧ 1 ≤ m ∧ m ≤ 300 ∧
  ∀ (t : List Nat) (r : Addr) (H' : Hp), H r = none → H' r = some (.lst (t.map sg)) → Low t → 1 ≤ t.length → (t.length : Int) ≤ m → Hand H' p → Keep p H H' → Q (.ref r) H'
theorem rep_sg (n : Nat) (t : List Nat) : (List.replicate n (t.map sg)).flatten = ((List.replicate n t).flatten).map sg := by
  induction n with
  | zero => rfl
  | succ n ih => rw [List.replicate_succ, List.flatten_cons, ih, List.replicate_succ, List.flatten_cons, List.map_append]
theorem Low.rep {t : List Nat} (h : Low t) (n : Nat) : Low (List.replicate n t).flatten := fun c hc => by
  obtain ⟨l, hl, hc⟩ := List.mem_flatten.mp hc
  rw [(List.mem_replicate.mp hl).2] at hc
  exact h c hc
theorem rep_len (n : Nat) (t : List Nat) : (List.replicate n t).flatten.length = n * t.length := by
  induction n with
  | zero => simp
  | succ n ih => rw [List.replicate_succ, List.flatten_cons, List.length_append, ih, Nat.succ_mul, Nat.add_comm]
/-- a list of signs so many times -/
theorem rep_op {H : Hp} {l : Addr} {t : List Nat} {n : Int} {Q : VK} (h : H l = some (.lst (t.map sg))) (n0 : 0 ≤ n) (n1 : n ≤ 1000) (hz : t.length * n.toNat ≤ 20000) (k : ∀ b, H b = none → Q (.ref b) (L2.upd H b (.lst ((List.replicate n.toNat t).flatten.map sg)))) : rRep (.ref l) (.int n) H Q :=
  ⟨l, n, _, rfl, rfl, h, by omega, by omega, by rw [List.length_map]; exact Nat.le_trans hz (by decide), fun b hb => by rw [rep_sg]; exact k b hb⟩
section
variable {P : Program} {w : World} {K : PySem.W.Frag} {mg : Str → Option Value} {base : Heap}
theorem scWord : FnScope ["pot", "letters", "most", "size", "kind", "piece", "amid", "once"] ["pot", "letters", "most"] (defScope sWord) := ⟨rfl, rfl, rfl, by decide +kernel, rfl, by decide +kernel, by decide +kernel⟩
theorem pick3 {a b c r : Int} (r0 : 0 ≤ r) (r1 : r < 3) : ∃ v : Int, (v = a ∨ v = b ∨ v = c) ∧ atI [V.int a, V.int b, V.int c] r = some (.int v) := by
  obtain ⟨v, hv, hmem, e⟩ := atI_ex [V.int a, V.int b, V.int c] r r0 (by simpa using r1)
  simp at hmem
  rcases hmem with rfl | rfl | rfl
  · exact ⟨a, .inl rfl, e⟩
  · exact ⟨b, .inr (.inl rfl), e⟩
  · exact ⟨c, .inr (.inr rfl), e⟩
theorem ok_word (M : Md K mg) (B : Bl mg) (F : FF K "_law_word" sWord) (F_law_take : Fn P w K mg base CX0 "_law_take" 1 ["pot", "many"] spTake) (F_law_signs : Fn P w K mg base CX0 "_law_signs" 2 ["pot", "letters", "many"] spSigns) : Fn P w K mg base CX0 "_law_word" 3 ["pot", "letters", "most"] spWord := by
  refine fn_ok M F scWord (fun _ _ _ _ _ _ => us3 fun _ _ _ => rfl) (fun vs H Q E h => ?_) (fun f cdv A outer s H vs Q E hr h => ?_)
  · obtain ⟨p, b, z, m, rfl, _⟩ := h; rfl
  · obtain ⟨p, b, z, m, rfl, hp, hb, lz, z1, z2, m1, m2, k⟩ := h
    refine ⟨_, (pss_cons (ps_set (i := 3) scWord.nd rfl (by first | exact Or.inl rfl | exact Or.inr rfl) (pe_op op_add pe_int (pe_fn F_law_take hr pass0 (pa_cons (pv 0) (pa_cons (pe_ix ix_list (pe_lst (pa_cons (pe_min rfl B.min pe_int (pv 2)) (pa_cons (pe_min rfl B.min pe_int (pv 2)) (pa_cons (pv 2) pa_nil)))) (pe_fn F_law_take hr pass0 (pa_cons (pv 0) (pa_cons pe_int pa_nil))) (fun _ _ => rfl)) pa_nil)))))
      (pss_cons (ps_set (i := 4) scWord.nd rfl (by first | exact Or.inl rfl | exact Or.inr rfl) (pe_fn F_law_take hr pass0 (pa_cons (pv 0) (pa_cons pe_int pa_nil))))
      (pss_cons (ps_set (i := 5) scWord.nd rfl (by first | exact Or.inl rfl | exact Or.inr rfl) (pe_fn F_law_signs hr pass0 (pa_cons (pv 0) (pa_cons (pv 1) (pa_cons (pe_op op_add pe_int (pe_fn F_law_take hr pass0 (pa_cons (pv 0) (pa_cons (pe_min rfl B.min (pv 3) pe_int) pa_nil)))) pa_nil)))))
      (pss_cons (ps_if (pt_cmpR op_eq (pv 4) pe_int (nomark _)) (pss_one (ps_ret (pe_slice sl_list (pe_op op_rep (pv 5) (pv 3)) po_none (po_some (pv 3))))) pss_nil)
      (pss_cons (ps_if (pt_cmpR op_eq (pv 4) pe_int (nomark _)) (pss_cons (ps_set (i := 6) scWord.nd rfl (by first | exact Or.inl rfl | exact Or.inr rfl) (pe_fn F_law_signs hr pass0 (pa_cons (pv 0) (pa_cons (pv 1) (pa_cons (pe_fn F_law_take hr pass0 (pa_cons (pv 0) (pa_cons pe_int pa_nil))) pa_nil)))))
      (pss_one (ps_ret (pe_slice sl_list (pe_op op_cat (pe_op op_cat (pv 5) (pv 6)) (pv 5)) po_none (po_some (pe_max rfl B.max pe_int (pv 2))))))) pss_nil)
      (pss_cons (ps_if (pt_cmpR op_eq (pv 4) pe_int (nomark _)) (pss_cons (ps_set (i := 7) scWord.nd rfl (by first | exact Or.inl rfl | exact Or.inr rfl) (pe_op op_rep (pe_op op_cat (pv 5) (pe_slice sl_list (pv 5) po_none (po_some (pe_fn F_law_take hr pass0 (pa_cons (pv 0) (pa_cons (pe_op op_add (pe_lenL B.len (pv 5)) pe_int) pa_nil)))))) pe_int))
      (pss_one (ps_ret (pe_slice sl_list (pe_op op_rep (pv 7) (pv 3)) po_none (po_some (pv 3)))))) pss_nil)
      (pss_cons (ps_if (pt_cmpR op_eq (pv 4) pe_int (nomark _)) (pss_one (ps_ret (pe_op op_rep (pe_slice sl_list (pv 1) po_none (po_some pe_int)) (pv 3)))) pss_nil)
      (pss_one (ps_ret (pe_fn F_law_signs hr pass0 (pa_cons (pv 0) (pa_cons (pv 1) (pa_cons (pv 3) pa_nil))))))))))))), ?_⟩
    have nbp := hand_ne hp hb
    refine ⟨_, rfl, _, rfl, _, _, rfl, rfl, _, rfl, _, _, rfl, rfl, _, rfl, by show 3 ≤ sizeLine; decide, fun l0 hl0 => ?_⟩
    have s1 := Same.upd (o := .lst [V.int (if m < 5 then m else 5), V.int (if m < 20 then m else 20), V.int m]) hl0
    have hp1 := hp.same s1
    refine ⟨_, rfl, p, 3, rfl, hp1, by decide, by decide, fun r H2 r0 r1 hp2 k2 => ?_⟩
    have hl2 := k2 _ _ upd_same (fun q => hp.ne hl0 q.symm)
    obtain ⟨v, hv, ev⟩ := pick3 (a := if m < 5 then m else 5) (b := if m < 20 then m else 20) (c := m) r0 r1
    have hv' : 1 ≤ v ∧ v ≤ m := by
      rcases hv with rfl | rfl | rfl
      · split <;> omega
      · split <;> omega
      · omega
    refine ⟨l0, _, r, _, rfl, rfl, SqL.of hl2, ev, p, v, rfl, hp2, hv'.1, by omega, fun n H3 n0 n1 hp3 k3 => ?_⟩
    have k03 := (s1.keep.trans k2).trans k3
    refine ⟨_, _, rfl, rfl, ?_⟩
    have sz1 : 1 ≤ 1 + n ∧ 1 + n ≤ m := by omega
    refine ⟨_, rfl, p, 5, rfl, hp3, by decide, by decide, fun kind H4 i0 i1 hp4 k4 => ?_⟩
    have k04 := k03.trans k4
    have hb4 := k04 _ _ hb nbp
    refine ⟨_, rfl, _, rfl, _, rfl, _, rfl, _, _, rfl, rfl, p, _, rfl, hp4, by split <;> omega, by split <;> omega, fun c H5 c0 c1 hp5 k5 => ?_⟩
    have c8 : c < 8 := by split at c1 <;> omega
    have k05 := k04.trans k5
    have hb5 := k05 _ _ hb nbp
    refine ⟨_, _, rfl, rfl, p, b, z, 1 + c, rfl, hp5, hb5, lz, z1, z2, by omega, by omega, fun t q H6 hq0 hq6 lt tl hp6 k6 => ?_⟩
    have k06 := k05.trans k6
    have hb6 := k06 _ _ hb nbp
    have tl' : 1 ≤ t.length ∧ t.length ≤ 8 := by omega
    have mul : ∀ a b : Nat, a ≤ 40 → b ≤ 300 → a * b ≤ 20000 := fun a b h1 h2 => Nat.le_trans (Nat.mul_le_mul h1 h2) (by decide)
    have long : ∀ x : List Nat, 1 ≤ x.length → (1 + n).toNat ≤ (List.replicate (1 + n).toNat x).flatten.length := fun x hx => by
      rw [rep_len]
      exact Nat.le_mul_of_pos_right _ hx
    refine ⟨_, rfl, rfl, _, rfl, ?_⟩
    refine ite2 (fun hc => ?_) (fun hc => ?_)
    · refine ⟨_, rfl, _, rfl, rep_op hq6 (by omega) (by omega) (mul _ _ (by omega) (by omega)) fun l hl => ?_⟩
      have s7 := Same.upd (o := .lst ((List.replicate (1 + n).toNat t).flatten.map sg)) hl
      refine ⟨_, rfl, (1 + n), rfl, l, _, rfl, SqL.of upd_same, fun l2 hl2' => ?_⟩
      rw [cut_hi (by omega)]
      have s8 := s7.trans (Same.upd (o := .lst (((List.replicate (1 + n).toNat t).flatten.take (1 + n).toNat).map sg)) hl2')
      have hll := long t tl'.1
      exact k _ l2 _ (by obtain ⟨x, y, w', e'⟩ := hp6; exact k06.free e' (s7.free hl2')) upd_same ((lt.rep _).take _) (by rw [List.length_take]; omega) (by rw [List.length_take]; omega) (hp6.same s8) (k06.trans s8.keep)
    · refine ⟨_, rfl, rfl, _, rfl, ?_⟩
      refine ite2 (fun hc2 => ?_) (fun hc2 => ?_)
      · refine ⟨_, rfl, _, rfl, _, rfl, p, 4, rfl, hp6, by decide, by decide, fun d H7 d0 d1 hp7 k7 => ?_⟩
        have hb7 := k7 _ _ hb6 (hand_ne hp6 hb6)
        have hq7 := k7 _ _ hq6 (hand_ne hp6 hq6)
        refine ⟨p, b, z, d, rfl, hp7, hb7, lz, z1, z2, d0, by omega, fun v' y H8 hy0 hy8 lv vl hp8 k8 => ?_⟩
        have hq8 := k8 _ _ hq7 (hand_ne hp7 hq7)
        refine ⟨_, rfl, _, rfl, cat_sg hq8 hy8 (by omega) fun l hl => ?_⟩
        have s9 := Same.upd (o := .lst ((t ++ v').map sg)) hl
        refine ⟨_, rfl, cat_sg upd_same (s9 _ _ hq8) (by rw [List.length_append]; omega) fun l2 hl2' => ?_⟩
        have s10 := s9.trans (Same.upd (o := .lst ((t ++ v' ++ t).map sg)) hl2')
        have hx10 := upd_same (H := L2.upd H8 l (.lst ((t ++ v').map sg))) (a := l2) (o := .lst ((t ++ v' ++ t).map sg))
        generalize L2.upd (L2.upd H8 l (.lst ((t ++ v').map sg))) l2 (.lst ((t ++ v' ++ t).map sg)) = H10 at *
        refine ⟨_, rfl, _, _, rfl, rfl, _, rfl, l2, _, rfl, SqL.of hx10, fun l3 hl3 => ?_⟩
        have em : (if m > 1 then m else 1) = m := by split <;> omega
        rw [em, cut_hi (by omega)]
        have s11 := s10.trans (Same.upd (o := .lst (((t ++ v' ++ t).take m.toNat).map sg)) hl3)
        have k08 := (k06.trans k7).trans k8
        exact k _ l3 _ (by obtain ⟨x, y, w', e'⟩ := hp8; exact k08.free e' (s10.free hl3)) upd_same (((lt.app lv).app lt).take _) (by rw [List.length_take, List.length_append]; omega) (by rw [List.length_take]; omega) (hp8.same s11) (k08.trans s11.keep)
      · refine ⟨_, rfl, rfl, _, rfl, ?_⟩
        refine ite2 (fun hc3 => ?_) (fun hc3 => ?_)
        · refine ⟨_, rfl, _, rfl, _, rfl, _, rfl, q, _, rfl, SqL.of hq6, _, _, rfl, rfl, p, _, rfl, hp6, by rw [List.length_map]; omega, by rw [List.length_map]; omega, fun d H7 d0 d1 hp7 k7 => ?_⟩
          have hq7 := k7 _ _ hq6 (hand_ne hp6 hq6)
          refine ⟨d, rfl, q, _, rfl, SqL.of hq7, fun l hl => ?_⟩
          rw [cut_hi d0]
          have s8 := Same.upd (o := .lst ((t.take d.toNat).map sg)) hl
          refine cat_sg (s8 _ _ hq7) upd_same (by rw [List.length_take]; omega) fun l2 hl2' => ?_
          have s9 := s8.trans (Same.upd (o := .lst ((t ++ t.take d.toNat).map sg)) hl2')
          have hx9 := upd_same (H := L2.upd H7 l (.lst ((t.take d.toNat).map sg))) (a := l2) (o := .lst ((t ++ t.take d.toNat).map sg))
          generalize L2.upd (L2.upd H7 l (.lst ((t.take d.toNat).map sg))) l2 (.lst ((t ++ t.take d.toNat).map sg)) = H9 at *
          have ol : (t ++ t.take d.toNat).length ≤ 16 ∧ 1 ≤ (t ++ t.take d.toNat).length := by rw [List.length_append, List.length_take]; omega
          dsimp only [tC]
          refine rep_op (n := 2) hx9 (by decide) (by decide) (mul _ _ (by omega) (by decide)) fun l3 hl3 => ?_
          have s10 := s9.trans (Same.upd (o := .lst ((List.replicate (2 : Int).toNat (t ++ t.take d.toNat)).flatten.map sg)) hl3)
          have hx10 := upd_same (H := H9) (a := l3) (o := .lst ((List.replicate (2 : Int).toNat (t ++ t.take d.toNat)).flatten.map sg))
          have o2 : (List.replicate (2 : Int).toNat (t ++ t.take d.toNat)).flatten.length = 2 * (t ++ t.take d.toNat).length := rep_len 2 _
          have lo2 : Low (List.replicate (2 : Int).toNat (t ++ t.take d.toNat)).flatten := (lt.app (lt.take _)).rep _
          generalize (List.replicate (2 : Int).toNat (t ++ t.take d.toNat)).flatten = once at *
          generalize L2.upd H9 l3 (.lst (once.map sg)) = H10 at *
          refine ⟨_, rfl, _, rfl, rep_op hx10 (by omega) (by omega) (mul _ _ (by omega) (by omega)) fun l4 hl4 => ?_⟩
          have s11 := s10.trans (Same.upd (o := .lst ((List.replicate (1 + n).toNat once).flatten.map sg)) hl4)
          have hx11 := upd_same (H := H10) (a := l4) (o := .lst ((List.replicate (1 + n).toNat once).flatten.map sg))
          generalize L2.upd H10 l4 (.lst ((List.replicate (1 + n).toNat once).flatten.map sg)) = H11 at *
          refine ⟨_, rfl, (1 + n), rfl, l4, _, rfl, SqL.of hx11, fun l5 hl5 => ?_⟩
          rw [cut_hi (by omega)]
          have s12 := s11.trans (Same.upd (o := .lst (((List.replicate (1 + n).toNat once).flatten.take (1 + n).toNat).map sg)) hl5)
          have hll := long once (by omega)
          have k07 := k06.trans k7
          exact k _ l5 _ (by obtain ⟨x, y, w', e'⟩ := hp7; exact k07.free e' (s11.free hl5)) upd_same ((lo2.rep _).take _) (by rw [List.length_take]; omega) (by rw [List.length_take]; omega) (hp7.same s12) (k07.trans s12.keep)
        · refine ⟨_, rfl, rfl, _, rfl, ?_⟩
          refine ite2 (fun hc4 => ?_) (fun hc4 => ?_)
          · refine ⟨_, rfl, 1, rfl, b, _, rfl, SqL.of hb6, fun l hl => ?_⟩
            rw [cut_hi (by decide)]
            have s7 := Same.upd (o := .lst ((z.take (1 : Int).toNat).map sg)) hl
            have zl : (z.take (1 : Int).toNat).length = 1 := by rw [List.length_take, show (1 : Int).toNat = 1 from rfl]; omega
            refine ⟨_, rfl, rep_op upd_same (by omega) (by omega) (mul _ _ (by omega) (by omega)) fun l2 hl2' => ?_⟩
            have s8 := s7.trans (Same.upd (o := .lst ((List.replicate (1 + n).toNat (z.take (1 : Int).toNat)).flatten.map sg)) hl2')
            have hrl := rep_len (1 + n).toNat (z.take (1 : Int).toNat)
            rw [zl, Nat.mul_one] at hrl
            exact k _ l2 _ (by obtain ⟨x, y, w', e'⟩ := hp6; exact k06.free e' (s7.free hl2')) upd_same ((lz.take _).rep _) (by rw [hrl]; omega) (by rw [hrl]; omega) (hp6.same s8) (k06.trans s8.keep)
          · refine ⟨_, rfl, _, rfl, _, rfl, p, b, z, (1 + n), rfl, hp6, hb6, lz, z1, z2, by omega, by omega, fun t' y H7 hy0 hy7 lt' tl7 hp7 k7 => ?_⟩
            exact k t' y H7 (by obtain ⟨x, w1, w', e'⟩ := hp6; exact k06.free e' hy0) hy7 lt' (by omega) (by omega) hp7 (k06.trans k7)
end

end Ov

namespace Ov
open PySem L2
abbrev sShiftsL : Stmt := top 39
/-- the shifts of a word, rising -/
def shiftsOf (u : List Nat) : List Nat := ((List.range u.length).map (· + 1)).filter fun d => decide (u.drop d = u.take (u.length - d))
theorem shift_iff {u : List Nat} {d : Nat} (hd : d ≤ u.length) : u.drop d = u.take (u.length - d) ↔ ∀ q, q < u.length - d → u[d + q]? = u[q]? := by
  constructor
  · intro h q hq
    have := congrArg (·[q]?) h
    have this : (u.drop d)[q]? = (u.take (u.length - d))[q]? := this
    rw [List.getElem?_drop, List.getElem?_take_of_lt hq] at this
    exact this
  · intro h
    apply List.ext_getElem?
    intro q
    by_cases hq : q < u.length - d
    · rw [List.getElem?_drop, List.getElem?_take_of_lt hq]; exact h q hq
    · rw [List.getElem?_eq_none (by rw [List.length_drop]; omega), List.getElem?_eq_none (by rw [List.length_take]; omega)]
theorem shifts_step (u : List Nat) (i : Nat) : ((List.range (i + 1)).map (· + 1)).filter (fun d => decide (u.drop d = u.take (u.length - d))) = ((List.range i).map (· + 1)).filter (fun d => decide (u.drop d = u.take (u.length - d))) ++ (if u.drop (i + 1) = u.take (u.length - (i + 1)) then [i + 1] else []) := by
  rw [List.range_succ, List.map_append, List.filter_append]
  congr 1
  by_cases h : u.drop (i + 1) = u.take (u.length - (i + 1)) <;> simp [h]
theorem shifts_len (u : List Nat) : (shiftsOf u).length ≤ u.length := by
  unfold shiftsOf
  have := List.length_filter_le (fun d => decide (u.drop d = u.take (u.length - d))) ((List.range u.length).map (· + 1))
  simpa using this
def spShifts : Sp := fun vs H Q _ => ∃ (a : Addr) (u : List Nat), vs = [.ref a] ∧ H a = some (.lst (u.map sg)) ∧ Low u ∧ 1 ≤ u.length ∧ u.length ≤ 900 ∧
  ∀ (r : Addr) (H' : Hp), H r = none → H' r = some (.lst (vInts (shiftsOf u))) → Same H H' → Q (.ref r) H'
theorem vInts_snoc' (ks : List Nat) (i : Nat) : vInts (ks ++ [i]) = vInts ks ++ [V.int (i : Int)] := by simp [vInts]
theorem sg_inj {a b : Nat} : (sg a = sg b) ↔ a = b := by
  constructor
  · intro h
    have : sgS a = sgS b := V.str.inj h
    simpa [sgS] using this
  · intro h; rw [h]
section
variable {P : Program} {w : World} {K : PySem.W.Frag} {mg : Str → Option Value} {base : Heap}
theorem scShiftsL : FnScope ["word", "found", "far"] ["word"] (defScope sShiftsL) := ⟨rfl, rfl, rfl, by decide +kernel, rfl, by decide +kernel, by decide +kernel⟩
theorem ok_shiftsL (M : Md K mg) (B : Bl mg) (F : FF K "_law_shifts" sShiftsL) : Fn P w K mg base CX0 "_law_shifts" 1 ["word"] spShifts := by
  refine fn_ok M F scShiftsL (fun _ _ _ _ _ _ => us1 fun _ => rfl) (fun vs H Q E h => ?_) (fun f cdv A outer s H vs Q E hr h => ?_)
  · obtain ⟨a, u, rfl, _⟩ := h; rfl
  · obtain ⟨a, u, rfl, ha, lu, u1, ul, k⟩ := h
    refine ⟨_, (pss_cons (ps_set (i := 1) scShiftsL.nd rfl (by first | exact Or.inl rfl | exact Or.inr rfl) (pe_lst pa_nil))
      (pss_cons (ps_for PassesOwn.never rfl (pi_range2 (by rfl) B.range (pa_cons pe_int (pa_cons (pe_op op_add (pe_lenL B.len (pv 0)) pe_int) pa_nil))) (pg_name (i := 2) scShiftsL.nd rfl (by first | exact Or.inl rfl | exact Or.inr rfl))
      (pss_one (ps_if (pt_cmpR (op_eqLI (by exact hr)) (pe_comp ["word", "found", "far"] rfl (pi_range2 (by rfl) B.range (pa_cons (pv 2) (pa_cons (pe_lenL B.len (pv 0)) pa_nil))) (fun _ => by exact (pif_one (pt_cmpR op_ne (pe_ix ix_list (pv 0) (pv 3) (fun _ _ => rfl)) (pe_ix ix_list (pv 0) (pe_op op_sub (pv 3) (pv 2)) (fun _ _ => rfl)) (nomark _)))) (fun _ => by exact (pv 3))) (pe_lst pa_nil) (nomark _)) (pss_one (ps_expr (pe_bm PySem.F.plainAttrs_list PySem.F.slot_list_append PySem.F.type_list_append mt_append (pv 1) (pa_cons (pv 2) pa_nil)))) pss_nil)))
      (pss_one (ps_ret (pv 1))))), ?_⟩
    refine ⟨Nat.zero_le _, fun r hrn => ?_⟩
    have s0 := Same.upd (o := .lst []) hrn
    refine ⟨_, rfl, a, _, rfl, SqL.of (s0 _ _ ha), _, _, rfl, rfl, 1, _, rfl, ⟨by decide, by decide, by rw [List.length_map]; omega, by rw [List.length_map]; omega⟩, ?_⟩
    rw [List.length_map, show ((u.length : Int) + 1 - 1).toNat = u.length by omega]
    refine for_range (lo := 1) (n := u.length) (fun i σ H2 => ∃ v2, σ = [some (.ref a), some (.ref r), v2] ∧ Same H H2 ∧ H2 r = some (.lst (vInts (((List.range i).map (· + 1)).filter fun d => decide (u.drop d = u.take (u.length - d)))))) ?_ ?_ ?_
    · exact ⟨none, rfl, s0, upd_same⟩
    · rintro i σ H2 hi ⟨v2, rfl, s2, hr2⟩
      have ha2 := s2 _ _ ha
      refine ⟨_, rfl, _, rfl, a, _, rfl, SqL.of ha2, 1 + (i : Int), _, rfl, ⟨by omega, by omega, by rw [List.length_map]; omega, by rw [List.length_map]; omega⟩, fun D hD cb => ?_⟩
      rw [List.length_map, show ((u.length : Int) - (1 + (i : Int))).toNat = u.length - (i + 1) by omega]
      refine comp_range (lo := 1 + (i : Int)) (n := u.length - (i + 1)) (fun j ys H3 => ∃ zs : List Int, ys = zs.map V.int ∧ zs.length ≤ j ∧ (zs = [] ↔ ∀ q, q < j → u[i + 1 + q]? = u[q]?) ∧ Same H2 H3 ∧ H3 D = some (.lst ys)) (small1000 (by omega)) ?_ ?_ ?_ ?_
      · exact ⟨[], rfl, Nat.le_refl _, by simp, Same.upd hD, upd_same⟩
      · rintro j ys H3 ⟨zs, rfl, h, _⟩
        rw [List.length_map]; exact h
      · rintro j ys H3 hj ⟨zs, rfl, zl, zn, s3, hD3⟩
        have ha3 := s3 _ _ ha2
        obtain ⟨c, hc, _, _, ec⟩ := sg_at (t := u) (r := 1 + (i : Int) + (j : Int)) lu (by omega) (by omega)
        obtain ⟨d, hd, _, _, ed⟩ := sg_at (t := u) (r := 1 + (i : Int) + (j : Int) - (1 + (i : Int))) lu (by omega) (by omega)
        rw [show (1 + (i : Int) + (j : Int)).toNat = i + 1 + j by omega] at hc
        rw [show (1 + (i : Int) + (j : Int) - (1 + (i : Int))).toNat = j by omega] at hd
        refine ⟨_, rfl, _, rfl, a, _, _, _, rfl, rfl, SqL.of ha3, ec, _, rfl, _, rfl, _, rfl, _, _, rfl, rfl, a, _, _, _, rfl, rfl, SqL.of ha3, ed, rfl, _, rfl, ?_⟩
        by_cases hcd : c = d
        · rw [decide_eq_true (sg_inj.mpr hcd)]
          refine iteF ⟨zs, rfl, by omega, ?_, s3, hD3⟩
          rw [zn]
          constructor
          · intro h q hq
            by_cases hqj : q = j
            · subst hqj; rw [hc, hd, hcd]
            · exact h q (by omega)
          · intro h q hq; exact h q (by omega)
        · rw [decide_eq_false (fun q => hcd (sg_inj.mp q))]
          refine iteT ⟨_, rfl, hD3, zs ++ [1 + (i : Int) + (j : Int)], by simp, by simp; omega, ?_, ?_, upd_same⟩
          · constructor
            · intro h; simp at h
            · intro h
              have := h j (by omega)
              rw [hc, hd] at this
              exact absurd (Option.some.inj this) hcd
          · intro b o e
            rw [upd_ne (ne_of_none e hD)]
            exact s3 b o e
      · rintro ys H3 ⟨zs, rfl, zl, zn, s3, hD3⟩
        refine ⟨Nat.zero_le _, fun l hl => ?_⟩
        have s4 := s3.trans (Same.upd (o := .lst []) hl)
        have hr4 := s4 _ _ hr2
        refine ⟨D, l, zs, [], rfl, rfl, SqL.of ((Same.upd hl) _ _ hD3), SqL.of upd_same, _, rfl, ?_⟩
        have hiff : zs = [] ↔ u.drop (i + 1) = u.take (u.length - (i + 1)) := by rw [zn, shift_iff (by omega)]
        by_cases hz : zs = []
        · rw [decide_eq_true hz]
          refine iteT ⟨_, rfl, .inl ⟨rfl, _, SqL.of hr4⟩, _, rfl, r, _, _, rfl, rfl, hr4, ?_, ?_⟩
          · rw [vInts_len]
            have := List.length_filter_le (fun d => decide (u.drop d = u.take (u.length - d))) ((List.range i).map (· + 1))
            simp at this
            exact small1000 (by omega)
          · refine ⟨_, rfl, ?_, ?_⟩
            · intro b o e
              rw [upd_ne (ne_of_none e hrn)]
              exact s4 _ _ (s2 b o e)
            · rw [upd_same, shifts_step, if_pos (hiff.mp hz), vInts_snoc']
              have e : V.int (1 + (i : Int)) = V.int (((i + 1 : Nat) : Int)) := by congr 1; omega
              rw [e]
        · rw [decide_eq_false hz]
          refine iteF ⟨_, rfl, s2.trans s4, ?_⟩
          rw [hr4, shifts_step, if_neg (fun q => hz (hiff.mpr q)), List.append_nil]
    · rintro σ H2 ⟨v2, rfl, s2, hr2⟩
      exact ⟨_, rfl, k r H2 hrn hr2 s2⟩
end

end Ov

namespace Ov
open PySem L2
abbrev sIsSign : Stmt := top 9
abbrev sCheck : Stmt := top 10
def spIsSign : Sp := fun vs H Q _ => ∃ c : Nat, vs = [sg c] ∧ 97 ≤ c ∧ c ≤ 122 ∧ Q (.bl true) H
def spCheck : Sp := fun vs H Q _ => ∃ (a : Addr) (t : List Nat), vs = [.ref a] ∧ H a = some (.lst (t.map sg)) ∧ Low t ∧ Q .non H
theorem sg_ge {c : Nat} (h : 97 ≤ c) : (!decide ((sgS c).cps.toList < (Str.ofString "a").cps.toList)) = true := by
  have e : (Str.ofString "a").cps.toList = [97] := by decide +kernel
  rw [e]
  have : ¬ ([c] < [97]) := fun q => by
    cases q with
    | rel r => omega
    | cons r => cases r
  simp [this]
theorem sg_le {c : Nat} (h : c ≤ 122) : (!decide ((Str.ofString "z").cps.toList < (sgS c).cps.toList)) = true := by
  have e : (Str.ofString "z").cps.toList = [122] := by decide +kernel
  rw [e]
  have : ¬ ([122] < [c]) := fun q => by
    cases q with
    | rel r => omega
    | cons r => cases r
  simp [this]
section
variable {P : Program} {w : World} {K : PySem.W.Frag} {mg : Str → Option Value} {base : Heap}
theorem scIsSign : FnScope ["sign"] ["sign"] (defScope sIsSign) := ⟨rfl, rfl, rfl, by decide +kernel, rfl, by decide +kernel, by decide +kernel⟩
theorem ok_is_sign (M : Md K mg) (B : Bl mg) (F : FF K "is_sign" sIsSign) : Fn P w K mg base CX0 "is_sign" 1 ["sign"] spIsSign := by
  refine fn_ok M F scIsSign (fun _ _ _ _ _ _ => us1 fun _ => rfl) (fun vs H Q E h => ?_) (fun f cdv A outer s H vs Q E hr h => ?_)
  · obtain ⟨c, rfl, _⟩ := h; rfl
  · obtain ⟨c, rfl, c1, c2, k⟩ := h
    refine ⟨_, (pss_one (ps_ret (pe_and (pe_isi B.isinst B.str bt_str (pv 0)) (pe_and (pe_cmpR op_eq (pe_lenS B.len (pv 0)) pe_int (nomark _)) (pe_one (pe_chain op_le_str op_le_str pe_str (pv 0) pe_str)))))), ?_⟩
    refine ⟨_, rfl, _, true, TyOf.str _, rfl, _, rfl, iteT ?_⟩
    refine ⟨_, rfl, _, rfl, sz (by show 1 ≤ 1000; decide), rfl, true, rfl, iteT ?_⟩
    refine ⟨_, rfl, _, _, rfl, rfl, _, rfl, ?_⟩
    rw [sg_ge c1]
    refine iteT ⟨_, _, rfl, rfl, ?_⟩
    rw [sg_le c2]
    exact k
theorem scCheck : FnScope ["text", "sign"] ["text"] (defScope sCheck) := ⟨rfl, rfl, rfl, by decide +kernel, rfl, by decide +kernel, by decide +kernel⟩
theorem ok_check (M : Md K mg) (B : Bl mg) (F : FF K "check_signs" sCheck) (Fis_sign : Fn P w K mg base CX0 "is_sign" 1 ["sign"] spIsSign) : Fn P w K mg base CX0 "check_signs" 2 ["text"] spCheck := by
  refine fn_ok M F scCheck (fun _ _ _ _ _ _ => us1 fun _ => rfl) (fun vs H Q E h => ?_) (fun f cdv A outer s H vs Q E hr h => ?_)
  · obtain ⟨a, t, rfl, _⟩ := h; rfl
  · obtain ⟨a, t, rfl, ha, lt, k⟩ := h
    refine ⟨_, (pss_one (ps_for PassesOwn.never rfl (pi_list (pv 0)) (pg_name (i := 1) scCheck.nd rfl (by first | exact Or.inl rfl | exact Or.inr rfl))
      (pss_one (ps_if (pt_not (pt_val (pe_fn Fis_sign hr pass0 (pa_cons (pv 1) pa_nil)))) (pss_one ps_never) pss_nil)))), ?_⟩
    refine ⟨_, rfl, a, rfl, ⟨_, SqL.of ha⟩, for_list (K := K) (a := a) (xs := t.map sg) (fun i σ H2 => H2 = H ∧ ∃ v, σ = [some (.ref a), v]) ⟨rfl, none, rfl⟩ (fun i σ H2 _ h2 => by rw [h2.1]; exact SqL.of ha) ?_ ?_⟩
    · rintro i x σ H2 hx ⟨rfl, v, rfl⟩
      rw [List.getElem?_map] at hx
      cases e : t[i]? with
      | none => rw [e] at hx; cases hx
      | some c =>
        rw [e] at hx
        have : sg c = x := Option.some.inj hx
        subst this
        have hc := lt c (List.mem_of_getElem? e)
        exact ⟨_, rfl, c, rfl, hc.1, hc.2, true, rfl, iteF ⟨rfl, _, rfl⟩⟩
    · rintro σ H2 ⟨rfl, _⟩
      exact k
end

end Ov

namespace Ov
open PySem L2
def ends (t : List Nat) : List Nat := (List.range t.length).filter fun k => decide (t.take k = t.drop (t.length - k))
def spEnds : Sp := fun vs H Q _ => ∃ (a : Addr) (t : List Nat), vs = [.ref a] ∧ H a = some (.lst (t.map sg)) ∧ Low t ∧ t.length ≤ 1000 ∧
  ∀ (r : Addr) (H' : Hp), H r = none → H' r = some (.lst (vInts (ends t))) → Same H H' → Q (.ref r) H'
theorem ends_lt {t : List Nat} {k : Nat} (h : k ∈ ends t) : k < t.length := by
  simp [ends] at h; exact h.1
theorem ends_len (t : List Nat) : (ends t).length ≤ t.length := filter_len _
theorem ends_step {t : List Nat} {i : Nat} : ((List.range (i + 1)).filter fun k => decide (t.take k = t.drop (t.length - k))) = ((List.range i).filter fun k => decide (t.take k = t.drop (t.length - k))) ++ (if t.take i = t.drop (t.length - i) then [i] else []) := by
  rw [List.range_succ, List.filter_append]
  congr 1
  by_cases h : t.take i = t.drop (t.length - i) <;> simp [h]

end Ov

namespace Ov
open PySem L2
abbrev sBorders : Stmt := top 16
section
variable {P : Program} {w : World} {K : PySem.W.Frag} {mg : Str → Option Value} {base : Heap}
theorem scBorders : FnScope ["text", "length"] ["text"] (defScope sBorders) := ⟨rfl, rfl, rfl, by decide +kernel, rfl, by decide +kernel, by decide +kernel⟩
theorem ok_borders (M : Md K mg) (B : Bl mg) (F : FF K "borders" sBorders) (Fcheck_signs : Fn P w K mg base CX0 "check_signs" 2 ["text"] spCheck) : Fn P w K mg base CX0 "borders" 3 ["text"] spEnds := by
  refine fn_ok M F scBorders (fun _ _ _ _ _ _ => us1 fun _ => rfl) (fun vs H Q E h => ?_) (fun f cdv A outer s H vs Q E hr h => ?_)
  · obtain ⟨a, t, rfl, _⟩ := h; rfl
  · obtain ⟨a, t, rfl, ha, lt, hl, k⟩ := h
    refine ⟨_, (pss_cons (ps_expr (pe_fn Fcheck_signs hr pass0 (pa_cons (pv 0) pa_nil)))
      (pss_cons (ps_set (i := 1) scBorders.nd rfl (by first | exact Or.inl rfl | exact Or.inr rfl) (pe_lenL B.len (pv 0)))
      (pss_one (ps_ret (pe_comp ["text", "length"] rfl (pi_range1 (by rfl) B.range (pa_cons (pv 1) pa_nil)) (fun _ => by exact (pif_one (pt_cmpR (op_eqLS (by exact hr)) (pe_slice sl_list (pv 0) po_none (po_some (pv 2))) (pe_slice sl_list (pv 0) (po_some (pe_op op_sub (pv 1) (pv 2))) po_none) (nomark _)))) (fun _ => by exact (pv 2))))))), ?_⟩
    refine ⟨_, rfl, a, t, rfl, ha, lt, ?_⟩
    refine ⟨_, rfl, a, _, rfl, SqL.of ha, ?_⟩
    refine ⟨_, rfl, _, rfl, by rw [List.length_map]; omega, by rw [List.length_map]; omega, fun D hD b => ?_⟩
    rw [List.length_map, Int.toNat_natCast]
    refine comp_range (lo := 0) (n := t.length) (fun i ys H2 => ys = vInts ((List.range i).filter fun k => decide (t.take k = t.drop (t.length - k))) ∧ Same H H2 ∧ H2 D = some (.lst ys)) (small1000 hl) ?_ ?_ ?_ ?_
    · exact ⟨rfl, Same.upd hD, upd_same⟩
    · rintro i ys H2 ⟨rfl, _⟩
      rw [vInts_len]; exact filter_len _
    · rintro i ys H2 hi ⟨rfl, s2, hD2⟩
      refine ⟨_, rfl, _, rfl, _, rfl, a, _, rfl, SqL.of (s2 _ _ ha), fun p1 hp1 => ?_⟩
      have s3 := s2.trans (Same.upd (o := .lst (cutV (t.map sg) none (some (0 + (i : Int))))) hp1)
      refine ⟨_, rfl, _, rfl, _, rfl, _, _, rfl, rfl, _, rfl, a, _, rfl, SqL.of (s3 _ _ ha), fun p2 hp2 => ?_⟩
      have n12 : p1 ≠ p2 := ne_of_none upd_same hp2
      refine ⟨p1, p2, t.take i, t.drop (t.length - i), rfl, rfl, SqL.of ?_, SqL.of ?_, (lt.take _).cp, (lt.drop _).cp, _, rfl, ?_⟩
      · rw [upd_ne n12, upd_same, cutV_cutL, cutL_map, cutL_hi _ _ (by omega), show (0 + (i : Int)).toNat = i by omega]
      · rw [upd_same, cutV_cutL, cutL_map, cutL_lo _ _ (by omega), show ((t.length : Int) - (0 + (i : Int))).toNat = t.length - i by omega]
      · have s4 := s3.trans (Same.upd (o := .lst (cutV (t.map sg) (some ((t.length : Int) - (0 + (i : Int)))) none)) hp2)
        have hD4 := (Same.upd (H := L2.upd H2 p1 _) (o := .lst (cutV (t.map sg) (some ((t.length : Int) - (0 + (i : Int)))) none)) hp2) _ _ ((Same.upd (o := .lst (cutV (t.map sg) none (some (0 + (i : Int))))) hp1) _ _ hD2)
        refine ite2 (fun hc => ?_) (fun hc => ?_)
        · have hc' : t.take i = t.drop (t.length - i) := by simpa using hc
          refine ⟨_, rfl, hD4, ?_, ?_, upd_same⟩
          · rw [ends_step, if_pos hc', vInts_snoc]
          · intro b o e
            rw [upd_ne (ne_of_none e hD)]
            exact s4 b o e
        · have hc' : ¬ t.take i = t.drop (t.length - i) := by simpa using hc
          refine ⟨?_, s4, hD4⟩
          rw [ends_step, if_neg hc', List.append_nil]
    · rintro ys H2 ⟨rfl, s2, hD2⟩
      exact k D H2 hD hD2 s2
end

end Ov

namespace Ov
open PySem L2
abbrev sPeriods : Stmt := top 17
def pers (t : List Nat) : List Nat := (ends t).reverse.map (t.length - ·)
def spPeriods : Sp := fun vs H Q _ => ∃ (a : Addr) (t : List Nat), vs = [.ref a] ∧ H a = some (.lst (t.map sg)) ∧ Low t ∧ t.length ≤ 1000 ∧
  ∀ (r : Addr) (H' : Hp), H r = none → H' r = some (.lst (vInts (pers t))) → Same H H' → Q (.ref r) H'
theorem take_rev {α : Type} (xs : List α) (i : Nat) (x : α) (h : xs[xs.length - 1 - i]? = some x) (hi : i < xs.length) : xs.reverse.take (i + 1) = xs.reverse.take i ++ [x] := by
  rw [List.take_add_one, List.getElem?_reverse hi, h]
  rfl
section
variable {P : Program} {w : World} {K : PySem.W.Frag} {mg : Str → Option Value} {base : Heap}
theorem scPeriods : FnScope ["text"] ["text"] (defScope sPeriods) := ⟨rfl, rfl, rfl, by decide +kernel, rfl, by decide +kernel, by decide +kernel⟩
theorem ok_periods (M : Md K mg) (B : Bl mg) (F : FF K "periods" sPeriods) (Fborders : Fn P w K mg base CX0 "borders" 3 ["text"] spEnds) : Fn P w K mg base CX0 "periods" 4 ["text"] spPeriods := by
  refine fn_ok M F scPeriods (fun _ _ _ _ _ _ => us1 fun _ => rfl) (fun vs H Q E h => ?_) (fun f cdv A outer s H vs Q E hr h => ?_)
  · obtain ⟨a, t, rfl, _⟩ := h; rfl
  · obtain ⟨a, t, rfl, ha, lt, hl, k⟩ := h
    refine ⟨_, (pss_one (ps_ret (pe_comp ["text"] rfl (pi_rev B.rev (pe_fn Fborders hr pass0 (pa_cons (pv 0) pa_nil))) (fun _ => by exact pif_nil) (fun _ => by exact (pe_op op_sub (pe_lenL B.len (pv 0)) (pv 1)))))), ?_⟩
    refine ⟨_, rfl, a, t, rfl, ha, lt, hl, fun r H1 hr0 hr1 s1 => ?_⟩
    refine ⟨r, _, rfl, SqL.of hr1, fun D hD b => ?_⟩
    have el := ends_len t
    refine comp_rev (K := K) (a := r) (xs := vInts (ends t)) (fun i ys H2 => ys = vInts (((ends t).reverse.take i).map (t.length - ·)) ∧ Same H1 H2 ∧ H2 D = some (.lst ys)) (by rw [vInts_len]; exact small1000 (by omega)) ?_ ?_ ?_ ?_ ?_
    · exact ⟨by simp [vInts], Same.upd hD, upd_same⟩
    · rintro i ys H2 ⟨rfl, _⟩
      rw [vInts_len, List.length_map, List.length_take]; omega
    · rintro i ys H2 _ ⟨rfl, s2, _⟩; exact SqL.of (s2 _ _ hr1)
    · rintro i x ys H2 hx hi ⟨rfl, s2, hD2⟩
      refine tNoIf_go ?_
      rw [vInts_len] at hx hi
      obtain ⟨k, hk, rfl⟩ : ∃ k, (ends t)[(ends t).length - 1 - i]? = some k ∧ x = V.int (k : Int) := by
        unfold vInts at hx
        rw [List.map_map, List.getElem?_map] at hx
        cases q : (ends t)[(ends t).length - 1 - i]? with
        | none => rw [q] at hx; cases hx
        | some k =>
          rw [q] at hx
          exact ⟨k, rfl, (Option.some.inj hx).symm⟩
      have hk' := ends_lt (List.mem_of_getElem? hk)
      refine ⟨_, rfl, a, _, rfl, SqL.of (s2 _ _ (s1 _ _ ha)), _, rfl, _, _, rfl, rfl, hD2, ?_, ?_, upd_same⟩
      · rw [take_rev _ _ _ hk hi, List.map_append, List.length_map]
        show vInts _ ++ [V.int ((t.length : Int) - (k : Int))] = vInts (_ ++ [t.length - k])
        rw [vInts_snoc, Int.zero_add, Int.ofNat_sub (Nat.le_of_lt hk')]
      · intro b o e
        rw [upd_ne (ne_of_none e hD)]
        exact s2 b o e
    · rintro ys H2 ⟨rfl, s2, hD2⟩
      refine k D H2 (s1.free hD) ?_ (s1.trans s2)
      rw [hD2, vInts_len, List.take_of_length_le (by simp)]
      rfl
end

end Ov

namespace Ov
open PySem L2
/-- the places at which u lies in t -/
def liesIn (t u : List Nat) : List Nat := (List.range (t.length + 1 - u.length)).filter fun p => decide ((t.drop p).take u.length = u)
/-- the places at which the word's signs are others, up to the j-th -/
def parts (t u : List Nat) (p j : Nat) : List Nat := (List.range j).filter fun q => !decide (t[p + q]? = u[q]?)
theorem lies_step (t u : List Nat) (i : Nat) : ((List.range (i + 1)).filter fun p => decide ((t.drop p).take u.length = u)) = ((List.range i).filter fun p => decide ((t.drop p).take u.length = u)) ++ (if (t.drop i).take u.length = u then [i] else []) := by
  rw [List.range_succ, List.filter_append]
  congr 1
  by_cases h : (t.drop i).take u.length = u <;> simp [h]
def spLies : Sp := fun vs H Q _ => ∃ (a b : Addr) (t u : List Nat), vs = [.ref a, .ref b] ∧ H a = some (.lst (t.map sg)) ∧ H b = some (.lst (u.map sg)) ∧ Low t ∧ Low u ∧ t.length ≤ 900 ∧ u.length ≤ 900 ∧ 1 ≤ u.length ∧
  ∀ (r : Addr) (H' : Hp), H r = none → H' r = some (.lst (vInts (liesIn t u))) → Same H H' → Q (.ref r) H'

end Ov

namespace Ov
open PySem L2
abbrev sCheckWord : Stmt := top 11
abbrev sLiesAt : Stmt := top 18
def spCheckWord : Sp := fun vs H Q _ => ∃ (a : Addr) (t : List Nat), vs = [.ref a] ∧ H a = some (.lst (t.map sg)) ∧ Low t ∧ 1 ≤ t.length ∧ Q .non H
section
variable {P : Program} {w : World} {K : PySem.W.Frag} {mg : Str → Option Value} {base : Heap}
theorem scCheckWord : FnScope ["word"] ["word"] (defScope sCheckWord) := ⟨rfl, rfl, rfl, by decide +kernel, rfl, by decide +kernel, by decide +kernel⟩
theorem ok_check_word (M : Md K mg) (B : Bl mg) (F : FF K "check_word" sCheckWord) (Fcheck_signs : Fn P w K mg base CX0 "check_signs" 2 ["text"] spCheck) : Fn P w K mg base CX0 "check_word" 3 ["word"] spCheckWord := by
  refine fn_ok M F scCheckWord (fun _ _ _ _ _ _ => us1 fun _ => rfl) (fun vs H Q E h => ?_) (fun f cdv A outer s H vs Q E hr h => ?_)
  · obtain ⟨a, t, rfl, _⟩ := h; rfl
  · obtain ⟨a, t, rfl, ha, lt, t1, k⟩ := h
    refine ⟨_, (pss_cons (ps_if (pt_cmpR op_eq (pe_lenL B.len (pv 0)) pe_int (nomark _)) (pss_one ps_never) pss_nil)
      (pss_one (ps_expr (pe_fn Fcheck_signs hr pass0 (pa_cons (pv 0) pa_nil))))), ?_⟩
    refine ⟨_, rfl, a, _, rfl, SqL.of ha, rfl, _, rfl, ?_⟩
    rw [decide_eq_false (fun q => by have := V.int.inj q; rw [List.length_map] at this; omega)]
    exact iteF ⟨_, rfl, a, t, rfl, ha, lt, k⟩
theorem scLiesAt : FnScope ["text", "word", "many"] ["text", "word"] (defScope sLiesAt) := ⟨rfl, rfl, rfl, by decide +kernel, rfl, by decide +kernel, by decide +kernel⟩
theorem ok_lies_at (M : Md K mg) (B : Bl mg) (F : FF K "lies_at" sLiesAt) (Fcheck_signs : Fn P w K mg base CX0 "check_signs" 2 ["text"] spCheck) (Fcheck_word : Fn P w K mg base CX0 "check_word" 3 ["word"] spCheckWord) : Fn P w K mg base CX0 "lies_at" 4 ["text", "word"] spLies := by
  refine fn_ok M F scLiesAt (fun _ _ _ _ _ _ => us2 fun _ _ => rfl) (fun vs H Q E h => ?_) (fun f cdv A outer s H vs Q E hr h => ?_)
  · obtain ⟨a, b, t, u, rfl, _⟩ := h; rfl
  · obtain ⟨a, b, t, u, rfl, ha, hb, lt, lu, tl, ul, u1, k⟩ := h
    refine ⟨_, (pss_cons (ps_expr (pe_fn Fcheck_word hr pass0 (pa_cons (pv 1) pa_nil)))
      (pss_cons (ps_expr (pe_fn Fcheck_signs hr pass0 (pa_cons (pv 0) pa_nil)))
      (pss_cons (ps_set (i := 2) scLiesAt.nd rfl (by first | exact Or.inl rfl | exact Or.inr rfl) (pe_lenL B.len (pv 1)))
      (pss_one (ps_ret (pe_comp ["text", "word", "many"] rfl (pi_range1 (by rfl) B.range (pa_cons (pe_op op_add (pe_op op_sub (pe_lenL B.len (pv 0)) (pv 2)) pe_int) pa_nil)) (fun _ => by exact (pif_one (pt_cmpR (op_eqLS (by exact hr)) (pe_slice sl_list (pv 0) (po_some (pv 3)) (po_some (pe_op op_add (pv 3) (pv 2)))) (pv 1) (nomark _)))) (fun _ => by exact (pv 3)))))))), ?_⟩
    refine ⟨_, rfl, b, u, rfl, hb, lu, u1, ?_⟩
    refine ⟨_, rfl, a, t, rfl, ha, lt, ?_⟩
    refine ⟨_, rfl, b, _, rfl, SqL.of hb, ?_⟩
    refine ⟨_, rfl, a, _, rfl, SqL.of ha, _, rfl, _, _, rfl, rfl, _, _, rfl, rfl, _, rfl, by rw [List.length_map, List.length_map]; omega, by rw [List.length_map, List.length_map]; omega, fun D hD cb => ?_⟩
    rw [List.length_map, List.length_map, show ((t.length : Int) - (u.length : Int) + 1).toNat = t.length + 1 - u.length by omega]
    refine comp_range (lo := 0) (n := t.length + 1 - u.length) (fun i ys H2 => ys = vInts ((List.range i).filter fun p => decide ((t.drop p).take u.length = u)) ∧ Same H H2 ∧ H2 D = some (.lst ys)) (small1000 (by omega)) ?_ ?_ ?_ ?_
    · exact ⟨rfl, Same.upd hD, upd_same⟩
    · rintro i ys H2 ⟨rfl, _⟩
      rw [vInts_len]; exact filter_len _
    · rintro i ys H2 hi ⟨rfl, s2, hD2⟩
      refine ⟨_, rfl, _, rfl, _, rfl, _, rfl, _, rfl, _, _, rfl, rfl, _, rfl, a, _, rfl, SqL.of (s2 _ _ ha), fun p1 hp1 => ?_⟩
      have s3 := s2.trans (Same.upd (o := .lst (cutV (t.map sg) (some (0 + (i : Int))) (some (0 + (i : Int) + (u.length : Int))))) hp1)
      refine ⟨_, rfl, p1, b, (t.drop i).take u.length, u, rfl, rfl, SqL.of ?_, SqL.of (s3 _ _ hb), ((lt.drop _).take _).cp, lu.cp, _, rfl, ?_⟩
      · rw [upd_same, cutV_cutL, cutL_map, cutL_both _ _ _ (by omega) (by omega), show (0 + (i : Int)).toNat = i by omega, show (0 + (i : Int) + (u.length : Int)).toNat - i = u.length by omega]
      · have hD3 := (Same.upd (o := .lst (cutV (t.map sg) (some (0 + (i : Int))) (some (0 + (i : Int) + (u.length : Int))))) hp1) _ _ hD2
        refine ite2 (fun hc => ?_) (fun hc => ?_)
        · have hc' : (t.drop i).take u.length = u := by simpa using hc
          refine ⟨_, rfl, hD3, ?_, ?_, upd_same⟩
          · rw [lies_step, if_pos hc', vInts_snoc]
          · intro b o e
            rw [upd_ne (ne_of_none e hD)]
            exact s3 b o e
        · have hc' : ¬ (t.drop i).take u.length = u := by simpa using hc
          refine ⟨?_, s3, hD3⟩
          rw [lies_step, if_neg hc', List.append_nil]
    · rintro ys H2 ⟨rfl, s2, hD2⟩
      exact k D H2 hD hD2 s2
end

end Ov

namespace Ov
open PySem L2
theorem takeWhile_all {α : Type} {f : α → Bool} : ∀ {l : List α}, (∀ x ∈ l, f x = true) → l.takeWhile f = l
  | [], _ => rfl
  | x :: l, h => by
    rw [List.takeWhile_cons, h x List.mem_cons_self, if_pos rfl, takeWhile_all fun y hy => h y (List.mem_cons_of_mem _ hy)]
theorem mem_takeWhile {α : Type} {f : α → Bool} {y : α} : ∀ {l : List α}, y ∈ l.takeWhile f → f y = true
  | [], h => by cases h
  | x :: l, h => by
    rw [List.takeWhile_cons] at h
    cases q : f x with
    | false => rw [q] at h; cases h
    | true =>
      rw [q, if_pos rfl] at h
      rcases List.mem_cons.mp h with rfl | h
      · exact q
      · exact mem_takeWhile h
/-- a sign is in one of the places -/
def cov (ks : List Nat) (m i : Nat) : Bool := ks.any fun p => decide (p ≤ i ∧ i < p + m)
/-- the least sign that is in none of them (n where there is none) -/
def bareOf (n m : Nat) (ks : List Nat) : Nat := ((List.range n).takeWhile (cov ks m)).length
theorem bareOf_le (n m : Nat) (ks : List Nat) : bareOf n m ks ≤ n := by
  unfold bareOf
  have := (List.takeWhile_sublist (cov ks m) (l := List.range n)).length_le
  simpa using this
theorem takeWhile_len {n x : Nat} {f : Nat → Bool} (hx : x ≤ n) (h1 : ∀ i, i < x → f i = true) (h2 : x < n → f x = false) : ((List.range n).takeWhile f).length = x := by
  have e : List.range n = List.range x ++ (List.range (n - x)).map (x + ·) := by
    rw [← List.range_add]; congr 1; omega
  have a : (List.range x).takeWhile f = List.range x := by
    apply takeWhile_all
    intro i hi
    exact h1 i (by simpa using hi)
  rw [e, List.takeWhile_append, a]
  simp only [List.length_range, if_true]
  by_cases hlt : x < n
  · obtain ⟨d, hd⟩ : ∃ d, n - x = d + 1 := ⟨n - x - 1, by omega⟩
    rw [hd, List.range_succ_eq_map, List.map_cons, List.takeWhile_cons]
    simp [h2 hlt]
  · have : n - x = 0 := by omega
    rw [this]; simp
theorem takeWhile_true {n : Nat} {f : Nat → Bool} {i : Nat} (h : i < ((List.range n).takeWhile f).length) : f i = true := by
  have hp := List.takeWhile_prefix f (l := List.range n)
  have e : ((List.range n).takeWhile f)[i]? = (List.range n)[i]? := by
    obtain ⟨r, hr⟩ := hp
    conv => rhs; rw [← hr]
    rw [List.getElem?_append_left h]
  have hi : i < n := by
    have := hp.length_le
    simp at this; omega
  have m : i ∈ (List.range n).takeWhile f := by
    rw [List.mem_iff_getElem?]
    exact ⟨i, by rw [e]; simp [hi]⟩
  exact mem_takeWhile m
theorem bareOf_cov {n m : Nat} {ks : List Nat} {i : Nat} (h : i < bareOf n m ks) : cov ks m i = true := takeWhile_true h
theorem bareOf_eq {n m x : Nat} {ks : List Nat} (hx : x ≤ n) (h1 : ∀ i, i < x → cov ks m i = true) (h2 : x < n → cov ks m x = false) : bareOf n m ks = x := takeWhile_len hx h1 h2
/-- going along -/
def fb (m : Nat) : Nat → List Nat → Nat
  | reach, [] => reach
  | reach, p :: r => if p > reach then reach else fb m (p + m) r
theorem cov_true {ks : List Nat} {m i : Nat} : cov ks m i = true ↔ ∃ p ∈ ks, p ≤ i ∧ i < p + m := by
  unfold cov
  rw [List.any_eq_true]
  constructor
  · rintro ⟨p, hp, h⟩; exact ⟨p, hp, of_decide_eq_true h⟩
  · rintro ⟨p, hp, h⟩; exact ⟨p, hp, decide_eq_true h⟩
theorem cov_false {ks : List Nat} {m i : Nat} : cov ks m i = false ↔ ∀ p ∈ ks, ¬ (p ≤ i ∧ i < p + m) := by
  rw [← Bool.not_eq_true, cov_true]
  constructor
  · intro h p hp q; exact h ⟨p, hp, q⟩
  · rintro h ⟨p, hp, q⟩; exact h p hp q
theorem fb_spec {m n : Nat} : ∀ (ks D : List Nat) (R : Nat), (D ++ ks).Pairwise (· < ·) → (∀ p ∈ D, p + m ≤ R) → (∀ i, i < R → cov D m i = true) → R ≤ n → (∀ p ∈ ks, p + m ≤ n) →
    fb m R ks ≤ n ∧ (∀ i, i < fb m R ks → cov (D ++ ks) m i = true) ∧ cov (D ++ ks) m (fb m R ks) = false
  | [], D, R, hs, hd, hc, hr, hk => by
    rw [List.append_nil]
    refine ⟨hr, hc, ?_⟩
    rw [cov_false]
    intro p hp q
    have := hd p hp
    simp only [fb] at q
    omega
  | p :: r, D, R, hs, hd, hc, hr, hk => by
    simp only [fb]
    have hsp := List.pairwise_append.mp hs
    have hpr := List.pairwise_cons.mp hsp.2.1
    by_cases h : p > R
    · rw [if_pos h]
      refine ⟨hr, fun i hi => ?_, ?_⟩
      · obtain ⟨q, hq, z⟩ := cov_true.mp (hc i hi)
        exact cov_true.mpr ⟨q, List.mem_append_left _ hq, z⟩
      · rw [cov_false]
        intro q hq z
        rcases List.mem_append.mp hq with hq | hq
        · have := hd q hq; omega
        · rcases List.mem_cons.mp hq with rfl | hq
          · omega
          · have := hpr.1 q hq; omega
    · rw [if_neg h]
      have e : D ++ p :: r = (D ++ [p]) ++ r := by simp
      rw [e] at hs ⊢
      refine fb_spec r (D ++ [p]) (p + m) hs (fun q hq => ?_) (fun i hi => ?_) (hk p List.mem_cons_self) (fun q hq => hk q (List.mem_cons_of_mem _ hq))
      · rcases List.mem_append.mp hq with hq | hq
        · have := hsp.2.2 q hq p List.mem_cons_self; omega
        · rw [List.mem_singleton.mp hq]; omega
      · by_cases hi2 : i < R
        · obtain ⟨q, hq, z⟩ := cov_true.mp (hc i hi2)
          exact cov_true.mpr ⟨q, List.mem_append_left _ hq, z⟩
        · exact cov_true.mpr ⟨p, by simp, by omega, hi⟩
theorem fb_bare {m n : Nat} {ks : List Nat} (hs : ks.Pairwise (· < ·)) (hk : ∀ p ∈ ks, p + m ≤ n) : fb m 0 ks = bareOf n m ks := by
  obtain ⟨h1, h2, h3⟩ := fb_spec (m := m) (n := n) ks [] 0 (by simpa using hs) (by simp) (by simp) (Nat.zero_le _) hk
  rw [List.nil_append] at h2 h3
  exact (bareOf_eq h1 h2 fun _ => h3).symm
theorem lies_sorted (t u : List Nat) : (liesIn t u).Pairwise (· < ·) := by
  unfold liesIn
  exact List.Pairwise.filter _ List.pairwise_lt_range
theorem lies_in {t u : List Nat} {p : Nat} (h : p ∈ liesIn t u) (u1 : 1 ≤ u.length) : p + u.length ≤ t.length := by
  unfold liesIn at h
  have := (List.mem_filter.mp h).1
  simp at this
  omega

end Ov

namespace Ov
open PySem L2
abbrev sShifts : Stmt := top 21
theorem rev_range (n : Nat) : (List.range n).reverse.map (n - ·) = (List.range n).map (· + 1) := by
  apply List.ext_getElem
  · simp
  · intro i h1 h2
    simp at h1 h2 ⊢
    omega
theorem pers_shifts (t : List Nat) : pers t = shiftsOf t := by
  unfold pers ends shiftsOf
  rw [← List.filter_reverse, ← rev_range, List.filter_map]
  congr 1
  apply List.filter_congr
  intro k hk
  have hk' : k < t.length := by simpa using hk
  show decide _ = decide _
  have e : t.length - (t.length - k) = k := by omega
  rw [e]
  exact decide_eq_decide.mpr ⟨fun h => h.symm, fun h => h.symm⟩
section
variable {P : Program} {w : World} {K : PySem.W.Frag} {mg : Str → Option Value} {base : Heap}
theorem scShifts : FnScope ["word"] ["word"] (defScope sShifts) := ⟨rfl, rfl, rfl, by decide +kernel, rfl, by decide +kernel, by decide +kernel⟩
theorem ok_shifts (M : Md K mg) (B : Bl mg) (F : FF K "shifts" sShifts) (Fcheck_word : Fn P w K mg base CX0 "check_word" 3 ["word"] spCheckWord) (Fperiods : Fn P w K mg base CX0 "periods" 4 ["text"] spPeriods) : Fn P w K mg base CX0 "shifts" 5 ["word"] spShifts := by
  refine fn_ok M F scShifts (fun _ _ _ _ _ _ => us1 fun _ => rfl) (fun vs H Q E h => ?_) (fun f cdv A outer s H vs Q E hr h => ?_)
  · obtain ⟨a, t, rfl, _⟩ := h; rfl
  · obtain ⟨a, t, rfl, ha, lt, t1, tl, k⟩ := h
    refine ⟨_, (pss_cons (ps_expr (pe_fn Fcheck_word hr pass0 (pa_cons (pv 0) pa_nil)))
      (pss_one (ps_ret (pe_fn Fperiods hr pass0 (pa_cons (pv 0) pa_nil))))), ?_⟩
    refine ⟨_, rfl, a, t, rfl, ha, lt, t1, ?_⟩
    refine ⟨_, rfl, a, t, rfl, ha, lt, by omega, fun r H1 hr0 hr1 s1 => k r H1 hr0 ?_ s1⟩
    rw [hr1, pers_shifts]
end

end Ov

namespace Ov
open PySem L2
/-! chains of a word on a text: what they cost, and the least of them -/
/-- how many of the word's first k signs, laid at p, are wrong -/
def mis (t u : List Nat) (p : Nat) : Nat → Nat
  | 0 => 0
  | k + 1 => mis t u p k + (if t[p + k]? = u[k]? then 0 else 1)
theorem mis_le (t u : List Nat) (p : Nat) : ∀ k, mis t u p k ≤ k
  | 0 => Nat.le_refl _
  | k + 1 => by
    have := mis_le t u p k
    simp only [mis]
    split <;> omega
theorem mis_split {t u : List Nat} {p s : Nat} (h : ∀ q, q < u.length - s → u[s + q]? = u[q]?) : ∀ j, j ≤ u.length - s → mis t u p (s + j) = mis t u p s + mis t u (p + s) j
  | 0, _ => by simp [mis]
  | j + 1, hj => by
    have ih := mis_split (t := t) (p := p) h j (by omega)
    rw [show s + (j + 1) = (s + j) + 1 by omega]
    simp only [mis]
    rw [ih, h j (by omega), show p + (s + j) = p + s + j by omega]
    omega
/-- a chain by steps of S from p to q -/
inductive Ch (S : List Nat) : Nat → Nat → List Nat → Prop
  | one (p : Nat) : Ch S p p [p]
  | cons {p s q : Nat} {l : List Nat} : s ∈ S → Ch S (p + s) q l → Ch S p q (p :: l)
theorem Ch.head {S : List Nat} {p q : Nat} {l : List Nat} (h : Ch S p q l) : ∃ r, l = p :: r := by
  cases h with
  | one => exact ⟨[], rfl⟩
  | cons _ _ => exact ⟨_, rfl⟩
theorem Ch.le {S : List Nat} {p q : Nat} {l : List Nat} (h : Ch S p q l) : p ≤ q := by
  induction h with
  | one => exact Nat.le_refl _
  | cons _ _ ih => omega
theorem Ch.snoc {S : List Nat} {p q s : Nat} {l : List Nat} (h : Ch S p q l) (hs : s ∈ S) : Ch S p (q + s) (l ++ [q + s]) := by
  induction h with
  | one p => exact Ch.cons hs (Ch.one _)
  | cons h1 h2 ih => exact Ch.cons h1 ih
theorem Ch.unsnoc {S : List Nat} {p q : Nat} {l : List Nat} (h : Ch S p q l) : (p = q ∧ l = [p]) ∨ ∃ s q' l', s ∈ S ∧ Ch S p q' l' ∧ q = q' + s ∧ l = l' ++ [q] := by
  induction h with
  | one p => exact .inl ⟨rfl, rfl⟩
  | @cons p s q l h1 h2 ih =>
    refine .inr ?_
    rcases ih with ⟨e1, e2⟩ | ⟨s', q', l', hs, hc, e1, e2⟩
    · subst e1 e2
      exact ⟨s, p, [p], h1, Ch.one _, rfl, rfl⟩
    · subst e1 e2
      exact ⟨s', q', p :: l', hs, Ch.cons h1 hc, rfl, rfl⟩
theorem Ch.last {S : List Nat} {p q : Nat} {l : List Nat} (h : Ch S p q l) : ∃ r, l = r ++ [q] := by
  rcases h.unsnoc with ⟨e1, e2⟩ | ⟨s, q', l', _, _, _, e⟩
  · subst e1 e2; exact ⟨[], rfl⟩
  · exact ⟨l', e⟩
/-- what a chain costs: each place up to the next one, the last one whole -/
def cst (t u : List Nat) : List Nat → Nat
  | [] => 0
  | [p] => mis t u p u.length
  | p :: q :: l => mis t u p (q - p) + cst t u (q :: l)
theorem cst_cons {S t u : List Nat} {p s q : Nat} {l : List Nat} (h : Ch S (p + s) q l) : cst t u (p :: l) = mis t u p s + cst t u l := by
  obtain ⟨r, e⟩ := h.head
  subst e
  simp only [cst]
  rw [show p + s - p = s by omega]
/-- a word's steps: at each it agrees with itself -/
def Steps (u S : List Nat) : Prop := ∀ s ∈ S, 1 ≤ s ∧ s ≤ u.length ∧ ∀ q, q < u.length - s → u[s + q]? = u[q]?
theorem cst_snoc {S t u : List Nat} (hS : Steps u S) {p q s : Nat} {l : List Nat} (h : Ch S p q l) (hs : s ∈ S) : cst t u (l ++ [q + s]) + mis t u (q + s) (u.length - s) = cst t u l + mis t u (q + s) u.length := by
  induction h with
  | one p =>
    obtain ⟨_, h2, h3⟩ := hS s hs
    have := mis_split (t := t) (p := p) h3 (u.length - s) (Nat.le_refl _)
    rw [show s + (u.length - s) = u.length by omega] at this
    show cst t u [p, p + s] + _ = _
    simp only [cst]
    rw [show p + s - p = s by omega, this]
    omega
  | @cons p s' q l h1 h2 ih =>
    rw [List.cons_append, cst_cons (h2.snoc hs), cst_cons h2]
    omega
abbrev il (l : List Nat) : List Int := l.map fun (x : Nat) => (x : Int)
def kyN (c k : Nat) (l : List Nat) : K3 := ((c : Int), (k : Int), il l)
theorem ltL_iff2 (a b c d : Int) (x y : List Int) : lt3 (a, b, x) (c, d, y) = true ↔ a < c ∨ (a = c ∧ (b < d ∨ (b = d ∧ ltL x y = true))) := by
  unfold lt3
  simp only [ltL]
  by_cases h1 : a = c
  · rw [if_pos h1]
    by_cases h2 : b = d
    · rw [if_pos h2]
      constructor
      · intro h; exact .inr ⟨h1, .inr ⟨h2, h⟩⟩
      · rintro (h | ⟨_, h | ⟨_, h⟩⟩)
        · omega
        · omega
        · exact h
    · rw [if_neg h2]
      constructor
      · intro h; exact .inr ⟨h1, .inl (of_decide_eq_true h)⟩
      · rintro (h | ⟨_, h | ⟨h, _⟩⟩)
        · omega
        · exact decide_eq_true h
        · exact absurd h h2
  · rw [if_neg h1]
    constructor
    · intro h; exact .inl (of_decide_eq_true h)
    · rintro (h | ⟨h, _⟩)
      · exact decide_eq_true h
      · exact absurd h h1
theorem kyN_lt {c k c' k' : Nat} {l l' : List Nat} : lt3 (kyN c k l) (kyN c' k' l') = true ↔ c < c' ∨ (c = c' ∧ (k < k' ∨ (k = k' ∧ ltL (il l) (il l') = true))) := by
  unfold kyN
  rw [ltL_iff2]
  constructor
  · rintro (h | ⟨h, h' | ⟨h', h''⟩⟩)
    · exact .inl (by omega)
    · exact .inr ⟨by omega, .inl (by omega)⟩
    · exact .inr ⟨by omega, .inr ⟨by omega, h''⟩⟩
  · rintro (h | ⟨h, h' | ⟨h', h''⟩⟩)
    · exact .inl (by omega)
    · exact .inr ⟨by omega, .inl (by omega)⟩
    · exact .inr ⟨by omega, .inr ⟨by omega, h''⟩⟩
/-- of two unlike lists one is the lesser -/
theorem ltL_total : ∀ (xs ys : List Int), ltL xs ys = true ∨ xs = ys ∨ ltL ys xs = true
  | [], [] => .inr (.inl rfl)
  | [], _ :: _ => .inl rfl
  | _ :: _, [] => .inr (.inr rfl)
  | x :: xs, y :: ys => by
    simp only [ltL]
    by_cases e : x = y
    · subst e
      rw [if_pos rfl, if_pos rfl]
      rcases ltL_total xs ys with h | h | h
      · exact .inl h
      · exact .inr (.inl (by rw [h]))
      · exact .inr (.inr h)
    · rw [if_neg e, if_neg (Ne.symm e)]
      rcases Int.lt_or_gt_of_ne e with h | h
      · exact .inl (decide_eq_true h)
      · exact .inr (.inr (decide_eq_true h))
theorem lt3_total (x y : K3) : lt3 x y = true ∨ x = y ∨ lt3 y x = true := by
  unfold lt3
  rcases ltL_total (x.1 :: x.2.1 :: x.2.2) (y.1 :: y.2.1 :: y.2.2) with h | h | h
  · exact .inl h
  · refine .inr (.inl ?_)
    injection h with h1 h
    injection h with h2 h3
    obtain ⟨a, b, c⟩ := x
    obtain ⟨a', b', c'⟩ := y
    simp only at h1 h2 h3
    subst h1 h2 h3
    rfl
  · exact .inr (.inr h)
theorem lt3_anti {x y : K3} (h1 : lt3 x y = false) (h2 : lt3 y x = false) : x = y := by
  rcases lt3_total x y with q | q | q
  · rw [q] at h1; cases h1
  · exact q
  · rw [q] at h2; cases h2
theorem il_inj {a b : List Nat} (h : il a = il b) : a = b := by
  induction a generalizing b with
  | nil => cases b with
    | nil => rfl
    | cons y b => cases h
  | cons x a ih => cases b with
    | nil => cases h
    | cons y b =>
      injection h with h1 h2
      have h1 : (x : Int) = (y : Int) := h1
      rw [ih h2, show x = y by omega]
/-- what is compared of a chain: its cost, its places, and they themselves, if asked -/
def ky (t u : List Nat) (w : Bool) (l : List Nat) : K3 := kyN (cst t u l) l.length (if w = true then l else [0])
def Least (S t u : List Nat) (w : Bool) (p q : Nat) (l : List Nat) : Prop := Ch S p q l ∧ ∀ l', Ch S p q l' → lt3 (ky t u w l') (ky t u w l) = false
theorem Least.uniq {S t u : List Nat} {p q : Nat} {l l' : List Nat} (h : Least S t u true p q l) (h' : Least S t u true p q l') : l = l' := by
  have e := lt3_anti (h.2 l' h'.1) (h'.2 l h.1)
  unfold ky kyN at e
  have e2 : il (if (true : Bool) = true then l' else [0]) = il (if (true : Bool) = true then l else [0]) := congrArg (fun z => z.2.2) e
  rw [if_pos rfl, if_pos rfl] at e2
  exact (il_inj e2).symm
theorem ky_le {t u : List Nat} {w : Bool} {l l' : List Nat} (h : lt3 (ky t u w l') (ky t u w l) = false) : cst t u l ≤ cst t u l' := by
  refine Nat.le_of_not_lt fun z => ?_
  have := kyN_lt.mpr (.inl z : cst t u l' < cst t u l ∨ (cst t u l' = cst t u l ∧ (l'.length < l.length ∨ (l'.length = l.length ∧ ltL (il (if w = true then l' else [0])) (il (if w = true then l else [0])) = true))))
  unfold ky at h
  rw [this] at h
  cases h
theorem Least.cost {S t u : List Nat} {w w' : Bool} {p q : Nat} {l l' : List Nat} (h : Least S t u w p q l) (h' : Least S t u w' p q l') : cst t u l = cst t u l' :=
  Nat.le_antisymm (ky_le (h.2 l' h'.1)) (ky_le (h'.2 l h.1))
theorem least_one {S t u : List Nat} {w : Bool} (p : Nat) (hS : Steps u S) : Least S t u w p p [p] := by
  refine ⟨Ch.one _, fun l' h => ?_⟩
  cases h with
  | one => exact lt3_irr _
  | cons h1 h2 => have := h2.le; have := (hS _ h1).1; omega
/-- the best way on, by its first step -/
theorem least_cons {S t u : List Nat} {p q s0 : Nat} {l0 : List Nat} (hpq : p < q) (h0 : s0 ∈ S) (L0 : Least S t u true (p + s0) q l0)
    (all : ∀ s ∈ S, (∃ l, Ch S (p + s) q l) → ∃ l, Least S t u true (p + s) q l ∧ lt3 (kyN (mis t u p s + cst t u l) (l.length + 1) [p + s]) (kyN (mis t u p s0 + cst t u l0) (l0.length + 1) [p + s0]) = false) :
    Least S t u true p q (p :: l0) := by
  refine ⟨Ch.cons h0 L0.1, fun l' h => ?_⟩
  refine Bool.eq_false_iff.mpr fun z => ?_
  cases h with
  | one => omega
  | @cons _ s _ l'' h1 h2 =>
    unfold ky at z
    rw [cst_cons h2, cst_cons L0.1, if_pos rfl, if_pos rfl] at z
    have z' := kyN_lt.mp z
    simp only [List.length_cons] at z'
    have hcons : ∀ a b : List Nat, ltL (il (p :: a)) (il (p :: b)) = ltL (il a) (il b) := fun a b => by
      show ltL ((p : Int) :: il a) ((p : Int) :: il b) = _
      simp only [ltL]; rw [if_pos trivial]
    rw [hcons] at z'
    by_cases es : s = s0
    · subst es
      have := L0.2 l'' h2
      have yes : lt3 (ky t u true l'') (ky t u true l0) = true := by
        unfold ky
        rw [kyN_lt, if_pos rfl, if_pos rfl]
        rcases z' with z' | ⟨z', y | ⟨y, y'⟩⟩
        · exact .inl (by omega)
        · exact .inr ⟨by omega, .inl (by omega)⟩
        · exact .inr ⟨by omega, .inr ⟨by omega, y'⟩⟩
      rw [yes] at this
      cases this
    · obtain ⟨l1, L1, c1⟩ := all s h1 ⟨l'', h2⟩
      have d1 := L1.2 l'' h2
      have n1 : ¬ _ := fun y => by rw [kyN_lt.mpr y] at c1; cases c1
      have n2 : ¬ (cst t u l'' < cst t u l1 ∨ (cst t u l'' = cst t u l1 ∧ (l''.length < l1.length ∨ (l''.length = l1.length ∧ ltL (il l'') (il l1) = true)))) := fun y => by
        have := kyN_lt.mpr y
        unfold ky at d1
        rw [if_pos rfl, if_pos rfl, this] at d1
        cases d1
      have hd : ltL (il l'') (il l0) = true → p + s < p + s0 := fun y => by
        obtain ⟨r, e⟩ := h2.head
        obtain ⟨r0, e0⟩ := L0.1.head
        subst e e0
        have y : ltL (((p + s : Nat) : Int) :: il r) (((p + s0 : Nat) : Int) :: il r0) = true := y
        simp only [ltL] at y
        rw [if_neg (by omega)] at y
        have := of_decide_eq_true y
        omega
      have hd2 : p + s < p + s0 → ltL (il [p + s]) (il [p + s0]) = true := fun y => by
        show ltL [((p + s : Nat) : Int)] [((p + s0 : Nat) : Int)] = true
        simp only [ltL]
        rw [if_neg (by omega)]
        exact decide_eq_true (by omega)
      rcases z' with z' | ⟨z', y | ⟨y, y'⟩⟩
      · exact n1 (by
          by_cases q : mis t u p s + cst t u l1 < mis t u p s0 + cst t u l0
          · exact .inl q
          · exact absurd (show cst t u l'' < cst t u l1 by omega) fun w => n2 (.inl w))
      · by_cases q : cst t u l'' < cst t u l1
        · exact n2 (.inl q)
        · by_cases q2 : mis t u p s + cst t u l1 < mis t u p s0 + cst t u l0
          · exact n1 (.inl q2)
          · have e1 : cst t u l'' = cst t u l1 := by omega
            by_cases q3 : l''.length < l1.length
            · exact n2 (.inr ⟨e1, .inl q3⟩)
            · exact n1 (.inr ⟨by omega, .inl (by omega)⟩)
      · by_cases q : cst t u l'' < cst t u l1
        · exact n2 (.inl q)
        · by_cases q2 : mis t u p s + cst t u l1 < mis t u p s0 + cst t u l0
          · exact n1 (.inl q2)
          · have e1 : cst t u l'' = cst t u l1 := by omega
            by_cases q3 : l''.length < l1.length
            · exact n2 (.inr ⟨e1, .inl q3⟩)
            · by_cases q4 : l1.length < l0.length
              · exact n1 (.inr ⟨by omega, .inl (by omega)⟩)
              · exact n1 (.inr ⟨by omega, .inr ⟨by omega, hd2 (hd y')⟩⟩)

end Ov

namespace Ov
open PySem L2
abbrev sWaf : Stmt := top 25
/-- how many of the first 0, 1, .. signs are wrong -/
def misRow (t u : List Nat) (p n : Nat) : List Nat := (List.range n).map (mis t u p)
theorem misRow_succ (t u : List Nat) (p n : Nat) : misRow t u p (n + 1) = misRow t u p n ++ [mis t u p n] := by unfold misRow; rw [List.range_succ, List.map_append]; rfl
theorem misRow_len (t u : List Nat) (p n : Nat) : (misRow t u p n).length = n := by unfold misRow; simp
theorem misRow_get {t u : List Nat} {p n k : Nat} (h : k < n) : (vInts (misRow t u p n))[k]? = some (.int (mis t u p k : Nat)) := by unfold misRow vInts; simp [h]
def spWaf : Sp := fun vs H Q _ => ∃ (a b : Addr) (t u : List Nat) (p : Nat), vs = [.ref a, .ref b, .int (p : Int)] ∧ H a = some (.lst (t.map sg)) ∧ H b = some (.lst (u.map sg)) ∧ t.length ≤ 900 ∧ p + u.length ≤ t.length ∧
  ∀ (r : Addr) (H' : Hp), H r = none → H' r = some (.lst (vInts (misRow t u p (u.length + 1)))) → Same H H' → Q (.ref r) H'
theorem sg_get {t : List Nat} {i : Nat} {x : V} (h : (t.map sg)[i]? = some x) : ∃ c, t[i]? = some c ∧ x = sg c := by
  rw [List.getElem?_map] at h
  cases e : t[i]? with
  | none => rw [e] at h; cases h
  | some c => rw [e] at h; exact ⟨c, rfl, (Option.some.inj h).symm⟩
theorem sg_dec (c d : Nat) : decide (sg c = sg d) = decide (c = d) := decide_eq_decide.mpr sg_inj
section
variable {P : Program} {w : World} {K : PySem.W.Frag} {mg : Str → Option Value} {base : Heap}
theorem scWaf : FnScope ["text", "word", "place", "numbers", "sign", "due"] ["text", "word", "place"] (defScope sWaf) := ⟨rfl, rfl, rfl, by decide +kernel, rfl, by decide +kernel, by decide +kernel⟩
theorem ok_waf (M : Md K mg) (B : Bl mg) (F : FF K "wrong_among_first" sWaf) : Fn P w K mg base CX0 "wrong_among_first" 1 ["text", "word", "place"] spWaf := by
  refine fn_ok M F scWaf (fun _ _ _ _ _ _ => us3 fun _ _ _ => rfl) (fun vs H Q E h => ?_) (fun f cdv A outer s H vs Q E hr h => ?_)
  · obtain ⟨a, b, t, u, p, rfl, _⟩ := h; rfl
  · obtain ⟨a, b, t, u, p, rfl, ha, hb, tl, pu, k⟩ := h
    refine ⟨_, (pss_cons (ps_set (i := 3) scWaf.nd rfl (by first | exact Or.inl rfl | exact Or.inr rfl) (pe_lst (pa_cons pe_int pa_nil)))
      (pss_cons (ps_for PassesOwn.never rfl (pi_zip B.zip (pe_slice sl_list (pv 0) (po_some (pv 2)) po_none) (pv 1)) (pg_tup rfl (pgs_cons (pg_name (i := 4) scWaf.nd rfl (by first | exact Or.inl rfl | exact Or.inr rfl)) (pgs_cons (pg_name (i := 5) scWaf.nd rfl (by first | exact Or.inl rfl | exact Or.inr rfl)) pgs_nil)))
      (pss_one (ps_expr (pe_bm PySem.F.plainAttrs_list PySem.F.slot_list_append PySem.F.type_list_append mt_append (pv 3) (pa_cons (pe_op op_add (pe_ix ix_list (pv 3) (pe_un un_neg pe_int) (fun _ _ => rfl)) (pe_ifExp (pt_cmpR op_eq (pv 4) (pv 5) (nomark _)) pe_int pe_int)) pa_nil)))))
      (pss_one (ps_ret (pv 3))))), ?_⟩
    refine ⟨by show 1 ≤ sizeLine; decide, fun r hr0 => ?_⟩
    have s0 := Same.upd (o := .lst [V.int 0]) hr0
    have hr1 := upd_same (H := H) (a := r) (o := .lst [V.int 0])
    generalize L2.upd H r (.lst [V.int 0]) = H0 at s0 hr1 ⊢
    refine ⟨_, rfl, _, rfl, _, rfl, a, _, rfl, SqL.of (s0 _ _ ha), fun q hq => ?_⟩
    have e1 : cutV (t.map sg) (some (p : Int)) none = (t.drop p).map sg := by rw [cut_lo (by omega)]; rfl
    rw [e1]
    have s1 := Same.upd (o := .lst ((t.drop p).map sg)) hq
    have hq1 := upd_same (H := H0) (a := q) (o := .lst ((t.drop p).map sg))
    have hr2 := s1 _ _ hr1
    have sH := s0.trans s1
    generalize L2.upd H0 q (.lst ((t.drop p).map sg)) = H1 at s1 hq1 hr2 sH ⊢
    refine ⟨_, rfl, q, b, _, _, rfl, rfl, hq1, sH _ _ hb, for_zip (a := q) (b := b) (xs := (t.drop p).map sg) (ys := u.map sg) (fun i σ H2 => Same H H2 ∧ H2 q = some (.lst ((t.drop p).map sg)) ∧ H2 r = some (.lst (vInts (misRow t u p (i + 1)))) ∧ ∃ v4 v5, σ = [some (.ref a), some (.ref b), some (.int (p : Int)), some (.ref r), v4, v5]) ?_ ?_ ?_ ?_⟩
    · exact ⟨sH, hq1, hr2, _, _, rfl⟩
    · rintro i σ H2 _ ⟨s2, h2, _⟩
      exact ⟨h2, s2 _ _ hb⟩
    · rintro i x y pp σ H2 hx hy hpp ⟨s2, hq2, hr2, v4, v5, rfl⟩
      obtain ⟨c, hc, rfl⟩ := sg_get hx
      obtain ⟨d, hd, rfl⟩ := sg_get hy
      rw [List.getElem?_drop] at hc
      have s3 := Same.upd (o := .tup [sg c, sg d]) hpp
      have hpp3 := upd_same (H := H2) (a := pp) (o := .tup [sg c, sg d])
      have hq3 := s3 _ _ hq2
      have hr3 := s3 _ _ hr2
      have s23 := s2.trans s3
      generalize L2.upd H2 pp (.tup [sg c, sg d]) = H3 at s3 hpp3 hq3 hr3 s23 ⊢
      have hil : i < u.length := (List.getElem?_eq_some_iff.mp hd).1
      refine ⟨pp, _, rfl, SqT.of hpp3, rfl, _, _, rfl, _, _, rfl, rfl, ?_⟩
      have hla : atI (vInts (misRow t u p (i + 1))) (-1) = some (.int (mis t u p i : Nat)) := by rw [misRow_succ, vInts_snoc', atI_last]
      have fin : ∀ e : Int, e = ((if t[p + i]? = u[i]? then 0 else 1 : Nat) : Int) → Same H (L2.upd H3 r (.lst (vInts (misRow t u p (i + 1)) ++ [V.int ((mis t u p i : Nat) + e)]))) ∧ (L2.upd H3 r (.lst (vInts (misRow t u p (i + 1)) ++ [V.int ((mis t u p i : Nat) + e)]))) q = some (.lst ((t.drop p).map sg)) ∧ (L2.upd H3 r (.lst (vInts (misRow t u p (i + 1)) ++ [V.int ((mis t u p i : Nat) + e)]))) r = some (.lst (vInts (misRow t u p (i + 1 + 1)))) := fun e he => by
        refine ⟨fun z o h => by rw [upd_ne (ne_of_none h hr0)]; exact s23 _ _ h, ?_, ?_⟩
        · rw [upd_ne (fun z => by subst z; rw [hr1] at hq; cases hq)]; exact hq3
        · rw [upd_same, misRow_succ t u p (i + 1), vInts_snoc', he]
          simp only [mis, Int.natCast_add]
      refine ⟨_, rfl, .inl ⟨rfl, _, SqL.of hr3⟩, _, rfl, _, rfl, r, _, _, _, rfl, rfl, SqL.of hr3, hla, ?_⟩
      refine ⟨_, rfl, _, rfl, rfl, _, rfl, ?_⟩
      have hz : (vInts (misRow t u p (i + 1))).length < sizeLine := by rw [vInts_len, misRow_len]; exact small1000 (by omega)
      rw [sg_dec]
      refine ite2 (fun hcd => ?_) (fun hcd => ?_)
      · have hcd' : c = d := of_decide_eq_true hcd
        obtain ⟨f1, f2, f3⟩ := fin 0 (by rw [hc, hd, hcd', if_pos rfl]; rfl)
        exact ⟨_, _, rfl, rfl, r, _, _, rfl, rfl, hr3, hz, f1, f2, f3, _, _, rfl⟩
      · have hcd' : ¬ c = d := nd0 hcd
        obtain ⟨f1, f2, f3⟩ := fin 1 (by rw [hc, hd, if_neg (fun z => hcd' (Option.some.inj z))]; rfl)
        exact ⟨_, _, rfl, rfl, r, _, _, rfl, rfl, hr3, hz, f1, f2, f3, _, _, rfl⟩
    · rintro σ H2 ⟨s2, hq2, hr2, v4, v5, rfl⟩
      have em : min ((t.drop p).map sg).length (u.map sg).length = u.length := by
        rw [List.length_map, List.length_map, List.length_drop]; omega
      rw [em] at hr2
      exact ⟨_, rfl, k r H2 hr0 hr2 s2⟩
end

end Ov

namespace Ov
open PySem L2
theorem steps_of (u : List Nat) : Steps u (shiftsOf u) := by
  intro s hs
  unfold shiftsOf at hs
  rw [List.mem_filter, List.mem_map] at hs
  obtain ⟨⟨q, hq, rfl⟩, h2⟩ := hs
  rw [List.mem_range] at hq
  exact ⟨by omega, by omega, (shift_iff (by omega)).mp (of_decide_eq_true h2)⟩
def nxt : List Nat → Nat
  | [] => 0
  | [p] => p
  | _ :: q :: _ => q
/-- the best ways from lo on to L, by their first places -/
def BW (H0 H : Hp) (w : Addr) (t u : List Nat) (L lo : Nat) : Prop := ∃ kvs : List (Key × V), H w = some (.dK kvs) ∧ kvs.length + lo ≤ L + 1 ∧
  (∀ p, lo ≤ p → p ≤ L → (∃ l c, Least (shiftsOf u) t u true p L l ∧ valV kvs (.inl (p : Int)) = some (.ref c) ∧ H0 c = none ∧ H c = some (.tup [.int (cst t u l : Nat), .int (l.length : Nat), .int (nxt l : Nat)])) ∨ ((∀ l, ¬ Ch (shiftsOf u) p L l) ∧ valV kvs (.inl (p : Int)) = none)) ∧
  ∀ k : Int, (k < lo ∨ (L : Int) < k) → valV kvs (.inl k) = none
theorem BW.look {H0 H : Hp} {w : Addr} {t u : List Nat} {L lo : Nat} (h : BW H0 H w t u L lo) {p : Nat} (hp : lo ≤ p) :
    (∃ l c, Least (shiftsOf u) t u true p L l ∧ DGet H w (.int (p : Int)) (some (.ref c)) ∧ H0 c = none ∧ H c = some (.tup [.int (cst t u l : Nat), .int (l.length : Nat), .int (nxt l : Nat)])) ∨ ((∀ l, ¬ Ch (shiftsOf u) p L l) ∧ DGet H w (.int (p : Int)) none) := by
  obtain ⟨kvs, h1, _, h2, h3⟩ := h
  have D := DGet.k (k := .inl (p : Int)) h1
  by_cases hL : p ≤ L
  · rcases h2 p hp hL with ⟨l, c, e1, e2, e3, e4⟩ | ⟨e1, e2⟩
    · rw [e2] at D; exact .inl ⟨l, c, e1, D, e3, e4⟩
    · rw [e2] at D; exact .inr ⟨e1, D⟩
  · rw [h3 p (.inr (by omega))] at D
    exact .inr ⟨fun l hl => hL hl.le, D⟩
theorem BW.same {H0 H H' : Hp} {w : Addr} {t u : List Nat} {L lo : Nat} (h : BW H0 H w t u L lo) (s : Same H H') : BW H0 H' w t u L lo := by
  obtain ⟨kvs, h1, h0, h2, h3⟩ := h
  refine ⟨kvs, s _ _ h1, h0, fun p a b => ?_, h3⟩
  rcases h2 p a b with ⟨l, c, e1, e2, e3, e4⟩ | e
  · exact .inl ⟨l, c, e1, e2, e3, s _ _ e4⟩
  · exact .inr e
theorem BW.skip {H0 H : Hp} {w : Addr} {t u : List Nat} {L p : Nat} (h : BW H0 H w t u L (p + 1)) (hn : ∀ l, ¬ Ch (shiftsOf u) p L l) : BW H0 H w t u L p := by
  obtain ⟨kvs, h1, h0, h2, h3⟩ := h
  refine ⟨kvs, h1, by omega, fun q a b => ?_, fun k hk => h3 k (by omega)⟩
  by_cases e : q = p
  · subst e; exact .inr ⟨hn, h3 q (.inl (by omega))⟩
  · exact h2 q (by omega) b
theorem BW.put {H0 H : Hp} {w c : Addr} {t u : List Nat} {L p : Nat} {l : List Nat} (h : BW H0 H w t u L (p + 1)) (hpL : p ≤ L) (hL : L ≤ 1000) (hl : Least (shiftsOf u) t u true p L l) (c0 : H0 c = none) (hc : H c = some (.tup [.int (cst t u l : Nat), .int (l.length : Nat), .int (nxt l : Nat)])) :
    ∃ H', DPut H w (.int (p : Int)) (.ref c) H' ∧ BW H0 H' w t u L p ∧ ∀ b o, H b = some o → b ≠ w → H' b = some o := by
  obtain ⟨kvs, h1, h0, h2, h3⟩ := h
  refine ⟨_, DPut.k (k := .inl (p : Int)) h1 (small5000 (by omega)), ⟨_, upd_same, ?_, fun q a b => ?_, fun k hk => ?_⟩, fun b o e ne => by rw [upd_ne ne]; exact e⟩
  · have := length_putK kvs (.inl (p : Int)) (.ref c)
    omega
  · rw [valV_put]
    by_cases e : q = p
    · subst e
      rw [if_pos rfl]
      refine .inl ⟨l, c, hl, rfl, c0, ?_⟩
      rw [upd_ne (ne_of hc h1 (fun z => nomatch z))]
      exact hc
    · rw [if_neg (fun z => e (by have := Sum.inl.inj z; omega))]
      rcases h2 q (by omega) b with ⟨l', c', e1, e2, e3, e4⟩ | e'
      · refine .inl ⟨l', c', e1, e2, e3, ?_⟩
        rw [upd_ne (ne_of e4 h1 (fun z => nomatch z))]
        exact e4
      · exact .inr e'
  · rw [valV_put, if_neg (fun z => by have := Sum.inl.inj z; omega)]
    exact h3 k (by omega)
theorem nm_int {k : Nat} {v : V} {j : Int} {σ : St} {H : Hp} {R : St → Hp → Prop} (e : v = .int j) (h : gName k (.int j) σ H R) : gName k v σ H R := by rw [e]; exact h
abbrev sBest : Stmt := top 26
def spBest : Sp := fun vs H Q _ => ∃ (a b : Addr) (t u : List Nat), vs = [.ref a, .ref b] ∧ H a = some (.lst (t.map sg)) ∧ H b = some (.lst (u.map sg)) ∧ Low u ∧ 1 ≤ u.length ∧ u.length ≤ t.length ∧ t.length ≤ 900 ∧
  ∀ (r : Addr) (H' : Hp), H r = none → BW H H' r t u (t.length - u.length) 0 → Same H H' → Q (.ref r) H'
theorem vInts_at {ks : List Nat} {i : Nat} {x : V} (h : (vInts ks)[i]? = some x) : ∃ q, ks[i]? = some q ∧ x = .int (q : Int) := by
  unfold vInts at h
  rw [List.map_map, List.getElem?_map] at h
  cases e : ks[i]? with
  | none => rw [e] at h; cases h
  | some q => rw [e] at h; exact ⟨q, rfl, (Option.some.inj h).symm⟩
theorem Trips.same {isL : Bool} {H H' : Hp} {cs : List Addr} {ks : List K3} (T : Trips isL H cs ks) (s : ∀ b xs, H b = some (.tup xs) → H' b = some (.tup xs)) (s2 : isL = true → ∀ b xs, H b = some (.lst xs) → (∃ c k, c ∈ cs ∧ H c = some (.tup [.int k.1, .int k.2.1, .ref b]) ∧ (k : K3) = k) → H' b = some (.lst xs)) : Trips isL H' cs ks := by
  refine ⟨T.len, fun i c k hc hk => ?_⟩
  have h := T.at_ i c k hc hk
  cases isL with
  | false =>
    obtain ⟨d, e1, e2⟩ := h
    exact ⟨d, e1, s _ _ e2⟩
  | true =>
    obtain ⟨g, e1, e2⟩ := h
    exact ⟨g, s _ _ e1, s2 rfl _ _ e2 ⟨c, k, List.mem_of_getElem? hc, e1, rfl⟩⟩
theorem Trips.nil {isL : Bool} {H : Hp} : Trips isL H [] [] := ⟨rfl, fun i c k hc => by simp at hc⟩
theorem Trips.snoc {isL : Bool} {H : Hp} {cs : List Addr} {ks : List K3} {c : Addr} {k : K3} (T : Trips isL H cs ks) (h : Trip isL H c k) : Trips isL H (cs ++ [c]) (ks ++ [k]) := by
  refine ⟨by simp [T.len], fun i c' k' hc hk => ?_⟩
  by_cases hi : i < cs.length
  · rw [List.getElem?_append_left hi] at hc
    rw [List.getElem?_append_left (by rw [← T.len]; exact hi)] at hk
    exact T.at_ i c' k' hc hk
  · have e : i = cs.length := by
      have := (List.getElem?_eq_some_iff.mp hc).1
      rw [List.length_append, List.length_singleton] at this
      omega
    subst e
    rw [List.getElem?_append_right (Nat.le_refl _)] at hc
    rw [List.getElem?_append_right (by rw [T.len]; exact Nat.le_refl _)] at hk
    simp at hc
    rw [T.len] at hk
    simp at hk
    subst hc hk
    exact h
theorem take_at {α : Type} {l : List α} {j : Nat} {x : α} (h : l[j]? = some x) : l.take (j + 1) = l.take j ++ [x] := by
  rw [List.take_add_one, h]; rfl
section
variable {P : Program} {w : World} {K : PySem.W.Frag} {mg : Str → Option Value} {base : Heap}
theorem scBest : FnScope ["text", "word", "steps", "last", "best", "place", "wrong", "ways", "step", "cost", "many", "behind"] ["text", "word"] (defScope sBest) := ⟨rfl, rfl, rfl, by decide +kernel, rfl, by decide +kernel, by decide +kernel⟩
theorem ok_best (M : Md K mg) (B : Bl mg) (F : FF K "best_ways" sBest) (Fshifts : Fn P w K mg base CX0 "shifts" 5 ["word"] spShifts) (Fwrong_among_first : Fn P w K mg base CX0 "wrong_among_first" 1 ["text", "word", "place"] spWaf) : Fn P w K mg base CX0 "best_ways" 6 ["text", "word"] spBest := by
  refine fn_ok M F scBest (fun _ _ _ _ _ _ => us2 fun _ _ => rfl) (fun vs H Q E h => ?_) (fun f cdv A outer s H vs Q E hr h => ?_)
  · obtain ⟨a, b, t, u, rfl, _⟩ := h; rfl
  · obtain ⟨a, b, t, u, rfl, ha, hb, lu, u1, ut, tl, k⟩ := h
    refine ⟨_, (pss_cons (ps_set (i := 2) scBest.nd rfl (by first | exact Or.inl rfl | exact Or.inr rfl) (pe_fn Fshifts hr pass0 (pa_cons (pv 1) pa_nil)))
      (pss_cons (ps_set (i := 3) scBest.nd rfl (by first | exact Or.inl rfl | exact Or.inr rfl) (pe_op op_sub (pe_lenL B.len (pv 0)) (pe_lenL B.len (pv 1))))
      (pss_cons (ps_set (i := 4) scBest.nd rfl (by first | exact Or.inl rfl | exact Or.inr rfl) (pe_disp (pps_cons (pv 3) (pe_tup (pa_cons (pe_ix ix_list (pe_fn Fwrong_among_first hr pass0 (pa_cons (pv 0) (pa_cons (pv 1) (pa_cons (pv 3) pa_nil)))) (pe_un un_neg pe_int) (fun _ _ => rfl)) (pa_cons pe_int (pa_cons (pv 3) pa_nil)))) pps_nil) rfl rfl (by simp) (by decide)))
      (pss_cons (ps_for PassesOwn.never rfl (pi_back B.rev B.range (pa_cons (pv 3) pa_nil)) (pg_name (i := 5) scBest.nd rfl (by first | exact Or.inl rfl | exact Or.inr rfl))
      (pss_cons (ps_set (i := 6) scBest.nd rfl (by first | exact Or.inl rfl | exact Or.inr rfl) (pe_fn Fwrong_among_first hr pass0 (pa_cons (pv 0) (pa_cons (pv 1) (pa_cons (pv 5) pa_nil)))))
      (pss_cons (ps_set (i := 7) scBest.nd rfl (by first | exact Or.inl rfl | exact Or.inr rfl) (pe_lst pa_nil))
      (pss_cons (ps_for PassesOwn.never rfl (pi_list (pv 2)) (pg_name (i := 8) scBest.nd rfl (by first | exact Or.inl rfl | exact Or.inr rfl))
      (pss_one (ps_if (pt_cmpR (op_inX (by exact hr)) (pe_op op_add (pv 5) (pv 8)) (pv 4) (by with_unfolding_all rfl)) (pss_cons (ps_asg (pe_dget (by exact hu_of hr) (pv 4) (pe_op op_add (pv 5) (pv 8)) (fun _ _ => rfl)) (pg_tup rfl (pgs_cons (pg_name (i := 9) scBest.nd rfl (by first | exact Or.inl rfl | exact Or.inr rfl)) (pgs_cons (pg_name (i := 10) scBest.nd rfl (by first | exact Or.inl rfl | exact Or.inr rfl)) (pgs_cons (pg_name (i := 11) scBest.nd rfl (by first | exact Or.inl rfl | exact Or.inr rfl)) pgs_nil)))))
      (pss_one (ps_expr (pe_bm PySem.F.plainAttrs_list PySem.F.slot_list_append PySem.F.type_list_append mt_append (pv 7) (pa_cons (pe_tup (pa_cons (pe_op op_add (pe_ix ix_list (pv 6) (pv 8) (fun _ _ => rfl)) (pv 9)) (pa_cons (pe_op op_add (pv 10) pe_int) (pa_cons (pe_op op_add (pv 5) (pv 8)) pa_nil)))) pa_nil))))) pss_nil)))
      (pss_one (ps_if (pt_truth (pv 7) (fun _ => rfl)) (pss_one (ps_dput (by exact hu_of hr) (pv 4) (pv 5) (pe_minT rfl B.min hr (pv 7)) rfl)) pss_nil))))))
      (pss_one (ps_ret (pv 4))))))), ?_⟩
    refine ⟨_, rfl, b, u, rfl, hb, lu, u1, by omega, fun st H1 hst0 hst1 s1 => ?_⟩
    refine ⟨_, rfl, a, _, rfl, SqL.of (s1 _ _ ha), _, rfl, b, _, rfl, SqL.of (s1 _ _ hb), _, _, rfl, rfl, ?_⟩
    obtain ⟨L, hL⟩ : ∃ L, L = t.length - u.length := ⟨_, rfl⟩
    have eL : (((t.map sg).length : Nat) : Int) - (((u.map sg).length : Nat) : Int) = (L : Int) := by rw [List.length_map, List.length_map]; omega
    refine nm_int (congrArg V.int eL) ?_
    rw [← hL] at k
    have hS := steps_of u
    have sl := shifts_len u
    intro bw hbw
    have s2 := Same.upd (o := .dK []) hbw
    refine ⟨_, rfl, _, rfl, _, rfl, _, rfl, a, b, t, u, L, rfl, s2 _ _ (s1 _ _ ha), s2 _ _ (s1 _ _ hb), tl, by omega, fun wr H3 hwr0 hwr3 s3 => ?_⟩
    have hla : atI (vInts (misRow t u L (u.length + 1))) (-1) = some (.int (mis t u L u.length : Nat)) := by rw [misRow_succ, vInts_snoc', atI_last]
    refine ⟨_, rfl, wr, _, _, _, rfl, rfl, SqL.of hwr3, hla, _, rfl, by show 3 ≤ sizeLine; decide, fun g hg => ?_⟩
    have bwn : H bw = none := s1.free hbw
    have hbw2 : (L2.upd H1 bw (.dK [])) bw = some (.dK []) := upd_same
    have s4 := Same.upd (o := .tup [V.int (mis t u L u.length : Nat), .int 1, .int (L : Int)]) hg
    have hg4 := upd_same (H := H3) (a := g) (o := .tup [V.int (mis t u L u.length : Nat), .int 1, .int (L : Int)])
    have hbw4 := s4 _ _ (s3 _ _ hbw2)
    have gn : H g = none := (s1.trans (s2.trans s3)).free hg
    have sH4 := (s1.trans (s2.trans s3)).trans s4
    have hst4 := s4 _ _ (s3 _ _ (s2 _ _ hst1))
    generalize L2.upd H3 g (.tup [V.int (mis t u L u.length : Nat), .int 1, .int (L : Int)]) = H4 at s4 hg4 hbw4 sH4 hst4 ⊢
    refine ⟨hbw4, [(.inl (L : Int), .ref g)], rfl, by show 1 ≤ 15; decide, ?_⟩
    have emk : mergeK [] [((.inl (L : Int) : Key), V.ref g)] = [(.inl (L : Int), V.ref g)] := rfl
    rw [emk]
    have B0 : BW H (L2.upd H4 bw (.dK [(.inl (L : Int), V.ref g)])) bw t u L L := by
      refine ⟨_, upd_same, by simp; omega, fun p h1 h2 => ?_, fun kk hk => ?_⟩
      · have e : p = L := by omega
        subst e
        refine .inl ⟨[p], g, least_one p hS, by rw [valV_pos rfl], gn, ?_⟩
        rw [upd_ne (ne_of hg4 hbw4 (fun z => nomatch z))]
        exact hg4
      · rw [valV_neg (fun z => by have := Sum.inl.inj z; omega)]; rfl
    have sH5 : Same H (L2.upd H4 bw (.dK [(.inl (L : Int), V.ref g)])) := fun z o h => by rw [upd_ne (ne_of_none h bwn)]; exact sH4 _ _ h
    have hst5 : (L2.upd H4 bw (.dK [(.inl (L : Int), V.ref g)])) st = some (.lst (vInts (shiftsOf u))) := by
      rw [upd_ne (ne_of hst4 hbw4 (fun z => nomatch z))]; exact hst4
    generalize L2.upd H4 bw (.dK [(.inl (L : Int), V.ref g)]) = H5 at B0 sH5 hst5 ⊢
    refine ⟨_, rfl, L, rfl, Nat.lt_of_le_of_lt (show L ≤ 900 by omega) (by decide), for_back (n := L) (fun i σ H6 => Same H H6 ∧ H6 st = some (.lst (vInts (shiftsOf u))) ∧ BW H H6 bw t u L (L - i) ∧ ∃ v5 v6 v7 v8 v9 v10 v11, σ = [some (.ref a), some (.ref b), some (.ref st), some (.int (L : Int)), some (.ref bw), v5, v6, v7, v8, v9, v10, v11]) ?_ ?_ ?_⟩
    · exact ⟨sH5, hst5, B0, _, _, _, _, _, _, _, rfl⟩
    · rintro D2 i σ H6 nx hi ⟨s6, hst6, B6, v5, v6, v7, v8, v9, v10, v11, rfl⟩
      obtain ⟨p, hp⟩ : ∃ p, p = L - 1 - i := ⟨_, rfl⟩
      rw [show ((L : Int) - 1 - (i : Int)) = (p : Int) by omega]
      rw [show L - i = p + 1 by omega] at B6
      refine ⟨_, rfl, _, rfl, _, rfl, a, b, t, u, p, rfl, s6 _ _ ha, s6 _ _ hb, tl, by omega, fun wp H7 hwp0 hwp7 s7 => ?_⟩
      have s67 := s6.trans s7
      have hst7 := s7 _ _ hst6
      have B7 := B6.same s7
      refine ⟨Nat.zero_le _, fun wy hwy => ?_⟩
      have s8 := Same.upd (o := .lst []) hwy
      have hwy8 := upd_same (H := H7) (a := wy) (o := .lst [])
      have wyn : H wy = none := s67.free hwy
      generalize L2.upd H7 wy (.lst []) = H8 at s8 hwy8 ⊢
      refine ⟨_, rfl, st, rfl, ⟨_, SqL.of (s8 _ _ hst7)⟩, for_listA (K := K) (a := st) (xs := vInts (shiftsOf u)) (fun j σ H9 => Same H7 H9 ∧ ∃ (cs : List Addr) (ks : List K3), H9 wy = some (.lst (cs.map V.ref)) ∧ Trips false H9 cs ks ∧ cs.length ≤ j ∧ (∀ c ∈ cs, H c = none) ∧
        (∀ k ∈ ks, ∃ s ∈ shiftsOf u, ∃ l, Least (shiftsOf u) t u true (p + s) L l ∧ k = kyN (mis t u p s + cst t u l) (l.length + 1) [p + s]) ∧
        (∀ s ∈ (shiftsOf u).take j, (∃ l, Ch (shiftsOf u) (p + s) L l) → ∃ l, Least (shiftsOf u) t u true (p + s) L l ∧ kyN (mis t u p s + cst t u l) (l.length + 1) [p + s] ∈ ks) ∧
        ∃ v8 v9 v10 v11, σ = [some (.ref a), some (.ref b), some (.ref st), some (.int (L : Int)), some (.ref bw), some (.int (p : Int)), some (.ref wp), some (.ref wy), v8, v9, v10, v11]) ?_ ?_ ?_ ?_⟩
      · exact ⟨s8, [], [], hwy8, Trips.nil, Nat.le_refl _, (fun c hc => by cases hc), (fun c hc => by cases hc), (fun s hs => by rw [List.take_zero] at hs; cases hs), _, _, _, _, rfl⟩
      · rintro j σ H9 _ ⟨s9, _⟩
        exact SqL.of (s9 _ _ hst7)
      · rintro D3 j x σ H9 nx3 hx ⟨s9, cs, ks, hwy9, T, cl, cn, A1, A2, v8, v9, v10, v11, rfl⟩
        obtain ⟨s, hs, rfl⟩ := vInts_at hx
        have hsm := List.mem_of_getElem? hs
        have hjl : j < (shiftsOf u).length := (List.getElem?_eq_some_iff.mp hs).1
        have B9 := B7.same s9
        have etk := take_at hs
        have sb := hS s hsm
        have eps : (p : Int) + (s : Int) = ((p + s : Nat) : Int) := (Int.natCast_add p s).symm
        rcases B9.look (p := p + s) (by omega) with ⟨l, c, Ll, Dg, c0, hc9⟩ | ⟨no, Dg⟩
        · rw [← eps] at Dg
          refine ⟨_, rfl, _, rfl, _, _, rfl, rfl, _, rfl, bw, _, rfl, Dg, _, rfl, iteT ?_⟩
          refine ⟨_, rfl, _, rfl, _, rfl, _, _, rfl, rfl, bw, _, rfl, Dg, c, _, rfl, SqT.of hc9, rfl, _, _, rfl, _, _, rfl, _, _, rfl, rfl, ?_⟩
          refine ⟨_, rfl, .inl ⟨rfl, _, SqL.of hwy9⟩, _, rfl, _, rfl, wp, _, _, _, rfl, rfl, SqL.of (s9 _ _ hwp7), atI_nat (misRow_get (show s < u.length + 1 by omega)), _, rfl, _, _, rfl, rfl, _, rfl, _, _, rfl, rfl, _, rfl, _, rfl, _, _, rfl, rfl, by show 3 ≤ sizeLine; decide, fun g hg => ?_⟩
          have s10 := Same.upd (o := .tup [V.int ((mis t u p s : Nat) + (cst t u l : Nat)), .int ((l.length : Nat) + 1), .int ((p : Int) + (s : Int))]) hg
          have hg10 := upd_same (H := H9) (a := g) (o := .tup [V.int ((mis t u p s : Nat) + (cst t u l : Nat)), .int ((l.length : Nat) + 1), .int ((p : Int) + (s : Int))])
          have hwy10 := s10 _ _ hwy9
          have gn : H g = none := (s67.trans s9).free hg
          generalize L2.upd H9 g (.tup [V.int ((mis t u p s : Nat) + (cst t u l : Nat)), .int ((l.length : Nat) + 1), .int ((p : Int) + (s : Int))]) = H10 at s10 hg10 hwy10 ⊢
          refine ⟨wy, _, _, rfl, rfl, hwy10, by rw [List.length_map]; exact small1000 (by omega), nx3 _ _ ?_⟩
          have kp : ∀ z xs, H10 z = some (.tup xs) → (L2.upd H10 wy (.lst (cs.map V.ref ++ [V.ref g]))) z = some (.tup xs) := fun z xs h => by rw [upd_ne (ne_of h hwy10 (fun z => nomatch z))]; exact h
          refine ⟨fun z o h => ?_, cs ++ [g], ks ++ [kyN (mis t u p s + cst t u l) (l.length + 1) [p + s]], ?_, ?_, by rw [List.length_append, List.length_singleton]; omega, ?_, ?_, ?_, _, _, _, _, rfl⟩
          · rw [upd_ne (ne_of_none h hwy)]; exact s10 _ _ (s9 _ _ h)
          · rw [upd_same, List.map_append]; rfl
          · refine Trips.snoc (Trips.same T (fun z xs h => kp z xs (s10 _ _ h)) (fun z => nomatch z)) ⟨((p + s : Nat) : Int), rfl, kp _ _ ?_⟩
            rw [hg10]
            simp only [kyN, Int.natCast_add]
            rfl
          · intro c' hc'
            rcases List.mem_append.mp hc' with z | z
            · exact cn c' z
            · rw [List.mem_singleton.mp z]; exact gn
          · intro k hk
            rcases List.mem_append.mp hk with z | z
            · exact A1 k z
            · exact ⟨s, hsm, l, Ll, List.mem_singleton.mp z⟩
          · intro s' hs' ex
            rw [etk] at hs'
            rcases List.mem_append.mp hs' with z | z
            · obtain ⟨l', h1, h2⟩ := A2 s' z ex
              exact ⟨l', h1, List.mem_append_left _ h2⟩
            · rw [List.mem_singleton.mp z]
              exact ⟨l, Ll, List.mem_append_right _ (List.mem_singleton.mpr rfl)⟩
        · rw [← eps] at Dg
          refine ⟨_, rfl, _, rfl, _, _, rfl, rfl, _, rfl, bw, _, rfl, Dg, _, rfl, iteF (nx3 _ _ ?_)⟩
          refine ⟨s9, cs, ks, hwy9, T, by omega, cn, A1, ?_, _, _, _, _, rfl⟩
          intro s' hs' ex
          rw [etk] at hs'
          rcases List.mem_append.mp hs' with z | z
          · exact A2 s' z ex
          · rw [List.mem_singleton.mp z] at ex
            obtain ⟨l, hl⟩ := ex
            exact absurd hl (no l)
      · rintro σ H9 ⟨s9, cs, ks, hwy9, T, cl, cn, A1, A2, v8, v9, v10, v11, rfl⟩
        rw [vInts_len, List.take_length] at A2
        have sH9 := s67.trans s9
        have hst9 := s9 _ _ hst7
        have B9 := B7.same s9
        cases cs with
        | nil =>
          refine ⟨_, rfl, _, .inl ⟨_, SqL.of hwy9, rfl⟩, iteF (nx _ _ ⟨sH9, hst9, ?_, _, _, _, _, _, _, _, rfl⟩)⟩
          rw [show L - (i + 1) = p by omega]
          refine B9.skip fun l hl => ?_
          have k0 : ks = [] := List.eq_nil_of_length_eq_zero (by rw [← T.len]; rfl)
          cases hl with
          | one => omega
          | @cons _ s _ l' h1 h2 =>
            obtain ⟨l'', _, hm⟩ := A2 s h1 ⟨l', h2⟩
            rw [k0] at hm
            cases hm
        | cons c0 cs' =>
          refine ⟨_, rfl, _, .inl ⟨_, SqL.of hwy9, rfl⟩, iteT ?_⟩
          refine ⟨_, rfl, false, wy, c0 :: cs', ks, rfl, hwy9, T, by simp, fun q c kk hc hk hmin => ?_⟩
          obtain ⟨s0, hs0, l0, L0, ek⟩ := A1 kk (List.mem_of_getElem? hk)
          obtain ⟨d, ed, hc9⟩ := T.at_ q c kk hc hk
          subst ek
          have LL : Least (shiftsOf u) t u true p L (p :: l0) := by
            refine least_cons (by omega) hs0 L0 fun s hs ex => ?_
            obtain ⟨l, h1, h2⟩ := A2 s hs ex
            exact ⟨l, h1, hmin _ h2⟩
          have ed' : d = ((p + s0 : Nat) : Int) := by
            have : [((p + s0 : Nat) : Int)] = [d] := ed
            injection this with this _
            exact this.symm
          have hc9' : H9 c = some (.tup [.int (cst t u (p :: l0) : Nat), .int ((p :: l0).length : Nat), .int (nxt (p :: l0) : Nat)]) := by
            rw [hc9, ed', cst_cons L0.1, List.length_cons]
            obtain ⟨r, er⟩ := L0.1.head
            subst er
            rfl
          obtain ⟨H10, Dp, B10, k10⟩ := B9.put (by omega) (by omega) LL (cn c (List.mem_of_getElem? hc)) hc9'
          refine ⟨_, rfl, _, rfl, bw, H10, rfl, Dp, nx _ _ ⟨fun z o h => k10 _ _ (sH9 _ _ h) (ne_of_none h bwn), k10 _ _ hst9 ?_, ?_, _, _, _, _, _, _, _, rfl⟩⟩
          · obtain ⟨kvs, h1, _⟩ := B9
            exact ne_of hst9 h1 (fun z => nomatch z)
          · rw [show L - (i + 1) = p by omega]; exact B10
    · rintro σ H6 ⟨s6, hst6, B6, v5, v6, v7, v8, v9, v10, v11, rfl⟩
      rw [Nat.sub_self] at B6
      exact ⟨_, rfl, k bw H6 bwn B6 s6⟩
end

end Ov

namespace Ov
open PySem L2
abbrev sCheckSome : Stmt := top 12
abbrev sFirstBare : Stmt := top 30
def spCheckSome : Sp := fun vs H Q _ => ∃ (a : Addr) (t : List Nat), vs = [.ref a] ∧ H a = some (.lst (t.map sg)) ∧ 1 ≤ t.length ∧ Q .non H
def spFirstBare : Sp := fun vs H Q _ => ∃ (a : Addr) (ks : List Nat) (m : Nat), vs = [.ref a, .int (m : Int)] ∧ H a = some (.lst (vInts ks)) ∧ Q (.int (fb m 0 ks : Nat)) H
section
variable {P : Program} {w : World} {K : PySem.W.Frag} {mg : Str → Option Value} {base : Heap}
theorem scCheckSome : FnScope ["text"] ["text"] (defScope sCheckSome) := ⟨rfl, rfl, rfl, by decide +kernel, rfl, by decide +kernel, by decide +kernel⟩
theorem ok_check_some (M : Md K mg) (B : Bl mg) (F : FF K "check_some" sCheckSome) : Fn P w K mg base CX0 "check_some" 1 ["text"] spCheckSome := by
  refine fn_ok M F scCheckSome (fun _ _ _ _ _ _ => us1 fun _ => rfl) (fun vs H Q E h => ?_) (fun f cdv A outer s H vs Q E hr h => ?_)
  · obtain ⟨a, t, rfl, _⟩ := h; rfl
  · obtain ⟨a, t, rfl, ha, t1, k⟩ := h
    refine ⟨_, (pss_one (ps_if (pt_cmpR op_eq (pe_lenL B.len (pv 0)) pe_int (nomark _)) (pss_one ps_never) pss_nil)), ?_⟩
    refine ⟨_, rfl, a, _, rfl, SqL.of ha, rfl, _, rfl, ?_⟩
    rw [decide_eq_false (fun q => by have := V.int.inj q; rw [List.length_map] at this; omega)]
    exact iteF k
theorem scFirstBare : FnScope ["places", "many", "reach", "place"] ["places", "many"] (defScope sFirstBare) := ⟨rfl, rfl, rfl, by decide +kernel, rfl, by decide +kernel, by decide +kernel⟩
theorem ok_first_bare (M : Md K mg) (B : Bl mg) (F : FF K "first_bare" sFirstBare) : Fn P w K mg base CX0 "first_bare" 1 ["places", "many"] spFirstBare := by
  refine fn_ok M F scFirstBare (fun _ _ _ _ _ _ => us2 fun _ _ => rfl) (fun vs H Q E h => ?_) (fun f cdv A outer s H vs Q E hr h => ?_)
  · obtain ⟨a, ks, m, rfl, _⟩ := h; rfl
  · obtain ⟨a, ks, m, rfl, ha, k⟩ := h
    refine ⟨_, (pss_cons (ps_set (i := 2) scFirstBare.nd rfl (by first | exact Or.inl rfl | exact Or.inr rfl) pe_int)
      (pss_cons (ps_for PassesOwn.never rfl (pi_list (pv 0)) (pg_name (i := 3) scFirstBare.nd rfl (by first | exact Or.inl rfl | exact Or.inr rfl))
      (pss_cons (ps_if (pt_cmpR op_gt (pv 3) (pv 2) (nomark _)) (pss_one (ps_ret (pv 2))) pss_nil)
      (pss_one (ps_set (i := 2) scFirstBare.nd rfl (by first | exact Or.inl rfl | exact Or.inr rfl) (pe_op op_add (pv 3) (pv 1))))))
      (pss_one (ps_ret (pv 2))))), ?_⟩
    refine ⟨_, rfl, a, rfl, ⟨_, SqL.of ha⟩, for_list (K := K) (a := a) (xs := vInts ks) (fun i σ H2 => H2 = H ∧ ∃ (R : Nat) (v3 : Option V), σ = [some (.ref a), some (.int (m : Int)), some (.int (R : Int)), v3] ∧ fb m 0 ks = fb m R (ks.drop i)) ⟨rfl, 0, none, rfl, rfl⟩ (fun i σ H2 _ h2 => by rw [h2.1]; exact SqL.of ha) ?_ ?_⟩
    · rintro i x σ H2 hx ⟨rfl, R, v3, rfl, e⟩
      obtain ⟨p, hp, rfl⟩ := vInts_at hx
      have ed : ks.drop i = p :: ks.drop (i + 1) := by
        obtain ⟨h1, h2⟩ := List.getElem?_eq_some_iff.mp hp
        rw [List.drop_eq_getElem_cons h1, h2]
      rw [ed] at e
      refine ⟨_, rfl, _, rfl, _, _, rfl, rfl, _, rfl, ?_⟩
      refine ite2 (fun hc => ?_) (fun hc => ?_)
      · have hc' : R < p := by simpa using hc
        refine ⟨_, rfl, ?_⟩
        have : fb m 0 ks = R := by rw [e]; simp only [fb]; rw [if_pos hc']
        rw [this] at k
        exact k
      · have hc' : ¬ p > R := by simpa using hc
        refine ⟨_, rfl, _, rfl, _, _, rfl, rfl, rfl, p + m, some (.int (p : Int)), ?_, ?_⟩
        · rw [Int.natCast_add]
          rfl
        · rw [e]; simp only [fb]; rw [if_neg hc']
    · rintro σ H2 ⟨rfl, R, v3, rfl, e⟩
      rw [vInts_len, List.drop_length] at e
      simp only [fb] at e
      rw [e] at k
      exact ⟨_, rfl, k⟩
end

end Ov

namespace Ov
open PySem L2
theorem Ch.len_le {u S : List Nat} (hS : Steps u S) {p q : Nat} {l : List Nat} (h : Ch S p q l) : l.length + p ≤ q + 1 := by
  induction h with
  | one => simp; omega
  | cons h1 h2 ih => have := (hS _ h1).1; rw [List.length_cons]; omega
theorem atI_neg1 {α : Type} {xs : List α} {v : α} (h1 : 1 ≤ xs.length) (h : xs[xs.length - 1]? = some v) : atI xs (-1) = some v := by
  unfold atI ixN
  rw [if_neg (by decide), if_pos (by omega)]
  show xs[(-1 + (xs.length : Int)).toNat]? = _
  rw [show (-1 + (xs.length : Int)).toNat = xs.length - 1 by omega]
  exact h
theorem Ch.le_all {S : List Nat} {p q : Nat} {l : List Nat} (h : Ch S p q l) : ∀ x ∈ l, p ≤ x ∧ x ≤ q := by
  induction h with
  | one p => intro x hx; rw [List.mem_singleton.mp hx]; exact ⟨Nat.le_refl _, Nat.le_refl _⟩
  | @cons p s q l h1 h2 ih =>
    intro x hx
    rcases List.mem_cons.mp hx with e | e
    · subst e; have := h2.le; exact ⟨Nat.le_refl _, by omega⟩
    · have := ih x e; exact ⟨by omega, this.2⟩

end Ov

namespace Ov
open PySem L2
/-! what a chain lays out, and its cost -/
/-- signs of t from p on that are not those of u from a on -/
def misO (t u : List Nat) (p a : Nat) : Nat → Nat
  | 0 => 0
  | k + 1 => misO t u p a k + (if t[p + k]? = u[a + k]? then 0 else 1)
theorem mis_add (t u : List Nat) (p a : Nat) : ∀ b, mis t u p (a + b) = mis t u p a + misO t u (p + a) a b
  | 0 => rfl
  | b + 1 => by
    rw [← Nat.add_assoc]
    simp only [mis, misO]
    rw [mis_add t u p a b, show p + (a + b) = p + a + b by omega]
    omega
theorem misO_eq {t t' u u' : List Nat} {p p' a a' : Nat} : ∀ {k : Nat}, (∀ j, j < k → (t[p + j]? = u[a + j]? ↔ t'[p' + j]? = u'[a' + j]?)) → misO t u p a k = misO t' u' p' a' k
  | 0, _ => rfl
  | k + 1, h => by
    simp only [misO]
    rw [misO_eq (k := k) fun j hj => h j (by omega)]
    congr 1
    by_cases e : t[p + k]? = u[a + k]?
    · rw [if_pos e, if_pos ((h k (by omega)).mp e)]
    · rw [if_neg e, if_neg (fun z => e ((h k (by omega)).mpr z))]
theorem mis_eq {t t' u u' : List Nat} {p p' : Nat} : ∀ {k : Nat}, (∀ j, j < k → (t[p + j]? = u[j]? ↔ t'[p' + j]? = u'[j]?)) → mis t u p k = mis t' u' p' k
  | 0, _ => rfl
  | k + 1, h => by
    simp only [mis]
    rw [mis_eq (k := k) fun j hj => h j (by omega)]
    congr 1
    by_cases e : t[p + k]? = u[k]?
    · rw [if_pos e, if_pos ((h k (by omega)).mp e)]
    · rw [if_neg e, if_neg (fun z => e ((h k (by omega)).mpr z))]
def gd (l : List Nat) (i : Nat) : Nat := (l[i]?).getD 0
/-- laid at the first i + 1 places -/
def layN (u l : List Nat) : Nat → List Nat
  | 0 => u
  | i + 1 => layN u l i ++ u.drop (u.length - (gd l (i + 1) - gd l i))
theorem Ch.at_ {S : List Nat} {p q : Nat} {l : List Nat} (h : Ch S p q l) : ∀ i, i < l.length → Ch S p (gd l i) (l.take (i + 1)) ∧ (i + 1 < l.length → ∃ s ∈ S, gd l (i + 1) = gd l i + s) := by
  induction h with
  | one p =>
    intro i hi
    have : i = 0 := by simp at hi; omega
    subst this
    exact ⟨Ch.one _, fun h => by simp at h⟩
  | @cons p s q l h1 h2 ih =>
    intro i hi
    cases i with
    | zero =>
      refine ⟨Ch.one _, fun h => ⟨s, h1, ?_⟩⟩
      obtain ⟨r, e⟩ := h2.head
      subst e
      rfl
    | succ i =>
      have hi' : i < l.length := by simpa using hi
      obtain ⟨a, b⟩ := ih i hi'
      have e1 : gd (p :: l) (i + 1) = gd l i := rfl
      refine ⟨by rw [e1, List.take_succ_cons]; exact Ch.cons h1 a, fun h => ?_⟩
      obtain ⟨s', h3, h4⟩ := b (by simpa using h)
      exact ⟨s', h3, h4⟩
theorem layN_cost {S t u : List Nat} (hS : Steps u S) {q : Nat} {l : List Nat} (h : Ch S 0 q l) : ∀ i, i < l.length → (layN u l i).length = gd l i + u.length ∧ mis t (layN u l i) 0 (gd l i + u.length) = cst t u (l.take (i + 1))
  | 0, hi => by
    obtain ⟨r, e⟩ := h.head
    subst e
    refine ⟨by show u.length = 0 + u.length; omega, ?_⟩
    show mis t u 0 (0 + u.length) = mis t u 0 u.length
    rw [Nat.zero_add]
  | i + 1, hi => by
    obtain ⟨ih1, ih2⟩ := layN_cost hS (t := t) h i (by omega)
    obtain ⟨c1, c2⟩ := Ch.at_ h i (by omega)
    obtain ⟨s, hs, es⟩ := c2 hi
    obtain ⟨s1, s2, s3⟩ := hS s hs
    have ed : gd l (i + 1) - gd l i = s := by omega
    have el : layN u l (i + 1) = layN u l i ++ u.drop (u.length - s) := by simp only [layN]; rw [ed]
    have dl : (u.drop (u.length - s)).length = s := by rw [List.length_drop]; omega
    have hlen : (layN u l (i + 1)).length = gd l (i + 1) + u.length := by rw [el, List.length_append, ih1, dl, es]; omega
    refine ⟨hlen, ?_⟩
    have etk : l.take (i + 1 + 1) = l.take (i + 1) ++ [gd l i + s] := by
      have : l[i + 1]? = some (gd l i + s) := by
        rw [← es]; unfold gd
        rw [List.getElem?_eq_getElem hi]; rfl
      rw [List.take_add_one, this]; rfl
    have cs := cst_snoc (t := t) hS c1 hs
    rw [← etk] at cs
    have e1 : gd l (i + 1) + u.length = (gd l i + u.length) + s := by omega
    rw [e1, mis_add]
    have e2 : mis t (layN u l (i + 1)) 0 (gd l i + u.length) = mis t (layN u l i) 0 (gd l i + u.length) := mis_eq fun j hj => by
      rw [el, List.getElem?_append_left (by rw [ih1]; omega)]
    have e3 : misO t (layN u l (i + 1)) (0 + (gd l i + u.length)) (gd l i + u.length) s = misO t u (gd l i + s + (u.length - s)) (u.length - s) s := misO_eq fun j hj => by
      rw [el, List.getElem?_append_right (by rw [ih1]; omega), ih1, List.getElem?_drop, show gd l i + u.length + j - (gd l i + u.length) = j by omega, show 0 + (gd l i + u.length) + j = gd l i + s + (u.length - s) + j by omega]
    have e4 := mis_add t u (gd l i + s) (u.length - s) s
    rw [show u.length - s + s = u.length by omega] at e4
    rw [e2, e3, ih2]
    omega

end Ov

namespace Ov
open PySem L2
abbrev sLaid : Stmt := top 40
/-- a text that the word makes, laid along a chain -/
def Laid (t u : List Nat) : Prop := u.length ≤ t.length ∧ ∃ l, Ch (shiftsOf u) 0 (t.length - u.length) l ∧ ∀ p ∈ l, (t.drop p).take u.length = u
theorem Laid.self (u : List Nat) : Laid u u := ⟨Nat.le_refl _, [0], by rw [Nat.sub_self]; exact Ch.one _, fun p hp => by rw [List.mem_singleton.mp hp, List.drop_zero, List.take_length]⟩
theorem Laid.more {t u : List Nat} (h : Laid t u) {s : Nat} (hs : s ∈ shiftsOf u) : Laid (t ++ u.drop (u.length - s)) u := by
  obtain ⟨h1, l, h2, h3⟩ := h
  obtain ⟨s1, s2, s3⟩ := steps_of u s hs
  have sh : u.drop s = u.take (u.length - s) := (shift_iff s2).mpr s3
  have ln : (t ++ u.drop (u.length - s)).length = t.length + s := by rw [List.length_append, List.length_drop]; omega
  refine ⟨by rw [ln]; omega, l ++ [t.length - u.length + s], ?_, fun p hp => ?_⟩
  · rw [ln, show t.length + s - u.length = t.length - u.length + s by omega]
    exact h2.snoc hs
  · rcases List.mem_append.mp hp with hp | hp
    · have b := (Ch.le_all h2 p hp).2
      rw [List.drop_append_of_le_length (by omega), List.take_append_of_le_length (by rw [List.length_drop]; omega)]
      exact h3 p hp
    · rw [List.mem_singleton.mp hp]
      obtain ⟨r, er⟩ := h2.last
      have hl := h3 (t.length - u.length) (by rw [er]; simp)
      have hl' : t.drop (t.length - u.length) = u := by
        rw [List.take_of_length_le (by rw [List.length_drop]; omega)] at hl
        exact hl
      rw [List.drop_append_of_le_length (by omega), ← List.drop_drop, hl', sh, List.take_append_drop, List.take_length]
def spLaid : Sp := fun vs H Q _ => ∃ (p b : Addr) (u : List Nat) (most : Int), vs = [.ref p, .ref b, .int most] ∧ Hand H p ∧ H b = some (.lst (u.map sg)) ∧ Low u ∧ 1 ≤ u.length ∧ u.length ≤ 900 ∧ 0 ≤ most ∧ most ≤ 900 ∧
  ∀ (t : List Nat) (r : Addr) (H' : Hp), H r = none → H' r = some (.lst (t.map sg)) → Low t → Laid t u → (t.length : Int) ≤ max most u.length → Hand H' p → Keep p H H' → Q (.ref r) H'
theorem fseq_set {te : TE} {i : Nat} {rest : TS} {D : Ends} {σ : St} {H : Hp} (h : te σ H fun x H1 => rest D (σ.set i (some x)) H1) : tSeq (tAsg te (gName i)) rest D σ H := h
theorem asg_set {te : TE} {i : Nat} {D : Ends} {σ : St} {H : Hp} (h : te σ H fun x H1 => D.nx (σ.set i (some x)) H1) : tAsg te (gName i) D σ H := h
theorem filter_at {l : List Nat} {f : Nat → Bool} {i o : Nat} (h : l[i]? = some o) : (l.take (i + 1)).filter f = (l.take i).filter f ++ (if f o = true then [o] else []) := by
  rw [take_at h, List.filter_append]
  congr 1
  by_cases hf : f o = true <;> simp [hf]
theorem far_comp {K : PySem.W.Frag} {st : Addr} {S : List Nat} {left : Nat} {σ : St} {H2 : Hp} {Q : VK} {n i3 i5 : Nat} (hn : σ.length = n) (h3 : σ[i3]? = some (some (.ref st))) (h5 : σ[i5]? = some (some (.int (left : Int)))) (hst : H2 st = some (.lst (vInts S))) (hS : S.length ≤ 900)
    (k : ∀ D H3, H2 D = none → H3 D = some (.lst (vInts (S.filter fun s => decide (s ≤ left)))) → Same H2 H3 → Q (.ref D) H3) :
    tComp (iList K (tVar i3)) (fun _ => tTest (tOp (rI0 fun i j => .bl (decide (i ≤ j))) (tVar n) (tVar i5))) (fun _ => tVar n) σ H2 Q := by
  refine ⟨_, h3, st, rfl, ⟨_, SqL.of hst⟩, fun D hD cb => ?_⟩
  have i5l : i5 < σ.length := (List.getElem?_eq_some_iff.mp h5).1
  refine comp_list (K := K) (a := st) (xs := vInts S) (fun i ys H3 => ys = vInts ((S.take i).filter fun s => decide (s ≤ left)) ∧ Same H2 H3 ∧ H3 D = some (.lst ys)) (by rw [vInts_len]; exact small1000 (by omega)) ?_ ?_ ?_ ?_ ?_
  · exact ⟨rfl, Same.upd hD, upd_same⟩
  · rintro i ys H3 ⟨rfl, _⟩
    rw [vInts_len]
    exact Nat.le_trans (List.length_filter_le _ _) (by rw [List.length_take]; omega)
  · rintro i ys H3 _ ⟨_, s5, _⟩; exact SqL.of (s5 _ _ hst)
  · rintro i x ys H3 hx ⟨rfl, s5, hD3⟩
    obtain ⟨o, ho, rfl⟩ := vInts_at hx
    have e8 : (σ ++ [some (V.int (o : Int))])[n]? = some (some (.int (o : Int))) := by rw [← hn, List.getElem?_append_right (Nat.le_refl _)]; simp
    have e5 : (σ ++ [some (V.int (o : Int))])[i5]? = some (some (.int (left : Int))) := by rw [List.getElem?_append_left i5l]; exact h5
    refine ⟨_, e8, _, e5, _, _, rfl, rfl, _, rfl, ?_⟩
    have stp := filter_at (f := fun s => decide (s ≤ left)) ho
    by_cases h1 : o ≤ left
    · rw [decide_eq_true (show ((o : Int) ≤ (left : Int)) by omega)]
      refine iteT ⟨_, e8, hD3, ?_, fun e o' z => by rw [upd_ne (ne_of_none z hD)]; exact s5 _ _ z, upd_same⟩
      rw [stp, if_pos (by simp [h1]), vInts_snoc']
    · rw [decide_eq_false (show ¬ ((o : Int) ≤ (left : Int)) by omega)]
      refine iteF ⟨?_, s5, hD3⟩
      rw [stp, if_neg (by simp [h1]), List.append_nil]
  · rintro ys H3 ⟨rfl, s5, hD3⟩
    rw [vInts_len, List.take_length] at hD3
    exact k D H3 hD hD3 s5
section
variable {P : Program} {w : World} {K : PySem.W.Frag} {mg : Str → Option Value} {base : Heap}
theorem scLaid : FnScope ["pot", "word", "most", "near", "text", "left", "some", "far"] ["pot", "word", "most"] (defScope sLaid) := ⟨rfl, rfl, rfl, by decide +kernel, rfl, by decide +kernel, by decide +kernel⟩
theorem ok_laid (M : Md K mg) (B : Bl mg) (F : FF K "_law_laid" sLaid) (F_law_take : Fn P w K mg base CX0 "_law_take" 1 ["pot", "many"] spTake) (F_law_shifts : Fn P w K mg base CX0 "_law_shifts" 1 ["word"] spShifts) : Fn P w K mg base CX0 "_law_laid" 2 ["pot", "word", "most"] spLaid := by
  refine fn_ok M F scLaid (fun _ _ _ _ _ _ => us3 fun _ _ _ => rfl) (fun vs H Q E h => ?_) (fun f cdv A outer s H vs Q E hr h => ?_)
  · obtain ⟨p, b, u, most, rfl, _⟩ := h; rfl
  · obtain ⟨p, b, u, most, rfl, hp, hb, lu, u1, ul, m0, m1, k⟩ := h
    refine ⟨_, (pss_cons (ps_set (i := 3) scLaid.nd rfl (by first | exact Or.inl rfl | exact Or.inr rfl) (pe_fn F_law_shifts hr pass0 (pa_cons (pv 1) pa_nil)))
      (pss_cons (ps_set (i := 4) scLaid.nd rfl (by first | exact Or.inl rfl | exact Or.inr rfl) (pe_listOf B.list (pv 1)))
      (pss_cons (ps_set (i := 5) scLaid.nd rfl (by first | exact Or.inl rfl | exact Or.inr rfl) (pe_fn F_law_take hr pass0 (pa_cons (pv 0) (pa_cons (pe_max rfl B.max pe_int (pe_op op_add (pe_op op_sub (pv 2) (pe_lenL B.len (pv 1))) pe_int)) pa_nil))))
      (pss_cons (ps_setC (i := 6) ["pot", "word", "most", "near", "text", "left", "some", ""] rfl scLaid.nd rfl (by first | exact Or.inl rfl | exact Or.inr rfl) (pi_list (pv 3)) (fun _ => by exact (pif_one (pt_cmpR op_le (pv 8) (pv 5) (nomark _)))) (fun _ => by exact (pv 8)))
      (pss_cons (ps_while PassesOwn.never (pt_cmpR (op_neLI (by exact hr)) (pv 6) (pe_lst pa_nil) (nomark _)) (pss_cons (ps_set (i := 7) scLaid.nd rfl (by first | exact Or.inl rfl | exact Or.inr rfl) (pe_ix ix_list (pv 6) (pe_fn F_law_take hr pass0 (pa_cons (pv 0) (pa_cons (pe_lenL B.len (pv 6)) pa_nil))) (fun _ _ => rfl)))
      (pss_cons (ps_set (i := 4) scLaid.nd rfl (by first | exact Or.inl rfl | exact Or.inr rfl) (pe_op op_cat (pv 4) (pe_slice sl_list (pv 1) (po_some (pe_op op_sub (pe_lenL B.len (pv 1)) (pv 7))) po_none)))
      (pss_cons (ps_set (i := 5) scLaid.nd rfl (by first | exact Or.inl rfl | exact Or.inr rfl) (pe_op op_sub (pv 5) (pv 7)))
      (pss_one (ps_setC (i := 6) ["pot", "word", "most", "near", "text", "left", "some", ""] rfl scLaid.nd rfl (by first | exact Or.inl rfl | exact Or.inr rfl) (pi_list (pv 3)) (fun _ => by exact (pif_one (pt_cmpR op_le (pv 8) (pv 5) (nomark _)))) (fun _ => by exact (pv 8))))))))
      (pss_one (ps_ret (pv 4)))))))), ?_⟩
    have nbp := hand_ne hp hb
    refine ⟨_, rfl, b, u, rfl, hb, lu, u1, ul, fun st H1 hst0 hst1 s1 => ?_⟩
    have nst : st ≠ p := (hp.ne hst0).symm
    refine ⟨_, rfl, b, _, rfl, SqL.of (s1 _ _ hb), fun tq htq => ?_⟩
    have s2 := Same.upd (o := .lst (u.map sg)) htq
    have htq2 := upd_same (H := H1) (a := tq) (o := .lst (u.map sg))
    have hp1 := hp.same s1
    have ntq : tq ≠ p := (hp1.ne htq).symm
    have tqn : H tq = none := s1.free htq
    generalize L2.upd H1 tq (.lst (u.map sg)) = H2 at s2 htq2 ⊢
    have s12 := s1.trans s2
    have hp2 := hp.same s12
    refine ⟨_, rfl, _, rfl, _, rfl, b, _, rfl, SqL.of (s12 _ _ hb), _, _, rfl, rfl, _, _, rfl, rfl, _, _, rfl, rfl, ?_⟩
    rw [List.length_map]
    refine ⟨p, _, rfl, hp2, by omega, by omega, fun lf H3 l0 l1 hp3 k3 => ?_⟩
    have k03 : Keep p H H3 := fun c o h n => k3 _ _ (s12 _ _ h) n
    obtain ⟨left, rfl⟩ : ∃ n : Nat, lf = (n : Int) := ⟨lf.toNat, by omega⟩
    have hst3 := k3 _ _ (s2 _ _ hst1) nst
    have htq3 := k3 _ _ htq2 ntq
    have sl := shifts_len u
    refine fseq_set (far_comp (K := K) rfl rfl rfl hst3 (by omega) fun sm H4 hsm0 hsm4 s4 => ?_)
    have hp4 := hp3.same s4
    refine ⟨fun m σ H5 => ∃ (t : List Nat) (left : Nat) (tq sm : Addr) (v7 : Option V), m = left ∧ σ = [some (.ref p), some (.ref b), some (.int most), some (.ref st), some (.ref tq), some (.int (left : Int)), some (.ref sm), v7] ∧ H tq = none ∧ H5 tq = some (.lst (t.map sg)) ∧ tq ≠ p ∧ sm ≠ p ∧ H5 sm = some (.lst (vInts ((shiftsOf u).filter fun s => decide (s ≤ left)))) ∧ H5 st = some (.lst (vInts (shiftsOf u))) ∧ Low t ∧ Laid t u ∧ ((t.length + left : Nat) : Int) ≤ max most u.length ∧ Hand H5 p ∧ Keep p H H5, ⟨left, u, left, tq, sm, none, rfl, rfl, tqn, s4 _ _ htq3, ntq, (hp3.ne hsm0).symm, hsm4, s4 _ _ hst3, lu, Laid.self u, by omega, hp4, fun c o h n => s4 _ _ (k03 _ _ h n)⟩, ?_⟩
    rintro m σ H5 ⟨t, left, tq, sm, v7, rfl, rfl, tqn, htq5, ntq, nsm, hsm5, hst5, lt, La, tl, hp5, k05⟩
    refine ⟨_, rfl, Nat.zero_le _, fun e0 he0 => ?_⟩
    have s6 := Same.upd (o := .lst []) he0
    have he6 := upd_same (H := H5) (a := e0) (o := .lst [])
    generalize L2.upd H5 e0 (.lst []) = H6 at s6 he6 ⊢
    refine ⟨sm, e0, _, [], rfl, rfl, SqL.of (s6 _ _ hsm5), SqL.of he6, _, rfl, ?_⟩
    cases hf : (shiftsOf u).filter fun s => decide (s ≤ m) with
    | nil =>
      refine iteF ⟨_, rfl, k t tq H6 tqn (s6 _ _ htq5) lt La (by omega) (hp5.same s6) fun c o h n => s6 _ _ (k05 _ _ h n)⟩
    | cons f0 fr =>
      rw [hf] at hsm5
      refine iteT ⟨fun σ' H' => ∃ m', m' < m ∧ ∃ (t : List Nat) (left : Nat) (tq sm : Addr) (v7 : Option V), m' = left ∧ σ' = [some (.ref p), some (.ref b), some (.int most), some (.ref st), some (.ref tq), some (.int (left : Int)), some (.ref sm), v7] ∧ H tq = none ∧ H' tq = some (.lst (t.map sg)) ∧ tq ≠ p ∧ sm ≠ p ∧ H' sm = some (.lst (vInts ((shiftsOf u).filter fun s => decide (s ≤ left)))) ∧ H' st = some (.lst (vInts (shiftsOf u))) ∧ Low t ∧ Laid t u ∧ ((t.length + left : Nat) : Int) ≤ max most u.length ∧ Hand H' p ∧ Keep p H H', fun _ _ h => h, ?_⟩
      have hsm6 := s6 _ _ hsm5
      have flen : (f0 :: fr).length ≤ 900 := by rw [← hf]; exact Nat.le_trans (List.length_filter_le _ _) (by omega)
      refine ⟨_, rfl, _, rfl, _, rfl, sm, _, rfl, SqL.of hsm6, p, _, rfl, hp5.same s6, by rw [vInts_len, List.length_cons]; omega, by rw [vInts_len]; omega, fun r H7 r0 r1 hp7 k7 => ?_⟩
      rw [vInts_len] at r1
      have k57 : Keep p H5 H7 := fun c o h n => k7 _ _ (s6 _ _ h) n
      have hrl : r.toNat < (f0 :: fr).length := by omega
      have hge : (f0 :: fr)[r.toNat]? = some (f0 :: fr)[r.toNat] := by simp [hrl]
      generalize (f0 :: fr)[r.toNat] = s at hge
      have hsf : s ∈ (shiftsOf u).filter fun s => decide (s ≤ m) := by rw [hf]; exact List.mem_of_getElem? hge
      have hss := (List.mem_filter.mp hsf).1
      have hsm' : s ≤ m := of_decide_eq_true (List.mem_filter.mp hsf).2
      obtain ⟨sb1, sb2, _⟩ := steps_of u s hss
      have hat : atI (vInts (f0 :: fr)) r = some (.int (s : Int)) := by
        obtain ⟨v, hv, _, e⟩ := atI_ex (vInts (f0 :: fr)) r r0 (by rw [vInts_len]; exact r1)
        obtain ⟨q, hq, rfl⟩ := vInts_at hv
        rw [hge] at hq
        rw [e, Option.some.inj hq]
      refine ⟨sm, _, _, _, rfl, rfl, SqL.of (k57 _ _ hsm5 nsm), hat, ?_⟩
      have hb7 := k57 _ _ (k05 _ _ hb nbp) nbp
      have htq7 := k57 _ _ htq5 ntq
      have hst7 := k57 _ _ hst5 nst
      refine ⟨_, rfl, _, rfl, _, rfl, b, _, rfl, SqL.of hb7, _, rfl, _, _, rfl, rfl, _, rfl, b, _, rfl, SqL.of hb7, fun q1 hq1 => ?_⟩
      have e1 : cutV (u.map sg) (some (((u.map sg).length : Nat) - (s : Int))) none = (u.drop (u.length - s)).map sg := by
        rw [List.length_map, show ((u.length : Int) - (s : Int)) = ((u.length - s : Nat) : Int) by omega, cut_lo (by omega)]; rfl
      rw [e1]
      have s8 := Same.upd (o := .lst ((u.drop (u.length - s)).map sg)) hq1
      have hq8 := upd_same (H := H7) (a := q1) (o := .lst ((u.drop (u.length - s)).map sg))
      generalize L2.upd H7 q1 (.lst ((u.drop (u.length - s)).map sg)) = H8 at s8 hq8 ⊢
      have dl : (u.drop (u.length - s)).length = s := by rw [List.length_drop]; omega
      refine cat_sg (s8 _ _ htq7) hq8 (by rw [dl]; omega) fun q2 hq2 => ?_
      have s9 := Same.upd (o := .lst ((t ++ u.drop (u.length - s)).map sg)) hq2
      have hq9 := upd_same (H := H8) (a := q2) (o := .lst ((t ++ u.drop (u.length - s)).map sg))
      have hp8 := hp7.same s8
      have nq2 : q2 ≠ p := (hp8.ne hq2).symm
      have q2n : H q2 = none := hp8.free (fun c o h n => s8 _ _ (k57 _ _ (k05 _ _ h n) n)) hq2
      generalize L2.upd H8 q2 (.lst ((t ++ u.drop (u.length - s)).map sg)) = H9 at s9 hq9 ⊢
      have s79 := s8.trans s9
      have k59 : Keep p H5 H9 := fun c o h n => s79 _ _ (k57 _ _ h n)
      refine ⟨_, rfl, _, rfl, _, _, rfl, rfl, ?_⟩
      refine nm_int (j := ((m - s : Nat) : Int)) (congrArg V.int (by omega)) ?_
      refine asg_set (far_comp (K := K) rfl rfl rfl (s79 _ _ hst7) (by omega) fun sm2 H10 hsm20 hsm210 s10 => ?_)
      have hp9 := hp7.same s79
      exact ⟨m - s, by omega, t ++ u.drop (u.length - s), m - s, q2, sm2, _, rfl, rfl, q2n, s10 _ _ hq9, nq2, (hp9.ne hsm20).symm, hsm210, s10 _ _ (s79 _ _ hst7), lt.app (lu.drop _), La.more hss, by rw [List.length_append, dl]; omega, hp9.same s10, fun c o h n => s10 _ _ (k59 _ _ (k05 _ _ h n) n)⟩
end

end Ov

namespace Ov
open PySem L2
/-! with how few wrong signs: what the law asks -/
theorem shifts_get {u : List Nat} {d : Nat} : d ∈ shiftsOf u ↔ 1 ≤ d ∧ d ≤ u.length ∧ ∀ q, q < u.length - d → u[d + q]? = u[q]? := by
  unfold shiftsOf
  rw [List.mem_filter, List.mem_map]
  constructor
  · rintro ⟨⟨q, hq, rfl⟩, h⟩
    rw [List.mem_range] at hq
    exact ⟨by omega, by omega, (shift_iff (by omega)).mp (of_decide_eq_true h)⟩
  · rintro ⟨h1, h2, h3⟩
    exact ⟨⟨d - 1, by rw [List.mem_range]; omega, by omega⟩, decide_eq_true ((shift_iff h2).mpr h3)⟩
theorem mis_mono (t u : List Nat) (p : Nat) {a b : Nat} (h : a ≤ b) : mis t u p a ≤ mis t u p b := by
  have := mis_add t u p a (b - a)
  rw [show a + (b - a) = b by omega] at this
  omega
theorem mis_zero {t u : List Nat} {p : Nat} : ∀ {k : Nat}, mis t u p k = 0 ↔ ∀ j, j < k → t[p + j]? = u[j]?
  | 0 => ⟨fun _ j hj => absurd hj (Nat.not_lt_zero _), fun _ => rfl⟩
  | k + 1 => by
    have ih := mis_zero (t := t) (u := u) (p := p) (k := k)
    simp only [mis]
    constructor
    · intro h j hj
      by_cases e : t[p + k]? = u[k]?
      · rcases Nat.lt_or_ge j k with z | z
        · exact ih.mp (by omega) j z
        · rw [show j = k by omega]; exact e
      · rw [if_neg e] at h; omega
    · intro h
      rw [if_pos (h k (by omega)), ih.mpr fun j hj => h j (by omega)]
theorem mis_tri (a b c : List Nat) : ∀ n, mis a c 0 n ≤ mis a b 0 n + mis b c 0 n
  | 0 => Nat.le_refl _
  | n + 1 => by
    have ih := mis_tri a b c n
    simp only [mis, Nat.zero_add]
    by_cases e1 : a[n]? = b[n]?
    · by_cases e2 : b[n]? = c[n]?
      · rw [if_pos e1, if_pos e2, if_pos (e1.trans e2)]; omega
      · rw [if_neg e2]; (repeat' split) <;> omega
    · rw [if_neg e1]; (repeat' split) <;> omega
theorem mis_sym (a b : List Nat) : ∀ n, mis a b 0 n = mis b a 0 n
  | 0 => rfl
  | n + 1 => by
    have ih := mis_sym a b n
    simp only [mis, Nat.zero_add]
    rw [ih]
    by_cases e : a[n]? = b[n]?
    · rw [if_pos e, if_pos e.symm]
    · rw [if_neg e, if_neg (fun z => e z.symm)]
theorem mis_set {t : List Nat} {i c : Nat} : ∀ n, mis (t.set i c) t 0 n ≤ 1 ∧ (n ≤ i → mis (t.set i c) t 0 n = 0)
  | 0 => ⟨Nat.zero_le _, fun _ => rfl⟩
  | n + 1 => by
    obtain ⟨h1, h2⟩ := mis_set (t := t) (i := i) (c := c) n
    simp only [mis, Nat.zero_add]
    by_cases e : n = i
    · have := h2 (by omega)
      refine ⟨by split <;> omega, fun h => by omega⟩
    · rw [List.getElem?_set_ne (fun z => e z.symm), if_pos rfl]
      exact ⟨h1, fun h => h2 (by omega)⟩
theorem lies_mis {t u : List Nat} {p : Nat} (h : p + u.length ≤ t.length) : p ∈ liesIn t u ↔ mis t u p u.length = 0 := by
  rw [mis_zero]
  unfold liesIn
  rw [List.mem_filter, List.mem_range, decide_eq_true_eq]
  constructor
  · rintro ⟨_, e⟩ j hj
    rw [← List.getElem?_drop, ← List.getElem?_take_of_lt hj, e]
  · intro g
    refine ⟨by omega, List.ext_getElem? fun j => ?_⟩
    rcases Nat.lt_or_ge j u.length with z | z
    · rw [List.getElem?_take_of_lt z, List.getElem?_drop]; exact g j z
    · rw [List.getElem?_eq_none (by rw [List.length_take]; omega), List.getElem?_eq_none z]
theorem cst_zero {S t u : List Nat} (hS : Steps u S) {p q : Nat} {l : List Nat} (h : Ch S p q l) : cst t u l = 0 ↔ ∀ x ∈ l, mis t u x u.length = 0 := by
  induction h with
  | one p =>
    show mis t u p u.length = 0 ↔ _
    constructor
    · intro h x hx; rw [List.mem_singleton.mp hx]; exact h
    · intro h; exact h p (List.mem_singleton.mpr rfl)
  | @cons p s q l h1 h2 ih =>
    obtain ⟨s1, s2, s3⟩ := hS s h1
    rw [cst_cons h2]
    constructor
    · intro h x hx
      have hl := ih.mp (by omega)
      rcases List.mem_cons.mp hx with e | e
      · subst e
        obtain ⟨r, er⟩ := h2.head
        have m1 := hl (x + s) (by rw [er]; exact List.mem_cons_self)
        have m2 := mis_split (t := t) (p := x) s3 (u.length - s) (Nat.le_refl _)
        rw [show s + (u.length - s) = u.length by omega] at m2
        have m3 := mis_mono t u (x + s) (show u.length - s ≤ u.length by omega)
        omega
      · exact hl x e
    · intro h
      have m1 := h p List.mem_cons_self
      have m2 := mis_mono t u p s2
      have := ih.mpr fun x hx => h x (List.mem_cons_of_mem _ hx)
      omega
theorem cst_ham {S u : List Nat} (hS : Steps u S) {q : Nat} {l : List Nat} (h : Ch S 0 q l) : ∃ X : List Nat, ∀ t, cst t u l = mis t X 0 (q + u.length) := by
  obtain ⟨r, e⟩ := h.last
  have hl : l.length = r.length + 1 := by rw [e]; simp
  have hg : gd l r.length = q := by rw [e]; unfold gd; simp
  refine ⟨layN u l r.length, fun t => ?_⟩
  have := (layN_cost (t := t) hS h r.length (by omega)).2
  rw [hg, ← hl, List.take_length] at this
  exact this.symm
theorem least_dif {t t' u l l' : List Nat} (e : t'.length = t.length) (ut : u.length ≤ t.length) (h : Least (shiftsOf u) t u true 0 (t.length - u.length) l) (h' : Least (shiftsOf u) t' u true 0 (t'.length - u.length) l') : cst t' u l' ≤ cst t u l + mis t' t 0 t.length := by
  obtain ⟨X, hX⟩ := cst_ham (steps_of u) h.1
  rw [show t.length - u.length + u.length = t.length by omega] at hX
  have h1 := ky_le (h'.2 l (by rw [e]; exact h.1))
  have h2 := mis_tri t' t X t.length
  have h3 := hX t
  have h4 := hX t'
  omega
theorem Ch.cov {S u : List Nat} (hS : Steps u S) (u1 : 1 ≤ u.length) {p q : Nat} {l : List Nat} (h : Ch S p q l) : ∀ i, p ≤ i → i < q + u.length → ∃ x ∈ l, x ≤ i ∧ i < x + u.length := by
  induction h with
  | one p => intro i h1 h2; exact ⟨p, List.mem_singleton.mpr rfl, h1, h2⟩
  | @cons p s q l h1 h2 ih =>
    intro i h3 h4
    obtain ⟨s1, s2, _⟩ := hS s h1
    rcases Nat.lt_or_ge i (p + s) with z | z
    · exact ⟨p, List.mem_cons_self, h3, by omega⟩
    · obtain ⟨x, hx, hx2⟩ := ih i z h4
      exact ⟨x, List.mem_cons_of_mem _ hx, hx2⟩
theorem Ch.rise {S u : List Nat} (hS : Steps u S) {p q : Nat} {l : List Nat} (h : Ch S p q l) : l.Pairwise (· < ·) := by
  induction h with
  | one p => exact List.pairwise_singleton _ _
  | @cons p s q l h1 h2 ih =>
    have := (hS s h1).1
    refine List.pairwise_cons.mpr ⟨fun x hx => ?_, ih⟩
    have := (Ch.le_all h2 x hx).1
    omega
theorem zero_lies {t u l : List Nat} (ut : u.length ≤ t.length) (h : Ch (shiftsOf u) 0 (t.length - u.length) l) (z : cst t u l = 0) : ∀ x ∈ l, x ∈ liesIn t u := fun x hx => by
  have := (Ch.le_all h x hx).2
  exact (lies_mis (by omega)).mpr ((cst_zero (steps_of u) h).mp z x hx)
theorem chain_whole {t u l : List Nat} (u1 : 1 ≤ u.length) (ut : u.length ≤ t.length) (h : Ch (shiftsOf u) 0 (t.length - u.length) l) : bareOf t.length u.length l = t.length :=
  bareOf_eq (Nat.le_refl _) (fun i hi => cov_true.mpr (Ch.cov (steps_of u) u1 h i (Nat.zero_le _) (by omega))) fun z => absurd z (Nat.lt_irrefl _)
theorem zero_whole {t u l : List Nat} (u1 : 1 ≤ u.length) (ut : u.length ≤ t.length) (h : Ch (shiftsOf u) 0 (t.length - u.length) l) (z : cst t u l = 0) : bareOf t.length u.length (liesIn t u) = t.length :=
  bareOf_eq (Nat.le_refl _) (fun i hi => by
    obtain ⟨x, hx, hx2⟩ := Ch.cov (steps_of u) u1 h i (Nat.zero_le _) (by omega)
    exact cov_true.mpr ⟨x, zero_lies ut h z x hx, hx2⟩) fun z => absurd z (Nat.lt_irrefl _)
theorem lies_chain {t u : List Nat} (u1 : 1 ≤ u.length) (hb : bareOf t.length u.length (liesIn t u) = t.length) : ∀ (k x : Nat), t.length - u.length - x ≤ k → x ∈ liesIn t u → ∃ l, Ch (shiftsOf u) x (t.length - u.length) l ∧ ∀ y ∈ l, y ∈ liesIn t u
  | k, x, hk, hx => by
    have xi := lies_in hx u1
    by_cases e : x = t.length - u.length
    · exact ⟨[x], by rw [← e]; exact Ch.one _, fun y hy => by rw [List.mem_singleton.mp hy]; exact hx⟩
    · match k, hk with
      | 0, hk => omega
      | k + 1, hk =>
        obtain ⟨p, hp, p1, p2⟩ := cov_true.mp (bareOf_cov (n := t.length) (m := u.length) (ks := liesIn t u) (i := x + u.length) (by omega))
        have pi := lies_in hp u1
        have g1 := mis_zero.mp ((lies_mis xi).mp hx)
        have g2 := mis_zero.mp ((lies_mis pi).mp hp)
        have hs : p - x ∈ shiftsOf u := shifts_get.mpr ⟨by omega, by omega, fun q hq => by
          rw [← g1 (p - x + q) (by omega), ← g2 q (by omega), show x + (p - x + q) = p + q by omega]⟩
        obtain ⟨l, hl, hy⟩ := lies_chain u1 hb k p (by omega) hp
        refine ⟨x :: l, Ch.cons hs (by rw [show x + (p - x) = p by omega]; exact hl), fun y h => ?_⟩
        rcases List.mem_cons.mp h with e | e
        · rw [e]; exact hx
        · exact hy y e
theorem whole_zero {t u : List Nat} (u1 : 1 ≤ u.length) (ut : u.length ≤ t.length) (hb : bareOf t.length u.length (liesIn t u) = t.length) : ∃ l, Ch (shiftsOf u) 0 (t.length - u.length) l ∧ cst t u l = 0 := by
  obtain ⟨p, hp, p1, p2⟩ := cov_true.mp (bareOf_cov (n := t.length) (m := u.length) (ks := liesIn t u) (i := 0) (by omega))
  have e : p = 0 := by omega
  subst e
  obtain ⟨l, hl, hy⟩ := lies_chain u1 hb _ 0 (Nat.le_refl _) hp
  refine ⟨l, hl, (cst_zero (steps_of u) hl).mpr fun x hx => (lies_mis ?_).mp (hy x hx)⟩
  have := lies_in (hy x hx) u1
  exact this
theorem least_whole {t u l : List Nat} (u1 : 1 ≤ u.length) (ut : u.length ≤ t.length) (h : Least (shiftsOf u) t u true 0 (t.length - u.length) l) : cst t u l = 0 ↔ bareOf t.length u.length (liesIn t u) = t.length := by
  constructor
  · exact zero_whole u1 ut h.1
  · intro hb
    obtain ⟨l', c, z⟩ := whole_zero u1 ut hb
    have := ky_le (h.2 l' c)
    omega
theorem laid_zero {t u l : List Nat} (hL : Laid t u) (h : Least (shiftsOf u) t u true 0 (t.length - u.length) l) : cst t u l = 0 := by
  obtain ⟨ut, l0, c0, p0⟩ := hL
  have z : cst t u l0 = 0 := (cst_zero (steps_of u) c0).mpr fun x hx => by
    have := (Ch.le_all c0 x hx).2
    refine (lies_mis (by omega)).mp ?_
    unfold liesIn
    rw [List.mem_filter, List.mem_range]
    exact ⟨by omega, decide_eq_true (p0 x hx)⟩
  have := ky_le (h.2 l0 c0)
  omega
theorem mis_rev {t u : List Nat} {q : Nat} (hq : q + u.length ≤ t.length) : ∀ a, a ≤ u.length → mis t.reverse u.reverse (t.length - u.length - q) a + mis t u q (u.length - a) = mis t u q u.length
  | 0, _ => by simp [mis]
  | a + 1, ha => by
    have ih := mis_rev hq a (by omega)
    have e1 : mis t u q (u.length - a) = mis t u q (u.length - (a + 1)) + (if t[q + (u.length - (a + 1))]? = u[u.length - (a + 1)]? then 0 else 1) := by
      rw [show u.length - a = (u.length - (a + 1)) + 1 by omega]
      simp only [mis]
    simp only [mis]
    rw [List.getElem?_reverse (by omega), List.getElem?_reverse (by omega), show t.length - 1 - (t.length - u.length - q + a) = q + (u.length - (a + 1)) by omega, show u.length - 1 - a = u.length - (a + 1) by omega]
    omega
theorem shifts_rev {u : List Nat} {s : Nat} (h : s ∈ shiftsOf u) : s ∈ shiftsOf u.reverse := by
  obtain ⟨h1, h2, h3⟩ := shifts_get.mp h
  refine shifts_get.mpr ⟨h1, by rw [List.length_reverse]; exact h2, fun q hq => ?_⟩
  rw [List.length_reverse] at hq
  rw [List.getElem?_reverse (by omega), List.getElem?_reverse (by omega), ← h3 (u.length - 1 - (s + q)) (by omega), show s + (u.length - 1 - (s + q)) = u.length - 1 - q by omega]
theorem Ch.rev {t u : List Nat} {p q : Nat} {l : List Nat} (h : Ch (shiftsOf u) p q l) (hq : q + u.length ≤ t.length) : ∃ l', Ch (shiftsOf u.reverse) (t.length - u.length - q) (t.length - u.length - p) l' ∧ cst t.reverse u.reverse l' = cst t u l := by
  induction h with
  | one p =>
    refine ⟨[t.length - u.length - p], Ch.one _, ?_⟩
    show mis t.reverse u.reverse (t.length - u.length - p) u.reverse.length = mis t u p u.length
    have := mis_rev hq u.length (Nat.le_refl _)
    rw [List.length_reverse]
    rw [Nat.sub_self] at this
    exact this
  | @cons p s q l h1 h2 ih =>
    obtain ⟨l', c, e⟩ := ih hq
    have hpq := h2.le
    obtain ⟨s1, s2, _⟩ := steps_of u s h1
    have es : t.length - u.length - (p + s) + s = t.length - u.length - p := by omega
    refine ⟨l' ++ [t.length - u.length - p], by rw [← es]; exact c.snoc (shifts_rev h1), ?_⟩
    have c1 := cst_snoc (t := t.reverse) (steps_of u.reverse) c (shifts_rev h1)
    rw [es, List.length_reverse] at c1
    rw [cst_cons h2]
    have m1 := mis_rev (t := t) (u := u) (q := p) (by omega) (u.length - s) (by omega)
    have m2 := mis_rev (t := t) (u := u) (q := p) (by omega) u.length (Nat.le_refl _)
    rw [show u.length - (u.length - s) = s by omega] at m1
    have z : mis t u p (u.length - u.length) = 0 := by rw [Nat.sub_self]; rfl
    omega
theorem least_rev {t u l l' : List Nat} (ut : u.length ≤ t.length) (h : Least (shiftsOf u) t u true 0 (t.length - u.length) l) (h' : Least (shiftsOf u.reverse) t.reverse u.reverse true 0 (t.reverse.length - u.reverse.length) l') : cst t.reverse u.reverse l' = cst t u l := by
  have hr := h'.1
  rw [List.length_reverse, List.length_reverse] at h' hr
  obtain ⟨l1, c1, e1⟩ := Ch.rev (t := t) h.1 (by omega)
  obtain ⟨l2, c2, e2⟩ := Ch.rev (t := t.reverse) hr (by rw [List.length_reverse, List.length_reverse]; omega)
  rw [Nat.sub_self, Nat.sub_zero] at c1
  rw [List.length_reverse, List.length_reverse, Nat.sub_self, Nat.sub_zero, List.reverse_reverse] at c2
  rw [List.reverse_reverse, List.reverse_reverse] at e2
  have a := ky_le (h'.2 l1 c1)
  have b := ky_le (h.2 l2 c2)
  omega
theorem own_chain {u l : List Nat} (h : Ch (shiftsOf u) 0 0 l) : l = [0] := by
  generalize e : (0 : Nat) = z at h
  cases h with
  | one => rfl
  | cons h1 h2 =>
    have := (steps_of u _ h1).1
    have := h2.le
    omega
theorem own_zero (u : List Nat) : cst u u [0] = 0 := by
  show mis u u 0 u.length = 0
  exact mis_zero.mpr fun j _ => by rw [Nat.zero_add]
theorem own_least (u : List Nat) : Least (shiftsOf u) u u true 0 (u.length - u.length) [0] := by
  rw [Nat.sub_self]
  exact least_one 0 (steps_of u)
theorem cst_le {t u l : List Nat} (ut : u.length ≤ t.length) (h : Ch (shiftsOf u) 0 (t.length - u.length) l) : cst t u l ≤ t.length := by
  obtain ⟨X, hX⟩ := cst_ham (steps_of u) h
  rw [show t.length - u.length + u.length = t.length by omega] at hX
  rw [hX t]
  exact mis_le _ _ _ _

end Ov

namespace Ov
open PySem L2
abbrev sSpoilt : Stmt := top 41
def spSpoilt : Sp := fun vs H Q _ => ∃ (p a b : Addr) (t z : List Nat) (n : Int), vs = [.ref p, .ref a, .ref b, .int n] ∧ Hand H p ∧ H a = some (.lst (t.map sg)) ∧ H b = some (.lst (z.map sg)) ∧ Low t ∧ 1 ≤ t.length ∧ t.length ≤ 900 ∧ Low z ∧ z.length ≤ 900 ∧ 0 ≤ n ∧ n ≤ 900 ∧
  ∀ (t' : List Nat) (r : Addr) (H' : Hp), H r = none → H' r = some (.lst (t'.map sg)) → Low t' → t'.length = t.length → ((mis t' t 0 t.length : Nat) : Int) ≤ n → Hand H' p → Keep p H H' → Q (.ref r) H'
section
variable {P : Program} {w : World} {K : PySem.W.Frag} {mg : Str → Option Value} {base : Heap}
theorem scSpoilt : FnScope ["pot", "text", "letters", "times", "found", "k"] ["pot", "text", "letters", "times"] (defScope sSpoilt) := ⟨rfl, rfl, rfl, by decide +kernel, rfl, by decide +kernel, by decide +kernel⟩
theorem ok_spoilt (M : Md K mg) (B : Bl mg) (F : FF K "_law_spoilt" sSpoilt) (F_law_take : Fn P w K mg base CX0 "_law_take" 1 ["pot", "many"] spTake) : Fn P w K mg base CX0 "_law_spoilt" 2 ["pot", "text", "letters", "times"] spSpoilt := by
  refine fn_ok M F scSpoilt (fun _ _ _ _ _ _ => us4 fun _ _ _ _ => rfl) (fun vs H Q E h => ?_) (fun f cdv A outer s H vs Q E hr h => ?_)
  · obtain ⟨p, a, b, t, z, n, rfl, _⟩ := h; rfl
  · obtain ⟨p, a, b, t, z, n, rfl, hp, ha, hb, lt, t1, tl, lz, zl, n0, n1, k⟩ := h
    refine ⟨_, (pss_cons (ps_set (i := 4) scSpoilt.nd rfl (by first | exact Or.inl rfl | exact Or.inr rfl) (pe_listOf B.list (pv 1)))
      (pss_cons (ps_for PassesOwn.never rfl (pi_range1 (by rfl) B.range (pa_cons (pv 3) pa_nil)) (pg_name (i := 5) scSpoilt.nd rfl (by first | exact Or.inl rfl | exact Or.inr rfl))
      (pss_one (ps_asg (pe_ix ix_list (pe_op op_cat (pv 2) (pe_lst (pa_cons pe_str pa_nil))) (pe_fn F_law_take hr pass0 (pa_cons (pv 0) (pa_cons (pe_op op_add (pe_lenL B.len (pv 2)) pe_int) pa_nil))) (fun _ _ => rfl)) (pg_sub (pv 4) (pe_fn F_law_take hr pass0 (pa_cons (pv 0) (pa_cons (pe_lenL B.len (pv 4)) pa_nil))) set_list))))
      (pss_one (ps_ret (pv 4))))), ?_⟩
    have nbp := hand_ne hp hb
    refine ⟨_, rfl, a, _, rfl, SqL.of ha, fun r hr0 => ?_⟩
    have s0 := Same.upd (o := .lst (t.map sg)) hr0
    have nrp : r ≠ p := (hp.ne hr0).symm
    refine ⟨_, rfl, n, rfl, by omega, by omega, ?_⟩
    refine for_range (lo := 0) (n := n.toNat) (fun i σ H2 => ∃ (t' : List Nat) (v5 : Option V), σ = [some (.ref p), some (.ref a), some (.ref b), some (.int n), some (.ref r), v5] ∧ H2 r = some (.lst (t'.map sg)) ∧ Low t' ∧ t'.length = t.length ∧ mis t' t 0 t.length ≤ i ∧ Hand H2 p ∧ Keep p H H2) ?_ ?_ ?_
    · exact ⟨t, none, rfl, upd_same, lt, rfl, Nat.le_of_eq (mis_zero.mpr fun j _ => by rw [Nat.zero_add]), hp.same s0, s0.keep⟩
    · rintro i σ H2 hi ⟨t', v5, rfl, hr2, lt', tl', hm, hp2, k2⟩
      have hb2 := k2 _ _ hb nbp
      refine ⟨_, rfl, by show 1 ≤ sizeLine; decide, fun l hl => ?_⟩
      have s3 := Same.upd (o := .lst [V.str "q"]) hl
      have eq : [V.str "q"] = [113].map sg := rfl
      refine cat_sg (t := z) (u := [113]) (s3 _ _ hb2) upd_same (by simp; omega) fun l2 hl2 => ?_
      have s4 := s3.trans (Same.upd (o := .lst ((z ++ [113]).map sg)) hl2)
      have hl24 := upd_same (H := L2.upd H2 l (.lst [V.str "q"])) (a := l2) (o := .lst ((z ++ [113]).map sg))
      generalize L2.upd (L2.upd H2 l (.lst [V.str "q"])) l2 (.lst ((z ++ [113]).map sg)) = H4 at *
      have hp4 := hp2.same s4
      have lzq : Low (z ++ [113]) := lz.app fun c hc => by rw [List.mem_singleton.mp hc]; decide
      refine ⟨_, rfl, _, rfl, b, _, rfl, SqL.of (s4 _ _ hb2), _, _, rfl, rfl, p, _, rfl, hp4, by rw [List.length_map]; omega, by rw [List.length_map]; omega, fun x H5 x0 x1 hp5 k5 => ?_⟩
      rw [List.length_map] at x1
      have hl25 := k5 _ _ hl24 (hand_ne hp4 hl24)
      obtain ⟨c, _, c1, c2, ec⟩ := sg_at (t := z ++ [113]) lzq x0 (by simp; omega)
      have hr5 := k5 _ _ (s4 _ _ hr2) (hand_ne hp4 (s4 _ _ hr2))
      refine ⟨l2, _, x, _, rfl, rfl, SqL.of hl25, ec, _, rfl, _, rfl, _, rfl, r, _, rfl, SqL.of hr5, p, _, rfl, hp5, by rw [List.length_map]; omega, by rw [List.length_map]; omega, fun y H6 y0 y1 hp6 k6 => ?_⟩
      rw [List.length_map] at y1
      have hr6 := k6 _ _ hr5 (hand_ne hp5 hr5)
      refine ⟨r, _, y, y.toNat, rfl, rfl, hr6, by rw [List.length_map]; exact ixN_pos _ _ y0 y1, ?_⟩
      refine ⟨t'.set y.toNat c, _, rfl, by rw [upd_same, List.map_set], lt'.set _ _ ⟨c1, c2⟩, by rw [List.length_set]; exact tl', by have h1 := mis_tri (t'.set y.toNat c) t' t t.length; have h2 := (mis_set (t := t') (i := y.toNat) (c := c) t.length).1; omega, hp6.upd nrp.symm, fun e o q n => ?_⟩
      rw [upd_ne (ne_of_none q hr0)]
      exact k6 _ _ (k5 _ _ (s4 _ _ (k2 e o q n)) n) n
    · rintro σ H2 ⟨t', v5, rfl, hr2, lt', tl', hm, hp2, k2⟩
      exact ⟨_, rfl, k t' r H2 hr0 hr2 lt' tl' (by omega) hp2 k2⟩
end

end Ov

namespace Ov
open PySem L2
abbrev sFits : Stmt := top 13
abbrev sFewW : Stmt := top 27
theorem Least.tail {S t u : List Nat} {p q : Nat} {l : List Nat} (h : Least S t u true p q (p :: l)) (hl : l ≠ []) : ∃ s ∈ S, Least S t u true (p + s) q l := by
  obtain ⟨h1, h2⟩ := h
  cases h1 with
  | one => exact absurd rfl hl
  | @cons _ s _ _ hs hc =>
    refine ⟨s, hs, hc, fun l' h' => ?_⟩
    have := h2 (p :: l') (Ch.cons hs h')
    refine Bool.eq_false_iff.mpr fun z => ?_
    unfold ky at this z
    rw [if_pos rfl, if_pos rfl] at this z
    have z' := kyN_lt.mp z
    have hcons : ltL (il (p :: l')) (il (p :: l)) = ltL (il l') (il l) := by
      show ltL ((p : Int) :: il l') ((p : Int) :: il l) = _
      simp only [ltL]; rw [if_pos trivial]
    have yes : lt3 (kyN (cst t u (p :: l')) (p :: l').length (p :: l')) (kyN (cst t u (p :: l)) (p :: l).length (p :: l)) = true := by
      rw [kyN_lt, cst_cons h', cst_cons hc, hcons]
      simp only [List.length_cons]
      rcases z' with z' | ⟨z', y | ⟨y, y'⟩⟩
      · exact .inl (by omega)
      · exact .inr ⟨by omega, .inl (by omega)⟩
      · exact .inr ⟨by omega, .inr ⟨by omega, y'⟩⟩
    rw [yes] at this
    cases this
def spFits : Sp := fun vs H Q _ => ∃ (a b : Addr) (t u : List Nat), vs = [.ref a, .ref b] ∧ H a = some (.lst (t.map sg)) ∧ H b = some (.lst (u.map sg)) ∧ Low t ∧ Low u ∧ 1 ≤ u.length ∧ u.length ≤ t.length ∧ Q .non H
def spFewW : Sp := fun vs H Q _ => ∃ (a b : Addr) (t u : List Nat), vs = [.ref a, .ref b] ∧ H a = some (.lst (t.map sg)) ∧ H b = some (.lst (u.map sg)) ∧ Low t ∧ Low u ∧ 1 ≤ u.length ∧ u.length ≤ t.length ∧ t.length ≤ 900 ∧
  (∃ l, Ch (shiftsOf u) 0 (t.length - u.length) l) ∧
  (∀ l, Least (shiftsOf u) t u true 0 (t.length - u.length) l → ∀ (g c : Addr) (H' : Hp), H g = none → H c = none → H' g = some (.tup [.int (cst t u l : Nat), .ref c]) → H' c = some (.lst (vInts l)) → Same H H' → Q (.ref g) H')
section
variable {P : Program} {w : World} {K : PySem.W.Frag} {mg : Str → Option Value} {base : Heap}
theorem scFits : FnScope ["text", "word"] ["text", "word"] (defScope sFits) := ⟨rfl, rfl, rfl, by decide +kernel, rfl, by decide +kernel, by decide +kernel⟩
theorem ok_fits (M : Md K mg) (B : Bl mg) (F : FF K "check_fits" sFits) (Fcheck_signs : Fn P w K mg base CX0 "check_signs" 2 ["text"] spCheck) (Fcheck_word : Fn P w K mg base CX0 "check_word" 3 ["word"] spCheckWord) : Fn P w K mg base CX0 "check_fits" 4 ["text", "word"] spFits := by
  refine fn_ok M F scFits (fun _ _ _ _ _ _ => us2 fun _ _ => rfl) (fun vs H Q E h => ?_) (fun f cdv A outer s H vs Q E hr h => ?_)
  · obtain ⟨a, b, t, u, rfl, _⟩ := h; rfl
  · obtain ⟨a, b, t, u, rfl, ha, hb, lt, lu, u1, ut, k⟩ := h
    refine ⟨_, (pss_cons (ps_expr (pe_fn Fcheck_word hr pass0 (pa_cons (pv 1) pa_nil)))
      (pss_cons (ps_expr (pe_fn Fcheck_signs hr pass0 (pa_cons (pv 0) pa_nil)))
      (pss_one (ps_if (pt_cmpR op_lt (pe_lenL B.len (pv 0)) (pe_lenL B.len (pv 1)) (nomark _)) (pss_one ps_never) pss_nil)))), ?_⟩
    refine ⟨_, rfl, b, u, rfl, hb, lu, u1, ?_⟩
    refine ⟨_, rfl, a, t, rfl, ha, lt, ?_⟩
    refine ⟨_, rfl, a, _, rfl, SqL.of ha, _, rfl, b, _, rfl, SqL.of hb, _, _, rfl, rfl, _, rfl, ?_⟩
    rw [decide_eq_false (by rw [List.length_map, List.length_map]; omega)]
    exact iteF k
theorem scFewW : FnScope ["text", "word", "best", "chain", "cost", "many", "behind"] ["text", "word"] (defScope sFewW) := ⟨rfl, rfl, rfl, by decide +kernel, rfl, by decide +kernel, by decide +kernel⟩
theorem ok_fewW (M : Md K mg) (B : Bl mg) (F : FF K "fewest_wrong" sFewW) (Fcheck_fits : Fn P w K mg base CX0 "check_fits" 4 ["text", "word"] spFits) (Fbest_ways : Fn P w K mg base CX0 "best_ways" 6 ["text", "word"] spBest) : Fn P w K mg base CX0 "fewest_wrong" 7 ["text", "word"] spFewW := by
  refine fn_ok M F scFewW (fun _ _ _ _ _ _ => us2 fun _ _ => rfl) (fun vs H Q E h => ?_) (fun f cdv A outer s H vs Q E hr h => ?_)
  · obtain ⟨a, b, t, u, rfl, _⟩ := h; rfl
  · obtain ⟨a, b, t, u, rfl, ha, hb, lt, lu, u1, ut, tl, k1, k2⟩ := h
    refine ⟨_, (pss_cons (ps_expr (pe_fn Fcheck_fits hr pass0 (pa_cons (pv 0) (pa_cons (pv 1) pa_nil))))
      (pss_cons (ps_set (i := 2) scFewW.nd rfl (by first | exact Or.inl rfl | exact Or.inr rfl) (pe_fn Fbest_ways hr pass0 (pa_cons (pv 0) (pa_cons (pv 1) pa_nil))))
      (pss_cons (ps_if (pt_cmpR (op_notInX (by exact hr)) pe_int (pv 2) (by with_unfolding_all rfl)) (pss_one ps_never) pss_nil)
      (pss_cons (ps_set (i := 3) scFewW.nd rfl (by first | exact Or.inl rfl | exact Or.inr rfl) (pe_lst (pa_cons pe_int pa_nil)))
      (pss_cons (ps_while PassesOwn.never (pt_cmpR op_lt (pe_ix ix_list (pv 3) (pe_un un_neg pe_int) (fun _ _ => rfl)) (pe_op op_sub (pe_lenL B.len (pv 0)) (pe_lenL B.len (pv 1))) (nomark _)) (pss_cons (ps_asg (pe_dget (by exact hu_of hr) (pv 2) (pe_ix ix_list (pv 3) (pe_un un_neg pe_int) (fun _ _ => rfl)) (fun _ _ => rfl)) (pg_tup rfl (pgs_cons (pg_name (i := 4) scFewW.nd rfl (by first | exact Or.inl rfl | exact Or.inr rfl)) (pgs_cons (pg_name (i := 5) scFewW.nd rfl (by first | exact Or.inl rfl | exact Or.inr rfl)) (pgs_cons (pg_name (i := 6) scFewW.nd rfl (by first | exact Or.inl rfl | exact Or.inr rfl)) pgs_nil)))))
      (pss_one (ps_expr (pe_bm PySem.F.plainAttrs_list PySem.F.slot_list_append PySem.F.type_list_append mt_append (pv 3) (pa_cons (pv 6) pa_nil))))))
      (pss_one (ps_ret (pe_tup (pa_cons (pe_ix ix_tup (pe_dget (by exact hu_of hr) (pv 2) pe_int (fun _ _ => rfl)) pe_int (fun _ _ => rfl)) (pa_cons (pv 3) pa_nil)))))))))), ?_⟩
    refine ⟨_, rfl, _, rfl, a, b, t, u, rfl, ha, hb, lt, lu, u1, ut, ?_⟩
    refine ⟨_, rfl, _, rfl, a, b, t, u, rfl, ha, hb, lu, u1, ut, tl, fun r H1 hr0 B1 s1 => ?_⟩
    obtain ⟨L, hL⟩ : ∃ L, L = t.length - u.length := ⟨_, rfl⟩
    rw [← hL] at k1 k2 B1
    have hS := steps_of u
    rcases B1.look (p := 0) (Nat.le_refl _) with ⟨l, c, Ll, Dg, c0, hc1⟩ | ⟨no, Dg⟩
    · have Dg' : DGet H1 r (.int 0) (some (.ref c)) := Dg
      refine ⟨_, rfl, r, _, rfl, Dg', _, rfl, iteF ?_⟩
      refine ⟨by show 1 ≤ sizeLine; decide, fun ch hch => ?_⟩
      have s2 := Same.upd (o := .lst [V.int 0]) hch
      have hch2 := upd_same (H := H1) (a := ch) (o := .lst [V.int 0])
      have chn : H ch = none := s1.free hch
      generalize L2.upd H1 ch (.lst [V.int 0]) = H2 at s2 hch2 ⊢
      have s12 := s1.trans s2
      refine ⟨fun m σ H3 => ∃ (pre rest : List Nat) (p : Nat) (v4 v5 v6 : Option V), m = rest.length ∧ l = pre ++ (p :: rest) ∧ Least (shiftsOf u) t u true p L (p :: rest) ∧ Same H1 H3 ∧ H3 ch = some (.lst (vInts (pre ++ [p]))) ∧ σ = [some (.ref a), some (.ref b), some (.ref r), some (.ref ch), v4, v5, v6], ⟨l.length - 1, [], l.drop 1, 0, none, none, none, by rw [List.length_drop], ?_, ?_, s2, hch2, rfl⟩, ?_⟩
      · obtain ⟨r', e⟩ := Ll.1.head
        rw [e]; rfl
      · obtain ⟨r', e⟩ := Ll.1.head
        have : 0 :: l.drop 1 = l := by rw [e]; rfl
        rw [this]; exact Ll
      · rintro m σ H3 ⟨pre, rest, p, v4, v5, v6, rfl, el, Lp, s3, hch3, rfl⟩
        have sH3 := s1.trans s3
        have hat : atI (vInts (pre ++ [p])) (-1) = some (.int (p : Int)) := by rw [vInts_snoc', atI_last]
        refine ⟨_, rfl, _, rfl, ch, _, _, _, rfl, rfl, SqL.of hch3, hat, _, rfl, a, _, rfl, SqL.of (sH3 _ _ ha), _, rfl, b, _, rfl, SqL.of (sH3 _ _ hb), _, _, rfl, rfl, _, _, rfl, rfl, _, rfl, ?_⟩
        have pL := Lp.1.le
        cases rest with
        | nil =>
          have e : p = L := by
            obtain ⟨r', e'⟩ := Lp.1.last
            cases r' with
            | nil => injection e'
            | cons x xs => injection e' with _ e'; simp at e'
          rw [decide_eq_false (by rw [List.length_map, List.length_map]; omega)]
          rcases (B1.same s3).look (p := 0) (Nat.le_refl _) with ⟨l', c', Ll', Dg2, c0', hc3⟩ | ⟨no, _⟩
          · have el' := Ll.uniq Ll'
            subst el'
            have Dg2' : DGet H3 r (.int 0) (some (.ref c')) := Dg2
            refine iteF ⟨_, rfl, r, _, rfl, Dg2', c', _, _, _, rfl, rfl, SqT.of hc3, atI_nat (j := 0) rfl, _, rfl, by show 2 ≤ sizeLine; decide, fun g hg => ?_⟩
            refine k2 l Ll g ch _ (sH3.free hg) chn upd_same ?_ (sH3.trans (Same.upd hg))
            rw [(Same.upd hg) _ _ hch3, el]
          · exact absurd Ll.1 (no l)
        | cons q rest' =>
          obtain ⟨s, hs, Lq⟩ := Lp.tail (by simp)
          have eq : p + s = q := by
            obtain ⟨r', e'⟩ := Lq.1.head
            injection e' with e' _
            exact e'.symm
          have qL := Lq.1.le
          have s1' := (hS s hs).1
          rw [decide_eq_true (by rw [List.length_map, List.length_map]; omega)]
          refine iteT ⟨fun σ' H' => ∃ m', m' < (q :: rest').length ∧ ∃ (pre rest : List Nat) (p : Nat) (v4 v5 v6 : Option V), m' = rest.length ∧ l = pre ++ (p :: rest) ∧ Least (shiftsOf u) t u true p L (p :: rest) ∧ Same H1 H' ∧ H' ch = some (.lst (vInts (pre ++ [p]))) ∧ σ' = [some (.ref a), some (.ref b), some (.ref r), some (.ref ch), v4, v5, v6], fun _ _ h => h, ?_⟩
          rcases (B1.same s3).look (p := p) (Nat.zero_le _) with ⟨l', c', Ll', Dg2, c0', hc3⟩ | ⟨no, _⟩
          · have el' := Lp.uniq Ll'
            subst el'
            refine ⟨_, rfl, _, rfl, _, rfl, ch, _, _, _, rfl, rfl, SqL.of hch3, hat, r, _, rfl, Dg2, c', _, rfl, SqT.of hc3, rfl, _, _, rfl, _, _, rfl, _, _, rfl, rfl, ?_⟩
            have ll := Ch.len_le hS Ll.1
            have hz : (vInts (pre ++ [p])).length < sizeLine := by
              rw [vInts_len, List.length_append, List.length_singleton]
              have : pre.length ≤ l.length := by rw [el, List.length_append]; omega
              exact small1000 (by omega)
            refine ⟨_, rfl, .inl ⟨rfl, _, SqL.of hch3⟩, _, rfl, ch, _, _, rfl, rfl, hch3, hz, rest'.length, by simp, pre ++ [p], rest', q, _, _, _, rfl, by rw [el, List.append_assoc]; rfl, by rw [← eq] at Lq ⊢; exact Lq, fun z o h => by rw [upd_ne (ne_of_none h hch)]; exact s3 _ _ h, ?_, rfl⟩
            rw [upd_same, vInts_snoc' (pre ++ [p]) q]
            rfl
          · exact absurd Lp.1 (no _)
    · obtain ⟨l0, hl0⟩ := k1
      exact absurd hl0 (no l0)
end

end Ov

namespace Ov
open PySem L2
abbrev sIsChain : Stmt := top 22
abbrev sLaidOut : Stmt := top 23
abbrev sCost : Stmt := top 24
/-- how far on each goes -/
def difs (ns : List Int) : List Int := (List.range (ns.length - 1)).map fun i => (ns[i + 1]?).getD 0 - (ns[i]?).getD 0
def isCh (S : List Nat) (ns : List Int) (last : Int) : Bool := decide (ns ≠ []) && (decide ((ns[0]?).getD 1 = 0) && (decide ((ns[ns.length - 1]?).getD 0 = last) && (difs ns).all fun d => decide (d ∈ S.map fun (s : Nat) => (s : Int))))
def spIsChain : Sp := fun vs H Q _ => ∃ (b c : Addr) (u : List Nat) (ns : List Int) (n : Int), vs = [.ref b, .ref c, .int n] ∧ H b = some (.lst (u.map sg)) ∧ H c = some (.lst (ns.map V.int)) ∧ Low u ∧ 1 ≤ u.length ∧ u.length ≤ 900 ∧ ns.length ≤ 1000 ∧ ∀ H', Same H H' → Q (.bl (isCh (shiftsOf u) ns (n - u.length))) H'
def spLaidOut : Sp := fun vs H Q _ => ∃ (b c : Addr) (u l : List Nat) (q : Nat), vs = [.ref b, .ref c] ∧ H b = some (.lst (u.map sg)) ∧ H c = some (.lst (vInts l)) ∧ 1 ≤ u.length ∧ q + u.length ≤ 900 ∧ Ch (shiftsOf u) 0 q l ∧ ∀ (r : Addr) (H' : Hp), H r = none → H' r = some (.lst ((layN u l (l.length - 1)).map sg)) → Same H H' → Q (.ref r) H'
def spCost : Sp := fun vs H Q _ => ∃ (a b c : Addr) (t u l : List Nat), vs = [.ref a, .ref b, .ref c] ∧ H a = some (.lst (t.map sg)) ∧ H b = some (.lst (u.map sg)) ∧ H c = some (.lst (vInts l)) ∧ Low t ∧ Low u ∧ 1 ≤ u.length ∧ u.length ≤ t.length ∧ t.length ≤ 900 ∧ Ch (shiftsOf u) 0 (t.length - u.length) l ∧ ∀ H', Same H H' → Q (.int (cst t u l : Nat)) H'
theorem vI_il (l : List Nat) : vInts l = (il l).map V.int := rfl
theorem il_get (l : List Nat) (i : Nat) : (il l)[i]? = (l[i]?).map fun (x : Nat) => (x : Int) := by simp [il]
theorem isCh_of {S : List Nat} {q : Nat} {l : List Nat} (h : Ch S 0 q l) : isCh S (il l) (q : Int) = true := by
  have hne : l ≠ [] := by obtain ⟨r, e⟩ := h.head; rw [e]; simp
  have hlen : (il l).length = l.length := by simp [il]
  unfold isCh
  rw [Bool.and_eq_true, Bool.and_eq_true, Bool.and_eq_true]
  refine ⟨decide_eq_true (by simp [il, hne]), decide_eq_true ?_, decide_eq_true ?_, ?_⟩
  · obtain ⟨r, e⟩ := h.head
    rw [e]; rfl
  · obtain ⟨r, e⟩ := h.last
    rw [hlen, il_get, e, List.length_append, List.length_singleton, show r.length + 1 - 1 = r.length by omega, List.getElem?_append_right (Nat.le_refl _), Nat.sub_self]
    rfl
  · rw [List.all_eq_true]
    intro d hd
    unfold difs at hd
    rw [List.mem_map] at hd
    obtain ⟨i, hi, rfl⟩ := hd
    rw [List.mem_range, hlen] at hi
    obtain ⟨s, hs, es⟩ := (Ch.at_ h i (by omega)).2 (by omega)
    refine decide_eq_true (List.mem_map.mpr ⟨s, hs, ?_⟩)
    rw [il_get, il_get]
    unfold gd at es
    have a1 : i < l.length := by omega
    have a2 : i + 1 < l.length := by omega
    rw [List.getElem?_eq_getElem a1, List.getElem?_eq_getElem a2] at es ⊢
    simp only [Option.getD_some, Option.map_some] at es ⊢
    omega
theorem ints_flat (S : List Nat) : (vInts S).all flatV = true := by
  rw [List.all_eq_true]
  intro v hv
  unfold vInts at hv
  rw [List.map_map, List.mem_map] at hv
  obtain ⟨x, _, rfl⟩ := hv
  rfl
theorem inV_ints (S : List Nat) (d : Int) : inV (.int d) (vInts S) = decide (d ∈ S.map fun (s : Nat) => (s : Int)) := by
  unfold inV vInts
  rw [List.map_map, Bool.eq_iff_iff, List.any_eq_true, decide_eq_true_eq, List.mem_map]
  constructor
  · rintro ⟨v, hv, h⟩
    obtain ⟨x, hx, rfl⟩ := List.mem_map.mp hv
    have h : decide ((x : Int) = d) = true := h
    exact ⟨x, hx, of_decide_eq_true h⟩
  · rintro ⟨x, hx, rfl⟩
    exact ⟨.int (x : Int), List.mem_map.mpr ⟨x, hx, rfl⟩, show decide ((x : Int) = (x : Int)) = true from decide_eq_true rfl⟩
theorem int_get {ns : List Int} {i : Nat} {x : V} (h : (ns.map V.int)[i]? = some x) : ∃ z, ns[i]? = some z ∧ x = .int z := by
  rw [List.getElem?_map] at h
  cases e : ns[i]? with
  | none => rw [e] at h; cases h
  | some z => rw [e] at h; exact ⟨z, rfl, (Option.some.inj h).symm⟩
theorem cut_tail (ns : List Int) : cutV (ns.map V.int) (some 1) none = (ns.drop 1).map V.int := by rw [cutV_cutL, cutL_map, cutL_lo _ _ (by decide)]; rfl
theorem mis_sum (t x : List Nat) : ∀ n, (List.replicate (mis t x 0 n) (1 : Int)).sum = (mis t x 0 n : Nat) := fun n => by
  generalize mis t x 0 n = k
  induction k with
  | zero => rfl
  | succ k ih => rw [List.replicate_succ, List.sum_cons, ih]; omega
section
variable {P : Program} {w : World} {K : PySem.W.Frag} {mg : Str → Option Value} {base : Heap}
theorem scIsChain : FnScope ["word", "chain", "length", "steps"] ["word", "chain", "length"] (defScope sIsChain) := ⟨rfl, rfl, rfl, by decide +kernel, rfl, by decide +kernel, by decide +kernel⟩
theorem ok_is_chain (M : Md K mg) (B : Bl mg) (nall : mg "all" = none) (F : FF K "is_chain" sIsChain) (Fshifts : Fn P w K mg base CX0 "shifts" 5 ["word"] spShifts) : Fn P w K mg base CX0 "is_chain" 6 ["word", "chain", "length"] spIsChain := by
  refine fn_ok M F scIsChain (fun _ _ _ _ _ _ => us3 fun _ _ _ => rfl) (fun vs H Q E h => ?_) (fun f cdv A outer s H vs Q E hr h => ?_)
  · obtain ⟨b, c, u, ns, n, rfl, _⟩ := h; rfl
  · obtain ⟨b, c, u, ns, n, rfl, hb, hc, lu, u1, ul, nl, k⟩ := h
    refine ⟨_, (pss_cons (ps_if (PW.pt (pw_or (pt_cmpR op_eq (pe_lenL B.len (pv 1)) pe_int (nomark _)) (pw_or (pt_cmpR op_ne (pe_ix ix_list (pv 1) pe_int (fun _ _ => rfl)) pe_int (nomark _)) (pw_or1 (pt_cmpR op_ne (pe_ix ix_list (pv 1) (pe_un un_neg pe_int) (fun _ _ => rfl)) (pe_op op_sub (pv 2) (pe_lenL B.len (pv 0))) (nomark _)))))) (pss_one (ps_ret pe_bl)) pss_nil)
      (pss_cons (ps_set (i := 3) scIsChain.nd rfl (by first | exact Or.inl rfl | exact Or.inr rfl) (pe_fn Fshifts hr pass0 (pa_cons (pv 0) pa_nil)))
      (pss_one (ps_ret (pe_allL rfl nall (pe_comp2 ["before", "behind"] ["word", "chain", "length", "steps"] rfl (pi_zip B.zip (pv 1) (pe_slice sl_list (pv 1) (po_some pe_int) po_none)) (fun _ => by exact (pg_tup rfl (pgs_cons (pg_name (i := 4) (show ((["word", "chain", "length", "steps"] : List Str) ++ (["before", "behind"] : List Str)).Nodup by decide +kernel) rfl (by first | exact Or.inl rfl | exact Or.inr rfl)) (pgs_cons (pg_name (i := 5) (show ((["word", "chain", "length", "steps"] : List Str) ++ (["before", "behind"] : List Str)).Nodup by decide +kernel) rfl (by first | exact Or.inl rfl | exact Or.inr rfl)) pgs_nil)))) (fun _ => by exact pif_nil) (fun _ => by exact (pe_cmpR op_in_seq (pe_op op_sub (pv 5) (pv 4)) (pv 3) (by with_unfolding_all rfl))))))))), ?_⟩
    refine ⟨_, rfl, c, _, rfl, SqL.of hc, rfl, _, rfl, ?_⟩
    cases ns with
    | nil =>
      refine iteT (iteT ?_)
      have := k H (Same.refl _)
      exact this
    | cons x r =>
      rw [decide_eq_false (fun q => by have := V.int.inj q; rw [List.length_map, List.length_cons] at this; omega)]
      refine iteF ⟨_, rfl, c, _, _, _, rfl, rfl, SqL.of hc, atI_nat (j := 0) rfl, rfl, _, rfl, ?_⟩
      by_cases hx : x = 0
      · subst hx
        rw [decide_eq_true rfl]
        have hla : atI ((0 :: r).map V.int) (-1) = some (.int (((0 :: r)[(0 :: r).length - 1]?).getD 0)) := atI_neg1 (by rw [List.length_map, List.length_cons]; omega) (by
          rw [List.length_map, List.getElem?_map, List.getElem?_eq_getElem (show (0 :: r).length - 1 < (0 :: r).length by rw [List.length_cons]; omega)]; rfl)
        refine iteF ⟨_, rfl, _, rfl, c, _, _, _, rfl, rfl, SqL.of hc, hla, _, rfl, _, rfl, b, _, rfl, SqL.of hb, _, _, rfl, rfl, rfl, _, rfl, ?_⟩
        rw [List.length_map]
        by_cases hz : ((0 :: r)[(0 :: r).length - 1]?).getD 0 = n - (u.length : Int)
        · rw [decide_eq_true (congrArg V.int hz)]
          refine iteF ⟨_, rfl, b, u, rfl, hb, lu, u1, ul, fun st H1 hst0 hst1 s1 => ?_⟩
          have hc1 := s1 _ _ hc
          refine ⟨_, rfl, _, rfl, 1, rfl, c, _, rfl, SqL.of hc1, fun q hq => ?_⟩
          rw [cut_tail]
          have s2 := Same.upd (o := .lst (((0 :: r).drop 1).map V.int)) hq
          have hq2 := upd_same (H := H1) (a := q) (o := .lst (((0 :: r).drop 1).map V.int))
          generalize L2.upd H1 q (.lst (((0 :: r).drop 1).map V.int)) = H2 at s2 hq2 ⊢
          have sH2 := s1.trans s2
          refine ⟨c, q, _, _, rfl, rfl, s2 _ _ hc1, hq2, fun D hD cb => ?_⟩
          have sl := shifts_len u
          refine comp_zip (k := 2) (a := c) (b := q) (xs := (0 :: r).map V.int) (ys := ((0 :: r).drop 1).map V.int) (fun i ys H3 => ys = ((List.range i).map fun j => decide ((((0 :: r)[j + 1]?).getD 0 - ((0 :: r)[j]?).getD 0) ∈ (shiftsOf u).map fun (s : Nat) => (s : Int))).map V.bl ∧ Same H2 H3 ∧ H3 D = some (.lst ys)) (by rw [List.length_map]; exact small1000 nl) ?_ ?_ ?_ ?_ ?_
          · exact ⟨rfl, Same.upd hD, upd_same⟩
          · rintro i ys H3 ⟨rfl, _⟩; simp
          · rintro i ys H3 _ ⟨_, s3, _⟩
            exact ⟨s3 _ _ (s2 _ _ hc1), s3 _ _ hq2⟩
          · rintro i x' y' p ys H3 hx' hy' hp ⟨rfl, s3, hD3⟩
            obtain ⟨z1, hz1, rfl⟩ := int_get hx'
            obtain ⟨z2, hz2, rfl⟩ := int_get hy'
            rw [List.getElem?_drop] at hz2
            have s4 := Same.upd (o := .tup [V.int z1, .int z2]) hp
            refine ⟨p, _, rfl, SqT.of upd_same, rfl, _, _, rfl, _, _, rfl, rfl, ?_, ?_⟩
            · intro j hj
              match j, hj with
              | 0, _ => rfl
              | 1, _ => rfl
              | 2, _ => rfl
              | 3, _ => rfl
            · refine tNoIf_go ?_
              refine ⟨_, rfl, _, rfl, _, _, rfl, rfl, _, rfl, st, _, rfl, .inl (SqL.of (s4 _ _ (s3 _ _ (s2 _ _ hst1)))), rfl, ints_flat _, s4 _ _ hD3, ?_, fun z o e => ?_, upd_same⟩
              · rw [List.range_succ, List.map_append, List.map_append]
                congr 2
                show V.bl (inV (.int (z2 - z1)) (vInts (shiftsOf u))) = _
                rw [show 1 + i = i + 1 by omega] at hz2
                rw [inV_ints]
                show _ = V.bl (decide (((0 :: r)[i + 1]?).getD 0 - ((0 :: r)[i]?).getD 0 ∈ _))
                rw [hz1, hz2]
                rfl
              · rw [upd_ne (ne_of_none e hD)]
                exact s4 _ _ (s3 _ _ e)
          · rintro ys H3 ⟨rfl, s3, hD3⟩
            have em : min ((0 :: r).map V.int).length (((0 :: r).drop 1).map V.int).length = (0 :: r).length - 1 := by
              rw [List.length_map, List.length_map, List.length_drop]; omega
            rw [em] at hD3
            refine ⟨D, _, rfl, hD3, ?_⟩
            have := k H3 (sH2.trans s3)
            have e : isCh (shiftsOf u) (0 :: r) (n - (u.length : Int)) = (((List.range ((0 :: r).length - 1)).map fun j => decide ((((0 :: r)[j + 1]?).getD 0 - ((0 :: r)[j]?).getD 0) ∈ (shiftsOf u).map fun (s : Nat) => (s : Int))).all id) := by
              unfold isCh difs
              rw [decide_eq_true (show ¬ (0 :: r : List Int) = [] by simp), decide_eq_true (show (((0 :: r : List Int)[0]?).getD 1 = 0) from rfl), decide_eq_true hz, Bool.true_and, Bool.true_and, Bool.true_and, List.all_map, List.all_map]
              rfl
            rw [e] at this
            exact this
        · rw [decide_eq_false (fun q => hz (V.int.inj q))]
          refine iteT ?_
          have := k H (Same.refl _)
          have e : isCh (shiftsOf u) (0 :: r) (n - (u.length : Int)) = false := by
            unfold isCh
            rw [decide_eq_false hz]
            simp
          rw [e] at this
          exact this
      · rw [decide_eq_false (fun q => hx (V.int.inj q))]
        refine iteT (iteT ?_)
        have := k H (Same.refl _)
        have e : isCh (shiftsOf u) (x :: r) (n - (u.length : Int)) = false := by
          unfold isCh
          rw [decide_eq_false (show ¬ ((x :: r)[0]?).getD 1 = 0 from hx)]
          simp
        rw [e] at this
        exact this
theorem scLaidOut : FnScope ["word", "chain", "text", "before", "behind"] ["word", "chain"] (defScope sLaidOut) := ⟨rfl, rfl, rfl, by decide +kernel, rfl, by decide +kernel, by decide +kernel⟩
theorem ok_laid_out (M : Md K mg) (B : Bl mg) (F : FF K "laid_out" sLaidOut) : Fn P w K mg base CX0 "laid_out" 1 ["word", "chain"] spLaidOut := by
  refine fn_ok M F scLaidOut (fun _ _ _ _ _ _ => us2 fun _ _ => rfl) (fun vs H Q E h => ?_) (fun f cdv A outer s H vs Q E hr h => ?_)
  · obtain ⟨b, c, u, l, q, rfl, _⟩ := h; rfl
  · obtain ⟨b, c, u, l, q, rfl, hb, hc, u1, qu, C, k⟩ := h
    refine ⟨_, (pss_cons (ps_set (i := 2) scLaidOut.nd rfl (by first | exact Or.inl rfl | exact Or.inr rfl) (pe_listOf B.list (pv 0)))
      (pss_cons (ps_for PassesOwn.never rfl (pi_zip B.zip (pv 1) (pe_slice sl_list (pv 1) (po_some pe_int) po_none)) (pg_tup rfl (pgs_cons (pg_name (i := 3) scLaidOut.nd rfl (by first | exact Or.inl rfl | exact Or.inr rfl)) (pgs_cons (pg_name (i := 4) scLaidOut.nd rfl (by first | exact Or.inl rfl | exact Or.inr rfl)) pgs_nil)))
      (pss_one (ps_expr (pe_bm PySem.F.plainAttrs_list PySem.F.slot_list_extend PySem.F.type_list_extend mt_extend (pv 2) (pa_cons (pe_slice sl_list (pv 0) (po_some (pe_op op_sub (pe_lenL B.len (pv 0)) (pe_op op_sub (pv 4) (pv 3)))) po_none) pa_nil)))))
      (pss_one (ps_ret (pv 2))))), ?_⟩
    have hS := steps_of u
    refine ⟨_, rfl, b, _, rfl, SqL.of hb, fun x hx => ?_⟩
    have s1 := Same.upd (o := .lst (u.map sg)) hx
    have hx1 := upd_same (H := H) (a := x) (o := .lst (u.map sg))
    generalize L2.upd H x (.lst (u.map sg)) = H1 at s1 hx1 ⊢
    have hc1 := s1 _ _ hc
    rw [vI_il] at hc1
    refine ⟨_, rfl, _, rfl, 1, rfl, c, _, rfl, SqL.of hc1, fun q1 hq1 => ?_⟩
    rw [cut_tail]
    have s2 := Same.upd (o := .lst (((il l).drop 1).map V.int)) hq1
    have hq2 := upd_same (H := H1) (a := q1) (o := .lst (((il l).drop 1).map V.int))
    have hx2 := s2 _ _ hx1
    have hc2 := s2 _ _ hc1
    have sH2 := s1.trans s2
    have nqx : q1 ≠ x := fun z => by subst z; rw [hx1] at hq1; cases hq1
    generalize L2.upd H1 q1 (.lst (((il l).drop 1).map V.int)) = H2 at s2 hq2 hx2 hc2 sH2 ⊢
    have ll : (il l).length = l.length := by simp [il]
    refine ⟨c, q1, _, _, rfl, rfl, hc2, hq2, for_zip (a := c) (b := q1) (xs := (il l).map V.int) (ys := ((il l).drop 1).map V.int) (fun i σ H3 => Same H H3 ∧ H3 q1 = some (.lst (((il l).drop 1).map V.int)) ∧ H3 x = some (.lst ((layN u l i).map sg)) ∧ ∃ v3 v4, σ = [some (.ref b), some (.ref c), some (.ref x), v3, v4]) ?_ ?_ ?_ ?_⟩
    · exact ⟨sH2, hq2, hx2, _, _, rfl⟩
    · rintro i σ H3 _ ⟨s3, h3, _⟩
      have := s3 _ _ hc
      rw [vI_il] at this
      exact ⟨this, h3⟩
    · rintro i x' y' p σ H3 hx' hy' hp ⟨s3, hq3, hx3, v3, v4, rfl⟩
      obtain ⟨z1, hz1, rfl⟩ := int_get hx'
      obtain ⟨z2, hz2, rfl⟩ := int_get hy'
      rw [List.getElem?_drop, show 1 + i = i + 1 by omega] at hz2
      have hi2 : i + 1 < l.length := by have := (List.getElem?_eq_some_iff.mp hz2).1; omega
      have e1 : z1 = (gd l i : Nat) := by
        rw [il_get, List.getElem?_eq_getElem (show i < l.length by omega)] at hz1
        unfold gd; rw [List.getElem?_eq_getElem (show i < l.length by omega)]
        exact (Option.some.inj hz1).symm
      have e2 : z2 = (gd l (i + 1) : Nat) := by
        rw [il_get, List.getElem?_eq_getElem hi2] at hz2
        unfold gd; rw [List.getElem?_eq_getElem hi2]
        exact (Option.some.inj hz2).symm
      obtain ⟨s, hs, es⟩ := (Ch.at_ C i (by omega)).2 hi2
      obtain ⟨sb1, sb2, _⟩ := hS s hs
      have s4 := Same.upd (o := .tup [V.int z1, .int z2]) hp
      have hp4 := upd_same (H := H3) (a := p) (o := .tup [V.int z1, .int z2])
      have hq4 := s4 _ _ hq3
      have hx4 := s4 _ _ hx3
      have s34 := s3.trans s4
      generalize L2.upd H3 p (.tup [V.int z1, .int z2]) = H4 at s4 hp4 hq4 hx4 s34 ⊢
      refine ⟨p, _, rfl, SqT.of hp4, rfl, _, _, rfl, _, _, rfl, rfl, ?_⟩
      have hb4 := s34 _ _ hb
      refine ⟨_, rfl, .inl ⟨rfl, _, SqL.of hx4⟩, _, rfl, _, rfl, b, _, rfl, SqL.of hb4, _, rfl, _, rfl, _, _, rfl, rfl, _, _, rfl, rfl, _, rfl, b, _, rfl, SqL.of hb4, fun q3 hq3' => ?_⟩
      have ec : cutV (u.map sg) (some (((u.map sg).length : Nat) - (z2 - z1))) none = (u.drop (u.length - (gd l (i + 1) - gd l i))).map sg := by
        rw [List.length_map, e1, e2, show ((u.length : Int) - (((gd l (i + 1) : Nat) : Int) - ((gd l i : Nat) : Int))) = ((u.length - (gd l (i + 1) - gd l i) : Nat) : Int) by omega, cut_lo (by omega)]; rfl
      have s5 := Same.upd (o := .lst (cutV (u.map sg) (some (((u.map sg).length : Nat) - (z2 - z1))) none)) hq3'
      have hq5 : (L2.upd H4 q3 (.lst (cutV (u.map sg) (some (((u.map sg).length : Nat) - (z2 - z1))) none))) q3 = some (.lst ((u.drop (u.length - (gd l (i + 1) - gd l i))).map sg)) := by rw [upd_same, ec]
      have hq5' := s5 _ _ hq4
      have hx5 := s5 _ _ hx4
      have s35 := s34.trans s5
      generalize L2.upd H4 q3 (.lst (cutV (u.map sg) (some (((u.map sg).length : Nat) - (z2 - z1))) none)) = H5 at s5 hq5 hq5' hx5 s35 ⊢
      have l1 := (layN_cost (t := []) hS C i (by omega)).1
      have l2 := (layN_cost (t := []) hS C (i + 1) hi2).1
      have gq := (Ch.le_all C (gd l (i + 1)) (by unfold gd; rw [List.getElem?_eq_getElem hi2]; exact List.getElem_mem hi2)).2
      refine ⟨x, q3, _, _, rfl, rfl, hx5, hq5, by rw [List.length_map, List.length_map, ← List.length_append]; show (layN u l (i + 1)).length ≤ _; rw [l2]; exact sz (by omega), ?_⟩
      refine ⟨fun z o e => by rw [upd_ne (ne_of_none e hx)]; exact s35 _ _ e, by rw [upd_ne nqx]; exact hq5', ?_, _, _, rfl⟩
      rw [upd_same, ← List.map_append]
      rfl
    · rintro σ H3 ⟨s3, hq3, hx3, v3, v4, rfl⟩
      have em : min ((il l).map V.int).length (((il l).drop 1).map V.int).length = l.length - 1 := by
        simp [il]
      rw [em] at hx3
      exact ⟨_, rfl, k x H3 hx hx3 s3⟩
theorem scCost : FnScope ["text", "word", "chain"] ["text", "word", "chain"] (defScope sCost) := ⟨rfl, rfl, rfl, by decide +kernel, rfl, by decide +kernel, by decide +kernel⟩
theorem ok_cost (M : Md K mg) (B : Bl mg) (F : FF K "chain_cost" sCost) (Fcheck_fits : Fn P w K mg base CX0 "check_fits" 4 ["text", "word"] spFits) (Fis_chain : Fn P w K mg base CX0 "is_chain" 6 ["word", "chain", "length"] spIsChain) (Flaid_out : Fn P w K mg base CX0 "laid_out" 1 ["word", "chain"] spLaidOut) : Fn P w K mg base CX0 "chain_cost" 7 ["text", "word", "chain"] spCost := by
  refine fn_ok M F scCost (fun _ _ _ _ _ _ => us3 fun _ _ _ => rfl) (fun vs H Q E h => ?_) (fun f cdv A outer s H vs Q E hr h => ?_)
  · obtain ⟨a, b, c, t, u, l, rfl, _⟩ := h; rfl
  · obtain ⟨a, b, c, t, u, l, rfl, ha, hb, hc, lt, lu, u1, ut, tl, C, k⟩ := h
    refine ⟨_, (pss_cons (ps_expr (pe_fn Fcheck_fits hr pass0 (pa_cons (pv 0) (pa_cons (pv 1) pa_nil))))
      (pss_cons (ps_if (pt_not (pt_val (pe_fn Fis_chain hr pass0 (pa_cons (pv 1) (pa_cons (pv 2) (pa_cons (pe_lenL B.len (pv 0)) pa_nil)))))) (pss_one ps_never) pss_nil)
      (pss_one (ps_ret (pe_sumG rfl B.sum (pe_comp2 ["sign", "due"] ["text", "word", "chain"] rfl (pi_zip B.zip (pv 0) (pe_fn Flaid_out hr pass0 (pa_cons (pv 1) (pa_cons (pv 2) pa_nil)))) (fun _ => by exact (pg_tup rfl (pgs_cons (pg_name (i := 3) (show ((["text", "word", "chain"] : List Str) ++ (["sign", "due"] : List Str)).Nodup by decide +kernel) rfl (by first | exact Or.inl rfl | exact Or.inr rfl)) (pgs_cons (pg_name (i := 4) (show ((["text", "word", "chain"] : List Str) ++ (["sign", "due"] : List Str)).Nodup by decide +kernel) rfl (by first | exact Or.inl rfl | exact Or.inr rfl)) pgs_nil)))) (fun _ => by exact (pif_one (pt_cmpR op_ne (pv 3) (pv 4) (nomark _)))) (fun _ => by exact pe_int))))))), ?_⟩
    have hS := steps_of u
    have ll := Ch.len_le hS C
    refine ⟨_, rfl, _, rfl, a, b, t, u, rfl, ha, hb, lt, lu, u1, ut, ?_⟩
    refine ⟨_, rfl, _, rfl, _, rfl, a, _, rfl, SqL.of ha, b, c, u, il l, _, rfl, hb, hc, lu, u1, by omega, by simp [il]; omega, fun H1 s1 => ?_⟩
    rw [List.length_map, show ((t.length : Int) - (u.length : Int)) = ((t.length - u.length : Nat) : Int) by omega, isCh_of C]
    refine ⟨true, rfl, iteF ?_⟩
    refine ⟨_, rfl, _, rfl, _, rfl, b, c, u, l, t.length - u.length, rfl, s1 _ _ hb, s1 _ _ hc, u1, by omega, C, fun r H2 hr0 hr2 s2 => ?_⟩
    have s12 := s1.trans s2
    obtain ⟨X, hX⟩ : ∃ X, X = layN u l (l.length - 1) := ⟨_, rfl⟩
    rw [← hX] at hr2
    have hne : 1 ≤ l.length := by obtain ⟨r', e⟩ := C.head; rw [e, List.length_cons]; omega
    obtain ⟨xl, xc⟩ := layN_cost (t := t) hS C (l.length - 1) (by omega)
    rw [← hX] at xl xc
    have eg : gd l (l.length - 1) = t.length - u.length := by
      obtain ⟨r', e⟩ := C.last
      unfold gd
      rw [e, List.length_append, List.length_singleton, show r'.length + 1 - 1 = r'.length by omega, List.getElem?_append_right (Nat.le_refl _), Nat.sub_self]; rfl
    rw [eg, show t.length - u.length + u.length = t.length by omega] at xl xc
    rw [show l.length - 1 + 1 = l.length by omega, List.take_length] at xc
    refine ⟨a, r, _, _, rfl, rfl, s12 _ _ ha, hr2, fun D hD cb => ?_⟩
    refine comp_zip (k := 2) (a := a) (b := r) (xs := t.map sg) (ys := X.map sg) (fun i ys H3 => ys = (List.replicate (mis t X 0 i) (1 : Int)).map V.int ∧ Same H2 H3 ∧ H3 D = some (.lst ys)) (by rw [List.length_map]; exact small1000 (by omega)) ?_ ?_ ?_ ?_ ?_
    · exact ⟨rfl, Same.upd hD, upd_same⟩
    · rintro i ys H3 ⟨rfl, _⟩
      rw [List.length_map, List.length_replicate]; exact mis_le _ _ _ _
    · rintro i ys H3 _ ⟨_, s3, _⟩
      exact ⟨s3 _ _ (s12 _ _ ha), s3 _ _ hr2⟩
    · rintro i x' y' p ys H3 hx' hy' hp ⟨rfl, s3, hD3⟩
      obtain ⟨d1, hd1, rfl⟩ := sg_get hx'
      obtain ⟨d2, hd2, rfl⟩ := sg_get hy'
      have s4 := Same.upd (o := .tup [sg d1, sg d2]) hp
      refine ⟨p, _, rfl, SqT.of upd_same, rfl, _, _, rfl, _, _, rfl, rfl, ?_, ?_⟩
      · intro j hj
        match j, hj with
        | 0, _ => rfl
        | 1, _ => rfl
        | 2, _ => rfl
      · refine ⟨_, rfl, _, rfl, rfl, _, rfl, ?_⟩
        rw [sg_dec]
        have em : mis t X 0 (i + 1) = mis t X 0 i + (if d1 = d2 then 0 else 1) := by
          simp only [mis]
          rw [Nat.zero_add, hd1, hd2]
          congr 1
          by_cases h : d1 = d2
          · rw [if_pos h, if_pos (by rw [h])]
          · rw [if_neg h, if_neg (fun z => h (Option.some.inj z))]
        by_cases h : d1 = d2
        · rw [decide_eq_true h]
          refine iteF ⟨?_, s3.trans s4, s4 _ _ hD3⟩
          rw [em, if_pos h, Nat.add_zero]
        · rw [decide_eq_false h]
          refine iteT ⟨s4 _ _ hD3, ?_, fun z o e => by rw [upd_ne (ne_of_none e hD)]; exact s4 _ _ (s3 _ _ e), upd_same⟩
          rw [em, if_neg h, List.replicate_succ', List.map_append]; rfl
    · rintro ys H3 ⟨rfl, s3, hD3⟩
      have em : min (t.map sg).length (X.map sg).length = t.length := by rw [List.length_map, List.length_map, xl]; omega
      rw [em] at hD3
      refine ⟨D, _, rfl, hD3, ?_⟩
      rw [mis_sum, xc]
      exact k H3 (s12.trans s3)
end

end Ov

namespace Ov
open PySem L2
abbrev sIsLaying : Stmt := top 32
/-- rising, place by place -/
def Rise (ns : List Int) : Prop := ∀ (k : Nat) (u v : Int), ns[k]? = some u → ns[k + 1]? = some v → u < v
def InL (ns : List Int) (L : List Nat) : Prop := ∀ n ∈ ns, ∃ k ∈ L, n = ((k : Nat) : Int)
def Laying (t u : List Nat) (ns : List Int) : Prop := InL ns (liesIn t u) ∧ Rise ns ∧ bareOf t.length u.length (ns.map Int.toNat) = t.length
theorem Rise.tail {n : Int} {ns : List Int} (h : Rise (n :: ns)) : Rise ns := fun k u v h1 h2 => h (k + 1) u v (by simpa using h1) (by simpa using h2)
theorem rise_pw : ∀ {ns : List Int}, Rise ns → ns.Pairwise (· < ·)
  | [], _ => List.Pairwise.nil
  | [n], _ => List.pairwise_singleton _ _
  | n :: m :: r, h => by
    have ih := rise_pw h.tail
    have hnm : n < m := h 0 n m rfl rfl
    refine List.Pairwise.cons ?_ ih
    intro x hx
    rcases List.mem_cons.mp hx with rfl | hx
    · exact hnm
    · have := (List.pairwise_cons.mp ih).1 x hx; omega
theorem inL_nat {ns : List Int} {L : List Nat} (h : InL ns L) : ns = (ns.map Int.toNat).map (fun (k : Nat) => (k : Int)) := by
  rw [List.map_map]
  conv => lhs; rw [← List.map_id ns]
  apply List.map_congr_left
  intro n hn
  obtain ⟨k, _, rfl⟩ := h n hn
  simp
theorem inL_vInts {ns : List Int} {L : List Nat} (h : InL ns L) : ns.map V.int = vInts (ns.map Int.toNat) := by
  unfold vInts
  rw [← inL_nat h]
theorem inL_mem {ns : List Int} {L : List Nat} (h : InL ns L) : ∀ p ∈ ns.map Int.toNat, p ∈ L := fun p hp => by
  obtain ⟨n, hn, rfl⟩ := List.mem_map.mp hp
  obtain ⟨k, hk, rfl⟩ := h n hn
  simpa using hk
theorem rise_nat {ns : List Int} {L : List Nat} (h : InL ns L) (r : Rise ns) : (ns.map Int.toNat).Pairwise (· < ·) := by
  rw [List.pairwise_map]
  refine (rise_pw r).imp_of_mem ?_
  intro a b ha hb hab
  obtain ⟨k, _, rfl⟩ := h a ha
  obtain ⟨j, _, rfl⟩ := h b hb
  simp
  omega
theorem inV_lay {n : Int} {L : List Nat} : inV (.int n) (vInts L) = true ↔ ∃ k ∈ L, n = ((k : Nat) : Int) := by
  unfold inV vInts
  rw [List.map_map, List.any_map, List.any_eq_true]
  constructor
  · rintro ⟨k, hk, h⟩
    have h' : ((k : Int) == n) = true := h
    exact ⟨k, hk, by simpa using (beq_iff_eq.mp h').symm⟩
  · rintro ⟨k, hk, rfl⟩
    refine ⟨k, hk, ?_⟩
    show ((k : Int) == (k : Int)) = true
    simp
theorem flat_vInts (L : List Nat) : (vInts L).all flatV = true := by
  unfold vInts
  rw [List.map_map, List.all_map, List.all_eq_true]
  intro k _; rfl
theorem ints_get {ns : List Int} {i : Nat} {x : V} (h : (ns.map V.int)[i]? = some x) : ∃ n, ns[i]? = some n ∧ x = V.int n := by
  rw [List.getElem?_map] at h
  cases e : ns[i]? with
  | none => rw [e] at h; cases h
  | some z => rw [e] at h; exact ⟨z, rfl, (Option.some.inj h).symm⟩
def spIsLaying : Sp := fun vs H Q _ => ∃ (a b c : Addr) (t u : List Nat) (ns : List Int), vs = [.ref a, .ref b, .ref c] ∧ H a = some (.lst (t.map sg)) ∧ H b = some (.lst (u.map sg)) ∧ H c = some (.lst (ns.map V.int)) ∧ Low t ∧ Low u ∧ 1 ≤ t.length ∧ t.length ≤ 900 ∧ u.length ≤ 900 ∧ 1 ≤ u.length ∧ ns.length ≤ 900 ∧
  ∀ (res : Bool) (H' : Hp), (res = true ↔ Laying t u ns) → Same H H' → Q (.bl res) H'
section
variable {P : Program} {w : World} {K : PySem.W.Frag} {mg : Str → Option Value} {base : Heap}
theorem scIsLaying : FnScope ["text", "word", "places", "spots", "place", "before", "behind"] ["text", "word", "places"] (defScope sIsLaying) := ⟨rfl, rfl, rfl, by decide +kernel, rfl, by decide +kernel, by decide +kernel⟩
theorem ok_is_laying (M : Md K mg) (B : Bl mg) (F : FF K "is_laying" sIsLaying) (Flies_at : Fn P w K mg base CX0 "lies_at" 4 ["text", "word"] spLies) (Fcheck_some : Fn P w K mg base CX0 "check_some" 1 ["text"] spCheckSome) (Ffirst_bare : Fn P w K mg base CX0 "first_bare" 1 ["places", "many"] spFirstBare) : Fn P w K mg base CX0 "is_laying" 5 ["text", "word", "places"] spIsLaying := by
  refine fn_ok M F scIsLaying (fun _ _ _ _ _ _ => us3 fun _ _ _ => rfl) (fun vs H Q E h => ?_) (fun f cdv A outer s H vs Q E hr h => ?_)
  · obtain ⟨a, b, c, t, u, ns, rfl, _⟩ := h; rfl
  · obtain ⟨a, b, c, t, u, ns, rfl, ha, hb, hc, lt, lu, t1, tl, ul, u1, nl, k⟩ := h
    refine ⟨_, (pss_cons (ps_set (i := 3) scIsLaying.nd rfl (by first | exact Or.inl rfl | exact Or.inr rfl) (pe_fn Flies_at hr pass0 (pa_cons (pv 0) (pa_cons (pv 1) pa_nil))))
      (pss_cons (ps_expr (pe_fn Fcheck_some hr pass0 (pa_cons (pv 0) pa_nil)))
      (pss_cons (ps_for PassesOwn.never rfl (pi_list (pv 2)) (pg_name (i := 4) scIsLaying.nd rfl (by first | exact Or.inl rfl | exact Or.inr rfl))
      (pss_one (ps_if (pt_cmpR op_notIn_seq (pv 4) (pv 3) (by with_unfolding_all rfl)) (pss_one (ps_ret pe_bl)) pss_nil)))
      (pss_cons (ps_for PassesOwn.never rfl (pi_zip B.zip (pv 2) (pe_slice sl_list (pv 2) (po_some pe_int) po_none)) (pg_tup rfl (pgs_cons (pg_name (i := 5) scIsLaying.nd rfl (by first | exact Or.inl rfl | exact Or.inr rfl)) (pgs_cons (pg_name (i := 6) scIsLaying.nd rfl (by first | exact Or.inl rfl | exact Or.inr rfl)) pgs_nil)))
      (pss_one (ps_if (pt_cmpR op_ge (pv 5) (pv 6) (nomark _)) (pss_one (ps_ret pe_bl)) pss_nil)))
      (pss_one (ps_ret (pe_cmpR op_eq (pe_fn Ffirst_bare hr pass0 (pa_cons (pv 2) (pa_cons (pe_lenL B.len (pv 1)) pa_nil))) (pe_lenL B.len (pv 0)) (nomark _)))))))), ?_⟩
    refine ⟨_, rfl, _, rfl, a, b, t, u, rfl, ha, hb, lt, lu, tl, ul, u1, fun q H1 hq0 hq1 s1 => ?_⟩
    refine ⟨_, rfl, a, t, rfl, s1 _ _ ha, t1, ?_⟩
    have hc1 := s1 _ _ hc
    refine ⟨_, rfl, c, rfl, ⟨_, SqL.of hc1⟩, for_list (K := K) (a := c) (xs := ns.map V.int) (fun i σ H2 => H2 = H1 ∧ (∃ v4 v5 v6, σ = [some (.ref a), some (.ref b), some (.ref c), some (.ref q), v4, v5, v6]) ∧ ∀ j n, j < i → ns[j]? = some n → ∃ k ∈ liesIn t u, n = ((k : Nat) : Int)) ⟨rfl, ⟨_, _, _, rfl⟩, fun j n hj => absurd hj (Nat.not_lt_zero _)⟩ (fun i σ H2 _ h2 => by rw [h2.1]; exact SqL.of hc1) ?_ ?_⟩
    · rintro i x σ H2 hx ⟨rfl, ⟨v4, v5, v6, rfl⟩, hin⟩
      obtain ⟨n, hn, rfl⟩ := ints_get hx
      refine ⟨_, rfl, _, rfl, q, _, rfl, .inl (SqL.of hq1), rfl, flat_vInts _, _, rfl, ?_⟩
      by_cases hv : inV (.int n) (vInts (liesIn t u)) = true
      · rw [hv]
        refine iteF ⟨rfl, ⟨_, _, _, rfl⟩, fun j m hj hm => ?_⟩
        rcases Nat.lt_or_ge j i with z | z
        · exact hin j m z hm
        · have : j = i := by omega
          subst this
          rw [hn] at hm
          cases hm
          exact inV_lay.mp hv
      · have hv' : inV (.int n) (vInts (liesIn t u)) = false := by simpa using hv
        rw [hv']
        refine iteT (k false _ ⟨fun z => Bool.noConfusion z, fun L => ?_⟩ s1)
        exact absurd (inV_lay.mpr (L.1 n (List.mem_of_getElem? hn))) hv
    · rintro σ H2 ⟨rfl, ⟨v4, v5, v6, rfl⟩, hin⟩
      have hIn : InL ns (liesIn t u) := fun n hn => by
        obtain ⟨j, hj⟩ := List.mem_iff_getElem?.mp hn
        exact hin j n (by rw [List.length_map]; exact (List.getElem?_eq_some_iff.mp hj).1) hj
      refine ⟨_, rfl, _, rfl, 1, rfl, c, _, rfl, SqL.of hc1, fun d hd => ?_⟩
      have e1 : cutV (ns.map V.int) (some 1) none = (ns.drop 1).map V.int := by rw [cutV_cutL, cutL_map, cutL_lo _ _ (by decide)]; rfl
      have s2 := Same.upd (o := .lst (cutV (ns.map V.int) (some 1) none)) hd
      refine ⟨c, d, ns.map V.int, (ns.drop 1).map V.int, rfl, rfl, s2 _ _ hc1, by rw [upd_same, e1], for_zip (xs := ns.map V.int) (ys := (ns.drop 1).map V.int) (fun i σ H3 => (Same H2 H3 ∧ H3 d = some (.lst ((ns.drop 1).map V.int))) ∧ (∃ v4 v5 v6, σ = [some (.ref a), some (.ref b), some (.ref c), some (.ref q), v4, v5, v6]) ∧ ∀ (j : Nat) (x y : Int), j < i → ns[j]? = some x → ns[j + 1]? = some y → x < y) ?_ ?_ ?_ ?_⟩
      · exact ⟨⟨s2, by rw [upd_same, e1]⟩, ⟨_, _, _, rfl⟩, fun j x y hj => absurd hj (Nat.not_lt_zero _)⟩
      · rintro i σ H3 _ ⟨⟨s3, hd3⟩, _, _⟩
        exact ⟨s3 _ _ hc1, hd3⟩
      · rintro i x y p σ H3 hx hy hp ⟨⟨s3, hd3⟩, ⟨v4, v5, v6, rfl⟩, hris⟩
        obtain ⟨n, hn, rfl⟩ := ints_get hx
        obtain ⟨m, hm, rfl⟩ := ints_get hy
        rw [List.getElem?_drop, Nat.add_comm] at hm
        have s4 := Same.upd (o := .tup [V.int n, V.int m]) hp
        refine ⟨p, _, rfl, SqT.of upd_same, rfl, _, _, rfl, _, _, rfl, rfl, ?_⟩
        refine ⟨_, rfl, _, rfl, _, _, rfl, rfl, _, rfl, ?_⟩
        by_cases hge : m ≤ n
        · rw [decide_eq_true hge]
          refine iteT (k false _ ⟨fun z => Bool.noConfusion z, fun L => ?_⟩ ((s1.trans s3).trans s4))
          have := L.2.1 i n m hn hm
          omega
        · rw [decide_eq_false hge]
          refine iteF ⟨⟨s3.trans s4, s4 _ _ hd3⟩, ⟨_, _, _, rfl⟩, fun j x y hj h1 h2 => ?_⟩
          rcases Nat.lt_or_ge j i with z | z
          · exact hris j x y z h1 h2
          · have : j = i := by omega
            subst this
            rw [hn] at h1
            rw [hm] at h2
            cases h1
            cases h2
            omega
      · rintro σ H3 ⟨⟨s3, hd3⟩, ⟨v4, v5, v6, rfl⟩, hris⟩
        have hR : Rise ns := fun j x y h1 h2 => by
          have h3 := (List.getElem?_eq_some_iff.mp h2).1
          exact hris j x y (by rw [List.length_map, List.length_map, List.length_drop]; omega) h1 h2
        have hc3 := s3 _ _ hc1
        rw [inL_vInts hIn] at hc3
        refine ⟨_, rfl, _, rfl, b, _, rfl, SqL.of (s3 _ _ (s1 _ _ hb)), c, ns.map Int.toNat, u.length, by rw [List.length_map]; rfl, hc3, ?_⟩
        rw [fb_bare (n := t.length) (rise_nat hIn hR) fun p hp => lies_in (inL_mem hIn p hp) u1]
        refine ⟨_, rfl, a, _, rfl, SqL.of (s3 _ _ (s1 _ _ ha)), rfl, ?_⟩
        refine k _ _ ?_ (s1.trans s3)
        rw [decide_eq_true_eq, List.length_map]
        constructor
        · intro h
          refine ⟨hIn, hR, ?_⟩
          have := V.int.inj h
          omega
        · intro h
          rw [h.2.2]
end

end Ov

namespace Ov
open PySem L2
abbrev sCovered : Stmt := top 31
/-- what covered tells -/
def spCovered : Sp := fun vs H Q _ => ∃ (a b : Addr) (t u : List Nat), vs = [.ref a, .ref b] ∧ H a = some (.lst (t.map sg)) ∧ H b = some (.lst (u.map sg)) ∧ Low t ∧ Low u ∧ 1 ≤ t.length ∧ t.length ≤ 900 ∧ u.length ≤ 900 ∧ 1 ≤ u.length ∧
  (∀ (r : Addr) (H' : Hp), H r = none → Same H H' → bareOf t.length u.length (liesIn t u) < t.length → H' r = some (.tup [.str "bare", .int (bareOf t.length u.length (liesIn t u) : Nat)]) → Q (.ref r) H') ∧
  (∀ (r q : Addr) (H' : Hp), H r = none → H q = none → Same H H' → bareOf t.length u.length (liesIn t u) = t.length → H' q = some (.lst (vInts (liesIn t u))) → H' r = some (.tup [.str "covers", .ref q]) → Q (.ref r) H')
section
variable {P : Program} {w : World} {K : PySem.W.Frag} {mg : Str → Option Value} {base : Heap}
theorem scCovered : FnScope ["text", "word", "places", "bare"] ["text", "word"] (defScope sCovered) := ⟨rfl, rfl, rfl, by decide +kernel, rfl, by decide +kernel, by decide +kernel⟩
theorem ok_covered (M : Md K mg) (B : Bl mg) (F : FF K "covered" sCovered) (Flies_at : Fn P w K mg base CX0 "lies_at" 4 ["text", "word"] spLies) (Fcheck_some : Fn P w K mg base CX0 "check_some" 1 ["text"] spCheckSome) (Ffirst_bare : Fn P w K mg base CX0 "first_bare" 1 ["places", "many"] spFirstBare) : Fn P w K mg base CX0 "covered" 5 ["text", "word"] spCovered := by
  refine fn_ok M F scCovered (fun _ _ _ _ _ _ => us2 fun _ _ => rfl) (fun vs H Q E h => ?_) (fun f cdv A outer s H vs Q E hr h => ?_)
  · obtain ⟨a, b, t, u, rfl, _⟩ := h; rfl
  · obtain ⟨a, b, t, u, rfl, ha, hb, lt, lu, t1, tl, ul, u1, k1, k2⟩ := h
    refine ⟨_, (pss_cons (ps_set (i := 2) scCovered.nd rfl (by first | exact Or.inl rfl | exact Or.inr rfl) (pe_fn Flies_at hr pass0 (pa_cons (pv 0) (pa_cons (pv 1) pa_nil))))
      (pss_cons (ps_expr (pe_fn Fcheck_some hr pass0 (pa_cons (pv 0) pa_nil)))
      (pss_cons (ps_set (i := 3) scCovered.nd rfl (by first | exact Or.inl rfl | exact Or.inr rfl) (pe_fn Ffirst_bare hr pass0 (pa_cons (pv 2) (pa_cons (pe_lenL B.len (pv 1)) pa_nil))))
      (pss_cons (ps_if (pt_cmpR op_lt (pv 3) (pe_lenL B.len (pv 0)) (nomark _)) (pss_one (ps_ret (pe_tup (pa_cons pe_str (pa_cons (pv 3) pa_nil))))) pss_nil)
      (pss_one (ps_ret (pe_tup (pa_cons pe_str (pa_cons (pv 2) pa_nil))))))))), ?_⟩
    refine ⟨_, rfl, _, rfl, a, b, t, u, rfl, ha, hb, lt, lu, tl, ul, u1, fun q H1 hq0 hq1 s1 => ?_⟩
    refine ⟨_, rfl, a, t, rfl, s1 _ _ ha, t1, ?_⟩
    refine ⟨_, rfl, _, rfl, b, _, rfl, SqL.of (s1 _ _ hb), q, liesIn t u, u.length, by rw [List.length_map]; rfl, hq1, ?_⟩
    have ef : fb u.length 0 (liesIn t u) = bareOf t.length u.length (liesIn t u) := fb_bare (lies_sorted t u) fun p hp => lies_in hp u1
    rw [ef]
    have hbl := bareOf_le t.length u.length (liesIn t u)
    refine ⟨_, rfl, _, rfl, a, _, rfl, SqL.of (s1 _ _ ha), _, _, rfl, rfl, _, rfl, ?_⟩
    refine ite2 (fun hc => ?_) (fun hc => ?_)
    · have hc' : bareOf t.length u.length (liesIn t u) < t.length := by simpa using hc
      exact ⟨_, rfl, by show 2 ≤ sizeLine; decide, fun r hr0 => k1 r _ (s1.free hr0) (s1.trans (Same.upd hr0)) hc' upd_same⟩
    · have hc' : ¬ bareOf t.length u.length (liesIn t u) < t.length := by simpa using hc
      exact ⟨_, rfl, by show 2 ≤ sizeLine; decide, fun r hr0 => k2 r q _ (s1.free hr0) hq0 (s1.trans (Same.upd hr0)) (by omega) ((Same.upd hr0) _ _ hq1) upd_same⟩
end

end Ov

namespace Ov
open PySem L2
/-- the piece of m signs at p -/
abbrev pcs (t : List Nat) (m p : Nat) : List Nat := (t.drop p).take m
/-- the unlike pieces at the first j places, as they come -/
def usOf (t : List Nat) (m : Nat) : Nat → List (List Nat)
  | 0 => []
  | j + 1 => if pcs t m j ∈ usOf t m j then usOf t m j else usOf t m j ++ [pcs t m j]
/-- the places of a piece among the first j -/
def plc (t : List Nat) (m j : Nat) (u : List Nat) : List Nat := (List.range j).filter fun p => decide (pcs t m p = u)
theorem mem_us {t : List Nat} {m : Nat} {u : List Nat} : ∀ {j : Nat}, u ∈ usOf t m j ↔ ∃ p, p < j ∧ pcs t m p = u
  | 0 => by simp [usOf]
  | j + 1 => by
    simp only [usOf]
    split
    · rename_i h
      rw [mem_us (j := j)]
      constructor
      · rintro ⟨p, h1, h2⟩; exact ⟨p, by omega, h2⟩
      · rintro ⟨p, h1, h2⟩
        by_cases e : p = j
        · subst e; rw [h2] at h; exact mem_us.mp h
        · exact ⟨p, by omega, h2⟩
    · rw [List.mem_append, mem_us (j := j), List.mem_singleton]
      constructor
      · rintro (⟨p, h1, h2⟩ | h)
        · exact ⟨p, by omega, h2⟩
        · exact ⟨j, by omega, h.symm⟩
      · rintro ⟨p, h1, h2⟩
        by_cases e : p = j
        · subst e; exact .inr h2.symm
        · exact .inl ⟨p, by omega, h2⟩
theorem us_nodup {t : List Nat} {m : Nat} : ∀ {j : Nat}, (usOf t m j).Nodup
  | 0 => by simp [usOf]
  | j + 1 => by
    simp only [usOf]
    split
    · exact us_nodup
    · rename_i h
      rw [List.nodup_append]
      refine ⟨us_nodup, by simp, fun x hx y hy e => ?_⟩
      rw [List.mem_singleton.mp hy] at e
      exact h (e ▸ hx)
theorem us_len {t : List Nat} {m : Nat} : ∀ j : Nat, (usOf t m j).length ≤ j
  | 0 => Nat.le_refl _
  | j + 1 => by
    have := us_len (t := t) (m := m) j
    simp only [usOf]
    split
    · omega
    · rw [List.length_append, List.length_singleton]; omega
theorem plc_step (t : List Nat) (m j : Nat) (u : List Nat) : plc t m (j + 1) u = plc t m j u ++ (if pcs t m j = u then [j] else []) := by
  unfold plc
  rw [List.range_succ, List.filter_append]
  congr 1
  by_cases h : pcs t m j = u <;> simp [h]
theorem plc_none {t : List Nat} {m j : Nat} {u : List Nat} (h : u ∉ usOf t m j) : plc t m j u = [] := by
  unfold plc
  rw [List.filter_eq_nil_iff]
  intro p hp
  have hp' : p < j := by simpa using hp
  simp only [decide_eq_true_eq]
  intro e
  exact h (mem_us.mpr ⟨p, hp', e⟩)
theorem us_size {t u : List Nat} {m j : Nat} (hj : j ≤ t.length + 1 - m) (h : u ∈ usOf t m j) (m1 : 1 ≤ m) : u.length = m := by
  obtain ⟨p, hp, rfl⟩ := mem_us.mp h
  rw [List.length_take, List.length_drop]; omega
/-- the first place of a new piece -/
theorem plc_first {t : List Nat} {m j n : Nat} (h : pcs t m j ∉ usOf t m j) : ∀ k, j < k → (plc t m k (pcs t m j)).head? = some j
  | 0, z => by omega
  | k + 1, z => by
    rw [plc_step]
    by_cases e : k = j
    · subst e; rw [plc_none h, if_pos rfl]; rfl
    · have := plc_first (n := n) h k (by omega)
      cases q : plc t m k (pcs t m j) with
      | nil => rw [q] at this; cases this
      | cons x r => rw [q] at this; simpa using this
/-- the keys -/
def keyU (u : List Nat) : List Key := u.map fun c => Sum.inr (sgS c)
theorem keyU_kV (u : List Nat) : (keyU u).map kV = u.map sg := by
  unfold keyU
  rw [List.map_map]
  rfl
theorem keyU_inj {u v : List Nat} (h : keyU u = keyU v) : u = v := by
  have := congrArg (List.map kV) h
  rw [keyU_kV, keyU_kV] at this
  clear h
  induction u generalizing v with
  | nil => cases v with
    | nil => rfl
    | cons _ _ => cases this
  | cons a r ih => cases v with
    | nil => cases this
    | cons b q =>
      rw [List.map_cons, List.map_cons] at this
      obtain ⟨h1, h2⟩ := List.cons.inj this
      rw [sg_inj.mp h1, ih h2]
def kvOf (es : List (List Nat × Addr)) : List (List Key × V) := es.map fun e => (keyU e.1, V.ref e.2)
theorem val_kv (q : List Nat) : ∀ es : List (List Nat × Addr), valV (kvOf es) (keyU q) = (es.find? fun e => decide (e.1 = q)).map fun e => V.ref e.2
  | [] => rfl
  | e :: r => by
    unfold kvOf
    rw [List.map_cons]
    by_cases h : e.1 = q
    · rw [valV_pos (by rw [h]), List.find?_cons_of_pos (by simpa using h)]; rfl
    · rw [valV_neg (fun z => h (keyU_inj z)), List.find?_cons_of_neg (by simpa using h)]
      exact val_kv q r
theorem nodup_inj {α β : Type} {f : α → β} : ∀ {l : List α} {x y : α}, (l.map f).Nodup → x ∈ l → y ∈ l → f x = f y → x = y
  | [], _, _, _, h, _, _ => by cases h
  | z :: l, x, y, hn, hx, hy, e => by
    rw [List.map_cons, List.nodup_cons] at hn
    rcases List.mem_cons.mp hx with rfl | hx'
    · rcases List.mem_cons.mp hy with rfl | hy'
      · rfl
      · exact absurd (List.mem_map.mpr ⟨y, hy', e.symm⟩) hn.1
    · rcases List.mem_cons.mp hy with rfl | hy'
      · exact absurd (List.mem_map.mpr ⟨x, hx', e⟩) hn.1
      · exact nodup_inj hn.2 hx' hy' e
/-- the pieces at the first j places, each with the list of its places -/
structure Pieces (t : List Nat) (m j : Nat) (H0 H : Hp) (es : List (List Nat × Addr)) : Prop where
  us : es.map (·.1) = usOf t m j
  nd : (es.map (·.2)).Nodup
  at_ : ∀ e ∈ es, H0 e.2 = none ∧ H e.2 = some (.lst (vInts (plc t m j e.1)))
theorem Pieces.old {t : List Nat} {m j : Nat} {H0 H : Hp} {es : List (List Nat × Addr)} (h : Pieces t m j H0 H es) {e : List Nat × Addr} (he : e ∈ es) (hq : e.1 = pcs t m j) {z : Int} (hz : z = (j : Int)) :
    Pieces t m (j + 1) H0 (L2.upd H e.2 (.lst (vInts (plc t m j e.1) ++ [V.int z]))) es := by
  subst hz
  have hin : pcs t m j ∈ usOf t m j := by rw [← h.us]; exact List.mem_map.mpr ⟨e, he, hq⟩
  have nu : (es.map (·.1)).Nodup := by rw [h.us]; exact us_nodup
  refine ⟨by rw [h.us]; simp only [usOf]; rw [if_pos hin], h.nd, fun f hf => ⟨(h.at_ f hf).1, ?_⟩⟩
  by_cases e2 : f.2 = e.2
  · have : f = e := nodup_inj h.nd hf he e2
    subst this
    rw [upd_same, plc_step, if_pos hq.symm, vInts_snoc']
  · rw [upd_ne e2, (h.at_ f hf).2, plc_step, if_neg, List.append_nil]
    intro z
    exact e2 (congrArg Prod.snd (nodup_inj nu hf he (z.symm.trans hq.symm)))
theorem Pieces.new {t : List Nat} {m j : Nat} {H0 H H' : Hp} {es : List (List Nat × Addr)} {l : Addr} (h : Pieces t m j H0 H es) (hn : pcs t m j ∉ usOf t m j) (h0 : H0 l = none) {z : Int} (hz : z = (j : Int)) (hl : H' l = some (.lst [V.int z])) (hk : ∀ e ∈ es, e.2 ≠ l ∧ H' e.2 = H e.2) :
    Pieces t m (j + 1) H0 H' (es ++ [(pcs t m j, l)]) := by
  subst hz
  refine ⟨?_, ?_, fun f hf => ?_⟩
  · rw [List.map_append, h.us]; simp only [usOf]; rw [if_neg hn]; rfl
  · rw [List.map_append, List.nodup_append]
    refine ⟨h.nd, by simp, fun x hx y hy e => ?_⟩
    obtain ⟨f, hf, rfl⟩ := List.mem_map.mp hx
    have hy' : y = l := by simpa using hy
    exact (hk f hf).1 (e.trans hy')
  · rcases List.mem_append.mp hf with hf1 | hf1
    · have hne : f.1 ≠ pcs t m j := fun z => hn (by rw [← h.us, ← z]; exact List.mem_map.mpr ⟨f, hf1, rfl⟩)
      refine ⟨(h.at_ f hf1).1, ?_⟩
      rw [(hk f hf1).2, (h.at_ f hf1).2, plc_step, if_neg (fun z => hne z.symm), List.append_nil]
    · rw [List.mem_singleton.mp hf1]
      refine ⟨h0, ?_⟩
      rw [hl, plc_step, plc_none hn, if_pos rfl]; rfl
theorem Pieces.mono {t : List Nat} {m j : Nat} {H0 H H' : Hp} {es : List (List Nat × Addr)} (h : Pieces t m j H0 H es) (s : Same H H') : Pieces t m j H0 H' es := ⟨h.us, h.nd, fun e he => ⟨(h.at_ e he).1, s _ _ (h.at_ e he).2⟩⟩
theorem Pieces.len {t : List Nat} {m j : Nat} {H0 H : Hp} {es : List (List Nat × Addr)} (h : Pieces t m j H0 H es) : es.length ≤ j := by
  have := us_len (t := t) (m := m) j
  rw [← h.us, List.length_map] at this
  exact this
theorem find_none {q : List Nat} {es : List (List Nat × Addr)} (h : (es.find? fun e => decide (e.1 = q)) = none) : q ∉ es.map (·.1) := by
  intro hm
  obtain ⟨e, he, z⟩ := List.mem_map.mp hm
  have := List.find?_eq_none.mp h e he
  simp [z] at this
theorem find_some {q : List Nat} {es : List (List Nat × Addr)} {e : List Nat × Addr} (h : (es.find? fun e => decide (e.1 = q)) = some e) : e ∈ es ∧ e.1 = q :=
  ⟨List.mem_of_find?_eq_some h, by simpa using List.find?_some h⟩

end Ov

namespace Ov
open PySem L2
abbrev sPieces : Stmt := top 19
def spPieces : Sp := fun vs H Q _ => ∃ (a : Addr) (t : List Nat) (m : Nat), vs = [.ref a, .int (m : Int)] ∧ H a = some (.lst (t.map sg)) ∧ 1 ≤ m ∧ m ≤ t.length ∧ t.length ≤ 900 ∧
  ∀ (w : Addr) (es : List (List Nat × Addr)) (H' : Hp), H w = none → H' w = some (.dT (kvOf es)) → Pieces t m (t.length + 1 - m) H H' es → Same H H' → Q (.ref w) H'
section
variable {P : Program} {w : World} {K : PySem.W.Frag} {mg : Str → Option Value} {base : Heap}
theorem scPieces : FnScope ["text", "many", "places", "place", "piece"] ["text", "many"] (defScope sPieces) := ⟨rfl, rfl, rfl, by decide +kernel, rfl, by decide +kernel, by decide +kernel⟩
theorem ok_pieces (M : Md K mg) (B : Bl mg) (F : FF K "piece_places" sPieces) : Fn P w K mg base CX0 "piece_places" 1 ["text", "many"] spPieces := by
  refine fn_ok M F scPieces (fun _ _ _ _ _ _ => us2 fun _ _ => rfl) (fun vs H Q E h => ?_) (fun f cdv A outer s H vs Q E hr h => ?_)
  · obtain ⟨a, t, m, rfl, _⟩ := h; rfl
  · obtain ⟨a, t, m, rfl, ha, m1, mt, tl, k⟩ := h
    refine ⟨_, (pss_cons (ps_set (i := 2) scPieces.nd rfl (by first | exact Or.inl rfl | exact Or.inr rfl) pe_dnewT)
      (pss_cons (ps_for PassesOwn.never rfl (pi_range1 (by rfl) B.range (pa_cons (pe_op op_add (pe_op op_sub (pe_lenL B.len (pv 0)) (pv 1)) pe_int) pa_nil)) (pg_name (i := 3) scPieces.nd rfl (by first | exact Or.inl rfl | exact Or.inr rfl))
      (pss_cons (ps_set (i := 4) scPieces.nd rfl (by first | exact Or.inl rfl | exact Or.inr rfl) (pe_tupL B.tuple (pe_slice sl_list (pv 0) (po_some (pv 3)) (po_some (pe_op op_add (pv 3) (pv 1))))))
      (pss_one (ps_expr (pe_bm PySem.F.plainAttrs_list PySem.F.slot_list_append PySem.F.type_list_append mt_append (pe_ddef (by exact hu_of hr) (pv 2) (pv 4) (pe_lst pa_nil) ⟨rfl, rfl, rfl, rfl⟩) (pa_cons (pv 3) pa_nil))))))
      (pss_one (ps_ret (pv 2))))), ?_⟩
    intro w hw
    have s1 := Same.upd (o := .dT []) hw
    refine ⟨_, rfl, a, _, rfl, SqL.of (s1 _ _ ha), _, rfl, _, _, rfl, rfl, _, _, rfl, rfl, _, rfl, by rw [List.length_map]; omega, by rw [List.length_map]; omega, ?_⟩
    rw [List.length_map, show ((t.length : Int) - (m : Int) + 1).toNat = t.length + 1 - m by omega]
    refine for_range (lo := 0) (n := t.length + 1 - m) (fun j σ H2 => Same H H2 ∧ ∃ es v3 v4, H2 w = some (.dT (kvOf es)) ∧ Pieces t m j H H2 es ∧ σ = [some (.ref a), some (.int (m : Int)), some (.ref w), v3, v4]) ?_ ?_ ?_
    · exact ⟨s1, [], none, none, upd_same, ⟨rfl, by simp, fun e he => by cases he⟩, rfl⟩
    · rintro j σ H2 hj ⟨sH, es, v3, v4, hw2, pc, rfl⟩
      have ha2 := sH _ _ ha
      refine ⟨_, rfl, _, rfl, _, rfl, _, rfl, _, rfl, _, _, rfl, rfl, _, rfl, a, _, rfl, SqL.of ha2, fun p1 hp1 => ?_⟩
      have e1 : cutV (t.map sg) (some (0 + (j : Int))) (some (0 + (j : Int) + (m : Int))) = (pcs t m j).map sg := by
        rw [cutV_cutL, cutL_map, cutL_both _ _ _ (by omega) (by omega), show (0 + (j : Int)).toNat = j by omega, show (0 + (j : Int) + (m : Int)).toNat - j = m by omega]
      rw [e1]
      have s3 := Same.upd (o := .lst ((pcs t m j).map sg)) hp1
      refine ⟨p1, _, rfl, SqL.of upd_same, fun c hc => ?_⟩
      have s4 := Same.upd (o := .tup ((pcs t m j).map sg)) hc
      refine ⟨_, rfl, w, rfl, .inr ⟨_, .inl (s4 _ _ (s3 _ _ hw2))⟩, _, rfl, Nat.zero_le _, fun l hl => ?_⟩
      have s5 := Same.upd (o := .lst []) hl
      have s25 := (s3.trans s4).trans s5
      have hw5 := s25 _ _ hw2
      have hc5 := s5 _ _ (upd_same (H := L2.upd H2 p1 (.lst ((pcs t m j).map sg))) (a := c) (o := .tup ((pcs t m j).map sg)))
      have hl5 := upd_same (H := L2.upd (L2.upd H2 p1 (.lst ((pcs t m j).map sg))) c (.tup ((pcs t m j).map sg))) (a := l) (o := .lst [])
      have ln : H2 l = none := (s3.trans s4).free hl
      have pc5 := pc.mono s25
      generalize L2.upd (L2.upd (L2.upd H2 p1 (.lst ((pcs t m j).map sg))) c (.tup ((pcs t m j).map sg))) l (.lst []) = H5 at s25 hw5 hc5 hl5 pc5 ⊢
      have len := pc.len
      have sH5 := sH.trans s25
      refine ⟨c, kvOf es, keyU (pcs t m j), rfl, hw5, by rw [keyU_kV]; exact hc5, by unfold kvOf; rw [List.length_map]; exact small1000 (by omega), fun v hv => ?_, fun hv => ?_⟩
      · rw [val_kv] at hv
        cases q : es.find? fun e => decide (e.1 = pcs t m j) with
        | none => rw [q] at hv; cases hv
        | some e =>
          rw [q] at hv
          obtain ⟨he, eq⟩ := find_some q
          have : V.ref e.2 = v := Option.some.inj hv
          subst this
          have h5 := (pc5.at_ e he).2
          have pl : (plc t m j e.1).length ≤ j := filter_len _
          refine ⟨.inl ⟨rfl, _, SqL.of h5⟩, _, rfl, e.2, _, _, rfl, rfl, h5, by rw [vInts_len]; exact small1000 (by omega), ?_⟩
          refine ⟨fun b o z => by rw [upd_ne (ne_of_none z (pc.at_ e he).1)]; exact sH5 _ _ z, es, _, _, ?_, pc5.old he eq (by omega), rfl⟩
          rw [upd_ne (ne_of hw5 h5 (fun z => nomatch z))]
          exact hw5
      · rw [val_kv] at hv
        have q : (es.find? fun e => decide (e.1 = pcs t m j)) = none := by
          cases q : es.find? fun e => decide (e.1 = pcs t m j) with
          | none => rfl
          | some e => rw [q] at hv; cases hv
        have hn : pcs t m j ∉ usOf t m j := by rw [← pc.us]; exact find_none q
        have nlw : l ≠ w := (ne_of hw5 hl5 (fun z => nomatch z)).symm
        have hl6 : (L2.upd H5 w (.dT (kvOf es ++ [(keyU (pcs t m j), V.ref l)]))) l = some (.lst []) := by rw [upd_ne nlw]; exact hl5
        have l0 : H l = none := sH.free ln
        refine ⟨.inl ⟨rfl, _, SqL.of hl6⟩, _, rfl, l, _, _, rfl, rfl, hl6, by decide, ?_⟩
        refine ⟨fun b o z => ?_, es ++ [(pcs t m j, l)], _, _, ?_, pc5.new hn l0 (show (0 + (j : Int)) = (j : Int) by omega) upd_same fun e he => ?_, rfl⟩
        · rw [upd_ne (ne_of_none z l0), upd_ne (ne_of_none z hw)]
          exact sH5 _ _ z
        · rw [upd_ne (Ne.symm nlw), upd_same]
          unfold kvOf
          rw [List.map_append]; rfl
        · have h2 := (pc.at_ e he).2
          have nel : e.2 ≠ l := ne_of_none h2 ln
          refine ⟨nel, ?_⟩
          rw [upd_ne nel, upd_ne (ne_of h2 hw2 (fun z => nomatch z))]
    · rintro σ H2 ⟨sH, es, v3, v4, hw2, pc, rfl⟩
      exact ⟨_, rfl, k w es H2 hw hw2 pc sH⟩
end

end Ov

namespace Ov
open PySem L2
/-! the nearest piece -/
def CostOf (t u : List Nat) (c : Nat) : Prop := ∃ l, Ch (shiftsOf u) 0 (t.length - u.length) l ∧ c = cst t u l ∧ ∀ l', Ch (shiftsOf u) 0 (t.length - u.length) l' → c ≤ cst t u l'
open Classical in
/-- the least cost of a word on a text -/
noncomputable def wc (t u : List Nat) : Option Nat := if h : ∃ c, CostOf t u c then some (Classical.choose h) else none
theorem wc_least {t u l : List Nat} {w : Bool} (h : Least (shiftsOf u) t u w 0 (t.length - u.length) l) : wc t u = some (cst t u l) := by
  have ex : ∃ c, CostOf t u c := ⟨_, l, h.1, rfl, fun l' h' => ky_le (h.2 l' h')⟩
  unfold wc
  rw [dif_pos ex]
  obtain ⟨l2, c1, c2, c3⟩ := Classical.choose_spec ex
  congr 1
  exact Nat.le_antisymm (c3 l h.1) (by rw [c2]; exact ky_le (h.2 l2 c1))
theorem wc_none {t u : List Nat} (h : ∀ l, ¬ Ch (shiftsOf u) 0 (t.length - u.length) l) : wc t u = none := by
  unfold wc
  rw [dif_neg]
  rintro ⟨c, l, hl, _⟩
  exact h l hl
def stp (acc : Option (Nat × Nat)) (o : Option Nat) (p : Nat) : Option (Nat × Nat) := match o with
  | none => acc
  | some c => match acc with
    | none => some (c, p)
    | some a => if c < a.1 then some (c, p) else some a
noncomputable def nr (t : List Nat) (m : Nat) : Nat → Option (Nat × Nat)
  | 0 => none
  | j + 1 => stp (nr t m j) (wc t (pcs t m j)) j
def fstP (t : List Nat) (m : Nat) (u : List Nat) : Nat := ((plc t m (t.length + 1 - m) u).head?).getD 0
noncomputable def nu (t : List Nat) (m : Nat) (us : List (List Nat)) : Option (Nat × Nat) := us.foldl (fun acc u => stp acc (wc t u) (fstP t m u)) none
theorem nu_snoc (t : List Nat) (m : Nat) (us : List (List Nat)) (u : List Nat) : nu t m (us ++ [u]) = stp (nu t m us) (wc t u) (fstP t m u) := by unfold nu; rw [List.foldl_append]; rfl
theorem stp_some (acc : Option (Nat × Nat)) (c p : Nat) : ∃ b, stp acc (some c) p = some b ∧ b.1 ≤ c ∧ ∀ a, acc = some a → b.1 ≤ a.1 := by
  cases acc with
  | none => exact ⟨(c, p), rfl, Nat.le_refl _, fun a h => by cases h⟩
  | some a =>
    by_cases h : c < a.1
    · refine ⟨(c, p), by simp only [stp]; rw [if_pos h], Nat.le_refl _, fun b e => by cases e; exact Nat.le_of_lt h⟩
    · refine ⟨a, by simp only [stp]; rw [if_neg h], by omega, fun b e => by cases e; exact Nat.le_refl _⟩
theorem stp_keep {acc : Option (Nat × Nat)} {a : Nat × Nat} (h : acc = some a) (o : Option Nat) (p : Nat) : ∃ b, stp acc o p = some b ∧ b.1 ≤ a.1 := by
  cases o with
  | none => exact ⟨a, h, Nat.le_refl _⟩
  | some c =>
    obtain ⟨b, h1, _, h3⟩ := stp_some acc c p
    exact ⟨b, h1, h3 a h⟩
theorem nr_le {t : List Nat} {m : Nat} {u : List Nat} {c : Nat} (hc : wc t u = some c) : ∀ {j : Nat}, u ∈ usOf t m j → ∃ a, nr t m j = some a ∧ a.1 ≤ c
  | 0, h => by simp [usOf] at h
  | j + 1, h => by
    simp only [nr]
    have old : u ∈ usOf t m j → ∃ a, stp (nr t m j) (wc t (pcs t m j)) j = some a ∧ a.1 ≤ c := fun h' => by
      obtain ⟨a, h1, h2⟩ := nr_le hc h'
      obtain ⟨b, h3, h4⟩ := stp_keep h1 (wc t (pcs t m j)) j
      exact ⟨b, h3, by omega⟩
    simp only [usOf] at h
    split at h
    · exact old h
    · rcases List.mem_append.mp h with h | h
      · exact old h
      · rw [← List.mem_singleton.mp h, hc]
        obtain ⟨b, h1, h2, _⟩ := stp_some (nr t m j) c j
        exact ⟨b, h1, h2⟩
theorem nu_us {t : List Nat} {m : Nat} : ∀ {j : Nat}, j ≤ t.length + 1 - m → nu t m (usOf t m j) = nr t m j
  | 0, _ => rfl
  | j + 1, h => by
    have ih := nu_us (t := t) (m := m) (j := j) (by omega)
    simp only [usOf, nr]
    by_cases hin : pcs t m j ∈ usOf t m j
    · rw [if_pos hin, ih]
      cases hw : wc t (pcs t m j) with
      | none => rfl
      | some c =>
        obtain ⟨a, h1, h2⟩ := nr_le hw hin
        rw [h1]
        simp only [stp]
        rw [if_neg (by omega)]
    · rw [if_neg hin, nu_snoc, ih]
      have : fstP t m (pcs t m j) = j := by
        unfold fstP
        rw [plc_first (n := 0) hin _ (by omega)]; rfl
      rw [this]
/-- none, or a pair of numbers -/
def OptP (H : Hp) (v : V) (o : Option (Nat × Nat)) : Prop := match o with
  | none => v = .non
  | some a => ∃ g, v = .ref g ∧ H g = some (.tup [.int (a.1 : Nat), .int (a.2 : Nat)])
theorem OptP.same {H H' : Hp} {v : V} {o : Option (Nat × Nat)} (h : OptP H v o) (s : Same H H') : OptP H' v o := by
  cases o with
  | none => exact h
  | some a =>
    obtain ⟨g, h1, h2⟩ := h
    exact ⟨g, h1, s _ _ h2⟩

end Ov

namespace Ov
open PySem L2
abbrev sCheckIn : Stmt := top 14
def spCheckIn : Sp := fun vs H Q _ => ∃ a lo hi : Int, vs = [.int a, .int lo, .int hi] ∧ lo ≤ a ∧ a ≤ hi ∧ Q .non H
section
variable {P : Program} {w : World} {K : PySem.W.Frag} {mg : Str → Option Value} {base : Heap}
theorem scCheckIn : FnScope ["number", "least", "most"] ["number", "least", "most"] (defScope sCheckIn) := ⟨rfl, rfl, rfl, by decide +kernel, rfl, by decide +kernel, by decide +kernel⟩
theorem ok_check_in (M : Md K mg) (B : Bl mg) (F : FF K "check_within" sCheckIn) : Fn P w K mg base CX0 "check_within" 1 ["number", "least", "most"] spCheckIn := by
  refine fn_ok M F scCheckIn (fun _ _ _ _ _ _ => us3 fun _ _ _ => rfl) (fun vs H Q E h => ?_) (fun f cdv A outer s H vs Q E hr h => ?_)
  · obtain ⟨a, lo, hi, rfl, _⟩ := h; rfl
  · obtain ⟨a, lo, hi, rfl, h1, h2, k⟩ := h
    refine ⟨_, (pss_one (ps_if (pt_not (pt_chain op_le op_le (pv 1) (pv 0) (pv 2))) (pss_one ps_never) pss_nil)), ?_⟩
    refine ⟨_, rfl, _, rfl, _, _, rfl, rfl, _, rfl, ?_⟩
    rw [decide_eq_true h1]
    refine iteT ⟨_, rfl, _, _, rfl, rfl, _, rfl, ?_⟩
    rw [decide_eq_true h2]
    exact iteF k
end

end Ov

namespace Ov
open PySem L2
abbrev sNear : Stmt := top 28
def spNear : Sp := fun vs H Q _ => ∃ (a : Addr) (t : List Nat) (m : Nat), vs = [.ref a, .int (m : Int)] ∧ H a = some (.lst (t.map sg)) ∧ Low t ∧ 1 ≤ m ∧ m ≤ t.length ∧ t.length ≤ 900 ∧
  ∀ (v : V) (H' : Hp), OptP H' v (nr t m (t.length + 1 - m)) → Same H H' → Q v H'
theorem kv_get {es : List (List Nat × Addr)} {i : Nat} {k : List Key} {x : V} (h : (kvOf es)[i]? = some (k, x)) : ∃ e, es[i]? = some e ∧ x = V.ref e.2 ∧ k = keyU e.1 := by
  unfold kvOf at h
  rw [List.getElem?_map] at h
  cases q : es[i]? with
  | none => rw [q] at h; cases h
  | some e =>
    rw [q] at h
    exact ⟨e, rfl, (congrArg Prod.snd (Option.some.inj h)).symm, (congrArg Prod.fst (Option.some.inj h)).symm⟩
section
variable {P : Program} {w : World} {K : PySem.W.Frag} {mg : Str → Option Value} {base : Heap}
theorem scNear : FnScope ["text", "many", "nearest", "piece", "places", "best"] ["text", "many"] (defScope sNear) := ⟨rfl, rfl, rfl, by decide +kernel, rfl, by decide +kernel, by decide +kernel⟩
theorem ok_near (M : Md K mg) (B : Bl mg) (F : FF K "nearest_piece" sNear) (Fcheck_signs : Fn P w K mg base CX0 "check_signs" 2 ["text"] spCheck) (Fcheck_within : Fn P w K mg base CX0 "check_within" 1 ["number", "least", "most"] spCheckIn) (Fpiece_places : Fn P w K mg base CX0 "piece_places" 1 ["text", "many"] spPieces) (Fbest_ways : Fn P w K mg base CX0 "best_ways" 6 ["text", "word"] spBest) : Fn P w K mg base CX0 "nearest_piece" 7 ["text", "many"] spNear := by
  refine fn_ok M F scNear (fun _ _ _ _ _ _ => us2 fun _ _ => rfl) (fun vs H Q E h => ?_) (fun f cdv A outer s H vs Q E hr h => ?_)
  · obtain ⟨a, t, m, rfl, _⟩ := h; rfl
  · obtain ⟨a, t, m, rfl, ha, lt, m1, mt, tl, k⟩ := h
    refine ⟨_, (pss_cons (ps_expr (pe_fn Fcheck_signs hr pass0 (pa_cons (pv 0) pa_nil)))
      (pss_cons (ps_expr (pe_fn Fcheck_within hr pass0 (pa_cons (pv 1) (pa_cons pe_int (pa_cons (pe_lenL B.len (pv 0)) pa_nil)))))
      (pss_cons (ps_set (i := 2) scNear.nd rfl (by first | exact Or.inl rfl | exact Or.inr rfl) pe_non)
      (pss_cons (ps_for PassesOwn.never rfl (pi_items (pe_fn Fpiece_places hr pass0 (pa_cons (pv 0) (pa_cons (pv 1) pa_nil)))) (pg_tup rfl (pgs_cons (pg_name (i := 3) scNear.nd rfl (by first | exact Or.inl rfl | exact Or.inr rfl)) (pgs_cons (pg_name (i := 4) scNear.nd rfl (by first | exact Or.inl rfl | exact Or.inr rfl)) pgs_nil)))
      (pss_cons (ps_set (i := 5) scNear.nd rfl (by first | exact Or.inl rfl | exact Or.inr rfl) (pe_fn Fbest_ways hr pass0 (pa_cons (pv 0) (pa_cons (pe_listT B.list (pv 3)) pa_nil))))
      (pss_one (ps_if (PW.pt (pw_and (pt_cmpR (op_inX (by exact hr)) pe_int (pv 5) (by with_unfolding_all rfl)) (pw_and1 (PW.pt (pw_or (pt_cmpR op_isN (pv 2) pe_non (nomark _)) (pw_or1 (pt_cmpR op_lt (pe_ix ix_tup (pe_dget (by exact hu_of hr) (pv 5) pe_int (fun _ _ => rfl)) pe_int (fun _ _ => rfl)) (pe_ix ix_tup (pv 2) pe_int (fun _ _ => rfl)) (nomark _)))))))) (pss_one (ps_set (i := 2) scNear.nd rfl (by first | exact Or.inl rfl | exact Or.inr rfl) (pe_tup (pa_cons (pe_ix ix_tup (pe_dget (by exact hu_of hr) (pv 5) pe_int (fun _ _ => rfl)) pe_int (fun _ _ => rfl)) (pa_cons (pe_ix ix_list (pv 4) pe_int (fun _ _ => rfl)) pa_nil))))) pss_nil))))
      (pss_one (ps_ret (pv 2))))))), ?_⟩
    refine ⟨_, rfl, a, t, rfl, ha, lt, ?_⟩
    refine ⟨_, rfl, _, rfl, a, _, rfl, SqL.of ha, _, _, _, rfl, by omega, by rw [List.length_map]; omega, ?_⟩
    refine ⟨_, rfl, _, rfl, a, t, m, rfl, ha, m1, mt, tl, fun w es H1 hw0 hw1 pc s1 => ⟨w, kvOf es, rfl, hw1, fun o => ?_⟩⟩
    have eus : es.map (·.1) = usOf t m (t.length + 1 - m) := pc.us
    refine for_items (a := w) (o := o) (kvs := kvOf es) (fun i σ H5 => Same H H5 ∧ H5 w = some (.frz o (.dT (kvOf es))) ∧ (∀ e ∈ es, H5 e.2 = some (.lst (vInts (plc t m (t.length + 1 - m) e.1)))) ∧ ∃ v2 v3 v4 v5, OptP H5 v2 (nu t m ((usOf t m (t.length + 1 - m)).take i)) ∧ σ = [some (.ref a), some (.int (m : Int)), some v2, v3, v4, v5]) ?_ (fun i σ H5 _ h5 => h5.2.1) ?_ ?_
    · refine ⟨fun b ob z => by rw [upd_ne (ne_of_none z hw0)]; exact s1 _ _ z, upd_same, fun e he => ?_, .non, _, _, _, rfl, rfl⟩
      rw [upd_ne (ne_of (pc.at_ e he).2 hw1 (fun z => nomatch z))]
      exact (pc.at_ e he).2
    · rintro i kk x ka p σ H5 hx hka hp ⟨sH5, hw5, hes, v2, v3, v4, v5, op, rfl⟩
      obtain ⟨e, he, rfl, rfl⟩ := kv_get hx
      have hem := List.mem_of_getElem? he
      have hu : (usOf t m (t.length + 1 - m))[i]? = some e.1 := by rw [← eus, List.getElem?_map, he]; rfl
      have hum := List.mem_of_getElem? hu
      have ul : e.1.length = m := us_size (Nat.le_refl _) hum (by omega)
      rw [keyU_kV] at hka
      obtain ⟨q, hq, hqe⟩ := mem_us.mp hum
      have hql : q ∈ plc t m (t.length + 1 - m) e.1 := by unfold plc; rw [List.mem_filter]; exact ⟨by simpa using hq, by simpa using hqe⟩
      have lu : Low e.1 := by rw [← hqe]; exact (lt.drop _).take _
      obtain ⟨y, ys, ey⟩ := List.exists_cons_of_ne_nil (List.ne_nil_of_mem hql)
      have efst : fstP t m e.1 = y := by unfold fstP; rw [ey]; rfl
      have etk : (usOf t m (t.length + 1 - m)).take (i + 1) = (usOf t m (t.length + 1 - m)).take i ++ [e.1] := take_at hu
      have sp := Same.upd (o := .tup [V.ref ka, .ref e.2]) hp
      have hp5 := upd_same (H := H5) (a := p) (o := .tup [V.ref ka, .ref e.2])
      generalize L2.upd H5 p (.tup [V.ref ka, .ref e.2]) = H6 at sp hp5 ⊢
      refine ⟨p, _, rfl, SqT.of hp5, rfl, _, _, rfl, _, _, rfl, rfl, ?_⟩
      have ka6 := sp _ _ hka
      refine ⟨_, rfl, _, rfl, ka, _, rfl, SqT.of ka6, fun l hl => ?_⟩
      have s7 := Same.upd (o := .lst (e.1.map sg)) hl
      have s57 := sp.trans s7
      refine ⟨a, l, t, e.1, rfl, s57 _ _ (sH5 _ _ ha), upd_same, lu, by omega, by omega, tl, fun r H8 hr0 B8 s8 => ?_⟩
      have s58 := s57.trans s8
      have sH8 := sH5.trans s58
      have op8 := op.same s58
      have he8 := s58 _ _ (hes e hem)
      have kp : ∀ H9, Same H8 H9 → ∀ v2', OptP H9 v2' (stp (nu t m ((usOf t m (t.length + 1 - m)).take i)) (wc t e.1) y) → Same H H9 ∧ H9 w = some (.frz o (.dT (kvOf es))) ∧ (∀ e ∈ es, H9 e.2 = some (.lst (vInts (plc t m (t.length + 1 - m) e.1)))) ∧ OptP H9 v2' (nu t m ((usOf t m (t.length + 1 - m)).take (i + 1))) := fun H9 s9 v2' hv => by
        refine ⟨sH8.trans s9, s9 _ _ (s58 _ _ hw5), fun e' h' => s9 _ _ (s58 _ _ (hes e' h')), ?_⟩
        rw [etk, nu_snoc, efst]
        exact hv
      rcases B8.look (p := 0) (Nat.le_refl _) with ⟨l', c, Ll, Dg, c0, hc8⟩ | ⟨no, Dg⟩
      · have Dg' : DGet H8 r (.int 0) (some (.ref c)) := Dg
        have ew := wc_least Ll
        have setit : ∀ (go : stp (nu t m ((usOf t m (t.length + 1 - m)).take i)) (wc t e.1) y = some (cst t e.1 l', y)) g2 (hg2 : H8 g2 = none), Same H (L2.upd H8 g2 (.tup [.int (cst t e.1 l' : Nat), .int (y : Int)])) ∧ (L2.upd H8 g2 (.tup [.int (cst t e.1 l' : Nat), .int (y : Int)])) w = some (.frz o (.dT (kvOf es))) ∧ (∀ e_1 ∈ es, (L2.upd H8 g2 (.tup [.int (cst t e.1 l' : Nat), .int (y : Int)])) e_1.2 = some (.lst (vInts (plc t m (t.length + 1 - m) e_1.1)))) ∧ OptP (L2.upd H8 g2 (.tup [.int (cst t e.1 l' : Nat), .int (y : Int)])) (.ref g2) (nu t m ((usOf t m (t.length + 1 - m)).take (i + 1))) := fun go g2 hg2 =>
          kp _ (Same.upd hg2) _ (by rw [go]; exact ⟨g2, rfl, upd_same⟩)
        have hidx : atI (vInts (plc t m (t.length + 1 - m) e.1)) 0 = some (.int (y : Int)) := atI_nat (j := 0) (by rw [ey]; rfl)
        cases hn : nu t m ((usOf t m (t.length + 1 - m)).take i) with
        | none =>
          rw [hn] at op8
          have e2 : v2 = .non := op8
          subst e2
          refine ⟨_, rfl, r, _, rfl, Dg', _, rfl, iteT ⟨_, rfl, rfl, true, rfl, iteT (iteT ?_)⟩⟩
          refine ⟨_, rfl, r, _, rfl, Dg', c, _, _, _, rfl, rfl, SqT.of hc8, atI_nat (j := 0) rfl, _, rfl, e.2, _, _, _, rfl, rfl, SqL.of he8, hidx, by show 2 ≤ sizeLine; decide, fun g2 hg2 => ?_⟩
          obtain ⟨f1, f2, f3, f4⟩ := setit (by rw [hn, ew]; rfl) g2 hg2
          exact ⟨f1, f2, f3, _, _, _, _, f4, rfl⟩
        | some b =>
          rw [hn] at op8
          obtain ⟨gb, e2, hgb⟩ := op8
          subst e2
          refine ⟨_, rfl, r, _, rfl, Dg', _, rfl, iteT ⟨_, rfl, rfl, false, rfl, iteF ?_⟩⟩
          refine ⟨_, rfl, r, _, rfl, Dg', c, _, _, _, rfl, rfl, SqT.of hc8, atI_nat (j := 0) rfl, _, rfl, gb, _, _, _, rfl, rfl, SqT.of hgb, atI_nat (j := 0) rfl, _, _, rfl, rfl, _, rfl, ?_⟩
          by_cases hlt : cst t e.1 l' < b.1
          · rw [decide_eq_true (show ((cst t e.1 l' : Nat) : Int) < ((b.1 : Nat) : Int) by omega)]
            refine iteT ⟨_, rfl, r, _, rfl, Dg', c, _, _, _, rfl, rfl, SqT.of hc8, atI_nat (j := 0) rfl, _, rfl, e.2, _, _, _, rfl, rfl, SqL.of he8, hidx, by show 2 ≤ sizeLine; decide, fun g2 hg2 => ?_⟩
            obtain ⟨f1, f2, f3, f4⟩ := setit (by rw [hn, ew]; simp only [stp]; rw [if_pos hlt]) g2 hg2
            exact ⟨f1, f2, f3, _, _, _, _, f4, rfl⟩
          · rw [decide_eq_false (show ¬ ((cst t e.1 l' : Nat) : Int) < ((b.1 : Nat) : Int) by omega)]
            obtain ⟨f1, f2, f3, f4⟩ := kp H8 (Same.refl _) (.ref gb) (by rw [hn, ew]; simp only [stp]; rw [if_neg hlt]; exact ⟨gb, rfl, hgb⟩)
            exact iteF ⟨f1, f2, f3, _, _, _, _, f4, rfl⟩
      · have Dg' : DGet H8 r (.int 0) none := Dg
        have ew := wc_none no
        obtain ⟨f1, f2, f3, f4⟩ := kp H8 (Same.refl _) v2 (by rw [ew]; exact op8)
        exact ⟨_, rfl, r, _, rfl, Dg', _, rfl, iteF (iteF ⟨f1, f2, f3, _, _, _, _, f4, rfl⟩)⟩
    · rintro σ H5 ⟨sH5, hw5, hes, v2, v3, v4, v5, op, rfl⟩
      have el : (kvOf es).length = (usOf t m (t.length + 1 - m)).length := by unfold kvOf; rw [← eus, List.length_map, List.length_map]
      rw [el, List.take_length, nu_us (Nat.le_refl _)] at op
      exact ⟨_, rfl, k v2 H5 op sH5⟩
end

end Ov

namespace Ov
open PySem L2
abbrev sDrawn : Stmt := top 42
def spDrawn : Sp := fun vs H Q _ => ∃ (p st : Addr) (S : List Nat) (n : Nat), vs = [.ref p, .ref st, .int (n : Int)] ∧ Hand H p ∧ H st = some (.lst (vInts S)) ∧ st ≠ p ∧ S.length ≤ 900 ∧ (∀ s ∈ S, 1 ≤ s) ∧ n ≤ 900 ∧
  ∀ (l : List Nat) (q : Nat) (r : Addr) (H' : Hp), H r = none → H' r = some (.lst (vInts l)) → Ch S 0 q l → q ≤ n → l.length ≤ n + 1 → Hand H' p → Keep p H H' → Q (.ref r) H'
theorem far_compE {K : PySem.W.Frag} {st : Addr} {S : List Nat} {left : Nat} {σ : St} {H2 : Hp} {Q : VK} {n i3 : Nat} {te : CB → TE} (hn : σ.length = n) (h3 : σ[i3]? = some (some (.ref st))) (hte : ∀ b x H3 Q', Same H2 H3 → Q' (.int (left : Int)) H3 → te b (σ ++ [some x]) H3 Q') (hst : H2 st = some (.lst (vInts S))) (hS : S.length ≤ 900)
    (k : ∀ D H3, H2 D = none → H3 D = some (.lst (vInts (S.filter fun s => decide (s ≤ left)))) → Same H2 H3 → Q (.ref D) H3) :
    tComp (iList K (tVar i3)) (fun b => tTest (tOp (rI0 fun i j => .bl (decide (i ≤ j))) (tVar n) (te b))) (fun _ => tVar n) σ H2 Q := by
  refine ⟨_, h3, st, rfl, ⟨_, SqL.of hst⟩, fun D hD cb => ?_⟩
  refine comp_list (K := K) (a := st) (xs := vInts S) (fun i ys H3 => ys = vInts ((S.take i).filter fun s => decide (s ≤ left)) ∧ Same H2 H3 ∧ H3 D = some (.lst ys)) (by rw [vInts_len]; exact small1000 (by omega)) ?_ ?_ ?_ ?_ ?_
  · exact ⟨rfl, Same.upd hD, upd_same⟩
  · rintro i ys H3 ⟨rfl, _⟩
    rw [vInts_len]
    exact Nat.le_trans (List.length_filter_le _ _) (by rw [List.length_take]; omega)
  · rintro i ys H3 _ ⟨_, s5, _⟩; exact SqL.of (s5 _ _ hst)
  · rintro i x ys H3 hx ⟨rfl, s5, hD3⟩
    obtain ⟨o, ho, rfl⟩ := vInts_at hx
    have e8 : (σ ++ [some (V.int (o : Int))])[n]? = some (some (.int (o : Int))) := by rw [← hn, List.getElem?_append_right (Nat.le_refl _)]; simp
    refine ⟨_, e8, hte _ _ _ _ s5 ⟨_, _, rfl, rfl, _, rfl, ?_⟩⟩
    have stp := filter_at (f := fun s => decide (s ≤ left)) ho
    by_cases h1 : o ≤ left
    · rw [decide_eq_true (show ((o : Int) ≤ (left : Int)) by omega)]
      refine iteT ⟨_, e8, hD3, ?_, fun e o' z => by rw [upd_ne (ne_of_none z hD)]; exact s5 _ _ z, upd_same⟩
      rw [stp, if_pos (by simp [h1]), vInts_snoc']
    · rw [decide_eq_false (show ¬ ((o : Int) ≤ (left : Int)) by omega)]
      refine iteF ⟨?_, s5, hD3⟩
      rw [stp, if_neg (by simp [h1]), List.append_nil]
  · rintro ys H3 ⟨rfl, s5, hD3⟩
    rw [vInts_len, List.take_length] at hD3
    exact k D H3 hD hD3 s5
section
variable {P : Program} {w : World} {K : PySem.W.Frag} {mg : Str → Option Value} {base : Heap}
theorem scDrawn : FnScope ["pot", "near", "size", "chain", "some"] ["pot", "near", "size"] (defScope sDrawn) := ⟨rfl, rfl, rfl, by decide +kernel, rfl, by decide +kernel, by decide +kernel⟩
theorem ok_drawn (M : Md K mg) (B : Bl mg) (F : FF K "_law_drawn_chain" sDrawn) (F_law_take : Fn P w K mg base CX0 "_law_take" 1 ["pot", "many"] spTake) : Fn P w K mg base CX0 "_law_drawn_chain" 2 ["pot", "near", "size"] spDrawn := by
  refine fn_ok M F scDrawn (fun _ _ _ _ _ _ => us3 fun _ _ _ => rfl) (fun vs H Q E h => ?_) (fun f cdv A outer s H vs Q E hr h => ?_)
  · obtain ⟨p, st, S, n, rfl, _⟩ := h; rfl
  · obtain ⟨p, st, S, n, rfl, hp, hst, nst, Sl, S1, nl, k⟩ := h
    refine ⟨_, (pss_cons (ps_set (i := 3) scDrawn.nd rfl (by first | exact Or.inl rfl | exact Or.inr rfl) (pe_lst (pa_cons pe_int pa_nil)))
      (pss_cons (ps_setC (i := 4) ["pot", "near", "size", "chain", "some"] rfl scDrawn.nd rfl (by first | exact Or.inl rfl | exact Or.inr rfl) (pi_list (pv 1)) (fun _ => by exact (pif_one (pt_cmpR op_le (pv 5) (pv 2) (nomark _)))) (fun _ => by exact (pv 5)))
      (pss_cons (ps_while PassesOwn.never (pt_cmpR (op_neLI (by exact hr)) (pv 4) (pe_lst pa_nil) (nomark _)) (pss_cons (ps_expr (pe_bm PySem.F.plainAttrs_list PySem.F.slot_list_append PySem.F.type_list_append mt_append (pv 3) (pa_cons (pe_op op_add (pe_ix ix_list (pv 3) (pe_un un_neg pe_int) (fun _ _ => rfl)) (pe_ix ix_list (pv 4) (pe_fn F_law_take hr pass0 (pa_cons (pv 0) (pa_cons (pe_lenL B.len (pv 4)) pa_nil))) (fun _ _ => rfl))) pa_nil)))
      (pss_one (ps_setC (i := 4) ["pot", "near", "size", "chain", "some"] rfl scDrawn.nd rfl (by first | exact Or.inl rfl | exact Or.inr rfl) (pi_list (pv 1)) (fun _ => by exact (pif_one (pt_cmpR op_le (pv 5) (pe_op op_sub (pv 2) (pe_ix ix_list (pv 3) (pe_un un_neg pe_int) (fun _ _ => rfl))) (nomark _)))) (fun _ => by exact (pv 5))))))
      (pss_one (ps_ret (pv 3)))))), ?_⟩
    refine ⟨by show 1 ≤ sizeLine; decide, fun ch hch => ?_⟩
    have s1 := Same.upd (o := .lst [V.int 0]) hch
    have hch1 := upd_same (H := H) (a := ch) (o := .lst [V.int 0])
    have nch : ch ≠ p := (hp.ne hch).symm
    generalize L2.upd H ch (.lst [V.int 0]) = H1 at s1 hch1 ⊢
    have hp1 := hp.same s1
    refine fseq_set (far_comp (K := K) (left := n) rfl rfl rfl (s1 _ _ hst) Sl fun sm H4 hsm0 hsm4 s4 => ?_)
    have hp4 := hp1.same s4
    refine ⟨fun m σ H5 => ∃ (l : List Nat) (q : Nat) (sm : Addr), m = n - q ∧ q ≤ n ∧ l.length ≤ q + 1 ∧ σ = [some (.ref p), some (.ref st), some (.int (n : Int)), some (.ref ch), some (.ref sm)] ∧ H5 ch = some (.lst (vInts l)) ∧ Ch S 0 q l ∧ sm ≠ p ∧ H5 sm = some (.lst (vInts (S.filter fun s => decide (s ≤ n - q)))) ∧ H5 st = some (.lst (vInts S)) ∧ Hand H5 p ∧ Keep p H H5, ⟨n, [0], 0, sm, rfl, Nat.zero_le _, Nat.le_refl _, rfl, s4 _ _ hch1, Ch.one _, (hp1.ne hsm0).symm, hsm4, s4 _ _ (s1 _ _ hst), hp4, fun c o h n => s4 _ _ (s1 _ _ h)⟩, ?_⟩
    rintro m σ H5 ⟨l, q, sm, rfl, qn, ll, rfl, hch5, hC, nsm, hsm5, hst5, hp5, k05⟩
    refine ⟨_, rfl, Nat.zero_le _, fun e0 he0 => ?_⟩
    have s6 := Same.upd (o := .lst []) he0
    have he6 := upd_same (H := H5) (a := e0) (o := .lst [])
    generalize L2.upd H5 e0 (.lst []) = H6 at s6 he6 ⊢
    refine ⟨sm, e0, _, [], rfl, rfl, SqL.of (s6 _ _ hsm5), SqL.of he6, _, rfl, ?_⟩
    cases hf : S.filter fun s => decide (s ≤ n - q) with
    | nil =>
      refine iteF ⟨_, rfl, k l q ch H6 hch (s6 _ _ hch5) hC qn (by omega) (hp5.same s6) fun c o h n => s6 _ _ (k05 _ _ h n)⟩
    | cons f0 fr =>
      rw [hf] at hsm5
      refine iteT ⟨fun σ' H' => ∃ m', m' < n - q ∧ ∃ (l : List Nat) (q : Nat) (sm : Addr), m' = n - q ∧ q ≤ n ∧ l.length ≤ q + 1 ∧ σ' = [some (.ref p), some (.ref st), some (.int (n : Int)), some (.ref ch), some (.ref sm)] ∧ H' ch = some (.lst (vInts l)) ∧ Ch S 0 q l ∧ sm ≠ p ∧ H' sm = some (.lst (vInts (S.filter fun s => decide (s ≤ n - q)))) ∧ H' st = some (.lst (vInts S)) ∧ Hand H' p ∧ Keep p H H', fun _ _ h => h, ?_⟩
      have hsm6 := s6 _ _ hsm5
      have flen : (f0 :: fr).length ≤ 900 := by rw [← hf]; exact Nat.le_trans (List.length_filter_le _ _) (by omega)
      obtain ⟨lr, el⟩ := hC.last
      have hat0 : atI (vInts l) (-1) = some (.int (q : Int)) := by rw [el, vInts_snoc', atI_last]
      have hch6 := s6 _ _ hch5
      refine ⟨_, rfl, .inl ⟨rfl, _, SqL.of hch6⟩, _, rfl, _, rfl, ch, _, _, _, rfl, rfl, SqL.of hch6, hat0, _, rfl, _, rfl, _, rfl, sm, _, rfl, SqL.of hsm6, p, _, rfl, hp5.same s6, by rw [vInts_len, List.length_cons]; omega, by rw [vInts_len]; omega, fun r H7 r0 r1 hp7 k7 => ?_⟩
      rw [vInts_len] at r1
      have k57 : Keep p H5 H7 := fun c o h n => k7 _ _ (s6 _ _ h) n
      have hrl : r.toNat < (f0 :: fr).length := by omega
      have hge : (f0 :: fr)[r.toNat]? = some (f0 :: fr)[r.toNat] := by simp [hrl]
      generalize (f0 :: fr)[r.toNat] = s' at hge
      have hsf : s' ∈ S.filter fun s => decide (s ≤ n - q) := by rw [hf]; exact List.mem_of_getElem? hge
      have hss := (List.mem_filter.mp hsf).1
      have hsm' : s' ≤ n - q := of_decide_eq_true (List.mem_filter.mp hsf).2
      have sb1 := S1 s' hss
      have hat : atI (vInts (f0 :: fr)) r = some (.int (s' : Int)) := by
        obtain ⟨v, hv, _, e⟩ := atI_ex (vInts (f0 :: fr)) r r0 (by rw [vInts_len]; exact r1)
        obtain ⟨q, hq, rfl⟩ := vInts_at hv
        rw [hge] at hq
        rw [e, Option.some.inj hq]
      have hch7 := k57 _ _ hch5 nch
      have hst7 := k57 _ _ hst5 nst
      refine ⟨sm, _, _, _, rfl, rfl, SqL.of (k57 _ _ hsm5 nsm), hat, _, _, rfl, rfl, ch, _, _, rfl, rfl, hch7, by rw [vInts_len]; exact small1000 (by omega), ?_⟩
      have e9 : vInts l ++ [V.int ((q : Int) + (s' : Int))] = vInts (l ++ [q + s']) := by rw [vInts_snoc', Int.natCast_add]
      have hch9 : (L2.upd H7 ch (.lst (vInts l ++ [V.int ((q : Int) + (s' : Int))]))) ch = some (.lst (vInts (l ++ [q + s']))) := by rw [upd_same, e9]
      have k79 : ∀ c o, H7 c = some o → c ≠ ch → (L2.upd H7 ch (.lst (vInts l ++ [V.int ((q : Int) + (s' : Int))]))) c = some o := fun c o h n => by rw [upd_ne n]; exact h
      have hp9 : Hand (L2.upd H7 ch (.lst (vInts l ++ [V.int ((q : Int) + (s' : Int))]))) p := hp7.upd nch.symm
      have nsc : st ≠ ch := ne_of_none hst hch
      generalize L2.upd H7 ch (.lst (vInts l ++ [V.int ((q : Int) + (s' : Int))])) = H9 at hch9 k79 hp9 ⊢
      dsimp only
      refine asg_set ?_
      refine far_compE (K := K) (left := n - (q + s')) (n := 5) (i3 := 1) rfl rfl (fun b x H3 Q' s3 k3 => ?_) (k79 _ _ hst7 nsc) Sl fun sm2 H10 hsm20 hsm210 s10 => ?_
      · have hat3 : atI (vInts (l ++ [q + s'])) (-1) = some (.int ((q + s' : Nat) : Int)) := by rw [vInts_snoc', atI_last]
        refine ⟨_, rfl, _, rfl, _, rfl, ch, _, _, _, rfl, rfl, SqL.of (s3 _ _ hch9), hat3, _, _, rfl, rfl, ?_⟩
        show Q' (V.int ((n : Int) - ((q + s' : Nat) : Int))) H3
        rw [show (n : Int) - ((q + s' : Nat) : Int) = ((n - (q + s') : Nat) : Int) by omega]
        exact k3
      · exact ⟨n - (q + s'), by omega, l ++ [q + s'], q + s', sm2, rfl, by omega, by rw [List.length_append, List.length_singleton]; omega, rfl, s10 _ _ hch9, hC.snoc hss, (hp9.ne hsm20).symm, hsm210, s10 _ _ (k79 _ _ hst7 nsc), hp9.same s10, fun c o h n => s10 _ _ (k79 _ _ (k57 _ _ (k05 _ _ h n) n) (ne_of_none h hch))⟩
end

end Ov

namespace Ov
open PySem L2
abbrev sRight : Stmt := top 43
def spRight : Sp := fun vs H Q _ => ∃ (p a b : Addr) (t u : List Nat) (most : Int), vs = [.ref p, .ref a, .ref b, .int most] ∧ Hand H p ∧ H a = some (.lst (t.map sg)) ∧ H b = some (.lst (u.map sg)) ∧ Low t ∧ Low u ∧ 1 ≤ u.length ∧ u.length ≤ t.length ∧ t.length ≤ 900 ∧ (∃ l, Ch (shiftsOf u) 0 (t.length - u.length) l) ∧
  (∀ l, Least (shiftsOf u) t u true 0 (t.length - u.length) l → ((cst t u l : Nat) : Int) ≤ most) ∧
  ∀ (H' : Hp), Hand H' p → Keep p H H' → Q (.bl true) H'
theorem meet_any {t rest : TS} {D : Ends} {σ : St} {H : Hp} (T : St → Hp → Prop) (hr : ∀ σ' H', T σ' H' → rest D σ' H') (h : ∀ R : St → Hp → Prop, (∀ σ' H', T σ' H' → R σ' H') → t { D with nx := R } σ H) : tSeq t rest D σ H := h (rest D) hr
section
variable {P : Program} {w : World} {K : PySem.W.Frag} {mg : Str → Option Value} {base : Heap}
theorem scRight : FnScope ["pot", "text", "word", "most", "cost", "chain", "near", "size", "again", "other", "at", "more", "places"] ["pot", "text", "word", "most"] (defScope sRight) := ⟨rfl, rfl, rfl, by decide +kernel, rfl, by decide +kernel, by decide +kernel⟩
theorem ok_right (M : Md K mg) (B : Bl mg) (F : FF K "_law_right" sRight) (F_law_take : Fn P w K mg base CX0 "_law_take" 1 ["pot", "many"] spTake) (F_law_drawn_chain : Fn P w K mg base CX0 "_law_drawn_chain" 2 ["pot", "near", "size"] spDrawn) (Ffewest_wrong : Fn P w K mg base CX0 "fewest_wrong" 7 ["text", "word"] spFewW) (Fshifts : Fn P w K mg base CX0 "shifts" 5 ["word"] spShifts) (Fchain_cost : Fn P w K mg base CX0 "chain_cost" 7 ["text", "word", "chain"] spCost) (Fis_laying : Fn P w K mg base CX0 "is_laying" 5 ["text", "word", "places"] spIsLaying) (Fcovered : Fn P w K mg base CX0 "covered" 5 ["text", "word"] spCovered) (Fnearest_piece : Fn P w K mg base CX0 "nearest_piece" 7 ["text", "many"] spNear) : Fn P w K mg base CX0 "_law_right" 8 ["pot", "text", "word", "most"] spRight := by
  refine fn_ok M F scRight (fun _ _ _ _ _ _ => us4 fun _ _ _ _ => rfl) (fun vs H Q E h => ?_) (fun f cdv A outer s H vs Q E hr h => ?_)
  · obtain ⟨p, a, b, t, u, most, rfl, _⟩ := h; rfl
  · obtain ⟨p, a, b, t, u, most, rfl, hp, ha, hb, lt, lu, u1, ut, tl, hex, hmost, k⟩ := h
    refine ⟨_, (pss_cons (ps_asg (pe_fn Ffewest_wrong hr pass0 (pa_cons (pv 1) (pa_cons (pv 2) pa_nil))) (pg_tup rfl (pgs_cons (pg_name (i := 4) scRight.nd rfl (by first | exact Or.inl rfl | exact Or.inr rfl)) (pgs_cons (pg_name (i := 5) scRight.nd rfl (by first | exact Or.inl rfl | exact Or.inr rfl)) pgs_nil))))
      (pss_cons (ps_set (i := 6) scRight.nd rfl (by first | exact Or.inl rfl | exact Or.inr rfl) (pe_fn Fshifts hr pass0 (pa_cons (pv 2) pa_nil)))
      (pss_cons (ps_set (i := 7) scRight.nd rfl (by first | exact Or.inl rfl | exact Or.inr rfl) (pe_op op_sub (pe_lenL B.len (pv 1)) (pe_lenL B.len (pv 2))))
      (pss_cons (ps_if (PW.pt (pw_or (pt_cmpR op_ne (pe_fn Fchain_cost hr pass0 (pa_cons (pv 1) (pa_cons (pv 2) (pa_cons (pv 5) pa_nil)))) (pv 4) (nomark _)) (pw_or (pt_cmpR op_ne (pe_ix ix_list (pv 5) pe_int (fun _ _ => rfl)) pe_int (nomark _)) (pw_or1 (pt_cmpR op_ne (pe_ix ix_list (pv 5) (pe_un un_neg pe_int) (fun _ _ => rfl)) (pv 7) (nomark _)))))) (pss_one (ps_ret pe_bl)) pss_nil)
      (pss_cons (ps_if (pt_cmpR (op_neLI (by exact hr)) (pe_comp2 ["one", "other"] ["pot", "text", "word", "most", "cost", "chain", "near", "size", "again", " ", "at", "more", "places"] rfl (pi_zip B.zip (pv 5) (pe_slice sl_list (pv 5) (po_some pe_int) po_none)) (fun _ => by exact (pg_tup rfl (pgs_cons (pg_name (i := 13) (show ((["pot", "text", "word", "most", "cost", "chain", "near", "size", "again", " ", "at", "more", "places"] : List Str) ++ (["one", "other"] : List Str)).Nodup by decide +kernel) rfl (by first | exact Or.inl rfl | exact Or.inr rfl)) (pgs_cons (pg_name (i := 14) (show ((["pot", "text", "word", "most", "cost", "chain", "near", "size", "again", " ", "at", "more", "places"] : List Str) ++ (["one", "other"] : List Str)).Nodup by decide +kernel) rfl (by first | exact Or.inl rfl | exact Or.inr rfl)) pgs_nil)))) (fun _ => by exact (pif_one (pt_cmpR op_notIn_seq (pe_op op_sub (pv 14) (pv 13)) (pv 6) (by with_unfolding_all rfl)))) (fun _ => by exact pe_int)) (pe_lst pa_nil) (nomark _)) (pss_one (ps_ret pe_bl)) pss_nil)
      (pss_cons (ps_if (PW.pt (pw_and (pt_cmpR op_eq (pv 4) pe_int (nomark _)) (pw_and1 (pt_cmpR op_isNot (pe_fn Fis_laying hr pass0 (pa_cons (pv 1) (pa_cons (pv 2) (pa_cons (pv 5) pa_nil)))) pe_bl (nomark _))))) (pss_one (ps_ret pe_bl)) pss_nil)
      (pss_cons (ps_for PassesOwn.never rfl (pi_range1 (by rfl) B.range (pa_cons pe_int pa_nil)) (pg_name (i := 8) scRight.nd rfl (by first | exact Or.inl rfl | exact Or.inr rfl))
      (pss_cons (ps_set (i := 9) scRight.nd rfl (by first | exact Or.inl rfl | exact Or.inr rfl) (pe_fn F_law_drawn_chain hr pass0 (pa_cons (pv 0) (pa_cons (pv 6) (pa_cons (pv 7) pa_nil)))))
      (pss_one (ps_if (PW.pt (pw_and (pt_cmpR op_eq (pe_ix ix_list (pv 9) (pe_un un_neg pe_int) (fun _ _ => rfl)) (pv 7) (nomark _)) (pw_and1 (pt_cmpR op_lt (pe_fn Fchain_cost hr pass0 (pa_cons (pv 1) (pa_cons (pv 2) (pa_cons (pv 9) pa_nil)))) (pv 4) (nomark _))))) (pss_one (ps_ret pe_bl)) pss_nil))))
      (pss_cons (ps_if (PW.pt (pw_or (pt_cmpR op_ne (pe_cmpR op_eq (pv 4) pe_int (nomark _)) (pe_cmpR op_eq (pe_ix ix_tup (pe_fn Fcovered hr pass0 (pa_cons (pv 1) (pa_cons (pv 2) pa_nil))) pe_int (fun _ _ => rfl)) pe_str (nomark _)) (nomark _)) (pw_or1 (pt_not (pt_chain op_le op_le pe_int (pv 4) (pv 3)))))) (pss_one (ps_ret pe_bl)) pss_nil)
      (pss_cons (ps_if (PW.pt (pw_or (pt_cmpR op_ne (pe_ix ix_tup (pe_fn Ffewest_wrong hr pass0 (pa_cons (pe_rev_slice (pv 1)) (pa_cons (pe_rev_slice (pv 2)) pa_nil))) pe_int (fun _ _ => rfl)) (pv 4) (nomark _)) (pw_or1 (pt_cmpR (op_neD (by exact hr)) (pe_fn Ffewest_wrong hr pass0 (pa_cons (pv 2) (pa_cons (pv 2) pa_nil))) (pe_tup (pa_cons pe_int (pa_cons (pe_lst (pa_cons pe_int pa_nil)) pa_nil))) (nomark _))))) (pss_one (ps_ret pe_bl)) pss_nil)
      (pss_cons (ps_set (i := 10) scRight.nd rfl (by first | exact Or.inl rfl | exact Or.inr rfl) (pe_fn F_law_take hr pass0 (pa_cons (pv 0) (pa_cons (pe_lenL B.len (pv 1)) pa_nil))))
      (pss_cons (ps_set (i := 11) scRight.nd rfl (by first | exact Or.inl rfl | exact Or.inr rfl) (pe_op op_cat (pe_op op_cat (pe_slice sl_list (pv 1) po_none (po_some (pv 10))) (pe_lst (pa_cons (pe_ix ix_str pe_str (pe_fn F_law_take hr pass0 (pa_cons (pv 0) (pa_cons pe_int pa_nil))) (fun _ _ => rfl)) pa_nil))) (pe_slice sl_list (pv 1) (po_some (pe_op op_add (pv 10) pe_int)) po_none)))
      (pss_cons (ps_if (PW.pt (pw_or (pt_not (pt_chain op_le op_le (pe_op op_sub (pv 4) pe_int) (pe_ix ix_tup (pe_fn Ffewest_wrong hr pass0 (pa_cons (pv 11) (pa_cons (pv 2) pa_nil))) pe_int (fun _ _ => rfl)) (pe_op op_add (pv 4) pe_int))) (pw_or1 (pt_cmpR (op_neD (by exact hr)) (pe_fn Fnearest_piece hr pass0 (pa_cons (pv 1) (pa_cons (pe_lenL B.len (pv 1)) pa_nil))) (pe_tup (pa_cons pe_int (pa_cons pe_int pa_nil))) (nomark _))))) (pss_one (ps_ret pe_bl)) pss_nil)
      (pss_cons (ps_setC (i := 12) ["pot", "text", "word", "most", "cost", "chain", "near", "size", "again", "other", "at", "more", "places"] rfl scRight.nd rfl (by first | exact Or.inl rfl | exact Or.inr rfl) (pi_range1 (by rfl) B.range (pa_cons (pe_op op_add (pv 7) pe_int) pa_nil)) (fun _ => by exact (pif_one (pt_cmpR (op_eqLS (by exact hr)) (pe_slice sl_list (pv 1) (po_some (pv 13)) (po_some (pe_op op_add (pv 13) (pe_lenL B.len (pv 2))))) (pv 2) (nomark _)))) (fun _ => by exact (pv 13)))
      (pss_one (ps_ret (pe_or (pe_cmpR (op_eqLI (by exact hr)) (pv 12) (pe_lst pa_nil) (nomark _)) (pe_or (pe_cmpR op_gt (pe_lenL B.len (pv 1)) pe_int (nomark _)) (pe_one (pe_cmpR op_le (pe_ix ix_tup (pe_fn Fnearest_piece hr pass0 (pa_cons (pv 1) (pa_cons (pe_lenL B.len (pv 2)) pa_nil))) pe_int (fun _ _ => rfl)) (pv 4) (nomark _)))))))))))))))))))), ?_⟩
    obtain ⟨L, hL⟩ : ∃ L, L = t.length - u.length := ⟨_, rfl⟩
    have hS := steps_of u
    refine ⟨_, rfl, _, rfl, a, b, t, u, rfl, ha, hb, lt, lu, u1, ut, tl, hex, fun l Ll g c H1 hg0 hc0 hg1 hc1 s1 => ?_⟩
    refine ⟨g, _, rfl, SqT.of hg1, rfl, _, _, rfl, _, _, rfl, rfl, ?_⟩
    refine ⟨_, rfl, b, u, rfl, s1 _ _ hb, lu, u1, by omega, fun st H2 hst0 hst2 s2 => ?_⟩
    have s02 := s1.trans s2
    refine ⟨_, rfl, a, _, rfl, SqL.of (s02 _ _ ha), _, rfl, b, _, rfl, SqL.of (s02 _ _ hb), _, _, rfl, rfl, ?_⟩
    refine nm_int (j := (L : Int)) (congrArg V.int (by rw [List.length_map, List.length_map]; omega)) ?_
    have hmostl := hmost l Ll
    have hwh := least_whole u1 ut Ll
    have hcl := Ll.1
    rw [← hL] at hcl
    obtain ⟨lr, elr⟩ := hcl.last
    obtain ⟨l2, el2⟩ := hcl.head
    have hat0 : atI (vInts l) 0 = some (.int 0) := by rw [el2]; exact atI_nat (j := 0) rfl
    have hatL : atI (vInts l) (-1) = some (.int (L : Int)) := by rw [elr, vInts_snoc', atI_last]
    have ll := Ch.len_le hS hcl
    have hc2 := s2 _ _ hc1
    refine ⟨_, rfl, _, rfl, _, rfl, a, b, c, t, u, l, rfl, s02 _ _ ha, s02 _ _ hb, hc2, lt, lu, u1, ut, tl, Ll.1, fun H3 s3 => ?_⟩
    refine ⟨_, rfl, rfl, false, congrArg V.bl (by simp), iteF ?_⟩
    have s03 := s02.trans s3
    have hc3 := s3 _ _ hc2
    refine ⟨_, rfl, c, _, _, _, rfl, rfl, SqL.of hc3, hat0, rfl, false, congrArg V.bl (by simp), iteF ?_⟩
    refine ⟨_, rfl, _, rfl, c, _, _, _, rfl, rfl, SqL.of hc3, hatL, _, rfl, rfl, false, congrArg V.bl (by simp), iteF ?_⟩
    have sl := shifts_len u
    have hst3 := s3 _ _ hst2
    refine ⟨_, rfl, _, rfl, 1, rfl, c, _, rfl, SqL.of hc3, fun q hq => ?_⟩
    rw [show cutV (vInts l) (some 1) none = ((il l).drop 1).map V.int from cut_tail (il l)]
    have s4 := Same.upd (o := .lst (((il l).drop 1).map V.int)) hq
    have hq4 := upd_same (H := H3) (a := q) (o := .lst (((il l).drop 1).map V.int))
    generalize L2.upd H3 q (.lst (((il l).drop 1).map V.int)) = H4 at s4 hq4 ⊢
    refine ⟨c, q, _, _, rfl, rfl, s4 _ _ hc3, hq4, fun D hD cb => ?_⟩
    refine comp_zip (k := 2) (a := c) (b := q) (xs := vInts l) (ys := ((il l).drop 1).map V.int) (fun i ys H5 => ys = [] ∧ Same H4 H5 ∧ H5 D = some (.lst ys)) (by rw [vInts_len]; exact small1000 (by omega)) ?_ ?_ ?_ ?_ ?_
    · exact ⟨rfl, Same.upd hD, upd_same⟩
    · rintro i ys H5 ⟨rfl, _⟩; exact Nat.zero_le _
    · rintro i ys H5 _ ⟨_, s5, _⟩
      exact ⟨s5 _ _ (s4 _ _ hc3), s5 _ _ hq4⟩
    · rintro i x' y' pp ys H5 hx' hy' hpp ⟨rfl, s5, hD5⟩
      obtain ⟨z1, hz1, rfl⟩ := vInts_at hx'
      obtain ⟨z2, hz2, rfl⟩ := int_get hy'
      rw [List.getElem?_drop, il_get, show 1 + i = i + 1 by omega] at hz2
      have hi1 : i + 1 < l.length := by
        rcases Nat.lt_or_ge (i + 1) l.length with z | z
        · exact z
        · rw [List.getElem?_eq_none z] at hz2; cases hz2
      obtain ⟨s', hs', e'⟩ := (Ch.at_ hcl i (by omega)).2 hi1
      unfold gd at e'
      rw [hz1] at e'
      rw [List.getElem?_eq_getElem hi1] at e' hz2
      have e2 : l[i + 1] = z1 + s' := e'
      have e3 : z2 = ((z1 + s' : Nat) : Int) := by
        have := Option.some.inj hz2
        rw [← this, e2]
      subst e3
      have s6 := Same.upd (o := .tup [V.int (z1 : Int), .int ((z1 + s' : Nat) : Int)]) hpp
      refine ⟨pp, _, rfl, SqT.of upd_same, rfl, _, _, rfl, _, _, rfl, rfl, ?_, ?_⟩
      · intro j hj
        match j, hj with
        | 0, _ => rfl
        | 1, _ => rfl
        | 2, _ => rfl
        | 3, _ => rfl
        | 4, _ => rfl
        | 5, _ => rfl
        | 6, _ => rfl
        | 7, _ => rfl
        | 8, _ => rfl
        | 9, _ => rfl
        | 10, _ => rfl
        | 11, _ => rfl
        | 12, _ => rfl
      · refine ⟨_, rfl, _, rfl, _, _, rfl, rfl, _, rfl, st, _, rfl, .inl (SqL.of (s6 _ _ (s5 _ _ (s4 _ _ hst3)))), rfl, ints_flat _, false, ?_, iteF ⟨rfl, s5.trans s6, s6 _ _ hD5⟩⟩
        show V.bl (!inV (.int (((z1 + s' : Nat) : Int) - (z1 : Int))) (vInts (shiftsOf u))) = _
        rw [inV_ints, decide_eq_true (by rw [show ((z1 + s' : Nat) : Int) - (z1 : Int) = (s' : Int) by omega]; exact List.mem_map.mpr ⟨s', hs', rfl⟩)]
        rfl
    rintro ys H5 ⟨rfl, s5, hD5⟩
    refine ⟨Nat.zero_le _, fun l5 hl5 => ?_⟩
    have s6 := Same.upd (o := .lst []) hl5
    have hl6 := upd_same (H := H5) (a := l5) (o := .lst [])
    generalize L2.upd H5 l5 (.lst []) = H6 at s6 hl6 ⊢
    refine ⟨D, l5, [], [], rfl, rfl, SqL.of (s6 _ _ hD5), SqL.of hl6, false, rfl, iteF ?_⟩
    have s36 := (s4.trans s5).trans s6
    have s06 := s03.trans s36
    unfold tNext
    dsimp only
    refine meet_any (fun σ H7 => σ = [some (.ref p), some (.ref a), some (.ref b), some (.int most), some (.int (cst t u l : Nat)), some (.ref c), some (.ref st), some (.int (L : Int)), none, none, none, none, none] ∧ Same H6 H7) ?_ fun R hR => ?_
    rotate_left
    · refine ⟨_, rfl, rfl, _, rfl, ?_⟩
      by_cases hz : cst t u l = 0
      · rw [decide_eq_true (show V.int ((cst t u l : Nat) : Int) = V.int 0 by rw [hz]; rfl)]
        have hly : Laying t u (il l) := by
          refine ⟨fun n hn => ?_, fun k x y h1 h2 => ?_, ?_⟩
          · obtain ⟨x, hx, rfl⟩ := List.mem_map.mp hn
            exact ⟨x, zero_lies ut Ll.1 hz x hx, rfl⟩
          · rw [il_get] at h1 h2
            have k1 : k + 1 < l.length := by
              rcases Nat.lt_or_ge (k + 1) l.length with z | z
              · exact z
              · rw [List.getElem?_eq_none z] at h2; cases h2
            rw [List.getElem?_eq_getElem k1] at h2
            rw [List.getElem?_eq_getElem (by omega)] at h1
            have := List.pairwise_iff_getElem.mp (Ch.rise hS hcl) k (k + 1) (by omega) k1 (by omega)
            have e1 : ((l[k] : Nat) : Int) = x := Option.some.inj h1
            have e2 : ((l[k + 1] : Nat) : Int) = y := Option.some.inj h2
            omega
          · have e : (il l).map Int.toNat = l := by
              unfold il; rw [List.map_map]
              conv => rhs; rw [← List.map_id l]
              rfl
            rw [e]
            exact chain_whole u1 ut Ll.1
        refine iteT ⟨_, rfl, _, rfl, _, rfl, a, b, c, t, u, il l, rfl, s06 _ _ ha, s06 _ _ hb, s36 _ _ hc3, lt, lu, by omega, tl, by omega, u1, by rw [List.length_map]; omega, fun res H7 hres s7 => ?_⟩
        have er : res = true := hres.mpr hly
        subst er
        exact ⟨true, true, rfl, rfl, false, rfl, iteF (hR _ _ ⟨rfl, s7⟩)⟩
      · rw [decide_eq_false (fun q => hz (by have := V.int.inj q; omega))]
        exact iteF (hR _ _ ⟨rfl, Same.refl _⟩)
    rintro σ H7 ⟨rfl, s67⟩
    have s07 := s06.trans s67
    have hp7 := hp.same s07
    have nst : st ≠ p := ((hp.same s1).ne hst0).symm
    have nc : c ≠ p := (hp.ne hc0).symm
    have na := hand_ne hp ha
    have nb := hand_ne hp hb
    have hc7 := s67 _ _ (s36 _ _ hc3)
    have hst7 := s67 _ _ (s36 _ _ hst3)
    refine ⟨4, rfl, by decide, by decide, ?_⟩
    refine for_range (lo := 0) (n := 4) (fun i σ H8 => ∃ v8 v9, σ = [some (.ref p), some (.ref a), some (.ref b), some (.int most), some (.int (cst t u l : Nat)), some (.ref c), some (.ref st), some (.int (L : Int)), v8, v9, none, none, none] ∧ Hand H8 p ∧ Keep p H7 H8) ⟨none, none, rfl, hp7, Keep.refl _ _⟩ ?_ ?_
    · rintro i σ H8 hi ⟨v8, v9, rfl, hp8, k8⟩
      refine ⟨_, rfl, _, rfl, _, rfl, p, st, shiftsOf u, L, rfl, hp8, k8 _ _ hst7 nst, nst, by omega, fun s hs => (hS s hs).1, by omega, fun l' q' r H9 hr0 hr9 hC' hq' hl' hp9 k9 => ?_⟩
      have k79 := k8.trans k9
      obtain ⟨lr', elr'⟩ := hC'.last
      have hat' : atI (vInts l') (-1) = some (.int (q' : Int)) := by rw [elr', vInts_snoc', atI_last]
      refine ⟨_, rfl, _, rfl, r, _, _, _, rfl, rfl, SqL.of hr9, hat', _, rfl, rfl, _, rfl, ?_⟩
      by_cases hqL : q' = L
      · rw [decide_eq_true (show V.int (q' : Int) = V.int (L : Int) by rw [hqL])]
        have hC2 : Ch (shiftsOf u) 0 (t.length - u.length) l' := by rw [← hL, ← hqL]; exact hC'
        refine iteT ⟨_, rfl, _, rfl, _, rfl, a, b, r, t, u, l', rfl, k79 _ _ (s07 _ _ ha) na, k79 _ _ (s07 _ _ hb) nb, hr9, lt, lu, u1, ut, tl, hC2, fun H10 s10 => ?_⟩
        have hle := ky_le (Ll.2 l' hC2)
        exact ⟨_, rfl, _, _, rfl, rfl, false, congrArg V.bl (decide_eq_false (by omega)), iteF ⟨_, _, rfl, hp9.same s10, fun c o h n => s10 _ _ (k79 _ _ h n)⟩⟩
      · rw [decide_eq_false (fun z => hqL (by have := V.int.inj z; omega))]
        exact iteF ⟨_, _, rfl, hp9, k79⟩
    rintro σ H8 ⟨v8, v9, rfl, hp8, k8⟩
    have k08 : Keep p H H8 := fun c o h n => k8 _ _ (s07 _ _ h) n
    have ha8 := k08 _ _ ha na
    have hb8 := k08 _ _ hb nb
    try unfold tNext
    try dsimp only
    refine meet_any (fun σ H9 => σ = [some (.ref p), some (.ref a), some (.ref b), some (.int most), some (.int (cst t u l : Nat)), some (.ref c), some (.ref st), some (.int (L : Int)), v8, v9, none, none, none] ∧ Same H8 H9) ?_ fun R hR => ?_
    rotate_left
    · refine ⟨_, rfl, rfl, _, rfl, _, rfl, a, b, t, u, rfl, ha8, hb8, lt, lu, by omega, tl, by omega, u1, ?_, ?_⟩
      · intro r H9 hr0 s9 hlt hr9
        have hz : ¬ cst t u l = 0 := fun z => by have := hwh.mp z; omega
        rw [decide_eq_false (show ¬ V.int ((cst t u l : Nat) : Int) = V.int 0 from fun z => hz (by have := V.int.inj z; omega))]
        refine ⟨r, _, _, _, rfl, rfl, SqT.of hr9, atI_nat (j := 0) rfl, rfl, rfl, false, by decide +kernel, iteF ?_⟩
        exact ⟨_, rfl, _, _, rfl, rfl, true, congrArg V.bl (decide_eq_true (by omega)), iteT ⟨_, rfl, _, _, rfl, rfl, true, congrArg V.bl (decide_eq_true hmostl), iteF (hR _ _ ⟨rfl, s9⟩)⟩⟩
      · intro r q9 H9 hr0 hq0 s9 hb9 hq9 hr9
        have hz : cst t u l = 0 := hwh.mpr hb9
        rw [decide_eq_true (show V.int ((cst t u l : Nat) : Int) = V.int 0 by rw [hz]; rfl)]
        refine ⟨r, _, _, _, rfl, rfl, SqT.of hr9, atI_nat (j := 0) rfl, rfl, rfl, false, by decide +kernel, iteF ?_⟩
        exact ⟨_, rfl, _, _, rfl, rfl, true, congrArg V.bl (decide_eq_true (by omega)), iteT ⟨_, rfl, _, _, rfl, rfl, true, congrArg V.bl (decide_eq_true hmostl), iteF (hR _ _ ⟨rfl, s9⟩)⟩⟩
    rintro σ H9 ⟨rfl, s89⟩
    have ha9 := s89 _ _ ha8
    have hb9 := s89 _ _ hb8
    refine ⟨_, rfl, a, _, rfl, SqL.of ha9, fun ra hra => ?_⟩
    rw [← List.map_reverse]
    have s10 := Same.upd (o := .lst (t.reverse.map sg)) hra
    have hra10 := upd_same (H := H9) (a := ra) (o := .lst (t.reverse.map sg))
    generalize L2.upd H9 ra (.lst (t.reverse.map sg)) = H10 at s10 hra10 ⊢
    refine ⟨_, rfl, b, _, rfl, SqL.of (s10 _ _ hb9), fun rb hrb => ?_⟩
    rw [← List.map_reverse]
    have s11 := Same.upd (o := .lst (u.reverse.map sg)) hrb
    have hrb11 := upd_same (H := H10) (a := rb) (o := .lst (u.reverse.map sg))
    generalize L2.upd H10 rb (.lst (u.reverse.map sg)) = H11 at s11 hrb11 ⊢
    have hexR : ∃ l1, Ch (shiftsOf u.reverse) 0 (t.reverse.length - u.reverse.length) l1 := by
      obtain ⟨l1, c1, _⟩ := Ch.rev (t := t) Ll.1 (by omega)
      rw [Nat.sub_self, Nat.sub_zero] at c1
      exact ⟨l1, by rw [List.length_reverse, List.length_reverse]; exact c1⟩
    refine ⟨ra, rb, t.reverse, u.reverse, rfl, s11 _ _ hra10, hrb11, fun c hc => lt c (List.mem_reverse.mp hc), fun c hc => lu c (List.mem_reverse.mp hc), by rw [List.length_reverse]; exact u1, by rw [List.length_reverse, List.length_reverse]; exact ut, by rw [List.length_reverse]; exact tl, hexR, fun lR LR gR cR H12 hgR0 hcR0 hgR hcR s12 => ?_⟩
    have s912 := (s10.trans s11).trans s12
    have erv := least_rev ut Ll LR
    refine ⟨gR, _, _, _, rfl, rfl, SqT.of hgR, atI_nat (j := 0) rfl, _, rfl, rfl, false, congrArg V.bl (by rw [erv]; simp), iteF ?_⟩
    have hb12 := s912 _ _ hb9
    refine ⟨_, rfl, _, rfl, b, b, u, u, rfl, hb12, hb12, lu, lu, u1, Nat.le_refl _, by omega, ⟨[0], by rw [Nat.sub_self]; exact Ch.one _⟩, fun lO LO gO cO H13 _ _ hgO hcO s13 => ?_⟩
    have eO : lO = [0] := own_chain (by have := LO.1; rw [Nat.sub_self] at this; exact this)
    subst eO
    rw [own_zero] at hgO
    refine ⟨by show 1 ≤ sizeLine; decide, fun l8 hl8 => ⟨by show 2 ≤ sizeLine; decide, fun g8 hg8 => ?_⟩⟩
    have s14 := Same.upd (o := .lst [V.int 0]) hl8
    have hl14 := upd_same (H := H13) (a := l8) (o := .lst [V.int 0])
    generalize L2.upd H13 l8 (.lst [V.int 0]) = H14 at s14 hl14 hg8 ⊢
    have s15 := Same.upd (o := .tup [V.int 0, .ref l8]) hg8
    have hg15 := upd_same (H := H14) (a := g8) (o := .tup [V.int 0, .ref l8])
    generalize L2.upd H14 g8 (.tup [V.int 0, .ref l8]) = H15 at s15 hg15 ⊢
    have s1315 := s14.trans s15
    refine ⟨.tuple [.int 0, .list [.int 0]], .tuple [.int 0, .list [.int 0]], ?_, ?_, by decide, false, rfl, iteF ?_⟩
    · simp only [DatV, DatVs]
      exact ⟨gO, _, rfl, SqT.of (s1315 _ _ hgO), _, _, rfl, rfl, _, _, rfl, ⟨cO, _, rfl, SqL.of (s1315 _ _ hcO), _, _, rfl, rfl, rfl⟩, rfl⟩
    · simp only [DatV, DatVs]
      exact ⟨g8, _, rfl, SqT.of hg15, _, _, rfl, rfl, _, _, rfl, ⟨l8, _, rfl, SqL.of (s15 _ _ hl14), _, _, rfl, rfl, rfl⟩, rfl⟩
    have s915 := (s912.trans s13).trans s1315
    have k015 : Keep p H H15 := fun c o h n => s915 _ _ (s89 _ _ (k08 _ _ h n))
    have hp15 := (hp8.same s89).same s915
    have ha15 := k015 _ _ ha na
    have hb15 := k015 _ _ hb nb
    try unfold tNext
    try dsimp only
    refine ⟨_, rfl, _, rfl, a, _, rfl, SqL.of ha15, p, _, rfl, hp15, by rw [List.length_map]; omega, by rw [List.length_map]; omega, fun at_ H16 at0 at1 hp16 k16 => ?_⟩
    rw [List.length_map] at at1
    have k016 := k015.trans k16
    have ha16 := k016 _ _ ha na
    obtain ⟨i0, rfl⟩ : ∃ n : Nat, at_ = (n : Int) := ⟨at_.toNat, by omega⟩
    have hi0 : i0 < t.length := by omega
    refine ⟨_, rfl, _, rfl, _, rfl, a, _, rfl, SqL.of ha16, fun m1 hm1 => ?_⟩
    rw [cut_hi at0, Int.toNat_natCast]
    have s17 := Same.upd (o := .lst ((t.take i0).map sg)) hm1
    have hm17 := upd_same (H := H16) (a := m1) (o := .lst ((t.take i0).map sg))
    have hp17 := hp16.same s17
    generalize L2.upd H16 m1 (.lst ((t.take i0).map sg)) = H17 at s17 hm17 hp17 ⊢
    refine ⟨_, rfl, p, 3, rfl, hp17, by decide, by decide, fun x H18 x0 x1 hp18 k18 => ?_⟩
    obtain ⟨c', hc', c'1, c'2⟩ : ∃ c', atI (Str.ofString "abc").cps.toList x = some c' ∧ 97 ≤ c' ∧ c' ≤ 122 := by
      have h3 : x = 0 ∨ x = 1 ∨ x = 2 := by omega
      rcases h3 with h | h | h
      · rw [h]; exact ⟨97, by decide +kernel, by decide, by decide⟩
      · rw [h]; exact ⟨98, by decide +kernel, by decide, by decide⟩
      · rw [h]; exact ⟨99, by decide +kernel, by decide, by decide⟩
    refine ⟨_, x, c', rfl, rfl, by decide +kernel, hc', by show 1 ≤ sizeLine; decide, fun m2 hm2 => ?_⟩
    have hm18 := k18 _ _ hm17 (hand_ne hp17 hm17)
    have s19 := Same.upd (o := .lst [V.str ⟨#[c']⟩]) hm2
    have hm19 : (L2.upd H18 m2 (.lst [V.str ⟨#[c']⟩])) m2 = some (.lst ([c'].map sg)) := upd_same
    have hp19 := hp18.same s19
    refine cat_sg (t := t.take i0) (u := [c']) (s19 _ _ hm18) hm19 (by rw [List.length_take, List.length_singleton]; omega) fun m3 hm3 => ?_
    have s20 := s19.trans (Same.upd (o := .lst ((t.take i0 ++ [c']).map sg)) hm3)
    have hm20 := upd_same (H := L2.upd H18 m2 (.lst [V.str ⟨#[c']⟩])) (a := m3) (o := .lst ((t.take i0 ++ [c']).map sg))
    generalize L2.upd (L2.upd H18 m2 (.lst [V.str ⟨#[c']⟩])) m3 (.lst ((t.take i0 ++ [c']).map sg)) = H20 at s20 hm20 ⊢
    have k020 : Keep p H H20 := fun c o h n => s20 _ _ (k18 _ _ (s17 _ _ (k016 _ _ h n)) n)
    refine ⟨_, rfl, _, rfl, _, _, rfl, rfl, _, rfl, a, _, rfl, SqL.of (k020 _ _ ha na), fun m4 hm4 => ?_⟩
    rw [cut_lo (by omega), show ((i0 : Int) + 1).toNat = i0 + 1 by omega]
    have s21 := Same.upd (o := .lst ((t.drop (i0 + 1)).map sg)) hm4
    have hm21 := upd_same (H := H20) (a := m4) (o := .lst ((t.drop (i0 + 1)).map sg))
    generalize L2.upd H20 m4 (.lst ((t.drop (i0 + 1)).map sg)) = H21 at s21 hm21 ⊢
    refine cat_sg (t := t.take i0 ++ [c']) (u := t.drop (i0 + 1)) (s21 _ _ hm20) hm21 (by rw [List.length_append, List.length_take, List.length_singleton, List.length_drop]; omega) fun m5 hm5 => ?_
    have eT : t.take i0 ++ [c'] ++ t.drop (i0 + 1) = t.set i0 c' := by
      rw [List.set_eq_take_append_cons_drop, if_pos hi0, List.append_assoc]; rfl
    rw [eT]
    have s22 := s21.trans (Same.upd (o := .lst ((t.set i0 c').map sg)) hm5)
    have hm22 := upd_same (H := H21) (a := m5) (o := .lst ((t.set i0 c').map sg))
    generalize L2.upd H21 m5 (.lst ((t.set i0 c').map sg)) = H22 at s22 hm22 ⊢
    have s1822 := s20.trans s22
    have k022 : Keep p H H22 := fun c o h n => s22 _ _ (k020 _ _ h n)
    have hp22 := hp18.same s1822
    have lT : (t.set i0 c').length = t.length := List.length_set
    have lowT : Low (t.set i0 c') := lt.set _ _ ⟨c'1, c'2⟩
    refine ⟨_, rfl, _, _, rfl, rfl, _, rfl, _, rfl, m5, b, t.set i0 c', u, rfl, hm22, k022 _ _ hb nb, lowT, lu, u1, by rw [lT]; exact ut, by rw [lT]; exact tl, ⟨l, by rw [lT]; exact Ll.1⟩, fun lM LM gM cM H23 hgM0 hcM0 hgM hcM s23 => ?_⟩
    have d1 := least_dif lT ut Ll LM
    have d2 := least_dif lT.symm (by rw [lT]; exact ut) LM Ll
    have d3 := (mis_set (t := t) (i := i0) (c := c') t.length).1
    rw [lT, mis_sym] at d2
    refine ⟨gM, _, _, _, rfl, rfl, SqT.of hgM, atI_nat (j := 0) rfl, _, _, rfl, rfl, true, congrArg V.bl (decide_eq_true (by omega)), iteT ⟨_, rfl, _, _, rfl, rfl, _, _, rfl, rfl, true, congrArg V.bl (decide_eq_true (by omega)), iteF ?_⟩⟩
    have k023 : Keep p H H23 := fun c o h n => s23 _ _ (k022 _ _ h n)
    have hp23 := hp22.same s23
    have ha23 := k023 _ _ ha na
    refine ⟨_, rfl, _, rfl, a, _, rfl, SqL.of ha23, a, t, (t.map sg).length, rfl, ha23, lt, by rw [List.length_map]; omega, by rw [List.length_map]; omega, tl, fun v H24 hv s24 => ?_⟩
    have eN : nr t (t.map sg).length (t.length + 1 - (t.map sg).length) = some (0, 0) := by
      rw [List.length_map, show t.length + 1 - t.length = 0 + 1 by omega]
      show stp none (wc t (pcs t t.length 0)) 0 = _
      have e1 : pcs t t.length 0 = t := by
        show (t.drop 0).take t.length = t
        rw [List.drop_zero, List.take_length]
      rw [e1, wc_least (own_least t), own_zero]
      rfl
    rw [eN] at hv
    obtain ⟨g9, rfl, hg9⟩ := hv
    refine ⟨by show 2 ≤ sizeLine; decide, fun h9 hh9 => ?_⟩
    have s25 := Same.upd (o := .tup [V.int 0, .int 0]) hh9
    have hh25 := upd_same (H := H24) (a := h9) (o := .tup [V.int 0, .int 0])
    generalize L2.upd H24 h9 (.tup [V.int 0, .int 0]) = H25 at s25 hh25 ⊢
    refine ⟨.tuple [.int 0, .int 0], .tuple [.int 0, .int 0], ?_, ?_, by decide, false, rfl, iteF ?_⟩
    · simp only [DatV, DatVs]
      exact ⟨g9, _, rfl, SqT.of (s25 _ _ hg9), _, _, rfl, rfl, _, _, rfl, rfl, rfl⟩
    · simp only [DatV, DatVs]
      exact ⟨h9, _, rfl, SqT.of hh25, _, _, rfl, rfl, _, _, rfl, rfl, rfl⟩
    have k025 : Keep p H H25 := fun c o h n => s25 _ _ (s24 _ _ (k023 _ _ h n))
    have hp25 := (hp23.same s24).same s25
    have ha25 := k025 _ _ ha na
    have hb25 := k025 _ _ hb nb
    try unfold tNext
    try dsimp only
    refine ⟨_, rfl, _, _, rfl, rfl, _, rfl, by omega, by omega, fun D9 hD9 cb9 => ?_⟩
    rw [show ((L : Int) + 1).toNat = t.length + 1 - u.length by omega]
    refine comp_range (lo := 0) (n := t.length + 1 - u.length) (fun i ys H2 => ys = vInts ((List.range i).filter fun p => decide ((t.drop p).take u.length = u)) ∧ Same H25 H2 ∧ H2 D9 = some (.lst ys)) (small1000 (by omega)) ?_ ?_ ?_ ?_
    · exact ⟨rfl, Same.upd hD9, upd_same⟩
    · rintro i ys H2 ⟨rfl, _⟩
      rw [vInts_len]; exact filter_len _
    · rintro i ys H2 hi ⟨rfl, s2, hD2⟩
      refine ⟨_, rfl, _, rfl, _, rfl, _, rfl, _, rfl, b, _, rfl, SqL.of (s2 _ _ hb25), _, _, rfl, rfl, _, rfl, a, _, rfl, SqL.of (s2 _ _ ha25), fun p1 hp1 => ?_⟩
      have s3 := s2.trans (Same.upd (o := .lst (cutV (t.map sg) (some (0 + (i : Int))) (some (0 + (i : Int) + ((u.map sg).length : Nat))))) hp1)
      have hD3 := (Same.upd (o := .lst (cutV (t.map sg) (some (0 + (i : Int))) (some (0 + (i : Int) + ((u.map sg).length : Nat))))) hp1) _ _ hD2
      have hp3 : (L2.upd H2 p1 (.lst (cutV (t.map sg) (some (0 + (i : Int))) (some (0 + (i : Int) + ((u.map sg).length : Nat)))))) p1 = some (.lst (((t.drop i).take u.length).map sg)) := by
        rw [upd_same, List.length_map, cutV_cutL, cutL_map, cutL_both _ _ _ (by omega) (by omega), show (0 + (i : Int)).toNat = i by omega, show (0 + (i : Int) + (u.length : Int)).toNat - i = u.length by omega]
      generalize L2.upd H2 p1 (.lst (cutV (t.map sg) (some (0 + (i : Int))) (some (0 + (i : Int) + ((u.map sg).length : Nat))))) = H3 at s3 hD3 hp3 ⊢
      refine ⟨_, rfl, p1, b, (t.drop i).take u.length, u, rfl, rfl, SqL.of hp3, SqL.of (s3 _ _ hb25), ((lt.drop _).take _).cp, lu.cp, _, rfl, ?_⟩
      refine ite2 (fun hc => ?_) (fun hc => ?_)
      · have hc' : (t.drop i).take u.length = u := by simpa using hc
        refine ⟨_, rfl, hD3, ?_, ?_, upd_same⟩
        · rw [lies_step, if_pos hc', vInts_snoc', Int.zero_add]
        · intro b o e
          rw [upd_ne (ne_of_none e hD9)]
          exact s3 b o e
      · have hc' : ¬ (t.drop i).take u.length = u := by simpa using hc
        refine ⟨?_, s3, hD3⟩
        rw [lies_step, if_neg hc', List.append_nil]
    rintro ys H26 ⟨rfl, s26, hD26⟩
    refine ⟨_, rfl, Nat.zero_le _, fun e9 he9 => ?_⟩
    have s27 := s26.trans (Same.upd (o := .lst []) he9)
    have hD27 := (Same.upd (o := .lst []) he9) _ _ hD26
    have he27 := upd_same (H := H26) (a := e9) (o := .lst [])
    generalize L2.upd H26 e9 (.lst []) = H27 at s27 hD27 he27 ⊢
    have k027 : Keep p H H27 := fun c o h n => s27 _ _ (k025 _ _ h n)
    have hp27 := hp25.same s27
    refine ⟨D9, e9, _, [], rfl, rfl, SqL.of hD27, SqL.of he27, _, rfl, ?_⟩
    cases hf : (List.range (t.length + 1 - u.length)).filter fun p => decide ((t.drop p).take u.length = u) with
    | nil => exact iteT (k H27 hp27 k027)
    | cons z zs =>
      refine iteF ⟨_, rfl, a, _, rfl, SqL.of (k027 _ _ ha na), _, _, rfl, rfl, _, rfl, ?_⟩
      by_cases h40 : (40 : Int) < (((t.map sg).length : Nat) : Int)
      · rw [decide_eq_true h40]; exact iteT (k H27 hp27 k027)
      · rw [decide_eq_false h40]
        refine iteF ⟨_, rfl, _, rfl, b, _, rfl, SqL.of (k027 _ _ hb nb), a, t, (u.map sg).length, rfl, k027 _ _ ha na, lt, by rw [List.length_map]; exact u1, by rw [List.length_map]; exact ut, tl, fun v H28 hv s28 => ?_⟩
        have hzm : z ∈ (List.range (t.length + 1 - u.length)).filter fun p => decide ((t.drop p).take u.length = u) := by rw [hf]; exact List.mem_cons_self
        obtain ⟨z1, z2⟩ := List.mem_filter.mp hzm
        have hu : u ∈ usOf t u.length (t.length + 1 - u.length) := mem_us.mpr ⟨z, List.mem_range.mp z1, of_decide_eq_true z2⟩
        obtain ⟨a9, ea9, hle9⟩ := nr_le (wc_least Ll) hu
        rw [List.length_map, ea9] at hv
        obtain ⟨g10, rfl, hg10⟩ := hv
        refine ⟨g10, _, _, _, rfl, rfl, SqT.of hg10, atI_nat (j := 0) rfl, _, rfl, _, _, rfl, rfl, ?_⟩
        show Q (V.bl (decide ((a9.1 : Int) ≤ ((cst t u l : Nat) : Int)))) H28
        rw [decide_eq_true (by omega)]
        exact k H28 (hp27.same s28) fun c o h n => s28 _ _ (k027 _ _ h n)
end

end Ov

namespace Ov
open PySem L2
abbrev sLaw : Stmt := top 44
def spLaw (K : PySem.W.Frag) : Sp := fun vs H Q _ => ∃ (a : Addr) (ns : List Int), vs = [.ref a] ∧ SqL K H a (ns.map V.int) ∧ ns.length ≤ 63 ∧ ∀ H', Q (.bl true) H'
theorem int_item {xs : List Int} {i : Nat} {x : V} (h : (xs.map V.int)[i]? = some x) : ∃ z : Int, x = .int z := by
  rw [List.getElem?_map] at h
  cases e : xs[i]? with
  | none => rw [e] at h; cases h
  | some z => rw [e] at h; exact ⟨z, (Option.some.inj h).symm⟩
/-- [0] + script[:n] -/
theorem zcat {K : PySem.W.Frag} {σ : St} {H : Hp} {a : Addr} {ns : List Int} {n : Int} {Q : VK} (hi : σ[0]? = some (some (.ref a))) (hS : SqL K H a (ns.map V.int)) (hn : 0 ≤ n) (hn2 : n ≤ 100)
    (k : ∀ (b : Addr) (xs : List Int) (H' : Hp), H' b = some (.lst (xs.map V.int)) → Q (.ref b) H') :
    tOp rCat (tLst (tCons (tC (.int 0)) tNil)) (tSl (rSlL K) (tVar 0) tNoPart (tPart (tC (.int n)))) σ H Q := by
  refine ⟨by show 1 ≤ sizeLine; decide, fun l0 hl0 => ?_⟩
  refine ⟨_, hi, n, rfl, a, _, rfl, (Same.upd hl0).seq hS, fun l1 hl1 => ?_⟩
  have e1 : cutV (ns.map V.int) none (some n) = (ns.take n.toNat).map V.int := by rw [cutV_cutL, cutL_map, cutL_hi _ _ hn]
  rw [e1] at *
  refine ⟨l0, l1, _, _, rfl, rfl, (Same.upd hl1) _ _ upd_same, upd_same, by simp only [List.length_cons, List.length_nil, List.length_map, List.length_take]; exact sz (by omega), fun b hb => ?_⟩
  refine k b (0 :: ns.take n.toNat) _ ?_
  rw [upd_same]
  rfl
theorem laid_spoilt {t t' u l' : List Nat} (hL : Laid t u) (e : t'.length = t.length) (h' : Least (shiftsOf u) t' u true 0 (t'.length - u.length) l') : cst t' u l' ≤ mis t' t 0 t.length := by
  obtain ⟨ut, l0, c0, p0⟩ := hL
  have z : cst t u l0 = 0 := (cst_zero (steps_of u) c0).mpr fun x hx => by
    have := (Ch.le_all c0 x hx).2
    refine (lies_mis (by omega)).mp ?_
    unfold liesIn
    rw [List.mem_filter, List.mem_range]
    exact ⟨by omega, decide_eq_true (p0 x hx)⟩
  obtain ⟨X, hX⟩ := cst_ham (steps_of u) c0
  rw [show t.length - u.length + u.length = t.length by omega] at hX
  have h1 := ky_le (h'.2 l0 (by rw [e]; exact c0))
  have h2 := mis_tri t' t X t.length
  have h3 := hX t
  have h4 := hX t'
  omega
section
variable {P : Program} {w : World} {K : PySem.W.Frag} {mg : Str → Option Value} {base : Heap}
theorem scLaw : FnScope ["script", "cell", "pot", "letters", "word", "text", "times", "other", "drawn"] ["script"] (defScope sLaw) := ⟨rfl, rfl, rfl, by decide +kernel, rfl, by decide +kernel, by decide +kernel⟩
theorem ok_law (M : Md K mg) (B : Bl mg) (F : FF K "law" sLaw) (F_law_pot : Fn P w K mg base CX0 "_law_pot" 1 ["cell"] spPot) (F_law_take : Fn P w K mg base CX0 "_law_take" 1 ["pot", "many"] spTake) (F_law_letters : Fn P w K mg base CX0 "_law_letters" 2 ["pot"] spLetters) (F_law_signs : Fn P w K mg base CX0 "_law_signs" 2 ["pot", "letters", "many"] spSigns) (F_law_word : Fn P w K mg base CX0 "_law_word" 3 ["pot", "letters", "most"] spWord)
    (F_law_laid : Fn P w K mg base CX0 "_law_laid" 2 ["pot", "word", "most"] spLaid) (F_law_spoilt : Fn P w K mg base CX0 "_law_spoilt" 2 ["pot", "text", "letters", "times"] spSpoilt) (F_law_right : Fn P w K mg base CX0 "_law_right" 8 ["pot", "text", "word", "most"] spRight) : Fn P w K mg base CX0 "law" 9 ["script"] (spLaw K) := by
  refine fn_ok M F scLaw (fun _ _ _ _ _ _ => us1 fun _ => rfl) (fun vs H Q E h => ?_) (fun f cdv A outer s H vs Q E hr h => ?_)
  · obtain ⟨a, ns, rfl, _⟩ := h; rfl
  · obtain ⟨a, ns, rfl, hS, hlen, k⟩ := h
    refine ⟨_, (pss_cons (ps_for PassesOwn.never rfl (pi_list (pe_op op_cat (pe_lst (pa_cons pe_int pa_nil)) (pe_slice sl_list (pv 0) po_none (po_some pe_int)))) (pg_name (i := 1) scLaw.nd rfl (by first | exact Or.inl rfl | exact Or.inr rfl))
      (pss_cons (ps_set (i := 2) scLaw.nd rfl (by first | exact Or.inl rfl | exact Or.inr rfl) (pe_fn F_law_pot hr pass0 (pa_cons (pv 1) pa_nil)))
      (pss_cons (ps_set (i := 3) scLaw.nd rfl (by first | exact Or.inl rfl | exact Or.inr rfl) (pe_fn F_law_letters hr pass0 (pa_cons (pv 2) pa_nil)))
      (pss_cons (ps_set (i := 4) scLaw.nd rfl (by first | exact Or.inl rfl | exact Or.inr rfl) (pe_fn F_law_word hr pass0 (pa_cons (pv 2) (pa_cons (pv 3) (pa_cons (pe_ix ix_list (pe_lst (pa_cons pe_int (pa_cons pe_int pa_nil))) (pe_fn F_law_take hr pass0 (pa_cons (pv 2) (pa_cons pe_int pa_nil))) (fun _ _ => rfl)) pa_nil)))))
      (pss_cons (ps_set (i := 5) scLaw.nd rfl (by first | exact Or.inl rfl | exact Or.inr rfl) (pe_fn F_law_laid hr pass0 (pa_cons (pv 2) (pa_cons (pv 4) (pa_cons (pe_ix ix_list (pe_lst (pa_cons pe_int (pa_cons pe_int (pa_cons pe_int (pa_cons pe_int pa_nil))))) (pe_fn F_law_take hr pass0 (pa_cons (pv 2) (pa_cons pe_int pa_nil))) (fun _ _ => rfl)) pa_nil)))))
      (pss_cons (ps_set (i := 6) scLaw.nd rfl (by first | exact Or.inl rfl | exact Or.inr rfl) (pe_fn F_law_take hr pass0 (pa_cons (pv 2) (pa_cons pe_int pa_nil))))
      (pss_cons (ps_set (i := 7) scLaw.nd rfl (by first | exact Or.inl rfl | exact Or.inr rfl) (pe_fn F_law_spoilt hr pass0 (pa_cons (pv 2) (pa_cons (pv 5) (pa_cons (pv 3) (pa_cons (pv 6) pa_nil))))))
      (pss_cons (ps_set (i := 8) scLaw.nd rfl (by first | exact Or.inl rfl | exact Or.inr rfl) (pe_fn F_law_signs hr pass0 (pa_cons (pv 2) (pa_cons (pv 3) (pa_cons (pe_lenL B.len (pv 5)) pa_nil)))))
      (pss_cons (ps_if (PW.pt (pw_or (pt_not (pt_val (pe_fn F_law_right hr pass0 (pa_cons (pv 2) (pa_cons (pv 5) (pa_cons (pv 4) (pa_cons pe_int pa_nil))))))) (pw_or1 (pt_not (pt_val (pe_fn F_law_right hr pass0 (pa_cons (pv 2) (pa_cons (pv 7) (pa_cons (pv 4) (pa_cons (pv 6) pa_nil)))))))))) (pss_one (ps_ret pe_bl)) pss_nil)
      (pss_one (ps_if (pt_not (pt_val (pe_fn F_law_right hr pass0 (pa_cons (pv 2) (pa_cons (pv 8) (pa_cons (pv 4) (pa_cons (pe_lenL B.len (pv 5)) pa_nil))))))) (pss_one (ps_ret pe_bl)) pss_nil)))))))))))
      (pss_one (ps_ret pe_bl))), ?_⟩
    refine seq_for (zcat (K := K) (n := 5) rfl hS (by decide) (by decide) fun b cs H1 hb1 => ⟨b, rfl, ⟨_, SqL.of hb1⟩, ?_⟩)
    refine for_listA (K := K) (a := b) (xs := cs.map V.int) (fun i σ H2 => H2 b = some (.lst (cs.map V.int)) ∧ ∃ v1 v2 v3 v4 v5 v6 v7 v8, σ = [some (.ref a), v1, v2, v3, v4, v5, v6, v7, v8]) ⟨hb1, _, _, _, _, _, _, _, _, rfl⟩ (fun i σ H2 _ h2 => SqL.of h2.1) ?_ ?_
    · rintro D1 i x σ H2 nx1 hx ⟨hb2, v1, v2, v3, v4, v5, v6, v7, v8, rfl⟩
      obtain ⟨c, rfl⟩ := int_item hx
      refine ⟨_, rfl, c, rfl, fun p H3 hp0 hp3 s3 => ?_⟩
      have hb3 := s3 _ _ hb2
      have nb : b ≠ p := ne_of_none hb2 hp0
      refine ⟨_, rfl, p, rfl, hp3, fun z lr H4 hlr0 hlr4 lz nz z1 z2 hp4 k4 => ?_⟩
      have hb4 := k4 _ _ hb3 nb
      have nlr := hand_ne hp4 hlr4
      refine ⟨_, rfl, _, rfl, by show 2 ≤ sizeLine; decide, fun l2 hl2 => ?_⟩
      have s6 := Same.upd (o := .lst [V.int 12, .int 80]) hl2
      have hl6 := upd_same (H := H4) (a := l2) (o := .lst [V.int 12, .int 80])
      have nl2 : l2 ≠ p := (hp4.ne hl2).symm
      generalize L2.upd H4 l2 (.lst [V.int 12, .int 80]) = H6 at s6 hl6 ⊢
      refine ⟨_, rfl, p, 2, rfl, hp4.same s6, by decide, by decide, fun r H7 r0 r1 hp7 k7 => ?_⟩
      obtain ⟨mm, hmm1, hmm2, hat2⟩ : ∃ mm : Int, 1 ≤ mm ∧ mm ≤ 80 ∧ atI [V.int 12, .int 80] r = some (.int mm) := by
        have : r = 0 ∨ r = 1 := by omega
        rcases this with h | h
        · subst h; exact ⟨12, by decide, by decide, rfl⟩
        · subst h; exact ⟨80, by decide, by decide, rfl⟩
      have k47 : Keep p H4 H7 := fun c o h n => k7 _ _ (s6 _ _ h) n
      refine ⟨l2, _, _, _, rfl, rfl, SqL.of (k7 _ _ hl6 nl2), hat2, p, lr, z, mm, rfl, hp7, k47 _ _ hlr4 nlr, lz, z1, by omega, by omega, by omega, fun u q H8 hq0 hq8 lu u1 ul hp8 k8 => ?_⟩
      have k48 := k47.trans k8
      have nq := hand_ne hp8 hq8
      refine ⟨_, rfl, _, rfl, by show 4 ≤ sizeLine; decide, fun l5 hl5 => ?_⟩
      have s8 := Same.upd (o := .lst [V.int 80, .int 80, .int 80, .int 200]) hl5
      have hl8 := upd_same (H := H8) (a := l5) (o := .lst [V.int 80, .int 80, .int 80, .int 200])
      have nl5 : l5 ≠ p := (hp8.ne hl5).symm
      generalize L2.upd H8 l5 (.lst [V.int 80, .int 80, .int 80, .int 200]) = H8' at s8 hl8 ⊢
      refine ⟨_, rfl, p, 4, rfl, hp8.same s8, by decide, by decide, fun r2 H9' r20 r21 hp9' k9' => ?_⟩
      obtain ⟨mo, hmo1, hmo2, hat5⟩ : ∃ mo : Int, 80 ≤ mo ∧ mo ≤ 200 ∧ atI [V.int 80, .int 80, .int 80, .int 200] r2 = some (.int mo) := by
        have : r2 = 0 ∨ r2 = 1 ∨ r2 = 2 ∨ r2 = 3 := by omega
        rcases this with h | h | h | h
        · subst h; exact ⟨80, by decide, by decide, rfl⟩
        · subst h; exact ⟨80, by decide, by decide, rfl⟩
        · subst h; exact ⟨80, by decide, by decide, rfl⟩
        · subst h; exact ⟨200, by decide, by decide, rfl⟩
      have k89' : Keep p H8 H9' := fun c o h n => k9' _ _ (s8 _ _ h) n
      refine ⟨l5, _, _, _, rfl, rfl, SqL.of (k9' _ _ hl8 nl5), hat5, p, q, u, mo, rfl, hp9', k89' _ _ hq8 nq, lu, u1, by omega, by omega, by omega, fun t y H9 hy0 hy9 lt La tl hp9 k9 => ?_⟩
      have ny := hand_ne hp9 hy9
      have tu := La.1
      have k49 := (k48.trans k89').trans k9
      have hq9 := k9 _ _ (k89' _ _ hq8 nq) nq
      have hlr9 := k49 _ _ hlr4 nlr
      have hb9 := k49 _ _ hb4 nb
      refine ⟨_, rfl, p, 8, rfl, hp9, by decide, by decide, fun times H10 t0 t1 hp10 k10 => ?_⟩
      refine ⟨_, rfl, _, rfl, _, rfl, _, rfl, p, y, lr, t, z, times, rfl, hp10, k10 _ _ hy9 ny, k10 _ _ hlr9 nlr, lt, by omega, by omega, lz, by omega, t0, by omega, fun t2 y2 H11 hy20 hy211 lt2 tl2 td2 hp11 k11 => ?_⟩
      have k911 := k10.trans k11
      have ny2 := hand_ne hp11 hy211
      refine ⟨_, rfl, _, rfl, _, rfl, y, _, rfl, SqL.of (k911 _ _ hy9 ny), p, lr, z, _, rfl, hp11, k911 _ _ hlr9 nlr, lz, z1, by omega, by rw [List.length_map]; omega, by rw [List.length_map]; omega, fun t3 y3 H12 hy30 hy312 lt3 tl3 hp12 k12 => ?_⟩
      rw [List.length_map, Int.toNat_natCast] at tl3
      have k912 := k911.trans k12
      have ny3 := hand_ne hp12 hy312
      have hexL : ∃ l, Ch (shiftsOf u) 0 (t.length - u.length) l := by
        obtain ⟨_, l0, c0, _⟩ := La
        exact ⟨l0, c0⟩
      refine ⟨_, rfl, _, rfl, _, rfl, p, y, q, t, u, 0, rfl, hp12, k912 _ _ hy9 ny, k912 _ _ hq9 nq, lt, lu, u1, tu, by omega, hexL, fun l Ll => by rw [laid_zero La Ll]; exact Int.le_refl _, fun H13 hp13 k13 => ⟨true, rfl, iteF ?_⟩⟩
      have k1113 := k12.trans k13
      have k913 := k912.trans k13
      refine ⟨_, rfl, _, rfl, _, rfl, _, rfl, p, y2, q, t2, u, times, rfl, hp13, k1113 _ _ hy211 ny2, k913 _ _ hq9 nq, lt2, lu, u1, by omega, by omega, by rw [tl2]; exact hexL, fun l2 Ll2 => ?_, fun H14 hp14 k14 => ⟨true, rfl, iteF ?_⟩⟩
      · have := laid_spoilt La tl2 Ll2
        omega
      have k914 := k913.trans k14
      have k1214 := k13.trans k14
      refine ⟨_, rfl, _, rfl, _, rfl, _, rfl, y, _, rfl, SqL.of (k914 _ _ hy9 ny), p, y3, q, t3, u, _, rfl, hp14, k1214 _ _ hy312 ny3, k914 _ _ hq9 nq, lt3, lu, u1, by omega, by omega, by rw [tl3]; exact hexL, fun l3 Ll3 => ?_, fun H15 hp15 k15 => ⟨true, rfl, iteF (nx1 _ _ ⟨(k914.trans k15) _ _ hb9 nb, _, _, _, _, _, _, _, _, rfl⟩)⟩⟩
      have := cst_le (by omega) Ll3.1
      rw [List.length_map]
      omega
    · rintro σ H2 ⟨hb2, v1, v2, v3, v4, v5, v6, v7, v8, rfl⟩
      exact k H2
end

end Ov

namespace Ov
open PySem L2
theorem all_mk {P : Program} {w : World} {K : PySem.W.Frag} {h : Heap} {mg : Str → Option Value} {fa : Addr} (X : K.In h) (G : h.Ns mainGlobals mg) (hfa : mg "law" = some (.ref fa))
    (f1 : FF K "_law_pot" sPot) (f2 : FF K "_law_take" sTake) (f3 : FF K "_law_letters" sLetters) (f4 : FF K "_law_signs" sSigns) (f5 : FF K "_law_word" sWord) (f6 : FF K "_law_shifts" sShiftsL) (f7 : FF K "_law_spoilt" sSpoilt) (f8 : FF K "is_sign" sIsSign) (f9 : FF K "check_signs" sCheck)
    (f10 : FF K "check_word" sCheckWord) (f11 : FF K "borders" sBorders) (f12 : FF K "periods" sPeriods) (f13 : FF K "lies_at" sLiesAt) (f14 : FF K "shifts" sShifts) (f15 : FF K "wrong_among_first" sWaf) (f16 : FF K "best_ways" sBest) (f17 : FF K "check_some" sCheckSome) (f18 : FF K "first_bare" sFirstBare)
    (f19 : FF K "_law_laid" sLaid) (f20 : FF K "check_fits" sFits) (f21 : FF K "fewest_wrong" sFewW) (f22 : FF K "is_chain" sIsChain) (f23 : FF K "laid_out" sLaidOut) (f24 : FF K "chain_cost" sCost) (f25 : FF K "is_laying" sIsLaying) (f26 : FF K "covered" sCovered) (f27 : FF K "piece_places" sPieces)
    (f28 : FF K "check_within" sCheckIn) (f29 : FF K "nearest_piece" sNear) (f30 : FF K "_law_drawn_chain" sDrawn) (f31 : FF K "_law_right" sRight) (f32 : FF K "law" sLaw)
    (na : PySem.W.nsIn K mainGlobals "all" = some none) (b : Md K mg → Bl mg) :
    ∃ fd : FuncData, (∀ (s : Shared) (v : Value), BindsTo s fd ⟨[v], []⟩ [("script", v)]) ∧ ∀ base : Heap, K.In base → base.Ns mainGlobals mg → FnOk P w K mg base CX0 9 fa fd ["script"] (spLaw K) := by
  have M := md_of X G
  have Bl := b M
  refine law_of M f32 hfa (fun _ _ _ _ _ _ s v => .of_eq rfl) fun base => ?_
  have nall : mg "all" = none := M.ns _ _ na
  have g1 := ok_pot (P := P) (w := w) (base := base) M Bl f1
  have g2 := ok_take (P := P) (w := w) (base := base) M f2
  have g3 := ok_letters M Bl f3 g2
  have g4 := ok_signs M Bl f4 g2
  have g5 := ok_word M Bl f5 g2 g4
  have g6 := ok_shiftsL (P := P) (w := w) (base := base) M Bl f6
  have g7 := ok_spoilt M Bl f7 g2
  have g8 := ok_is_sign (P := P) (w := w) (base := base) M Bl f8
  have g9 := ok_check M Bl f9 g8
  have g10 := ok_check_word M Bl f10 g9
  have g11 := ok_borders M Bl f11 g9
  have g12 := ok_periods M Bl f12 g11
  have g13 := ok_lies_at M Bl f13 g9 g10
  have g14 := ok_shifts M Bl f14 g10 g12
  have g15 := ok_waf (P := P) (w := w) (base := base) M Bl f15
  have g16 := ok_best M Bl f16 g14 g15
  have g17 := ok_check_some (P := P) (w := w) (base := base) M Bl f17
  have g18 := ok_first_bare (P := P) (w := w) (base := base) M Bl f18
  have g19 := ok_laid M Bl f19 g2 g6
  have g20 := ok_fits M Bl f20 g9 g10
  have g21 := ok_fewW M Bl f21 g20 g16
  have g22 := ok_is_chain M Bl nall f22 g14
  have g23 := ok_laid_out (P := P) (w := w) (base := base) M Bl f23
  have g24 := ok_cost M Bl f24 g20 g22 g23
  have g25 := ok_is_laying M Bl f25 g13 g17 g18
  have g26 := ok_covered M Bl f26 g13 g17 g18
  have g27 := ok_pieces (P := P) (w := w) (base := base) M Bl f27
  have g28 := ok_check_in (P := P) (w := w) (base := base) M Bl f28
  have g29 := ok_near M Bl f29 g9 g28 g27 g16
  have g30 := ok_drawn M Bl f30 g2
  have g31 := ok_right M Bl f31 g2 g30 g21 g14 g24 g25 g26 g29
  exact ok_law M Bl f32 g1 g2 g3 g4 g5 g19 g7 g31

end Ov

namespace Ov
open PySem L2
theorem walk {l : PySem.W.OpenLaw} {q : Program} {loose : List Str} {XP : (Str → Option Value) → Heap → Prop} {YP : World → Heap → Prop} {d : DefRec} {K : Params → PySem.W.Frag} (hn : l.most = some 63) (hdf : d.params.defaults = [])
    (hY : ∀ (w : World) (h : Heap), YP w h → (K w.params).In h)
    (F : ∀ (w : World) (mg : Str → Option Value) (fa : Addr) (h : Heap), (K w.params).In h → h.Ns mainGlobals mg → mg d.name = some (.ref fa) →
      ∃ fd : FuncData, (∀ (s : Shared) (u : Value), BindsTo s fd ⟨[u], []⟩ [("script", u)]) ∧ ∀ base : Heap, (K w.params).In base → base.Ns mainGlobals mg → FnOk l.prog w (K w.params) mg base CX0 9 fa fd ["script"] (spLaw (K w.params))) :
    PySem.W.WalkO q loose XP YP l.row.toRowW d [] (fun f vs => PySem.call f vs) :=
  L2.walk_of (n := 63) (k := 9) (x := "script") (CX := fun _ => CX0) (sp := fun w => spLaw (K w.params)) hn (by decide) hdf ⟨rfl, by decide, by decide⟩ hY F (fun _ _ a ns hl _ hS => ⟨a, ns, rfl, hS, hl, fun _ => rfl⟩) fun _ _ _ _ _ z => z

end Ov

theorem PySem.W.Fast.tw11016946839264389684 : True := trivial
theorem PySem.W.Fast.tw45966608475582855 : True := trivial
theorem PySem.W.Fast.tw11896898264661540131 : True := trivial

open PySem PySem.W PyProof.Rows
set_option maxRecDepth 100000 in
set_option maxHeartbeats 0 in
theorem PySem.Challenge.cw_overlaid_k34_whole_wrong_signs_holds : PySem.Challenge.rw_overlaid_k34_whole_wrong_signs.Holds := by
  w_on; o_law; k_head; (case hw => w_witness2)
  k_fill
  refine Ov.walk (l := PySem.Challenge.rw_overlaid_k34_whole_wrong_signs) rfl rfl (fun w h Y => PySem.W.kIn_of Y) ?F
  case F =>
    intro w mg fa h KX G hmg
    refine' Ov.all_mk KX G hmg ?f1 ?f2 ?f3 ?f4 ?f5 ?f6 ?f7 ?f8 ?f9 ?f10 ?f11 ?f12 ?f13 ?f14 ?f15 ?f16 ?f17 ?f18 ?f19 ?f20 ?f21 ?f22 ?f23 ?f24 ?f25 ?f26 ?f27 ?f28 ?f29 ?f30 ?f31 ?f32 ?Nall ?B
    (case f1 => (refine' L2.ff_mk ?a ?l ?c ?k; (case a => k_is); (case l => k_is); (case c => k_is); (case k => k_is)))
    (case f2 => (refine' L2.ff_mk ?a ?l ?c ?k; (case a => k_is); (case l => k_is); (case c => k_is); (case k => k_is)))
    (case f3 => (refine' L2.ff_mk ?a ?l ?c ?k; (case a => k_is); (case l => k_is); (case c => k_is); (case k => k_is)))
    (case f4 => (refine' L2.ff_mk ?a ?l ?c ?k; (case a => k_is); (case l => k_is); (case c => k_is); (case k => k_is)))
    (case f5 => (refine' L2.ff_mk ?a ?l ?c ?k; (case a => k_is); (case l => k_is); (case c => k_is); (case k => k_is)))
    (case f6 => (refine' L2.ff_mk ?a ?l ?c ?k; (case a => k_is); (case l => k_is); (case c => k_is); (case k => k_is)))
    (case f7 => (refine' L2.ff_mk ?a ?l ?c ?k; (case a => k_is); (case l => k_is); (case c => k_is); (case k => k_is)))
    (case f8 => (refine' L2.ff_mk ?a ?l ?c ?k; (case a => k_is); (case l => k_is); (case c => k_is); (case k => k_is)))
    (case f9 => (refine' L2.ff_mk ?a ?l ?c ?k; (case a => k_is); (case l => k_is); (case c => k_is); (case k => k_is)))
    (case f10 => (refine' L2.ff_mk ?a ?l ?c ?k; (case a => k_is); (case l => k_is); (case c => k_is); (case k => k_is)))
    (case f11 => (refine' L2.ff_mk ?a ?l ?c ?k; (case a => k_is); (case l => k_is); (case c => k_is); (case k => k_is)))
    (case f12 => (refine' L2.ff_mk ?a ?l ?c ?k; (case a => k_is); (case l => k_is); (case c => k_is); (case k => k_is)))
    (case f13 => (refine' L2.ff_mk ?a ?l ?c ?k; (case a => k_is); (case l => k_is); (case c => k_is); (case k => k_is)))
    (case f14 => (refine' L2.ff_mk ?a ?l ?c ?k; (case a => k_is); (case l => k_is); (case c => k_is); (case k => k_is)))
    (case f15 => (refine' L2.ff_mk ?a ?l ?c ?k; (case a => k_is); (case l => k_is); (case c => k_is); (case k => k_is)))
    (case f16 => (refine' L2.ff_mk ?a ?l ?c ?k; (case a => k_is); (case l => k_is); (case c => k_is); (case k => k_is)))
    (case f17 => (refine' L2.ff_mk ?a ?l ?c ?k; (case a => k_is); (case l => k_is); (case c => k_is); (case k => k_is)))
    (case f18 => (refine' L2.ff_mk ?a ?l ?c ?k; (case a => k_is); (case l => k_is); (case c => k_is); (case k => k_is)))
    (case f19 => (refine' L2.ff_mk ?a ?l ?c ?k; (case a => k_is); (case l => k_is); (case c => k_is); (case k => k_is)))
    (case f20 => (refine' L2.ff_mk ?a ?l ?c ?k; (case a => k_is); (case l => k_is); (case c => k_is); (case k => k_is)))
    (case f21 => (refine' L2.ff_mk ?a ?l ?c ?k; (case a => k_is); (case l => k_is); (case c => k_is); (case k => k_is)))
    (case f22 => (refine' L2.ff_mk ?a ?l ?c ?k; (case a => k_is); (case l => k_is); (case c => k_is); (case k => k_is)))
    (case f23 => (refine' L2.ff_mk ?a ?l ?c ?k; (case a => k_is); (case l => k_is); (case c => k_is); (case k => k_is)))
    (case f24 => (refine' L2.ff_mk ?a ?l ?c ?k; (case a => k_is); (case l => k_is); (case c => k_is); (case k => k_is)))
    (case f25 => (refine' L2.ff_mk ?a ?l ?c ?k; (case a => k_is); (case l => k_is); (case c => k_is); (case k => k_is)))
    (case f26 => (refine' L2.ff_mk ?a ?l ?c ?k; (case a => k_is); (case l => k_is); (case c => k_is); (case k => k_is)))
    (case f27 => (refine' L2.ff_mk ?a ?l ?c ?k; (case a => k_is); (case l => k_is); (case c => k_is); (case k => k_is)))
    (case f28 => (refine' L2.ff_mk ?a ?l ?c ?k; (case a => k_is); (case l => k_is); (case c => k_is); (case k => k_is)))
    (case f29 => (refine' L2.ff_mk ?a ?l ?c ?k; (case a => k_is); (case l => k_is); (case c => k_is); (case k => k_is)))
    (case f30 => (refine' L2.ff_mk ?a ?l ?c ?k; (case a => k_is); (case l => k_is); (case c => k_is); (case k => k_is)))
    (case f31 => (refine' L2.ff_mk ?a ?l ?c ?k; (case a => k_is); (case l => k_is); (case c => k_is); (case k => k_is)))
    (case f32 => (refine' L2.ff_mk ?a ?l ?c ?k; (case a => k_is); (case l => k_is); (case c => k_is); (case k => k_is)))
    (case Nall => k_is)
    (case B => (intro M; refine' L2.bl_of M ?b1 ?b2 ?b3 ?b4 ?b5 ?b6 ?b7 ?b8 ?b9 ?b10 ?b11 ?b12 ?b13 ?b14 ?b15; (case b1 => k_is); (case b2 => k_is); (case b3 => k_is); (case b4 => k_is); (case b5 => k_is); (case b6 => k_is); (case b7 => k_is); (case b8 => k_is); (case b9 => k_is); (case b10 => k_is); (case b11 => k_is); (case b12 => k_is); (case b13 => k_is); (case b14 => k_is); (case b15 => k_is)))
