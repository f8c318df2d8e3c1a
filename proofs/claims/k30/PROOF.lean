import PyProof.Rows.All
import Wide.All
import OpenK.AllK
import Wide.FinOn
import Lean
import PyProof.EqAt
import PyProof.EqKinds
import PyProof.TupleCall
import PySem.Challenge.RW_overlaid_k30_costs_of_chains
set_option Elab.async false
set_option linter.all false
set_option maxRecDepth 100000
/-! THE HAND LAYER, for ints, bools, texts, own classes, LISTS and tuples (index, slices, in, append, pop ..), calls, loops. Paste it whole ahead of your own text; what your proof does not reach may be deleted. -/
namespace L2
open PySem PySem.Spec PyProof.Rows

/-- a key: an int or a str -/
abbrev Key := Sum Int Str
def keyIs : Key → Value → Bool
  | .inl k, v => Value.isInt k v
  | .inr x, v => Value.isStrOf x v
def keyH (w : World) : Key → Int
  | .inl k => hashInt k
  | .inr x => hashStr w x
theorem keyIs_shape : ∀ {k : Key} {v : Value}, keyIs k v = true → (∃ i t, k = Sum.inl i ∧ v = Value.int i t) ∨ (∃ x t, k = Sum.inr x ∧ v = Value.str x t)
  | .inl i, v, h => by
    obtain ⟨t, e⟩ := Value.isInt_shape (k := i) (v := v) h
    exact .inl ⟨i, t, rfl, e⟩
  | .inr x, v, h => by
    obtain ⟨t, e⟩ := Value.isStrOf_shape (x := x) (v := v) h
    exact .inr ⟨x, t, rfl, e⟩
theorem keyIs_int (i : Int) (t : Tok) : keyIs (.inl i) (.int i t) = true := by simp [keyIs, Value.isInt]
theorem keyIs_str (x : Str) (t : Tok) : keyIs (.inr x) (.str x t) = true := by simp [keyIs, Value.isStrOf]
theorem key_ll (a b : Int) : decide ((Sum.inl a : Key) = Sum.inl b) = (a == b) := by
  by_cases e : a = b
  · subst e; simp
  · have h : ¬ (Sum.inl a : Key) = Sum.inl b := fun q => e (Sum.inl.inj q)
    rw [decide_eq_false h]
    exact (beq_eq_false_iff_ne.mpr e).symm
theorem key_rr (a b : Str) : decide ((Sum.inr a : Key) = Sum.inr b) = decide (a = b) := by
  by_cases e : a = b
  · subst e; simp
  · have h : ¬ (Sum.inr a : Key) = Sum.inr b := fun q => e (Sum.inr.inj q)
    rw [decide_eq_false h, decide_eq_false e]
theorem key_lr (a : Int) (b : Str) : decide ((Sum.inl a : Key) = Sum.inr b) = false := decide_eq_false (fun q => nomatch q)
theorem key_rl (a : Str) (b : Int) : decide ((Sum.inr a : Key) = Sum.inl b) = false := decide_eq_false (fun q => nomatch q)

def mixKind (prog : Program) (w : World) : PySem.KeyKind prog w Key where
  is := keyIs
  hash := keyH w
  inj := fun v a b ha hb => by
    rcases keyIs_shape ha with ⟨i, t, rfl, rfl⟩ | ⟨x, t, rfl, rfl⟩
    · rcases keyIs_shape hb with ⟨j, u, rfl, e⟩ | ⟨y, u, rfl, e⟩
      · injection e with e1 _; rw [e1]
      · exact nomatch e
    · rcases keyIs_shape hb with ⟨j, u, rfl, e⟩ | ⟨y, u, rfl, e⟩
      · exact nomatch e
      · injection e with e1 _; rw [e1]
  byValue := fun k v h => by
    rcases keyIs_shape h with ⟨i, t, rfl, rfl⟩ | ⟨x, t, rfl, rfl⟩ <;> rfl
  pyHash := fun hv h => by
    rcases keyIs_shape hv with ⟨i, t, rfl, rfl⟩ | ⟨x, t, rfl, rfl⟩
    · exact wpAny_pyHash_int h
    · exact wpAny_pyHash_str h
  eqBool := fun hu hv h => by
    rcases keyIs_shape hu with ⟨i, t, rfl, rfl⟩ | ⟨x, t, rfl, rfl⟩
    · rcases keyIs_shape hv with ⟨j, u, rfl, rfl⟩ | ⟨y, u, rfl, rfl⟩
      · rw [key_ll] at h; exact wpAny_eqBool_int h
      · rw [key_lr] at h; exact SeqAt.EqAt.int_str i t y u _ _ _ _ h
    · rcases keyIs_shape hv with ⟨j, u, rfl, rfl⟩ | ⟨y, u, rfl, rfl⟩
      · rw [key_rl] at h; exact SeqAt.EqAt.str_int x t j u _ _ _ _ h
      · rw [key_rr] at h; exact wpAny_eqBool_str h
  «strs» := fun k x t v h => by
    rcases keyIs_shape h with ⟨i, u, rfl, e⟩ | ⟨y, u, rfl, e⟩
    · exact nomatch e
    · injection e with e1 _
      subst e1
      cases v <;> rfl

theorem mixKind_int (prog : Program) (w : World) (i : Int) (t : Tok) : (mixKind prog w).is (.inl i) (.int i t) = true := keyIs_int i t
theorem mixKind_str (prog : Program) (w : World) (x : Str) (t : Tok) : (mixKind prog w).is (.inr x) (.str x t) = true := keyIs_str x t
end L2

namespace L2
open PySem PySem.Spec PyProof.Rows

/-- a value, without the heap -/
inductive V where
  | non | bl (b : Bool) | int (i : Int) | str (x : Str) | byt (b : Array UInt8) | flt (b : UInt64) | ref (a : Addr) | ty (n : String)
  deriving DecidableEq

def RelV : V → Value → Prop
  | .non, u => u = Value.none
  | .bl b, u => u = Value.bool b
  | .int i, u => ∃ t, u = Value.int i t
  | .str x, u => ∃ t, u = Value.str x t
  | .byt b, u => ∃ t, u = Value.bytes b t
  | .flt b, u => ∃ t, u = Value.float b t
  | .ref a, u => u = Value.ref a
  | .ty n, u => u = Value.type n

abbrev Vals : List V → List Value → Prop := Paired RelV
theorem Vals.length {xs : List V} {us : List Value} (r : Vals xs us) : xs.length = us.length := Paired.length r
theorem Vals.get : ∀ {xs : List V} {us : List Value} {i : Nat} {x : V}, Vals xs us → xs[i]? = some x → ∃ u, us[i]? = some u ∧ RelV x u
  | _, _, _, _, .nil, e => by simp at e
  | _, _, 0, _, .cons r _, e => by simp at e; subst e; exact ⟨_, rfl, r⟩
  | _, _, i + 1, x, .cons _ t, e => by
    obtain ⟨u, h1, h2⟩ := Vals.get (i := i) (x := x) t (by simpa using e)
    exact ⟨u, by simpa using h1, h2⟩
theorem Vals.set {x : V} {u : Value} (r : RelV x u) : ∀ {xs : List V} {us : List Value} (i : Nat), Vals xs us → Vals (xs.set i x) (us.set i u)
  | _, _, _, .nil => .nil
  | _, _, 0, .cons _ t => .cons r t
  | _, _, i + 1, .cons q t => .cons q (Vals.set r i t)
theorem Vals.append : ∀ {xs ys : List V} {us ws : List Value}, Vals xs us → Vals ys ws → Vals (xs ++ ys) (us ++ ws)
  | _, _, _, _, .nil, s => s
  | _, _, _, _, .cons r t, s => .cons r (Vals.append t s)
theorem Vals.take : ∀ {xs : List V} {us : List Value} (n : Nat), Vals xs us → Vals (xs.take n) (us.take n)
  | _, _, 0, _ => .nil
  | _, _, _ + 1, .nil => .nil
  | _, _, n + 1, .cons r t => .cons r (Vals.take n t)
theorem Vals.drop : ∀ {xs : List V} {us : List Value} (n : Nat), Vals xs us → Vals (xs.drop n) (us.drop n)
  | _, _, 0, r => r
  | _, _, _ + 1, .nil => .nil
  | _, _, n + 1, .cons _ t => Vals.drop n t

def RelO : Option V → Option Value → Prop
  | some v, some u => RelV v u
  | none, none => True
  | _, _ => False
def KV {κ : Type} : List (κ × V) → List (κ × Value) → Prop := Paired fun (p : κ × V) (q : κ × Value) => p.1 = q.1 ∧ RelV p.2 q.2

/-- a key of a dict (00_mix): an int or a text -/
def kV : Key → V
  | .inl i => .int i
  | .inr x => .str x

/-- what stands at a tracked address -/
inductive HO where
  /-- a list -/
  | lst (xs : List V)
  /-- a tuple (never changes) -/
  | tup (xs : List V)
  /-- a dict whose keys are ints and texts; one whose keys are tuples of ints and texts (the empty one is both) -/
  | dK (kvs : List (Key × V)) | dT (kvs : List (List Key × V))
  /-- a set of ints: its members, its size -/
  | set (S : Int → Bool) (n : Nat)
  /-- an instance of the class at C, its dict at dx, its attributes -/
  | ins (C dx : Addr) (fs : List (Str × V))
  /-- the dict of the instance at x -/
  | own (x : Addr)
  /-- the dict of an exception -/
  | xd (fs : List (Str × V))
  /-- a bound method, f of x -/
  | met (f x : Addr)
  /-- a range object lo, lo + 1, .. below hi -/
  | rng (lo hi : Int)
  /-- a thing that is known to the object (the script; a dict while a loop walks it): read, never written while it is so -/
  | frz (o : Obj) (u : HO)
  /-- a code object's table -/
  | tbl (ps : Array Value)
  /-- any other thing, by what is true of its one object (a def of one's own: SetO a S n := HO.ext fun h => ..) -/
  | ext (φ : Heap → Prop)

abbrev Hp := Addr → Option HO
def upd (H : Hp) (a : Addr) (o : HO) : Hp := fun b => if b = a then some o else H b
theorem upd_same {H : Hp} {a : Addr} {o : HO} : upd H a o a = some o := by unfold upd; rw [if_pos rfl]
theorem upd_ne {H : Hp} {a b : Addr} {o : HO} (h : b ≠ a) : upd H a o b = H b := by unfold upd; rw [if_neg h]
/-- two objects of different content stand apart -/
theorem ne_of {H : Hp} {a b : Addr} {o u : HO} (h : H a = some o) (h' : H b = some u) (d : o ≠ u) : a ≠ b := by
  intro e; subst e; rw [h] at h'; exact d (Option.some.inj h')
theorem ne_of_none {H : Hp} {a b : Addr} {o : HO} (h : H a = some o) (h' : H b = none) : a ≠ b := by
  intro e; subst e; rw [h] at h'; cases h'

section
variable (P : Program) (w : World)
def ObjOk (H : Hp) (h : Heap) (a : Addr) : HO → Prop
  | .lst xs => xs.length ≤ sizeLine ∧ ∃ (its : List Value) (n : Nat), Vals xs its ∧ h.get? a = some { cls := .type "list", data := .seq its.toArray n }
  | .tup xs => xs.length ≤ sizeLine ∧ ∃ its : List Value, Vals xs its ∧ IsTup h a its.toArray
  | .dK kvs => kvs.length ≤ sizeLine ∧ (a == sysModules) = false ∧ ∃ vs, KV kvs vs ∧ h.DictOf (mixKind P w) a vs
  | .dT kvs => kvs.length ≤ sizeLine ∧ (a == sysModules) = false ∧ ∃ xs : List (List Key × Addr × Value),
      Paired (fun (p : List Key × V) (q : List Key × Addr × Value) => p.1 = q.1 ∧ H q.2.1 = some (.tup (p.1.map kV)) ∧ RelV p.2 q.2.2) kvs xs ∧
      ∃ o es ep, h.get? a = some o ∧ o.ExactDict ∧ o.data = .dict es ep ∧ es.toList = xs.map (entryOfKey (tupleKind (mixKind P w))) ∧ (xs.map (·.1)).Nodup
  | .set S n => h.SetOf (intKind P w) a S n
  | .ins C dx fs => H dx = some (.own a) ∧ fs.length ≤ 1000 ∧ dx ≠ a ∧ h.get? a = some (PySem.W.instObj C dx) ∧
      ∃ mA, h.Ns1 dx mA ∧ (∀ f, RelO (fs.lookup f) (mA f)) ∧ PySem.Within mA (fs.map (·.1))
  | .own _ => ∃ o, h.get? a = some o
  | .xd fs => ∃ mA, h.Ns1 a mA ∧ ∀ f, RelO (fs.lookup f) (mA f)
  | .rng lo hi => ∃ t u v, h.get? a = some { cls := .type "range", data := .fields #[.int lo t, .int hi u, .int 1 v] }
  | .frz o u => h.get? a = some o ∧ ObjOk H h a u
  | .tbl ps => h.get? a = some { cls := .none, data := .fields ps }
  | .met f x => h.get? a = some (PySem.W.methodObj (.ref f) (.ref x))
  | .ext φ => φ h ∧ (∃ o, h.get? a = some o) ∧ ∀ h1 h2 : Heap, φ h1 → (∀ o, h1.get? a = some o → h2.get? a = some o) → φ h2
/-- the abstract heap is held -/
def HOk (H : Hp) (h : Heap) : Prop := ∀ a o, H a = some o → ObjOk P w H h a o
end

section
variable {P : Program} {w : World} {H H' : Hp} {h h' : Heap} {a : Addr} {o : HO}
theorem ObjOk.lt (x : ObjOk P w H h a o) : a < h.objs.size := by
  cases o with
  | lst xs => obtain ⟨_, _, _, _, e⟩ := x; exact Heap.lt_size e
  | tup xs => obtain ⟨_, _, _, p⟩ := x; exact p.lt
  | dK kvs => obtain ⟨_, _, _, _, o, _, _, e, _⟩ := x; exact Heap.lt_size e
  | dT kvs => obtain ⟨_, _, _, _, o, _, _, e, _⟩ := x; exact Heap.lt_size e
  | set S n => obtain ⟨o, _, _, _, e, _⟩ := x; exact Heap.lt_size e
  | ins C dx fs => obtain ⟨_, _, _, e, _⟩ := x; exact Heap.lt_size e
  | own y => obtain ⟨_, e⟩ := x; exact Heap.lt_size e
  | xd fs => obtain ⟨_, ⟨_, _, _, e, _⟩, _⟩ := x; exact Heap.lt_size e
  | rng lo hi => obtain ⟨_, _, _, e⟩ := x; exact Heap.lt_size e
  | frz ob u => obtain ⟨e, _⟩ := x; exact Heap.lt_size e
  | tbl ps => exact Heap.lt_size (show h.get? a = some _ from x)
  | met f y => exact Heap.lt_size (show h.get? a = some _ from x)
  | ext φ => obtain ⟨_, ⟨_, e⟩, _⟩ := x; exact Heap.lt_size e
theorem Paired.mapP {α β : Type} {F G : α → β → Prop} : ∀ {l₁ : List α} {l₂ : List β}, Paired F l₁ l₂ → (∀ a b, F a b → G a b) → Paired G l₁ l₂
  | _, _, .nil, _ => .nil
  | _, _, .cons r t, f => .cons (f _ _ r) (Paired.mapP t f)
/-- what an object's description leans on: its own object, its own dict, the tuples -/
theorem ObjOk.stay (x : ObjOk P w H h a o) (k : ∀ b u, (b = a ∨ H b = some (.own a)) → h.get? b = some u → h'.get? b = some u)
    (ho : ∀ b, H b = some (.own a) → H' b = some (.own a)) (ht : ∀ b xs, H b = some (.tup xs) → H' b = some (.tup xs)) : ObjOk P w H' h' a o := by
  induction o with
  | lst xs => obtain ⟨z, its, n, r, e⟩ := x; exact ⟨z, its, n, r, k _ _ (.inl rfl) e⟩
  | tup xs => obtain ⟨z, its, r, ob, e, c⟩ := x; exact ⟨z, its, r, ob, k _ _ (.inl rfl) e, c⟩
  | dK kvs => obtain ⟨z, y, vs, r, ob, es, ep, e, c⟩ := x; exact ⟨z, y, vs, r, ob, es, ep, k _ _ (.inl rfl) e, c⟩
  | dT kvs =>
    obtain ⟨z, y, xs, r, ob, es, ep, e, c⟩ := x
    exact ⟨z, y, xs, Paired.mapP r fun p q z => ⟨z.1, ht _ _ z.2.1, z.2.2⟩, ob, es, ep, k _ _ (.inl rfl) e, c⟩
  | set S n => obtain ⟨ob, es, ep, t, e, c⟩ := x; exact ⟨ob, es, ep, t, k _ _ (.inl rfl) e, c⟩
  | ins C dx fs =>
    obtain ⟨d, z, ne, e, mA, ⟨od, es, ep, e2, c⟩, r⟩ := x
    exact ⟨ho _ d, z, ne, k _ _ (.inl rfl) e, mA, ⟨od, es, ep, k _ _ (.inr d) e2, c⟩, r⟩
  | own y => obtain ⟨ob, e⟩ := x; exact ⟨ob, k _ _ (.inl rfl) e⟩
  | xd fs => obtain ⟨mA, ⟨od, es, ep, e, c⟩, r⟩ := x; exact ⟨mA, ⟨od, es, ep, k _ _ (.inl rfl) e, c⟩, r⟩
  | rng lo hi => obtain ⟨t, u, v, e⟩ := x; exact ⟨t, u, v, k _ _ (.inl rfl) e⟩
  | frz ob u ih => obtain ⟨e, q⟩ := x; exact ⟨k _ _ (.inl rfl) e, ih q⟩
  | tbl ps =>
    have e : h.get? a = some { cls := .none, data := .fields ps } := x
    show h'.get? a = some { cls := .none, data := .fields ps }
    exact k a _ (.inl rfl) e
  | met f y =>
    have e : h.get? a = some (PySem.W.methodObj (.ref f) (.ref y)) := x
    show h'.get? a = some (PySem.W.methodObj (.ref f) (.ref y))
    exact k a _ (.inl rfl) e
  | ext φ => obtain ⟨p, ⟨o, e⟩, st⟩ := x; exact ⟨st _ _ p fun o q => k _ _ (.inl rfl) q, ⟨o, k _ _ (.inl rfl) e⟩, st⟩
theorem HOk.lt (x : HOk P w H h) (e : H a = some o) : a < h.objs.size := (x a o e).lt
theorem HOk.fresh (x : HOk P w H h) (e : h.objs.size ≤ a) : H a = none := by
  cases q : H a with
  | none => rfl
  | some u => exact absurd (Nat.lt_of_lt_of_le (x.lt q) e) (Nat.lt_irrefl _)
/-- every object of the heap is kept -/
theorem HOk.kept (x : HOk P w H h) (k : ∀ b u, h.get? b = some u → h'.get? b = some u) : HOk P w H h' := fun a o e =>
  (x a o e).stay (fun b u _ q => k b u q) (fun _ q => q) fun _ _ q => q
/-- a new object is laid and tracked -/
theorem HOk.laid (x : HOk P w H h) (k : ∀ b u, h.get? b = some u → h'.get? b = some u) (hp : h.objs.size ≤ a) (new : ObjOk P w (upd H a o) h' a o) : HOk P w (upd H a o) h' := fun b u e => by
  have hn := x.fresh hp
  by_cases hb : b = a
  · subst hb; rw [upd_same] at e; cases e; exact new
  · rw [upd_ne hb] at e
    exact (x b u e).stay (fun c v _ q => k c v q) (fun c q => by rw [upd_ne (ne_of_none q hn)]; exact q) fun c xs q => by rw [upd_ne (ne_of_none q hn)]; exact q
end

/-- what may be read as u: it is u, or a known u -/
def Rd (H : Hp) (a : Addr) (u : HO) : Prop := H a = some u ∨ ∃ o, H a = some (.frz o u)
theorem Rd.of {H : Hp} {a : Addr} {u : HO} (h : H a = some u) : Rd H a u := .inl h
theorem Rd.ok {P : Program} {w : World} {H : Hp} {h : Heap} {a : Addr} {u : HO} (r : Rd H a u) (x : HOk P w H h) : ObjOk P w H h a u := by
  rcases r with r | ⟨o, r⟩
  · exact x a u r
  · obtain ⟨_, q⟩ := x a _ r
    exact q
/-- what may be written -/
def Mut : Option HO → Prop
  | some (.lst _) => True
  | some (.dK _) => True
  | some (.dT _) => True
  | some (.set _ _) => True
  | some (.ins _ _ _) => True
  | some (.ext _) => True
  | _ => False
section
variable {P : Program} {w : World} {H : Hp} {h h' : Heap} {x e : Addr} {o' : HO}
/-- the object at e is changed: x itself, or the dict of the instance x -/
theorem HOk.write (ok : HOk P w H h) (mu : Mut (H x)) (he : e = x ∨ H e = some (.own x)) (k : ∀ b u, b ≠ e → h.get? b = some u → h'.get? b = some u) (heo : ∃ u, h'.get? e = some u)
    (new : ObjOk P w (upd H x o') h' x o') : HOk P w (upd H x o') h' := fun b u q => by
  have nown : ∀ c y, H c = some (.own y) → c ≠ x := fun c y r z => by subst z; rw [r] at mu; exact mu
  have ntup : ∀ c xs, H c = some (.tup xs) → c ≠ x := fun c xs r z => by subst z; rw [r] at mu; exact mu
  by_cases hb : b = x
  · subst hb; rw [upd_same] at q; cases q; exact new
  · rw [upd_ne hb] at q
    by_cases hbe : b = e
    · have q' : H b = some (.own x) := by
        rcases he with z | z
        · exact absurd (hbe.trans z) hb
        · rw [hbe]; exact z
      rw [q] at q'; cases q'
      obtain ⟨v, hv⟩ := heo
      exact ⟨v, by rw [hbe]; exact hv⟩
    · refine (ok b u q).stay (fun c v hc r => k c v ?_ r) (fun c r => by rw [upd_ne (nown c b r)]; exact r) fun c xs r => by rw [upd_ne (ntup c xs r)]; exact r
      rcases hc with rfl | hc
      · exact hbe
      · rintro rfl
        rcases he with z | z
        · exact nown c b hc z
        · rw [hc] at z; cases z; exact hb rfl
end

/-! ### kept unless tracked; of the frames at fs (the callers') the slots may change (an exception that passes writes there); of the records at ex (iterators) nothing is said -/
structure Un (fs ex : List Addr) (H H' : Hp) (h h' : Heap) : Prop where
  keep : ∀ b o, h.get? b = some o → H b = none → b ∉ fs → b ∉ ex → h'.get? b = some o
  slot : ∀ b o, h.get? b = some o → H b = none → b ∈ fs → b ∉ ex → ∃ sl, h'.get? b = some { o with slots := sl }
  free : ∀ b o, h.get? b = some o → H b = none → b ∉ ex → H' b = none
  there : ∀ b o, h.get? b = some o → b ∉ ex → ∃ o', h'.get? b = some o'
  tups : ∀ b xs, H b = some (.tup xs) → H' b = some (.tup xs)
  frzs : ∀ b o u, H b = some (.frz o u) → H' b = some (.frz o u)
  tbls : ∀ b ps, H b = some (.tbl ps) → ∃ more, H' b = some (.tbl (ps ++ more))
section
variable {fs fs' ex ex' : List Addr} {H H1 H2 : Hp} {h h1 h2 h' : Heap} {a x e : Addr} {o : HO}
theorem Un.any (u : Un fs ex H H1 h h1) {b : Addr} {ob : Obj} (q : h.get? b = some ob) (n : H b = none) (hx : b ∉ ex) : ∃ sl, h1.get? b = some { ob with slots := sl } := by
  by_cases hb : b ∈ fs
  · exact u.slot b ob q n hb hx
  · exact ⟨ob.slots, u.keep b ob q n hb hx⟩
theorem Un.trans (a : Un fs ex H H1 h h1) (b : Un fs ex H1 H2 h1 h2) : Un fs ex H H2 h h2 where
  keep := fun c ob q n hc hx => b.keep c ob (a.keep c ob q n hc hx) (a.free c ob q n hx) hc hx
  slot := fun c ob q n hc hx => by
    obtain ⟨sl, e1⟩ := a.slot c ob q n hc hx
    obtain ⟨sl', e2⟩ := b.slot c _ e1 (a.free c ob q n hx) hc hx
    exact ⟨sl', e2⟩
  free := fun c ob q n hx => by
    obtain ⟨o', e1⟩ := a.there c ob q hx
    exact b.free c o' e1 (a.free c ob q n hx) hx
  there := fun c ob q hx => by
    obtain ⟨o', e1⟩ := a.there c ob q hx
    exact b.there c o' e1 hx
  tups := fun c xs q => b.tups c xs (a.tups c xs q)
  frzs := fun c ob xs q => b.frzs c ob xs (a.frzs c ob xs q)
  tbls := fun c ps q => by
    obtain ⟨m1, e1⟩ := a.tbls c ps q
    obtain ⟨m2, e2⟩ := b.tbls c _ e1
    exact ⟨m1 ++ m2, by rw [e2, Array.append_assoc]⟩
theorem Un.kept (k : ∀ b u, h.get? b = some u → h'.get? b = some u) : Un fs ex H H h h' :=
  ⟨fun b ob q _ _ _ => k b ob q, fun b ob q _ _ _ => ⟨ob.slots, k b ob q⟩, fun _ _ _ n _ => n, fun b ob q _ => ⟨ob, k b ob q⟩, fun _ _ q => q, fun _ _ _ q => q, fun _ ps q => ⟨#[], by rw [q]; simp⟩⟩
theorem Un.refl : Un fs ex H H h h := Un.kept fun _ _ q => q
theorem Un.laid (k : ∀ b u, h.get? b = some u → h'.get? b = some u) (hp : h.objs.size ≤ a) (hn : H a = none) : Un fs ex H (upd H a o) h h' where
  keep := fun b u q _ _ _ => k b u q
  slot := fun b u q _ _ _ => ⟨u.slots, k b u q⟩
  free := fun b u q n _ => by rw [upd_ne (Nat.ne_of_lt (Nat.lt_of_lt_of_le (Heap.lt_size q) hp))]; exact n
  there := fun b u q _ => ⟨u, k b u q⟩
  tups := fun b xs q => by rw [upd_ne (ne_of_none q hn)]; exact q
  frzs := fun b u xs q => by rw [upd_ne (ne_of_none q hn)]; exact q
  tbls := fun b ps q => ⟨#[], by rw [upd_ne (ne_of_none q hn), q]; simp⟩
theorem Un.write (mu : Mut (H x)) (he : e = x ∨ H e = some (.own x)) (k : ∀ b u, b ≠ e → h.get? b = some u → h'.get? b = some u) (heo : ∃ u, h'.get? e = some u) : Un fs ex H (upd H x o) h h' := by
  have hx : ∀ b, H b = none → b ≠ x := fun b n z => by subst z; rw [n] at mu; exact mu
  have hb : ∀ b, H b = none → b ≠ e := fun b n z => by
    subst z
    rcases he with r | r
    · exact hx b n r
    · rw [n] at r; cases r
  have hm : ∀ b u, H b = some u → ¬ Mut (some u) → b ≠ x := fun b u q nm z => by subst z; rw [q] at mu; exact nm mu
  refine ⟨fun b u q n _ _ => k b u (hb b n) q, fun b u q n _ _ => ⟨u.slots, k b u (hb b n) q⟩, fun b u q n _ => by rw [upd_ne (hx b n)]; exact n, fun b u q _ => ?_,
    fun b xs q => by rw [upd_ne (hm b _ q fun z => z)]; exact q, fun b u xs q => by rw [upd_ne (hm b _ q fun z => z)]; exact q, fun b ps q => ⟨#[], by rw [upd_ne (hm b _ q fun z => z), q]; simp⟩⟩
  by_cases hbe : b = e
  · subst hbe; exact heo
  · exact ⟨u, k b u hbe q⟩
theorem Un.mono (u : Un fs ex H H1 h h1) (hs : ∀ b ∈ fs, b ∈ fs') (hx : ∀ b ∈ ex, b ∈ ex') : Un fs' ex' H H1 h h1 :=
  ⟨fun b ob q n hb he => u.keep b ob q n (fun z => hb (hs b z)) fun z => he (hx b z), fun _ _ q n _ he => u.any q n fun z => he (hx _ z), fun b ob q n he => u.free b ob q n fun z => he (hx b z), fun b ob q he => u.there b ob q fun z => he (hx b z), u.tups, u.frzs, u.tbls⟩
end

/-! ### the heap without what is tracked -/
def trk (h : Heap) (H : Hp) : List Addr := (List.range h.objs.size).filter fun a => (H a).isSome
def hidT (h : Heap) (H : Hp) : Heap := PySem.W.hideAll h (trk h H)
theorem hidT_size (h : Heap) (H : Hp) : (hidT h H).objs.size = h.objs.size := PySem.W.hideAll_size _ _
theorem hidT_get {h : Heap} {H : Hp} {b : Addr} {o : Obj} (e : h.get? b = some o) (n : H b = none) : (hidT h H).get? b = some o :=
  PySem.W.hideAll_get _ e fun hm => by
    have q : (H b).isSome = true := (List.mem_filter.mp hm).2
    rw [n] at q; simp at q
theorem of_hidT {h : Heap} {H : Hp} {b : Addr} {o : Obj} (e : (hidT h H).get? b = some o) : h.get? b = some o ∧ H b = none := by
  have e' : h.get? b = some o := PySem.W.of_hideAll (trk h H) e
  refine ⟨e', ?_⟩
  cases q : H b with
  | none => rfl
  | some x =>
    have hm : b ∈ trk h H := List.mem_filter.mpr ⟨List.mem_range.mpr (Heap.lt_size e'), by simp [q]⟩
    have z : (hidT h H).get? b = none := PySem.W.hideAll_none (trk h H) hm
    rw [z] at e; cases e

/-! ### OpenK's ledger, filled with every new object but one -/
def allNews (g h : Heap) (L : Addr) : List (Addr × Obj) := (List.range h.objs.size).filterMap fun a => if a = L ∨ (g.get? a).isSome = true then none else (h.get? a).map fun o => (a, o)
def rest (g h : Heap) (L d : Addr) : List (Addr × Obj) := (allNews g h L).filter fun p => decide (p.1 ≠ d)
end L2

namespace L2
open PySem PySem.Spec PyProof.Rows

/-- the module's facts, over the base: the heap at the law's entry without what is tracked there -/
structure Mod (K : PySem.W.Frag) (mg : Str → Option Value) (base : Heap) : Prop where
  kin : K.In base
  glob : base.Ns mainGlobals mg
  blt : ∃ mb, base.Ns builtinsNs mb ∧ ∀ x : Str, x ≠ "__name__" → mb x = bootBuiltins x
  nolimit : base.NoLimit

/-- the context: a def's body (or a comprehension's block) running. base: fixed through the whole law; s₀, H₀: the entry; outer: the frames whose slots others may change (a def's callers); stack: all frames that run;
   ex: iterators that were made ahead of the entry and are walked here (a comprehension's); fn: the names whose cells were made at the entry (a def: all; a comprehension's block: its own); calm: not within an except suite; pn: pins that every state bears; xe: what is wanted of an exception that leaves the code -/
structure Cx where
  prog : Program
  w : World
  K : PySem.W.Frag
  mg : Str → Option Value
  base : Heap
  A : Around
  N : List Str
  s₀ : Shared
  H₀ : Hp
  env : Env
  outer : List Env
  stack : List Env
  ex : List Addr
  fn : Str → Bool
  calm : Bool
  pn : List (Addr × Obj)
  xe : Value → Shared → Prop
/-- the callers' frames -/
def frs (l : List Env) : List Addr := l.filterMap (·.frame)
abbrev Cx.fs (X : Cx) : List Addr := frs X.outer

def Vis (sc : Scope) (x : Str) : Prop := sc.names.lookup x = some .local ∨ sc.names.lookup x = some .cell ∨ sc.names.lookup x = some .free
def Loc (sc : Scope) (x : Str) : Prop := sc.names.lookup x = some .local ∨ sc.names.lookup x = some .cell
def Look (env : Env) (h : Heap) (m : Str → Option Value) (x : Str) (u : Value) : Prop :=
  (env.kindOf x = some .local ∧ m x = some u) ∨ ((env.kindOf x = some .cell ∨ env.kindOf x = some .free) ∧ ∃ c, env.cells.lookup x = some c ∧ h.IsCell c (some u))

structure Cx.Ok (X : Cx) : Prop where
  mod : Mod X.K X.mg X.base
  kind : X.env.scope.kind = .function
  glob : X.env.globals = mainGlobals
  blt : X.env.builtins = builtinsNs
  above : X.s₀.heap.objs.size ≤ X.env.locals
  inj : ∀ x y c, X.env.cells.lookup x = some c → X.env.cells.lookup y = some c → x = y
  has : ∀ x, (X.env.kindOf x = some .cell ∨ X.env.kindOf x = some .free) → ∃ c, X.env.cells.lookup x = some c
  cab : ∀ x c, X.fn x = true → X.env.cells.lookup x = some c → X.s₀.heap.objs.size ≤ c
  hd : X.calm = true → X.A.handled = none
  frames : X.A.frames = some X.stack
  stk : X.stack = X.outer ∨ (X.stack = X.env :: X.outer ∧ X.env.frame = some X.env.locals)
  exf : ∀ b ∈ X.ex, b ≠ X.env.locals ∧ ∀ x c, X.env.cells.lookup x = some c → c ≠ b
  bs : ∀ b o, X.base.get? b = some o → X.s₀.heap.get? b = some o ∧ X.H₀ b = none
  bsz : X.base.objs.size ≤ X.s₀.heap.objs.size
  noex : ∀ b o, X.base.get? b = some o → b ∉ X.ex
  exfs : ∀ b ∈ X.ex, b ∉ X.fs
  funs : X.s₀.heap.FunFrames X.base X.outer
  frf : ∀ b ∈ X.fs, X.H₀ b = none

structure Inv (X : Cx) (pins : List (Addr × Obj)) (σ : List (Option V)) (H : Hp) (s : Shared) : Prop where
  ok : X.Ok
  os : s.os = X.s₀.os
  bare : AllBare s.gens
  base : Un X.fs X.ex X.H₀ H X.s₀.heap s.heap
  loc : ∃ m, s.heap.Ns X.env.locals m ∧ ∀ (i : Nat) (x : Str) (v : V), X.N[i]? = some x → σ[i]? = some (some v) → Vis X.env.scope x → ∃ u, RelV v u ∧ Look X.env s.heap m x u
  cell : ∀ x c, X.env.cells.lookup x = some c → ∃ v, s.heap.IsCell c v
  free : H X.env.locals = none
  freeC : ∀ x c, X.env.cells.lookup x = some c → H c = none
  pin : ∀ p ∈ X.pn ++ pins, s.heap.get? p.1 = some p.2 ∧ H p.1 = none ∧ p.1 ≠ X.env.locals ∧ p.1 ∉ X.fs ∧ ∀ v, p.2.data ≠ .cell v
  hok : HOk X.prog X.w H s.heap
  len : σ.length = X.N.length

section
variable {X : Cx} {pins : List (Addr × Obj)} {σ : List (Option V)} {H H' : Hp} {s : Shared} {h' : Heap}

theorem Cx.Ok.nofr (ok : X.Ok) {b : Addr} {o : Obj} (e : X.base.get? b = some o) : b ∉ X.fs := fun hb => by
  have := (ok.funs.mem hb).1
  rw [e] at this; cases this
theorem Inv.bs (I : Inv X pins σ H s) : ∀ b o, X.base.get? b = some o → s.heap.get? b = some o ∧ H b = none := fun b o e =>
  ⟨I.base.keep b o (I.ok.bs b o e).1 (I.ok.bs b o e).2 (I.ok.nofr e) (I.ok.noex b o e), I.base.free b o (I.ok.bs b o e).1 (I.ok.bs b o e).2 (I.ok.noex b o e)⟩
theorem Inv.bk (I : Inv X pins σ H s) : ∀ b o, X.base.get? b = some o → s.heap.get? b = some o := fun b o e => (I.bs b o e).1
theorem Inv.mod (I : Inv X pins σ H s) : Mod X.K X.mg X.base := I.ok.mod
theorem Inv.kIn (I : Inv X pins σ H s) : X.K.In s.heap := I.ok.mod.kin.keeps I.bk
theorem Inv.nolimit (I : Inv X pins σ H s) : s.heap.NoLimit := I.ok.mod.nolimit.keeps I.bk
/-- the frame over the base: for OpenK's rules (K.In X.base is I.mod.kin) -/
theorem Inv.fr (I : Inv X pins σ H s) : ∃ m, Fr X.base X.env.locals s.heap m :=
  let ⟨m, hn, _⟩ := I.loc
  ⟨m, hn, I.bk, Nat.le_trans I.ok.bsz I.ok.above⟩
theorem Inv.lt (I : Inv X pins σ H s) : X.env.locals < s.heap.objs.size := let ⟨_, hn, _⟩ := I.loc; hn.lt
theorem Inv.sz (I : Inv X pins σ H s) : X.s₀.heap.objs.size ≤ s.heap.objs.size := Nat.le_trans I.ok.above (Nat.le_of_lt I.lt)
theorem Inv.nofs (I : Inv X pins σ H s) {a : Addr} (h : s.heap.objs.size ≤ a) : a ∉ X.fs := fun hb => by
  obtain ⟨_, o, ho, _⟩ := I.ok.funs.mem hb
  exact absurd (Nat.lt_of_lt_of_le (Heap.lt_size ho) (Nat.le_trans I.sz h)) (Nat.lt_irrefl _)
theorem Inv.cne (I : Inv X pins σ H s) : ∀ x c, X.env.cells.lookup x = some c → c ≠ X.env.locals := fun x c e z => by
  obtain ⟨v, o, ho, hd⟩ := I.cell x c e
  obtain ⟨m, ⟨o', es, ep, ho', hd', _⟩, _⟩ := I.loc
  rw [z, ho'] at ho; cases ho; rw [hd'] at hd; cases hd
theorem Inv.funs (I : Inv X pins σ H s) : s.heap.FunFrames X.base X.outer := by
  have all : ∀ (l : List Env), (∀ b ∈ frs l, b ∈ X.fs) → X.s₀.heap.FunFrames X.base l → s.heap.FunFrames X.base l := by
    intro l
    induction l with
    | nil => intro _ _; trivial
    | cons env r ih =>
      intro hs hl
      obtain ⟨hk, ⟨L, o, hf, hn, ho, hd⟩, hr⟩ := hl
      have hL : L ∈ X.fs := hs L (by unfold frs; rw [List.filterMap_cons, hf]; exact List.mem_cons_self)
      obtain ⟨sl, e⟩ := I.base.slot L o ho (I.ok.frf L hL) hL fun z => I.ok.exfs L z hL
      exact ⟨hk, ⟨L, _, hf, hn, e, hd⟩, ih (fun b hb => hs b (by unfold frs; rw [List.filterMap_cons, hf]; exact List.mem_cons_of_mem _ hb)) hr⟩
  exact all X.outer (fun _ hb => hb) I.ok.funs

/-- the frames that run, for a call -/
theorem Inv.stack (I : Inv X pins σ H s) : s.heap.FunFrames X.base X.stack := by
  rcases I.ok.stk with e | ⟨e, hf⟩
  · rw [e]; exact I.funs
  · rw [e]
    obtain ⟨m, hn, _⟩ := I.loc
    refine .cons (by rw [I.ok.kind]; decide) hf hn ?_ I.funs
    exact Heap.get?_none_of_le (Nat.le_trans I.ok.bsz I.ok.above)
theorem Inv.stkSub (I : Inv X pins σ H s) : ∀ b ∈ frs X.stack, b ∈ X.env.locals :: X.fs := fun b hb => by
  rcases I.ok.stk with e | ⟨e, hf⟩
  · rw [e] at hb; exact List.mem_cons_of_mem _ hb
  · rw [e] at hb
    unfold frs at hb
    rw [List.filterMap_cons, hf] at hb
    exact hb
theorem Inv.stkFree (I : Inv X pins σ H s) : ∀ b ∈ frs X.stack, H b = none := fun b hb => by
  rcases List.mem_cons.mp (I.stkSub b hb) with e | hb
  · rw [e]; exact I.free
  · obtain ⟨_, o, ho, _⟩ := I.ok.funs.mem hb
    exact I.base.free b o ho (I.ok.frf b hb) fun z => I.ok.exfs b z hb

/-- THE STEP: the untracked objects but the frame and the records at ch are kept (the callers' frames up to slots), the frame's map is kept, the new abstract heap is held -/
theorem Inv.step {g' : Array GenState} {t' : Nat} {d' : Drawn} {ch : List Addr} (I : Inv X pins σ H s)
    (hch : ∀ b ∈ ch, (b ∈ X.ex ∨ X.s₀.heap.objs.size ≤ b) ∧ b ≠ X.env.locals ∧ (∀ x c, X.env.cells.lookup x = some c → c ≠ b) ∧ ∀ p ∈ X.pn ++ pins, p.1 ≠ b)
    (keep : ∀ b o, b ≠ X.env.locals → b ∉ X.fs → b ∉ ch → s.heap.get? b = some o → H b = none → h'.get? b = some o)
    (slot : ∀ b o, b ≠ X.env.locals → b ∈ X.fs → b ∉ ch → s.heap.get? b = some o → H b = none → ∃ sl, h'.get? b = some { o with slots := sl }) (free : ∀ b o, b ∉ ch → s.heap.get? b = some o → H b = none → H' b = none)
    (there : ∀ b o, b ∉ ch → s.heap.get? b = some o → ∃ o', h'.get? b = some o')
    (tups : ∀ b xs, H b = some (.tup xs) → H' b = some (.tup xs)) (frzs : ∀ b o u, H b = some (.frz o u) → H' b = some (.frz o u)) (tbls : ∀ b ps, H b = some (.tbl ps) → ∃ more, H' b = some (.tbl (ps ++ more)))
    (ns : ∀ m, s.heap.Ns X.env.locals m → h'.Ns X.env.locals m) (hok : HOk X.prog X.w H' h') (hg : AllBare g') :
    Inv X pins σ H' { s with heap := h', gens := g', drawn := d', toks := t' } := by
  have neL : ∀ b o, X.s₀.heap.get? b = some o → b ≠ X.env.locals := fun b o e => Nat.ne_of_lt (Nat.lt_of_lt_of_le (Heap.lt_size e) I.ok.above)
  have neC : ∀ b o, X.s₀.heap.get? b = some o → b ∉ X.ex → b ∉ ch := fun b o e hx hb => by
    rcases (hch b hb).1 with z | z
    · exact hx z
    · exact absurd (Nat.lt_of_lt_of_le (Heap.lt_size e) z) (Nat.lt_irrefl _)
  have cellK : ∀ x c, X.env.cells.lookup x = some c → ∀ v, s.heap.IsCell c v → h'.IsCell c v := fun x c e v ⟨o, ho, hd⟩ => by
    have nch : c ∉ ch := fun z => (hch c z).2.2.1 x c e rfl
    by_cases hc : c ∈ X.fs
    · obtain ⟨sl, q⟩ := slot c o (I.cne x c e) hc nch ho (I.freeC x c e)
      exact ⟨_, q, hd⟩
    · exact ⟨o, keep c o (I.cne x c e) hc nch ho (I.freeC x c e), hd⟩
  refine ⟨I.ok, I.os, hg, ⟨fun b o e n hb hx => ?_, fun b o e n hb hx => ?_, fun b o e n hx => ?_, fun b o e hx => ?_, fun b xs e => tups b xs (I.base.tups b xs e), fun b o xs e => frzs b o xs (I.base.frzs b o xs e), fun b ps e => ?_⟩, ?_, fun x c e => ?_, ?_, fun x c e => ?_, fun p hp => ?_, hok, I.len⟩
  · exact keep b o (neL b o e) hb (neC b o e hx) (I.base.keep b o e n hb hx) (I.base.free b o e n hx)
  · obtain ⟨sl, e1⟩ := I.base.slot b o e n hb hx
    obtain ⟨sl', e2⟩ := slot b _ (neL b o e) hb (neC b o e hx) e1 (I.base.free b o e n hx)
    exact ⟨sl', e2⟩
  · obtain ⟨o', e1⟩ := I.base.there b o e hx
    exact free b o' (neC b o e hx) e1 (I.base.free b o e n hx)
  · obtain ⟨o', e1⟩ := I.base.there b o e hx
    exact there b o' (neC b o e hx) e1
  · obtain ⟨m1, e1⟩ := I.base.tbls b ps e
    obtain ⟨m2, e2⟩ := tbls b _ e1
    exact ⟨m1 ++ m2, by rw [e2, Array.append_assoc]⟩
  · obtain ⟨m, hn, hl⟩ := I.loc
    refine ⟨m, ns m hn, fun i x v e1 e2 e3 => ?_⟩
    obtain ⟨u, r, l⟩ := hl i x v e1 e2 e3
    refine ⟨u, r, ?_⟩
    rcases l with l | ⟨k, c, e, z⟩
    · exact .inl l
    · exact .inr ⟨k, c, e, cellK x c e _ z⟩
  · obtain ⟨v, z⟩ := I.cell x c e
    exact ⟨v, cellK x c e v z⟩
  · obtain ⟨m, ⟨o, _, _, ho, _⟩, _⟩ := I.loc
    exact free _ o (fun z => (hch _ z).2.1 rfl) ho I.free
  · obtain ⟨v, o, ho, hd⟩ := I.cell x c e
    exact free c o (fun z => (hch c z).2.2.1 x c e rfl) ho (I.freeC x c e)
  · obtain ⟨e, n, ne, nf, d⟩ := I.pin p hp
    have nch : p.1 ∉ ch := fun z => (hch p.1 z).2.2.2 p hp rfl
    exact ⟨keep p.1 p.2 ne nf nch e n, free p.1 p.2 nch e n, ne, nf, d⟩
/-- .. where the frame's own object is kept too -/
theorem Inv.un {t' : Nat} (I : Inv X pins σ H s) (u : Un X.fs [] H H' s.heap h') (hok : HOk X.prog X.w H' h') : Inv X pins σ H' { s with heap := h', toks := t' } := by
  obtain ⟨m, ⟨o, es, ep, ho, r⟩, _⟩ := id I.loc
  obtain ⟨sl, hL⟩ := u.any ho I.free (by simp)
  exact I.step (g' := s.gens) (d' := s.drawn) (ch := []) (fun _ z => nomatch z) (fun b o _ hb _ e n => u.keep b o e n hb (by simp)) (fun b o _ hb _ e n => u.slot b o e n hb (by simp)) (fun b o _ e n => u.free b o e n (by simp)) (fun b o _ e => u.there b o e (by simp)) u.tups u.frzs u.tbls (fun m' hm => by
    obtain ⟨o', es', ep', ho', r'⟩ := hm
    rw [ho] at ho'; cases ho'
    exact ⟨_, es', ep', hL, r'⟩) hok I.bare
/-- behind a call (or a comprehension's block): the slots of this frame may have changed too, the records at ch may have turned -/
theorem Inv.call {g' : Array GenState} {t' : Nat} {d' : Drawn} {ch : List Addr} (I : Inv X pins σ H s) (u : Un (frs X.stack) ch H H' s.heap h') (hok : HOk X.prog X.w H' h') (hg : AllBare g')
    (hch : ∀ b ∈ ch, (b ∈ X.ex ∨ X.s₀.heap.objs.size ≤ b) ∧ b ≠ X.env.locals ∧ (∀ x c, X.env.cells.lookup x = some c → c ≠ b) ∧ ∀ p ∈ X.pn ++ pins, p.1 ≠ b) :
    Inv X pins σ H' { s with heap := h', gens := g', drawn := d', toks := t' } := by
  obtain ⟨m, ⟨o, es, ep, ho, r⟩, _⟩ := id I.loc
  obtain ⟨sl, hL⟩ := u.any ho I.free fun z => (hch _ z).2.1 rfl
  exact I.step (ch := ch) hch (fun b o hL hb hc e n => u.keep b o e n (fun z => (List.mem_cons.mp (I.stkSub b z)).elim hL hb) hc) (fun b o _ _ hc e n => u.any e n hc) (fun b o hc e n => u.free b o e n hc) (fun b o hc e => u.there b o e hc) u.tups u.frzs u.tbls (fun m' hm => by
    obtain ⟨o', es', ep', ho', r'⟩ := hm
    rw [ho] at ho'; cases ho'
    exact ⟨_, es', ep', hL, r'⟩) hok hg
/-- an untracked record of ours (an iterator) has turned -/
theorem Inv.turned {t' : Nat} {it : Addr} (I : Inv X pins σ H s) (k : ∀ b o, b ≠ it → s.heap.get? b = some o → h'.get? b = some o) (hn : H it = none) (hL : it ≠ X.env.locals)
    (h1 : it ∈ X.ex ∨ X.s₀.heap.objs.size ≤ it) (h2 : ∀ x c, X.env.cells.lookup x = some c → c ≠ it) (h3 : ∀ p ∈ X.pn ++ pins, p.1 ≠ it) : Inv X pins σ H { s with heap := h', toks := t' } := by
  have nit : ∀ b u, H b = some u → b ≠ it := fun b u e z => by rw [z, hn] at e; cases e
  refine I.step (g' := s.gens) (d' := s.drawn) (ch := [it]) (fun b hb => ?_) (fun b o _ _ hc e _ => k b o (fun z => hc (by simp [z])) e) (fun b o _ _ hc e _ => ⟨o.slots, k b o (fun z => hc (by simp [z])) e⟩) (fun _ _ _ _ n => n)
    (fun b o hc e => ⟨o, k b o (fun z => hc (by simp [z])) e⟩) (fun _ _ e => e) (fun _ _ _ e => e) (fun b ps e => ⟨#[], by rw [e]; simp⟩) (fun m hm => ?_) (fun b u e => ?_) I.bare
  · have e : b = it := by simpa using hb
    subst e
    exact ⟨h1, hL, h2, h3⟩
  · obtain ⟨o, es, ep, ho, r⟩ := hm
    exact ⟨o, es, ep, k _ o (Ne.symm hL) ho, r⟩
  · refine (I.hok b u e).stay (fun c v hc q => k c v ?_ q) (fun _ q => q) fun _ _ q => q
    rcases hc with z | z
    · rw [z]; exact nit b u e
    · exact nit c _ z
theorem Inv.tok (I : Inv X pins σ H s) (t : Nat) : Inv X pins σ H { s with toks := t } := I.un (h' := s.heap) (t' := t) Un.refl I.hok
/-- all objects kept -/
theorem Inv.kept {t' : Nat} (I : Inv X pins σ H s) (k : ∀ b u, s.heap.get? b = some u → h'.get? b = some u) : Inv X pins σ H { s with heap := h', toks := t' } := I.un (Un.kept k) (I.hok.kept k)
/-- a new object laid and tracked -/
theorem Inv.laid {a : Addr} {o : HO} {t' : Nat} (I : Inv X pins σ H s) (k : ∀ b u, s.heap.get? b = some u → h'.get? b = some u) (hp : s.heap.objs.size ≤ a) (new : ObjOk X.prog X.w (upd H a o) h' a o) :
    Inv X pins σ (upd H a o) { s with heap := h', toks := t' } := I.un (Un.laid k hp (I.hok.fresh hp)) (I.hok.laid k hp new)
/-- an object written -/
theorem Inv.write {x e : Addr} {o : HO} {t' : Nat} (I : Inv X pins σ H s) (mu : Mut (H x)) (he : e = x ∨ H e = some (.own x)) (k : ∀ b u, b ≠ e → s.heap.get? b = some u → h'.get? b = some u) (heo : ∃ u, h'.get? e = some u)
    (new : ObjOk X.prog X.w (upd H x o) h' x o) : Inv X pins σ (upd H x o) { s with heap := h', toks := t' } := I.un (Un.write mu he k heo) (I.hok.write mu he k heo new)
/-- forgetting slots, pins -/
theorem Inv.weak {σ' : List (Option V)} (I : Inv X pins σ H s) (hl : σ'.length = σ.length) (w : ∀ (i : Nat) v, σ'[i]? = some (some v) → σ[i]? = some (some v)) : Inv X pins σ' H s :=
  ⟨I.ok, I.os, I.bare, I.base, let ⟨m, hn, hl'⟩ := I.loc; ⟨m, hn, fun i x v e1 e2 e3 => hl' i x v e1 (w i v e2) e3⟩, I.cell, I.free, I.freeC, I.pin, I.hok, hl.trans I.len⟩
theorem Inv.pins_of {pins' : List (Addr × Obj)} (I : Inv X pins σ H s) (h : ∀ p ∈ pins', s.heap.get? p.1 = some p.2 ∧ H p.1 = none ∧ p.1 ≠ X.env.locals ∧ p.1 ∉ X.fs ∧ ∀ v, p.2.data ≠ .cell v) : Inv X pins' σ H s :=
  ⟨I.ok, I.os, I.bare, I.base, I.loc, I.cell, I.free, I.freeC, fun p hp => (List.mem_append.mp hp).elim (fun z => I.pin p (List.mem_append_left _ z)) (h p), I.hok, I.len⟩

theorem nodup_ix {N : List Str} (hN : N.Nodup) {i j : Nat} {x : Str} (a : N[i]? = some x) (b : N[j]? = some x) : i = j := by
  obtain ⟨h1, e1⟩ := List.getElem?_eq_some_iff.mp a
  obtain ⟨h2, e2⟩ := List.getElem?_eq_some_iff.mp b
  exact (List.getElem_inj hN).mp (e1.trans e2.symm)

/-- a name is stored; what changed -/
theorem store_ok2 {M : Model} {A : Around} {E : Value → Shared → Prop} {i : Nat} {x : Str} {v : V} {u : Value} {Q : Unit → Shared → Prop} (I : Inv X pins σ H s) (hN : X.N.Nodup) (hi : X.N[i]? = some x) (hx : Loc X.env.scope x) (r : RelV v u)
    (h : ∀ s', Inv X pins (σ.set i (some v)) H s' → (∃ a, Heap.SameBut a s.heap s'.heap ∧ (a = X.env.locals ∨ X.env.cells.lookup x = some a)) → Q () s') (hf : X.fn x = true ∨ X.env.scope.names.lookup x = some .local := by first | exact .inl rfl | exact .inr rfl | assumption) : wpAny M A (storeName X.env x u) Q E s := by
  obtain ⟨m, hn, hl⟩ := id I.loc
  have hcls : (X.env.scope.kind == .class || (X.env.scope.kind == .module && X.env.locals != X.env.globals)) = false := by rw [I.ok.kind]; rfl
  have hiσ : i < σ.length := by rw [I.len]; exact (List.getElem?_eq_some_iff.mp hi).1
  have cne := I.cne
  have tracked : ∀ {a : Addr} {h' : Heap}, (∃ o, s.heap.get? a = some o ∧ H a = none) → Heap.SameBut a s.heap h' → HOk X.prog X.w H h' := fun {a h'} ha hs b ob e => by
    obtain ⟨_, _, hfree⟩ := ha
    refine (I.hok b ob e).stay (fun c w' hc q => (hs.2 c ?_).trans q) (fun _ q => q) fun _ _ q => q
    rintro rfl
    rcases hc with rfl | hc
    · rw [hfree] at e; cases e
    · rw [hfree] at hc; cases hc
  rcases hx with hk | hk
  · refine wpAny_storeName_local hk hn (fun h' hn' hs => ?_) hcls
    obtain ⟨oL, _, _, hoL, _⟩ := id hn
    refine h _ ⟨I.ok, I.os, I.bare, ⟨fun b o e n hb hx => ?_, fun b o e n hb hx => ?_, I.base.free, fun b o e hx => ?_, I.base.tups, I.base.frzs, I.base.tbls⟩, ⟨_, hn', fun j y v' e1 e2 e3 => ?_⟩, fun y c e => ?_, I.free, I.freeC, fun p hp => ?_, tracked ⟨oL, hoL, I.free⟩ hs, by simpa using I.len⟩ ⟨_, hs, .inl rfl⟩
    · exact (hs.2 b (Nat.ne_of_lt (Nat.lt_of_lt_of_le (Heap.lt_size e) I.ok.above))).trans (I.base.keep b o e n hb hx)
    · obtain ⟨sl, e1⟩ := I.base.slot b o e n hb hx
      exact ⟨sl, (hs.2 b (Nat.ne_of_lt (Nat.lt_of_lt_of_le (Heap.lt_size e) I.ok.above))).trans e1⟩
    · obtain ⟨o', e1⟩ := I.base.there b o e hx
      exact ⟨o', (hs.2 b (Nat.ne_of_lt (Nat.lt_of_lt_of_le (Heap.lt_size e) I.ok.above))).trans e1⟩
    · by_cases hj : j = i
      · subst hj
        rw [hi] at e1; cases e1
        rw [List.getElem?_set_self hiσ] at e2
        cases e2
        exact ⟨u, r, .inl ⟨hk, by simp⟩⟩
      · rw [List.getElem?_set_ne (Ne.symm hj)] at e2
        obtain ⟨u', r', q⟩ := hl j y v' e1 e2 e3
        refine ⟨u', r', ?_⟩
        rcases q with ⟨k, e⟩ | ⟨k, c, e, z⟩
        · refine .inl ⟨k, ?_⟩
          have : y ≠ x := fun e => hj (nodup_ix hN e1 (e ▸ hi))
          simp [this, e]
        · exact .inr ⟨k, c, e, z.sameBut hs (cne y c e)⟩
    · obtain ⟨w', z⟩ := I.cell y c e
      exact ⟨w', z.sameBut hs (cne y c e)⟩
    · obtain ⟨e, n, ne, nf, d⟩ := I.pin p hp
      exact ⟨(hs.2 p.1 ne).trans e, n, ne, nf, d⟩
  · have hfn : X.fn x = true := by
      rcases hf with z | z
      · exact z
      · rw [z] at hk; cases hk
    obtain ⟨c, hc⟩ := I.ok.has x (.inl hk)
    obtain ⟨w', z⟩ := I.cell x c hc
    refine wpAny_storeName_cell I.ok.kind hk hc z (fun h' hc' hs => ?_)
    obtain ⟨oc, hoc, hocd⟩ := id z
    refine h { s with heap := h' } ⟨I.ok, I.os, I.bare, ⟨fun b o e n hb hx => ?_, fun b o e n hb hx => ?_, I.base.free, fun b o e hx => ?_, I.base.tups, I.base.frzs, I.base.tbls⟩, ⟨m, hn.sameBut hs (Ne.symm (cne x c hc)), fun j y v' e1 e2 e3 => ?_⟩, fun y c' e => ?_, I.free, I.freeC, fun p hp => ?_, tracked ⟨oc, hoc, I.freeC x c hc⟩ hs, by simpa using I.len⟩ ⟨c, hs, .inr hc⟩
    · exact (hs.2 b (Nat.ne_of_lt (Nat.lt_of_lt_of_le (Heap.lt_size e) (I.ok.cab x c hfn hc)))).trans (I.base.keep b o e n hb hx)
    · obtain ⟨sl, e1⟩ := I.base.slot b o e n hb hx
      exact ⟨sl, (hs.2 b (Nat.ne_of_lt (Nat.lt_of_lt_of_le (Heap.lt_size e) (I.ok.cab x c hfn hc)))).trans e1⟩
    · obtain ⟨o', e1⟩ := I.base.there b o e hx
      exact ⟨o', (hs.2 b (Nat.ne_of_lt (Nat.lt_of_lt_of_le (Heap.lt_size e) (I.ok.cab x c hfn hc)))).trans e1⟩
    · by_cases hj : j = i
      · subst hj
        rw [hi] at e1; cases e1
        rw [List.getElem?_set_self hiσ] at e2
        cases e2
        exact ⟨u, r, .inr ⟨.inl hk, c, hc, hc'⟩⟩
      · rw [List.getElem?_set_ne (Ne.symm hj)] at e2
        obtain ⟨u', r', q⟩ := hl j y v' e1 e2 e3
        refine ⟨u', r', ?_⟩
        rcases q with q | ⟨k, c', e, z'⟩
        · exact .inl q
        · refine .inr ⟨k, c', e, z'.sameBut hs ?_⟩
          rintro rfl
          exact hj (nodup_ix hN e1 (I.ok.inj _ _ _ e hc ▸ hi))
    · by_cases hcc : c' = c
      · subst hcc; exact ⟨_, hc'⟩
      · obtain ⟨w2, z2⟩ := I.cell y c' e
        exact ⟨w2, z2.sameBut hs hcc⟩
    · obtain ⟨e, n, ne, nf, d⟩ := I.pin p hp
      refine ⟨(hs.2 p.1 ?_).trans e, n, ne, nf, d⟩
      intro q
      rw [q, hoc] at e
      have q' : oc = p.2 := Option.some.inj e
      exact d w' (by rw [← q']; exact hocd)
theorem store_ok {M : Model} {A : Around} {E : Value → Shared → Prop} {i : Nat} {x : Str} {v : V} {u : Value} {Q : Unit → Shared → Prop} (I : Inv X pins σ H s) (hN : X.N.Nodup) (hi : X.N[i]? = some x) (hx : Loc X.env.scope x) (r : RelV v u)
    (h : ∀ s', Inv X pins (σ.set i (some v)) H s' → Q () s') (hf : X.fn x = true ∨ X.env.scope.names.lookup x = some .local := by first | exact .inl rfl | exact .inr rfl | assumption) : wpAny M A (storeName X.env x u) Q E s :=
  store_ok2 I hN hi hx r (fun s' I' _ => h s' I') hf
/-- behind a call or a block, the state as it is -/
theorem Inv.call' {s' : Shared} {ch : List Addr} (I : Inv X pins σ H s) (ho : s'.os = s.os) (u : Un (frs X.stack) ch H H' s.heap s'.heap) (hok : HOk X.prog X.w H' s'.heap) (hg : AllBare s'.gens)
    (hch : ∀ b ∈ ch, (b ∈ X.ex ∨ X.s₀.heap.objs.size ≤ b) ∧ b ≠ X.env.locals ∧ (∀ x c, X.env.cells.lookup x = some c → c ≠ b) ∧ ∀ p ∈ X.pn ++ pins, p.1 ≠ b) : Inv X pins σ H' s' := by
  obtain ⟨h', g', d', t', o'⟩ := s'
  have e : o' = s.os := ho
  subst e
  exact I.call (g' := g') (t' := t') (d' := d') u hok hg hch
end

/-! ### the judgements -/
/-- an exception: its class, its own dict's address (where it has one), the abstract heap behind it -/
abbrev XK := Value → Option Addr → Hp → Prop
abbrev St := List (Option V)
abbrev VK := V → Hp → Prop
/-- an expression's reading; a test's; an argument list's -/
abbrev TE := St → Hp → VK → Prop
abbrev TT := St → Hp → (Bool → Hp → Prop) → Prop
abbrev TA := St → Hp → (List V → Hp → Prop) → Prop
/-- what is wanted behind a statement -/
structure Ends where
  nx : St → Hp → Prop
  rt : VK
  bk : St → Hp → Prop := fun _ _ => False
  ct : St → Hp → Prop := fun _ _ => False
abbrev TS := Ends → St → Hp → Prop

def EP (X : Cx) (pins : List (Addr × Obj)) (σ : St) (Q : VK) (u : Value) (s' : Shared) : Prop := ∃ v H', Inv X pins σ H' s' ∧ RelV v u ∧ Q v H'
def TP (X : Cx) (pins : List (Addr × Obj)) (σ : St) (Q : Bool → Hp → Prop) (b : Bool) (s' : Shared) : Prop := ∃ H', Inv X pins σ H' s' ∧ Q b H'
def AP (X : Cx) (pins : List (Addr × Obj)) (σ : St) (Q : List V → Hp → Prop) (us : List Value) (s' : Shared) : Prop := ∃ vs H', Inv X pins σ H' s' ∧ Vals vs us ∧ Q vs H'
def SP (X : Cx) (pins : List (Addr × Obj)) (D : Ends) (f : Flow) (s' : Shared) : Prop :=
  match f with
  | .next => ∃ σ' H', Inv X pins σ' H' s' ∧ D.nx σ' H'
  | .brk => ∃ σ' H', Inv X pins σ' H' s' ∧ D.bk σ' H'
  | .cont => ∃ σ' H', Inv X pins σ' H' s' ∧ D.ct σ' H'
  | .ret u => ∃ v σ' H', Inv X pins σ' H' s' ∧ RelV v u ∧ D.rt v H'

def PE (X : Cx) (e : Expr) (t : TE) : Prop :=
  ∀ (pins : List (Addr × Obj)) (s : Shared) (σ : St) (H : Hp) (Q : VK), Inv X pins σ H s → t σ H Q → wpAny (model X.prog X.w) X.A (eval e X.env) (EP X pins σ Q) X.xe s
def PT (X : Cx) (e : Expr) (t : TT) : Prop :=
  ∀ (pins : List (Addr × Obj)) (s : Shared) (σ : St) (H : Hp) (Q : Bool → Hp → Prop), Inv X pins σ H s → t σ H Q → wpAny (model X.prog X.w) X.A (isTrue e X.env (eval e X.env)) (TP X pins σ Q) X.xe s
/-- a test whatever its 'whole' is (and, or) -/
def PW (X : Cx) (e : Expr) (t : TT) : Prop :=
  ∀ (whole : Sem Value) (pins : List (Addr × Obj)) (s : Shared) (σ : St) (H : Hp) (Q : Bool → Hp → Prop), Inv X pins σ H s → t σ H Q → wpAny (model X.prog X.w) X.A (isTrue e X.env whole) (TP X pins σ Q) X.xe s
theorem PW.pt {X : Cx} {e : Expr} {t : TT} (h : PW X e t) : PT X e t := h _
/-- an argument list (no star), from the left -/
def PA (X : Cx) (es : List Expr) (t : TA) : Prop :=
  ∀ (pos : Pos) (pins : List (Addr × Obj)) (s : Shared) (σ : St) (H : Hp) (Q : List V → Hp → Prop), Inv X pins σ H s → t σ H Q → wpAny (model X.prog X.w) X.A (spliced (backTo pos (starEach es X.env))) (AP X pins σ Q) X.xe s
def PS (X : Cx) (st : Stmt) (t : TS) : Prop :=
  ∀ (pins : List (Addr × Obj)) (s : Shared) (σ : St) (H : Hp) (D : Ends), Inv X pins σ H s → t D σ H → wpAny (model X.prog X.w) X.A (exec st X.env) (SP X pins D) X.xe s
def PSs (X : Cx) (st : List Stmt) (t : TS) : Prop :=
  ∀ (pins : List (Addr × Obj)) (s : Shared) (σ : St) (H : Hp) (D : Ends), Inv X pins σ H s → t D σ H → wpAny (model X.prog X.w) X.A (execs st X.env) (SP X pins D) X.xe s
/-- weaken the end -/
theorem thn {α : Type} {t : Sem α} {Q Q' : α → Shared → Prop} {M : Model} {A : Around} {E : Value → Shared → Prop} {s : Shared} (h : wpAny M A t Q E s) (hQ : ∀ a s, Q a s → Q' a s) : wpAny M A t Q' E s := wpAny_mono h hQ fun _ _ x => x
end L2

namespace L2
open PySem PySem.Spec PyProof.Rows
section
variable {X : Cx}


/-! ### names and constants -/
def tVar (i : Nat) : TE := fun σ H Q => ∃ v, σ[i]? = some (some v) ∧ Q v H
def tC (v : V) : TE := fun _ H Q => Q v H
theorem pe_var {i : Nat} {x : Str} {pos : Pos} (hN : X.N[i]? = some x) (hv : Vis X.env.scope x) (hd : (x == ("__debug__" : Str)) = false := by decide) (hcd : (x == ("__classdict__" : Str)) = false := by decide) : PE X (.Name x pos) (tVar i) := by
  intro pins s σ H Q I h
  obtain ⟨v, e, h⟩ := h
  obtain ⟨m, hn, hl⟩ := I.loc
  obtain ⟨u, r, l⟩ := hl i x v hN e hv
  have fin : EP X pins σ Q u s := ⟨v, H, I, r, h⟩
  rcases l with ⟨hk, hm⟩ | ⟨hk, c, hc, hcell⟩
  · exact wpAny_Name (wpAny_loadName_local I.ok.kind hk hn hm fin) hd
  · rcases hk with hk | hk
    · exact wpAny_Name (wpAny_loadName_cell I.ok.kind hk hc hcell fin) hd
    · exact wpAny_Name (wpAny_loadName_free I.ok.kind hk hc hcell fin hcd) hd
theorem pe_int {i j pos} : PE X (.Constant (.int i) j pos) (tC (.int i)) := fun _ _ _ H _ I h => wpAny_Constant_int ⟨.int i, H, I.tok _, ⟨_, rfl⟩, h⟩
theorem pe_bl {b j pos} : PE X (.Constant (.bool b) j pos) (tC (.bl b)) := fun _ _ _ H _ I h => Constant_bool ⟨.bl b, H, I, rfl, h⟩
theorem pe_non {j pos} : PE X (.Constant .none j pos) (tC .non) := fun _ _ _ H _ I h => Constant_none ⟨.non, H, I, rfl, h⟩
theorem pe_str {x j pos} : PE X (.Constant (.str x) j pos) (tC (.str x)) := fun _ _ _ H _ I h => Calls.Constant_str ⟨.str x, H, I.tok _, ⟨_, rfl⟩, h⟩

/-- a global name of the def -/
def Gl (X : Cx) (x : Str) : Prop := X.env.kindOf x = some .globalImplicit
theorem ld_glob {E : Value → Shared → Prop} {pins : List (Addr × Obj)} {s : Shared} {σ : St} {H : Hp} {x : Str} {u : Value} {pos : Pos} {Q : Value → Shared → Prop} (I : Inv X pins σ H s) (hg : Gl X x) (hm : X.mg x = some u) (h : Q u s)
    (hd : (x == ("__debug__" : Str)) = false := by decide) : wpAny (model X.prog X.w) X.A (eval (.Name x pos) X.env) Q E s :=
  Calls.Name_function_global I.ok.kind hg (Calls.loadGlobal_global (by rw [I.ok.glob]; exact I.mod.glob.keeps I.bk) hm h) hd
theorem ld_blt {E : Value → Shared → Prop} {pins : List (Addr × Obj)} {s : Shared} {σ : St} {H : Hp} {x : Str} {u : Value} {pos : Pos} {Q : Value → Shared → Prop} (I : Inv X pins σ H s) (hg : Gl X x) (hm : X.mg x = none) (hv : bootBuiltins x = some u) (h : Q u s)
    (hn : x ≠ "__name__" := by decide) (hd : (x == ("__debug__" : Str)) = false := by decide) : wpAny (model X.prog X.w) X.A (eval (.Name x pos) X.env) Q E s := by
  obtain ⟨mb, h1, h2⟩ := I.mod.blt
  exact Calls.Name_function_global I.ok.kind hg (Calls.loadGlobal_builtin (by rw [I.ok.glob]; exact I.mod.glob.keeps I.bk) hm (by rw [I.ok.blt]; exact h1.keeps I.bk) ((h2 x hn).trans hv) h) hd
/-- a module's constant, a class, a function, as a value -/
theorem pe_glob {x : Str} {v : V} {u : Value} {pos : Pos} (hg : Gl X x) (hm : X.mg x = some u) (r : RelV v u) (hd : (x == ("__debug__" : Str)) = false := by decide) : PE X (.Name x pos) (tC v) :=
  fun _ _ _ H _ I h => ld_glob I hg hm ⟨v, H, I, r, h⟩ hd
theorem pe_bltn {x : Str} {v : V} {u : Value} {pos : Pos} (hg : Gl X x) (hm : X.mg x = none) (hv : bootBuiltins x = some u) (r : RelV v u) (hn : x ≠ "__name__" := by decide) (hd : (x == ("__debug__" : Str)) = false := by decide) : PE X (.Name x pos) (tC v) :=
  fun _ _ _ H _ I h => ld_blt I hg hm hv ⟨v, H, I, r, h⟩ hn hd

/-! ### arithmetic -/
variable {a b : Expr} {ta tb : TE} {pos : Pos}

/-! ### comparisons -/
/-- a comparison as a value, as a test -/
def tB (t : TE) : TT := fun σ H Q => t σ H fun x H1 => ∃ c, x = .bl c ∧ Q c H1
/-- an expression whose value is a bool, as a test -/
theorem pt_val {e : Expr} {t : TE} (h : PE X e t) (he : ∀ whole, isTrue e X.env whole = (do let v ← whole; standAt e.pos; holding [v] (truthy v)) := by intro _; rfl) : PT X e (tB t) := by
  intro pins s σ H Q I hw
  refine isTrue_plain (thn (h pins s σ H _ I hw) fun v s1 ⟨x, H1, I1, r1, q1⟩ => ?_) (he _)
  obtain ⟨d, rfl, q⟩ := q1
  cases r1
  exact wpAny_truthy_bool ⟨H1, I1, q⟩

/-! ### and, or, not -/
variable {tA tB' : TT} {rest : List Expr}
def tOr (t u : TT) : TT := fun σ H Q => t σ H fun c H1 => if c = true then Q true H1 else u σ H1 Q
def tNot (t : TT) : TT := fun σ H Q => t σ H fun c H1 => Q (!c) H1
theorem pw_or1 (ha : PT X a tA) : PW X (.BoolOp .Or [a] pos) tA := by
  intro wh pins s σ H Q I h
  refine isTrue_or (thn (ha pins s σ H Q I h) fun c s1 e => ?_)
  cases c with
  | false => exact isTrue_or_nil e
  | true => exact e
theorem pw_or (ha : PT X a tA) (hb : PW X (.BoolOp .Or (b :: rest) pos) tB') : PW X (.BoolOp .Or (a :: b :: rest) pos) (tOr tA tB') := by
  intro wh pins s σ H Q I h
  refine isTrue_or (thn (ha pins s σ H _ I h) fun c s1 ⟨H1, I1, q1⟩ => ?_)
  cases c with
  | true => exact ⟨H1, I1, q1⟩
  | false => exact hb wh pins s1 σ H1 Q I1 q1
theorem pt_not (ha : PT X a tA) : PT X (.UnaryOp .Not a pos) (tNot tA) := by
  intro pins s σ H Q I h
  exact isTrue_not (ha pins s σ H (fun c H1 => Q (!c) H1) I h)
/-- .. as values (bools) -/
def tAndV (ta tb : TE) : TE := fun σ H Q => ta σ H fun x H1 => ∃ c, x = .bl c ∧ if c = true then tb σ H1 Q else Q (.bl false) H1
theorem pe_one {op} {t : TE} (h : PE X a t) : PE X (.BoolOp op [a] pos) t := fun pins s σ H Q I hw => BoolOp_one (h pins s σ H Q I hw)
theorem pe_and (ha : PE X a ta) (hb : PE X (.BoolOp .And (b :: rest) pos) tb) : PE X (.BoolOp .And (a :: b :: rest) pos) (tAndV ta tb) := by
  intro pins s σ H Q I h
  refine BoolOp_and (thn (ha pins s σ H _ I h) fun v s1 ⟨x, H1, I1, r1, q1⟩ => ?_)
  obtain ⟨c, rfl, q1⟩ := q1
  cases r1
  refine wpAny_truthy_bool ?_
  cases c with
  | true => exact hb pins s1 σ H1 Q I1 q1
  | false => exact ⟨.bl false, H1, I1, rfl, q1⟩
end
end L2

namespace L2
open PySem PySem.Spec PyProof.Rows

/-! ### a list, a tuple that is read: tracked, frozen, or an object of the module -/
def SqL (K : PySem.W.Frag) (H : Hp) (a : Addr) (xs : List V) : Prop :=
  Rd H a (.lst xs) ∨
    ∃ (o : Obj) (its : Array Value) (n : Nat), K.lookup a = some o ∧ o.cls = .type "list" ∧ o.dict = none ∧ o.data = .seq its n ∧ its.size ≤ sizeLine ∧ Vals xs its.toList
def SqT (K : PySem.W.Frag) (H : Hp) (a : Addr) (xs : List V) : Prop :=
  Rd H a (.tup xs) ∨
    ∃ (o : Obj) (its : Array Value) (n : Nat), K.lookup a = some o ∧ o.cls = .type "tuple" ∧ o.data = .seq its n ∧ its.size ≤ sizeLine ∧ Vals xs its.toList
def absV : Value → Option V
  | .none => some .non
  | .bool b => some (.bl b)
  | .int i _ => some (.int i)
  | .str x _ => some (.str x)
  | .bytes b _ => some (.byt b)
  | .float b _ => some (.flt b)
  | .ref a => some (.ref a)
  | .type n => some (.ty n)
  | _ => none
theorem RelV.abs {x : V} {u : Value} (r : RelV x u) : absV u = some x := by
  cases x with
  | non => cases r; rfl
  | bl _ => cases r; rfl
  | int _ => obtain ⟨t, rfl⟩ := r; rfl
  | str _ => obtain ⟨t, rfl⟩ := r; rfl
  | byt _ => obtain ⟨t, rfl⟩ := r; rfl
  | flt _ => obtain ⟨t, rfl⟩ := r; rfl
  | ref _ => cases r; rfl
  | ty _ => cases r; rfl
theorem RelV.inj {x y : V} {u : Value} (r : RelV x u) (q : RelV y u) : x = y := Option.some.inj (r.abs.symm.trans q.abs)
theorem Vals.inj : ∀ {xs ys : List V} {us : List Value}, Vals xs us → Vals ys us → xs = ys
  | _, _, _, .nil, .nil => rfl
  | _, _, _, .cons r t, .cons r' t' => by rw [r.inj r', Vals.inj t t']
section
variable {X : Cx} {pins : List (Addr × Obj)} {σ : St} {H : Hp} {s : Shared} {a : Addr} {xs ys : List V}
theorem SqL.of {K : PySem.W.Frag} (h : H a = some (.lst xs)) : SqL K H a xs := .inl (.inl h)
theorem SqT.of {K : PySem.W.Frag} (h : H a = some (.tup xs)) : SqT K H a xs := .inl (.inl h)
theorem Inv.list (I : Inv X pins σ H s) (h : SqL X.K H a xs) : ∃ its : List Value, Vals xs its ∧ PlainL s.heap a its.toArray ∧ xs.length ≤ sizeLine := by
  rcases h with h | ⟨o, its, n, hk, hc, hd, hs, hz, r⟩
  · obtain ⟨z, its, n, r, e⟩ := h.ok I.hok
    exact ⟨its, r, ⟨_, n, e, rfl, rfl, rfl⟩, z⟩
  · refine ⟨its.toList, r, ⟨o, n, I.kIn a o hk, hc, hd, by simpa using hs⟩, ?_⟩
    have e := r.length
    simp only [Array.length_toList] at e
    omega
theorem Inv.tuple (I : Inv X pins σ H s) (h : SqT X.K H a xs) : ∃ its : List Value, Vals xs its ∧ IsTup s.heap a its.toArray ∧ xs.length ≤ sizeLine := by
  rcases h with h | ⟨o, its, n, hk, hc, hs, hz, r⟩
  · obtain ⟨z, its, r, p⟩ := h.ok I.hok
    exact ⟨its, r, p, z⟩
  · refine ⟨its.toList, r, ⟨o, I.kIn a o hk, hc, n, by simpa using hs⟩, ?_⟩
    have e := r.length
    simp only [Array.length_toList] at e
    omega
theorem Inv.list_inj (I : Inv X pins σ H s) (h : SqL X.K H a xs) (h' : SqL X.K H a ys) : xs = ys := by
  obtain ⟨its, r, ⟨o, n, e, _, _, d⟩, _⟩ := I.list h
  obtain ⟨its', r', ⟨o', n', e', _, _, d'⟩, _⟩ := I.list h'
  rw [e] at e'; cases e'
  rw [d] at d'
  injection d' with d1 _
  have : its = its' := by simpa using congrArg Array.toList d1
  subst this
  exact r.inj r'
end

/-! ### another wish about exceptions -/
abbrev Cx.wish (X : Cx) (E : Value → Shared → Prop) : Cx := { X with xe := E }
/-- no exception leaves -/
abbrev Cx.nox (X : Cx) : Cx := X.wish fun _ _ => False
theorem Cx.Ok.wish {X : Cx} (ok : X.Ok) (E : Value → Shared → Prop) : (X.wish E).Ok :=
  ⟨ok.mod, ok.kind, ok.glob, ok.blt, ok.above, ok.inj, ok.has, ok.cab, ok.hd, ok.frames, ok.stk, ok.exf, ok.bs, ok.bsz, ok.noex, ok.exfs, ok.funs, ok.frf⟩
theorem Cx.Ok.unwish {X : Cx} {E : Value → Shared → Prop} (ok : (X.wish E).Ok) : X.Ok :=
  ⟨ok.mod, ok.kind, ok.glob, ok.blt, ok.above, ok.inj, ok.has, ok.cab, ok.hd, ok.frames, ok.stk, ok.exf, ok.bs, ok.bsz, ok.noex, ok.exfs, ok.funs, ok.frf⟩
section
variable {X : Cx} {pins : List (Addr × Obj)} {σ : St} {H : Hp} {s : Shared} {E : Value → Shared → Prop}
theorem Inv.wish (I : Inv X pins σ H s) (E : Value → Shared → Prop) : Inv (X.wish E) pins σ H s := ⟨I.ok.wish E, I.os, I.bare, I.base, I.loc, I.cell, I.free, I.freeC, I.pin, I.hok, I.len⟩
theorem Inv.unwish (I : Inv (X.wish E) pins σ H s) : Inv X pins σ H s := ⟨I.ok.unwish, I.os, I.bare, I.base, I.loc, I.cell, I.free, I.freeC, I.pin, I.hok, I.len⟩
theorem SP.unwish {D : Ends} {f : Flow} {s' : Shared} (h : SP (X.wish E) pins D f s') : SP X pins D f s' := by
  cases f with
  | next => obtain ⟨σ', H', I, q⟩ := h; exact ⟨σ', H', I.unwish, q⟩
  | brk => obtain ⟨σ', H', I, q⟩ := h; exact ⟨σ', H', I.unwish, q⟩
  | cont => obtain ⟨σ', H', I, q⟩ := h; exact ⟨σ', H', I.unwish, q⟩
  | ret u => obtain ⟨v, σ', H', I, r, q⟩ := h; exact ⟨v, σ', H', I.unwish, r, q⟩
theorem PE.nox {e : Expr} {t : TE} (h : PE X.nox e t) : PE X e t := fun pins s σ H Q I hw =>
  wpAny_mono (h pins s σ H Q (I.wish _) hw) (fun _ _ ⟨v, H', I', r, q⟩ => ⟨v, H', I'.unwish, r, q⟩) fun _ _ z => False.elim z
theorem PT.nox {e : Expr} {t : TT} (h : PT X.nox e t) : PT X e t := fun pins s σ H Q I hw =>
  wpAny_mono (h pins s σ H Q (I.wish _) hw) (fun _ _ ⟨H', I', q⟩ => ⟨H', I'.unwish, q⟩) fun _ _ z => False.elim z
theorem PSs.nox {st : List Stmt} {t : TS} (h : PSs X.nox st t) : PSs X st t := fun pins s σ H D I hw =>
  wpAny_mono (h pins s σ H D (I.wish _) hw) (fun _ _ q => q.unwish) fun _ _ z => False.elim z
end

/-! ### blocks and small statements -/
section
variable {X : Cx} {st : Stmt} {rest : List Stmt} {t u : TS} {e : Expr} {te : TE} {pos : Pos}
def tNext : TS := fun D σ H => D.nx σ H
def tSeq (t u : TS) : TS := fun D σ H => t { D with nx := u D } σ H
theorem pss_nil : PSs X [] tNext := fun _ _ σ H _ I h => wpAny_execs_nil ⟨σ, H, I, h⟩
theorem pss_cons (h1 : PS X st t) (h2 : PSs X rest u) : PSs X (st :: rest) (tSeq t u) := by
  intro pins s σ H D I h
  refine wpAny_execs_cons (thn (h1 pins s σ H { D with nx := u D } I h) fun f s1 q => ?_)
  cases f with
  | next =>
    obtain ⟨σ', H', I', q⟩ := q
    exact h2 pins s1 σ' H' D I' q
  | ret v => exact q
  | brk => exact q
  | cont => exact q
theorem pss_one (h1 : PS X st t) : PSs X [st] t := by
  intro pins s σ H D I h
  refine wpAny_execs_cons (thn (h1 pins s σ H D I h) fun f s1 q => ?_)
  cases f with
  | next => exact wpAny_execs_nil q
  | ret v => exact q
  | brk => exact q
  | cont => exact q
/-- in a def's body nothing is shown -/
theorem Inv.quiet {pins : List (Addr × Obj)} {σ : St} {H : Hp} {s : Shared} (I : Inv X pins σ H s) : interactive X.env = false := by simp [interactive, I.ok.kind]
/-- an expression whose value is dropped -/
def tDrop (te : TE) : TS := fun D σ H => te σ H fun _ H1 => D.nx σ H1
theorem ps_expr (he : PE X e te) (hs : swapsWith e none pos.line X.env = pure false := by rfl) : PS X (.Expr e pos) (tDrop te) := by
  intro pins s σ H D I h
  exact wpAny_Expr_any (thn (he pins s σ H _ I h) fun v s1 ⟨x, H1, I1, r1, q1⟩ => ⟨σ, H1, I1, q1⟩) I.quiet hs
def tRet (te : TE) : TS := fun D σ H => te σ H D.rt
theorem ps_ret (he : PE X e te) : PS X (.Return (some e) pos) (tRet te) := by
  intro pins s σ H D I h
  exact wpAny_Return_some (thn (he pins s σ H _ I h) fun v s1 ⟨x, H1, I1, r1, q1⟩ => ⟨x, σ, H1, I1, r1, q1⟩)
def tIfS (c : TT) (t u : TS) : TS := fun D σ H => c σ H fun b H1 => if b = true then t D σ H1 else u D σ H1
theorem ps_if {c : Expr} {a b : List Stmt} {tc : TT} (hc : PT X c tc) (ha : PSs X a t) (hb : PSs X b u) : PS X (.If c a b pos) (tIfS tc t u) := by
  intro pins s σ H D I h
  refine wpAny_If (thn (hc pins s σ H _ I h) fun d s1 ⟨H1, I1, q1⟩ => ?_)
  cases d with
  | true => exact ha pins s1 σ H1 D I1 q1
  | false => exact hb pins s1 σ H1 D I1 q1
/-- code that the proof never comes to -/
def tNever : TS := fun _ _ _ => False
theorem ps_never : PS X st tNever := fun _ _ _ _ _ _ h => h.elim
end

/-! ### targets -/
abbrev TG := V → St → Hp → (St → Hp → Prop) → Prop
abbrev TGs := List V → St → Hp → (St → Hp → Prop) → Prop
def PG (X : Cx) (target : Expr) (t : TG) : Prop :=
  ∀ (pins : List (Addr × Obj)) (s : Shared) (σ : St) (H : Hp) (v : V) (u : Value) (Q : St → Hp → Prop), Inv X pins σ H s → RelV v u → t v σ H Q →
    wpAny (model X.prog X.w) X.A (assign target X.env u) (fun _ s' => ∃ σ' H', Inv X pins σ' H' s' ∧ Q σ' H') X.xe s
/-- several targets, one after another -/
def PGs (X : Cx) (ts : List Expr) (t : TGs) : Prop :=
  ∀ (pins : List (Addr × Obj)) (s : Shared) (σ : St) (H : Hp) (vs : List V) (us : List Value) (Q : St → Hp → Prop), Inv X pins σ H s → Vals vs us → t vs σ H Q →
    wpAny (model X.prog X.w) X.A (assignInOrder ((assignEach ts X.env).map (·.2)) us) (fun _ s' => ∃ σ' H', Inv X pins σ' H' s' ∧ Q σ' H') X.xe s
/-- o[i] = v, by values -/
abbrev TSet := V → V → V → Hp → (Hp → Prop) → Prop
def PSet (X : Cx) (t : TSet) : Prop :=
  ∀ (pins : List (Addr × Obj)) (s : Shared) (σ : St) (H : Hp) (o i v : V) (ov iv u : Value) (Q : Hp → Prop), Inv X pins σ H s → RelV o ov → RelV i iv → RelV v u → t o i v H Q →
    wpAny (model X.prog X.w) X.A (setItem ov iv u) (fun _ s' => ∃ H', Inv X pins σ H' s' ∧ Q H') X.xe s
section
variable {X : Cx} {pos : Pos}
def gName (i : Nat) : TG := fun v σ H Q => Q (σ.set i (some v)) H
theorem pg_name {i : Nat} {x : Str} (hN : X.N.Nodup) (hi : X.N[i]? = some x) (hx : Loc X.env.scope x) (hf : X.fn x = true ∨ X.env.scope.names.lookup x = some .local := by first | exact .inl rfl | exact .inr rfl | assumption) : PG X (.Name x pos) (gName i) := by
  intro pins s σ H v u Q I r h
  exact wpAny_assign_Name (store_ok I hN hi hx r (fun s' I' => ⟨_, H, I', h⟩) hf)
def gNil : TGs := fun vs σ H Q => vs = [] ∧ Q σ H
def gCons (t : TG) (u : TGs) : TGs := fun vs σ H Q => ∃ v r, vs = v :: r ∧ t v σ H fun σ' H' => u r σ' H' Q
theorem pgs_nil : PGs X [] gNil := by
  intro pins s σ H vs us Q I r h
  obtain ⟨e, h⟩ := h
  subst e
  cases r
  exact assignInOrder_nil ⟨σ, H, I, h⟩
theorem pgs_cons {e : Expr} {es : List Expr} {t : TG} {u : TGs} (h1 : PG X e t) (h2 : PGs X es u)
    (hs : (assignEach (e :: es) X.env).map (·.2) = assign e X.env :: (assignEach es X.env).map (·.2) := by rfl) : PGs X (e :: es) (gCons t u) := by
  intro pins s σ H vs us Q I r h
  obtain ⟨v, vr, e1, h⟩ := h
  subst e1
  cases r with
  | cons r rr =>
    rw [hs]
    refine assignInOrder_cons (thn (h1 pins s σ H _ _ _ I r h) fun _ s1 ⟨σ1, H1, I1, q1⟩ => ?_)
    exact h2 pins s1 σ1 H1 _ _ Q I1 rr q1
/-- (a, b, ..) = a tuple of that length -/
def gTup (K : PySem.W.Frag) (n : Nat) (t : TGs) : TG := fun v σ H Q => ∃ a xs, v = .ref a ∧ SqT K H a xs ∧ xs.length = n ∧ t xs σ H Q
theorem pg_tup {es : List Expr} {k : Nat} {t : TGs} {n : Nat} (hc : X.calm = true) (h : PGs X es t)
    (hn : (assignEach es X.env).length = n := by rfl) (hst : (assignEach es X.env).findIdx? (·.1) = none := by rfl) : PG X (.Tuple es k pos) (gTup X.K n t) := by
  intro pins s σ H v u Q I r hw
  obtain ⟨a, xs, e1, hq, hl, hw⟩ := hw
  subst e1
  cases r
  obtain ⟨its, rv, ht, hz⟩ := I.tuple hq
  refine assign_Tuple_tuple (I.ok.hd hc) ht (by simp [hn, ← hl, rv.length]) hst fun h' hx => ?_
  have I1 : Inv X pins σ H { s with heap := h' } := I.kept (t' := s.toks) fun b o e => hx b o (Nat.ne_of_lt (Heap.lt_size e)) e
  exact h pins _ σ H xs _ Q I1 (by simpa using rv) hw
/-- o[i] = .. -/
def gSub (to ti : TE) (t : TSet) : TG := fun v σ H Q => to σ H fun o H1 => ti σ H1 fun i H2 => t o i v H2 fun H3 => Q σ H3
theorem pg_sub {o i : Expr} {to ti : TE} {t : TSet} (ho : PE X o to) (hi : PE X i ti) (hs : PSet X t)
    (ha : ∀ v, assign (.Subscript o i pos) X.env v = (do
      let ov ← holding [v] (eval o X.env)
      let iv ← holding [v, ov] (eval i X.env)
      standAt pos
      holding [v, ov, iv] (setItem ov iv v)
      release [v, ov, iv] []) := by intro _; rfl) : PG X (.Subscript o i pos) (gSub to ti t) := by
  intro pins s σ H v u Q I r h
  rw [ha]
  refine wpAny_bind (wpAny_holding (thn (ho pins s σ H _ I h) fun ov s1 ⟨x, H1, I1, r1, q1⟩ => ?_))
  refine wpAny_bind (wpAny_holding (thn (hi pins s1 σ H1 _ I1 q1) fun iv s2 ⟨y, H2, I2, r2, q2⟩ => ?_))
  refine wpAny_bind (wpAny_standAt (wpAny_bind (wpAny_holding (thn (hs pins s2 σ H2 x y v ov iv u _ I2 r1 r2 r q2) fun _ s3 ⟨H3, I3, q3⟩ => ?_))))
  exact wpAny_release ⟨σ, H3, I3, q3⟩
/-- target = value -/
def tAsg (te : TE) (g : TG) : TS := fun D σ H => te σ H fun x H1 => g x σ H1 D.nx
theorem ps_asg {tg e : Expr} {te : TE} {g : TG} (he : PE X e te) (hg : PG X tg g) (hs : swapsWithSole [tg] e pos.line X.env = pure false := by rfl) (hw : swappedStores [tg] e X.env = pure none := by rfl)
    (h1 : (assignEach [tg] X.env).map (·.2) = [assign tg X.env] := by rfl) : PS X (.Assign [tg] e pos) (tAsg te g) := by
  intro pins s σ H D I h
  refine wpAny_Assign_stores (thn (he pins s σ H _ I h) fun v s1 ⟨x, H1, I1, r1, q1⟩ => ?_) hs hw
  rw [h1]
  exact thn (hg pins s1 σ H1 x v _ I1 r1 q1) fun _ s2 q => q
/-- name = value -/
theorem ps_set {i : Nat} {x : Str} {e : Expr} {te : TE} {pos' : Pos} (hN : X.N.Nodup) (hi : X.N[i]? = some x) (hx : Loc X.env.scope x) (he : PE X e te) (hs : swapsWith e (some (.Name x pos')) pos.line X.env = pure false := by rfl) (hf : X.fn x = true ∨ X.env.scope.names.lookup x = some .local := by first | exact .inl rfl | exact .inr rfl | assumption) :
    PS X (.Assign [.Name x pos'] e pos) (tAsg te (gName i)) := by
  intro pins s σ H D I h
  refine wpAny_Assign_Name (thn (he pins s σ H _ I h) fun v s1 ⟨y, H1, I1, r1, q1⟩ => ?_) hs
  exact store_ok I1 hN hi hx r1 (fun s2 I2 => ⟨_, H1, I2, q1⟩) hf
end

/-! ### while -/
section
variable {X : Cx} {pos : Pos}
/-- the invariant W with its measure -/
def tWhile (c : TT) (tb : TS) : TS := fun D σ H => ∃ W : Nat → St → Hp → Prop, (∃ m, W m σ H) ∧ ∀ m σ H, W m σ H →
  c σ H fun b H1 => if b = true then ∃ N : St → Hp → Prop, (∀ σ' H', N σ' H' → ∃ m', m' < m ∧ W m' σ' H') ∧ tb { D with nx := N, ct := N, bk := D.nx } σ H1 else D.nx σ H1
theorem ps_while {c : Expr} {body : List Stmt} {tc : TT} {tb : TS} (hp : PassesOwn (model X.prog X.w) X.A X.env X.xe) (hc : PT X c tc) (hb : PSs X body tb) : PS X (.While c body [] pos) (tWhile tc tb) := by
  intro pins s σ H D I h
  obtain ⟨W, ⟨m0, w0⟩, turn⟩ := h
  refine wpAny_While (codeAny_whileLoop (fun n s' => ∃ σ' H', Inv X pins σ' H' s' ∧ W n σ' H') ?_ m0 ⟨σ, H, I, w0⟩)
  rintro n s1 ⟨σ1, H1, I1, w1⟩
  refine wpAny_passesOwn hp (thn (hc pins s1 σ1 H1 _ I1 (turn n σ1 H1 w1)) fun b s2 ⟨H2, I2, q2⟩ => ?_)
  cases b with
  | true =>
    obtain ⟨N, hN, q2⟩ := q2
    rw [if_pos rfl]
    refine wpAny_passesOwn hp (thn (hb pins s2 σ1 H2 _ I2 q2) fun f s3 q3 => ?_)
    cases f with
    | next =>
      obtain ⟨σ3, H3, I3, n3⟩ := q3
      obtain ⟨m', hm, w3⟩ := hN σ3 H3 n3
      exact ⟨m', hm, σ3, H3, I3, w3⟩
    | cont =>
      obtain ⟨σ3, H3, I3, n3⟩ := q3
      obtain ⟨m', hm, w3⟩ := hN σ3 H3 n3
      exact ⟨m', hm, σ3, H3, I3, w3⟩
    | brk => exact q3
    | ret v => exact q3
  | false =>
    rw [if_neg Bool.false_ne_true]
    exact wpAny_execs_nil ⟨σ1, H2, I2, q2⟩
end

/-! ### what a loop or a comprehension walks -/
/-- at turn i: it yields x (the heap may grow), or it stops -/
structure It where
  go : Nat → Hp → Prop
  yld : Nat → Hp → V → Hp → Prop
  stop : Nat → Hp → Prop
/-- the iterator's own objects may turn: they are not the frame's, not pinned, younger than the entry (or a comprehension's own) -/
def FpOk (X : Cx) (pins : List (Addr × Obj)) (H : Hp) (b : Addr) : Prop :=
  H b = none ∧ b ≠ X.env.locals ∧ b ∉ X.fs ∧ (b ∈ X.ex ∨ X.s₀.heap.objs.size ≤ b) ∧ (∀ x c, X.env.cells.lookup x = some c → c ≠ b) ∧ ∀ p ∈ X.pn ++ pins, p.1 ≠ b
theorem Inv.fpOk {X : Cx} {pins : List (Addr × Obj)} {σ : St} {H H' : Hp} {s : Shared} {b : Addr} (I : Inv X pins σ H s) (hb : s.heap.objs.size ≤ b) (hn : H' b = none) : FpOk X pins H' b := by
  refine ⟨hn, Nat.ne_of_gt (Nat.lt_of_lt_of_le I.lt hb), I.nofs hb, .inr (Nat.le_trans I.sz hb), fun x c e z => ?_, fun p hp z => ?_⟩
  · obtain ⟨v, q⟩ := I.cell x c e
    exact absurd (Nat.lt_of_lt_of_le q.lt (by rw [z]; exact hb)) (Nat.lt_irrefl _)
  · exact absurd (Nat.lt_of_lt_of_le (Heap.lt_size (I.pin p hp).1) (by rw [z]; exact hb)) (Nat.lt_irrefl _)
structure Turn (P : Program) (w : World) (K : PySem.W.Frag) (tg : Expr) (J : It) (fp : List Addr) (it : Addr) (tn : Nat → Heap → Prop) : Prop where
  mem : it ∈ fp
  obj : ∀ i h, tn i h → ∀ b ∈ fp, ∃ o, h.get? b = some o ∧ ∀ v, o.data ≠ .cell v
  keep : ∀ i h h', tn i h → (∀ b ∈ fp, ∀ o, h.get? b = some o → h'.get? b = some o) → tn i h'
  item : ∀ (X : Cx), X.prog = P → X.w = w → X.K = K → X.calm = true → ∀ (i : Nat) (pins : List (Addr × Obj)) (s : Shared) (σ : St) (H : Hp) (E : Value → Shared → Prop), Inv X pins σ H s → (∀ b ∈ fp, FpOk X pins H b) → tn i s.heap → J.go i H →
    wpAny (model P w) X.A (pyNext (.ref it)) (fun r s1 => ∃ u, r = some u ∧
      wpAny (model P w) X.A (letOwnedTupleGo tg (.ref it) u) (fun _ s2 => ∃ x H', Inv X pins σ H' s2 ∧ RelV x u ∧ J.yld i H x H' ∧ tn (i + 1) s2.heap ∧ ∀ b ∈ fp, H' b = none) E s1) E s
  done : ∀ (X : Cx), X.prog = P → X.w = w → X.K = K → X.calm = true → ∀ (i : Nat) (pins : List (Addr × Obj)) (s : Shared) (σ : St) (H : Hp) (E : Value → Shared → Prop), Inv X pins σ H s → (∀ b ∈ fp, FpOk X pins H b) → tn i s.heap → J.stop i H →
    wpAny (model P w) X.A (pyNext (.ref it)) (fun r s1 => r = none ∧ Inv X pins σ H s1) E s
  self : ∀ (A : Around) (i : Nat) (s : Shared) (Q : Value → Shared → Prop) (E : Value → Shared → Prop), tn i s.heap → Q (.ref it) s → wpAny (model P w) A (pyIter (.ref it)) Q E s
abbrev TI := St → Hp → (It → Hp → Prop) → Prop
/-- an iterator has come -/
def PIE (X : Cx) (pins : List (Addr × Obj)) (σ : St) (tg : Expr) (R : It → Hp → Prop) (itv : Value) (s2 : Shared) : Prop :=
  ∃ (it : Addr) (fp : List Addr) (tn : Nat → Heap → Prop) (J : It) (H' : Hp), itv = .ref it ∧ Inv X pins σ H' s2 ∧ Turn X.prog X.w X.K tg J fp it tn ∧ tn 0 s2.heap ∧ (∀ b ∈ fp, FpOk X pins H' b) ∧ R J H'
def PI (X : Cx) (tg iter : Expr) (wi : TI) : Prop :=
  ∀ (pins : List (Addr × Obj)) (s : Shared) (σ : St) (H : Hp) (R : It → Hp → Prop), Inv X pins σ H s → wi σ H R →
    wpAny (model X.prog X.w) X.A (eval iter X.env) (fun v s1 => wpAny (model X.prog X.w) X.A (pyIter v) (PIE X pins σ tg R) X.xe s1) X.xe s

/-- the step ahead of the store is nothing for an iterator that keeps no tuple -/
theorem go_of {M : Model} {A : Around} {E : Value → Shared → Prop} {s : Shared} {tg : Expr} {it : Addr} {u : Value} {o : Obj} {n : String} {vs : Array Value} {Q : Unit → Shared → Prop} (ho : s.heap.get? it = some o) (hc : o.cls = .type n) (hd : o.data = .fields vs)
    (hn : ["enumerate", "zip", "dict_itemiterator", "dict_reverseitemiterator", "odict_iterator", "itertools.zip_longest", "itertools.pairwise"].contains n = false) (hQ : Q () s) : wpAny M A (letOwnedTupleGo tg (.ref it) u) Q E s := by
  unfold letOwnedTupleGo
  cases tg <;> first
    | exact wpAny_pure hQ
    | (cases u <;> first
        | exact wpAny_pure hQ
        | (refine wpAny_bind (wpAny_load ho ?_)
           rw [hc, hd]
           show wpAny M A (if (["enumerate", "zip", "dict_itemiterator", "dict_reverseitemiterator", "odict_iterator", "itertools.zip_longest", "itertools.pairwise"].contains n && vs[0]? == some (rawInt _)) = true then _ else _) Q E s
           rw [if_neg (by intro h; rw [hn, Bool.false_and] at h; cases h)]
           exact wpAny_pure hQ))

/-- the list at a, as it stands at each turn (a loop may append to it) -/
def Itl (K : PySem.W.Frag) (a : Addr) : It :=
  ⟨fun i H => ∃ xs x, SqL K H a xs ∧ xs[i]? = some x, fun i H x H' => H' = H ∧ ∀ xs, SqL K H a xs → xs[i]? = some x, fun i H => ∃ xs, SqL K H a xs ∧ xs.length ≤ i⟩
/-- lo, lo + 1, .. (n of them) -/
def Itr (lo : Int) (n : Nat) : It := ⟨fun i _ => i < n, fun i H x H' => H' = H ∧ x = .int (lo + i), fun i _ => n ≤ i⟩
theorem turn_list {P : Program} {w : World} {K : PySem.W.Frag} {tg : Expr} (a it : Addr) : Turn P w K tg (Itl K a) [it] it (fun i h => h.IsListIter it a i) where
  mem := by simp
  obj := fun i h st b hb => by
    have e : b = it := by simpa using hb
    subst e
    obtain ⟨o, e, c, d⟩ := st
    exact ⟨o, e, fun v z => by rw [d] at z; cases z⟩
  keep := fun i h h' st k => st.at fun o e => k it (by simp) o e
  item := by
    intro X hP hw hK hc i pins s σ H E I hf st hg
    subst hP hw hK
    obtain ⟨xs, x, hq, hx⟩ := hg
    obtain ⟨its, rv, p, hz⟩ := I.list hq
    obtain ⟨u, hu, ru⟩ := rv.get hx
    obtain ⟨f0, f1, f2, f3, f4, f5⟩ := hf it (by simp)
    refine wpAny_pyNext_list_item st p.isList (x := u) (by simpa using hu) fun h' st' sb => ?_
    have I1 : Inv X pins σ H { s with heap := h' } := I.turned (t' := s.toks) (fun b o hb e => (sb.2 b hb).trans e) f0 f1 f3 f4 f5
    obtain ⟨o, e, c, d⟩ := id st'
    exact ⟨u, rfl, go_of (s := { s with heap := h' }) e c d (by decide) ⟨x, H, I1, ru, ⟨rfl, fun ys hy => by rw [I.list_inj hy hq]; exact hx⟩, st', fun b hb => (hf b hb).1⟩⟩
  done := by
    intro X hP hw hK hc i pins s σ H E I hf st hg
    subst hP hw hK
    obtain ⟨xs, hq, hx⟩ := hg
    obtain ⟨its, rv, p, hz⟩ := I.list hq
    obtain ⟨f0, f1, f2, f3, f4, f5⟩ := hf it (by simp)
    have hl := rv.length
    exact wpAny_pyNext_list_end (I.ok.hd hc) st p.isList (by simp; omega) fun h' eb => ⟨rfl, I.turned (t' := s.toks) (fun b o hb e => eb b o hb e) f0 f1 f3 f4 f5⟩
  self := fun _ _ _ _ _ st h => wpAny_pyIter_listiter st h
theorem turn_range {P : Program} {w : World} {K : PySem.W.Frag} {tg : Expr} (it : Addr) (lo : Int) (n : Nat) : Turn P w K tg (Itr lo n) [it] it (fun i h => IsRangeIter h it (lo + (i : Nat) * 1) ((n : Int) - (i : Nat)) 1) where
  mem := by simp
  obj := fun i h st b hb => by
    have e : b = it := by simpa using hb
    subst e
    exact ⟨_, st, fun v z => by
      have z' : Data.fields _ = Data.cell v := z
      cases z'⟩
  keep := fun i h h' st k => k it (by simp) _ st
  item := by
    intro X hP hw hK hc i pins s σ H E I hf st hg
    subst hP hw hK
    obtain ⟨f0, f1, f2, f3, f4, f5⟩ := hf it (by simp)
    have W := Walks.range (prog := X.prog) (w := X.w) (I.ok.hd hc) it lo 1 n
    refine W.item i s _ _ hg st fun v h' tk hv st' kk => ?_
    obtain ⟨t, rfl⟩ := hv
    have I1 : Inv X pins σ H { s with heap := h', toks := tk } := I.turned (fun b o hb e => kk b o (by simpa using hb) e) f0 f1 f3 f4 f5
    refine ⟨_, rfl, go_of (s := { s with heap := h', toks := tk }) (n := "range_iterator") st' rfl rfl (by decide) ⟨.int (lo + i), H, I1, ⟨t, ?_⟩, ⟨rfl, rfl⟩, st', fun b hb => (hf b hb).1⟩⟩
    rw [Int.mul_one]
  done := by
    intro X hP hw hK hc i pins s σ H E I hf st hg
    subst hP hw hK
    obtain ⟨f0, f1, f2, f3, f4, f5⟩ := hf it (by simp)
    exact wpAny_pyNext_range_end (I.ok.hd hc) st (by have : n ≤ i := hg; omega) fun h' eb => ⟨rfl, I.turned (t' := s.toks) (fun b o hb e => eb b o hb e) f0 f1 f3 f4 f5⟩
  self := fun _ _ _ _ _ st h => wpAny_pyIter_rangeiter st h
end L2

namespace L2
open PySem PySem.Spec PyProof.Rows
section
variable {X : Cx} {tg : Expr}
def iList (K : PySem.W.Frag) (tl : TE) : TI := fun σ H R => tl σ H fun x H1 => ∃ a, x = .ref a ∧ (∃ xs, SqL K H1 a xs) ∧ R (Itl K a) H1
theorem pi_list {l : Expr} {tl : TE} (hl : PE X l tl) : PI X tg l (iList X.K tl) := by
  intro pins s σ H R I h
  refine thn (hl pins s σ H _ I h) fun v s1 ⟨x, H1, I1, r1, q1⟩ => ?_
  obtain ⟨a, e, ⟨xs, hq⟩, q⟩ := q1
  subst e
  cases r1
  obtain ⟨its, rv, p, hz⟩ := I1.list hq
  refine wpAny_pyIter_list p.isList ?_
  refine ⟨s1.heap.objs.size, [s1.heap.objs.size], _, _, H1, rfl, I1.kept (t' := s1.toks) fun b o e => Heap.get?_push_of_some _ e, turn_list a _, ⟨_, Heap.get?_push_size _ rfl, rfl, rfl⟩, fun b hb => ?_, q⟩
  have e : b = s1.heap.objs.size := by simpa using hb
  subst e
  exact I1.fpOk (Nat.le_refl _) (I1.hok.fresh (Nat.le_refl _))
/-- a range object just made, walked -/
theorem range_it {pins : List (Addr × Obj)} {σ : St} {H : Hp} {s : Shared} {R : It → Hp → Prop} {E : Value → Shared → Prop} {lo hi : Int} {t u v : Tok} {tk : Nat} (I : Inv X pins σ H s) (h1 : -(2 ^ 62) ≤ lo) (h2 : lo < 2 ^ 62) (h3 : -(2 ^ 62) ≤ hi) (h4 : hi < 2 ^ 62)
    (q : R (Itr lo (hi - lo).toNat) H) : wpAny (model X.prog X.w) X.A (pyIter (.ref s.heap.objs.size)) (PIE X pins σ tg R) E { s with heap := s.heap.push { cls := .type "range", data := .fields #[.int lo t, .int hi u, .int 1 v] }, toks := tk } := by
  refine wpAny_pyIter_range (IsRange.new ..) (small_one h1 h2 h3 h4) ?_
  have I1 : Inv X pins σ H { s with heap := s.heap.push { cls := .type "range", data := .fields #[.int lo t, .int hi u, .int 1 v] }, toks := tk } := I.kept fun b o e => Heap.get?_push_of_some _ e
  refine ⟨(s.heap.push { cls := .type "range", data := .fields #[.int lo t, .int hi u, .int 1 v] }).objs.size, [(s.heap.push { cls := .type "range", data := .fields #[.int lo t, .int hi u, .int 1 v] }).objs.size], _, _, H, rfl,
    I1.kept (t' := tk) fun b o e => Heap.get?_push_of_some _ e, turn_range _ lo (hi - lo).toNat, ?_, fun b hb => ?_, q⟩
  · have e1 : lo + ((0 : Nat) : Int) * 1 = lo := by simp
    have e2 : (((hi - lo).toNat : Nat) : Int) - ((0 : Nat) : Int) = Builtin.Range.rangeSize lo hi 1 := by rw [rangeSize_one]; split <;> omega
    show IsRangeIter _ _ (lo + ((0 : Nat) : Int) * 1) ((((hi - lo).toNat : Nat) : Int) - ((0 : Nat) : Int)) 1
    rw [e1, e2]
    exact Heap.get?_push_size _ rfl
  · have e : b = (s.heap.push { cls := .type "range", data := .fields #[.int lo t, .int hi u, .int 1 v] }).objs.size := by simpa using hb
    subst e
    exact I1.fpOk (Nat.le_refl _) (I1.hok.fresh (Nat.le_refl _))
def iRng1 (ta : TA) : TI := fun σ H R => ta σ H fun vs H1 => ∃ j : Int, vs = [.int j] ∧ -(2 ^ 62) ≤ j ∧ j < 2 ^ 62 ∧ R (Itr 0 j.toNat) H1
def iRng2 (ta : TA) : TI := fun σ H R => ta σ H fun vs H1 => ∃ i j : Int, vs = [.int i, .int j] ∧ (-(2 ^ 62) ≤ i ∧ i < 2 ^ 62 ∧ -(2 ^ 62) ≤ j ∧ j < 2 ^ 62) ∧ R (Itr i (j - i).toNat) H1
theorem pi_range1 {a : Expr} {ta : TA} {p pos : Pos} (hg : Gl X "range") (hm : X.mg "range" = none) (ha : PA X [a] ta) (hs : starEach [a] X.env = [(false, eval a X.env)] := by rfl) : PI X tg (.Call (.Name "range" p) [a] [] pos) (iRng1 ta) := by
  intro pins s σ H R I h
  refine Call_ (ld_blt I hg hm boot_range (PyProof.Rows.callWith_type1 (thn (ha pos pins s σ H _ I h) fun us s1 ⟨vs, H1, I1, r1, q1⟩ => ?_) hs rfl))
  obtain ⟨j, e, q1, q2, q⟩ := q1
  subst e
  cases r1 with
  | cons r rr =>
    cases rr
    obtain ⟨t, rfl⟩ := r
    exact call_range_1 (range_it I1 (by omega) (by omega) q1 q2 (by simpa using q))
theorem pi_range2 {a b : Expr} {ta : TA} {p pos : Pos} (hg : Gl X "range") (hm : X.mg "range" = none) (ha : PA X [a, b] ta) (hs : starEach [a, b] X.env = [(false, eval a X.env), (false, eval b X.env)] := by rfl) (hs2 : starEach [b] X.env = [(false, eval b X.env)] := by rfl) :
    PI X tg (.Call (.Name "range" p) [a, b] [] pos) (iRng2 ta) := by
  intro pins s σ H R I h
  refine Call_ (ld_blt I hg hm boot_range (PyProof.Rows.callWith_type1 (thn (ha pos pins s σ H _ I h) fun us s1 ⟨vs, H1, I1, r1, q1⟩ => ?_) (by rw [hs, hs2]) (by rw [hs2]; rfl)))
  obtain ⟨i, j, e, ⟨q1, q2, q3, q4⟩, q⟩ := q1
  subst e
  cases r1 with
  | cons r rr =>
    cases rr with
    | cons r' rr =>
      cases rr
      obtain ⟨t, rfl⟩ := r
      obtain ⟨t', rfl⟩ := r'
      exact call_range_2 (range_it I1 q1 q2 q3 q4 q)

/-! ### for -/
/-- W: the invariant by the turn and a measure; N: what the body is to reach -/
def tFor (wi : TI) (g : TG) (tb : TS) : TS := fun D σ H => wi σ H fun J H1 => ∃ W : Nat → Nat → St → Hp → Prop, (∃ m, W 0 m σ H1) ∧ ∀ i m σ H, W i m σ H →
  (J.stop i H ∧ D.nx σ H) ∨ (J.go i H ∧ ∃ N : St → Hp → Prop, (∀ σ' H', N σ' H' → ∃ m', m' < m ∧ W (i + 1) m' σ' H') ∧ ∀ x H', J.yld i H x H' → g x σ H' fun σ2 H2 => tb { D with nx := N, ct := N, bk := D.nx } σ2 H2)
/-- the records at fp as they stand -/
def pinsAt (fp : List Addr) (h : Heap) : List (Addr × Obj) := fp.filterMap fun b => (h.get? b).map fun o => (b, o)
theorem mem_pinsAt {fp : List Addr} {h : Heap} {b : Addr} {o : Obj} (hb : b ∈ fp) (e : h.get? b = some o) : (b, o) ∈ pinsAt fp h := List.mem_filterMap.mpr ⟨b, hb, by rw [e]; rfl⟩
theorem of_pinsAt {fp : List Addr} {h : Heap} {p : Addr × Obj} (hp : p ∈ pinsAt fp h) : p.1 ∈ fp ∧ h.get? p.1 = some p.2 := by
  obtain ⟨b, hb, e⟩ := List.mem_filterMap.mp hp
  cases q : h.get? b with
  | none => rw [q] at e; cases e
  | some o =>
    rw [q] at e
    have e' : (b, o) = p := Option.some.inj e
    subst e'
    exact ⟨hb, q⟩
theorem Inv.pinned {pins : List (Addr × Obj)} {σ : St} {H : Hp} {s : Shared} {fp : List Addr} (I : Inv X pins σ H s) (hf : ∀ b ∈ fp, FpOk X pins H b) (ho : ∀ b ∈ fp, ∃ o, s.heap.get? b = some o ∧ ∀ v, o.data ≠ .cell v) : Inv X (pins ++ pinsAt fp s.heap) σ H s :=
  I.pins_of fun p hp => (List.mem_append.mp hp).elim (fun z => I.pin p (List.mem_append_right _ z)) fun z => by
    obtain ⟨hb, e⟩ := of_pinsAt z
    obtain ⟨f0, f1, f2, _⟩ := hf p.1 hb
    obtain ⟨o, e', d⟩ := ho p.1 hb
    rw [e] at e'; cases e'
    exact ⟨e, f0, f1, f2, d⟩
theorem Inv.unpinned {pins pl : List (Addr × Obj)} {σ : St} {H : Hp} {s : Shared} (I : Inv X (pins ++ pl) σ H s) : Inv X pins σ H s := I.pins_of fun p hp => I.pin p (List.mem_append_right _ (List.mem_append_left _ hp))
theorem ps_for {iter : Expr} {body : List Stmt} {wi : TI} {g : TG} {tb : TS} {pos : Pos} (hp : PassesOwn (model X.prog X.w) X.A X.env X.xe) (hc : X.calm = true) (hi : PI X tg iter wi) (hg : PG X tg g) (hb : PSs X body tb)
    (hs : ∀ x, foldedSetIterable iter X.env x = pure x := by intro _; rfl) : PS X (.For tg iter body [] pos) (tFor wi g tb) := by
  intro pins s σ H D I h
  refine wpAny_For (thn (hi pins s σ H _ I h) fun v s1 h1 => thn h1 fun itv s2 h2 => ?_) hs
  obtain ⟨it, fp, tn, J, H2, e, I2, T, st2, f2, W, ⟨m0, w0⟩, turn⟩ := h2
  subst e
  -- what stays true of the iterator's objects through the loop
  have stat : ∀ {H' : Hp}, (∀ b ∈ fp, H' b = none) → ∀ b ∈ fp, FpOk X pins H' b := fun hn b hb => ⟨hn b hb, (f2 b hb).2⟩
  refine codeAny_forLoop_any (fun n s' => ∃ i σ' H', Inv X pins σ' H' s' ∧ tn i s'.heap ∧ (∀ b ∈ fp, H' b = none) ∧ W i n σ' H') ?_ m0 ⟨0, σ, H2, I2, st2, fun b hb => (f2 b hb).1, w0⟩
  rintro n s3 ⟨i, σ3, H3, I3, st3, fr3, w3⟩
  rcases turn i n σ3 H3 w3 with ⟨stop, qn⟩ | ⟨go, N, hN, step⟩
  · refine wpAny_passesOwn hp (thn (T.done X rfl rfl rfl hc i pins s3 σ3 H3 X.xe I3 (stat fr3) st3 stop) fun r s4 ⟨hr, I4⟩ => ?_)
    subst hr
    exact wpAny_execs_nil ⟨σ3, H3, I4, qn⟩
  · refine wpAny_passesOwn hp (thn (T.item X rfl rfl rfl hc i pins s3 σ3 H3 X.xe I3 (stat fr3) st3 go) fun r s4 ⟨u, hr, h4⟩ => ?_)
    subst hr
    refine wpAny_passesOwn hp (thn h4 fun _ s5 ⟨x, H5, I5, r5, y5, st5, fr5⟩ => ?_)
    have I5' := I5.pinned (stat fr5) (T.obj _ _ st5)
    refine wpAny_passesOwn hp (thn (hg _ s5 σ3 H5 x u _ I5' r5 (step x H5 y5)) fun _ s6 ⟨σ6, H6, I6, q6⟩ => ?_)
    refine wpAny_passesOwn hp (thn (hb _ s6 σ6 H6 _ I6 q6) fun f s7 q7 => ?_)
    have again : ∀ {σ7 : St} {H7 : Hp}, Inv X (pins ++ pinsAt fp s5.heap) σ7 H7 s7 → N σ7 H7 → ∃ m, m < n ∧ ∃ i σ' H', Inv X pins σ' H' s7 ∧ tn i s7.heap ∧ (∀ b ∈ fp, H' b = none) ∧ W i m σ' H' := fun {σ7 H7} I7 n7 => by
      obtain ⟨m', hm, w7⟩ := hN σ7 H7 n7
      refine ⟨m', hm, i + 1, σ7, H7, I7.unpinned, T.keep _ _ _ st5 fun b hb o e => (I7.pin (b, o) (List.mem_append_right _ (List.mem_append_right _ (mem_pinsAt hb e)))).1, fun b hb => ?_, w7⟩
      obtain ⟨o, e, d⟩ := T.obj _ _ st5 b hb
      exact (I7.pin (b, o) (List.mem_append_right _ (List.mem_append_right _ (mem_pinsAt hb e)))).2.1
    cases f with
    | next => obtain ⟨σ7, H7, I7, n7⟩ := q7; exact again I7 n7
    | cont => obtain ⟨σ7, H7, I7, n7⟩ := q7; exact again I7 n7
    | brk => obtain ⟨σ7, H7, I7, q7⟩ := q7; exact ⟨σ7, H7, I7.unpinned, q7⟩
    | ret v => obtain ⟨x7, σ7, H7, I7, r7, q7⟩ := q7; exact ⟨x7, σ7, H7, I7.unpinned, r7, q7⟩
end

/-! ### the forms one uses -/
/-- over a list that the body leaves as it is -/
theorem for_list {K : PySem.W.Frag} {a : Addr} {xs : List V} {g : TG} {tb : TS} {D : Ends} {σ : St} {H : Hp} (Pv : Nat → St → Hp → Prop) (h0 : Pv 0 σ H) (hl : ∀ i σ H, i ≤ xs.length → Pv i σ H → SqL K H a xs)
    (hs : ∀ i x σ H, xs[i]? = some x → Pv i σ H → g x σ H fun σ2 H2 => tb { D with nx := Pv (i + 1), ct := Pv (i + 1), bk := D.nx } σ2 H2) (hd : ∀ σ H, Pv xs.length σ H → D.nx σ H) :
    ∃ W : Nat → Nat → St → Hp → Prop, (∃ m, W 0 m σ H) ∧ ∀ i m σ H, W i m σ H →
      ((Itl K a).stop i H ∧ D.nx σ H) ∨ ((Itl K a).go i H ∧ ∃ N : St → Hp → Prop, (∀ σ' H', N σ' H' → ∃ m', m' < m ∧ W (i + 1) m' σ' H') ∧ ∀ x H', (Itl K a).yld i H x H' → g x σ H' fun σ2 H2 => tb { D with nx := N, ct := N, bk := D.nx } σ2 H2) := by
  refine ⟨fun i m σ H => m = xs.length - i ∧ i ≤ xs.length ∧ Pv i σ H, ⟨xs.length, by simp, Nat.zero_le _, h0⟩, ?_⟩
  rintro i m σ H ⟨rfl, hi, p⟩
  have q := hl i σ H hi p
  by_cases hlt : i < xs.length
  · refine .inr ⟨⟨xs, xs[i], q, by simp [hlt]⟩, Pv (i + 1), fun σ' H' p' => ⟨xs.length - (i + 1), by omega, rfl, hlt, p'⟩, fun x H' y => ?_⟩
    obtain ⟨e, y⟩ := y
    subst e
    exact hs i x σ _ (y xs q) p
  · have e : i = xs.length := by omega
    subst e
    exact .inl ⟨⟨xs, q, Nat.le_refl _⟩, hd σ H p⟩
theorem for_range {lo : Int} {n : Nat} {g : TG} {tb : TS} {D : Ends} {σ : St} {H : Hp} (Pv : Nat → St → Hp → Prop) (h0 : Pv 0 σ H)
    (hs : ∀ i σ H, i < n → Pv i σ H → g (.int (lo + i)) σ H fun σ2 H2 => tb { D with nx := Pv (i + 1), ct := Pv (i + 1), bk := D.nx } σ2 H2) (hd : ∀ σ H, Pv n σ H → D.nx σ H) :
    ∃ W : Nat → Nat → St → Hp → Prop, (∃ m, W 0 m σ H) ∧ ∀ i m σ H, W i m σ H →
      ((Itr lo n).stop i H ∧ D.nx σ H) ∨ ((Itr lo n).go i H ∧ ∃ N : St → Hp → Prop, (∀ σ' H', N σ' H' → ∃ m', m' < m ∧ W (i + 1) m' σ' H') ∧ ∀ x H', (Itr lo n).yld i H x H' → g x σ H' fun σ2 H2 => tb { D with nx := N, ct := N, bk := D.nx } σ2 H2) := by
  refine ⟨fun i m σ H => m = n - i ∧ i ≤ n ∧ Pv i σ H, ⟨n, by simp, Nat.zero_le _, h0⟩, ?_⟩
  rintro i m σ H ⟨rfl, hi, p⟩
  by_cases hlt : i < n
  · refine .inr ⟨hlt, Pv (i + 1), fun σ' H' p' => ⟨n - (i + 1), by omega, rfl, hlt, p'⟩, fun x H' y => ?_⟩
    obtain ⟨e, y⟩ := y
    subst e y
    exact hs i σ _ hlt p
  · have e : i = n := by omega
    subst e
    exact .inl ⟨Nat.le_refl _, hd σ H p⟩
end L2

namespace L2
open PySem PySem.Spec PyProof.Rows

abbrev R2 := V → V → Hp → VK → Prop
/-- a two-place operation on values: f is binaryOp op, inplaceOp op or compareOp op -/
def OpR (X : Cx) (f : Value → Value → Sem Value) (r : R2) : Prop :=
  ∀ (pins : List (Addr × Obj)) (s : Shared) (σ : St) (H : Hp) (x y : V) (v u : Value) (Q : VK), Inv X pins σ H s → RelV x v → RelV y u → r x y H Q →
    wpAny (model X.prog X.w) X.A (f v u) (EP X pins σ Q) X.xe s
/-- a one-place operation -/
def UnR (X : Cx) (f : Value → Sem Value) (r : V → Hp → VK → Prop) : Prop :=
  ∀ (pins : List (Addr × Obj)) (s : Shared) (σ : St) (H : Hp) (x : V) (v : Value) (Q : VK), Inv X pins σ H s → RelV x v → r x H Q →
    wpAny (model X.prog X.w) X.A (f v) (EP X pins σ Q) X.xe s
/-- a call of a value that is known (a builtin, a type) with values -/
def CallR (X : Cx) (f : Value) (r : List V → Hp → VK → Prop) : Prop :=
  ∀ (pins : List (Addr × Obj)) (s : Shared) (σ : St) (H : Hp) (xs : List V) (us : List Value) (Q : VK), Inv X pins σ H s → Vals xs us → r xs H Q →
    wpAny (model X.prog X.w) X.A (call f us) (EP X pins σ Q) X.xe s

def tOp (r : R2) (ta tb : TE) : TE := fun σ H Q => ta σ H fun x H1 => tb σ H1 fun y H2 => r x y H2 Q
def tUn (r : V → Hp → VK → Prop) (ta : TE) : TE := fun σ H Q => ta σ H fun x H1 => r x H1 Q
/-- ints in, under C, and a value out -/
def rI (C : Int → Int → Prop) (g : Int → Int → V) : R2 := fun x y H Q => ∃ i j, x = .int i ∧ y = .int j ∧ C i j ∧ Q (g i j) H
def rI0 (g : Int → Int → V) : R2 := fun x y H Q => ∃ i j, x = .int i ∧ y = .int j ∧ Q (g i j) H
def rU (g : Int → V) : V → Hp → VK → Prop := fun x H Q => ∃ i, x = .int i ∧ Q (g i) H

section
variable {X : Cx} {a b c : Expr} {ta tb tc : TE} {pos : Pos}

theorem binT (ha : PE X a ta) (hb : PE X b tb) {pins : List (Addr × Obj)} {s : Shared} {σ : St} {H : Hp} {R : V → V → Hp → Prop} (I : Inv X pins σ H s)
    (h : ta σ H fun x H1 => tb σ H1 fun y H2 => R x y H2) {Q : Value → Shared → Prop} {f : Value → Value → Sem Value}
    (hf : ∀ v u s2 x y H2, Inv X pins σ H2 s2 → RelV x v → RelV y u → R x y H2 → wpAny (model X.prog X.w) X.A (f v u) Q X.xe s2) :
    wpAny (model X.prog X.w) X.A (eval a X.env) (fun v s₁ => wpAny (model X.prog X.w) X.A (eval b X.env) (fun u s₂ => wpAny (model X.prog X.w) X.A (f v u) Q X.xe s₂) X.xe s₁) X.xe s := by
  refine thn (ha pins s σ H _ I h) fun v s1 ⟨x, H1, I1, r1, q1⟩ => ?_
  refine thn (hb pins s1 σ H1 _ I1 q1) fun u s2 ⟨y, H2, I2, r2, q2⟩ => ?_
  exact hf v u s2 x y H2 I2 r1 r2 q2

theorem pe_op {op : Operator} {r : R2} (ho : OpR X (binaryOp op) r) (ha : PE X a ta) (hb : PE X b tb) : PE X (.BinOp a op b pos) (tOp r ta tb) := by
  intro pins s σ H Q I h
  exact wpAny_BinOp (binT ha hb I h fun v u s2 x y H2 I2 rx ry q => ho pins s2 σ H2 x y v u Q I2 rx ry q)
theorem pe_un {op : UnaryOp} {r : V → Hp → VK → Prop} (ho : UnR X (unaryOp op) r) (ha : PE X a ta) : PE X (.UnaryOp op a pos) (tUn r ta) := by
  intro pins s σ H Q I h
  exact UnaryOp_ (thn (ha pins s σ H _ I h) fun v s1 ⟨x, H1, I1, r1, q1⟩ => ho pins s1 σ H1 x v Q I1 r1 q1)

/-! ### ints -/
theorem opI {f : Value → Value → Sem Value} {C : Int → Int → Prop} {g : Int → Int → Int}
    (rule : ∀ (i j : Int) (t u : Tok) (s : Shared) (Q : Value → Shared → Prop) (E : Value → Shared → Prop), C i j → Q (.int (g i j) s.toks) { s with toks := s.toks + 1 } → wpAny (model X.prog X.w) X.A (f (.int i t) (.int j u)) Q E s) :
    OpR X f (rI C fun i j => .int (g i j)) := by
  intro pins s σ H x y v u Q I rx ry h
  obtain ⟨i, j, rfl, rfl, hc, q⟩ := h
  obtain ⟨t, rfl⟩ := rx
  obtain ⟨t', rfl⟩ := ry
  exact rule i j t t' s _ _ hc ⟨.int (g i j), H, I.tok _, ⟨_, rfl⟩, q⟩
theorem opI0 {f : Value → Value → Sem Value} {g : Int → Int → Int}
    (rule : ∀ (i j : Int) (t u : Tok) (s : Shared) (Q : Value → Shared → Prop) (E : Value → Shared → Prop), Q (.int (g i j) s.toks) { s with toks := s.toks + 1 } → wpAny (model X.prog X.w) X.A (f (.int i t) (.int j u)) Q E s) :
    OpR X f (rI0 fun i j => .int (g i j)) := by
  intro pins s σ H x y v u Q I rx ry h
  obtain ⟨i, j, rfl, rfl, q⟩ := h
  obtain ⟨t, rfl⟩ := rx
  obtain ⟨t', rfl⟩ := ry
  exact rule i j t t' s _ _ ⟨.int (g i j), H, I.tok _, ⟨_, rfl⟩, q⟩
theorem opB0 {f : Value → Value → Sem Value} {g : Int → Int → Bool}
    (rule : ∀ (i j : Int) (t u : Tok) (s : Shared) (Q : Value → Shared → Prop) (E : Value → Shared → Prop), Q (.bool (g i j)) s → wpAny (model X.prog X.w) X.A (f (.int i t) (.int j u)) Q E s) :
    OpR X f (rI0 fun i j => .bl (g i j)) := by
  intro pins s σ H x y v u Q I rx ry h
  obtain ⟨i, j, rfl, rfl, q⟩ := h
  obtain ⟨t, rfl⟩ := rx
  obtain ⟨t', rfl⟩ := ry
  exact rule i j t t' s _ _ ⟨.bl (g i j), H, I, rfl, q⟩

def CPow (i j : Int) : Prop := 0 ≤ j ∧ j ≤ 1000000 ∧ i.natAbs < 2 ^ 64
def CMul (i j : Int) : Prop := (-(2 ^ 64) < i ∧ i < 2 ^ 64) ∨ (-(2 ^ 64) < j ∧ j < 2 ^ 64)
theorem CMul.ok {i j : Int} (h : CMul i j) : IntMulOk i j := by
  rcases h with ⟨h1, h2⟩ | ⟨h1, h2⟩
  · exact .of_left (intBits_le_64 h1 h2)
  · exact .of_right (intBits_le_64 h1 h2)

theorem op_add : OpR X (binaryOp .Add) (rI0 fun i j => .int (i + j)) := opI0 fun _ _ _ _ _ _ _ q => add_int q
theorem op_sub : OpR X (binaryOp .Sub) (rI0 fun i j => .int (i - j)) := opI0 fun _ _ _ _ _ _ _ q => sub_int q
theorem op_mul : OpR X (binaryOp .Mult) (rI CMul fun i j => .int (i * j)) := opI fun _ _ _ _ _ _ _ hc q => mul_int q hc.ok
/-- % by a positive divisor of any size -/
theorem op_mod : OpR X (binaryOp .Mod) (rI (fun _ j => 0 < j) fun i j => .int (i % j)) := opI fun i j _ _ _ _ _ hc q => by
  have h1 : (0 : Int) < j := hc
  exact mod_int' (by omega) (by rw [Int.fmod_eq_emod_of_nonneg i (by omega)]; exact q)
theorem op_pow : OpR X (binaryOp .Pow) (rI CPow fun i j => .int (i ^ j.toNat)) := opI fun _ _ _ _ _ _ _ hc q => pow_int_small hc.1 hc.2.1 hc.2.2 q


theorem unI {f : Value → Sem Value} {g : Int → Int}
    (rule : ∀ (i : Int) (t : Tok) (s : Shared) (Q : Value → Shared → Prop) (E : Value → Shared → Prop), Q (.int (g i) s.toks) { s with toks := s.toks + 1 } → wpAny (model X.prog X.w) X.A (f (.int i t)) Q E s) :
    UnR X f (rU fun i => .int (g i)) := by
  intro pins s σ H x v Q I rx h
  obtain ⟨i, rfl, q⟩ := h
  obtain ⟨t, rfl⟩ := rx
  exact rule i t s _ _ ⟨.int (g i), H, I.tok _, ⟨_, rfl⟩, q⟩
theorem un_neg : UnR X (unaryOp .USub) (rU fun i => .int (-i)) := unI fun _ _ _ _ _ q => neg_int q

/-! ### bools among ints: n += (a < b) -/
end

/-! ### comparisons -/
/-- the scalars that == tells apart as data does -/
def scal : V → V → Bool
  | .non, .non => true | .non, .int _ => true | .int _, .non => true | .non, .bl _ => true | .bl _, .non => true | .non, .str _ => true | .str _, .non => true
  | .int _, .int _ => true | .bl _, .bl _ => true | .str _, .str _ => true | .byt _, .byt _ => true
  | .int _, .str _ => true | .str _, .int _ => true | .bl _, .str _ => true | .str _, .bl _ => true
  | _, _ => false
def rEq : R2 := fun x y H Q => scal x y = true ∧ Q (.bl (decide (x = y))) H
def rNe : R2 := fun x y H Q => scal x y = true ∧ Q (.bl (!decide (x = y))) H

theorem dec_int {i j : Int} : decide (V.int i = V.int j) = (i == j) := by
  rw [Bool.eq_iff_iff]
  simp
theorem dec_bl {i j : Bool} : decide (V.bl i = V.bl j) = (i == j) := by
  rw [Bool.eq_iff_iff]
  simp
theorem dec_str {i j : Str} : decide (V.str i = V.str j) = (i == j) := by
  rw [Bool.eq_iff_iff]
  simp
theorem dec_byt {i j : Array UInt8} : decide (V.byt i = V.byt j) = (i.toList == j.toList) := by
  rw [Bool.eq_iff_iff]
  cases i
  cases j
  simp

section
variable {X : Cx} {a b c : Expr} {ta tb tc : TE} {pos : Pos}
theorem fin_bl {pins : List (Addr × Obj)} {σ : St} {H : Hp} {s : Shared} {Q : VK} {k k' : Bool} (I : Inv X pins σ H s) (q : Q (.bl k) H) (e : k = k') : EP X pins σ Q (.bool k') s := by
  subst e
  exact ⟨.bl k, H, I, rfl, q⟩
theorem op_eq : OpR X (compareOp .Eq) rEq := by
  intro pins s σ H x y v u Q I rx ry h
  obtain ⟨hs, q⟩ := h
  cases x with
  | non =>
    cases rx
    cases y with
    | non => cases ry; exact PySem.EqNone.eq_none_none (fin_bl I q (by simp))
    | bl j => cases ry; exact PySem.EqNone.eq_none_bool (fin_bl I q (by simp))
    | int j => obtain ⟨t', rfl⟩ := ry; exact PySem.EqNone.eq_none_int (fin_bl I q (by simp))
    | str j => obtain ⟨t', rfl⟩ := ry; exact PySem.EqNone.eq_none_str (fin_bl I q (by simp))
    | _ => exact absurd (show false = true from hs) Bool.false_ne_true
  | bl i =>
    cases rx
    cases y with
    | non => cases ry; exact PySem.EqNone.eq_bool_none (fin_bl I q (by simp))
    | bl j => cases ry; exact eq_bool (fin_bl I q dec_bl)
    | str j => obtain ⟨t', rfl⟩ := ry; exact PySem.EqMixed.eq_bool_str (fin_bl I q (by simp))
    | _ => exact absurd (show false = true from hs) Bool.false_ne_true
  | int i =>
    obtain ⟨t, rfl⟩ := rx
    cases y with
    | non => cases ry; exact PySem.EqNone.eq_int_none (fin_bl I q (by simp))
    | int j => obtain ⟨t', rfl⟩ := ry; exact eq_int (fin_bl I q dec_int)
    | str j => obtain ⟨t', rfl⟩ := ry; exact PySem.EqMixed.eq_int_str (fin_bl I q (by simp))
    | _ => exact absurd (show false = true from hs) Bool.false_ne_true
  | str i =>
    obtain ⟨t, rfl⟩ := rx
    cases y with
    | non => cases ry; exact PySem.EqNone.eq_str_none (fin_bl I q (by simp))
    | bl j => cases ry; exact PySem.EqMixed.eq_str_bool (fin_bl I q (by simp))
    | int j => obtain ⟨t', rfl⟩ := ry; exact PySem.EqMixed.eq_str_int (fin_bl I q (by simp))
    | str j => obtain ⟨t', rfl⟩ := ry; exact eq_str (fin_bl I q dec_str)
    | _ => exact absurd (show false = true from hs) Bool.false_ne_true
  | byt i =>
    obtain ⟨t, rfl⟩ := rx
    cases y with
    | byt j => obtain ⟨t', rfl⟩ := ry; exact PySem.W.eq_bytes (fin_bl I q dec_byt)
    | _ => exact absurd (show false = true from hs) Bool.false_ne_true
  | _ => cases y <;> exact absurd (show false = true from hs) Bool.false_ne_true
theorem op_ne : OpR X (compareOp .NotEq) rNe := by
  intro pins s σ H x y v u Q I rx ry h
  obtain ⟨hs, q⟩ := h
  cases x with
  | non =>
    cases rx
    cases y with
    | non => cases ry; exact PySem.EqNone.ne_none_none (fin_bl I q (by simp))
    | bl j => cases ry; exact PySem.EqNone.ne_none_bool (fin_bl I q (by simp))
    | int j => obtain ⟨t', rfl⟩ := ry; exact PySem.EqNone.ne_none_int (fin_bl I q (by simp))
    | str j => obtain ⟨t', rfl⟩ := ry; exact PySem.EqNone.ne_none_str (fin_bl I q (by simp))
    | _ => exact absurd (show false = true from hs) Bool.false_ne_true
  | bl i =>
    cases rx
    cases y with
    | non => cases ry; exact PySem.EqNone.ne_bool_none (fin_bl I q (by simp))
    | bl j => cases ry; exact ne_bool (fin_bl I q (congrArg not dec_bl))
    | str j => obtain ⟨t', rfl⟩ := ry; exact PySem.EqMixed.ne_bool_str (fin_bl I q (by simp))
    | _ => exact absurd (show false = true from hs) Bool.false_ne_true
  | int i =>
    obtain ⟨t, rfl⟩ := rx
    cases y with
    | non => cases ry; exact PySem.EqNone.ne_int_none (fin_bl I q (by simp))
    | int j => obtain ⟨t', rfl⟩ := ry; exact ne_int (fin_bl I q (congrArg not dec_int))
    | str j => obtain ⟨t', rfl⟩ := ry; exact PySem.EqMixed.ne_int_str (fin_bl I q (by simp))
    | _ => exact absurd (show false = true from hs) Bool.false_ne_true
  | str i =>
    obtain ⟨t, rfl⟩ := rx
    cases y with
    | non => cases ry; exact PySem.EqNone.ne_str_none (fin_bl I q (by simp))
    | bl j => cases ry; exact PySem.EqMixed.ne_str_bool (fin_bl I q (by simp))
    | int j => obtain ⟨t', rfl⟩ := ry; exact PySem.EqMixed.ne_str_int (fin_bl I q (by simp))
    | str j => obtain ⟨t', rfl⟩ := ry; exact ne_str (fin_bl I q (congrArg not dec_str))
    | _ => exact absurd (show false = true from hs) Bool.false_ne_true
  | byt i =>
    obtain ⟨t, rfl⟩ := rx
    cases y with
    | byt j => obtain ⟨t', rfl⟩ := ry; exact PySem.W.ne_bytes (fin_bl I q (congrArg not dec_byt))
    | _ => exact absurd (show false = true from hs) Bool.false_ne_true
  | _ => cases y <;> exact absurd (show false = true from hs) Bool.false_ne_true

theorem op_lt : OpR X (compareOp .Lt) (rI0 fun i j => .bl (decide (i < j))) := opB0 fun _ _ _ _ _ _ _ q => lt_int q
theorem op_le : OpR X (compareOp .LtE) (rI0 fun i j => .bl (decide (i ≤ j))) := opB0 fun _ _ _ _ _ _ _ q => le_int q
theorem op_gt : OpR X (compareOp .Gt) (rI0 fun i j => .bl (decide (j < i))) := opB0 fun _ _ _ _ _ _ _ q => gt_int q



/-- two rules for one operation: by cases -/
theorem OpR.or {f : Value → Value → Sem Value} {r r' : R2} (h : OpR X f r) (h' : OpR X f r') : OpR X f (fun x y H Q => r x y H Q ∨ r' x y H Q) := by
  intro pins s σ H x y v u Q I rx ry q
  rcases q with q | q
  · exact h pins s σ H x y v u Q I rx ry q
  · exact h' pins s σ H x y v u Q I rx ry q

theorem nomark (b : Expr) {op : CmpOp} (h : op ≠ .In := by decide) (h2 : op ≠ .NotIn := by decide) : behindInMarks op b = false := by
  have e1 : (op == CmpOp.In) = false := by cases op <;> first | rfl | exact absurd rfl h
  have e2 : (op == CmpOp.NotIn) = false := by cases op <;> first | rfl | exact absurd rfl h2
  cases b <;> simp [behindInMarks, e1, e2]
/-- a comparison as a value; hm: nomark b, or (for in, not in) by with_unfolding_all rfl -/
theorem pe_cmpR {op : CmpOp} {r : R2} (ho : OpR X (compareOp op) r) (ha : PE X a ta) (hb : PE X b tb) (hm : behindInMarks op b = false) : PE X (.Compare a [op] [b] pos) (tOp r ta tb) := by
  intro pins s σ H Q I h
  exact wpAny_Compare1 (binT ha hb I h fun v u s2 x y H2 I2 rx ry q => ho pins s2 σ H2 x y v u Q I2 rx ry q) hm
/-- a reading of a value as a test -/
def tTest (t : TE) : TT := fun σ H Q => t σ H fun x H' => ∃ k, x = .bl k ∧ Q k H'
theorem pt_cmpR {op : CmpOp} {r : R2} (ho : OpR X (compareOp op) r) (ha : PE X a ta) (hb : PE X b tb) (hm : behindInMarks op b = false) : PT X (.Compare a [op] [b] pos) (tTest (tOp r ta tb)) := by
  intro pins s σ H Q I h
  refine wpAny_isTrue_Compare1 (thn (ha pins s σ H _ I h) fun v s1 ⟨x, H1, I1, r1, q1⟩ => thn (hb pins s1 σ H1 _ I1 q1) fun u s2 ⟨y, H2, I2, r2, q2⟩ =>
    thn (ho pins s2 σ H2 x y v u _ I2 r1 r2 q2) fun c s3 ⟨z, H3, I3, r3, k, e, q3⟩ => ?_) hm
  subst e
  cases r3
  exact wpAny_truthy_bool ⟨H3, I3, q3⟩
/-- a op1 b op2 c -/
def tChain (r r' : R2) (ta tb tc : TE) : TE := fun σ H Q => ta σ H fun x H1 => tb σ H1 fun y H2 => r x y H2 fun z H3 => ∃ k, z = .bl k ∧
  (if k = true then tc σ H3 fun w' H4 => r' y w' H4 Q else Q (.bl false) H3)
theorem pe_chain {op op' : CmpOp} {r r' : R2} (ho : OpR X (compareOp op) r) (ho' : OpR X (compareOp op') r') (ha : PE X a ta) (hb : PE X b tb) (hc : PE X c tc)
    (hm : lastMarks [op, op'] [b, c] = false := by with_unfolding_all rfl) : PE X (.Compare a [op, op'] [b, c] pos) (tChain r r' ta tb tc) := by
  intro pins s σ H Q I h
  refine Compare_chain (thn (ha pins s σ H _ I h) fun v s1 ⟨x, H1, I1, r1, q1⟩ => chain_link (thn (hb pins s1 σ H1 _ I1 q1) fun u s2 ⟨y, H2, I2, r2, q2⟩ =>
    thn (ho pins s2 σ H2 x y v u _ I2 r1 r2 q2) fun d s3 ⟨z, H3, I3, r3, k, e, q3⟩ => ?_)) hm
  subst e
  cases r3
  refine wpAny_truthy_bool ?_
  cases k with
  | false => exact ite_ff ⟨.bl false, H3, I3, rfl, q3⟩
  | true => exact ite_tt (chain_last (thn (hc pins s3 σ H3 _ I3 q3) fun w' s4 ⟨z', H4, I4, r4, q4⟩ => ho' pins s4 σ H4 y z' u w' Q I4 r2 r4 q4))

/-! ### truth -/
theorem line63 : (sizeLine : Nat) < 2 ^ 63 := by rw [sizeLine_eq]; decide

/-! ### strs and bytes -/


/-! ### scalar builtins, by CallR -/
theorem vals1 {x : V} {us : List Value} (r : Vals [x] us) : ∃ u, us = [u] ∧ RelV x u := by
  cases r with
  | cons r1 r2 => cases r2; exact ⟨_, rfl, r1⟩
theorem vals2 {x y : V} {us : List Value} (r : Vals [x, y] us) : ∃ u w', us = [u, w'] ∧ RelV x u ∧ RelV y w' := by
  cases r with
  | cons r1 r2 =>
    cases r2 with
    | cons r3 r4 => cases r4; exact ⟨_, _, rfl, r1, r3⟩
theorem call_max2 (hc : X.calm = true) : CallR X (.builtin "max") (fun xs H Q => ∃ i j, xs = [.int i, .int j] ∧ Q (.int (if j > i then j else i)) H) := by
  intro pins s σ H xs us Q I r h
  obtain ⟨i, j, rfl, q⟩ := h
  obtain ⟨u, w', rfl, ⟨t, rfl⟩, ⟨t', rfl⟩⟩ := vals2 r
  refine max_two_ints (I.ok.hd hc) fun h' tk k => ⟨_, H, I.kept k, ?_, q⟩
  by_cases hj : j > i
  · rw [if_pos hj, if_pos hj]; exact ⟨_, rfl⟩
  · rw [if_neg hj, if_neg hj]; exact ⟨_, rfl⟩
theorem call_min2 (hc : X.calm = true) : CallR X (.builtin "min") (fun xs H Q => ∃ i j, xs = [.int i, .int j] ∧ Q (.int (if j < i then j else i)) H) := by
  intro pins s σ H xs us Q I r h
  obtain ⟨i, j, rfl, q⟩ := h
  obtain ⟨u, w', rfl, ⟨t, rfl⟩, ⟨t', rfl⟩⟩ := vals2 r
  refine min_two_ints (I.ok.hd hc) fun h' tk k => ⟨_, H, I.kept k, ?_, q⟩
  by_cases hj : j < i
  · rw [if_pos hj, if_pos hj]; exact ⟨_, rfl⟩
  · rw [if_neg hj, if_neg hj]; exact ⟨_, rfl⟩
end
end L2

namespace L2
open PySem PySem.Spec PyProof.Rows

/-! ### an instance, its attributes a map -/
structure ObjM (h : Heap) (x dx C : Addr) (mA : Str → Option Value) : Prop where
  obj : h.get? x = some (PySem.W.instObj C dx)
  ns : h.Ns1 dx mA
  ne : dx ≠ x

theorem lookIn_ns {h : Heap} {dx : Addr} {mA : Str → Option Value} (n : h.Ns1 dx mA) : ∃ od, h.get? dx = some od ∧ ∀ name, PySem.W.lookIn name od = some (mA name) := by
  obtain ⟨o, es, ep, ho, hd, hk, _, hm⟩ := n
  refine ⟨o, ho, fun name => ?_⟩
  have e := hm name
  unfold nsFind findBy at e
  rw [← Array.find?_toList] at e
  unfold PySem.W.lookIn
  rw [hd]
  dsimp only
  split
  · rename_i y q
    rw [q] at e
    exact congrArg some e
  · rename_i q
    rw [q] at e
    have a : es.toList.any (·.refKey) = false := by
      rw [List.any_eq_false]
      intro y hy
      obtain ⟨z, t, hkey⟩ := hk y (Array.mem_toList_iff.mp hy)
      simp [DictEntry.refKey, hkey]
    have a' : ¬ es.toList.any (·.refKey) = true := by rw [a]; exact Bool.false_ne_true
    rw [if_neg a']
    exact congrArg some e

theorem ObjM.look {h : Heap} {x dx C : Addr} {mA : Str → Option Value} (I : ObjM h x dx C mA) : ∃ od, PySem.W.InstAt h x (PySem.W.instObj C dx) C (some od) ∧ ∀ name, PySem.W.lookIn name od = some (mA name) :=
  let ⟨od, ho, hl⟩ := lookIn_ns I.ns
  ⟨od, ⟨I.obj, rfl, rfl, ho⟩, hl⟩

section
variable {prog : Program} {w : World} {A : Around} {E : Value → Shared → Prop} {s : Shared} {K : PySem.W.Frag} {x dx C f : Addr} {mA : Str → Option Value} {name : Str} {v : Value}





end

/-! ### the attributes as a list of pairs -/

theorem RelO.some_of {v : V} {o : Option Value} (r : RelO (some v) o) : ∃ u, o = some u ∧ RelV v u := by
  cases o with
  | none => exact (show False from r).elim
  | some u => exact ⟨u, rfl, r⟩

section
variable {P : Program} {w : World} {H H' : Hp} {h h' : Heap} {a C dx : Addr} {fs fs' : List (Str × V)}
theorem ins_get (hok : HOk P w H h) (e : H a = some (.ins C dx fs)) : ∃ mA, ObjM h a dx C mA ∧ (∀ f, RelO (fs.lookup f) (mA f)) ∧ PySem.Within mA (fs.map (·.1)) ∧ fs.length ≤ 1000 ∧ H dx = some (.own a) := by
  obtain ⟨d, z, ne, ob, mA, n, r, q⟩ := (show ObjOk P w H h a (.ins C dx fs) from hok a _ e)
  exact ⟨mA, ⟨ob, n, ne⟩, r, q, z, d⟩
end

/-! ### what of the text a class must have -/
structure Cls (K : PySem.W.Frag) (C : Addr) : Prop where
  pg : PySem.W.plainGet K C Str.empty = true
  hd : PySem.W.hasDictIn K C = true
  po : PySem.W.plainOver K C = true
  sa : PySem.W.findIn K (.ref C) "__setattr__" = some (some (.builtin "object.__setattr__"))
theorem Cls.get {K : PySem.W.Frag} {C : Addr} (c : Cls K C) (f : Str) : PySem.W.plainGet K C f = true := c.pg
/-- a constant of the class -/
structure Con (K : PySem.W.Frag) (C : Addr) (f : Str) (v : V) (u : Value) : Prop where
  at_ : PySem.W.findIn K (.ref C) f = some (some u)
  rel : RelV v u
  get : PySem.W.specialIn K u "__get__" = some none
  cp : PySem.W.copiedNames.contains f = false
/-- a method: a plain def of the class or of one above it -/
structure Meth (K : PySem.W.Frag) (C : Addr) (m : Str) (f : Addr) : Prop where
  at_ : PySem.W.findIn K (.ref C) m = some (some (.ref f))
  fn : PySem.W.isFn K (.ref f) = true
  kp : PySem.W.keepIn K (.ref f) = true

section
variable {X : Cx} {pins : List (Addr × Obj)} {σ : St} {H : Hp} {s : Shared} {a C dx : Addr} {fs : List (Str × V)} {f : Str} {v : V} {A : Around} {E : Value → Shared → Prop}





/-- a new instance, tracked, without attributes -/
theorem Inv.made (I : Inv X pins σ H s) : Inv X pins σ (upd (upd H s.heap.objs.size (.own (s.heap.objs.size + 1))) (s.heap.objs.size + 1) (.ins C s.heap.objs.size []))
    { s with heap := (s.heap.push PySem.W.emptyDict).push (PySem.W.instObj C s.heap.objs.size) } := by
  have e1 : (s.heap.push PySem.W.emptyDict).get? s.heap.objs.size = some PySem.W.emptyDict := Heap.get?_push_size s.heap rfl
  have e2 : ((s.heap.push PySem.W.emptyDict).push (PySem.W.instObj C s.heap.objs.size)).get? (s.heap.objs.size + 1) = some (PySem.W.instObj C s.heap.objs.size) := by
    have := Heap.get?_push_size (s.heap.push PySem.W.emptyDict) (o := PySem.W.instObj C s.heap.objs.size) rfl
    rwa [Heap.size_push] at this
  have e3 : (s.heap.push PySem.W.emptyDict).Ns s.heap.objs.size (fun _ => none) := ⟨PySem.W.emptyDict, #[], _, e1, rfl, (fun e he => absurd he (by simp)), fun _ => rfl⟩
  have I1 := I.laid (a := s.heap.objs.size) (o := .own (s.heap.objs.size + 1)) (h' := s.heap.push PySem.W.emptyDict) (t' := s.toks) (fun b u q => Heap.get?_push_of_some _ q) (Nat.le_refl _) ⟨_, e1⟩
  refine I1.laid (a := s.heap.objs.size + 1) (o := .ins C s.heap.objs.size []) (t' := s.toks) (fun b u q => Heap.get?_push_of_some _ q) (Nat.le_of_eq (Heap.size_push _ _)) ?_
  have ne : s.heap.objs.size ≠ s.heap.objs.size + 1 := Nat.ne_of_lt (Nat.lt_succ_self _)
  refine ⟨by rw [upd_ne ne, upd_same], Nat.zero_le _, ne, e2, fun _ => none, (Heap.Ns1.of_empty e3).at fun o q => Heap.get?_push_of_some _ q, fun _ => True.intro, fun y hy => absurd rfl hy⟩

end

/-! ### readings and rules -/

section
variable {X : Cx} {o e value : Expr} {f : Str} {pos pos' tpos : Pos} {ta tv : TE}

end

/-! ### isinstance -/
section
variable {X : Cx} {pins : List (Addr × Obj)} {σ : St} {H : Hp} {s : Shared} {A : Around} {E : Value → Shared → Prop} {Q : Value → Shared → Prop} {c : Value} {b : Bool}
/-- the type of a value, as the fragment's deciders take it; for an instance its class -/
inductive TyOf (K : PySem.W.Frag) (H : Hp) : V → Value → Prop where
  | non : TyOf K H .non (.type "NoneType")
  | bl (x : Bool) : TyOf K H (.bl x) (.type "bool")
  | int (i : Int) : TyOf K H (.int i) (.type "int")
  | str (x : Str) : TyOf K H (.str x) (.type "str")
  | flt (x : UInt64) : TyOf K H (.flt x) (.type "float")
  | lst {a : Addr} {xs : List V} (e : H a = some (.lst xs)) : TyOf K H (.ref a) (.type "list")
  | frz {a : Addr} {o : Obj} {xs : List V} (e : H a = some (.frz o (.lst xs))) : TyOf K H (.ref a) (.type "list")
  | tup {a : Addr} {xs : List V} (e : H a = some (.tup xs)) : TyOf K H (.ref a) (.type "tuple")
  | dK {a : Addr} {kvs : List (Key × V)} (e : H a = some (.dK kvs)) : TyOf K H (.ref a) (.type "dict")
  | dT {a : Addr} {kvs : List (List Key × V)} (e : H a = some (.dT kvs)) : TyOf K H (.ref a) (.type "dict")
  | ins {a C dx : Addr} {fs : List (Str × V)} (e : H a = some (.ins C dx fs)) (cl : Cls K C) (ha : PySem.W.findIn K (.ref C) "__class__" = some (some (.builtin "object.__class__")))
      (hn : PySem.W.specialIn K (.builtin "object.__class__") "__get__" = some (some (.builtin "getset_descriptor.__get__"))) (htk : PySem.W.takesIn K (.builtin "object.__class__") = some true)
      (hm : PySem.W.mroIn K C (.type "object") = some true) : TyOf K H (.ref a) (.ref C)
/-- isinstance(x, c) for one class c, a built-in or an own one: kitOne's answer -/
theorem isinst_ok {x : V} {u t : Value} (I : Inv X pins σ H s) (rx : RelV x u) (ty : TyOf X.K H x t) (e : PySem.W.kitOne X.K t c = some b) (h : ∀ tk, Q (.bool b) { s with toks := tk }) :
    wpAny (model X.prog X.w) A (call (.builtin "isinstance") [u, c]) Q E s := by
  cases ty with
  | non => cases (show u = Value.none from rx); exact PySem.W.kia_one PySem.W.kitx_none I.kIn True.intro e (fun z => nomatch z) h
  | bl y => cases (show u = Value.bool y from rx); exact PySem.W.kia_one PySem.W.kitx_bool I.kIn True.intro e (fun z => nomatch z) h
  | int i => obtain ⟨t, q⟩ := (show ∃ t, u = Value.int i t from rx); cases q; exact PySem.W.kia_one PySem.W.kitx_int I.kIn True.intro e (fun z => nomatch z) h
  | str y => obtain ⟨t, q⟩ := (show ∃ t, u = Value.str y t from rx); cases q; exact PySem.W.kia_one PySem.W.kitx_str I.kIn True.intro e (fun z => nomatch z) h
  | flt y => obtain ⟨t, q⟩ := (show ∃ t, u = Value.float y t from rx); cases q; exact PySem.W.kia_one PySem.W.kitx_float I.kIn True.intro e (fun z => nomatch z) h
  | @lst a xs ea =>
    cases (show u = Value.ref a from rx)
    obtain ⟨_, _, n, _, h1⟩ := (show ObjOk X.prog X.w H s.heap a (.lst xs) from I.hok a _ ea)
    exact PySem.W.kia_one PySem.W.kitx_list I.kIn ⟨_, h1, rfl⟩ e (fun z => nomatch z) h
  | @frz a ob xs ea =>
    cases (show u = Value.ref a from rx)
    obtain ⟨_, _, _, n, _, h1⟩ := (show ObjOk X.prog X.w H s.heap a (.frz ob (.lst xs)) from I.hok a _ ea)
    exact PySem.W.kia_one PySem.W.kitx_list I.kIn ⟨_, h1, rfl⟩ e (fun z => nomatch z) h
  | @tup a xs ea =>
    cases (show u = Value.ref a from rx)
    obtain ⟨_, _, _, p⟩ := (show ObjOk X.prog X.w H s.heap a (.tup xs) from I.hok a _ ea)
    obtain ⟨o, h1, h2, _⟩ := p
    exact PySem.W.kia_one PySem.W.kitx_tuple I.kIn ⟨o, h1, h2⟩ e (fun z => nomatch z) h
  | @dK a kvs ea =>
    cases (show u = Value.ref a from rx)
    obtain ⟨_, _, vs, _, p⟩ := (show ObjOk X.prog X.w H s.heap a (.dK kvs) from I.hok a _ ea)
    obtain ⟨o, es, ep, h1, h2, _⟩ := p
    exact PySem.W.kia_one PySem.W.kitx_dict I.kIn ⟨o, h1, h2.1⟩ e (fun z => nomatch z) h
  | @dT a kvs ea =>
    cases (show u = Value.ref a from rx)
    obtain ⟨_, _, xs, _, o, es, ep, h1, h2, _⟩ := (show ObjOk X.prog X.w H s.heap a (.dT kvs) from I.hok a _ ea)
    exact PySem.W.kia_one PySem.W.kitx_dict I.kIn ⟨o, h1, h2.1⟩ e (fun z => nomatch z) h
  | @ins a C dx fs ea cl ha hn htk hm =>
    cases (show u = Value.ref a from rx)
    obtain ⟨mA, O, _⟩ := ins_get I.hok ea
    obtain ⟨od, J, _⟩ := O.look
    exact PySem.W.kia_one (PySem.W.kitx_own (cl.get _) cl.hd ha hn htk hm) I.kIn J e (fun z => nomatch z) h
end
end L2

namespace L2
open PySem PySem.Spec PyProof.Rows

/-! ### room -/
structure Room (k : Nat) (A : Around) : Prop where
  hd : A.handled = none
  dp : A.depth + 3 * k + 5 < recursionLimit
  un : A.units + 16 * k + 200 < cLine
theorem Room.mono {j k : Nat} {A : Around} (r : Room k A) (h : j ≤ k) : Room j A := ⟨r.hd, by have := r.dp; omega, by have := r.un; omega⟩
theorem Room.deeper {k : Nat} {A : Around} (r : Room (k + 1) A) (env : Env) : Room k (A.deeper env) :=
  ⟨r.hd, by have := r.dp; show A.depth + 1 + 3 * k + 5 < _; omega, by have := r.un; show A.units + 3 + 16 * k + 200 < _; omega⟩
theorem Room.in1 {k : Nat} {A : Around} (r : Room (k + 1) A) : Room k A.in1 :=
  ⟨r.hd, by have := r.dp; show A.depth + 3 * k + 5 < _; omega, by have := r.un; show A.units + 1 + 16 * k + 200 < _; omega⟩
theorem Room.depth {k : Nat} {A : Around} (r : Room k A) : A.depth < recursionLimit := by have := r.dp; omega
theorem Room.units {k : Nat} {A : Around} (r : Room k A) : A.units + 64 < cLine := by have := r.un; omega

/-! ### argument lists and displays -/
def tNil : TA := fun _ H Q => Q [] H
def tCons (ta : TE) (tr : TA) : TA := fun σ H Q => ta σ H fun x H1 => tr σ H1 fun xs H2 => Q (x :: xs) H2
section
variable {X : Cx} {e : Expr} {es : List Expr} {te : TE} {t : TA} {pos : Pos}
theorem pa_nil : PA X [] tNil := fun _ _ _ _ H Q I h => Calls.spliced_nil ⟨[], H, I, .nil, h⟩
theorem pa_cons (ha : PE X e te) (hr : PA X es t) (hs : starEach (e :: es) X.env = (false, eval e X.env) :: starEach es X.env := by rfl) : PA X (e :: es) (tCons te t) := by
  intro pos pins s σ H Q I h
  rw [hs]
  show wpAny _ _ (spliced ((false, eval e X.env) :: backTo pos (starEach es X.env))) _ _ s
  refine Calls.spliced_cons (thn (ha pins s σ H _ I h) fun u s1 ⟨x, H1, I1, r1, q1⟩ => ?_)
  exact thn (hr pos pins s1 σ H1 _ I1 q1) fun us s2 ⟨xs, H2, I2, r2, q2⟩ => ⟨x :: xs, H2, I2, .cons r1 r2, q2⟩

/-- a tuple, a list of written items -/
def tTup (t : TA) : TE := fun σ H Q => t σ H fun xs H1 => xs.length ≤ sizeLine ∧ ∀ p, H1 p = none → Q (.ref p) (upd H1 p (.tup xs))
def tLst (t : TA) : TE := fun σ H Q => t σ H fun xs H1 => xs.length ≤ sizeLine ∧ ∀ p, H1 p = none → Q (.ref p) (upd H1 p (.lst xs))
theorem pe_tup {x1} (h : PA X es t) : PE X (.Tuple es x1 pos) (tTup t) := by
  intro pins s σ H Q I hq
  refine wpAny_Tuple_spliced (thn (h pos pins s σ H _ I hq) fun us s1 ⟨xs, H1, I1, r, z, q⟩ => ⟨by rw [← r.length]; exact z, ?_⟩)
  have hf : H1 s1.heap.objs.size = none := I1.hok.fresh (Nat.le_refl _)
  refine ⟨.ref s1.heap.objs.size, upd H1 s1.heap.objs.size (.tup xs), I1.laid (t' := s1.toks) (fun b u e => Heap.get?_push_of_some _ e) (Nat.le_refl _) ?_, rfl, q _ hf⟩
  exact ⟨z, us, r, ⟨_, Heap.get?_push_size _ rfl, rfl, _, rfl⟩⟩
theorem pe_lst (h : PA X es t) : PE X (.List es pos) (tLst t) := by
  intro pins s σ H Q I hq
  refine wpAny_List_spliced (thn (h pos pins s σ H _ I hq) fun us s1 ⟨xs, H1, I1, r, z, q⟩ => ⟨by rw [← r.length]; exact z, ?_⟩)
  have hf : H1 s1.heap.objs.size = none := I1.hok.fresh (Nat.le_refl _)
  refine ⟨.ref s1.heap.objs.size, upd H1 s1.heap.objs.size (.lst xs), I1.laid (t' := s1.toks) (fun b u e => Heap.get?_push_of_some _ e) (Nat.le_refl _) ?_, rfl, q _ hf⟩
  exact ⟨z, us, 0, r, Heap.get?_push_size _ rfl⟩
end

/-! ### what a def promises -/
/-- a def's promise: the bound arguments in the parameters' order, the heap, the wanted end, the wanted exception -/
abbrev Sp := List V → Hp → VK → XK → Prop
/-- how an exception lies behind a call (file 08 gives it): the callers' frames, abstract heap and state ahead of the call, the wish, the exception, the state -/
abbrev CXT := List Env → Hp → Shared → XK → Value → Shared → Prop

/-- the state at a call -/
structure Env0 (P : Program) (w : World) (K : PySem.W.Frag) (mg : Str → Option Value) (base : Heap) (A : Around) (outer : List Env) (s : Shared) (H : Hp) : Prop where
  frames : A.frames = some outer
  mod : Mod K mg base
  bs : ∀ b o, base.get? b = some o → s.heap.get? b = some o ∧ H b = none
  bsz : base.objs.size ≤ s.heap.objs.size
  funs : s.heap.FunFrames base outer
  frf : ∀ b ∈ frs outer, H b = none
  hok : HOk P w H s.heap
  bare : AllBare s.gens
/-- a call's end -/
def CE (outer : List Env) (P : Program) (w : World) (H : Hp) (s : Shared) (Q : VK) (u : Value) (s' : Shared) : Prop :=
  ∃ v H', s'.os = s.os ∧ AllBare s'.gens ∧ Un (frs outer) [] H H' s.heap s'.heap ∧ HOk P w H' s'.heap ∧ RelV v u ∧ Q v H'
def CR (CX : CXT) (outer : List Env) (P : Program) (w : World) (H : Hp) (s : Shared) (Q : VK) (E : XK) (r : Result) (s' : Shared) : Prop :=
  match r with
  | .ok (.ret u) => CE outer P w H s Q u s'
  | .ok _ => False
  | .error e => CX outer H s E e s'
structure FnOk (P : Program) (w : World) (K : PySem.W.Frag) (mg : Str → Option Value) (base : Heap) (CX : CXT) (k : Nat) (f : Addr) (fd : FuncData) (ps : List Str) (sp : Sp) : Prop where
  len : ∀ vs H Q E, sp vs H Q E → vs.length = ps.length
  run : ∀ (A : Around) (outer : List Env) (s : Shared) (H : Hp) (args : Args) (us : List Value) (vs : List V) (Q : VK) (E : XK), Room k A → Env0 P w K mg base A outer s H → BindsTo s fd args (ps.zip us) → Vals vs us → sp vs H Q E →
    codeAny (model P w) A (.call (.ref f) args) (CR CX outer P w H s Q E) s
theorem FnOk.mono {P : Program} {w : World} {K : PySem.W.Frag} {mg : Str → Option Value} {base : Heap} {CX : CXT} {j k : Nat} {f : Addr} {fd : FuncData} {ps : List Str} {sp : Sp} (F : FnOk P w K mg base CX j f fd ps sp) (h : j ≤ k) :
    FnOk P w K mg base CX k f fd ps sp := ⟨F.len, fun A outer s H args us vs Q E hr => F.run A outer s H args us vs Q E (hr.mono h)⟩
/-- a weaker promise -/
theorem FnOk.imp {P : Program} {w : World} {K : PySem.W.Frag} {mg : Str → Option Value} {base : Heap} {CX : CXT} {k : Nat} {f : Addr} {fd : FuncData} {ps : List Str} {sp sp' : Sp} (F : FnOk P w K mg base CX k f fd ps sp)
    (h : ∀ vs H Q E, sp' vs H Q E → sp vs H Q E) : FnOk P w K mg base CX k f fd ps sp' :=
  ⟨fun vs H Q E q => F.len vs H Q E (h _ _ _ _ q), fun A outer s H args us vs Q E hr he hb hv hs => F.run A outer s H args us vs Q E hr he hb hv (h _ _ _ _ hs)⟩

theorem Env0.in1 {P : Program} {w : World} {K : PySem.W.Frag} {mg : Str → Option Value} {base : Heap} {A : Around} {outer : List Env} {s : Shared} {H : Hp} (e : Env0 P w K mg base A outer s H) :
    Env0 P w K mg base A.in1 outer s H := ⟨e.frames, e.mod, e.bs, e.bsz, e.funs, e.frf, e.hok, e.bare⟩

section
variable {X : Cx} {pins : List (Addr × Obj)} {σ : St} {H : Hp} {s s' : Shared}
/-- from a body: what a callee wants -/
theorem Inv.env0 (I : Inv X pins σ H s) : Env0 X.prog X.w X.K X.mg X.base X.A X.stack s H :=
  ⟨I.ok.frames, I.ok.mod, I.bs, Nat.le_trans I.ok.bsz I.sz, I.stack, I.stkFree, I.hok, I.bare⟩
/-- behind a call -/
theorem Inv.after {Q : VK} {u : Value} (I : Inv X pins σ H s) (h : CE X.stack X.prog X.w H s Q u s') : EP X pins σ Q u s' := by
  obtain ⟨v, H', os, bare, un, hok, r, q⟩ := h
  obtain ⟨hh, g, d, t, os'⟩ := s'
  obtain rfl : os' = s.os := os
  exact ⟨v, H', I.call (h' := hh) (g' := g) (d' := d) (t' := t) (ch := []) un hok bare (fun b z => absurd z (by simp)), r, q⟩
end

/-! ### calls -/
/-- f(..): the written arguments, then the defaults dvs; E: what is wanted of an exception -/
def tCall (sp : Sp) (dvs : List V) (E : XK) (t : TA) : TE := fun σ H Q => t σ H fun vs H1 => sp (vs ++ dvs) H1 Q E

/-- how the parameters are bound: us the positional arguments, kw the keywords' values by name, ds the defaults that fill up -/
def Binds (K : PySem.W.Frag) (fd : FuncData) (ps : List Str) (ds : List Value) : Prop :=
  ∀ (s : Shared) (us : List Value), K.In s.heap → (us ++ ds).length = ps.length → BindsTo s fd ⟨us, []⟩ (ps.zip (us ++ ds))
/-- every parameter is given -/
theorem Binds.all {K : PySem.W.Frag} {fd : FuncData} {ps : List Str} (h : ∀ us : List Value, us.length = ps.length → bindArgs fd ⟨us, []⟩ = pure (ps.zip us)) : Binds K fd ps [] := fun s us _ hl => by
  rw [List.append_nil] at hl ⊢
  exact .of_eq (h us hl)

/-- an exception of a callee reaches what this body wants of exceptions -/
def Passes (CX : CXT) (X : Cx) (E : XK) : Prop := ∀ (pins : List (Addr × Obj)) (σ : St) (H : Hp) (s : Shared) (e : Value) (s' : Shared), Inv X pins σ H s → CX X.stack H s E e s' → X.xe e s'

section
variable {X : Cx} {CX : CXT} {k : Nat} {f C : Addr} {fd : FuncData} {ps : List Str} {sp : Sp} {dvs : List V} {ds : List Value} {E : XK} {x m : Str} {p pos apos : Pos} {e o : Expr} {es : List Expr} {ta : TE} {t : TA}

/-- the callee runs -/
theorem run_fn {pins : List (Addr × Obj)} {σ : St} {H : Hp} {s : Shared} {Q : VK} {us : List Value} {vs : List V} (F : FnOk X.prog X.w X.K X.mg X.base CX k f fd ps sp) (hr : Room k X.A) (hb : Binds X.K fd ps ds) (hd : Vals dvs ds) (hx : Passes CX X E)
    (I : Inv X pins σ H s) (r : Vals vs us) (h : sp (vs ++ dvs) H Q E) : wpAny (model X.prog X.w) X.A (call (.ref f) us) (EP X pins σ Q) X.xe s := by
  have r2 : Vals (vs ++ dvs) (us ++ ds) := r.append hd
  have hl : (us ++ ds).length = ps.length := by rw [← r2.length]; exact F.len _ _ _ _ h
  refine wpAny_call (codeAny_mono (F.run X.A X.stack s H ⟨us, []⟩ (us ++ ds) (vs ++ dvs) Q E hr I.env0 (hb s us I.kIn hl) r2 h) fun r s' hq => ?_)
  cases r with
  | error e => exact hx pins σ H s e s' I hq
  | ok fl =>
    cases fl with
    | ret u => exact I.after hq
    | next => exact False.elim hq
    | brk => exact False.elim hq
    | cont => exact False.elim hq

theorem pe_call (F : FnOk X.prog X.w X.K X.mg X.base CX k f fd ps sp) (hr : Room k X.A) (hg : Gl X x) (hm : X.mg x = some (.ref f)) (hk : PySem.W.keepIn X.K (.ref f) = true) (hb : Binds X.K fd ps ds) (hd : Vals dvs ds) (hx : Passes CX X E)
    (ha : PA X (e :: es) t) (hdb : (x == ("__debug__" : Str)) = false := by decide) (he : starEach (e :: es) X.env = (false, eval e X.env) :: starEach es X.env := by rfl) (hpl : (backTo pos (starEach es X.env)).any (·.1) = false := by rfl) :
    PE X (.Call (.Name x p) (e :: es) [] pos) (tCall sp dvs E t) := by
  intro pins s σ H Q I h
  refine wpAny_Call_Name_kw (ld_glob I hg hm ?_ hdb)
  refine PySem.W.callWith_K (h₀ := X.base) I.ok.mod.kin hk (thn (ha pos pins s σ H _ I h) fun us s1 ⟨vs, H1, I1, r, q⟩ => ⟨I1.kIn, ?_⟩) he hpl
  exact run_fn F hr hb hd hx I1 r q


/-- what a class must have to be made -/
structure Mk (K : PySem.W.Frag) (C f : Addr) : Prop where
  makes : PySem.W.makesIn K C = true
  init : PySem.W.findIn K (.ref C) "__init__" = some (some (.ref f))
  fn : PySem.W.isFn K (.ref f) = true
  kp : PySem.W.keepIn K (.ref C) = true

end

/-! ### keywords -/
section
variable {X : Cx} {CX : CXT} {k : Nat} {f C : Addr} {fd : FuncData} {ps ks : List Str} {sp : Sp} {E : XK} {x m : Str} {p pos apos kpos : Pos} {e o : Expr} {es : List Expr} {kws : List Keyword} {te ta : TE} {t tk : TA} {nm : Option Str}

/-- how a call with keywords binds: g puts the positional values us and the keywords' values ws (names ks) in the parameters' order, defaults among them -/
structure KBinds (K : PySem.W.Frag) (fd : FuncData) (ps ks : List Str) (g : List Value → List Value → List Value) (gV : List V → List V → List V) : Prop where
  to : ∀ (s : Shared) (us ws : List Value), K.In s.heap → (g us ws).length = ps.length → BindsTo s fd ⟨us, ks.zip ws⟩ (ps.zip (g us ws))
  rel : ∀ {vs : List V} {us : List Value} {zs : List V} {ws : List Value}, Vals vs us → Vals zs ws → Vals (gV vs zs) (g us ws)
variable {g : List Value → List Value → List Value} {gV : List V → List V → List V}
end

/-! ### a def's body keeps its promise -/
/-- names: the parameters first -/
structure FnScope (N P : List Str) (sc : Scope) : Prop where
  kind : sc.kind = .function
  co : sc.isCoroutine = false
  gen : sc.isGenerator = false
  nd : N.Nodup
  pre : N.take P.length = P
  par : ∀ x ∈ P, sc.names.lookup x = some .local ∨ sc.names.lookup x = some .cell
  nofree : ∀ y ∈ sc.names, y.2 ≠ .free

theorem bindL_out {kindOf : Str → Option NameKind} {x : Str} : ∀ {binds : List (Str × Value)} {m : Str → Option Value}, (∀ v, (x, v) ∉ binds) → bindL kindOf binds m x = m x
  | [], _, _ => rfl
  | (n, v) :: r, m, h => by
    unfold bindL
    rw [bindL_out fun w hw => h w (List.mem_cons_of_mem _ hw)]
    split
    · have : x ≠ n := by rintro rfl; exact h v List.mem_cons_self
      simp [this]
    · rfl
theorem bindC_out {kindOf : Str → Option NameKind} {x : Str} : ∀ {binds : List (Str × Value)} {m : Str → Option Value}, (∀ v, (x, v) ∉ binds) → bindC kindOf binds m x = m x
  | [], _, _ => rfl
  | (n, v) :: r, m, h => by
    unfold bindC
    rw [bindC_out fun w hw => h w (List.mem_cons_of_mem _ hw)]
    split
    · rfl
    · have : x ≠ n := by rintro rfl; exact h v List.mem_cons_self
      simp [this]
theorem bindL_get {kindOf : Str → Option NameKind} {x : Str} {v : Value} : ∀ {P : List Str} {vs : List Value} {i : Nat} {m : Str → Option Value}, P.Nodup → P[i]? = some x → vs[i]? = some v → kindOf x = some .local →
    bindL kindOf (P.zip vs) m x = some v
  | [], _, _, _, _, h, _, _ => by simp at h
  | _ :: _, [], _, _, _, _, h, _ => by simp at h
  | p :: P, w :: vs, 0, m, nd, h1, h2, hk => by
    simp at h1 h2; subst h1; subst h2
    show bindL kindOf ((p, w) :: P.zip vs) m p = _
    unfold bindL
    rw [bindL_out fun v hv => (List.nodup_cons.mp nd).1 (List.of_mem_zip hv).1, if_pos hk]
    simp
  | p :: P, w :: vs, i + 1, m, nd, h1, h2, hk => by
    show bindL kindOf ((p, w) :: P.zip vs) m x = _
    unfold bindL
    exact bindL_get (i := i) (List.nodup_cons.mp nd).2 (by simpa using h1) (by simpa using h2) hk
theorem bindC_get {kindOf : Str → Option NameKind} {x : Str} {v : Value} : ∀ {P : List Str} {vs : List Value} {i : Nat} {m : Str → Option Value}, P.Nodup → P[i]? = some x → vs[i]? = some v → kindOf x ≠ some .local →
    bindC kindOf (P.zip vs) m x = some v
  | [], _, _, _, _, h, _, _ => by simp at h
  | _ :: _, [], _, _, _, _, h, _ => by simp at h
  | p :: P, w :: vs, 0, m, nd, h1, h2, hk => by
    simp at h1 h2; subst h1; subst h2
    show bindC kindOf ((p, w) :: P.zip vs) m p = _
    unfold bindC
    rw [bindC_out fun v hv => (List.nodup_cons.mp nd).1 (List.of_mem_zip hv).1, if_neg hk]
    simp
  | p :: P, w :: vs, i + 1, m, nd, h1, h2, hk => by
    show bindC kindOf ((p, w) :: P.zip vs) m x = _
    unfold bindC
    exact bindC_get (i := i) (List.nodup_cons.mp nd).2 (by simpa using h1) (by simpa using h2) hk

/-- the names' values at the entry -/
def start (N : List Str) (vs : List V) : St := vs.map some ++ List.replicate (N.length - vs.length) none

/-- the context of a def's body, at its entry; an exception leaves the frame, then lies as CX says -/
def cxOf (CX : CXT) (P : Program) (w : World) (K : PySem.W.Frag) (mg : Str → Option Value) (base : Heap) (N : List Str) (qual : Str) (scope : Scope) (f : Addr) (cd : Value) (A : Around) (outer : List Env) (s : Shared) (H : Hp) (E : XK) : Cx where
  prog := P
  w := w
  K := K
  mg := mg
  base := base
  A := A.deeper (envOfC qual scope s.heap.objs.size f cd)
  N := N
  s₀ := s
  H₀ := H
  env := envOfC qual scope s.heap.objs.size f cd
  outer := outer
  stack := envOfC qual scope s.heap.objs.size f cd :: outer
  ex := []
  calm := true
  fn := fun _ => true
  pn := []
  xe := fun e s' => wpAny (model P w) (A.deeper (envOfC qual scope s.heap.objs.size f cd)) (leaving (envOfC qual scope s.heap.objs.size f cd) e) (fun _ s'' => CX outer H s E e s'') (fun e' s'' => CX outer H s E e' s'') s'

theorem cell_has {sc : Scope} {n : Nat} {x : Str} (h : sc.names.lookup x = some .cell) : ∃ c, (cellsFrom n sc.names []).lookup x = some c := by
  have q := PySem.W.cellsFrom_some sc.names n [] (.inl h)
  exact Option.isSome_iff_exists.mp q

theorem inv_start {CX : CXT} {P : Program} {w : World} {K : PySem.W.Frag} {mg : Str → Option Value} {base : Heap} {N ps : List Str} {qual : Str} {scope : Scope} {f : Addr} {cd : Value} {A : Around} {outer : List Env} {s s1 : Shared} {H : Hp} {E : XK} {us : List Value} {vs : List V}
    (S : FnScope N ps scope) (hd : A.handled = none) (e0 : Env0 P w K mg base A outer s H) (hl : vs.length = ps.length) (r : Vals vs us)
    (x : InCallC s s.heap.objs.size (bindL (envOfC qual scope s.heap.objs.size f cd).kindOf (ps.zip us) fun _ => none) (cellsFrom (s.heap.objs.size + 1) scope.names []) (bindC (envOfC qual scope s.heap.objs.size f cd).kindOf (ps.zip us) fun _ => none) s1) :
    Inv (cxOf CX P w K mg base N qual scope f cd A outer s H E) [] (start N vs) H s1 := by
  have hpl : ps.length ≤ N.length := by have := congrArg List.length S.pre; rw [List.length_take] at this; omega
  obtain ⟨h1, tk, rfl, hk⟩ := x.done
  have noA : ∀ b : Addr, b ∉ (cxOf CX P w K mg base N qual scope f cd A outer s H E).ex := fun b z => absurd (show b ∈ ([] : List Addr) from z) (by simp)
  refine ⟨⟨e0.mod, S.kind, rfl, rfl, Nat.le_refl _, fun y z c h1 h2 => ?_, fun y hy => ?_, fun y c _ h => ?_, fun _ => hd, Around.frames_deeper e0.frames, .inr ⟨rfl, rfl⟩, fun b z => absurd z (noA b), e0.bs, e0.bsz, fun b _ _ => noA b, fun b z => absurd z (noA b), e0.funs, e0.frf⟩,
    rfl, e0.bare, Un.kept hk, ⟨_, x.toInCall.ns, fun i y v h1 h2 h3 => ?_⟩, fun y c h => ⟨_, x.cell y c h⟩, e0.hok.fresh (Nat.le_refl _), fun y c h => ?_, fun p hp => absurd (show p ∈ ([] : List (Addr × Obj)) from hp) (by simp), e0.hok.kept hk, ?_⟩
  · exact name_of_addr x.apart (PySem.mem_of_lookup h1) (PySem.mem_of_lookup h2)
  · have hy : scope.names.lookup y = some .cell ∨ scope.names.lookup y = some .free := hy
    rcases hy with hy | hy
    · exact cell_has hy
    · exact absurd rfl (S.nofree _ (PySem.mem_of_lookup hy))
  · exact Nat.le_of_lt (x.above y c (PySem.mem_of_lookup h))
  · have hi : i < vs.length := by
      unfold start at h2
      by_cases hi : i < vs.length
      · exact hi
      · rw [List.getElem?_append_right (by simpa using hi)] at h2
        rw [List.getElem?_replicate] at h2
        split at h2 <;> cases h2
    have ha : vs[i]? = some v := by
      unfold start at h2
      rw [List.getElem?_append_left (by simpa using hi), List.getElem?_map] at h2
      cases e : vs[i]? with
      | none => rw [e] at h2; cases h2
      | some a => rw [e] at h2; cases h2; rfl
    obtain ⟨u, hu, rv⟩ := r.get ha
    have hp : ps[i]? = some y := by
      rw [← S.pre, List.getElem?_take_of_lt (by omega)]; exact h1
    have ndP : ps.Nodup := by rw [← S.pre]; exact S.nd.sublist (List.take_sublist _ _)
    refine ⟨u, rv, ?_⟩
    rcases S.par y (List.mem_of_getElem? hp) with k | k
    · exact .inl ⟨k, bindL_get ndP hp hu k⟩
    · obtain ⟨c, e⟩ := cell_has (n := s.heap.objs.size + 1) k
      refine .inr ⟨.inl k, c, e, ?_⟩
      have q := x.cell y c e
      rw [bindC_get ndP hp hu (by show scope.names.lookup y ≠ _; rw [k]; decide)] at q
      exact q
  · exact e0.hok.fresh (Nat.le_of_lt (x.above y c (PySem.mem_of_lookup h)))
  · unfold start
    show _ = N.length
    rw [List.length_append, List.length_map, List.length_replicate]
    omega

/-- THE RULE: a def (or a method) of the text, by its body. The body's reading t is chosen for each entry; it is run at the parameters' values -/
theorem fn_of {CX : CXT} {P : Program} {w : World} {K : PySem.W.Frag} {mg : Str → Option Value} {base : Heap} {k : Nat} {f : Addr} {name qual : Str} {params : Arguments} {body : List Stmt} {scope : Scope} {dV kV doc pm cdv ct oc : Value} {an od : Option Addr}
    {osl : Array (Option Value)} {N ps : List Str} {sp : Sp} (lk : K.lookup f = some ⟨oc, od, .func (PySem.W.fnOf name qual params body scope dV kV doc pm an cdv ct), osl⟩) (hcd : PySem.W.codeIn K cdv qual = true) (S : FnScope N ps scope)
    (len : ∀ vs H Q E, sp vs H Q E → vs.length = ps.length)
    (hbody : ∀ (A : Around) (outer : List Env) (s : Shared) (H : Hp) (vs : List V) (Q : VK) (E : XK), Room k (A.deeper (envOfC qual scope s.heap.objs.size f cdv)) → sp vs H Q E →
      ∃ t, PSs (cxOf CX P w K mg base N qual scope f cdv A outer s H E) body t ∧ t { nx := fun _ H' => Q .non H', rt := Q } (start N vs) H) :
    FnOk P w K mg base CX (k + 1) f (PySem.W.fnOf name qual params body scope dV kV doc pm an cdv ct) ps sp := by
  refine ⟨len, fun A outer s H args us vs Q E hr e0 hb r hsp => ?_⟩
  have hl := len _ _ _ _ hsp
  have KX : K.In s.heap := e0.mod.kin.keeps fun b o e => (e0.bs b o e).1
  have lim : s.heap.NoLimit := e0.mod.nolimit.keeps fun b o e => (e0.bs b o e).1
  have hkind : ∀ y ∈ ps.zip us, scope.names.lookup y.1 = some .local ∨ (scope.names.lookup y.1 = some .cell ∧ ((cellsFrom (s.heap.objs.size + 1) scope.names []).lookup y.1).isSome = true) := fun ⟨n, v⟩ hy => by
    rcases S.par n (List.of_mem_zip hy).1 with q | q
    · exact .inl q
    · exact .inr ⟨q, PySem.W.cellsFrom_some _ _ _ (.inl q)⟩
  refine codeAny_call_function hr.depth (KX _ _ lk) rfl S.co S.gen rfl (PySem.W.codeRec_of KX hcd) (hb _ _ _ _ ?_)
  refine wpAny_newFunctionEnv_cells S.kind hkind fun env he s1 x => ?_
  subst he
  refine ⟨lim.keeps x.toInCall.keep, codeAny_func ?_⟩
  obtain ⟨t, ht, hq⟩ := hbody A outer s H vs Q E (hr.deeper _) hsp
  have I : Inv (cxOf CX P w K mg base N qual scope f cdv A outer s H E) [] (start N vs) H s1 := inv_start S hr.hd e0 hl r x
  refine wpAny_mono (ht [] s1 (start N vs) H _ I hq) (fun fl s' hs => ?_) fun e s' hs => hs
  have fin : ∀ {σ' : St} {H' : Hp} {v : V} {u : Value}, Inv (cxOf CX P w K mg base N qual scope f cdv A outer s H E) [] σ' H' s' → RelV v u → Q v H' → CE outer P w H s Q u s' :=
    fun {σ' H' v u} J rv q => ⟨v, H', J.os, J.bare, J.base, J.hok, rv, q⟩
  cases fl with
  | ret u =>
    obtain ⟨v, σ', H', J, rv, q⟩ := hs
    exact fin J rv q
  | next =>
    obtain ⟨σ', H', J, q⟩ := hs
    exact fin (v := V.non) (u := Value.none) J rfl q
  | brk =>
    obtain ⟨_, _, _, q⟩ := hs
    exact False.elim q
  | cont =>
    obtain ⟨_, _, _, q⟩ := hs
    exact False.elim q
end L2

namespace L2
open PySem PySem.Spec PyProof.Rows
section
variable {X : Cx} {x : Str} {p pos : Pos} {e : Expr} {es : List Expr} {t : TA} {id T : String} {r : List V → Hp → VK → Prop}

def tCB (r : List V → Hp → VK → Prop) (t : TA) : TE := fun σ H Q => t σ H fun vs H1 => r vs H1 Q
/-- f(e, ..), f a built-in function -/
theorem pe_callB (hc : CallR X (.builtin id) r) (hg : Gl X x) (hm : X.mg x = none) (hv : bootBuiltins x = some (.builtin id)) (ha : PA X (e :: es) t) (hn : x ≠ "__name__" := by decide) (hdb : (x == ("__debug__" : Str)) = false := by decide)
    (he : starEach (e :: es) X.env = (false, eval e X.env) :: starEach es X.env := by rfl) (hpl : (backTo pos (starEach es X.env)).any (·.1) = false := by rfl) : PE X (.Call (.Name x p) (e :: es) [] pos) (tCB r t) := by
  intro pins s σ H Q I h
  refine wpAny_Call_Name_kw (ld_blt I hg hm hv ?_ hn hdb)
  exact PyProof.Rows.callWith_builtin1 (thn (ha pos pins s σ H _ I h) fun us s1 ⟨vs, H1, I1, r1, q1⟩ => hc pins s1 σ H1 vs us Q I1 r1 q1) he hpl
/-- T(e, ..), T a built-in type -/
theorem pe_callTy (hc : CallR X (.type T) r) (hg : Gl X x) (hm : X.mg x = none) (hv : bootBuiltins x = some (.type T)) (ha : PA X (e :: es) t) (hn : x ≠ "__name__" := by decide) (hdb : (x == ("__debug__" : Str)) = false := by decide)
    (he : starEach (e :: es) X.env = (false, eval e X.env) :: starEach es X.env := by rfl) (hpl : (backTo pos (starEach es X.env)).any (·.1) = false := by rfl) : PE X (.Call (.Name x p) (e :: es) [] pos) (tCB r t) := by
  intro pins s σ H Q I h
  refine wpAny_Call_Name_kw (ld_blt I hg hm hv ?_ hn hdb)
  exact PyProof.Rows.callWith_type1 (thn (ha pos pins s σ H _ I h) fun us s1 ⟨vs, H1, I1, r1, q1⟩ => hc pins s1 σ H1 vs us Q I1 r1 q1) he hpl
end
end L2

namespace HT
open PySem PyProof.Rows



section
open PySem.SeqAt
open PySem.AutoSeq1 (wpAny_loadPart')
open PySem.MeetsSeq PySem.MeetsSeq2 PySem.MeetsSeq3

end

section
variable {prog : Program} {w : World} {A : Around} {E : Value → Shared → Prop} {s : Shared}



/-! ### t[a:b], not the whole -/
/-- a slice's bound as a place among n (d where it is left out) -/
def sIx (n d : Nat) : Option Int → Nat
  | none => d
  | some v => if v < 0 then (v + (n : Int)).toNat else min v.toNat n
theorem sIx_none (n d : Nat) : sIx n d none = d := rfl

end
end HT

namespace L2
open PySem PySem.Spec PyProof.Rows

/-! ### the parts of a slice -/
abbrev TO := St → Hp → (Option Int → Hp → Prop) → Prop
/-- a slice's part (left out, or an int) -/
def PO (X : Cx) (e : Option Expr) (t : TO) : Prop :=
  ∀ (pins : List (Addr × Obj)) (s : Shared) (σ : St) (H : Hp) (Q : Option Int → Hp → Prop), Inv X pins σ H s → t σ H Q →
    wpAny (model X.prog X.w) X.A (evalPart e X.env) (fun u s' => ∃ o H', Inv X pins σ H' s' ∧ IsPart u o ∧ Q o H') X.xe s
def tNoPart : TO := fun _ H Q => Q none H
def tPart (t : TE) : TO := fun σ H Q => t σ H fun x H1 => ∃ i, x = .int i ∧ Q (some i) H1


section
variable {X : Cx} {e : Expr} {te : TE} {lo hi : Option Expr} {tl th : TO} {pos p2 : Pos}

theorem po_none : PO X none tNoPart := by
  intro pins s σ H Q I h
  rw [evalPart_none]
  exact wpAny_pure ⟨none, H, I, .none, h⟩
theorem po_some (h : PE X e te) : PO X (some e) (tPart te) := by
  intro pins s σ H Q I hw
  rw [evalPart_some]
  refine thn (h pins s σ H _ I hw) fun u s1 ⟨x, H1, I1, r1, q1⟩ => ?_
  obtain ⟨i, rfl, q⟩ := q1
  obtain ⟨t, rfl⟩ := r1
  exact ⟨some i, H1, I1, .int i t, q⟩

/-- what a slice of a value is, by values: the slice object stands at sl -/
def SlR (X : Cx) (r : V → Option Int → Option Int → Hp → VK → Prop) : Prop :=
  ∀ (pins : List (Addr × Obj)) (s : Shared) (σ : St) (H : Hp) (x : V) (v vl vu : Value) (lo hi : Option Int) (sl : Addr) (Q : VK), Inv X pins σ H s → RelV x v → s.heap.IsSliceOf sl vl vu .none → IsPart vl lo → IsPart vu hi → r x lo hi H Q →
    ∃ T id, typeLookup (.type T) "__getitem__" = pure (some (.builtin id)) ∧ s.TypeIs v T ∧ wpAny (model X.prog X.w) X.A (getItem v (.ref sl)) (EP X pins σ Q) X.xe s
theorem SlR.or {r r' : V → Option Int → Option Int → Hp → VK → Prop} (h : SlR X r) (h' : SlR X r') : SlR X (fun x lo hi H Q => r x lo hi H Q ∨ r' x lo hi H Q) := by
  intro pins s σ H x v vl vu lo hi sl Q I rx hs pl pu q
  rcases q with q | q
  · exact h pins s σ H x v vl vu lo hi sl Q I rx hs pl pu q
  · exact h' pins s σ H x v vl vu lo hi sl Q I rx hs pl pu q
def tSl (r : V → Option Int → Option Int → Hp → VK → Prop) (te : TE) (tl th : TO) : TE := fun σ H Q => te σ H fun x H1 => tl σ H1 fun l H2 => th σ H2 fun u H3 => r x l u H3 Q
/-- a[lo:hi], any a -/
theorem pe_slice {r : V → Option Int → Option Int → Hp → VK → Prop} (hr : SlR X r) (he : PE X e te) (hl : PO X lo tl) (hu : PO X hi th) : PE X (.Subscript e (.Slice lo hi none p2) pos) (tSl r te tl th) := by
  intro pins s σ H Q I h
  refine Subscript_ (thn (he pins s σ H _ I h) fun v s1 ⟨x, H1, I1, r1, q1⟩ => ?_)
  refine wpAny_Slice (thn (hl pins s1 σ H1 _ I1 q1) fun vl s2 ⟨l, H2, I2, pl, q2⟩ => thn (hu pins s2 σ H2 _ I2 q2) fun vu s3 ⟨u, H3, I3, pu, q3⟩ => ?_)
  rw [evalPart_none]
  refine wpAny_pure ?_
  have I4 : Inv X pins σ H3 { s3 with heap := s3.heap.push { cls := .type "slice", data := .fields #[vl, vu, .none] } } := I3.kept (t' := s3.toks) fun b ob q => Heap.get?_push_of_some _ q
  obtain ⟨T, id, hT, ht, hg⟩ := hr pins { s3 with heap := s3.heap.push { cls := .type "slice", data := .fields #[vl, vu, .none] } } σ H3 x v vl vu l u s3.heap.objs.size Q I4 r1 (Heap.IsSliceOf.new ..) pl pu q3
  show wpAny (model X.prog X.w) X.A (subscriptTail e (.Slice lo hi none p2) v (.ref s3.heap.objs.size)) (EP X pins σ Q) X.xe { s3 with heap := s3.heap.push { cls := .type "slice", data := .fields #[vl, vu, .none] } }
  exact tail_any (ops := [.ref s3.heap.objs.size, v]) ht hT hg (by with_unfolding_all rfl)

/-- the items of xs[lo:hi] -/
def cutV (xs : List V) (lo hi : Option Int) : List V := (xs.drop (HT.sIx xs.length 0 lo)).take (HT.sIx xs.length xs.length hi - HT.sIx xs.length 0 lo)
theorem cutV_length (xs : List V) (lo hi : Option Int) : (cutV xs lo hi).length ≤ xs.length := by
  unfold cutV
  rw [List.length_take, List.length_drop]
  omega

/-! ### t < u, t + u -/
end
end L2

namespace L2
open PySem PySem.Spec PyProof.Rows

/-! ### places -/
/-- the place that an index of any sign means -/
def ixN (n : Nat) (i : Int) : Option Nat := if 0 ≤ i then (if i < n then some i.toNat else none) else if -(n : Int) ≤ i then some (i + n).toNat else none
def atI {α : Type} (xs : List α) (i : Int) : Option α := (ixN xs.length i).bind fun j => xs[j]?
theorem ixN_seq {n : Nat} {i : Int} {j : Nat} (h : ixN n i = some j) : seqIndex? i n = some j ∧ j < n ∧ -(n : Int) ≤ i ∧ i < n := by
  unfold ixN at h
  by_cases h0 : 0 ≤ i
  · rw [if_pos h0] at h
    by_cases h1 : i < n
    · rw [if_pos h1] at h
      have e : i.toNat = j := Option.some.inj h
      exact ⟨by rw [seqIndex_of h0 h1, e], by omega, by omega, h1⟩
    · rw [if_neg h1] at h; cases h
  · rw [if_neg h0] at h
    by_cases h1 : -(n : Int) ≤ i
    · rw [if_pos h1] at h
      have e : (i + n).toNat = j := Option.some.inj h
      exact ⟨by rw [seqIndex_neg (by omega) h1, e], by omega, h1, by omega⟩
    · rw [if_neg h1] at h; cases h
theorem atI_get {α : Type} {xs : List α} {i : Int} {v : α} (h : atI xs i = some v) : ∃ j, seqIndex? i xs.length = some j ∧ xs[j]? = some v ∧ j < xs.length ∧ -(xs.length : Int) ≤ i ∧ i < xs.length := by
  unfold atI at h
  cases e : ixN xs.length i with
  | none => rw [e] at h; cases h
  | some j =>
    rw [e] at h
    obtain ⟨h1, h2, h3, h4⟩ := ixN_seq e
    exact ⟨j, h1, h, h2, h3, h4⟩
theorem atI_nat {α : Type} {xs : List α} {j : Nat} {v : α} (h : xs[j]? = some v) : atI xs (j : Int) = some v := by
  have hj : j < xs.length := (List.getElem?_eq_some_iff.mp h).1
  have e : ixN xs.length (j : Int) = some j := by
    unfold ixN
    rw [if_pos (by omega), if_pos (by omega)]; simp
  unfold atI; rw [e]; exact h
theorem atI_last {α : Type} (xs : List α) (v : α) : atI (xs ++ [v]) (-1) = some v := by
  have hl : (xs ++ [v]).length = xs.length + 1 := by simp
  have e : ixN (xs ++ [v]).length (-1) = some xs.length := by
    unfold ixN
    rw [hl, if_neg (by decide), if_pos (by omega)]
    congr 1
    omega
  unfold atI
  rw [e]
  show (xs ++ [v])[xs.length]? = some v
  simp

/-! ### what may be subscripted -/
/-- what stands as an index of a plain subscript -/
def PlainIx (b : Expr) : Prop := ∀ o i, subscripted b false o i = operate [o, i] (getItem o i)
/-- a subscript by values -/
def IxR (X : Cx) (r : R2) : Prop :=
  ∀ (value slice : Expr) (pins : List (Addr × Obj)) (s : Shared) (σ : St) (H : Hp) (x y : V) (v u : Value) (Q : VK), Inv X pins σ H s → RelV x v → RelV y u → r x y H Q →
    subscripted slice false v u = operate [v, u] (getItem v u) → wpAny (model X.prog X.w) X.A (subscriptTail value slice v u) (EP X pins σ Q) X.xe s
/-- a call of a builtin's method by values: the receiver, the arguments -/
def MtR (X : Cx) (id : String) (r : V → List V → Hp → VK → Prop) : Prop :=
  ∀ (pins : List (Addr × Obj)) (s : Shared) (σ : St) (H : Hp) (x : V) (xs : List V) (v : Value) (us : List Value) (Q : VK), Inv X pins σ H s → RelV x v → Vals xs us → r x xs H Q →
    wpAny (model X.prog X.w) X.A (call (.builtin id) (v :: us)) (EP X pins σ Q) X.xe s
section
variable {X : Cx} {a b : Expr} {ta tb : TE} {pos : Pos}
theorem IxR.or {r r' : R2} (h : IxR X r) (h' : IxR X r') : IxR X (fun x y H Q => r x y H Q ∨ r' x y H Q) := by
  intro value slice pins s σ H x y v u Q I rx ry q hs
  rcases q with q | q
  · exact h value slice pins s σ H x y v u Q I rx ry q hs
  · exact h' value slice pins s σ H x y v u Q I rx ry q hs
theorem MtR.or {id : String} {r r' : V → List V → Hp → VK → Prop} (h : MtR X id r) (h' : MtR X id r') : MtR X id (fun x xs H Q => r x xs H Q ∨ r' x xs H Q) := by
  intro pins s σ H x xs v us Q I rx rs q
  rcases q with q | q
  · exact h pins s σ H x xs v us Q I rx rs q
  · exact h' pins s σ H x xs v us Q I rx rs q
/-- a[b] -/
theorem pe_ix {r : R2} (hr : IxR X r) (ha : PE X a ta) (hb : PE X b tb) (hs : PlainIx b) : PE X (.Subscript a b pos) (tOp r ta tb) := by
  intro pins s σ H Q I h
  exact Subscript_ (binT ha hb I h fun v u s2 x y H2 I2 rx ry q => hr a b pins s2 σ H2 x y v u Q I2 rx ry q (hs _ _))

def rIxL (K : PySem.W.Frag) : R2 := fun x y H Q => ∃ p xs i v, x = .ref p ∧ y = .int i ∧ SqL K H p xs ∧ atI xs i = some v ∧ Q v H
theorem ix_list : IxR X (rIxL X.K) := by
  intro value slice pins s σ H x y v u Q I rx ry h hs
  obtain ⟨p, xs, i, z, rfl, rfl, hq, he, q⟩ := h
  cases rx
  obtain ⟨t, rfl⟩ := ry
  obtain ⟨its, r, pl, hz⟩ := I.list hq
  obtain ⟨j, h1, h2, h3, h4, h5⟩ := atI_get he
  obtain ⟨w, ew, rw'⟩ := r.get h2
  have hl := r.length
  have hn := line63
  have fin : EP X pins σ Q w s := ⟨z, H, I, rw', q⟩
  by_cases h0 : 0 ≤ i
  · have hj : i.toNat = j := by
      rw [seqIndex_of h0 h5] at h1
      exact Option.some.inj h1
    exact item_listR pl.isList h0 (by omega) (by rw [hj]; simpa using ew) fin hs
  · have hj : (i + (its.toArray.size : Int)).toNat = j := by
      rw [seqIndex_neg (by omega) h4] at h1
      rw [List.size_toArray, ← hl]
      exact Option.some.inj h1
    exact subscriptTail_builtinR (x := w) pl.isList.typeIs slot_list_getitem.lookup
      (wpAny_getItem_list_neg (Q := fun r s' => r = w ∧ EP X pins σ Q r s') pl.isList (by omega) (by rw [List.size_toArray] <;> omega) (by omega) (by rw [hj]; simpa using ew) ⟨rfl, fin⟩) hs

/-! ### xs[i] = v, any sign -/
/-- the list's object behind a store -/
theorem mapSeq_set (its : List Value) (n j : Nat) (u : Value) : Obj.mapSeq (·.setIfInBounds j u) { cls := .type "list", data := .seq its.toArray n } = { cls := .type "list", data := .seq (its.set j u).toArray n } := by
  simp [Obj.mapSeq]
theorem Inv.lst {pins : List (Addr × Obj)} {σ : St} {H : Hp} {s : Shared} {p : Addr} {xs : List V} (I : Inv X pins σ H s) (h : H p = some (.lst xs)) :
    ∃ (its : List Value) (n : Nat), Vals xs its ∧ s.heap.get? p = some { cls := .type "list", data := .seq its.toArray n } ∧ xs.length ≤ sizeLine := by
  obtain ⟨z, its, n, r, e⟩ := I.hok p _ h
  exact ⟨its, n, r, e, z⟩
/-- the list at p is written by an update of its object -/
theorem Inv.lstUpd {pins : List (Addr × Obj)} {σ : St} {H : Hp} {s : Shared} {p : Addr} {xs ys : List V} {its its' : List Value} {n n' : Nat} {f : Obj → Obj} (I : Inv X pins σ H s) (h : H p = some (.lst xs))
    (ho : s.heap.get? p = some { cls := .type "list", data := .seq its.toArray n }) (hf : f { cls := .type "list", data := .seq its.toArray n } = { cls := .type "list", data := .seq its'.toArray n' }) (r : Vals ys its') (hz : ys.length ≤ sizeLine) (t : Nat) :
    Inv X pins σ (upd H p (.lst ys)) { s with heap := s.heap.update p f, toks := t } := by
  have e : (s.heap.update p f).get? p = some { cls := .type "list", data := .seq its'.toArray n' } := by
    rw [Heap.get?_update_self f ho (by rw [hf] <;> rfl), hf]
  refine I.write (x := p) (e := p) (by rw [h]; trivial) (.inl rfl) (fun b u hb q => (Heap.get?_update_other _ _ (Ne.symm hb)).trans q) ⟨_, e⟩ ?_
  exact ⟨hz, its', n', r, e⟩
def rSetL : V → V → V → Hp → (Hp → Prop) → Prop := fun o i v H Q => ∃ p xs k j, o = .ref p ∧ i = .int k ∧ H p = some (.lst xs) ∧ ixN xs.length k = some j ∧ Q (upd H p (.lst (xs.set j v)))
theorem set_list : PSet X rSetL := by
  intro pins s σ H o i v ov iv u Q I ro ri rv h
  obtain ⟨p, xs, k, j, rfl, rfl, hp, hj, q⟩ := h
  cases ro
  obtain ⟨t, rfl⟩ := ri
  obtain ⟨its, n, r, ho, hz⟩ := I.lst hp
  obtain ⟨h1, h2, h3, h4⟩ := ixN_seq hj
  have hl := r.length
  have hn := line63
  have I' : Inv X pins σ (upd H p (.lst (xs.set j v))) { s with heap := s.heap.update p (Obj.mapSeq (·.setIfInBounds j u)) } :=
    I.lstUpd hp ho (mapSeq_set its n j u) (r.set rv j) (by rw [List.length_set]; exact hz) s.toks
  by_cases h0 : 0 ≤ k
  · have hk : k.toNat = j := by
      rw [seqIndex_of h0 h4] at h1
      exact Option.some.inj h1
    exact PySem.W.ki_setAt ho h0 (by omega) (by rw [List.size_toArray, ← hl]; exact h4) (by rw [hk]; exact ⟨_, I', q⟩)
  · have hk : (k + (its.toArray.size : Int)).toNat = j := by
      rw [seqIndex_neg (by omega) h3] at h1
      rw [List.size_toArray, ← hl]
      exact Option.some.inj h1
    exact PySem.W.ki_setBack ho (by omega) (by rw [List.size_toArray, ← hl]; exact h3) (by omega) (by rw [hk]; exact ⟨_, I', q⟩)

/-! ### slices -/
theorem slice_bounds (lo hi : Option Int) (n : Nat) : (sliceBounds lo hi none n).1 = ((HT.sIx n 0 lo : Nat) : Int) ∧ (sliceBounds lo hi none n).2.1 = ((HT.sIx n n hi : Nat) : Int) ∧ (sliceBounds lo hi none n).2.2 = 1 := by
  refine ⟨?_, ?_, rfl⟩
  · cases lo with
    | none => simp [sliceBounds, HT.sIx]
    | some i =>
      simp only [sliceBounds, HT.sIx, Option.getD_none, show (1 : Int) > 0 by decide, if_true]
      by_cases h : i < 0
      · simp only [h, if_true] <;> omega
      · simp only [h, if_false] <;> omega
  · cases hi with
    | none => simp [sliceBounds, HT.sIx]
    | some i =>
      simp only [sliceBounds, HT.sIx, Option.getD_none, show (1 : Int) > 0 by decide, if_true]
      by_cases h : i < 0
      · simp only [h, if_true] <;> omega
      · simp only [h, if_false] <;> omega
theorem slicePick_cut (its : List Value) (lo hi : Option Int) : slicePick its.toArray lo hi none = ((its.drop (HT.sIx its.length 0 lo)).take (HT.sIx its.length its.length hi - HT.sIx its.length 0 lo)).toArray := by
  obtain ⟨h1, h2, h3⟩ := slice_bounds lo hi its.toArray.size
  unfold slicePick
  rw [h1, h2, h3]
  simp only [sliceRange_one, pick_run, List.size_toArray] <;> rfl
/-- xs[lo:hi] of a list: a new list -/
def rSlL (K : PySem.W.Frag) : V → Option Int → Option Int → Hp → VK → Prop := fun x lo hi H Q => ∃ a xs, x = .ref a ∧ SqL K H a xs ∧ ∀ p, H p = none → Q (.ref p) (upd H p (.lst (cutV xs lo hi)))
theorem sl_list : SlR X (rSlL X.K) := by
  intro pins s σ H x v vl vu lo hi sl Q I rx hs pl pu h
  obtain ⟨a, xs, rfl, hx, q⟩ := h
  cases rx
  obtain ⟨its, r, ht, hz⟩ := I.list hx
  have hlen := r.length
  refine ⟨"list", _, slot_list_getitem.lookup, ht.isList.typeIs, ?_⟩
  refine wpAny_getItem_list_slice ht.isList hs pl pu .none (by simp) ?_ (by rw [List.size_toArray] <;> omega)
  rw [slicePick_cut, ← hlen]
  refine ⟨.ref s.heap.objs.size, _, I.laid (t' := s.toks) (o := .lst (cutV xs lo hi)) (fun b ob q => Heap.get?_push_of_some _ q) (Nat.le_refl _) ?_, rfl, q _ (I.hok.fresh (Nat.le_refl _))⟩
  exact ⟨Nat.le_trans (cutV_length xs lo hi) hz, _, 0, (r.drop (HT.sIx xs.length 0 lo)).take (HT.sIx xs.length xs.length hi - HT.sIx xs.length 0 lo), Heap.get?_push_size _ rfl⟩

/-! ### in, not in: flat items -/
def flatV : V → Bool
  | .non => true
  | .bl _ => true
  | .int _ => true
  | .str _ => true
  | _ => false
/-- == of flat values -/
def eqV : V → V → Bool
  | .non, .non => true
  | .bl a, .bl b => a == b
  | .bl a, .int b => (if a then 1 else 0) == b
  | .int a, .bl b => a == (if b then 1 else 0)
  | .int a, .int b => a == b
  | .str a, .str b => a == b
  | _, _ => false
theorem eqAt_V {A : Around} {s : Shared} {y x : V} {u v : Value} (ry : RelV y u) (rx : RelV x v) (fy : flatV y = true) (fx : flatV x = true) : SeqAt.EqAt A s u v (eqV y x) := by
  cases y with
  | non =>
    cases ry
    cases x with
    | non => cases rx; exact SeqAt.EqAt.same _
    | bl b => cases rx; exact SeqAt.EqAt.none_bool b
    | int b => obtain ⟨t, rfl⟩ := rx; exact SeqAt.EqAt.none_int b t
    | str b => obtain ⟨t, rfl⟩ := rx; exact SeqAt.EqAt.none_str b t
    | _ => exact absurd (show false = true from fx) Bool.false_ne_true
  | bl a =>
    cases ry
    cases x with
    | non => cases rx; exact SeqAt.EqAt.bool_none a
    | bl b => cases rx; exact SeqAt.EqAt.bool_bool a b
    | int b => obtain ⟨t, rfl⟩ := rx; exact SeqAt.EqAt.bool_int a b t
    | str b => obtain ⟨t, rfl⟩ := rx; exact SeqAt.EqAt.bool_str a b t
    | _ => exact absurd (show false = true from fx) Bool.false_ne_true
  | int a =>
    obtain ⟨t', rfl⟩ := ry
    cases x with
    | non => cases rx; exact SeqAt.EqAt.int_none a t'
    | bl b => cases rx; exact SeqAt.EqAt.int_bool a t' b
    | int b => obtain ⟨t, rfl⟩ := rx; exact SeqAt.EqAt.int_int a t' b t
    | str b => obtain ⟨t, rfl⟩ := rx; exact SeqAt.EqAt.int_str a t' b t
    | _ => exact absurd (show false = true from fx) Bool.false_ne_true
  | str a =>
    obtain ⟨t', rfl⟩ := ry
    cases x with
    | non => cases rx; exact SeqAt.EqAt.str_none a t'
    | bl b => cases rx; exact SeqAt.EqAt.str_bool a t' b
    | int b => obtain ⟨t, rfl⟩ := rx; exact SeqAt.EqAt.str_int a t' b t
    | str b => obtain ⟨t, rfl⟩ := rx; exact SeqAt.EqAt.str_str a t' b t
    | _ => exact absurd (show false = true from fx) Bool.false_ne_true
  | _ => exact absurd (show false = true from fy) Bool.false_ne_true
/-- the items' answers, read off the values (a value's own answer does not lean on its token) -/
def eqU (x : V) (u : Value) : Bool := match u with
  | .none => eqV .non x
  | .bool b => eqV (.bl b) x
  | .int i _ => eqV (.int i) x
  | .str z _ => eqV (.str z) x
  | _ => false
theorem eqU_of {x y : V} {u : Value} (r : RelV y u) (f : flatV y = true) : eqU x u = eqV y x := by
  cases y with
  | non => cases r; rfl
  | bl b => cases r; rfl
  | int i => obtain ⟨t, rfl⟩ := r; rfl
  | str z => obtain ⟨t, rfl⟩ := r; rfl
  | _ => exact absurd (show false = true from f) Bool.false_ne_true
theorem any_eqU {x : V} : ∀ {xs : List V} {us : List Value}, Vals xs us → xs.all flatV = true → us.any (eqU x) = xs.any fun y => eqV y x
  | _, _, .nil, _ => rfl
  | y :: xs, u :: us, .cons r t, f => by
    rw [List.all_cons, Bool.and_eq_true] at f
    rw [List.any_cons, List.any_cons, eqU_of r f.1, any_eqU t f.2]
theorem mem_eqAt {A : Around} {s : Shared} {x : V} {v : Value} (rx : RelV x v) (fx : flatV x = true) : ∀ {xs : List V} {us : List Value}, Vals xs us → xs.all flatV = true → ∀ u ∈ us, SeqAt.EqAt A s u v (eqU x u)
  | _, _, .nil, _ => fun u hu => by cases hu
  | y :: xs, u :: us, .cons r t, f => fun u' hu => by
    rw [List.all_cons, Bool.and_eq_true] at f
    rcases List.mem_cons.mp hu with rfl | hu
    · rw [eqU_of r f.1]; exact eqAt_V r rx f.1 fx
    · exact mem_eqAt rx fx t f.2 u' hu
def inV (x : V) (xs : List V) : Bool := xs.any fun y => eqV y x
/-- x in a list or tuple of flat items -/
def rIn (K : PySem.W.Frag) (neg : Bool) : R2 := fun x y H Q => ∃ p xs, y = .ref p ∧ (SqL K H p xs ∨ SqT K H p xs) ∧ flatV x = true ∧ xs.all flatV = true ∧ Q (.bl (if neg then !inV x xs else inV x xs)) H
theorem op_in_seq : OpR X (compareOp .In) (rIn X.K false) := by
  intro pins s σ H x y v u Q I rx ry h
  obtain ⟨p, xs, rfl, hq, fx, fs, q⟩ := h
  cases ry
  rcases hq with hq | hq
  · obtain ⟨its, r, pl, hz⟩ := I.list hq
    refine SeqAt.in_listAt (eqU x) pl.isList (fun w hw => mem_eqAt rx fx r fs w (by simpa using hw)) ⟨.bl _, H, I, rfl, ?_⟩
    rw [show its.toArray.any (eqU x) = its.any (eqU x) by simp, any_eqU r fs]
    exact q
  · obtain ⟨its, r, pl, hz⟩ := I.tuple hq
    refine SeqAt.in_tupleAt (eqU x) pl (fun w hw => mem_eqAt rx fx r fs w (by simpa using hw)) ⟨.bl _, H, I, rfl, ?_⟩
    rw [show its.toArray.any (eqU x) = its.any (eqU x) by simp, any_eqU r fs]
    exact q
theorem op_notIn_seq : OpR X (compareOp .NotIn) (rIn X.K true) := by
  intro pins s σ H x y v u Q I rx ry h
  obtain ⟨p, xs, rfl, hq, fx, fs, q⟩ := h
  cases ry
  rcases hq with hq | hq
  · obtain ⟨its, r, pl, hz⟩ := I.list hq
    refine SeqAt.notIn_listAt (eqU x) pl.isList (fun w hw => mem_eqAt rx fx r fs w (by simpa using hw)) ⟨.bl _, H, I, rfl, ?_⟩
    rw [show its.toArray.any (eqU x) = its.any (eqU x) by simp, any_eqU r fs]
    exact q
  · obtain ⟨its, r, pl, hz⟩ := I.tuple hq
    refine SeqAt.notIn_tupleAt (eqU x) pl (fun w hw => mem_eqAt rx fx r fs w (by simpa using hw)) ⟨.bl _, H, I, rfl, ?_⟩
    rw [show its.toArray.any (eqU x) = its.any (eqU x) by simp, any_eqU r fs]
    exact q

/-! ### len, list(x), tuple(x) of any list or tuple that is read -/
theorem call_len_seq : CallR X (.builtin "len") (fun xs H Q => ∃ p ys, xs = [.ref p] ∧ (SqL X.K H p ys ∨ SqT X.K H p ys) ∧ Q (.int ys.length) H) := by
  intro pins s σ H xs us Q I r h
  obtain ⟨p, ys, rfl, hq, q⟩ := h
  obtain ⟨u, rfl, rx⟩ := vals1 r
  cases rx
  have hn := line63
  rcases hq with hq | hq
  · obtain ⟨its, r', pl, hz⟩ := I.list hq
    have hlen := r'.length
    exact Calls.call_len_list pl.isList (by simp only [List.size_toArray] <;> omega) ⟨.int ys.length, H, I.tok _, ⟨s.toks + 1, by rw [List.size_toArray, hlen]⟩, q⟩
  · obtain ⟨its, r', pl, hz⟩ := I.tuple hq
    have hlen := r'.length
    exact len_tuple pl (by simp only [List.size_toArray] <;> omega) ⟨.int ys.length, H, I.tok _, ⟨s.toks + 1, by rw [List.size_toArray, hlen]⟩, q⟩
theorem call_len_str : CallR X (.builtin "len") (fun xs H Q => ∃ z, xs = [.str z] ∧ z.length ≤ sizeLine ∧ Q (.int z.length) H) := by
  intro pins s σ H xs us Q I r h
  obtain ⟨z, rfl, hz, q⟩ := h
  obtain ⟨u, rfl, t, rfl⟩ := vals1 r
  have hn := line63
  exact len_str (by omega) ⟨.int z.length, H, I.tok _, ⟨_, rfl⟩, q⟩
theorem CallR.or {f : Value} {r r' : List V → Hp → VK → Prop} (h : CallR X f r) (h' : CallR X f r') : CallR X f (fun xs H Q => r xs H Q ∨ r' xs H Q) := by
  intro pins s σ H xs us Q I rs q
  rcases q with q | q
  · exact h pins s σ H xs us Q I rs q
  · exact h' pins s σ H xs us Q I rs q
theorem call_list_of : CallR X (.type "list") (fun xs H Q => ∃ p ys, xs = [.ref p] ∧ (SqL X.K H p ys ∨ SqT X.K H p ys) ∧ ∀ l, H l = none → Q (.ref l) (upd H l (.lst ys))) := by
  intro pins s σ H xs us Q I r h
  obtain ⟨p, ys, rfl, hq, q⟩ := h
  obtain ⟨u, rfl, rx⟩ := vals1 r
  cases rx
  have fin : ∀ (its : List Value), Vals ys its → ys.length ≤ sizeLine → ∀ (h' : Heap) (c' : Nat), (∀ b o', s.heap.get? b = some o' → h'.get? b = some o') →
      h'.get? s.heap.objs.size = some { cls := .type "list", dict := none, data := .seq its.toArray c', slots := #[] } → EP X pins σ Q (.ref s.heap.objs.size) { s with heap := h' } := fun its r' hz h' c' kp e =>
    ⟨.ref s.heap.objs.size, _, I.laid (t' := s.toks) kp (Nat.le_refl _) (show ObjOk X.prog X.w _ h' _ (.lst ys) from ⟨hz, its, c', r', e⟩), rfl, q _ (I.hok.fresh (Nat.le_refl _))⟩
  rcases hq with hq | hq
  · obtain ⟨its, r', pl, hz⟩ := I.list hq
    have hlen := r'.length
    obtain ⟨o, ho, hc, n, hd⟩ := pl.isList
    exact call_list_seq p (.inl rfl) ho hc hd (fun h' c' kp e => fin its r' hz h' c' kp e) (by simp only [List.size_toArray] <;> omega)
  · obtain ⟨its, r', pl, hz⟩ := I.tuple hq
    have hlen := r'.length
    obtain ⟨o, ho, hc, n, hd⟩ := pl
    exact call_list_seq p (.inr rfl) ho hc hd (fun h' c' kp e => fin its r' hz h' c' kp e) (by simp only [List.size_toArray] <;> omega)

/-! ### the call of a builtin's method: o.m(..) -/
/-- the value is of that builtin type -/
def tyV (K : PySem.W.Frag) (T : String) (x : V) (H : Hp) : Prop := match x with
  | .str _ => T = "str"
  | .int _ => T = "int"
  | .ref p => (T = "list" ∧ ∃ xs, SqL K H p xs) ∨ (T = "tuple" ∧ ∃ o, K.lookup p = some o ∧ o.cls = .type "tuple" ∧ o.dict = none) ∨
      (T = "dict" ∧ ((∃ kvs, H p = some (.dK kvs)) ∨ ∃ kvs, H p = some (.dT kvs))) ∨ (T = "set" ∧ ∃ S n, H p = some (.set S n))
  | _ => False
theorem tyV_is {pins : List (Addr × Obj)} {σ : St} {H : Hp} {s : Shared} {T : String} {x : V} {v : Value} (I : Inv X pins σ H s) (r : RelV x v) (ty : tyV X.K T x H) :
    s.TypeIs v T ∧ ∀ a, v = .ref a → ∃ ob, s.heap.get? a = some ob ∧ ob.dict = none := by
  cases x with
  | str z =>
    obtain ⟨t, rfl⟩ := r
    cases (show T = "str" from ty)
    exact ⟨typeIs_str s z t, fun _ e => nomatch e⟩
  | int i =>
    obtain ⟨t, rfl⟩ := r
    cases (show T = "int" from ty)
    exact ⟨typeIs_int s i t, fun _ e => nomatch e⟩
  | ref p =>
    cases r
    rcases ty with ⟨rfl, xs, hq⟩ | ⟨rfl, o, hk, hc, hd⟩ | ⟨rfl, hk⟩ | ⟨rfl, S, n, hk⟩
    · obtain ⟨its, _, pl, _⟩ := I.list hq
      refine ⟨pl.isList.typeIs, fun a e => ?_⟩
      cases e
      obtain ⟨o, n, e, c, hd, _⟩ := pl
      exact ⟨o, e, hd⟩
    · refine ⟨⟨o, I.kIn p o hk, hc⟩, fun a e => ?_⟩
      cases e
      exact ⟨o, I.kIn _ o hk, hd⟩
    · have z : ∃ o, s.heap.get? p = some o ∧ o.ExactDict := by
        rcases hk with ⟨kvs, hk⟩ | ⟨kvs, hk⟩
        · obtain ⟨_, _, _, _, o, _, _, e, ex, _⟩ := I.hok p _ hk
          exact ⟨o, e, ex⟩
        · obtain ⟨_, _, _, _, o, _, _, e, ex, _⟩ := I.hok p _ hk
          exact ⟨o, e, ex⟩
      obtain ⟨o, e, ex⟩ := z
      refine ⟨⟨o, e, ex.1⟩, fun a e2 => ?_⟩
      cases e2
      exact ⟨o, e, ex.2.1⟩
    · obtain ⟨o, _, _, _, e, ex, _⟩ := I.hok p _ hk
      refine ⟨⟨o, e, ex.1⟩, fun a e2 => ?_⟩
      cases e2
      exact ⟨o, e, ex.2.1⟩
  | _ => exact False.elim ty
def tBM (K : PySem.W.Frag) (T : String) (r : V → List V → Hp → VK → Prop) (to : TE) (t : TA) : TE := fun σ H Q => to σ H fun x H1 => tyV K T x H1 ∧ t σ H1 fun xs H2 => r x xs H2 Q
variable {o e : Expr} {es : List Expr} {to : TE} {t : TA} {name : Str} {apos cpos : Pos} {T id : String} {r : V → List V → Hp → VK → Prop}
theorem pe_bm (pa : PlainAttrs T) (slot : Slot T name id) (hty : typeOf (.builtin id) = pure (.type "method_descriptor")) (hm : MtR X id r) (ho : PE X o to) (ha : PA X (e :: es) t)
    (hbase : attributeBase o name X.env (eval o X.env) = eval o X.env := by rfl)
    (hfew : ((backTo cpos (starEach (e :: es) X.env)).all (fun x => !x.1) && (backToKw cpos (keywordEach [] X.env)).all (fun x => x.1.isSome)
      && decide ((e :: es).length + ([] : List Keyword).length + (if ([] : List Keyword).isEmpty then 0 else 1) < 30)) = true := by rfl)
    (hline : (apos.endLine == cpos.line) = true := by rfl) (hs : starEach (e :: es) X.env = (false, eval e X.env) :: starEach es X.env := by rfl) (hplain : (backTo cpos (starEach es X.env)).any (·.1) = false := by rfl) :
    PE X (.Call (.Attribute o name apos) (e :: es) [] cpos) (tBM X.K T r to t) := by
  intro pins s σ H Q I h
  refine wpAny_Call_method_late hbase hfew hline rfl (thn (ho pins s σ H _ I h) fun v s1 ⟨x, H1, I1, r1, ty, q1⟩ => ?_)
  obtain ⟨h1, h2⟩ := tyV_is I1 r1 ty
  refine ⟨T, id, pa, slot, hty, h1, h2, ?_⟩
  have hA := ha cpos pins s1 σ H1 _ I1 q1
  rw [hs] at hA ⊢
  refine Calls.callWith_builtin (by show (false || (backTo cpos (starEach es X.env)).any (·.1)) = false; rw [hplain] <;> rfl) (Calls.evalArgs_plain ?_)
  exact thn hA fun us s2 ⟨vs, H2, I2, r2, q2⟩ => hm pins s2 σ H2 x vs v us Q I2 r1 r2 q2
/- xs.append(e), list.index on a module's tuple .. are MtR facts of 06m -/
end
end L2

namespace L2
open PySem PySem.Spec PyProof.Rows

def MtM (X : Cx) (id : String) (r : V → List V → Hp → VK → Prop) : Prop :=
  ∀ (pins : List (Addr × Obj)) (s : Shared) (σ : St) (H : Hp) (x : V) (xs : List V) (v : Value) (us : List Value) (Q : VK), Inv X pins σ H s → RelV x v → Vals xs us → r x xs H Q →
    wpAny (model X.prog X.w) X.A (call (.builtin id) (v :: us)) (EP X pins σ Q) X.xe s

/-! ### lists of values -/
theorem Vals.one : ∀ {x : V} {us : List Value}, Vals [x] us → ∃ u, us = [u] ∧ RelV x u
  | _, _, .cons r .nil => ⟨_, rfl, r⟩
theorem Vals.two : ∀ {x y : V} {us : List Value}, Vals [x, y] us → ∃ u v, us = [u, v] ∧ RelV x u ∧ RelV y v
  | _, _, _, .cons r (.cons q .nil) => ⟨_, _, rfl, r, q⟩
theorem Vals.zero : ∀ {us : List Value}, Vals [] us → us = []
  | _, .nil => rfl
theorem Vals.dropLast {xs : List V} {us : List Value} (h : Vals xs us) : Vals xs.dropLast us.dropLast := by
  induction h with
  | nil => exact .nil
  | cons r t ih =>
    cases t with
    | nil => exact .nil
    | cons q t' => exact .cons r ih
theorem Vals.eraseIdx : ∀ {xs : List V} {us : List Value} (i : Nat), Vals xs us → Vals (xs.eraseIdx i) (us.eraseIdx i)
  | _, _, _, .nil => .nil
  | _, _, 0, .cons _ t => t
  | _, _, i + 1, .cons r t => .cons r (Vals.eraseIdx i t)
theorem Vals.reverse {xs : List V} {us : List Value} (h : Vals xs us) : Vals xs.reverse us.reverse := by
  induction h with
  | nil => exact .nil
  | cons r t ih => rw [List.reverse_cons, List.reverse_cons]; exact Vals.append ih (.cons r .nil)
theorem Vals.rep {xs : List V} {us : List Value} (h : Vals xs us) : ∀ k : Nat, Vals (List.replicate k xs).flatten (List.replicate k us).flatten
  | 0 => .nil
  | k + 1 => by
    rw [List.replicate_succ, List.replicate_succ, List.flatten_cons, List.flatten_cons]
    exact Vals.append h (Vals.rep h k)
theorem len_erase {α : Type} : ∀ (l : List α) (i : Nat), (l.eraseIdx i).length ≤ l.length
  | [], _ => Nat.le_refl _
  | _ :: _, 0 => Nat.le_succ _
  | _ :: r, i + 1 => Nat.succ_le_succ (len_erase r i)
theorem foldl_rep (its : List Value) : ∀ (k : Nat) (acc : List Value),
    List.foldl (fun x1 x2 => x1 ++ x2) acc.toArray (List.replicate k its.toArray) = (acc ++ (List.replicate k its).flatten).toArray
  | 0, acc => by simp
  | k + 1, acc => by
    have e : acc.toArray ++ its.toArray = (acc ++ its).toArray := by simp
    have e2 : (acc ++ its) ++ (List.replicate k its).flatten = acc ++ (List.replicate (k + 1) its).flatten := by
      rw [List.replicate_succ, List.flatten_cons, List.append_assoc]
    rw [← e2, ← foldl_rep its k (acc ++ its), ← e, List.replicate_succ, List.foldl_cons]

section
variable {X : Cx} {pins : List (Addr × Obj)} {σ : St} {H : Hp} {s : Shared} {l b : Addr} {xs ys zs : List V}

/-! ### the two steps: a tracked list is rewritten, a new list is laid -/
theorem Inv.lset {its its' : List Value} {n : Nat} {f : Array Value → Array Value} {t' : Nat} (I : Inv X pins σ H s) (hH : H l = some (.lst xs))
    (e : s.heap.get? l = some { cls := .type "list", data := .seq its.toArray n }) (hf : f its.toArray = its'.toArray) (hv : Vals ys its') (hz : ys.length ≤ sizeLine) :
    Inv X pins σ (upd H l (.lst ys)) { s with heap := s.heap.update l (Obj.mapSeq f), toks := t' } := by
  have q := PySem.IsL.update e f
  rw [hf] at q
  refine I.write (x := l) (e := l) (by rw [hH]; exact trivial) (.inl rfl) (fun b' u hb hu => (Heap.get?_update_other s.heap (Obj.mapSeq f) (Ne.symm hb)).trans hu) ⟨_, q⟩ ?_
  exact ⟨hz, its', _, hv, q⟩
theorem Inv.lnew {its : List Value} {t' : Nat} (I : Inv X pins σ H s) (hv : Vals ys its) (hz : ys.length ≤ sizeLine) :
    Inv X pins σ (upd H s.heap.objs.size (.lst ys)) { s with heap := s.heap.push { cls := .type "list", data := .seq its.toArray }, toks := t' } :=
  I.laid (fun _ _ q => Heap.get?_push_of_some _ q) (Nat.le_refl _) ⟨hz, its, 0, hv, Heap.get?_push_size _ rfl⟩
theorem Inv.fresh (I : Inv X pins σ H s) : H s.heap.objs.size = none := I.hok.fresh (Nat.le_refl _)
theorem Inv.lstM (I : Inv X pins σ H s) (hH : H l = some (.lst xs)) : xs.length ≤ sizeLine ∧ ∃ (its : List Value) (n : Nat), Vals xs its ∧ xs.length = its.length ∧ s.heap.get? l = some { cls := .type "list", data := .seq its.toArray n } := by
  obtain ⟨z, its, n, r, e⟩ := I.hok l _ hH
  exact ⟨z, its, n, r, r.length, e⟩

theorem notLongL {n : Nat} (h : n ≤ sizeLine) : Builtin.List.listTooLong n = false := by
  unfold Builtin.List.listTooLong
  exact decide_eq_false (by omega)
end

section
variable {X : Cx}

/-! ### methods -/
def rAppend : V → List V → Hp → VK → Prop := fun x vs H Q => ∃ l xs y, x = .ref l ∧ vs = [y] ∧ H l = some (.lst xs) ∧ xs.length < sizeLine ∧ Q .non (upd H l (.lst (xs ++ [y])))
theorem mt_append : MtM X "list.append" rAppend := by
  intro pins s σ H x vs v us Q I rx rv h
  obtain ⟨l, xs, y, rfl, rfl, hH, hz, q⟩ := h
  cases rx
  obtain ⟨u, rfl, ru⟩ := rv.one
  obtain ⟨z, its, n, r, hl, e⟩ := I.lstM hH
  refine call_meets F.slot_list_append ⟨_, e, rfl⟩ F.entry_list_append (F.args_list_append_2 _ _) (PySem.list_append l its.toArray n u (by rw [List.size_toArray]; omega)) ⟨e, ?_⟩
  refine ⟨.non, _, I.lset (its' := its ++ [u]) hH e (by simp) (r.append (.cons ru .nil)) ?_, rfl, q⟩
  rw [List.length_append, List.length_singleton]
  omega

def rExtend : V → List V → Hp → VK → Prop := fun x vs H Q => ∃ l b xs zs, x = .ref l ∧ vs = [.ref b] ∧ H l = some (.lst xs) ∧ H b = some (.lst zs) ∧ xs.length + zs.length ≤ sizeLine ∧ Q .non (upd H l (.lst (xs ++ zs)))
theorem mt_extend : MtM X "list.extend" rExtend := by
  intro pins s σ H x vs v us Q I rx rv h
  obtain ⟨l, b, xs, zs, rfl, rfl, hH, hB, hz, q⟩ := h
  cases rx
  obtain ⟨u, rfl, ru⟩ := rv.one
  cases ru
  obtain ⟨z, its, n, r, hl, e⟩ := I.lstM hH
  obtain ⟨z2, its2, n2, r2, hl2, e2⟩ := I.lstM hB
  have hsz : its.toArray.size + its2.toArray.size ≤ sizeLine := by rw [List.size_toArray, List.size_toArray]; omega
  have hlong : ¬ (!its.toArray.isEmpty && Builtin.List.listTooLong (its.toArray.size + its2.toArray.size)) = true := by
    rw [notLongL hsz, Bool.and_false]
    exact Bool.false_ne_true
  refine call_meets F.slot_list_extend ⟨_, e, rfl⟩ F.entry_list_extend (F.args_list_extend_2 _ _)
    (AutoSeq1.list_extend_list_list_0 l its.toArray n b its2.toArray n2 hlong (by rw [List.size_toArray]; omega) (by omega)) ⟨e, e2, ?_⟩
  refine ⟨.non, _, I.lset (its' := its ++ its2) hH e (by simp) (r.append r2) ?_, rfl, q⟩
  rw [List.length_append]
  omega


def rPopAt : V → List V → Hp → VK → Prop := fun x vs H Q => ∃ l xs i k y, x = .ref l ∧ vs = [.int i] ∧ H l = some (.lst xs) ∧ -(2 ^ 63) ≤ i ∧ i < 2 ^ 63 ∧ seqIndex? i xs.length = some k ∧ xs[k]? = some y ∧ Q y (upd H l (.lst (xs.eraseIdx k)))
theorem mt_popAt : MtM X "list.pop" rPopAt := by
  intro pins s σ H x vs v us Q I rx rv h
  obtain ⟨l, xs, i, k, y, rfl, rfl, hH, h1, h2, hk, hy, q⟩ := h
  cases rx
  obtain ⟨u, rfl, ru⟩ := rv.one
  obtain ⟨t, rfl⟩ := ru
  obtain ⟨z, its, n, r, hl, e⟩ := I.lstM hH
  obtain ⟨w, hw, rw'⟩ := r.get hy
  refine call_meets F.slot_list_pop ⟨_, e, rfl⟩ F.entry_list_pop (F.args_list_pop_2 _ _)
    (MeetsSeq.list_pop_at l its.toArray n i t k w (fitsIndex_both h1 h2) (by rw [List.size_toArray, ← hl]; exact hk) (by rw [← Array.getElem?_toList]; exact hw) (by rw [List.size_toArray]; omega)) ⟨e, ?_⟩
  refine ⟨y, _, I.lset (its' := its.eraseIdx k) hH e ?_ (r.eraseIdx k) ?_, rw', q⟩
  · show its.toArray.eraseIdxIfInBounds k = (its.eraseIdx k).toArray
    rw [List.eraseIdxIfInBounds_toArray]
  · have := len_erase xs k
    omega



/-! ### list + list, list += list, list * int -/
def rCat : R2 := fun x y H Q => ∃ l b xs zs, x = .ref l ∧ y = .ref b ∧ H l = some (.lst xs) ∧ H b = some (.lst zs) ∧ xs.length + zs.length ≤ sizeLine ∧ ∀ p, H p = none → Q (.ref p) (upd H p (.lst (xs ++ zs)))
theorem op_cat : OpR X (binaryOp .Add) rCat := by
  intro pins s σ H x y v u Q I rx ry h
  obtain ⟨l, b, xs, zs, rfl, rfl, hH, hB, hz, q⟩ := h
  cases rx
  cases ry
  obtain ⟨z, its, n, r, hl, e⟩ := I.lstM hH
  obtain ⟨z2, its2, n2, r2, hl2, e2⟩ := I.lstM hB
  refine PySem.P.add_list e e2 ?_ (by rw [List.size_toArray, List.size_toArray]; omega)
  have ea : its.toArray ++ its2.toArray = (its ++ its2).toArray := by simp
  rw [ea]
  exact ⟨.ref _, _, I.lnew (t' := s.toks) (r.append r2) (by rw [List.length_append]; omega), rfl, q _ I.fresh⟩
/-- a list times an int (a negative one is nothing) -/
def rRep : R2 := fun x y H Q => ∃ l k xs, x = .ref l ∧ y = .int k ∧ H l = some (.lst xs) ∧ -(2 ^ 63) ≤ k ∧ k < 2 ^ 63 ∧ xs.length * k.toNat ≤ sizeLine ∧
  ∀ p, H p = none → Q (.ref p) (upd H p (.lst (List.replicate k.toNat xs).flatten))
theorem len_rep {α : Type} (xs : List α) (k : Nat) : (List.replicate k xs).flatten.length = k * xs.length := by
  induction k with
  | zero => simp
  | succ k ih => rw [List.replicate_succ, List.flatten_cons, List.length_append, ih, Nat.succ_mul, Nat.add_comm]
theorem op_rep : OpR X (binaryOp .Mult) rRep := by
  intro pins s σ H x y v u Q I rx ry h
  obtain ⟨l, k, xs, rfl, rfl, hH, h1, h2, hz, q⟩ := h
  cases rx
  obtain ⟨t, rfl⟩ := ry
  obtain ⟨z, its, n, r, hl, e⟩ := I.lstM hH
  have hlen : its.toArray.size * k.toNat ≤ sizeLine := by rw [List.size_toArray, ← hl]; exact hz
  have hcap : ¬ its.toArray.size * k.toNat > (2 ^ 63 - 1) / 8 := by
    have : (sizeLine : Nat) ≤ (2 ^ 63 - 1) / 8 := by decide
    omega
  have hfit : ¬ (!Builtin.List.listFitsIndex k) = true := by
    rw [fitsIndex_both h1 h2]
    exact Bool.false_ne_true
  have hlong : ¬ Builtin.List.listTooLong (its.toArray.size * k.toNat) = true := by
    rw [notLongL hlen]
    exact Bool.false_ne_true
  have hnew : List.foldl (fun x1 x2 => x1 ++ x2) #[] (List.replicate (if its.toArray.isEmpty = true then 0 else k.toNat) its.toArray) = (List.replicate k.toNat its).flatten.toArray := by
    have f0 : ∀ m : Nat, List.foldl (fun x1 x2 => x1 ++ x2) #[] (List.replicate m its.toArray) = (List.replicate m its).flatten.toArray := fun m => by
      have := foldl_rep its m []
      rw [List.nil_append] at this
      exact this
    rw [f0]
    cases its with
    | nil => simp
    | cons a r' => rw [if_neg (by simp)]
  refine wpAny_binaryOp_repeat_ref (T := "list") (U := "int") (by decide) ⟨_, e, rfl⟩ (fun s' => typeIs_int s' k t) noFill_list_mul F.fills_int_mul F.slot_int_rmul repeat_list F.slot_int_index.lookup
    (call_meets F.slot_int_rmul (typeIs_int s k t) F.entry_int_rmul (F.args_int_rmul_2 _ _) (int___rmul___int_list k t l its.toArray n)
      ⟨e, rfl, ⟨_, e, rfl⟩, call_meets F.slot_list_mul ⟨_, e, rfl⟩ F.entry_list_mul (F.args_list_mul_2 _ _) (AutoListH.list___mul___list_int_3 l its.toArray n k t hfit hcap hlong) ⟨e, ?_⟩⟩)
  rw [hnew]
  exact ⟨.ref _, _, I.lnew (t' := s.toks) (r.rep k.toNat) (by rw [len_rep, Nat.mul_comm]; exact hz), rfl, q _ I.fresh⟩

/-! ### del xs[i] -/
end

/-! ### xs[a:b] = ys -/
section
variable {prog : Program} {w : World} {A : Around} {E : Value → Shared → Prop} {s : Shared}
set_option maxRecDepth 100000 in
end

section
variable {X : Cx}
end
end L2

namespace Att
open PySem PySem.W PySem.Calls PyProof.Rows

/-! ### the script -/
theorem ints_of_wellAll {P : Params} {h : Heap} : ∀ (ns : List Int) (vs : List Value), WellAll P h vs (ns.map WData.int) → IntsAre vs ns := by
  intro ns
  induction ns with
  | nil =>
    intro vs w
    rw [List.map_nil] at w
    cases w
    exact .nil
  | cons n ns ih =>
    intro vs w
    rw [List.map_cons] at w
    cases w with
    | cons a b =>
      cases a
      exact .cons _ _ (ih _ b)

theorem script_of {l : OpenLaw} {n : Nat} (hn : l.most = some n) {P : Params} {h : Heap} {args : List WData} {vals : List Value}
    (hpre : l.row.toRowW.claim.pre args = true) (hwl : WellAll P h vals args) :
    ∃ a vs ns, vals = [Value.ref a] ∧ args = [WData.list (ns.map WData.int)] ∧ h.get? a = some { cls := .type "list", data := .seq vs.toArray } ∧ IntsAre vs ns ∧ ns.length ≤ n := by
  have hsh : WShape.hasAll [] args [.list .int] = true := (pre_splitW hpre).1
  have hc : l.pre.holds [] { args := args } = true := (pre_splitW hpre).2
  obtain ⟨d, r, rfl, h1, h2⟩ := hasAllW_cons hsh
  obtain rfl := hasAllW_nil h2
  obtain ⟨xs, rfl, h3⟩ := hasW_list h1
  obtain ⟨ns, rfl⟩ := items_int h3
  have hlen : ns.length ≤ n := by
    unfold OpenLaw.pre at hc
    have h4 : (WTm.not (.lt (.lit (.int (n : Int))) (.len (.arg 0)))).holds [] { args := [.list (ns.map .int)] } = true := by
      have h4 := (holds_andW hc).1
      rw [hn] at h4
      exact h4
    have h5 := condW_of h4 (w_not (w_lt w_lit (w_len_list (w_arg rfl))))
    rw [List.length_map] at h5
    refine Nat.le_of_not_lt fun q => ?_
    have q' : (n : Int) < ((ns.length : Nat) : Int) := by omega
    first
      | (rw [decide_eq_true q'] at h5; exact absurd h5 (by decide))
      | (simp at h5; omega)
  cases hwl with
  | cons w1 w2 =>
    cases w2
    cases w1 with
    | list ho hall => exact ⟨_, _, ns, rfl, rfl, ho, ints_of_wellAll ns _ hall, hlen⟩

theorem post_true (l : OpenLaw) (args : List WData) : l.row.toRowW.claim.post args (.bool true) args = true :=
  postW_of (r := l.row.toRowW) (X := (true == true))
    (show WShape.has [] (.bool true) .bool = true by first | rfl | decide | simp [WShape.has, WShape.arms, WShape.armsAll])
    (show (WTm.eq .res (.lit (.bool true))).value [] { args := args, res := some (.bool true), after := args } = some (.bool (true == true)) from w_eq_bool (w_res rfl) w_lit) rfl

/-! ### the attachment: holds_open's last premise (the goal 'hc' behind k_head) from a wpAny of the law's body -/

/-- the same from a codeAny of the CALL (for a layer whose function contracts speak of calls) -/
theorem attach_call {l : OpenLaw} {n : Nat} {q : Program} {loose : List Str} {XP : (Str → Option Value) → Heap → Prop} {YP : World → Heap → Prop} {d : DefRec}
    (hn : l.most = some n) (hdf : d.params.defaults = [])
    (call : ∀ (w : World) (s₀ s₁ : Shared) (mg mb : Str → Option Value) (fa : Addr) (o : Obj) (pm cd doc : Value) (a : Addr) (vs : List Value) (ns : List Int),
      Ground q loose [] XP w s₀ mg mb s₁.heap → YP w s₁.heap →
      s₁.heap.get? fa = some o → o.data = .func (docDef d.name d.params d.body d.scope pm cd doc) → s₁.heap.CodeRec cd d.name → mg d.name = some (.ref fa) →
      s₁.heap.get? a = some { cls := .type "list", data := .seq vs.toArray } → IntsAre vs ns → ns.length ≤ n → s₁.gens = #[] →
      codeAny (model l.prog w) callerA (.call (.ref fa) ⟨[.ref a], []⟩) (fun r s' => r = .ok (.ret (.bool true)) ∧ OldK s₁.heap s'.heap ∧ s'.os = s₁.os ∧ AllBare s'.gens) s₁) :
    WalkO q loose XP YP l.row.toRowW d [] (fun f vs => PySem.call f vs) := by
  intro w s₀ s₁ mg mb G Y fa o pm cd doc dV kV ho hd hcd hD hmg hg args vals as hpre hlay hrd hwl hlo
  obtain rfl : dV = .none := Dflts.none hD hdf
  obtain rfl : kV = .none := Dflts.noKw hD
  obtain ⟨a, vs, ns, rfl, rfl, hobj, hints, hlen⟩ := script_of hn hpre hwl
  refine enter_call (codeAny_mono (call w s₀ s₁ mg mb fa o pm cd doc a vs ns G Y ho (fd_plain hd) hcd hmg hobj hints hlen hg) fun r s' hq => ?_)
  obtain ⟨rfl, h2, h3, h4⟩ := hq
  exact ⟨.inl ⟨.bool true, .bool true, [], rfl, fun _ => rfl, .bool true, post_true l _, fun _ => ⟨List.Pairwise.nil, fun _ hm => (nomatch hm)⟩⟩, h2, h3, h4⟩


/-! ### rules over ANY heap (no ledger) from facts about the written part K: the library's own take a ledger (News) for what they write -/
section
variable {prog : Program} {w : World} {A : Around} {E : Value → Shared → Prop} {s : Shared} {K : Frag}





/-! the whole heap as the ledger: makes every rule that writes through a ledger a rule over any heap -/
def ledger (h : Heap) (L d : Addr) : List (Addr × Obj) := (List.range h.objs.size).filterMap fun a => if a = L ∨ a = d then none else (h.get? a).map fun o => (a, o)

end
end Att

namespace L2
open PySem PySem.Spec PyProof.Rows

theorem vals_ints : ∀ {vs : List Value} {ns : List Int}, IntsAre vs ns → Vals (ns.map V.int) vs
  | _, _, .nil => .nil
  | _, _, .cons n t h => .cons ⟨t, rfl⟩ (vals_ints h)

/-- nothing is tracked but the script, known to the object (or it is an object of the module) -/
def Only (H : Hp) : Prop := ∀ b, H b = none ∨ ∃ o xs, H b = some (.frz o (.lst xs))

/-- THE HEAD: the law's promise, at the heap behind the top. F, the promise of the law's def, may use that base is part of the heap (so K.In base, base.Ns mainGlobals mg stand in Mod) -/
theorem law_call {P : Program} {w : World} {K : PySem.W.Frag} {mg mb : Str → Option Value} {CX : CXT} {k : Nat} {fa a : Addr} {fd : FuncData} {x : Str} {sp : Sp} {s₁ : Shared} {vs : List Value} {ns : List Int}
    (KX : K.In s₁.heap) (hns : s₁.heap.Ns mainGlobals mg) (hb : s₁.heap.Ns builtinsNs mb) (hbb : ∀ x : Str, x ≠ "__name__" → mb x = bootBuiltins x) (hlim : s₁.heap.NoLimit) (hg : s₁.gens = #[])
    (ha : s₁.heap.get? a = some { cls := .type "list", data := .seq vs.toArray }) (hi : IntsAre vs ns) (hl : ns.length ≤ sizeLine) (hr : Room k callerA)
    (F : ∀ base : Heap, K.In base → base.Ns mainGlobals mg → FnOk P w K mg base CX k fa fd [x] sp) (hbind : ∀ (s : Shared) (u : Value), BindsTo s fd ⟨[u], []⟩ [(x, u)])
    (hsp : ∀ H : Hp, Only H → SqL K H a (ns.map V.int) → sp [.ref a] H (fun v _ => v = .bl true) fun _ _ _ => False)
    (hCX : ∀ H e s', CX [] H s₁ (fun _ _ _ => False) e s' → False) :
    codeAny (model P w) callerA (.call (.ref fa) ⟨[.ref a], []⟩) (fun r s' => r = .ok (.ret (.bool true)) ∧ OldK s₁.heap s'.heap ∧ s'.os = s₁.os ∧ AllBare s'.gens) s₁ := by
  have rv := vals_ints hi
  have lenV := hi.length
  -- from an abstract heap in which nothing but the script may be tracked
  have core : ∀ H : Hp, Only H → SqL K H a (ns.map V.int) → HOk P w H s₁.heap → (∀ b, H b ≠ none → b = a) → (H a ≠ none → K.lookup a = none) →
      codeAny (model P w) callerA (.call (.ref fa) ⟨[.ref a], []⟩) (fun r s' => r = .ok (.ret (.bool true)) ∧ OldK s₁.heap s'.heap ∧ s'.os = s₁.os ∧ AllBare s'.gens) s₁ := by
    intro H hO hS hok hA hK
    have base_of : ∀ {b : Addr} {o : Obj}, s₁.heap.get? b = some o → H b = none → (hidT s₁.heap H).get? b = some o := fun e n => hidT_get e n
    have noA : ∀ {b : Addr} {o : Obj} {es : Array DictEntry} {ep : Nat}, s₁.heap.get? b = some o → o.data = .dict es ep → H b = none := fun {b o es ep} e d => by
      cases q : H b with
      | none => rfl
      | some u =>
        have e' : b = a := hA b (by rw [q]; simp)
        subst e'
        rw [ha] at e; cases e
        have d' : Data.seq vs.toArray _ = Data.dict es ep := d
        cases d'
    have nsK : ∀ {b : Addr} {m : Str → Option Value}, s₁.heap.Ns b m → (hidT s₁.heap H).Ns b m := fun {b m} ⟨o, es, ep, e, d, r⟩ => ⟨o, es, ep, base_of e (noA e d), d, r⟩
    have hKb : K.In (hidT s₁.heap H) := fun b o e => base_of (KX b o e) (by
      cases q : H b with
      | none => rfl
      | some u =>
        have e' : b = a := hA b (by rw [q]; simp)
        subst e'
        rw [hK (by rw [q]; simp)] at e; cases e)
    have hM : Mod K mg (hidT s₁.heap H) := ⟨hKb, nsK hns, ⟨mb, nsK hb, hbb⟩, let ⟨mc, h1, h2⟩ := hlim; ⟨mc, nsK h1, h2⟩⟩
    have e0 : Env0 P w K mg (hidT s₁.heap H) callerA [] s₁ H := ⟨rfl, hM, fun b o e => of_hidT e, Nat.le_of_eq (hidT_size _ _), trivial, fun b hb => absurd (show b ∈ ([] : List Addr) from hb) (by simp), hok, .of_eq hg⟩
    refine codeAny_mono ((F _ hKb (nsK hns)).run callerA [] s₁ H ⟨[.ref a], []⟩ [.ref a] [.ref a] _ _ hr e0 (hbind s₁ (.ref a)) (.cons rfl .nil) (hsp H hO hS)) fun r s' h => ?_
    cases r with
    | error e => exact (hCX H e s' h).elim
    | ok fl =>
      cases fl with
      | next => exact False.elim h
      | brk => exact False.elim h
      | cont => exact False.elim h
      | ret u =>
        obtain ⟨v, H', os, bare, un, hok', r', q⟩ := h
        have q' : v = .bl true := q
        subst q'
        obtain rfl : u = Value.bool true := r'
        refine ⟨rfl, OldK.of_keep fun b o e => ?_, os, bare⟩
        cases q : H b with
        | none => exact un.keep b o e q (by intro z; exact absurd (show b ∈ ([] : List Addr) from z) (by simp)) (by simp)
        | some u =>
          rcases hO b with z | ⟨ob, xs, z⟩
          · rw [q] at z; cases z
          · have z2 := un.frzs b ob _ z
            obtain ⟨e1, _⟩ := hok b _ z
            obtain ⟨e2, _⟩ := hok' b _ z2
            rw [e] at e1; cases e1
            exact e2
  cases hk : K.lookup a with
  | some o =>
    -- the script is one of the module's own objects
    have e := KX a o hk
    rw [ha] at e
    cases e
    refine core (fun _ => none) (fun _ => .inl rfl) (.inr ⟨_, vs.toArray, _, hk, rfl, rfl, rfl, by rw [List.size_toArray, lenV]; exact hl, by simpa using rv⟩) (fun b u z => by have z' : (none : Option HO) = some u := z; cases z') (fun b z => absurd rfl z) fun z => absurd rfl z
  | none =>
    refine core (fun b => if b = a then some (.frz { cls := .type "list", data := .seq vs.toArray } (.lst (ns.map V.int))) else none) (fun b => ?_) (.inl (.inr ⟨{ cls := .type "list", data := .seq vs.toArray }, if_pos rfl⟩)) (fun b u z => ?_) (fun b z => ?_) fun _ => hk
    · by_cases hb : b = a
      · exact .inr ⟨_, _, if_pos hb⟩
      · exact .inl (if_neg hb)
    · by_cases hb : b = a
      · have z' := (if_pos hb).symm.trans z
        cases z'
        subst hb
        exact ⟨ha, by rw [List.length_map]; exact hl, vs, _, rv, ha⟩
      · have z' := (if_neg hb).symm.trans z
        cases z'
    · by_cases hb : b = a
      · exact hb
      · exact absurd (if_neg hb) z
end L2

namespace L2
open PySem PySem.Spec PyProof.Rows

abbrev KOf {K : PySem.W.Frag} {h : Heap} (_ : K.In h) : PySem.W.Frag := K

/-- the goal that k_head leaves (case hc), from the law's promise. F gives the function object fd (K's own) once, then the promise over every base -/
theorem walk_of {l : PySem.W.OpenLaw} {n k : Nat} {q : Program} {loose : List Str} {XP : (Str → Option Value) → Heap → Prop} {YP : World → Heap → Prop} {d : DefRec} {K : Params → PySem.W.Frag} {CX : World → CXT} {sp : World → Sp} {x : Str}
    (hn : l.most = some n) (hn2 : n ≤ sizeLine) (hdf : d.params.defaults = []) (hr : Room k callerA)
    (hY : ∀ (w : World) (h : Heap), YP w h → (K w.params).In h)
    (F : ∀ (w : World) (mg : Str → Option Value) (fa : Addr) (h : Heap), (K w.params).In h → h.Ns mainGlobals mg → mg d.name = some (.ref fa) →
      ∃ fd : FuncData, (∀ (s : Shared) (u : Value), BindsTo s fd ⟨[u], []⟩ [(x, u)]) ∧
        ∀ base : Heap, (K w.params).In base → base.Ns mainGlobals mg → FnOk l.prog w (K w.params) mg base (CX w) k fa fd [x] (sp w))
    (hsp : ∀ (w : World) (H : Hp) (a : Addr) (ns : List Int), ns.length ≤ n → Only H → SqL (K w.params) H a (ns.map V.int) → sp w [.ref a] H (fun v _ => v = .bl true) fun _ _ _ => False)
    (hCX : ∀ (w : World) (H : Hp) (s : Shared) (e : Value) (s' : Shared), CX w [] H s (fun _ _ _ => False) e s' → False) :
    PySem.W.WalkO q loose XP YP l.row.toRowW d [] (fun f vs => PySem.call f vs) := by
  refine Att.attach_call hn hdf fun w s₀ s₁ mg mb fa o pm cd doc a vs ns G Y ho hd hcd hmg hobj hints hlen hg => ?_
  have KX := hY w _ Y
  obtain ⟨fd, hb, hF⟩ := F w mg fa _ KX G.T.g hmg
  exact law_call KX G.T.g G.T.b G.T.builtins G.T.nolimit hg hobj hints (Nat.le_trans hlen hn2) hr hF hb (fun H hO hS => hsp w H a ns hlen hO hS) fun H e s' => hCX w H s₁ e s'
end L2

/- THE LAST THEOREM (shape; LID, My.* are yours):
   My.Adr: a structure of the addresses that your layer names (classes, functions); My.Txt K t: a structure (Prop) of the equations over K;
   My.txt_mk : {K} {implicit addresses ..} (e1 : nsIn K mainGlobals "law" = some (some (.ref f))) (e2 : K.lookup f = some ⟨oc, od, .func (fnOf "law" "law" params body scope dV kV doc pm an cdv ct), sl⟩) (e3 : codeIn K cdv "law" = true) .. : ∃ t, My.Txt K t

set_option maxRecDepth 100000 in
set_option maxHeartbeats 0 in
theorem PySem.Challenge.cw_LID_holds : PySem.Challenge.rw_LID.Holds := by
  w_on; o_law; k_head; (case hw => w_witness2)
  k_fill
  refine L2.walk_of (l := PySem.Challenge.rw_LID) (n := 63) (k := 40) (x := "script") (CX := fun w => ..) (sp := fun _ => My.sp_law) rfl (by decide) rfl ⟨rfl, by decide, by decide⟩ (fun w h Y => PySem.W.kIn_of Y) ?F ?S ?C
  case F =>
    intro w mg fa h KX G hmg
    have T : ∃ t, My.Txt (L2.KOf KX) t := by
      dsimp only [L2.KOf]                          -- K must stand as «<heap const> w.params» for k_is
      refine' My.txt_mk ?e1 ?e2 ?e3 ..
      (case e1 => PySem.W.k_is)                    -- in the order: a name -> its address -> its object -> its parts
      (case e2 => PySem.W.k_is)
      ..
    obtain ⟨t, T⟩ := T
    have e0 := hmg.symm.trans (PySem.W.mg_of KX G T.law)
    cases e0                                       -- fa is the law's own address
    exact ⟨_, fun s u => .of_eq rfl, fun base kb nb => My.law_fn T kb nb⟩     -- if «.of_eq rfl» comes too early: refine' ⟨_, ?b, fun base kb nb => My.law_fn T kb nb⟩; exact fun s u => .of_eq rfl
  case S => exact fun w H a ns hl hO hS => ..
  case C => exact ..
(the tactic k_is has no namespace: write k_is) -/

/-! SHORT WORDS over the layer: a def of the text, its body, what a loop and a test want. -/
namespace L2
open PySem PySem.Spec PyProof.Rows

/-! ### the text by places -/
def defArgs (s : Stmt) : Arguments := match s with
  | .FunctionDef _ a _ _ _ _ _ _ _ _ => a
  | _ => { posonlyargs := [], args := [], vararg := none, kwonlyargs := [], kw_defaults := [], kwarg := none, defaults := [] }
def defBody (s : Stmt) : List Stmt := match s with
  | .FunctionDef _ _ b _ _ _ _ _ _ _ => b
  | _ => []
def defScope (s : Stmt) : Scope := match s with
  | .FunctionDef _ _ _ _ _ _ sc _ _ _ => sc
  | _ => { kind := .function, names := [], isGenerator := false, isCoroutine := false }

/-! ### no exception leaves a def -/
abbrev CX0 : CXT := fun _ _ _ _ _ _ => False
abbrev E0 : XK := fun _ _ _ => False
theorem pass0 {X : Cx} : Passes CX0 X E0 := fun _ _ _ _ _ _ _ h => h.elim

/-! ### a def (or method) of the text as it stands behind the top -/
structure Fun (K : PySem.W.Frag) (x qual : Str) (st : Stmt) (f : Addr) (fd : FuncData) : Prop where
  ex : ∃ (oc : Value) (od : Option Addr) (kV doc pm : Value) (an : Option Addr) (cdv ct : Value) (osl : Array (Option Value)),
    fd = PySem.W.fnOf x qual (defArgs st) (defBody st) (defScope st) .none kV doc pm an cdv ct ∧ K.lookup f = some ⟨oc, od, .func fd, osl⟩ ∧ PySem.W.codeIn K cdv qual = true
  kp : PySem.W.keepIn K (.ref f) = true
section
variable {P : Program} {w : World} {K : PySem.W.Frag} {mg : Str → Option Value} {base : Heap}
/-- THE RULE for a def: its body as a term of rules, and the reading of that term -/
theorem Fun.ok {x qual : Str} {st : Stmt} {f : Addr} {fd : FuncData} {N ps : List Str} {k : Nat} {sp : Sp} (F : Fun K x qual st f fd) (S : FnScope N ps (defScope st)) (len : ∀ vs H Q E, sp vs H Q E → vs.length = ps.length)
    (hbody : ∀ (cdv : Value) (A : Around) (outer : List Env) (s : Shared) (H : Hp) (vs : List V) (Q : VK) (E : XK), Room k (A.deeper (envOfC qual (defScope st) s.heap.objs.size f cdv)) → sp vs H Q E →
      ∃ t, PSs (cxOf CX0 P w K mg base N qual (defScope st) f cdv A outer s H E).nox (defBody st) t ∧ t { nx := fun _ H' => Q .non H', rt := Q } (start N vs) H) : FnOk P w K mg base CX0 (k + 1) f fd ps sp := by
  obtain ⟨oc, od, kV, doc, pm, an, cdv, ct, osl, rfl, lk, hcd⟩ := F.ex
  refine fn_of lk hcd S len fun A outer s H vs Q E hr hsp => ?_
  obtain ⟨t, h, q⟩ := hbody cdv A outer s H vs Q E hr hsp
  exact ⟨t, h.nox, q⟩
/-- how its arguments bind (no defaults): h is «fun _ _ _ _ _ _ us hl => match us, hl with | [_, _], _ => rfl», one _ a parameter -/
theorem Fun.binds {x qual : Str} {st : Stmt} {f : Addr} {fd : FuncData} {ps : List Str} (F : Fun K x qual st f fd)
    (h : ∀ (kV doc pm : Value) (an : Option Addr) (cdv ct : Value) (us : List Value), us.length = ps.length → bindArgs (PySem.W.fnOf x qual (defArgs st) (defBody st) (defScope st) .none kV doc pm an cdv ct) ⟨us, []⟩ = pure (ps.zip us)) : Binds K fd ps [] := by
  obtain ⟨oc, od, kV, doc, pm, an, cdv, ct, osl, rfl, lk, hcd⟩ := F.ex
  exact .all (h kV doc pm an cdv ct)
theorem fun_mk {x qual : Str} {st : Stmt} {f : Addr} {oc : Value} {od an : Option Addr} {osl : Array (Option Value)} {kV doc pm cdv ct : Value} (l : K.lookup f = some ⟨oc, od, .func (PySem.W.fnOf x qual (defArgs st) (defBody st) (defScope st) .none kV doc pm an cdv ct), osl⟩)
    (c : PySem.W.codeIn K cdv qual = true) (k : PySem.W.keepIn K (.ref f) = true) : Fun K x qual st f (PySem.W.fnOf x qual (defArgs st) (defBody st) (defScope st) .none kV doc pm an cdv ct) := ⟨⟨oc, od, kV, doc, pm, an, cdv, ct, osl, rfl, l, c⟩, k⟩
end
theorem hu_of {A : Around} {k : Nat} (hr : Room k A) : A.units + 1 < cLine := Nat.lt_of_le_of_lt (Nat.add_le_add_left (by decide : 1 ≤ 64) _) hr.units
theorem small1000 {n : Nat} (h : n ≤ 1000) : n < sizeLine := Nat.lt_of_le_of_lt h (by decide)

/-! ### expressions in short: the name that stands in the i-th slot -/
section
variable {X : Cx}
theorem pv (i : Nat) {x : Str} {pos : Pos} (hN : X.N[i]? = some x := by rfl) (hv : Vis X.env.scope x := by first | exact Or.inl rfl | exact Or.inr (Or.inl rfl) | exact Or.inr (Or.inr rfl)) (hd : (x == ("__debug__" : Str)) = false := by decide)
    (hcd : (x == ("__classdict__" : Str)) = false := by decide) : PE X (.Name x pos) (tVar i) := pe_var hN hv hd hcd
end

/-! ### tests -/
theorem iteF {A B : Prop} (h : B) : if false = true then A else B := by
  rw [if_neg Bool.false_ne_true]
  exact h
theorem iteT {A B : Prop} (h : A) : if true = true then A else B := by
  rw [if_pos rfl]
  exact h
theorem ite2 {c A B : Prop} [Decidable c] (h1 : c → A) (h2 : ¬ c → B) : if c then A else B := by
  by_cases h : c
  · rw [if_pos h]
    exact h1 h
  · rw [if_neg h]
    exact h2 h

/-! ### heaps -/
/-- all that was tracked is as it was -/
def Same (H H' : Hp) : Prop := ∀ b o, H b = some o → H' b = some o
theorem Same.refl (H : Hp) : Same H H := fun _ _ h => h
theorem Same.trans {H H1 H2 : Hp} (a : Same H H1) (b : Same H1 H2) : Same H H2 := fun c o h => b c o (a c o h)
theorem Same.free {H H' : Hp} (e : Same H H') {l : Addr} (h : H' l = Option.none) : H l = Option.none := by
  cases q : H l with
  | none => rfl
  | some o =>
    rw [e l o q] at h
    cases h
theorem Same.seq {K : PySem.W.Frag} {H H' : Hp} {a : Addr} {xs : List V} (e : Same H H') (h : SqL K H a xs) : SqL K H' a xs := by
  rcases h with (h | ⟨o, h⟩) | h
  · exact .inl (.inl (e _ _ h))
  · exact .inl (.inr ⟨o, e _ _ h⟩)
  · exact .inr h

end L2

set_option maxHeartbeats 4000000
namespace L2
open PySem PySem.Spec PyProof.Rows

/-! ### comprehensions -/
/-- what is asked of a comprehension's block: sc its names, outer the names around it, M the outer names that it may see (others hidden), x its own -/
def compOK (outer sc : Scope) (x : Str) (M N : List Str) : Bool :=
  decide (sc.kind = .function) && sc.names.all (fun y => decide (y.2 ≠ .cell)) && sc.names.all (fun y => decide (y.2 = .local → sc.names.lookup y.1 = some .local)) && decide (sc.names.lookup x = some .local) &&
  sc.names.all (fun y => decide (y.2 = .free → (outer.names.lookup y.1 = some .cell ∨ outer.names.lookup y.1 = some .free))) &&
  decide ((M ++ [x]).Nodup) && decide (M.length = N.length) && (M.zip N).all (fun p => decide (p.1 = p.2 ∨ sc.names.lookup p.1 = none)) && M.all (fun y => decide (sc.names.lookup y ≠ some .local))

theorem lookup_relabel {env : Env} : ∀ {names : List (Str × NameKind)} {x : Str} {k' : NameKind},
    (names.map fun (n, k) => if (k == NameKind.free && env.scope.kind == .function && env.kindOf n == some .cell) then (n, NameKind.cell) else (n, k)).lookup x = some k' →
    ∃ k, names.lookup x = some k ∧ (k' = k ∨ (k = .free ∧ k' = .cell))
  | [], _, _, h => by simp at h
  | (n, k) :: r, x, k', h => by
    have ih := @lookup_relabel env r x k'
    have h' : List.lookup x ((if (k == NameKind.free && env.scope.kind == .function && env.kindOf n == some .cell) = true then (n, NameKind.cell) else (n, k)) :: _) = some k' := h
    cases hx : x == n with
    | true =>
      by_cases hc : ((k == NameKind.free && env.scope.kind == .function && env.kindOf n == some .cell)) = true
      · rw [if_pos hc] at h'
        simp only [List.lookup_cons, hx] at h'
        refine ⟨k, by simp [List.lookup_cons, hx], .inr ⟨?_, (Option.some.inj h').symm⟩⟩
        simp only [Bool.and_eq_true, beq_iff_eq] at hc
        exact hc.1.1
      · rw [if_neg hc] at h'
        simp only [List.lookup_cons, hx] at h'
        exact ⟨k, by simp [List.lookup_cons, hx], .inl (Option.some.inj h').symm⟩
    | false =>
      have h'' : List.lookup x (r.map fun (n, k) => if (k == NameKind.free && env.scope.kind == .function && env.kindOf n == some .cell) then (n, NameKind.cell) else (n, k)) = some k' := by
        by_cases hc : ((k == NameKind.free && env.scope.kind == .function && env.kindOf n == some .cell)) = true
        · rw [if_pos hc] at h'; simp only [List.lookup_cons, hx] at h'; exact h'
        · rw [if_neg hc] at h'; simp only [List.lookup_cons, hx] at h'; exact h'
      obtain ⟨k0, a, b⟩ := ih h''
      exact ⟨k0, by simp only [List.lookup_cons, hx]; exact a, b⟩

theorem closure_go {env : Env} : ∀ (names : List (Str × NameKind)) (cs : List (Str × Addr)), (∀ y ∈ names, y.2 = .free → ∃ c, env.cells.lookup y.1 = some c) → (∀ y c, cs.lookup y = some c → env.cells.lookup y = some c) →
    ∃ cl, (forIn names cs fun (x : Str × NameKind) (r : List (Str × Addr)) => (if (x.2 == NameKind.free) = true then (do let a ← cellOf env x.1; pure (ForInStep.yield ((x.1, a) :: r))) else pure (ForInStep.yield r) : Sem _)) = pure cl ∧
      (∀ y c, cl.lookup y = some c → env.cells.lookup y = some c) ∧ (∀ y, ((∃ c, cs.lookup y = some c) ∨ (y, NameKind.free) ∈ names) → ∃ c, cl.lookup y = some c)
  | [], cs, _, hc => ⟨cs, rfl, hc, fun y h => by
      rcases h with h | h
      · exact h
      · cases h⟩
  | (n, k) :: r, cs, hf, hc => by
    by_cases hk : k = .free
    · subst hk
      obtain ⟨a, ha⟩ := hf (n, .free) List.mem_cons_self rfl
      have hc' : ∀ y c, List.lookup y ((n, a) :: cs) = some c → env.cells.lookup y = some c := fun y c e => by
        simp only [List.lookup_cons] at e
        split at e
        · rename_i q
          have q' : y = n := by simpa using q
          subst q'
          exact ha.trans e
        · exact hc y c e
      obtain ⟨cl, h1, h2, h3⟩ := closure_go r ((n, a) :: cs) (fun y hy => hf y (List.mem_cons_of_mem _ hy)) hc'
      refine ⟨cl, ?_, h2, fun y h => ?_⟩
      · rw [List.forIn_cons]
        show ((if (NameKind.free == NameKind.free) = true then (do let a ← cellOf env n; pure (ForInStep.yield ((n, a) :: cs))) else pure (ForInStep.yield cs) : Sem _) >>= _) = _
        rw [if_pos (by decide)]
        have e : cellOf env n = pure a := by unfold cellOf; rw [ha]
        rw [e]
        exact h1
      · refine h3 y ?_
        rcases h with ⟨c, h⟩ | h
        · left
          simp only [List.lookup_cons]
          split
          · exact ⟨_, rfl⟩
          · exact ⟨c, h⟩
        · rcases List.mem_cons.mp h with q | q
          · left
            cases q
            exact ⟨a, by simp [List.lookup_cons]⟩
          · exact .inr q
    · obtain ⟨cl, h1, h2, h3⟩ := closure_go r cs (fun y hy => hf y (List.mem_cons_of_mem _ hy)) hc
      refine ⟨cl, ?_, h2, fun y h => ?_⟩
      · rw [List.forIn_cons]
        show ((if (k == NameKind.free) = true then (do let a ← cellOf env n; pure (ForInStep.yield ((n, a) :: cs))) else pure (ForInStep.yield cs) : Sem _) >>= _) = _
        rw [if_neg (by simpa using hk)]
        exact h1
      · refine h3 y ?_
        rcases h with h | h
        · exact .inl h
        · rcases List.mem_cons.mp h with q | q
          · cases q; exact absurd rfl hk
          · exact .inr q

theorem closure_ok {env : Env} {scope : Scope} (hf : ∀ y ∈ scope.names, y.2 = .free → ∃ c, env.cells.lookup y.1 = some c) :
    ∃ cl, closureFor scope env = pure cl ∧ (∀ y c, cl.lookup y = some c → env.cells.lookup y = some c) ∧ (∀ y, (y, NameKind.free) ∈ scope.names → ∃ c, cl.lookup y = some c) := by
  obtain ⟨cl, h1, h2, h3⟩ := closure_go scope.names [] hf (fun y c e => by simp at e)
  refine ⟨cl, ?_, h2, fun y h => h3 y (.inr h)⟩
  unfold closureFor
  rw [← bind_pure (x := (pure cl : Sem _)), ← h1]

/-- a block's own: its cells, its frame, the state and the heap ahead of it, the iterator's records -/
structure CB where
  cl : List (Str × Addr)
  C : Addr
  s2 : Shared
  H2 : Hp
  fp : List Addr
/-- the block's context -/
def Cx.comp (X : Cx) (N' : List Str) (scope : Scope) (b : CB) : Cx where
  prog := X.prog
  w := X.w
  K := X.K
  mg := X.mg
  base := X.base
  A := X.A
  N := N'
  s₀ := b.s2
  H₀ := b.H2
  env := compEnvC scope b.cl b.C X.env
  outer := X.stack
  stack := X.stack
  ex := b.fp
  fn := fun _ => false
  calm := X.calm
  pn := []
  xe := fun _ _ => False

structure CompOK (outer sc : Scope) (x : Str) (M N : List Str) : Prop where
  kind : sc.kind = .function
  nocell : ∀ y ∈ sc.names, y.2 ≠ .cell
  loc : ∀ y ∈ sc.names, y.2 = .local → sc.names.lookup y.1 = some .local
  own : sc.names.lookup x = some .local
  free : ∀ y ∈ sc.names, y.2 = .free → (outer.names.lookup y.1 = some .cell ∨ outer.names.lookup y.1 = some .free)
  nd : (M ++ [x]).Nodup
  len : M.length = N.length
  same : ∀ p ∈ M.zip N, p.1 = p.2 ∨ sc.names.lookup p.1 = none
  noloc : ∀ y ∈ M, sc.names.lookup y ≠ some .local
theorem compOK_of {outer sc : Scope} {x : Str} {M N : List Str} (h : compOK outer sc x M N = true) : CompOK outer sc x M N := by
  unfold compOK at h
  simp only [Bool.and_eq_true, decide_eq_true_eq, List.all_eq_true] at h
  obtain ⟨⟨⟨⟨⟨⟨⟨⟨h1, h2⟩, h3⟩, h4⟩, h5⟩, h6⟩, h7⟩, h8⟩, h9⟩ := h
  exact ⟨h1, h2, h3, h4, h5, h6, h7, h8, h9⟩

section
variable {X : Cx} {pins : List (Addr × Obj)} {σ : St} {H2 : Hp} {s2 : Shared} {scope : Scope} {x : Str} {M : List Str} {cl : List (Str × Addr)} {fp : List Addr} {h1 : Heap} {t' : Nat}

/-- the block's entry -/
theorem Inv.comp (I : Inv X pins σ H2 s2) (K : CompOK X.env.scope scope x M X.N) (hcl : ∀ y c, cl.lookup y = some c → X.env.cells.lookup y = some c) (hcf : ∀ y, (y, NameKind.free) ∈ scope.names → ∃ c, cl.lookup y = some c)
    (hfp : ∀ b ∈ fp, FpOk X pins H2 b) (hlt : ∀ b ∈ fp, b < s2.heap.objs.size) (kp : ∀ b o, s2.heap.get? b = some o → h1.get? b = some o) (hD : h1.get? s2.heap.objs.size = some { cls := .type "list", dict := none, data := .seq ([] : List Value).toArray })
    (hC : h1.Ns (s2.heap.objs.size + 1) (fun _ => none)) :
    Inv (X.comp (M ++ [x]) scope ⟨cl, s2.heap.objs.size + 1, s2, H2, fp⟩) [] (σ ++ [none]) (upd H2 s2.heap.objs.size (.lst [])) { s2 with heap := h1, toks := t' } := by
  have cellLt : ∀ y c, cl.lookup y = some c → c < s2.heap.objs.size := fun y c e => by
    obtain ⟨v, z⟩ := I.cell y c (hcl y c e)
    exact z.lt
  have kindEq : ∀ y k', (compEnvC scope cl (s2.heap.objs.size + 1) X.env).kindOf y = some k' → ∃ k, scope.names.lookup y = some k ∧ (k' = k ∨ (k = .free ∧ k' = .cell)) := fun y k' e => lookup_relabel e
  have freeOf : ∀ y k', (compEnvC scope cl (s2.heap.objs.size + 1) X.env).kindOf y = some k' → (k' = .cell ∨ k' = .free) → (y, NameKind.free) ∈ scope.names := fun y k' e hk => by
    obtain ⟨k, e1, e2⟩ := kindEq y k' e
    have mem := PySem.mem_of_lookup e1
    have : k = .free := by
      rcases e2 with rfl | ⟨rfl, _⟩
      · rcases hk with rfl | rfl
        · exact absurd rfl (K.nocell _ mem)
        · rfl
      · rfl
    subst this
    exact mem
  have hDn : H2 s2.heap.objs.size = none := I.hok.fresh (Nat.le_refl _)
  refine ⟨⟨I.ok.mod, K.kind, I.ok.glob, I.ok.blt, Nat.le_succ _, fun y z c e1 e2 => I.ok.inj y z c (hcl y c e1) (hcl z c e2), fun y hy => ?_, fun y c hf _ => ?_, I.ok.hd, I.ok.frames, .inl rfl, fun b hb => ⟨Nat.ne_of_lt (Nat.lt_succ_of_lt (hlt b hb)), fun y c e => (hfp b hb).2.2.2.2.1 y c (hcl y c e)⟩,
    fun b o e => I.bs b o e, Nat.le_trans I.ok.bsz I.sz, fun b o e hb => ?_, fun b hb hf => ?_, I.stack, I.stkFree⟩, rfl, I.bare, Un.laid kp (Nat.le_refl _) hDn, ⟨_, hC, fun i y v e1 e2 e3 => ?_⟩, fun y c e => ?_, ?_, fun y c e => ?_, fun p hp => absurd (show p ∈ ([] : List (Addr × Obj)) from hp) (by simp), I.hok.laid kp (Nat.le_refl _) ?_, ?_⟩
  · rcases hy with hy | hy
    · exact hcf y (freeOf y _ hy (.inl rfl))
    · exact hcf y (freeOf y _ hy (.inr rfl))
  · exact absurd (show false = true from hf) Bool.false_ne_true
  · obtain ⟨f0, f1, f2, f3, f4, f5⟩ := hfp b hb
    rcases f3 with z | z
    · exact I.ok.noex b o e z
    · exact absurd (Nat.lt_of_lt_of_le (Heap.lt_size (I.ok.bs b o e).1) z) (Nat.lt_irrefl _)
  · obtain ⟨f0, f1, f2, f3, f4, f5⟩ := hfp b hb
    rcases List.mem_cons.mp (I.stkSub b hf) with z | z
    · exact f1 z
    · exact f2 z
  · -- names
    have hi : i < σ.length := by
      by_cases hi : i < σ.length
      · exact hi
      · have hz : (σ ++ [none])[i]? = some (some v) := e2
        rw [List.getElem?_append_right (by omega)] at hz
        by_cases hq : i - σ.length = 0
        · rw [hq] at hz; cases hz
        · rw [List.getElem?_eq_none (by simp; omega)] at hz; cases hz
    have e2' : σ[i]? = some (some v) := by
      have hz : (σ ++ [none])[i]? = some (some v) := e2
      rw [List.getElem?_append_left hi] at hz
      exact hz
    have hiM : i < M.length := by rw [K.len, ← I.len]; exact hi
    have e1' : M[i]? = some y := by
      have hz : (M ++ [x])[i]? = some y := e1
      rw [List.getElem?_append_left hiM] at hz
      exact hz
    have hyM : y ∈ M := List.mem_of_getElem? e1'
    have e3' : ∃ k', (compEnvC scope cl (s2.heap.objs.size + 1) X.env).kindOf y = some k' ∧ (k' = .cell ∨ k' = .free) := by
      rcases e3 with z | z | z
      · obtain ⟨k, a, b⟩ := kindEq y _ z
        rcases b with b | ⟨_, b⟩
        · subst b; exact absurd a (K.noloc y hyM)
        · cases b
      · exact ⟨_, z, .inl rfl⟩
      · exact ⟨_, z, .inr rfl⟩
    obtain ⟨k', ek, hk⟩ := e3'
    have mem := freeOf y k' ek hk
    obtain ⟨k0, a0, _⟩ := kindEq y k' ek
    have hiN : i < X.N.length := by rw [← K.len]; exact hiM
    have eN : X.N[i]? = some y := by
      have hz : (M[i], X.N[i]) ∈ M.zip X.N := by
        rw [List.mem_iff_getElem?]
        exact ⟨i, List.getElem?_zip_eq_some.mpr ⟨List.getElem?_eq_getElem hiM, List.getElem?_eq_getElem hiN⟩⟩
      have eM : M[i] = y := by
        rw [List.getElem?_eq_getElem hiM] at e1'
        exact Option.some.inj e1'
      rcases K.same _ hz with q | q
      · rw [List.getElem?_eq_getElem hiN]
        have q' : M[i] = X.N[i] := q
        rw [← q', eM]
      · have q' : scope.names.lookup M[i] = none := q
        rw [eM, a0] at q'
        cases q'
    have hv := K.free _ mem rfl
    obtain ⟨m, hn, hl⟩ := I.loc
    obtain ⟨u, r, l⟩ := hl i y v eN e2' (hv.elim (fun z => .inr (.inl z)) (fun z => .inr (.inr z)))
    refine ⟨u, r, .inr ⟨?_, ?_⟩⟩
    · rcases hk with rfl | rfl
      · exact .inl ek
      · exact .inr ek
    · obtain ⟨c, ec⟩ := hcf y mem
      refine ⟨c, ec, ?_⟩
      rcases l with ⟨z, _⟩ | ⟨_, c', ec', cc⟩
      · have z' : X.env.scope.names.lookup y = some .local := z
        rcases hv with q | q <;> (rw [z'] at q; cases q)
      · have := (hcl y c ec).symm.trans ec'
        cases this
        obtain ⟨o, ho, hd⟩ := cc
        exact ⟨o, kp _ o ho, hd⟩
  · obtain ⟨v, o, ho, hd⟩ := I.cell y c (hcl y c e)
    exact ⟨v, o, kp _ o ho, hd⟩
  · show upd H2 s2.heap.objs.size (.lst []) (s2.heap.objs.size + 1) = none
    rw [upd_ne (Nat.succ_ne_self _)]
    exact I.hok.fresh (Nat.le_succ _)
  · rw [upd_ne (Nat.ne_of_lt (cellLt y c e))]
    exact I.freeC y c (hcl y c e)
  · exact ⟨Nat.zero_le _, [], _, .nil, hD⟩
  · show (σ ++ [none]).length = (M ++ [x]).length
    simp [I.len, K.len]
end
end L2

namespace L2
open PySem PySem.Spec PyProof.Rows

/-- the loop of a list comprehension of one clause -/
theorem comp_loop {prog : Program} {w : World} {A : Around} {R : Result → Shared → Prop} {s : Shared} {elt target iter : Expr} {ifs : List Expr} {scope : Scope} {pos : Pos} {it acc : Value} {env : Env} (I : Nat → Shared → Prop)
    (onward : ∀ n s, I n s → wpAny (model prog w) A (pyNext it) (fun r za => match r with
      | none => R (.ok .next) za
      | some v => wpAny (model prog w) A (letOwnedTupleGo target it v) (fun _ zb => wpAny (model prog w) A (assign target env v) (fun _ zc =>
          wpAny (model prog w) A (forIn ifs true fun c r => if r = true then do let ok ← isTrue c env (eval c env); pure (ForInStep.yield ok) else pure (ForInStep.yield r)) (fun ok zd =>
            if ok = true then wpAny (model prog w) A (eval elt env) (fun x ze =>
              wpAny (model prog w) A (call (.builtin "list.append") [acc, x]) (fun _ zf => ∃ m, m < n ∧ I m zf) (fun _ _ => False) ze) (fun _ _ => False) zd
            else ∃ m, m < n ∧ I m zd) (fun _ _ => False) zc) (fun _ _ => False) zb) (fun _ _ => False) za) (fun _ _ => False) s)
    (n : Nat) (h : I n s) :
    codeAny (model prog w) A (.compLoop (.ListComp elt [⟨target, iter, ifs, 0⟩] scope pos) 0 it acc env) R s :=
  by
  refine codeAny_loop rfl I (fun n s hJ => ?_) n h
  show wpAny _ A ((compTurn (.ListComp elt [⟨target, iter, ifs, 0⟩] scope pos) 0 it acc env).onRaise (fun ex =>  do noteFrame ex env; theTreesLotGoes ex)) _ _ s
  refine wpAny_noted (wpAny_mono (E := fun _ _ => False) ?_ (fun _ _ q => q) fun _ _ z => z.elim)
  rw [compTurn_list]
  refine wpAny_bind (wpAny_standAt (wpAny_bind (wpAny_mono (onward n s hJ) (fun r za ya => ?_) fun _ _ u => u)))
  cases r with
  | none => exact wpAny_pure ya
  | some v =>
    refine wpAny_bind (wpAny_mono ya (fun _ zb yb => ?_) fun _ _ u => u)
    refine wpAny_bind (wpAny_mono yb (fun _ zc yc => wpAny_bind (wpAny_mono yc (fun ok zd yd => ?_) fun _ _ u => u)) fun _ _ u => u)
    cases ok with
    | false => exact wpAny_pure ⟨rfl, yd⟩
    | true =>
      exact wpAny_bind (wpAny_bind (wpAny_mono yd (fun x ze ye => wpAny_bind (wpAny_mono ye (fun _ zf yf => wpAny_pure (wpAny_pure ⟨rfl, yf⟩)) fun _ _ u => u)) fun _ _ u => u))

/-- the tests of a clause -/
def PIfs (X : Cx) (ifs : List Expr) (t : TT) : Prop :=
  ∀ (pins : List (Addr × Obj)) (s : Shared) (σ : St) (H : Hp) (Q : Bool → Hp → Prop), Inv X pins σ H s → t σ H Q →
    wpAny (model X.prog X.w) X.A (forIn ifs true fun c r => if r = true then do let ok ← isTrue c X.env (eval c X.env); pure (ForInStep.yield ok) else pure (ForInStep.yield r)) (TP X pins σ Q) X.xe s
def tNoIf : TT := fun _ H Q => Q true H
theorem pif_nil {X : Cx} : PIfs X [] tNoIf := fun pins s σ H Q I h => wpAny_tests_nil ⟨H, I, h⟩
theorem pif_one {X : Cx} {c : Expr} {t : TT} (h : PT X c t) : PIfs X [c] t := fun pins s σ H Q I q => wpAny_tests_one (h pins s σ H Q I q)

/-- [elt for x in iter if ..]: D is the list that is made -/
def tComp (wi : TI) (tc : CB → TT) (te : CB → TE) : TE := fun σ H Q => wi σ H fun J H1 => ∀ D, H1 D = none → ∀ b : CB, ∃ W : Nat → Nat → List V → Hp → Prop, (∃ m, W 0 m [] (upd H1 D (.lst []))) ∧
  ∀ i m ys H, W i m ys H → (J.stop i H ∧ Q (.ref D) H) ∨ (J.go i H ∧ ys.length < sizeLine ∧ ∃ N : List V → Hp → Prop, (∀ ys' H', N ys' H' → ∃ m', m' < m ∧ W (i + 1) m' ys' H') ∧ ∀ x H', J.yld i H x H' → tc b (σ ++ [some x]) H' fun ok H2 =>
    if ok = true then te b (σ ++ [some x]) H2 fun v H3 => H3 D = some (.lst ys) ∧ N (ys ++ [v]) (upd H3 D (.lst (ys ++ [v]))) else N ys H2)

theorem append_call {X : Cx} {pins : List (Addr × Obj)} {σ : St} {H : Hp} {s : Shared} {D : Addr} {ys : List V} {v : V} {u : Value} {E : Value → Shared → Prop} (I : Inv X pins σ H s) (hD : H D = some (.lst ys)) (hz : ys.length < sizeLine) (r : RelV v u) :
    wpAny (model X.prog X.w) X.A (call (.builtin "list.append") [.ref D, u]) (fun _ s' => Inv X pins σ (upd H D (.lst (ys ++ [v]))) s') E s := by
  obtain ⟨z, its, n, rv, hl, e⟩ := I.lstM hD
  refine call_meets F.slot_list_append ⟨_, e, rfl⟩ F.entry_list_append (F.args_list_append_2 _ _) (PySem.list_append D its.toArray n u (by rw [List.size_toArray]; omega)) ⟨e, ?_⟩
  refine I.lset (its' := its ++ [u]) hD e (by simp) (rv.append (.cons r .nil)) ?_
  rw [List.length_append, List.length_singleton]
  omega

theorem SameBut.unC {H H' : Hp} {fs ex : List Addr} {h h1 h2 : Heap} {C : Addr} (u : Un fs ex H H' h h1) (sb : Heap.SameBut C h1 h2) (hC : h.objs.size ≤ C) : Un fs ex H H' h h2 := by
  have ne : ∀ b o, h.get? b = some o → b ≠ C := fun b o e z => by subst z; exact absurd (Nat.lt_of_lt_of_le (Heap.lt_size e) hC) (Nat.lt_irrefl _)
  refine ⟨fun b o e n hb hx => (sb.2 b (ne b o e)).trans (u.keep b o e n hb hx), fun b o e n hb hx => ?_, u.free, fun b o e hx => ?_, u.tups, u.frzs, u.tbls⟩
  · obtain ⟨sl, q⟩ := u.slot b o e n hb hx
    exact ⟨sl, (sb.2 b (ne b o e)).trans q⟩
  · obtain ⟨o', q⟩ := u.there b o e hx
    exact ⟨o', (sb.2 b (ne b o e)).trans q⟩
theorem SameBut.hokC {P : Program} {w : World} {H : Hp} {h1 h2 : Heap} {C : Addr} (ok : HOk P w H h1) (sb : Heap.SameBut C h1 h2) (hn : H C = none) : HOk P w H h2 := fun b ob e => by
  refine (ok b ob e).stay (fun c w' hc q => (sb.2 c ?_).trans q) (fun _ q => q) fun _ _ q => q
  rintro rfl
  rcases hc with rfl | hc
  · rw [hn] at e; cases e
  · rw [hn] at hc; cases hc

theorem comp_core {X : Cx} {iter elt : Expr} {ifs : List Expr} {x : Str} {px pos pos0 : Pos} {scope : Scope} (M : List Str) {wi : TI} {tc : CB → TT} {te : CB → TE} {use : Option (Value → Sem Unit)} {R : Value → Shared → Prop}
    {pins : List (Addr × Obj)} {s : Shared} {σ : St} {H : Hp} {Q : VK} (I : Inv X pins σ H s) (h : tComp wi tc te σ H Q)
    (hfin : ∀ (D C : Addr) (m : Str → Option Value) (s' : Shared) (H' : Hp), s'.heap.Ns C m → FpOk X pins H' C → (∀ h', Heap.SameBut C s'.heap h' → Inv X pins σ H' { s' with heap := h' }) → Q (.ref D) H' → compPost (model X.prog X.w) X.A X.xe use R (.ref D) C (.ok .next) s')
    (hc : X.calm = true) (hi : PI X (.Name x px) iter wi)
    (hif : ∀ b : CB, PIfs (X.comp (M ++ [x]) scope b) ifs (tc b)) (he : ∀ b : CB, PE (X.comp (M ++ [x]) scope b) elt (te b))
    (ok : compOK X.env.scope scope x M X.N = true := by kernel_rfl)
    (hs : ∀ x, foldedSetIterable iter X.env x = pure x := by intro _; rfl) :
    wpAny (model X.prog X.w) X.A (comprehension (.ListComp elt [⟨.Name x px, iter, ifs, 0⟩] scope pos) scope X.env pos0 (newList []) false (eval iter X.env) use) R X.xe s := by
  have K := compOK_of ok
  obtain ⟨cl, hclos, hcl, hcf⟩ := closure_ok (env := X.env) (scope := scope) fun y hy hk => I.ok.has y.1 (K.free y hy hk)
  refine wpAny_comprehension_free (use := use) rfl hs hclos K.kind K.loc ?_
  refine thn (hi pins s σ H _ I h) fun v s1 h1 => thn h1 fun itv s2 h2 => ?_
  obtain ⟨it, fp, tn, J, H2, rfl, I2, T, st2, f2, hq⟩ := h2
  refine wpAny_newObj_type (wpAny_newFunctionEnv K.nocell (by intro y hy; simp at hy) (fun h₁ hns₁ hsb₁ => ?_) K.kind)
  dsimp only at hns₁ hsb₁ ⊢
  have hsize : (s2.heap.push { cls := .type "list", dict := none, data := .seq ([] : List Value).toArray }).objs.size = s2.heap.objs.size + 1 := Heap.size_push ..
  rw [hsize] at hns₁ hsb₁
  have ltD : s2.heap.objs.size ≠ s2.heap.objs.size + 1 := Nat.ne_of_lt (Nat.lt_succ_self _)
  have kp : ∀ b o, s2.heap.get? b = some o → h₁.get? b = some o := fun b o e => hsb₁.extBut b o (Nat.ne_of_lt (Nat.lt_succ_of_lt (Heap.lt_size e))) (Heap.get?_push_of_some _ (Heap.get?_push_of_some _ e))
  have hD : h₁.get? s2.heap.objs.size = some { cls := .type "list", dict := none, data := .seq ([] : List Value).toArray } := hsb₁.extBut _ _ ltD (Heap.get?_push_of_some _ (Heap.get?_push_size _ rfl))
  have hlt : ∀ b ∈ fp, b < s2.heap.objs.size := fun b hb => let ⟨o, e, _⟩ := T.obj _ _ st2 b hb; Heap.lt_size e
  have I3 := I2.comp (t' := s2.toks + ([] : List (Str × Value)).length) K hcl hcf f2 hlt kp hD hns₁
  obtain ⟨W, ⟨m0, w0⟩, step⟩ := hq s2.heap.objs.size (I2.hok.fresh (Nat.le_refl _)) ⟨cl, s2.heap.objs.size + 1, s2, H2, fp⟩
  have st3 : tn 0 h₁ := T.keep _ _ _ st2 fun b _ o e => kp b o e
  have fr3 : ∀ b ∈ fp, (upd H2 s2.heap.objs.size (.lst [])) b = none := fun b hb => by rw [upd_ne (Nat.ne_of_lt (hlt b hb))]; exact (f2 b hb).1
  -- what the block's end gives
  have fin : ∀ (s' : Shared) (σ' : St) (H' : Hp), Inv (X.comp (M ++ [x]) scope ⟨cl, s2.heap.objs.size + 1, s2, H2, fp⟩) [] σ' H' s' → Q (.ref s2.heap.objs.size) H' →
      compPost (model X.prog X.w) X.A X.xe use R (.ref s2.heap.objs.size) (s2.heap.objs.size + 1) (.ok .next) s' := fun s' σ' H' J' q => by
    obtain ⟨m, hn, _⟩ := id J'.loc
    have hC : H' (s2.heap.objs.size + 1) = none := J'.free
    refine hfin _ _ m s' H' hn (I2.fpOk (Nat.le_succ _) hC) (fun h' sb => ?_) q
    exact I2.call' (ch := fp) (show s'.os = s2.os from J'.os) (SameBut.unC J'.base sb (Nat.le_succ _)) (SameBut.hokC J'.hok sb hC) J'.bare fun b hb => by
      obtain ⟨f0, f1, f2', f3, f4, f5⟩ := f2 b hb
      exact ⟨f3, f1, f4, f5⟩
  have stat : ∀ {H' : Hp}, (∀ b ∈ fp, H' b = none) → ∀ b ∈ fp, FpOk (X.comp (M ++ [x]) scope ⟨cl, s2.heap.objs.size + 1, s2, H2, fp⟩) [] H' b := fun hn b hb => by
    obtain ⟨f0, f1, f2', f3, f4, f5⟩ := f2 b hb
    refine ⟨hn b hb, Nat.ne_of_lt (Nat.lt_succ_of_lt (hlt b hb)), fun z => ?_, .inl hb, fun y c e => f4 y c (hcl y c e), fun p hp => absurd (show p ∈ ([] : List (Addr × Obj)) from hp) (by simp)⟩
    rcases List.mem_cons.mp (I2.stkSub b z) with z | z
    · exact f1 z
    · exact f2' z
  have len3 : σ.length = M.length := by rw [I.len, K.len]
  have loop : codeAny (model X.prog X.w) X.A (.compLoop (.ListComp elt [⟨.Name x px, iter, ifs, 0⟩] scope pos) 0 (.ref it) (.ref s2.heap.objs.size) (compEnvC scope cl (s2.heap.objs.size + 1) X.env))
      (compPost (model X.prog X.w) X.A X.xe use R (.ref s2.heap.objs.size) (s2.heap.objs.size + 1)) { s2 with heap := h₁, toks := s2.toks + ([] : List (Str × Value)).length } := by
    refine comp_loop (fun n s' => ∃ i ys H', Inv (X.comp (M ++ [x]) scope ⟨cl, s2.heap.objs.size + 1, s2, H2, fp⟩) [] (σ ++ [none]) H' s' ∧ tn i s'.heap ∧ (∀ b ∈ fp, H' b = none) ∧ W i n ys H') ?_ m0 ⟨0, [], _, I3, st3, fr3, w0⟩
    rintro n s4 ⟨i, ys, H4, I4, st4, fr4, w4⟩
    rcases step i n ys H4 w4 with ⟨stop, q⟩ | ⟨go, hz, N, hN, st⟩
    · refine wpAny_mono (T.done (X.comp (M ++ [x]) scope ⟨cl, s2.heap.objs.size + 1, s2, H2, fp⟩) rfl rfl rfl hc i [] s4 _ H4 (fun _ _ => False) I4 (stat fr4) st4 stop) (fun r s5 ⟨hr, I5⟩ => ?_) fun _ _ z => z
      subst hr
      exact fin s5 _ H4 I5 q
    · refine wpAny_mono (T.item (X.comp (M ++ [x]) scope ⟨cl, s2.heap.objs.size + 1, s2, H2, fp⟩) rfl rfl rfl hc i [] s4 _ H4 (fun _ _ => False) I4 (stat fr4) st4 go) (fun r s5 ⟨u, hr, h5⟩ => ?_) fun _ _ z => z
      subst hr
      refine wpAny_mono h5 (fun _ s6 ⟨xv, H6, I6, r6, y6, st6, fr6⟩ => ?_) fun _ _ z => z
      have I6' := I6.pinned (stat fr6) (T.obj _ _ st6)
      have hset : (σ ++ [none]).set σ.length (some xv) = σ ++ [some xv] := by simp
      have hNx : (X.comp (M ++ [x]) scope ⟨cl, s2.heap.objs.size + 1, s2, H2, fp⟩).N[σ.length]? = some x := by
        show (M ++ [x])[σ.length]? = some x
        rw [len3]; simp
      have hlx : (X.comp (M ++ [x]) scope ⟨cl, s2.heap.objs.size + 1, s2, H2, fp⟩).env.scope.names.lookup x = some .local := lookup_relabel_local K.own
      have PGx : PG (X.comp (M ++ [x]) scope ⟨cl, s2.heap.objs.size + 1, s2, H2, fp⟩) (.Name x px) (gName σ.length) := pg_name K.nd hNx (.inl hlx) (.inr hlx)
      refine wpAny_mono (PGx _ s6 _ H6 xv u (fun σ' H' => σ' = σ ++ [some xv] ∧ H' = H6) I6' r6 ⟨hset, rfl⟩) (fun _ s7 ⟨σ7, H7, I7, e7, e7'⟩ => ?_) fun _ _ z => z
      subst e7 e7'
      have again : ∀ {ys' : List V} {H8 : Hp} {s8 : Shared} {m : Nat}, Inv (X.comp (M ++ [x]) scope ⟨cl, s2.heap.objs.size + 1, s2, H2, fp⟩) ([] ++ pinsAt fp s6.heap) (σ ++ [some xv]) H8 s8 → m < n → W (i + 1) m ys' H8 →
          ∃ m, m < n ∧ ∃ i ys H', Inv (X.comp (M ++ [x]) scope ⟨cl, s2.heap.objs.size + 1, s2, H2, fp⟩) [] (σ ++ [none]) H' s8 ∧ tn i s8.heap ∧ (∀ b ∈ fp, H' b = none) ∧ W i m ys H' := fun {ys' H8 s8 m} I8 hm w8 => by
        refine ⟨m, hm, i + 1, ys', H8, (I8.unpinned).weak (by simp) (fun j v e => ?_), T.keep _ _ _ st6 fun b hb o e => (I8.pin (b, o) (List.mem_append_right _ (List.mem_append_right _ (mem_pinsAt hb e)))).1, fun b hb => ?_, w8⟩
        · by_cases hj : j < σ.length
          · rw [List.getElem?_append_left hj] at e ⊢; exact e
          · rw [List.getElem?_append_right (by omega)] at e
            by_cases hq : j - σ.length = 0
            · rw [hq] at e; cases e
            · rw [List.getElem?_eq_none (by simp; omega)] at e; cases e
        · obtain ⟨o, e, d⟩ := T.obj _ _ st6 b hb
          exact (I8.pin (b, o) (List.mem_append_right _ (List.mem_append_right _ (mem_pinsAt hb e)))).2.1
      refine wpAny_mono (hif ⟨cl, s2.heap.objs.size + 1, s2, H2, fp⟩ _ s7 _ _ _ I7 (st xv _ y6)) (fun ok s8 ⟨H8, I8, q8⟩ => ?_) fun _ _ z => z
      cases ok with
      | false =>
        rw [if_neg Bool.false_ne_true] at q8
        obtain ⟨m, hm, w8⟩ := hN _ _ q8
        exact again I8 hm w8
      | true =>
        rw [if_pos rfl] at q8
        refine wpAny_mono (he ⟨cl, s2.heap.objs.size + 1, s2, H2, fp⟩ _ s8 _ H8 _ I8 q8) (fun xu s9 ⟨v9, H9, I9, r9, hD9, n9⟩ => ?_) fun _ _ z => z
        obtain ⟨m, hm, w9⟩ := hN _ _ n9
        exact wpAny_mono (append_call (X := X.comp (M ++ [x]) scope ⟨cl, s2.heap.objs.size + 1, s2, H2, fp⟩) I9 hD9 hz r9) (fun _ s10 I10 => again I10 hm w9) fun _ _ z => z
  rw [hsize]
  exact codeAny_compStart_list loop (T.self X.A 0 _ _ _ st3 loop)


theorem pe_comp {X : Cx} {iter elt : Expr} {ifs : List Expr} {x : Str} {px pos : Pos} {scope : Scope} (M : List Str) {wi : TI} {tc : CB → TT} {te : CB → TE}
    (hc : X.calm = true) (hi : PI X (.Name x px) iter wi)
    (hif : ∀ b : CB, PIfs (X.comp (M ++ [x]) scope b) ifs (tc b)) (he : ∀ b : CB, PE (X.comp (M ++ [x]) scope b) elt (te b))
    (ok : compOK X.env.scope scope x M X.N = true := by kernel_rfl)
    (hs : ∀ x, foldedSetIterable iter X.env x = pure x := by intro _; rfl) :
    PE X (.ListComp elt [⟨.Name x px, iter, ifs, 0⟩] scope pos) (tComp wi tc te) := by
  intro pins s σ H Q I h
  rw [eval_ListComp]
  exact comp_core M (use := none) (R := EP X pins σ Q) I h (fun D C m s' H' hn _ hI q => ⟨m, hn, fun h' sb => ⟨.ref D, H', hI h' sb, rfl, q⟩⟩) hc hi hif he ok hs
/-- the frame of a block may still change -/
theorem Inv.butC {X : Cx} {pins : List (Addr × Obj)} {σ : St} {H : Hp} {s : Shared} {C : Addr} {h' : Heap} (I : Inv X pins σ H s) (f : FpOk X pins H C) (sb : Heap.SameBut C s.heap h') : Inv X pins σ H { s with heap := h' } := by
  obtain ⟨f0, f1, f2, f3, f4, f5⟩ := f
  refine I.call' (ch := [C]) rfl ⟨fun b o e n _ hx => ?_, fun b o e n _ hx => ?_, fun b o e n _ => n, fun b o e hx => ?_, fun _ _ z => z, fun _ _ _ z => z, fun _ ps z => ⟨#[], by simpa using z⟩⟩ (SameBut.hokC I.hok sb f0) I.bare fun b hb => ?_
  · exact (sb.2 b (by simpa using hx)).trans e
  · exact ⟨o.slots, (sb.2 b (by simpa using hx)).trans e⟩
  · exact ⟨o, (sb.2 b (by simpa using hx)).trans e⟩
  · have : b = C := by simpa using hb
    subst this
    exact ⟨f3, f1, f4, f5⟩
/-- name = [comprehension] -/
theorem ps_setC {X : Cx} {iter elt : Expr} {ifs : List Expr} {x y : Str} {px py pos spos : Pos} {scope : Scope} (M : List Str) {i : Nat} {wi : TI} {tc : CB → TT} {te : CB → TE}
    (hc : X.calm = true) (hN : X.N.Nodup) (hiy : X.N[i]? = some y) (hy : Loc X.env.scope y) (hi : PI X (.Name x px) iter wi)
    (hif : ∀ b : CB, PIfs (X.comp (M ++ [x]) scope b) ifs (tc b)) (he : ∀ b : CB, PE (X.comp (M ++ [x]) scope b) elt (te b))
    (hsw : swapsWith (.ListComp elt [⟨.Name x px, iter, ifs, 0⟩] scope pos) (some (.Name y py)) spos.line X.env = pure true := by rfl)
    (ok : compOK X.env.scope scope x M X.N = true := by kernel_rfl)
    (hs : ∀ x, foldedSetIterable iter X.env x = pure x := by intro _; rfl)
    (hf : X.fn y = true ∨ X.env.scope.names.lookup y = some .local := by first | exact .inl rfl | exact .inr rfl | assumption) :
    PS X (.Assign [.Name y py] (.ListComp elt [⟨.Name x px, iter, ifs, 0⟩] scope pos) spos) (tAsg (tComp wi tc te) (gName i)) := by
  intro pins s σ H D I h
  rw [exec_Assign_Name_used _ _ _ _ hsw]; refine wpAny_bind (wpAny_standAt (wpAny_bind ?_))
  show wpAny _ X.A (do let _ ← comprehension (.ListComp elt [⟨.Name x px, iter, ifs, 0⟩] scope pos) scope X.env _ (newList []) false (eval iter X.env) (some (assign (.Name y py) X.env))) _ _ s
  refine wpAny_bind (wpAny_mono (comp_core M (use := some (assign (.Name y py) X.env)) (R := fun _ s' => _) I h (fun D' C m s' H' hn f hI q => ?_) hc hi hif he ok hs) (fun _ s' hq => wpAny_pure (wpAny_pure hq)) fun _ _ e => e)
  have I' : Inv X pins σ H' s' := hI s'.heap ⟨rfl, fun _ _ => rfl⟩
  show wpAny _ X.A (assign (.Name y py) X.env (.ref D')) _ _ _
  refine wpAny_assign_Name (store_ok2 (v := .ref D') I' hN hiy hy rfl (fun s2 I2 ⟨a, sb, ha⟩ => ?_) hf)
  have hCa : C ≠ a := by
    obtain ⟨f0, f1, f2, f3, f4, f5⟩ := f
    rintro rfl
    rcases ha with z | z
    · exact f1 z
    · exact f4 _ _ z rfl
  exact ⟨m, hn.sameBut sb hCa, fun h' sb' => ⟨_, H', I2.butC f sb', q⟩⟩
end L2

namespace L2
open PySem PySem.Spec PyProof.Rows

/-! ### comprehensions in the forms one uses -/
theorem comp_range {lo : Int} {n : Nat} {tc : TT} {te : TE} {σ : St} {H1 : Hp} {Q : Hp → Prop} {D : Addr} (Pv : Nat → List V → Hp → Prop) (hn : n < sizeLine) (h0 : Pv 0 [] (upd H1 D (.lst [])))
    (hl : ∀ i ys H, Pv i ys H → ys.length ≤ i)
    (hs : ∀ i ys H, i < n → Pv i ys H → tc (σ ++ [some (.int (lo + i))]) H fun b H2 => if b = true then te (σ ++ [some (.int (lo + i))]) H2 fun v H3 => H3 D = some (.lst ys) ∧ Pv (i + 1) (ys ++ [v]) (upd H3 D (.lst (ys ++ [v]))) else Pv (i + 1) ys H2)
    (hd : ∀ ys H, Pv n ys H → Q H) :
    ∃ W : Nat → Nat → List V → Hp → Prop, (∃ m, W 0 m [] (upd H1 D (.lst []))) ∧
      ∀ i m ys H, W i m ys H → ((Itr lo n).stop i H ∧ Q H) ∨ ((Itr lo n).go i H ∧ ys.length < sizeLine ∧ ∃ N : List V → Hp → Prop, (∀ ys' H', N ys' H' → ∃ m', m' < m ∧ W (i + 1) m' ys' H') ∧ ∀ x H', (Itr lo n).yld i H x H' → tc (σ ++ [some x]) H' fun b H2 =>
        if b = true then te (σ ++ [some x]) H2 fun v H3 => H3 D = some (.lst ys) ∧ N (ys ++ [v]) (upd H3 D (.lst (ys ++ [v]))) else N ys H2) := by
  refine ⟨fun i m ys H => m = n - i ∧ i ≤ n ∧ Pv i ys H, ⟨n, by simp, Nat.zero_le _, h0⟩, ?_⟩
  rintro i m ys H ⟨rfl, hi, p⟩
  by_cases hlt : i < n
  · refine .inr ⟨hlt, Nat.lt_of_le_of_lt (hl i ys H p) (Nat.lt_trans hlt hn), Pv (i + 1), fun ys' H' p' => ⟨n - (i + 1), by omega, rfl, hlt, p'⟩, fun x H' y => ?_⟩
    obtain ⟨e, y⟩ := y
    subst e y
    exact hs i ys _ hlt p
  · have e : i = n := by omega
    subst e
    exact .inl ⟨Nat.le_refl _, hd ys H p⟩
theorem comp_list {K : PySem.W.Frag} {a : Addr} {xs : List V} {tc : TT} {te : TE} {σ : St} {H1 : Hp} {Q : Hp → Prop} {D : Addr} (Pv : Nat → List V → Hp → Prop) (hn : xs.length < sizeLine) (h0 : Pv 0 [] (upd H1 D (.lst [])))
    (hl : ∀ i ys H, Pv i ys H → ys.length ≤ i) (hq : ∀ i ys H, i ≤ xs.length → Pv i ys H → SqL K H a xs)
    (hs : ∀ i x ys H, xs[i]? = some x → Pv i ys H → tc (σ ++ [some x]) H fun b H2 => if b = true then te (σ ++ [some x]) H2 fun v H3 => H3 D = some (.lst ys) ∧ Pv (i + 1) (ys ++ [v]) (upd H3 D (.lst (ys ++ [v]))) else Pv (i + 1) ys H2)
    (hd : ∀ ys H, Pv xs.length ys H → Q H) :
    ∃ W : Nat → Nat → List V → Hp → Prop, (∃ m, W 0 m [] (upd H1 D (.lst []))) ∧
      ∀ i m ys H, W i m ys H → ((Itl K a).stop i H ∧ Q H) ∨ ((Itl K a).go i H ∧ ys.length < sizeLine ∧ ∃ N : List V → Hp → Prop, (∀ ys' H', N ys' H' → ∃ m', m' < m ∧ W (i + 1) m' ys' H') ∧ ∀ x H', (Itl K a).yld i H x H' → tc (σ ++ [some x]) H' fun b H2 =>
        if b = true then te (σ ++ [some x]) H2 fun v H3 => H3 D = some (.lst ys) ∧ N (ys ++ [v]) (upd H3 D (.lst (ys ++ [v]))) else N ys H2) := by
  refine ⟨fun i m ys H => m = xs.length - i ∧ i ≤ xs.length ∧ Pv i ys H, ⟨xs.length, by simp, Nat.zero_le _, h0⟩, ?_⟩
  rintro i m ys H ⟨rfl, hi, p⟩
  have q := hq i ys H hi p
  by_cases hlt : i < xs.length
  · refine .inr ⟨⟨xs, xs[i], q, by simp [hlt]⟩, Nat.lt_of_le_of_lt (hl i ys H p) (Nat.lt_trans hlt hn), Pv (i + 1), fun ys' H' p' => ⟨xs.length - (i + 1), by omega, rfl, hlt, p'⟩, fun x H' y => ?_⟩
    obtain ⟨e, y⟩ := y
    subst e
    exact hs i x ys _ (y xs q) p
  · have e : i = xs.length := by omega
    subst e
    exact .inl ⟨⟨xs, q, Nat.le_refl _⟩, hd ys H p⟩

/-! ### data, and == of data -/
mutual
def DatV (K : PySem.W.Frag) (H : Hp) : PyData → V → Prop
  | .none, v => v = .non
  | .bool b, v => v = .bl b
  | .int i, v => v = .int i
  | .str x, v => v = .str x ∧ PyData.strOk x = true
  | .list ds, v => ∃ a xs, v = .ref a ∧ SqL K H a xs ∧ DatVs K H ds xs
  | .tuple ds, v => ∃ a xs, v = .ref a ∧ SqT K H a xs ∧ DatVs K H ds xs
  | .dict _, _ => False
def DatVs (K : PySem.W.Frag) (H : Hp) : List PyData → List V → Prop
  | [], xs => xs = []
  | d :: ds, xs => ∃ x r, xs = x :: r ∧ DatV K H d x ∧ DatVs K H ds r
end
section
variable {X : Cx} {pins : List (Addr × Obj)} {σ : St} {H : Hp} {s : Shared}
mutual
theorem DatV.reads (I : Inv X pins σ H s) : ∀ (d : PyData) (v : V) (u : Value), DatV X.K H d v → RelV v u → (∃ as, Reads s.heap u d as) ∧ d.canLay0 = true
  | .none, v, u, h, r => by
    rw [DatV] at h; subst h; cases r; exact ⟨⟨_, .none⟩, by simp [PyData.canLay0]⟩
  | .bool b, v, u, h, r => by
    rw [DatV] at h; subst h; cases r; exact ⟨⟨_, .bool b⟩, by simp [PyData.canLay0]⟩
  | .int i, v, u, h, r => by
    rw [DatV] at h; subst h; obtain ⟨t, rfl⟩ := r; exact ⟨⟨_, .int i t⟩, by simp [PyData.canLay0]⟩
  | .str x, v, u, h, r => by
    rw [DatV] at h; obtain ⟨h, hx⟩ := h; subst h; obtain ⟨t, rfl⟩ := r; exact ⟨⟨_, .str x t⟩, by simp [PyData.canLay0, hx]⟩
  | .list ds, v, u, h, r => by
    rw [DatV] at h; obtain ⟨a, xs, rfl, hq, hd⟩ := h
    cases r
    obtain ⟨its, rv, p, hz⟩ := I.list hq
    obtain ⟨⟨as, ra⟩, cl⟩ := DatVs.reads I ds xs its hd rv
    obtain ⟨o, ho, hc, n, hdt⟩ := p.isList
    exact ⟨⟨_, .list ho hc hdt (by simpa using ra)⟩, by rw [PyData.canLay0]; exact cl⟩
  | .tuple ds, v, u, h, r => by
    rw [DatV] at h; obtain ⟨a, xs, rfl, hq, hd⟩ := h
    cases r
    obtain ⟨its, rv, p, hz⟩ := I.tuple hq
    obtain ⟨⟨as, ra⟩, cl⟩ := DatVs.reads I ds xs its hd rv
    obtain ⟨o, ho, hc, n, hdt⟩ := p
    exact ⟨⟨_, .tuple ho hc hdt (by simpa using ra)⟩, by rw [PyData.canLay0]; exact cl⟩
  | .dict _, v, u, h, r => by rw [DatV] at h; exact h.elim
theorem DatVs.reads (I : Inv X pins σ H s) : ∀ (ds : List PyData) (vs : List V) (us : List Value), DatVs X.K H ds vs → Vals vs us → (∃ as, ReadsAll s.heap us ds as) ∧ PyData.canLayAll0 ds = true
  | [], vs, us, h, r => by
    rw [DatVs] at h; subst h; cases r; exact ⟨⟨_, .nil⟩, by simp [PyData.canLayAll0]⟩
  | d :: ds, vs, us, h, r => by
    rw [DatVs] at h; obtain ⟨x, rr, rfl, h1, h2⟩ := h
    cases r with
    | cons r1 r2 =>
      obtain ⟨⟨as, ra⟩, ca⟩ := DatV.reads I d x _ h1 r1
      obtain ⟨⟨bs, rb⟩, cb⟩ := DatVs.reads I ds rr _ h2 r2
      exact ⟨⟨_, .cons ra rb⟩, by rw [PyData.canLayAll0, ca, cb]; rfl⟩
end
def rEqD (K : PySem.W.Frag) (neg : Bool) : R2 := fun x y H Q => ∃ da db, DatV K H da x ∧ DatV K H db y ∧ min da.depth db.depth ≤ 64 ∧ Q (.bl (if neg then !PyData.eqv da db else PyData.eqv da db)) H
theorem op_eqD {k : Nat} (hr : Room k X.A) : OpR X (compareOp .Eq) (rEqD X.K false) := by
  intro pins s σ H x y v u Q I rx ry h
  obtain ⟨da, db, h1, h2, hd, q⟩ := h
  obtain ⟨⟨as, ra⟩, ca⟩ := DatV.reads I da x v h1 rx
  obtain ⟨⟨bs, rb⟩, cb⟩ := DatV.reads I db y u h2 ry
  exact SeqAt.compareEq_reads ra rb ca cb (by have := hr.units; omega) ⟨.bl _, H, I, rfl, q⟩
theorem op_neD {k : Nat} (hr : Room k X.A) : OpR X (compareOp .NotEq) (rEqD X.K true) := by
  intro pins s σ H x y v u Q I rx ry h
  obtain ⟨da, db, h1, h2, hd, q⟩ := h
  obtain ⟨⟨as, ra⟩, ca⟩ := DatV.reads I da x v h1 rx
  obtain ⟨⟨bs, rb⟩, cb⟩ := DatV.reads I db y u h2 ry
  exact SeqAt.compareNe_reads ra rb ca cb (by have := hr.units; omega) ⟨.bl _, H, I, rfl, q⟩
end

/-! ### lists of ints, of signs -/
theorem datVs_ints {K : PySem.W.Frag} {H : Hp} : ∀ ns : List Int, DatVs K H (ns.map PyData.int) (ns.map V.int)
  | [] => by simp [DatVs]
  | n :: ns => by
    rw [List.map_cons, List.map_cons, DatVs]
    exact ⟨_, _, rfl, by rw [DatV], datVs_ints ns⟩
theorem datV_ints {K : PySem.W.Frag} {H : Hp} {a : Addr} {ns : List Int} (h : SqL K H a (ns.map V.int)) : DatV K H (.list (ns.map PyData.int)) (.ref a) := by
  rw [DatV]; exact ⟨a, _, rfl, h, datVs_ints ns⟩
/-- a sign: a text of one code -/
abbrev sgS (c : Nat) : Str := ⟨#[c]⟩
abbrev sg (c : Nat) : V := .str (sgS c)
theorem datVs_sgs {K : PySem.W.Frag} {H : Hp} : ∀ cs : List Nat, (∀ c ∈ cs, c < 0x110000) → DatVs K H (cs.map fun c => PyData.str (sgS c)) (cs.map sg)
  | [], _ => by simp [DatVs]
  | c :: cs, h => by
    rw [List.map_cons, List.map_cons, DatVs]
    refine ⟨_, _, rfl, ?_, datVs_sgs cs fun c hc => h c (List.mem_cons_of_mem _ hc)⟩
    rw [DatV]
    exact ⟨rfl, by simp [PyData.strOk, h c List.mem_cons_self]⟩
theorem datV_sgs {K : PySem.W.Frag} {H : Hp} {a : Addr} {cs : List Nat} (h : SqL K H a (cs.map sg)) (hc : ∀ c ∈ cs, c < 0x110000) : DatV K H (.list (cs.map fun c => PyData.str (sgS c))) (.ref a) := by
  rw [DatV]; exact ⟨a, _, rfl, h, datVs_sgs cs hc⟩
theorem depthAll_ints : ∀ ns : List Int, PyData.depthAll (ns.map PyData.int) ≤ 1
  | [] => by simp [PyData.depthAll]
  | n :: ns => by
    have := depthAll_ints ns
    rw [List.map_cons, PyData.depthAll]
    simp only [PyData.depth]
    omega
theorem depthAll_sgs : ∀ cs : List Nat, PyData.depthAll (cs.map fun c => PyData.str (sgS c)) ≤ 1
  | [] => by simp [PyData.depthAll]
  | c :: cs => by
    have := depthAll_sgs cs
    rw [List.map_cons, PyData.depthAll]
    simp only [PyData.depth]
    omega
theorem depth_ints (ns : List Int) : (PyData.list (ns.map PyData.int)).depth ≤ 2 := by
  have := depthAll_ints ns
  rw [PyData.depth]; omega
theorem depth_sgs (cs : List Nat) : (PyData.list (cs.map fun c => PyData.str (sgS c))).depth ≤ 2 := by
  have := depthAll_sgs cs
  rw [PyData.depth]; omega
theorem eqvAll_ints : ∀ ns ms : List Int, PyData.eqvAll (ns.map PyData.int) (ms.map PyData.int) = decide (ns = ms)
  | [], [] => by simp [PyData.eqvAll]
  | [], _ :: _ => by simp [PyData.eqvAll]
  | _ :: _, [] => by simp [PyData.eqvAll]
  | n :: ns, m :: ms => by
    rw [List.map_cons, List.map_cons, PyData.eqvAll, eqvAll_ints ns ms]
    rw [PyData.eqv, Bool.beq_eq_decide_eq]
    simp
theorem sgS_inj {a b : Nat} : (sgS a == sgS b) = decide (a = b) := by
  by_cases h : a = b
  · subst h; simp
  · have : sgS a ≠ sgS b := fun e => h (by simpa [sgS] using e)
    simp [h, this]
theorem eqvAll_sgs : ∀ cs ds : List Nat, PyData.eqvAll (cs.map fun c => PyData.str (sgS c)) (ds.map fun c => PyData.str (sgS c)) = decide (cs = ds)
  | [], [] => by simp [PyData.eqvAll]
  | [], _ :: _ => by simp [PyData.eqvAll]
  | _ :: _, [] => by simp [PyData.eqvAll]
  | c :: cs, d :: ds => by
    rw [List.map_cons, List.map_cons, PyData.eqvAll, eqvAll_sgs cs ds, PyData.eqv, sgS_inj]
    simp
theorem eqv_ints (ns ms : List Int) : PyData.eqv (.list (ns.map PyData.int)) (.list (ms.map PyData.int)) = decide (ns = ms) := by rw [PyData.eqv, eqvAll_ints]
theorem eqv_sgs (cs ds : List Nat) : PyData.eqv (.list (cs.map fun c => PyData.str (sgS c))) (.list (ds.map fun c => PyData.str (sgS c))) = decide (cs = ds) := by rw [PyData.eqv, eqvAll_sgs]

/-- == of two lists of ints; of two lists of signs -/
def rEqI (K : PySem.W.Frag) (neg : Bool) : R2 := fun x y H Q => ∃ (a b : Addr) (ns ms : List Int), x = .ref a ∧ y = .ref b ∧ SqL K H a (ns.map V.int) ∧ SqL K H b (ms.map V.int) ∧ Q (.bl (if neg then !decide (ns = ms) else decide (ns = ms))) H
def rEqS (K : PySem.W.Frag) (neg : Bool) : R2 := fun x y H Q => ∃ (a b : Addr) (cs ds : List Nat), x = .ref a ∧ y = .ref b ∧ SqL K H a (cs.map sg) ∧ SqL K H b (ds.map sg) ∧ (∀ c ∈ cs, c < 0x110000) ∧ (∀ c ∈ ds, c < 0x110000) ∧ Q (.bl (if neg then !decide (cs = ds) else decide (cs = ds))) H
section
variable {X : Cx} {k : Nat}
theorem OpR.imp {f : Value → Value → Sem Value} {r r' : R2} (h : OpR X f r) (i : ∀ x y H Q, r' x y H Q → r x y H Q) : OpR X f r' := fun pins s σ H x y v u Q I rx ry q => h pins s σ H x y v u Q I rx ry (i _ _ _ _ q)
theorem rEqI.toD {K : PySem.W.Frag} {neg : Bool} : ∀ x y H Q, rEqI K neg x y H Q → rEqD K neg x y H Q := by
  rintro x y H Q ⟨a, b, ns, ms, rfl, rfl, h1, h2, q⟩
  refine ⟨_, _, datV_ints h1, datV_ints h2, Nat.le_trans (Nat.min_le_left _ _) (Nat.le_trans (depth_ints ns) (by decide)), ?_⟩
  rw [eqv_ints]
  exact q
theorem rEqS.toD {K : PySem.W.Frag} {neg : Bool} : ∀ x y H Q, rEqS K neg x y H Q → rEqD K neg x y H Q := by
  rintro x y H Q ⟨a, b, ns, ms, rfl, rfl, h1, h2, c1, c2, q⟩
  refine ⟨_, _, datV_sgs h1 c1, datV_sgs h2 c2, Nat.le_trans (Nat.min_le_left _ _) (Nat.le_trans (depth_sgs ns) (by decide)), ?_⟩
  rw [eqv_sgs]
  exact q
theorem op_eqLI (hr : Room k X.A) : OpR X (compareOp .Eq) (rEqI X.K false) := (op_eqD hr).imp rEqI.toD
theorem op_neLI (hr : Room k X.A) : OpR X (compareOp .NotEq) (rEqI X.K true) := (op_neD hr).imp rEqI.toD
theorem op_eqLS (hr : Room k X.A) : OpR X (compareOp .Eq) (rEqS X.K false) := (op_eqD hr).imp rEqS.toD
theorem op_le_str : OpR X (compareOp .LtE) (fun x y H Q => ∃ i j, x = .str i ∧ y = .str j ∧ Q (.bl (!decide (j.cps.toList < i.cps.toList))) H) := by
  intro pins s σ H x y v u Q I rx ry h
  obtain ⟨i, j, rfl, rfl, q⟩ := h
  obtain ⟨t, rfl⟩ := rx
  obtain ⟨t', rfl⟩ := ry
  exact PySem.P.le_str ⟨.bl _, H, I, rfl, q⟩
/-- isinstance of a value whose type is known, a built-in type -/
theorem call_isinst : CallR X (.builtin "isinstance") (fun xs H Q => ∃ x t c b, xs = [x, .ty c] ∧ TyOf X.K H x t ∧ PySem.W.kitOne X.K t (.type c) = some b ∧ Q (.bl b) H) := by
  intro pins s σ H xs us Q I r h
  obtain ⟨x, t, c, b, rfl, ty, e, q⟩ := h
  obtain ⟨u, u', rfl, rx, rc⟩ := vals2 r
  cases rc
  exact isinst_ok I rx ty e fun tk => ⟨.bl b, H, I.tok tk, rfl, q⟩
end
end L2

namespace L2
open PySem PySem.Spec PyProof.Rows
/-! ### a def of the text, by its name -/
structure Fn (P : Program) (w : World) (K : PySem.W.Frag) (mg : Str → Option Value) (base : Heap) (CX : CXT) (x : Str) (k : Nat) (ps : List Str) (sp : Sp) : Prop where
  ex : ∃ f fd, FnOk P w K mg base CX k f fd ps sp ∧ mg x = some (.ref f) ∧ PySem.W.keepIn K (.ref f) = true ∧ Binds K fd ps [] ∧ ∃ oc od osl, K.lookup f = some ⟨oc, od, .func fd, osl⟩
theorem pe_fn {X : Cx} {CX : CXT} {k j : Nat} {ps : List Str} {sp : Sp} {E : XK} {x : Str} {p pos : Pos} {e : Expr} {es : List Expr} {t : TA} (F : Fn X.prog X.w X.K X.mg X.base CX x k ps sp) (hr : Room j X.A) (hx : Passes CX X E) (ha : PA X (e :: es) t) (hg : Gl X x := by rfl) (hj : k ≤ j := by decide)
    (hdb : (x == ("__debug__" : Str)) = false := by decide) (he : starEach (e :: es) X.env = (false, eval e X.env) :: starEach es X.env := by rfl) (hpl : (backTo pos (starEach es X.env)).any (·.1) = false := by rfl) :
    PE X (.Call (.Name x p) (e :: es) [] pos) (tCall sp [] E t) := by
  obtain ⟨f, fd, F, hm, hk, hb, _⟩ := F.ex
  exact pe_call F (hr.mono hj) hg hm hk hb .nil hx ha hdb he hpl
/-- what the top has written of a def -/
structure FF (K : PySem.W.Frag) (x : Str) (st : Stmt) : Prop where
  ex : ∃ (f : Addr) (oc : Value) (od an : Option Addr) (osl : Array (Option Value)) (kV doc pm cdv ct : Value), PySem.W.nsIn K mainGlobals x = some (some (.ref f)) ∧
    K.lookup f = some ⟨oc, od, .func (PySem.W.fnOf x x (defArgs st) (defBody st) (defScope st) .none kV doc pm an cdv ct), osl⟩ ∧ PySem.W.codeIn K cdv x = true ∧ PySem.W.keepIn K (.ref f) = true
theorem ff_mk {K : PySem.W.Frag} {x : Str} {st : Stmt} {f : Addr} {oc : Value} {od an : Option Addr} {osl : Array (Option Value)} {kV doc pm cdv ct : Value} (a : PySem.W.nsIn K mainGlobals x = some (some (.ref f)))
    (l : K.lookup f = some ⟨oc, od, .func (PySem.W.fnOf x x (defArgs st) (defBody st) (defScope st) .none kV doc pm an cdv ct), osl⟩) (c : PySem.W.codeIn K cdv x = true) (k : PySem.W.keepIn K (.ref f) = true) : FF K x st := ⟨f, oc, od, an, osl, kV, doc, pm, cdv, ct, a, l, c, k⟩
/-- the facts of the module that a def wants -/
structure Md (K : PySem.W.Frag) (mg : Str → Option Value) : Prop where
  ns : ∀ x v, PySem.W.nsIn K mainGlobals x = some v → mg x = v
theorem md_of {K : PySem.W.Frag} {h : Heap} {mg : Str → Option Value} (X : K.In h) (G : h.Ns mainGlobals mg) : Md K mg := ⟨fun x v e => by
  cases v with
  | none => exact PySem.W.mg_none_of X G e
  | some u => exact PySem.W.mg_of X G e⟩
/-- THE RULE for a def of the text: no exception leaves it -/
theorem fn_ok {P : Program} {w : World} {K : PySem.W.Frag} {mg : Str → Option Value} {base : Heap} {x : Str} {st : Stmt} {N ps : List Str} {k : Nat} {sp : Sp} (M : Md K mg) (F : FF K x st) (S : FnScope N ps (defScope st))
    (hbind : ∀ (kV doc pm : Value) (an : Option Addr) (cdv ct : Value) (us : List Value), us.length = ps.length → bindArgs (PySem.W.fnOf x x (defArgs st) (defBody st) (defScope st) .none kV doc pm an cdv ct) ⟨us, []⟩ = pure (ps.zip us))
    (len : ∀ vs H Q E, sp vs H Q E → vs.length = ps.length)
    (hbody : ∀ (f : Addr) (cdv : Value) (A : Around) (outer : List Env) (s : Shared) (H : Hp) (vs : List V) (Q : VK) (E : XK), Room k (A.deeper (envOfC x (defScope st) s.heap.objs.size f cdv)) → sp vs H Q E →
      ∃ t, PSs (cxOf CX0 P w K mg base N x (defScope st) f cdv A outer s H E).nox (defBody st) t ∧ t { nx := fun _ H' => Q .non H', rt := Q } (start N vs) H) : Fn P w K mg base CX0 x (k + 1) ps sp := by
  obtain ⟨f, oc, od, an, osl, kV, doc, pm, cdv, ct, a, l, c, kk⟩ := F.ex
  have F1 := fun_mk (st := st) l c kk
  exact ⟨f, _, F1.ok S len (fun cdv A outer s H vs Q E hr h => hbody f cdv A outer s H vs Q E hr h), M.ns _ _ a, kk, F1.binds hbind, oc, od, osl, l⟩
/-- the same, where exceptions may leave -/
theorem fn_okX {CX : CXT} {P : Program} {w : World} {K : PySem.W.Frag} {mg : Str → Option Value} {base : Heap} {x : Str} {st : Stmt} {N ps : List Str} {k : Nat} {sp : Sp} (M : Md K mg) (F : FF K x st) (S : FnScope N ps (defScope st))
    (hbind : ∀ (kV doc pm : Value) (an : Option Addr) (cdv ct : Value) (us : List Value), us.length = ps.length → bindArgs (PySem.W.fnOf x x (defArgs st) (defBody st) (defScope st) .none kV doc pm an cdv ct) ⟨us, []⟩ = pure (ps.zip us))
    (len : ∀ vs H Q E, sp vs H Q E → vs.length = ps.length)
    (hbody : ∀ (f : Addr) (cdv : Value) (A : Around) (outer : List Env) (s : Shared) (H : Hp) (vs : List V) (Q : VK) (E : XK), Room k (A.deeper (envOfC x (defScope st) s.heap.objs.size f cdv)) → sp vs H Q E →
      ∃ t, PSs (cxOf CX P w K mg base N x (defScope st) f cdv A outer s H E) (defBody st) t ∧ t { nx := fun _ H' => Q .non H', rt := Q } (start N vs) H) : Fn P w K mg base CX x (k + 1) ps sp := by
  obtain ⟨f, oc, od, an, osl, kV, doc, pm, cdv, ct, a, l, c, kk⟩ := F.ex
  have F1 := fun_mk (st := st) l c kk
  exact ⟨f, _, fn_of l c S len (fun A outer s H vs Q E hr h => hbody f cdv A outer s H vs Q E hr h), M.ns _ _ a, kk, F1.binds hbind, oc, od, osl, l⟩
/-- the law's own def, for the head -/
theorem law_of {P : Program} {w : World} {K : PySem.W.Frag} {mg : Str → Option Value} {st : Stmt} {fa : Addr} {k : Nat} {sp : Sp} {CX : CXT} (M : Md K mg) (F : FF K "law" st) (hfa : mg "law" = some (.ref fa))
    (hb : ∀ (kV doc pm : Value) (an : Option Addr) (cdv ct : Value) (s : Shared) (v : Value), BindsTo s (PySem.W.fnOf "law" "law" (defArgs st) (defBody st) (defScope st) .none kV doc pm an cdv ct) ⟨[v], []⟩ [("script", v)])
    (h : ∀ base : Heap, Fn P w K mg base CX "law" k ["script"] sp) :
    ∃ fd : FuncData, (∀ (s : Shared) (v : Value), BindsTo s fd ⟨[v], []⟩ [("script", v)]) ∧ ∀ base : Heap, K.In base → base.Ns mainGlobals mg → FnOk P w K mg base CX k fa fd ["script"] sp := by
  obtain ⟨f, oc, od, an, osl, kV, doc, pm, cdv, ct, a, l, c, kk⟩ := F.ex
  have e := hfa.symm.trans (M.ns _ _ a)
  cases e
  refine ⟨_, hb kV doc pm an cdv ct, fun base _ _ => ?_⟩
  obtain ⟨f', fd', F', hm', _, _, oc', od', osl', l'⟩ := (h base).ex
  have e := hm'.symm.trans (M.ns _ _ a)
  cases e
  rw [l] at l'
  cases l'
  exact F'
/-- the built-in names that the text does not bind -/
structure Bl (mg : Str → Option Value) : Prop where
  max : mg "max" = none
  int : mg "int" = none
  len : mg "len" = none
  range : mg "range" = none
  list : mg "list" = none
  isinst : mg "isinstance" = none
  bool : mg "bool" = none
  str : mg "str" = none
  tuple : mg "tuple" = none
  rev : mg "reversed" = none
  zip : mg "zip" = none
  min : mg "min" = none
  sum : mg "sum" = none
  enumerate : mg "enumerate" = none
  dict : mg "dict" = none
theorem bl_of {K : PySem.W.Frag} {mg : Str → Option Value} (M : Md K mg) (b1 : PySem.W.nsIn K mainGlobals "max" = some none) (b2 : PySem.W.nsIn K mainGlobals "int" = some none) (b3 : PySem.W.nsIn K mainGlobals "len" = some none) (b4 : PySem.W.nsIn K mainGlobals "range" = some none) (b5 : PySem.W.nsIn K mainGlobals "list" = some none) (b6 : PySem.W.nsIn K mainGlobals "isinstance" = some none) (b7 : PySem.W.nsIn K mainGlobals "bool" = some none) (b8 : PySem.W.nsIn K mainGlobals "str" = some none) (b9 : PySem.W.nsIn K mainGlobals "tuple" = some none) (b10 : PySem.W.nsIn K mainGlobals "reversed" = some none) (b11 : PySem.W.nsIn K mainGlobals "zip" = some none) (b12 : PySem.W.nsIn K mainGlobals "min" = some none) (b13 : PySem.W.nsIn K mainGlobals "sum" = some none) (b14 : PySem.W.nsIn K mainGlobals "enumerate" = some none) (b15 : PySem.W.nsIn K mainGlobals "dict" = some none) : Bl mg :=
  ⟨M.ns _ _ b1, M.ns _ _ b2, M.ns _ _ b3, M.ns _ _ b4, M.ns _ _ b5, M.ns _ _ b6, M.ns _ _ b7, M.ns _ _ b8, M.ns _ _ b9, M.ns _ _ b10, M.ns _ _ b11, M.ns _ _ b12, M.ns _ _ b13, M.ns _ _ b14, M.ns _ _ b15⟩
/-- everything tracked but p is as it was -/
def Keep (p : Addr) (H H' : Hp) : Prop := ∀ b o, H b = some o → b ≠ p → H' b = some o
theorem Keep.refl (p : Addr) (H : Hp) : Keep p H H := fun _ _ h _ => h
theorem Keep.trans {p : Addr} {H H1 H2 : Hp} (a : Keep p H H1) (b : Keep p H1 H2) : Keep p H H2 := fun c o h n => b c o (a c o h n) n
theorem Same.keep {p : Addr} {H H' : Hp} (a : Same H H') : Keep p H H' := fun c o h _ => a c o h
theorem Keep.upd {p : Addr} {H : Hp} {o : HO} : Keep p H (upd H p o) := fun c u h n => by rw [upd_ne n]; exact h
theorem Same.upd {H : Hp} {p : Addr} {o : HO} (h : H p = none) : Same H (upd H p o) := fun c u e => by rw [upd_ne (ne_of_none e h)]; exact e
theorem Keep.free {p : Addr} {H H' : Hp} (a : Keep p H H') {o : HO} (hp : H' p = some o) {l : Addr} (h : H' l = none) : H l = none := by
  cases q : H l with
  | none => rfl
  | some u =>
    have : l ≠ p := fun z => by subst z; rw [hp] at h; cases h
    rw [a l u q this] at h; cases h

/-! ### built-in calls in short -/
theorem bt_max : bootBuiltins "max" = some (.builtin "max") := by decide +kernel
theorem bt_min : bootBuiltins "min" = some (.builtin "min") := by decide +kernel
theorem bt_sum : bootBuiltins "sum" = some (.builtin "sum") := by decide +kernel
theorem bt_len : bootBuiltins "len" = some (.builtin "len") := by decide +kernel
theorem bt_isinst : bootBuiltins "isinstance" = some (.builtin "isinstance") := by decide +kernel
theorem bt_bool : bootBuiltins "bool" = some (.type "bool") := by decide +kernel
theorem bt_str : bootBuiltins "str" = some (.type "str") := by decide +kernel
theorem bt_list : bootBuiltins "list" = some (.type "list") := by decide +kernel
theorem bt_rev : bootBuiltins "reversed" = some (.type "reversed") := by decide +kernel
section
variable {X : Cx} {e e2 : Expr} {te te2 : TE} {p p2 pos : Pos}
theorem PE.imp {t t' : TE} (h : PE X e t) (i : ∀ σ H Q, t' σ H Q → t σ H Q) : PE X e t' := fun pins s σ H Q I q => h pins s σ H Q I (i σ H Q q)
def tLenL (K : PySem.W.Frag) (te : TE) : TE := fun σ H Q => te σ H fun x H1 => ∃ a ys, x = .ref a ∧ SqL K H1 a ys ∧ Q (.int ys.length) H1
def tLenS (te : TE) : TE := fun σ H Q => te σ H fun x H1 => ∃ z, x = .str z ∧ z.length ≤ sizeLine ∧ Q (.int z.length) H1
def tMax (te te2 : TE) : TE := fun σ H Q => te σ H fun x H1 => te2 σ H1 fun y H2 => ∃ i j, x = .int i ∧ y = .int j ∧ Q (.int (if j > i then j else i)) H2
def tListOf (K : PySem.W.Frag) (te : TE) : TE := fun σ H Q => te σ H fun x H1 => ∃ a ys, x = .ref a ∧ SqL K H1 a ys ∧ ∀ l, H1 l = none → Q (.ref l) (upd H1 l (.lst ys))
def tIsi (K : PySem.W.Frag) (c : String) (te : TE) : TE := fun σ H Q => te σ H fun x H1 => ∃ t b, TyOf K H1 x t ∧ PySem.W.kitOne K t (.type c) = some b ∧ Q (.bl b) H1


def r1 (r : V → Hp → VK → Prop) : List V → Hp → VK → Prop := fun xs H Q => match xs with | [x] => r x H Q | _ => False
def r2' (r : V → V → Hp → VK → Prop) : List V → Hp → VK → Prop := fun xs H Q => match xs with | [x, y] => r x y H Q | _ => False
theorem callR1 {f : Value} {r : V → Hp → VK → Prop} (h : ∀ pins s σ H x us Q, Inv X pins σ H s → Vals [x] us → r x H Q → wpAny (model X.prog X.w) X.A (call f us) (EP X pins σ Q) X.xe s) : CallR X f (r1 r) := by
  intro pins s σ H xs us Q I rv q
  match xs, q with
  | [x], q => exact h pins s σ H x us Q I rv q
theorem callR2 {f : Value} {r : V → V → Hp → VK → Prop} (h : ∀ pins s σ H x y us Q, Inv X pins σ H s → Vals [x, y] us → r x y H Q → wpAny (model X.prog X.w) X.A (call f us) (EP X pins σ Q) X.xe s) : CallR X f (r2' r) := by
  intro pins s σ H xs us Q I rv q
  match xs, q with
  | [x, y], q => exact h pins s σ H x y us Q I rv q
theorem pe_lenL (hm : X.mg "len" = none) (ha : PE X e te) (hg : Gl X "len" := by rfl) (he : starEach [e] X.env = [(false, eval e X.env)] := by rfl) : PE X (.Call (.Name "len" p) [e] [] pos) (tLenL X.K te) :=
  pe_callB (r := r1 fun x H Q => ∃ a ys, x = .ref a ∧ SqL X.K H a ys ∧ Q (.int ys.length) H) (callR1 fun pins s σ H x us Q I rv ⟨a, ys, ex, h, q⟩ => call_len_seq pins s σ H _ us Q I rv ⟨a, ys, by rw [ex], .inl h, q⟩) hg hm bt_len (pa_cons ha pa_nil (by exact he)) (he := by exact he)
theorem pe_lenS (hm : X.mg "len" = none) (ha : PE X e te) (hg : Gl X "len" := by rfl) (he : starEach [e] X.env = [(false, eval e X.env)] := by rfl) : PE X (.Call (.Name "len" p) [e] [] pos) (tLenS te) :=
  pe_callB (r := r1 fun x H Q => ∃ z, x = .str z ∧ z.length ≤ sizeLine ∧ Q (.int z.length) H) (callR1 fun pins s σ H x us Q I rv ⟨z, ex, h, q⟩ => call_len_str pins s σ H _ us Q I rv ⟨z, by rw [ex], h, q⟩) hg hm bt_len (pa_cons ha pa_nil (by exact he)) (he := by exact he)
theorem pe_max (hc : X.calm = true) (hm : X.mg "max" = none) (ha : PE X e te) (hb : PE X e2 te2) (hg : Gl X "max" := by rfl) (he : starEach [e, e2] X.env = [(false, eval e X.env), (false, eval e2 X.env)] := by rfl) (he2 : starEach [e2] X.env = [(false, eval e2 X.env)] := by rfl) : PE X (.Call (.Name "max" p) [e, e2] [] pos) (tMax te te2) :=
  pe_callB (r := r2' fun x y H Q => ∃ i j, x = .int i ∧ y = .int j ∧ Q (.int (if j > i then j else i)) H) (callR2 fun pins s σ H x y us Q I rv ⟨i, j, ex, ey, q⟩ => call_max2 hc pins s σ H _ us Q I rv ⟨i, j, by rw [ex, ey], q⟩) hg hm bt_max (pa_cons ha (pa_cons hb pa_nil (by exact he2)) (by rw [he, he2])) (he := by rw [he, he2]) (hpl := by rw [he2]; rfl)
theorem pe_listOf (hm : X.mg "list" = none) (ha : PE X e te) (hg : Gl X "list" := by rfl) (he : starEach [e] X.env = [(false, eval e X.env)] := by rfl) : PE X (.Call (.Name "list" p) [e] [] pos) (tListOf X.K te) :=
  pe_callTy (r := r1 fun x H Q => ∃ a ys, x = .ref a ∧ SqL X.K H a ys ∧ ∀ l, H l = none → Q (.ref l) (upd H l (.lst ys))) (callR1 fun pins s σ H x us Q I rv ⟨a, ys, ex, h, q⟩ => call_list_of pins s σ H _ us Q I rv ⟨a, ys, by rw [ex], .inl h, q⟩) hg hm bt_list (pa_cons ha pa_nil (by exact he)) (he := by exact he)
theorem pe_isi {T : Str} {c : String} (hm : X.mg "isinstance" = none) (hT : X.mg T = none) (hb : bootBuiltins T = some (.type c)) (ha : PE X e te) (hg : Gl X "isinstance" := by rfl) (hgT : Gl X T := by rfl) (he : starEach [e, .Name T p2] X.env = [(false, eval e X.env), (false, eval (.Name T p2) X.env)] := by rfl)
    (hn : T ≠ "__name__" := by decide) (hd : (T == ("__debug__" : Str)) = false := by decide) : PE X (.Call (.Name "isinstance" p) [e, .Name T p2] [] pos) (tIsi X.K c te) :=
  pe_callB (r := r2' fun x y H Q => ∃ t b, y = .ty c ∧ TyOf X.K H x t ∧ PySem.W.kitOne X.K t (.type c) = some b ∧ Q (.bl b) H)
    (callR2 fun pins s σ H x y us Q I rv ⟨t, b, ey, ty, ek, q⟩ => call_isinst pins s σ H _ us Q I rv ⟨x, t, c, b, by rw [ey], ty, ek, q⟩) hg hm bt_isinst
    (pa_cons ha (pa_cons (pe_bltn (v := .ty c) hgT hT hb rfl hn hd) pa_nil) (by exact he)) (he := by exact he) |>.imp fun σ H Q h => by
      show te σ H fun x H1 => ∃ t b, V.ty c = .ty c ∧ _
      simp only [true_and]
      exact h
end
end L2

namespace L2
open PySem PySem.Spec PyProof.Rows
theorem sIx_pos (n d : Nat) (i : Int) (h : 0 ≤ i) : HT.sIx n d (some i) = min i.toNat n := by
  show (if i < 0 then (i + (n : Int)).toNat else min i.toNat n) = min i.toNat n
  rw [if_neg (by omega)]
theorem take_min {α : Type} (xs : List α) (k : Nat) : xs.take (min k xs.length) = xs.take k := by
  rcases Nat.le_total k xs.length with h | h
  · rw [Nat.min_eq_left h]
  · rw [Nat.min_eq_right h, List.take_length, List.take_of_length_le h]
theorem drop_min {α : Type} (xs : List α) (k : Nat) : xs.drop (min k xs.length) = xs.drop k := by
  rcases Nat.le_total k xs.length with h | h
  · rw [Nat.min_eq_left h]
  · rw [Nat.min_eq_right h, List.drop_length, List.drop_of_length_le h]
/-- a slice of a list, its bounds from 0 on -/
def cutL {α : Type} (xs : List α) (lo hi : Option Int) : List α := (xs.drop (HT.sIx xs.length 0 lo)).take (HT.sIx xs.length xs.length hi - HT.sIx xs.length 0 lo)
theorem cutL_hi {α : Type} (xs : List α) (k : Int) (h : 0 ≤ k) : cutL xs none (some k) = xs.take k.toNat := by
  unfold cutL
  rw [sIx_pos _ _ _ h, HT.sIx_none, List.drop_zero, Nat.sub_zero, take_min]
theorem cutL_lo {α : Type} (xs : List α) (k : Int) (h : 0 ≤ k) : cutL xs (some k) none = xs.drop k.toNat := by
  unfold cutL
  rw [sIx_pos _ _ _ h, HT.sIx_none, drop_min]
  exact List.take_of_length_le (by rw [List.length_drop]; omega)
theorem cutL_map {α β : Type} (f : α → β) (xs : List α) (lo hi : Option Int) : cutL (xs.map f) lo hi = (cutL xs lo hi).map f := by
  unfold cutL
  rw [List.length_map, List.map_take, List.map_drop]
theorem cutV_cutL (xs : List V) (lo hi : Option Int) : cutV xs lo hi = cutL xs lo hi := rfl
theorem atI_ex {α : Type} (xs : List α) (r : Int) (h0 : 0 ≤ r) (h1 : r < xs.length) : ∃ v, xs[r.toNat]? = some v ∧ v ∈ xs ∧ atI xs r = some v := by
  have hl : r.toNat < xs.length := by omega
  refine ⟨xs[r.toNat], by simp [hl], List.getElem_mem hl, ?_⟩
  have e : ((r.toNat : Nat) : Int) = r := by omega
  have q : atI xs ((r.toNat : Nat) : Int) = some xs[r.toNat] := atI_nat (by simp [hl])
  rw [e] at q
  exact q
theorem ixN_pos (n : Nat) (i : Int) (h0 : 0 ≤ i) (h1 : i < n) : ixN n i = some i.toNat := by
  unfold ixN
  rw [if_pos h0, if_pos h1]
theorem str_len (cs : List Nat) : (Str.length ⟨cs.toArray⟩) = cs.length := by simp [Str.length]
end L2

namespace L2
open PySem PySem.Spec PyProof.Rows
/-- reversed(list), walked -/
def Itv (K : PySem.W.Frag) (a : Addr) (xs : List V) : It :=
  ⟨fun i H => SqL K H a xs ∧ i < xs.length, fun i H x H' => H' = H ∧ xs[xs.length - 1 - i]? = some x, fun i _ => xs.length ≤ i⟩
theorem turn_rev {P : Program} {w : World} {K : PySem.W.Frag} {tg : Expr} (a it : Addr) (xs : List V) : Turn P w K tg (Itv K a xs) [it] it (fun i h => i ≤ xs.length ∧ h.IsRevIter it a ((xs.length : Int) - 1 - (i : Int))) where
  mem := by simp
  obj := fun i h st b hb => by
    have e : b = it := by simpa using hb
    subst e
    obtain ⟨o, e, c, d⟩ := st.2
    exact ⟨o, e, fun v z => by rw [d] at z; cases z⟩
  keep := fun i h h' st k => ⟨st.1, st.2.at fun o e => k it (by simp) o e⟩
  item := by
    intro X hP hw hK hc i pins s σ H E I hf st hg
    subst hP hw hK
    obtain ⟨hq, hx⟩ := hg
    obtain ⟨its, rv, p, hz⟩ := I.list hq
    have hlt : xs.length - 1 - i < xs.length := by omega
    obtain ⟨u, hu, ru⟩ := rv.get (show xs[xs.length - 1 - i]? = some xs[xs.length - 1 - i] by simp [hlt])
    obtain ⟨f0, f1, f2, f3, f4, f5⟩ := hf it (by simp)
    have e1 : (xs.length : Int) - 1 - (i : Int) = ((xs.length - 1 - i : Nat) : Int) := by omega
    have hit := st.2
    rw [e1] at hit
    refine wpAny_pyNext_rev_item hit p.isList (x := u) (by simpa using hu) fun h' st' sb => ?_
    have e2 : ((xs.length - 1 - i : Nat) : Int) - 1 = (xs.length : Int) - 1 - ((i + 1 : Nat) : Int) := by omega
    rw [e2] at st'
    have I1 : Inv X pins σ H { s with heap := h' } := I.turned (t' := s.toks) (fun b o hb e => (sb.2 b hb).trans e) f0 f1 f3 f4 f5
    obtain ⟨o, e, c, d⟩ := id st'
    exact ⟨u, rfl, go_of (s := { s with heap := h' }) e c d (by decide) ⟨_, H, I1, ru, ⟨rfl, by simp [hlt]⟩, ⟨hx, st'⟩, fun b hb => (hf b hb).1⟩⟩
  done := by
    intro X hP hw hK hc i pins s σ H E I hf st hg
    subst hP hw hK
    obtain ⟨f0, f1, f2, f3, f4, f5⟩ := hf it (by simp)
    have hg' : xs.length ≤ i := hg
    have e1 : (xs.length : Int) - 1 - (i : Int) = -1 := by have := st.1; omega
    have hit := st.2
    rw [e1] at hit
    exact wpAny_pyNext_rev_end (I.ok.hd hc) hit fun h' eb => ⟨rfl, I.turned (t' := s.toks) (fun b o hb e => eb b o hb e) f0 f1 f3 f4 f5⟩
  self := fun _ _ _ _ _ st h => wpAny_pyIter_revIter st.2 h
def iRev (K : PySem.W.Frag) (tl : TE) : TI := fun σ H R => tl σ H fun x H1 => ∃ a xs, x = .ref a ∧ SqL K H1 a xs ∧ R (Itv K a xs) H1
theorem pi_rev {X : Cx} {tg e : Expr} {te : TE} {p pos : Pos} (hm : X.mg "reversed" = none) (he : PE X e te) (hg : Gl X "reversed" := by rfl) (hs : starEach [e] X.env = [(false, eval e X.env)] := by rfl) : PI X tg (.Call (.Name "reversed" p) [e] [] pos) (iRev X.K te) := by
  intro pins s σ H R I h
  refine Call_ (ld_blt I hg hm bt_rev (PyProof.Rows.callWith_type1 (thn ((pa_cons he pa_nil (by exact hs)) pos pins s σ H (fun vs H1 => ∃ x, vs = [x] ∧ ∃ a xs, x = .ref a ∧ SqL X.K H1 a xs ∧ R (Itv X.K a xs) H1) I ?_) fun us s1 ⟨vs, H1, I1, r1, q1⟩ => ?_) hs rfl))
  · show te σ H fun x H1 => ∃ x', [x] = [x'] ∧ ∃ a xs, x' = .ref a ∧ SqL X.K H1 a xs ∧ R (Itv X.K a xs) H1
    have e : (fun (x : V) (H1 : Hp) => ∃ x', [x] = [x'] ∧ ∃ a xs, x' = V.ref a ∧ SqL X.K H1 a xs ∧ R (Itv X.K a xs) H1) = fun x H1 => ∃ a xs, x = .ref a ∧ SqL X.K H1 a xs ∧ R (Itv X.K a xs) H1 := by
      funext x H1
      apply propext
      constructor
      · rintro ⟨x', e, r⟩
        cases e
        exact r
      · intro r
        exact ⟨x, rfl, r⟩
    rw [e]
    exact h
  · obtain ⟨x, rfl, a, xs, rfl, hq, q⟩ := q1
    obtain ⟨u, rfl, ru⟩ := vals1 r1
    cases ru
    obtain ⟨its, rv, pl, hz⟩ := I1.list hq
    refine call_reversed_list pl.isList ?_
    have I2 : Inv X pins σ H1 { s1 with heap := s1.heap.push (revObj a ((its.toArray.size : Int) - 1)) } := I1.kept (t' := s1.toks) fun b o e => Heap.get?_push_of_some _ e
    have hl := rv.length
    have st : ({ s1 with heap := s1.heap.push (revObj a ((its.toArray.size : Int) - 1)) } : Shared).heap.IsRevIter s1.heap.objs.size a ((xs.length : Int) - 1 - ((0 : Nat) : Int)) := by
      refine ⟨_, Heap.get?_push_size _ rfl, rfl, ?_⟩
      have : (its.toArray.size : Int) - 1 = (xs.length : Int) - 1 - ((0 : Nat) : Int) := by simp; omega
      rw [← this]; rfl
    refine wpAny_pyIter_revIter st ?_
    refine ⟨s1.heap.objs.size, [s1.heap.objs.size], _, _, H1, rfl, I2, turn_rev a _ xs, ⟨Nat.zero_le _, st⟩, fun b hb => ?_, q⟩
    have e : b = s1.heap.objs.size := by simpa using hb
    subst e
    exact I1.fpOk (Nat.le_refl _) (I1.hok.fresh (Nat.le_refl _))
/-- a comprehension over reversed(list) -/
theorem comp_rev {K : PySem.W.Frag} {a : Addr} {xs : List V} {tc : TT} {te : TE} {σ : St} {H1 : Hp} {Q : Hp → Prop} {D : Addr} (Pv : Nat → List V → Hp → Prop) (hn : xs.length < sizeLine) (h0 : Pv 0 [] (upd H1 D (.lst [])))
    (hl : ∀ i ys H, Pv i ys H → ys.length ≤ i) (hq : ∀ i ys H, i ≤ xs.length → Pv i ys H → SqL K H a xs)
    (hs : ∀ i x ys H, xs[xs.length - 1 - i]? = some x → i < xs.length → Pv i ys H → tc (σ ++ [some x]) H fun b H2 => if b = true then te (σ ++ [some x]) H2 fun v H3 => H3 D = some (.lst ys) ∧ Pv (i + 1) (ys ++ [v]) (upd H3 D (.lst (ys ++ [v]))) else Pv (i + 1) ys H2)
    (hd : ∀ ys H, Pv xs.length ys H → Q H) :
    ∃ W : Nat → Nat → List V → Hp → Prop, (∃ m, W 0 m [] (upd H1 D (.lst []))) ∧
      ∀ i m ys H, W i m ys H → ((Itv K a xs).stop i H ∧ Q H) ∨ ((Itv K a xs).go i H ∧ ys.length < sizeLine ∧ ∃ N : List V → Hp → Prop, (∀ ys' H', N ys' H' → ∃ m', m' < m ∧ W (i + 1) m' ys' H') ∧ ∀ x H', (Itv K a xs).yld i H x H' → tc (σ ++ [some x]) H' fun b H2 =>
        if b = true then te (σ ++ [some x]) H2 fun v H3 => H3 D = some (.lst ys) ∧ N (ys ++ [v]) (upd H3 D (.lst (ys ++ [v]))) else N ys H2) := by
  refine ⟨fun i m ys H => m = xs.length - i ∧ i ≤ xs.length ∧ Pv i ys H, ⟨xs.length, by simp, Nat.zero_le _, h0⟩, ?_⟩
  rintro i m ys H ⟨rfl, hi, p⟩
  have q := hq i ys H hi p
  by_cases hlt : i < xs.length
  · refine .inr ⟨⟨q, hlt⟩, Nat.lt_of_le_of_lt (hl i ys H p) (Nat.lt_trans hlt hn), Pv (i + 1), fun ys' H' p' => ⟨xs.length - (i + 1), by omega, rfl, hlt, p'⟩, fun x H' y => ?_⟩
    obtain ⟨e, y⟩ := y
    subst e
    exact hs i x ys _ y hlt p
  · have e : i = xs.length := by omega
    subst e
    exact .inl ⟨Nat.le_refl _, hd ys H p⟩
theorem tNoIf_go {σ : St} {H : Hp} {A B : Hp → Prop} (h : A H) : tNoIf σ H fun b H2 => if b = true then A H2 else B H2 := by
  show if true = true then A H else B H
  rw [if_pos rfl]
  exact h
theorem datVs_nil {K : PySem.W.Frag} {H : Hp} : DatVs K H [] [] := by rw [DatVs]
theorem datVs_cons {K : PySem.W.Frag} {H : Hp} {d : PyData} {ds : List PyData} {v : V} {vs : List V} (h : DatV K H d v) (g : DatVs K H ds vs) : DatVs K H (d :: ds) (v :: vs) := by
  rw [DatVs]; exact ⟨v, vs, rfl, h, g⟩
theorem datV_lst {K : PySem.W.Frag} {H : Hp} {p : Addr} {ds : List PyData} {vs : List V} (h : SqL K H p vs) (g : DatVs K H ds vs) : DatV K H (.list ds) (.ref p) := by
  rw [DatV]; exact ⟨p, vs, rfl, h, g⟩
theorem datV_int {K : PySem.W.Frag} {H : Hp} (i : Int) : DatV K H (.int i) (.int i) := by rw [DatV]
theorem datV_bool {K : PySem.W.Frag} {H : Hp} (b : Bool) : DatV K H (.bool b) (.bl b) := by rw [DatV]
def pSgs (cs : List Nat) : PyData := .list (cs.map fun c => PyData.str (sgS c))
def pInts (ns : List Int) : PyData := .list (ns.map PyData.int)
theorem eqv_pSgs (cs ds : List Nat) : PyData.eqv (pSgs cs) (pSgs ds) = decide (cs = ds) := eqv_sgs cs ds
theorem eqv_pInts (cs ds : List Int) : PyData.eqv (pInts cs) (pInts ds) = decide (cs = ds) := eqv_ints cs ds
theorem depth_pSgs (cs : List Nat) : (pSgs cs).depth ≤ 2 := depth_sgs cs
theorem depth_pInts (cs : List Int) : (pInts cs).depth ≤ 2 := depth_ints cs
theorem Same.tup {K : PySem.W.Frag} {H H' : Hp} {a : Addr} {xs : List V} (e : Same H H') (h : H a = some (.tup xs)) : SqT K H' a xs := SqT.of (e _ _ h)
end L2

namespace L2
open PySem PySem.Spec PyProof.Rows
section
variable {X : Cx} {a b e : Expr} {rest : List Expr} {ta tb te : TE} {p pos : Pos}
end
/-! ### to go on at the first statement -/
def FW (J : It) (g : TG) (tb : TS) (D : Ends) (σ : St) (H1 : Hp) : Prop := ∃ W : Nat → Nat → St → Hp → Prop, (∃ m, W 0 m σ H1) ∧ ∀ i m σ H, W i m σ H →
  (J.stop i H ∧ D.nx σ H) ∨ (J.go i H ∧ ∃ N : St → Hp → Prop, (∀ σ' H', N σ' H' → ∃ m', m' < m ∧ W (i + 1) m' σ' H') ∧ ∀ x H', J.yld i H x H' → g x σ H' fun σ2 H2 => tb { D with nx := N, ct := N, bk := D.nx } σ2 H2)
theorem seq_for {wi : TI} {g : TG} {tb rest : TS} {D : Ends} {σ : St} {H : Hp} (h : wi σ H fun J H1 => FW J g tb { D with nx := rest D } σ H1) : tSeq (tFor wi g tb) rest D σ H := h
theorem seq_asg {te : TE} {g : TG} {rest : TS} {D : Ends} {σ : St} {H : Hp} (h : te σ H fun x H1 => g x σ H1 (rest D)) : tSeq (tAsg te g) rest D σ H := h
end L2

namespace L2
open PySem PySem.Spec PyProof.Rows
/-! ### // by a divisor of up to sixty figures -/
def CDivL (i j : Int) : Prop := 0 < j ∧ j < 1000000000000000000000000000000000000000000000000000000000000
theorem op_fdivL {X : Cx} : OpR X (binaryOp .FloorDiv) (rI CDivL fun i j => .int (i / j)) := opI fun i j _ _ _ _ _ hc q => by
  have hn : j.natAbs.log2 < 9000 := by
    have h0 : j.natAbs ≠ 0 := by have := hc.1; omega
    rw [Nat.log2_lt h0]
    have h1 : j.natAbs < 1000000000000000000000000000000000000000000000000000000000000 := by have := hc.1; have := hc.2; omega
    exact Nat.lt_of_lt_of_le h1 (Nat.le_trans (show 1000000000000000000000000000000000000000000000000000000000000 ≤ 2 ^ 200 by decide) (Nat.pow_le_pow_right (by decide) (by decide)))
  refine floordiv_int (by have := hc.1; omega) ?_ (.inl (PyProof.noPylong_of_log2 hn))
  rw [Int.fdiv_eq_ediv_of_nonneg _ (by have := hc.1; omega)]
  exact q
/-! ### records turned, and a new object -/
theorem Inv.turnLaid {X : Cx} {pins : List (Addr × Obj)} {σ : St} {H : Hp} {s : Shared} {h' : Heap} {t' : Nat} {ch : List Addr} {a : Addr} {o : HO} (I : Inv X pins σ H s) (hch : ∀ b ∈ ch, FpOk X pins H b)
    (k : ∀ b u, b ∉ ch → s.heap.get? b = some u → h'.get? b = some u) (hp : s.heap.objs.size ≤ a) (new : ObjOk X.prog X.w (upd H a o) h' a o) : Inv X pins σ (upd H a o) { s with heap := h', toks := t' } := by
  have hn := I.hok.fresh hp
  have nch : ∀ b u, H b = some u → b ∉ ch := fun b u e hb => by rw [(hch b hb).1] at e; cases e
  refine I.step (g' := s.gens) (d' := s.drawn) (ch := ch) (fun b hb => ?_) (fun b o _ _ hc e _ => k b o hc e) (fun b o _ _ hc e _ => ⟨o.slots, k b o hc e⟩) (fun b o hc e n => ?_) (fun b o hc e => ⟨o, k b o hc e⟩) (fun b xs e => ?_) (fun b o u e => ?_) (fun b ps e => ⟨#[], ?_⟩) (fun m hm => ?_) (fun b u e => ?_) I.bare
  · obtain ⟨f0, f1, f2, f3, f4, f5⟩ := hch b hb
    exact ⟨f3, f1, f4, f5⟩
  · rw [upd_ne (Nat.ne_of_lt (Nat.lt_of_lt_of_le (Heap.lt_size e) hp))]; exact n
  · rw [upd_ne (ne_of_none e hn)]; exact e
  · rw [upd_ne (ne_of_none e hn)]; exact e
  · rw [upd_ne (ne_of_none e hn), e]; simp
  · obtain ⟨o, es, ep, ho, r⟩ := hm
    exact ⟨o, es, ep, k _ o (fun hb => (hch _ hb).2.1 rfl) ho, r⟩
  · by_cases hb : b = a
    · subst hb; rw [upd_same] at e; cases e; exact new
    · rw [upd_ne hb] at e
      refine (I.hok b u e).stay (fun c v hc q => k c v ?_ q) (fun c q => by rw [upd_ne (ne_of_none q hn)]; exact q) fun c xs q => by rw [upd_ne (ne_of_none q hn)]; exact q
      rcases hc with z | z
      · rw [z]; exact nch b u e
      · exact nch c _ z
theorem Inv.turnMany {X : Cx} {pins : List (Addr × Obj)} {σ : St} {H : Hp} {s : Shared} {h' : Heap} {t' : Nat} {ch : List Addr} (I : Inv X pins σ H s) (hch : ∀ b ∈ ch, FpOk X pins H b)
    (k : ∀ b u, b ∉ ch → s.heap.get? b = some u → h'.get? b = some u) : Inv X pins σ H { s with heap := h', toks := t' } := by
  have nch : ∀ b u, H b = some u → b ∉ ch := fun b u e hb => by rw [(hch b hb).1] at e; cases e
  refine I.step (g' := s.gens) (d' := s.drawn) (ch := ch) (fun b hb => ?_) (fun b o _ _ hc e _ => k b o hc e) (fun b o _ _ hc e _ => ⟨o.slots, k b o hc e⟩) (fun b o hc e n => n) (fun b o hc e => ⟨o, k b o hc e⟩) (fun b xs e => e) (fun b o u e => e) (fun b ps e => ⟨#[], by rw [e]; simp⟩) (fun m hm => ?_) (fun b u e => ?_) I.bare
  · obtain ⟨f0, f1, f2, f3, f4, f5⟩ := hch b hb
    exact ⟨f3, f1, f4, f5⟩
  · obtain ⟨o, es, ep, ho, r⟩ := hm
    exact ⟨o, es, ep, k _ o (fun hb => (hch _ hb).2.1 rfl) ho, r⟩
  · refine (I.hok b u e).stay (fun c v hc q => k c v ?_ q) (fun _ q => q) fun _ _ q => q
    rcases hc with z | z
    · rw [z]; exact nch b u e
    · exact nch c _ z
/-! ### zip of two lists -/
def Itz (a b : Addr) : It :=
  ⟨fun i H => ∃ xs ys, H a = some (.lst xs) ∧ H b = some (.lst ys) ∧ i < xs.length ∧ i < ys.length,
   fun i H x H' => ∃ xs ys u v p, H a = some (.lst xs) ∧ H b = some (.lst ys) ∧ xs[i]? = some u ∧ ys[i]? = some v ∧ H p = none ∧ H' = upd H p (.tup [u, v]) ∧ x = .ref p,
   fun i H => ∃ xs ys, H a = some (.lst xs) ∧ H b = some (.lst ys) ∧ (xs.length ≤ i ∨ ys.length ≤ i)⟩
theorem turn_zip {P : Program} {w : World} {K : PySem.W.Frag} {es : List Expr} {kk : Nat} {tp : Pos} (a b z TI TO i1 i2 : Addr) (D : ZipApart z TI TO i1 i2 a b) :
    Turn P w K (.Tuple es kk tp) (Itz a b) [z, TI, TO, i1, i2] z (fun i h => IsZip h z TI TO .none ∧ IsPair h TI (.ref i1) (.ref i2) ∧ (∃ x y, IsPair h TO x y) ∧ h.IsListIter i1 a i ∧ h.IsListIter i2 b i) where
  mem := by simp
  obj := fun i h st c hc => by
    obtain ⟨h1, h2, ⟨x, y, h3⟩, h4, h5⟩ := st
    simp only [List.mem_cons, List.not_mem_nil, or_false] at hc
    rcases hc with rfl | rfl | rfl | rfl | rfl
    · exact ⟨_, h1, fun v q => by have q' : Data.fields _ = Data.cell v := q; cases q'⟩
    · exact ⟨_, h2, fun v q => by have q' : Data.seq _ _ = Data.cell v := q; cases q'⟩
    · exact ⟨_, h3, fun v q => by have q' : Data.seq _ _ = Data.cell v := q; cases q'⟩
    · obtain ⟨o, e, c, d⟩ := h4
      exact ⟨o, e, fun v q => by rw [d] at q; cases q⟩
    · obtain ⟨o, e, c, d⟩ := h5
      exact ⟨o, e, fun v q => by rw [d] at q; cases q⟩
  keep := fun i h h' st k => by
    obtain ⟨h1, h2, ⟨x, y, h3⟩, h4, h5⟩ := st
    exact ⟨k z (by simp) _ h1, k TI (by simp) _ h2, ⟨x, y, k TO (by simp) _ h3⟩, h4.at fun o e => k i1 (by simp) o e, h5.at fun o e => k i2 (by simp) o e⟩
  item := by
    intro X hP hw hK hc i pins s σ H E I hf st hg
    subst hP hw hK
    obtain ⟨h1, h2, ⟨x, y, h3⟩, h4, h5⟩ := st
    obtain ⟨xs, ys, ha, hb, hi1, hi2⟩ := hg
    obtain ⟨_, its1, n1, rv1, hl1, e1⟩ := I.lstM ha
    obtain ⟨_, its2, n2, rv2, hl2, e2⟩ := I.lstM hb
    obtain ⟨u, hu, ru⟩ := rv1.get (show xs[i]? = some xs[i] by simp [hi1])
    obtain ⟨v, hv, rv⟩ := rv2.get (show ys[i]? = some ys[i] by simp [hi2])
    refine wpAny_pyNext_zip_item D h1 h2 h3 h4 h5 ⟨_, e1, rfl, n1, rfl⟩ ⟨_, e2, rfl, n2, rfl⟩ (x := u) (y := v) (by simpa using hu) (by simpa using hv) fun h' z1 z2 z3 z4 z5 z6 z7 => ⟨_, rfl, ?_⟩
    refine wpAny_letOwnedTupleGo_zip (s := { s with heap := h' }) z1 fun h'' y1 sb => ?_
    have zlt : z < s.heap.objs.size := Heap.lt_size h1
    have nz : s.heap.objs.size ≠ z := Nat.ne_of_gt zlt
    have hnew : IsPair h'' s.heap.objs.size u v := sb.extBut _ _ nz z5
    have kk : ∀ c o, c ∉ [z, TI, TO, i1, i2] → s.heap.get? c = some o → h''.get? c = some o := fun c o hc e => by
      simp only [List.mem_cons, List.not_mem_nil, or_false, not_or] at hc
      exact sb.extBut _ _ hc.1 (z7 c o hc.1 hc.2.2.1 hc.2.2.2.1 hc.2.2.2.2 e)
    have I1 : Inv X pins σ (upd H s.heap.objs.size (.tup [xs[i], ys[i]])) { s with heap := h'', toks := s.toks } := I.turnLaid hf kk (Nat.le_refl _) ⟨by show 2 ≤ sizeLine; decide, [u, v], .cons ru (.cons rv .nil), ⟨_, hnew, rfl, _, rfl⟩⟩
    refine ⟨.ref s.heap.objs.size, _, I1, rfl, ⟨xs, ys, xs[i], ys[i], s.heap.objs.size, ha, hb, by simp [hi1], by simp [hi2], I.hok.fresh (Nat.le_refl _), rfl, rfl⟩, ⟨y1, ?_, ⟨u, v, ?_⟩, ?_, ?_⟩, fun c hc => ?_⟩
    · exact sb.extBut _ _ D.TIz (z7 TI _ D.TIz D.TITO D.TIi1 D.TIi2 h2)
    · exact sb.extBut _ _ D.TOz z2
    · exact z3.at fun o e => sb.extBut _ _ D.i1z e
    · exact z4.at fun o e => sb.extBut _ _ D.i2z e
    · rw [upd_ne]
      · exact (hf c hc).1
      · intro q
        subst q
        obtain ⟨o, e, _⟩ : ∃ o, s.heap.get? s.heap.objs.size = some o ∧ True := by
          simp only [List.mem_cons, List.not_mem_nil, or_false] at hc
          rcases hc with q | q | q | q | q
          · rw [q] at *; exact ⟨_, h1, trivial⟩
          · exact ⟨_, q ▸ h2, trivial⟩
          · exact ⟨_, q ▸ h3, trivial⟩
          · obtain ⟨o, e, _⟩ := h4; exact ⟨o, q ▸ e, trivial⟩
          · obtain ⟨o, e, _⟩ := h5; exact ⟨o, q ▸ e, trivial⟩
        exact absurd (Heap.lt_size e) (Nat.lt_irrefl _)
  done := by
    intro X hP hw hK hc i pins s σ H E I hf st hg
    subst hP hw hK
    obtain ⟨h1, h2, ⟨x, y, h3⟩, h4, h5⟩ := st
    obtain ⟨xs, ys, ha, hb, hend⟩ := hg
    obtain ⟨_, its1, n1, rv1, hl1, e1⟩ := I.lstM ha
    obtain ⟨_, its2, n2, rv2, hl2, e2⟩ := I.lstM hb
    refine wpAny_pyNext_zip_end (I.ok.hd hc) D h1 h2 h3 h4 h5 ⟨_, e1, rfl, n1, rfl⟩ ⟨_, e2, rfl, n2, rfl⟩ ?_ fun h' k => ⟨rfl, I.turnMany (t' := s.toks) hf fun c o hc e => ?_⟩
    · rcases hend with q | q
      · left; simp; omega
      · right; simp; omega
    · simp only [List.mem_cons, List.not_mem_nil, or_false, not_or] at hc
      exact k c o hc.1 hc.2.2.1 hc.2.2.2.1 hc.2.2.2.2 e
  self := fun _ _ _ _ _ st h => wpAny_pyIter_zip st.1 h
theorem bt_zip : bootBuiltins "zip" = some (.type "zip") := by decide +kernel
def iZip (te te2 : TE) : TI := fun σ H R => te σ H fun x H1 => te2 σ H1 fun y H2 => ∃ a b xs ys, x = .ref a ∧ y = .ref b ∧ H2 a = some (.lst xs) ∧ H2 b = some (.lst ys) ∧ R (Itz a b) H2
theorem pi_zip {X : Cx} {es : List Expr} {kk : Nat} {tp : Pos} {e e2 : Expr} {te te2 : TE} {p pos : Pos} (hm : X.mg "zip" = none) (he : PE X e te) (he2 : PE X e2 te2) (hg : Gl X "zip" := by rfl)
    (hs : starEach [e, e2] X.env = [(false, eval e X.env), (false, eval e2 X.env)] := by rfl) (hs2 : starEach [e2] X.env = [(false, eval e2 X.env)] := by rfl) : PI X (.Tuple es kk tp) (.Call (.Name "zip" p) [e, e2] [] pos) (iZip te te2) := by
  intro pins s σ H R I h
  refine Call_ (ld_blt I hg hm bt_zip (PyProof.Rows.callWith_type1 (thn ((pa_cons he (pa_cons he2 pa_nil (by exact hs2)) (by rw [hs, hs2])) pos pins s σ H (fun vs H2 => match vs with | [x, y] => ∃ a b xs ys, x = .ref a ∧ y = .ref b ∧ H2 a = some (.lst xs) ∧ H2 b = some (.lst ys) ∧ R (Itz a b) H2 | _ => False) I h) fun us s1 ⟨vs, H1, I1, r1, q1⟩ => ?_) (by rw [hs, hs2]) (by rw [hs2]; rfl)))
  match vs, q1 with
  | [x, y], q1 =>
    obtain ⟨a, b, xs, ys, rfl, rfl, ha, hb, q⟩ := q1
    obtain ⟨u, v, rfl, ru, rv⟩ := r1.two
    cases ru
    cases rv
    obtain ⟨_, its1, n1, rv1, hl1, e1⟩ := I1.lstM ha
    obtain ⟨_, its2, n2, rv2, hl2, e2⟩ := I1.lstM hb
    have ih1 : s1.heap.IsList a its1.toArray := ⟨_, e1, rfl, n1, rfl⟩
    have ih2 : s1.heap.IsList b its2.toArray := ⟨_, e2, rfl, n2, rfl⟩
    refine call_zip_2 ih1 ih2 fun h' z1 z2 z3 z4 z5 z6 z7 => ?_
    have I2 : Inv X pins σ H1 { s1 with heap := h' } := I1.kept (t' := s1.toks) z7
    refine wpAny_pyIter_zip (s := { s1 with heap := h' }) z1 ?_
    refine ⟨_, _, _, Itz a b, H1, rfl, I2, turn_zip a b _ _ _ _ _ (zipApart_new (Heap.lt_size e1) (Heap.lt_size e2)), ⟨z1, z2, ⟨_, _, z3⟩, z4, z5⟩, fun c hc => ?_, q⟩
    have hge : s1.heap.objs.size ≤ c := by
      simp only [List.mem_cons, List.not_mem_nil, or_false] at hc
      rcases hc with q | q | q | q | q <;> (subst q; first | exact Nat.le_add_right _ _ | exact Nat.le_refl _)
    exact I1.fpOk hge (I1.hok.fresh hge)
theorem for_zip {a b : Addr} {xs ys : List V} {g : TG} {tb : TS} {D : Ends} {σ : St} {H : Hp} (Pv : Nat → St → Hp → Prop) (h0 : Pv 0 σ H) (hl : ∀ i σ H, i ≤ min xs.length ys.length → Pv i σ H → H a = some (.lst xs) ∧ H b = some (.lst ys))
    (hs : ∀ i u v p σ H, xs[i]? = some u → ys[i]? = some v → H p = none → Pv i σ H → g (.ref p) σ (upd H p (.tup [u, v])) fun σ2 H2 => tb { D with nx := Pv (i + 1), ct := Pv (i + 1), bk := D.nx } σ2 H2) (hd : ∀ σ H, Pv (min xs.length ys.length) σ H → D.nx σ H) :
    ∃ W : Nat → Nat → St → Hp → Prop, (∃ m, W 0 m σ H) ∧ ∀ i m σ H, W i m σ H →
      ((Itz a b).stop i H ∧ D.nx σ H) ∨ ((Itz a b).go i H ∧ ∃ N : St → Hp → Prop, (∀ σ' H', N σ' H' → ∃ m', m' < m ∧ W (i + 1) m' σ' H') ∧ ∀ x H', (Itz a b).yld i H x H' → g x σ H' fun σ2 H2 => tb { D with nx := N, ct := N, bk := D.nx } σ2 H2) := by
  refine ⟨fun i m σ H => m = min xs.length ys.length - i ∧ i ≤ min xs.length ys.length ∧ Pv i σ H, ⟨min xs.length ys.length, by simp, Nat.zero_le _, h0⟩, ?_⟩
  rintro i m σ H ⟨rfl, hi, p⟩
  obtain ⟨qa, qb⟩ := hl i σ H hi p
  by_cases hlt : i < min xs.length ys.length
  · refine .inr ⟨⟨xs, ys, qa, qb, by omega, by omega⟩, Pv (i + 1), fun σ' H' p' => ⟨min xs.length ys.length - (i + 1), by omega, rfl, hlt, p'⟩, fun x H' y => ?_⟩
    obtain ⟨xs', ys', u, v, q, ea, eb, eu, ev, hq, e1, e2⟩ := y
    rw [qa] at ea
    rw [qb] at eb
    have e3 : xs = xs' := HO.lst.inj (Option.some.inj ea)
    have e4 : ys = ys' := HO.lst.inj (Option.some.inj eb)
    subst e3 e4 e1 e2
    exact hs i u v q σ H eu ev hq p
  · have e : i = min xs.length ys.length := by omega
    subst e
    exact .inl ⟨⟨xs, ys, qa, qb, by omega⟩, hd σ H p⟩
/-! ### xs[::-1] -/
def tRev (K : PySem.W.Frag) (te : TE) : TE := fun σ H Q => te σ H fun x H1 => ∃ a xs, x = .ref a ∧ SqL K H1 a xs ∧ ∀ p, H1 p = none → Q (.ref p) (upd H1 p (.lst xs.reverse))
theorem pe_rev_slice {X : Cx} {e : Expr} {te : TE} {pos p1 p2 p3 : Pos} {j : Nat} (he : PE X e te) : PE X (.Subscript e (.Slice none none (some (.UnaryOp .USub (.Constant (.int 1) j p1) p2)) p3) pos) (tRev X.K te) := by
  intro pins s σ H Q I h
  refine Subscript_ (thn (he pins s σ H _ I h) fun v s1 ⟨x, H1, I1, r1, q1⟩ => ?_)
  obtain ⟨a, xs, rfl, hq, q⟩ := q1
  cases r1
  refine wpAny_Slice ?_
  rw [evalPart_none, evalPart_some]
  refine wpAny_pure (wpAny_pure ?_)
  refine thn (pe_un un_neg (pe_int (i := 1)) pins s1 σ H1 (fun y H' => y = .int (-1) ∧ H' = H1) I1 ⟨1, rfl, rfl, rfl⟩) fun u s2 ⟨y, H2, I2, r2, e1, e2⟩ => ?_
  subst e1 e2
  obtain ⟨t, rfl⟩ := r2
  have I3 : Inv X pins σ H2 { s2 with heap := s2.heap.push { cls := .type "slice", data := .fields #[.none, .none, .int (-1) t] } } := I2.kept (t' := s2.toks) fun b ob q => Heap.get?_push_of_some _ q
  obtain ⟨its, r, ht, hz⟩ := I3.list hq
  have hlen := r.length
  refine tail_any (ops := [.ref a, .ref s2.heap.objs.size]) ht.isList.typeIs slot_list_getitem.lookup (wpAny_getItem_list_slice ht.isList (Heap.IsSliceOf.new ..) .none .none (.int (-1) t) (by simp) ?_ (by rw [List.size_toArray] <;> omega)) (by with_unfolding_all rfl)
  rw [PySem.W.krv_pick]
  refine ⟨.ref _, _, I3.laid (t' := s2.toks) (o := .lst xs.reverse) (fun b ob q => Heap.get?_push_of_some _ q) (Nat.le_refl _) ?_, rfl, q _ (I3.hok.fresh (Nat.le_refl _))⟩
  exact ⟨by rw [List.length_reverse]; exact hz, _, 0, r.reverse, Heap.get?_push_size _ rfl⟩
end L2

namespace L2
open PySem PySem.Spec PyProof.Rows
theorem small5000 {n : Nat} (h : n ≤ 5000) : n < sizeLine := Nat.lt_of_le_of_lt h (by decide)
section
variable {X : Cx} {e e2 : Expr} {te te2 : TE} {p p2 pos : Pos}
def tMin2 (te te2 : TE) : TE := fun σ H Q => te σ H fun x H1 => te2 σ H1 fun y H2 => ∃ i j, x = .int i ∧ y = .int j ∧ Q (.int (if j < i then j else i)) H2
theorem pe_min (hc : X.calm = true) (hm : X.mg "min" = none) (ha : PE X e te) (hb : PE X e2 te2) (hg : Gl X "min" := by rfl) (he : starEach [e, e2] X.env = [(false, eval e X.env), (false, eval e2 X.env)] := by rfl) (he2 : starEach [e2] X.env = [(false, eval e2 X.env)] := by rfl) : PE X (.Call (.Name "min" p) [e, e2] [] pos) (tMin2 te te2) :=
  pe_callB (r := r2' fun x y H Q => ∃ i j, x = .int i ∧ y = .int j ∧ Q (.int (if j < i then j else i)) H) (callR2 fun pins s σ H x y us Q I rv ⟨i, j, ex, ey, q⟩ => call_min2 hc pins s σ H _ us Q I rv ⟨i, j, by rw [ex, ey], q⟩) hg hm bt_min (pa_cons ha (pa_cons hb pa_nil (by exact he2)) (by rw [he, he2])) (he := by rw [he, he2]) (hpl := by rw [he2]; rfl)
end
end L2
namespace L2
open PySem PySem.Spec PyProof.Rows
/-! ### a row of written whole numbers -/
end L2

namespace L2
open PySem PySem.Spec PyProof.Rows
/-! ### enumerate of a list -/
def Iten (a : Addr) : It :=
  ⟨fun i H => ∃ xs, H a = some (.lst xs) ∧ i < xs.length,
   fun i H x H' => ∃ xs v p, H a = some (.lst xs) ∧ xs[i]? = some v ∧ H p = none ∧ H' = upd H p (.tup [.int (i : Int), v]) ∧ x = .ref p,
   fun i H => ∃ xs, H a = some (.lst xs) ∧ xs.length ≤ i⟩
theorem turn_enum {P : Program} {w : World} {K : PySem.W.Frag} {es : List Expr} {kk : Nat} {tp : Pos} (a e it : Addr) (hei : e ≠ it) (hae : a ≠ e) (hai : a ≠ it) :
    Turn P w K (.Tuple es kk tp) (Iten a) [e, it] e (fun i h => (∃ old, IsEnum h e it i old) ∧ h.IsListIter it a i) where
  mem := by simp
  obj := fun i h st c hc => by
    obtain ⟨⟨old, h1⟩, h2⟩ := st
    simp only [List.mem_cons, List.not_mem_nil, or_false] at hc
    rcases hc with rfl | rfl
    · exact ⟨_, h1, fun v q => by have q' : Data.fields _ = Data.cell v := q; cases q'⟩
    · obtain ⟨o, e, c, d⟩ := h2
      exact ⟨o, e, fun v q => by rw [d] at q; cases q⟩
  keep := fun i h h' st k => by
    obtain ⟨⟨old, h1⟩, h2⟩ := st
    exact ⟨⟨old, k e (by simp) _ h1⟩, h2.at fun o q => k it (by simp) o q⟩
  item := by
    intro X hP hw hK hc i pins s σ H E I hf st hg
    subst hP hw hK
    obtain ⟨⟨old, h1⟩, h2⟩ := st
    obtain ⟨xs, ha, hi⟩ := hg
    obtain ⟨_, its, n, rv, hl, e1⟩ := I.lstM ha
    obtain ⟨u, hu, ru⟩ := rv.get (show xs[i]? = some xs[i] by simp [hi])
    refine wpAny_pyNext_enum_item h1 h2 ⟨_, e1, rfl, n, rfl⟩ (x := u) (by simpa using hu) hei fun h' z1 z2 z3 z4 z5 => ⟨_, rfl, ?_⟩
    refine wpAny_letOwnedTupleGo_enum (s := { s with heap := h', toks := s.toks + 1 }) z1 fun h'' y1 sb => ?_
    have elt : e < s.heap.objs.size := Heap.lt_size h1
    have ne : s.heap.objs.size ≠ e := Nat.ne_of_gt elt
    have hnew : h''.get? s.heap.objs.size = some { cls := .type "tuple", data := .seq #[.int i s.toks, u] } := (sb.2 _ ne).trans z3
    have kk : ∀ c o, c ∉ [e, it] → s.heap.get? c = some o → h''.get? c = some o := fun c o hc q => by
      simp only [List.mem_cons, List.not_mem_nil, or_false, not_or] at hc
      exact (sb.2 c hc.1).trans (z5 c o hc.1 hc.2 q)
    have I1 : Inv X pins σ (upd H s.heap.objs.size (.tup [.int (i : Int), xs[i]])) { s with heap := h'', toks := s.toks + 1 } := I.turnLaid (t' := s.toks + 1) hf kk (Nat.le_refl _) ⟨by show 2 ≤ sizeLine; decide, [.int i s.toks, u], .cons ⟨_, rfl⟩ (.cons ru .nil), ⟨_, hnew, rfl, _, rfl⟩⟩
    refine ⟨.ref s.heap.objs.size, _, I1, rfl, ⟨xs, xs[i], s.heap.objs.size, ha, by simp [hi], I.hok.fresh (Nat.le_refl _), rfl, rfl⟩, ⟨⟨u, by simpa using y1⟩, z2.at fun o q => (sb.2 it hei.symm).trans q⟩, fun c hc => ?_⟩
    rw [upd_ne]
    · exact (hf c hc).1
    · intro q
      subst q
      obtain ⟨o, e', _⟩ : ∃ o, s.heap.get? s.heap.objs.size = some o ∧ True := by
        simp only [List.mem_cons, List.not_mem_nil, or_false] at hc
        rcases hc with q | q
        · exact absurd q ne
        · obtain ⟨o, e', _⟩ := h2; exact ⟨o, q ▸ e', trivial⟩
      exact absurd (Heap.lt_size e') (Nat.lt_irrefl _)
  done := by
    intro X hP hw hK hc i pins s σ H E I hf st hg
    subst hP hw hK
    obtain ⟨⟨old, h1⟩, h2⟩ := st
    obtain ⟨xs, ha, hend⟩ := hg
    obtain ⟨_, its, n, rv, hl, e1⟩ := I.lstM ha
    refine wpAny_pyNext_enum_end (I.ok.hd hc) h1 h2 ⟨_, e1, rfl, n, rfl⟩ ?_ fun h' k => ⟨rfl, I.turnMany (t' := s.toks) hf fun c o hc q => ?_⟩
    · rw [Array.getElem?_eq_none]; simp; omega
    · simp only [List.mem_cons, List.not_mem_nil, or_false, not_or] at hc
      exact k c o hc.2 q
  self := fun _ _ _ _ _ st h => wpAny_pyIter_enum st.1.choose_spec h
theorem bt_enum : bootBuiltins "enumerate" = some (.type "enumerate") := by decide +kernel
def iEnum (te : TE) : TI := fun σ H R => te σ H fun x H1 => ∃ a xs, x = .ref a ∧ H1 a = some (.lst xs) ∧ R (Iten a) H1
theorem pi_enum {X : Cx} {es : List Expr} {kk : Nat} {tp : Pos} {e : Expr} {te : TE} {p pos : Pos} (hm : X.mg "enumerate" = none) (he : PE X e te) (hg : Gl X "enumerate" := by rfl)
    (hs : starEach [e] X.env = [(false, eval e X.env)] := by rfl) : PI X (.Tuple es kk tp) (.Call (.Name "enumerate" p) [e] [] pos) (iEnum te) := by
  intro pins s σ H R I h
  refine Call_ (ld_blt I hg hm bt_enum (PyProof.Rows.callWith_type1 (thn ((pa_cons he pa_nil (by exact hs)) pos pins s σ H (fun vs H2 => match vs with | [x] => ∃ a xs, x = .ref a ∧ H2 a = some (.lst xs) ∧ R (Iten a) H2 | _ => False) I h) fun us s1 ⟨vs, H1, I1, r1, q1⟩ => ?_) (by rw [hs]; rfl) (by rfl)))
  match vs, q1 with
  | [x], q1 =>
    obtain ⟨a, xs, rfl, ha, q⟩ := q1
    obtain ⟨u, rfl, ru⟩ := r1.one
    cases ru
    obtain ⟨_, its, n, rv, hl, e1⟩ := I1.lstM ha
    refine call_enumerate_list ⟨_, e1, rfl, n, rfl⟩ fun h' z1 z2 z3 z4 => ?_
    have I2 : Inv X pins σ H1 { s1 with heap := h' } := I1.kept (t' := s1.toks) z4
    refine wpAny_pyIter_enum (s := { s1 with heap := h' }) z1 ?_
    have alt : a < s1.heap.objs.size := Heap.lt_size e1
    refine ⟨_, _, _, Iten a, H1, rfl, I2, turn_enum a _ _ (Nat.ne_of_gt (Nat.lt_succ_self _)) (Nat.ne_of_lt (Nat.lt_succ_of_lt alt)) (Nat.ne_of_lt alt), ⟨⟨_, z1⟩, z2⟩, fun c hc => ?_, q⟩
    have hge : s1.heap.objs.size ≤ c := by
      simp only [List.mem_cons, List.not_mem_nil, or_false] at hc
      rcases hc with q | q <;> (subst q; first | exact Nat.le_add_right _ _ | exact Nat.le_refl _)
    exact I1.fpOk hge (I1.hok.fresh hge)
theorem for_enum {a : Addr} {xs : List V} {g : TG} {tb : TS} {D : Ends} {σ : St} {H : Hp} (Pv : Nat → St → Hp → Prop) (h0 : Pv 0 σ H) (hl : ∀ i σ H, i ≤ xs.length → Pv i σ H → H a = some (.lst xs))
    (hs : ∀ i v p σ H, xs[i]? = some v → H p = none → Pv i σ H → g (.ref p) σ (upd H p (.tup [.int (i : Int), v])) fun σ2 H2 => tb { D with nx := Pv (i + 1), ct := Pv (i + 1), bk := D.nx } σ2 H2) (hd : ∀ σ H, Pv xs.length σ H → D.nx σ H) :
    ∃ W : Nat → Nat → St → Hp → Prop, (∃ m, W 0 m σ H) ∧ ∀ i m σ H, W i m σ H →
      ((Iten a).stop i H ∧ D.nx σ H) ∨ ((Iten a).go i H ∧ ∃ N : St → Hp → Prop, (∀ σ' H', N σ' H' → ∃ m', m' < m ∧ W (i + 1) m' σ' H') ∧ ∀ x H', (Iten a).yld i H x H' → g x σ H' fun σ2 H2 => tb { D with nx := N, ct := N, bk := D.nx } σ2 H2) := by
  refine ⟨fun i m σ H => m = xs.length - i ∧ i ≤ xs.length ∧ Pv i σ H, ⟨xs.length, by simp, Nat.zero_le _, h0⟩, ?_⟩
  rintro i m σ H ⟨rfl, hi, p⟩
  have qa := hl i σ H hi p
  by_cases hlt : i < xs.length
  · refine .inr ⟨⟨xs, qa, hlt⟩, Pv (i + 1), fun σ' H' p' => ⟨xs.length - (i + 1), by omega, rfl, hlt, p'⟩, fun x H' y => ?_⟩
    obtain ⟨xs', v, q, ea, ev, hq, e1, e2⟩ := y
    rw [qa] at ea
    have e3 : xs = xs' := HO.lst.inj (Option.some.inj ea)
    subst e3 e1 e2
    exact hs i v q σ H ev hq p
  · have e : i = xs.length := by omega
    subst e
    exact .inl ⟨⟨xs, qa, Nat.le_refl _⟩, hd σ H p⟩
end L2

namespace L2
open PySem PySem.Spec PyProof.Rows
/-! ### sum of a list of small numbers -/
theorem preSum_take {ns : List Int} : ∀ j, j ≤ ns.length → preSum (fun i => ns.getD i 0) j = (ns.take j).sum
  | 0, _ => by simp [preSum]
  | j + 1, h => by
    rw [show preSum (fun i => ns.getD i 0) (j + 1) = preSum (fun i => ns.getD i 0) j + ns.getD j 0 from rfl, preSum_take j (by omega), List.take_succ]
    have : ns[j]? = some (ns.getD j 0) := by
      rw [List.getD_eq_getElem?_getD]
      cases q : ns[j]? with
      | none => rw [List.getElem?_eq_none_iff] at q; omega
      | some v => rfl
    rw [this, List.sum_append]; simp
section
variable {X : Cx}
variable {e : Expr} {te : TE} {p pos : Pos}
end
end L2

namespace L2
open PySem PySem.Spec PyProof.Rows
/-! ### list of a text -/
theorem vals_of_get : ∀ {xs : List V} {us : List Value}, xs.length = us.length → (∀ (i : Nat) (x : V) (u : Value), xs[i]? = some x → us[i]? = some u → RelV x u) → Vals xs us
  | [], [], _, _ => .nil
  | [], _ :: _, h, _ => by simp at h
  | _ :: _, [], h, _ => by simp at h
  | x :: xs, u :: us, h, g => .cons (g 0 x u rfl rfl) (vals_of_get (by simpa using h) fun i x' u' a b => g (i + 1) x' u' (by simpa using a) (by simpa using b))
section
variable {X : Cx} {e : Expr} {te : TE} {p pos : Pos}
theorem call_listS (hc : X.calm = true) : CallR X (.type "list") (fun xs H Q => ∃ z : Str, xs = [.str z] ∧ z.length ≤ sizeLine ∧ ∀ l, H l = none → Q (.ref l) (upd H l (.lst (z.cps.toList.map sg)))) := by
  intro pins s σ H xs us Q I r h
  obtain ⟨z, rfl, hz, q⟩ := h
  obtain ⟨u, rfl, rx⟩ := vals1 r
  obtain ⟨t, rfl⟩ := rx
  refine call_list_str (hn := hz) (I.ok.hd hc) z t fun h' tk acc c k hl hit => ?_
  refine ⟨.ref _, _, I.laid (t' := tk) (o := .lst (z.cps.toList.map sg)) k (Nat.le_refl _) ?_, rfl, q _ (I.hok.fresh (Nat.le_refl _))⟩
  obtain ⟨hsz, hat⟩ := hit
  refine ⟨by rw [List.length_map]; simpa [Str.length] using hz, acc.toList, c, ?_, by simpa using hl⟩
  refine vals_of_get (by rw [List.length_map]; simp [hsz]) fun i x u hx hu => ?_
  have hu' : acc[i]? = some u := by simpa using hu
  obtain ⟨c', t', h1, rfl⟩ := hat i u hu'
  rw [List.getElem?_map] at hx
  have : z.cps.toList[i]? = some c' := by simpa using h1
  rw [this] at hx
  have e : sg c' = x := Option.some.inj hx
  subst e
  exact ⟨t', rfl⟩
def tListS (te : TE) : TE := fun σ H Q => te σ H fun x H1 => ∃ z : Str, x = .str z ∧ z.length ≤ sizeLine ∧ ∀ l, H1 l = none → Q (.ref l) (upd H1 l (.lst (z.cps.toList.map sg)))
theorem pe_listS (hc : X.calm = true) (hm : X.mg "list" = none) (ha : PE X e te) (hg : Gl X "list" := by rfl) (he : starEach [e] X.env = [(false, eval e X.env)] := by rfl) : PE X (.Call (.Name "list" p) [e] [] pos) (tListS te) :=
  pe_callTy (r := r1 fun x H Q => ∃ z : Str, x = .str z ∧ z.length ≤ sizeLine ∧ ∀ l, H l = none → Q (.ref l) (upd H l (.lst (z.cps.toList.map sg)))) (callR1 fun pins s σ H x us Q I rv ⟨z, ex, h, q⟩ => call_listS hc pins s σ H _ us Q I rv ⟨z, by rw [ex], h, q⟩) hg hm bt_list (pa_cons ha pa_nil (by exact he)) (he := by exact he)
end
end L2

namespace L2
open PySem PySem.Spec PyProof.Rows
/-! ### a comprehension with several names -/
/-- what is asked of a comprehension's block: sc its names, outer the names around it, M the outer names that it may see (others hidden), x its own -/
def compOK2 (outer sc : Scope) (xs : List Str) (M N : List Str) : Bool :=
  decide (sc.kind = .function) && sc.names.all (fun y => decide (y.2 ≠ .cell)) && sc.names.all (fun y => decide (y.2 = .local → sc.names.lookup y.1 = some .local)) && xs.all (fun x => decide (sc.names.lookup x = some .local)) &&
  sc.names.all (fun y => decide (y.2 = .free → (outer.names.lookup y.1 = some .cell ∨ outer.names.lookup y.1 = some .free))) &&
  decide ((M ++ xs).Nodup) && decide (M.length = N.length) && (M.zip N).all (fun p => decide (p.1 = p.2 ∨ sc.names.lookup p.1 = none)) && M.all (fun y => decide (sc.names.lookup y ≠ some .local))

structure CompOK2 (outer sc : Scope) (xs : List Str) (M N : List Str) : Prop where
  kind : sc.kind = .function
  nocell : ∀ y ∈ sc.names, y.2 ≠ .cell
  loc : ∀ y ∈ sc.names, y.2 = .local → sc.names.lookup y.1 = some .local
  own : ∀ x ∈ xs, sc.names.lookup x = some .local
  free : ∀ y ∈ sc.names, y.2 = .free → (outer.names.lookup y.1 = some .cell ∨ outer.names.lookup y.1 = some .free)
  nd : (M ++ xs).Nodup
  len : M.length = N.length
  same : ∀ p ∈ M.zip N, p.1 = p.2 ∨ sc.names.lookup p.1 = none
  noloc : ∀ y ∈ M, sc.names.lookup y ≠ some .local
theorem compOK2_of {outer sc : Scope} {xs M N : List Str} (h : compOK2 outer sc xs M N = true) : CompOK2 outer sc xs M N := by
  unfold compOK2 at h
  simp only [Bool.and_eq_true, decide_eq_true_eq, List.all_eq_true] at h
  obtain ⟨⟨⟨⟨⟨⟨⟨⟨h1, h2⟩, h3⟩, h4⟩, h5⟩, h6⟩, h7⟩, h8⟩, h9⟩ := h
  exact ⟨h1, h2, h3, h4, h5, h6, h7, h8, h9⟩

section
variable {X : Cx} {pins : List (Addr × Obj)} {σ : St} {H2 : Hp} {s2 : Shared} {scope : Scope} {xs M : List Str} {cl : List (Str × Addr)} {fp : List Addr} {h1 : Heap} {t' : Nat}

/-- the block's entry -/
theorem Inv.comp2 (I : Inv X pins σ H2 s2) (K : CompOK2 X.env.scope scope xs M X.N) (hcl : ∀ y c, cl.lookup y = some c → X.env.cells.lookup y = some c) (hcf : ∀ y, (y, NameKind.free) ∈ scope.names → ∃ c, cl.lookup y = some c)
    (hfp : ∀ b ∈ fp, FpOk X pins H2 b) (hlt : ∀ b ∈ fp, b < s2.heap.objs.size) (kp : ∀ b o, s2.heap.get? b = some o → h1.get? b = some o) (hD : h1.get? s2.heap.objs.size = some { cls := .type "list", dict := none, data := .seq ([] : List Value).toArray })
    (hC : h1.Ns (s2.heap.objs.size + 1) (fun _ => none)) :
    Inv (X.comp (M ++ xs) scope ⟨cl, s2.heap.objs.size + 1, s2, H2, fp⟩) [] (σ ++ List.replicate xs.length none) (upd H2 s2.heap.objs.size (.lst [])) { s2 with heap := h1, toks := t' } := by
  have cellLt : ∀ y c, cl.lookup y = some c → c < s2.heap.objs.size := fun y c e => by
    obtain ⟨v, z⟩ := I.cell y c (hcl y c e)
    exact z.lt
  have kindEq : ∀ y k', (compEnvC scope cl (s2.heap.objs.size + 1) X.env).kindOf y = some k' → ∃ k, scope.names.lookup y = some k ∧ (k' = k ∨ (k = .free ∧ k' = .cell)) := fun y k' e => lookup_relabel e
  have freeOf : ∀ y k', (compEnvC scope cl (s2.heap.objs.size + 1) X.env).kindOf y = some k' → (k' = .cell ∨ k' = .free) → (y, NameKind.free) ∈ scope.names := fun y k' e hk => by
    obtain ⟨k, e1, e2⟩ := kindEq y k' e
    have mem := PySem.mem_of_lookup e1
    have : k = .free := by
      rcases e2 with rfl | ⟨rfl, _⟩
      · rcases hk with rfl | rfl
        · exact absurd rfl (K.nocell _ mem)
        · rfl
      · rfl
    subst this
    exact mem
  have hDn : H2 s2.heap.objs.size = none := I.hok.fresh (Nat.le_refl _)
  refine ⟨⟨I.ok.mod, K.kind, I.ok.glob, I.ok.blt, Nat.le_succ _, fun y z c e1 e2 => I.ok.inj y z c (hcl y c e1) (hcl z c e2), fun y hy => ?_, fun y c hf _ => ?_, I.ok.hd, I.ok.frames, .inl rfl, fun b hb => ⟨Nat.ne_of_lt (Nat.lt_succ_of_lt (hlt b hb)), fun y c e => (hfp b hb).2.2.2.2.1 y c (hcl y c e)⟩,
    fun b o e => I.bs b o e, Nat.le_trans I.ok.bsz I.sz, fun b o e hb => ?_, fun b hb hf => ?_, I.stack, I.stkFree⟩, rfl, I.bare, Un.laid kp (Nat.le_refl _) hDn, ⟨_, hC, fun i y v e1 e2 e3 => ?_⟩, fun y c e => ?_, ?_, fun y c e => ?_, fun p hp => absurd (show p ∈ ([] : List (Addr × Obj)) from hp) (by simp), I.hok.laid kp (Nat.le_refl _) ?_, ?_⟩
  · rcases hy with hy | hy
    · exact hcf y (freeOf y _ hy (.inl rfl))
    · exact hcf y (freeOf y _ hy (.inr rfl))
  · exact absurd (show false = true from hf) Bool.false_ne_true
  · obtain ⟨f0, f1, f2, f3, f4, f5⟩ := hfp b hb
    rcases f3 with z | z
    · exact I.ok.noex b o e z
    · exact absurd (Nat.lt_of_lt_of_le (Heap.lt_size (I.ok.bs b o e).1) z) (Nat.lt_irrefl _)
  · obtain ⟨f0, f1, f2, f3, f4, f5⟩ := hfp b hb
    rcases List.mem_cons.mp (I.stkSub b hf) with z | z
    · exact f1 z
    · exact f2 z
  · -- names
    have hi : i < σ.length := by
      by_cases hi : i < σ.length
      · exact hi
      · have hz : (σ ++ List.replicate xs.length none)[i]? = some (some v) := e2
        rw [List.getElem?_append_right (by omega)] at hz
        rw [List.getElem?_replicate] at hz
        split at hz <;> cases hz
    have e2' : σ[i]? = some (some v) := by
      have hz : (σ ++ List.replicate xs.length none)[i]? = some (some v) := e2
      rw [List.getElem?_append_left hi] at hz
      exact hz
    have hiM : i < M.length := by rw [K.len, ← I.len]; exact hi
    have e1' : M[i]? = some y := by
      have hz : (M ++ xs)[i]? = some y := e1
      rw [List.getElem?_append_left hiM] at hz
      exact hz
    have hyM : y ∈ M := List.mem_of_getElem? e1'
    have e3' : ∃ k', (compEnvC scope cl (s2.heap.objs.size + 1) X.env).kindOf y = some k' ∧ (k' = .cell ∨ k' = .free) := by
      rcases e3 with z | z | z
      · obtain ⟨k, a, b⟩ := kindEq y _ z
        rcases b with b | ⟨_, b⟩
        · subst b; exact absurd a (K.noloc y hyM)
        · cases b
      · exact ⟨_, z, .inl rfl⟩
      · exact ⟨_, z, .inr rfl⟩
    obtain ⟨k', ek, hk⟩ := e3'
    have mem := freeOf y k' ek hk
    obtain ⟨k0, a0, _⟩ := kindEq y k' ek
    have hiN : i < X.N.length := by rw [← K.len]; exact hiM
    have eN : X.N[i]? = some y := by
      have hz : (M[i], X.N[i]) ∈ M.zip X.N := by
        rw [List.mem_iff_getElem?]
        exact ⟨i, List.getElem?_zip_eq_some.mpr ⟨List.getElem?_eq_getElem hiM, List.getElem?_eq_getElem hiN⟩⟩
      have eM : M[i] = y := by
        rw [List.getElem?_eq_getElem hiM] at e1'
        exact Option.some.inj e1'
      rcases K.same _ hz with q | q
      · rw [List.getElem?_eq_getElem hiN]
        have q' : M[i] = X.N[i] := q
        rw [← q', eM]
      · have q' : scope.names.lookup M[i] = none := q
        rw [eM, a0] at q'
        cases q'
    have hv := K.free _ mem rfl
    obtain ⟨m, hn, hl⟩ := I.loc
    obtain ⟨u, r, l⟩ := hl i y v eN e2' (hv.elim (fun z => .inr (.inl z)) (fun z => .inr (.inr z)))
    refine ⟨u, r, .inr ⟨?_, ?_⟩⟩
    · rcases hk with rfl | rfl
      · exact .inl ek
      · exact .inr ek
    · obtain ⟨c, ec⟩ := hcf y mem
      refine ⟨c, ec, ?_⟩
      rcases l with ⟨z, _⟩ | ⟨_, c', ec', cc⟩
      · have z' : X.env.scope.names.lookup y = some .local := z
        rcases hv with q | q <;> (rw [z'] at q; cases q)
      · have := (hcl y c ec).symm.trans ec'
        cases this
        obtain ⟨o, ho, hd⟩ := cc
        exact ⟨o, kp _ o ho, hd⟩
  · obtain ⟨v, o, ho, hd⟩ := I.cell y c (hcl y c e)
    exact ⟨v, o, kp _ o ho, hd⟩
  · show upd H2 s2.heap.objs.size (.lst []) (s2.heap.objs.size + 1) = none
    rw [upd_ne (Nat.succ_ne_self _)]
    exact I.hok.fresh (Nat.le_succ _)
  · rw [upd_ne (Nat.ne_of_lt (cellLt y c e))]
    exact I.freeC y c (hcl y c e)
  · exact ⟨Nat.zero_le _, [], _, .nil, hD⟩
  · show (σ ++ List.replicate xs.length none).length = (M ++ xs).length
    simp [I.len, K.len]
end
/-- [elt for (x, y) in iter if ..] -/
def tComp2 (k : Nat) (wi : TI) (g : CB → TG) (tc : CB → TT) (te : CB → TE) : TE := fun σ H Q => wi σ H fun J H1 => ∀ D, H1 D = none → ∀ b : CB, ∃ W : Nat → Nat → List V → Hp → Prop, (∃ m, W 0 m [] (upd H1 D (.lst []))) ∧
  ∀ i m ys H, W i m ys H → (J.stop i H ∧ Q (.ref D) H) ∨ (J.go i H ∧ ys.length < sizeLine ∧ ∃ N : List V → Hp → Prop, (∀ ys' H', N ys' H' → ∃ m', m' < m ∧ W (i + 1) m' ys' H') ∧ ∀ x H', J.yld i H x H' → g b x (σ ++ List.replicate k none) H' fun σ2 H2 => (∀ j, j < σ.length → σ2[j]? = σ[j]?) ∧ tc b σ2 H2 fun ok H3 =>
    if ok = true then te b σ2 H3 fun v H4 => H4 D = some (.lst ys) ∧ N (ys ++ [v]) (upd H4 D (.lst (ys ++ [v]))) else N ys H3)
theorem comp_core2 {X : Cx} {iter elt tg : Expr} {ifs : List Expr} (xs : List Str) {pos pos0 : Pos} {scope : Scope} (M : List Str) {wi : TI} {tc : CB → TT} {te : CB → TE} {g : CB → TG} {use : Option (Value → Sem Unit)} {R : Value → Shared → Prop}
    {pins : List (Addr × Obj)} {s : Shared} {σ : St} {H : Hp} {Q : VK} (I : Inv X pins σ H s) (h : tComp2 xs.length wi g tc te σ H Q)
    (hfin : ∀ (D C : Addr) (m : Str → Option Value) (s' : Shared) (H' : Hp), s'.heap.Ns C m → FpOk X pins H' C → (∀ h', Heap.SameBut C s'.heap h' → Inv X pins σ H' { s' with heap := h' }) → Q (.ref D) H' → compPost (model X.prog X.w) X.A X.xe use R (.ref D) C (.ok .next) s')
    (hc : X.calm = true) (hi : PI X tg iter wi) (hg : ∀ b : CB, PG (X.comp (M ++ xs) scope b) tg (g b))
    (hif : ∀ b : CB, PIfs (X.comp (M ++ xs) scope b) ifs (tc b)) (he : ∀ b : CB, PE (X.comp (M ++ xs) scope b) elt (te b))
    (ok : compOK2 X.env.scope scope xs M X.N = true := by kernel_rfl)
    (hs : ∀ x, foldedSetIterable iter X.env x = pure x := by intro _; rfl) :
    wpAny (model X.prog X.w) X.A (comprehension (.ListComp elt [⟨tg, iter, ifs, 0⟩] scope pos) scope X.env pos0 (newList []) false (eval iter X.env) use) R X.xe s := by
  have K := compOK2_of ok
  obtain ⟨cl, hclos, hcl, hcf⟩ := closure_ok (env := X.env) (scope := scope) fun y hy hk => I.ok.has y.1 (K.free y hy hk)
  refine wpAny_comprehension_free (use := use) rfl hs hclos K.kind K.loc ?_
  refine thn (hi pins s σ H _ I h) fun v s1 h1 => thn h1 fun itv s2 h2 => ?_
  obtain ⟨it, fp, tn, J, H2, rfl, I2, T, st2, f2, hq⟩ := h2
  refine wpAny_newObj_type (wpAny_newFunctionEnv K.nocell (by intro y hy; simp at hy) (fun h₁ hns₁ hsb₁ => ?_) K.kind)
  dsimp only at hns₁ hsb₁ ⊢
  have hsize : (s2.heap.push { cls := .type "list", dict := none, data := .seq ([] : List Value).toArray }).objs.size = s2.heap.objs.size + 1 := Heap.size_push ..
  rw [hsize] at hns₁ hsb₁
  have ltD : s2.heap.objs.size ≠ s2.heap.objs.size + 1 := Nat.ne_of_lt (Nat.lt_succ_self _)
  have kp : ∀ b o, s2.heap.get? b = some o → h₁.get? b = some o := fun b o e => hsb₁.extBut b o (Nat.ne_of_lt (Nat.lt_succ_of_lt (Heap.lt_size e))) (Heap.get?_push_of_some _ (Heap.get?_push_of_some _ e))
  have hD : h₁.get? s2.heap.objs.size = some { cls := .type "list", dict := none, data := .seq ([] : List Value).toArray } := hsb₁.extBut _ _ ltD (Heap.get?_push_of_some _ (Heap.get?_push_size _ rfl))
  have hlt : ∀ b ∈ fp, b < s2.heap.objs.size := fun b hb => let ⟨o, e, _⟩ := T.obj _ _ st2 b hb; Heap.lt_size e
  have I3 := I2.comp2 (t' := s2.toks + ([] : List (Str × Value)).length) K hcl hcf f2 hlt kp hD hns₁
  obtain ⟨W, ⟨m0, w0⟩, step⟩ := hq s2.heap.objs.size (I2.hok.fresh (Nat.le_refl _)) ⟨cl, s2.heap.objs.size + 1, s2, H2, fp⟩
  have st3 : tn 0 h₁ := T.keep _ _ _ st2 fun b _ o e => kp b o e
  have fr3 : ∀ b ∈ fp, (upd H2 s2.heap.objs.size (.lst [])) b = none := fun b hb => by rw [upd_ne (Nat.ne_of_lt (hlt b hb))]; exact (f2 b hb).1
  -- what the block's end gives
  have fin : ∀ (s' : Shared) (σ' : St) (H' : Hp), Inv (X.comp (M ++ xs) scope ⟨cl, s2.heap.objs.size + 1, s2, H2, fp⟩) [] σ' H' s' → Q (.ref s2.heap.objs.size) H' →
      compPost (model X.prog X.w) X.A X.xe use R (.ref s2.heap.objs.size) (s2.heap.objs.size + 1) (.ok .next) s' := fun s' σ' H' J' q => by
    obtain ⟨m, hn, _⟩ := id J'.loc
    have hC : H' (s2.heap.objs.size + 1) = none := J'.free
    refine hfin _ _ m s' H' hn (I2.fpOk (Nat.le_succ _) hC) (fun h' sb => ?_) q
    exact I2.call' (ch := fp) (show s'.os = s2.os from J'.os) (SameBut.unC J'.base sb (Nat.le_succ _)) (SameBut.hokC J'.hok sb hC) J'.bare fun b hb => by
      obtain ⟨f0, f1, f2', f3, f4, f5⟩ := f2 b hb
      exact ⟨f3, f1, f4, f5⟩
  have stat : ∀ {H' : Hp}, (∀ b ∈ fp, H' b = none) → ∀ b ∈ fp, FpOk (X.comp (M ++ xs) scope ⟨cl, s2.heap.objs.size + 1, s2, H2, fp⟩) [] H' b := fun hn b hb => by
    obtain ⟨f0, f1, f2', f3, f4, f5⟩ := f2 b hb
    refine ⟨hn b hb, Nat.ne_of_lt (Nat.lt_succ_of_lt (hlt b hb)), fun z => ?_, .inl hb, fun y c e => f4 y c (hcl y c e), fun p hp => absurd (show p ∈ ([] : List (Addr × Obj)) from hp) (by simp)⟩
    rcases List.mem_cons.mp (I2.stkSub b z) with z | z
    · exact f1 z
    · exact f2' z
  have len3 : σ.length = M.length := by rw [I.len, K.len]
  have loop : codeAny (model X.prog X.w) X.A (.compLoop (.ListComp elt [⟨tg, iter, ifs, 0⟩] scope pos) 0 (.ref it) (.ref s2.heap.objs.size) (compEnvC scope cl (s2.heap.objs.size + 1) X.env))
      (compPost (model X.prog X.w) X.A X.xe use R (.ref s2.heap.objs.size) (s2.heap.objs.size + 1)) { s2 with heap := h₁, toks := s2.toks + ([] : List (Str × Value)).length } := by
    refine comp_loop (fun n s' => ∃ i ys H', Inv (X.comp (M ++ xs) scope ⟨cl, s2.heap.objs.size + 1, s2, H2, fp⟩) [] (σ ++ List.replicate xs.length none) H' s' ∧ tn i s'.heap ∧ (∀ b ∈ fp, H' b = none) ∧ W i n ys H') ?_ m0 ⟨0, [], _, I3, st3, fr3, w0⟩
    rintro n s4 ⟨i, ys, H4, I4, st4, fr4, w4⟩
    rcases step i n ys H4 w4 with ⟨stop, q⟩ | ⟨go, hz, N, hN, st⟩
    · refine wpAny_mono (T.done (X.comp (M ++ xs) scope ⟨cl, s2.heap.objs.size + 1, s2, H2, fp⟩) rfl rfl rfl hc i [] s4 _ H4 (fun _ _ => False) I4 (stat fr4) st4 stop) (fun r s5 ⟨hr, I5⟩ => ?_) fun _ _ z => z
      subst hr
      exact fin s5 _ H4 I5 q
    · refine wpAny_mono (T.item (X.comp (M ++ xs) scope ⟨cl, s2.heap.objs.size + 1, s2, H2, fp⟩) rfl rfl rfl hc i [] s4 _ H4 (fun _ _ => False) I4 (stat fr4) st4 go) (fun r s5 ⟨u, hr, h5⟩ => ?_) fun _ _ z => z
      subst hr
      refine wpAny_mono h5 (fun _ s6 ⟨xv, H6, I6, r6, y6, st6, fr6⟩ => ?_) fun _ _ z => z
      have I6' := I6.pinned (stat fr6) (T.obj _ _ st6)
      refine wpAny_mono (hg ⟨cl, s2.heap.objs.size + 1, s2, H2, fp⟩ _ s6 _ H6 xv u _ I6' r6 (st xv _ y6)) (fun _ s7 ⟨σ7, H7, I7, ag, q7⟩ => ?_) fun _ _ z => z
      have again : ∀ {ys' : List V} {H8 : Hp} {s8 : Shared} {m : Nat}, Inv (X.comp (M ++ xs) scope ⟨cl, s2.heap.objs.size + 1, s2, H2, fp⟩) ([] ++ pinsAt fp s6.heap) σ7 H8 s8 → m < n → W (i + 1) m ys' H8 →
          ∃ m, m < n ∧ ∃ i ys H', Inv (X.comp (M ++ xs) scope ⟨cl, s2.heap.objs.size + 1, s2, H2, fp⟩) [] (σ ++ List.replicate xs.length none) H' s8 ∧ tn i s8.heap ∧ (∀ b ∈ fp, H' b = none) ∧ W i m ys H' := fun {ys' H8 s8 m} I8 hm w8 => by
        refine ⟨m, hm, i + 1, ys', H8, (I8.unpinned).weak (by rw [List.length_append, List.length_replicate, I8.len]; show _ = (M ++ xs).length; rw [List.length_append, len3]) (fun j v e => ?_), T.keep _ _ _ st6 fun b hb o e => (I8.pin (b, o) (List.mem_append_right _ (List.mem_append_right _ (mem_pinsAt hb e)))).1, fun b hb => ?_, w8⟩
        · by_cases hj : j < σ.length
          · rw [List.getElem?_append_left hj] at e
            rw [ag j hj]; exact e
          · rw [List.getElem?_append_right (by omega), List.getElem?_replicate] at e
            split at e <;> cases e
        · obtain ⟨o, e, d⟩ := T.obj _ _ st6 b hb
          exact (I8.pin (b, o) (List.mem_append_right _ (List.mem_append_right _ (mem_pinsAt hb e)))).2.1
      refine wpAny_mono (hif ⟨cl, s2.heap.objs.size + 1, s2, H2, fp⟩ _ s7 _ _ _ I7 q7) (fun ok s8 ⟨H8, I8, q8⟩ => ?_) fun _ _ z => z
      cases ok with
      | false =>
        rw [if_neg Bool.false_ne_true] at q8
        obtain ⟨m, hm, w8⟩ := hN _ _ q8
        exact again I8 hm w8
      | true =>
        rw [if_pos rfl] at q8
        refine wpAny_mono (he ⟨cl, s2.heap.objs.size + 1, s2, H2, fp⟩ _ s8 _ H8 _ I8 q8) (fun xu s9 ⟨v9, H9, I9, r9, hD9, n9⟩ => ?_) fun _ _ z => z
        obtain ⟨m, hm, w9⟩ := hN _ _ n9
        exact wpAny_mono (append_call (X := X.comp (M ++ xs) scope ⟨cl, s2.heap.objs.size + 1, s2, H2, fp⟩) I9 hD9 hz r9) (fun _ s10 I10 => again I10 hm w9) fun _ _ z => z
  rw [hsize]
  exact codeAny_compStart_list loop (T.self X.A 0 _ _ _ st3 loop)


theorem pe_comp2 {X : Cx} {iter elt tg : Expr} {ifs : List Expr} (xs : List Str) {pos : Pos} {scope : Scope} (M : List Str) {wi : TI} {tc : CB → TT} {te : CB → TE} {g : CB → TG}
    (hc : X.calm = true) (hi : PI X tg iter wi) (hg : ∀ b : CB, PG (X.comp (M ++ xs) scope b) tg (g b))
    (hif : ∀ b : CB, PIfs (X.comp (M ++ xs) scope b) ifs (tc b)) (he : ∀ b : CB, PE (X.comp (M ++ xs) scope b) elt (te b))
    (ok : compOK2 X.env.scope scope xs M X.N = true := by kernel_rfl)
    (hs : ∀ x, foldedSetIterable iter X.env x = pure x := by intro _; rfl) :
    PE X (.ListComp elt [⟨tg, iter, ifs, 0⟩] scope pos) (tComp2 xs.length wi g tc te) := by
  intro pins s σ H Q I h
  rw [eval_ListComp]
  exact comp_core2 xs M (use := none) (R := EP X pins σ Q) I h (fun D C m s' H' hn _ hI q => ⟨m, hn, fun h' sb => ⟨.ref D, H', hI h' sb, rfl, q⟩⟩) hc hi hg hif he ok hs
/-! ### isinstance with a row of built-in classes -/
inductive TyB (H : Hp) : V → Value → Prop where
  | non : TyB H .non (.type "NoneType")
  | bl (x : Bool) : TyB H (.bl x) (.type "bool")
  | int (i : Int) : TyB H (.int i) (.type "int")
  | str (x : Str) : TyB H (.str x) (.type "str")
  | lst {a : Addr} {xs : List V} (e : H a = some (.lst xs)) : TyB H (.ref a) (.type "list")
  | tup {a : Addr} {xs : List V} (e : H a = some (.tup xs)) : TyB H (.ref a) (.type "tuple")
section
variable {X : Cx} {e : Expr} {te : TE} {p pos : Pos}
end
/-! ### the walk of a comprehension over zip -/
theorem comp_zip {a b : Addr} {xs ys : List V} {k : Nat} {g : TG} {tc : TT} {te : TE} {σ : St} {H1 : Hp} {Q : Hp → Prop} {D : Addr} (Pv : Nat → List V → Hp → Prop) (hn : xs.length < sizeLine) (h0 : Pv 0 [] (upd H1 D (.lst [])))
    (hl : ∀ i ys' H, Pv i ys' H → ys'.length ≤ i) (hq : ∀ i ys' H, i ≤ min xs.length ys.length → Pv i ys' H → H a = some (.lst xs) ∧ H b = some (.lst ys))
    (hs : ∀ i u v p ys' H, xs[i]? = some u → ys[i]? = some v → H p = none → Pv i ys' H → g (.ref p) (σ ++ List.replicate k none) (upd H p (.tup [u, v])) fun σ2 H2 => (∀ j, j < σ.length → σ2[j]? = σ[j]?) ∧ tc σ2 H2 fun ok H3 => if ok = true then te σ2 H3 fun v H4 => H4 D = some (.lst ys') ∧ Pv (i + 1) (ys' ++ [v]) (upd H4 D (.lst (ys' ++ [v]))) else Pv (i + 1) ys' H3)
    (hd : ∀ ys' H, Pv (min xs.length ys.length) ys' H → Q H) :
    ∃ W : Nat → Nat → List V → Hp → Prop, (∃ m, W 0 m [] (upd H1 D (.lst []))) ∧
      ∀ i m ys' H, W i m ys' H → ((Itz a b).stop i H ∧ Q H) ∨ ((Itz a b).go i H ∧ ys'.length < sizeLine ∧ ∃ N : List V → Hp → Prop, (∀ ys'' H', N ys'' H' → ∃ m', m' < m ∧ W (i + 1) m' ys'' H') ∧ ∀ x H', (Itz a b).yld i H x H' → g x (σ ++ List.replicate k none) H' fun σ2 H2 => (∀ j, j < σ.length → σ2[j]? = σ[j]?) ∧ tc σ2 H2 fun ok H3 =>
        if ok = true then te σ2 H3 fun v H4 => H4 D = some (.lst ys') ∧ N (ys' ++ [v]) (upd H4 D (.lst (ys' ++ [v]))) else N ys' H3) := by
  refine ⟨fun i m ys' H => m = min xs.length ys.length - i ∧ i ≤ min xs.length ys.length ∧ Pv i ys' H, ⟨min xs.length ys.length, by simp, Nat.zero_le _, h0⟩, ?_⟩
  rintro i m ys' H ⟨rfl, hi, p⟩
  obtain ⟨qa, qb⟩ := hq i ys' H hi p
  by_cases hlt : i < min xs.length ys.length
  · refine .inr ⟨⟨xs, ys, qa, qb, by omega, by omega⟩, by have := hl i ys' H p; omega, Pv (i + 1), fun ys'' H' p' => ⟨min xs.length ys.length - (i + 1), by omega, rfl, hlt, p'⟩, fun x H' y => ?_⟩
    obtain ⟨xs', ys2, u, v, q, ea, eb, eu, ev, hq', e1, e2⟩ := y
    rw [qa] at ea
    rw [qb] at eb
    have e3 : xs = xs' := HO.lst.inj (Option.some.inj ea)
    have e4 : ys = ys2 := HO.lst.inj (Option.some.inj eb)
    subst e3 e4 e1 e2
    exact hs i u v q ys' H eu ev hq' p
  · have e : i = min xs.length ys.length := by omega
    subst e
    exact .inl ⟨⟨xs, ys, qa, qb, by omega⟩, hd ys' H p⟩
end L2

namespace L2
open PySem PySem.Spec PyProof.Rows
/-! ### exceptions: how one lies behind a call -/
def CXx (P : Program) (w : World) : CXT := fun outer H s E e s' =>
  ∃ (a : Addr) (cls a0 : Value) (B : Heap) (H' : Hp), e = .ref a ∧ s'.os = s.os ∧ AllBare s'.gens ∧ Un (frs outer) [] H H' s.heap s'.heap ∧ HOk P w H' s'.heap ∧ H' a = none ∧ s.heap.get? a = none ∧
    Heap.FlyingW B outer a cls a0 s'.heap ∧ (∀ b o, s'.heap.get? b = some o → b ∉ frs outer → (s.heap.get? b ≠ none ∨ H' b ≠ none) → B.get? b = some o) ∧ E cls none H'
theorem frames_move {h h' base base' : Heap} : ∀ {l : List Env}, (∀ L ∈ frs l, base'.get? L = none ∧ ∀ o, h.get? L = some o → (∀ vs, o.data ≠ .fields vs) → ∃ o', h'.get? L = some o' ∧ o'.data = o.data) → h.FunFrames base l → h'.FunFrames base' l
  | [], _, _ => trivial
  | env :: r, k, ⟨h1, ⟨L, o, h2, h3, h4, h5⟩, h6⟩ => by
    have hL : L ∈ frs (env :: r) := List.mem_filterMap.mpr ⟨env, List.mem_cons_self, h2⟩
    obtain ⟨k1, k2⟩ := k L hL
    obtain ⟨o', e1, e2⟩ := k2 o h4 h5
    refine ⟨h1, ⟨L, o', h2, k1, e1, fun vs => by rw [e2]; exact h5 vs⟩, frames_move (fun L' hL' => k L' ?_) h6⟩
    obtain ⟨en, e3, e4⟩ := List.mem_filterMap.mp hL'
    exact List.mem_filterMap.mpr ⟨en, List.mem_cons_of_mem _ e3, e4⟩
theorem frames_data {h base : Heap} : ∀ {l : List Env}, h.FunFrames base l → ∀ L ∈ frs l, ∃ o, h.get? L = some o ∧ ∀ vs, o.data ≠ .fields vs
  | [], _, L, hL => by cases hL
  | env :: r, ⟨h1, ⟨L', o, h2, h3, h4, h5⟩, h6⟩, L, hL => by
    obtain ⟨en, e3, e4⟩ := List.mem_filterMap.mp hL
    rcases List.mem_cons.mp e3 with z | z
    · subst z
      have : L = L' := Option.some.inj (e4.symm.trans h2)
      subst this
      exact ⟨o, h4, h5⟩
    · exact frames_data h6 L (List.mem_filterMap.mpr ⟨en, z, e4⟩)
theorem ObjOk.isAt {P : Program} {w : World} {H : Hp} {h : Heap} {a : Addr} {o : HO} (x : ObjOk P w H h a o) : ∃ ob, h.get? a = some ob := by
  cases o with
  | lst xs => obtain ⟨_, _, _, _, q⟩ := x; exact ⟨_, q⟩
  | tup xs => obtain ⟨_, _, _, ob, q, _⟩ := x; exact ⟨_, q⟩
  | dK kvs => obtain ⟨_, _, _, _, ob, _, _, q, _⟩ := x; exact ⟨_, q⟩
  | dT kvs => obtain ⟨_, _, _, _, ob, _, _, q, _⟩ := x; exact ⟨_, q⟩
  | set S n => obtain ⟨ob, _, _, _, q, _⟩ := x; exact ⟨_, q⟩
  | ins C dx fs => obtain ⟨_, _, _, q, _⟩ := x; exact ⟨_, q⟩
  | own y => obtain ⟨_, q⟩ := x; exact ⟨_, q⟩
  | xd fs => obtain ⟨_, ⟨_, _, _, q, _⟩, _⟩ := x; exact ⟨_, q⟩
  | rng lo hi => obtain ⟨_, _, _, q⟩ := x; exact ⟨_, q⟩
  | frz ob u => obtain ⟨q, _⟩ := x; exact ⟨_, q⟩
  | tbl ps => exact ⟨_, (show h.get? a = some _ from x)⟩
  | met f y => exact ⟨_, (show h.get? a = some _ from x)⟩
  | ext φ => obtain ⟨_, ⟨_, q⟩, _⟩ := x; exact ⟨_, q⟩
theorem objOk_none {P : Program} {w : World} {H : Hp} {h : Heap} (x : HOk P w H h) {a : Addr} (e : h.get? a = none) : H a = none := by
  cases q : H a with
  | none => rfl
  | some o =>
    obtain ⟨ob, q'⟩ := (x a o q).isAt
    rw [e] at q'; cases q'
section
variable {X : Cx} {pins : List (Addr × Obj)} {σ : St} {H1 : Hp} {s1 : Shared}
/-- the frames behind a state of a body -/
theorem Inv.fsAt (I : Inv X pins σ H1 s1) : ∀ L ∈ X.fs, ∃ o, s1.heap.get? L = some o ∧ (∀ vs, o.data ≠ .fields vs) ∧ H1 L = none ∧ X.base.get? L = none := fun L hL => by
  obtain ⟨o, h1, h2⟩ := frames_data I.ok.funs L hL
  have hx : L ∉ X.ex := fun z => I.ok.exfs L z hL
  obtain ⟨sl, e⟩ := I.base.slot L o h1 (I.ok.frf L hL) hL hx
  exact ⟨_, e, h2, I.base.free L o h1 (I.ok.frf L hL) hx, (I.ok.funs.mem hL).1⟩
/-- an exception that was made in a body leaves it -/
theorem leave_made {A : Around} {outer : List Env} {s : Shared} {H : Hp} {E : XK} {env : Env} {P : Program} {w : World} {e : Addr} {cls : Value} {args : List Value} {h2 : Heap} {tk : Nat} (hX : X.A = A.deeper env ∧ X.env = env ∧ X.stack = env :: outer ∧ X.outer = outer ∧ X.s₀ = s ∧ X.H₀ = H ∧ X.ex = [] ∧ X.prog = P ∧ X.w = w) (hfr : env.frame = some env.locals)
    (I : Inv X pins σ H1 s1) (hx : Heap.MadeExcOf s1.heap h2 e cls args) (hE : E cls none H1) :
    wpAny (model P w) (A.deeper env) (leaving env (.ref e)) (fun _ s'' => CXx P w outer H s E (.ref e) s'') (fun e' s'' => CXx P w outer H s E e' s'') { s1 with heap := h2, toks := tk } := by
  obtain ⟨xA, xe, xs, xo, x0, xH, xx, xP, xw⟩ := hX
  subst xe xP xw x0 xH xo
  have hlt := I.lt
  have hL : ∀ L ∈ frs (X.env :: X.outer), ∃ o, s1.heap.get? L = some o ∧ (∀ vs, o.data ≠ .fields vs) ∧ H1 L = none := fun L hm => by
    obtain ⟨en, e3, e4⟩ := List.mem_filterMap.mp hm
    rcases List.mem_cons.mp e3 with z | z
    · subst z
      have : L = X.env.locals := Option.some.inj (e4.symm.trans hfr)
      subst this
      obtain ⟨m, hn, _⟩ := I.loc
      obtain ⟨o, es, ep, ho, hd, _⟩ := id hn
      exact ⟨o, ho, (fun vs q => by rw [hd] at q; cases q), I.free⟩
    · obtain ⟨o, h1, h2, h3, _⟩ := I.fsAt L (List.mem_filterMap.mpr ⟨en, z, e4⟩)
      exact ⟨o, h1, h2, h3⟩
  have trk : ∀ b u, H1 b = some u → b ∉ frs (X.env :: X.outer) := fun b u e hm => by
    obtain ⟨_, _, _, h3⟩ := hL b hm
    rw [h3] at e; cases e
  have old : ∀ b o, X.s₀.heap.get? b = some o → b ≠ X.env.locals := fun b o q z => by
    have := Nat.lt_of_lt_of_le (Heap.lt_size q) I.ok.above
    rw [z] at this; exact absurd this (Nat.lt_irrefl _)
  have nin : ∀ b, b ≠ X.env.locals → b ∉ frs X.outer → b ∉ frs (X.env :: X.outer) := fun b h1 h2 hm => by
    obtain ⟨en, e3, e4⟩ := List.mem_filterMap.mp hm
    rcases List.mem_cons.mp e3 with z | z
    · subst z
      exact h1 (Option.some.inj (e4.symm.trans hfr))
    · exact h2 (List.mem_filterMap.mpr ⟨en, z, e4⟩)
  refine wpAny_leaves_madeW (base := PySem.W.hideAll s1.heap (frs (X.env :: X.outer))) (h := s1.heap) (by rw [← xA, I.ok.frames, xs]) hfr (fun b o q => PySem.W.of_hideAll _ q) ?_ hx fun h' t f1 f2 f3 f4 => ?_
  · have F : s1.heap.FunFrames X.base X.outer := I.funs
    have F' : s1.heap.FunFrames (PySem.W.hideAll s1.heap (frs (X.env :: X.outer))) X.outer := frames_move (fun L hm => ⟨PySem.W.hideAll_none _ (by
      obtain ⟨en, e3, e4⟩ := List.mem_filterMap.mp hm
      exact List.mem_filterMap.mpr ⟨en, List.mem_cons_of_mem _ e3, e4⟩), fun o q _ => ⟨o, q, rfl⟩⟩) F
    obtain ⟨o, ho, hd, _⟩ := hL X.env.locals (List.mem_filterMap.mpr ⟨X.env, List.mem_cons_self, hfr⟩)
    exact ⟨by rw [I.ok.kind]; decide, ⟨X.env.locals, o, hfr, PySem.W.hideAll_none _ (List.mem_filterMap.mpr ⟨X.env, List.mem_cons_self, hfr⟩), ho, hd⟩, F'⟩
  · have st : ∀ b o, s1.heap.get? b = some o → b ∉ frs (X.env :: X.outer) → h'.get? b = some o := fun b o q n => f1.1 b o (PySem.W.hideAll_get _ q n)
    have sl : ∀ b o, s1.heap.get? b = some o → (∀ vs, o.data ≠ .fields vs) → ∃ z, h'.get? b = some { o with slots := z } := fun b o q n => f4 b o (hx.keeps b o q) n
    have isAt : ∀ b u, H1 b = some u → ∃ o, s1.heap.get? b = some o := fun b u q => by
      cases q' : s1.heap.get? b with
      | some o => exact ⟨o, rfl⟩
      | none => exact absurd q (by rw [objOk_none I.hok q']; simp)
    have eNew : H1 e = none := objOk_none I.hok hx.new
    refine ⟨e, cls, .ref t, PySem.W.hideAll s1.heap (frs (X.env :: X.outer)), H1, rfl, I.os, I.bare, ⟨fun b o q n hb _ => ?_, fun b o q n hb _ => ?_, fun b o q n _ => I.base.free b o q n (by rw [xx]; simp), fun b o q _ => ?_, I.base.tups, I.base.frzs, I.base.tbls⟩, fun b u q => ?_, eNew, ?_, f1, ?_, hE⟩
    · exact st b o (I.base.keep b o q n hb (by rw [xx]; simp)) (nin b (old b o q) hb)
    · obtain ⟨z, q'⟩ := I.base.slot b o q n hb (by rw [xx]; simp)
      obtain ⟨o', q2, q3⟩ := frames_data I.ok.funs b hb
      rw [q] at q2; cases q2
      obtain ⟨z', q4⟩ := sl b _ q' q3
      exact ⟨z', q4⟩
    · obtain ⟨o', q'⟩ := I.base.there b o q (by rw [xx]; simp)
      by_cases hb : b ∈ frs X.outer
      · obtain ⟨o2, h1, h2, _⟩ := I.fsAt b hb
        obtain ⟨z, q4⟩ := sl b o2 h1 h2
        exact ⟨_, q4⟩
      · exact ⟨o', st b o' q' (nin b (old b o q) hb)⟩
    · refine (I.hok b u q).stay (fun c v hc q' => st c v q' ?_) (fun _ q' => q') fun _ _ q' => q'
      rcases hc with z | z
      · rw [z]; exact trk b u q
      · exact trk c _ z
    · cases q : X.s₀.heap.get? e with
      | none => rfl
      | some o =>
        obtain ⟨o', q'⟩ := I.base.there e o q (by rw [xx]; simp)
        rw [hx.new] at q'; cases q'
    · intro b o q hb hor
      have ex : ∃ o1, s1.heap.get? b = some o1 ∧ b ∉ frs (X.env :: X.outer) := by
        rcases hor with z | z
        · cases q0 : X.s₀.heap.get? b with
          | none => exact absurd q0 z
          | some o0 =>
            obtain ⟨o1, q1⟩ := I.base.there b o0 q0 (by rw [xx]; simp)
            exact ⟨o1, q1, nin b (old b o0 q0) hb⟩
        · cases q0 : H1 b with
          | none => exact absurd q0 z
          | some u =>
            obtain ⟨o1, q1⟩ := isAt b u q0
            exact ⟨o1, q1, trk b u q0⟩
      obtain ⟨o1, q1, nb⟩ := ex
      have := st b o1 q1 nb
      rw [q] at this; cases this
      exact PySem.W.hideAll_get _ q1 nb
end
/-! ### own classes under ValueError, raised -/
abbrev mroV : List Value := [.type "ValueError", .type "Exception", .type "BaseException", .type "object"]
/-- what the top has written of such a class -/
structure Exc (K : PySem.W.Frag) (mg : Str → Option Value) (x : Str) (C : Addr) : Prop where
  bound : mg x = some (.ref C)
  isIn : PySem.W.excIn K C mroV "ValueError.__new__" = true
theorem exc_obj {K : PySem.W.Frag} {C : Addr} (q : PySem.W.excIn K C mroV "ValueError.__new__" = true) (h : Heap) (X : K.In h) :
    ∃ bm N nm qn bs hdct sn sub ab col dd k0 k1 k2 k3 k5 mN, h.get? C = some (excClassObj nm qn C N bs bm hdct sn sub ab col dd k0 k1 k2 k3 k5 "ValueError.__new__") ∧ h.Ns N mN ∧ mN "__init__" = none ∧ OwnTail h mroV bm := by
  unfold PySem.W.excIn at q
  split at q
  case h_2 => cases q
  case h_1 dd cd sl ho =>
    split at q
    case h_2 => cases q
    case h_1 C' bm k0 k1 k2 k3 n k5 hm hs =>
      simp only [Bool.and_eq_true, beq_iff_eq, Bool.not_eq_true'] at q
      obtain ⟨⟨⟨⟨⟨e1, e2⟩, hdel⟩, ht⟩, hok⟩, hni⟩ := q
      subst e1 e2
      obtain ⟨nm, bs, mro, nsA, qn, hd, sn, sub, ab, col, del⟩ := cd
      have hm' : mro = .ref C' :: bm := hm
      have hdel' : del = false := hdel
      subst hm' hdel'
      have esl : sl = #[k0, k1, k2, k3, some (.builtin "ValueError.__new__"), k5] := by
        cases sl with
        | mk l => exact congrArg Array.mk hs
      subst esl
      exact ⟨bm, nsA, nm, qn, bs, hd, sn, sub, ab, col, dd, k0, k1, k2, k3, k5, _, X _ _ ho, .of_isNs (PySem.W.isNs_of_in X hok), PySem.W.nsMap_none_of_in X hok hni, PySem.W.tail_of_in X ht⟩
/-- raise C("..") in a def's body -/
theorem ps_raise {P : Program} {w : World} {K : PySem.W.Frag} {mg : Str → Option Value} {base : Heap} {N : List Str} {qual : Str} {scope : Scope} {f : Addr} {cd : Value} {A : Around} {outer : List Env} {s : Shared} {H : Hp} {E : XK}
    {x : Str} {C : Addr} {np cpos pos : Pos} {e0 : Expr} {te : TE} (O : Exc K mg x C) (he : PE (cxOf (CXx P w) P w K mg base N qual scope f cd A outer s H E) e0 te)
    (hg : Gl (cxOf (CXx P w) P w K mg base N qual scope f cd A outer s H E) x := by rfl)
    (hst : starEach [e0] (envOfC qual scope s.heap.objs.size f cd) = [(false, eval e0 (envOfC qual scope s.heap.objs.size f cd))] := by rfl) (hd : (x == ("__debug__" : Str)) = false := by decide) :
    PS (cxOf (CXx P w) P w K mg base N qual scope f cd A outer s H E) (.Raise (some (.Call (.Name x np) [e0] [] cpos)) none pos) (fun D σ H1 => te σ H1 fun v H2 => [v].length = 1 ∧ E (.ref C) none H2) := by
  intro pins s1 σ H1 D I h
  obtain ⟨tl, Nn, nm, q, bs, hdct, sn, sub, ab, col, dd, k0, k1, k2, k3, k5, mN, hC, hN, hni, T⟩ := exc_obj O.isIn base I.ok.mod.kin
  refine wpAny_Raise_call_subT (C := C) (nm := nm) (q := q) (N := Nn) (bs := bs) (bm := tl) (hdct := hdct) (sn := sn) (sub := sub) (ab := ab) (col := col) (dd := dd) (k0 := k0) (k1 := k1) (k2 := k2) (k3 := k3) (k5 := k5) (env := envOfC qual scope s.heap.objs.size f cd)
    F.excBase_ValueError (mN := mN) (T.hasType F.excBase_ValueError.hasBase) (I.ok.hd rfl) (by rw [hst]; rfl) hni (ld_glob I hg O.bound ⟨rfl, ?_⟩ hd)
  rw [hst]
  refine Calls.evalArgs_plain ?_
  have hp := (pa_cons he pa_nil (by exact hst)) cpos pins s1 σ H1 (fun vs H2 => vs.length = 1 ∧ E (.ref C) none H2) I h
  have hp' : wpAny (model P w) (A.deeper (envOfC qual scope s.heap.objs.size f cd)) (spliced (backTo cpos (starEach [e0] (envOfC qual scope s.heap.objs.size f cd)))) _ _ s1 := hp
  rw [hst] at hp'
  refine thn hp' fun us s2 ⟨vs, H2, I2, r2, l2, q2⟩ => ?_
  refine ⟨rfl, ?_, I2.bk _ _ hC, hN.keeps I2.bk, T.keeps I2.bk, fun h' e made => ?_⟩
  · show us.length ≤ sizeLine
    rw [← r2.length, l2]; decide
  · exact leave_made (tk := s2.toks) (A := A) (outer := outer) (s := s) (H := H) (E := E) (env := envOfC qual scope s.heap.objs.size f cd) ⟨rfl, rfl, rfl, rfl, rfl, rfl, rfl, rfl, rfl⟩ rfl I2 made q2
end L2

namespace L2
open PySem PySem.Spec PyProof.Rows
/-! ### try .. except C as n: the tried body, what is caught, the suite -/
/-- how an exception comes out of a tried body: out of a call, at the slots of the beginning -/
def tryE (X : Cx) (pins : List (Addr × Obj)) (σ0 : St) (E0 : XK) : Value → Shared → Prop := fun e s' => ∃ H1 s1, Inv X pins σ0 H1 s1 ∧ CXx X.prog X.w X.stack H1 s1 E0 e s'
abbrev tryCx (X : Cx) (pins : List (Addr × Obj)) (σ0 : St) (E0 : XK) : Cx := { X with pn := X.pn ++ pins, xe := tryE X pins σ0 E0 }
abbrev sufCx (X : Cx) (e : Addr) (xe : Value → Shared → Prop) : Cx := { X with A := X.A.mark (some (.ref e)), calm := false, xe := xe }
section
variable {X : Cx} {pins : List (Addr × Obj)} {σ σ0 : St} {H H1 : Hp} {s s1 : Shared} {E0 : XK}
theorem Inv.toTry (I : Inv X pins σ H s) : Inv (tryCx X pins σ0 E0) [] σ H s :=
  ⟨⟨I.ok.mod, I.ok.kind, I.ok.glob, I.ok.blt, I.ok.above, I.ok.inj, I.ok.has, I.ok.cab, I.ok.hd, I.ok.frames, I.ok.stk, I.ok.exf, I.ok.bs, I.ok.bsz, I.ok.noex, I.ok.exfs, I.ok.funs, I.ok.frf⟩, I.os, I.bare, I.base, I.loc, I.cell, I.free, I.freeC, fun p hp => I.pin p (by simpa using hp), I.hok, I.len⟩
theorem Inv.ofTry {pins' : List (Addr × Obj)} (I : Inv (tryCx X pins σ0 E0) pins' σ H s) : Inv X pins σ H s :=
  ⟨⟨I.ok.mod, I.ok.kind, I.ok.glob, I.ok.blt, I.ok.above, I.ok.inj, I.ok.has, I.ok.cab, I.ok.hd, I.ok.frames, I.ok.stk, I.ok.exf, I.ok.bs, I.ok.bsz, I.ok.noex, I.ok.exfs, I.ok.funs, I.ok.frf⟩, I.os, I.bare, I.base, I.loc, I.cell, I.free, I.freeC, fun p hp => I.pin p (List.mem_append_left _ hp), I.hok, I.len⟩
theorem Inv.toSuf {e : Addr} {xe : Value → Shared → Prop} (I : Inv X pins σ H s) : Inv (sufCx X e xe) pins σ H s :=
  ⟨⟨I.ok.mod, I.ok.kind, I.ok.glob, I.ok.blt, I.ok.above, I.ok.inj, I.ok.has, I.ok.cab, (fun q => by cases q), I.ok.frames, I.ok.stk, I.ok.exf, I.ok.bs, I.ok.bsz, I.ok.noex, I.ok.exfs, I.ok.funs, I.ok.frf⟩, I.os, I.bare, I.base, I.loc, I.cell, I.free, I.freeC, I.pin, I.hok, I.len⟩
theorem Inv.ofSuf {e : Addr} {xe : Value → Shared → Prop} (hd : X.calm = true → X.A.handled = none) (I : Inv (sufCx X e xe) pins σ H s) : Inv X pins σ H s :=
  ⟨⟨I.ok.mod, I.ok.kind, I.ok.glob, I.ok.blt, I.ok.above, I.ok.inj, I.ok.has, I.ok.cab, hd, I.ok.frames, I.ok.stk, I.ok.exf, I.ok.bs, I.ok.bsz, I.ok.noex, I.ok.exfs, I.ok.funs, I.ok.frf⟩, I.os, I.bare, I.base, I.loc, I.cell, I.free, I.freeC, I.pin, I.hok, I.len⟩
/-- a call in a tried body -/
def tAt (σ0 : St) (t : TE) : TE := fun σ H Q => σ = σ0 ∧ t σ H Q
theorem pe_fnT {k j : Nat} {ps : List Str} {sp : Sp} {x : Str} {p pos : Pos} {e : Expr} {es : List Expr} {t : TA} (F : Fn X.prog X.w X.K X.mg X.base (CXx X.prog X.w) x k ps sp) (hr : Room j X.A) (ha : PA (tryCx X pins σ0 E0) (e :: es) t) (hg : Gl X x := by rfl) (hj : k ≤ j := by decide)
    (hdb : (x == ("__debug__" : Str)) = false := by decide) (he : starEach (e :: es) X.env = (false, eval e X.env) :: starEach es X.env := by rfl) (hpl : (backTo pos (starEach es X.env)).any (·.1) = false := by rfl) :
    PE (tryCx X pins σ0 E0) (.Call (.Name x p) (e :: es) [] pos) (tAt σ0 (tCall sp [] E0 t)) := by
  obtain ⟨f, fd, F, hm, hk, hb, _⟩ := F.ex
  have hr := hr.mono hj
  intro pins' s σ H Q I h
  obtain ⟨rfl, h⟩ := h
  refine wpAny_Call_Name_kw (ld_glob I hg hm ?_ hdb)
  refine PySem.W.callWith_K (h₀ := X.base) I.ok.mod.kin hk (thn (ha pos pins' s σ H _ I h) fun us s1 ⟨vs, H1, I1, r, q⟩ => ⟨I1.kIn, ?_⟩) he hpl
  have r2 : Vals (vs ++ []) (us ++ []) := r.append .nil
  have hl : (us ++ []).length = ps.length := by rw [← r2.length]; exact F.len _ _ _ _ q
  refine wpAny_call (codeAny_mono (F.run X.A X.stack s1 H1 ⟨us, []⟩ (us ++ []) (vs ++ []) Q E0 hr I1.env0 (hb s1 us I1.kIn hl) r2 q) fun r s' hq => ?_)
  cases r with
  | error e => exact ⟨H1, s1, I1.ofTry, hq⟩
  | ok fl =>
    cases fl with
    | ret u => exact I1.after hq
    | next => exact False.elim hq
    | brk => exact False.elim hq
    | cont => exact False.elim hq
/-- the state in which an exception is caught -/
theorem Inv.caught {s' : Shared} {H' : Hp} {B h5 : Heap} (hst : X.stack = X.env :: X.outer) (hfr : X.env.frame = some X.env.locals) (I : Inv X pins σ H1 s1) (os : s'.os = s1.os) (gb : AllBare s'.gens)
    (un : Un (frs X.stack) [] H1 H' s1.heap s'.heap) (hok : HOk X.prog X.w H' s'.heap) (hB : ∀ b o, s'.heap.get? b = some o → b ∉ frs X.stack → (s1.heap.get? b ≠ none ∨ H' b ≠ none) → B.get? b = some o)
    (st5 : ∀ b o, B.get? b = some o → h5.get? b = some o) (up : s'.heap.UpToSlots h5) : Inv X pins σ H' { s' with heap := h5 } := by
  have frn : ∀ b, b ∈ frs X.stack → H1 b = none ∧ H' b = none ∧ ∃ o, s1.heap.get? b = some o ∧ ∀ vs, o.data ≠ .fields vs := fun b hm => by
    have h1 : ∃ o, s1.heap.get? b = some o ∧ (∀ vs, o.data ≠ .fields vs) ∧ H1 b = none := by
      rw [hst] at hm
      obtain ⟨en, e3, e4⟩ := List.mem_filterMap.mp hm
      rcases List.mem_cons.mp e3 with z | z
      · subst z
        have : b = X.env.locals := Option.some.inj (e4.symm.trans hfr)
        subst this
        obtain ⟨m, hn', _⟩ := I.loc
        obtain ⟨o, es, ep, ho, hd, _⟩ := id hn'
        exact ⟨o, ho, (fun vs q => by rw [hd] at q; cases q), I.free⟩
      · obtain ⟨o, h1, h2, h3, _⟩ := I.fsAt b (List.mem_filterMap.mpr ⟨en, z, e4⟩)
        exact ⟨o, h1, h2, h3⟩
    obtain ⟨o, h2, h3, h4⟩ := h1
    exact ⟨h4, un.free b o h2 h4 (by simp), o, h2, h3⟩
  have st : ∀ b o, s'.heap.get? b = some o → b ∉ frs X.stack → (s1.heap.get? b ≠ none ∨ H' b ≠ none) → h5.get? b = some o := fun b o q n z => st5 b o (hB b o q n z)
  refine I.call' (ch := []) os ⟨fun b o q n hb hx => ?_, fun b o q n hb hx => ?_, un.free, fun b o q hx => ?_, un.tups, un.frzs, un.tbls⟩ (fun b u q => ?_) gb (by simp)
  · exact st b o (un.keep b o q n hb hx) hb (.inl (by rw [q]; simp))
  · obtain ⟨z, q'⟩ := un.slot b o q n hb hx
    obtain ⟨_, _, o2, q2, q3⟩ := frn b hb
    rw [q] at q2; cases q2
    obtain ⟨z', q4⟩ := up b _ q' q3
    exact ⟨z', q4⟩
  · by_cases hb : b ∈ frs X.stack
    · obtain ⟨n1, _, o2, q2, q3⟩ := frn b hb
      rw [q] at q2; cases q2
      obtain ⟨z, q'⟩ := un.slot b o q n1 hb hx
      obtain ⟨z', q4⟩ := up b _ q' q3
      exact ⟨_, q4⟩
    · obtain ⟨o2, q2⟩ := un.there b o q hx
      exact ⟨o2, st b o2 q2 hb (.inl (by rw [q]; simp))⟩
  · refine (hok b u q).stay (fun c v hc q' => st c v q' ?_ (.inr ?_)) (fun _ q' => q') fun _ _ q' => q'
    · intro hm
      rcases hc with z | z
      · rw [z] at hm; rw [(frn b hm).2.1] at q; cases q
      · rw [(frn c hm).2.1] at z; cases z
    · rcases hc with z | z
      · rw [z, q]; simp
      · rw [z]; simp
/-- what is known of a caught thing: its class -/
def excAt (e : Addr) (cls : Value) : Heap → Prop := fun h => ∃ o, h.get? e = some o ∧ o.cls = cls
/-- a new thing is tracked by its class -/
theorem Inv.track {e : Addr} {cls : Value} (I : Inv X pins σ H s) (hn : H e = none) (h0 : X.s₀.heap.get? e = none) (hl : e ≠ X.env.locals) (hc : ∀ x c, X.env.cells.lookup x = some c → c ≠ e) (hp : ∀ p ∈ X.pn ++ pins, p.1 ≠ e)
    (hx : excAt e cls s.heap) : Inv X pins σ (upd H e (.ext (excAt e cls))) s := by
  have ne : ∀ {b : Addr} {o : HO}, H b = some o → (upd H e (.ext (excAt e cls))) b = some o := fun {b o} q => by
    rw [upd_ne (fun z => by rw [z, hn] at q; cases q)]; exact q
  have nn : ∀ {b : Addr}, b ≠ e → H b = none → (upd H e (.ext (excAt e cls))) b = none := fun {b} z q => by rw [upd_ne z]; exact q
  refine ⟨I.ok, I.os, I.bare, ⟨I.base.keep, I.base.slot, fun b o q n hx => nn (fun z => by rw [z, h0] at q; cases q) (I.base.free b o q n hx), I.base.there, fun b xs q => ne (I.base.tups b xs q), fun b o u q => ne (I.base.frzs b o u q), fun b ps q => ?_⟩, I.loc, I.cell, nn (Ne.symm hl) I.free, fun x c q => nn (hc x c q) (I.freeC x c q), fun p q => ?_, fun b u q => ?_, I.len⟩
  · obtain ⟨m, q'⟩ := I.base.tbls b ps q
    exact ⟨m, ne q'⟩
  · obtain ⟨a1, a2, a3, a4, a5⟩ := I.pin p q
    exact ⟨a1, nn (hp p q) a2, a3, a4, a5⟩
  · by_cases z : b = e
    · subst z
      rw [upd_same] at q
      cases q
      refine ⟨hx, ?_, fun h1 h2 ⟨o, q1, q2⟩ k => ⟨o, k o q1, q2⟩⟩
      obtain ⟨o, q, _⟩ := hx
      exact ⟨o, q⟩
    · rw [upd_ne z] at q
      exact (I.hok b u q).stay (fun c v _ q' => q') (fun c q' => ne q') fun c xs q' => ne q'
/-- the name goes -/
theorem unbind_ok {M : Model} {A : Around} {E : Value → Shared → Prop} {i : Nat} {x : Str} {pos : Pos} {Q : Unit → Shared → Prop} (I : Inv X pins σ H s) (hN : X.N.Nodup) (hi : X.N[i]? = some x) (hk : X.env.kindOf x = some .local) (hlo : Loc X.env.scope x)
    (h : ∀ s', Inv X pins (σ.set i none) H s' → Q () s') : wpAny M A (do bindName X.env x .none; unbindBehindTheSuite X.env x pos) Q E s := by
  have hcls : (X.env.scope.kind == .class || (X.env.scope.kind == .module && X.env.locals != X.env.globals)) = false := by rw [I.ok.kind]; rfl
  refine wpAny_bind (wpAny_bindName (store_ok I hN hi hlo (v := .non) rfl (fun s1 I1 => ?_) (.inr hk)))
  unfold unbindBehindTheSuite
  refine wpAny_onRaise ?_
  have hiσ : i < σ.length := by rw [I.len]; exact (List.getElem?_eq_some_iff.mp hi).1
  obtain ⟨m, hn, hl⟩ := id I1.loc
  obtain ⟨u0, r0, lk⟩ := hl i x .non hi (by rw [List.getElem?_set_self hiσ]) (.inl hk)
  have hv : m x = some u0 := by
    rcases lk with ⟨_, e⟩ | ⟨k, _⟩
    · exact e
    · rcases k with k | k
      · have := hk.symm.trans k; cases this
      · have := hk.symm.trans k; cases this
  refine wpAny_unbindName_local hk hn hv hcls fun h' u hn' hs => ?_
  obtain ⟨oL, _, _, hoL, _⟩ := id hn
  have cne := I1.cne
  refine h _ ⟨I1.ok, I1.os, I1.bare, ⟨fun b o e n hb hx => ?_, fun b o e n hb hx => ?_, I1.base.free, fun b o e hx => ?_, I1.base.tups, I1.base.frzs, I1.base.tbls⟩, ⟨_, hn', fun j y v' e1 e2 e3 => ?_⟩, fun y c e => ?_, I1.free, I1.freeC, fun p hp => ?_, fun b ob e => ?_, by simpa using I1.len⟩
  · exact (hs.2 b (Nat.ne_of_lt (Nat.lt_of_lt_of_le (Heap.lt_size e) I.ok.above))).trans (I1.base.keep b o e n hb hx)
  · obtain ⟨sl, e1⟩ := I1.base.slot b o e n hb hx
    exact ⟨sl, (hs.2 b (Nat.ne_of_lt (Nat.lt_of_lt_of_le (Heap.lt_size e) I.ok.above))).trans e1⟩
  · obtain ⟨o', e1⟩ := I1.base.there b o e hx
    exact ⟨o', (hs.2 b (Nat.ne_of_lt (Nat.lt_of_lt_of_le (Heap.lt_size e) I.ok.above))).trans e1⟩
  · by_cases hj : j = i
    · subst hj
      rw [List.getElem?_set_self hiσ] at e2
      cases e2
    · rw [List.getElem?_set_ne (Ne.symm hj)] at e2
      obtain ⟨u', r', q⟩ := hl j y v' e1 (by rw [List.getElem?_set_ne (Ne.symm hj)]; exact e2) e3
      refine ⟨u', r', ?_⟩
      rcases q with ⟨k, e⟩ | ⟨k, c, e, z⟩
      · refine .inl ⟨k, ?_⟩
        have : y ≠ x := fun e => hj (nodup_ix hN e1 (e ▸ hi))
        simp [this, e]
      · exact .inr ⟨k, c, e, z.sameBut hs (cne y c e)⟩
  · obtain ⟨w', z⟩ := I1.cell y c e
    exact ⟨w', z.sameBut hs (cne y c e)⟩
  · obtain ⟨e, n, ne, nf, d⟩ := I1.pin p hp
    exact ⟨(hs.2 p.1 ne).trans e, n, ne, nf, d⟩
  · refine (I1.hok b ob e).stay (fun c w' hc q => (hs.2 c ?_).trans q) (fun _ q => q) fun _ _ q => q
    rintro rfl
    rcases hc with rfl | hc
    · rw [I1.free] at e; cases e
    · rw [I1.free] at hc; cases hc
end
/-- what is wanted behind the suite, where the name goes -/
def Ends.drop (D : Ends) (i : Nat) : Ends := ⟨fun σ H => D.nx (σ.set i none) H, D.rt, fun σ H => D.bk (σ.set i none) H, fun σ H => D.ct (σ.set i none) H⟩
def tTry (K : PySem.W.Frag) (C : Addr) (i : Nat) (tb : St → XK → TS) (th : TS) : TS := fun D σ H =>
  tb σ (fun cls _ H' => PySem.W.exmOne K cls (.ref C) = some true ∧ ∀ e, H' e = none → th (D.drop i) (σ.set i (some (.ref e))) (upd H' e (.ext (excAt e cls)))) D σ H
theorem ps_try {X : Cx} {body suite : List Stmt} {b₀ : Stmt} {x n : Str} {np hpos pos : Pos} {C : Addr} {i : Nat} {tb : St → XK → TS} {th : TS} (hC : X.mg x = some (.ref C)) (hN : X.N.Nodup) (hi : X.N[i]? = some n) (hk : X.env.kindOf n = some .local)
    (hb : ∀ pins σ0 E0, PSs (tryCx X pins σ0 E0) body (tb σ0 E0)) (hs : ∀ e xe, PSs (sufCx X e xe) (b₀ :: suite) th) (hlo : Loc X.env.scope n := by first | exact .inl rfl | exact .inr rfl)
    (hst : X.stack = X.env :: X.outer := by rfl) (hex : X.ex = [] := by rfl) (hfr : X.env.frame = some X.env.locals := by rfl) (hg : Gl X x := by rfl) (hd : (x == ("__debug__" : Str)) = false := by decide) :
    PS X (.Try body [.ExceptHandler (some (.Name x np)) (some n) (b₀ :: suite) hpos] [] [] pos) (tTry X.K C i tb th) := by
  intro pins s σ H D I h
  refine wpAny_Try_except (wpAny_mono (hb pins σ _ [] s σ H D I.toTry h) (fun f s1 q => ?_) fun e s' q => ?_)
  · cases f with
    | next =>
      obtain ⟨σ', H', I', q⟩ := q
      exact wpAny_execs_nil ⟨σ', H', I'.ofTry, q⟩
    | brk => obtain ⟨σ', H', I', q⟩ := q; exact ⟨σ', H', I'.ofTry, q⟩
    | cont => obtain ⟨σ', H', I', q⟩ := q; exact ⟨σ', H', I'.ofTry, q⟩
    | ret u => obtain ⟨v, σ', H', I', r, q⟩ := q; exact ⟨v, σ', H', I'.ofTry, r, q⟩
  · obtain ⟨H1, s1, I1, a, cls, a0, B, H', rfl, os, gb, un, hok, ha, hn, fl, hB, hm, hE⟩ := q
    have fl' : Heap.FlyingW B (X.env :: X.outer) a cls a0 s'.heap := by rw [← hst]; exact fl
    refine wpAny_looks_onW (base := B) (by rw [I1.ok.frames, hst]) hfr fl' fun h4 held4 up4 => ?_
    refine wpAny_landsW held4 fun h5 fl5 up5 => ?_
    have up := up4.trans up5
    have I5 : Inv X pins σ H' { s' with heap := h5 } := I1.caught hst hfr os gb un hok hB fl5.1 up
    refine wpAny_handleBy_cons (codeAny_handlers_test (ld_glob (X := sufCx X a fun _ _ => False) (I5.toSuf) hg hC ?_ hd)) (by intro q; cases q)
    obtain ⟨oe, hoe, hoc⟩ := fl5.there
    have LT : PySem.W.Looks (model X.prog X.w) h5 (typeOf (.ref a)) cls := by
      rw [← hoc]
      exact (PySem.W.Looks.ld hoe).andThen .now
    refine (PySem.W.exm_one (M := model X.prog X.w) I5.kIn LT hm).here ?_
    refine codeAny_handlers_suite_as ?_
    refine lands_againW fl5 fun h6 fl6 up6 => ?_
    have I6 : Inv X pins σ H' { s' with heap := h6 } := I1.caught hst hfr os gb un hok hB fl6.1 (up.trans up6)
    obtain ⟨oe6, hoe6, hoc6⟩ := fl6.there
    have I7 : Inv X pins σ (upd H' a (.ext (excAt a cls))) { s' with heap := h6 } := by
      refine I6.track ha ?_ ?_ (fun y c q => ?_) (fun p q => ?_) ⟨oe6, hoe6, hoc6⟩
      · cases q : X.s₀.heap.get? a with
        | none => rfl
        | some o =>
          obtain ⟨o', q'⟩ := I1.base.there a o q (by rw [hex]; simp)
          rw [hn] at q'; cases q'
      · intro z
        obtain ⟨m, hnn, _⟩ := I1.loc
        obtain ⟨o, _, _, ho, _⟩ := id hnn
        rw [← z, hn] at ho; cases ho
      · intro z
        obtain ⟨w', o, ho, _⟩ := I1.cell y c q
        rw [z, hn] at ho; cases ho
      · intro z
        have := (I1.pin p q).1
        rw [z, hn] at this; cases this
    refine store_ok I7 hN hi hlo (v := .ref a) rfl (fun s8 I8 => ?_) (.inr hk)
    refine wpAny_mono (hs a _ pins s8 _ _ (D.drop i) I8.toSuf (hE a ha)) (fun f s9 q => ?_) (fun _ _ z => z)
    cases f with
    | next =>
      obtain ⟨σ', H9, I9, q⟩ := q
      exact unbind_ok (I9.ofSuf I.ok.hd) hN hi hk hlo fun s10 I10 => ⟨_, _, I10, q⟩
    | brk =>
      obtain ⟨σ', H9, I9, q⟩ := q
      exact unbind_ok (I9.ofSuf I.ok.hd) hN hi hk hlo fun s10 I10 => ⟨_, _, I10, q⟩
    | cont =>
      obtain ⟨σ', H9, I9, q⟩ := q
      exact unbind_ok (I9.ofSuf I.ok.hd) hN hi hk hlo fun s10 I10 => ⟨_, _, I10, q⟩
    | ret u =>
      obtain ⟨v, σ', H9, I9, r, q⟩ := q
      exact unbind_ok (I9.ofSuf I.ok.hd) hN hi hk hlo fun s10 I10 => ⟨v, _, _, I10, r, q⟩
end L2

namespace PySem.W
open PySem PySem.Spec PySem.Calls PyProof.Rows Builtin Builtin.ObjectAttr Builtin.Getset_descriptor
section
variable {prog : Program} {w : World} {A : Around} {E : Value → Shared → Prop} {K : Frag} {h : Heap} {g : Array GenState} {d : Drawn} {t : Nat} {os : OsState} {a D : Addr} {o : Obj} {R : Result → Shared → Prop}
theorem exc_class_get {tp : Value} (X : K.In h) (hx : h.get? a = some o) (hc : o.cls = .ref D) (hm : mroIn K D (.type "object") = some true)
    (hq : R (.ok (.ret (.ref D))) ⟨h, g, d, t, os⟩) : codeAny (model prog w) A (.call (.builtin "getset_descriptor.__get__") ⟨[.builtin "object.__class__", .ref a, tp], []⟩) R ⟨h, g, d, t, os⟩ := by
  have L0 : Looks (model prog w) h (typeOf (.ref a)) (.ref D) := by
    rw [← hc]; exact (Looks.ld hx).andThen .now
  have Lm := looks_mroIn (M := model prog w) X hm
  refine codeAny_call_builtin KF.slot_gs.plain KF.entry_gs (KF.slot_gs.check _ _ _ _ _ _ _ _ KF.type_class (KF.args_gs _ _ _) ?go)
  case go => (unfold Builtin.«getset_descriptor.__get__» descrGet; rw [dga_obj]; refine wpAny_bind (wpAny_pure ?_); unfold descrGetter descrCheckInstance descrNameAndClass isInstance; simp only [KF.owner_class]; (repeat lk); refine ⟨Code.quiet_builtin _ (by decide +kernel), codeAny_builtin KF.entry_class ?_⟩; unfold Builtin.«object.__class__» shownTypeOf; (repeat lk); exact hq)
theorem exc_ga_check {M : Model} {nameV : Value} {Q : Unit → Shared → Prop} (X : K.In h) (hx : h.get? a = some o) (hc : o.cls = .ref D) (hb : mroIn K D (.type "BaseException") = some true) (hq : Q () ⟨h, g, d, t, os⟩) :
    wpAny M A (checkBuiltinCall "BaseException.__getattribute__" ⟨[.ref a, nameV], []⟩) Q E ⟨h, g, d, t, os⟩ := by
  have bk : builtinKind "BaseException.__getattribute__" = some .slot := by decide +kernel
  have sp : splitId "BaseException.__getattribute__" = some ("BaseException", "__getattribute__") := by decide +kernel
  have ok := F.args_bexc_ga (.ref a) nameV
  have L0 : Looks M h (typeOf (.ref a)) (.ref D) := by
    rw [← hc]; exact (Looks.ld hx).andThen .now
  have L1 := looks_mroIn (M := M) X hb
  simp only [checkBuiltinCall, bk, sp]
  refine wpAny_bind ?_
  · unfold isInstance
    repeat (first | with_reducible refine Looks.at (by assumption) ?_ | wp_step)
    exact hq
theorem exc_entry {tk : Tok} {Q : Fin → Shared → Prop} (X : K.In h) (hx : h.get? a = some o) (hc : o.cls = .ref D) (hm : mroIn K D (.type "object") = some true) (hcl : findIn K (.ref D) "__class__" = some (some (.builtin "object.__class__"))) (hq : Q (.done (.ret (.ref D))) ⟨h, g, d, t, os⟩) :
    wpAny (model prog w) A (Builtin.«object.__getattribute__» ⟨[.ref a, .str "__class__" tk], []⟩) Q E ⟨h, g, d, t, os⟩ :=
  by
  have L0 : Looks (model prog w) h (typeOf (.ref a)) (.ref D) := by
    rw [← hc]; exact (Looks.ld hx).andThen .now
  have L1 := looks_findIn (M := model prog w) X hcl
  have fa := F.typeOf_object_class; have fb := F.slot_gs_get.lookup; have fc := F.slot_gs_set.lookup
  repeat (any_goals (first | assumption | with_reducible refine Looks.at L0 ?_ | with_reducible refine Looks.at L1 ?_ | wp_step))
  refine exc_class_get X hx hc hm ?_; repeat (any_goals (first | assumption | wp_step))
theorem exc_class {Q : Option Value → Shared → Prop} (X : K.In h) (hx : h.get? a = some o) (hc : o.cls = .ref D) (hm : mroIn K D (.type "object") = some true) (hb : mroIn K D (.type "BaseException") = some true)
    (hga : findIn K (.ref D) "__getattribute__" = some (some (.builtin "BaseException.__getattribute__"))) (hgt : findIn K (.ref D) "__getattr__" = some none) (hcl : findIn K (.ref D) "__class__" = some (some (.builtin "object.__class__")))
    (hq : Q (some (.ref D)) ⟨h, g, d, t + 1, os⟩) : wpAny (model prog w) A (getAttr? (.ref a) "__class__") Q E ⟨h, g, d, t, os⟩ := by
  have L0 : Looks (model prog w) h (typeOf (.ref a)) (.ref D) := by
    rw [← hc]; exact (Looks.ld hx).andThen .now
  have La := looks_findIn (M := model prog w) X hga
  have Lb := looks_findIn (M := model prog w) X hgt
  have f3 := F.excAttr_ValueError.ga.bind (.ref a)
  have nb : (Value.builtin "BaseException.__getattribute__" == Value.builtin "object.__getattribute__") = false := by decide +kernel
  have nh : (onTheHeap (Value.ref D) && Value.builtin "BaseException.__getattribute__" == Value.builtin "object.__getattribute__") = false := by rw [nb]; rfl
  unfold getAttr? getAttrBy? getAttrBy; refine wpAny_bind (wpAny_mkText (wpAny_bind (wpAny_attempt (wpAny_holding (wpAny_bind (L0.at (wpAny_bind (La.at ?_))))))))
  repeat (any_goals (first | assumption | with_reducible refine Looks.at L0 ?_ | with_reducible refine Looks.at La ?_ | with_reducible refine Looks.at Lb ?_ | wp_step))
  refine codeAny_call_builtin F.excAttr_ValueError.ga.plain F.entry_bexc_ga (exc_ga_check X hx hc hb (exc_entry X hx hc hm hcl ?_)); repeat (any_goals (first | assumption | wp_step))
/-- what the top must say of an own class of exceptions, for isinstance -/
def excKit (K : Frag) (D : Addr) : Bool := (clsIn K D).isSome && mroIn K D (.type "object") == some true && mroIn K D (.type "BaseException") == some true && findIn K (.ref D) "__getattribute__" == some (some (.builtin "BaseException.__getattribute__"))
  && findIn K (.ref D) "__getattr__" == some none && findIn K (.ref D) "__class__" == some (some (.builtin "object.__class__"))
theorem kitx_exc {x D : Addr} (e : excKit K D = true) : KitX K (.ref x) (.ref D) (fun h => ∃ o, h.get? x = some o ∧ o.cls = .ref D) := by
  simp only [excKit, Bool.and_eq_true, beq_iff_eq] at e
  obtain ⟨⟨⟨⟨⟨e0, e1⟩, e2⟩, e3⟩, e4⟩, e5⟩ := e
  obtain ⟨cdD, hcD⟩ := Option.isSome_iff_exists.mp e0
  refine ⟨fun M h _ ⟨o, h1, h2⟩ => ?_, fun _ _ X _ => ?_, fun h tp dd its n sl X htp => ?_, fun {prog w A E Q s} X ⟨o, h1, h2⟩ k => ?_⟩
  · rw [← h2]; exact (Looks.ld h1).andThen .now
  · unfold clsIn at hcD
    split at hcD
    · rename_i c' d' cd' sl' ho
      exact fun A' Q' E' s' k q => by unfold isType loadHead; exact wpAny_bind (wpAny_loadPart (k _ _ (X _ _ ho)) (wpAny_pure q))
    · cases hcD
  · refine Bool.eq_false_iff.mpr fun q => ?_
    obtain rfl : D = tp := Value.ref.inj (beq_iff_eq.mp q)
    unfold clsIn at hcD
    split at hcD
    · rename_i c' d' cd' sl' ho
      cases (X _ _ ho).symm.trans htp
    · cases hcD
  · obtain ⟨h, g, d, t, os⟩ := s
    exact exc_class X h1 h2 e1 e2 e3 e4 e5 k
end
end PySem.W

namespace L2
open PySem PySem.Spec PyProof.Rows
/-! ### isinstance of a caught thing; count and index of truths; lists of texts as data -/
section
variable {X : Cx} {e e2 : Expr} {te te2 : TE} {p p2 pos : Pos}
def tIsE (K : PySem.W.Frag) (c : Value) (te : TE) : TE := fun σ H Q => te σ H fun x H1 => ∃ (a D : Addr) (b : Bool), x = .ref a ∧ H1 a = some (.ext (excAt a (.ref D))) ∧ PySem.W.excKit K D = true ∧ PySem.W.kitOne K (.ref D) c = some b ∧ Q (.bl b) H1
theorem call_isE {c : Value} {cv : V} (hcv : ∀ u, RelV cv u → u = c) (pins : List (Addr × Obj)) (s : Shared) (σ : St) (H : Hp) (x : V) (us : List Value) (Q : VK) (I : Inv X pins σ H s) (rv : Vals [x, cv] us)
    (h : ∃ (a D : Addr) (b : Bool), x = .ref a ∧ H a = some (.ext (excAt a (.ref D))) ∧ PySem.W.excKit X.K D = true ∧ PySem.W.kitOne X.K (.ref D) c = some b ∧ Q (.bl b) H) : wpAny (model X.prog X.w) X.A (call (.builtin "isinstance") us) (EP X pins σ Q) X.xe s := by
  obtain ⟨a, D, b, rfl, hH, hk, ek, q⟩ := h
  obtain ⟨u, v, rfl, rx, ry⟩ := rv.two
  cases rx
  obtain rfl := hcv v ry
  obtain ⟨hx, _⟩ := (show ObjOk X.prog X.w H s.heap a (.ext (excAt a (.ref D))) from I.hok a _ hH)
  have fin : ∀ tk, EP X pins σ Q (.bool b) { s with toks := tk } := fun tk => ⟨.bl b, H, I.kept (h' := s.heap) (t' := tk) fun _ _ q => q, rfl, q⟩
  exact PySem.W.kia_one (PySem.W.kitx_exc hk) I.kIn hx ek (fun z => nomatch z) fin
/-- isinstance(e, C), C an own class -/
theorem pe_isE {T : Str} {C : Addr} (hm : X.mg "isinstance" = none) (hT : X.mg T = some (.ref C)) (ha : PE X e te) (hg : Gl X "isinstance" := by rfl) (hgT : Gl X T := by rfl) (he : starEach [e, .Name T p2] X.env = [(false, eval e X.env), (false, eval (.Name T p2) X.env)] := by rfl)
    (hd : (T == ("__debug__" : Str)) = false := by decide) : PE X (.Call (.Name "isinstance" p) [e, .Name T p2] [] pos) (tIsE X.K (.ref C) te) :=
  pe_callB (r := r2' fun x y H Q => y = .ref C ∧ ∃ (a D : Addr) (b : Bool), x = .ref a ∧ H a = some (.ext (excAt a (.ref D))) ∧ PySem.W.excKit X.K D = true ∧ PySem.W.kitOne X.K (.ref D) (.ref C) = some b ∧ Q (.bl b) H)
    (callR2 fun pins s σ H x y us Q I rv ⟨ey, h⟩ => by subst ey; exact call_isE (c := .ref C) (cv := .ref C) (fun u r => r) pins s σ H x us Q I rv h) hg hm bt_isinst
    (pa_cons ha (pa_cons (pe_glob (v := .ref C) hgT hT rfl hd) pa_nil) (by exact he)) (he := by exact he) |>.imp fun σ H Q h => by
      show te σ H fun x H1 => V.ref C = .ref C ∧ _
      simp only [true_and]
      exact h
/-- isinstance(e, C), C a built-in class -/
theorem pe_isEB {T : Str} {c : String} (hm : X.mg "isinstance" = none) (hT : X.mg T = none) (hb : bootBuiltins T = some (.type c)) (ha : PE X e te) (hg : Gl X "isinstance" := by rfl) (hgT : Gl X T := by rfl) (he : starEach [e, .Name T p2] X.env = [(false, eval e X.env), (false, eval (.Name T p2) X.env)] := by rfl)
    (hn : T ≠ "__name__" := by decide) (hd : (T == ("__debug__" : Str)) = false := by decide) : PE X (.Call (.Name "isinstance" p) [e, .Name T p2] [] pos) (tIsE X.K (.type c) te) :=
  pe_callB (r := r2' fun x y H Q => y = .ty c ∧ ∃ (a D : Addr) (b : Bool), x = .ref a ∧ H a = some (.ext (excAt a (.ref D))) ∧ PySem.W.excKit X.K D = true ∧ PySem.W.kitOne X.K (.ref D) (.type c) = some b ∧ Q (.bl b) H)
    (callR2 fun pins s σ H x y us Q I rv ⟨ey, h⟩ => by subst ey; exact call_isE (c := .type c) (cv := .ty c) (fun u r => r) pins s σ H x us Q I rv h) hg hm bt_isinst
    (pa_cons ha (pa_cons (pe_bltn (v := .ty c) hgT hT hb rfl hn hd) pa_nil) (by exact he)) (he := by exact he) |>.imp fun σ H Q h => by
      show te σ H fun x H1 => V.ty c = .ty c ∧ _
      simp only [true_and]
      exact h
end
/-! ### all own classes of exceptions of a text -/
def excFacts (K : PySem.W.Frag) (CE : Addr) (Cs : List Addr) : Bool :=
  Cs.all fun D => PySem.W.exmOne K (.ref D) (.ref CE) == some true && PySem.W.excKit K D && PySem.W.excIn K D mroV "ValueError.__new__" && PySem.W.kitOne K (.ref D) (.type "ValueError") == some true && Cs.all fun C => PySem.W.kitOne K (.ref D) (.ref C) == some (D == C)
structure ExF (K : PySem.W.Frag) (CE D : Addr) (Cs : List Addr) : Prop where
  exm : PySem.W.exmOne K (.ref D) (.ref CE) = some true
  kit : PySem.W.excKit K D = true
  isIn : PySem.W.excIn K D mroV "ValueError.__new__" = true
  val : PySem.W.kitOne K (.ref D) (.type "ValueError") = some true
  one : ∀ C ∈ Cs, PySem.W.kitOne K (.ref D) (.ref C) = some (D == C)
theorem excFacts.of {K : PySem.W.Frag} {CE : Addr} {Cs : List Addr} (h : excFacts K CE Cs = true) : ∀ D ∈ Cs, ExF K CE D Cs := fun D hD => by
  have h1 := List.all_eq_true.mp h D hD
  simp only [Bool.and_eq_true, beq_iff_eq] at h1
  obtain ⟨⟨⟨⟨a, b⟩, c⟩, d⟩, e⟩ := h1
  exact ⟨a, b, c, d, fun C hC => beq_iff_eq.mp (List.all_eq_true.mp e C hC)⟩
theorem ExF.any {K : PySem.W.Frag} {CE D : Addr} {Cs : List Addr} (h : ExF K CE D Cs) : ∀ cs : List Addr, (∀ c ∈ cs, c ∈ Cs) → PySem.W.kitAny K (.ref D) (cs.map Value.ref) = some (cs.any fun c => D == c)
  | [], _ => rfl
  | c :: r, hc => by
    have h1 := h.one c (hc c List.mem_cons_self)
    have h2 := h.any r fun d hd => hc d (List.mem_cons_of_mem _ hd)
    rw [List.map_cons, PySem.W.kitAny, h1]
    cases q : D == c with
    | true => simp [q]
    | false => simp [q, h2]
/-! ### count and index of truths -/
section
variable {X : Cx}
theorem bools_its {xs : List Bool} {its : List Value} (r : Vals (xs.map V.bl) its) : its = xs.map Value.bool := by
  induction xs generalizing its with
  | nil => cases r; rfl
  | cons b xs ih =>
    cases r with
    | cons r t => cases r; rw [ih t]; rfl
end
/-! ### lists of texts as data -/
end L2
namespace L2
open PySem PySem.Spec PyProof.Rows
theorem bt_ValueError : bootBuiltins "ValueError" = some (.type "ValueError") := by decide +kernel
section
variable {X : Cx}
end
end L2

namespace PySem.W
open PySem PySem.Spec PySem.Calls PyProof.Rows
/-! ### enumerate(xs, start=1) -/
section
variable {prog : Program} {w : World} {A : Around} {E : Value → Shared → Prop} {s : Shared}
end
end PySem.W
namespace L2
open PySem PySem.Spec PyProof.Rows
/-! ### max of a list, index of a number -/
section
variable {X : Cx} {e : Expr} {te : TE} {p pos : Pos}
end
end L2

namespace L2
open PySem PySem.Spec PyProof.Rows
/-! ### products of large numbers; any of a list of truths -/
section
variable {X : Cx} {e : Expr} {te : TE} {p pos : Pos}
end
end L2

namespace L2
open PySem PySem.Spec PyProof.Rows

/-! ### lists of pairs as tables -/
section
variable {κ : Type} [DecidableEq κ]
def valV (kvs : List (κ × V)) (k : κ) : Option V := (kvs.find? fun kv => decide (kv.1 = k)).map (·.2)
/-- in its place, or at the end -/
def putK (kvs : List (κ × V)) (k : κ) (v : V) : List (κ × V) :=
  if (kvs.any fun kv => decide (kv.1 = k)) = true then kvs.map (fun kv => if kv.1 = k then (kv.1, v) else kv) else kvs ++ [(k, v)]
def dropK (kvs : List (κ × V)) (k : κ) : List (κ × V) := kvs.filter fun kv => decide (kv.1 ≠ k)

theorem valV_pos {p : κ × V} {r : List (κ × V)} {k : κ} (e : p.1 = k) : valV (p :: r) k = some p.2 := by simp [valV, List.find?_cons, e]
theorem valV_neg {p : κ × V} {r : List (κ × V)} {k : κ} (e : ¬ p.1 = k) : valV (p :: r) k = valV r k := by simp [valV, List.find?_cons, e]
theorem valV_any (k : κ) : ∀ kvs : List (κ × V), (kvs.any fun kv => decide (kv.1 = k)) = (valV kvs k).isSome
  | [] => rfl
  | p :: r => by
    rw [List.any_cons]
    by_cases e : p.1 = k
    · simp only [valV_pos e, decide_eq_true e, Bool.true_or, Option.isSome_some]
    · rw [valV_neg e, decide_eq_false e, Bool.false_or]; exact valV_any k r
theorem valV_map (k j : κ) (y : V) : ∀ kvs : List (κ × V), valV (kvs.map fun kv => if kv.1 = k then (kv.1, y) else kv) j = (valV kvs j).map fun x => if j = k then y else x
  | [] => rfl
  | p :: r => by
    have ih := valV_map k j y r
    rw [List.map_cons]
    by_cases h : p.1 = k
    · rw [if_pos h]
      by_cases e : p.1 = j
      · rw [valV_pos (p := (p.1, y)) e, valV_pos e, Option.map_some, if_pos (e.symm.trans h)]
      · rw [valV_neg (p := (p.1, y)) e, valV_neg e, ih]
    · rw [if_neg h]
      by_cases e : p.1 = j
      · rw [valV_pos (p := p) e, valV_pos e, Option.map_some, if_neg (fun z => h (e.trans z))]
      · rw [valV_neg (p := p) e, valV_neg e, ih]
theorem valV_snoc (k j : κ) (y : V) : ∀ kvs : List (κ × V), valV kvs k = none → valV (kvs ++ [(k, y)]) j = if j = k then some y else valV kvs j
  | [], _ => by
    by_cases e : k = j
    · rw [if_pos e.symm]; exact valV_pos (p := (k, y)) e
    · rw [if_neg (fun z => e z.symm)]; exact valV_neg (p := (k, y)) e
  | p :: r, hn => by
    rw [List.cons_append]
    have hk : ¬ p.1 = k := fun z => by rw [valV_pos z] at hn; cases hn
    rw [valV_neg hk] at hn
    have ih := valV_snoc k j y r hn
    by_cases e : p.1 = j
    · rw [valV_pos e, valV_pos e, if_neg (fun z => hk (e.trans z))]
    · rw [valV_neg e, valV_neg e, ih]
theorem valV_put (kvs : List (κ × V)) (k j : κ) (y : V) : valV (putK kvs k y) j = if j = k then some y else valV kvs j := by
  unfold putK
  by_cases a : (kvs.any fun kv => decide (kv.1 = k)) = true
  · rw [if_pos a, valV_map]
    rw [valV_any] at a
    by_cases e : j = k
    · obtain ⟨x, hx⟩ := Option.isSome_iff_exists.mp a
      rw [if_pos e, e, hx, Option.map_some, if_pos rfl]
    · rw [if_neg e]
      cases valV kvs j with
      | none => rfl
      | some x => rw [Option.map_some, if_neg e]
  · rw [if_neg a]
    refine valV_snoc k j y kvs ?_
    rw [valV_any] at a
    cases q : valV kvs k with
    | none => rfl
    | some x => rw [q] at a; exact (a rfl).elim
theorem length_putK (kvs : List (κ × V)) (k : κ) (v : V) : (putK kvs k v).length ≤ kvs.length + 1 := by
  unfold putK
  split
  · rw [List.length_map]; omega
  · rw [List.length_append, List.length_cons, List.length_nil]; omega
theorem putK_new {kvs : List (κ × V)} {k : κ} (v : V) (h : valV kvs k = none) : putK kvs k v = kvs ++ [(k, v)] := by
  unfold putK
  rw [valV_any, h]
  exact if_neg (by decide)

theorem RelO.isSome_eq {o : Option V} {u : Option Value} (r : RelO o u) : o.isSome = u.isSome := by
  cases o with
  | none => cases u with
    | none => rfl
    | some _ => exact (show False from r).elim
  | some _ => cases u with
    | none => exact (show False from r).elim
    | some _ => rfl
theorem RelO.getD {o : Option V} {u : Option Value} {d : V} {d' : Value} (r : RelO o u) (rd : RelV d d') : RelV (o.getD d) (u.getD d') := by
  cases o with
  | none => cases u with
    | none => exact rd
    | some _ => exact (show False from r).elim
  | some _ => cases u with
    | none => exact (show False from r).elim
    | some _ => exact r

/-- raw tables of the same keys -/
theorem KV.val {kvs : List (κ × V)} {vs : List (κ × Value)} (r : KV kvs vs) (k : κ) : RelO (valV kvs k) (valueAt vs k) := by
  unfold KV at r
  induction r with
  | nil => exact True.intro
  | @cons p q ps qs h t ih =>
    obtain ⟨h1, h2⟩ := h
    by_cases e : p.1 = k
    · have e' : q.1 = k := h1.symm.trans e
      have b : valueAt (q :: qs) k = some q.2 := by simp [valueAt, List.find?_cons, e']
      rw [valV_pos e, b]; exact h2
    · have e' : ¬ q.1 = k := fun z => e (h1.trans z)
      have b : valueAt (q :: qs) k = valueAt qs k := by simp [valueAt, List.find?_cons, e']
      rw [valV_neg e, b]; exact ih
theorem KV.any {kvs : List (κ × V)} {vs : List (κ × Value)} (r : KV kvs vs) (k : κ) : (kvs.any fun kv => decide (kv.1 = k)) = vs.any fun kv => decide (kv.1 = k) := by
  unfold KV at r
  induction r with
  | nil => rfl
  | cons h t ih => rw [List.any_cons, List.any_cons, ih, h.1]
theorem KV.repl {kvs : List (κ × V)} {vs : List (κ × Value)} (r : KV kvs vs) (k : κ) {y : V} {u : Value} (ry : RelV y u) :
    KV (kvs.map fun kv => if kv.1 = k then (kv.1, y) else kv) (vs.map fun kv => if kv.1 = k then (kv.1, u) else kv) := by
  unfold KV at r ⊢
  induction r with
  | nil => exact .nil
  | @cons p q ps qs h t ih =>
    rw [List.map_cons, List.map_cons]
    refine .cons ?_ ih
    obtain ⟨h1, h2⟩ := h
    by_cases e : p.1 = k
    · rw [if_pos e, if_pos (h1.symm.trans e)]; exact ⟨h1, ry⟩
    · rw [if_neg e, if_neg (fun z => e (h1.trans z))]; exact ⟨h1, h2⟩
theorem KV.put {kvs : List (κ × V)} {vs : List (κ × Value)} (r : KV kvs vs) (k : κ) {y : V} {u : Value} (ry : RelV y u) : KV (putK kvs k y) (stored vs k u) := by
  unfold putK stored
  rw [r.any k]
  by_cases e : (vs.any fun kv => decide (kv.1 = k)) = true
  · rw [if_pos e, if_pos e]; exact r.repl k ry
  · rw [if_neg e, if_neg e]; exact Paired.snoc r ⟨rfl, ry⟩
theorem KV.drop {kvs : List (κ × V)} {vs : List (κ × Value)} (r : KV kvs vs) (k : κ) : KV (dropK kvs k) (without vs k) := by
  unfold KV at r ⊢
  unfold dropK without
  induction r with
  | nil => exact .nil
  | @cons p q ps qs h t ih =>
    obtain ⟨h1, h2⟩ := h
    rw [List.filter_cons, List.filter_cons]
    by_cases e : p.1 = k
    · have a : ¬ decide (p.1 ≠ k) = true := by simp [e]
      have b : ¬ decide (q.1 ≠ k) = true := by simp [h1.symm.trans e]
      rw [if_neg a, if_neg b]; exact ih
    · have e' : ¬ q.1 = k := fun z => e (h1.trans z)
      have a : decide (p.1 ≠ k) = true := by simp [e]
      have b : decide (q.1 ≠ k) = true := by simp [e']
      rw [if_pos a, if_pos b]; exact .cons ⟨h1, h2⟩ ih
theorem KV.keys {kvs : List (κ × V)} {vs : List (κ × Value)} (r : KV kvs vs) : kvs.map (·.1) = vs.map (·.1) := by
  unfold KV at r
  induction r with
  | nil => rfl
  | cons h t ih => rw [List.map_cons, List.map_cons, ih, h.1]
theorem KV.length {kvs : List (κ × V)} {vs : List (κ × Value)} (r : KV kvs vs) : kvs.length = vs.length := Paired.length r
end


/-! ### a tracked dict, its keys ints and texts or tuples of these -/
theorem kV_is {P : Program} {w : World} {k : Key} {u : Value} (r : RelV (kV k) u) : (mixKind P w).is k u = true := by
  cases k with
  | inl i => obtain ⟨t, e⟩ := (show ∃ t, u = Value.int i t from r); subst e; exact mixKind_int P w i t
  | inr x => obtain ⟨t, e⟩ := (show ∃ t, u = Value.str x t from r); subst e; exact mixKind_str P w x t
theorem items_are {P : Program} {w : World} : ∀ {ks : List Key} {us : List Value}, Vals (ks.map kV) us → ItemsAre (mixKind P w) ks us
  | [], _, r => by rw [List.map_nil] at r; cases r; exact .nil
  | k :: ks, _, r => by
    rw [List.map_cons] at r
    cases r with
    | cons h t => exact .cons (kV_is h) (items_are t)

/-- raw entries of a dict with tuple keys -/
abbrev KT (H : Hp) : List (List Key × V) → List (List Key × Addr × Value) → Prop := Paired fun p q => p.1 = q.1 ∧ H q.2.1 = some (.tup (p.1.map kV)) ∧ RelV p.2 q.2.2
theorem KT.val {H : Hp} {kvs : List (List Key × V)} {xs : List (List Key × Addr × Value)} (r : KT H kvs xs) (k : List Key) : RelO (valV kvs k) ((atKey xs k).map (·.2)) := by
  induction r with
  | nil => exact True.intro
  | @cons p q ps qs h t ih =>
    obtain ⟨h1, _, h2⟩ := h
    by_cases e : p.1 = k
    · have e' : q.1 = k := h1.symm.trans e
      have b : atKey (q :: qs) k = some q.2 := by simp [atKey, List.find?_cons, e']
      rw [valV_pos e, b]; exact h2
    · have e' : ¬ q.1 = k := fun z => e (h1.trans z)
      have b : atKey (q :: qs) k = atKey qs k := by simp [atKey, List.find?_cons, e']
      rw [valV_neg e, b]; exact ih
theorem KT.repl {H : Hp} {kvs : List (List Key × V)} {xs : List (List Key × Addr × Value)} (r : KT H kvs xs) (k : List Key) {y : V} {u : Value} (ry : RelV y u) :
    KT H (kvs.map fun kv => if kv.1 = k then (kv.1, y) else kv) (xs.map (putAt k u)) := by
  induction r with
  | nil => exact .nil
  | @cons p q ps qs h t ih =>
    rw [List.map_cons, List.map_cons]
    refine .cons ?_ ih
    obtain ⟨h1, h2, h3⟩ := h
    unfold putAt
    by_cases e : p.1 = k
    · rw [if_pos e, if_pos (h1.symm.trans e)]; exact ⟨h1, h2, ry⟩
    · rw [if_neg e, if_neg (fun z => e (h1.trans z))]; exact ⟨h1, h2, h3⟩
theorem KT.put {H : Hp} {kvs : List (List Key × V)} {xs : List (List Key × Addr × Value)} (r : KT H kvs xs) (k : List Key) {b : Addr} {y : V} {u : Value} (hb : H b = some (.tup (k.map kV))) (ry : RelV y u) :
    KT H (putK kvs k y) (storedH xs k b u) := by
  have e : (kvs.any fun kv => decide (kv.1 = k)) = (atKey xs k).isSome := by
    rw [valV_any, (r.val k).isSome_eq, Option.isSome_map]
  unfold putK storedH
  rw [e]
  by_cases q : (atKey xs k).isSome = true
  · rw [if_pos q, if_pos q]; exact r.repl k ry
  · rw [if_neg q, if_neg q]; exact Paired.snoc r ⟨rfl, hb, ry⟩
theorem KT.keeps {H H' : Hp} {kvs : List (List Key × V)} {xs : List (List Key × Addr × Value)} (r : KT H kvs xs) (ht : ∀ b ys, H b = some (.tup ys) → H' b = some (.tup ys)) : KT H' kvs xs :=
  Paired.mapP r fun _ _ z => ⟨z.1, ht _ _ z.2.1, z.2.2⟩

section
variable {P : Program} {w : World} {H : Hp} {h : Heap} {a : Addr}
theorem rd_of {u : HO} (ok : HOk P w H h) (e : Rd H a u) : ObjOk P w H h a u := e.ok ok
theorem dk_rd {kvs : List (Key × V)} (ok : HOk P w H h) (e : Rd H a (.dK kvs)) : kvs.length ≤ sizeLine ∧ (a == sysModules) = false ∧ ∃ vs, KV kvs vs ∧ h.DictOf (mixKind P w) a vs :=
  show ObjOk P w H h a (.dK kvs) from rd_of ok e
theorem dk_of {kvs : List (Key × V)} (ok : HOk P w H h) (e : H a = some (.dK kvs)) : kvs.length ≤ sizeLine ∧ (a == sysModules) = false ∧ ∃ vs, KV kvs vs ∧ h.DictOf (mixKind P w) a vs := dk_rd ok (.inl e)
/-- a tracked tuple of ints and texts is a key -/
theorem key_of {ks : List Key} (ok : HOk P w H h) (e : H a = some (.tup (ks.map kV))) : (tupleKind (mixKind P w)).is h ks a := by
  obtain ⟨_, its, r, o, h1, h2, n, h3⟩ := (show ObjOk P w H h a (.tup (ks.map kV)) from ok a _ e)
  exact ⟨o, its.toArray, n, h1, h2, h3, by simpa using items_are r⟩
theorem dt_rd {kvs : List (List Key × V)} (ok : HOk P w H h) (e : Rd H a (.dT kvs)) : kvs.length ≤ sizeLine ∧ (a == sysModules) = false ∧
    ∃ xs, KT H kvs xs ∧ h.DictOfH (tupleKind (mixKind P w)) a xs := by
  obtain ⟨z, y, xs, r, o, es, ep, h1, h2, h3, h4, h5⟩ := (show ObjOk P w H h a (.dT kvs) from rd_of ok e)
  refine ⟨z, y, xs, r, o, es, ep, h1, h2, h3, h4, fun x hx => ?_, h5⟩
  have all : ∀ {l : List (List Key × V)} {m : List (List Key × Addr × Value)}, KT H l m → ∀ x ∈ m, (tupleKind (mixKind P w)).is h x.1 x.2.1 := by
    intro l m q
    induction q with
    | nil => intro x hx; exact nomatch hx
    | @cons p q ps qs hq t ih =>
      intro x hx
      rcases List.mem_cons.mp hx with e | hx
      · subst e
        exact key_of ok (by rw [← hq.1]; exact hq.2.1)
      · exact ih x hx
  exact all r x hx
theorem dt_of {kvs : List (List Key × V)} (ok : HOk P w H h) (e : H a = some (.dT kvs)) : kvs.length ≤ sizeLine ∧ (a == sysModules) = false ∧
    ∃ xs, KT H kvs xs ∧ h.DictOfH (tupleKind (mixKind P w)) a xs := dt_rd ok (.inl e)
end

/-- what the dict at a holds at the key y -/
def DGet (H : Hp) (a : Addr) (y : V) (r : Option V) : Prop :=
  (∃ kvs k, Rd H a (.dK kvs) ∧ y = kV k ∧ r = valV kvs k) ∨ ∃ kvs k b, Rd H a (.dT kvs) ∧ y = .ref b ∧ H b = some (.tup (k.map kV)) ∧ r = valV kvs k
/-- the heap behind a[y] = v -/
def DPut (H : Hp) (a : Addr) (y v : V) (H' : Hp) : Prop :=
  (∃ kvs k, H a = some (.dK kvs) ∧ y = kV k ∧ kvs.length < sizeLine ∧ H' = upd H a (.dK (putK kvs k v))) ∨
  ∃ kvs k b, H a = some (.dT kvs) ∧ y = .ref b ∧ H b = some (.tup (k.map kV)) ∧ kvs.length < sizeLine ∧ H' = upd H a (.dT (putK kvs k v))
theorem DGet.k {H : Hp} {a : Addr} {kvs : List (Key × V)} {k : Key} (e : H a = some (.dK kvs)) : DGet H a (kV k) (valV kvs k) := .inl ⟨kvs, k, .inl e, rfl, rfl⟩
theorem DGet.t {H : Hp} {a b : Addr} {kvs : List (List Key × V)} {k : List Key} (e : H a = some (.dT kvs)) (eb : H b = some (.tup (k.map kV))) : DGet H a (.ref b) (valV kvs k) := .inr ⟨kvs, k, b, .inl e, rfl, eb, rfl⟩
theorem DPut.k {H : Hp} {a : Addr} {kvs : List (Key × V)} {k : Key} {v : V} (e : H a = some (.dK kvs)) (hl : kvs.length < sizeLine) : DPut H a (kV k) v (upd H a (.dK (putK kvs k v))) := .inl ⟨kvs, k, e, rfl, hl, rfl⟩
theorem DPut.t {H : Hp} {a b : Addr} {kvs : List (List Key × V)} {k : List Key} {v : V} (e : H a = some (.dT kvs)) (eb : H b = some (.tup (k.map kV))) (hl : kvs.length < sizeLine) :
    DPut H a (.ref b) v (upd H a (.dT (putK kvs k v))) := .inr ⟨kvs, k, b, e, rfl, eb, hl, rfl⟩


section
variable {X : Cx} {pins : List (Addr × Obj)} {σ : St} {H : Hp} {s : Shared} {a : Addr} {y v : V} {u r : Value} {o : Option V} {A : Around} {E : Value → Shared → Prop}

theorem Inv.big (I : Inv X pins σ H s) : sysModules < s.heap.objs.size := by
  have h : mainGlobals < s.heap.objs.size := (I.mod.glob.keeps I.bk).lt
  exact Nat.lt_trans (by decide) h

/-- d[y], there -/
theorem d_getItem {Q : Value → Shared → Prop} (hu : A.units + 1 < cLine) (I : Inv X pins σ H s) (g : DGet H a y (some v)) (ry : RelV y u) (h : ∀ w' s', Inv X pins σ H s' → RelV v w' → Q w' s') :
    wpAny (model X.prog X.w) A (getItem (.ref a) u) Q E s := by
  rcases g with ⟨kvs, k, e, ey, l⟩ | ⟨kvs, k, b, e, ey, eb, l⟩
  · subst ey
    obtain ⟨z, hd, vs, rel, dd⟩ := dk_rd I.hok e
    obtain ⟨w', hw, rw'⟩ := RelO.some_of (v := v) (o := valueAt vs k) (by rw [l]; exact rel.val k)
    exact wpAny_getItem_of (kV_is ry) dd.mapOf hw (h w' _ (I.tok _) rw')
  · subst ey
    cases (show u = Value.ref b from ry)
    obtain ⟨z, hd, xs, rel, dd⟩ := dt_rd I.hok e
    obtain ⟨w', hw, rw'⟩ := RelO.some_of (v := v) (o := (atKey xs k).map (·.2)) (by rw [l]; exact rel.val k)
    obtain ⟨p, hp, hp2⟩ := Option.map_eq_some_iff.mp hw
    refine wpAny_getItem_heap (tupleKind_room_in1 hu) (key_of I.hok eb) dd hp ?_
    rw [hp2]
    exact h w' _ (I.tok _) rw'
/-- a dict's object is replaced -/
theorem d_write {h' : Heap} {t' : Nat} {ob : HO} (I : Inv X pins σ H s) (mu : Mut (H a)) (hs : Heap.SameBut a s.heap h') (he : ∃ q, h'.get? a = some q) (new : ObjOk X.prog X.w (upd H a ob) h' a ob) :
    Inv X pins σ (upd H a ob) { s with heap := h', toks := t' } :=
  I.write (x := a) (e := a) mu (.inl rfl) (fun b q hb z => (hs.2 b hb).trans z) he new
theorem dk_new {P : Program} {w : World} {H' : Hp} {h' : Heap} {kvs : List (Key × V)} {vs : List (Key × Value)} (z : kvs.length ≤ sizeLine) (hd : (a == sysModules) = false) (rel : KV kvs vs) (dd : h'.DictOf (mixKind P w) a vs) :
    ObjOk P w H' h' a (.dK kvs) := ⟨z, hd, vs, rel, dd⟩
/-- d[y] = v -/
theorem d_setItem {H' : Hp} {Q : Unit → Shared → Prop} (hu : A.units + 1 < cLine) (I : Inv X pins σ H s) (g : DPut H a y v H') (ry : RelV y u) (rv : RelV v r) (h : ∀ s', Inv X pins σ H' s' → Q () s') :
    wpAny (model X.prog X.w) A (setItem (.ref a) u r) Q E s := by
  rcases g with ⟨kvs, k, e, ey, l, eH⟩ | ⟨kvs, k, b, e, ey, eb, l, eH⟩
  · subst ey eH
    obtain ⟨z, hd, vs, rel, dd⟩ := dk_of I.hok e
    have hz : vs.length ≤ sizeLine := by rw [← rel.length]; exact z
    have hl : (putK kvs k v).length ≤ sizeLine := by have := length_putK kvs k v; omega
    refine wpAny_setItem_pairs (hsz := hz) (kV_is ry) dd fun h' dd' hs => h _ ?_
    have he : ∃ q, h'.get? a = some q := let ⟨q, _, _, hq, _⟩ := dd'; ⟨q, hq⟩
    exact d_write I (by rw [e]; exact True.intro) hs he (dk_new hl hd (rel.put k rv) dd')
  · subst ey eH
    cases (show u = Value.ref b from ry)
    obtain ⟨z, hd, xs, rel, dd⟩ := dt_of I.hok e
    have hz : xs.length ≤ sizeLine := by rw [← Paired.length rel]; exact z
    have hl : (putK kvs k v).length ≤ sizeLine := by have := length_putK kvs k v; omega
    refine wpAny_setItem_heap (hsz := hz) (tupleKind_room_in1 hu) (key_of I.hok eb) dd fun h' dd' hs => h _ ?_
    obtain ⟨q, es, ep, hq, h2, h3, h4, _, h5⟩ := dd'
    refine d_write I (by rw [e]; exact True.intro) hs ⟨q, hq⟩ ⟨hl, hd, _, (rel.put k eb rv).keeps fun c ys ec => ?_, q, es, ep, hq, h2, h3, h4, h5⟩
    rw [upd_ne (ne_of ec e (fun z => nomatch z))]
    exact ec
end

section
variable {X : Cx} {pins : List (Addr × Obj)} {σ : St} {H : Hp} {s : Shared} {a : Addr} {kvs : List (Key × V)} {k : Key} {u : Value} {A : Around} {E : Value → Shared → Prop}
end


/-! ### readings and rules -/
/-- the element of a subscription, not a slice -/
def NoSl (i : Expr) : Prop := ∀ ov iv, subscripted i false ov iv = operate [ov, iv] (getItem ov iv)
theorem subD_of {prog : Program} {w : World} {A : Around} {E : Value → Shared → Prop} {s : Shared} {env : Env} {value slice : Expr} {pos : Pos} {T id : String} {Q : Value → Shared → Prop}
    (hl : typeLookup (.type T) "__getitem__" = pure (some (.builtin id))) (hs : NoSl slice)
    (h : wpAny (model prog w) A (eval value env) (fun o s₁ => wpAny (model prog w) A (eval slice env) (fun i s₂ => s₂.TypeIs o T ∧ wpAny (model prog w) A (getItem o i) Q E s₂) E s₁) E s) :
    wpAny (model prog w) A (eval (.Subscript value slice pos) env) Q E s := by
  refine Subscript_ (wpAny_mono h (fun o s₁ h₁ => wpAny_mono h₁ (fun i s₂ h₂ => ?_) fun _ _ x => x) fun _ _ x => x)
  obtain ⟨hT, h₂⟩ := h₂
  unfold subscriptTail
  refine wpAny_bind ?_
  rw [getitemInPython_of_ne hT.not_modules]
  refine wpAny_bind (wpAny_specialOf hT hl ?_)
  have fin : wpAny (model prog w) A (subscripted slice false o i) (fun r s₃ => wpAny (model prog w) A (letTemporaryGo value o r >>= fun _ => pure r) Q E s₃) E s₂ := by
    rw [hs o i]
    exact wpAny_operating (wpAny_mono h₂ (fun r s₃ h₃ => wpAny_bind (wpAny_letTemporaryGo (wpAny_pure h₃))) fun _ _ x => x)
  first
    | exact wpAny_pure (wpAny_bind fin)
    | exact wpAny_bind (wpAny_pure (wpAny_bind fin))
    | exact wpAny_bind fin

theorem dict_typeIs {X : Cx} {pins : List (Addr × Obj)} {σ : St} {H : Hp} {s : Shared} {a : Addr} {y : V} {o : Option V} (I : Inv X pins σ H s) (g : DGet H a y o) : s.TypeIs (.ref a) "dict" := by
  rcases g with ⟨kvs, k, e, _, _⟩ | ⟨kvs, k, b, e, _, _, _⟩
  · obtain ⟨_, _, vs, _, dd⟩ := dk_rd I.hok e
    exact dd.typeIs
  · obtain ⟨_, _, xs, _, dd⟩ := dt_rd I.hok e
    exact dd.typeIs

/-- d[y] -/
def tDGet (td ty : TE) : TE := fun σ H Q => td σ H fun x H1 => ty σ H1 fun y H2 => ∃ a v, x = .ref a ∧ DGet H2 a y (some v) ∧ Q v H2
/-- d[y] = v -/
def sDPut (td ty tv : TE) : TS := fun D σ H => tv σ H fun v H1 => td σ H1 fun x H2 => ty σ H2 fun y H3 => ∃ a H4, x = .ref a ∧ DPut H3 a y v H4 ∧ D.nx σ H4

section
variable {X : Cx} {o i e value : Expr} {pos pos' tpos : Pos} {td ty tv : TE}
theorem pe_dget (hu : X.A.units + 1 < cLine) (ho : PE X o td) (hi : PE X i ty) (hs : NoSl i) : PE X (.Subscript o i pos) (tDGet td ty) := by
  intro pins s σ H Q I h
  refine subD_of PySem.F.slot_dict_getitem.lookup hs (thn (ho pins s σ H _ I h) fun u s1 ⟨x, H1, I1, rx, q1⟩ => thn (hi pins s1 σ H1 _ I1 q1) fun iv s2 ⟨y, H2, I2, ry, a, v, ex, g, q2⟩ => ?_)
  subst ex
  obtain rfl : u = Value.ref a := rx
  exact ⟨dict_typeIs I2 g, d_getItem hu I2 g ry fun w' s3 I3 rw' => ⟨v, H2, I3, rw', q2⟩⟩
theorem ps_dput (hu : X.A.units + 1 < cLine) (ho : PE X o td) (hi : PE X i ty) (hv : PE X value tv) (hs : swapsWith value (some (.Subscript o i pos')) pos.line X.env = pure false) :
    PS X (.Assign [.Subscript o i pos'] value pos) (sDPut td ty tv) := by
  intro pins s σ H D I h
  refine wpAny_Assign_Subscript (thn (hv pins s σ H _ I h) fun r s1 ⟨v, H1, I1, rv, q1⟩ => thn (ho pins s1 σ H1 _ I1 q1) fun u s2 ⟨x, H2, I2, rx, q2⟩ => thn (hi pins s2 σ H2 _ I2 q2) fun iv s3 ⟨y, H3, I3, ry, a, H4, ex, g, q3⟩ => ?_) hs
  subst ex
  obtain rfl : u = Value.ref a := rx
  exact d_setItem hu I3 g ry rv fun s4 I4 => ⟨σ, H4, I4, q3⟩
end


/-! ### displays -/
theorem dk_empty {P : Program} {w : World} {H : Hp} (h : Heap) (hb : sysModules < h.objs.size) : ObjOk P w H (h.push { cls := .type "dict", data := .dict #[] }) h.objs.size (.dK []) :=
  ⟨Nat.zero_le _, beq_eq_false_iff_ne.mpr (Ne.symm (Nat.ne_of_lt hb)), [], .nil, Heap.DictOf.new h⟩
/-- {}, to be a dict of the kind that is wanted -/
def tDNewK : TE := fun _ H Q => ∀ p, H p = none → Q (.ref p) (upd H p (.dK []))
section
variable {X : Cx} {pos : Pos}
theorem pe_dnewK : PE X (.Dict [] [] pos) tDNewK := fun pins s σ H Q I h =>
  wpAny_Dict_empty ⟨.ref s.heap.objs.size, _, I.laid (a := s.heap.objs.size) (o := .dK []) (t' := s.toks) (fun _ _ q => Heap.get?_push_of_some _ q) (Nat.le_refl _) (dk_empty s.heap I.big), rfl, h _ (I.hok.fresh (Nat.le_refl _))⟩
end




/-! ### methods -/
/-- a method call o.m(e) of a built-in, with one argument: what must be seen of the text -/
structure M1 (X : Cx) (o : Expr) (m : Str) (apos : Pos) (e : Expr) (cpos : Pos) : Prop where
  base : attributeBase o m X.env (eval o X.env) = eval o X.env
  few : ((backTo cpos (starEach [e] X.env)).all (fun x => !x.1) && (backToKw cpos (keywordEach [] X.env)).all (fun x => x.1.isSome)
    && decide (([e] : List Expr).length + ([] : List Keyword).length + (if ([] : List Keyword).isEmpty then 0 else 1) < 30)) = true
  line : (apos.endLine == cpos.line) = true
  trees : backTo cpos (starEach [e] X.env) = [(false, eval e X.env)]
structure M2 (X : Cx) (o : Expr) (m : Str) (apos : Pos) (e f : Expr) (cpos : Pos) : Prop where
  base : attributeBase o m X.env (eval o X.env) = eval o X.env
  few : ((backTo cpos (starEach [e, f] X.env)).all (fun x => !x.1) && (backToKw cpos (keywordEach [] X.env)).all (fun x => x.1.isSome)
    && decide (([e, f] : List Expr).length + ([] : List Keyword).length + (if ([] : List Keyword).isEmpty then 0 else 1) < 30)) = true
  line : (apos.endLine == cpos.line) = true
  trees : backTo cpos (starEach [e, f] X.env) = [(false, eval e X.env), (false, eval f X.env)]


section
variable {X : Cx} {pins : List (Addr × Obj)} {σ : St} {H : Hp} {s : Shared} {a : Addr} {y d : V} {u r : Value} {o : Option V} {A : Around} {E : Value → Shared → Prop}
end

section
variable {X : Cx} {o e f : Expr} {apos cpos : Pos} {td ty tx : TE}
end

/-! ### dict(d): a copy -/
section
variable {X : Cx} {pins : List (Addr × Obj)} {σ : St} {H : Hp} {s : Shared} {a : Addr} {kvs : List (Key × V)} {A : Around} {E : Value → Shared → Prop}
end


section
variable {X : Cx} {pins : List (Addr × Obj)} {σ : St} {H : Hp} {s : Shared} {a : Addr} {y : V} {u : Value} {A : Around} {E : Value → Shared → Prop}
end
end L2


namespace L2
open PySem PySem.Spec PyProof.Rows
/-! ### sum of a list of numbers of any size -/
section
variable {X : Cx}
theorem call_sumG (hc : X.calm = true) : CallR X (.builtin "sum") (fun xs H Q => ∃ (p : Addr) (ns : List Int), xs = [.ref p] ∧ H p = some (.lst (ns.map V.int)) ∧ Q (.int ns.sum) H) := by
  intro pins s σ H xs us Q I r h
  obtain ⟨p, ns, rfl, hp, q⟩ := h
  obtain ⟨u, rfl, rx⟩ := vals1 r
  cases rx
  obtain ⟨_, its, n, rv, hlen, e1⟩ := I.lstM hp
  have isl : s.heap.IsList p its.toArray := ⟨_, e1, rfl, n, rfl⟩
  have below : p < s.heap.objs.size := Heap.lt_size e1
  have hil : its.length = ns.length := by rw [← hlen, List.length_map]
  refine call_sum_walkG (wpAny_pyIter_list isl ?_)
  refine ⟨s.heap.objs.size, [s.heap.objs.size, p], [s.heap.objs.size], _, _, _, fun i => ns.getD i 0, rfl, Walks.list (by first | exact I.ok.hd hc | (show X.A.in1.handled = none; exact I.ok.hd hc)) s.heap.objs.size p (Nat.ne_of_lt below) its.toArray, ⟨⟨_, Heap.get?_push_size _ rfl, rfl, rfl⟩, isl.at fun o q => Heap.get?_push_of_some _ q⟩, ?_, ?_, ?_⟩
  · intro b hb
    rw [Heap.size_push]
    simp only [List.mem_cons, List.not_mem_nil, or_false] at hb
    rcases hb with rfl | rfl
    · exact Nat.lt_succ_self _
    · exact Nat.lt_succ_of_lt below
  · intro i v hv
    have hi : i < ns.length := by
      have := (Array.getElem?_eq_some_iff.mp hv).1
      simp at this; omega
    obtain ⟨u, hu, ru⟩ := rv.get (show (ns.map V.int)[i]? = some (.int ns[i]) by simp [hi])
    have : its[i]? = some v := by simpa using hv
    rw [hu] at this
    cases this
    obtain ⟨t, rfl⟩ := ru
    exact ⟨t, by simp [hi]⟩
  · intro h' tk t' hk
    refine ⟨.int ns.sum, H, ?_, ⟨t', ?_⟩, q⟩
    · exact I.kept (h' := h') (t' := tk) fun b o e => hk b o (by simp; exact Nat.ne_of_lt (Heap.lt_size e)) (Heap.get?_push_of_some _ e)
    · rw [show its.toArray.size = ns.length by simp [hil], preSum_take _ (Nat.le_refl _), List.take_length]
variable {e : Expr} {te : TE} {p pos : Pos}
def tSumG (te : TE) : TE := fun σ H Q => te σ H fun x H1 => ∃ (a : Addr) (ns : List Int), x = .ref a ∧ H1 a = some (.lst (ns.map V.int)) ∧ Q (.int ns.sum) H1
theorem pe_sumG (hc : X.calm = true) (hm : X.mg "sum" = none) (ha : PE X e te) (hg : Gl X "sum" := by rfl) (he : starEach [e] X.env = [(false, eval e X.env)] := by rfl) : PE X (.Call (.Name "sum" p) [e] [] pos) (tSumG te) :=
  pe_callB (r := r1 fun x H Q => ∃ (a : Addr) (ns : List Int), x = .ref a ∧ H a = some (.lst (ns.map V.int)) ∧ Q (.int ns.sum) H) (callR1 fun pins s σ H x us Q I rv ⟨a, ns, ex, h1, q⟩ => call_sumG hc pins s σ H _ us Q I rv ⟨a, ns, by rw [ex], h1, q⟩) hg hm bt_sum (pa_cons ha pa_nil (by exact he)) (he := by exact he)
end
/-! ### the walk of a comprehension over enumerate -/
/-! ### a dict of numbers by numbers -/
/-- at w there lies a dict that tells f at each of qs -/
def DictN (H : Hp) (w : Addr) (qs : List Nat) (f : Nat → Int) : Prop := ∃ kvs : List (Key × V), H w = some (.dK kvs) ∧ kvs.length ≤ qs.length ∧ (∀ q ∈ qs, valV kvs (.inl (q : Int)) = some (.int (f q))) ∧ ∀ k : Int, (∀ q ∈ qs, (q : Int) ≠ k) → valV kvs (.inl k) = none
theorem DictN.new {H : Hp} {w : Addr} {f : Nat → Int} (h : H w = some (.dK [])) : DictN H w [] f := ⟨[], h, Nat.le_refl _, fun q hq => absurd hq (List.not_mem_nil), fun _ _ => rfl⟩
theorem DictN.get {H : Hp} {w : Addr} {qs : List Nat} {f : Nat → Int} (h : DictN H w qs f) {q : Nat} (hq : q ∈ qs) : DGet H w (.int (q : Int)) (some (.int (f q))) := by
  obtain ⟨kvs, h1, _, h2, _⟩ := h
  have := DGet.k (k := .inl (q : Int)) h1
  rw [h2 q hq] at this
  exact this
theorem DictN.put {H : Hp} {w : Addr} {qs : List Nat} {f : Nat → Int} (h : DictN H w qs f) {q : Nat} {z : Int} (hz : z = f q) (hl : qs.length < 1000) : ∃ H', DPut H w (.int (q : Int)) (.int z) H' ∧ DictN H' w (qs ++ [q]) f ∧ ∀ b o, H b = some o → b ≠ w → H' b = some o := by
  subst hz
  obtain ⟨kvs, h1, h2, h3, h4⟩ := h
  refine ⟨_, DPut.k (k := .inl (q : Int)) h1 (Nat.lt_of_le_of_lt h2 (Nat.lt_of_lt_of_le hl (by decide))), ⟨_, upd_same, ?_, fun p hp => ?_, fun k hk => ?_⟩, fun b o e ne => by rw [upd_ne ne]; exact e⟩
  · rw [List.length_append, List.length_singleton]
    have := length_putK kvs (.inl (q : Int)) (.int (f q))
    omega
  · rw [valV_put]
    by_cases e : p = q
    · subst e; rw [if_pos rfl]
    · rw [if_neg (fun z => e (by have := Sum.inl.inj z; omega))]
      rcases List.mem_append.mp hp with hp | hp
      · exact h3 p hp
      · exact absurd (List.mem_singleton.mp hp) e
  · rw [valV_put, if_neg (fun z => hk q (by simp) (Sum.inl.inj z).symm)]
    exact h4 k fun p hp => hk p (List.mem_append_left _ hp)
/-! ### name = [comprehension with several names] -/
/-! ### for over reversed(list) -/
end L2

namespace L2
open PySem PySem.Spec PyProof.Rows
/-! ### d.setdefault(k, x), keys that are tuples -/
section
variable {prog : Program} {w : World} {κ : Type} [DecidableEq κ] {knd : HeapKind prog w κ} {A : Around} {E : Value → Shared → Prop} {s : Shared}
end
theorem KT.snoc {H : Hp} {kvs : List (List Key × V)} {xs : List (List Key × Addr × Value)} (r : KT H kvs xs) {k : List Key} {c : Addr} {y : V} {u : Value} (hc : H c = some (.tup (k.map kV))) (ry : RelV y u) : KT H (kvs ++ [(k, y)]) (xs ++ [(k, c, u)]) :=
  Paired.snoc r ⟨rfl, hc, ry⟩
section
variable {X : Cx} {pins : List (Addr × Obj)} {σ : St} {H : Hp} {s : Shared} {a c : Addr} {kvs : List (List Key × V)} {k : List Key} {v : V} {r : Value} {A : Around} {E : Value → Shared → Prop}
end
/-! ### tuple(list) -/
section
variable {X : Cx} {e : Expr} {te : TE} {p pos : Pos}
end
/-! ### a dict is held still -/
theorem Inv.still {X : Cx} {pins : List (Addr × Obj)} {σ : St} {H : Hp} {s : Shared} {a : Addr} {kvs : List (List Key × V)} (I : Inv X pins σ H s) (e : H a = some (.dT kvs)) :
    ∃ o, s.heap.get? a = some o ∧ Inv X pins σ (upd H a (.frz o (.dT kvs))) s := by
  obtain ⟨z, hd, xs, rel, o, es, ep, h1, h2, h3, h4, h5⟩ := (show ObjOk X.prog X.w H s.heap a (.dT kvs) from I.hok a _ e)
  refine ⟨o, h1, d_write (h' := s.heap) (t' := s.toks) I (by rw [e]; exact True.intro) ⟨rfl, fun _ _ => rfl⟩ ⟨o, h1⟩ ⟨h1, z, hd, xs, KT.keeps rel fun b ys eb => ?_, o, es, ep, h1, h2, h3, h4, h5⟩⟩
  rw [upd_ne (ne_of eb e (fun z => nomatch z))]
  exact eb
/-! ### for x in d.values() -/
section
variable {prog : Program} {w : World} {A : Around} {E : Value → Shared → Prop} {s : Shared} {it d : Addr} {i n ep : Nat} {od : Obj} {es : Array DictEntry}
end
/-! ### in, not in a list of data -/
/-! ### a comprehension over a tuple -/
end L2

namespace L2
open PySem PySem.Spec PyProof.Rows
/-! ### f-strings of written texts and numbers -/
section
variable {X : Cx}
end
end L2

namespace L2
open PySem PySem.Spec PyProof.Rows
/-! ### for k, x in d.items() -/
section
variable {prog : Program} {w : World} {A : Around} {E : Value → Shared → Prop} {s : Shared} {it d : Addr} {i n ep : Nat} {od : Obj} {es : Array DictEntry}
end
end L2

namespace L2
open PySem PySem.Spec PyProof.Rows
/-! ### min(xs, key=len, default=d) of a list of lists -/
section
variable {s : Shared} {prog : Program} {w : World} {A : Around} {E : Value → Shared → Prop}
def Grown (h0 h : Heap) : Prop := ∀ b o, h0.get? b = some o → h.get? b = some o
theorem Grown.but {h0 h h' : Heap} {a : Addr} (g : Grown h0 h) (n : h0.get? a = none) (k : ∀ b o, b ≠ a → h.get? b = some o → h'.get? b = some o) : Grown h0 h' := fun b o e => k b o (fun z => by rw [z, n] at e; cases e) (g b o e)
end
end L2

namespace L2
open PySem PySem.Spec PyProof.Rows
/-! ### < of lists of numbers, and of pairs of a number and such a list -/
def ltL : List Int → List Int → Bool
  | [], [] => false
  | [], _ :: _ => true
  | _ :: _, [] => false
  | x :: xs, y :: ys => if x = y then ltL xs ys else decide (x < y)
theorem ltL_nil_left : ∀ ys : List Int, ltL [] ys = decide (0 < ys.length)
  | [] => rfl
  | _ :: _ => by simp [ltL]
theorem ltL_nil_right : ∀ xs : List Int, ltL xs [] = false
  | [] => rfl
  | _ :: _ => rfl
section
open SeqAt MeetsSeq MeetsSeq2 MeetsSeq3 SeqRoads2
open AutoSeq1 (wpAny_loadPart')
def LtAt (A : Around) (s : Shared) (y x : Value) (b : Bool) : Prop := ∀ (prog : Program) (w : World) (E : Value → Shared → Prop) (Q : Value → Shared → Prop), Q (.bool b) s → wpAny (model prog w) A (richCompare .Lt y x) Q E s
theorem LtAt.ints {A : Around} {s : Shared} {i j : Int} {t u : Tok} : LtAt A s (.int i t) (.int j u) (decide (i < j)) := fun prog w E Q h =>
  richCompare_gives (op := .Lt) (typeIs_int s _ t) (typeIs_int s _ u) F.slot_int_lt F.entry_int_lt (F.args_int_lt_2 _ _) (gives_int_lt _ _ t u) (fun x => nomatch x) h
/-- items that are these numbers -/
def Nums (xs : List Int) (items : Array Value) : Prop := items.size = xs.length ∧ ∀ (j : Nat) (h : j < items.size), ∃ (x : Int) (t : Tok), xs[j]? = some x ∧ items[j] = .int x t
theorem eqI {A : Around} {s : Shared} {i j : Int} {t u : Tok} : EqAt A s (.int i t) (.int j u) (decide (i = j)) := by
  have := eqAt_V (A := A) (s := s) (y := .int i) (x := .int j) (u := .int i t) (v := .int j u) ⟨t, rfl⟩ ⟨u, rfl⟩ rfl rfl
  have e : eqV (.int i) (.int j) = decide (i = j) := by show (i == j) = _; by_cases h : i = j <;> simp [h]
  rw [e] at this
  exact this
theorem lt_loop {l b : Addr} {items items2 : Array Value} {n n2 : Nat} {dd dd2 : Option Addr} {sl sl2 : Array (Option Value)} {xs ys : List Int} (N1 : Nums xs items) (N2 : Nums ys items2) (k : Nat) :
    ∀ i : Nat, items.size - i = k → i ≤ items.size → i ≤ items2.size → Meets (Builtin.«list.__eq__.loop» ⟨[.ref l, .ref b, rawInt i, rawInt 0], []⟩)
      (fun A R s => s.heap.get? l = some { cls := .type "list", dict := dd, data := .seq items n, slots := sl } ∧ s.heap.get? b = some { cls := .type "list", dict := dd2, data := .seq items2 n2, slots := sl2 } ∧ R (.ok (.ret (.bool (ltL (xs.drop i) (ys.drop i))))) s) := by
  induction k with
  | zero =>
    intro i hk hle hle2 prog w A R s h
    obtain ⟨hp, g, d, tk, os⟩ := s; obtain ⟨hl, hb, h⟩ := h
    wp_walk using wpAny_loadPart' hl, wpAny_loadPart' hb
    have none1 : items[((i : Nat) : Int).toNat]? = none := by simp; omega
    have e1 : xs.drop i = [] := List.drop_eq_nil_of_le (by rw [← N1.1]; omega)
    rw [e1, ltL_nil_left, List.length_drop, ← N2.1] at h
    rw [none1]
    wp_walk using wpAny_loadPart' hl, wpAny_loadPart' hb
    have e2 : decide (items.size < items2.size) = decide (0 < items2.size - i) := decide_eq_decide.mpr (by omega)
    show R (.ok (.ret (.bool (decide (items.size < items2.size))))) _
    rw [e2]
    exact h
  | succ k ih =>
    intro i hk hle hle2 prog w A R s h
    obtain ⟨hp, g, d, tk, os⟩ := s; obtain ⟨hl, hb, h⟩ := h
    have lt1 : i < items.size := by omega
    by_cases lt2 : i < items2.size
    · obtain ⟨x, t, hx, ex⟩ := N1.2 i lt1
      obtain ⟨y, u, hy, ey⟩ := N2.2 i lt2
      have dx : xs.drop i = x :: xs.drop (i + 1) := by
        obtain ⟨q1, q2⟩ := List.getElem?_eq_some_iff.mp hx
        rw [List.drop_eq_getElem_cons q1, q2]
      have dy : ys.drop i = y :: ys.drop (i + 1) := by
        obtain ⟨q1, q2⟩ := List.getElem?_eq_some_iff.mp hy
        rw [List.drop_eq_getElem_cons q1, q2]
      wp_walk using wpAny_loadPart' hl, wpAny_loadPart' hb
      have at1 : items[((i : Nat) : Int).toNat]? = some (.int x t) := by simp [lt1, ex]
      have at2 : items2[((i : Nat) : Int).toNat]? = some (.int y u) := by simp [lt2, ey]
      have hc : ((i : Int) + 1) = ((i + 1 : Nat) : Int) := by push_cast; rfl
      rw [dx, dy] at h
      simp only [ltL] at h
      rw [at1, at2]
      refine wpAny_bind (eqI prog w _ _ ?_)
      by_cases exy : x = y
      · rw [if_pos exy] at h
        rw [decide_eq_true exy]
        wp_walk
        rw [hc]
        exact ⟨plainId_quiet plain_eq_loop _, codeAny_builtin entry_eq_loop (by
          rw [Around.under_plainId plain_eq_loop _]
          exact ih (i + 1) (by omega) (by omega) (by omega) prog w A R _ ⟨hl, hb, h⟩)⟩
      · rw [if_neg exy] at h
        rw [decide_eq_false exy]
        wp_walk using wpAny_loadPart' hl, wpAny_loadPart' hb
        rw [at1, at2]
        refine wpAny_bind (LtAt.ints prog w _ _ ?_)
        wp_walk
        exact h
    · wp_walk using wpAny_loadPart' hl, wpAny_loadPart' hb
      obtain ⟨x, t, hx, ex⟩ := N1.2 i lt1
      have at1 : items[((i : Nat) : Int).toNat]? = some (.int x t) := by simp [lt1, ex]
      have none2 : items2[((i : Nat) : Int).toNat]? = none := by simp; omega
      have e1 : ys.drop i = [] := List.drop_eq_nil_of_le (by rw [← N2.1]; omega)
      rw [e1, ltL_nil_right] at h
      rw [at1, none2]
      wp_walk using wpAny_loadPart' hl, wpAny_loadPart' hb
      have e2 : decide (items.size < items2.size) = false := decide_eq_false (by omega)
      show R (.ok (.ret (.bool (decide (items.size < items2.size))))) _
      rw [e2]
      exact h
theorem list_lt {l b : Addr} {items items2 : Array Value} {n n2 : Nat} {dd dd2 : Option Addr} {sl sl2 : Array (Option Value)} {xs ys : List Int} (N1 : Nums xs items) (N2 : Nums ys items2) : Meets (Builtin.«list.__lt__» ⟨[.ref l, .ref b], []⟩)
    (fun A R s => s.heap.get? l = some { cls := .type "list", dict := dd, data := .seq items n, slots := sl } ∧ s.heap.get? b = some { cls := .type "list", dict := dd2, data := .seq items2 n2, slots := sl2 } ∧ R (.ok (.ret (.bool (ltL xs ys)))) s) := by
  intro prog w A R s h
  obtain ⟨hp, g, d, tk, os⟩ := s; obtain ⟨hl, hb, h⟩ := h
  have sub := AutoSeq1.sub_list_list
  wp_walk using wpAny_loadPart' hl, wpAny_loadPart' hb
  exact ⟨plainId_quiet plain_eq_loop _, codeAny_builtin entry_eq_loop (by
    rw [Around.under_plainId plain_eq_loop _]
    exact lt_loop N1 N2 _ 0 rfl (Nat.zero_le _) (Nat.zero_le _) prog w A R _ ⟨hl, hb, by simpa using h⟩)⟩
theorem LtAt.lists {A : Around} {s : Shared} {l b : Addr} {items items2 : Array Value} {xs ys : List Int} (hl : s.heap.IsList l items) (hb : s.heap.IsList b items2) (N1 : Nums xs items) (N2 : Nums ys items2) (hu : A.units < cLine) : LtAt A s (.ref l) (.ref b) (ltL xs ys) := fun prog w E Q h => by
  obtain ⟨⟨cls, dd, data, sl⟩, ho, hc, n, hd⟩ := id hl
  obtain ⟨⟨cls2, dd2, data2, sl2⟩, ho2, hc2, n2, hd2⟩ := id hb
  simp only at hc hd hc2 hd2; subst hc hd hc2 hd2
  exact richCompare_meets_room (op := .Lt) ⟨_, ho, rfl⟩ ⟨_, ho2, rfl⟩ F.slot_list_lt F.entry_list_lt (F.args_list_lt_2 _ _) (list_lt N1 N2) ⟨ho, ho2, show Value.bool (ltL xs ys) ≠ Value.notImplemented ∧ Q (.bool (ltL xs ys)) s from ⟨(fun x => nomatch x), h⟩⟩ hu
end
end L2

namespace L2
open PySem PySem.Spec PyProof.Rows
/-! ### short forms, so that the terms stay small -/
theorem us1 {C : List Value → Prop} (h : ∀ a, C [a]) : ∀ us : List Value, us.length = 1 → C us
  | [a], _ => h a
theorem us2 {C : List Value → Prop} (h : ∀ a b, C [a, b]) : ∀ us : List Value, us.length = 2 → C us
  | [a, b], _ => h a b
theorem us3 {C : List Value → Prop} (h : ∀ a b c, C [a, b, c]) : ∀ us : List Value, us.length = 3 → C us
  | [a, b, c], _ => h a b c
theorem us4 {C : List Value → Prop} (h : ∀ a b c d, C [a, b, c, d]) : ∀ us : List Value, us.length = 4 → C us
  | [a, b, c, d], _ => h a b c d
theorem for_listA {K : PySem.W.Frag} {a : Addr} {xs : List V} {g : TG} {tb : TS} {D : Ends} {σ : St} {H : Hp} (Pv : Nat → St → Hp → Prop) (h0 : Pv 0 σ H) (hl : ∀ i σ H, i ≤ xs.length → Pv i σ H → SqL K H a xs)
    (hs : ∀ (D2 : Ends) i x σ H, (∀ σ' H', Pv (i + 1) σ' H' → D2.nx σ' H') → xs[i]? = some x → Pv i σ H → g x σ H fun σ2 H2 => tb D2 σ2 H2) (hd : ∀ σ H, Pv xs.length σ H → D.nx σ H) : FW (Itl K a) g tb D σ H :=
  for_list Pv h0 hl (fun i x σ H hx p => hs _ i x σ H (fun _ _ h => h) hx p) hd
theorem for_rangeA {lo : Int} {n : Nat} {g : TG} {tb : TS} {D : Ends} {σ : St} {H : Hp} (Pv : Nat → St → Hp → Prop) (h0 : Pv 0 σ H)
    (hs : ∀ (D2 : Ends) i σ H, (∀ σ' H', Pv (i + 1) σ' H' → D2.nx σ' H') → i < n → Pv i σ H → g (.int (lo + i)) σ H fun σ2 H2 => tb D2 σ2 H2) (hd : ∀ σ H, Pv n σ H → D.nx σ H) : FW (Itr lo n) g tb D σ H :=
  for_range Pv h0 (fun i σ H hx p => hs _ i σ H (fun _ _ h => h) hx p) hd
end L2

namespace L2
open PySem PySem.Spec PyProof.Rows
/-! ### walking a text; list(range(0, b, c)) -/
section
variable {X : Cx} {tg : Expr}
end
section
variable {X : Cx} {a b c : Expr} {ta : TA} {p p2 pos pos2 : Pos}
end
end L2

namespace L2
open PySem PySem.Spec PyProof.Rows
/-! ### min of a list of triples (number, number, number or list of numbers) -/
abbrev K3 := Int × Int × List Int
def lt3 (x y : K3) : Bool := ltL (x.1 :: x.2.1 :: x.2.2) (y.1 :: y.2.1 :: y.2.2)
section
variable {s : Shared} {prog : Program} {w : World} {A : Around} {E : Value → Shared → Prop}
end
section
open SeqAt MeetsSeq MeetsSeq2 MeetsSeq3 SeqRoads2
open AutoSeq1 (wpAny_loadPart')
end
/-- a triple that stands at an address, its last part a number or a list of numbers -/
def Trip (isL : Bool) (H : Hp) (c : Addr) (k : K3) : Prop := match isL with
  | false => ∃ d : Int, k.2.2 = [d] ∧ H c = some (.tup [.int k.1, .int k.2.1, .int d])
  | true => ∃ g : Addr, H c = some (.tup [.int k.1, .int k.2.1, .ref g]) ∧ H g = some (.lst (k.2.2.map V.int))
/-- triples in a list, by their keys -/
structure Trips (isL : Bool) (H : Hp) (cs : List Addr) (ks : List K3) : Prop where
  len : cs.length = ks.length
  at_ : ∀ (i : Nat) (c : Addr) (k : K3), cs[i]? = some c → ks[i]? = some k → Trip isL H c k
section
variable {X : Cx} {e d : Expr} {te td : TE} {p pos kp : Pos} {k : Nat}
end
end L2

namespace L2
open PySem PySem.Spec PyProof.Rows
/-! ### for x in reversed(range(n)) -/
section
variable {prog : Program} {w : World} {A : Around} {E : Value → Shared → Prop} {s : Shared}
end
section
variable {X : Cx} {tg a : Expr} {ta : TA} {p p2 pos pos2 : Pos}
end
end L2

namespace L2
open PySem PySem.Spec PyProof.Rows
/-! ### in and not in a dict, as operators -/
/-! ### zip of two tuples -/
section
variable {prog : Program} {w : World} {A : Around} {E : Value → Shared → Prop} {s : Shared}
theorem IsTup.at {h h' : Heap} {a : Addr} {items : Array Value} (x : h.IsTuple a items) (k : ∀ o, h.get? a = some o → h'.get? a = some o) : h'.IsTuple a items := by
  obtain ⟨o, ho, r⟩ := x
  exact ⟨o, k o ho, r⟩
theorem IsTupIt.at {h h' : Heap} {a t : Addr} {i : Nat} (x : h.IsTupleIter a t i) (k : ∀ o, h.get? a = some o → h'.get? a = some o) : h'.IsTupleIter a t i := by
  obtain ⟨o, ho, r⟩ := x
  exact ⟨o, k o ho, r⟩
end
section
variable {prog : Program} {w : World} {A : Around} {E : Value → Shared → Prop} {s : Shared}
end
end L2

namespace L2
open PySem PySem.Spec PyProof.Rows
/-! ### a def of the text called while an exception is handled -/
structure RoomH (k : Nat) (A : Around) : Prop where
  dp : A.depth + 3 * k + 5 < recursionLimit
  un : A.units + 16 * k + 200 < cLine
theorem roomH {k : Nat} {A : Around} {v : Option Value} (r : Room k A) : RoomH k (A.mark v) := ⟨r.dp, r.un⟩
structure FnHOk (P : Program) (w : World) (K : PySem.W.Frag) (mg : Str → Option Value) (base : Heap) (k : Nat) (f : Addr) (fd : FuncData) (ps : List Str) (sp : Sp) : Prop where
  len : ∀ vs H Q E, sp vs H Q E → vs.length = ps.length
  run : ∀ (A : Around) (outer : List Env) (s : Shared) (H : Hp) (args : Args) (us : List Value) (vs : List V) (Q : VK), RoomH k A → Env0 P w K mg base A outer s H → BindsTo s fd args (ps.zip us) → Vals vs us → sp vs H Q E0 →
    codeAny (model P w) A (.call (.ref f) args) (CR CX0 outer P w H s Q E0) s
structure FnH (P : Program) (w : World) (K : PySem.W.Frag) (mg : Str → Option Value) (base : Heap) (x : Str) (k : Nat) (ps : List Str) (sp : Sp) : Prop where
  ex : ∃ f fd, FnHOk P w K mg base k f fd ps sp ∧ mg x = some (.ref f) ∧ PySem.W.keepIn K (.ref f) = true ∧ Binds K fd ps []
theorem pe_fnH {X : Cx} {k j : Nat} {ps : List Str} {sp : Sp} {x : Str} {p pos : Pos} {e : Expr} {es : List Expr} {t : TA} (F : FnH X.prog X.w X.K X.mg X.base x k ps sp) (hr : RoomH j X.A) (ha : PA X (e :: es) t) (hg : Gl X x := by rfl) (hj : k ≤ j := by decide)
    (hdb : (x == ("__debug__" : Str)) = false := by decide) (he : starEach (e :: es) X.env = (false, eval e X.env) :: starEach es X.env := by rfl) (hpl : (backTo pos (starEach es X.env)).any (·.1) = false := by rfl) :
    PE X (.Call (.Name x p) (e :: es) [] pos) (tCall sp [] E0 t) := by
  obtain ⟨f, fd, F, hm, hk, hb⟩ := F.ex
  have hr : RoomH k X.A := ⟨by have := hr.dp; omega, by have := hr.un; omega⟩
  intro pins s σ H Q I h
  refine wpAny_Call_Name_kw (ld_glob I hg hm ?_ hdb)
  refine PySem.W.callWith_K (h₀ := X.base) I.ok.mod.kin hk (thn (ha pos pins s σ H _ I h) fun us s1 ⟨vs, H1, I1, r, q⟩ => ⟨I1.kIn, ?_⟩) he hpl
  have r2 : Vals (vs ++ []) (us ++ []) := r.append .nil
  have hl : (us ++ []).length = ps.length := by rw [← r2.length]; exact F.len _ _ _ _ q
  refine wpAny_call (codeAny_mono (F.run X.A X.stack s1 H1 ⟨us, []⟩ (us ++ []) (vs ++ []) Q hr I1.env0 (hb s1 us I1.kIn hl) r2 q) fun r s' hq => ?_)
  cases r with
  | error e => exact False.elim hq
  | ok fl =>
    cases fl with
    | ret u => exact I1.after hq
    | next => exact False.elim hq
    | brk => exact False.elim hq
    | cont => exact False.elim hq
/-- a body's context while something is handled -/
abbrev cxH (P : Program) (w : World) (K : PySem.W.Frag) (mg : Str → Option Value) (base : Heap) (N : List Str) (qual : Str) (scope : Scope) (f : Addr) (cd : Value) (A : Around) (outer : List Env) (s : Shared) (H : Hp) : Cx :=
  { cxOf CX0 P w K mg base N qual scope f cd A outer s H E0 with calm := false, xe := fun _ _ => False }
theorem fnH_ok {P : Program} {w : World} {K : PySem.W.Frag} {mg : Str → Option Value} {base : Heap} {x : Str} {st : Stmt} {N ps : List Str} {k : Nat} {sp : Sp} (M : Md K mg) (F : FF K x st) (S : FnScope N ps (defScope st))
    (hbind : ∀ (kV doc pm : Value) (an : Option Addr) (cdv ct : Value) (us : List Value), us.length = ps.length → bindArgs (PySem.W.fnOf x x (defArgs st) (defBody st) (defScope st) .none kV doc pm an cdv ct) ⟨us, []⟩ = pure (ps.zip us))
    (len : ∀ vs H Q E, sp vs H Q E → vs.length = ps.length)
    (hbody : ∀ (f : Addr) (cdv : Value) (A : Around) (outer : List Env) (s : Shared) (H : Hp) (vs : List V) (Q : VK), RoomH k (A.deeper (envOfC x (defScope st) s.heap.objs.size f cdv)) → sp vs H Q E0 →
      ∃ t, PSs (cxH P w K mg base N x (defScope st) f cdv A outer s H) (defBody st) t ∧ t { nx := fun _ H' => Q .non H', rt := Q } (start N vs) H) : FnH P w K mg base x (k + 1) ps sp := by
  obtain ⟨f, oc, od, an, osl, kV, doc, pm, cdv, ct, a, l, c, kk⟩ := F.ex
  have F1 := fun_mk (st := st) l c kk
  refine ⟨f, _, ⟨len, fun A outer s H args us vs Q hr e0 hb r hsp => ?_⟩, M.ns _ _ a, kk, F1.binds hbind⟩
  have hl := len _ _ _ _ hsp
  have KX : K.In s.heap := e0.mod.kin.keeps fun b o e => (e0.bs b o e).1
  have lim : s.heap.NoLimit := e0.mod.nolimit.keeps fun b o e => (e0.bs b o e).1
  have hkind : ∀ y ∈ ps.zip us, (defScope st).names.lookup y.1 = some .local ∨ ((defScope st).names.lookup y.1 = some .cell ∧ ((cellsFrom (s.heap.objs.size + 1) (defScope st).names []).lookup y.1).isSome = true) := fun ⟨n, v⟩ hy => by
    rcases S.par n (List.of_mem_zip hy).1 with q | q
    · exact .inl q
    · exact .inr ⟨q, PySem.W.cellsFrom_some _ _ _ (.inl q)⟩
  refine codeAny_call_function (show A.depth < recursionLimit by have := hr.dp; omega) (KX _ _ l) rfl S.co S.gen rfl (PySem.W.codeRec_of KX c) (hb _ _ _ _ ?_)
  refine wpAny_newFunctionEnv_cells S.kind hkind fun env he s1 x' => ?_
  subst he
  refine ⟨lim.keeps x'.toInCall.keep, codeAny_func ?_⟩
  have hr' : RoomH k (A.deeper (envOfC x (defScope st) s.heap.objs.size f cdv)) := ⟨by have := hr.dp; show A.depth + 1 + 3 * k + 5 < _; omega, by have := hr.un; show A.units + 3 + 16 * k + 200 < _; omega⟩
  obtain ⟨t, ht, hq⟩ := hbody f cdv A outer s H vs Q hr' hsp
  have e1 : Env0 P w K mg base ({ A with handled := none } : Around) outer s H := ⟨e0.frames, e0.mod, e0.bs, e0.bsz, e0.funs, e0.frf, e0.hok, e0.bare⟩
  have I0 : Inv (cxOf CX0 P w K mg base N x (defScope st) f cdv ({ A with handled := none } : Around) outer s H E0) [] (start N vs) H s1 := inv_start S rfl e1 hl r x'
  have I : Inv (cxH P w K mg base N x (defScope st) f cdv A outer s H) [] (start N vs) H s1 :=
    ⟨⟨I0.ok.mod, I0.ok.kind, I0.ok.glob, I0.ok.blt, I0.ok.above, I0.ok.inj, I0.ok.has, I0.ok.cab, (fun q => by cases q), Around.frames_deeper e0.frames, I0.ok.stk, I0.ok.exf, I0.ok.bs, I0.ok.bsz, I0.ok.noex, I0.ok.exfs, I0.ok.funs, I0.ok.frf⟩, I0.os, I0.bare, I0.base, I0.loc, I0.cell, I0.free, I0.freeC, I0.pin, I0.hok, I0.len⟩
  refine wpAny_mono (ht [] s1 (start N vs) H _ I hq) (fun fl s' hs => ?_) fun e s' hs => False.elim hs
  have fin : ∀ {σ' : St} {H' : Hp} {v : V} {u : Value}, Inv (cxH P w K mg base N x (defScope st) f cdv A outer s H) [] σ' H' s' → RelV v u → Q v H' → CE outer P w H s Q u s' := fun {σ' H' v u} J rv q => ⟨v, H', J.os, J.bare, J.base, J.hok, rv, q⟩
  cases fl with
  | ret u => obtain ⟨v, σ', H', J, rv, q⟩ := hs; exact fin J rv q
  | next => obtain ⟨σ', H', J, q⟩ := hs; exact fin (v := V.non) (u := Value.none) J rfl q
  | brk => obtain ⟨_, _, _, q⟩ := hs; exact False.elim q
  | cont => obtain ⟨_, _, _, q⟩ := hs; exact False.elim q
end L2

namespace L2
open PySem PySem.Spec PyProof.Rows
/-! ### all of a list of truths -/
theorem bt_all : bootBuiltins "all" = some (.builtin "all") := by decide +kernel
theorem all_range (bs : List Bool) : ((List.range bs.length).all fun i => (bs[i]?).getD false) = bs.all id := by
  rw [Bool.eq_iff_iff, List.all_eq_true, List.all_eq_true]
  constructor
  · intro h b hb
    obtain ⟨i, hi, e⟩ := List.getElem_of_mem hb
    have := h i (by simpa using hi)
    rw [List.getElem?_eq_getElem hi, e] at this
    exact this
  · intro h i hi
    have hi' : i < bs.length := by simpa using hi
    rw [List.getElem?_eq_getElem hi']
    exact h _ (List.getElem_mem hi')
section
variable {X : Cx} {e : Expr} {te : TE} {p pos : Pos}
def tAllL (te : TE) : TE := fun σ H Q => te σ H fun x H1 => ∃ (l : Addr) (bs : List Bool), x = .ref l ∧ H1 l = some (.lst (bs.map V.bl)) ∧ Q (.bl (bs.all id)) H1
theorem pe_allL (hc : X.calm = true) (hm : X.mg "all" = none) (ha : PE X e te) (hg : Gl X "all" := by rfl) (he : starEach [e] X.env = [(false, eval e X.env)] := by rfl) : PE X (.Call (.Name "all" p) [e] [] pos) (tAllL te) :=
  pe_callB (r := r1 fun x H Q => ∃ (l : Addr) (bs : List Bool), x = .ref l ∧ H l = some (.lst (bs.map V.bl)) ∧ Q (.bl (bs.all id)) H)
    (callR1 fun pins s σ H x us Q I rv ⟨l, bs, ex, hH, q⟩ => by
      subst ex
      obtain ⟨u, rfl, ru⟩ := rv.one
      cases ru
      obtain ⟨z, its, n, r, hl, e1⟩ := I.lstM hH
      obtain rfl := bools_its r
      have hL : s.heap.IsList l (bs.map Value.bool).toArray := ⟨_, e1, rfl, n, rfl⟩
      have llt : l < s.heap.objs.size := Heap.lt_size e1
      refine call_all_walk (wpAny_pyIter_list hL ?_)
      refine ⟨s.heap.objs.size, [s.heap.objs.size, l], [s.heap.objs.size], (bs.map Value.bool).toArray.size, _, _, fun i => (bs[i]?).getD false, rfl, Walks.list (by first | exact I.ok.hd hc | (show X.A.in1.handled = none; exact I.ok.hd hc)) s.heap.objs.size l (Nat.ne_of_lt llt) (bs.map Value.bool).toArray, ⟨⟨_, Heap.get?_push_size _ rfl, rfl, rfl⟩, hL.push _⟩, fun i v s' Q' E' hP hQ => ?_, fun h' tk hk => ?_⟩
      · have hP' : (bs.map Value.bool)[i]? = some v := by simpa using hP
        rw [List.getElem?_map] at hP'
        cases e : bs[i]? with
        | none => rw [e] at hP'; cases hP'
        | some b =>
          rw [e] at hP'
          obtain rfl : Value.bool b = v := Option.some.inj hP'
          simp only [e, Option.getD_some] at hQ
          exact wpAny_truthy_bool hQ
      · have e : ((List.range (bs.map Value.bool).toArray.size).all fun i => (bs[i]?).getD false) = bs.all id := by
          rw [List.size_toArray, List.length_map]; exact all_range bs
        rw [e]
        exact ⟨.bl (bs.all id), H, I.kept (h' := h') (t' := tk) fun b o e => hk b o (by simp; exact Nat.ne_of_lt (Heap.lt_size e)) (Heap.get?_push_of_some _ e), rfl, q⟩) hg hm bt_all (pa_cons ha pa_nil (by exact he)) (he := by exact he)
end
/-! ### how often a text stands in a list of texts -/
section
variable {X : Cx}
end
/-! ### list(range(a, b)), list(range(a, b, c)) -/
section
variable {X : Cx} {a b c : Expr} {ta : TA} {p p2 pos pos2 : Pos}
end
/-! ### try .. except C, without a name -/
end L2

namespace L2
open PySem PySem.Spec PyProof.Rows
/-! ### dict of a list of pairs -/
section
variable {prog : Program} {w : World} {A : Around} {E : Value → Shared → Prop} {s : Shared}
end
section
variable {prog : Program} {w : World} {κ : Type} [DecidableEq κ] {knd : KeyKind prog w κ} {A : Around} {E : Value → Shared → Prop} {s : Shared}
end
section
variable {X : Cx} {pins : List (Addr × Obj)} {σ : St} {H : Hp} {s : Shared}
end
section
variable {X : Cx} {e : Expr} {te : TE} {p pos : Pos}
end
/-! ### min of a list of numbers -/
section
variable {X : Cx} {e : Expr} {te : TE} {p pos : Pos}
end
end L2

namespace L2
open PySem PySem.Spec PyProof.Rows
/-! ### sorted of what is sorted already, of any length -/
theorem minRun_le : ∀ (f n r : Nat), r ≤ 1 → minRun' f n r ≤ n + r
  | 0, n, r, _ => Nat.le_refl _
  | f + 1, n, r, h => by
    rw [minRun'_succ]
    split
    · exact Nat.le_refl _
    · have := minRun_le f (n / 2) (max r (n % 2)) (by omega)
      omega
section
variable {prog : Program} {w : World} {A : Around} {E : Value → Shared → Prop} {s : Shared} {a₀ : Array Keyed}
/-- the first run is the whole -/
theorem up_count {st : SortSt} {Q : Option Nat → SortSt → Prop} (h0 : IntKeys a₀) (hB : SBase a₀ st) (h1 : 1 ≤ a₀.size) (up : SortedTo (arrOf st) a₀.size) (h : Q (some a₀.size) st) : wpS (model prog w) A E s (countRun' 0 a₀.size) Q st := by
  rw [countRun0_eq]
  refine wpS_bind (wpS_ascLoop h0 (Nat.le_refl _) (Nat.le_refl 1) h1 hB (fun i j hij hj => up i j hij (by omega)) fun n n1 n2 _ hor => ?_)
  have en : n = a₀.size := by
    rcases hor with e | e
    · exact e
    · by_cases hn : n = a₀.size
      · exact hn
      · have := up (n - 1) n (by omega) (by omega)
        omega
  subst en
  dsimp only
  rw [if_pos (by simp)]
  exact wpS_pure h
def UDone (a₀ : Array Keyed) (a : Array Keyed) (st : SortSt) : Prop := arrOf st = a ∧ failedOf st = none ∧ pendingOf st = #[(0, a₀.size, 0)]
theorem up_runs {st : SortSt} {Q : Unit → SortSt → Prop} (h0 : IntKeys a₀) (hB : SBase a₀ st) (h2 : 2 ≤ a₀.size) (up : SortedTo (arrOf st) a₀.size) (h : ∀ st', arrOf st' = arrOf st → failedOf st' = none → Q () st') : wpS (model prog w) A E s sortRuns' Q st := by
  rw [sortRuns'_eq]
  refine wpS_bind (wpS_get ?_)
  dsimp only
  have hle : minRun' a₀.size a₀.size 0 ≤ a₀.size := minRun_le _ _ 0 (by omega)
  simp only [hB.size]
  generalize minRun' a₀.size a₀.size 0 = mr at hle ⊢
  refine wpS_bind (wpS_mono (wpS_forRange (I := fun x c st' => (x = 0 ∧ c = (none, 0) ∧ st' = st) ∨ (1 ≤ x ∧ c = (none, a₀.size) ∧ UDone a₀ (arrOf st) st')) (Q := fun c st' => c = (none, a₀.size) ∧ UDone a₀ (arrOf st) st') ?one ?last (.inl ⟨rfl, rfl, rfl⟩)) ?behind)
  case last =>
    rintro c st' (⟨hx, _, _⟩ | ⟨_, hc, hD⟩)
    · omega
    · exact ⟨hc, hD⟩
  case one =>
    rintro x c st' _ hx (⟨rfl, rfl, rfl⟩ | ⟨_, rfl, hD⟩)
    · dsimp only
      rw [if_neg (by omega)]
      simp only [Nat.sub_zero, Nat.zero_add]
      refine wpS_bind (up_count h0 hB (by omega) up ?_)
      dsimp only
      rw [if_neg (by omega)]
      refine wpS_bind (wpS_get ?_)
      rw [show (pendingOf st').back? = none by rw [hB.pend]; rfl]
      dsimp only
      refine wpS_bind (wpS_modify (wpS_pure (.inr ⟨by omega, rfl, rfl, hB.failed, ?_⟩)))
      show (pendingOf st').push _ = _
      rw [hB.pend]; rfl
    · dsimp only
      rw [if_pos (Nat.le_refl _)]
      exact wpS_pure ⟨rfl, hD⟩
  case behind =>
    rintro c st' ⟨rfl, hD⟩
    dsimp only
    refine wpS_bind (wpS_mono (wpS_forRange (I := fun _ c z => z = st' ∧ c = (none, ())) (Q := fun c z => z = st' ∧ c = (none, ())) ?_ (fun _ _ q => q) ⟨rfl, rfl⟩) ?_)
    · rintro x c z _ _ ⟨rfl, rfl⟩
      refine wpS_bind (wpS_get ?_)
      rw [if_pos (by rw [hD.2.2]; exact Nat.le_refl 1)]
      exact wpS_pure ⟨rfl, rfl⟩
    · rintro c z ⟨rfl, rfl⟩
      exact wpS_pure (h _ hD.1 hD.2.1)
theorem up_pairs {vs : List Value} {ns : List Int} (hI : IntsAre vs ns) (hs : ns.Pairwise (· ≤ ·)) : SortedTo (pairsOf vs) (pairsOf vs).size := by
  intro i j hij hj
  have hl : vs.length = ns.length := by rw [← hI.nums, List.length_map]
  rw [pairsOf_size] at hj
  have e : ∀ q (hq : q < vs.length), K (pairsOf vs) q = ns[q]'(by omega) := fun q hq => by
    rw [K_eq (by rw [pairsOf_size]; exact hq)]
    have h1 : (pairsOf vs)[q]'(by rw [pairsOf_size]; exact hq) = (vs[q], vs[q]) := by simp [pairsOf]
    rw [h1]
    have h2 : ns[q]? = some (numOf vs[q]) := by rw [← hI.nums, List.getElem?_map, List.getElem?_eq_getElem hq]; rfl
    rw [List.getElem?_eq_getElem (by omega)] at h2
    exact (Option.some.inj h2).symm
  rw [e i (by omega), e j hj]
  rcases Nat.lt_or_eq_of_le hij with h | h
  · exact List.pairwise_iff_getElem.mp hs i j (by omega) (by omega) h
  · subst h; exact Int.le_refl _
theorem out_pairs (vs : List Value) : (pairsOf vs).map (·.2) = vs.toArray := by
  apply Array.toList_inj.mp
  rw [Array.toList_map, pairsOf_toList, List.map_snd_zip (Nat.le_refl _)]
theorem up_sort {a : Addr} {vs : List Value} {ns : List Int} {n : Nat} {P : Fin → Shared → Prop} (ho : s.heap.get? a = some (seqObj "list" vs.toArray n)) (hI : IntsAre vs ns) (hup : ns.Pairwise (· ≤ ·)) (hle : vs.length ≤ 1000)
    (h : P (.done (.ret .none)) { s with heap := sortedHeap s.heap a vs vs.toArray }) : wpAny (model prog w) A (Builtin.«list.sort» ⟨[.ref a], []⟩) P E s := by
  rw [list_sort_plain]
  have ha : a < s.heap.objs.size := Heap.lt_size ho
  refine wpAny_bind (listItems_at ho rfl (wpAny_bind (listUpdate_at ho rfl ?_)))
  obtain ⟨e1, ho1⟩ : ∃ e1, (s.heap.update a (Obj.mapSeq fun _ => #[])).get? a = some (seqObj "list" #[] e1) := ⟨_, get?_update_seq ho (fun _ => #[])⟩
  refine wpAny_bind (seqEpoch_at ho1 rfl (wpAny_bind (wpAny_newTuple (wpAny_bind (wpAny_newList (wpAny_holding ?_))))))
  have ho6 : (((s.heap.update a (Obj.mapSeq fun _ => #[])).push (seqObj "tuple" vs.toArray 0)).push (seqObj "list" #[] 0)).get? a = some (seqObj "list" #[] e1) := Heap.get?_push_of_some _ (Heap.get?_push_of_some _ ho1)
  show wpAny (model prog w) A _ P E { s with heap := ((s.heap.update a (Obj.mapSeq fun _ => #[])).push (seqObj "tuple" vs.toArray 0)).push (seqObj "list" #[] 0) }
  dsimp only
  have hsl : vs.length ≤ sizeLine := Nat.le_trans hle (by decide)
  by_cases h2 : vs.toArray.size < 2
  · rw [if_pos h2, if_pos h2]
    refine wpAny_bind (wpAny_pure ?_)
    rw [StateT.run_pure]
    refine wpAny_bind (wpAny_pure ?_)
    dsimp only
    refine wpAny_bind (seqEpoch_at ho6 rfl (wpAny_bind (listUpdate_at ho6 rfl ?_ (hsz2 := by rw [Array.size_map]; show (pairsOf vs).size ≤ _; rw [pairsOf_size]; omega))))
    simp only [bne_self_eq_false, Bool.false_eq_true, if_false]
    have := out_pairs vs
    unfold pairsOf at this
    refine wpAny_pure ?_
    rw [this]
    exact h
  · rw [if_neg h2, if_neg h2]
    obtain ⟨v₁, v₂, rest, rfl⟩ : ∃ v₁ v₂ rest, vs = v₁ :: v₂ :: rest := by
      match vs, h2 with
      | [], h2 => simp at h2
      | [_], h2 => simp at h2
      | v₁ :: v₂ :: rest, _ => exact ⟨v₁, v₂, rest, rfl⟩
    rw [keyKind_ints hI]
    refine wpAny_bind (wpAny_pure (wpAny_bind (wpAny_mono (up_runs (a₀ := pairsOf (v₁ :: v₂ :: rest)) (st := SortSt.mk' oneType' ((v₁ :: v₂ :: rest).toArray.zip (v₁ :: v₂ :: rest).toArray) #[] 7 none) (Q := fun _ st' => arrOf st' = pairsOf (v₁ :: v₂ :: rest) ∧ failedOf st' = none) hI.intKeys ⟨Array.Perm.refl _, rfl, rfl, rfl⟩ (by rw [pairsOf_size]; simp) (up_pairs hI hup) fun st' a1 a2 => ⟨a1, a2⟩) ?_ fun _ _ e => e)))
    rintro ⟨⟨⟩, st'⟩ s' ⟨rfl, ha', hf⟩
    dsimp only
    rw [ha', out_pairs]
    refine wpAny_bind (seqEpoch_at ho6 rfl (wpAny_bind (listUpdate_at ho6 rfl ?_ (hsz2 := by simp at hsl ⊢; omega))))
    rw [hf]
    simp only [bne_self_eq_false, Bool.false_eq_true, if_false]
    exact wpAny_pure h
end
section
variable {prog : Program} {w : World} {κ : Type} [DecidableEq κ] {knd : KeyKind prog w κ} {A : Around} {E : Value → Shared → Prop} {s : Shared}
/-- sorted(d): the keys, which are ascending numbers -/
theorem call_sortedUp {d : Addr} {kvs : List (κ × Value)} {ns : List Int} {Q : Value → Shared → Prop} (hA : A.handled = none) (lo : (d == sysModules) = false) (hd : s.heap.DictOf knd d kvs) (hn : kvs.length ≤ 1000) (hl : ns.length = kvs.length) (hup : ns.Pairwise (· ≤ ·))
    (hk : ∀ (i : Nat) (k : κ) (x v : Value), kvs[i]? = some (k, x) → knd.is k v = true → ∃ n t, ns[i]? = some n ∧ v = .int n t)
    (h : ∀ (h1 h' : Heap) (tk : Nat) (vs : List Value) (c : Nat), (∀ b o, s.heap.get? b = some o → h1.get? b = some o) → IntsAre vs ns → h'.get? h1.objs.size = some (seqObj "list" vs.toArray c) → (∀ b o, h1.get? b = some o → h'.get? b = some o) → Q (.ref h1.objs.size) { s with heap := h', toks := tk }) :
    wpAny (model prog w) A (call (.builtin "sorted") [.ref d]) Q E s := by
  obtain ⟨ep, hat⟩ := hd.dictAt
  refine Calls.call_function_entry kind_sorted plain_sorted entry_sorted (args_sorted1 _) ?_
  unfold Builtin.«sorted»
  refine wpAny_bind (m := checkCount "sorted" 1 1 _) (wpAny_pure ?_)
  refine wpAny_bind (PySem.W.kdu_collect (A := A.in1) (PySem.W.kdl_dict (knd := knd) (kvs := kvs) (ep := ep) lo) hA hat (Nat.le_trans hn (by decide)) fun h1 tk acc keep hacc => ?_)
  have hlen : acc.toList.length = kvs.length := by rw [Array.length_toList]; exact hacc.1
  have hI : IntsAre acc.toList ns := by
    have hv : ∀ v ∈ acc.toList, ∃ n t, v = Value.int n t := fun v hv => by
      obtain ⟨i, hi⟩ := List.mem_iff_getElem?.mp hv
      obtain ⟨k, x, hx, hkk⟩ := hacc.2 i v (by rw [← Array.getElem?_toList]; exact hi)
      obtain ⟨n, t, _, e⟩ := hk i k x v hx hkk
      exact ⟨n, t, e⟩
    have := intsAre_map acc.toList hv
    have e : acc.toList.map numOf = ns := by
      apply List.ext_getElem?
      intro i
      rw [List.getElem?_map]
      cases q : acc.toList[i]? with
      | none =>
        have : acc.toList.length ≤ i := List.getElem?_eq_none_iff.mp q
        rw [List.getElem?_eq_none (by omega)]; rfl
      | some v =>
        obtain ⟨k, x, hx, hkk⟩ := hacc.2 i v (by rw [← Array.getElem?_toList]; exact q)
        obtain ⟨n, t, e, rfl⟩ := hk i k x v hx hkk
        rw [e]; rfl
    rw [e] at this
    exact this
  refine wpAny_bind (wpAny_newList ?_ (by rw [hlen]; exact Nat.le_trans hn (by decide)))
  have hoL : (h1.push (seqObj "list" acc.toList.toArray 0)).get? h1.objs.size = some (seqObj "list" acc.toList.toArray 0) := Heap.get?_push_size _ rfl
  refine wpAny_bind (wpAny_holding (wpAny_call_entry slot_list_sort ⟨_, hoL, rfl⟩ entry_list_sort (up_sort (ns := ns) hoL hI hup (by omega) ⟨_, rfl, ?_⟩) (args_list_sort _)))
  refine wpAny_pure ⟨_, rfl, ?_⟩
  have hlt : h1.objs.size < (h1.push (seqObj "list" acc.toList.toArray 0)).objs.size := Heap.lt_size hoL
  obtain ⟨c1, o1⟩ : ∃ c1, ((h1.push (seqObj "list" acc.toList.toArray 0)).update h1.objs.size (Obj.mapSeq fun _ => #[])).get? h1.objs.size = some (seqObj "list" #[] c1) := ⟨_, get?_update_seq hoL (fun _ => #[])⟩
  have o2 := Heap.get?_push_of_some (seqObj "list" #[] 0) (Heap.get?_push_of_some (seqObj "tuple" acc.toList.toArray 0) o1)
  refine h h1 _ _ acc.toList _ keep hI (get?_update_seq o2 (fun _ => acc.toList.toArray)) fun b o e => ?_
  have nb : h1.objs.size ≠ b := (Nat.ne_of_lt (Heap.lt_size e)).symm
  show (sortedHeap _ _ _ _).get? b = some o
  unfold sortedHeap
  rw [Heap.get?_update_other _ _ nb]
  refine Heap.get?_push_of_some _ (Heap.get?_push_of_some _ ?_)
  rw [Heap.get?_update_other _ _ nb]
  exact Heap.get?_push_of_some _ e
end
theorem vals_up : ∀ {ws : List Value} {ns : List Int}, IntsAre ws ns → Vals (ns.map V.int) ws
  | _, _, .nil => .nil
  | _, _, .cons n t h => .cons ⟨t, rfl⟩ (vals_up h)
theorem bt_sorted : bootBuiltins "sorted" = some (.builtin "sorted") := by decide +kernel
section
variable {X : Cx} {e : Expr} {te : TE} {p pos : Pos}
/-- sorted(a dict whose keys are numbers, each larger than those before it) -/
def tSortK (te : TE) : TE := fun σ H Q => te σ H fun x H1 => ∃ (d : Addr) (kvs : List (Key × V)) (ns : List Int), x = .ref d ∧ H1 d = some (.dK kvs) ∧ kvs.map (·.1) = ns.map Sum.inl ∧ ns.Pairwise (· ≤ ·) ∧ ns.length ≤ 1000 ∧ ∀ l, H1 l = none → Q (.ref l) (upd H1 l (.lst (ns.map V.int)))
theorem pe_sortK (hc : X.calm = true) (hm : X.mg "sorted" = none) (ha : PE X e te) (hg : Gl X "sorted" := by rfl) (he : starEach [e] X.env = [(false, eval e X.env)] := by rfl) : PE X (.Call (.Name "sorted" p) [e] [] pos) (tSortK te) :=
  pe_callB (r := r1 fun x H1 Q => ∃ (d : Addr) (kvs : List (Key × V)) (ns : List Int), x = .ref d ∧ H1 d = some (.dK kvs) ∧ kvs.map (·.1) = ns.map Sum.inl ∧ ns.Pairwise (· ≤ ·) ∧ ns.length ≤ 1000 ∧ ∀ l, H1 l = none → Q (.ref l) (upd H1 l (.lst (ns.map V.int))))
    (callR1 fun pins s σ H x us Q I rv ⟨d, kvs, ns, ex, hH, hkn, hup, hn, q⟩ => by
      subst ex
      obtain ⟨u, rfl, ru⟩ := rv.one
      cases ru
      obtain ⟨z, lo, vs, rel, dd⟩ := dk_of I.hok hH
      have hl1 : kvs.length = ns.length := by have := congrArg List.length hkn; simpa using this
      have hl2 := rel.length
      refine call_sortedUp (knd := mixKind X.prog X.w) (kvs := vs) (ns := ns) (by first | exact I.ok.hd hc | (show X.A.in1.handled = none; exact I.ok.hd hc)) lo dd (by omega) (by omega) hup (fun i k x v hx hk => ?_) fun h1 h' tk ws c keep1 hI ha keep => ?_
      · have hkey : (ns.map Sum.inl)[i]? = some k := by
          rw [← hkn, rel.keys, List.getElem?_map, hx]; rfl
        rw [List.getElem?_map] at hkey
        cases e : ns[i]? with
        | none => rw [e] at hkey; cases hkey
        | some m =>
          rw [e] at hkey
          have hkm : (Sum.inl m : Key) = k := Option.some.inj hkey
          subst hkm
          cases v with
          | int j t =>
            have hj : (mixKind X.prog X.w).is (Sum.inl j) (.int j t) = true := kV_is (k := Sum.inl j) ⟨t, rfl⟩
            have := (mixKind X.prog X.w).inj _ _ _ hk hj
            exact ⟨m, t, rfl, by rw [Sum.inl.inj this]⟩
          | _ => cases hk
      · have I1 := I.kept (h' := h1) (t' := tk) keep1
        exact ⟨.ref h1.objs.size, _, I1.laid (a := h1.objs.size) (o := .lst (ns.map V.int)) (t' := tk) keep (Nat.le_refl _) ⟨by rw [List.length_map]; exact Nat.le_trans hn (by decide), ws, c, vals_up hI, ha⟩, rfl, q _ (I1.hok.fresh (Nat.le_refl _))⟩)
    hg hm bt_sorted (pa_cons ha pa_nil (by exact he)) (he := by exact he)
end
end L2

namespace Ov
open PySem L2
def top (i : Nat) : Stmt := PySem.Challenge.pw_overlaid_k30_costs_of_chains.main.body.getD i (.Pass ⟨0, 0, 0, 0⟩)
abbrev sPot : Stmt := top 25
abbrev sTake : Stmt := top 26
/-- the drawing deck -/
def Hand (H : Hp) (p : Addr) : Prop := ∃ a b n : Int, H p = some (.lst [.int a, .int b, .int n])
def spPot : Sp := fun vs H Q _ => ∃ c : Int, vs = [.int c] ∧ ∀ p H', H p = none → Hand H' p → Same H H' → Q (.ref p) H'
def spTake : Sp := fun vs H Q _ => ∃ (p : Addr) (many : Int), vs = [.ref p, .int many] ∧ Hand H p ∧ 1 ≤ many ∧ many < 1000000000000000000000000000000000000000000000000000000000000 ∧
  ∀ (r : Int) (H' : Hp), 0 ≤ r → r < many → Hand H' p → Keep p H H' → Q (.int r) H'
section
variable {P : Program} {w : World} {K : PySem.W.Frag} {mg : Str → Option Value} {base : Heap}
theorem scPot : FnScope ["cell"] ["cell"] (defScope sPot) := ⟨rfl, rfl, rfl, by decide +kernel, rfl, by decide +kernel, by decide +kernel⟩
theorem ok_pot (M : Md K mg) (B : Bl mg) (F : FF K "_law_pot" sPot) : Fn P w K mg base CX0 "_law_pot" 1 ["cell"] spPot := by
  refine fn_ok M F scPot (fun _ _ _ _ _ _ => us1 fun _ => rfl) (fun vs H Q E h => ?_) (fun f cdv A outer s H vs Q E hr h => ?_)
  · obtain ⟨c, rfl, _⟩ := h; rfl
  · obtain ⟨c, rfl, k⟩ := h
    refine ⟨_, (pss_one (ps_ret (pe_lst (pa_cons (pe_max rfl B.max pe_int (pe_op op_sub (pv 0) (pe_op op_pow pe_int pe_int))) (pa_cons (pe_op op_mod (pv 0) pe_int) (pa_cons pe_int pa_nil)))))), ?_⟩
    refine ⟨_, rfl, _, _, rfl, rfl, ⟨by decide, by decide, by decide⟩, _, _, rfl, rfl, _, _, rfl, rfl, ?_⟩
    refine ⟨_, rfl, _, _, rfl, rfl, (by show (0 : Int) < 99999999977; decide), by show 3 ≤ sizeLine; decide, fun l hl => k l _ hl ⟨_, _, _, upd_same⟩ (Same.upd hl)⟩
theorem scTake : FnScope ["pot", "many", "found", "number"] ["pot", "many"] (defScope sTake) := ⟨rfl, rfl, rfl, by decide +kernel, rfl, by decide +kernel, by decide +kernel⟩
theorem ok_take (M : Md K mg) (F : FF K "_law_take" sTake) : Fn P w K mg base CX0 "_law_take" 1 ["pot", "many"] spTake := by
  refine fn_ok M F scTake (fun _ _ _ _ _ _ => us2 fun _ _ => rfl) (fun vs H Q E h => ?_) (fun f cdv A outer s H vs Q E hr h => ?_)
  · obtain ⟨p, many, rfl, _⟩ := h; rfl
  · obtain ⟨p, many, rfl, ⟨a, b, n, hp⟩, h1, h2, k⟩ := h
    refine ⟨_, (pss_cons (ps_if (pt_cmpR op_gt (pe_ix ix_list (pv 0) pe_int (fun _ _ => rfl)) pe_int (nomark _)) (pss_cons (ps_set (i := 2) scTake.nd rfl (by first | exact Or.inl rfl | exact Or.inr rfl) (pe_op op_mod (pe_ix ix_list (pv 0) pe_int (fun _ _ => rfl)) (pv 1)))
      (pss_cons (ps_asg (pe_op op_fdivL (pe_ix ix_list (pv 0) pe_int (fun _ _ => rfl)) (pv 1)) (pg_sub (pv 0) pe_int set_list))
      (pss_one (ps_ret (pv 2))))) pss_nil)
      (pss_cons (ps_asg (pe_op op_add (pe_ix ix_list (pv 0) pe_int (fun _ _ => rfl)) pe_int) (pg_sub (pv 0) pe_int set_list))
      (pss_cons (ps_set (i := 3) scTake.nd rfl (by first | exact Or.inl rfl | exact Or.inr rfl) (pe_op op_mod (pe_op op_add (pe_ix ix_list (pv 0) pe_int (fun _ _ => rfl)) (pe_op op_mul pe_int (pe_ix ix_list (pv 0) pe_int (fun _ _ => rfl)))) pe_int))
      (pss_cons (ps_set (i := 3) scTake.nd rfl (by first | exact Or.inl rfl | exact Or.inr rfl) (pe_op op_mod (pe_op op_mul (pv 3) (pv 3)) pe_int))
      (pss_cons (ps_set (i := 3) scTake.nd rfl (by first | exact Or.inl rfl | exact Or.inr rfl) (pe_op op_mod (pe_op op_mul (pv 3) (pe_op op_add (pv 3) pe_int)) pe_int))
      (pss_one (ps_ret (pe_op op_mod (pe_op op_fdivL (pv 3) pe_int) (pv 1))))))))), ?_⟩
    refine ⟨_, rfl, p, _, _, _, rfl, rfl, SqL.of hp, atI_nat (j := 0) rfl, _, _, rfl, rfl, _, rfl, ?_⟩
    refine ite2 (fun hc => ?_) (fun hc => ?_)
    · refine ⟨_, rfl, p, _, _, _, rfl, rfl, SqL.of hp, atI_nat (j := 0) rfl, _, rfl, _, _, rfl, rfl, (by show 0 < many; omega), ?_⟩
      refine ⟨_, rfl, p, _, _, _, rfl, rfl, SqL.of hp, atI_nat (j := 0) rfl, _, rfl, _, _, rfl, rfl, ⟨by omega, by omega⟩, ?_⟩
      refine ⟨_, rfl, p, _, 0, 0, rfl, rfl, hp, rfl, _, rfl, ?_⟩
      exact k _ _ (Int.emod_nonneg _ (by omega)) (Int.emod_lt_of_pos _ (by omega)) ⟨_, _, _, upd_same⟩ Keep.upd
    · refine ⟨_, rfl, p, _, _, _, rfl, rfl, SqL.of hp, atI_nat (j := 2) rfl, _, _, rfl, rfl, _, rfl, p, _, 2, 2, rfl, rfl, hp, rfl, ?_⟩
      have k1 : Keep p H (L2.upd H p (.lst ([V.int a, V.int b, V.int n].set 2 (.int (n + 1))))) := Keep.upd
      have hp1 : (L2.upd H p (.lst ([V.int a, V.int b, V.int n].set 2 (.int (n + 1))))) p = some (.lst [.int a, .int b, .int (n + 1)]) := upd_same
      generalize L2.upd H p (.lst ([V.int a, V.int b, V.int n].set 2 (.int (n + 1)))) = H1 at k1 hp1
      refine ⟨_, rfl, p, _, _, _, rfl, rfl, SqL.of hp1, atI_nat (j := 1) rfl, _, rfl, p, _, _, _, rfl, rfl, SqL.of hp1, atI_nat (j := 2) rfl, _, _, rfl, rfl, .inl ⟨by decide, by decide⟩, _, _, rfl, rfl, _, _, rfl, rfl, (by show (0 : Int) < 99999999947; decide), ?_⟩
      have m1 := Int.emod_nonneg (b + 700001 * (n + 1)) (show (99999999947 : Int) ≠ 0 by decide)
      have m2 := Int.emod_lt_of_pos (b + 700001 * (n + 1)) (show (0 : Int) < 99999999947 by decide)
      generalize (b + 700001 * (n + 1)) % 99999999947 = x at m1 m2
      refine ⟨_, rfl, _, rfl, _, _, rfl, rfl, .inl ⟨by omega, by omega⟩, _, _, rfl, rfl, (by show (0 : Int) < 99999999821; decide), ?_⟩
      have m3 := Int.emod_nonneg (x * x) (show (99999999821 : Int) ≠ 0 by decide)
      have m4 := Int.emod_lt_of_pos (x * x) (show (0 : Int) < 99999999821 by decide)
      generalize x * x % 99999999821 = y at m3 m4
      refine ⟨_, rfl, _, rfl, _, _, rfl, rfl, _, _, rfl, rfl, .inl ⟨by omega, by omega⟩, _, _, rfl, rfl, (by show (0 : Int) < 9999999967; decide), ?_⟩
      refine ⟨_, rfl, _, _, rfl, rfl, ⟨by decide, by decide⟩, _, rfl, _, _, rfl, rfl, (by show 0 < many; omega), ?_⟩
      exact k _ _ (Int.emod_nonneg _ (by omega)) (Int.emod_lt_of_pos _ (by omega)) ⟨_, _, _, hp1⟩ k1
end

end Ov

namespace Ov
open PySem L2
abbrev sSigns : Stmt := top 28
abbrev sLetters : Stmt := top 27
def az : List Nat := (List.range 26).map (97 + ·)
theorem az_mem {c : Nat} (h : c ∈ az) : 97 ≤ c ∧ c ≤ 122 := by
  simp [az] at h
  omega
/-- small letters -/
def Low (t : List Nat) : Prop := ∀ c ∈ t, 97 ≤ c ∧ c ≤ 122
theorem Low.cp {t : List Nat} (h : Low t) : ∀ c ∈ t, c < 0x110000 := fun c hc => by have := h c hc; omega
theorem Low.take {t : List Nat} (h : Low t) (n : Nat) : Low (t.take n) := fun c hc => h c (List.mem_of_mem_take hc)
theorem Low.drop {t : List Nat} (h : Low t) (n : Nat) : Low (t.drop n) := fun c hc => h c (List.mem_of_mem_drop hc)
theorem Low.app {t u : List Nat} (h : Low t) (g : Low u) : Low (t ++ u) := fun c hc => (List.mem_append.mp hc).elim (h c) (g c)
theorem Low.nil : Low [] := fun c hc => by cases hc
theorem Low.set {t : List Nat} (h : Low t) (n c : Nat) (hc : 97 ≤ c ∧ c ≤ 122) : Low (t.set n c) := fun d hd => by
  rcases List.mem_or_eq_of_mem_set hd with q | q
  · exact h d q
  · subst q; exact hc
theorem Hand.ne {H : Hp} {p l : Addr} (h : Hand H p) (hl : H l = none) : p ≠ l := by
  obtain ⟨a, b, n, e⟩ := h
  exact ne_of_none e hl
theorem Hand.upd {H : Hp} {p l : Addr} {o : HO} (h : Hand H p) (hl : p ≠ l) : Hand (L2.upd H l o) p := by
  obtain ⟨a, b, n, e⟩ := h
  exact ⟨a, b, n, by rw [upd_ne hl]; exact e⟩
theorem Hand.same {H H' : Hp} {p : Addr} (h : Hand H p) (k : Same H H') : Hand H' p := by
  obtain ⟨a, b, n, e⟩ := h
  exact ⟨a, b, n, k _ _ e⟩
theorem Hand.free {H H' : Hp} {p l : Addr} (h : Hand H' p) (k : Keep p H H') (hl : H' l = none) : H l = none := by
  obtain ⟨a, b, n, e⟩ := h
  exact k.free e hl
theorem hand_ne {H : Hp} {p a : Addr} {t : List Nat} (h : Hand H p) (ha : H a = some (.lst (t.map sg))) : a ≠ p := by
  obtain ⟨x, y, n, e⟩ := h
  refine ne_of ha e fun z => ?_
  have z' : t.map sg = [.int x, .int y, .int n] := HO.lst.inj z
  cases t with
  | nil => cases z'
  | cons c t => cases z'
theorem nd0 {p : Prop} [Decidable p] (h : ¬ decide p = true) : ¬ p := fun z => h (decide_eq_true z)
theorem sz {n : Nat} (h : n ≤ 1000) : n ≤ sizeLine := Nat.le_of_lt (small1000 h)
theorem sz5 {n : Nat} (h : n ≤ 5000) : n ≤ sizeLine := Nat.le_of_lt (small5000 h)
def vInts (ks : List Nat) : List V := (ks.map fun (k : Nat) => (k : Int)).map V.int
theorem vInts_snoc (ks : List Nat) (i : Nat) : vInts (ks ++ [i]) = vInts ks ++ [V.int (0 + (i : Int))] := by
  simp [vInts]
theorem vInts_len (ks : List Nat) : (vInts ks).length = ks.length := by simp [vInts]
theorem filter_len {i : Nat} (p : Nat → Bool) : ((List.range i).filter p).length ≤ i := by
  have := List.length_filter_le p (List.range i)
  simpa using this
theorem sg_at {t : List Nat} {r : Int} (lt : Low t) (r0 : 0 ≤ r) (r1 : r < t.length) : ∃ c, t[r.toNat]? = some c ∧ 97 ≤ c ∧ c ≤ 122 ∧ atI (t.map sg) r = some (sg c) := by
  obtain ⟨v, hv, hm, e⟩ := atI_ex (t.map sg) r r0 (by rw [List.length_map]; exact r1)
  rw [List.getElem?_map] at hv
  cases q : t[r.toNat]? with
  | none => rw [q] at hv; cases hv
  | some c =>
    rw [q] at hv
    have : sg c = v := Option.some.inj hv
    subst this
    exact ⟨c, rfl, (lt c (List.mem_of_getElem? q)).1, (lt c (List.mem_of_getElem? q)).2, e⟩
/-- two lists of signs laid behind one another -/
theorem cat_sg {H : Hp} {l0 l1 : Addr} {t u : List Nat} {Q : VK} (h0 : H l0 = some (.lst (t.map sg))) (h1 : H l1 = some (.lst (u.map sg))) (hz : t.length + u.length ≤ 5000)
    (k : ∀ b, H b = none → Q (.ref b) (L2.upd H b (.lst ((t ++ u).map sg)))) : rCat (.ref l0) (.ref l1) H Q :=
  ⟨l0, l1, _, _, rfl, rfl, h0, h1, by rw [List.length_map, List.length_map]; exact sz5 hz, fun b hb => by have := k b hb; rw [List.map_append] at this; exact this⟩
theorem cut_hi {t : List Nat} {n : Int} (h : 0 ≤ n) : cutV (t.map sg) none (some n) = (t.take n.toNat).map sg := by rw [cutV_cutL, cutL_map, cutL_hi _ _ h]
theorem cut_lo {t : List Nat} {n : Int} (h : 0 ≤ n) : cutV (t.map sg) (some n) none = (t.drop n.toNat).map sg := by rw [cutV_cutL, cutL_map, cutL_lo _ _ h]
def spLetters : Sp := fun vs H Q _ => ∃ p : Addr, vs = [.ref p] ∧ Hand H p ∧ ∀ (z : List Nat) (r : Addr) (H' : Hp), H r = none → H' r = some (.lst (z.map sg)) → Low z → z.Nodup → 1 ≤ z.length → z.length ≤ 26 → Hand H' p → Keep p H H' → Q (.ref r) H'
def spSigns : Sp := fun vs H Q _ => ∃ (p b : Addr) (z : List Nat) (n : Int), vs = [.ref p, .ref b, .int n] ∧ Hand H p ∧ H b = some (.lst (z.map sg)) ∧ Low z ∧ 1 ≤ z.length ∧ z.length ≤ 900 ∧ 0 ≤ n ∧ n ≤ 1000 ∧
  ∀ (t : List Nat) (r : Addr) (H' : Hp), H r = none → H' r = some (.lst (t.map sg)) → Low t → t.length = n.toNat → Hand H' p → Keep p H H' → Q (.ref r) H'
section
variable {P : Program} {w : World} {K : PySem.W.Frag} {mg : Str → Option Value} {base : Heap}
theorem scLetters : FnScope ["pot", "left", "many"] ["pot"] (defScope sLetters) := ⟨rfl, rfl, rfl, by decide +kernel, rfl, by decide +kernel, by decide +kernel⟩
theorem ok_letters (M : Md K mg) (B : Bl mg) (F : FF K "_law_letters" sLetters) (F_law_take : Fn P w K mg base CX0 "_law_take" 1 ["pot", "many"] spTake) : Fn P w K mg base CX0 "_law_letters" 2 ["pot"] spLetters := by
  refine fn_ok M F scLetters (fun _ _ _ _ _ _ => us1 fun _ => rfl) (fun vs H Q E h => ?_) (fun f cdv A outer s H vs Q E hr h => ?_)
  · obtain ⟨p, rfl, _⟩ := h; rfl
  · obtain ⟨p, rfl, hp, k⟩ := h
    refine ⟨_, (pss_cons (ps_set (i := 1) scLetters.nd rfl (by first | exact Or.inl rfl | exact Or.inr rfl) (pe_listS rfl B.list pe_str))
      (pss_cons (ps_set (i := 2) scLetters.nd rfl (by first | exact Or.inl rfl | exact Or.inr rfl) (pe_fn F_law_take hr pass0 (pa_cons (pv 0) (pa_cons pe_int pa_nil))))
      (pss_cons (ps_if (pt_cmpR op_eq (pv 2) pe_int (nomark _)) (pss_one (ps_ret (pv 1))) pss_nil)
      (pss_one (ps_ret (pe_comp ["pot", "left", "many"] rfl (pi_range1 (by rfl) B.range (pa_cons (pv 2) pa_nil)) (fun _ => by exact pif_nil) (fun _ => by exact (pe_bm PySem.F.plainAttrs_list PySem.F.slot_list_pop PySem.F.type_list_pop mt_popAt (pv 1) (pa_cons (pe_fn F_law_take hr pass0 (pa_cons (pv 0) (pa_cons (pe_lenL B.len (pv 1)) pa_nil))) pa_nil))))))))), ?_⟩
    have laz : Low az := fun c hc => az_mem hc
    have naz : az.Nodup := by decide +kernel
    refine ⟨⟨az.toArray⟩, rfl, by rw [str_len]; exact sz (by simp [az]), fun l hl => ?_⟩
    have s1 := Same.upd (o := .lst (az.map sg)) hl
    have hl1 : (L2.upd H l (.lst (az.map sg))) l = some (.lst (az.map sg)) := upd_same
    have hp1 := hp.same s1
    refine ⟨_, rfl, p, 5, rfl, hp1, by decide, by decide, fun m H2 m0 m1 hp2 k2 => ?_⟩
    have nlp : l ≠ p := (hp.ne hl).symm
    have hl2 := k2 _ _ hl1 nlp
    have k02 := s1.keep.trans k2
    refine ⟨_, rfl, rfl, _, rfl, ?_⟩
    refine ite2 (fun hc => ?_) (fun hc => ?_)
    · exact ⟨_, rfl, k az l H2 hl hl2 laz naz (by simp [az]) (by simp [az]) hp2 k02⟩
    · have hm : m ≠ 0 := fun q => nd0 hc (by rw [q])
      refine ⟨_, rfl, m, rfl, by omega, by omega, fun D hD cb => ?_⟩
      have nD : D ≠ p := (hp2.ne hD).symm
      have nlD : l ≠ D := ne_of_none hl2 hD
      have hDn : H D = none := by obtain ⟨x, y, z, e'⟩ := hp2; exact k02.free e' hD
      refine comp_range (lo := 0) (n := m.toNat) (fun i ys H3 => ∃ t left : List Nat, ys = t.map sg ∧ (t ++ left).Perm az ∧ t.length = i ∧ H3 l = some (.lst (left.map sg)) ∧ Hand H3 p ∧ (∀ b o, H b = some o → b ≠ p → H3 b = some o) ∧ H3 D = some (.lst ys)) (small1000 (by omega)) ?_ ?_ ?_ ?_
      · refine ⟨[], az, rfl, List.Perm.refl _, rfl, by rw [upd_ne nlD]; exact hl2, hp2.upd (hp2.ne hD), fun b o e n => ?_, upd_same⟩
        have h1 := k02 b o e n
        rw [upd_ne (ne_of_none h1 hD)]; exact h1
      · rintro i ys H3 ⟨t, left, rfl, _, rfl, _⟩
        simp
      · rintro i ys H3 hi ⟨t, left, rfl, hper, rfl, hl3, hp3, k3, hD3⟩
        have hlen : t.length + left.length = 26 := by have := hper.length_eq; simpa [az] using this
        have hl1' : 1 ≤ left.length := by omega
        refine tNoIf_go ?_
        refine ⟨_, rfl, .inl ⟨rfl, _, SqL.of hl3⟩, _, rfl, _, rfl, l, _, rfl, SqL.of hl3, p, _, rfl, hp3, by rw [List.length_map]; omega, by rw [List.length_map]; omega, fun r H4 r0 r1 hp4 k4 => ?_⟩
        rw [List.length_map] at r1
        have hl4 := k4 _ _ hl3 nlp
        have hD4 := k4 _ _ hD3 nD
        have hr : r.toNat < left.length := by omega
        have hc' : left[r.toNat]? = some left[r.toNat] := by simp [hr]
        refine ⟨l, _, r, r.toNat, sg left[r.toNat], rfl, rfl, hl4, by omega, by omega, ?_, by rw [List.getElem?_map, hc']; rfl, ?_⟩
        · rw [List.length_map]
          exact (ixN_seq (ixN_pos _ _ r0 r1)).1
        · have ee : (left.map sg).eraseIdx r.toNat = (left.eraseIdx r.toNat).map sg := by
            apply List.ext_getElem?
            intro q
            rw [List.getElem?_map, List.getElem?_eraseIdx, List.getElem?_eraseIdx]
            split <;> rw [List.getElem?_map]
          rw [ee]
          refine ⟨by rw [upd_ne nlD.symm]; exact hD4, t ++ [left[r.toNat]], left.eraseIdx r.toNat, by simp, ?_, by simp, by rw [upd_ne nlD, upd_same], ?_, fun b o e n => ?_, upd_same⟩
          · have h1 : (left[r.toNat] :: left.eraseIdx r.toNat).Perm left := by
              rw [List.eraseIdx_eq_take_drop_succ]
              have q := List.perm_middle (a := left[r.toNat]) (l₁ := left.take r.toNat) (l₂ := left.drop (r.toNat + 1))
              rw [← List.drop_eq_getElem_cons hr, List.take_append_drop] at q
              exact q.symm
            have h2 : ((t ++ [left[r.toNat]]) ++ left.eraseIdx r.toNat).Perm (t ++ left) := by
              rw [List.append_assoc]
              exact List.Perm.append_left t h1
            exact h2.trans hper
          · exact (hp4.upd nlp.symm).upd nD.symm
          · rw [upd_ne (ne_of_none e hDn), upd_ne (ne_of_none e hl)]
            exact k4 _ _ (k3 b o e n) n
      · rintro ys H3 ⟨t, left, rfl, hper, hl3, hl4, hp3, k3, hD3⟩
        refine k t D H3 hDn hD3 (fun c hc => az_mem (hper.mem_iff.mp (List.mem_append_left _ hc))) ?_ (by omega) (by omega) hp3 (fun b o e n => k3 b o e n)
        exact (List.nodup_append.mp (hper.nodup_iff.mpr naz)).1
theorem scSigns : FnScope ["pot", "letters", "many"] ["pot", "letters", "many"] (defScope sSigns) := ⟨rfl, rfl, rfl, by decide +kernel, rfl, by decide +kernel, by decide +kernel⟩
theorem ok_signs (M : Md K mg) (B : Bl mg) (F : FF K "_law_signs" sSigns) (F_law_take : Fn P w K mg base CX0 "_law_take" 1 ["pot", "many"] spTake) : Fn P w K mg base CX0 "_law_signs" 2 ["pot", "letters", "many"] spSigns := by
  refine fn_ok M F scSigns (fun _ _ _ _ _ _ => us3 fun _ _ _ => rfl) (fun vs H Q E h => ?_) (fun f cdv A outer s H vs Q E hr h => ?_)
  · obtain ⟨p, b, z, n, rfl, _⟩ := h; rfl
  · obtain ⟨p, b, z, n, rfl, hp, hb, lz, z1, z2, n0, n1, k⟩ := h
    refine ⟨_, (pss_one (ps_ret (pe_comp ["pot", "letters", "many"] rfl (pi_range1 (by rfl) B.range (pa_cons (pv 2) pa_nil)) (fun _ => by exact pif_nil) (fun _ => by exact (pe_ix ix_list (pv 1) (pe_fn F_law_take hr pass0 (pa_cons (pv 0) (pa_cons (pe_lenL B.len (pv 1)) pa_nil))) (fun _ _ => rfl)))))), ?_⟩
    have nbp := hand_ne hp hb
    refine ⟨_, rfl, n, rfl, by omega, by omega, fun D hD cb => ?_⟩
    have nD : D ≠ p := (hp.ne hD).symm
    refine comp_range (lo := 0) (n := n.toNat) (fun i ys H2 => ∃ t : List Nat, ys = t.map sg ∧ Low t ∧ t.length = i ∧ Hand H2 p ∧ Keep p H H2 ∧ H2 D = some (.lst ys)) (small1000 (by omega)) ?_ ?_ ?_ ?_
    · exact ⟨[], rfl, Low.nil, rfl, hp.upd (hp.ne hD), (Same.upd hD).keep, upd_same⟩
    · rintro i ys H2 ⟨t, rfl, _, rfl, _⟩
      simp
    · rintro i ys H2 hi ⟨t, rfl, lt, rfl, hp2, k2, hD2⟩
      refine tNoIf_go ?_
      have hb2 := k2 _ _ hb nbp
      refine ⟨_, rfl, _, rfl, _, rfl, b, _, rfl, SqL.of hb2, p, _, rfl, hp2, by rw [List.length_map]; omega, by rw [List.length_map]; omega, fun r H3 r0 r1 hp3 k3 => ?_⟩
      rw [List.length_map] at r1
      obtain ⟨c, _, c1, c2, ec⟩ := sg_at lz r0 r1
      refine ⟨b, _, r, _, rfl, rfl, SqL.of (k3 _ _ hb2 nbp), ec, k3 _ _ hD2 nD, t ++ [c], by simp, ?_, by simp, hp3.upd nD.symm, ?_, upd_same⟩
      · exact lt.app fun d hd => by rw [List.mem_singleton.mp hd]; exact ⟨c1, c2⟩
      · intro b o e nb
        rw [upd_ne (ne_of_none e hD)]
        exact k3 _ _ (k2 b o e nb) nb
    · rintro ys H2 ⟨t, rfl, lt, hl, hp2, k2, hD2⟩
      exact k t D H2 hD hD2 lt hl hp2 k2
end

end Ov

namespace Ov
open PySem L2
abbrev sWord : Stmt := top 29
def spWord : Sp := fun vs H Q _ => ∃ (p b : Addr) (z : List Nat) (m : Int), vs = [.ref p, .ref b, .int m] ∧ Hand H p ∧ H b = some (.lst (z.map sg)) ∧ Low z ∧ 1 ≤ z.length ∧ z.length ≤ 900 ∧ 1 ≤ m ∧ m ≤ 300 ∧
  ∀ (t : List Nat) (r : Addr) (H' : Hp), H r = none → H' r = some (.lst (t.map sg)) → Low t → 1 ≤ t.length → (t.length : Int) ≤ m → Hand H' p → Keep p H H' → Q (.ref r) H'
theorem rep_sg (n : Nat) (t : List Nat) : (List.replicate n (t.map sg)).flatten = ((List.replicate n t).flatten).map sg := by
  induction n with
  | zero => rfl
  | succ n ih => rw [List.replicate_succ, List.flatten_cons, ih, List.replicate_succ, List.flatten_cons, List.map_append]
theorem Low.rep {t : List Nat} (h : Low t) (n : Nat) : Low (List.replicate n t).flatten := fun c hc => by
  obtain ⟨l, hl, hc⟩ := List.mem_flatten.mp hc
  rw [(List.mem_replicate.mp hl).2] at hc
  exact h c hc
theorem rep_len (n : Nat) (t : List Nat) : (List.replicate n t).flatten.length = n * t.length := by
  induction n with
  | zero => simp
  | succ n ih => rw [List.replicate_succ, List.flatten_cons, List.length_append, ih, Nat.succ_mul, Nat.add_comm]
/-- a list of signs so many times -/
theorem rep_op {H : Hp} {l : Addr} {t : List Nat} {n : Int} {Q : VK} (h : H l = some (.lst (t.map sg))) (n0 : 0 ≤ n) (n1 : n ≤ 1000) (hz : t.length * n.toNat ≤ 20000) (k : ∀ b, H b = none → Q (.ref b) (L2.upd H b (.lst ((List.replicate n.toNat t).flatten.map sg)))) : rRep (.ref l) (.int n) H Q :=
  ⟨l, n, _, rfl, rfl, h, by omega, by omega, by rw [List.length_map]; exact Nat.le_trans hz (by decide), fun b hb => by rw [rep_sg]; exact k b hb⟩
section
variable {P : Program} {w : World} {K : PySem.W.Frag} {mg : Str → Option Value} {base : Heap}
theorem scWord : FnScope ["pot", "letters", "most", "size", "kind", "piece", "amid", "once"] ["pot", "letters", "most"] (defScope sWord) := ⟨rfl, rfl, rfl, by decide +kernel, rfl, by decide +kernel, by decide +kernel⟩
theorem pick3 {a b c r : Int} (r0 : 0 ≤ r) (r1 : r < 3) : ∃ v : Int, (v = a ∨ v = b ∨ v = c) ∧ atI [V.int a, V.int b, V.int c] r = some (.int v) := by
  obtain ⟨v, hv, hmem, e⟩ := atI_ex [V.int a, V.int b, V.int c] r r0 (by simpa using r1)
  simp at hmem
  rcases hmem with rfl | rfl | rfl
  · exact ⟨a, .inl rfl, e⟩
  · exact ⟨b, .inr (.inl rfl), e⟩
  · exact ⟨c, .inr (.inr rfl), e⟩
theorem ok_word (M : Md K mg) (B : Bl mg) (F : FF K "_law_word" sWord) (F_law_take : Fn P w K mg base CX0 "_law_take" 1 ["pot", "many"] spTake) (F_law_signs : Fn P w K mg base CX0 "_law_signs" 2 ["pot", "letters", "many"] spSigns) : Fn P w K mg base CX0 "_law_word" 3 ["pot", "letters", "most"] spWord := by
  refine fn_ok M F scWord (fun _ _ _ _ _ _ => us3 fun _ _ _ => rfl) (fun vs H Q E h => ?_) (fun f cdv A outer s H vs Q E hr h => ?_)
  · obtain ⟨p, b, z, m, rfl, _⟩ := h; rfl
  · obtain ⟨p, b, z, m, rfl, hp, hb, lz, z1, z2, m1, m2, k⟩ := h
    refine ⟨_, (pss_cons (ps_set (i := 3) scWord.nd rfl (by first | exact Or.inl rfl | exact Or.inr rfl) (pe_op op_add pe_int (pe_fn F_law_take hr pass0 (pa_cons (pv 0) (pa_cons (pe_ix ix_list (pe_lst (pa_cons (pe_min rfl B.min pe_int (pv 2)) (pa_cons (pe_min rfl B.min pe_int (pv 2)) (pa_cons (pv 2) pa_nil)))) (pe_fn F_law_take hr pass0 (pa_cons (pv 0) (pa_cons pe_int pa_nil))) (fun _ _ => rfl)) pa_nil)))))
      (pss_cons (ps_set (i := 4) scWord.nd rfl (by first | exact Or.inl rfl | exact Or.inr rfl) (pe_fn F_law_take hr pass0 (pa_cons (pv 0) (pa_cons pe_int pa_nil))))
      (pss_cons (ps_set (i := 5) scWord.nd rfl (by first | exact Or.inl rfl | exact Or.inr rfl) (pe_fn F_law_signs hr pass0 (pa_cons (pv 0) (pa_cons (pv 1) (pa_cons (pe_op op_add pe_int (pe_fn F_law_take hr pass0 (pa_cons (pv 0) (pa_cons (pe_min rfl B.min (pv 3) pe_int) pa_nil)))) pa_nil)))))
      (pss_cons (ps_if (pt_cmpR op_eq (pv 4) pe_int (nomark _)) (pss_one (ps_ret (pe_slice sl_list (pe_op op_rep (pv 5) (pv 3)) po_none (po_some (pv 3))))) pss_nil)
      (pss_cons (ps_if (pt_cmpR op_eq (pv 4) pe_int (nomark _)) (pss_cons (ps_set (i := 6) scWord.nd rfl (by first | exact Or.inl rfl | exact Or.inr rfl) (pe_fn F_law_signs hr pass0 (pa_cons (pv 0) (pa_cons (pv 1) (pa_cons (pe_fn F_law_take hr pass0 (pa_cons (pv 0) (pa_cons pe_int pa_nil))) pa_nil)))))
      (pss_one (ps_ret (pe_slice sl_list (pe_op op_cat (pe_op op_cat (pv 5) (pv 6)) (pv 5)) po_none (po_some (pe_max rfl B.max pe_int (pv 2))))))) pss_nil)
      (pss_cons (ps_if (pt_cmpR op_eq (pv 4) pe_int (nomark _)) (pss_cons (ps_set (i := 7) scWord.nd rfl (by first | exact Or.inl rfl | exact Or.inr rfl) (pe_op op_rep (pe_op op_cat (pv 5) (pe_slice sl_list (pv 5) po_none (po_some (pe_fn F_law_take hr pass0 (pa_cons (pv 0) (pa_cons (pe_op op_add (pe_lenL B.len (pv 5)) pe_int) pa_nil)))))) pe_int))
      (pss_one (ps_ret (pe_slice sl_list (pe_op op_rep (pv 7) (pv 3)) po_none (po_some (pv 3)))))) pss_nil)
      (pss_cons (ps_if (pt_cmpR op_eq (pv 4) pe_int (nomark _)) (pss_one (ps_ret (pe_op op_rep (pe_slice sl_list (pv 1) po_none (po_some pe_int)) (pv 3)))) pss_nil)
      (pss_one (ps_ret (pe_fn F_law_signs hr pass0 (pa_cons (pv 0) (pa_cons (pv 1) (pa_cons (pv 3) pa_nil))))))))))))), ?_⟩
    have nbp := hand_ne hp hb
    refine ⟨_, rfl, _, rfl, _, _, rfl, rfl, _, rfl, _, _, rfl, rfl, _, rfl, by show 3 ≤ sizeLine; decide, fun l0 hl0 => ?_⟩
    have s1 := Same.upd (o := .lst [V.int (if m < 5 then m else 5), V.int (if m < 20 then m else 20), V.int m]) hl0
    have hp1 := hp.same s1
    refine ⟨_, rfl, p, 3, rfl, hp1, by decide, by decide, fun r H2 r0 r1 hp2 k2 => ?_⟩
    have hl2 := k2 _ _ upd_same (fun q => hp.ne hl0 q.symm)
    obtain ⟨v, hv, ev⟩ := pick3 (a := if m < 5 then m else 5) (b := if m < 20 then m else 20) (c := m) r0 r1
    have hv' : 1 ≤ v ∧ v ≤ m := by
      rcases hv with rfl | rfl | rfl
      · split <;> omega
      · split <;> omega
      · omega
    refine ⟨l0, _, r, _, rfl, rfl, SqL.of hl2, ev, p, v, rfl, hp2, hv'.1, by omega, fun n H3 n0 n1 hp3 k3 => ?_⟩
    have k03 := (s1.keep.trans k2).trans k3
    refine ⟨_, _, rfl, rfl, ?_⟩
    have sz1 : 1 ≤ 1 + n ∧ 1 + n ≤ m := by omega
    refine ⟨_, rfl, p, 5, rfl, hp3, by decide, by decide, fun kind H4 i0 i1 hp4 k4 => ?_⟩
    have k04 := k03.trans k4
    have hb4 := k04 _ _ hb nbp
    refine ⟨_, rfl, _, rfl, _, rfl, _, rfl, _, _, rfl, rfl, p, _, rfl, hp4, by split <;> omega, by split <;> omega, fun c H5 c0 c1 hp5 k5 => ?_⟩
    have c8 : c < 8 := by split at c1 <;> omega
    have k05 := k04.trans k5
    have hb5 := k05 _ _ hb nbp
    refine ⟨_, _, rfl, rfl, p, b, z, 1 + c, rfl, hp5, hb5, lz, z1, z2, by omega, by omega, fun t q H6 hq0 hq6 lt tl hp6 k6 => ?_⟩
    have k06 := k05.trans k6
    have hb6 := k06 _ _ hb nbp
    have tl' : 1 ≤ t.length ∧ t.length ≤ 8 := by omega
    have mul : ∀ a b : Nat, a ≤ 40 → b ≤ 300 → a * b ≤ 20000 := fun a b h1 h2 => Nat.le_trans (Nat.mul_le_mul h1 h2) (by decide)
    have long : ∀ x : List Nat, 1 ≤ x.length → (1 + n).toNat ≤ (List.replicate (1 + n).toNat x).flatten.length := fun x hx => by
      rw [rep_len]
      exact Nat.le_mul_of_pos_right _ hx
    refine ⟨_, rfl, rfl, _, rfl, ?_⟩
    refine ite2 (fun hc => ?_) (fun hc => ?_)
    · refine ⟨_, rfl, _, rfl, rep_op hq6 (by omega) (by omega) (mul _ _ (by omega) (by omega)) fun l hl => ?_⟩
      have s7 := Same.upd (o := .lst ((List.replicate (1 + n).toNat t).flatten.map sg)) hl
      refine ⟨_, rfl, (1 + n), rfl, l, _, rfl, SqL.of upd_same, fun l2 hl2' => ?_⟩
      rw [cut_hi (by omega)]
      have s8 := s7.trans (Same.upd (o := .lst (((List.replicate (1 + n).toNat t).flatten.take (1 + n).toNat).map sg)) hl2')
      have hll := long t tl'.1
      exact k _ l2 _ (by obtain ⟨x, y, w', e'⟩ := hp6; exact k06.free e' (s7.free hl2')) upd_same ((lt.rep _).take _) (by rw [List.length_take]; omega) (by rw [List.length_take]; omega) (hp6.same s8) (k06.trans s8.keep)
    · refine ⟨_, rfl, rfl, _, rfl, ?_⟩
      refine ite2 (fun hc2 => ?_) (fun hc2 => ?_)
      · refine ⟨_, rfl, _, rfl, _, rfl, p, 4, rfl, hp6, by decide, by decide, fun d H7 d0 d1 hp7 k7 => ?_⟩
        have hb7 := k7 _ _ hb6 (hand_ne hp6 hb6)
        have hq7 := k7 _ _ hq6 (hand_ne hp6 hq6)
        refine ⟨p, b, z, d, rfl, hp7, hb7, lz, z1, z2, d0, by omega, fun v' y H8 hy0 hy8 lv vl hp8 k8 => ?_⟩
        have hq8 := k8 _ _ hq7 (hand_ne hp7 hq7)
        refine ⟨_, rfl, _, rfl, cat_sg hq8 hy8 (by omega) fun l hl => ?_⟩
        have s9 := Same.upd (o := .lst ((t ++ v').map sg)) hl
        refine ⟨_, rfl, cat_sg upd_same (s9 _ _ hq8) (by rw [List.length_append]; omega) fun l2 hl2' => ?_⟩
        have s10 := s9.trans (Same.upd (o := .lst ((t ++ v' ++ t).map sg)) hl2')
        have hx10 := upd_same (H := L2.upd H8 l (.lst ((t ++ v').map sg))) (a := l2) (o := .lst ((t ++ v' ++ t).map sg))
        generalize L2.upd (L2.upd H8 l (.lst ((t ++ v').map sg))) l2 (.lst ((t ++ v' ++ t).map sg)) = H10 at *
        refine ⟨_, rfl, _, _, rfl, rfl, _, rfl, l2, _, rfl, SqL.of hx10, fun l3 hl3 => ?_⟩
        have em : (if m > 1 then m else 1) = m := by split <;> omega
        rw [em, cut_hi (by omega)]
        have s11 := s10.trans (Same.upd (o := .lst (((t ++ v' ++ t).take m.toNat).map sg)) hl3)
        have k08 := (k06.trans k7).trans k8
        exact k _ l3 _ (by obtain ⟨x, y, w', e'⟩ := hp8; exact k08.free e' (s10.free hl3)) upd_same (((lt.app lv).app lt).take _) (by rw [List.length_take, List.length_append]; omega) (by rw [List.length_take]; omega) (hp8.same s11) (k08.trans s11.keep)
      · refine ⟨_, rfl, rfl, _, rfl, ?_⟩
        refine ite2 (fun hc3 => ?_) (fun hc3 => ?_)
        · refine ⟨_, rfl, _, rfl, _, rfl, _, rfl, q, _, rfl, SqL.of hq6, _, _, rfl, rfl, p, _, rfl, hp6, by rw [List.length_map]; omega, by rw [List.length_map]; omega, fun d H7 d0 d1 hp7 k7 => ?_⟩
          have hq7 := k7 _ _ hq6 (hand_ne hp6 hq6)
          refine ⟨d, rfl, q, _, rfl, SqL.of hq7, fun l hl => ?_⟩
          rw [cut_hi d0]
          have s8 := Same.upd (o := .lst ((t.take d.toNat).map sg)) hl
          refine cat_sg (s8 _ _ hq7) upd_same (by rw [List.length_take]; omega) fun l2 hl2' => ?_
          have s9 := s8.trans (Same.upd (o := .lst ((t ++ t.take d.toNat).map sg)) hl2')
          have hx9 := upd_same (H := L2.upd H7 l (.lst ((t.take d.toNat).map sg))) (a := l2) (o := .lst ((t ++ t.take d.toNat).map sg))
          generalize L2.upd (L2.upd H7 l (.lst ((t.take d.toNat).map sg))) l2 (.lst ((t ++ t.take d.toNat).map sg)) = H9 at *
          have ol : (t ++ t.take d.toNat).length ≤ 16 ∧ 1 ≤ (t ++ t.take d.toNat).length := by rw [List.length_append, List.length_take]; omega
          dsimp only [tC]
          refine rep_op (n := 2) hx9 (by decide) (by decide) (mul _ _ (by omega) (by decide)) fun l3 hl3 => ?_
          have s10 := s9.trans (Same.upd (o := .lst ((List.replicate (2 : Int).toNat (t ++ t.take d.toNat)).flatten.map sg)) hl3)
          have hx10 := upd_same (H := H9) (a := l3) (o := .lst ((List.replicate (2 : Int).toNat (t ++ t.take d.toNat)).flatten.map sg))
          have o2 : (List.replicate (2 : Int).toNat (t ++ t.take d.toNat)).flatten.length = 2 * (t ++ t.take d.toNat).length := rep_len 2 _
          have lo2 : Low (List.replicate (2 : Int).toNat (t ++ t.take d.toNat)).flatten := (lt.app (lt.take _)).rep _
          generalize (List.replicate (2 : Int).toNat (t ++ t.take d.toNat)).flatten = once at *
          generalize L2.upd H9 l3 (.lst (once.map sg)) = H10 at *
          refine ⟨_, rfl, _, rfl, rep_op hx10 (by omega) (by omega) (mul _ _ (by omega) (by omega)) fun l4 hl4 => ?_⟩
          have s11 := s10.trans (Same.upd (o := .lst ((List.replicate (1 + n).toNat once).flatten.map sg)) hl4)
          have hx11 := upd_same (H := H10) (a := l4) (o := .lst ((List.replicate (1 + n).toNat once).flatten.map sg))
          generalize L2.upd H10 l4 (.lst ((List.replicate (1 + n).toNat once).flatten.map sg)) = H11 at *
          refine ⟨_, rfl, (1 + n), rfl, l4, _, rfl, SqL.of hx11, fun l5 hl5 => ?_⟩
          rw [cut_hi (by omega)]
          have s12 := s11.trans (Same.upd (o := .lst (((List.replicate (1 + n).toNat once).flatten.take (1 + n).toNat).map sg)) hl5)
          have hll := long once (by omega)
          have k07 := k06.trans k7
          exact k _ l5 _ (by obtain ⟨x, y, w', e'⟩ := hp7; exact k07.free e' (s11.free hl5)) upd_same ((lo2.rep _).take _) (by rw [List.length_take]; omega) (by rw [List.length_take]; omega) (hp7.same s12) (k07.trans s12.keep)
        · refine ⟨_, rfl, rfl, _, rfl, ?_⟩
          refine ite2 (fun hc4 => ?_) (fun hc4 => ?_)
          · refine ⟨_, rfl, 1, rfl, b, _, rfl, SqL.of hb6, fun l hl => ?_⟩
            rw [cut_hi (by decide)]
            have s7 := Same.upd (o := .lst ((z.take (1 : Int).toNat).map sg)) hl
            have zl : (z.take (1 : Int).toNat).length = 1 := by rw [List.length_take, show (1 : Int).toNat = 1 from rfl]; omega
            refine ⟨_, rfl, rep_op upd_same (by omega) (by omega) (mul _ _ (by omega) (by omega)) fun l2 hl2' => ?_⟩
            have s8 := s7.trans (Same.upd (o := .lst ((List.replicate (1 + n).toNat (z.take (1 : Int).toNat)).flatten.map sg)) hl2')
            have hrl := rep_len (1 + n).toNat (z.take (1 : Int).toNat)
            rw [zl, Nat.mul_one] at hrl
            exact k _ l2 _ (by obtain ⟨x, y, w', e'⟩ := hp6; exact k06.free e' (s7.free hl2')) upd_same ((lz.take _).rep _) (by rw [hrl]; omega) (by rw [hrl]; omega) (hp6.same s8) (k06.trans s8.keep)
          · refine ⟨_, rfl, _, rfl, _, rfl, p, b, z, (1 + n), rfl, hp6, hb6, lz, z1, z2, by omega, by omega, fun t' y H7 hy0 hy7 lt' tl7 hp7 k7 => ?_⟩
            exact k t' y H7 (by obtain ⟨x, w1, w', e'⟩ := hp6; exact k06.free e' hy0) hy7 lt' (by omega) (by omega) hp7 (k06.trans k7)
end

end Ov

namespace Ov
open PySem L2
abbrev sShiftsL : Stmt := top 30
abbrev sSpoilt : Stmt := top 31
/-- the shifts of a word, rising -/
def shiftsOf (u : List Nat) : List Nat := ((List.range u.length).map (· + 1)).filter fun d => decide (u.drop d = u.take (u.length - d))
theorem shift_iff {u : List Nat} {d : Nat} (hd : d ≤ u.length) : u.drop d = u.take (u.length - d) ↔ ∀ q, q < u.length - d → u[d + q]? = u[q]? := by
  constructor
  · intro h q hq
    have := congrArg (·[q]?) h
    have this : (u.drop d)[q]? = (u.take (u.length - d))[q]? := this
    rw [List.getElem?_drop, List.getElem?_take_of_lt hq] at this
    exact this
  · intro h
    apply List.ext_getElem?
    intro q
    by_cases hq : q < u.length - d
    · rw [List.getElem?_drop, List.getElem?_take_of_lt hq]; exact h q hq
    · rw [List.getElem?_eq_none (by rw [List.length_drop]; omega), List.getElem?_eq_none (by rw [List.length_take]; omega)]
theorem shifts_step (u : List Nat) (i : Nat) : ((List.range (i + 1)).map (· + 1)).filter (fun d => decide (u.drop d = u.take (u.length - d))) = ((List.range i).map (· + 1)).filter (fun d => decide (u.drop d = u.take (u.length - d))) ++ (if u.drop (i + 1) = u.take (u.length - (i + 1)) then [i + 1] else []) := by
  rw [List.range_succ, List.map_append, List.filter_append]
  congr 1
  by_cases h : u.drop (i + 1) = u.take (u.length - (i + 1)) <;> simp [h]
theorem shifts_len (u : List Nat) : (shiftsOf u).length ≤ u.length := by
  unfold shiftsOf
  have := List.length_filter_le (fun d => decide (u.drop d = u.take (u.length - d))) ((List.range u.length).map (· + 1))
  simpa using this
def spShifts : Sp := fun vs H Q _ => ∃ (a : Addr) (u : List Nat), vs = [.ref a] ∧ H a = some (.lst (u.map sg)) ∧ Low u ∧ 1 ≤ u.length ∧ u.length ≤ 900 ∧
  ∀ (r : Addr) (H' : Hp), H r = none → H' r = some (.lst (vInts (shiftsOf u))) → Same H H' → Q (.ref r) H'
def spSpoilt : Sp := fun vs H Q _ => ∃ (p a b : Addr) (t z : List Nat) (n : Int), vs = [.ref p, .ref a, .ref b, .int n] ∧ Hand H p ∧ H a = some (.lst (t.map sg)) ∧ H b = some (.lst (z.map sg)) ∧ Low t ∧ 1 ≤ t.length ∧ t.length ≤ 900 ∧ Low z ∧ z.length ≤ 900 ∧ 0 ≤ n ∧ n ≤ 900 ∧
  ∀ (t' : List Nat) (r : Addr) (H' : Hp), H r = none → H' r = some (.lst (t'.map sg)) → Low t' → t'.length = t.length → Hand H' p → Keep p H H' → Q (.ref r) H'
theorem vInts_snoc' (ks : List Nat) (i : Nat) : vInts (ks ++ [i]) = vInts ks ++ [V.int (i : Int)] := by simp [vInts]
theorem sg_inj {a b : Nat} : (sg a = sg b) ↔ a = b := by
  constructor
  · intro h
    have : sgS a = sgS b := V.str.inj h
    simpa [sgS] using this
  · intro h; rw [h]
section
variable {P : Program} {w : World} {K : PySem.W.Frag} {mg : Str → Option Value} {base : Heap}
theorem scShiftsL : FnScope ["word", "found", "far"] ["word"] (defScope sShiftsL) := ⟨rfl, rfl, rfl, by decide +kernel, rfl, by decide +kernel, by decide +kernel⟩
theorem ok_shiftsL (M : Md K mg) (B : Bl mg) (F : FF K "_law_shifts" sShiftsL) : Fn P w K mg base CX0 "_law_shifts" 1 ["word"] spShifts := by
  refine fn_ok M F scShiftsL (fun _ _ _ _ _ _ => us1 fun _ => rfl) (fun vs H Q E h => ?_) (fun f cdv A outer s H vs Q E hr h => ?_)
  · obtain ⟨a, u, rfl, _⟩ := h; rfl
  · obtain ⟨a, u, rfl, ha, lu, u1, ul, k⟩ := h
    refine ⟨_, (pss_cons (ps_set (i := 1) scShiftsL.nd rfl (by first | exact Or.inl rfl | exact Or.inr rfl) (pe_lst pa_nil))
      (pss_cons (ps_for PassesOwn.never rfl (pi_range2 (by rfl) B.range (pa_cons pe_int (pa_cons (pe_op op_add (pe_lenL B.len (pv 0)) pe_int) pa_nil))) (pg_name (i := 2) scShiftsL.nd rfl (by first | exact Or.inl rfl | exact Or.inr rfl))
      (pss_one (ps_if (pt_cmpR (op_eqLI (by exact hr)) (pe_comp ["word", "found", "far"] rfl (pi_range2 (by rfl) B.range (pa_cons (pv 2) (pa_cons (pe_lenL B.len (pv 0)) pa_nil))) (fun _ => by exact (pif_one (pt_cmpR op_ne (pe_ix ix_list (pv 0) (pv 3) (fun _ _ => rfl)) (pe_ix ix_list (pv 0) (pe_op op_sub (pv 3) (pv 2)) (fun _ _ => rfl)) (nomark _)))) (fun _ => by exact (pv 3))) (pe_lst pa_nil) (nomark _)) (pss_one (ps_expr (pe_bm PySem.F.plainAttrs_list PySem.F.slot_list_append PySem.F.type_list_append mt_append (pv 1) (pa_cons (pv 2) pa_nil)))) pss_nil)))
      (pss_one (ps_ret (pv 1))))), ?_⟩
    refine ⟨Nat.zero_le _, fun r hrn => ?_⟩
    have s0 := Same.upd (o := .lst []) hrn
    refine ⟨_, rfl, a, _, rfl, SqL.of (s0 _ _ ha), _, _, rfl, rfl, 1, _, rfl, ⟨by decide, by decide, by rw [List.length_map]; omega, by rw [List.length_map]; omega⟩, ?_⟩
    rw [List.length_map, show ((u.length : Int) + 1 - 1).toNat = u.length by omega]
    refine for_range (lo := 1) (n := u.length) (fun i σ H2 => ∃ v2, σ = [some (.ref a), some (.ref r), v2] ∧ Same H H2 ∧ H2 r = some (.lst (vInts (((List.range i).map (· + 1)).filter fun d => decide (u.drop d = u.take (u.length - d)))))) ?_ ?_ ?_
    · exact ⟨none, rfl, s0, upd_same⟩
    · rintro i σ H2 hi ⟨v2, rfl, s2, hr2⟩
      have ha2 := s2 _ _ ha
      refine ⟨_, rfl, _, rfl, a, _, rfl, SqL.of ha2, 1 + (i : Int), _, rfl, ⟨by omega, by omega, by rw [List.length_map]; omega, by rw [List.length_map]; omega⟩, fun D hD cb => ?_⟩
      rw [List.length_map, show ((u.length : Int) - (1 + (i : Int))).toNat = u.length - (i + 1) by omega]
      refine comp_range (lo := 1 + (i : Int)) (n := u.length - (i + 1)) (fun j ys H3 => ∃ zs : List Int, ys = zs.map V.int ∧ zs.length ≤ j ∧ (zs = [] ↔ ∀ q, q < j → u[i + 1 + q]? = u[q]?) ∧ Same H2 H3 ∧ H3 D = some (.lst ys)) (small1000 (by omega)) ?_ ?_ ?_ ?_
      · exact ⟨[], rfl, Nat.le_refl _, by simp, Same.upd hD, upd_same⟩
      · rintro j ys H3 ⟨zs, rfl, h, _⟩
        rw [List.length_map]; exact h
      · rintro j ys H3 hj ⟨zs, rfl, zl, zn, s3, hD3⟩
        have ha3 := s3 _ _ ha2
        obtain ⟨c, hc, _, _, ec⟩ := sg_at (t := u) (r := 1 + (i : Int) + (j : Int)) lu (by omega) (by omega)
        obtain ⟨d, hd, _, _, ed⟩ := sg_at (t := u) (r := 1 + (i : Int) + (j : Int) - (1 + (i : Int))) lu (by omega) (by omega)
        rw [show (1 + (i : Int) + (j : Int)).toNat = i + 1 + j by omega] at hc
        rw [show (1 + (i : Int) + (j : Int) - (1 + (i : Int))).toNat = j by omega] at hd
        refine ⟨_, rfl, _, rfl, a, _, _, _, rfl, rfl, SqL.of ha3, ec, _, rfl, _, rfl, _, rfl, _, _, rfl, rfl, a, _, _, _, rfl, rfl, SqL.of ha3, ed, rfl, _, rfl, ?_⟩
        by_cases hcd : c = d
        · rw [decide_eq_true (sg_inj.mpr hcd)]
          refine iteF ⟨zs, rfl, by omega, ?_, s3, hD3⟩
          rw [zn]
          constructor
          · intro h q hq
            by_cases hqj : q = j
            · subst hqj; rw [hc, hd, hcd]
            · exact h q (by omega)
          · intro h q hq; exact h q (by omega)
        · rw [decide_eq_false (fun q => hcd (sg_inj.mp q))]
          refine iteT ⟨_, rfl, hD3, zs ++ [1 + (i : Int) + (j : Int)], by simp, by simp; omega, ?_, ?_, upd_same⟩
          · constructor
            · intro h; simp at h
            · intro h
              have := h j (by omega)
              rw [hc, hd] at this
              exact absurd (Option.some.inj this) hcd
          · intro b o e
            rw [upd_ne (ne_of_none e hD)]
            exact s3 b o e
      · rintro ys H3 ⟨zs, rfl, zl, zn, s3, hD3⟩
        refine ⟨Nat.zero_le _, fun l hl => ?_⟩
        have s4 := s3.trans (Same.upd (o := .lst []) hl)
        have hr4 := s4 _ _ hr2
        refine ⟨D, l, zs, [], rfl, rfl, SqL.of ((Same.upd hl) _ _ hD3), SqL.of upd_same, _, rfl, ?_⟩
        have hiff : zs = [] ↔ u.drop (i + 1) = u.take (u.length - (i + 1)) := by rw [zn, shift_iff (by omega)]
        by_cases hz : zs = []
        · rw [decide_eq_true hz]
          refine iteT ⟨_, rfl, .inl ⟨rfl, _, SqL.of hr4⟩, _, rfl, r, _, _, rfl, rfl, hr4, ?_, ?_⟩
          · rw [vInts_len]
            have := List.length_filter_le (fun d => decide (u.drop d = u.take (u.length - d))) ((List.range i).map (· + 1))
            simp at this
            exact small1000 (by omega)
          · refine ⟨_, rfl, ?_, ?_⟩
            · intro b o e
              rw [upd_ne (ne_of_none e hrn)]
              exact s4 _ _ (s2 b o e)
            · rw [upd_same, shifts_step, if_pos (hiff.mp hz), vInts_snoc']
              have e : V.int (1 + (i : Int)) = V.int (((i + 1 : Nat) : Int)) := by congr 1; omega
              rw [e]
        · rw [decide_eq_false hz]
          refine iteF ⟨_, rfl, s2.trans s4, ?_⟩
          rw [hr4, shifts_step, if_neg (fun q => hz (hiff.mpr q)), List.append_nil]
    · rintro σ H2 ⟨v2, rfl, s2, hr2⟩
      exact ⟨_, rfl, k r H2 hrn hr2 s2⟩
theorem scSpoilt : FnScope ["pot", "text", "letters", "times", "found", "k"] ["pot", "text", "letters", "times"] (defScope sSpoilt) := ⟨rfl, rfl, rfl, by decide +kernel, rfl, by decide +kernel, by decide +kernel⟩
theorem ok_spoilt (M : Md K mg) (B : Bl mg) (F : FF K "_law_spoilt" sSpoilt) (F_law_take : Fn P w K mg base CX0 "_law_take" 1 ["pot", "many"] spTake) : Fn P w K mg base CX0 "_law_spoilt" 2 ["pot", "text", "letters", "times"] spSpoilt := by
  refine fn_ok M F scSpoilt (fun _ _ _ _ _ _ => us4 fun _ _ _ _ => rfl) (fun vs H Q E h => ?_) (fun f cdv A outer s H vs Q E hr h => ?_)
  · obtain ⟨p, a, b, t, z, n, rfl, _⟩ := h; rfl
  · obtain ⟨p, a, b, t, z, n, rfl, hp, ha, hb, lt, t1, tl, lz, zl, n0, n1, k⟩ := h
    refine ⟨_, (pss_cons (ps_set (i := 4) scSpoilt.nd rfl (by first | exact Or.inl rfl | exact Or.inr rfl) (pe_listOf B.list (pv 1)))
      (pss_cons (ps_for PassesOwn.never rfl (pi_range1 (by rfl) B.range (pa_cons (pv 3) pa_nil)) (pg_name (i := 5) scSpoilt.nd rfl (by first | exact Or.inl rfl | exact Or.inr rfl))
      (pss_one (ps_asg (pe_ix ix_list (pe_op op_cat (pv 2) (pe_lst (pa_cons pe_str pa_nil))) (pe_fn F_law_take hr pass0 (pa_cons (pv 0) (pa_cons (pe_op op_add (pe_lenL B.len (pv 2)) pe_int) pa_nil))) (fun _ _ => rfl)) (pg_sub (pv 4) (pe_fn F_law_take hr pass0 (pa_cons (pv 0) (pa_cons (pe_lenL B.len (pv 4)) pa_nil))) set_list))))
      (pss_one (ps_ret (pv 4))))), ?_⟩
    have nbp := hand_ne hp hb
    refine ⟨_, rfl, a, _, rfl, SqL.of ha, fun r hr0 => ?_⟩
    have s0 := Same.upd (o := .lst (t.map sg)) hr0
    have nrp : r ≠ p := (hp.ne hr0).symm
    refine ⟨_, rfl, n, rfl, by omega, by omega, ?_⟩
    refine for_range (lo := 0) (n := n.toNat) (fun i σ H2 => ∃ (t' : List Nat) (v5 : Option V), σ = [some (.ref p), some (.ref a), some (.ref b), some (.int n), some (.ref r), v5] ∧ H2 r = some (.lst (t'.map sg)) ∧ Low t' ∧ t'.length = t.length ∧ Hand H2 p ∧ Keep p H H2) ?_ ?_ ?_
    · exact ⟨t, none, rfl, upd_same, lt, rfl, hp.same s0, s0.keep⟩
    · rintro i σ H2 hi ⟨t', v5, rfl, hr2, lt', tl', hp2, k2⟩
      have hb2 := k2 _ _ hb nbp
      refine ⟨_, rfl, by show 1 ≤ sizeLine; decide, fun l hl => ?_⟩
      have s3 := Same.upd (o := .lst [V.str "q"]) hl
      have eq : [V.str "q"] = [113].map sg := rfl
      refine cat_sg (t := z) (u := [113]) (s3 _ _ hb2) upd_same (by simp; omega) fun l2 hl2 => ?_
      have s4 := s3.trans (Same.upd (o := .lst ((z ++ [113]).map sg)) hl2)
      have hl24 := upd_same (H := L2.upd H2 l (.lst [V.str "q"])) (a := l2) (o := .lst ((z ++ [113]).map sg))
      generalize L2.upd (L2.upd H2 l (.lst [V.str "q"])) l2 (.lst ((z ++ [113]).map sg)) = H4 at *
      have hp4 := hp2.same s4
      have lzq : Low (z ++ [113]) := lz.app fun c hc => by rw [List.mem_singleton.mp hc]; decide
      refine ⟨_, rfl, _, rfl, b, _, rfl, SqL.of (s4 _ _ hb2), _, _, rfl, rfl, p, _, rfl, hp4, by rw [List.length_map]; omega, by rw [List.length_map]; omega, fun x H5 x0 x1 hp5 k5 => ?_⟩
      rw [List.length_map] at x1
      have hl25 := k5 _ _ hl24 (hand_ne hp4 hl24)
      obtain ⟨c, _, c1, c2, ec⟩ := sg_at (t := z ++ [113]) lzq x0 (by simp; omega)
      have hr5 := k5 _ _ (s4 _ _ hr2) (hand_ne hp4 (s4 _ _ hr2))
      refine ⟨l2, _, x, _, rfl, rfl, SqL.of hl25, ec, _, rfl, _, rfl, _, rfl, r, _, rfl, SqL.of hr5, p, _, rfl, hp5, by rw [List.length_map]; omega, by rw [List.length_map]; omega, fun y H6 y0 y1 hp6 k6 => ?_⟩
      rw [List.length_map] at y1
      have hr6 := k6 _ _ hr5 (hand_ne hp5 hr5)
      refine ⟨r, _, y, y.toNat, rfl, rfl, hr6, by rw [List.length_map]; exact ixN_pos _ _ y0 y1, ?_⟩
      refine ⟨t'.set y.toNat c, _, rfl, by rw [upd_same, List.map_set], lt'.set _ _ ⟨c1, c2⟩, by rw [List.length_set]; exact tl', hp6.upd nrp.symm, fun e o q n => ?_⟩
      rw [upd_ne (ne_of_none q hr0)]
      exact k6 _ _ (k5 _ _ (s4 _ _ (k2 e o q n)) n) n
    · rintro σ H2 ⟨t', v5, rfl, hr2, lt', tl', hp2, k2⟩
      exact ⟨_, rfl, k t' r H2 hr0 hr2 lt' tl' hp2 k2⟩
end

end Ov

namespace Ov
open PySem L2
abbrev sIsSign : Stmt := top 12
abbrev sCheck : Stmt := top 13
def spIsSign : Sp := fun vs H Q _ => ∃ c : Nat, vs = [sg c] ∧ 97 ≤ c ∧ c ≤ 122 ∧ Q (.bl true) H
def spCheck : Sp := fun vs H Q _ => ∃ (a : Addr) (t : List Nat), vs = [.ref a] ∧ H a = some (.lst (t.map sg)) ∧ Low t ∧ Q .non H
theorem sg_ge {c : Nat} (h : 97 ≤ c) : (!decide ((sgS c).cps.toList < (Str.ofString "a").cps.toList)) = true := by
  have e : (Str.ofString "a").cps.toList = [97] := by decide +kernel
  rw [e]
  have : ¬ ([c] < [97]) := fun q => by
    cases q with
    | rel r => omega
    | cons r => cases r
  simp [this]
theorem sg_le {c : Nat} (h : c ≤ 122) : (!decide ((Str.ofString "z").cps.toList < (sgS c).cps.toList)) = true := by
  have e : (Str.ofString "z").cps.toList = [122] := by decide +kernel
  rw [e]
  have : ¬ ([122] < [c]) := fun q => by
    cases q with
    | rel r => omega
    | cons r => cases r
  simp [this]
section
variable {P : Program} {w : World} {K : PySem.W.Frag} {mg : Str → Option Value} {base : Heap}
theorem scIsSign : FnScope ["sign"] ["sign"] (defScope sIsSign) := ⟨rfl, rfl, rfl, by decide +kernel, rfl, by decide +kernel, by decide +kernel⟩
theorem ok_is_sign (M : Md K mg) (B : Bl mg) (F : FF K "is_sign" sIsSign) : Fn P w K mg base CX0 "is_sign" 1 ["sign"] spIsSign := by
  refine fn_ok M F scIsSign (fun _ _ _ _ _ _ => us1 fun _ => rfl) (fun vs H Q E h => ?_) (fun f cdv A outer s H vs Q E hr h => ?_)
  · obtain ⟨c, rfl, _⟩ := h; rfl
  · obtain ⟨c, rfl, c1, c2, k⟩ := h
    refine ⟨_, (pss_one (ps_ret (pe_and (pe_isi B.isinst B.str bt_str (pv 0)) (pe_and (pe_cmpR op_eq (pe_lenS B.len (pv 0)) pe_int (nomark _)) (pe_one (pe_chain op_le_str op_le_str pe_str (pv 0) pe_str)))))), ?_⟩
    refine ⟨_, rfl, _, true, TyOf.str _, rfl, _, rfl, iteT ?_⟩
    refine ⟨_, rfl, _, rfl, sz (by show 1 ≤ 1000; decide), rfl, true, rfl, iteT ?_⟩
    refine ⟨_, rfl, _, _, rfl, rfl, _, rfl, ?_⟩
    rw [sg_ge c1]
    refine iteT ⟨_, _, rfl, rfl, ?_⟩
    rw [sg_le c2]
    exact k
theorem scCheck : FnScope ["text", "sign"] ["text"] (defScope sCheck) := ⟨rfl, rfl, rfl, by decide +kernel, rfl, by decide +kernel, by decide +kernel⟩
theorem ok_check (M : Md K mg) (B : Bl mg) (F : FF K "check_signs" sCheck) (Fis_sign : Fn P w K mg base CX0 "is_sign" 1 ["sign"] spIsSign) : Fn P w K mg base CX0 "check_signs" 2 ["text"] spCheck := by
  refine fn_ok M F scCheck (fun _ _ _ _ _ _ => us1 fun _ => rfl) (fun vs H Q E h => ?_) (fun f cdv A outer s H vs Q E hr h => ?_)
  · obtain ⟨a, t, rfl, _⟩ := h; rfl
  · obtain ⟨a, t, rfl, ha, lt, k⟩ := h
    refine ⟨_, (pss_one (ps_for PassesOwn.never rfl (pi_list (pv 0)) (pg_name (i := 1) scCheck.nd rfl (by first | exact Or.inl rfl | exact Or.inr rfl))
      (pss_one (ps_if (pt_not (pt_val (pe_fn Fis_sign hr pass0 (pa_cons (pv 1) pa_nil)))) (pss_one ps_never) pss_nil)))), ?_⟩
    refine ⟨_, rfl, a, rfl, ⟨_, SqL.of ha⟩, for_list (K := K) (a := a) (xs := t.map sg) (fun i σ H2 => H2 = H ∧ ∃ v, σ = [some (.ref a), v]) ⟨rfl, none, rfl⟩ (fun i σ H2 _ h2 => by rw [h2.1]; exact SqL.of ha) ?_ ?_⟩
    · rintro i x σ H2 hx ⟨rfl, v, rfl⟩
      rw [List.getElem?_map] at hx
      cases e : t[i]? with
      | none => rw [e] at hx; cases hx
      | some c =>
        rw [e] at hx
        have : sg c = x := Option.some.inj hx
        subst this
        have hc := lt c (List.mem_of_getElem? e)
        exact ⟨_, rfl, c, rfl, hc.1, hc.2, true, rfl, iteF ⟨rfl, _, rfl⟩⟩
    · rintro σ H2 ⟨rfl, _⟩
      exact k
end

end Ov

namespace Ov
open PySem L2
def ends (t : List Nat) : List Nat := (List.range t.length).filter fun k => decide (t.take k = t.drop (t.length - k))
def spEnds : Sp := fun vs H Q _ => ∃ (a : Addr) (t : List Nat), vs = [.ref a] ∧ H a = some (.lst (t.map sg)) ∧ Low t ∧ t.length ≤ 1000 ∧
  ∀ (r : Addr) (H' : Hp), H r = none → H' r = some (.lst (vInts (ends t))) → Same H H' → Q (.ref r) H'
theorem ends_lt {t : List Nat} {k : Nat} (h : k ∈ ends t) : k < t.length := by
  simp [ends] at h; exact h.1
theorem ends_len (t : List Nat) : (ends t).length ≤ t.length := filter_len _
theorem ends_step {t : List Nat} {i : Nat} : ((List.range (i + 1)).filter fun k => decide (t.take k = t.drop (t.length - k))) = ((List.range i).filter fun k => decide (t.take k = t.drop (t.length - k))) ++ (if t.take i = t.drop (t.length - i) then [i] else []) := by
  rw [List.range_succ, List.filter_append]
  congr 1
  by_cases h : t.take i = t.drop (t.length - i) <;> simp [h]

end Ov

namespace Ov
open PySem L2
abbrev sBorders : Stmt := top 17
section
variable {P : Program} {w : World} {K : PySem.W.Frag} {mg : Str → Option Value} {base : Heap}
theorem scBorders : FnScope ["text", "length"] ["text"] (defScope sBorders) := ⟨rfl, rfl, rfl, by decide +kernel, rfl, by decide +kernel, by decide +kernel⟩
theorem ok_borders (M : Md K mg) (B : Bl mg) (F : FF K "borders" sBorders) (Fcheck_signs : Fn P w K mg base CX0 "check_signs" 2 ["text"] spCheck) : Fn P w K mg base CX0 "borders" 3 ["text"] spEnds := by
  refine fn_ok M F scBorders (fun _ _ _ _ _ _ => us1 fun _ => rfl) (fun vs H Q E h => ?_) (fun f cdv A outer s H vs Q E hr h => ?_)
  · obtain ⟨a, t, rfl, _⟩ := h; rfl
  · obtain ⟨a, t, rfl, ha, lt, hl, k⟩ := h
    refine ⟨_, (pss_cons (ps_expr (pe_fn Fcheck_signs hr pass0 (pa_cons (pv 0) pa_nil)))
      (pss_cons (ps_set (i := 1) scBorders.nd rfl (by first | exact Or.inl rfl | exact Or.inr rfl) (pe_lenL B.len (pv 0)))
      (pss_one (ps_ret (pe_comp ["text", "length"] rfl (pi_range1 (by rfl) B.range (pa_cons (pv 1) pa_nil)) (fun _ => by exact (pif_one (pt_cmpR (op_eqLS (by exact hr)) (pe_slice sl_list (pv 0) po_none (po_some (pv 2))) (pe_slice sl_list (pv 0) (po_some (pe_op op_sub (pv 1) (pv 2))) po_none) (nomark _)))) (fun _ => by exact (pv 2))))))), ?_⟩
    refine ⟨_, rfl, a, t, rfl, ha, lt, ?_⟩
    refine ⟨_, rfl, a, _, rfl, SqL.of ha, ?_⟩
    refine ⟨_, rfl, _, rfl, by rw [List.length_map]; omega, by rw [List.length_map]; omega, fun D hD b => ?_⟩
    rw [List.length_map, Int.toNat_natCast]
    refine comp_range (lo := 0) (n := t.length) (fun i ys H2 => ys = vInts ((List.range i).filter fun k => decide (t.take k = t.drop (t.length - k))) ∧ Same H H2 ∧ H2 D = some (.lst ys)) (small1000 hl) ?_ ?_ ?_ ?_
    · exact ⟨rfl, Same.upd hD, upd_same⟩
    · rintro i ys H2 ⟨rfl, _⟩
      rw [vInts_len]; exact filter_len _
    · rintro i ys H2 hi ⟨rfl, s2, hD2⟩
      refine ⟨_, rfl, _, rfl, _, rfl, a, _, rfl, SqL.of (s2 _ _ ha), fun p1 hp1 => ?_⟩
      have s3 := s2.trans (Same.upd (o := .lst (cutV (t.map sg) none (some (0 + (i : Int))))) hp1)
      refine ⟨_, rfl, _, rfl, _, rfl, _, _, rfl, rfl, _, rfl, a, _, rfl, SqL.of (s3 _ _ ha), fun p2 hp2 => ?_⟩
      have n12 : p1 ≠ p2 := ne_of_none upd_same hp2
      refine ⟨p1, p2, t.take i, t.drop (t.length - i), rfl, rfl, SqL.of ?_, SqL.of ?_, (lt.take _).cp, (lt.drop _).cp, _, rfl, ?_⟩
      · rw [upd_ne n12, upd_same, cutV_cutL, cutL_map, cutL_hi _ _ (by omega), show (0 + (i : Int)).toNat = i by omega]
      · rw [upd_same, cutV_cutL, cutL_map, cutL_lo _ _ (by omega), show ((t.length : Int) - (0 + (i : Int))).toNat = t.length - i by omega]
      · have s4 := s3.trans (Same.upd (o := .lst (cutV (t.map sg) (some ((t.length : Int) - (0 + (i : Int)))) none)) hp2)
        have hD4 := (Same.upd (H := L2.upd H2 p1 _) (o := .lst (cutV (t.map sg) (some ((t.length : Int) - (0 + (i : Int)))) none)) hp2) _ _ ((Same.upd (o := .lst (cutV (t.map sg) none (some (0 + (i : Int))))) hp1) _ _ hD2)
        refine ite2 (fun hc => ?_) (fun hc => ?_)
        · have hc' : t.take i = t.drop (t.length - i) := by simpa using hc
          refine ⟨_, rfl, hD4, ?_, ?_, upd_same⟩
          · rw [ends_step, if_pos hc', vInts_snoc]
          · intro b o e
            rw [upd_ne (ne_of_none e hD)]
            exact s4 b o e
        · have hc' : ¬ t.take i = t.drop (t.length - i) := by simpa using hc
          refine ⟨?_, s4, hD4⟩
          rw [ends_step, if_neg hc', List.append_nil]
    · rintro ys H2 ⟨rfl, s2, hD2⟩
      exact k D H2 hD hD2 s2
end

end Ov

namespace Ov
open PySem L2
abbrev sPeriods : Stmt := top 18
def pers (t : List Nat) : List Nat := (ends t).reverse.map (t.length - ·)
def spPeriods : Sp := fun vs H Q _ => ∃ (a : Addr) (t : List Nat), vs = [.ref a] ∧ H a = some (.lst (t.map sg)) ∧ Low t ∧ t.length ≤ 1000 ∧
  ∀ (r : Addr) (H' : Hp), H r = none → H' r = some (.lst (vInts (pers t))) → Same H H' → Q (.ref r) H'
theorem take_rev {α : Type} (xs : List α) (i : Nat) (x : α) (h : xs[xs.length - 1 - i]? = some x) (hi : i < xs.length) : xs.reverse.take (i + 1) = xs.reverse.take i ++ [x] := by
  rw [List.take_add_one, List.getElem?_reverse hi, h]
  rfl
section
variable {P : Program} {w : World} {K : PySem.W.Frag} {mg : Str → Option Value} {base : Heap}
theorem scPeriods : FnScope ["text"] ["text"] (defScope sPeriods) := ⟨rfl, rfl, rfl, by decide +kernel, rfl, by decide +kernel, by decide +kernel⟩
theorem ok_periods (M : Md K mg) (B : Bl mg) (F : FF K "periods" sPeriods) (Fborders : Fn P w K mg base CX0 "borders" 3 ["text"] spEnds) : Fn P w K mg base CX0 "periods" 4 ["text"] spPeriods := by
  refine fn_ok M F scPeriods (fun _ _ _ _ _ _ => us1 fun _ => rfl) (fun vs H Q E h => ?_) (fun f cdv A outer s H vs Q E hr h => ?_)
  · obtain ⟨a, t, rfl, _⟩ := h; rfl
  · obtain ⟨a, t, rfl, ha, lt, hl, k⟩ := h
    refine ⟨_, (pss_one (ps_ret (pe_comp ["text"] rfl (pi_rev B.rev (pe_fn Fborders hr pass0 (pa_cons (pv 0) pa_nil))) (fun _ => by exact pif_nil) (fun _ => by exact (pe_op op_sub (pe_lenL B.len (pv 0)) (pv 1)))))), ?_⟩
    refine ⟨_, rfl, a, t, rfl, ha, lt, hl, fun r H1 hr0 hr1 s1 => ?_⟩
    refine ⟨r, _, rfl, SqL.of hr1, fun D hD b => ?_⟩
    have el := ends_len t
    refine comp_rev (K := K) (a := r) (xs := vInts (ends t)) (fun i ys H2 => ys = vInts (((ends t).reverse.take i).map (t.length - ·)) ∧ Same H1 H2 ∧ H2 D = some (.lst ys)) (by rw [vInts_len]; exact small1000 (by omega)) ?_ ?_ ?_ ?_ ?_
    · exact ⟨by simp [vInts], Same.upd hD, upd_same⟩
    · rintro i ys H2 ⟨rfl, _⟩
      rw [vInts_len, List.length_map, List.length_take]; omega
    · rintro i ys H2 _ ⟨rfl, s2, _⟩; exact SqL.of (s2 _ _ hr1)
    · rintro i x ys H2 hx hi ⟨rfl, s2, hD2⟩
      refine tNoIf_go ?_
      rw [vInts_len] at hx hi
      obtain ⟨k, hk, rfl⟩ : ∃ k, (ends t)[(ends t).length - 1 - i]? = some k ∧ x = V.int (k : Int) := by
        unfold vInts at hx
        rw [List.map_map, List.getElem?_map] at hx
        cases q : (ends t)[(ends t).length - 1 - i]? with
        | none => rw [q] at hx; cases hx
        | some k =>
          rw [q] at hx
          exact ⟨k, rfl, (Option.some.inj hx).symm⟩
      have hk' := ends_lt (List.mem_of_getElem? hk)
      refine ⟨_, rfl, a, _, rfl, SqL.of (s2 _ _ (s1 _ _ ha)), _, rfl, _, _, rfl, rfl, hD2, ?_, ?_, upd_same⟩
      · rw [take_rev _ _ _ hk hi, List.map_append, List.length_map]
        show vInts _ ++ [V.int ((t.length : Int) - (k : Int))] = vInts (_ ++ [t.length - k])
        rw [vInts_snoc, Int.zero_add, Int.ofNat_sub (Nat.le_of_lt hk')]
      · intro b o e
        rw [upd_ne (ne_of_none e hD)]
        exact s2 b o e
    · rintro ys H2 ⟨rfl, s2, hD2⟩
      refine k D H2 (s1.free hD) ?_ (s1.trans s2)
      rw [hD2, vInts_len, List.take_of_length_le (by simp)]
      rfl
end

end Ov

namespace Ov
open PySem L2
abbrev sCheckWord : Stmt := top 14
abbrev sShifts : Stmt := top 20
def spCheckWord : Sp := fun vs H Q _ => ∃ (a : Addr) (t : List Nat), vs = [.ref a] ∧ H a = some (.lst (t.map sg)) ∧ Low t ∧ 1 ≤ t.length ∧ Q .non H
theorem rev_range (n : Nat) : (List.range n).reverse.map (n - ·) = (List.range n).map (· + 1) := by
  apply List.ext_getElem
  · simp
  · intro i h1 h2
    simp at h1 h2 ⊢
    omega
theorem pers_shifts (t : List Nat) : pers t = shiftsOf t := by
  unfold pers ends shiftsOf
  rw [← List.filter_reverse, ← rev_range, List.filter_map]
  congr 1
  apply List.filter_congr
  intro k hk
  have hk' : k < t.length := by simpa using hk
  show decide _ = decide _
  have e : t.length - (t.length - k) = k := by omega
  rw [e]
  exact decide_eq_decide.mpr ⟨fun h => h.symm, fun h => h.symm⟩
section
variable {P : Program} {w : World} {K : PySem.W.Frag} {mg : Str → Option Value} {base : Heap}
theorem scCheckWord : FnScope ["word"] ["word"] (defScope sCheckWord) := ⟨rfl, rfl, rfl, by decide +kernel, rfl, by decide +kernel, by decide +kernel⟩
theorem ok_check_word (M : Md K mg) (B : Bl mg) (F : FF K "check_word" sCheckWord) (Fcheck_signs : Fn P w K mg base CX0 "check_signs" 2 ["text"] spCheck) : Fn P w K mg base CX0 "check_word" 3 ["word"] spCheckWord := by
  refine fn_ok M F scCheckWord (fun _ _ _ _ _ _ => us1 fun _ => rfl) (fun vs H Q E h => ?_) (fun f cdv A outer s H vs Q E hr h => ?_)
  · obtain ⟨a, t, rfl, _⟩ := h; rfl
  · obtain ⟨a, t, rfl, ha, lt, t1, k⟩ := h
    refine ⟨_, (pss_cons (ps_if (pt_cmpR op_eq (pe_lenL B.len (pv 0)) pe_int (nomark _)) (pss_one ps_never) pss_nil)
      (pss_one (ps_expr (pe_fn Fcheck_signs hr pass0 (pa_cons (pv 0) pa_nil))))), ?_⟩
    refine ⟨_, rfl, a, _, rfl, SqL.of ha, rfl, _, rfl, ?_⟩
    rw [decide_eq_false (fun q => by have := V.int.inj q; rw [List.length_map] at this; omega)]
    exact iteF ⟨_, rfl, a, t, rfl, ha, lt, k⟩
theorem scShifts : FnScope ["word"] ["word"] (defScope sShifts) := ⟨rfl, rfl, rfl, by decide +kernel, rfl, by decide +kernel, by decide +kernel⟩
theorem ok_shifts (M : Md K mg) (B : Bl mg) (F : FF K "shifts" sShifts) (Fcheck_word : Fn P w K mg base CX0 "check_word" 3 ["word"] spCheckWord) (Fperiods : Fn P w K mg base CX0 "periods" 4 ["text"] spPeriods) : Fn P w K mg base CX0 "shifts" 5 ["word"] spShifts := by
  refine fn_ok M F scShifts (fun _ _ _ _ _ _ => us1 fun _ => rfl) (fun vs H Q E h => ?_) (fun f cdv A outer s H vs Q E hr h => ?_)
  · obtain ⟨a, t, rfl, _⟩ := h; rfl
  · obtain ⟨a, t, rfl, ha, lt, t1, tl, k⟩ := h
    refine ⟨_, (pss_cons (ps_expr (pe_fn Fcheck_word hr pass0 (pa_cons (pv 0) pa_nil)))
      (pss_one (ps_ret (pe_fn Fperiods hr pass0 (pa_cons (pv 0) pa_nil))))), ?_⟩
    refine ⟨_, rfl, a, t, rfl, ha, lt, t1, ?_⟩
    refine ⟨_, rfl, a, t, rfl, ha, lt, by omega, fun r H1 hr0 hr1 s1 => k r H1 hr0 ?_ s1⟩
    rw [hr1, pers_shifts]
end

end Ov

namespace Ov
open PySem L2
/-! chains of a word on a text: what they cost, and the least of them -/
/-- how many of the word's first k signs, laid at p, are wrong -/
def mis (t u : List Nat) (p : Nat) : Nat → Nat
  | 0 => 0
  | k + 1 => mis t u p k + (if t[p + k]? = u[k]? then 0 else 1)
theorem mis_le (t u : List Nat) (p : Nat) : ∀ k, mis t u p k ≤ k
  | 0 => Nat.le_refl _
  | k + 1 => by
    have := mis_le t u p k
    simp only [mis]
    split <;> omega
theorem mis_split {t u : List Nat} {p s : Nat} (h : ∀ q, q < u.length - s → u[s + q]? = u[q]?) : ∀ j, j ≤ u.length - s → mis t u p (s + j) = mis t u p s + mis t u (p + s) j
  | 0, _ => by simp [mis]
  | j + 1, hj => by
    have ih := mis_split (t := t) (p := p) h j (by omega)
    rw [show s + (j + 1) = (s + j) + 1 by omega]
    simp only [mis]
    rw [ih, h j (by omega), show p + (s + j) = p + s + j by omega]
    omega
/-- a chain by steps of S from p to q -/
inductive Ch (S : List Nat) : Nat → Nat → List Nat → Prop
  | one (p : Nat) : Ch S p p [p]
  | cons {p s q : Nat} {l : List Nat} : s ∈ S → Ch S (p + s) q l → Ch S p q (p :: l)
theorem Ch.head {S : List Nat} {p q : Nat} {l : List Nat} (h : Ch S p q l) : ∃ r, l = p :: r := by
  cases h with
  | one => exact ⟨[], rfl⟩
  | cons _ _ => exact ⟨_, rfl⟩
theorem Ch.le {S : List Nat} {p q : Nat} {l : List Nat} (h : Ch S p q l) : p ≤ q := by
  induction h with
  | one => exact Nat.le_refl _
  | cons _ _ ih => omega
theorem Ch.snoc {S : List Nat} {p q s : Nat} {l : List Nat} (h : Ch S p q l) (hs : s ∈ S) : Ch S p (q + s) (l ++ [q + s]) := by
  induction h with
  | one p => exact Ch.cons hs (Ch.one _)
  | cons h1 h2 ih => exact Ch.cons h1 ih
theorem Ch.unsnoc {S : List Nat} {p q : Nat} {l : List Nat} (h : Ch S p q l) : (p = q ∧ l = [p]) ∨ ∃ s q' l', s ∈ S ∧ Ch S p q' l' ∧ q = q' + s ∧ l = l' ++ [q] := by
  induction h with
  | one p => exact .inl ⟨rfl, rfl⟩
  | @cons p s q l h1 h2 ih =>
    refine .inr ?_
    rcases ih with ⟨e1, e2⟩ | ⟨s', q', l', hs, hc, e1, e2⟩
    · subst e1 e2
      exact ⟨s, p, [p], h1, Ch.one _, rfl, rfl⟩
    · subst e1 e2
      exact ⟨s', q', p :: l', hs, Ch.cons h1 hc, rfl, rfl⟩
theorem Ch.last {S : List Nat} {p q : Nat} {l : List Nat} (h : Ch S p q l) : ∃ r, l = r ++ [q] := by
  rcases h.unsnoc with ⟨e1, e2⟩ | ⟨s, q', l', _, _, _, e⟩
  · subst e1 e2; exact ⟨[], rfl⟩
  · exact ⟨l', e⟩
/-- what a chain costs: each place up to the next one, the last one whole -/
def cst (t u : List Nat) : List Nat → Nat
  | [] => 0
  | [p] => mis t u p u.length
  | p :: q :: l => mis t u p (q - p) + cst t u (q :: l)
theorem cst_cons {S t u : List Nat} {p s q : Nat} {l : List Nat} (h : Ch S (p + s) q l) : cst t u (p :: l) = mis t u p s + cst t u l := by
  obtain ⟨r, e⟩ := h.head
  subst e
  simp only [cst]
  rw [show p + s - p = s by omega]
/-- a word's steps: at each it agrees with itself -/
def Steps (u S : List Nat) : Prop := ∀ s ∈ S, 1 ≤ s ∧ s ≤ u.length ∧ ∀ q, q < u.length - s → u[s + q]? = u[q]?
theorem cst_snoc {S t u : List Nat} (hS : Steps u S) {p q s : Nat} {l : List Nat} (h : Ch S p q l) (hs : s ∈ S) : cst t u (l ++ [q + s]) + mis t u (q + s) (u.length - s) = cst t u l + mis t u (q + s) u.length := by
  induction h with
  | one p =>
    obtain ⟨_, h2, h3⟩ := hS s hs
    have := mis_split (t := t) (p := p) h3 (u.length - s) (Nat.le_refl _)
    rw [show s + (u.length - s) = u.length by omega] at this
    show cst t u [p, p + s] + _ = _
    simp only [cst]
    rw [show p + s - p = s by omega, this]
    omega
  | @cons p s' q l h1 h2 ih =>
    rw [List.cons_append, cst_cons (h2.snoc hs), cst_cons h2]
    omega
abbrev il (l : List Nat) : List Int := l.map fun (x : Nat) => (x : Int)
def kyN (c k : Nat) (l : List Nat) : K3 := ((c : Int), (k : Int), il l)
theorem ltL_iff2 (a b c d : Int) (x y : List Int) : lt3 (a, b, x) (c, d, y) = true ↔ a < c ∨ (a = c ∧ (b < d ∨ (b = d ∧ ltL x y = true))) := by
  unfold lt3
  simp only [ltL]
  by_cases h1 : a = c
  · rw [if_pos h1]
    by_cases h2 : b = d
    · rw [if_pos h2]
      constructor
      · intro h; exact .inr ⟨h1, .inr ⟨h2, h⟩⟩
      · rintro (h | ⟨_, h | ⟨_, h⟩⟩)
        · omega
        · omega
        · exact h
    · rw [if_neg h2]
      constructor
      · intro h; exact .inr ⟨h1, .inl (of_decide_eq_true h)⟩
      · rintro (h | ⟨_, h | ⟨h, _⟩⟩)
        · omega
        · exact decide_eq_true h
        · exact absurd h h2
  · rw [if_neg h1]
    constructor
    · intro h; exact .inl (of_decide_eq_true h)
    · rintro (h | ⟨h, _⟩)
      · exact decide_eq_true h
      · exact absurd h h1
theorem kyN_lt {c k c' k' : Nat} {l l' : List Nat} : lt3 (kyN c k l) (kyN c' k' l') = true ↔ c < c' ∨ (c = c' ∧ (k < k' ∨ (k = k' ∧ ltL (il l) (il l') = true))) := by
  unfold kyN
  rw [ltL_iff2]
  constructor
  · rintro (h | ⟨h, h' | ⟨h', h''⟩⟩)
    · exact .inl (by omega)
    · exact .inr ⟨by omega, .inl (by omega)⟩
    · exact .inr ⟨by omega, .inr ⟨by omega, h''⟩⟩
  · rintro (h | ⟨h, h' | ⟨h', h''⟩⟩)
    · exact .inl (by omega)
    · exact .inr ⟨by omega, .inl (by omega)⟩
    · exact .inr ⟨by omega, .inr ⟨by omega, h''⟩⟩
theorem il_inj {a b : List Nat} (h : il a = il b) : a = b := by
  induction a generalizing b with
  | nil => cases b with
    | nil => rfl
    | cons y b => cases h
  | cons x a ih => cases b with
    | nil => cases h
    | cons y b =>
      injection h with h1 h2
      have h1 : (x : Int) = (y : Int) := h1
      rw [ih h2, show x = y by omega]
/-- what is compared of a chain: its cost, its places, and they themselves, if asked -/
def ky (t u : List Nat) (w : Bool) (l : List Nat) : K3 := kyN (cst t u l) l.length (if w = true then l else [0])
def Least (S t u : List Nat) (w : Bool) (p q : Nat) (l : List Nat) : Prop := Ch S p q l ∧ ∀ l', Ch S p q l' → lt3 (ky t u w l') (ky t u w l) = false
theorem ky_le {t u : List Nat} {w : Bool} {l l' : List Nat} (h : lt3 (ky t u w l') (ky t u w l) = false) : cst t u l ≤ cst t u l' := by
  refine Nat.le_of_not_lt fun z => ?_
  have := kyN_lt.mpr (.inl z : cst t u l' < cst t u l ∨ (cst t u l' = cst t u l ∧ (l'.length < l.length ∨ (l'.length = l.length ∧ ltL (il (if w = true then l' else [0])) (il (if w = true then l else [0])) = true))))
  unfold ky at h
  rw [this] at h
  cases h
theorem Least.cost {S t u : List Nat} {w w' : Bool} {p q : Nat} {l l' : List Nat} (h : Least S t u w p q l) (h' : Least S t u w' p q l') : cst t u l = cst t u l' :=
  Nat.le_antisymm (ky_le (h.2 l' h'.1)) (ky_le (h'.2 l h.1))

end Ov

namespace Ov
open PySem L2
theorem sg_get {t : List Nat} {i : Nat} {x : V} (h : (t.map sg)[i]? = some x) : ∃ c, t[i]? = some c ∧ x = sg c := by
  rw [List.getElem?_map] at h
  cases e : t[i]? with
  | none => rw [e] at h; cases h
  | some c => rw [e] at h; exact ⟨c, rfl, (Option.some.inj h).symm⟩
theorem sg_dec (c d : Nat) : decide (sg c = sg d) = decide (c = d) := decide_eq_decide.mpr sg_inj
theorem steps_of (u : List Nat) : Steps u (shiftsOf u) := by
  intro s hs
  unfold shiftsOf at hs
  rw [List.mem_filter, List.mem_map] at hs
  obtain ⟨⟨q, hq, rfl⟩, h2⟩ := hs
  rw [List.mem_range] at hq
  exact ⟨by omega, by omega, (shift_iff (by omega)).mp (of_decide_eq_true h2)⟩
abbrev sFits : Stmt := top 15
def spFits : Sp := fun vs H Q _ => ∃ (a b : Addr) (t u : List Nat), vs = [.ref a, .ref b] ∧ H a = some (.lst (t.map sg)) ∧ H b = some (.lst (u.map sg)) ∧ Low t ∧ Low u ∧ 1 ≤ u.length ∧ u.length ≤ t.length ∧ Q .non H
section
variable {P : Program} {w : World} {K : PySem.W.Frag} {mg : Str → Option Value} {base : Heap} {cNoCover : Addr}
theorem scFits : FnScope ["text", "word"] ["text", "word"] (defScope sFits) := ⟨rfl, rfl, rfl, by decide +kernel, rfl, by decide +kernel, by decide +kernel⟩
theorem ok_fits (M : Md K mg) (B : Bl mg) (F : FF K "check_fits" sFits) (Fcheck_signs : Fn P w K mg base CX0 "check_signs" 2 ["text"] spCheck) (Fcheck_word : Fn P w K mg base CX0 "check_word" 3 ["word"] spCheckWord) : Fn P w K mg base CX0 "check_fits" 4 ["text", "word"] spFits := by
  refine fn_ok M F scFits (fun _ _ _ _ _ _ => us2 fun _ _ => rfl) (fun vs H Q E h => ?_) (fun f cdv A outer s H vs Q E hr h => ?_)
  · obtain ⟨a, b, t, u, rfl, _⟩ := h; rfl
  · obtain ⟨a, b, t, u, rfl, ha, hb, lt, lu, u1, ut, k⟩ := h
    refine ⟨_, (pss_cons (ps_expr (pe_fn Fcheck_word hr pass0 (pa_cons (pv 1) pa_nil)))
      (pss_cons (ps_expr (pe_fn Fcheck_signs hr pass0 (pa_cons (pv 0) pa_nil)))
      (pss_one (ps_if (pt_cmpR op_lt (pe_lenL B.len (pv 0)) (pe_lenL B.len (pv 1)) (nomark _)) (pss_one ps_never) pss_nil)))), ?_⟩
    refine ⟨_, rfl, b, u, rfl, hb, lu, u1, ?_⟩
    refine ⟨_, rfl, a, t, rfl, ha, lt, ?_⟩
    refine ⟨_, rfl, a, _, rfl, SqL.of ha, _, rfl, b, _, rfl, SqL.of hb, _, _, rfl, rfl, _, rfl, ?_⟩
    rw [decide_eq_false (by rw [List.length_map, List.length_map]; omega)]
    exact iteF k
end

end Ov

namespace Ov
open PySem L2
/-- the own classes of exceptions, as the top has them -/
structure Exs (K : PySem.W.Frag) (mg : Str → Option Value) (cCoverError cNoWord cNoSign cNoText cNoCover cNoChain cNoForm cNoNumber cNoneYet cTooMany : Addr) : Prop where
  bCoverError : mg "CoverError" = some (.ref cCoverError)
  bNoWord : mg "NoWord" = some (.ref cNoWord)
  bNoSign : mg "NoSign" = some (.ref cNoSign)
  bNoText : mg "NoText" = some (.ref cNoText)
  bNoCover : mg "NoCover" = some (.ref cNoCover)
  bNoChain : mg "NoChain" = some (.ref cNoChain)
  bNoForm : mg "NoForm" = some (.ref cNoForm)
  bNoNumber : mg "NoNumber" = some (.ref cNoNumber)
  bNoneYet : mg "NoneYet" = some (.ref cNoneYet)
  bTooMany : mg "TooMany" = some (.ref cTooMany)
  nValueError : mg "ValueError" = none
  facts : excFacts K cCoverError [cNoWord, cNoSign, cNoText, cNoCover, cNoChain, cNoForm, cNoNumber, cNoneYet, cTooMany] = true
  nd : [cNoWord, cNoSign, cNoText, cNoCover, cNoChain, cNoForm, cNoNumber, cNoneYet, cTooMany].Nodup
theorem exs_mk {K : PySem.W.Frag} {mg : Str → Option Value} {c0 c1 c2 c3 c4 c5 c6 c7 c8 c9 : Addr} (M : Md K mg) (a0 : PySem.W.nsIn K mainGlobals "CoverError" = some (some (.ref c0))) (a1 : PySem.W.nsIn K mainGlobals "NoWord" = some (some (.ref c1))) (a2 : PySem.W.nsIn K mainGlobals "NoSign" = some (some (.ref c2)))
    (a3 : PySem.W.nsIn K mainGlobals "NoText" = some (some (.ref c3))) (a4 : PySem.W.nsIn K mainGlobals "NoCover" = some (some (.ref c4))) (a5 : PySem.W.nsIn K mainGlobals "NoChain" = some (some (.ref c5))) (a6 : PySem.W.nsIn K mainGlobals "NoForm" = some (some (.ref c6)))
    (a7 : PySem.W.nsIn K mainGlobals "NoNumber" = some (some (.ref c7))) (a8 : PySem.W.nsIn K mainGlobals "NoneYet" = some (some (.ref c8))) (a9 : PySem.W.nsIn K mainGlobals "TooMany" = some (some (.ref c9))) (av : PySem.W.nsIn K mainGlobals "ValueError" = some none)
    (f : excFacts K c0 [c1, c2, c3, c4, c5, c6, c7, c8, c9] = true) (nd : [c1, c2, c3, c4, c5, c6, c7, c8, c9].Nodup) : Exs K mg c0 c1 c2 c3 c4 c5 c6 c7 c8 c9 :=
  ⟨M.ns _ _ a0, M.ns _ _ a1, M.ns _ _ a2, M.ns _ _ a3, M.ns _ _ a4, M.ns _ _ a5, M.ns _ _ a6, M.ns _ _ a7, M.ns _ _ a8, M.ns _ _ a9, M.ns _ _ av, f, nd⟩

end Ov

namespace Ov
open PySem L2
abbrev sFlags : Stmt := top 32
abbrev sDueFlags : Stmt := top 33
/-- a ValueError, and just the class at a place -/
def dueF (at_ : Nat) : List Bool := (List.range 10).map fun k => (k == at_) || (k == 9)
def spFlags (D : Addr) : Sp := fun vs H Q _ => ∃ (e : Addr), vs = [.ref e] ∧ H e = some (.ext (excAt e (.ref D))) ∧ ∀ (r : Addr) (H' : Hp), H r = none → H' r = some (.lst ((dueF 3).map V.bl)) → Same H H' → Q (.ref r) H'
def spDueFlags : Sp := fun vs H Q _ => ∃ j : Nat, j < 9 ∧ vs = [.int (j : Int)] ∧ ∀ (r : Addr) (H' : Hp), H r = none → H' r = some (.lst ((dueF j).map V.bl)) → Same H H' → Q (.ref r) H'
theorem seq_set {te : TE} {i : Nat} {rest : TS} {D : Ends} {σ : St} {H : Hp} (h : te σ H fun x H1 => rest D (σ.set i (some x)) H1) : tSeq (tAsg te (gName i)) rest D σ H := h
section
variable {P : Program} {w : World} {K : PySem.W.Frag} {mg : Str → Option Value} {base : Heap} {cCoverError cNoWord cNoSign cNoText cNoCover cNoChain cNoForm cNoNumber cNoneYet cTooMany : Addr}
theorem scFlags : FnScope ["e", "found"] ["e"] (defScope sFlags) := ⟨rfl, rfl, rfl, by decide +kernel, rfl, by decide +kernel, by decide +kernel⟩
theorem ok_flagsH (M : Md K mg) (B : Bl mg) (F : FF K "_law_flags" sFlags) (S : Exs K mg cCoverError cNoWord cNoSign cNoText cNoCover cNoChain cNoForm cNoNumber cNoneYet cTooMany) : FnH P w K mg base "_law_flags" 1 ["e"] (spFlags cNoChain) := by
  obtain ⟨bCoverError, bNoWord, bNoSign, bNoText, bNoCover, bNoChain, bNoForm, bNoNumber, bNoneYet, bTooMany, nValueError, facts, nd⟩ := S
  refine fnH_ok M F scFlags (fun _ _ _ _ _ _ => us1 fun _ => rfl) (fun vs H Q E h => ?_) (fun f cdv A outer s H vs Q hr h => ?_)
  · obtain ⟨e, rfl, _⟩ := h; rfl
  · obtain ⟨e, rfl, hH, k⟩ := h
    have hF := excFacts.of facts cNoChain (by simp)
    have efl : [cNoChain == cNoWord, cNoChain == cNoSign, cNoChain == cNoText, cNoChain == cNoChain, cNoChain == cNoCover, cNoChain == cNoNumber, cNoChain == cTooMany, cNoChain == cNoForm, cNoChain == cNoneYet, true] = dueF 3 := by
      have ne : ∀ x y : Addr, x ≠ y → (x == y) = false := fun x y q => beq_eq_false_iff_ne.mpr q
      simp only [List.nodup_cons, List.mem_cons, List.not_mem_nil, or_false, not_or] at nd
      obtain ⟨⟨_, _, _, a4, _⟩, ⟨_, _, b4, _⟩, ⟨_, c4, _⟩, ⟨d4, _⟩, ⟨e5, e6, e7, e8⟩, _⟩ := nd
      rw [ne _ _ (Ne.symm a4), ne _ _ (Ne.symm b4), ne _ _ (Ne.symm c4), beq_self_eq_true, ne _ _ (Ne.symm d4), ne _ _ e6, ne _ _ e8, ne _ _ e5, ne _ _ e7]; rfl
    refine ⟨_, (pss_cons (ps_set (i := 1) scFlags.nd rfl (by first | exact Or.inl rfl | exact Or.inr rfl) (pe_lst (pa_cons (pe_isE B.isinst bNoWord (pv 0)) (pa_cons (pe_isE B.isinst bNoSign (pv 0)) (pa_cons (pe_isE B.isinst bNoText (pv 0)) (pa_cons (pe_isE B.isinst bNoChain (pv 0)) pa_nil))))))
      (pss_cons (ps_set (i := 1) scFlags.nd rfl (by first | exact Or.inl rfl | exact Or.inr rfl) (pe_op op_cat (pv 1) (pe_lst (pa_cons (pe_isE B.isinst bNoCover (pv 0)) (pa_cons (pe_isE B.isinst bNoNumber (pv 0)) (pa_cons (pe_isE B.isinst bTooMany (pv 0)) pa_nil))))))
      (pss_one (ps_ret (pe_op op_cat (pv 1) (pe_lst (pa_cons (pe_isE B.isinst bNoForm (pv 0)) (pa_cons (pe_isE B.isinst bNoneYet (pv 0)) (pa_cons (pe_isEB B.isinst nValueError bt_ValueError (pv 0)) pa_nil))))))))), ?_⟩
    refine seq_set ?_
    refine ⟨_, rfl, e, cNoChain, _, rfl, hH, hF.kit, hF.one cNoWord (by simp), _, rfl, e, cNoChain, _, rfl, hH, hF.kit, hF.one cNoSign (by simp), _, rfl, e, cNoChain, _, rfl, hH, hF.kit, hF.one cNoText (by simp), _, rfl, e, cNoChain, _, rfl, hH, hF.kit, hF.one cNoChain (by simp), by show 4 ≤ sizeLine; decide, fun l hl => ?_⟩
    have s1 := Same.upd (o := .lst [V.bl (cNoChain == cNoWord), .bl (cNoChain == cNoSign), .bl (cNoChain == cNoText), .bl (cNoChain == cNoChain)]) hl
    have hl1 := upd_same (H := H) (a := l) (o := .lst [V.bl (cNoChain == cNoWord), .bl (cNoChain == cNoSign), .bl (cNoChain == cNoText), .bl (cNoChain == cNoChain)])
    generalize L2.upd H l (.lst [V.bl (cNoChain == cNoWord), .bl (cNoChain == cNoSign), .bl (cNoChain == cNoText), .bl (cNoChain == cNoChain)]) = H2 at s1 hl1 ⊢
    have hH2 := s1 _ _ hH
    refine seq_set ?_
    refine ⟨_, rfl, _, rfl, e, cNoChain, _, rfl, hH2, hF.kit, hF.one cNoCover (by simp), _, rfl, e, cNoChain, _, rfl, hH2, hF.kit, hF.one cNoNumber (by simp), _, rfl, e, cNoChain, _, rfl, hH2, hF.kit, hF.one cTooMany (by simp), by show 3 ≤ sizeLine; decide, fun l2 hl2 => ?_⟩
    have s2 := Same.upd (o := .lst [V.bl (cNoChain == cNoCover), .bl (cNoChain == cNoNumber), .bl (cNoChain == cTooMany)]) hl2
    have hl22 := upd_same (H := H2) (a := l2) (o := .lst [V.bl (cNoChain == cNoCover), .bl (cNoChain == cNoNumber), .bl (cNoChain == cTooMany)])
    generalize L2.upd H2 l2 (.lst [V.bl (cNoChain == cNoCover), .bl (cNoChain == cNoNumber), .bl (cNoChain == cTooMany)]) = H3 at s2 hl22 ⊢
    refine ⟨l, l2, _, _, rfl, rfl, s2 _ _ hl1, hl22, by show 7 ≤ sizeLine; decide, fun l3 hl3 => ?_⟩
    have s3 := Same.upd (o := .lst ([V.bl (cNoChain == cNoWord), .bl (cNoChain == cNoSign), .bl (cNoChain == cNoText), .bl (cNoChain == cNoChain)] ++ [V.bl (cNoChain == cNoCover), .bl (cNoChain == cNoNumber), .bl (cNoChain == cTooMany)])) hl3
    have hl33 := upd_same (H := H3) (a := l3) (o := .lst ([V.bl (cNoChain == cNoWord), .bl (cNoChain == cNoSign), .bl (cNoChain == cNoText), .bl (cNoChain == cNoChain)] ++ [V.bl (cNoChain == cNoCover), .bl (cNoChain == cNoNumber), .bl (cNoChain == cTooMany)]))
    generalize L2.upd H3 l3 (.lst ([V.bl (cNoChain == cNoWord), .bl (cNoChain == cNoSign), .bl (cNoChain == cNoText), .bl (cNoChain == cNoChain)] ++ [V.bl (cNoChain == cNoCover), .bl (cNoChain == cNoNumber), .bl (cNoChain == cTooMany)])) = H4 at s3 hl33 ⊢
    have hH4 := s3 _ _ (s2 _ _ hH2)
    refine ⟨_, rfl, _, rfl, e, cNoChain, _, rfl, hH4, hF.kit, hF.one cNoForm (by simp), _, rfl, e, cNoChain, _, rfl, hH4, hF.kit, hF.one cNoneYet (by simp), _, rfl, e, cNoChain, _, rfl, hH4, hF.kit, hF.val, by show 3 ≤ sizeLine; decide, fun l4 hl4 => ?_⟩
    have s4 := Same.upd (o := .lst [V.bl (cNoChain == cNoForm), .bl (cNoChain == cNoneYet), .bl true]) hl4
    have hl44 := upd_same (H := H4) (a := l4) (o := .lst [V.bl (cNoChain == cNoForm), .bl (cNoChain == cNoneYet), .bl true])
    generalize L2.upd H4 l4 (.lst [V.bl (cNoChain == cNoForm), .bl (cNoChain == cNoneYet), .bl true]) = H5 at s4 hl44 ⊢
    refine ⟨l3, l4, _, _, rfl, rfl, s4 _ _ hl33, hl44, by show 10 ≤ sizeLine; decide, fun l5 hl5 => ?_⟩
    have s14 := ((s1.trans s2).trans s3).trans s4
    refine k l5 _ (s14.free hl5) ?_ (s14.trans (Same.upd hl5))
    rw [upd_same, ← efl]
    rfl
theorem scDueFlags : FnScope ["at"] ["at"] (defScope sDueFlags) := ⟨rfl, rfl, rfl, by decide +kernel, rfl, by decide +kernel, by decide +kernel⟩
theorem ok_due_flags (M : Md K mg) (B : Bl mg) (F : FF K "_law_due_flags" sDueFlags) : Fn P w K mg base CX0 "_law_due_flags" 1 ["at"] spDueFlags := by
  refine fn_ok M F scDueFlags (fun _ _ _ _ _ _ => us1 fun _ => rfl) (fun vs H Q E h => ?_) (fun f cdv A outer s H vs Q E hr h => ?_)
  · obtain ⟨j, _, rfl, _⟩ := h; rfl
  · obtain ⟨j, hj, rfl, k⟩ := h
    refine ⟨_, (pss_one (ps_ret (pe_comp ["at"] rfl (pi_range1 (by rfl) B.range (pa_cons pe_int pa_nil)) (fun _ => by exact pif_nil) (fun _ => by exact (pe_cmpR op_in_seq (pv 1) (pe_tup (pa_cons (pv 0) (pa_cons pe_int pa_nil))) (by with_unfolding_all rfl)))))), ?_⟩
    refine ⟨10, rfl, by decide, by decide, fun D hD cb => ?_⟩
    refine comp_range (lo := 0) (n := 10) (fun i ys H2 => ys = ((List.range i).map fun k => (k == j) || (k == 9)).map V.bl ∧ Same H H2 ∧ H2 D = some (.lst ys)) (by decide) ?_ ?_ ?_ ?_
    · exact ⟨rfl, Same.upd hD, upd_same⟩
    · rintro i ys H2 ⟨rfl, _⟩; simp
    · rintro i ys H2 hi ⟨rfl, s2, hD2⟩
      refine tNoIf_go ?_
      refine ⟨_, rfl, _, rfl, by show 2 ≤ sizeLine; decide, fun tp htp => ?_⟩
      have s3 := Same.upd (o := .tup [V.int (j : Int), .int 9]) htp
      refine ⟨tp, _, rfl, .inr (SqT.of upd_same), rfl, rfl, s3 _ _ hD2, ?_, fun z o e => ?_, upd_same⟩
      · rw [List.range_succ, List.map_append, List.map_append]
        congr 2
        show V.bl (inV (.int (0 + (i : Int))) [.int (j : Int), .int 9]) = V.bl ((i == j) || (i == 9))
        congr 1
        simp only [inV, List.any_cons, List.any_nil, Bool.or_false]
        have e1 : eqV (.int (j : Int)) (.int (0 + (i : Int))) = (i == j) := by
          show decide ((j : Int) = 0 + (i : Int)) = _
          by_cases h : i = j
          · subst h; simp
          · rw [decide_eq_false (by omega)]; exact (beq_eq_false_iff_ne.mpr h).symm
        have e2 : eqV (.int 9) (.int (0 + (i : Int))) = (i == 9) := by
          show decide ((9 : Int) = 0 + (i : Int)) = _
          by_cases h : i = 9
          · subst h; rfl
          · rw [decide_eq_false (by omega)]; exact (beq_eq_false_iff_ne.mpr h).symm
        rw [e1, e2]
      · rw [upd_ne (ne_of_none e hD)]
        exact s3 _ _ (s2 _ _ e)
    · rintro ys H2 ⟨rfl, s2, hD2⟩
      exact k D H2 hD hD2 s2
end

end Ov

namespace Ov
open PySem L2
theorem Ch.len_le {u S : List Nat} (hS : Steps u S) {p q : Nat} {l : List Nat} (h : Ch S p q l) : l.length + p ≤ q + 1 := by
  induction h with
  | one => simp; omega
  | cons h1 h2 ih => have := (hS _ h1).1; rw [List.length_cons]; omega
theorem atI_neg1 {α : Type} {xs : List α} {v : α} (h1 : 1 ≤ xs.length) (h : xs[xs.length - 1]? = some v) : atI xs (-1) = some v := by
  unfold atI ixN
  rw [if_neg (by decide), if_pos (by omega)]
  show xs[(-1 + (xs.length : Int)).toNat]? = _
  rw [show (-1 + (xs.length : Int)).toNat = xs.length - 1 by omega]
  exact h
theorem Ch.le_all {S : List Nat} {p q : Nat} {l : List Nat} (h : Ch S p q l) : ∀ x ∈ l, p ≤ x ∧ x ≤ q := by
  induction h with
  | one p => intro x hx; rw [List.mem_singleton.mp hx]; exact ⟨Nat.le_refl _, Nat.le_refl _⟩
  | @cons p s q l h1 h2 ih =>
    intro x hx
    rcases List.mem_cons.mp hx with e | e
    · subst e; have := h2.le; exact ⟨Nat.le_refl _, by omega⟩
    · have := ih x e; exact ⟨by omega, this.2⟩

end Ov

namespace Ov
open PySem L2
/-! what a chain lays out, and its cost -/
/-- signs of t from p on that are not those of u from a on -/
def misO (t u : List Nat) (p a : Nat) : Nat → Nat
  | 0 => 0
  | k + 1 => misO t u p a k + (if t[p + k]? = u[a + k]? then 0 else 1)
theorem mis_add (t u : List Nat) (p a : Nat) : ∀ b, mis t u p (a + b) = mis t u p a + misO t u (p + a) a b
  | 0 => rfl
  | b + 1 => by
    rw [← Nat.add_assoc]
    simp only [mis, misO]
    rw [mis_add t u p a b, show p + (a + b) = p + a + b by omega]
    omega
theorem misO_eq {t t' u u' : List Nat} {p p' a a' : Nat} : ∀ {k : Nat}, (∀ j, j < k → (t[p + j]? = u[a + j]? ↔ t'[p' + j]? = u'[a' + j]?)) → misO t u p a k = misO t' u' p' a' k
  | 0, _ => rfl
  | k + 1, h => by
    simp only [misO]
    rw [misO_eq (k := k) fun j hj => h j (by omega)]
    congr 1
    by_cases e : t[p + k]? = u[a + k]?
    · rw [if_pos e, if_pos ((h k (by omega)).mp e)]
    · rw [if_neg e, if_neg (fun z => e ((h k (by omega)).mpr z))]
theorem mis_eq {t t' u u' : List Nat} {p p' : Nat} : ∀ {k : Nat}, (∀ j, j < k → (t[p + j]? = u[j]? ↔ t'[p' + j]? = u'[j]?)) → mis t u p k = mis t' u' p' k
  | 0, _ => rfl
  | k + 1, h => by
    simp only [mis]
    rw [mis_eq (k := k) fun j hj => h j (by omega)]
    congr 1
    by_cases e : t[p + k]? = u[k]?
    · rw [if_pos e, if_pos ((h k (by omega)).mp e)]
    · rw [if_neg e, if_neg (fun z => e ((h k (by omega)).mpr z))]
def gd (l : List Nat) (i : Nat) : Nat := (l[i]?).getD 0
/-- laid at the first i + 1 places -/
def layN (u l : List Nat) : Nat → List Nat
  | 0 => u
  | i + 1 => layN u l i ++ u.drop (u.length - (gd l (i + 1) - gd l i))
theorem Ch.at_ {S : List Nat} {p q : Nat} {l : List Nat} (h : Ch S p q l) : ∀ i, i < l.length → Ch S p (gd l i) (l.take (i + 1)) ∧ (i + 1 < l.length → ∃ s ∈ S, gd l (i + 1) = gd l i + s) := by
  induction h with
  | one p =>
    intro i hi
    have : i = 0 := by simp at hi; omega
    subst this
    exact ⟨Ch.one _, fun h => by simp at h⟩
  | @cons p s q l h1 h2 ih =>
    intro i hi
    cases i with
    | zero =>
      refine ⟨Ch.one _, fun h => ⟨s, h1, ?_⟩⟩
      obtain ⟨r, e⟩ := h2.head
      subst e
      rfl
    | succ i =>
      have hi' : i < l.length := by simpa using hi
      obtain ⟨a, b⟩ := ih i hi'
      have e1 : gd (p :: l) (i + 1) = gd l i := rfl
      refine ⟨by rw [e1, List.take_succ_cons]; exact Ch.cons h1 a, fun h => ?_⟩
      obtain ⟨s', h3, h4⟩ := b (by simpa using h)
      exact ⟨s', h3, h4⟩
theorem layN_cost {S t u : List Nat} (hS : Steps u S) {q : Nat} {l : List Nat} (h : Ch S 0 q l) : ∀ i, i < l.length → (layN u l i).length = gd l i + u.length ∧ mis t (layN u l i) 0 (gd l i + u.length) = cst t u (l.take (i + 1))
  | 0, hi => by
    obtain ⟨r, e⟩ := h.head
    subst e
    refine ⟨by show u.length = 0 + u.length; omega, ?_⟩
    show mis t u 0 (0 + u.length) = mis t u 0 u.length
    rw [Nat.zero_add]
  | i + 1, hi => by
    obtain ⟨ih1, ih2⟩ := layN_cost hS (t := t) h i (by omega)
    obtain ⟨c1, c2⟩ := Ch.at_ h i (by omega)
    obtain ⟨s, hs, es⟩ := c2 hi
    obtain ⟨s1, s2, s3⟩ := hS s hs
    have ed : gd l (i + 1) - gd l i = s := by omega
    have el : layN u l (i + 1) = layN u l i ++ u.drop (u.length - s) := by simp only [layN]; rw [ed]
    have dl : (u.drop (u.length - s)).length = s := by rw [List.length_drop]; omega
    have hlen : (layN u l (i + 1)).length = gd l (i + 1) + u.length := by rw [el, List.length_append, ih1, dl, es]; omega
    refine ⟨hlen, ?_⟩
    have etk : l.take (i + 1 + 1) = l.take (i + 1) ++ [gd l i + s] := by
      have : l[i + 1]? = some (gd l i + s) := by
        rw [← es]; unfold gd
        rw [List.getElem?_eq_getElem hi]; rfl
      rw [List.take_add_one, this]; rfl
    have cs := cst_snoc (t := t) hS c1 hs
    rw [← etk] at cs
    have e1 : gd l (i + 1) + u.length = (gd l i + u.length) + s := by omega
    rw [e1, mis_add]
    have e2 : mis t (layN u l (i + 1)) 0 (gd l i + u.length) = mis t (layN u l i) 0 (gd l i + u.length) := mis_eq fun j hj => by
      rw [el, List.getElem?_append_left (by rw [ih1]; omega)]
    have e3 : misO t (layN u l (i + 1)) (0 + (gd l i + u.length)) (gd l i + u.length) s = misO t u (gd l i + s + (u.length - s)) (u.length - s) s := misO_eq fun j hj => by
      rw [el, List.getElem?_append_right (by rw [ih1]; omega), ih1, List.getElem?_drop, show gd l i + u.length + j - (gd l i + u.length) = j by omega, show 0 + (gd l i + u.length) + j = gd l i + s + (u.length - s) + j by omega]
    have e4 := mis_add t u (gd l i + s) (u.length - s) s
    rw [show u.length - s + s = u.length by omega] at e4
    rw [e2, e3, ih2]
    omega

end Ov

namespace Ov
open PySem L2
abbrev sIsChain : Stmt := top 21
abbrev sLaidOut : Stmt := top 22
abbrev sCost : Stmt := top 23
/-- how far on each goes -/
def difs (ns : List Int) : List Int := (List.range (ns.length - 1)).map fun i => (ns[i + 1]?).getD 0 - (ns[i]?).getD 0
def isCh (S : List Nat) (ns : List Int) (last : Int) : Bool := decide (ns ≠ []) && (decide ((ns[0]?).getD 1 = 0) && (decide ((ns[ns.length - 1]?).getD 0 = last) && (difs ns).all fun d => decide (d ∈ S.map fun (s : Nat) => (s : Int))))
def spIsChain : Sp := fun vs H Q _ => ∃ (b c : Addr) (u : List Nat) (ns : List Int) (n : Int), vs = [.ref b, .ref c, .int n] ∧ H b = some (.lst (u.map sg)) ∧ H c = some (.lst (ns.map V.int)) ∧ Low u ∧ 1 ≤ u.length ∧ u.length ≤ 900 ∧ ns.length ≤ 1000 ∧ ∀ H', Same H H' → Q (.bl (isCh (shiftsOf u) ns (n - u.length))) H'
def spLaidOut : Sp := fun vs H Q _ => ∃ (b c : Addr) (u l : List Nat) (q : Nat), vs = [.ref b, .ref c] ∧ H b = some (.lst (u.map sg)) ∧ H c = some (.lst (vInts l)) ∧ 1 ≤ u.length ∧ q + u.length ≤ 900 ∧ Ch (shiftsOf u) 0 q l ∧ ∀ (r : Addr) (H' : Hp), H r = none → H' r = some (.lst ((layN u l (l.length - 1)).map sg)) → Same H H' → Q (.ref r) H'
theorem vI_il (l : List Nat) : vInts l = (il l).map V.int := rfl
theorem il_get (l : List Nat) (i : Nat) : (il l)[i]? = (l[i]?).map fun (x : Nat) => (x : Int) := by simp [il]
theorem isCh_of {S : List Nat} {q : Nat} {l : List Nat} (h : Ch S 0 q l) : isCh S (il l) (q : Int) = true := by
  have hne : l ≠ [] := by obtain ⟨r, e⟩ := h.head; rw [e]; simp
  have hlen : (il l).length = l.length := by simp [il]
  unfold isCh
  rw [Bool.and_eq_true, Bool.and_eq_true, Bool.and_eq_true]
  refine ⟨decide_eq_true (by simp [il, hne]), decide_eq_true ?_, decide_eq_true ?_, ?_⟩
  · obtain ⟨r, e⟩ := h.head
    rw [e]; rfl
  · obtain ⟨r, e⟩ := h.last
    rw [hlen, il_get, e, List.length_append, List.length_singleton, show r.length + 1 - 1 = r.length by omega, List.getElem?_append_right (Nat.le_refl _), Nat.sub_self]
    rfl
  · rw [List.all_eq_true]
    intro d hd
    unfold difs at hd
    rw [List.mem_map] at hd
    obtain ⟨i, hi, rfl⟩ := hd
    rw [List.mem_range, hlen] at hi
    obtain ⟨s, hs, es⟩ := (Ch.at_ h i (by omega)).2 (by omega)
    refine decide_eq_true (List.mem_map.mpr ⟨s, hs, ?_⟩)
    rw [il_get, il_get]
    unfold gd at es
    have a1 : i < l.length := by omega
    have a2 : i + 1 < l.length := by omega
    rw [List.getElem?_eq_getElem a1, List.getElem?_eq_getElem a2] at es ⊢
    simp only [Option.getD_some, Option.map_some] at es ⊢
    omega
theorem ints_flat (S : List Nat) : (vInts S).all flatV = true := by
  rw [List.all_eq_true]
  intro v hv
  unfold vInts at hv
  rw [List.map_map, List.mem_map] at hv
  obtain ⟨x, _, rfl⟩ := hv
  rfl
theorem inV_ints (S : List Nat) (d : Int) : inV (.int d) (vInts S) = decide (d ∈ S.map fun (s : Nat) => (s : Int)) := by
  unfold inV vInts
  rw [List.map_map, Bool.eq_iff_iff, List.any_eq_true, decide_eq_true_eq, List.mem_map]
  constructor
  · rintro ⟨v, hv, h⟩
    obtain ⟨x, hx, rfl⟩ := List.mem_map.mp hv
    have h : decide ((x : Int) = d) = true := h
    exact ⟨x, hx, of_decide_eq_true h⟩
  · rintro ⟨x, hx, rfl⟩
    exact ⟨.int (x : Int), List.mem_map.mpr ⟨x, hx, rfl⟩, show decide ((x : Int) = (x : Int)) = true from decide_eq_true rfl⟩
theorem int_get {ns : List Int} {i : Nat} {x : V} (h : (ns.map V.int)[i]? = some x) : ∃ z, ns[i]? = some z ∧ x = .int z := by
  rw [List.getElem?_map] at h
  cases e : ns[i]? with
  | none => rw [e] at h; cases h
  | some z => rw [e] at h; exact ⟨z, rfl, (Option.some.inj h).symm⟩
theorem cut_tail (ns : List Int) : cutV (ns.map V.int) (some 1) none = (ns.drop 1).map V.int := by rw [cutV_cutL, cutL_map, cutL_lo _ _ (by decide)]; rfl
theorem mis_sum (t x : List Nat) : ∀ n, (List.replicate (mis t x 0 n) (1 : Int)).sum = (mis t x 0 n : Nat) := fun n => by
  generalize mis t x 0 n = k
  induction k with
  | zero => rfl
  | succ k ih => rw [List.replicate_succ, List.sum_cons, ih]; omega
section
variable {P : Program} {w : World} {K : PySem.W.Frag} {mg : Str → Option Value} {base : Heap}
theorem scIsChain : FnScope ["word", "chain", "length", "steps"] ["word", "chain", "length"] (defScope sIsChain) := ⟨rfl, rfl, rfl, by decide +kernel, rfl, by decide +kernel, by decide +kernel⟩
theorem ok_is_chain (M : Md K mg) (B : Bl mg) (nall : mg "all" = none) (F : FF K "is_chain" sIsChain) (Fshifts : Fn P w K mg base CX0 "shifts" 5 ["word"] spShifts) : Fn P w K mg base CX0 "is_chain" 6 ["word", "chain", "length"] spIsChain := by
  refine fn_ok M F scIsChain (fun _ _ _ _ _ _ => us3 fun _ _ _ => rfl) (fun vs H Q E h => ?_) (fun f cdv A outer s H vs Q E hr h => ?_)
  · obtain ⟨b, c, u, ns, n, rfl, _⟩ := h; rfl
  · obtain ⟨b, c, u, ns, n, rfl, hb, hc, lu, u1, ul, nl, k⟩ := h
    refine ⟨_, (pss_cons (ps_if (PW.pt (pw_or (pt_cmpR op_eq (pe_lenL B.len (pv 1)) pe_int (nomark _)) (pw_or (pt_cmpR op_ne (pe_ix ix_list (pv 1) pe_int (fun _ _ => rfl)) pe_int (nomark _)) (pw_or1 (pt_cmpR op_ne (pe_ix ix_list (pv 1) (pe_un un_neg pe_int) (fun _ _ => rfl)) (pe_op op_sub (pv 2) (pe_lenL B.len (pv 0))) (nomark _)))))) (pss_one (ps_ret pe_bl)) pss_nil)
      (pss_cons (ps_set (i := 3) scIsChain.nd rfl (by first | exact Or.inl rfl | exact Or.inr rfl) (pe_fn Fshifts hr pass0 (pa_cons (pv 0) pa_nil)))
      (pss_one (ps_ret (pe_allL rfl nall (pe_comp2 ["before", "behind"] ["word", "chain", "length", "steps"] rfl (pi_zip B.zip (pv 1) (pe_slice sl_list (pv 1) (po_some pe_int) po_none)) (fun _ => by exact (pg_tup rfl (pgs_cons (pg_name (i := 4) (show ((["word", "chain", "length", "steps"] : List Str) ++ (["before", "behind"] : List Str)).Nodup by decide +kernel) rfl (by first | exact Or.inl rfl | exact Or.inr rfl)) (pgs_cons (pg_name (i := 5) (show ((["word", "chain", "length", "steps"] : List Str) ++ (["before", "behind"] : List Str)).Nodup by decide +kernel) rfl (by first | exact Or.inl rfl | exact Or.inr rfl)) pgs_nil)))) (fun _ => by exact pif_nil) (fun _ => by exact (pe_cmpR op_in_seq (pe_op op_sub (pv 5) (pv 4)) (pv 3) (by with_unfolding_all rfl))))))))), ?_⟩
    refine ⟨_, rfl, c, _, rfl, SqL.of hc, rfl, _, rfl, ?_⟩
    cases ns with
    | nil =>
      refine iteT (iteT ?_)
      have := k H (Same.refl _)
      exact this
    | cons x r =>
      rw [decide_eq_false (fun q => by have := V.int.inj q; rw [List.length_map, List.length_cons] at this; omega)]
      refine iteF ⟨_, rfl, c, _, _, _, rfl, rfl, SqL.of hc, atI_nat (j := 0) rfl, rfl, _, rfl, ?_⟩
      by_cases hx : x = 0
      · subst hx
        rw [decide_eq_true rfl]
        have hla : atI ((0 :: r).map V.int) (-1) = some (.int (((0 :: r)[(0 :: r).length - 1]?).getD 0)) := atI_neg1 (by rw [List.length_map, List.length_cons]; omega) (by
          rw [List.length_map, List.getElem?_map, List.getElem?_eq_getElem (show (0 :: r).length - 1 < (0 :: r).length by rw [List.length_cons]; omega)]; rfl)
        refine iteF ⟨_, rfl, _, rfl, c, _, _, _, rfl, rfl, SqL.of hc, hla, _, rfl, _, rfl, b, _, rfl, SqL.of hb, _, _, rfl, rfl, rfl, _, rfl, ?_⟩
        rw [List.length_map]
        by_cases hz : ((0 :: r)[(0 :: r).length - 1]?).getD 0 = n - (u.length : Int)
        · rw [decide_eq_true (congrArg V.int hz)]
          refine iteF ⟨_, rfl, b, u, rfl, hb, lu, u1, ul, fun st H1 hst0 hst1 s1 => ?_⟩
          have hc1 := s1 _ _ hc
          refine ⟨_, rfl, _, rfl, 1, rfl, c, _, rfl, SqL.of hc1, fun q hq => ?_⟩
          rw [cut_tail]
          have s2 := Same.upd (o := .lst (((0 :: r).drop 1).map V.int)) hq
          have hq2 := upd_same (H := H1) (a := q) (o := .lst (((0 :: r).drop 1).map V.int))
          generalize L2.upd H1 q (.lst (((0 :: r).drop 1).map V.int)) = H2 at s2 hq2 ⊢
          have sH2 := s1.trans s2
          refine ⟨c, q, _, _, rfl, rfl, s2 _ _ hc1, hq2, fun D hD cb => ?_⟩
          have sl := shifts_len u
          refine comp_zip (k := 2) (a := c) (b := q) (xs := (0 :: r).map V.int) (ys := ((0 :: r).drop 1).map V.int) (fun i ys H3 => ys = ((List.range i).map fun j => decide ((((0 :: r)[j + 1]?).getD 0 - ((0 :: r)[j]?).getD 0) ∈ (shiftsOf u).map fun (s : Nat) => (s : Int))).map V.bl ∧ Same H2 H3 ∧ H3 D = some (.lst ys)) (by rw [List.length_map]; exact small1000 nl) ?_ ?_ ?_ ?_ ?_
          · exact ⟨rfl, Same.upd hD, upd_same⟩
          · rintro i ys H3 ⟨rfl, _⟩; simp
          · rintro i ys H3 _ ⟨_, s3, _⟩
            exact ⟨s3 _ _ (s2 _ _ hc1), s3 _ _ hq2⟩
          · rintro i x' y' p ys H3 hx' hy' hp ⟨rfl, s3, hD3⟩
            obtain ⟨z1, hz1, rfl⟩ := int_get hx'
            obtain ⟨z2, hz2, rfl⟩ := int_get hy'
            rw [List.getElem?_drop] at hz2
            have s4 := Same.upd (o := .tup [V.int z1, .int z2]) hp
            refine ⟨p, _, rfl, SqT.of upd_same, rfl, _, _, rfl, _, _, rfl, rfl, ?_, ?_⟩
            · intro j hj
              match j, hj with
              | 0, _ => rfl
              | 1, _ => rfl
              | 2, _ => rfl
              | 3, _ => rfl
            · refine tNoIf_go ?_
              refine ⟨_, rfl, _, rfl, _, _, rfl, rfl, _, rfl, st, _, rfl, .inl (SqL.of (s4 _ _ (s3 _ _ (s2 _ _ hst1)))), rfl, ints_flat _, s4 _ _ hD3, ?_, fun z o e => ?_, upd_same⟩
              · rw [List.range_succ, List.map_append, List.map_append]
                congr 2
                show V.bl (inV (.int (z2 - z1)) (vInts (shiftsOf u))) = _
                rw [show 1 + i = i + 1 by omega] at hz2
                rw [inV_ints]
                show _ = V.bl (decide (((0 :: r)[i + 1]?).getD 0 - ((0 :: r)[i]?).getD 0 ∈ _))
                rw [hz1, hz2]
                rfl
              · rw [upd_ne (ne_of_none e hD)]
                exact s4 _ _ (s3 _ _ e)
          · rintro ys H3 ⟨rfl, s3, hD3⟩
            have em : min ((0 :: r).map V.int).length (((0 :: r).drop 1).map V.int).length = (0 :: r).length - 1 := by
              rw [List.length_map, List.length_map, List.length_drop]; omega
            rw [em] at hD3
            refine ⟨D, _, rfl, hD3, ?_⟩
            have := k H3 (sH2.trans s3)
            have e : isCh (shiftsOf u) (0 :: r) (n - (u.length : Int)) = (((List.range ((0 :: r).length - 1)).map fun j => decide ((((0 :: r)[j + 1]?).getD 0 - ((0 :: r)[j]?).getD 0) ∈ (shiftsOf u).map fun (s : Nat) => (s : Int))).all id) := by
              unfold isCh difs
              rw [decide_eq_true (show ¬ (0 :: r : List Int) = [] by simp), decide_eq_true (show (((0 :: r : List Int)[0]?).getD 1 = 0) from rfl), decide_eq_true hz, Bool.true_and, Bool.true_and, Bool.true_and, List.all_map, List.all_map]
              rfl
            rw [e] at this
            exact this
        · rw [decide_eq_false (fun q => hz (V.int.inj q))]
          refine iteT ?_
          have := k H (Same.refl _)
          have e : isCh (shiftsOf u) (0 :: r) (n - (u.length : Int)) = false := by
            unfold isCh
            rw [decide_eq_false hz]
            simp
          rw [e] at this
          exact this
      · rw [decide_eq_false (fun q => hx (V.int.inj q))]
        refine iteT (iteT ?_)
        have := k H (Same.refl _)
        have e : isCh (shiftsOf u) (x :: r) (n - (u.length : Int)) = false := by
          unfold isCh
          rw [decide_eq_false (show ¬ ((x :: r)[0]?).getD 1 = 0 from hx)]
          simp
        rw [e] at this
        exact this
theorem scLaidOut : FnScope ["word", "chain", "text", "before", "behind"] ["word", "chain"] (defScope sLaidOut) := ⟨rfl, rfl, rfl, by decide +kernel, rfl, by decide +kernel, by decide +kernel⟩
theorem ok_laid_out (M : Md K mg) (B : Bl mg) (F : FF K "laid_out" sLaidOut) : Fn P w K mg base CX0 "laid_out" 1 ["word", "chain"] spLaidOut := by
  refine fn_ok M F scLaidOut (fun _ _ _ _ _ _ => us2 fun _ _ => rfl) (fun vs H Q E h => ?_) (fun f cdv A outer s H vs Q E hr h => ?_)
  · obtain ⟨b, c, u, l, q, rfl, _⟩ := h; rfl
  · obtain ⟨b, c, u, l, q, rfl, hb, hc, u1, qu, C, k⟩ := h
    refine ⟨_, (pss_cons (ps_set (i := 2) scLaidOut.nd rfl (by first | exact Or.inl rfl | exact Or.inr rfl) (pe_listOf B.list (pv 0)))
      (pss_cons (ps_for PassesOwn.never rfl (pi_zip B.zip (pv 1) (pe_slice sl_list (pv 1) (po_some pe_int) po_none)) (pg_tup rfl (pgs_cons (pg_name (i := 3) scLaidOut.nd rfl (by first | exact Or.inl rfl | exact Or.inr rfl)) (pgs_cons (pg_name (i := 4) scLaidOut.nd rfl (by first | exact Or.inl rfl | exact Or.inr rfl)) pgs_nil)))
      (pss_one (ps_expr (pe_bm PySem.F.plainAttrs_list PySem.F.slot_list_extend PySem.F.type_list_extend mt_extend (pv 2) (pa_cons (pe_slice sl_list (pv 0) (po_some (pe_op op_sub (pe_lenL B.len (pv 0)) (pe_op op_sub (pv 4) (pv 3)))) po_none) pa_nil)))))
      (pss_one (ps_ret (pv 2))))), ?_⟩
    have hS := steps_of u
    refine ⟨_, rfl, b, _, rfl, SqL.of hb, fun x hx => ?_⟩
    have s1 := Same.upd (o := .lst (u.map sg)) hx
    have hx1 := upd_same (H := H) (a := x) (o := .lst (u.map sg))
    generalize L2.upd H x (.lst (u.map sg)) = H1 at s1 hx1 ⊢
    have hc1 := s1 _ _ hc
    rw [vI_il] at hc1
    refine ⟨_, rfl, _, rfl, 1, rfl, c, _, rfl, SqL.of hc1, fun q1 hq1 => ?_⟩
    rw [cut_tail]
    have s2 := Same.upd (o := .lst (((il l).drop 1).map V.int)) hq1
    have hq2 := upd_same (H := H1) (a := q1) (o := .lst (((il l).drop 1).map V.int))
    have hx2 := s2 _ _ hx1
    have hc2 := s2 _ _ hc1
    have sH2 := s1.trans s2
    have nqx : q1 ≠ x := fun z => by subst z; rw [hx1] at hq1; cases hq1
    generalize L2.upd H1 q1 (.lst (((il l).drop 1).map V.int)) = H2 at s2 hq2 hx2 hc2 sH2 ⊢
    have ll : (il l).length = l.length := by simp [il]
    refine ⟨c, q1, _, _, rfl, rfl, hc2, hq2, for_zip (a := c) (b := q1) (xs := (il l).map V.int) (ys := ((il l).drop 1).map V.int) (fun i σ H3 => Same H H3 ∧ H3 q1 = some (.lst (((il l).drop 1).map V.int)) ∧ H3 x = some (.lst ((layN u l i).map sg)) ∧ ∃ v3 v4, σ = [some (.ref b), some (.ref c), some (.ref x), v3, v4]) ?_ ?_ ?_ ?_⟩
    · exact ⟨sH2, hq2, hx2, _, _, rfl⟩
    · rintro i σ H3 _ ⟨s3, h3, _⟩
      have := s3 _ _ hc
      rw [vI_il] at this
      exact ⟨this, h3⟩
    · rintro i x' y' p σ H3 hx' hy' hp ⟨s3, hq3, hx3, v3, v4, rfl⟩
      obtain ⟨z1, hz1, rfl⟩ := int_get hx'
      obtain ⟨z2, hz2, rfl⟩ := int_get hy'
      rw [List.getElem?_drop, show 1 + i = i + 1 by omega] at hz2
      have hi2 : i + 1 < l.length := by have := (List.getElem?_eq_some_iff.mp hz2).1; omega
      have e1 : z1 = (gd l i : Nat) := by
        rw [il_get, List.getElem?_eq_getElem (show i < l.length by omega)] at hz1
        unfold gd; rw [List.getElem?_eq_getElem (show i < l.length by omega)]
        exact (Option.some.inj hz1).symm
      have e2 : z2 = (gd l (i + 1) : Nat) := by
        rw [il_get, List.getElem?_eq_getElem hi2] at hz2
        unfold gd; rw [List.getElem?_eq_getElem hi2]
        exact (Option.some.inj hz2).symm
      obtain ⟨s, hs, es⟩ := (Ch.at_ C i (by omega)).2 hi2
      obtain ⟨sb1, sb2, _⟩ := hS s hs
      have s4 := Same.upd (o := .tup [V.int z1, .int z2]) hp
      have hp4 := upd_same (H := H3) (a := p) (o := .tup [V.int z1, .int z2])
      have hq4 := s4 _ _ hq3
      have hx4 := s4 _ _ hx3
      have s34 := s3.trans s4
      generalize L2.upd H3 p (.tup [V.int z1, .int z2]) = H4 at s4 hp4 hq4 hx4 s34 ⊢
      refine ⟨p, _, rfl, SqT.of hp4, rfl, _, _, rfl, _, _, rfl, rfl, ?_⟩
      have hb4 := s34 _ _ hb
      refine ⟨_, rfl, .inl ⟨rfl, _, SqL.of hx4⟩, _, rfl, _, rfl, b, _, rfl, SqL.of hb4, _, rfl, _, rfl, _, _, rfl, rfl, _, _, rfl, rfl, _, rfl, b, _, rfl, SqL.of hb4, fun q3 hq3' => ?_⟩
      have ec : cutV (u.map sg) (some (((u.map sg).length : Nat) - (z2 - z1))) none = (u.drop (u.length - (gd l (i + 1) - gd l i))).map sg := by
        rw [List.length_map, e1, e2, show ((u.length : Int) - (((gd l (i + 1) : Nat) : Int) - ((gd l i : Nat) : Int))) = ((u.length - (gd l (i + 1) - gd l i) : Nat) : Int) by omega, cut_lo (by omega)]; rfl
      have s5 := Same.upd (o := .lst (cutV (u.map sg) (some (((u.map sg).length : Nat) - (z2 - z1))) none)) hq3'
      have hq5 : (L2.upd H4 q3 (.lst (cutV (u.map sg) (some (((u.map sg).length : Nat) - (z2 - z1))) none))) q3 = some (.lst ((u.drop (u.length - (gd l (i + 1) - gd l i))).map sg)) := by rw [upd_same, ec]
      have hq5' := s5 _ _ hq4
      have hx5 := s5 _ _ hx4
      have s35 := s34.trans s5
      generalize L2.upd H4 q3 (.lst (cutV (u.map sg) (some (((u.map sg).length : Nat) - (z2 - z1))) none)) = H5 at s5 hq5 hq5' hx5 s35 ⊢
      have l1 := (layN_cost (t := []) hS C i (by omega)).1
      have l2 := (layN_cost (t := []) hS C (i + 1) hi2).1
      have gq := (Ch.le_all C (gd l (i + 1)) (by unfold gd; rw [List.getElem?_eq_getElem hi2]; exact List.getElem_mem hi2)).2
      refine ⟨x, q3, _, _, rfl, rfl, hx5, hq5, by rw [List.length_map, List.length_map, ← List.length_append]; show (layN u l (i + 1)).length ≤ _; rw [l2]; exact sz (by omega), ?_⟩
      refine ⟨fun z o e => by rw [upd_ne (ne_of_none e hx)]; exact s35 _ _ e, by rw [upd_ne nqx]; exact hq5', ?_, _, _, rfl⟩
      rw [upd_same, ← List.map_append]
      rfl
    · rintro σ H3 ⟨s3, hq3, hx3, v3, v4, rfl⟩
      have em : min ((il l).map V.int).length (((il l).drop 1).map V.int).length = l.length - 1 := by
        simp [il]
      rw [em] at hx3
      exact ⟨_, rfl, k x H3 hx hx3 s3⟩
end

end Ov

namespace Ov
open PySem L2
theorem ch_ints {u S : List Nat} (hS : Steps u S) : ∀ (ns : List Int) (p : Nat), (∀ d ∈ difs ((p : Int) :: ns), d ∈ S.map fun (s : Nat) => (s : Int)) → ∃ (l : List Nat) (q : Nat), (p : Int) :: ns = il l ∧ Ch S p q l ∧ ((((p : Int) :: ns)[ns.length]?).getD 0) = (q : Int)
  | [], p, _ => ⟨[p], p, rfl, Ch.one p, rfl⟩
  | z :: ns, p, h => by
    have h0 : z - (p : Int) ∈ S.map fun (s : Nat) => (s : Int) := h _ (by
      unfold difs
      rw [List.mem_map]
      exact ⟨0, by simp, rfl⟩)
    obtain ⟨s, hs, es⟩ := List.mem_map.mp h0
    have es' : z = ((p + s : Nat) : Int) := by
      have : (s : Int) = z - (p : Int) := es
      omega
    subst es'
    obtain ⟨l, q, e1, e2, e3⟩ := ch_ints hS ns (p + s) (fun d hd => h d (by
      unfold difs at hd ⊢
      rw [List.mem_map] at hd ⊢
      obtain ⟨i, hi, rfl⟩ := hd
      rw [List.mem_range] at hi
      exact ⟨i + 1, by rw [List.mem_range]; simp at hi ⊢; omega, rfl⟩))
    refine ⟨p :: l, q, by show (p : Int) :: _ = (p : Int) :: il l; rw [e1], Ch.cons hs e2, ?_⟩
    rw [← e3]
    rfl
theorem isCh_ch {u S : List Nat} (hS : Steps u S) {ns : List Int} {q : Nat} (h : isCh S ns (q : Int) = true) : ∃ l, ns = il l ∧ Ch S 0 q l := by
  unfold isCh at h
  simp only [Bool.and_eq_true, decide_eq_true_eq, List.all_eq_true] at h
  obtain ⟨h1, h2, h3, h4⟩ := h
  cases ns with
  | nil => exact absurd rfl h1
  | cons z ns =>
    have ez : z = ((0 : Nat) : Int) := h2
    subst ez
    obtain ⟨l, q', e1, e2, e3⟩ := ch_ints hS ns 0 h4
    refine ⟨l, e1, ?_⟩
    have : (q' : Int) = (q : Int) := by
      rw [← e3, ← h3]
      rfl
    have : q' = q := by omega
    subst this
    exact e2
def spCostX (cC : Addr) : Sp := fun vs H Q E => ∃ (a b c : Addr) (t u : List Nat) (ns : List Int), vs = [.ref a, .ref b, .ref c] ∧ H a = some (.lst (t.map sg)) ∧ H b = some (.lst (u.map sg)) ∧ H c = some (.lst (ns.map V.int)) ∧ Low t ∧ Low u ∧ 1 ≤ u.length ∧ u.length ≤ t.length ∧ t.length ≤ 900 ∧ ns.length ≤ 1000 ∧
  (isCh (shiftsOf u) ns ((t.length - u.length : Nat) : Int) = false → ∀ H', Same H H' → E (.ref cC) none H') ∧ (∀ l, ns = il l → Ch (shiftsOf u) 0 (t.length - u.length) l → ∀ H', Same H H' → Q (.int (cst t u l : Nat)) H')
section
variable {P : Program} {w : World} {K : PySem.W.Frag} {mg : Str → Option Value} {base : Heap} {cNoChain : Addr}
theorem scCost : FnScope ["text", "word", "chain"] ["text", "word", "chain"] (defScope sCost) := ⟨rfl, rfl, rfl, by decide +kernel, rfl, by decide +kernel, by decide +kernel⟩
theorem ok_costX (M : Md K mg) (B : Bl mg) (F : FF K "chain_cost" sCost) (ONoChain : Exc K mg "NoChain" cNoChain) (Fcheck_fits : Fn P w K mg base CX0 "check_fits" 4 ["text", "word"] spFits) (Fis_chain : Fn P w K mg base CX0 "is_chain" 6 ["word", "chain", "length"] spIsChain) (Flaid_out : Fn P w K mg base CX0 "laid_out" 1 ["word", "chain"] spLaidOut) : Fn P w K mg base (CXx P w) "chain_cost" 7 ["text", "word", "chain"] (spCostX cNoChain) := by
  refine fn_okX M F scCost (fun _ _ _ _ _ _ => us3 fun _ _ _ => rfl) (fun vs H Q E h => ?_) (fun f cdv A outer s H vs Q E hr h => ?_)
  · obtain ⟨a, b, c, t, u, ns, rfl, _⟩ := h; rfl
  · obtain ⟨a, b, c, t, u, ns, rfl, ha, hb, hc, lt, lu, u1, ut, tl, nl, k1, k2⟩ := h
    refine ⟨_, (pss_cons (ps_expr (pe_fn Fcheck_fits hr pass0 (pa_cons (pv 0) (pa_cons (pv 1) pa_nil))))
      (pss_cons (ps_if (pt_not (pt_val (pe_fn Fis_chain hr pass0 (pa_cons (pv 1) (pa_cons (pv 2) (pa_cons (pe_lenL B.len (pv 0)) pa_nil)))))) (pss_one (ps_raise ONoChain pe_str)) pss_nil)
      (pss_one (ps_ret (pe_sumG rfl B.sum (pe_comp2 ["sign", "due"] ["text", "word", "chain"] rfl (pi_zip B.zip (pv 0) (pe_fn Flaid_out hr pass0 (pa_cons (pv 1) (pa_cons (pv 2) pa_nil)))) (fun _ => by exact (pg_tup rfl (pgs_cons (pg_name (i := 3) (show ((["text", "word", "chain"] : List Str) ++ (["sign", "due"] : List Str)).Nodup by decide +kernel) rfl (by first | exact Or.inl rfl | exact Or.inr rfl)) (pgs_cons (pg_name (i := 4) (show ((["text", "word", "chain"] : List Str) ++ (["sign", "due"] : List Str)).Nodup by decide +kernel) rfl (by first | exact Or.inl rfl | exact Or.inr rfl)) pgs_nil)))) (fun _ => by exact (pif_one (pt_cmpR op_ne (pv 3) (pv 4) (nomark _)))) (fun _ => by exact pe_int))))))), ?_⟩
    have hS := steps_of u
    refine ⟨_, rfl, _, rfl, a, b, t, u, rfl, ha, hb, lt, lu, u1, ut, ?_⟩
    refine ⟨_, rfl, _, rfl, _, rfl, a, _, rfl, SqL.of ha, b, c, u, ns, _, rfl, hb, hc, lu, u1, by omega, nl, fun H1 s1 => ?_⟩
    rw [List.length_map, show ((t.length : Int) - (u.length : Int)) = ((t.length - u.length : Nat) : Int) by omega]
    cases hcb : isCh (shiftsOf u) ns ((t.length - u.length : Nat) : Int) with
    | false => exact ⟨false, rfl, iteT ⟨rfl, k1 hcb H1 s1⟩⟩
    | true =>
    refine ⟨true, rfl, iteF ?_⟩
    obtain ⟨l, rfl, C⟩ := isCh_ch hS hcb
    have k := k2 l rfl C
    have ll := Ch.len_le hS C
    refine ⟨_, rfl, _, rfl, _, rfl, b, c, u, l, t.length - u.length, rfl, s1 _ _ hb, s1 _ _ hc, u1, by omega, C, fun r H2 hr0 hr2 s2 => ?_⟩
    have s12 := s1.trans s2
    obtain ⟨X, hX⟩ : ∃ X, X = layN u l (l.length - 1) := ⟨_, rfl⟩
    rw [← hX] at hr2
    have hne : 1 ≤ l.length := by obtain ⟨r', e⟩ := C.head; rw [e, List.length_cons]; omega
    obtain ⟨xl, xc⟩ := layN_cost (t := t) hS C (l.length - 1) (by omega)
    rw [← hX] at xl xc
    have eg : gd l (l.length - 1) = t.length - u.length := by
      obtain ⟨r', e⟩ := C.last
      unfold gd
      rw [e, List.length_append, List.length_singleton, show r'.length + 1 - 1 = r'.length by omega, List.getElem?_append_right (Nat.le_refl _), Nat.sub_self]; rfl
    rw [eg, show t.length - u.length + u.length = t.length by omega] at xl xc
    rw [show l.length - 1 + 1 = l.length by omega, List.take_length] at xc
    refine ⟨a, r, _, _, rfl, rfl, s12 _ _ ha, hr2, fun D hD cb => ?_⟩
    refine comp_zip (k := 2) (a := a) (b := r) (xs := t.map sg) (ys := X.map sg) (fun i ys H3 => ys = (List.replicate (mis t X 0 i) (1 : Int)).map V.int ∧ Same H2 H3 ∧ H3 D = some (.lst ys)) (by rw [List.length_map]; exact small1000 (by omega)) ?_ ?_ ?_ ?_ ?_
    · exact ⟨rfl, Same.upd hD, upd_same⟩
    · rintro i ys H3 ⟨rfl, _⟩
      rw [List.length_map, List.length_replicate]; exact mis_le _ _ _ _
    · rintro i ys H3 _ ⟨_, s3, _⟩
      exact ⟨s3 _ _ (s12 _ _ ha), s3 _ _ hr2⟩
    · rintro i x' y' p ys H3 hx' hy' hp ⟨rfl, s3, hD3⟩
      obtain ⟨d1, hd1, rfl⟩ := sg_get hx'
      obtain ⟨d2, hd2, rfl⟩ := sg_get hy'
      have s4 := Same.upd (o := .tup [sg d1, sg d2]) hp
      refine ⟨p, _, rfl, SqT.of upd_same, rfl, _, _, rfl, _, _, rfl, rfl, ?_, ?_⟩
      · intro j hj
        match j, hj with
        | 0, _ => rfl
        | 1, _ => rfl
        | 2, _ => rfl
      · refine ⟨_, rfl, _, rfl, rfl, _, rfl, ?_⟩
        rw [sg_dec]
        have em : mis t X 0 (i + 1) = mis t X 0 i + (if d1 = d2 then 0 else 1) := by
          simp only [mis]
          rw [Nat.zero_add, hd1, hd2]
          congr 1
          by_cases h : d1 = d2
          · rw [if_pos h, if_pos (by rw [h])]
          · rw [if_neg h, if_neg (fun z => h (Option.some.inj z))]
        by_cases h : d1 = d2
        · rw [decide_eq_true h]
          refine iteF ⟨?_, s3.trans s4, s4 _ _ hD3⟩
          rw [em, if_pos h, Nat.add_zero]
        · rw [decide_eq_false h]
          refine iteT ⟨s4 _ _ hD3, ?_, fun z o e => by rw [upd_ne (ne_of_none e hD)]; exact s4 _ _ (s3 _ _ e), upd_same⟩
          rw [em, if_neg h, List.replicate_succ', List.map_append]; rfl
    · rintro ys H3 ⟨rfl, s3, hD3⟩
      have em : min (t.map sg).length (X.map sg).length = t.length := by rw [List.length_map, List.length_map, xl]; omega
      rw [em] at hD3
      refine ⟨D, _, rfl, hD3, ?_⟩
      rw [mis_sum, xc]
      exact k H3 (s12.trans s3)
end

end Ov

namespace Ov
open PySem L2
abbrev sShown : Stmt := top 35
theorem lay_at {S u : List Nat} (hS : Steps u S) {q : Nat} {l : List Nat} (h : Ch S 0 q l) : ∀ i, i < l.length → (layN u l i).length = gd l i + u.length ∧ ∀ x, x < u.length → (layN u l i)[gd l i + x]? = u[x]?
  | 0, hi => by
    obtain ⟨r, e⟩ := h.head
    have g0 : gd l 0 = 0 := by rw [e]; rfl
    refine ⟨by rw [g0, Nat.zero_add]; rfl, fun x _ => by rw [g0, Nat.zero_add]; rfl⟩
  | i + 1, hi => by
    obtain ⟨h1, h2⟩ := lay_at hS h i (by omega)
    obtain ⟨s, hs, es⟩ := (h.at_ i (by omega)).2 hi
    obtain ⟨s1, s2, s3⟩ := hS s hs
    have ed : gd l (i + 1) - gd l i = s := by omega
    have el : layN u l (i + 1) = layN u l i ++ u.drop (u.length - s) := by rw [← ed]; rfl
    refine ⟨by rw [el, List.length_append, List.length_drop, h1, es]; omega, fun x hx => ?_⟩
    rw [el, es]
    by_cases hx2 : s + x < u.length
    · rw [List.getElem?_append_left (by omega), Nat.add_assoc, h2 (s + x) hx2, s3 x (by omega)]
    · rw [List.getElem?_append_right (by omega), List.getElem?_drop]
      congr 1
      omega
theorem lay_ext {u l : List Nat} {i x : Nat} (hx : x < (layN u l i).length) : (layN u l (i + 1))[x]? = (layN u l i)[x]? := by
  show (layN u l i ++ _)[x]? = _
  rw [List.getElem?_append_left hx]
theorem valV_at {κ : Type} [DecidableEq κ] : ∀ {kvs : List (κ × V)} {i : Nat} {k : κ} {v : V}, (kvs.map (·.1)).Nodup → kvs[i]? = some (k, v) → valV kvs k = some v
  | [], _, _, _, _, h => by simp at h
  | (k0, v0) :: r, 0, k, v, _, h => by
    have e : (k0, v0) = (k, v) := by simpa using h
    cases e
    exact valV_pos rfl
  | (k0, v0) :: r, i + 1, k, v, hn, h => by
    have h' : r[i]? = some (k, v) := by simpa using h
    rw [List.map_cons, List.nodup_cons] at hn
    rw [valV_neg (fun e => hn.1 (List.mem_map.mpr ⟨(k, v), List.mem_of_getElem? h', e.symm⟩))]
    exact valV_at hn.2 h'
/-- the first m signs of T, each at its place -/
def kvOf (T : List Nat) (m : Nat) : List (Key × V) := (List.range m).map fun (x : Nat) => ((Sum.inl (x : Int) : Key), sg (T.getD x 0))
theorem kvOf_len (T : List Nat) (m : Nat) : (kvOf T m).length = m := by simp [kvOf]
theorem kvOf_keys (T : List Nat) (m : Nat) : (kvOf T m).map (·.1) = ((List.range m).map fun (x : Nat) => (x : Int)).map Sum.inl := by
  unfold kvOf; rw [List.map_map, List.map_map]; rfl
theorem kvOf_nodup (T : List Nat) (m : Nat) : ((kvOf T m).map (·.1)).Nodup := by
  rw [kvOf_keys, List.map_map]
  refine List.Pairwise.map _ (fun a b (hab : a ≠ b) => ?_) List.nodup_range
  intro e
  have : (a : Int) = (b : Int) := Sum.inl.inj e
  omega
theorem kvOf_at (T : List Nat) {m x : Nat} (h : x < m) : (kvOf T m)[x]? = some (Sum.inl (x : Int), sg (T.getD x 0)) := by
  unfold kvOf; rw [List.getElem?_map, List.getElem?_range h]; rfl
theorem kvOf_get (T : List Nat) {m x : Nat} (h : x < m) : valV (kvOf T m) (Sum.inl (x : Int)) = some (sg (T.getD x 0)) := valV_at (kvOf_nodup T m) (kvOf_at T h)
theorem kvOf_put (T : List Nat) {m n : Nat} (h : n ≤ m) : putK (kvOf T m) (Sum.inl (n : Int)) (sg (T.getD n 0)) = kvOf T (max m (n + 1)) := by
  by_cases hn : n < m
  · rw [Nat.max_eq_left (by omega)]
    unfold putK
    have hany : ((kvOf T m).any fun kv => decide (kv.1 = Sum.inl (n : Int))) = true := by rw [valV_any, kvOf_get T hn]; rfl
    rw [if_pos hany]
    conv => rhs; rw [← List.map_id (kvOf T m)]
    apply List.map_congr_left
    intro kv hkv
    unfold kvOf at hkv
    obtain ⟨x, _, rfl⟩ := List.mem_map.mp hkv
    by_cases hx : x = n
    · subst hx; simp
    · rw [if_neg (fun z => hx (by have : (x : Int) = (n : Int) := Sum.inl.inj z; omega))]; rfl
  · have e : n = m := by omega
    subst e
    rw [Nat.max_eq_right (by omega), putK_new]
    · unfold kvOf; rw [List.range_succ, List.map_append]; rfl
    · cases hv : valV (kvOf T n) (Sum.inl (n : Int)) with
      | none => rfl
      | some v =>
        have h1 := valV_any (Sum.inl (n : Int)) (kvOf T n)
        rw [hv] at h1
        obtain ⟨kv, hkv, hk⟩ := List.any_eq_true.mp h1
        unfold kvOf at hkv
        obtain ⟨x, hx, rfl⟩ := List.mem_map.mp hkv
        have : (x : Int) = (n : Int) := Sum.inl.inj (of_decide_eq_true hk)
        rw [List.mem_range] at hx
        omega
theorem kvOf_congr {T T' : List Nat} {m : Nat} (h : ∀ x, x < m → T[x]? = T'[x]?) : kvOf T m = kvOf T' m := by
  unfold kvOf
  apply List.map_congr_left
  intro x hx
  rw [List.mem_range] at hx
  rw [List.getD_eq_getElem?_getD, List.getD_eq_getElem?_getD, h x hx]
def tot (u l : List Nat) : Nat → Nat
  | 0 => 0
  | i + 1 => gd l i + u.length
def spShown : Sp := fun vs H Q _ => ∃ (b c : Addr) (u l : List Nat) (q : Nat), vs = [.ref b, .ref c] ∧ H b = some (.lst (u.map sg)) ∧ H c = some (.lst (vInts l)) ∧ 1 ≤ u.length ∧ q + u.length ≤ 900 ∧ Ch (shiftsOf u) 0 q l ∧ ∀ (r : Addr) (H' : Hp), H r = none → H' r = some (.lst ((layN u l (l.length - 1)).map sg)) → Same H H' → Q (.ref r) H'
theorem vI_at {S : List Nat} {i : Nat} {x : V} (h : (vInts S)[i]? = some x) : ∃ o, S[i]? = some o ∧ x = V.int (o : Int) := by
  unfold vInts at h
  rw [List.map_map, List.getElem?_map] at h
  cases q : S[i]? with
  | none => rw [q] at h; cases h
  | some k => rw [q] at h; exact ⟨k, rfl, (Option.some.inj h).symm⟩
section
variable {P : Program} {w : World} {K : PySem.W.Frag} {mg : Str → Option Value} {base : Heap}
theorem scShown : FnScope ["word", "chain", "found", "place", "k", "sign"] ["word", "chain"] (defScope sShown) := ⟨rfl, rfl, rfl, by decide +kernel, rfl, by decide +kernel, by decide +kernel⟩
theorem ok_shown (M : Md K mg) (B : Bl mg) (nsorted : mg "sorted" = none) (F : FF K "_law_shown" sShown) : Fn P w K mg base CX0 "_law_shown" 1 ["word", "chain"] spShown := by
  refine fn_ok M F scShown (fun _ _ _ _ _ _ => us2 fun _ _ => rfl) (fun vs H Q E h => ?_) (fun f cdv A outer s H vs Q E hr h => ?_)
  · obtain ⟨b, c, u, l, q, rfl, _⟩ := h; rfl
  · obtain ⟨b, c, u, l, q, rfl, hb, hc, u1, ul, C, k⟩ := h
    refine ⟨_, (pss_cons (ps_set (i := 2) scShown.nd rfl (by first | exact Or.inl rfl | exact Or.inr rfl) pe_dnewK)
      (pss_cons (ps_for PassesOwn.never rfl (pi_list (pv 1)) (pg_name (i := 3) scShown.nd rfl (by first | exact Or.inl rfl | exact Or.inr rfl))
      (pss_one (ps_for PassesOwn.never rfl (pi_enum B.enumerate (pv 0)) (pg_tup rfl (pgs_cons (pg_name (i := 4) scShown.nd rfl (by first | exact Or.inl rfl | exact Or.inr rfl)) (pgs_cons (pg_name (i := 5) scShown.nd rfl (by first | exact Or.inl rfl | exact Or.inr rfl)) pgs_nil)))
      (pss_one (ps_dput (by exact hu_of hr) (pv 2) (pe_op op_add (pv 3) (pv 4)) (pv 5) rfl)))))
      (pss_one (ps_ret (pe_comp ["word", "chain", "found", "place", "", "sign"] rfl (pi_list (pe_sortK rfl nsorted (pv 2))) (fun _ => by exact pif_nil) (fun _ => by exact (pe_dget (by exact hu_of hr) (pv 2) (pv 6) (fun _ _ => rfl)))))))), ?_⟩
    have hS := steps_of u
    have ll := Ch.len_le hS C
    refine fun d hd => ?_
    have s1 := Same.upd (o := .dK []) hd
    have hd1 := upd_same (H := H) (a := d) (o := .dK [])
    generalize L2.upd H d (.dK []) = H1 at s1 hd1 ⊢
    have nbd : b ≠ d := ne_of_none hb hd
    have ncd : c ≠ d := ne_of_none hc hd
    have ulen : (u.map sg).length = u.length := List.length_map _
    refine ⟨_, rfl, c, rfl, ⟨_, SqL.of (s1 _ _ hc)⟩, for_listA (K := K) (a := c) (xs := vInts l) (fun i σ H2 => H2 d = some (.dK (kvOf (layN u l (i - 1)) (tot u l i))) ∧ Same H H2 ∧ ∃ v3 v4 v5, σ = [some (.ref b), some (.ref c), some (.ref d), v3, v4, v5]) ⟨hd1, s1, _, _, _, rfl⟩ (fun i σ H2 _ h => SqL.of (h.2.1 _ _ hc)) ?_ ?_⟩
    · rintro D1 i x σ H2 nx1 hx ⟨hd2, s2, v3, v4, v5, rfl⟩
      obtain ⟨o, ho, rfl⟩ := vI_at hx
      have hil : i < l.length := (List.getElem?_eq_some_iff.mp ho).1
      have eo : gd l i = o := by unfold gd; rw [ho]; rfl
      obtain ⟨T1, T2⟩ := lay_at hS C i hil
      have oq : o ≤ q := (Ch.le_all C o (List.mem_of_getElem? ho)).2
      have htot : gd l i ≤ tot u l i ∧ tot u l i ≤ gd l i + u.length := by
        cases i with
        | zero => obtain ⟨r, e⟩ := C.head; have : gd l 0 = 0 := by rw [e]; rfl
                  rw [this]; exact ⟨Nat.le_refl _, Nat.zero_le _⟩
        | succ i =>
          obtain ⟨s, hs, es⟩ := (C.at_ i (by omega)).2 hil
          obtain ⟨sb1, sb2, _⟩ := hS s hs
          show gd l (i + 1) ≤ gd l i + u.length ∧ gd l i + u.length ≤ gd l (i + 1) + u.length
          omega
      have ek : kvOf (layN u l (i - 1)) (tot u l i) = kvOf (layN u l i) (max (tot u l i) (gd l i + 0)) := by
        rw [Nat.add_zero, Nat.max_eq_left htot.1]
        cases i with
        | zero => rfl
        | succ i =>
          apply kvOf_congr
          intro x hx
          obtain ⟨T3, _⟩ := lay_at hS C i (by omega)
          have hx' : x < (layN u l i).length := by rw [T3]; exact hx
          exact (lay_ext hx').symm
      rw [ek] at hd2
      refine ⟨_, rfl, b, _, rfl, s2 _ _ hb, ?_⟩
      refine for_enum (a := b) (xs := u.map sg) (fun j σ H3 => H3 d = some (.dK (kvOf (layN u l i) (max (tot u l i) (gd l i + j)))) ∧ Same H H3 ∧ ∃ v4 v5, σ = [some (.ref b), some (.ref c), some (.ref d), some (.int (o : Int)), v4, v5]) ⟨hd2, s2, _, _, rfl⟩ (fun j σ H3 _ h => h.2.1 _ _ hb) ?_ ?_
      · rintro j v g σ H3 hv hg ⟨hd3, s3, v4, v5, rfl⟩
        obtain ⟨ch, hch, rfl⟩ := sg_get hv
        have hju : j < u.length := (List.getElem?_eq_some_iff.mp hch).1
        have s4 := Same.upd (o := .tup [V.int (j : Int), sg ch]) hg
        have hg4 := upd_same (H := H3) (a := g) (o := .tup [V.int (j : Int), sg ch])
        have hd4 := s4 _ _ hd3
        generalize L2.upd H3 g (.tup [V.int (j : Int), sg ch]) = H4 at s4 hg4 hd4 ⊢
        refine ⟨g, _, rfl, SqT.of hg4, rfl, _, _, rfl, _, _, rfl, rfl, ?_⟩
        have hval : (layN u l i).getD (gd l i + j) 0 = ch := by rw [List.getD_eq_getElem?_getD, T2 j hju, hch]; rfl
        have hz : (kvOf (layN u l i) (max (tot u l i) (gd l i + j))).length < sizeLine := by rw [kvOf_len]; exact small1000 (by omega)
        refine ⟨_, rfl, _, rfl, _, rfl, _, rfl, _, _, rfl, rfl, d, _, rfl, DPut.k (k := Sum.inl ((o : Int) + (j : Int))) hd4 hz, ?_, ?_, _, _, rfl⟩
        · rw [upd_same, ← hval, ← eo, show ((gd l i : Nat) : Int) + (j : Int) = ((gd l i + j : Nat) : Int) by omega, kvOf_put _ (Nat.le_max_right _ _), show max (max (tot u l i) (gd l i + j)) (gd l i + j + 1) = max (tot u l i) (gd l i + (j + 1)) by omega]
        · intro z o' e
          rw [upd_ne (ne_of_none e hd)]
          exact s4 _ _ (s3 _ _ e)
      · rintro σ H3 ⟨hd3, s3, v4, v5, rfl⟩
        refine nx1 _ _ ⟨?_, s3, _, _, _, rfl⟩
        rw [hd3, List.length_map, Nat.max_eq_right htot.2]
        rfl
    · rintro σ H2 ⟨hd2, s2, v3, v4, v5, rfl⟩
      rw [vInts_len] at hd2
      have hne : 1 ≤ l.length := by obtain ⟨r', e⟩ := C.head; rw [e, List.length_cons]; omega
      obtain ⟨T1, _⟩ := lay_at hS C (l.length - 1) (by omega)
      have et : tot u l l.length = (layN u l (l.length - 1)).length := by
        rw [T1]
        obtain ⟨n, hn⟩ : ∃ n, l.length = n + 1 := ⟨l.length - 1, by omega⟩
        rw [hn]; rfl
      have gq : gd l (l.length - 1) ≤ q := by
        have hm : l.length - 1 < l.length := by omega
        have : l[l.length - 1]? = some (gd l (l.length - 1)) := by unfold gd; rw [List.getElem?_eq_getElem hm]; rfl
        exact (Ch.le_all C _ (List.mem_of_getElem? this)).2
      rw [et] at hd2
      obtain ⟨T, hT⟩ : ∃ T, T = layN u l (l.length - 1) := ⟨_, rfl⟩
      rw [← hT] at hd2 T1 k
      have Tl : T.length ≤ 900 := by omega
      refine ⟨_, rfl, d, _, (List.range T.length).map fun (x : Nat) => (x : Int), rfl, hd2, kvOf_keys _ _, ?_, by simp; omega, fun sl hsl => ?_⟩
      · exact List.Pairwise.map _ (fun a b (h : a < b) => by show (a : Int) ≤ (b : Int); omega) List.pairwise_lt_range
      have s3 := Same.upd (o := .lst (((List.range T.length).map fun (x : Nat) => (x : Int)).map V.int)) hsl
      have hs3 := upd_same (H := H2) (a := sl) (o := .lst (((List.range T.length).map fun (x : Nat) => (x : Int)).map V.int))
      have hd3 := s3 _ _ hd2
      generalize L2.upd H2 sl (.lst (((List.range T.length).map fun (x : Nat) => (x : Int)).map V.int)) = H3 at s3 hs3 hd3 ⊢
      refine ⟨sl, rfl, ⟨_, SqL.of hs3⟩, fun D hD cb => ?_⟩
      have s23 := s2.trans s3
      refine comp_list (K := K) (a := sl) (xs := vInts (List.range T.length)) (fun i ys H4 => ys = (T.take i).map sg ∧ Same H3 H4 ∧ H4 D = some (.lst ys)) (by rw [vInts_len, List.length_range]; exact small1000 (by omega)) ?_ ?_ ?_ ?_ ?_
      · exact ⟨rfl, Same.upd hD, upd_same⟩
      · rintro i ys H4 ⟨rfl, _⟩
        rw [List.length_map, List.length_take]; omega
      · rintro i ys H4 _ ⟨_, s5, _⟩; exact SqL.of (s5 _ _ hs3)
      · rintro i x ys H4 hx ⟨rfl, s5, hD4⟩
        obtain ⟨o, ho, rfl⟩ := vI_at hx
        have hi : i < T.length := by have := (List.getElem?_eq_some_iff.mp ho).1; simpa using this
        obtain rfl : i = o := by rw [List.getElem?_range hi] at ho; exact Option.some.inj ho
        have hget : DGet H4 d (.int (i : Int)) (some (sg (T.getD i 0))) := by
          have := DGet.k (k := Sum.inl (i : Int)) (s5 _ _ hd3)
          rw [kvOf_get T hi] at this
          exact this
        refine tNoIf_go ⟨_, rfl, _, rfl, d, _, rfl, hget, hD4, ?_, fun e o' z => by rw [upd_ne (ne_of_none z hD)]; exact s5 _ _ z, upd_same⟩
        rw [List.take_add_one, List.getElem?_eq_getElem hi, List.map_append, List.getD_eq_getElem?_getD, List.getElem?_eq_getElem hi]; rfl
      · rintro ys H4 ⟨rfl, s5, hD4⟩
        rw [vInts_len, List.length_range, List.take_length] at hD4
        exact k D H4 (s23.free hD) hD4 (s23.trans s5)
end

end Ov

namespace Ov
open PySem L2
abbrev sLaidC : Stmt := top 34
theorem vInts_at {ks : List Nat} {i : Nat} {x : V} (h : (vInts ks)[i]? = some x) : ∃ q, ks[i]? = some q ∧ x = .int (q : Int) := vI_at h
theorem nm_int {k : Nat} {v : V} {j : Int} {σ : St} {H : Hp} {R : St → Hp → Prop} (e : v = .int j) (h : gName k (.int j) σ H R) : gName k v σ H R := by rw [e]; exact h
theorem take_at {α : Type} {l : List α} {j : Nat} {x : α} (h : l[j]? = some x) : l.take (j + 1) = l.take j ++ [x] := by
  rw [List.take_add_one, h]; rfl
theorem fseq_set {te : TE} {i : Nat} {rest : TS} {D : Ends} {σ : St} {H : Hp} (h : te σ H fun x H1 => rest D (σ.set i (some x)) H1) : tSeq (tAsg te (gName i)) rest D σ H := h
theorem asg_set {te : TE} {i : Nat} {D : Ends} {σ : St} {H : Hp} (h : te σ H fun x H1 => D.nx (σ.set i (some x)) H1) : tAsg te (gName i) D σ H := h
theorem filter_at {l : List Nat} {f : Nat → Bool} {i o : Nat} (h : l[i]? = some o) : (l.take (i + 1)).filter f = (l.take i).filter f ++ (if f o = true then [o] else []) := by
  rw [take_at h, List.filter_append]
  congr 1
  by_cases hf : f o = true <;> simp [hf]
theorem far_comp {K : PySem.W.Frag} {st : Addr} {S : List Nat} {left : Nat} {σ : St} {H2 : Hp} {Q : VK} {n i3 i5 : Nat} (hn : σ.length = n) (h3 : σ[i3]? = some (some (.ref st))) (h5 : σ[i5]? = some (some (.int (left : Int)))) (hst : H2 st = some (.lst (vInts S))) (hS : S.length ≤ 900)
    (k : ∀ D H3, H2 D = none → H3 D = some (.lst (vInts (S.filter fun s => decide (s ≤ left)))) → Same H2 H3 → Q (.ref D) H3) :
    tComp (iList K (tVar i3)) (fun _ => tTest (tOp (rI0 fun i j => .bl (decide (i ≤ j))) (tVar n) (tVar i5))) (fun _ => tVar n) σ H2 Q := by
  refine ⟨_, h3, st, rfl, ⟨_, SqL.of hst⟩, fun D hD cb => ?_⟩
  have i5l : i5 < σ.length := (List.getElem?_eq_some_iff.mp h5).1
  refine comp_list (K := K) (a := st) (xs := vInts S) (fun i ys H3 => ys = vInts ((S.take i).filter fun s => decide (s ≤ left)) ∧ Same H2 H3 ∧ H3 D = some (.lst ys)) (by rw [vInts_len]; exact small1000 (by omega)) ?_ ?_ ?_ ?_ ?_
  · exact ⟨rfl, Same.upd hD, upd_same⟩
  · rintro i ys H3 ⟨rfl, _⟩
    rw [vInts_len]
    exact Nat.le_trans (List.length_filter_le _ _) (by rw [List.length_take]; omega)
  · rintro i ys H3 _ ⟨_, s5, _⟩; exact SqL.of (s5 _ _ hst)
  · rintro i x ys H3 hx ⟨rfl, s5, hD3⟩
    obtain ⟨o, ho, rfl⟩ := vInts_at hx
    have e8 : (σ ++ [some (V.int (o : Int))])[n]? = some (some (.int (o : Int))) := by rw [← hn, List.getElem?_append_right (Nat.le_refl _)]; simp
    have e5 : (σ ++ [some (V.int (o : Int))])[i5]? = some (some (.int (left : Int))) := by rw [List.getElem?_append_left i5l]; exact h5
    refine ⟨_, e8, _, e5, _, _, rfl, rfl, _, rfl, ?_⟩
    have stp := filter_at (f := fun s => decide (s ≤ left)) ho
    by_cases h1 : o ≤ left
    · rw [decide_eq_true (show ((o : Int) ≤ (left : Int)) by omega)]
      refine iteT ⟨_, e8, hD3, ?_, fun e o' z => by rw [upd_ne (ne_of_none z hD)]; exact s5 _ _ z, upd_same⟩
      rw [stp, if_pos (by simp [h1]), vInts_snoc']
    · rw [decide_eq_false (show ¬ ((o : Int) ≤ (left : Int)) by omega)]
      refine iteF ⟨?_, s5, hD3⟩
      rw [stp, if_neg (by simp [h1]), List.append_nil]
  · rintro ys H3 ⟨rfl, s5, hD3⟩
    rw [vInts_len, List.take_length] at hD3
    exact k D H3 hD hD3 s5
def spLaidC : Sp := fun vs H Q _ => ∃ (p b : Addr) (u : List Nat) (most : Int), vs = [.ref p, .ref b, .int most] ∧ Hand H p ∧ H b = some (.lst (u.map sg)) ∧ Low u ∧ 1 ≤ u.length ∧ u.length ≤ 900 ∧ 0 ≤ most ∧ most ≤ 900 ∧
  ∀ (l : List Nat) (q : Nat) (r : Addr) (H' : Hp), H r = none → H' r = some (.lst (vInts l)) → Ch (shiftsOf u) 0 q l → ((q + u.length : Nat) : Int) ≤ max most u.length → Hand H' p → Keep p H H' → Q (.ref r) H'
section
variable {P : Program} {w : World} {K : PySem.W.Frag} {mg : Str → Option Value} {base : Heap}
theorem scLaidC : FnScope ["pot", "word", "most", "near", "chain", "left", "some", "far"] ["pot", "word", "most"] (defScope sLaidC) := ⟨rfl, rfl, rfl, by decide +kernel, rfl, by decide +kernel, by decide +kernel⟩
theorem ok_laidC (M : Md K mg) (B : Bl mg) (F : FF K "_law_laid_chain" sLaidC) (F_law_take : Fn P w K mg base CX0 "_law_take" 1 ["pot", "many"] spTake) (F_law_shifts : Fn P w K mg base CX0 "_law_shifts" 1 ["word"] spShifts) : Fn P w K mg base CX0 "_law_laid_chain" 2 ["pot", "word", "most"] spLaidC := by
  refine fn_ok M F scLaidC (fun _ _ _ _ _ _ => us3 fun _ _ _ => rfl) (fun vs H Q E h => ?_) (fun f cdv A outer s H vs Q E hr h => ?_)
  · obtain ⟨p, b, u, most, rfl, _⟩ := h; rfl
  · obtain ⟨p, b, u, most, rfl, hp, hb, lu, u1, ul, m0, m1, k⟩ := h
    refine ⟨_, (pss_cons (ps_set (i := 3) scLaidC.nd rfl (by first | exact Or.inl rfl | exact Or.inr rfl) (pe_fn F_law_shifts hr pass0 (pa_cons (pv 1) pa_nil)))
      (pss_cons (ps_set (i := 4) scLaidC.nd rfl (by first | exact Or.inl rfl | exact Or.inr rfl) (pe_lst (pa_cons pe_int pa_nil)))
      (pss_cons (ps_set (i := 5) scLaidC.nd rfl (by first | exact Or.inl rfl | exact Or.inr rfl) (pe_fn F_law_take hr pass0 (pa_cons (pv 0) (pa_cons (pe_max rfl B.max pe_int (pe_op op_add (pe_op op_sub (pv 2) (pe_lenL B.len (pv 1))) pe_int)) pa_nil))))
      (pss_cons (ps_setC (i := 6) ["pot", "word", "most", "near", "chain", "left", "some", ""] rfl scLaidC.nd rfl (by first | exact Or.inl rfl | exact Or.inr rfl) (pi_list (pv 3)) (fun _ => by exact (pif_one (pt_cmpR op_le (pv 8) (pv 5) (nomark _)))) (fun _ => by exact (pv 8)))
      (pss_cons (ps_while PassesOwn.never (pt_cmpR (op_neLI (by exact hr)) (pv 6) (pe_lst pa_nil) (nomark _)) (pss_cons (ps_set (i := 7) scLaidC.nd rfl (by first | exact Or.inl rfl | exact Or.inr rfl) (pe_ix ix_list (pv 6) (pe_fn F_law_take hr pass0 (pa_cons (pv 0) (pa_cons (pe_lenL B.len (pv 6)) pa_nil))) (fun _ _ => rfl)))
      (pss_cons (ps_expr (pe_bm PySem.F.plainAttrs_list PySem.F.slot_list_append PySem.F.type_list_append mt_append (pv 4) (pa_cons (pe_op op_add (pe_ix ix_list (pv 4) (pe_un un_neg pe_int) (fun _ _ => rfl)) (pv 7)) pa_nil)))
      (pss_cons (ps_set (i := 5) scLaidC.nd rfl (by first | exact Or.inl rfl | exact Or.inr rfl) (pe_op op_sub (pv 5) (pv 7)))
      (pss_one (ps_setC (i := 6) ["pot", "word", "most", "near", "chain", "left", "some", ""] rfl scLaidC.nd rfl (by first | exact Or.inl rfl | exact Or.inr rfl) (pi_list (pv 3)) (fun _ => by exact (pif_one (pt_cmpR op_le (pv 8) (pv 5) (nomark _)))) (fun _ => by exact (pv 8))))))))
      (pss_one (ps_ret (pv 4)))))))), ?_⟩
    have nbp := hand_ne hp hb
    refine ⟨_, rfl, b, u, rfl, hb, lu, u1, ul, fun st H1 hst0 hst1 s1 => ?_⟩
    have nst : st ≠ p := (hp.ne hst0).symm
    refine ⟨by show 1 ≤ sizeLine; decide, fun tq htq => ?_⟩
    have s2 := Same.upd (o := .lst [V.int 0]) htq
    have htq2 := upd_same (H := H1) (a := tq) (o := .lst [V.int 0])
    have hp1 := hp.same s1
    have ntq : tq ≠ p := (hp1.ne htq).symm
    have tqn : H tq = none := s1.free htq
    generalize L2.upd H1 tq (.lst [V.int 0]) = H2 at s2 htq2 ⊢
    have s12 := s1.trans s2
    have hp2 := hp.same s12
    refine ⟨_, rfl, _, rfl, _, rfl, b, _, rfl, SqL.of (s12 _ _ hb), _, _, rfl, rfl, _, _, rfl, rfl, _, _, rfl, rfl, ?_⟩
    rw [List.length_map]
    refine ⟨p, _, rfl, hp2, by omega, by omega, fun lf H3 l0 l1 hp3 k3 => ?_⟩
    have k03 : Keep p H H3 := fun c o h n => k3 _ _ (s12 _ _ h) n
    obtain ⟨left, rfl⟩ : ∃ n : Nat, lf = (n : Int) := ⟨lf.toNat, by omega⟩
    have hst3 := k3 _ _ (s2 _ _ hst1) nst
    have htq3 : H3 tq = some (.lst (vInts [0])) := k3 _ _ htq2 ntq
    have sl := shifts_len u
    refine fseq_set (far_comp (K := K) rfl rfl rfl hst3 (by omega) fun sm H4 hsm0 hsm4 s4 => ?_)
    have hp4 := hp3.same s4
    have tqs : tq ≠ sm := ne_of_none htq3 hsm0
    have tqst : tq ≠ st := (ne_of_none hst1 htq).symm
    refine ⟨fun m σ H5 => ∃ (l : List Nat) (q left : Nat) (sm : Addr) (v7 : Option V), m = left ∧ σ = [some (.ref p), some (.ref b), some (.int most), some (.ref st), some (.ref tq), some (.int (left : Int)), some (.ref sm), v7] ∧ H5 tq = some (.lst (vInts l)) ∧ sm ≠ p ∧ tq ≠ sm ∧ H5 sm = some (.lst (vInts ((shiftsOf u).filter fun s => decide (s ≤ left)))) ∧ H5 st = some (.lst (vInts (shiftsOf u))) ∧ Ch (shiftsOf u) 0 q l ∧ ((q + u.length + left : Nat) : Int) ≤ max most u.length ∧ Hand H5 p ∧ Keep p H H5, ⟨left, [0], 0, left, sm, none, rfl, rfl, s4 _ _ htq3, (hp3.ne hsm0).symm, tqs, hsm4, s4 _ _ hst3, Ch.one 0, by omega, hp4, fun c o h n => s4 _ _ (k03 _ _ h n)⟩, ?_⟩
    rintro m σ H5 ⟨l, q, left, sm, v7, rfl, rfl, htq5, nsm, tqs, hsm5, hst5, C, tl, hp5, k05⟩
    refine ⟨_, rfl, Nat.zero_le _, fun e0 he0 => ?_⟩
    have s6 := Same.upd (o := .lst []) he0
    have he6 := upd_same (H := H5) (a := e0) (o := .lst [])
    generalize L2.upd H5 e0 (.lst []) = H6 at s6 he6 ⊢
    refine ⟨sm, e0, _, [], rfl, rfl, SqL.of (s6 _ _ hsm5), SqL.of he6, _, rfl, ?_⟩
    cases hf : (shiftsOf u).filter fun s => decide (s ≤ m) with
    | nil =>
      refine iteF ⟨_, rfl, k l q tq H6 tqn (s6 _ _ htq5) C (by omega) (hp5.same s6) fun c o h n => s6 _ _ (k05 _ _ h n)⟩
    | cons f0 fr =>
      rw [hf] at hsm5
      refine iteT ⟨fun σ' H' => ∃ m', m' < m ∧ ∃ (l : List Nat) (q left : Nat) (sm : Addr) (v7 : Option V), m' = left ∧ σ' = [some (.ref p), some (.ref b), some (.int most), some (.ref st), some (.ref tq), some (.int (left : Int)), some (.ref sm), v7] ∧ H' tq = some (.lst (vInts l)) ∧ sm ≠ p ∧ tq ≠ sm ∧ H' sm = some (.lst (vInts ((shiftsOf u).filter fun s => decide (s ≤ left)))) ∧ H' st = some (.lst (vInts (shiftsOf u))) ∧ Ch (shiftsOf u) 0 q l ∧ ((q + u.length + left : Nat) : Int) ≤ max most u.length ∧ Hand H' p ∧ Keep p H H', fun _ _ h => h, ?_⟩
      have hsm6 := s6 _ _ hsm5
      have flen : (f0 :: fr).length ≤ 900 := by rw [← hf]; exact Nat.le_trans (List.length_filter_le _ _) (by omega)
      refine ⟨_, rfl, _, rfl, _, rfl, sm, _, rfl, SqL.of hsm6, p, _, rfl, hp5.same s6, by rw [vInts_len, List.length_cons]; omega, by rw [vInts_len]; omega, fun r H7 r0 r1 hp7 k7 => ?_⟩
      rw [vInts_len] at r1
      have k57 : Keep p H5 H7 := fun c o h n => k7 _ _ (s6 _ _ h) n
      have hrl : r.toNat < (f0 :: fr).length := by omega
      have hge : (f0 :: fr)[r.toNat]? = some (f0 :: fr)[r.toNat] := by simp [hrl]
      generalize (f0 :: fr)[r.toNat] = s at hge
      have hsf : s ∈ (shiftsOf u).filter fun s => decide (s ≤ m) := by rw [hf]; exact List.mem_of_getElem? hge
      have hss := (List.mem_filter.mp hsf).1
      have hsm' : s ≤ m := of_decide_eq_true (List.mem_filter.mp hsf).2
      obtain ⟨sb1, sb2, _⟩ := steps_of u s hss
      have hat : atI (vInts (f0 :: fr)) r = some (.int (s : Int)) := by
        obtain ⟨v, hv, _, e⟩ := atI_ex (vInts (f0 :: fr)) r r0 (by rw [vInts_len]; exact r1)
        obtain ⟨q, hq, rfl⟩ := vInts_at hv
        rw [hge] at hq
        rw [e, Option.some.inj hq]
      refine ⟨sm, _, _, _, rfl, rfl, SqL.of (k57 _ _ hsm5 nsm), hat, ?_⟩
      have htq7 := k57 _ _ htq5 ntq
      have hst7 := k57 _ _ hst5 nst
      obtain ⟨pre, epre⟩ := C.last
      have hla : atI (vInts l) (-1) = some (.int (q : Int)) := by rw [epre, vInts_snoc', atI_last]
      have ll := Ch.len_le (steps_of u) C
      refine ⟨_, rfl, .inl ⟨rfl, _, SqL.of htq7⟩, _, rfl, 1, rfl, tq, _, _, _, rfl, rfl, SqL.of htq7, hla, _, rfl, _, _, rfl, rfl, tq, _, _, rfl, rfl, htq7, by rw [vInts_len]; exact small1000 (by omega), ?_⟩
      have k89 : ∀ z o, H7 z = some o → z ≠ tq → (L2.upd H7 tq (.lst (vInts l ++ [V.int ((q : Int) + (s : Int))]))) z = some o := fun z o h n => by rw [upd_ne n]; exact h
      have htq8 : (L2.upd H7 tq (.lst (vInts l ++ [V.int ((q : Int) + (s : Int))]))) tq = some (.lst (vInts (l ++ [q + s]))) := by rw [upd_same, vInts_snoc']; rfl
      have hp8 := hp7.upd (o := .lst (vInts l ++ [V.int ((q : Int) + (s : Int))])) ntq.symm
      generalize L2.upd H7 tq (.lst (vInts l ++ [V.int ((q : Int) + (s : Int))])) = H8 at k89 htq8 hp8 ⊢
      refine ⟨_, rfl, _, rfl, _, _, rfl, rfl, ?_⟩
      refine nm_int (j := ((m - s : Nat) : Int)) (congrArg V.int (by omega)) ?_
      have hst8 := k89 _ _ hst7 tqst.symm
      refine asg_set (far_comp (K := K) rfl rfl rfl hst8 (by omega) fun sm2 H10 hsm20 hsm210 s10 => ?_)
      refine ⟨m - s, by omega, l ++ [q + s], q + s, m - s, sm2, _, rfl, rfl, s10 _ _ htq8, (hp8.ne hsm20).symm, ne_of_none htq8 hsm20, hsm210, s10 _ _ hst8, C.snoc hss, by omega, hp8.same s10, fun c o h n => s10 _ _ (k89 _ _ (k57 _ _ (k05 _ _ h n) n) fun z => ?_)⟩
      rw [z, tqn] at h; cases h
end

end Ov

namespace Ov
open PySem L2
abbrev sDue : Stmt := top 36
abbrev sSaid : Stmt := top 38
def spDue : Sp := fun vs H Q _ => ∃ (a b c : Addr) (t u : List Nat) (ns : List Int), vs = [.ref a, .ref b, .ref c] ∧ H a = some (.lst (t.map sg)) ∧ H b = some (.lst (u.map sg)) ∧ H c = some (.lst (ns.map V.int)) ∧ Low t ∧ Low u ∧ 1 ≤ u.length ∧ u.length ≤ t.length ∧ t.length ≤ 900 ∧ ns.length ≤ 1000 ∧
  (isCh (shiftsOf u) ns ((t.length - u.length : Nat) : Int) = false → ∀ (r : Addr) (H' : Hp), H r = none → H' r = some (.lst ((dueF 3).map V.bl)) → Same H H' → Q (.ref r) H') ∧ (∀ l, ns = il l → Ch (shiftsOf u) 0 (t.length - u.length) l → ∀ H', Same H H' → Q (.int (cst t u l : Nat)) H')
theorem meet_try {K : PySem.W.Frag} {C : Addr} {i : Nat} {tb : St → XK → TS} {th rest : TS} {D : Ends} {σ : St} {H : Hp} (T : St → Hp → Prop) (hr : ∀ σ' H', T σ' H' → rest D σ' H') (h : ∀ R : St → Hp → Prop, (∀ σ' H', T σ' H' → R σ' H') → tTry K C i tb th { D with nx := R } σ H) : tSeq (tTry K C i tb th) rest D σ H := h (rest D) hr
theorem try_by {K : PySem.W.Frag} {C : Addr} {i : Nat} {tb : St → XK → TS} {th : TS} {D : Ends} {σ : St} {H : Hp} (Ex : XK) (hEx : ∀ cls o H', Ex cls o H' → PySem.W.exmOne K cls (.ref C) = some true ∧ ∀ e, H' e = none → th (D.drop i) (σ.set i (some (.ref e))) (L2.upd H' e (.ext (excAt e cls)))) (hb : ∀ Ex' : XK, (∀ cls o H', Ex cls o H' → Ex' cls o H') → tb σ Ex' D σ H) : tTry K C i tb th D σ H := hb _ hEx
theorem seq_c {v : V} {i : Nat} {rest : TS} {D : Ends} {σ : St} {H : Hp} (h : rest D (σ.set i (some v)) H) : tSeq (tAsg (tC v) (gName i)) rest D σ H := h
/-- how often a step is none of S, among the first i -/
def offN (S : List Int) (ns : List Int) : Nat → Nat
  | 0 => 0
  | i + 1 => offN S ns i + (if ((ns[i + 1]?).getD 0 - (ns[i]?).getD 0) ∈ S then 0 else 1)
theorem offN_le (S : List Int) (ns : List Int) : ∀ i, offN S ns i ≤ i
  | 0 => Nat.le_refl _
  | i + 1 => by have := offN_le S ns i; simp only [offN]; split <;> omega
theorem offN_zero {S ns : List Int} : ∀ {i : Nat}, offN S ns i = 0 ↔ ∀ j, j < i → ((ns[j + 1]?).getD 0 - (ns[j]?).getD 0) ∈ S
  | 0 => ⟨fun _ j hj => by omega, fun _ => rfl⟩
  | i + 1 => by
    simp only [offN]
    constructor
    · intro h j hj
      have h1 : offN S ns i = 0 := by omega
      by_cases hji : j < i
      · exact offN_zero.mp h1 j hji
      · have : j = i := by omega
        subst this
        by_cases hm : ((ns[j + 1]?).getD 0 - (ns[j]?).getD 0) ∈ S
        · exact hm
        · rw [if_neg hm] at h; omega
    · intro h
      rw [offN_zero.mpr fun j hj => h j (by omega), if_pos (h i (by omega))]
theorem iteC3 {c : Bool} {A B : Prop} (hc : c = true) (h : A) : if c = true then A else B := by subst hc; exact h
theorem iteD3 {c : Bool} {A B : Prop} (hc : c = false) (h : B) : if c = true then A else B := by subst hc; exact h
section
variable {P : Program} {w : World} {K : PySem.W.Frag} {mg : Str → Option Value} {base : Heap} {cCoverError cNoWord cNoSign cNoText cNoCover cNoChain cNoForm cNoNumber cNoneYet cTooMany : Addr}
theorem scDue : FnScope ["text", "word", "chain", "near"] ["text", "word", "chain"] (defScope sDue) := ⟨rfl, rfl, rfl, by decide +kernel, rfl, by decide +kernel, by decide +kernel⟩
theorem ok_due (M : Md K mg) (B : Bl mg) (F : FF K "_law_due" sDue) (F_law_shifts : Fn P w K mg base CX0 "_law_shifts" 1 ["word"] spShifts) (F_law_due_flags : Fn P w K mg base CX0 "_law_due_flags" 1 ["at"] spDueFlags) (F_law_shown : Fn P w K mg base CX0 "_law_shown" 1 ["word", "chain"] spShown) : Fn P w K mg base CX0 "_law_due" 2 ["text", "word", "chain"] spDue := by
  refine fn_ok M F scDue (fun _ _ _ _ _ _ => us3 fun _ _ _ => rfl) (fun vs H Q E h => ?_) (fun f cdv A outer s H vs Q E hr h => ?_)
  · obtain ⟨a, b, c, t, u, ns, rfl, _⟩ := h; rfl
  · obtain ⟨a, b, c, t, u, ns, rfl, ha, hb, hc, lt, lu, u1, ut, tl, nl, k1, k2⟩ := h
    refine ⟨_, (pss_cons (ps_set (i := 3) scDue.nd rfl (by first | exact Or.inl rfl | exact Or.inr rfl) (pe_fn F_law_shifts hr pass0 (pa_cons (pv 1) pa_nil)))
      (pss_cons (ps_if (PW.pt (pw_or (pt_cmpR (op_eqLI (by exact hr)) (pv 2) (pe_lst pa_nil) (nomark _)) (pw_or (pt_cmpR op_ne (pe_ix ix_list (pv 2) pe_int (fun _ _ => rfl)) pe_int (nomark _)) (pw_or1 (pt_cmpR op_ne (pe_ix ix_list (pv 2) (pe_un un_neg pe_int) (fun _ _ => rfl)) (pe_op op_sub (pe_lenL B.len (pv 0)) (pe_lenL B.len (pv 1))) (nomark _)))))) (pss_one (ps_ret (pe_fn F_law_due_flags hr pass0 (pa_cons pe_int pa_nil)))) pss_nil)
      (pss_cons (ps_if (pt_cmpR (op_neLI (by exact hr)) (pe_comp2 ["one", "other"] ["text", "word", "chain", "near"] rfl (pi_zip B.zip (pv 2) (pe_slice sl_list (pv 2) (po_some pe_int) po_none)) (fun _ => by exact (pg_tup rfl (pgs_cons (pg_name (i := 4) (show ((["text", "word", "chain", "near"] : List Str) ++ (["one", "other"] : List Str)).Nodup by decide +kernel) rfl (by first | exact Or.inl rfl | exact Or.inr rfl)) (pgs_cons (pg_name (i := 5) (show ((["text", "word", "chain", "near"] : List Str) ++ (["one", "other"] : List Str)).Nodup by decide +kernel) rfl (by first | exact Or.inl rfl | exact Or.inr rfl)) pgs_nil)))) (fun _ => by exact (pif_one (pt_cmpR op_notIn_seq (pe_op op_sub (pv 5) (pv 4)) (pv 3) (by with_unfolding_all rfl)))) (fun _ => by exact pe_int)) (pe_lst pa_nil) (nomark _)) (pss_one (ps_ret (pe_fn F_law_due_flags hr pass0 (pa_cons pe_int pa_nil)))) pss_nil)
      (pss_one (ps_ret (pe_lenL B.len (pe_comp2 ["one", "other"] ["text", "word", "chain", "near"] rfl (pi_zip B.zip (pv 0) (pe_fn F_law_shown hr pass0 (pa_cons (pv 1) (pa_cons (pv 2) pa_nil)))) (fun _ => by exact (pg_tup rfl (pgs_cons (pg_name (i := 4) (show ((["text", "word", "chain", "near"] : List Str) ++ (["one", "other"] : List Str)).Nodup by decide +kernel) rfl (by first | exact Or.inl rfl | exact Or.inr rfl)) (pgs_cons (pg_name (i := 5) (show ((["text", "word", "chain", "near"] : List Str) ++ (["one", "other"] : List Str)).Nodup by decide +kernel) rfl (by first | exact Or.inl rfl | exact Or.inr rfl)) pgs_nil)))) (fun _ => by exact (pif_one (pt_cmpR op_ne (pv 4) (pv 5) (nomark _)))) (fun _ => by exact pe_int)))))))), ?_⟩
    refine ⟨_, rfl, b, u, rfl, hb, lu, u1, by omega, fun st H1 hst0 hst1 s1 => ?_⟩
    have bad : isCh (shiftsOf u) ns ((t.length - u.length : Nat) : Int) = false → ∀ H2, Same H1 H2 → ∀ (r : Addr) (H' : Hp), H2 r = none → H' r = some (.lst ((dueF 3).map V.bl)) → Same H2 H' → Q (.ref r) H' := fun e H2 s2 r H' hr0 hr s' => k1 e r H' ((s1.trans s2).free hr0) hr ((s1.trans s2).trans s')
    refine ⟨_, rfl, Nat.zero_le _, fun e0 he0 => ?_⟩
    have s2 := Same.upd (o := .lst []) he0
    have he2 := upd_same (H := H1) (a := e0) (o := .lst [])
    generalize L2.upd H1 e0 (.lst []) = H2 at s2 he2 ⊢
    have s12 := s1.trans s2
    have hc2 := s12 _ _ hc
    refine ⟨c, e0, ns, [], rfl, rfl, SqL.of hc2, SqL.of he2, _, rfl, ?_⟩
    cases ns with
    | nil => exact iteT (iteT ⟨3, by decide, rfl, fun r H' hr0 hr s' => bad rfl H2 s2 r H' hr0 hr s'⟩)
    | cons x r =>
      rw [decide_eq_false (by simp)]
      refine iteF ⟨_, rfl, c, _, _, _, rfl, rfl, SqL.of hc2, atI_nat (j := 0) rfl, rfl, _, rfl, ?_⟩
      by_cases hx : x = 0
      · subst hx
        rw [decide_eq_true rfl]
        have hla : atI ((0 :: r).map V.int) (-1) = some (.int (((0 :: r)[(0 :: r).length - 1]?).getD 0)) := atI_neg1 (by rw [List.length_map, List.length_cons]; omega) (by
          rw [List.length_map, List.getElem?_map, List.getElem?_eq_getElem (show (0 :: r).length - 1 < (0 :: r).length by rw [List.length_cons]; omega)]; rfl)
        refine iteF ⟨_, rfl, _, rfl, c, _, _, _, rfl, rfl, SqL.of hc2, hla, _, rfl, a, _, rfl, SqL.of (s12 _ _ ha), _, rfl, b, _, rfl, SqL.of (s12 _ _ hb), _, _, rfl, rfl, rfl, _, rfl, ?_⟩
        have eL : (((t.map sg).length : Nat) : Int) - (((u.map sg).length : Nat) : Int) = ((t.length - u.length : Nat) : Int) := by rw [List.length_map, List.length_map]; omega
        by_cases hz : ((0 :: r)[(0 :: r).length - 1]?).getD 0 = ((t.length - u.length : Nat) : Int)
        · refine iteD3 (show (!decide (V.int (((0 :: r)[(0 :: r).length - 1]?).getD 0) = V.int ((((t.map sg).length : Nat) : Int) - (((u.map sg).length : Nat) : Int)))) = false by rw [eL, decide_eq_true (congrArg V.int hz)]; rfl) ?_
          refine ⟨_, rfl, _, rfl, 1, rfl, c, _, rfl, SqL.of hc2, fun q hq => ?_⟩
          rw [cut_tail]
          have s3 := Same.upd (o := .lst (((0 :: r).drop 1).map V.int)) hq
          have hq3 := upd_same (H := H2) (a := q) (o := .lst (((0 :: r).drop 1).map V.int))
          have hc3 := s3 _ _ hc2
          have hst3 := s3 _ _ (s2 _ _ hst1)
          have s13 := s2.trans s3
          generalize L2.upd H2 q (.lst (((0 :: r).drop 1).map V.int)) = H3 at s3 hq3 hc3 hst3 s13 ⊢
          refine ⟨c, q, _, _, rfl, rfl, hc3, hq3, fun D hD cb => ?_⟩
          refine comp_zip (k := 2) (a := c) (b := q) (xs := (0 :: r).map V.int) (ys := ((0 :: r).drop 1).map V.int) (fun i ys H4 => ys = (List.replicate (offN ((shiftsOf u).map fun (s : Nat) => (s : Int)) (0 :: r) i) (1 : Int)).map V.int ∧ Same H3 H4 ∧ H4 D = some (.lst ys)) (by rw [List.length_map]; exact small1000 nl) ?_ ?_ ?_ ?_ ?_
          · exact ⟨rfl, Same.upd hD, upd_same⟩
          · rintro i ys H4 ⟨rfl, _⟩; rw [List.length_map, List.length_replicate]; exact offN_le _ _ _
          · rintro i ys H4 _ ⟨_, s4, _⟩
            exact ⟨s4 _ _ hc3, s4 _ _ hq3⟩
          · rintro i x' y' p ys H4 hx' hy' hp ⟨rfl, s4, hD4⟩
            obtain ⟨z1, hz1, rfl⟩ := int_get hx'
            obtain ⟨z2, hz2, rfl⟩ := int_get hy'
            rw [List.getElem?_drop] at hz2
            have s5 := Same.upd (o := .tup [V.int z1, .int z2]) hp
            refine ⟨p, _, rfl, SqT.of upd_same, rfl, _, _, rfl, _, _, rfl, rfl, ?_, ?_⟩
            · intro j hj
              match j, hj with
              | 0, _ => rfl
              | 1, _ => rfl
              | 2, _ => rfl
              | 3, _ => rfl
            · refine ⟨_, rfl, _, rfl, _, _, rfl, rfl, _, rfl, st, _, rfl, .inl (SqL.of (s5 _ _ (s4 _ _ hst3))), rfl, ints_flat _, _, rfl, ?_⟩
              rw [show 1 + i = i + 1 by omega] at hz2
              have ed : (((0 :: r)[i + 1]?).getD 0 - ((0 :: r)[i]?).getD 0) = z2 - z1 := by rw [hz1, hz2]; rfl
              have stp : offN ((shiftsOf u).map fun (s : Nat) => (s : Int)) (0 :: r) (i + 1) = offN ((shiftsOf u).map fun (s : Nat) => (s : Int)) (0 :: r) i + (if z2 - z1 ∈ ((shiftsOf u).map fun (s : Nat) => (s : Int)) then 0 else 1) := by
                simp only [offN]; rw [ed]
              by_cases hm : z2 - z1 ∈ ((shiftsOf u).map fun (s : Nat) => (s : Int))
              · refine iteD3 (show (!inV (.int (z2 - z1)) (vInts (shiftsOf u))) = false by rw [inV_ints, decide_eq_true hm]; rfl) ⟨?_, s4.trans s5, s5 _ _ hD4⟩
                rw [stp, if_pos hm, Nat.add_zero]
              · refine iteC3 (show (!inV (.int (z2 - z1)) (vInts (shiftsOf u))) = true by rw [inV_ints, decide_eq_false hm]; rfl) ⟨s5 _ _ hD4, ?_, fun z o e => by rw [upd_ne (ne_of_none e hD)]; exact s5 _ _ (s4 _ _ e), upd_same⟩
                rw [stp, if_neg hm, List.replicate_succ', List.map_append]; rfl
          · rintro ys H4 ⟨rfl, s4, hD4⟩
            have em : min ((0 :: r).map V.int).length (((0 :: r).drop 1).map V.int).length = (0 :: r).length - 1 := by
              rw [List.length_map, List.length_map, List.length_drop]; omega
            rw [em] at hD4
            refine ⟨Nat.zero_le _, fun e1 he1 => ?_⟩
            have s5 := Same.upd (o := .lst []) he1
            have he5 := upd_same (H := H4) (a := e1) (o := .lst [])
            have hD5 := s5 _ _ hD4
            have s15 := (s13.trans s4).trans s5
            generalize L2.upd H4 e1 (.lst []) = H5 at s5 he5 hD5 s15 ⊢
            refine ⟨D, e1, _, [], rfl, rfl, SqL.of hD5, SqL.of he5, _, rfl, ?_⟩
            have eis : isCh (shiftsOf u) (0 :: r) ((t.length - u.length : Nat) : Int) = decide (offN ((shiftsOf u).map fun (s : Nat) => (s : Int)) (0 :: r) ((0 :: r).length - 1) = 0) := by
              unfold isCh difs
              rw [decide_eq_true (show ¬ (0 :: r : List Int) = [] by simp), decide_eq_true (show (((0 :: r : List Int)[0]?).getD 1 = 0) from rfl), decide_eq_true hz, Bool.true_and, Bool.true_and, Bool.true_and, Bool.eq_iff_iff, List.all_eq_true, decide_eq_true_eq, offN_zero]
              constructor
              · intro h j hj
                exact of_decide_eq_true (h _ (List.mem_map.mpr ⟨j, List.mem_range.mpr hj, rfl⟩))
              · rintro h d hd
                obtain ⟨j, hj, rfl⟩ := List.mem_map.mp hd
                exact decide_eq_true (h j (List.mem_range.mp hj))
            by_cases h0 : offN ((shiftsOf u).map fun (s : Nat) => (s : Int)) (0 :: r) ((0 :: r).length - 1) = 0
            · rw [h0]
              refine iteF ?_
              rw [decide_eq_true h0] at eis
              obtain ⟨l, el, C⟩ := isCh_ch (steps_of u) eis
              have kk := k2 l el C
              have hb5 := s15 _ _ (s1 _ _ hb)
              have ha5 := s15 _ _ (s1 _ _ ha)
              have hc5 := s15 _ _ (s1 _ _ hc)
              rw [el, ← vI_il] at hc5
              refine ⟨_, rfl, _, rfl, _, rfl, b, c, u, l, t.length - u.length, rfl, hb5, hc5, u1, by omega, C, fun r2 H6 hr0 hr6 s6 => ?_⟩
              have hS := steps_of u
              have s16 := s15.trans s6
              have ha6 := s6 _ _ ha5
              obtain ⟨X, hX⟩ : ∃ X, X = layN u l (l.length - 1) := ⟨_, rfl⟩
              rw [← hX] at hr6
              have hne : 1 ≤ l.length := by obtain ⟨r', e⟩ := C.head; rw [e, List.length_cons]; omega
              obtain ⟨xl, xc⟩ := layN_cost (t := t) hS C (l.length - 1) (by omega)
              rw [← hX] at xl xc
              have eg : gd l (l.length - 1) = t.length - u.length := by
                obtain ⟨r', e⟩ := C.last
                unfold gd
                rw [e, List.length_append, List.length_singleton, show r'.length + 1 - 1 = r'.length by omega, List.getElem?_append_right (Nat.le_refl _), Nat.sub_self]; rfl
              rw [eg, show t.length - u.length + u.length = t.length by omega] at xl xc
              rw [show l.length - 1 + 1 = l.length by omega, List.take_length] at xc
              refine ⟨a, r2, _, _, rfl, rfl, ha6, hr6, fun D2 hD2 cb2 => ?_⟩
              refine comp_zip (k := 2) (a := a) (b := r2) (xs := t.map sg) (ys := X.map sg) (fun i ys H7 => ys = (List.replicate (mis t X 0 i) (1 : Int)).map V.int ∧ Same H6 H7 ∧ H7 D2 = some (.lst ys)) (by rw [List.length_map]; exact small1000 (by omega)) ?_ ?_ ?_ ?_ ?_
              · exact ⟨rfl, Same.upd hD2, upd_same⟩
              · rintro i ys H7 ⟨rfl, _⟩
                rw [List.length_map, List.length_replicate]; exact mis_le _ _ _ _
              · rintro i ys H7 _ ⟨_, s7, _⟩
                exact ⟨s7 _ _ ha6, s7 _ _ hr6⟩
              · rintro i x' y' p ys H7 hx' hy' hp ⟨rfl, s7, hD7⟩
                obtain ⟨d1, hd1, rfl⟩ := sg_get hx'
                obtain ⟨d2, hd2, rfl⟩ := sg_get hy'
                have s8 := Same.upd (o := .tup [sg d1, sg d2]) hp
                refine ⟨p, _, rfl, SqT.of upd_same, rfl, _, _, rfl, _, _, rfl, rfl, ?_, ?_⟩
                · intro j hj
                  match j, hj with
                  | 0, _ => rfl
                  | 1, _ => rfl
                  | 2, _ => rfl
                  | 3, _ => rfl
                · refine ⟨_, rfl, _, rfl, rfl, _, rfl, ?_⟩
                  rw [sg_dec]
                  have em2 : mis t X 0 (i + 1) = mis t X 0 i + (if d1 = d2 then 0 else 1) := by
                    simp only [mis]
                    rw [Nat.zero_add, hd1, hd2]
                    congr 1
                    by_cases h : d1 = d2
                    · rw [if_pos h, if_pos (by rw [h])]
                    · rw [if_neg h, if_neg (fun z => h (Option.some.inj z))]
                  by_cases h : d1 = d2
                  · rw [decide_eq_true h]
                    refine iteF ⟨?_, s7.trans s8, s8 _ _ hD7⟩
                    rw [em2, if_pos h, Nat.add_zero]
                  · rw [decide_eq_false h]
                    refine iteT ⟨s8 _ _ hD7, ?_, fun z o e => by rw [upd_ne (ne_of_none e hD2)]; exact s8 _ _ (s7 _ _ e), upd_same⟩
                    rw [em2, if_neg h, List.replicate_succ', List.map_append]; rfl
              · rintro ys H7 ⟨rfl, s7, hD7⟩
                have em3 : min (t.map sg).length (X.map sg).length = t.length := by rw [List.length_map, List.length_map, xl]; omega
                rw [em3] at hD7
                refine ⟨D2, _, rfl, SqL.of hD7, ?_⟩
                rw [List.length_map, List.length_replicate, xc]
                exact kk H7 ((s1.trans s16).trans s7)
            · refine iteC3 (show (!decide ((List.replicate (offN ((shiftsOf u).map fun (s : Nat) => (s : Int)) (0 :: r) ((0 :: r).length - 1)) (1 : Int)) = [])) = true by rw [decide_eq_false (fun z => h0 (by have := congrArg List.length z; simpa using this))]; rfl) ⟨3, by decide, rfl, fun r H' hr0 hr s' => bad (by rw [eis, decide_eq_false h0]) H5 s15 r H' hr0 hr s'⟩
        · refine iteC3 (show (!decide (V.int (((0 :: r)[(0 :: r).length - 1]?).getD 0) = V.int ((((t.map sg).length : Nat) : Int) - (((u.map sg).length : Nat) : Int)))) = true by rw [eL, decide_eq_false (fun q => hz (V.int.inj q))]; rfl) ?_
          have e : isCh (shiftsOf u) (0 :: r) ((t.length - u.length : Nat) : Int) = false := by
            unfold isCh
            rw [decide_eq_false hz]
            simp
          exact ⟨3, by decide, rfl, fun r H' hr0 hr s' => bad e H2 s2 r H' hr0 hr s'⟩
      · rw [decide_eq_false (fun q => hx (V.int.inj q))]
        have e : isCh (shiftsOf u) (x :: r) ((t.length - u.length : Nat) : Int) = false := by
          unfold isCh
          rw [decide_eq_false (show ¬ ((x :: r)[0]?).getD 1 = 0 from hx)]
          simp
        exact iteT (iteT ⟨3, by decide, rfl, fun r H' hr0 hr s' => bad e H2 s2 r H' hr0 hr s'⟩)
theorem scSaid : FnScope ["text", "word", "chain", "found", "e"] ["text", "word", "chain"] (defScope sSaid) := ⟨rfl, rfl, rfl, by decide +kernel, rfl, by decide +kernel, by decide +kernel⟩
theorem ok_said (M : Md K mg) (B : Bl mg) (F : FF K "_law_said" sSaid) (S : Exs K mg cCoverError cNoWord cNoSign cNoText cNoCover cNoChain cNoForm cNoNumber cNoneYet cTooMany) (Fchain_cost : Fn P w K mg base (CXx P w) "chain_cost" 7 ["text", "word", "chain"] (spCostX cNoChain))
    (F_law_flags : FnH P w K mg base "_law_flags" 1 ["e"] (spFlags cNoChain)) : Fn P w K mg base CX0 "_law_said" 8 ["text", "word", "chain"] spDue := by
  have bCoverError := S.bCoverError
  have hF := excFacts.of S.facts cNoChain (by simp)
  refine fn_ok M F scSaid (fun _ _ _ _ _ _ => us3 fun _ _ _ => rfl) (fun vs H Q E h => ?_) (fun f cdv A outer s H vs Q E hr h => ?_)
  · obtain ⟨a, b, c, t, u, ns, rfl, _⟩ := h; rfl
  · obtain ⟨a, b, c, t, u, ns, rfl, ha, hb, hc, lt, lu, u1, ut, tl, nl, k1, k2⟩ := h
    refine ⟨_, (pss_cons (ps_set (i := 3) scSaid.nd rfl (by first | exact Or.inl rfl | exact Or.inr rfl) pe_non)
      (pss_cons (ps_try (i := 4) bCoverError scSaid.nd rfl rfl (fun _ _ _ => by exact (pss_one (ps_set (i := 3) scSaid.nd rfl (by first | exact Or.inl rfl | exact Or.inr rfl) (pe_fnT Fchain_cost hr (pa_cons (pv 0) (pa_cons (pv 1) (pa_cons (pv 2) pa_nil)))))))
      (fun _ _ => by exact (pss_one (ps_set (i := 3) scSaid.nd rfl (by first | exact Or.inl rfl | exact Or.inr rfl) (pe_fnH F_law_flags (roomH hr) (pa_cons (pv 4) pa_nil))))))
      (pss_one (ps_ret (pv 3))))), ?_⟩
    refine seq_c ?_
    refine meet_try (fun σ H' => ∃ v, σ[3]? = some (some v) ∧ Q v H') (fun σ H' h => ?_) fun R hR => ?_
    · obtain ⟨v, hv, q⟩ := h
      exact ⟨_, hv, q⟩
    refine try_by (fun cls _ H' => cls = .ref cNoChain ∧ Same H H' ∧ isCh (shiftsOf u) ns ((t.length - u.length : Nat) : Int) = false) ?_ fun Ex hEx => ?_
    · rintro _ _ H' ⟨rfl, s', no⟩
      refine ⟨hF.exm, fun e he => ?_⟩
      have se := Same.upd (o := .ext (excAt e (.ref cNoChain))) he
      refine ⟨_, rfl, e, rfl, upd_same, fun r H2 hr0 hr2 s2 => hR _ _ ⟨.ref r, rfl, k1 no r H2 ((s'.trans se).free hr0) hr2 ((s'.trans se).trans s2)⟩⟩
    · exact ⟨rfl, _, rfl, _, rfl, _, rfl, a, b, c, t, u, ns, rfl, ha, hb, hc, lt, lu, u1, ut, tl, nl, fun no H' s' => hEx _ _ _ ⟨rfl, s', no⟩, fun l e C H' s' => hR _ _ ⟨_, rfl, k2 l e C H' s'⟩⟩
end

end Ov

namespace Ov
open PySem L2
abbrev sBent : Stmt := top 37
/-! expressions that give a number, a new list of numbers, some such lists -/
def Gi (te : TE) (σ : St) (H : Hp) : Prop := ∀ (H1 : Hp) (Q : VK), Same H H1 → (∀ z : Int, Q (.int z) H1) → te σ H1 Q
def Go (t : TO) (σ : St) (H : Hp) : Prop := ∀ (H1 : Hp) (Q : Option Int → Hp → Prop), Same H H1 → (∀ o : Option Int, Q o H1) → t σ H1 Q
def Gv (te : TE) (σ : St) (H : Hp) (n : Nat) : Prop := ∀ (H1 : Hp) (Q : VK), Same H H1 → (∀ (r : Addr) (ns : List Int) (H' : Hp), H1 r = none → H' r = some (.lst (ns.map V.int)) → ns.length ≤ n → Same H1 H' → Q (.ref r) H') → te σ H1 Q
def Rows3 (H H' : Hp) (rs : List Addr) : Prop := ∀ r ∈ rs, H r = none ∧ ∃ ns : List Int, H' r = some (.lst (ns.map V.int)) ∧ ns.length ≤ 500
def Gvs (ta : TA) (σ : St) (H : Hp) (k : Nat) : Prop := ∀ (H1 : Hp) (Q : List V → Hp → Prop), Same H H1 → (∀ (rs : List Addr) (H' : Hp), Rows3 H1 H' rs → rs.length = k → Same H1 H' → Q (rs.map V.ref) H') → ta σ H1 Q
section
variable {K : PySem.W.Frag} {σ : St} {H : Hp} {c : Addr} {ns : List Int}
theorem gi_c (z : Int) : Gi (tC (.int z)) σ H := fun H1 Q _ k => k z
theorem gi_var {i : Nat} {z : Int} (h : σ[i]? = some (some (.int z))) : Gi (tVar i) σ H := fun H1 Q _ k => ⟨_, h, k z⟩
theorem gi_add {a b : TE} (ha : Gi a σ H) (hb : Gi b σ H) : Gi (tOp (rI0 fun i j => .int (i + j)) a b) σ H := fun H1 Q s k => ha H1 _ s fun z => hb H1 _ s fun y => ⟨z, y, rfl, rfl, k _⟩
theorem gi_neg {a : TE} (ha : Gi a σ H) : Gi (tUn (rU fun i => .int (-i)) a) σ H := fun H1 Q s k => ha H1 _ s fun z => ⟨z, rfl, k _⟩
theorem gi_at {i j : Nat} {r : Int} (h1 : σ[i]? = some (some (.ref c))) (h2 : σ[j]? = some (some (.int r))) (hc : H c = some (.lst (ns.map V.int))) (r0 : 0 ≤ r) (r1 : r < ns.length) : Gi (tOp (rIxL K) (tVar i) (tVar j)) σ H := fun H1 Q s k => by
  obtain ⟨v, hv, _, e⟩ := atI_ex (ns.map V.int) r r0 (by rw [List.length_map]; exact r1)
  obtain ⟨z, _, rfl⟩ := int_get hv
  exact ⟨_, h1, _, h2, c, _, r, _, rfl, rfl, SqL.of (s _ _ hc), e, k z⟩
theorem gi_last {i : Nat} (h1 : σ[i]? = some (some (.ref c))) (hc : H c = some (.lst (ns.map V.int))) (hn : 1 ≤ ns.length) : Gi (tOp (rIxL K) (tVar i) (tUn (rU fun i => .int (-i)) (tC (.int 1)))) σ H := fun H1 Q s k => by
  have e : atI (ns.map V.int) (-1) = some (.int ((ns[ns.length - 1]?).getD 0)) := atI_neg1 (by rw [List.length_map]; exact hn) (by
    rw [List.length_map, List.getElem?_map, List.getElem?_eq_getElem (show ns.length - 1 < ns.length by omega)]; rfl)
  exact ⟨_, h1, 1, rfl, c, _, -1, _, rfl, rfl, SqL.of (s _ _ hc), e, k _⟩
theorem go_none : Go tNoPart σ H := fun H1 Q _ k => k none
theorem go_some {te : TE} (h : Gi te σ H) : Go (tPart te) σ H := fun H1 Q s k => h H1 _ s fun z => ⟨z, rfl, k _⟩
theorem cutL_len {α : Type} (xs : List α) (lo hi : Option Int) : (cutL xs lo hi).length ≤ xs.length := by
  unfold cutL
  rw [List.length_take, List.length_drop]
  omega
theorem gv_slice {i n : Nat} {tl th : TO} (h1 : σ[i]? = some (some (.ref c))) (hc : H c = some (.lst (ns.map V.int))) (hn : ns.length ≤ n) (gl : Go tl σ H) (gh : Go th σ H) : Gv (tSl (rSlL K) (tVar i) tl th) σ H n := fun H1 Q s k =>
  ⟨_, h1, gl H1 _ s fun lo => gh H1 _ s fun hi => ⟨c, _, rfl, SqL.of (s _ _ hc), fun q hq => by
    have e : cutV (ns.map V.int) lo hi = (cutL ns lo hi).map V.int := by rw [cutV_cutL, cutL_map]
    rw [e]
    exact k q (cutL ns lo hi) _ hq upd_same (Nat.le_trans (cutL_len _ _ _) hn) (Same.upd hq)⟩⟩
theorem gv_rev {i n : Nat} (h1 : σ[i]? = some (some (.ref c))) (hc : H c = some (.lst (ns.map V.int))) (hn : ns.length ≤ n) : Gv (tRev K (tVar i)) σ H n := fun H1 Q s k =>
  ⟨_, h1, c, _, rfl, SqL.of (s _ _ hc), fun q hq => by
    rw [← List.map_reverse]
    exact k q ns.reverse _ hq upd_same (by rw [List.length_reverse]; exact hn) (Same.upd hq)⟩
theorem gv_nil {n : Nat} : Gv (tLst tNil) σ H n := fun H1 Q s k => ⟨Nat.zero_le _, fun q hq => k q [] _ hq upd_same (Nat.zero_le _) (Same.upd hq)⟩
theorem gv_one {te : TE} (h : Gi te σ H) : Gv (tLst (tCons te tNil)) σ H 1 := fun H1 Q s k => h H1 _ s fun z => ⟨by show 1 ≤ sizeLine; decide, fun q hq => k q [z] _ hq upd_same (Nat.le_refl _) (Same.upd hq)⟩
theorem gv_ref {i n : Nat} (h1 : σ[i]? = some (some (.ref c))) (hc : H c = some (.lst (ns.map V.int))) {b : TE} {m : Nat} (hn : ns.length ≤ n) (hb : Gv b σ H m) (hnm : n + m ≤ 5000) : Gv (tOp rCat (tVar i) b) σ H (n + m) := fun H1 Q s k =>
  ⟨_, h1, hb H1 _ s fun r2 n2 H2 hr0 hr2 hl s2 => ⟨c, r2, _, _, rfl, rfl, s2 _ _ (s _ _ hc), hr2, by rw [List.length_map, List.length_map]; exact sz5 (by omega), fun q hq => by
    rw [← List.map_append]
    exact k q (ns ++ n2) _ (s2.free hq) upd_same (by rw [List.length_append]; omega) (s2.trans (Same.upd hq))⟩⟩
theorem gv_cat {a b : TE} {n m : Nat} (ha : Gv a σ H n) (hb : Gv b σ H m) (hnm : n + m ≤ 5000) : Gv (tOp rCat a b) σ H (n + m) := fun H1 Q s k =>
  ha H1 _ s fun r1 n1 H2 hr10 hr1 hl1 s2 => hb H2 _ (s.trans s2) fun r2 n2 H3 hr20 hr2 hl2 s3 => ⟨r1, r2, _, _, rfl, rfl, s3 _ _ hr1, hr2, by rw [List.length_map, List.length_map]; exact sz5 (by omega), fun q hq => by
    rw [← List.map_append]
    exact k q (n1 ++ n2) _ ((s2.trans s3).free hq) upd_same (by rw [List.length_append]; omega) ((s2.trans s3).trans (Same.upd hq))⟩
theorem Rows3.mono {H H' H'' : Hp} {rs : List Addr} (h : Rows3 H H' rs) (s : Same H' H'') : Rows3 H H'' rs := fun r hr => by
  obtain ⟨a, ns, b, e⟩ := h r hr
  exact ⟨a, ns, s _ _ b, e⟩
theorem gvs_nil : Gvs tNil σ H 0 := fun H1 Q s k => k [] H1 (fun r hr => by cases hr) rfl (Same.refl _)
theorem gvs_cons {te : TE} {ta : TA} {n k : Nat} (h : Gv te σ H n) (hn : n ≤ 500) (ht : Gvs ta σ H k) : Gvs (tCons te ta) σ H (k + 1) := fun H1 Q s kk =>
  h H1 _ s fun r ns H2 hr0 hr hl s2 => ht H2 _ (s.trans s2) fun rs H3 R e s3 => kk (r :: rs) H3 (fun x hx => by
    rcases List.mem_cons.mp hx with z | z
    · subst z; exact ⟨hr0, ns, s3 _ _ hr, by omega⟩
    · obtain ⟨a, b⟩ := R x z
      exact ⟨s2.free a, b⟩) (by rw [List.length_cons, e]) (s2.trans s3)
end
theorem lst_of {ta : TA} {σ : St} {H H1 : Hp} {k : Nat} {Q : VK} (h : Gvs ta σ H k) (s : Same H H1) (hk : k ≤ 100) (q : ∀ (rs : List Addr) (H2 : Hp) (L : Addr), Rows3 H1 H2 rs → rs.length = k → Same H1 H2 → H2 L = none → Q (.ref L) (L2.upd H2 L (.lst (rs.map V.ref)))) : tLst ta σ H1 Q :=
  h H1 _ s fun rs H2 R e s2 => ⟨by rw [List.length_map, e]; exact sz (by omega), fun L hL => q rs H2 L R e s2 hL⟩
def spBent : Sp := fun vs H Q _ => ∃ (p c : Addr) (ns : List Int), vs = [.ref p, .ref c] ∧ Hand H p ∧ c ≠ p ∧ H c = some (.lst (ns.map V.int)) ∧ 1 ≤ ns.length ∧ ns.length ≤ 201 ∧
  ∀ (r : Addr) (ms : List Int) (H' : Hp), H r = none → H' r = some (.lst (ms.map V.int)) → ms.length ≤ 500 → Hand H' p → Keep p H H' → Q (.ref r) H'
section
variable {P : Program} {w : World} {K : PySem.W.Frag} {mg : Str → Option Value} {base : Heap}
theorem scBent : FnScope ["pot", "chain", "at", "to", "by", "some", "turned"] ["pot", "chain"] (defScope sBent) := ⟨rfl, rfl, rfl, by decide +kernel, rfl, by decide +kernel, by decide +kernel⟩
theorem ok_bent (M : Md K mg) (B : Bl mg) (F : FF K "_law_bent" sBent) (F_law_take : Fn P w K mg base CX0 "_law_take" 1 ["pot", "many"] spTake) : Fn P w K mg base CX0 "_law_bent" 2 ["pot", "chain"] spBent := by
  refine fn_ok M F scBent (fun _ _ _ _ _ _ => us2 fun _ _ => rfl) (fun vs H Q E h => ?_) (fun f cdv A outer s H vs Q E hr h => ?_)
  · obtain ⟨p, c, ns, rfl, _⟩ := h; rfl
  · obtain ⟨p, c, ns, rfl, hp, ncp, hc, n1, nl, k⟩ := h
    refine ⟨_, (pss_cons (ps_set (i := 2) scBent.nd rfl (by first | exact Or.inl rfl | exact Or.inr rfl) (pe_fn F_law_take hr pass0 (pa_cons (pv 0) (pa_cons (pe_lenL B.len (pv 1)) pa_nil))))
      (pss_cons (ps_set (i := 3) scBent.nd rfl (by first | exact Or.inl rfl | exact Or.inr rfl) (pe_fn F_law_take hr pass0 (pa_cons (pv 0) (pa_cons (pe_lenL B.len (pv 1)) pa_nil))))
      (pss_cons (ps_set (i := 4) scBent.nd rfl (by first | exact Or.inl rfl | exact Or.inr rfl) (pe_ix ix_list (pe_lst (pa_cons pe_int (pa_cons (pe_un un_neg pe_int) (pa_cons (pe_op op_add pe_int (pe_fn F_law_take hr pass0 (pa_cons (pv 0) (pa_cons (pe_op op_pow pe_int pe_int) pa_nil)))) (pa_cons (pe_un un_neg (pe_op op_pow pe_int pe_int)) pa_nil))))) (pe_fn F_law_take hr pass0 (pa_cons (pv 0) (pa_cons pe_int pa_nil))) (fun _ _ => rfl)))
      (pss_cons (ps_set (i := 5) scBent.nd rfl (by first | exact Or.inl rfl | exact Or.inr rfl) (pe_lst (pa_cons (pe_op op_cat (pe_op op_cat (pe_slice sl_list (pv 1) po_none (po_some (pv 2))) (pe_lst (pa_cons (pe_op op_add (pe_ix ix_list (pv 1) (pv 2) (fun _ _ => rfl)) (pv 4)) pa_nil))) (pe_slice sl_list (pv 1) (po_some (pe_op op_add (pv 2) pe_int)) po_none)) (pa_cons (pe_op op_cat (pe_slice sl_list (pv 1) po_none (po_some (pv 2))) (pe_slice sl_list (pv 1) (po_some (pe_op op_add (pv 2) pe_int)) po_none)) (pa_cons (pe_slice sl_list (pv 1) (po_some pe_int) po_none) (pa_cons (pe_slice sl_list (pv 1) po_none (po_some (pe_un un_neg pe_int))) pa_nil))))))
      (pss_cons (ps_set (i := 5) scBent.nd rfl (by first | exact Or.inl rfl | exact Or.inr rfl) (pe_op op_cat (pv 5) (pe_lst (pa_cons (pe_op op_cat (pe_op op_cat (pe_slice sl_list (pv 1) po_none (po_some (pv 2))) (pe_lst (pa_cons (pe_ix ix_list (pv 1) (pv 2) (fun _ _ => rfl)) pa_nil))) (pe_slice sl_list (pv 1) (po_some (pv 2)) po_none)) (pa_cons (pe_op op_cat (pe_op op_cat (pe_slice sl_list (pv 1) po_none (po_some (pv 2))) (pe_lst (pa_cons (pv 4) pa_nil))) (pe_slice sl_list (pv 1) (po_some (pv 2)) po_none)) (pa_cons (pe_lst pa_nil) (pa_cons (pe_rev_slice (pv 1)) pa_nil)))))))
      (pss_cons (ps_set (i := 6) scBent.nd rfl (by first | exact Or.inl rfl | exact Or.inr rfl) (pe_listOf B.list (pv 1)))
      (pss_cons (ps_asg (pe_ix ix_list (pv 1) (pv 3) (fun _ _ => rfl)) (pg_sub (pv 6) (pv 2) set_list))
      (pss_cons (ps_asg (pe_ix ix_list (pv 1) (pv 2) (fun _ _ => rfl)) (pg_sub (pv 6) (pv 3) set_list))
      (pss_one (ps_ret (pe_ix ix_list (pe_op op_cat (pv 5) (pe_lst (pa_cons (pv 6) (pa_cons (pe_op op_cat (pv 1) (pe_lst (pa_cons (pe_op op_add (pe_ix ix_list (pv 1) (pe_un un_neg pe_int) (fun _ _ => rfl)) (pv 4)) pa_nil))) pa_nil)))) (pe_fn F_law_take hr pass0 (pa_cons (pv 0) (pa_cons pe_int pa_nil))) (fun _ _ => rfl)))))))))))), ?_⟩
    refine ⟨_, rfl, _, rfl, c, _, rfl, SqL.of hc, p, _, rfl, hp, by rw [List.length_map]; omega, by rw [List.length_map]; omega, fun at_ H1 a0 a1 hp1 k1 => ?_⟩
    rw [List.length_map] at a1
    have hc1 := k1 _ _ hc ncp
    refine ⟨_, rfl, _, rfl, c, _, rfl, SqL.of hc1, p, _, rfl, hp1, by rw [List.length_map]; omega, by rw [List.length_map]; omega, fun to H2 t0 t1 hp2 k2 => ?_⟩
    rw [List.length_map] at t1
    have hc2 := k2 _ _ hc1 ncp
    have k02 := k1.trans k2
    refine ⟨1, rfl, _, rfl, _, _, rfl, rfl, ⟨by decide, by decide, by decide⟩, p, _, rfl, hp2, (by decide +kernel), (by decide +kernel), fun x H3 x0 x1 hp3 k3 => ?_⟩
    refine ⟨_, _, rfl, rfl, _, _, rfl, rfl, ⟨by decide, by decide, by decide⟩, _, rfl, by show 4 ≤ sizeLine; decide, fun l4 hl4 => ?_⟩
    have nl4 : l4 ≠ p := (hp3.ne hl4).symm
    refine ⟨_, rfl, p, 4, rfl, hp3.upd (hp3.ne hl4), by decide, by decide, fun r H5 r0 r1 hp5 k5 => ?_⟩
    obtain ⟨by_, hby⟩ : ∃ z : Int, atI [V.int 1, V.int (-1), V.int (1 + x), V.int (-(10 ^ Int.toNat 59))] r = some (.int z) := by
      have : r = 0 ∨ r = 1 ∨ r = 2 ∨ r = 3 := by omega
      rcases this with h | h | h | h <;> subst h
      · exact ⟨_, rfl⟩
      · exact ⟨_, rfl⟩
      · exact ⟨_, rfl⟩
      · exact ⟨_, rfl⟩
    refine ⟨l4, _, r, _, rfl, rfl, SqL.of (k5 _ _ upd_same nl4), hby, ?_⟩
    have hc5 := k5 _ _ ((Same.upd hl4) _ _ (k3 _ _ hc2 ncp)) ncp
    have k05 : Keep p H H5 := fun z o h n => k5 _ _ ((Same.upd hl4) _ _ (k3 _ _ (k02 _ _ h n) n)) n
    have sl1 : ∀ {v5 v6 : Option V} {tl th : TO}, Go tl [some (.ref p), some (.ref c), some (.int at_), some (.int to), some (.int by_), v5, v6] H5 → Go th [some (.ref p), some (.ref c), some (.int at_), some (.int to), some (.int by_), v5, v6] H5 → Gv (tSl (rSlL K) (tVar 1) tl th) [some (.ref p), some (.ref c), some (.int at_), some (.int to), some (.int by_), v5, v6] H5 201 := fun hl hh => gv_slice rfl hc5 nl hl hh
    have G1 : Gvs _ [some (.ref p), some (.ref c), some (.int at_), some (.int to), some (.int by_), none, none] H5 4 :=
      gvs_cons (gv_cat (gv_cat (sl1 go_none (go_some (gi_var (i := 2) rfl))) (gv_one (gi_add (gi_at (K := K) (i := 1) (j := 2) rfl rfl hc5 a0 a1) (gi_var (i := 4) rfl))) (by omega)) (sl1 (go_some (gi_add (gi_var (i := 2) rfl) (gi_c 1))) go_none) (by omega)) (by omega)
      (gvs_cons (gv_cat (sl1 go_none (go_some (gi_var (i := 2) rfl))) (sl1 (go_some (gi_add (gi_var (i := 2) rfl) (gi_c 1))) go_none) (by omega)) (by omega)
      (gvs_cons (sl1 (go_some (gi_c 1)) go_none) (by omega) (gvs_cons (sl1 go_none (go_some (gi_neg (gi_c 1)))) (by omega) gvs_nil)))
    unfold gName
    dsimp only
    show tSeq (tAsg (tLst _) _) _ _ [some (.ref p), some (.ref c), some (.int at_), some (.int to), some (.int by_), none, none] H5
    refine seq_asg (lst_of G1 (Same.refl _) (by decide) fun rs1 H6 L1 R1 e1 s6 hL1 => ?_)
    have s7 := Same.upd (o := .lst (rs1.map V.ref)) hL1
    have hL17 := upd_same (H := H6) (a := L1) (o := .lst (rs1.map V.ref))
    generalize L2.upd H6 L1 (.lst (rs1.map V.ref)) = H7 at s7 hL17 ⊢
    have s57 := s6.trans s7
    have G2 : Gvs _ [some (.ref p), some (.ref c), some (.int at_), some (.int to), some (.int by_), some (.ref L1), none] H5 4 :=
      gvs_cons (gv_cat (gv_cat (sl1 go_none (go_some (gi_var (i := 2) rfl))) (gv_one (gi_at (K := K) (i := 1) (j := 2) rfl rfl hc5 a0 a1)) (by omega)) (sl1 (go_some (gi_var (i := 2) rfl)) go_none) (by omega)) (by omega)
      (gvs_cons (gv_cat (gv_cat (sl1 go_none (go_some (gi_var (i := 2) rfl))) (gv_one (gi_var (i := 4) rfl)) (by omega)) (sl1 (go_some (gi_var (i := 2) rfl)) go_none) (by omega)) (by omega)
      (gvs_cons (gv_nil (n := 0)) (by omega) (gvs_cons (gv_rev (K := K) (i := 1) (n := 201) rfl hc5 nl) (by omega) gvs_nil)))
    show tSeq (tAsg (tOp rCat (tVar 5) (tLst _)) _) _ _ [some (.ref p), some (.ref c), some (.int at_), some (.int to), some (.int by_), some (.ref L1), none] H7
    refine seq_asg ⟨_, rfl, lst_of G2 s57 (by decide) fun rs2 H8 L2' R2 e2 s8 hL2 => ?_⟩
    have s9 := Same.upd (o := .lst (rs2.map V.ref)) hL2
    have hL29 := upd_same (H := H8) (a := L2') (o := .lst (rs2.map V.ref))
    have hL19 := s9 _ _ (s8 _ _ hL17)
    generalize L2.upd H8 L2' (.lst (rs2.map V.ref)) = H9 at s9 hL29 hL19 ⊢
    refine ⟨L1, L2', _, _, rfl, rfl, hL19, hL29, by rw [List.length_map, List.length_map, e1, e2]; decide, fun L3 hL3 => ?_⟩
    rw [← List.map_append]
    have s10 := Same.upd (o := .lst ((rs1 ++ rs2).map V.ref)) hL3
    have hL310 := upd_same (H := H9) (a := L3) (o := .lst ((rs1 ++ rs2).map V.ref))
    generalize L2.upd H9 L3 (.lst ((rs1 ++ rs2).map V.ref)) = H10 at s10 hL310 ⊢
    have s79 := (s8.trans s9).trans s10
    have s510 := s57.trans s79
    have hc10 := s510 _ _ hc5
    have hp10 := hp5.same s510
    have R12 : Rows3 H5 H10 (rs1 ++ rs2) := fun z hz => by
      rcases List.mem_append.mp hz with h | h
      · exact (R1.mono (s7.trans s79)) z h
      · obtain ⟨q1, q2⟩ := (R2.mono (s9.trans s10)) z h
        exact ⟨s57.free q1, q2⟩
    refine ⟨_, rfl, c, _, rfl, SqL.of hc10, fun tq htq => ?_⟩
    have s11 := Same.upd (o := .lst (ns.map V.int)) htq
    have htq11 := upd_same (H := H10) (a := tq) (o := .lst (ns.map V.int))
    have ntp : tq ≠ p := (hp10.ne htq).symm
    have hp11 := hp10.same s11
    have hc11 := s11 _ _ hc10
    have ntc : c ≠ tq := ne_of_none hc10 htq
    generalize L2.upd H10 tq (.lst (ns.map V.int)) = H11 at s11 htq11 hp11 hc11 ⊢
    obtain ⟨v, hv, _, ev⟩ := atI_ex (ns.map V.int) to t0 (by rw [List.length_map]; exact t1)
    obtain ⟨zt, _, rfl⟩ := int_get hv
    refine ⟨_, rfl, _, rfl, c, _, to, _, rfl, rfl, SqL.of hc11, ev, _, rfl, _, rfl, tq, _, at_, at_.toNat, rfl, rfl, htq11, by rw [List.length_map]; exact ixN_pos _ _ a0 a1, ?_⟩
    have k12 : ∀ z o, H11 z = some o → z ≠ tq → (L2.upd H11 tq (.lst ((ns.map V.int).set at_.toNat (V.int zt)))) z = some o := fun z o h n => by rw [upd_ne n]; exact h
    have htq12 : (L2.upd H11 tq (.lst ((ns.map V.int).set at_.toNat (V.int zt)))) tq = some (.lst ((ns.set at_.toNat zt).map V.int)) := by rw [upd_same, List.map_set]
    have hp12 := hp11.upd (o := .lst ((ns.map V.int).set at_.toNat (V.int zt))) ntp.symm
    generalize L2.upd H11 tq (.lst ((ns.map V.int).set at_.toNat (V.int zt))) = H12 at k12 htq12 hp12 ⊢
    have hc12 := k12 _ _ hc11 ntc
    obtain ⟨v2, hv2, _, ev2⟩ := atI_ex (ns.map V.int) at_ a0 (by rw [List.length_map]; exact a1)
    obtain ⟨za, _, rfl⟩ := int_get hv2
    refine ⟨_, rfl, _, rfl, c, _, at_, _, rfl, rfl, SqL.of hc12, ev2, _, rfl, _, rfl, tq, _, to, to.toNat, rfl, rfl, htq12, by rw [List.length_map, List.length_set]; exact ixN_pos _ _ t0 t1, ?_⟩
    have k13 : ∀ z o, H12 z = some o → z ≠ tq → (L2.upd H12 tq (.lst (((ns.set at_.toNat zt).map V.int).set to.toNat (V.int za)))) z = some o := fun z o h n => by rw [upd_ne n]; exact h
    have htq13 : (L2.upd H12 tq (.lst (((ns.set at_.toNat zt).map V.int).set to.toNat (V.int za)))) tq = some (.lst (((ns.set at_.toNat zt).set to.toNat za).map V.int)) := by rw [upd_same]; simp only [List.map_set]
    have hp13 := hp12.upd (o := .lst (((ns.set at_.toNat zt).map V.int).set to.toNat (V.int za))) ntp.symm
    generalize L2.upd H12 tq (.lst (((ns.set at_.toNat zt).map V.int).set to.toNat (V.int za))) = H13 at k13 htq13 hp13 ⊢
    have hc13 := k13 _ _ hc12 ntc
    have k1013 : ∀ z o, H10 z = some o → H13 z = some o := fun z o h => by
      have nz : z ≠ tq := ne_of_none h htq
      exact k13 _ _ (k12 _ _ (s11 _ _ h) nz) nz
    have GV : Gv (tOp rCat (tVar 1) (tLst (tCons (tOp (rI0 fun i j => .int (i + j)) (tOp (rIxL K) (tVar 1) (tUn (rU fun i => .int (-i)) (tC (.int 1)))) (tVar 4)) tNil))) [some (.ref p), some (.ref c), some (.int at_), some (.int to), some (.int by_), some (.ref L3), some (.ref tq)] H13 202 := gv_ref (n := 201) rfl hc13 nl (gv_one (gi_add (gi_last rfl hc13 n1) (gi_var rfl))) (by omega)
    refine ⟨_, rfl, _, rfl, GV H13 _ (Same.refl _) fun r2 n2 H14 hr20 hr2 hl2 s14 => ⟨by show 2 ≤ sizeLine; decide, fun L4 hL4 => ?_⟩⟩
    have s15 := Same.upd (o := .lst [V.ref tq, V.ref r2]) hL4
    have hL415 := upd_same (H := H14) (a := L4) (o := .lst [V.ref tq, V.ref r2])
    have hL315 := s15 _ _ (s14 _ _ (k1013 _ _ hL310))
    generalize L2.upd H14 L4 (.lst [V.ref tq, V.ref r2]) = H15 at s15 hL415 hL315 ⊢
    refine ⟨L3, L4, _, _, rfl, rfl, hL315, hL415, by rw [List.length_map, List.length_append, e1, e2]; show 10 ≤ sizeLine; decide, fun L5 hL5 => ?_⟩
    have s16 := Same.upd (o := .lst ((rs1 ++ rs2).map V.ref ++ [V.ref tq, V.ref r2])) hL5
    have hL516 := upd_same (H := H15) (a := L5) (o := .lst ((rs1 ++ rs2).map V.ref ++ [V.ref tq, V.ref r2]))
    have s1316 := (s14.trans s15).trans s16
    have hp16 := hp13.same s1316
    have nL5 : L5 ≠ p := ((hp13.same (s14.trans s15)).ne hL5).symm
    generalize L2.upd H15 L5 (.lst ((rs1 ++ rs2).map V.ref ++ [V.ref tq, V.ref r2])) = H16 at s16 hL516 s1316 hp16 ⊢
    refine ⟨_, rfl, p, 10, rfl, hp16, by decide, by decide, fun ix H17 i0 i1 hp17 k17 => ?_⟩
    obtain ⟨v, hv, hvm, ev⟩ := atI_ex ((rs1 ++ rs2).map V.ref ++ [V.ref tq, V.ref r2]) ix i0 (by rw [List.length_append, List.length_map, List.length_append, e1, e2]; exact i1)
    have free5 : ∀ z, H5 z = none → H z = none := fun z hz => hp5.free k05 hz
    have free10 : ∀ z, H10 z = none → H z = none := fun z hz => free5 z (s510.free hz)
    have k017 : Keep p H H17 := fun z o h n => k17 _ _ (s1316 _ _ (k1013 _ _ (s510 _ _ (k05 _ _ h n)))) n
    have key : ∀ z : Addr, v = V.ref z → ∃ ms : List Int, H z = none ∧ H17 z = some (.lst (ms.map V.int)) ∧ ms.length ≤ 500 := fun z hz => by
      subst hz
      rcases List.mem_append.mp hvm with h | h
      · obtain ⟨z', hz', e⟩ := List.mem_map.mp h
        cases e
        obtain ⟨q1, ms, q2, q3⟩ := R12 z hz'
        exact ⟨ms, free5 z q1, k17 _ _ (s1316 _ _ (k1013 _ _ q2)) (fun e => by subst e; exact absurd rfl (hp5.ne q1)), q3⟩
      · rcases List.mem_cons.mp h with e | e
        · cases e
          exact ⟨_, free10 _ htq, k17 _ _ (s1316 _ _ htq13) ntp, by rw [List.length_set, List.length_set]; omega⟩
        · cases List.mem_singleton.mp e
          have h10 : H10 r2 = none := by
            cases q' : H10 r2 with
            | none => rfl
            | some o => have := k1013 _ _ q'; rw [this] at hr20; cases hr20
          exact ⟨n2, free10 _ h10, k17 _ _ (s16 _ _ (s15 _ _ hr2)) (fun e => by subst e; exact absurd rfl (hp13.ne hr20)), by omega⟩
    have hvr : ∃ z, v = V.ref z := by
      rcases List.mem_append.mp hvm with h | h
      · obtain ⟨z', _, e⟩ := List.mem_map.mp h; exact ⟨z', e.symm⟩
      · rcases List.mem_cons.mp h with e | e
        · exact ⟨_, e⟩
        · exact ⟨_, List.mem_singleton.mp e⟩
    obtain ⟨z, rfl⟩ := hvr
    obtain ⟨ms, m1, m2, m3⟩ := key z rfl
    exact ⟨L5, _, ix, _, rfl, rfl, SqL.of (k17 _ _ hL516 nL5), ev, k z ms H17 m1 m2 m3 hp17 k017⟩
end

end Ov

namespace Ov
open PySem L2
abbrev sLaw : Stmt := top 39
def spLaw (K : PySem.W.Frag) : Sp := fun vs H Q _ => ∃ (a : Addr) (ns : List Int), vs = [.ref a] ∧ SqL K H a (ns.map V.int) ∧ ns.length ≤ 63 ∧ ∀ H', Q (.bl true) H'
theorem int_item {xs : List Int} {i : Nat} {x : V} (h : (xs.map V.int)[i]? = some x) : ∃ z : Int, x = .int z := by
  rw [List.getElem?_map] at h
  cases e : xs[i]? with
  | none => rw [e] at h; cases h
  | some z => rw [e] at h; exact ⟨z, (Option.some.inj h).symm⟩
/-- [0] + script[:n] -/
theorem zcat {K : PySem.W.Frag} {σ : St} {H : Hp} {a : Addr} {ns : List Int} {n : Int} {Q : VK} (hi : σ[0]? = some (some (.ref a))) (hS : SqL K H a (ns.map V.int)) (hn : 0 ≤ n) (hn2 : n ≤ 100)
    (k : ∀ (b : Addr) (xs : List Int) (H' : Hp), H' b = some (.lst (xs.map V.int)) → Q (.ref b) H') :
    tOp rCat (tLst (tCons (tC (.int 0)) tNil)) (tSl (rSlL K) (tVar 0) tNoPart (tPart (tC (.int n)))) σ H Q := by
  refine ⟨by show 1 ≤ sizeLine; decide, fun l0 hl0 => ?_⟩
  refine ⟨_, hi, n, rfl, a, _, rfl, (Same.upd hl0).seq hS, fun l1 hl1 => ?_⟩
  have e1 : cutV (ns.map V.int) none (some n) = (ns.take n.toNat).map V.int := by rw [cutV_cutL, cutL_map, cutL_hi _ _ hn]
  rw [e1] at *
  refine ⟨l0, l1, _, _, rfl, rfl, (Same.upd hl1) _ _ upd_same, upd_same, by simp only [List.length_cons, List.length_nil, List.length_map, List.length_take]; exact sz (by omega), fun b hb => ?_⟩
  refine k b (0 :: ns.take n.toNat) _ ?_
  rw [upd_same]
  rfl
def pBls (bs : List Bool) : PyData := .list (bs.map PyData.bool)
theorem datVs_bls {K : PySem.W.Frag} {H : Hp} : ∀ bs : List Bool, DatVs K H (bs.map PyData.bool) (bs.map V.bl)
  | [] => datVs_nil
  | b :: bs => datVs_cons (datV_bool b) (datVs_bls bs)
theorem depthAll_bls : ∀ bs : List Bool, PyData.depthAll (bs.map PyData.bool) ≤ 1
  | [] => by rw [List.map_nil, PyData.depthAll]; exact Nat.zero_le _
  | b :: bs => by
    have := depthAll_bls bs
    simp only [List.map_cons, PyData.depthAll, PyData.depth]
    omega
theorem depth_pBls (bs : List Bool) : (pBls bs).depth ≤ 64 := by
  have := depthAll_bls bs
  unfold pBls
  simp only [PyData.depth]
  omega
theorem eqvAll_bls : ∀ bs : List Bool, PyData.eqvAll (bs.map PyData.bool) (bs.map PyData.bool) = true
  | [] => by rw [List.map_nil, PyData.eqvAll]
  | b :: bs => by
    rw [List.map_cons, PyData.eqvAll, eqvAll_bls bs]
    cases b <;> simp [PyData.eqv]
theorem eqv_pBls (bs : List Bool) : PyData.eqv (pBls bs) (pBls bs) = true := by
  unfold pBls
  simp only [PyData.eqv]
  exact eqvAll_bls bs
def pThree (t u : List Nat) (ns : List Int) : PyData := .list [pSgs t, pSgs u, pInts ns]
theorem depth_pThree (t u : List Nat) (ns : List Int) : (pThree t u ns).depth ≤ 64 := by
  have h1 := depth_pSgs t
  have h2 := depth_pSgs u
  have h3 := depth_pInts ns
  unfold pThree
  simp only [PyData.depth, PyData.depthAll]
  omega
theorem eqv_pThree (t u : List Nat) (ns : List Int) : PyData.eqv (pThree t u ns) (pThree t u ns) = true := by
  unfold pThree
  simp [PyData.eqv, PyData.eqvAll, eqv_pSgs, eqv_pInts]
theorem dat_three {K : PySem.W.Frag} {H : Hp} {h x y z : Addr} {t u : List Nat} {ns : List Int} (lt : Low t) (lu : Low u) (hh : H h = some (.lst [.ref x, .ref y, .ref z])) (hx : H x = some (.lst (t.map sg))) (hy : H y = some (.lst (u.map sg))) (hz : H z = some (.lst (ns.map V.int))) : DatV K H (pThree t u ns) (.ref h) :=
  datV_lst (SqL.of hh) (datVs_cons (datV_sgs (SqL.of hx) lt.cp) (datVs_cons (datV_sgs (SqL.of hy) lu.cp) (datVs_cons (datV_ints (SqL.of hz)) datVs_nil)))
theorem ne_three {K : PySem.W.Frag} {H : Hp} {h x y z k a b c : Addr} {t u : List Nat} {ns : List Int} {Q : VK} (lt : Low t) (lu : Low u) (hh : H h = some (.lst [.ref x, .ref y, .ref z])) (hx : H x = some (.lst (t.map sg))) (hy : H y = some (.lst (u.map sg))) (hz : H z = some (.lst (ns.map V.int))) (hk : H k = some (.lst [.ref a, .ref b, .ref c])) (ha : H a = some (.lst (t.map sg))) (hb : H b = some (.lst (u.map sg))) (hc : H c = some (.lst (ns.map V.int))) (q : Q (.bl false) H) : rEqD K true (.ref h) (.ref k) H Q := by
  refine ⟨pThree t u ns, pThree t u ns, dat_three lt lu hh hx hy hz, dat_three lt lu hk ha hb hc, Nat.le_trans (Nat.min_le_left _ _) (depth_pThree t u ns), ?_⟩
  rw [eqv_pThree]
  exact q
/-- what is told of a chain: the flags of a refusal, or the cost -/
def Told (t u : List Nat) (ns : List Int) (v : V) (H : Hp) : Prop := (isCh (shiftsOf u) ns ((t.length - u.length : Nat) : Int) = false ∧ ∃ r, v = .ref r ∧ H r = some (.lst ((dueF 3).map V.bl))) ∨ (isCh (shiftsOf u) ns ((t.length - u.length : Nat) : Int) = true ∧ ∃ l, ns = il l ∧ v = .int (cst t u l : Nat))
theorem due_any {t u : List Nat} {ns : List Int} {H : Hp} {Q : VK} (h : ∀ v H', Told t u ns v H' → Same H H' → Q v H') :
    (isCh (shiftsOf u) ns ((t.length - u.length : Nat) : Int) = false → ∀ (r : Addr) (H' : Hp), H r = none → H' r = some (.lst ((dueF 3).map V.bl)) → Same H H' → Q (.ref r) H') ∧ (∀ l, ns = il l → Ch (shiftsOf u) 0 (t.length - u.length) l → ∀ H', Same H H' → Q (.int (cst t u l : Nat)) H') :=
  ⟨fun e r H' _ hr s => h _ H' (.inl ⟨e, r, rfl, hr⟩) s, fun l el C H' s => h _ H' (.inr ⟨by rw [el]; exact isCh_of C, l, el, rfl⟩) s⟩
theorem Told.same {t u : List Nat} {ns : List Int} {v : V} {H H' : Hp} (h : Told t u ns v H) (s : Same H H') : Told t u ns v H' := by
  rcases h with ⟨e, r, hv, hr⟩ | h
  · exact .inl ⟨e, r, hv, s _ _ hr⟩
  · exact .inr h
theorem ne_told {K : PySem.W.Frag} {t u : List Nat} {ns : List Int} {v v' : V} {H : Hp} {Q : VK} (h : Told t u ns v H) (h' : Told t u ns v' H) (q : Q (.bl false) H) : rEqD K true v v' H Q := by
  rcases h with ⟨e, r, rfl, hr⟩ | ⟨e, l, hl, rfl⟩
  · rcases h' with ⟨_, r', rfl, hr'⟩ | ⟨e', _⟩
    · refine ⟨pBls (dueF 3), pBls (dueF 3), datV_lst (SqL.of hr) (datVs_bls _), datV_lst (SqL.of hr') (datVs_bls _), Nat.le_trans (Nat.min_le_left _ _) (depth_pBls _), ?_⟩
      rw [eqv_pBls]; exact q
    · rw [e] at e'; cases e'
  · rcases h' with ⟨e', _⟩ | ⟨_, l', hl', rfl⟩
    · rw [e] at e'; cases e'
    · have : l = l' := il_inj (hl ▸ hl')
      subst this
      refine ⟨.int (cst t u l : Nat), .int (cst t u l : Nat), datV_int _, datV_int _, by simp [PyData.depth], ?_⟩
      have : PyData.eqv (.int (cst t u l : Nat)) (.int (cst t u l : Nat)) = true := by simp [PyData.eqv]
      rw [this]; exact q
def spTold : Sp := fun vs H Q _ => ∃ (a b c : Addr) (t u : List Nat) (ns : List Int), vs = [.ref a, .ref b, .ref c] ∧ H a = some (.lst (t.map sg)) ∧ H b = some (.lst (u.map sg)) ∧ H c = some (.lst (ns.map V.int)) ∧ Low t ∧ Low u ∧ 1 ≤ u.length ∧ u.length ≤ t.length ∧ t.length ≤ 900 ∧ ns.length ≤ 1000 ∧ ∀ v H', Told t u ns v H' → Same H H' → Q v H'
theorem fn_told {P : Program} {w : World} {K : PySem.W.Frag} {mg : Str → Option Value} {base : Heap} {CX : CXT} {x : Str} {k : Nat} {ps : List Str} (F : Fn P w K mg base CX x k ps spDue) : Fn P w K mg base CX x k ps spTold := by
  obtain ⟨f, fd, F1, rest⟩ := F.ex
  refine ⟨f, fd, F1.imp fun vs H Q E h => ?_, rest⟩
  obtain ⟨a, b, c, t, u, ns, h1, h2, h3, h4, h5, h6, h7, h8, h9, h10, k⟩ := h
  exact ⟨a, b, c, t, u, ns, h1, h2, h3, h4, h5, h6, h7, h8, h9, h10, due_any k⟩
theorem isi_told {K : PySem.W.Frag} {t u : List Nat} {ns : List Int} {v : V} {H : Hp} (h : Told t u ns v H) : ∃ ty, TyOf K H v ty ∧ PySem.W.kitOne K ty (.type "bool") = some false := by
  rcases h with ⟨_, r, rfl, hr⟩ | ⟨_, l, _, rfl⟩
  · exact ⟨_, TyOf.lst hr, rfl⟩
  · exact ⟨_, TyOf.int _, rfl⟩
theorem low_lay {u l : List Nat} (h : Low u) : ∀ i, Low (layN u l i)
  | 0 => h
  | i + 1 => (low_lay h i).app (h.drop _)
section
variable {P : Program} {w : World} {K : PySem.W.Frag} {mg : Str → Option Value} {base : Heap}
theorem scLaw : FnScope ["script", "cell", "pot", "letters", "word", "chain", "text", "texts", "some", "given", "due", "handed", "again", "found"] ["script"] (defScope sLaw) := ⟨rfl, rfl, rfl, by decide +kernel, rfl, by decide +kernel, by decide +kernel⟩
theorem ok_law (M : Md K mg) (B : Bl mg) (F : FF K "law" sLaw) (F_law_pot : Fn P w K mg base CX0 "_law_pot" 1 ["cell"] spPot) (F_law_take : Fn P w K mg base CX0 "_law_take" 1 ["pot", "many"] spTake) (F_law_letters : Fn P w K mg base CX0 "_law_letters" 2 ["pot"] spLetters) (F_law_signs : Fn P w K mg base CX0 "_law_signs" 2 ["pot", "letters", "many"] spSigns) (F_law_word : Fn P w K mg base CX0 "_law_word" 3 ["pot", "letters", "most"] spWord)
    (F_law_laid_chain : Fn P w K mg base CX0 "_law_laid_chain" 2 ["pot", "word", "most"] spLaidC) (F_law_shown : Fn P w K mg base CX0 "_law_shown" 1 ["word", "chain"] spShown) (F_law_spoilt : Fn P w K mg base CX0 "_law_spoilt" 2 ["pot", "text", "letters", "times"] spSpoilt) (F_law_bent : Fn P w K mg base CX0 "_law_bent" 2 ["pot", "chain"] spBent) (F_law_due : Fn P w K mg base CX0 "_law_due" 2 ["text", "word", "chain"] spTold) (F_law_said : Fn P w K mg base CX0 "_law_said" 8 ["text", "word", "chain"] spTold) : Fn P w K mg base CX0 "law" 9 ["script"] (spLaw K) := by
  refine fn_ok M F scLaw (fun _ _ _ _ _ _ => us1 fun _ => rfl) (fun vs H Q E h => ?_) (fun f cdv A outer s H vs Q E hr h => ?_)
  · obtain ⟨a, ns, rfl, _⟩ := h; rfl
  · obtain ⟨a, ns, rfl, hS, hlen, k⟩ := h
    refine ⟨_, (pss_cons (ps_for PassesOwn.never rfl (pi_list (pe_op op_cat (pe_lst (pa_cons pe_int pa_nil)) (pe_slice sl_list (pv 0) po_none (po_some pe_int)))) (pg_name (i := 1) scLaw.nd rfl (by first | exact Or.inl rfl | exact Or.inr rfl))
      (pss_cons (ps_set (i := 2) scLaw.nd rfl (by first | exact Or.inl rfl | exact Or.inr rfl) (pe_fn F_law_pot hr pass0 (pa_cons (pv 1) pa_nil)))
      (pss_cons (ps_set (i := 3) scLaw.nd rfl (by first | exact Or.inl rfl | exact Or.inr rfl) (pe_fn F_law_letters hr pass0 (pa_cons (pv 2) pa_nil)))
      (pss_cons (ps_set (i := 4) scLaw.nd rfl (by first | exact Or.inl rfl | exact Or.inr rfl) (pe_fn F_law_word hr pass0 (pa_cons (pv 2) (pa_cons (pv 3) (pa_cons (pe_ix ix_list (pe_lst (pa_cons pe_int (pa_cons pe_int pa_nil))) (pe_fn F_law_take hr pass0 (pa_cons (pv 2) (pa_cons pe_int pa_nil))) (fun _ _ => rfl)) pa_nil)))))
      (pss_cons (ps_set (i := 5) scLaw.nd rfl (by first | exact Or.inl rfl | exact Or.inr rfl) (pe_fn F_law_laid_chain hr pass0 (pa_cons (pv 2) (pa_cons (pv 4) (pa_cons pe_int pa_nil)))))
      (pss_cons (ps_set (i := 6) scLaw.nd rfl (by first | exact Or.inl rfl | exact Or.inr rfl) (pe_fn F_law_shown hr pass0 (pa_cons (pv 4) (pa_cons (pv 5) pa_nil))))
      (pss_cons (ps_set (i := 7) scLaw.nd rfl (by first | exact Or.inl rfl | exact Or.inr rfl) (pe_lst (pa_cons (pv 6) (pa_cons (pe_fn F_law_spoilt hr pass0 (pa_cons (pv 2) (pa_cons (pv 6) (pa_cons (pv 3) (pa_cons (pe_fn F_law_take hr pass0 (pa_cons (pv 2) (pa_cons pe_int pa_nil))) pa_nil))))) (pa_cons (pe_fn F_law_signs hr pass0 (pa_cons (pv 2) (pa_cons (pv 3) (pa_cons (pe_lenL B.len (pv 6)) pa_nil)))) pa_nil)))))
      (pss_one (ps_for PassesOwn.never rfl (pi_list (pe_op op_cat (pe_lst (pa_cons (pv 5) pa_nil)) (pe_comp ["script", "cell", "pot", "letters", "word", "chain", "text", "texts", "some", "given", "due", "handed", "again", "found"] rfl (pi_range1 (by rfl) B.range (pa_cons pe_int pa_nil)) (fun _ => by exact pif_nil) (fun _ => by exact (pe_fn F_law_bent hr pass0 (pa_cons (pv 2) (pa_cons (pv 5) pa_nil))))))) (pg_name (i := 8) scLaw.nd rfl (by first | exact Or.inl rfl | exact Or.inr rfl))
      (pss_cons (ps_set (i := 9) scLaw.nd rfl (by first | exact Or.inl rfl | exact Or.inr rfl) (pe_ix ix_list (pv 7) (pe_fn F_law_take hr pass0 (pa_cons (pv 2) (pa_cons pe_int pa_nil))) (fun _ _ => rfl)))
      (pss_cons (ps_set (i := 10) scLaw.nd rfl (by first | exact Or.inl rfl | exact Or.inr rfl) (pe_fn F_law_due hr pass0 (pa_cons (pv 9) (pa_cons (pv 4) (pa_cons (pv 8) pa_nil)))))
      (pss_cons (ps_set (i := 11) scLaw.nd rfl (by first | exact Or.inl rfl | exact Or.inr rfl) (pe_lst (pa_cons (pe_listOf B.list (pv 9)) (pa_cons (pe_listOf B.list (pv 4)) (pa_cons (pe_listOf B.list (pv 8)) pa_nil)))))
      (pss_one (ps_for PassesOwn.never rfl (pi_range1 (by rfl) B.range (pa_cons pe_int pa_nil)) (pg_name (i := 12) scLaw.nd rfl (by first | exact Or.inl rfl | exact Or.inr rfl))
      (pss_cons (ps_set (i := 13) scLaw.nd rfl (by first | exact Or.inl rfl | exact Or.inr rfl) (pe_fn F_law_said hr pass0 (pa_cons (pe_ix ix_list (pv 11) pe_int (fun _ _ => rfl)) (pa_cons (pe_ix ix_list (pv 11) pe_int (fun _ _ => rfl)) (pa_cons (pe_ix ix_list (pv 11) pe_int (fun _ _ => rfl)) pa_nil)))))
      (pss_one (ps_if (PW.pt (pw_or (pt_val (pe_isi B.isinst B.bool bt_bool (pv 13))) (pw_or (pt_cmpR (op_neD (by exact hr)) (pv 13) (pv 10) (nomark _)) (pw_or1 (pt_cmpR (op_neD (by exact hr)) (pv 11) (pe_lst (pa_cons (pv 9) (pa_cons (pv 4) (pa_cons (pv 8) pa_nil)))) (nomark _)))))) (pss_one (ps_ret pe_bl)) pss_nil)))))))))))))))))
      (pss_one (ps_ret pe_bl))), ?_⟩
    refine seq_for (zcat (K := K) (n := 6) rfl hS (by decide) (by decide) fun b cs H1 hb1 => ⟨b, rfl, ⟨_, SqL.of hb1⟩, ?_⟩)
    refine for_listA (K := K) (a := b) (xs := cs.map V.int) (fun i σ H2 => H2 b = some (.lst (cs.map V.int)) ∧ ∃ v1 v2 v3 v4 v5 v6 v7 v8 v9 v10 v11 v12 v13, σ = [some (.ref a), v1, v2, v3, v4, v5, v6, v7, v8, v9, v10, v11, v12, v13]) ⟨hb1, _, _, _, _, _, _, _, _, _, _, _, _, _, rfl⟩ (fun i σ H2 _ h2 => SqL.of h2.1) ?_ ?_
    · rintro D1 i x σ H2 nx1 hx ⟨hb2, v1, v2, v3, v4, v5, v6, v7, v8, v9, v10, v11, v12, v13, rfl⟩
      obtain ⟨c, rfl⟩ := int_item hx
      refine ⟨_, rfl, c, rfl, fun p H3 hp0 hp3 s3 => ?_⟩
      have hb3 := s3 _ _ hb2
      have nb : b ≠ p := ne_of_none hb2 hp0
      refine ⟨_, rfl, p, rfl, hp3, fun z lr H4 hlr0 hlr4 lz nz z1 z2 hp4 k4 => ?_⟩
      have hb4 := k4 _ _ hb3 nb
      have nlr := hand_ne hp4 hlr4
      refine ⟨_, rfl, _, rfl, by show 2 ≤ sizeLine; decide, fun l2 hl2 => ?_⟩
      have s6 := Same.upd (o := .lst [V.int 40, .int 200]) hl2
      have hl6 := upd_same (H := H4) (a := l2) (o := .lst [V.int 40, .int 200])
      have nl2 : l2 ≠ p := (hp4.ne hl2).symm
      generalize L2.upd H4 l2 (.lst [V.int 40, .int 200]) = H6 at s6 hl6 ⊢
      refine ⟨_, rfl, p, 2, rfl, hp4.same s6, by decide, by decide, fun r H7 r0 r1 hp7 k7 => ?_⟩
      obtain ⟨mm, hmm1, hmm2, hat2⟩ : ∃ mm : Int, 1 ≤ mm ∧ mm ≤ 200 ∧ atI [V.int 40, .int 200] r = some (.int mm) := by
        have : r = 0 ∨ r = 1 := by omega
        rcases this with h | h
        · subst h; exact ⟨40, by decide, by decide, rfl⟩
        · subst h; exact ⟨200, by decide, by decide, rfl⟩
      have k47 : Keep p H4 H7 := fun c o h n => k7 _ _ (s6 _ _ h) n
      refine ⟨l2, _, _, _, rfl, rfl, SqL.of (k7 _ _ hl6 nl2), hat2, p, lr, z, mm, rfl, hp7, k47 _ _ hlr4 nlr, lz, z1, by omega, by omega, by omega, fun u q H8 hq0 hq8 lu u1 ul hp8 k8 => ?_⟩
      have k48 := k47.trans k8
      have nq := hand_ne hp8 hq8
      refine ⟨_, rfl, _, rfl, p, q, u, 200, rfl, hp8, hq8, lu, u1, by omega, by decide, by decide, fun l qq ch H9 hch0 hch9 C hqq hp9 k9 => ?_⟩
      have k49 := k48.trans k9
      have hq9 := k9 _ _ hq8 nq
      have hlr9 := k49 _ _ hlr4 nlr
      have hb9 := k49 _ _ hb4 nb
      have nch : ch ≠ p := (hp8.ne hch0).symm
      have hne : 1 ≤ l.length := by obtain ⟨r', e⟩ := C.head; rw [e, List.length_cons]; omega
      refine ⟨_, rfl, _, rfl, q, ch, u, l, qq, rfl, hq9, hch9, u1, by omega, C, fun tx H10 htx0 htx10 s10 => ?_⟩
      obtain ⟨T, hT⟩ : ∃ T, T = layN u l (l.length - 1) := ⟨_, rfl⟩
      have lT : Low T := by rw [hT]; exact low_lay lu _
      have Tl : T.length = qq + u.length := by
        have := (lay_at (steps_of u) C (l.length - 1) (by omega)).1
        have eg : gd l (l.length - 1) = qq := by
          obtain ⟨r', e⟩ := C.last
          unfold gd
          rw [e, List.length_append, List.length_singleton, show r'.length + 1 - 1 = r'.length by omega, List.getElem?_append_right (Nat.le_refl _), Nat.sub_self]; rfl
        rw [hT, this, eg]
      rw [← hT] at htx10
      have hp10 := hp9.same s10
      have ntx : tx ≠ p := (hp9.ne htx0).symm
      refine ⟨_, rfl, _, rfl, _, rfl, _, rfl, _, rfl, p, 9, rfl, hp10, by decide, by decide, fun times H11 t0 t1 hp11 k11 => ?_⟩
      have hlr10 := s10 _ _ hlr9
      refine ⟨p, tx, lr, T, z, times, rfl, hp11, k11 _ _ htx10 ntx, k11 _ _ hlr10 nlr, lT, by omega, by omega, lz, by omega, by omega, by omega, fun t2 y2 H12 hy20 hy212 lt2 tl2 hp12 k12 => ?_⟩
      have k1012 := k11.trans k12
      have ny2 := hand_ne hp12 hy212
      refine ⟨_, rfl, _, rfl, _, rfl, tx, _, rfl, SqL.of (k1012 _ _ htx10 ntx), p, lr, z, _, rfl, hp12, k1012 _ _ hlr10 nlr, lz, z1, by omega, by rw [List.length_map]; omega, by rw [List.length_map]; omega, fun t3 y3 H13 hy30 hy313 lt3 tl3 hp13 k13 => ?_⟩
      rw [List.length_map, Int.toNat_natCast] at tl3
      have ny3 := hand_ne hp13 hy313
      have k1013 := k1012.trans k13
      refine ⟨by show 3 ≤ sizeLine; decide, fun l3 hl3 => ?_⟩
      have s14 := Same.upd (o := .lst [V.ref tx, .ref y2, .ref y3]) hl3
      have hl314 := upd_same (H := H13) (a := l3) (o := .lst [V.ref tx, .ref y2, .ref y3])
      have nl3 : l3 ≠ p := (hp13.ne hl3).symm
      generalize L2.upd H13 l3 (.lst [V.ref tx, .ref y2, .ref y3]) = H14 at s14 hl314 ⊢
      have htx14 := s14 _ _ (k1013 _ _ htx10 ntx)
      have hy214 := s14 _ _ (k13 _ _ hy212 ny2)
      have hy314 := s14 _ _ hy313
      have k1014 : Keep p H10 H14 := fun c o h n => s14 _ _ (k1013 _ _ h n)
      have hq14 := k1014 _ _ (s10 _ _ hq9) nq
      have hch14 := k1014 _ _ (s10 _ _ hch9) nch
      have hb14 := k1014 _ _ (s10 _ _ hb9) nb
      have hp14 := hp13.same s14
      have ll := Ch.len_le (steps_of u) C
      refine ⟨_, rfl, by show 1 ≤ sizeLine; decide, fun lc hlc => ?_⟩
      have s15 := Same.upd (o := .lst [V.ref ch]) hlc
      have hlc15 := upd_same (H := H14) (a := lc) (o := .lst [V.ref ch])
      have nlc : lc ≠ p := (hp14.ne hlc).symm
      have hp15 := hp14.same s15
      have hch15 := s15 _ _ hch14
      generalize L2.upd H14 lc (.lst [V.ref ch]) = H15 at s15 hlc15 hp15 hch15 ⊢
      refine ⟨6, rfl, by decide, by decide, fun D hD cb => ?_⟩
      have nD : D ≠ p := (hp15.ne hD).symm
      refine comp_range (lo := 0) (n := 6) (fun i ys H16 => ∃ rs : List Addr, ys = rs.map V.ref ∧ rs.length = i ∧ (∀ r ∈ rs, r ≠ p ∧ r ≠ D ∧ ∃ ms : List Int, H16 r = some (.lst (ms.map V.int)) ∧ ms.length ≤ 500) ∧ Hand H16 p ∧ (∀ z o, H15 z = some o → z ≠ p → H16 z = some o) ∧ H16 D = some (.lst ys)) (by decide) ?_ ?_ ?_ ?_
      · exact ⟨[], rfl, rfl, (fun r hr => by cases hr), hp15.upd nD.symm, (fun z o h n => by rw [upd_ne (ne_of_none h hD)]; exact h), upd_same⟩
      · rintro i ys H16 ⟨rs, rfl, e, _⟩
        rw [List.length_map, e]; exact Nat.le_refl _
      · rintro i ys H16 hi ⟨rs, rfl, e, hrs, hp16, k16, hD16⟩
        refine tNoIf_go ⟨_, rfl, _, rfl, p, ch, il l, rfl, hp16, nch, k16 _ _ hch15 nch, by simp [il]; omega, by simp [il]; omega, fun r ms H17 hr0 hr17 ml hp17 k17 => ?_⟩
        have nr : r ≠ p := (hp16.ne hr0).symm
        have nrD : r ≠ D := fun z => by subst z; rw [hD16] at hr0; cases hr0
        refine ⟨k17 _ _ hD16 nD, rs ++ [r], by simp, by simp [e], fun z hz => ?_, hp17.upd nD.symm, fun z o h n => ?_, upd_same⟩
        · rcases List.mem_append.mp hz with h | h
          · obtain ⟨a1, a2, ms', a3, a4⟩ := hrs z h
            exact ⟨a1, a2, ms', by rw [upd_ne a2]; exact k17 _ _ a3 a1, a4⟩
          · rw [List.mem_singleton.mp h]
            exact ⟨nr, nrD, ms, by rw [upd_ne nrD]; exact hr17, ml⟩
        · rw [upd_ne (ne_of_none h hD)]
          exact k17 _ _ (k16 _ _ h n) n
      · rintro ys H16 ⟨rs, rfl, e, hrs, hp16, k16, hD16⟩
        refine ⟨lc, D, _, _, rfl, rfl, k16 _ _ hlc15 nlc, hD16, by rw [List.length_map, e]; show 7 ≤ sizeLine; decide, fun b2 hb2 => ?_⟩
        have e3 : [V.ref ch] ++ rs.map V.ref = (ch :: rs).map V.ref := rfl
        rw [e3]
        have s17 := Same.upd (o := .lst ((ch :: rs).map V.ref)) hb2
        have hb217 := upd_same (H := H16) (a := b2) (o := .lst ((ch :: rs).map V.ref))
        have nb2 : b2 ≠ p := (hp16.ne hb2).symm
        have hp17 := hp16.same s17
        generalize L2.upd H16 b2 (.lst ((ch :: rs).map V.ref)) = H17 at s17 hb217 hp17 ⊢
        have k1417 : ∀ z o, H14 z = some o → z ≠ p → H17 z = some o := fun z o h n => s17 _ _ (k16 _ _ (s15 _ _ h) n)
        have hall : ∀ z ∈ ch :: rs, z ≠ p ∧ ∃ ms : List Int, H17 z = some (.lst (ms.map V.int)) ∧ ms.length ≤ 500 := fun z hz => by
          rcases List.mem_cons.mp hz with h | h
          · rw [h]; exact ⟨nch, il l, k1417 _ _ hch14 nch, by simp [il]; omega⟩
          · obtain ⟨a1, _, ms, a3, a4⟩ := hrs z h
            exact ⟨a1, ms, s17 _ _ a3, a4⟩
        refine ⟨b2, rfl, ⟨_, SqL.of hb217⟩, for_listA (K := K) (a := b2) (xs := (ch :: rs).map V.ref) (fun j σ H18 => (∀ z o, H17 z = some o → z ≠ p → H18 z = some o) ∧ Hand H18 p ∧ ∃ v8 v9 v10 v11 v12 v13, σ = [some (.ref a), some (.int c), some (.ref p), some (.ref lr), some (.ref q), some (.ref ch), some (.ref tx), some (.ref l3), v8, v9, v10, v11, v12, v13]) ⟨fun z o h _ => h, hp17, _, _, _, _, _, _, rfl⟩ (fun j σ H18 _ h => SqL.of (h.1 _ _ hb217 nb2)) ?_ ?_⟩
        · rintro D2 j v σ H18 nx2 hv ⟨k18, hp18, v8, v9, v10, v11, v12, v13, rfl⟩
          obtain ⟨so, hso, rfl⟩ : ∃ so, so ∈ ch :: rs ∧ v = V.ref so := by
            have := List.mem_of_getElem? hv
            obtain ⟨so, h1, h2⟩ := List.mem_map.mp this
            exact ⟨so, h1, h2.symm⟩
          obtain ⟨nso, ms, hso17, ml⟩ := hall so hso
          refine ⟨_, rfl, _, rfl, p, 3, rfl, hp18, by decide, by decide, fun r H19 r0 r1 hp19 k19 => ?_⟩
          have k1719 : ∀ z o, H17 z = some o → z ≠ p → H19 z = some o := fun z o h n => k19 _ _ (k18 _ _ h n) n
          have k1419 : ∀ z o, H14 z = some o → z ≠ p → H19 z = some o := fun z o h n => k1719 _ _ (k1417 _ _ h n) n
          obtain ⟨g, t, hat, hg, lt, tl, ng⟩ : ∃ (g : Addr) (t : List Nat), atI [V.ref tx, V.ref y2, V.ref y3] r = some (.ref g) ∧ H14 g = some (.lst (t.map sg)) ∧ Low t ∧ t.length = T.length ∧ g ≠ p := by
            have : r = 0 ∨ r = 1 ∨ r = 2 := by omega
            rcases this with h | h | h <;> subst h
            · exact ⟨tx, T, rfl, htx14, lT, rfl, ntx⟩
            · exact ⟨y2, t2, rfl, hy214, lt2, tl2, ny2⟩
            · exact ⟨y3, t3, rfl, hy314, lt3, tl3, ny3⟩
          refine ⟨l3, _, r, _, rfl, rfl, SqL.of (k1419 _ _ hl314 nl3), hat, ?_⟩
          have hg19 := k1419 _ _ hg ng
          have hq19 := k1419 _ _ hq14 nq
          have hso19 := k1719 _ _ hso17 nso
          refine ⟨_, rfl, _, rfl, _, rfl, g, q, so, t, u, ms, rfl, hg19, hq19, hso19, lt, lu, u1, by omega, by omega, by omega, fun v1 H20 T1 s20 => ?_⟩
          refine ⟨_, rfl, g, _, rfl, SqL.of (s20 _ _ hg19), fun h1 hh1 => ?_⟩
          have s21 := Same.upd (o := .lst (t.map sg)) hh1
          have a1 := upd_same (H := H20) (a := h1) (o := .lst (t.map sg))
          generalize L2.upd H20 h1 (.lst (t.map sg)) = H21 at s21 a1 ⊢
          refine ⟨_, rfl, q, _, rfl, SqL.of (s21 _ _ (s20 _ _ hq19)), fun h2 hh2 => ?_⟩
          have s22 := Same.upd (o := .lst (u.map sg)) hh2
          have a2 := upd_same (H := H21) (a := h2) (o := .lst (u.map sg))
          generalize L2.upd H21 h2 (.lst (u.map sg)) = H22 at s22 a2 ⊢
          refine ⟨_, rfl, so, _, rfl, SqL.of (s22 _ _ (s21 _ _ (s20 _ _ hso19))), fun h3 hh3 => ?_⟩
          have s23 := Same.upd (o := .lst (ms.map V.int)) hh3
          have a3 := upd_same (H := H22) (a := h3) (o := .lst (ms.map V.int))
          generalize L2.upd H22 h3 (.lst (ms.map V.int)) = H23 at s23 a3 ⊢
          refine ⟨by show 3 ≤ sizeLine; decide, fun hl hhl => ?_⟩
          have s24 := Same.upd (o := .lst [V.ref h1, .ref h2, .ref h3]) hhl
          have a4 := upd_same (H := H23) (a := hl) (o := .lst [V.ref h1, .ref h2, .ref h3])
          generalize L2.upd H23 hl (.lst [V.ref h1, .ref h2, .ref h3]) = H24 at s24 a4 ⊢
          have s2024 := ((s21.trans s22).trans s23).trans s24
          have s1924 := s20.trans s2024
          have b1 := s24 _ _ (s23 _ _ (s22 _ _ a1))
          have b2' := s24 _ _ (s23 _ _ a2)
          have b3 := s24 _ _ a3
          have T24 := T1.same s2024
          refine ⟨2, rfl, by decide, by decide, ?_⟩
          refine for_rangeA (lo := 0) (n := 2) (fun j σ H25 => Same H24 H25 ∧ ∃ v12 v13, σ = [some (.ref a), some (.int c), some (.ref p), some (.ref lr), some (.ref q), some (.ref ch), some (.ref tx), some (.ref l3), some (.ref so), some (.ref g), some v1, some (.ref hl), v12, v13]) ⟨Same.refl _, _, _, rfl⟩ ?_ ?_
          · rintro D3 j σ H25 nx3 hj ⟨s25, v12, v13, rfl⟩
            have a425 := s25 _ _ a4
            refine ⟨_, rfl, hl, _, _, _, rfl, rfl, SqL.of a425, rfl, _, rfl, hl, _, _, _, rfl, rfl, SqL.of a425, rfl, _, rfl, hl, _, _, _, rfl, rfl, SqL.of a425, rfl, h1, h2, h3, t, u, ms, rfl, s25 _ _ b1, s25 _ _ b2', s25 _ _ b3, lt, lu, u1, by omega, by omega, by omega, fun v2 H26 T2 s26 => ?_⟩
            have s2426 := s25.trans s26
            obtain ⟨ty, y1, y2'⟩ := isi_told (K := K) T2
            refine ⟨_, rfl, ty, false, y1, y2', false, rfl, iteF ?_⟩
            refine ⟨_, rfl, _, rfl, ne_told T2 (T24.same s2426) ⟨false, rfl, iteF ?_⟩⟩
            have s1926 := s1924.trans s2426
            refine ⟨_, rfl, _, rfl, _, rfl, _, rfl, by show 3 ≤ sizeLine; decide, fun kl hkl => ?_⟩
            have s27 := Same.upd (o := .lst [V.ref g, .ref q, .ref so]) hkl
            have a5 := upd_same (H := H26) (a := kl) (o := .lst [V.ref g, .ref q, .ref so])
            generalize L2.upd H26 kl (.lst [V.ref g, .ref q, .ref so]) = H27 at s27 a5 ⊢
            have s2427 := s2426.trans s27
            have s1927 := s1926.trans s27
            exact ne_three lt lu (s2427 _ _ a4) (s2427 _ _ b1) (s2427 _ _ b2') (s2427 _ _ b3) a5 (s1927 _ _ hg19) (s1927 _ _ hq19) (s1927 _ _ hso19) ⟨false, rfl, iteF (nx3 _ _ ⟨s2427, _, _, rfl⟩)⟩
          · rintro σ H25 ⟨s25, v12, v13, rfl⟩
            have s1925 := s1924.trans s25
            exact nx2 _ _ ⟨fun z o h n => s1925 _ _ (k1719 _ _ h n), hp19.same s1925, _, _, _, _, _, _, rfl⟩
        · rintro σ H18 ⟨k18, hp18, v8, v9, v10, v11, v12, v13, rfl⟩
          exact nx1 _ _ ⟨k18 _ _ (k1417 _ _ hb14 nb) nb, _, _, _, _, _, _, _, _, _, _, _, _, _, rfl⟩
    · rintro σ H2 ⟨hb2, v1, v2, v3, v4, v5, v6, v7, v8, v9, v10, v11, v12, v13, rfl⟩
      exact k H2
end

end Ov

namespace Ov
open PySem L2
theorem all_mk {P : Program} {w : World} {K : PySem.W.Frag} {h : Heap} {mg : Str → Option Value} {fa : Addr} (X : K.In h) (G : h.Ns mainGlobals mg) (hfa : mg "law" = some (.ref fa))
    (f1 : FF K "_law_pot" sPot) (f2 : FF K "_law_take" sTake) (f3 : FF K "_law_letters" sLetters) (f4 : FF K "_law_signs" sSigns) (f5 : FF K "_law_word" sWord) (f6 : FF K "_law_shifts" sShiftsL) (f7 : FF K "_law_spoilt" sSpoilt) (f8 : FF K "is_sign" sIsSign) (f9 : FF K "check_signs" sCheck)
    (f10 : FF K "check_word" sCheckWord) (f11 : FF K "borders" sBorders) (f12 : FF K "periods" sPeriods) (f13 : FF K "shifts" sShifts) (f14 : FF K "check_fits" sFits) (f15 : FF K "is_chain" sIsChain) (f16 : FF K "laid_out" sLaidOut) (f17 : FF K "chain_cost" sCost) (f18 : FF K "_law_flags" sFlags) (f19 : FF K "_law_due_flags" sDueFlags) (f20 : FF K "_law_laid_chain" sLaidC) (f21 : FF K "_law_shown" sShown) (f22 : FF K "_law_due" sDue) (f23 : FF K "_law_bent" sBent) (f24 : FF K "_law_said" sSaid) (f25 : FF K "law" sLaw)
    (x : Md K mg → ∃ c0 c1 c2 c3 c4 c5 c6 c7 c8 c9 : Addr, Exs K mg c0 c1 c2 c3 c4 c5 c6 c7 c8 c9) (na : PySem.W.nsIn K mainGlobals "all" = some none) (ns : PySem.W.nsIn K mainGlobals "sorted" = some none) (b : Md K mg → Bl mg) :
    ∃ fd : FuncData, (∀ (s : Shared) (v : Value), BindsTo s fd ⟨[v], []⟩ [("script", v)]) ∧ ∀ base : Heap, K.In base → base.Ns mainGlobals mg → FnOk P w K mg base CX0 9 fa fd ["script"] (spLaw K) := by
  have M := md_of X G
  have Bl := b M
  obtain ⟨c0, c1, c2, c3, c4, c5, c6, c7, c8, c9, S⟩ := x M
  refine law_of M f25 hfa (fun _ _ _ _ _ _ s v => .of_eq rfl) fun base => ?_
  have oC : Exc K mg "NoChain" c5 := ⟨S.bNoChain, (excFacts.of S.facts c5 (by simp)).isIn⟩
  have nall : mg "all" = none := M.ns _ _ na
  have nsorted : mg "sorted" = none := M.ns _ _ ns
  have g1 := ok_pot (P := P) (w := w) (base := base) M Bl f1
  have g2 := ok_take (P := P) (w := w) (base := base) M f2
  have g3 := ok_letters M Bl f3 g2
  have g4 := ok_signs M Bl f4 g2
  have g5 := ok_word M Bl f5 g2 g4
  have g6 := ok_shiftsL (P := P) (w := w) (base := base) M Bl f6
  have g7 := ok_spoilt M Bl f7 g2
  have g8 := ok_is_sign (P := P) (w := w) (base := base) M Bl f8
  have g9 := ok_check M Bl f9 g8
  have g10 := ok_check_word M Bl f10 g9
  have g11 := ok_borders M Bl f11 g9
  have g12 := ok_periods M Bl f12 g11
  have g13 := ok_shifts M Bl f13 g10 g12
  have g14 := ok_fits M Bl f14 g9 g10
  have g15 := ok_is_chain M Bl nall f15 g13
  have g16 := ok_laid_out (P := P) (w := w) (base := base) M Bl f16
  have g17 := ok_costX M Bl f17 oC g14 g15 g16
  have g18 := ok_flagsH (P := P) (w := w) (base := base) M Bl f18 S
  have g19 := ok_due_flags (P := P) (w := w) (base := base) M Bl f19
  have g20 := ok_laidC M Bl f20 g2 g6
  have g21 := ok_shown (P := P) (w := w) (base := base) M Bl nsorted f21
  have g22 := ok_due M Bl f22 g6 g19 g21
  have g23 := ok_bent M Bl f23 g2
  have g24 := ok_said M Bl f24 S g17 g18
  exact ok_law M Bl f25 g1 g2 g3 g4 g5 g20 g21 g7 g23 (fn_told g22) (fn_told g24)

end Ov

namespace Ov
open PySem L2
theorem walk {l : PySem.W.OpenLaw} {q : Program} {loose : List Str} {XP : (Str → Option Value) → Heap → Prop} {YP : World → Heap → Prop} {d : DefRec} {K : Params → PySem.W.Frag} (hn : l.most = some 63) (hdf : d.params.defaults = [])
    (hY : ∀ (w : World) (h : Heap), YP w h → (K w.params).In h)
    (F : ∀ (w : World) (mg : Str → Option Value) (fa : Addr) (h : Heap), (K w.params).In h → h.Ns mainGlobals mg → mg d.name = some (.ref fa) →
      ∃ fd : FuncData, (∀ (s : Shared) (u : Value), BindsTo s fd ⟨[u], []⟩ [("script", u)]) ∧ ∀ base : Heap, (K w.params).In base → base.Ns mainGlobals mg → FnOk l.prog w (K w.params) mg base CX0 9 fa fd ["script"] (spLaw (K w.params))) :
    PySem.W.WalkO q loose XP YP l.row.toRowW d [] (fun f vs => PySem.call f vs) :=
  L2.walk_of (n := 63) (k := 9) (x := "script") (CX := fun _ => CX0) (sp := fun w => spLaw (K w.params)) hn (by decide) hdf ⟨rfl, by decide, by decide⟩ hY F (fun _ _ a ns hl _ hS => ⟨a, ns, rfl, hS, hl, fun _ => rfl⟩) fun _ _ _ _ _ z => z

end Ov


open PySem PySem.W PyProof.Rows
set_option maxRecDepth 100000 in
set_option maxHeartbeats 0 in
theorem PySem.Challenge.cw_overlaid_k30_costs_of_chains_holds : PySem.Challenge.rw_overlaid_k30_costs_of_chains.Holds := by
  w_on; o_law; k_head; (case hw => w_witness2)
  k_fill
  refine Ov.walk (l := PySem.Challenge.rw_overlaid_k30_costs_of_chains) rfl rfl (fun w h Y => PySem.W.kIn_of Y) ?F
  case F =>
    intro w mg fa h KX G hmg
    refine' Ov.all_mk KX G hmg ?f1 ?f2 ?f3 ?f4 ?f5 ?f6 ?f7 ?f8 ?f9 ?f10 ?f11 ?f12 ?f13 ?f14 ?f15 ?f16 ?f17 ?f18 ?f19 ?f20 ?f21 ?f22 ?f23 ?f24 ?f25 ?X ?Nall ?Nsorted ?B
    (case f1 => (refine' L2.ff_mk ?a ?l ?c ?k; (case a => k_is); (case l => k_is); (case c => k_is); (case k => k_is)))
    (case f2 => (refine' L2.ff_mk ?a ?l ?c ?k; (case a => k_is); (case l => k_is); (case c => k_is); (case k => k_is)))
    (case f3 => (refine' L2.ff_mk ?a ?l ?c ?k; (case a => k_is); (case l => k_is); (case c => k_is); (case k => k_is)))
    (case f4 => (refine' L2.ff_mk ?a ?l ?c ?k; (case a => k_is); (case l => k_is); (case c => k_is); (case k => k_is)))
    (case f5 => (refine' L2.ff_mk ?a ?l ?c ?k; (case a => k_is); (case l => k_is); (case c => k_is); (case k => k_is)))
    (case f6 => (refine' L2.ff_mk ?a ?l ?c ?k; (case a => k_is); (case l => k_is); (case c => k_is); (case k => k_is)))
    (case f7 => (refine' L2.ff_mk ?a ?l ?c ?k; (case a => k_is); (case l => k_is); (case c => k_is); (case k => k_is)))
    (case f8 => (refine' L2.ff_mk ?a ?l ?c ?k; (case a => k_is); (case l => k_is); (case c => k_is); (case k => k_is)))
    (case f9 => (refine' L2.ff_mk ?a ?l ?c ?k; (case a => k_is); (case l => k_is); (case c => k_is); (case k => k_is)))
    (case f10 => (refine' L2.ff_mk ?a ?l ?c ?k; (case a => k_is); (case l => k_is); (case c => k_is); (case k => k_is)))
    (case f11 => (refine' L2.ff_mk ?a ?l ?c ?k; (case a => k_is); (case l => k_is); (case c => k_is); (case k => k_is)))
    (case f12 => (refine' L2.ff_mk ?a ?l ?c ?k; (case a => k_is); (case l => k_is); (case c => k_is); (case k => k_is)))
    (case f13 => (refine' L2.ff_mk ?a ?l ?c ?k; (case a => k_is); (case l => k_is); (case c => k_is); (case k => k_is)))
    (case f14 => (refine' L2.ff_mk ?a ?l ?c ?k; (case a => k_is); (case l => k_is); (case c => k_is); (case k => k_is)))
    (case f15 => (refine' L2.ff_mk ?a ?l ?c ?k; (case a => k_is); (case l => k_is); (case c => k_is); (case k => k_is)))
    (case f16 => (refine' L2.ff_mk ?a ?l ?c ?k; (case a => k_is); (case l => k_is); (case c => k_is); (case k => k_is)))
    (case f17 => (refine' L2.ff_mk ?a ?l ?c ?k; (case a => k_is); (case l => k_is); (case c => k_is); (case k => k_is)))
    (case f18 => (refine' L2.ff_mk ?a ?l ?c ?k; (case a => k_is); (case l => k_is); (case c => k_is); (case k => k_is)))
    (case f19 => (refine' L2.ff_mk ?a ?l ?c ?k; (case a => k_is); (case l => k_is); (case c => k_is); (case k => k_is)))
    (case f20 => (refine' L2.ff_mk ?a ?l ?c ?k; (case a => k_is); (case l => k_is); (case c => k_is); (case k => k_is)))
    (case f21 => (refine' L2.ff_mk ?a ?l ?c ?k; (case a => k_is); (case l => k_is); (case c => k_is); (case k => k_is)))
    (case f22 => (refine' L2.ff_mk ?a ?l ?c ?k; (case a => k_is); (case l => k_is); (case c => k_is); (case k => k_is)))
    (case f23 => (refine' L2.ff_mk ?a ?l ?c ?k; (case a => k_is); (case l => k_is); (case c => k_is); (case k => k_is)))
    (case f24 => (refine' L2.ff_mk ?a ?l ?c ?k; (case a => k_is); (case l => k_is); (case c => k_is); (case k => k_is)))
    (case f25 => (refine' L2.ff_mk ?a ?l ?c ?k; (case a => k_is); (case l => k_is); (case c => k_is); (case k => k_is)))
    (case X => (intro M; refine' ⟨_, _, _, _, _, _, _, _, _, _, Ov.exs_mk M ?a0 ?a1 ?a2 ?a3 ?a4 ?a5 ?a6 ?a7 ?a8 ?a9 ?av ?ef ?nd⟩; (case a0 => k_is); (case a1 => k_is); (case a2 => k_is); (case a3 => k_is); (case a4 => k_is); (case a5 => k_is); (case a6 => k_is); (case a7 => k_is); (case a8 => k_is); (case a9 => k_is); (case av => k_is); (case ef => kernel_rfl); (case nd => decide)))
    (case Nall => k_is)
    (case Nsorted => k_is)
    (case B => (intro M; refine' L2.bl_of M ?b1 ?b2 ?b3 ?b4 ?b5 ?b6 ?b7 ?b8 ?b9 ?b10 ?b11 ?b12 ?b13 ?b14 ?b15; (case b1 => k_is); (case b2 => k_is); (case b3 => k_is); (case b4 => k_is); (case b5 => k_is); (case b6 => k_is); (case b7 => k_is); (case b8 => k_is); (case b9 => k_is); (case b10 => k_is); (case b11 => k_is); (case b12 => k_is); (case b13 => k_is); (case b14 => k_is); (case b15 => k_is)))
