import PyProof.Rows.All
import Wide.All
import OpenK.AllK
import Wide.FinOn
import Lean
import PyProof.EqAt
import PyProof.EqKinds
import PyProof.TupleCall
import PySem.Challenge.RW_overlaid_k15_whole_covers
set_option Elab.async false
set_option linter.all false
set_option maxRecDepth 100000
/-! THE HAND LAYER, for ints, bools, texts, own classes, LISTS and tuples (index, slices, in, append, pop ..), calls, loops. Paste it whole ahead of your own text; what your proof does not reach may be deleted. -/
namespace L2
open PySem PySem.Spec PyProof.Rows

/-- a key: an int or a str -/
abbrev Key := Sum Int Str
def keyIs : Key → Value → Bool
  | .inl k, v => Value.isInt k v
  | .inr x, v => Value.isStrOf x v
def keyH (w : World) : Key → Int
  | .inl k => hashInt k
  | .inr x => hashStr w x
theorem keyIs_shape : ∀ {k : Key} {v : Value}, keyIs k v = true → (∃ i t, k = Sum.inl i ∧ v = Value.int i t) ∨ (∃ x t, k = Sum.inr x ∧ v = Value.str x t)
  | .inl i, v, h => by
    obtain ⟨t, e⟩ := Value.isInt_shape (k := i) (v := v) h
    exact .inl ⟨i, t, rfl, e⟩
  | .inr x, v, h => by
    obtain ⟨t, e⟩ := Value.isStrOf_shape (x := x) (v := v) h
    exact .inr ⟨x, t, rfl, e⟩
theorem keyIs_int (i : Int) (t : Tok) : keyIs (.inl i) (.int i t) = true := by simp [keyIs, Value.isInt]
theorem keyIs_str (x : Str) (t : Tok) : keyIs (.inr x) (.str x t) = true := by simp [keyIs, Value.isStrOf]
theorem key_ll (a b : Int) : decide ((Sum.inl a : Key) = Sum.inl b) = (a == b) := by
  by_cases e : a = b
  · subst e; simp
  · have h : ¬ (Sum.inl a : Key) = Sum.inl b := fun q => e (Sum.inl.inj q)
    rw [decide_eq_false h]
    exact (beq_eq_false_iff_ne.mpr e).symm
theorem key_rr (a b : Str) : decide ((Sum.inr a : Key) = Sum.inr b) = decide (a = b) := by
  by_cases e : a = b
  · subst e; simp
  · have h : ¬ (Sum.inr a : Key) = Sum.inr b := fun q => e (Sum.inr.inj q)
    rw [decide_eq_false h, decide_eq_false e]
theorem key_lr (a : Int) (b : Str) : decide ((Sum.inl a : Key) = Sum.inr b) = false := decide_eq_false (fun q => nomatch q)
theorem key_rl (a : Str) (b : Int) : decide ((Sum.inr a : Key) = Sum.inl b) = false := decide_eq_false (fun q => nomatch q)

def mixKind (prog : Program) (w : World) : PySem.KeyKind prog w Key where
  is := keyIs
  hash := keyH w
  inj := fun v a b ha hb => by
    rcases keyIs_shape ha with ⟨i, t, rfl, rfl⟩ | ⟨x, t, rfl, rfl⟩
    · rcases keyIs_shape hb with ⟨j, u, rfl, e⟩ | ⟨y, u, rfl, e⟩
      · injection e with e1 _; rw [e1]
      · exact nomatch e
    · rcases keyIs_shape hb with ⟨j, u, rfl, e⟩ | ⟨y, u, rfl, e⟩
      · exact nomatch e
      · injection e with e1 _; rw [e1]
  byValue := fun k v h => by
    rcases keyIs_shape h with ⟨i, t, rfl, rfl⟩ | ⟨x, t, rfl, rfl⟩ <;> rfl
  pyHash := fun hv h => by
    rcases keyIs_shape hv with ⟨i, t, rfl, rfl⟩ | ⟨x, t, rfl, rfl⟩
    · exact wpAny_pyHash_int h
    · exact wpAny_pyHash_str h
  eqBool := fun hu hv h => by
    rcases keyIs_shape hu with ⟨i, t, rfl, rfl⟩ | ⟨x, t, rfl, rfl⟩
    · rcases keyIs_shape hv with ⟨j, u, rfl, rfl⟩ | ⟨y, u, rfl, rfl⟩
      · rw [key_ll] at h; exact wpAny_eqBool_int h
      · rw [key_lr] at h; exact SeqAt.EqAt.int_str i t y u _ _ _ _ h
    · rcases keyIs_shape hv with ⟨j, u, rfl, rfl⟩ | ⟨y, u, rfl, rfl⟩
      · rw [key_rl] at h; exact SeqAt.EqAt.str_int x t j u _ _ _ _ h
      · rw [key_rr] at h; exact wpAny_eqBool_str h
  «strs» := fun k x t v h => by
    rcases keyIs_shape h with ⟨i, u, rfl, e⟩ | ⟨y, u, rfl, e⟩
    · exact nomatch e
    · injection e with e1 _
      subst e1
      cases v <;> rfl

theorem mixKind_int (prog : Program) (w : World) (i : Int) (t : Tok) : (mixKind prog w).is (.inl i) (.int i t) = true := keyIs_int i t
theorem mixKind_str (prog : Program) (w : World) (x : Str) (t : Tok) : (mixKind prog w).is (.inr x) (.str x t) = true := keyIs_str x t
end L2

namespace L2
open PySem PySem.Spec PyProof.Rows

/-- a value, without the heap -/
inductive V where
  | non | bl (b : Bool) | int (i : Int) | str (x : Str) | byt (b : Array UInt8) | flt (b : UInt64) | ref (a : Addr) | ty (n : String)
  deriving DecidableEq

def RelV : V → Value → Prop
  | .non, u => u = Value.none
  | .bl b, u => u = Value.bool b
  | .int i, u => ∃ t, u = Value.int i t
  | .str x, u => ∃ t, u = Value.str x t
  | .byt b, u => ∃ t, u = Value.bytes b t
  | .flt b, u => ∃ t, u = Value.float b t
  | .ref a, u => u = Value.ref a
  | .ty n, u => u = Value.type n

abbrev Vals : List V → List Value → Prop := Paired RelV
theorem Vals.length {xs : List V} {us : List Value} (r : Vals xs us) : xs.length = us.length := Paired.length r
theorem Vals.get : ∀ {xs : List V} {us : List Value} {i : Nat} {x : V}, Vals xs us → xs[i]? = some x → ∃ u, us[i]? = some u ∧ RelV x u
  | _, _, _, _, .nil, e => by simp at e
  | _, _, 0, _, .cons r _, e => by simp at e; subst e; exact ⟨_, rfl, r⟩
  | _, _, i + 1, x, .cons _ t, e => by
    obtain ⟨u, h1, h2⟩ := Vals.get (i := i) (x := x) t (by simpa using e)
    exact ⟨u, by simpa using h1, h2⟩
theorem Vals.set {x : V} {u : Value} (r : RelV x u) : ∀ {xs : List V} {us : List Value} (i : Nat), Vals xs us → Vals (xs.set i x) (us.set i u)
  | _, _, _, .nil => .nil
  | _, _, 0, .cons _ t => .cons r t
  | _, _, i + 1, .cons q t => .cons q (Vals.set r i t)
theorem Vals.append : ∀ {xs ys : List V} {us ws : List Value}, Vals xs us → Vals ys ws → Vals (xs ++ ys) (us ++ ws)
  | _, _, _, _, .nil, s => s
  | _, _, _, _, .cons r t, s => .cons r (Vals.append t s)
theorem Vals.take : ∀ {xs : List V} {us : List Value} (n : Nat), Vals xs us → Vals (xs.take n) (us.take n)
  | _, _, 0, _ => .nil
  | _, _, _ + 1, .nil => .nil
  | _, _, n + 1, .cons r t => .cons r (Vals.take n t)
theorem Vals.drop : ∀ {xs : List V} {us : List Value} (n : Nat), Vals xs us → Vals (xs.drop n) (us.drop n)
  | _, _, 0, r => r
  | _, _, _ + 1, .nil => .nil
  | _, _, n + 1, .cons _ t => Vals.drop n t

def RelO : Option V → Option Value → Prop
  | some v, some u => RelV v u
  | none, none => True
  | _, _ => False
def KV {κ : Type} : List (κ × V) → List (κ × Value) → Prop := Paired fun (p : κ × V) (q : κ × Value) => p.1 = q.1 ∧ RelV p.2 q.2

/-- a key of a dict (00_mix): an int or a text -/
def kV : Key → V
  | .inl i => .int i
  | .inr x => .str x

/-- what stands at a tracked address -/
inductive HO where
  /-- a list -/
  | lst (xs : List V)
  /-- a tuple (never changes) -/
  | tup (xs : List V)
  /-- a dict whose keys are ints and texts; one whose keys are tuples of ints and texts (the empty one is both) -/
  | dK (kvs : List (Key × V)) | dT (kvs : List (List Key × V))
  /-- a set of ints: its members, its size -/
  | set (S : Int → Bool) (n : Nat)
  /-- an instance of the class at C, its dict at dx, its attributes -/
  | ins (C dx : Addr) (fs : List (Str × V))
  /-- the dict of the instance at x -/
  | own (x : Addr)
  /-- the dict of an exception -/
  | xd (fs : List (Str × V))
  /-- a bound method, f of x -/
  | met (f x : Addr)
  /-- a range object lo, lo + 1, .. below hi -/
  | rng (lo hi : Int)
  /-- a thing that is known to the object (the script; a dict while a loop walks it): read, never written while it is so -/
  | frz (o : Obj) (u : HO)
  /-- a code object's table -/
  | tbl (ps : Array Value)
  /-- any other thing, by what is true of its one object (a def of one's own: SetO a S n := HO.ext fun h => ..) -/
  | ext (φ : Heap → Prop)

abbrev Hp := Addr → Option HO
def upd (H : Hp) (a : Addr) (o : HO) : Hp := fun b => if b = a then some o else H b
theorem upd_same {H : Hp} {a : Addr} {o : HO} : upd H a o a = some o := by unfold upd; rw [if_pos rfl]
theorem upd_ne {H : Hp} {a b : Addr} {o : HO} (h : b ≠ a) : upd H a o b = H b := by unfold upd; rw [if_neg h]
/-- two objects of different content stand apart -/
theorem ne_of {H : Hp} {a b : Addr} {o u : HO} (h : H a = some o) (h' : H b = some u) (d : o ≠ u) : a ≠ b := by
  intro e; subst e; rw [h] at h'; exact d (Option.some.inj h')
theorem ne_of_none {H : Hp} {a b : Addr} {o : HO} (h : H a = some o) (h' : H b = none) : a ≠ b := by
  intro e; subst e; rw [h] at h'; cases h'

section
variable (P : Program) (w : World)
def ObjOk (H : Hp) (h : Heap) (a : Addr) : HO → Prop
  | .lst xs => xs.length ≤ sizeLine ∧ ∃ (its : List Value) (n : Nat), Vals xs its ∧ h.get? a = some { cls := .type "list", data := .seq its.toArray n }
  | .tup xs => xs.length ≤ sizeLine ∧ ∃ its : List Value, Vals xs its ∧ IsTup h a its.toArray
  | .dK kvs => kvs.length ≤ sizeLine ∧ (a == sysModules) = false ∧ ∃ vs, KV kvs vs ∧ h.DictOf (mixKind P w) a vs
  | .dT kvs => kvs.length ≤ sizeLine ∧ (a == sysModules) = false ∧ ∃ xs : List (List Key × Addr × Value),
      Paired (fun (p : List Key × V) (q : List Key × Addr × Value) => p.1 = q.1 ∧ H q.2.1 = some (.tup (p.1.map kV)) ∧ RelV p.2 q.2.2) kvs xs ∧
      ∃ o es ep, h.get? a = some o ∧ o.ExactDict ∧ o.data = .dict es ep ∧ es.toList = xs.map (entryOfKey (tupleKind (mixKind P w))) ∧ (xs.map (·.1)).Nodup
  | .set S n => h.SetOf (intKind P w) a S n
  | .ins C dx fs => H dx = some (.own a) ∧ fs.length ≤ 1000 ∧ dx ≠ a ∧ h.get? a = some (PySem.W.instObj C dx) ∧
      ∃ mA, h.Ns1 dx mA ∧ (∀ f, RelO (fs.lookup f) (mA f)) ∧ PySem.Within mA (fs.map (·.1))
  | .own _ => ∃ o, h.get? a = some o
  | .xd fs => ∃ mA, h.Ns1 a mA ∧ ∀ f, RelO (fs.lookup f) (mA f)
  | .rng lo hi => ∃ t u v, h.get? a = some { cls := .type "range", data := .fields #[.int lo t, .int hi u, .int 1 v] }
  | .frz o u => h.get? a = some o ∧ ObjOk H h a u
  | .tbl ps => h.get? a = some { cls := .none, data := .fields ps }
  | .met f x => h.get? a = some (PySem.W.methodObj (.ref f) (.ref x))
  | .ext φ => φ h ∧ (∃ o, h.get? a = some o) ∧ ∀ h1 h2 : Heap, φ h1 → (∀ o, h1.get? a = some o → h2.get? a = some o) → φ h2
/-- the abstract heap is held -/
def HOk (H : Hp) (h : Heap) : Prop := ∀ a o, H a = some o → ObjOk P w H h a o
end

section
variable {P : Program} {w : World} {H H' : Hp} {h h' : Heap} {a : Addr} {o : HO}
theorem ObjOk.lt (x : ObjOk P w H h a o) : a < h.objs.size := by
  cases o with
  | lst xs => obtain ⟨_, _, _, _, e⟩ := x; exact Heap.lt_size e
  | tup xs => obtain ⟨_, _, _, p⟩ := x; exact p.lt
  | dK kvs => obtain ⟨_, _, _, _, o, _, _, e, _⟩ := x; exact Heap.lt_size e
  | dT kvs => obtain ⟨_, _, _, _, o, _, _, e, _⟩ := x; exact Heap.lt_size e
  | set S n => obtain ⟨o, _, _, _, e, _⟩ := x; exact Heap.lt_size e
  | ins C dx fs => obtain ⟨_, _, _, e, _⟩ := x; exact Heap.lt_size e
  | own y => obtain ⟨_, e⟩ := x; exact Heap.lt_size e
  | xd fs => obtain ⟨_, ⟨_, _, _, e, _⟩, _⟩ := x; exact Heap.lt_size e
  | rng lo hi => obtain ⟨_, _, _, e⟩ := x; exact Heap.lt_size e
  | frz ob u => obtain ⟨e, _⟩ := x; exact Heap.lt_size e
  | tbl ps => exact Heap.lt_size (show h.get? a = some _ from x)
  | met f y => exact Heap.lt_size (show h.get? a = some _ from x)
  | ext φ => obtain ⟨_, ⟨_, e⟩, _⟩ := x; exact Heap.lt_size e
theorem Paired.mapP {α β : Type} {F G : α → β → Prop} : ∀ {l₁ : List α} {l₂ : List β}, Paired F l₁ l₂ → (∀ a b, F a b → G a b) → Paired G l₁ l₂
  | _, _, .nil, _ => .nil
  | _, _, .cons r t, f => .cons (f _ _ r) (Paired.mapP t f)
/-- what an object's description leans on: its own object, its own dict, the tuples -/
theorem ObjOk.stay (x : ObjOk P w H h a o) (k : ∀ b u, (b = a ∨ H b = some (.own a)) → h.get? b = some u → h'.get? b = some u)
    (ho : ∀ b, H b = some (.own a) → H' b = some (.own a)) (ht : ∀ b xs, H b = some (.tup xs) → H' b = some (.tup xs)) : ObjOk P w H' h' a o := by
  induction o with
  | lst xs => obtain ⟨z, its, n, r, e⟩ := x; exact ⟨z, its, n, r, k _ _ (.inl rfl) e⟩
  | tup xs => obtain ⟨z, its, r, ob, e, c⟩ := x; exact ⟨z, its, r, ob, k _ _ (.inl rfl) e, c⟩
  | dK kvs => obtain ⟨z, y, vs, r, ob, es, ep, e, c⟩ := x; exact ⟨z, y, vs, r, ob, es, ep, k _ _ (.inl rfl) e, c⟩
  | dT kvs =>
    obtain ⟨z, y, xs, r, ob, es, ep, e, c⟩ := x
    exact ⟨z, y, xs, Paired.mapP r fun p q z => ⟨z.1, ht _ _ z.2.1, z.2.2⟩, ob, es, ep, k _ _ (.inl rfl) e, c⟩
  | set S n => obtain ⟨ob, es, ep, t, e, c⟩ := x; exact ⟨ob, es, ep, t, k _ _ (.inl rfl) e, c⟩
  | ins C dx fs =>
    obtain ⟨d, z, ne, e, mA, ⟨od, es, ep, e2, c⟩, r⟩ := x
    exact ⟨ho _ d, z, ne, k _ _ (.inl rfl) e, mA, ⟨od, es, ep, k _ _ (.inr d) e2, c⟩, r⟩
  | own y => obtain ⟨ob, e⟩ := x; exact ⟨ob, k _ _ (.inl rfl) e⟩
  | xd fs => obtain ⟨mA, ⟨od, es, ep, e, c⟩, r⟩ := x; exact ⟨mA, ⟨od, es, ep, k _ _ (.inl rfl) e, c⟩, r⟩
  | rng lo hi => obtain ⟨t, u, v, e⟩ := x; exact ⟨t, u, v, k _ _ (.inl rfl) e⟩
  | frz ob u ih => obtain ⟨e, q⟩ := x; exact ⟨k _ _ (.inl rfl) e, ih q⟩
  | tbl ps =>
    have e : h.get? a = some { cls := .none, data := .fields ps } := x
    show h'.get? a = some { cls := .none, data := .fields ps }
    exact k a _ (.inl rfl) e
  | met f y =>
    have e : h.get? a = some (PySem.W.methodObj (.ref f) (.ref y)) := x
    show h'.get? a = some (PySem.W.methodObj (.ref f) (.ref y))
    exact k a _ (.inl rfl) e
  | ext φ => obtain ⟨p, ⟨o, e⟩, st⟩ := x; exact ⟨st _ _ p fun o q => k _ _ (.inl rfl) q, ⟨o, k _ _ (.inl rfl) e⟩, st⟩
theorem HOk.lt (x : HOk P w H h) (e : H a = some o) : a < h.objs.size := (x a o e).lt
theorem HOk.fresh (x : HOk P w H h) (e : h.objs.size ≤ a) : H a = none := by
  cases q : H a with
  | none => rfl
  | some u => exact absurd (Nat.lt_of_lt_of_le (x.lt q) e) (Nat.lt_irrefl _)
/-- every object of the heap is kept -/
theorem HOk.kept (x : HOk P w H h) (k : ∀ b u, h.get? b = some u → h'.get? b = some u) : HOk P w H h' := fun a o e =>
  (x a o e).stay (fun b u _ q => k b u q) (fun _ q => q) fun _ _ q => q
/-- a new object is laid and tracked -/
theorem HOk.laid (x : HOk P w H h) (k : ∀ b u, h.get? b = some u → h'.get? b = some u) (hp : h.objs.size ≤ a) (new : ObjOk P w (upd H a o) h' a o) : HOk P w (upd H a o) h' := fun b u e => by
  have hn := x.fresh hp
  by_cases hb : b = a
  · subst hb; rw [upd_same] at e; cases e; exact new
  · rw [upd_ne hb] at e
    exact (x b u e).stay (fun c v _ q => k c v q) (fun c q => by rw [upd_ne (ne_of_none q hn)]; exact q) fun c xs q => by rw [upd_ne (ne_of_none q hn)]; exact q
end

/-- what may be read as u: it is u, or a known u -/
def Rd (H : Hp) (a : Addr) (u : HO) : Prop := H a = some u ∨ ∃ o, H a = some (.frz o u)
theorem Rd.of {H : Hp} {a : Addr} {u : HO} (h : H a = some u) : Rd H a u := .inl h
theorem Rd.ok {P : Program} {w : World} {H : Hp} {h : Heap} {a : Addr} {u : HO} (r : Rd H a u) (x : HOk P w H h) : ObjOk P w H h a u := by
  rcases r with r | ⟨o, r⟩
  · exact x a u r
  · obtain ⟨_, q⟩ := x a _ r
    exact q
/-- what may be written -/
def Mut : Option HO → Prop
  | some (.lst _) => True
  | some (.dK _) => True
  | some (.dT _) => True
  | some (.set _ _) => True
  | some (.ins _ _ _) => True
  | some (.ext _) => True
  | _ => False
section
variable {P : Program} {w : World} {H : Hp} {h h' : Heap} {x e : Addr} {o' : HO}
/-- the object at e is changed: x itself, or the dict of the instance x -/
theorem HOk.write (ok : HOk P w H h) (mu : Mut (H x)) (he : e = x ∨ H e = some (.own x)) (k : ∀ b u, b ≠ e → h.get? b = some u → h'.get? b = some u) (heo : ∃ u, h'.get? e = some u)
    (new : ObjOk P w (upd H x o') h' x o') : HOk P w (upd H x o') h' := fun b u q => by
  have nown : ∀ c y, H c = some (.own y) → c ≠ x := fun c y r z => by subst z; rw [r] at mu; exact mu
  have ntup : ∀ c xs, H c = some (.tup xs) → c ≠ x := fun c xs r z => by subst z; rw [r] at mu; exact mu
  by_cases hb : b = x
  · subst hb; rw [upd_same] at q; cases q; exact new
  · rw [upd_ne hb] at q
    by_cases hbe : b = e
    · have q' : H b = some (.own x) := by
        rcases he with z | z
        · exact absurd (hbe.trans z) hb
        · rw [hbe]; exact z
      rw [q] at q'; cases q'
      obtain ⟨v, hv⟩ := heo
      exact ⟨v, by rw [hbe]; exact hv⟩
    · refine (ok b u q).stay (fun c v hc r => k c v ?_ r) (fun c r => by rw [upd_ne (nown c b r)]; exact r) fun c xs r => by rw [upd_ne (ntup c xs r)]; exact r
      rcases hc with rfl | hc
      · exact hbe
      · rintro rfl
        rcases he with z | z
        · exact nown c b hc z
        · rw [hc] at z; cases z; exact hb rfl
end

/-! ### kept unless tracked; of the frames at fs (the callers') the slots may change (an exception that passes writes there); of the records at ex (iterators) nothing is said -/
structure Un (fs ex : List Addr) (H H' : Hp) (h h' : Heap) : Prop where
  keep : ∀ b o, h.get? b = some o → H b = none → b ∉ fs → b ∉ ex → h'.get? b = some o
  slot : ∀ b o, h.get? b = some o → H b = none → b ∈ fs → b ∉ ex → ∃ sl, h'.get? b = some { o with slots := sl }
  free : ∀ b o, h.get? b = some o → H b = none → b ∉ ex → H' b = none
  there : ∀ b o, h.get? b = some o → b ∉ ex → ∃ o', h'.get? b = some o'
  tups : ∀ b xs, H b = some (.tup xs) → H' b = some (.tup xs)
  frzs : ∀ b o u, H b = some (.frz o u) → H' b = some (.frz o u)
  tbls : ∀ b ps, H b = some (.tbl ps) → ∃ more, H' b = some (.tbl (ps ++ more))
section
variable {fs fs' ex ex' : List Addr} {H H1 H2 : Hp} {h h1 h2 h' : Heap} {a x e : Addr} {o : HO}
theorem Un.any (u : Un fs ex H H1 h h1) {b : Addr} {ob : Obj} (q : h.get? b = some ob) (n : H b = none) (hx : b ∉ ex) : ∃ sl, h1.get? b = some { ob with slots := sl } := by
  by_cases hb : b ∈ fs
  · exact u.slot b ob q n hb hx
  · exact ⟨ob.slots, u.keep b ob q n hb hx⟩
theorem Un.trans (a : Un fs ex H H1 h h1) (b : Un fs ex H1 H2 h1 h2) : Un fs ex H H2 h h2 where
  keep := fun c ob q n hc hx => b.keep c ob (a.keep c ob q n hc hx) (a.free c ob q n hx) hc hx
  slot := fun c ob q n hc hx => by
    obtain ⟨sl, e1⟩ := a.slot c ob q n hc hx
    obtain ⟨sl', e2⟩ := b.slot c _ e1 (a.free c ob q n hx) hc hx
    exact ⟨sl', e2⟩
  free := fun c ob q n hx => by
    obtain ⟨o', e1⟩ := a.there c ob q hx
    exact b.free c o' e1 (a.free c ob q n hx) hx
  there := fun c ob q hx => by
    obtain ⟨o', e1⟩ := a.there c ob q hx
    exact b.there c o' e1 hx
  tups := fun c xs q => b.tups c xs (a.tups c xs q)
  frzs := fun c ob xs q => b.frzs c ob xs (a.frzs c ob xs q)
  tbls := fun c ps q => by
    obtain ⟨m1, e1⟩ := a.tbls c ps q
    obtain ⟨m2, e2⟩ := b.tbls c _ e1
    exact ⟨m1 ++ m2, by rw [e2, Array.append_assoc]⟩
theorem Un.kept (k : ∀ b u, h.get? b = some u → h'.get? b = some u) : Un fs ex H H h h' :=
  ⟨fun b ob q _ _ _ => k b ob q, fun b ob q _ _ _ => ⟨ob.slots, k b ob q⟩, fun _ _ _ n _ => n, fun b ob q _ => ⟨ob, k b ob q⟩, fun _ _ q => q, fun _ _ _ q => q, fun _ ps q => ⟨#[], by rw [q]; simp⟩⟩
theorem Un.refl : Un fs ex H H h h := Un.kept fun _ _ q => q
theorem Un.laid (k : ∀ b u, h.get? b = some u → h'.get? b = some u) (hp : h.objs.size ≤ a) (hn : H a = none) : Un fs ex H (upd H a o) h h' where
  keep := fun b u q _ _ _ => k b u q
  slot := fun b u q _ _ _ => ⟨u.slots, k b u q⟩
  free := fun b u q n _ => by rw [upd_ne (Nat.ne_of_lt (Nat.lt_of_lt_of_le (Heap.lt_size q) hp))]; exact n
  there := fun b u q _ => ⟨u, k b u q⟩
  tups := fun b xs q => by rw [upd_ne (ne_of_none q hn)]; exact q
  frzs := fun b u xs q => by rw [upd_ne (ne_of_none q hn)]; exact q
  tbls := fun b ps q => ⟨#[], by rw [upd_ne (ne_of_none q hn), q]; simp⟩
theorem Un.write (mu : Mut (H x)) (he : e = x ∨ H e = some (.own x)) (k : ∀ b u, b ≠ e → h.get? b = some u → h'.get? b = some u) (heo : ∃ u, h'.get? e = some u) : Un fs ex H (upd H x o) h h' := by
  have hx : ∀ b, H b = none → b ≠ x := fun b n z => by subst z; rw [n] at mu; exact mu
  have hb : ∀ b, H b = none → b ≠ e := fun b n z => by
    subst z
    rcases he with r | r
    · exact hx b n r
    · rw [n] at r; cases r
  have hm : ∀ b u, H b = some u → ¬ Mut (some u) → b ≠ x := fun b u q nm z => by subst z; rw [q] at mu; exact nm mu
  refine ⟨fun b u q n _ _ => k b u (hb b n) q, fun b u q n _ _ => ⟨u.slots, k b u (hb b n) q⟩, fun b u q n _ => by rw [upd_ne (hx b n)]; exact n, fun b u q _ => ?_,
    fun b xs q => by rw [upd_ne (hm b _ q fun z => z)]; exact q, fun b u xs q => by rw [upd_ne (hm b _ q fun z => z)]; exact q, fun b ps q => ⟨#[], by rw [upd_ne (hm b _ q fun z => z), q]; simp⟩⟩
  by_cases hbe : b = e
  · subst hbe; exact heo
  · exact ⟨u, k b u hbe q⟩
theorem Un.mono (u : Un fs ex H H1 h h1) (hs : ∀ b ∈ fs, b ∈ fs') (hx : ∀ b ∈ ex, b ∈ ex') : Un fs' ex' H H1 h h1 :=
  ⟨fun b ob q n hb he => u.keep b ob q n (fun z => hb (hs b z)) fun z => he (hx b z), fun _ _ q n _ he => u.any q n fun z => he (hx _ z), fun b ob q n he => u.free b ob q n fun z => he (hx b z), fun b ob q he => u.there b ob q fun z => he (hx b z), u.tups, u.frzs, u.tbls⟩
end

/-! ### the heap without what is tracked -/
def trk (h : Heap) (H : Hp) : List Addr := (List.range h.objs.size).filter fun a => (H a).isSome
def hidT (h : Heap) (H : Hp) : Heap := PySem.W.hideAll h (trk h H)
theorem hidT_size (h : Heap) (H : Hp) : (hidT h H).objs.size = h.objs.size := PySem.W.hideAll_size _ _
theorem hidT_get {h : Heap} {H : Hp} {b : Addr} {o : Obj} (e : h.get? b = some o) (n : H b = none) : (hidT h H).get? b = some o :=
  PySem.W.hideAll_get _ e fun hm => by
    have q : (H b).isSome = true := (List.mem_filter.mp hm).2
    rw [n] at q; simp at q
theorem of_hidT {h : Heap} {H : Hp} {b : Addr} {o : Obj} (e : (hidT h H).get? b = some o) : h.get? b = some o ∧ H b = none := by
  have e' : h.get? b = some o := PySem.W.of_hideAll (trk h H) e
  refine ⟨e', ?_⟩
  cases q : H b with
  | none => rfl
  | some x =>
    have hm : b ∈ trk h H := List.mem_filter.mpr ⟨List.mem_range.mpr (Heap.lt_size e'), by simp [q]⟩
    have z : (hidT h H).get? b = none := PySem.W.hideAll_none (trk h H) hm
    rw [z] at e; cases e

/-! ### OpenK's ledger, filled with every new object but one -/
def allNews (g h : Heap) (L : Addr) : List (Addr × Obj) := (List.range h.objs.size).filterMap fun a => if a = L ∨ (g.get? a).isSome = true then none else (h.get? a).map fun o => (a, o)
def rest (g h : Heap) (L d : Addr) : List (Addr × Obj) := (allNews g h L).filter fun p => decide (p.1 ≠ d)
end L2

namespace L2
open PySem PySem.Spec PyProof.Rows

/-- the module's facts, over the base: the heap at the law's entry without what is tracked there -/
structure Mod (K : PySem.W.Frag) (mg : Str → Option Value) (base : Heap) : Prop where
  kin : K.In base
  glob : base.Ns mainGlobals mg
  blt : ∃ mb, base.Ns builtinsNs mb ∧ ∀ x : Str, x ≠ "__name__" → mb x = bootBuiltins x
  nolimit : base.NoLimit

/-- the context: a def's body (or a comprehension's block) running. base: fixed through the whole law; s₀, H₀: the entry; outer: the frames whose slots others may change (a def's callers); stack: all frames that run;
   ex: iterators that were made ahead of the entry and are walked here (a comprehension's); fn: the names whose cells were made at the entry (a def: all; a comprehension's block: its own); calm: not within an except suite; pn: pins that every state bears; xe: what is wanted of an exception that leaves the code -/
structure Cx where
  prog : Program
  w : World
  K : PySem.W.Frag
  mg : Str → Option Value
  base : Heap
  A : Around
  N : List Str
  s₀ : Shared
  H₀ : Hp
  env : Env
  outer : List Env
  stack : List Env
  ex : List Addr
  fn : Str → Bool
  calm : Bool
  pn : List (Addr × Obj)
  xe : Value → Shared → Prop
/-- the callers' frames -/
def frs (l : List Env) : List Addr := l.filterMap (·.frame)
abbrev Cx.fs (X : Cx) : List Addr := frs X.outer

def Vis (sc : Scope) (x : Str) : Prop := sc.names.lookup x = some .local ∨ sc.names.lookup x = some .cell ∨ sc.names.lookup x = some .free
def Loc (sc : Scope) (x : Str) : Prop := sc.names.lookup x = some .local ∨ sc.names.lookup x = some .cell
def Look (env : Env) (h : Heap) (m : Str → Option Value) (x : Str) (u : Value) : Prop :=
  (env.kindOf x = some .local ∧ m x = some u) ∨ ((env.kindOf x = some .cell ∨ env.kindOf x = some .free) ∧ ∃ c, env.cells.lookup x = some c ∧ h.IsCell c (some u))

structure Cx.Ok (X : Cx) : Prop where
  mod : Mod X.K X.mg X.base
  kind : X.env.scope.kind = .function
  glob : X.env.globals = mainGlobals
  blt : X.env.builtins = builtinsNs
  above : X.s₀.heap.objs.size ≤ X.env.locals
  inj : ∀ x y c, X.env.cells.lookup x = some c → X.env.cells.lookup y = some c → x = y
  has : ∀ x, (X.env.kindOf x = some .cell ∨ X.env.kindOf x = some .free) → ∃ c, X.env.cells.lookup x = some c
  cab : ∀ x c, X.fn x = true → X.env.cells.lookup x = some c → X.s₀.heap.objs.size ≤ c
  hd : X.calm = true → X.A.handled = none
  frames : X.A.frames = some X.stack
  stk : X.stack = X.outer ∨ (X.stack = X.env :: X.outer ∧ X.env.frame = some X.env.locals)
  exf : ∀ b ∈ X.ex, b ≠ X.env.locals ∧ ∀ x c, X.env.cells.lookup x = some c → c ≠ b
  bs : ∀ b o, X.base.get? b = some o → X.s₀.heap.get? b = some o ∧ X.H₀ b = none
  bsz : X.base.objs.size ≤ X.s₀.heap.objs.size
  noex : ∀ b o, X.base.get? b = some o → b ∉ X.ex
  exfs : ∀ b ∈ X.ex, b ∉ X.fs
  funs : X.s₀.heap.FunFrames X.base X.outer
  frf : ∀ b ∈ X.fs, X.H₀ b = none

structure Inv (X : Cx) (pins : List (Addr × Obj)) (σ : List (Option V)) (H : Hp) (s : Shared) : Prop where
  ok : X.Ok
  os : s.os = X.s₀.os
  bare : AllBare s.gens
  base : Un X.fs X.ex X.H₀ H X.s₀.heap s.heap
  loc : ∃ m, s.heap.Ns X.env.locals m ∧ ∀ (i : Nat) (x : Str) (v : V), X.N[i]? = some x → σ[i]? = some (some v) → Vis X.env.scope x → ∃ u, RelV v u ∧ Look X.env s.heap m x u
  cell : ∀ x c, X.env.cells.lookup x = some c → ∃ v, s.heap.IsCell c v
  free : H X.env.locals = none
  freeC : ∀ x c, X.env.cells.lookup x = some c → H c = none
  pin : ∀ p ∈ X.pn ++ pins, s.heap.get? p.1 = some p.2 ∧ H p.1 = none ∧ p.1 ≠ X.env.locals ∧ p.1 ∉ X.fs ∧ ∀ v, p.2.data ≠ .cell v
  hok : HOk X.prog X.w H s.heap
  len : σ.length = X.N.length

section
variable {X : Cx} {pins : List (Addr × Obj)} {σ : List (Option V)} {H H' : Hp} {s : Shared} {h' : Heap}

theorem Cx.Ok.nofr (ok : X.Ok) {b : Addr} {o : Obj} (e : X.base.get? b = some o) : b ∉ X.fs := fun hb => by
  have := (ok.funs.mem hb).1
  rw [e] at this; cases this
theorem Inv.bs (I : Inv X pins σ H s) : ∀ b o, X.base.get? b = some o → s.heap.get? b = some o ∧ H b = none := fun b o e =>
  ⟨I.base.keep b o (I.ok.bs b o e).1 (I.ok.bs b o e).2 (I.ok.nofr e) (I.ok.noex b o e), I.base.free b o (I.ok.bs b o e).1 (I.ok.bs b o e).2 (I.ok.noex b o e)⟩
theorem Inv.bk (I : Inv X pins σ H s) : ∀ b o, X.base.get? b = some o → s.heap.get? b = some o := fun b o e => (I.bs b o e).1
theorem Inv.mod (I : Inv X pins σ H s) : Mod X.K X.mg X.base := I.ok.mod
theorem Inv.kIn (I : Inv X pins σ H s) : X.K.In s.heap := I.ok.mod.kin.keeps I.bk
theorem Inv.nolimit (I : Inv X pins σ H s) : s.heap.NoLimit := I.ok.mod.nolimit.keeps I.bk
/-- the frame over the base: for OpenK's rules (K.In X.base is I.mod.kin) -/
theorem Inv.fr (I : Inv X pins σ H s) : ∃ m, Fr X.base X.env.locals s.heap m :=
  let ⟨m, hn, _⟩ := I.loc
  ⟨m, hn, I.bk, Nat.le_trans I.ok.bsz I.ok.above⟩
theorem Inv.lt (I : Inv X pins σ H s) : X.env.locals < s.heap.objs.size := let ⟨_, hn, _⟩ := I.loc; hn.lt
theorem Inv.sz (I : Inv X pins σ H s) : X.s₀.heap.objs.size ≤ s.heap.objs.size := Nat.le_trans I.ok.above (Nat.le_of_lt I.lt)
theorem Inv.nofs (I : Inv X pins σ H s) {a : Addr} (h : s.heap.objs.size ≤ a) : a ∉ X.fs := fun hb => by
  obtain ⟨_, o, ho, _⟩ := I.ok.funs.mem hb
  exact absurd (Nat.lt_of_lt_of_le (Heap.lt_size ho) (Nat.le_trans I.sz h)) (Nat.lt_irrefl _)
theorem Inv.cne (I : Inv X pins σ H s) : ∀ x c, X.env.cells.lookup x = some c → c ≠ X.env.locals := fun x c e z => by
  obtain ⟨v, o, ho, hd⟩ := I.cell x c e
  obtain ⟨m, ⟨o', es, ep, ho', hd', _⟩, _⟩ := I.loc
  rw [z, ho'] at ho; cases ho; rw [hd'] at hd; cases hd
theorem Inv.funs (I : Inv X pins σ H s) : s.heap.FunFrames X.base X.outer := by
  have all : ∀ (l : List Env), (∀ b ∈ frs l, b ∈ X.fs) → X.s₀.heap.FunFrames X.base l → s.heap.FunFrames X.base l := by
    intro l
    induction l with
    | nil => intro _ _; trivial
    | cons env r ih =>
      intro hs hl
      obtain ⟨hk, ⟨L, o, hf, hn, ho, hd⟩, hr⟩ := hl
      have hL : L ∈ X.fs := hs L (by unfold frs; rw [List.filterMap_cons, hf]; exact List.mem_cons_self)
      obtain ⟨sl, e⟩ := I.base.slot L o ho (I.ok.frf L hL) hL fun z => I.ok.exfs L z hL
      exact ⟨hk, ⟨L, _, hf, hn, e, hd⟩, ih (fun b hb => hs b (by unfold frs; rw [List.filterMap_cons, hf]; exact List.mem_cons_of_mem _ hb)) hr⟩
  exact all X.outer (fun _ hb => hb) I.ok.funs

/-- the frames that run, for a call -/
theorem Inv.stack (I : Inv X pins σ H s) : s.heap.FunFrames X.base X.stack := by
  rcases I.ok.stk with e | ⟨e, hf⟩
  · rw [e]; exact I.funs
  · rw [e]
    obtain ⟨m, hn, _⟩ := I.loc
    refine .cons (by rw [I.ok.kind]; decide) hf hn ?_ I.funs
    exact Heap.get?_none_of_le (Nat.le_trans I.ok.bsz I.ok.above)
theorem Inv.stkSub (I : Inv X pins σ H s) : ∀ b ∈ frs X.stack, b ∈ X.env.locals :: X.fs := fun b hb => by
  rcases I.ok.stk with e | ⟨e, hf⟩
  · rw [e] at hb; exact List.mem_cons_of_mem _ hb
  · rw [e] at hb
    unfold frs at hb
    rw [List.filterMap_cons, hf] at hb
    exact hb
theorem Inv.stkFree (I : Inv X pins σ H s) : ∀ b ∈ frs X.stack, H b = none := fun b hb => by
  rcases List.mem_cons.mp (I.stkSub b hb) with e | hb
  · rw [e]; exact I.free
  · obtain ⟨_, o, ho, _⟩ := I.ok.funs.mem hb
    exact I.base.free b o ho (I.ok.frf b hb) fun z => I.ok.exfs b z hb

/-- THE STEP: the untracked objects but the frame and the records at ch are kept (the callers' frames up to slots), the frame's map is kept, the new abstract heap is held -/
theorem Inv.step {g' : Array GenState} {t' : Nat} {d' : Drawn} {ch : List Addr} (I : Inv X pins σ H s)
    (hch : ∀ b ∈ ch, (b ∈ X.ex ∨ X.s₀.heap.objs.size ≤ b) ∧ b ≠ X.env.locals ∧ (∀ x c, X.env.cells.lookup x = some c → c ≠ b) ∧ ∀ p ∈ X.pn ++ pins, p.1 ≠ b)
    (keep : ∀ b o, b ≠ X.env.locals → b ∉ X.fs → b ∉ ch → s.heap.get? b = some o → H b = none → h'.get? b = some o)
    (slot : ∀ b o, b ≠ X.env.locals → b ∈ X.fs → b ∉ ch → s.heap.get? b = some o → H b = none → ∃ sl, h'.get? b = some { o with slots := sl }) (free : ∀ b o, b ∉ ch → s.heap.get? b = some o → H b = none → H' b = none)
    (there : ∀ b o, b ∉ ch → s.heap.get? b = some o → ∃ o', h'.get? b = some o')
    (tups : ∀ b xs, H b = some (.tup xs) → H' b = some (.tup xs)) (frzs : ∀ b o u, H b = some (.frz o u) → H' b = some (.frz o u)) (tbls : ∀ b ps, H b = some (.tbl ps) → ∃ more, H' b = some (.tbl (ps ++ more)))
    (ns : ∀ m, s.heap.Ns X.env.locals m → h'.Ns X.env.locals m) (hok : HOk X.prog X.w H' h') (hg : AllBare g') :
    Inv X pins σ H' { s with heap := h', gens := g', drawn := d', toks := t' } := by
  have neL : ∀ b o, X.s₀.heap.get? b = some o → b ≠ X.env.locals := fun b o e => Nat.ne_of_lt (Nat.lt_of_lt_of_le (Heap.lt_size e) I.ok.above)
  have neC : ∀ b o, X.s₀.heap.get? b = some o → b ∉ X.ex → b ∉ ch := fun b o e hx hb => by
    rcases (hch b hb).1 with z | z
    · exact hx z
    · exact absurd (Nat.lt_of_lt_of_le (Heap.lt_size e) z) (Nat.lt_irrefl _)
  have cellK : ∀ x c, X.env.cells.lookup x = some c → ∀ v, s.heap.IsCell c v → h'.IsCell c v := fun x c e v ⟨o, ho, hd⟩ => by
    have nch : c ∉ ch := fun z => (hch c z).2.2.1 x c e rfl
    by_cases hc : c ∈ X.fs
    · obtain ⟨sl, q⟩ := slot c o (I.cne x c e) hc nch ho (I.freeC x c e)
      exact ⟨_, q, hd⟩
    · exact ⟨o, keep c o (I.cne x c e) hc nch ho (I.freeC x c e), hd⟩
  refine ⟨I.ok, I.os, hg, ⟨fun b o e n hb hx => ?_, fun b o e n hb hx => ?_, fun b o e n hx => ?_, fun b o e hx => ?_, fun b xs e => tups b xs (I.base.tups b xs e), fun b o xs e => frzs b o xs (I.base.frzs b o xs e), fun b ps e => ?_⟩, ?_, fun x c e => ?_, ?_, fun x c e => ?_, fun p hp => ?_, hok, I.len⟩
  · exact keep b o (neL b o e) hb (neC b o e hx) (I.base.keep b o e n hb hx) (I.base.free b o e n hx)
  · obtain ⟨sl, e1⟩ := I.base.slot b o e n hb hx
    obtain ⟨sl', e2⟩ := slot b _ (neL b o e) hb (neC b o e hx) e1 (I.base.free b o e n hx)
    exact ⟨sl', e2⟩
  · obtain ⟨o', e1⟩ := I.base.there b o e hx
    exact free b o' (neC b o e hx) e1 (I.base.free b o e n hx)
  · obtain ⟨o', e1⟩ := I.base.there b o e hx
    exact there b o' (neC b o e hx) e1
  · obtain ⟨m1, e1⟩ := I.base.tbls b ps e
    obtain ⟨m2, e2⟩ := tbls b _ e1
    exact ⟨m1 ++ m2, by rw [e2, Array.append_assoc]⟩
  · obtain ⟨m, hn, hl⟩ := I.loc
    refine ⟨m, ns m hn, fun i x v e1 e2 e3 => ?_⟩
    obtain ⟨u, r, l⟩ := hl i x v e1 e2 e3
    refine ⟨u, r, ?_⟩
    rcases l with l | ⟨k, c, e, z⟩
    · exact .inl l
    · exact .inr ⟨k, c, e, cellK x c e _ z⟩
  · obtain ⟨v, z⟩ := I.cell x c e
    exact ⟨v, cellK x c e v z⟩
  · obtain ⟨m, ⟨o, _, _, ho, _⟩, _⟩ := I.loc
    exact free _ o (fun z => (hch _ z).2.1 rfl) ho I.free
  · obtain ⟨v, o, ho, hd⟩ := I.cell x c e
    exact free c o (fun z => (hch c z).2.2.1 x c e rfl) ho (I.freeC x c e)
  · obtain ⟨e, n, ne, nf, d⟩ := I.pin p hp
    have nch : p.1 ∉ ch := fun z => (hch p.1 z).2.2.2 p hp rfl
    exact ⟨keep p.1 p.2 ne nf nch e n, free p.1 p.2 nch e n, ne, nf, d⟩
/-- .. where the frame's own object is kept too -/
theorem Inv.un {t' : Nat} (I : Inv X pins σ H s) (u : Un X.fs [] H H' s.heap h') (hok : HOk X.prog X.w H' h') : Inv X pins σ H' { s with heap := h', toks := t' } := by
  obtain ⟨m, ⟨o, es, ep, ho, r⟩, _⟩ := id I.loc
  obtain ⟨sl, hL⟩ := u.any ho I.free (by simp)
  exact I.step (g' := s.gens) (d' := s.drawn) (ch := []) (fun _ z => nomatch z) (fun b o _ hb _ e n => u.keep b o e n hb (by simp)) (fun b o _ hb _ e n => u.slot b o e n hb (by simp)) (fun b o _ e n => u.free b o e n (by simp)) (fun b o _ e => u.there b o e (by simp)) u.tups u.frzs u.tbls (fun m' hm => by
    obtain ⟨o', es', ep', ho', r'⟩ := hm
    rw [ho] at ho'; cases ho'
    exact ⟨_, es', ep', hL, r'⟩) hok I.bare
/-- behind a call (or a comprehension's block): the slots of this frame may have changed too, the records at ch may have turned -/
theorem Inv.call {g' : Array GenState} {t' : Nat} {d' : Drawn} {ch : List Addr} (I : Inv X pins σ H s) (u : Un (frs X.stack) ch H H' s.heap h') (hok : HOk X.prog X.w H' h') (hg : AllBare g')
    (hch : ∀ b ∈ ch, (b ∈ X.ex ∨ X.s₀.heap.objs.size ≤ b) ∧ b ≠ X.env.locals ∧ (∀ x c, X.env.cells.lookup x = some c → c ≠ b) ∧ ∀ p ∈ X.pn ++ pins, p.1 ≠ b) :
    Inv X pins σ H' { s with heap := h', gens := g', drawn := d', toks := t' } := by
  obtain ⟨m, ⟨o, es, ep, ho, r⟩, _⟩ := id I.loc
  obtain ⟨sl, hL⟩ := u.any ho I.free fun z => (hch _ z).2.1 rfl
  exact I.step (ch := ch) hch (fun b o hL hb hc e n => u.keep b o e n (fun z => (List.mem_cons.mp (I.stkSub b z)).elim hL hb) hc) (fun b o _ _ hc e n => u.any e n hc) (fun b o hc e n => u.free b o e n hc) (fun b o hc e => u.there b o e hc) u.tups u.frzs u.tbls (fun m' hm => by
    obtain ⟨o', es', ep', ho', r'⟩ := hm
    rw [ho] at ho'; cases ho'
    exact ⟨_, es', ep', hL, r'⟩) hok hg
/-- an untracked record of ours (an iterator) has turned -/
theorem Inv.turned {t' : Nat} {it : Addr} (I : Inv X pins σ H s) (k : ∀ b o, b ≠ it → s.heap.get? b = some o → h'.get? b = some o) (hn : H it = none) (hL : it ≠ X.env.locals)
    (h1 : it ∈ X.ex ∨ X.s₀.heap.objs.size ≤ it) (h2 : ∀ x c, X.env.cells.lookup x = some c → c ≠ it) (h3 : ∀ p ∈ X.pn ++ pins, p.1 ≠ it) : Inv X pins σ H { s with heap := h', toks := t' } := by
  have nit : ∀ b u, H b = some u → b ≠ it := fun b u e z => by rw [z, hn] at e; cases e
  refine I.step (g' := s.gens) (d' := s.drawn) (ch := [it]) (fun b hb => ?_) (fun b o _ _ hc e _ => k b o (fun z => hc (by simp [z])) e) (fun b o _ _ hc e _ => ⟨o.slots, k b o (fun z => hc (by simp [z])) e⟩) (fun _ _ _ _ n => n)
    (fun b o hc e => ⟨o, k b o (fun z => hc (by simp [z])) e⟩) (fun _ _ e => e) (fun _ _ _ e => e) (fun b ps e => ⟨#[], by rw [e]; simp⟩) (fun m hm => ?_) (fun b u e => ?_) I.bare
  · have e : b = it := by simpa using hb
    subst e
    exact ⟨h1, hL, h2, h3⟩
  · obtain ⟨o, es, ep, ho, r⟩ := hm
    exact ⟨o, es, ep, k _ o (Ne.symm hL) ho, r⟩
  · refine (I.hok b u e).stay (fun c v hc q => k c v ?_ q) (fun _ q => q) fun _ _ q => q
    rcases hc with z | z
    · rw [z]; exact nit b u e
    · exact nit c _ z
theorem Inv.tok (I : Inv X pins σ H s) (t : Nat) : Inv X pins σ H { s with toks := t } := I.un (h' := s.heap) (t' := t) Un.refl I.hok
/-- all objects kept -/
theorem Inv.kept {t' : Nat} (I : Inv X pins σ H s) (k : ∀ b u, s.heap.get? b = some u → h'.get? b = some u) : Inv X pins σ H { s with heap := h', toks := t' } := I.un (Un.kept k) (I.hok.kept k)
/-- a new object laid and tracked -/
theorem Inv.laid {a : Addr} {o : HO} {t' : Nat} (I : Inv X pins σ H s) (k : ∀ b u, s.heap.get? b = some u → h'.get? b = some u) (hp : s.heap.objs.size ≤ a) (new : ObjOk X.prog X.w (upd H a o) h' a o) :
    Inv X pins σ (upd H a o) { s with heap := h', toks := t' } := I.un (Un.laid k hp (I.hok.fresh hp)) (I.hok.laid k hp new)
/-- an object written -/
theorem Inv.write {x e : Addr} {o : HO} {t' : Nat} (I : Inv X pins σ H s) (mu : Mut (H x)) (he : e = x ∨ H e = some (.own x)) (k : ∀ b u, b ≠ e → s.heap.get? b = some u → h'.get? b = some u) (heo : ∃ u, h'.get? e = some u)
    (new : ObjOk X.prog X.w (upd H x o) h' x o) : Inv X pins σ (upd H x o) { s with heap := h', toks := t' } := I.un (Un.write mu he k heo) (I.hok.write mu he k heo new)
/-- forgetting slots, pins -/
theorem Inv.weak {σ' : List (Option V)} (I : Inv X pins σ H s) (hl : σ'.length = σ.length) (w : ∀ (i : Nat) v, σ'[i]? = some (some v) → σ[i]? = some (some v)) : Inv X pins σ' H s :=
  ⟨I.ok, I.os, I.bare, I.base, let ⟨m, hn, hl'⟩ := I.loc; ⟨m, hn, fun i x v e1 e2 e3 => hl' i x v e1 (w i v e2) e3⟩, I.cell, I.free, I.freeC, I.pin, I.hok, hl.trans I.len⟩
theorem Inv.pins_of {pins' : List (Addr × Obj)} (I : Inv X pins σ H s) (h : ∀ p ∈ pins', s.heap.get? p.1 = some p.2 ∧ H p.1 = none ∧ p.1 ≠ X.env.locals ∧ p.1 ∉ X.fs ∧ ∀ v, p.2.data ≠ .cell v) : Inv X pins' σ H s :=
  ⟨I.ok, I.os, I.bare, I.base, I.loc, I.cell, I.free, I.freeC, fun p hp => (List.mem_append.mp hp).elim (fun z => I.pin p (List.mem_append_left _ z)) (h p), I.hok, I.len⟩

theorem nodup_ix {N : List Str} (hN : N.Nodup) {i j : Nat} {x : Str} (a : N[i]? = some x) (b : N[j]? = some x) : i = j := by
  obtain ⟨h1, e1⟩ := List.getElem?_eq_some_iff.mp a
  obtain ⟨h2, e2⟩ := List.getElem?_eq_some_iff.mp b
  exact (List.getElem_inj hN).mp (e1.trans e2.symm)

/-- a name is stored; what changed -/
theorem store_ok2 {M : Model} {A : Around} {E : Value → Shared → Prop} {i : Nat} {x : Str} {v : V} {u : Value} {Q : Unit → Shared → Prop} (I : Inv X pins σ H s) (hN : X.N.Nodup) (hi : X.N[i]? = some x) (hx : Loc X.env.scope x) (r : RelV v u)
    (h : ∀ s', Inv X pins (σ.set i (some v)) H s' → (∃ a, Heap.SameBut a s.heap s'.heap ∧ (a = X.env.locals ∨ X.env.cells.lookup x = some a)) → Q () s') (hf : X.fn x = true ∨ X.env.scope.names.lookup x = some .local := by first | exact .inl rfl | exact .inr rfl | assumption) : wpAny M A (storeName X.env x u) Q E s := by
  obtain ⟨m, hn, hl⟩ := id I.loc
  have hcls : (X.env.scope.kind == .class || (X.env.scope.kind == .module && X.env.locals != X.env.globals)) = false := by rw [I.ok.kind]; rfl
  have hiσ : i < σ.length := by rw [I.len]; exact (List.getElem?_eq_some_iff.mp hi).1
  have cne := I.cne
  have tracked : ∀ {a : Addr} {h' : Heap}, (∃ o, s.heap.get? a = some o ∧ H a = none) → Heap.SameBut a s.heap h' → HOk X.prog X.w H h' := fun {a h'} ha hs b ob e => by
    obtain ⟨_, _, hfree⟩ := ha
    refine (I.hok b ob e).stay (fun c w' hc q => (hs.2 c ?_).trans q) (fun _ q => q) fun _ _ q => q
    rintro rfl
    rcases hc with rfl | hc
    · rw [hfree] at e; cases e
    · rw [hfree] at hc; cases hc
  rcases hx with hk | hk
  · refine wpAny_storeName_local hk hn (fun h' hn' hs => ?_) hcls
    obtain ⟨oL, _, _, hoL, _⟩ := id hn
    refine h _ ⟨I.ok, I.os, I.bare, ⟨fun b o e n hb hx => ?_, fun b o e n hb hx => ?_, I.base.free, fun b o e hx => ?_, I.base.tups, I.base.frzs, I.base.tbls⟩, ⟨_, hn', fun j y v' e1 e2 e3 => ?_⟩, fun y c e => ?_, I.free, I.freeC, fun p hp => ?_, tracked ⟨oL, hoL, I.free⟩ hs, by simpa using I.len⟩ ⟨_, hs, .inl rfl⟩
    · exact (hs.2 b (Nat.ne_of_lt (Nat.lt_of_lt_of_le (Heap.lt_size e) I.ok.above))).trans (I.base.keep b o e n hb hx)
    · obtain ⟨sl, e1⟩ := I.base.slot b o e n hb hx
      exact ⟨sl, (hs.2 b (Nat.ne_of_lt (Nat.lt_of_lt_of_le (Heap.lt_size e) I.ok.above))).trans e1⟩
    · obtain ⟨o', e1⟩ := I.base.there b o e hx
      exact ⟨o', (hs.2 b (Nat.ne_of_lt (Nat.lt_of_lt_of_le (Heap.lt_size e) I.ok.above))).trans e1⟩
    · by_cases hj : j = i
      · subst hj
        rw [hi] at e1; cases e1
        rw [List.getElem?_set_self hiσ] at e2
        cases e2
        exact ⟨u, r, .inl ⟨hk, by simp⟩⟩
      · rw [List.getElem?_set_ne (Ne.symm hj)] at e2
        obtain ⟨u', r', q⟩ := hl j y v' e1 e2 e3
        refine ⟨u', r', ?_⟩
        rcases q with ⟨k, e⟩ | ⟨k, c, e, z⟩
        · refine .inl ⟨k, ?_⟩
          have : y ≠ x := fun e => hj (nodup_ix hN e1 (e ▸ hi))
          simp [this, e]
        · exact .inr ⟨k, c, e, z.sameBut hs (cne y c e)⟩
    · obtain ⟨w', z⟩ := I.cell y c e
      exact ⟨w', z.sameBut hs (cne y c e)⟩
    · obtain ⟨e, n, ne, nf, d⟩ := I.pin p hp
      exact ⟨(hs.2 p.1 ne).trans e, n, ne, nf, d⟩
  · have hfn : X.fn x = true := by
      rcases hf with z | z
      · exact z
      · rw [z] at hk; cases hk
    obtain ⟨c, hc⟩ := I.ok.has x (.inl hk)
    obtain ⟨w', z⟩ := I.cell x c hc
    refine wpAny_storeName_cell I.ok.kind hk hc z (fun h' hc' hs => ?_)
    obtain ⟨oc, hoc, hocd⟩ := id z
    refine h { s with heap := h' } ⟨I.ok, I.os, I.bare, ⟨fun b o e n hb hx => ?_, fun b o e n hb hx => ?_, I.base.free, fun b o e hx => ?_, I.base.tups, I.base.frzs, I.base.tbls⟩, ⟨m, hn.sameBut hs (Ne.symm (cne x c hc)), fun j y v' e1 e2 e3 => ?_⟩, fun y c' e => ?_, I.free, I.freeC, fun p hp => ?_, tracked ⟨oc, hoc, I.freeC x c hc⟩ hs, by simpa using I.len⟩ ⟨c, hs, .inr hc⟩
    · exact (hs.2 b (Nat.ne_of_lt (Nat.lt_of_lt_of_le (Heap.lt_size e) (I.ok.cab x c hfn hc)))).trans (I.base.keep b o e n hb hx)
    · obtain ⟨sl, e1⟩ := I.base.slot b o e n hb hx
      exact ⟨sl, (hs.2 b (Nat.ne_of_lt (Nat.lt_of_lt_of_le (Heap.lt_size e) (I.ok.cab x c hfn hc)))).trans e1⟩
    · obtain ⟨o', e1⟩ := I.base.there b o e hx
      exact ⟨o', (hs.2 b (Nat.ne_of_lt (Nat.lt_of_lt_of_le (Heap.lt_size e) (I.ok.cab x c hfn hc)))).trans e1⟩
    · by_cases hj : j = i
      · subst hj
        rw [hi] at e1; cases e1
        rw [List.getElem?_set_self hiσ] at e2
        cases e2
        exact ⟨u, r, .inr ⟨.inl hk, c, hc, hc'⟩⟩
      · rw [List.getElem?_set_ne (Ne.symm hj)] at e2
        obtain ⟨u', r', q⟩ := hl j y v' e1 e2 e3
        refine ⟨u', r', ?_⟩
        rcases q with q | ⟨k, c', e, z'⟩
        · exact .inl q
        · refine .inr ⟨k, c', e, z'.sameBut hs ?_⟩
          rintro rfl
          exact hj (nodup_ix hN e1 (I.ok.inj _ _ _ e hc ▸ hi))
    · by_cases hcc : c' = c
      · subst hcc; exact ⟨_, hc'⟩
      · obtain ⟨w2, z2⟩ := I.cell y c' e
        exact ⟨w2, z2.sameBut hs hcc⟩
    · obtain ⟨e, n, ne, nf, d⟩ := I.pin p hp
      refine ⟨(hs.2 p.1 ?_).trans e, n, ne, nf, d⟩
      intro q
      rw [q, hoc] at e
      have q' : oc = p.2 := Option.some.inj e
      exact d w' (by rw [← q']; exact hocd)
theorem store_ok {M : Model} {A : Around} {E : Value → Shared → Prop} {i : Nat} {x : Str} {v : V} {u : Value} {Q : Unit → Shared → Prop} (I : Inv X pins σ H s) (hN : X.N.Nodup) (hi : X.N[i]? = some x) (hx : Loc X.env.scope x) (r : RelV v u)
    (h : ∀ s', Inv X pins (σ.set i (some v)) H s' → Q () s') (hf : X.fn x = true ∨ X.env.scope.names.lookup x = some .local := by first | exact .inl rfl | exact .inr rfl | assumption) : wpAny M A (storeName X.env x u) Q E s :=
  store_ok2 I hN hi hx r (fun s' I' _ => h s' I') hf
/-- behind a call or a block, the state as it is -/
theorem Inv.call' {s' : Shared} {ch : List Addr} (I : Inv X pins σ H s) (ho : s'.os = s.os) (u : Un (frs X.stack) ch H H' s.heap s'.heap) (hok : HOk X.prog X.w H' s'.heap) (hg : AllBare s'.gens)
    (hch : ∀ b ∈ ch, (b ∈ X.ex ∨ X.s₀.heap.objs.size ≤ b) ∧ b ≠ X.env.locals ∧ (∀ x c, X.env.cells.lookup x = some c → c ≠ b) ∧ ∀ p ∈ X.pn ++ pins, p.1 ≠ b) : Inv X pins σ H' s' := by
  obtain ⟨h', g', d', t', o'⟩ := s'
  have e : o' = s.os := ho
  subst e
  exact I.call (g' := g') (t' := t') (d' := d') u hok hg hch
end

/-! ### the judgements -/
/-- an exception: its class, its own dict's address (where it has one), the abstract heap behind it -/
abbrev XK := Value → Option Addr → Hp → Prop
abbrev St := List (Option V)
abbrev VK := V → Hp → Prop
/-- an expression's reading; a test's; an argument list's -/
abbrev TE := St → Hp → VK → Prop
abbrev TT := St → Hp → (Bool → Hp → Prop) → Prop
abbrev TA := St → Hp → (List V → Hp → Prop) → Prop
/-- what is wanted behind a statement -/
structure Ends where
  nx : St → Hp → Prop
  rt : VK
  bk : St → Hp → Prop := fun _ _ => False
  ct : St → Hp → Prop := fun _ _ => False
abbrev TS := Ends → St → Hp → Prop

def EP (X : Cx) (pins : List (Addr × Obj)) (σ : St) (Q : VK) (u : Value) (s' : Shared) : Prop := ∃ v H', Inv X pins σ H' s' ∧ RelV v u ∧ Q v H'
def TP (X : Cx) (pins : List (Addr × Obj)) (σ : St) (Q : Bool → Hp → Prop) (b : Bool) (s' : Shared) : Prop := ∃ H', Inv X pins σ H' s' ∧ Q b H'
def AP (X : Cx) (pins : List (Addr × Obj)) (σ : St) (Q : List V → Hp → Prop) (us : List Value) (s' : Shared) : Prop := ∃ vs H', Inv X pins σ H' s' ∧ Vals vs us ∧ Q vs H'
def SP (X : Cx) (pins : List (Addr × Obj)) (D : Ends) (f : Flow) (s' : Shared) : Prop :=
  match f with
  | .next => ∃ σ' H', Inv X pins σ' H' s' ∧ D.nx σ' H'
  | .brk => ∃ σ' H', Inv X pins σ' H' s' ∧ D.bk σ' H'
  | .cont => ∃ σ' H', Inv X pins σ' H' s' ∧ D.ct σ' H'
  | .ret u => ∃ v σ' H', Inv X pins σ' H' s' ∧ RelV v u ∧ D.rt v H'

def PE (X : Cx) (e : Expr) (t : TE) : Prop :=
  ∀ (pins : List (Addr × Obj)) (s : Shared) (σ : St) (H : Hp) (Q : VK), Inv X pins σ H s → t σ H Q → wpAny (model X.prog X.w) X.A (eval e X.env) (EP X pins σ Q) X.xe s
def PT (X : Cx) (e : Expr) (t : TT) : Prop :=
  ∀ (pins : List (Addr × Obj)) (s : Shared) (σ : St) (H : Hp) (Q : Bool → Hp → Prop), Inv X pins σ H s → t σ H Q → wpAny (model X.prog X.w) X.A (isTrue e X.env (eval e X.env)) (TP X pins σ Q) X.xe s
/-- a test whatever its 'whole' is (and, or) -/
def PW (X : Cx) (e : Expr) (t : TT) : Prop :=
  ∀ (whole : Sem Value) (pins : List (Addr × Obj)) (s : Shared) (σ : St) (H : Hp) (Q : Bool → Hp → Prop), Inv X pins σ H s → t σ H Q → wpAny (model X.prog X.w) X.A (isTrue e X.env whole) (TP X pins σ Q) X.xe s
theorem PW.pt {X : Cx} {e : Expr} {t : TT} (h : PW X e t) : PT X e t := h _
/-- an argument list (no star), from the left -/
def PA (X : Cx) (es : List Expr) (t : TA) : Prop :=
  ∀ (pos : Pos) (pins : List (Addr × Obj)) (s : Shared) (σ : St) (H : Hp) (Q : List V → Hp → Prop), Inv X pins σ H s → t σ H Q → wpAny (model X.prog X.w) X.A (spliced (backTo pos (starEach es X.env))) (AP X pins σ Q) X.xe s
def PS (X : Cx) (st : Stmt) (t : TS) : Prop :=
  ∀ (pins : List (Addr × Obj)) (s : Shared) (σ : St) (H : Hp) (D : Ends), Inv X pins σ H s → t D σ H → wpAny (model X.prog X.w) X.A (exec st X.env) (SP X pins D) X.xe s
def PSs (X : Cx) (st : List Stmt) (t : TS) : Prop :=
  ∀ (pins : List (Addr × Obj)) (s : Shared) (σ : St) (H : Hp) (D : Ends), Inv X pins σ H s → t D σ H → wpAny (model X.prog X.w) X.A (execs st X.env) (SP X pins D) X.xe s
/-- weaken the end -/
theorem thn {α : Type} {t : Sem α} {Q Q' : α → Shared → Prop} {M : Model} {A : Around} {E : Value → Shared → Prop} {s : Shared} (h : wpAny M A t Q E s) (hQ : ∀ a s, Q a s → Q' a s) : wpAny M A t Q' E s := wpAny_mono h hQ fun _ _ x => x
end L2

namespace L2
open PySem PySem.Spec PyProof.Rows
section
variable {X : Cx}


/-! ### names and constants -/
def tVar (i : Nat) : TE := fun σ H Q => ∃ v, σ[i]? = some (some v) ∧ Q v H
def tC (v : V) : TE := fun _ H Q => Q v H
theorem pe_var {i : Nat} {x : Str} {pos : Pos} (hN : X.N[i]? = some x) (hv : Vis X.env.scope x) (hd : (x == ("__debug__" : Str)) = false := by decide) (hcd : (x == ("__classdict__" : Str)) = false := by decide) : PE X (.Name x pos) (tVar i) := by
  intro pins s σ H Q I h
  obtain ⟨v, e, h⟩ := h
  obtain ⟨m, hn, hl⟩ := I.loc
  obtain ⟨u, r, l⟩ := hl i x v hN e hv
  have fin : EP X pins σ Q u s := ⟨v, H, I, r, h⟩
  rcases l with ⟨hk, hm⟩ | ⟨hk, c, hc, hcell⟩
  · exact wpAny_Name (wpAny_loadName_local I.ok.kind hk hn hm fin) hd
  · rcases hk with hk | hk
    · exact wpAny_Name (wpAny_loadName_cell I.ok.kind hk hc hcell fin) hd
    · exact wpAny_Name (wpAny_loadName_free I.ok.kind hk hc hcell fin hcd) hd
theorem pe_int {i j pos} : PE X (.Constant (.int i) j pos) (tC (.int i)) := fun _ _ _ H _ I h => wpAny_Constant_int ⟨.int i, H, I.tok _, ⟨_, rfl⟩, h⟩
theorem pe_bl {b j pos} : PE X (.Constant (.bool b) j pos) (tC (.bl b)) := fun _ _ _ H _ I h => Constant_bool ⟨.bl b, H, I, rfl, h⟩
theorem pe_str {x j pos} : PE X (.Constant (.str x) j pos) (tC (.str x)) := fun _ _ _ H _ I h => Calls.Constant_str ⟨.str x, H, I.tok _, ⟨_, rfl⟩, h⟩

/-- a global name of the def -/
def Gl (X : Cx) (x : Str) : Prop := X.env.kindOf x = some .globalImplicit
theorem ld_glob {E : Value → Shared → Prop} {pins : List (Addr × Obj)} {s : Shared} {σ : St} {H : Hp} {x : Str} {u : Value} {pos : Pos} {Q : Value → Shared → Prop} (I : Inv X pins σ H s) (hg : Gl X x) (hm : X.mg x = some u) (h : Q u s)
    (hd : (x == ("__debug__" : Str)) = false := by decide) : wpAny (model X.prog X.w) X.A (eval (.Name x pos) X.env) Q E s :=
  Calls.Name_function_global I.ok.kind hg (Calls.loadGlobal_global (by rw [I.ok.glob]; exact I.mod.glob.keeps I.bk) hm h) hd
theorem ld_blt {E : Value → Shared → Prop} {pins : List (Addr × Obj)} {s : Shared} {σ : St} {H : Hp} {x : Str} {u : Value} {pos : Pos} {Q : Value → Shared → Prop} (I : Inv X pins σ H s) (hg : Gl X x) (hm : X.mg x = none) (hv : bootBuiltins x = some u) (h : Q u s)
    (hn : x ≠ "__name__" := by decide) (hd : (x == ("__debug__" : Str)) = false := by decide) : wpAny (model X.prog X.w) X.A (eval (.Name x pos) X.env) Q E s := by
  obtain ⟨mb, h1, h2⟩ := I.mod.blt
  exact Calls.Name_function_global I.ok.kind hg (Calls.loadGlobal_builtin (by rw [I.ok.glob]; exact I.mod.glob.keeps I.bk) hm (by rw [I.ok.blt]; exact h1.keeps I.bk) ((h2 x hn).trans hv) h) hd
theorem pe_bltn {x : Str} {v : V} {u : Value} {pos : Pos} (hg : Gl X x) (hm : X.mg x = none) (hv : bootBuiltins x = some u) (r : RelV v u) (hn : x ≠ "__name__" := by decide) (hd : (x == ("__debug__" : Str)) = false := by decide) : PE X (.Name x pos) (tC v) :=
  fun _ _ _ H _ I h => ld_blt I hg hm hv ⟨v, H, I, r, h⟩ hn hd

/-! ### arithmetic -/
variable {a b : Expr} {ta tb : TE} {pos : Pos}

/-! ### comparisons -/
/-- a comparison as a value, as a test -/
def tB (t : TE) : TT := fun σ H Q => t σ H fun x H1 => ∃ c, x = .bl c ∧ Q c H1
/-- an expression whose value is a bool, as a test -/
theorem pt_val {e : Expr} {t : TE} (h : PE X e t) (he : ∀ whole, isTrue e X.env whole = (do let v ← whole; standAt e.pos; holding [v] (truthy v)) := by intro _; rfl) : PT X e (tB t) := by
  intro pins s σ H Q I hw
  refine isTrue_plain (thn (h pins s σ H _ I hw) fun v s1 ⟨x, H1, I1, r1, q1⟩ => ?_) (he _)
  obtain ⟨d, rfl, q⟩ := q1
  cases r1
  exact wpAny_truthy_bool ⟨H1, I1, q⟩

/-! ### and, or, not -/
variable {tA tB' : TT} {rest : List Expr}
def tAnd (t u : TT) : TT := fun σ H Q => t σ H fun c H1 => if c = true then u σ H1 Q else Q false H1
def tOr (t u : TT) : TT := fun σ H Q => t σ H fun c H1 => if c = true then Q true H1 else u σ H1 Q
def tNot (t : TT) : TT := fun σ H Q => t σ H fun c H1 => Q (!c) H1
theorem pw_and1 (ha : PT X a tA) : PW X (.BoolOp .And [a] pos) tA := by
  intro wh pins s σ H Q I h
  refine isTrue_and (thn (ha pins s σ H Q I h) fun c s1 e => ?_)
  cases c with
  | true => exact isTrue_and_nil e
  | false => exact e
theorem pw_or1 (ha : PT X a tA) : PW X (.BoolOp .Or [a] pos) tA := by
  intro wh pins s σ H Q I h
  refine isTrue_or (thn (ha pins s σ H Q I h) fun c s1 e => ?_)
  cases c with
  | false => exact isTrue_or_nil e
  | true => exact e
theorem pw_and (ha : PT X a tA) (hb : PW X (.BoolOp .And (b :: rest) pos) tB') : PW X (.BoolOp .And (a :: b :: rest) pos) (tAnd tA tB') := by
  intro wh pins s σ H Q I h
  refine isTrue_and (thn (ha pins s σ H _ I h) fun c s1 ⟨H1, I1, q1⟩ => ?_)
  cases c with
  | true => exact hb wh pins s1 σ H1 Q I1 q1
  | false => exact ⟨H1, I1, q1⟩
theorem pw_or (ha : PT X a tA) (hb : PW X (.BoolOp .Or (b :: rest) pos) tB') : PW X (.BoolOp .Or (a :: b :: rest) pos) (tOr tA tB') := by
  intro wh pins s σ H Q I h
  refine isTrue_or (thn (ha pins s σ H _ I h) fun c s1 ⟨H1, I1, q1⟩ => ?_)
  cases c with
  | true => exact ⟨H1, I1, q1⟩
  | false => exact hb wh pins s1 σ H1 Q I1 q1
theorem pt_not (ha : PT X a tA) : PT X (.UnaryOp .Not a pos) (tNot tA) := by
  intro pins s σ H Q I h
  exact isTrue_not (ha pins s σ H (fun c H1 => Q (!c) H1) I h)
/-- .. as values (bools) -/
def tAndV (ta tb : TE) : TE := fun σ H Q => ta σ H fun x H1 => ∃ c, x = .bl c ∧ if c = true then tb σ H1 Q else Q (.bl false) H1
theorem pe_one {op} {t : TE} (h : PE X a t) : PE X (.BoolOp op [a] pos) t := fun pins s σ H Q I hw => BoolOp_one (h pins s σ H Q I hw)
theorem pe_and (ha : PE X a ta) (hb : PE X (.BoolOp .And (b :: rest) pos) tb) : PE X (.BoolOp .And (a :: b :: rest) pos) (tAndV ta tb) := by
  intro pins s σ H Q I h
  refine BoolOp_and (thn (ha pins s σ H _ I h) fun v s1 ⟨x, H1, I1, r1, q1⟩ => ?_)
  obtain ⟨c, rfl, q1⟩ := q1
  cases r1
  refine wpAny_truthy_bool ?_
  cases c with
  | true => exact hb pins s1 σ H1 Q I1 q1
  | false => exact ⟨.bl false, H1, I1, rfl, q1⟩
/-- a if t else b -/
def tIf (t : TT) (ta tb : TE) : TE := fun σ H Q => t σ H fun c H1 => if c = true then ta σ H1 Q else tb σ H1 Q
theorem pe_ifExp {c : Expr} (hc : PT X c tA) (ha : PE X a ta) (hb : PE X b tb) : PE X (.IfExp c a b pos) (tIf tA ta tb) := by
  intro pins s σ H Q I h
  refine wpAny_IfExp (thn (hc pins s σ H _ I h) fun d s1 ⟨H1, I1, q1⟩ => ?_)
  cases d with
  | true => exact ha pins s1 σ H1 Q I1 q1
  | false => exact hb pins s1 σ H1 Q I1 q1
end
end L2

namespace L2
open PySem PySem.Spec PyProof.Rows

/-! ### a list, a tuple that is read: tracked, frozen, or an object of the module -/
def SqL (K : PySem.W.Frag) (H : Hp) (a : Addr) (xs : List V) : Prop :=
  Rd H a (.lst xs) ∨
    ∃ (o : Obj) (its : Array Value) (n : Nat), K.lookup a = some o ∧ o.cls = .type "list" ∧ o.dict = none ∧ o.data = .seq its n ∧ its.size ≤ sizeLine ∧ Vals xs its.toList
def SqT (K : PySem.W.Frag) (H : Hp) (a : Addr) (xs : List V) : Prop :=
  Rd H a (.tup xs) ∨
    ∃ (o : Obj) (its : Array Value) (n : Nat), K.lookup a = some o ∧ o.cls = .type "tuple" ∧ o.data = .seq its n ∧ its.size ≤ sizeLine ∧ Vals xs its.toList
def absV : Value → Option V
  | .none => some .non
  | .bool b => some (.bl b)
  | .int i _ => some (.int i)
  | .str x _ => some (.str x)
  | .bytes b _ => some (.byt b)
  | .float b _ => some (.flt b)
  | .ref a => some (.ref a)
  | .type n => some (.ty n)
  | _ => none
theorem RelV.abs {x : V} {u : Value} (r : RelV x u) : absV u = some x := by
  cases x with
  | non => cases r; rfl
  | bl _ => cases r; rfl
  | int _ => obtain ⟨t, rfl⟩ := r; rfl
  | str _ => obtain ⟨t, rfl⟩ := r; rfl
  | byt _ => obtain ⟨t, rfl⟩ := r; rfl
  | flt _ => obtain ⟨t, rfl⟩ := r; rfl
  | ref _ => cases r; rfl
  | ty _ => cases r; rfl
theorem RelV.inj {x y : V} {u : Value} (r : RelV x u) (q : RelV y u) : x = y := Option.some.inj (r.abs.symm.trans q.abs)
theorem Vals.inj : ∀ {xs ys : List V} {us : List Value}, Vals xs us → Vals ys us → xs = ys
  | _, _, _, .nil, .nil => rfl
  | _, _, _, .cons r t, .cons r' t' => by rw [r.inj r', Vals.inj t t']
section
variable {X : Cx} {pins : List (Addr × Obj)} {σ : St} {H : Hp} {s : Shared} {a : Addr} {xs ys : List V}
theorem SqL.of {K : PySem.W.Frag} (h : H a = some (.lst xs)) : SqL K H a xs := .inl (.inl h)
theorem SqT.of {K : PySem.W.Frag} (h : H a = some (.tup xs)) : SqT K H a xs := .inl (.inl h)
theorem Inv.list (I : Inv X pins σ H s) (h : SqL X.K H a xs) : ∃ its : List Value, Vals xs its ∧ PlainL s.heap a its.toArray ∧ xs.length ≤ sizeLine := by
  rcases h with h | ⟨o, its, n, hk, hc, hd, hs, hz, r⟩
  · obtain ⟨z, its, n, r, e⟩ := h.ok I.hok
    exact ⟨its, r, ⟨_, n, e, rfl, rfl, rfl⟩, z⟩
  · refine ⟨its.toList, r, ⟨o, n, I.kIn a o hk, hc, hd, by simpa using hs⟩, ?_⟩
    have e := r.length
    simp only [Array.length_toList] at e
    omega
theorem Inv.tuple (I : Inv X pins σ H s) (h : SqT X.K H a xs) : ∃ its : List Value, Vals xs its ∧ IsTup s.heap a its.toArray ∧ xs.length ≤ sizeLine := by
  rcases h with h | ⟨o, its, n, hk, hc, hs, hz, r⟩
  · obtain ⟨z, its, r, p⟩ := h.ok I.hok
    exact ⟨its, r, p, z⟩
  · refine ⟨its.toList, r, ⟨o, I.kIn a o hk, hc, n, by simpa using hs⟩, ?_⟩
    have e := r.length
    simp only [Array.length_toList] at e
    omega
theorem Inv.list_inj (I : Inv X pins σ H s) (h : SqL X.K H a xs) (h' : SqL X.K H a ys) : xs = ys := by
  obtain ⟨its, r, ⟨o, n, e, _, _, d⟩, _⟩ := I.list h
  obtain ⟨its', r', ⟨o', n', e', _, _, d'⟩, _⟩ := I.list h'
  rw [e] at e'; cases e'
  rw [d] at d'
  injection d' with d1 _
  have : its = its' := by simpa using congrArg Array.toList d1
  subst this
  exact r.inj r'
end

/-! ### another wish about exceptions -/
abbrev Cx.wish (X : Cx) (E : Value → Shared → Prop) : Cx := { X with xe := E }
/-- no exception leaves -/
abbrev Cx.nox (X : Cx) : Cx := X.wish fun _ _ => False
theorem Cx.Ok.wish {X : Cx} (ok : X.Ok) (E : Value → Shared → Prop) : (X.wish E).Ok :=
  ⟨ok.mod, ok.kind, ok.glob, ok.blt, ok.above, ok.inj, ok.has, ok.cab, ok.hd, ok.frames, ok.stk, ok.exf, ok.bs, ok.bsz, ok.noex, ok.exfs, ok.funs, ok.frf⟩
theorem Cx.Ok.unwish {X : Cx} {E : Value → Shared → Prop} (ok : (X.wish E).Ok) : X.Ok :=
  ⟨ok.mod, ok.kind, ok.glob, ok.blt, ok.above, ok.inj, ok.has, ok.cab, ok.hd, ok.frames, ok.stk, ok.exf, ok.bs, ok.bsz, ok.noex, ok.exfs, ok.funs, ok.frf⟩
section
variable {X : Cx} {pins : List (Addr × Obj)} {σ : St} {H : Hp} {s : Shared} {E : Value → Shared → Prop}
theorem Inv.wish (I : Inv X pins σ H s) (E : Value → Shared → Prop) : Inv (X.wish E) pins σ H s := ⟨I.ok.wish E, I.os, I.bare, I.base, I.loc, I.cell, I.free, I.freeC, I.pin, I.hok, I.len⟩
theorem Inv.unwish (I : Inv (X.wish E) pins σ H s) : Inv X pins σ H s := ⟨I.ok.unwish, I.os, I.bare, I.base, I.loc, I.cell, I.free, I.freeC, I.pin, I.hok, I.len⟩
theorem SP.unwish {D : Ends} {f : Flow} {s' : Shared} (h : SP (X.wish E) pins D f s') : SP X pins D f s' := by
  cases f with
  | next => obtain ⟨σ', H', I, q⟩ := h; exact ⟨σ', H', I.unwish, q⟩
  | brk => obtain ⟨σ', H', I, q⟩ := h; exact ⟨σ', H', I.unwish, q⟩
  | cont => obtain ⟨σ', H', I, q⟩ := h; exact ⟨σ', H', I.unwish, q⟩
  | ret u => obtain ⟨v, σ', H', I, r, q⟩ := h; exact ⟨v, σ', H', I.unwish, r, q⟩
theorem PE.nox {e : Expr} {t : TE} (h : PE X.nox e t) : PE X e t := fun pins s σ H Q I hw =>
  wpAny_mono (h pins s σ H Q (I.wish _) hw) (fun _ _ ⟨v, H', I', r, q⟩ => ⟨v, H', I'.unwish, r, q⟩) fun _ _ z => False.elim z
theorem PT.nox {e : Expr} {t : TT} (h : PT X.nox e t) : PT X e t := fun pins s σ H Q I hw =>
  wpAny_mono (h pins s σ H Q (I.wish _) hw) (fun _ _ ⟨H', I', q⟩ => ⟨H', I'.unwish, q⟩) fun _ _ z => False.elim z
theorem PSs.nox {st : List Stmt} {t : TS} (h : PSs X.nox st t) : PSs X st t := fun pins s σ H D I hw =>
  wpAny_mono (h pins s σ H D (I.wish _) hw) (fun _ _ q => q.unwish) fun _ _ z => False.elim z
end

/-! ### blocks and small statements -/
section
variable {X : Cx} {st : Stmt} {rest : List Stmt} {t u : TS} {e : Expr} {te : TE} {pos : Pos}
def tNext : TS := fun D σ H => D.nx σ H
def tSeq (t u : TS) : TS := fun D σ H => t { D with nx := u D } σ H
theorem pss_nil : PSs X [] tNext := fun _ _ σ H _ I h => wpAny_execs_nil ⟨σ, H, I, h⟩
theorem pss_cons (h1 : PS X st t) (h2 : PSs X rest u) : PSs X (st :: rest) (tSeq t u) := by
  intro pins s σ H D I h
  refine wpAny_execs_cons (thn (h1 pins s σ H { D with nx := u D } I h) fun f s1 q => ?_)
  cases f with
  | next =>
    obtain ⟨σ', H', I', q⟩ := q
    exact h2 pins s1 σ' H' D I' q
  | ret v => exact q
  | brk => exact q
  | cont => exact q
theorem pss_one (h1 : PS X st t) : PSs X [st] t := by
  intro pins s σ H D I h
  refine wpAny_execs_cons (thn (h1 pins s σ H D I h) fun f s1 q => ?_)
  cases f with
  | next => exact wpAny_execs_nil q
  | ret v => exact q
  | brk => exact q
  | cont => exact q
/-- in a def's body nothing is shown -/
theorem Inv.quiet {pins : List (Addr × Obj)} {σ : St} {H : Hp} {s : Shared} (I : Inv X pins σ H s) : interactive X.env = false := by simp [interactive, I.ok.kind]
/-- an expression whose value is dropped -/
def tDrop (te : TE) : TS := fun D σ H => te σ H fun _ H1 => D.nx σ H1
theorem ps_expr (he : PE X e te) (hs : swapsWith e none pos.line X.env = pure false := by rfl) : PS X (.Expr e pos) (tDrop te) := by
  intro pins s σ H D I h
  exact wpAny_Expr_any (thn (he pins s σ H _ I h) fun v s1 ⟨x, H1, I1, r1, q1⟩ => ⟨σ, H1, I1, q1⟩) I.quiet hs
def tRet (te : TE) : TS := fun D σ H => te σ H D.rt
theorem ps_ret (he : PE X e te) : PS X (.Return (some e) pos) (tRet te) := by
  intro pins s σ H D I h
  exact wpAny_Return_some (thn (he pins s σ H _ I h) fun v s1 ⟨x, H1, I1, r1, q1⟩ => ⟨x, σ, H1, I1, r1, q1⟩)
def tIfS (c : TT) (t u : TS) : TS := fun D σ H => c σ H fun b H1 => if b = true then t D σ H1 else u D σ H1
theorem ps_if {c : Expr} {a b : List Stmt} {tc : TT} (hc : PT X c tc) (ha : PSs X a t) (hb : PSs X b u) : PS X (.If c a b pos) (tIfS tc t u) := by
  intro pins s σ H D I h
  refine wpAny_If (thn (hc pins s σ H _ I h) fun d s1 ⟨H1, I1, q1⟩ => ?_)
  cases d with
  | true => exact ha pins s1 σ H1 D I1 q1
  | false => exact hb pins s1 σ H1 D I1 q1
/-- code that the proof never comes to -/
def tNever : TS := fun _ _ _ => False
theorem ps_never : PS X st tNever := fun _ _ _ _ _ _ h => h.elim
end

/-! ### targets -/
abbrev TG := V → St → Hp → (St → Hp → Prop) → Prop
abbrev TGs := List V → St → Hp → (St → Hp → Prop) → Prop
def PG (X : Cx) (target : Expr) (t : TG) : Prop :=
  ∀ (pins : List (Addr × Obj)) (s : Shared) (σ : St) (H : Hp) (v : V) (u : Value) (Q : St → Hp → Prop), Inv X pins σ H s → RelV v u → t v σ H Q →
    wpAny (model X.prog X.w) X.A (assign target X.env u) (fun _ s' => ∃ σ' H', Inv X pins σ' H' s' ∧ Q σ' H') X.xe s
/-- several targets, one after another -/
def PGs (X : Cx) (ts : List Expr) (t : TGs) : Prop :=
  ∀ (pins : List (Addr × Obj)) (s : Shared) (σ : St) (H : Hp) (vs : List V) (us : List Value) (Q : St → Hp → Prop), Inv X pins σ H s → Vals vs us → t vs σ H Q →
    wpAny (model X.prog X.w) X.A (assignInOrder ((assignEach ts X.env).map (·.2)) us) (fun _ s' => ∃ σ' H', Inv X pins σ' H' s' ∧ Q σ' H') X.xe s
/-- o[i] = v, by values -/
abbrev TSet := V → V → V → Hp → (Hp → Prop) → Prop
def PSet (X : Cx) (t : TSet) : Prop :=
  ∀ (pins : List (Addr × Obj)) (s : Shared) (σ : St) (H : Hp) (o i v : V) (ov iv u : Value) (Q : Hp → Prop), Inv X pins σ H s → RelV o ov → RelV i iv → RelV v u → t o i v H Q →
    wpAny (model X.prog X.w) X.A (setItem ov iv u) (fun _ s' => ∃ H', Inv X pins σ H' s' ∧ Q H') X.xe s
section
variable {X : Cx} {pos : Pos}
def gName (i : Nat) : TG := fun v σ H Q => Q (σ.set i (some v)) H
theorem pg_name {i : Nat} {x : Str} (hN : X.N.Nodup) (hi : X.N[i]? = some x) (hx : Loc X.env.scope x) (hf : X.fn x = true ∨ X.env.scope.names.lookup x = some .local := by first | exact .inl rfl | exact .inr rfl | assumption) : PG X (.Name x pos) (gName i) := by
  intro pins s σ H v u Q I r h
  exact wpAny_assign_Name (store_ok I hN hi hx r (fun s' I' => ⟨_, H, I', h⟩) hf)
def gNil : TGs := fun vs σ H Q => vs = [] ∧ Q σ H
def gCons (t : TG) (u : TGs) : TGs := fun vs σ H Q => ∃ v r, vs = v :: r ∧ t v σ H fun σ' H' => u r σ' H' Q
theorem pgs_nil : PGs X [] gNil := by
  intro pins s σ H vs us Q I r h
  obtain ⟨e, h⟩ := h
  subst e
  cases r
  exact assignInOrder_nil ⟨σ, H, I, h⟩
theorem pgs_cons {e : Expr} {es : List Expr} {t : TG} {u : TGs} (h1 : PG X e t) (h2 : PGs X es u)
    (hs : (assignEach (e :: es) X.env).map (·.2) = assign e X.env :: (assignEach es X.env).map (·.2) := by rfl) : PGs X (e :: es) (gCons t u) := by
  intro pins s σ H vs us Q I r h
  obtain ⟨v, vr, e1, h⟩ := h
  subst e1
  cases r with
  | cons r rr =>
    rw [hs]
    refine assignInOrder_cons (thn (h1 pins s σ H _ _ _ I r h) fun _ s1 ⟨σ1, H1, I1, q1⟩ => ?_)
    exact h2 pins s1 σ1 H1 _ _ Q I1 rr q1
/-- (a, b, ..) = a tuple of that length -/
def gTup (K : PySem.W.Frag) (n : Nat) (t : TGs) : TG := fun v σ H Q => ∃ a xs, v = .ref a ∧ SqT K H a xs ∧ xs.length = n ∧ t xs σ H Q
theorem pg_tup {es : List Expr} {k : Nat} {t : TGs} {n : Nat} (hc : X.calm = true) (h : PGs X es t)
    (hn : (assignEach es X.env).length = n := by rfl) (hst : (assignEach es X.env).findIdx? (·.1) = none := by rfl) : PG X (.Tuple es k pos) (gTup X.K n t) := by
  intro pins s σ H v u Q I r hw
  obtain ⟨a, xs, e1, hq, hl, hw⟩ := hw
  subst e1
  cases r
  obtain ⟨its, rv, ht, hz⟩ := I.tuple hq
  refine assign_Tuple_tuple (I.ok.hd hc) ht (by simp [hn, ← hl, rv.length]) hst fun h' hx => ?_
  have I1 : Inv X pins σ H { s with heap := h' } := I.kept (t' := s.toks) fun b o e => hx b o (Nat.ne_of_lt (Heap.lt_size e)) e
  exact h pins _ σ H xs _ Q I1 (by simpa using rv) hw
/-- o[i] = .. -/
def gSub (to ti : TE) (t : TSet) : TG := fun v σ H Q => to σ H fun o H1 => ti σ H1 fun i H2 => t o i v H2 fun H3 => Q σ H3
theorem pg_sub {o i : Expr} {to ti : TE} {t : TSet} (ho : PE X o to) (hi : PE X i ti) (hs : PSet X t)
    (ha : ∀ v, assign (.Subscript o i pos) X.env v = (do
      let ov ← holding [v] (eval o X.env)
      let iv ← holding [v, ov] (eval i X.env)
      standAt pos
      holding [v, ov, iv] (setItem ov iv v)
      release [v, ov, iv] []) := by intro _; rfl) : PG X (.Subscript o i pos) (gSub to ti t) := by
  intro pins s σ H v u Q I r h
  rw [ha]
  refine wpAny_bind (wpAny_holding (thn (ho pins s σ H _ I h) fun ov s1 ⟨x, H1, I1, r1, q1⟩ => ?_))
  refine wpAny_bind (wpAny_holding (thn (hi pins s1 σ H1 _ I1 q1) fun iv s2 ⟨y, H2, I2, r2, q2⟩ => ?_))
  refine wpAny_bind (wpAny_standAt (wpAny_bind (wpAny_holding (thn (hs pins s2 σ H2 x y v ov iv u _ I2 r1 r2 r q2) fun _ s3 ⟨H3, I3, q3⟩ => ?_))))
  exact wpAny_release ⟨σ, H3, I3, q3⟩
/-- target = value -/
def tAsg (te : TE) (g : TG) : TS := fun D σ H => te σ H fun x H1 => g x σ H1 D.nx
theorem ps_asg {tg e : Expr} {te : TE} {g : TG} (he : PE X e te) (hg : PG X tg g) (hs : swapsWithSole [tg] e pos.line X.env = pure false := by rfl) (hw : swappedStores [tg] e X.env = pure none := by rfl)
    (h1 : (assignEach [tg] X.env).map (·.2) = [assign tg X.env] := by rfl) : PS X (.Assign [tg] e pos) (tAsg te g) := by
  intro pins s σ H D I h
  refine wpAny_Assign_stores (thn (he pins s σ H _ I h) fun v s1 ⟨x, H1, I1, r1, q1⟩ => ?_) hs hw
  rw [h1]
  exact thn (hg pins s1 σ H1 x v _ I1 r1 q1) fun _ s2 q => q
/-- name = value -/
theorem ps_set {i : Nat} {x : Str} {e : Expr} {te : TE} {pos' : Pos} (hN : X.N.Nodup) (hi : X.N[i]? = some x) (hx : Loc X.env.scope x) (he : PE X e te) (hs : swapsWith e (some (.Name x pos')) pos.line X.env = pure false := by rfl) (hf : X.fn x = true ∨ X.env.scope.names.lookup x = some .local := by first | exact .inl rfl | exact .inr rfl | assumption) :
    PS X (.Assign [.Name x pos'] e pos) (tAsg te (gName i)) := by
  intro pins s σ H D I h
  refine wpAny_Assign_Name (thn (he pins s σ H _ I h) fun v s1 ⟨y, H1, I1, r1, q1⟩ => ?_) hs
  exact store_ok I1 hN hi hx r1 (fun s2 I2 => ⟨_, H1, I2, q1⟩) hf
end

/-! ### while -/
section
variable {X : Cx} {pos : Pos}
/-- the invariant W with its measure -/
def tWhile (c : TT) (tb : TS) : TS := fun D σ H => ∃ W : Nat → St → Hp → Prop, (∃ m, W m σ H) ∧ ∀ m σ H, W m σ H →
  c σ H fun b H1 => if b = true then ∃ N : St → Hp → Prop, (∀ σ' H', N σ' H' → ∃ m', m' < m ∧ W m' σ' H') ∧ tb { D with nx := N, ct := N, bk := D.nx } σ H1 else D.nx σ H1
theorem ps_while {c : Expr} {body : List Stmt} {tc : TT} {tb : TS} (hp : PassesOwn (model X.prog X.w) X.A X.env X.xe) (hc : PT X c tc) (hb : PSs X body tb) : PS X (.While c body [] pos) (tWhile tc tb) := by
  intro pins s σ H D I h
  obtain ⟨W, ⟨m0, w0⟩, turn⟩ := h
  refine wpAny_While (codeAny_whileLoop (fun n s' => ∃ σ' H', Inv X pins σ' H' s' ∧ W n σ' H') ?_ m0 ⟨σ, H, I, w0⟩)
  rintro n s1 ⟨σ1, H1, I1, w1⟩
  refine wpAny_passesOwn hp (thn (hc pins s1 σ1 H1 _ I1 (turn n σ1 H1 w1)) fun b s2 ⟨H2, I2, q2⟩ => ?_)
  cases b with
  | true =>
    obtain ⟨N, hN, q2⟩ := q2
    rw [if_pos rfl]
    refine wpAny_passesOwn hp (thn (hb pins s2 σ1 H2 _ I2 q2) fun f s3 q3 => ?_)
    cases f with
    | next =>
      obtain ⟨σ3, H3, I3, n3⟩ := q3
      obtain ⟨m', hm, w3⟩ := hN σ3 H3 n3
      exact ⟨m', hm, σ3, H3, I3, w3⟩
    | cont =>
      obtain ⟨σ3, H3, I3, n3⟩ := q3
      obtain ⟨m', hm, w3⟩ := hN σ3 H3 n3
      exact ⟨m', hm, σ3, H3, I3, w3⟩
    | brk => exact q3
    | ret v => exact q3
  | false =>
    rw [if_neg Bool.false_ne_true]
    exact wpAny_execs_nil ⟨σ1, H2, I2, q2⟩
end

/-! ### what a loop or a comprehension walks -/
/-- at turn i: it yields x (the heap may grow), or it stops -/
structure It where
  go : Nat → Hp → Prop
  yld : Nat → Hp → V → Hp → Prop
  stop : Nat → Hp → Prop
/-- the iterator's own objects may turn: they are not the frame's, not pinned, younger than the entry (or a comprehension's own) -/
def FpOk (X : Cx) (pins : List (Addr × Obj)) (H : Hp) (b : Addr) : Prop :=
  H b = none ∧ b ≠ X.env.locals ∧ b ∉ X.fs ∧ (b ∈ X.ex ∨ X.s₀.heap.objs.size ≤ b) ∧ (∀ x c, X.env.cells.lookup x = some c → c ≠ b) ∧ ∀ p ∈ X.pn ++ pins, p.1 ≠ b
theorem Inv.fpOk {X : Cx} {pins : List (Addr × Obj)} {σ : St} {H H' : Hp} {s : Shared} {b : Addr} (I : Inv X pins σ H s) (hb : s.heap.objs.size ≤ b) (hn : H' b = none) : FpOk X pins H' b := by
  refine ⟨hn, Nat.ne_of_gt (Nat.lt_of_lt_of_le I.lt hb), I.nofs hb, .inr (Nat.le_trans I.sz hb), fun x c e z => ?_, fun p hp z => ?_⟩
  · obtain ⟨v, q⟩ := I.cell x c e
    exact absurd (Nat.lt_of_lt_of_le q.lt (by rw [z]; exact hb)) (Nat.lt_irrefl _)
  · exact absurd (Nat.lt_of_lt_of_le (Heap.lt_size (I.pin p hp).1) (by rw [z]; exact hb)) (Nat.lt_irrefl _)
structure Turn (P : Program) (w : World) (K : PySem.W.Frag) (tg : Expr) (J : It) (fp : List Addr) (it : Addr) (tn : Nat → Heap → Prop) : Prop where
  mem : it ∈ fp
  obj : ∀ i h, tn i h → ∀ b ∈ fp, ∃ o, h.get? b = some o ∧ ∀ v, o.data ≠ .cell v
  keep : ∀ i h h', tn i h → (∀ b ∈ fp, ∀ o, h.get? b = some o → h'.get? b = some o) → tn i h'
  item : ∀ (X : Cx), X.prog = P → X.w = w → X.K = K → X.calm = true → ∀ (i : Nat) (pins : List (Addr × Obj)) (s : Shared) (σ : St) (H : Hp) (E : Value → Shared → Prop), Inv X pins σ H s → (∀ b ∈ fp, FpOk X pins H b) → tn i s.heap → J.go i H →
    wpAny (model P w) X.A (pyNext (.ref it)) (fun r s1 => ∃ u, r = some u ∧
      wpAny (model P w) X.A (letOwnedTupleGo tg (.ref it) u) (fun _ s2 => ∃ x H', Inv X pins σ H' s2 ∧ RelV x u ∧ J.yld i H x H' ∧ tn (i + 1) s2.heap ∧ ∀ b ∈ fp, H' b = none) E s1) E s
  done : ∀ (X : Cx), X.prog = P → X.w = w → X.K = K → X.calm = true → ∀ (i : Nat) (pins : List (Addr × Obj)) (s : Shared) (σ : St) (H : Hp) (E : Value → Shared → Prop), Inv X pins σ H s → (∀ b ∈ fp, FpOk X pins H b) → tn i s.heap → J.stop i H →
    wpAny (model P w) X.A (pyNext (.ref it)) (fun r s1 => r = none ∧ Inv X pins σ H s1) E s
  self : ∀ (A : Around) (i : Nat) (s : Shared) (Q : Value → Shared → Prop) (E : Value → Shared → Prop), tn i s.heap → Q (.ref it) s → wpAny (model P w) A (pyIter (.ref it)) Q E s
abbrev TI := St → Hp → (It → Hp → Prop) → Prop
/-- an iterator has come -/
def PIE (X : Cx) (pins : List (Addr × Obj)) (σ : St) (tg : Expr) (R : It → Hp → Prop) (itv : Value) (s2 : Shared) : Prop :=
  ∃ (it : Addr) (fp : List Addr) (tn : Nat → Heap → Prop) (J : It) (H' : Hp), itv = .ref it ∧ Inv X pins σ H' s2 ∧ Turn X.prog X.w X.K tg J fp it tn ∧ tn 0 s2.heap ∧ (∀ b ∈ fp, FpOk X pins H' b) ∧ R J H'
def PI (X : Cx) (tg iter : Expr) (wi : TI) : Prop :=
  ∀ (pins : List (Addr × Obj)) (s : Shared) (σ : St) (H : Hp) (R : It → Hp → Prop), Inv X pins σ H s → wi σ H R →
    wpAny (model X.prog X.w) X.A (eval iter X.env) (fun v s1 => wpAny (model X.prog X.w) X.A (pyIter v) (PIE X pins σ tg R) X.xe s1) X.xe s

/-- the step ahead of the store is nothing for an iterator that keeps no tuple -/
theorem go_of {M : Model} {A : Around} {E : Value → Shared → Prop} {s : Shared} {tg : Expr} {it : Addr} {u : Value} {o : Obj} {n : String} {vs : Array Value} {Q : Unit → Shared → Prop} (ho : s.heap.get? it = some o) (hc : o.cls = .type n) (hd : o.data = .fields vs)
    (hn : ["enumerate", "zip", "dict_itemiterator", "dict_reverseitemiterator", "odict_iterator", "itertools.zip_longest", "itertools.pairwise"].contains n = false) (hQ : Q () s) : wpAny M A (letOwnedTupleGo tg (.ref it) u) Q E s := by
  unfold letOwnedTupleGo
  cases tg <;> first
    | exact wpAny_pure hQ
    | (cases u <;> first
        | exact wpAny_pure hQ
        | (refine wpAny_bind (wpAny_load ho ?_)
           rw [hc, hd]
           show wpAny M A (if (["enumerate", "zip", "dict_itemiterator", "dict_reverseitemiterator", "odict_iterator", "itertools.zip_longest", "itertools.pairwise"].contains n && vs[0]? == some (rawInt _)) = true then _ else _) Q E s
           rw [if_neg (by intro h; rw [hn, Bool.false_and] at h; cases h)]
           exact wpAny_pure hQ))

/-- the list at a, as it stands at each turn (a loop may append to it) -/
def Itl (K : PySem.W.Frag) (a : Addr) : It :=
  ⟨fun i H => ∃ xs x, SqL K H a xs ∧ xs[i]? = some x, fun i H x H' => H' = H ∧ ∀ xs, SqL K H a xs → xs[i]? = some x, fun i H => ∃ xs, SqL K H a xs ∧ xs.length ≤ i⟩
/-- lo, lo + 1, .. (n of them) -/
def Itr (lo : Int) (n : Nat) : It := ⟨fun i _ => i < n, fun i H x H' => H' = H ∧ x = .int (lo + i), fun i _ => n ≤ i⟩
theorem turn_list {P : Program} {w : World} {K : PySem.W.Frag} {tg : Expr} (a it : Addr) : Turn P w K tg (Itl K a) [it] it (fun i h => h.IsListIter it a i) where
  mem := by simp
  obj := fun i h st b hb => by
    have e : b = it := by simpa using hb
    subst e
    obtain ⟨o, e, c, d⟩ := st
    exact ⟨o, e, fun v z => by rw [d] at z; cases z⟩
  keep := fun i h h' st k => st.at fun o e => k it (by simp) o e
  item := by
    intro X hP hw hK hc i pins s σ H E I hf st hg
    subst hP hw hK
    obtain ⟨xs, x, hq, hx⟩ := hg
    obtain ⟨its, rv, p, hz⟩ := I.list hq
    obtain ⟨u, hu, ru⟩ := rv.get hx
    obtain ⟨f0, f1, f2, f3, f4, f5⟩ := hf it (by simp)
    refine wpAny_pyNext_list_item st p.isList (x := u) (by simpa using hu) fun h' st' sb => ?_
    have I1 : Inv X pins σ H { s with heap := h' } := I.turned (t' := s.toks) (fun b o hb e => (sb.2 b hb).trans e) f0 f1 f3 f4 f5
    obtain ⟨o, e, c, d⟩ := id st'
    exact ⟨u, rfl, go_of (s := { s with heap := h' }) e c d (by decide) ⟨x, H, I1, ru, ⟨rfl, fun ys hy => by rw [I.list_inj hy hq]; exact hx⟩, st', fun b hb => (hf b hb).1⟩⟩
  done := by
    intro X hP hw hK hc i pins s σ H E I hf st hg
    subst hP hw hK
    obtain ⟨xs, hq, hx⟩ := hg
    obtain ⟨its, rv, p, hz⟩ := I.list hq
    obtain ⟨f0, f1, f2, f3, f4, f5⟩ := hf it (by simp)
    have hl := rv.length
    exact wpAny_pyNext_list_end (I.ok.hd hc) st p.isList (by simp; omega) fun h' eb => ⟨rfl, I.turned (t' := s.toks) (fun b o hb e => eb b o hb e) f0 f1 f3 f4 f5⟩
  self := fun _ _ _ _ _ st h => wpAny_pyIter_listiter st h
theorem turn_range {P : Program} {w : World} {K : PySem.W.Frag} {tg : Expr} (it : Addr) (lo : Int) (n : Nat) : Turn P w K tg (Itr lo n) [it] it (fun i h => IsRangeIter h it (lo + (i : Nat) * 1) ((n : Int) - (i : Nat)) 1) where
  mem := by simp
  obj := fun i h st b hb => by
    have e : b = it := by simpa using hb
    subst e
    exact ⟨_, st, fun v z => by
      have z' : Data.fields _ = Data.cell v := z
      cases z'⟩
  keep := fun i h h' st k => k it (by simp) _ st
  item := by
    intro X hP hw hK hc i pins s σ H E I hf st hg
    subst hP hw hK
    obtain ⟨f0, f1, f2, f3, f4, f5⟩ := hf it (by simp)
    have W := Walks.range (prog := X.prog) (w := X.w) (I.ok.hd hc) it lo 1 n
    refine W.item i s _ _ hg st fun v h' tk hv st' kk => ?_
    obtain ⟨t, rfl⟩ := hv
    have I1 : Inv X pins σ H { s with heap := h', toks := tk } := I.turned (fun b o hb e => kk b o (by simpa using hb) e) f0 f1 f3 f4 f5
    refine ⟨_, rfl, go_of (s := { s with heap := h', toks := tk }) (n := "range_iterator") st' rfl rfl (by decide) ⟨.int (lo + i), H, I1, ⟨t, ?_⟩, ⟨rfl, rfl⟩, st', fun b hb => (hf b hb).1⟩⟩
    rw [Int.mul_one]
  done := by
    intro X hP hw hK hc i pins s σ H E I hf st hg
    subst hP hw hK
    obtain ⟨f0, f1, f2, f3, f4, f5⟩ := hf it (by simp)
    exact wpAny_pyNext_range_end (I.ok.hd hc) st (by have : n ≤ i := hg; omega) fun h' eb => ⟨rfl, I.turned (t' := s.toks) (fun b o hb e => eb b o hb e) f0 f1 f3 f4 f5⟩
  self := fun _ _ _ _ _ st h => wpAny_pyIter_rangeiter st h
end L2

namespace L2
open PySem PySem.Spec PyProof.Rows
section
variable {X : Cx} {tg : Expr}
def iList (K : PySem.W.Frag) (tl : TE) : TI := fun σ H R => tl σ H fun x H1 => ∃ a, x = .ref a ∧ (∃ xs, SqL K H1 a xs) ∧ R (Itl K a) H1
theorem pi_list {l : Expr} {tl : TE} (hl : PE X l tl) : PI X tg l (iList X.K tl) := by
  intro pins s σ H R I h
  refine thn (hl pins s σ H _ I h) fun v s1 ⟨x, H1, I1, r1, q1⟩ => ?_
  obtain ⟨a, e, ⟨xs, hq⟩, q⟩ := q1
  subst e
  cases r1
  obtain ⟨its, rv, p, hz⟩ := I1.list hq
  refine wpAny_pyIter_list p.isList ?_
  refine ⟨s1.heap.objs.size, [s1.heap.objs.size], _, _, H1, rfl, I1.kept (t' := s1.toks) fun b o e => Heap.get?_push_of_some _ e, turn_list a _, ⟨_, Heap.get?_push_size _ rfl, rfl, rfl⟩, fun b hb => ?_, q⟩
  have e : b = s1.heap.objs.size := by simpa using hb
  subst e
  exact I1.fpOk (Nat.le_refl _) (I1.hok.fresh (Nat.le_refl _))
/-- a range object just made, walked -/
theorem range_it {pins : List (Addr × Obj)} {σ : St} {H : Hp} {s : Shared} {R : It → Hp → Prop} {E : Value → Shared → Prop} {lo hi : Int} {t u v : Tok} {tk : Nat} (I : Inv X pins σ H s) (h1 : -(2 ^ 62) ≤ lo) (h2 : lo < 2 ^ 62) (h3 : -(2 ^ 62) ≤ hi) (h4 : hi < 2 ^ 62)
    (q : R (Itr lo (hi - lo).toNat) H) : wpAny (model X.prog X.w) X.A (pyIter (.ref s.heap.objs.size)) (PIE X pins σ tg R) E { s with heap := s.heap.push { cls := .type "range", data := .fields #[.int lo t, .int hi u, .int 1 v] }, toks := tk } := by
  refine wpAny_pyIter_range (IsRange.new ..) (small_one h1 h2 h3 h4) ?_
  have I1 : Inv X pins σ H { s with heap := s.heap.push { cls := .type "range", data := .fields #[.int lo t, .int hi u, .int 1 v] }, toks := tk } := I.kept fun b o e => Heap.get?_push_of_some _ e
  refine ⟨(s.heap.push { cls := .type "range", data := .fields #[.int lo t, .int hi u, .int 1 v] }).objs.size, [(s.heap.push { cls := .type "range", data := .fields #[.int lo t, .int hi u, .int 1 v] }).objs.size], _, _, H, rfl,
    I1.kept (t' := tk) fun b o e => Heap.get?_push_of_some _ e, turn_range _ lo (hi - lo).toNat, ?_, fun b hb => ?_, q⟩
  · have e1 : lo + ((0 : Nat) : Int) * 1 = lo := by simp
    have e2 : (((hi - lo).toNat : Nat) : Int) - ((0 : Nat) : Int) = Builtin.Range.rangeSize lo hi 1 := by rw [rangeSize_one]; split <;> omega
    show IsRangeIter _ _ (lo + ((0 : Nat) : Int) * 1) ((((hi - lo).toNat : Nat) : Int) - ((0 : Nat) : Int)) 1
    rw [e1, e2]
    exact Heap.get?_push_size _ rfl
  · have e : b = (s.heap.push { cls := .type "range", data := .fields #[.int lo t, .int hi u, .int 1 v] }).objs.size := by simpa using hb
    subst e
    exact I1.fpOk (Nat.le_refl _) (I1.hok.fresh (Nat.le_refl _))
def iRng1 (ta : TA) : TI := fun σ H R => ta σ H fun vs H1 => ∃ j : Int, vs = [.int j] ∧ -(2 ^ 62) ≤ j ∧ j < 2 ^ 62 ∧ R (Itr 0 j.toNat) H1
def iRng2 (ta : TA) : TI := fun σ H R => ta σ H fun vs H1 => ∃ i j : Int, vs = [.int i, .int j] ∧ (-(2 ^ 62) ≤ i ∧ i < 2 ^ 62 ∧ -(2 ^ 62) ≤ j ∧ j < 2 ^ 62) ∧ R (Itr i (j - i).toNat) H1
theorem pi_range1 {a : Expr} {ta : TA} {p pos : Pos} (hg : Gl X "range") (hm : X.mg "range" = none) (ha : PA X [a] ta) (hs : starEach [a] X.env = [(false, eval a X.env)] := by rfl) : PI X tg (.Call (.Name "range" p) [a] [] pos) (iRng1 ta) := by
  intro pins s σ H R I h
  refine Call_ (ld_blt I hg hm boot_range (PyProof.Rows.callWith_type1 (thn (ha pos pins s σ H _ I h) fun us s1 ⟨vs, H1, I1, r1, q1⟩ => ?_) hs rfl))
  obtain ⟨j, e, q1, q2, q⟩ := q1
  subst e
  cases r1 with
  | cons r rr =>
    cases rr
    obtain ⟨t, rfl⟩ := r
    exact call_range_1 (range_it I1 (by omega) (by omega) q1 q2 (by simpa using q))
theorem pi_range2 {a b : Expr} {ta : TA} {p pos : Pos} (hg : Gl X "range") (hm : X.mg "range" = none) (ha : PA X [a, b] ta) (hs : starEach [a, b] X.env = [(false, eval a X.env), (false, eval b X.env)] := by rfl) (hs2 : starEach [b] X.env = [(false, eval b X.env)] := by rfl) :
    PI X tg (.Call (.Name "range" p) [a, b] [] pos) (iRng2 ta) := by
  intro pins s σ H R I h
  refine Call_ (ld_blt I hg hm boot_range (PyProof.Rows.callWith_type1 (thn (ha pos pins s σ H _ I h) fun us s1 ⟨vs, H1, I1, r1, q1⟩ => ?_) (by rw [hs, hs2]) (by rw [hs2]; rfl)))
  obtain ⟨i, j, e, ⟨q1, q2, q3, q4⟩, q⟩ := q1
  subst e
  cases r1 with
  | cons r rr =>
    cases rr with
    | cons r' rr =>
      cases rr
      obtain ⟨t, rfl⟩ := r
      obtain ⟨t', rfl⟩ := r'
      exact call_range_2 (range_it I1 q1 q2 q3 q4 q)

/-! ### for -/
/-- W: the invariant by the turn and a measure; N: what the body is to reach -/
def tFor (wi : TI) (g : TG) (tb : TS) : TS := fun D σ H => wi σ H fun J H1 => ∃ W : Nat → Nat → St → Hp → Prop, (∃ m, W 0 m σ H1) ∧ ∀ i m σ H, W i m σ H →
  (J.stop i H ∧ D.nx σ H) ∨ (J.go i H ∧ ∃ N : St → Hp → Prop, (∀ σ' H', N σ' H' → ∃ m', m' < m ∧ W (i + 1) m' σ' H') ∧ ∀ x H', J.yld i H x H' → g x σ H' fun σ2 H2 => tb { D with nx := N, ct := N, bk := D.nx } σ2 H2)
/-- the records at fp as they stand -/
def pinsAt (fp : List Addr) (h : Heap) : List (Addr × Obj) := fp.filterMap fun b => (h.get? b).map fun o => (b, o)
theorem mem_pinsAt {fp : List Addr} {h : Heap} {b : Addr} {o : Obj} (hb : b ∈ fp) (e : h.get? b = some o) : (b, o) ∈ pinsAt fp h := List.mem_filterMap.mpr ⟨b, hb, by rw [e]; rfl⟩
theorem of_pinsAt {fp : List Addr} {h : Heap} {p : Addr × Obj} (hp : p ∈ pinsAt fp h) : p.1 ∈ fp ∧ h.get? p.1 = some p.2 := by
  obtain ⟨b, hb, e⟩ := List.mem_filterMap.mp hp
  cases q : h.get? b with
  | none => rw [q] at e; cases e
  | some o =>
    rw [q] at e
    have e' : (b, o) = p := Option.some.inj e
    subst e'
    exact ⟨hb, q⟩
theorem Inv.pinned {pins : List (Addr × Obj)} {σ : St} {H : Hp} {s : Shared} {fp : List Addr} (I : Inv X pins σ H s) (hf : ∀ b ∈ fp, FpOk X pins H b) (ho : ∀ b ∈ fp, ∃ o, s.heap.get? b = some o ∧ ∀ v, o.data ≠ .cell v) : Inv X (pins ++ pinsAt fp s.heap) σ H s :=
  I.pins_of fun p hp => (List.mem_append.mp hp).elim (fun z => I.pin p (List.mem_append_right _ z)) fun z => by
    obtain ⟨hb, e⟩ := of_pinsAt z
    obtain ⟨f0, f1, f2, _⟩ := hf p.1 hb
    obtain ⟨o, e', d⟩ := ho p.1 hb
    rw [e] at e'; cases e'
    exact ⟨e, f0, f1, f2, d⟩
theorem Inv.unpinned {pins pl : List (Addr × Obj)} {σ : St} {H : Hp} {s : Shared} (I : Inv X (pins ++ pl) σ H s) : Inv X pins σ H s := I.pins_of fun p hp => I.pin p (List.mem_append_right _ (List.mem_append_left _ hp))
theorem ps_for {iter : Expr} {body : List Stmt} {wi : TI} {g : TG} {tb : TS} {pos : Pos} (hp : PassesOwn (model X.prog X.w) X.A X.env X.xe) (hc : X.calm = true) (hi : PI X tg iter wi) (hg : PG X tg g) (hb : PSs X body tb)
    (hs : ∀ x, foldedSetIterable iter X.env x = pure x := by intro _; rfl) : PS X (.For tg iter body [] pos) (tFor wi g tb) := by
  intro pins s σ H D I h
  refine wpAny_For (thn (hi pins s σ H _ I h) fun v s1 h1 => thn h1 fun itv s2 h2 => ?_) hs
  obtain ⟨it, fp, tn, J, H2, e, I2, T, st2, f2, W, ⟨m0, w0⟩, turn⟩ := h2
  subst e
  -- what stays true of the iterator's objects through the loop
  have stat : ∀ {H' : Hp}, (∀ b ∈ fp, H' b = none) → ∀ b ∈ fp, FpOk X pins H' b := fun hn b hb => ⟨hn b hb, (f2 b hb).2⟩
  refine codeAny_forLoop_any (fun n s' => ∃ i σ' H', Inv X pins σ' H' s' ∧ tn i s'.heap ∧ (∀ b ∈ fp, H' b = none) ∧ W i n σ' H') ?_ m0 ⟨0, σ, H2, I2, st2, fun b hb => (f2 b hb).1, w0⟩
  rintro n s3 ⟨i, σ3, H3, I3, st3, fr3, w3⟩
  rcases turn i n σ3 H3 w3 with ⟨stop, qn⟩ | ⟨go, N, hN, step⟩
  · refine wpAny_passesOwn hp (thn (T.done X rfl rfl rfl hc i pins s3 σ3 H3 X.xe I3 (stat fr3) st3 stop) fun r s4 ⟨hr, I4⟩ => ?_)
    subst hr
    exact wpAny_execs_nil ⟨σ3, H3, I4, qn⟩
  · refine wpAny_passesOwn hp (thn (T.item X rfl rfl rfl hc i pins s3 σ3 H3 X.xe I3 (stat fr3) st3 go) fun r s4 ⟨u, hr, h4⟩ => ?_)
    subst hr
    refine wpAny_passesOwn hp (thn h4 fun _ s5 ⟨x, H5, I5, r5, y5, st5, fr5⟩ => ?_)
    have I5' := I5.pinned (stat fr5) (T.obj _ _ st5)
    refine wpAny_passesOwn hp (thn (hg _ s5 σ3 H5 x u _ I5' r5 (step x H5 y5)) fun _ s6 ⟨σ6, H6, I6, q6⟩ => ?_)
    refine wpAny_passesOwn hp (thn (hb _ s6 σ6 H6 _ I6 q6) fun f s7 q7 => ?_)
    have again : ∀ {σ7 : St} {H7 : Hp}, Inv X (pins ++ pinsAt fp s5.heap) σ7 H7 s7 → N σ7 H7 → ∃ m, m < n ∧ ∃ i σ' H', Inv X pins σ' H' s7 ∧ tn i s7.heap ∧ (∀ b ∈ fp, H' b = none) ∧ W i m σ' H' := fun {σ7 H7} I7 n7 => by
      obtain ⟨m', hm, w7⟩ := hN σ7 H7 n7
      refine ⟨m', hm, i + 1, σ7, H7, I7.unpinned, T.keep _ _ _ st5 fun b hb o e => (I7.pin (b, o) (List.mem_append_right _ (List.mem_append_right _ (mem_pinsAt hb e)))).1, fun b hb => ?_, w7⟩
      obtain ⟨o, e, d⟩ := T.obj _ _ st5 b hb
      exact (I7.pin (b, o) (List.mem_append_right _ (List.mem_append_right _ (mem_pinsAt hb e)))).2.1
    cases f with
    | next => obtain ⟨σ7, H7, I7, n7⟩ := q7; exact again I7 n7
    | cont => obtain ⟨σ7, H7, I7, n7⟩ := q7; exact again I7 n7
    | brk => obtain ⟨σ7, H7, I7, q7⟩ := q7; exact ⟨σ7, H7, I7.unpinned, q7⟩
    | ret v => obtain ⟨x7, σ7, H7, I7, r7, q7⟩ := q7; exact ⟨x7, σ7, H7, I7.unpinned, r7, q7⟩
end

/-! ### the forms one uses -/
/-- over a list that the body leaves as it is -/
theorem for_list {K : PySem.W.Frag} {a : Addr} {xs : List V} {g : TG} {tb : TS} {D : Ends} {σ : St} {H : Hp} (Pv : Nat → St → Hp → Prop) (h0 : Pv 0 σ H) (hl : ∀ i σ H, i ≤ xs.length → Pv i σ H → SqL K H a xs)
    (hs : ∀ i x σ H, xs[i]? = some x → Pv i σ H → g x σ H fun σ2 H2 => tb { D with nx := Pv (i + 1), ct := Pv (i + 1), bk := D.nx } σ2 H2) (hd : ∀ σ H, Pv xs.length σ H → D.nx σ H) :
    ∃ W : Nat → Nat → St → Hp → Prop, (∃ m, W 0 m σ H) ∧ ∀ i m σ H, W i m σ H →
      ((Itl K a).stop i H ∧ D.nx σ H) ∨ ((Itl K a).go i H ∧ ∃ N : St → Hp → Prop, (∀ σ' H', N σ' H' → ∃ m', m' < m ∧ W (i + 1) m' σ' H') ∧ ∀ x H', (Itl K a).yld i H x H' → g x σ H' fun σ2 H2 => tb { D with nx := N, ct := N, bk := D.nx } σ2 H2) := by
  refine ⟨fun i m σ H => m = xs.length - i ∧ i ≤ xs.length ∧ Pv i σ H, ⟨xs.length, by simp, Nat.zero_le _, h0⟩, ?_⟩
  rintro i m σ H ⟨rfl, hi, p⟩
  have q := hl i σ H hi p
  by_cases hlt : i < xs.length
  · refine .inr ⟨⟨xs, xs[i], q, by simp [hlt]⟩, Pv (i + 1), fun σ' H' p' => ⟨xs.length - (i + 1), by omega, rfl, hlt, p'⟩, fun x H' y => ?_⟩
    obtain ⟨e, y⟩ := y
    subst e
    exact hs i x σ _ (y xs q) p
  · have e : i = xs.length := by omega
    subst e
    exact .inl ⟨⟨xs, q, Nat.le_refl _⟩, hd σ H p⟩
theorem for_range {lo : Int} {n : Nat} {g : TG} {tb : TS} {D : Ends} {σ : St} {H : Hp} (Pv : Nat → St → Hp → Prop) (h0 : Pv 0 σ H)
    (hs : ∀ i σ H, i < n → Pv i σ H → g (.int (lo + i)) σ H fun σ2 H2 => tb { D with nx := Pv (i + 1), ct := Pv (i + 1), bk := D.nx } σ2 H2) (hd : ∀ σ H, Pv n σ H → D.nx σ H) :
    ∃ W : Nat → Nat → St → Hp → Prop, (∃ m, W 0 m σ H) ∧ ∀ i m σ H, W i m σ H →
      ((Itr lo n).stop i H ∧ D.nx σ H) ∨ ((Itr lo n).go i H ∧ ∃ N : St → Hp → Prop, (∀ σ' H', N σ' H' → ∃ m', m' < m ∧ W (i + 1) m' σ' H') ∧ ∀ x H', (Itr lo n).yld i H x H' → g x σ H' fun σ2 H2 => tb { D with nx := N, ct := N, bk := D.nx } σ2 H2) := by
  refine ⟨fun i m σ H => m = n - i ∧ i ≤ n ∧ Pv i σ H, ⟨n, by simp, Nat.zero_le _, h0⟩, ?_⟩
  rintro i m σ H ⟨rfl, hi, p⟩
  by_cases hlt : i < n
  · refine .inr ⟨hlt, Pv (i + 1), fun σ' H' p' => ⟨n - (i + 1), by omega, rfl, hlt, p'⟩, fun x H' y => ?_⟩
    obtain ⟨e, y⟩ := y
    subst e y
    exact hs i σ _ hlt p
  · have e : i = n := by omega
    subst e
    exact .inl ⟨Nat.le_refl _, hd σ H p⟩
end L2

namespace L2
open PySem PySem.Spec PyProof.Rows

abbrev R2 := V → V → Hp → VK → Prop
/-- a two-place operation on values: f is binaryOp op, inplaceOp op or compareOp op -/
def OpR (X : Cx) (f : Value → Value → Sem Value) (r : R2) : Prop :=
  ∀ (pins : List (Addr × Obj)) (s : Shared) (σ : St) (H : Hp) (x y : V) (v u : Value) (Q : VK), Inv X pins σ H s → RelV x v → RelV y u → r x y H Q →
    wpAny (model X.prog X.w) X.A (f v u) (EP X pins σ Q) X.xe s
/-- a one-place operation -/
def UnR (X : Cx) (f : Value → Sem Value) (r : V → Hp → VK → Prop) : Prop :=
  ∀ (pins : List (Addr × Obj)) (s : Shared) (σ : St) (H : Hp) (x : V) (v : Value) (Q : VK), Inv X pins σ H s → RelV x v → r x H Q →
    wpAny (model X.prog X.w) X.A (f v) (EP X pins σ Q) X.xe s
/-- a call of a value that is known (a builtin, a type) with values -/
def CallR (X : Cx) (f : Value) (r : List V → Hp → VK → Prop) : Prop :=
  ∀ (pins : List (Addr × Obj)) (s : Shared) (σ : St) (H : Hp) (xs : List V) (us : List Value) (Q : VK), Inv X pins σ H s → Vals xs us → r xs H Q →
    wpAny (model X.prog X.w) X.A (call f us) (EP X pins σ Q) X.xe s
/-- a value's truth -/
def TruR (X : Cx) (r : V → Hp → (Bool → Hp → Prop) → Prop) : Prop :=
  ∀ (pins : List (Addr × Obj)) (s : Shared) (σ : St) (H : Hp) (x : V) (v : Value) (Q : Bool → Hp → Prop), Inv X pins σ H s → RelV x v → r x H Q →
    wpAny (model X.prog X.w) X.A (truthy v) (TP X pins σ Q) X.xe s

def tOp (r : R2) (ta tb : TE) : TE := fun σ H Q => ta σ H fun x H1 => tb σ H1 fun y H2 => r x y H2 Q
def tUn (r : V → Hp → VK → Prop) (ta : TE) : TE := fun σ H Q => ta σ H fun x H1 => r x H1 Q
/-- ints in, under C, and a value out -/
def rI (C : Int → Int → Prop) (g : Int → Int → V) : R2 := fun x y H Q => ∃ i j, x = .int i ∧ y = .int j ∧ C i j ∧ Q (g i j) H
def rI0 (g : Int → Int → V) : R2 := fun x y H Q => ∃ i j, x = .int i ∧ y = .int j ∧ Q (g i j) H
def rU (g : Int → V) : V → Hp → VK → Prop := fun x H Q => ∃ i, x = .int i ∧ Q (g i) H

section
variable {X : Cx} {a b c : Expr} {ta tb tc : TE} {pos : Pos}

theorem binT (ha : PE X a ta) (hb : PE X b tb) {pins : List (Addr × Obj)} {s : Shared} {σ : St} {H : Hp} {R : V → V → Hp → Prop} (I : Inv X pins σ H s)
    (h : ta σ H fun x H1 => tb σ H1 fun y H2 => R x y H2) {Q : Value → Shared → Prop} {f : Value → Value → Sem Value}
    (hf : ∀ v u s2 x y H2, Inv X pins σ H2 s2 → RelV x v → RelV y u → R x y H2 → wpAny (model X.prog X.w) X.A (f v u) Q X.xe s2) :
    wpAny (model X.prog X.w) X.A (eval a X.env) (fun v s₁ => wpAny (model X.prog X.w) X.A (eval b X.env) (fun u s₂ => wpAny (model X.prog X.w) X.A (f v u) Q X.xe s₂) X.xe s₁) X.xe s := by
  refine thn (ha pins s σ H _ I h) fun v s1 ⟨x, H1, I1, r1, q1⟩ => ?_
  refine thn (hb pins s1 σ H1 _ I1 q1) fun u s2 ⟨y, H2, I2, r2, q2⟩ => ?_
  exact hf v u s2 x y H2 I2 r1 r2 q2

theorem pe_op {op : Operator} {r : R2} (ho : OpR X (binaryOp op) r) (ha : PE X a ta) (hb : PE X b tb) : PE X (.BinOp a op b pos) (tOp r ta tb) := by
  intro pins s σ H Q I h
  exact wpAny_BinOp (binT ha hb I h fun v u s2 x y H2 I2 rx ry q => ho pins s2 σ H2 x y v u Q I2 rx ry q)
theorem pe_un {op : UnaryOp} {r : V → Hp → VK → Prop} (ho : UnR X (unaryOp op) r) (ha : PE X a ta) : PE X (.UnaryOp op a pos) (tUn r ta) := by
  intro pins s σ H Q I h
  exact UnaryOp_ (thn (ha pins s σ H _ I h) fun v s1 ⟨x, H1, I1, r1, q1⟩ => ho pins s1 σ H1 x v Q I1 r1 q1)

/-! ### ints -/
theorem opI {f : Value → Value → Sem Value} {C : Int → Int → Prop} {g : Int → Int → Int}
    (rule : ∀ (i j : Int) (t u : Tok) (s : Shared) (Q : Value → Shared → Prop) (E : Value → Shared → Prop), C i j → Q (.int (g i j) s.toks) { s with toks := s.toks + 1 } → wpAny (model X.prog X.w) X.A (f (.int i t) (.int j u)) Q E s) :
    OpR X f (rI C fun i j => .int (g i j)) := by
  intro pins s σ H x y v u Q I rx ry h
  obtain ⟨i, j, rfl, rfl, hc, q⟩ := h
  obtain ⟨t, rfl⟩ := rx
  obtain ⟨t', rfl⟩ := ry
  exact rule i j t t' s _ _ hc ⟨.int (g i j), H, I.tok _, ⟨_, rfl⟩, q⟩
theorem opI0 {f : Value → Value → Sem Value} {g : Int → Int → Int}
    (rule : ∀ (i j : Int) (t u : Tok) (s : Shared) (Q : Value → Shared → Prop) (E : Value → Shared → Prop), Q (.int (g i j) s.toks) { s with toks := s.toks + 1 } → wpAny (model X.prog X.w) X.A (f (.int i t) (.int j u)) Q E s) :
    OpR X f (rI0 fun i j => .int (g i j)) := by
  intro pins s σ H x y v u Q I rx ry h
  obtain ⟨i, j, rfl, rfl, q⟩ := h
  obtain ⟨t, rfl⟩ := rx
  obtain ⟨t', rfl⟩ := ry
  exact rule i j t t' s _ _ ⟨.int (g i j), H, I.tok _, ⟨_, rfl⟩, q⟩
theorem opB0 {f : Value → Value → Sem Value} {g : Int → Int → Bool}
    (rule : ∀ (i j : Int) (t u : Tok) (s : Shared) (Q : Value → Shared → Prop) (E : Value → Shared → Prop), Q (.bool (g i j)) s → wpAny (model X.prog X.w) X.A (f (.int i t) (.int j u)) Q E s) :
    OpR X f (rI0 fun i j => .bl (g i j)) := by
  intro pins s σ H x y v u Q I rx ry h
  obtain ⟨i, j, rfl, rfl, q⟩ := h
  obtain ⟨t, rfl⟩ := rx
  obtain ⟨t', rfl⟩ := ry
  exact rule i j t t' s _ _ ⟨.bl (g i j), H, I, rfl, q⟩

def CPow (i j : Int) : Prop := 0 ≤ j ∧ j ≤ 1000000 ∧ i.natAbs < 2 ^ 64
def CMul (i j : Int) : Prop := (-(2 ^ 64) < i ∧ i < 2 ^ 64) ∨ (-(2 ^ 64) < j ∧ j < 2 ^ 64)
theorem CMul.ok {i j : Int} (h : CMul i j) : IntMulOk i j := by
  rcases h with ⟨h1, h2⟩ | ⟨h1, h2⟩
  · exact .of_left (intBits_le_64 h1 h2)
  · exact .of_right (intBits_le_64 h1 h2)

theorem op_add : OpR X (binaryOp .Add) (rI0 fun i j => .int (i + j)) := opI0 fun _ _ _ _ _ _ _ q => add_int q
theorem op_sub : OpR X (binaryOp .Sub) (rI0 fun i j => .int (i - j)) := opI0 fun _ _ _ _ _ _ _ q => sub_int q
theorem op_mul : OpR X (binaryOp .Mult) (rI CMul fun i j => .int (i * j)) := opI fun _ _ _ _ _ _ _ hc q => mul_int q hc.ok
/-- % by a positive divisor of any size -/
theorem op_mod : OpR X (binaryOp .Mod) (rI (fun _ j => 0 < j) fun i j => .int (i % j)) := opI fun i j _ _ _ _ _ hc q => by
  have h1 : (0 : Int) < j := hc
  exact mod_int' (by omega) (by rw [Int.fmod_eq_emod_of_nonneg i (by omega)]; exact q)
theorem op_pow : OpR X (binaryOp .Pow) (rI CPow fun i j => .int (i ^ j.toNat)) := opI fun _ _ _ _ _ _ _ hc q => pow_int_small hc.1 hc.2.1 hc.2.2 q


theorem unI {f : Value → Sem Value} {g : Int → Int}
    (rule : ∀ (i : Int) (t : Tok) (s : Shared) (Q : Value → Shared → Prop) (E : Value → Shared → Prop), Q (.int (g i) s.toks) { s with toks := s.toks + 1 } → wpAny (model X.prog X.w) X.A (f (.int i t)) Q E s) :
    UnR X f (rU fun i => .int (g i)) := by
  intro pins s σ H x v Q I rx h
  obtain ⟨i, rfl, q⟩ := h
  obtain ⟨t, rfl⟩ := rx
  exact rule i t s _ _ ⟨.int (g i), H, I.tok _, ⟨_, rfl⟩, q⟩
theorem un_neg : UnR X (unaryOp .USub) (rU fun i => .int (-i)) := unI fun _ _ _ _ _ q => neg_int q

/-! ### bools among ints: n += (a < b) -/
end

/-! ### comparisons -/
/-- the scalars that == tells apart as data does -/
def scal : V → V → Bool
  | .non, .non => true | .non, .int _ => true | .int _, .non => true | .non, .bl _ => true | .bl _, .non => true | .non, .str _ => true | .str _, .non => true
  | .int _, .int _ => true | .bl _, .bl _ => true | .str _, .str _ => true | .byt _, .byt _ => true
  | .int _, .str _ => true | .str _, .int _ => true | .bl _, .str _ => true | .str _, .bl _ => true
  | _, _ => false
def rEq : R2 := fun x y H Q => scal x y = true ∧ Q (.bl (decide (x = y))) H
def rNe : R2 := fun x y H Q => scal x y = true ∧ Q (.bl (!decide (x = y))) H

theorem dec_int {i j : Int} : decide (V.int i = V.int j) = (i == j) := by
  rw [Bool.eq_iff_iff]
  simp
theorem dec_bl {i j : Bool} : decide (V.bl i = V.bl j) = (i == j) := by
  rw [Bool.eq_iff_iff]
  simp
theorem dec_str {i j : Str} : decide (V.str i = V.str j) = (i == j) := by
  rw [Bool.eq_iff_iff]
  simp
theorem dec_byt {i j : Array UInt8} : decide (V.byt i = V.byt j) = (i.toList == j.toList) := by
  rw [Bool.eq_iff_iff]
  cases i
  cases j
  simp

section
variable {X : Cx} {a b c : Expr} {ta tb tc : TE} {pos : Pos}
theorem fin_bl {pins : List (Addr × Obj)} {σ : St} {H : Hp} {s : Shared} {Q : VK} {k k' : Bool} (I : Inv X pins σ H s) (q : Q (.bl k) H) (e : k = k') : EP X pins σ Q (.bool k') s := by
  subst e
  exact ⟨.bl k, H, I, rfl, q⟩
theorem op_eq : OpR X (compareOp .Eq) rEq := by
  intro pins s σ H x y v u Q I rx ry h
  obtain ⟨hs, q⟩ := h
  cases x with
  | non =>
    cases rx
    cases y with
    | non => cases ry; exact PySem.EqNone.eq_none_none (fin_bl I q (by simp))
    | bl j => cases ry; exact PySem.EqNone.eq_none_bool (fin_bl I q (by simp))
    | int j => obtain ⟨t', rfl⟩ := ry; exact PySem.EqNone.eq_none_int (fin_bl I q (by simp))
    | str j => obtain ⟨t', rfl⟩ := ry; exact PySem.EqNone.eq_none_str (fin_bl I q (by simp))
    | _ => exact absurd (show false = true from hs) Bool.false_ne_true
  | bl i =>
    cases rx
    cases y with
    | non => cases ry; exact PySem.EqNone.eq_bool_none (fin_bl I q (by simp))
    | bl j => cases ry; exact eq_bool (fin_bl I q dec_bl)
    | str j => obtain ⟨t', rfl⟩ := ry; exact PySem.EqMixed.eq_bool_str (fin_bl I q (by simp))
    | _ => exact absurd (show false = true from hs) Bool.false_ne_true
  | int i =>
    obtain ⟨t, rfl⟩ := rx
    cases y with
    | non => cases ry; exact PySem.EqNone.eq_int_none (fin_bl I q (by simp))
    | int j => obtain ⟨t', rfl⟩ := ry; exact eq_int (fin_bl I q dec_int)
    | str j => obtain ⟨t', rfl⟩ := ry; exact PySem.EqMixed.eq_int_str (fin_bl I q (by simp))
    | _ => exact absurd (show false = true from hs) Bool.false_ne_true
  | str i =>
    obtain ⟨t, rfl⟩ := rx
    cases y with
    | non => cases ry; exact PySem.EqNone.eq_str_none (fin_bl I q (by simp))
    | bl j => cases ry; exact PySem.EqMixed.eq_str_bool (fin_bl I q (by simp))
    | int j => obtain ⟨t', rfl⟩ := ry; exact PySem.EqMixed.eq_str_int (fin_bl I q (by simp))
    | str j => obtain ⟨t', rfl⟩ := ry; exact eq_str (fin_bl I q dec_str)
    | _ => exact absurd (show false = true from hs) Bool.false_ne_true
  | byt i =>
    obtain ⟨t, rfl⟩ := rx
    cases y with
    | byt j => obtain ⟨t', rfl⟩ := ry; exact PySem.W.eq_bytes (fin_bl I q dec_byt)
    | _ => exact absurd (show false = true from hs) Bool.false_ne_true
  | _ => cases y <;> exact absurd (show false = true from hs) Bool.false_ne_true
theorem op_ne : OpR X (compareOp .NotEq) rNe := by
  intro pins s σ H x y v u Q I rx ry h
  obtain ⟨hs, q⟩ := h
  cases x with
  | non =>
    cases rx
    cases y with
    | non => cases ry; exact PySem.EqNone.ne_none_none (fin_bl I q (by simp))
    | bl j => cases ry; exact PySem.EqNone.ne_none_bool (fin_bl I q (by simp))
    | int j => obtain ⟨t', rfl⟩ := ry; exact PySem.EqNone.ne_none_int (fin_bl I q (by simp))
    | str j => obtain ⟨t', rfl⟩ := ry; exact PySem.EqNone.ne_none_str (fin_bl I q (by simp))
    | _ => exact absurd (show false = true from hs) Bool.false_ne_true
  | bl i =>
    cases rx
    cases y with
    | non => cases ry; exact PySem.EqNone.ne_bool_none (fin_bl I q (by simp))
    | bl j => cases ry; exact ne_bool (fin_bl I q (congrArg not dec_bl))
    | str j => obtain ⟨t', rfl⟩ := ry; exact PySem.EqMixed.ne_bool_str (fin_bl I q (by simp))
    | _ => exact absurd (show false = true from hs) Bool.false_ne_true
  | int i =>
    obtain ⟨t, rfl⟩ := rx
    cases y with
    | non => cases ry; exact PySem.EqNone.ne_int_none (fin_bl I q (by simp))
    | int j => obtain ⟨t', rfl⟩ := ry; exact ne_int (fin_bl I q (congrArg not dec_int))
    | str j => obtain ⟨t', rfl⟩ := ry; exact PySem.EqMixed.ne_int_str (fin_bl I q (by simp))
    | _ => exact absurd (show false = true from hs) Bool.false_ne_true
  | str i =>
    obtain ⟨t, rfl⟩ := rx
    cases y with
    | non => cases ry; exact PySem.EqNone.ne_str_none (fin_bl I q (by simp))
    | bl j => cases ry; exact PySem.EqMixed.ne_str_bool (fin_bl I q (by simp))
    | int j => obtain ⟨t', rfl⟩ := ry; exact PySem.EqMixed.ne_str_int (fin_bl I q (by simp))
    | str j => obtain ⟨t', rfl⟩ := ry; exact ne_str (fin_bl I q (congrArg not dec_str))
    | _ => exact absurd (show false = true from hs) Bool.false_ne_true
  | byt i =>
    obtain ⟨t, rfl⟩ := rx
    cases y with
    | byt j => obtain ⟨t', rfl⟩ := ry; exact PySem.W.ne_bytes (fin_bl I q (congrArg not dec_byt))
    | _ => exact absurd (show false = true from hs) Bool.false_ne_true
  | _ => cases y <;> exact absurd (show false = true from hs) Bool.false_ne_true

theorem op_lt : OpR X (compareOp .Lt) (rI0 fun i j => .bl (decide (i < j))) := opB0 fun _ _ _ _ _ _ _ q => lt_int q
theorem op_le : OpR X (compareOp .LtE) (rI0 fun i j => .bl (decide (i ≤ j))) := opB0 fun _ _ _ _ _ _ _ q => le_int q
theorem op_gt : OpR X (compareOp .Gt) (rI0 fun i j => .bl (decide (j < i))) := opB0 fun _ _ _ _ _ _ _ q => gt_int q
theorem op_ge : OpR X (compareOp .GtE) (rI0 fun i j => .bl (decide (j ≤ i))) := opB0 fun _ _ _ _ _ _ _ q => ge_int q



/-- two rules for one operation: by cases -/
theorem OpR.or {f : Value → Value → Sem Value} {r r' : R2} (h : OpR X f r) (h' : OpR X f r') : OpR X f (fun x y H Q => r x y H Q ∨ r' x y H Q) := by
  intro pins s σ H x y v u Q I rx ry q
  rcases q with q | q
  · exact h pins s σ H x y v u Q I rx ry q
  · exact h' pins s σ H x y v u Q I rx ry q

theorem nomark (b : Expr) {op : CmpOp} (h : op ≠ .In := by decide) (h2 : op ≠ .NotIn := by decide) : behindInMarks op b = false := by
  have e1 : (op == CmpOp.In) = false := by cases op <;> first | rfl | exact absurd rfl h
  have e2 : (op == CmpOp.NotIn) = false := by cases op <;> first | rfl | exact absurd rfl h2
  cases b <;> simp [behindInMarks, e1, e2]
/-- a comparison as a value; hm: nomark b, or (for in, not in) by with_unfolding_all rfl -/
theorem pe_cmpR {op : CmpOp} {r : R2} (ho : OpR X (compareOp op) r) (ha : PE X a ta) (hb : PE X b tb) (hm : behindInMarks op b = false) : PE X (.Compare a [op] [b] pos) (tOp r ta tb) := by
  intro pins s σ H Q I h
  exact wpAny_Compare1 (binT ha hb I h fun v u s2 x y H2 I2 rx ry q => ho pins s2 σ H2 x y v u Q I2 rx ry q) hm
/-- a reading of a value as a test -/
def tTest (t : TE) : TT := fun σ H Q => t σ H fun x H' => ∃ k, x = .bl k ∧ Q k H'
theorem pt_cmpR {op : CmpOp} {r : R2} (ho : OpR X (compareOp op) r) (ha : PE X a ta) (hb : PE X b tb) (hm : behindInMarks op b = false) : PT X (.Compare a [op] [b] pos) (tTest (tOp r ta tb)) := by
  intro pins s σ H Q I h
  refine wpAny_isTrue_Compare1 (thn (ha pins s σ H _ I h) fun v s1 ⟨x, H1, I1, r1, q1⟩ => thn (hb pins s1 σ H1 _ I1 q1) fun u s2 ⟨y, H2, I2, r2, q2⟩ =>
    thn (ho pins s2 σ H2 x y v u _ I2 r1 r2 q2) fun c s3 ⟨z, H3, I3, r3, k, e, q3⟩ => ?_) hm
  subst e
  cases r3
  exact wpAny_truthy_bool ⟨H3, I3, q3⟩
/-- a op1 b op2 c -/
def tChain (r r' : R2) (ta tb tc : TE) : TE := fun σ H Q => ta σ H fun x H1 => tb σ H1 fun y H2 => r x y H2 fun z H3 => ∃ k, z = .bl k ∧
  (if k = true then tc σ H3 fun w' H4 => r' y w' H4 Q else Q (.bl false) H3)
theorem pe_chain {op op' : CmpOp} {r r' : R2} (ho : OpR X (compareOp op) r) (ho' : OpR X (compareOp op') r') (ha : PE X a ta) (hb : PE X b tb) (hc : PE X c tc)
    (hm : lastMarks [op, op'] [b, c] = false := by with_unfolding_all rfl) : PE X (.Compare a [op, op'] [b, c] pos) (tChain r r' ta tb tc) := by
  intro pins s σ H Q I h
  refine Compare_chain (thn (ha pins s σ H _ I h) fun v s1 ⟨x, H1, I1, r1, q1⟩ => chain_link (thn (hb pins s1 σ H1 _ I1 q1) fun u s2 ⟨y, H2, I2, r2, q2⟩ =>
    thn (ho pins s2 σ H2 x y v u _ I2 r1 r2 q2) fun d s3 ⟨z, H3, I3, r3, k, e, q3⟩ => ?_)) hm
  subst e
  cases r3
  refine wpAny_truthy_bool ?_
  cases k with
  | false => exact ite_ff ⟨.bl false, H3, I3, rfl, q3⟩
  | true => exact ite_tt (chain_last (thn (hc pins s3 σ H3 _ I3 q3) fun w' s4 ⟨z', H4, I4, r4, q4⟩ => ho' pins s4 σ H4 y z' u w' Q I4 r2 r4 q4))
theorem pt_chain {op op' : CmpOp} {r r' : R2} (ho : OpR X (compareOp op) r) (ho' : OpR X (compareOp op') r') (ha : PE X a ta) (hb : PE X b tb) (hc : PE X c tc)
    (hm : lastMarks [op, op'] [b, c] = false := by with_unfolding_all rfl) : PT X (.Compare a [op, op'] [b, c] pos) (tTest (tChain r r' ta tb tc)) := by
  intro pins s σ H Q I h
  refine isTrue_chain (thn (ha pins s σ H _ I h) fun v s1 ⟨x, H1, I1, r1, q1⟩ => test_link (thn (hb pins s1 σ H1 _ I1 q1) fun u s2 ⟨y, H2, I2, r2, q2⟩ =>
    thn (ho pins s2 σ H2 x y v u _ I2 r1 r2 q2) fun d s3 ⟨z, H3, I3, r3, k, e, q3⟩ => ?_)) hm
  subst e
  cases r3
  refine wpAny_truthy_bool ?_
  cases k with
  | false =>
    obtain ⟨k', e', q'⟩ := q3
    cases e'
    exact ite_ff ⟨H3, I3, q'⟩
  | true =>
    refine ite_tt (test_last (thn (hc pins s3 σ H3 _ I3 q3) fun w' s4 ⟨z', H4, I4, r4, q4⟩ => thn (ho' pins s4 σ H4 y z' u w' _ I4 r2 r4 q4) fun d' s5 ⟨z2, H5, I5, r5, k2, e2, q5⟩ => ?_))
    subst e2
    cases r5
    exact wpAny_truthy_bool ⟨H5, I5, q5⟩

/-! ### truth -/
/-- a value's truth by the abstract heap -/
def TruV (K : PySem.W.Frag) (x : V) (H : Hp) (k : Bool) : Prop :=
  match x with
  | .non => k = false
  | .bl b => k = b
  | .int i => k = (i != 0)
  | .str y => y.length ≤ sizeLine ∧ k = ((y.length : Int) != 0)
  | .byt y => y.size ≤ sizeLine ∧ k = ((y.size : Int) != 0)
  | .ref p => (∃ xs, SqL K H p xs ∧ k = !xs.isEmpty) ∨ (∃ xs, SqT K H p xs ∧ k = !xs.isEmpty) ∨ ∃ kvs, H p = some (.dK kvs) ∧ k = !kvs.isEmpty
  | _ => False
theorem isEmpty_kv {κ : Type} {kvs : List (κ × V)} {vs : List (κ × Value)} (r : KV kvs vs) : (!vs.isEmpty) = !kvs.isEmpty := by
  cases r <;> rfl
theorem isEmpty_of {xs : List V} {its : List Value} (r : Vals xs its) : (!its.toArray.isEmpty) = !xs.isEmpty := by
  cases r <;> simp
theorem line63 : (sizeLine : Nat) < 2 ^ 63 := by rw [sizeLine_eq]; decide
theorem tru_ok : TruR X (fun x H Q => ∃ k, TruV X.K x H k ∧ Q k H) := by
  intro pins s σ H x v Q I rx h
  obtain ⟨k, e, q⟩ := h
  have hl := line63
  have hs : sizeLine = 16777216 := sizeLine_eq
  cases x with
  | non =>
    cases rx
    have e' : k = false := e
    subst e'
    exact truthy_none ⟨H, I, q⟩
  | bl b =>
    cases rx
    have e' : k = b := e
    subst e'
    exact wpAny_truthy_bool ⟨H, I, q⟩
  | int i =>
    obtain ⟨t, rfl⟩ := rx
    have e' : k = (i != 0) := e
    subst e'
    exact PySem.P.truthy_int ⟨H, I, q⟩
  | str y =>
    obtain ⟨t, rfl⟩ := rx
    obtain ⟨hy, e'⟩ : y.length ≤ sizeLine ∧ k = ((y.length : Int) != 0) := e
    subst e'
    exact PySem.P.truthy_str (by omega) ⟨H, I.tok _, q⟩
  | byt y =>
    obtain ⟨t, rfl⟩ := rx
    obtain ⟨hy, e'⟩ : y.size ≤ sizeLine ∧ k = ((y.size : Int) != 0) := e
    subst e'
    exact PySem.W.truthy_bytes (by omega) ⟨H, I.tok _, q⟩
  | ref p =>
    cases rx
    have e' : (∃ xs, SqL X.K H p xs ∧ k = !xs.isEmpty) ∨ (∃ xs, SqT X.K H p xs ∧ k = !xs.isEmpty) ∨ ∃ kvs, H p = some (.dK kvs) ∧ k = !kvs.isEmpty := e
    rcases e' with ⟨xs, hx, e'⟩ | ⟨xs, hx, e'⟩ | ⟨kvs, hx, e'⟩
    · subst e'
      obtain ⟨its, r, pl, hz⟩ := I.list hx
      have hlen := r.length
      exact wpAny_truthy_list pl.isList (by simp only [List.size_toArray]; omega) ⟨H, I.tok _, by rw [isEmpty_of r]; exact q⟩
    · subst e'
      obtain ⟨its, r, pl, hz⟩ := I.tuple hx
      have hlen := r.length
      exact truthy_tuple pl (by simp only [List.size_toArray]; omega) ⟨H, I.tok _, by rw [isEmpty_of r]; exact q⟩
    · subst e'
      obtain ⟨hz, hS, vs, r, m⟩ : kvs.length ≤ sizeLine ∧ (p == sysModules) = false ∧ ∃ vs, KV kvs vs ∧ s.heap.DictOf (mixKind X.prog X.w) p vs := I.hok p _ hx
      have hlen : kvs.length = vs.length := Paired.length r
      exact wpAny_truthy_dict hS m (by omega) ⟨H, I.tok _, by rw [isEmpty_kv r]; exact q⟩
  | _ => exact (show False from e).elim
/-- any expression whose test is its value's truth (a name, a call, a subscript, a field ..: he by fun _ => rfl) -/
theorem pt_truth (ha : PE X a ta) (he : ∀ whole, isTrue a X.env whole = (do let v ← whole; standAt a.pos; holding [v] (truthy v))) :
    PT X a (fun σ H Q => ta σ H fun x H' => ∃ k, TruV X.K x H' k ∧ Q k H') := by
  intro pins s σ H Q I h
  exact isTrue_plain (thn (ha pins s σ H _ I h) fun v s1 ⟨x, H1, I1, r1, q1⟩ => tru_ok pins s1 σ H1 x v Q I1 r1 q1) (he _)

/-! ### strs and bytes -/
theorem op_add_str : OpR X (binaryOp .Add) (fun x y H Q => ∃ i j, x = .str i ∧ y = .str j ∧ i.length + j.length ≤ sizeLine ∧ Q (.str (i ++ j)) H) := by
  intro pins s σ H x y v u Q I rx ry h
  obtain ⟨i, j, rfl, rfl, hz, q⟩ := h
  obtain ⟨t, rfl⟩ := rx
  obtain ⟨t', rfl⟩ := ry
  exact add_str (fun t' tk => ⟨.str (i ++ j), H, I.tok _, ⟨_, rfl⟩, q⟩) hz


/-! ### scalar builtins, by CallR -/
theorem vals1 {x : V} {us : List Value} (r : Vals [x] us) : ∃ u, us = [u] ∧ RelV x u := by
  cases r with
  | cons r1 r2 => cases r2; exact ⟨_, rfl, r1⟩
theorem vals2 {x y : V} {us : List Value} (r : Vals [x, y] us) : ∃ u w', us = [u, w'] ∧ RelV x u ∧ RelV y w' := by
  cases r with
  | cons r1 r2 =>
    cases r2 with
    | cons r3 r4 => cases r4; exact ⟨_, _, rfl, r1, r3⟩
theorem call_max2 (hc : X.calm = true) : CallR X (.builtin "max") (fun xs H Q => ∃ i j, xs = [.int i, .int j] ∧ Q (.int (if j > i then j else i)) H) := by
  intro pins s σ H xs us Q I r h
  obtain ⟨i, j, rfl, q⟩ := h
  obtain ⟨u, w', rfl, ⟨t, rfl⟩, ⟨t', rfl⟩⟩ := vals2 r
  refine max_two_ints (I.ok.hd hc) fun h' tk k => ⟨_, H, I.kept k, ?_, q⟩
  by_cases hj : j > i
  · rw [if_pos hj, if_pos hj]; exact ⟨_, rfl⟩
  · rw [if_neg hj, if_neg hj]; exact ⟨_, rfl⟩
theorem call_int1 : CallR X (.type "int") (fun xs H Q => (∃ i, xs = [.int i] ∧ Q (.int i) H) ∨ ∃ k, xs = [.bl k] ∧ Q (.int (if k then 1 else 0)) H) := by
  intro pins s σ H xs us Q I r h
  rcases h with ⟨i, rfl, q⟩ | ⟨k, rfl, q⟩
  · obtain ⟨u, rfl, t, rfl⟩ := vals1 r
    exact call_int_int ⟨.int i, H, I, ⟨_, rfl⟩, q⟩
  · obtain ⟨u, rfl, r1⟩ := vals1 r
    cases r1
    exact call_int_bool ⟨.int (if k then 1 else 0), H, I.tok _, ⟨_, rfl⟩, q⟩
end
end L2

namespace L2
open PySem PySem.Spec PyProof.Rows

/-! ### an instance, its attributes a map -/
structure ObjM (h : Heap) (x dx C : Addr) (mA : Str → Option Value) : Prop where
  obj : h.get? x = some (PySem.W.instObj C dx)
  ns : h.Ns1 dx mA
  ne : dx ≠ x

theorem lookIn_ns {h : Heap} {dx : Addr} {mA : Str → Option Value} (n : h.Ns1 dx mA) : ∃ od, h.get? dx = some od ∧ ∀ name, PySem.W.lookIn name od = some (mA name) := by
  obtain ⟨o, es, ep, ho, hd, hk, _, hm⟩ := n
  refine ⟨o, ho, fun name => ?_⟩
  have e := hm name
  unfold nsFind findBy at e
  rw [← Array.find?_toList] at e
  unfold PySem.W.lookIn
  rw [hd]
  dsimp only
  split
  · rename_i y q
    rw [q] at e
    exact congrArg some e
  · rename_i q
    rw [q] at e
    have a : es.toList.any (·.refKey) = false := by
      rw [List.any_eq_false]
      intro y hy
      obtain ⟨z, t, hkey⟩ := hk y (Array.mem_toList_iff.mp hy)
      simp [DictEntry.refKey, hkey]
    have a' : ¬ es.toList.any (·.refKey) = true := by rw [a]; exact Bool.false_ne_true
    rw [if_neg a']
    exact congrArg some e

theorem ObjM.look {h : Heap} {x dx C : Addr} {mA : Str → Option Value} (I : ObjM h x dx C mA) : ∃ od, PySem.W.InstAt h x (PySem.W.instObj C dx) C (some od) ∧ ∀ name, PySem.W.lookIn name od = some (mA name) :=
  let ⟨od, ho, hl⟩ := lookIn_ns I.ns
  ⟨od, ⟨I.obj, rfl, rfl, ho⟩, hl⟩

section
variable {prog : Program} {w : World} {A : Around} {E : Value → Shared → Prop} {s : Shared} {K : PySem.W.Frag} {x dx C f : Addr} {mA : Str → Option Value} {name : Str} {v : Value}





end

/-! ### the attributes as a list of pairs -/

theorem RelO.some_of {v : V} {o : Option Value} (r : RelO (some v) o) : ∃ u, o = some u ∧ RelV v u := by
  cases o with
  | none => exact (show False from r).elim
  | some u => exact ⟨u, rfl, r⟩

section
variable {P : Program} {w : World} {H H' : Hp} {h h' : Heap} {a C dx : Addr} {fs fs' : List (Str × V)}
theorem ins_get (hok : HOk P w H h) (e : H a = some (.ins C dx fs)) : ∃ mA, ObjM h a dx C mA ∧ (∀ f, RelO (fs.lookup f) (mA f)) ∧ PySem.Within mA (fs.map (·.1)) ∧ fs.length ≤ 1000 ∧ H dx = some (.own a) := by
  obtain ⟨d, z, ne, ob, mA, n, r, q⟩ := (show ObjOk P w H h a (.ins C dx fs) from hok a _ e)
  exact ⟨mA, ⟨ob, n, ne⟩, r, q, z, d⟩
end

/-! ### what of the text a class must have -/
structure Cls (K : PySem.W.Frag) (C : Addr) : Prop where
  pg : PySem.W.plainGet K C Str.empty = true
  hd : PySem.W.hasDictIn K C = true
  po : PySem.W.plainOver K C = true
  sa : PySem.W.findIn K (.ref C) "__setattr__" = some (some (.builtin "object.__setattr__"))
theorem Cls.get {K : PySem.W.Frag} {C : Addr} (c : Cls K C) (f : Str) : PySem.W.plainGet K C f = true := c.pg
/-- a constant of the class -/
structure Con (K : PySem.W.Frag) (C : Addr) (f : Str) (v : V) (u : Value) : Prop where
  at_ : PySem.W.findIn K (.ref C) f = some (some u)
  rel : RelV v u
  get : PySem.W.specialIn K u "__get__" = some none
  cp : PySem.W.copiedNames.contains f = false
/-- a method: a plain def of the class or of one above it -/
structure Meth (K : PySem.W.Frag) (C : Addr) (m : Str) (f : Addr) : Prop where
  at_ : PySem.W.findIn K (.ref C) m = some (some (.ref f))
  fn : PySem.W.isFn K (.ref f) = true
  kp : PySem.W.keepIn K (.ref f) = true

section
variable {X : Cx} {pins : List (Addr × Obj)} {σ : St} {H : Hp} {s : Shared} {a C dx : Addr} {fs : List (Str × V)} {f : Str} {v : V} {A : Around} {E : Value → Shared → Prop}





/-- a new instance, tracked, without attributes -/
theorem Inv.made (I : Inv X pins σ H s) : Inv X pins σ (upd (upd H s.heap.objs.size (.own (s.heap.objs.size + 1))) (s.heap.objs.size + 1) (.ins C s.heap.objs.size []))
    { s with heap := (s.heap.push PySem.W.emptyDict).push (PySem.W.instObj C s.heap.objs.size) } := by
  have e1 : (s.heap.push PySem.W.emptyDict).get? s.heap.objs.size = some PySem.W.emptyDict := Heap.get?_push_size s.heap rfl
  have e2 : ((s.heap.push PySem.W.emptyDict).push (PySem.W.instObj C s.heap.objs.size)).get? (s.heap.objs.size + 1) = some (PySem.W.instObj C s.heap.objs.size) := by
    have := Heap.get?_push_size (s.heap.push PySem.W.emptyDict) (o := PySem.W.instObj C s.heap.objs.size) rfl
    rwa [Heap.size_push] at this
  have e3 : (s.heap.push PySem.W.emptyDict).Ns s.heap.objs.size (fun _ => none) := ⟨PySem.W.emptyDict, #[], _, e1, rfl, (fun e he => absurd he (by simp)), fun _ => rfl⟩
  have I1 := I.laid (a := s.heap.objs.size) (o := .own (s.heap.objs.size + 1)) (h' := s.heap.push PySem.W.emptyDict) (t' := s.toks) (fun b u q => Heap.get?_push_of_some _ q) (Nat.le_refl _) ⟨_, e1⟩
  refine I1.laid (a := s.heap.objs.size + 1) (o := .ins C s.heap.objs.size []) (t' := s.toks) (fun b u q => Heap.get?_push_of_some _ q) (Nat.le_of_eq (Heap.size_push _ _)) ?_
  have ne : s.heap.objs.size ≠ s.heap.objs.size + 1 := Nat.ne_of_lt (Nat.lt_succ_self _)
  refine ⟨by rw [upd_ne ne, upd_same], Nat.zero_le _, ne, e2, fun _ => none, (Heap.Ns1.of_empty e3).at fun o q => Heap.get?_push_of_some _ q, fun _ => True.intro, fun y hy => absurd rfl hy⟩

end

/-! ### readings and rules -/

section
variable {X : Cx} {o e value : Expr} {f : Str} {pos pos' tpos : Pos} {ta tv : TE}

end

/-! ### isinstance -/
section
variable {X : Cx} {pins : List (Addr × Obj)} {σ : St} {H : Hp} {s : Shared} {A : Around} {E : Value → Shared → Prop} {Q : Value → Shared → Prop} {c : Value} {b : Bool}
/-- the type of a value, as the fragment's deciders take it; for an instance its class -/
inductive TyOf (K : PySem.W.Frag) (H : Hp) : V → Value → Prop where
  | non : TyOf K H .non (.type "NoneType")
  | bl (x : Bool) : TyOf K H (.bl x) (.type "bool")
  | int (i : Int) : TyOf K H (.int i) (.type "int")
  | str (x : Str) : TyOf K H (.str x) (.type "str")
  | flt (x : UInt64) : TyOf K H (.flt x) (.type "float")
  | lst {a : Addr} {xs : List V} (e : H a = some (.lst xs)) : TyOf K H (.ref a) (.type "list")
  | frz {a : Addr} {o : Obj} {xs : List V} (e : H a = some (.frz o (.lst xs))) : TyOf K H (.ref a) (.type "list")
  | tup {a : Addr} {xs : List V} (e : H a = some (.tup xs)) : TyOf K H (.ref a) (.type "tuple")
  | dK {a : Addr} {kvs : List (Key × V)} (e : H a = some (.dK kvs)) : TyOf K H (.ref a) (.type "dict")
  | dT {a : Addr} {kvs : List (List Key × V)} (e : H a = some (.dT kvs)) : TyOf K H (.ref a) (.type "dict")
  | ins {a C dx : Addr} {fs : List (Str × V)} (e : H a = some (.ins C dx fs)) (cl : Cls K C) (ha : PySem.W.findIn K (.ref C) "__class__" = some (some (.builtin "object.__class__")))
      (hn : PySem.W.specialIn K (.builtin "object.__class__") "__get__" = some (some (.builtin "getset_descriptor.__get__"))) (htk : PySem.W.takesIn K (.builtin "object.__class__") = some true)
      (hm : PySem.W.mroIn K C (.type "object") = some true) : TyOf K H (.ref a) (.ref C)
/-- isinstance(x, c) for one class c, a built-in or an own one: kitOne's answer -/
theorem isinst_ok {x : V} {u t : Value} (I : Inv X pins σ H s) (rx : RelV x u) (ty : TyOf X.K H x t) (e : PySem.W.kitOne X.K t c = some b) (h : ∀ tk, Q (.bool b) { s with toks := tk }) :
    wpAny (model X.prog X.w) A (call (.builtin "isinstance") [u, c]) Q E s := by
  cases ty with
  | non => cases (show u = Value.none from rx); exact PySem.W.kia_one PySem.W.kitx_none I.kIn True.intro e (fun z => nomatch z) h
  | bl y => cases (show u = Value.bool y from rx); exact PySem.W.kia_one PySem.W.kitx_bool I.kIn True.intro e (fun z => nomatch z) h
  | int i => obtain ⟨t, q⟩ := (show ∃ t, u = Value.int i t from rx); cases q; exact PySem.W.kia_one PySem.W.kitx_int I.kIn True.intro e (fun z => nomatch z) h
  | str y => obtain ⟨t, q⟩ := (show ∃ t, u = Value.str y t from rx); cases q; exact PySem.W.kia_one PySem.W.kitx_str I.kIn True.intro e (fun z => nomatch z) h
  | flt y => obtain ⟨t, q⟩ := (show ∃ t, u = Value.float y t from rx); cases q; exact PySem.W.kia_one PySem.W.kitx_float I.kIn True.intro e (fun z => nomatch z) h
  | @lst a xs ea =>
    cases (show u = Value.ref a from rx)
    obtain ⟨_, _, n, _, h1⟩ := (show ObjOk X.prog X.w H s.heap a (.lst xs) from I.hok a _ ea)
    exact PySem.W.kia_one PySem.W.kitx_list I.kIn ⟨_, h1, rfl⟩ e (fun z => nomatch z) h
  | @frz a ob xs ea =>
    cases (show u = Value.ref a from rx)
    obtain ⟨_, _, _, n, _, h1⟩ := (show ObjOk X.prog X.w H s.heap a (.frz ob (.lst xs)) from I.hok a _ ea)
    exact PySem.W.kia_one PySem.W.kitx_list I.kIn ⟨_, h1, rfl⟩ e (fun z => nomatch z) h
  | @tup a xs ea =>
    cases (show u = Value.ref a from rx)
    obtain ⟨_, _, _, p⟩ := (show ObjOk X.prog X.w H s.heap a (.tup xs) from I.hok a _ ea)
    obtain ⟨o, h1, h2, _⟩ := p
    exact PySem.W.kia_one PySem.W.kitx_tuple I.kIn ⟨o, h1, h2⟩ e (fun z => nomatch z) h
  | @dK a kvs ea =>
    cases (show u = Value.ref a from rx)
    obtain ⟨_, _, vs, _, p⟩ := (show ObjOk X.prog X.w H s.heap a (.dK kvs) from I.hok a _ ea)
    obtain ⟨o, es, ep, h1, h2, _⟩ := p
    exact PySem.W.kia_one PySem.W.kitx_dict I.kIn ⟨o, h1, h2.1⟩ e (fun z => nomatch z) h
  | @dT a kvs ea =>
    cases (show u = Value.ref a from rx)
    obtain ⟨_, _, xs, _, o, es, ep, h1, h2, _⟩ := (show ObjOk X.prog X.w H s.heap a (.dT kvs) from I.hok a _ ea)
    exact PySem.W.kia_one PySem.W.kitx_dict I.kIn ⟨o, h1, h2.1⟩ e (fun z => nomatch z) h
  | @ins a C dx fs ea cl ha hn htk hm =>
    cases (show u = Value.ref a from rx)
    obtain ⟨mA, O, _⟩ := ins_get I.hok ea
    obtain ⟨od, J, _⟩ := O.look
    exact PySem.W.kia_one (PySem.W.kitx_own (cl.get _) cl.hd ha hn htk hm) I.kIn J e (fun z => nomatch z) h
end
end L2

namespace L2
open PySem PySem.Spec PyProof.Rows

/-! ### room -/
structure Room (k : Nat) (A : Around) : Prop where
  hd : A.handled = none
  dp : A.depth + 3 * k + 5 < recursionLimit
  un : A.units + 16 * k + 200 < cLine
theorem Room.mono {j k : Nat} {A : Around} (r : Room k A) (h : j ≤ k) : Room j A := ⟨r.hd, by have := r.dp; omega, by have := r.un; omega⟩
theorem Room.deeper {k : Nat} {A : Around} (r : Room (k + 1) A) (env : Env) : Room k (A.deeper env) :=
  ⟨r.hd, by have := r.dp; show A.depth + 1 + 3 * k + 5 < _; omega, by have := r.un; show A.units + 3 + 16 * k + 200 < _; omega⟩
theorem Room.in1 {k : Nat} {A : Around} (r : Room (k + 1) A) : Room k A.in1 :=
  ⟨r.hd, by have := r.dp; show A.depth + 3 * k + 5 < _; omega, by have := r.un; show A.units + 1 + 16 * k + 200 < _; omega⟩
theorem Room.depth {k : Nat} {A : Around} (r : Room k A) : A.depth < recursionLimit := by have := r.dp; omega
theorem Room.units {k : Nat} {A : Around} (r : Room k A) : A.units + 64 < cLine := by have := r.un; omega

/-! ### argument lists and displays -/
def tNil : TA := fun _ H Q => Q [] H
def tCons (ta : TE) (tr : TA) : TA := fun σ H Q => ta σ H fun x H1 => tr σ H1 fun xs H2 => Q (x :: xs) H2
section
variable {X : Cx} {e : Expr} {es : List Expr} {te : TE} {t : TA} {pos : Pos}
theorem pa_nil : PA X [] tNil := fun _ _ _ _ H Q I h => Calls.spliced_nil ⟨[], H, I, .nil, h⟩
theorem pa_cons (ha : PE X e te) (hr : PA X es t) (hs : starEach (e :: es) X.env = (false, eval e X.env) :: starEach es X.env := by rfl) : PA X (e :: es) (tCons te t) := by
  intro pos pins s σ H Q I h
  rw [hs]
  show wpAny _ _ (spliced ((false, eval e X.env) :: backTo pos (starEach es X.env))) _ _ s
  refine Calls.spliced_cons (thn (ha pins s σ H _ I h) fun u s1 ⟨x, H1, I1, r1, q1⟩ => ?_)
  exact thn (hr pos pins s1 σ H1 _ I1 q1) fun us s2 ⟨xs, H2, I2, r2, q2⟩ => ⟨x :: xs, H2, I2, .cons r1 r2, q2⟩

/-- a tuple, a list of written items -/
def tTup (t : TA) : TE := fun σ H Q => t σ H fun xs H1 => xs.length ≤ sizeLine ∧ ∀ p, H1 p = none → Q (.ref p) (upd H1 p (.tup xs))
def tLst (t : TA) : TE := fun σ H Q => t σ H fun xs H1 => xs.length ≤ sizeLine ∧ ∀ p, H1 p = none → Q (.ref p) (upd H1 p (.lst xs))
theorem pe_tup {x1} (h : PA X es t) : PE X (.Tuple es x1 pos) (tTup t) := by
  intro pins s σ H Q I hq
  refine wpAny_Tuple_spliced (thn (h pos pins s σ H _ I hq) fun us s1 ⟨xs, H1, I1, r, z, q⟩ => ⟨by rw [← r.length]; exact z, ?_⟩)
  have hf : H1 s1.heap.objs.size = none := I1.hok.fresh (Nat.le_refl _)
  refine ⟨.ref s1.heap.objs.size, upd H1 s1.heap.objs.size (.tup xs), I1.laid (t' := s1.toks) (fun b u e => Heap.get?_push_of_some _ e) (Nat.le_refl _) ?_, rfl, q _ hf⟩
  exact ⟨z, us, r, ⟨_, Heap.get?_push_size _ rfl, rfl, _, rfl⟩⟩
theorem pe_lst (h : PA X es t) : PE X (.List es pos) (tLst t) := by
  intro pins s σ H Q I hq
  refine wpAny_List_spliced (thn (h pos pins s σ H _ I hq) fun us s1 ⟨xs, H1, I1, r, z, q⟩ => ⟨by rw [← r.length]; exact z, ?_⟩)
  have hf : H1 s1.heap.objs.size = none := I1.hok.fresh (Nat.le_refl _)
  refine ⟨.ref s1.heap.objs.size, upd H1 s1.heap.objs.size (.lst xs), I1.laid (t' := s1.toks) (fun b u e => Heap.get?_push_of_some _ e) (Nat.le_refl _) ?_, rfl, q _ hf⟩
  exact ⟨z, us, 0, r, Heap.get?_push_size _ rfl⟩
end

/-! ### what a def promises -/
/-- a def's promise: the bound arguments in the parameters' order, the heap, the wanted end, the wanted exception -/
abbrev Sp := List V → Hp → VK → XK → Prop
/-- how an exception lies behind a call (file 08 gives it): the callers' frames, abstract heap and state ahead of the call, the wish, the exception, the state -/
abbrev CXT := List Env → Hp → Shared → XK → Value → Shared → Prop

/-- the state at a call -/
structure Env0 (P : Program) (w : World) (K : PySem.W.Frag) (mg : Str → Option Value) (base : Heap) (A : Around) (outer : List Env) (s : Shared) (H : Hp) : Prop where
  frames : A.frames = some outer
  mod : Mod K mg base
  bs : ∀ b o, base.get? b = some o → s.heap.get? b = some o ∧ H b = none
  bsz : base.objs.size ≤ s.heap.objs.size
  funs : s.heap.FunFrames base outer
  frf : ∀ b ∈ frs outer, H b = none
  hok : HOk P w H s.heap
  bare : AllBare s.gens
/-- a call's end -/
def CE (outer : List Env) (P : Program) (w : World) (H : Hp) (s : Shared) (Q : VK) (u : Value) (s' : Shared) : Prop :=
  ∃ v H', s'.os = s.os ∧ AllBare s'.gens ∧ Un (frs outer) [] H H' s.heap s'.heap ∧ HOk P w H' s'.heap ∧ RelV v u ∧ Q v H'
def CR (CX : CXT) (outer : List Env) (P : Program) (w : World) (H : Hp) (s : Shared) (Q : VK) (E : XK) (r : Result) (s' : Shared) : Prop :=
  match r with
  | .ok (.ret u) => CE outer P w H s Q u s'
  | .ok _ => False
  | .error e => CX outer H s E e s'
structure FnOk (P : Program) (w : World) (K : PySem.W.Frag) (mg : Str → Option Value) (base : Heap) (CX : CXT) (k : Nat) (f : Addr) (fd : FuncData) (ps : List Str) (sp : Sp) : Prop where
  len : ∀ vs H Q E, sp vs H Q E → vs.length = ps.length
  run : ∀ (A : Around) (outer : List Env) (s : Shared) (H : Hp) (args : Args) (us : List Value) (vs : List V) (Q : VK) (E : XK), Room k A → Env0 P w K mg base A outer s H → BindsTo s fd args (ps.zip us) → Vals vs us → sp vs H Q E →
    codeAny (model P w) A (.call (.ref f) args) (CR CX outer P w H s Q E) s
theorem FnOk.mono {P : Program} {w : World} {K : PySem.W.Frag} {mg : Str → Option Value} {base : Heap} {CX : CXT} {j k : Nat} {f : Addr} {fd : FuncData} {ps : List Str} {sp : Sp} (F : FnOk P w K mg base CX j f fd ps sp) (h : j ≤ k) :
    FnOk P w K mg base CX k f fd ps sp := ⟨F.len, fun A outer s H args us vs Q E hr => F.run A outer s H args us vs Q E (hr.mono h)⟩
/-- a weaker promise -/
theorem FnOk.imp {P : Program} {w : World} {K : PySem.W.Frag} {mg : Str → Option Value} {base : Heap} {CX : CXT} {k : Nat} {f : Addr} {fd : FuncData} {ps : List Str} {sp sp' : Sp} (F : FnOk P w K mg base CX k f fd ps sp)
    (h : ∀ vs H Q E, sp' vs H Q E → sp vs H Q E) : FnOk P w K mg base CX k f fd ps sp' :=
  ⟨fun vs H Q E q => F.len vs H Q E (h _ _ _ _ q), fun A outer s H args us vs Q E hr he hb hv hs => F.run A outer s H args us vs Q E hr he hb hv (h _ _ _ _ hs)⟩

theorem Env0.in1 {P : Program} {w : World} {K : PySem.W.Frag} {mg : Str → Option Value} {base : Heap} {A : Around} {outer : List Env} {s : Shared} {H : Hp} (e : Env0 P w K mg base A outer s H) :
    Env0 P w K mg base A.in1 outer s H := ⟨e.frames, e.mod, e.bs, e.bsz, e.funs, e.frf, e.hok, e.bare⟩

section
variable {X : Cx} {pins : List (Addr × Obj)} {σ : St} {H : Hp} {s s' : Shared}
/-- from a body: what a callee wants -/
theorem Inv.env0 (I : Inv X pins σ H s) : Env0 X.prog X.w X.K X.mg X.base X.A X.stack s H :=
  ⟨I.ok.frames, I.ok.mod, I.bs, Nat.le_trans I.ok.bsz I.sz, I.stack, I.stkFree, I.hok, I.bare⟩
/-- behind a call -/
theorem Inv.after {Q : VK} {u : Value} (I : Inv X pins σ H s) (h : CE X.stack X.prog X.w H s Q u s') : EP X pins σ Q u s' := by
  obtain ⟨v, H', os, bare, un, hok, r, q⟩ := h
  obtain ⟨hh, g, d, t, os'⟩ := s'
  obtain rfl : os' = s.os := os
  exact ⟨v, H', I.call (h' := hh) (g' := g) (d' := d) (t' := t) (ch := []) un hok bare (fun b z => absurd z (by simp)), r, q⟩
end

/-! ### calls -/
/-- f(..): the written arguments, then the defaults dvs; E: what is wanted of an exception -/
def tCall (sp : Sp) (dvs : List V) (E : XK) (t : TA) : TE := fun σ H Q => t σ H fun vs H1 => sp (vs ++ dvs) H1 Q E

/-- how the parameters are bound: us the positional arguments, kw the keywords' values by name, ds the defaults that fill up -/
def Binds (K : PySem.W.Frag) (fd : FuncData) (ps : List Str) (ds : List Value) : Prop :=
  ∀ (s : Shared) (us : List Value), K.In s.heap → (us ++ ds).length = ps.length → BindsTo s fd ⟨us, []⟩ (ps.zip (us ++ ds))
/-- every parameter is given -/
theorem Binds.all {K : PySem.W.Frag} {fd : FuncData} {ps : List Str} (h : ∀ us : List Value, us.length = ps.length → bindArgs fd ⟨us, []⟩ = pure (ps.zip us)) : Binds K fd ps [] := fun s us _ hl => by
  rw [List.append_nil] at hl ⊢
  exact .of_eq (h us hl)

/-- an exception of a callee reaches what this body wants of exceptions -/
def Passes (CX : CXT) (X : Cx) (E : XK) : Prop := ∀ (pins : List (Addr × Obj)) (σ : St) (H : Hp) (s : Shared) (e : Value) (s' : Shared), Inv X pins σ H s → CX X.stack H s E e s' → X.xe e s'

section
variable {X : Cx} {CX : CXT} {k : Nat} {f C : Addr} {fd : FuncData} {ps : List Str} {sp : Sp} {dvs : List V} {ds : List Value} {E : XK} {x m : Str} {p pos apos : Pos} {e o : Expr} {es : List Expr} {ta : TE} {t : TA}

/-- the callee runs -/
theorem run_fn {pins : List (Addr × Obj)} {σ : St} {H : Hp} {s : Shared} {Q : VK} {us : List Value} {vs : List V} (F : FnOk X.prog X.w X.K X.mg X.base CX k f fd ps sp) (hr : Room k X.A) (hb : Binds X.K fd ps ds) (hd : Vals dvs ds) (hx : Passes CX X E)
    (I : Inv X pins σ H s) (r : Vals vs us) (h : sp (vs ++ dvs) H Q E) : wpAny (model X.prog X.w) X.A (call (.ref f) us) (EP X pins σ Q) X.xe s := by
  have r2 : Vals (vs ++ dvs) (us ++ ds) := r.append hd
  have hl : (us ++ ds).length = ps.length := by rw [← r2.length]; exact F.len _ _ _ _ h
  refine wpAny_call (codeAny_mono (F.run X.A X.stack s H ⟨us, []⟩ (us ++ ds) (vs ++ dvs) Q E hr I.env0 (hb s us I.kIn hl) r2 h) fun r s' hq => ?_)
  cases r with
  | error e => exact hx pins σ H s e s' I hq
  | ok fl =>
    cases fl with
    | ret u => exact I.after hq
    | next => exact False.elim hq
    | brk => exact False.elim hq
    | cont => exact False.elim hq

theorem pe_call (F : FnOk X.prog X.w X.K X.mg X.base CX k f fd ps sp) (hr : Room k X.A) (hg : Gl X x) (hm : X.mg x = some (.ref f)) (hk : PySem.W.keepIn X.K (.ref f) = true) (hb : Binds X.K fd ps ds) (hd : Vals dvs ds) (hx : Passes CX X E)
    (ha : PA X (e :: es) t) (hdb : (x == ("__debug__" : Str)) = false := by decide) (he : starEach (e :: es) X.env = (false, eval e X.env) :: starEach es X.env := by rfl) (hpl : (backTo pos (starEach es X.env)).any (·.1) = false := by rfl) :
    PE X (.Call (.Name x p) (e :: es) [] pos) (tCall sp dvs E t) := by
  intro pins s σ H Q I h
  refine wpAny_Call_Name_kw (ld_glob I hg hm ?_ hdb)
  refine PySem.W.callWith_K (h₀ := X.base) I.ok.mod.kin hk (thn (ha pos pins s σ H _ I h) fun us s1 ⟨vs, H1, I1, r, q⟩ => ⟨I1.kIn, ?_⟩) he hpl
  exact run_fn F hr hb hd hx I1 r q


/-- what a class must have to be made -/
structure Mk (K : PySem.W.Frag) (C f : Addr) : Prop where
  makes : PySem.W.makesIn K C = true
  init : PySem.W.findIn K (.ref C) "__init__" = some (some (.ref f))
  fn : PySem.W.isFn K (.ref f) = true
  kp : PySem.W.keepIn K (.ref C) = true

end

/-! ### keywords -/
section
variable {X : Cx} {CX : CXT} {k : Nat} {f C : Addr} {fd : FuncData} {ps ks : List Str} {sp : Sp} {E : XK} {x m : Str} {p pos apos kpos : Pos} {e o : Expr} {es : List Expr} {kws : List Keyword} {te ta : TE} {t tk : TA} {nm : Option Str}

/-- how a call with keywords binds: g puts the positional values us and the keywords' values ws (names ks) in the parameters' order, defaults among them -/
structure KBinds (K : PySem.W.Frag) (fd : FuncData) (ps ks : List Str) (g : List Value → List Value → List Value) (gV : List V → List V → List V) : Prop where
  to : ∀ (s : Shared) (us ws : List Value), K.In s.heap → (g us ws).length = ps.length → BindsTo s fd ⟨us, ks.zip ws⟩ (ps.zip (g us ws))
  rel : ∀ {vs : List V} {us : List Value} {zs : List V} {ws : List Value}, Vals vs us → Vals zs ws → Vals (gV vs zs) (g us ws)
variable {g : List Value → List Value → List Value} {gV : List V → List V → List V}
end

/-! ### a def's body keeps its promise -/
/-- names: the parameters first -/
structure FnScope (N P : List Str) (sc : Scope) : Prop where
  kind : sc.kind = .function
  co : sc.isCoroutine = false
  gen : sc.isGenerator = false
  nd : N.Nodup
  pre : N.take P.length = P
  par : ∀ x ∈ P, sc.names.lookup x = some .local ∨ sc.names.lookup x = some .cell
  nofree : ∀ y ∈ sc.names, y.2 ≠ .free

theorem bindL_out {kindOf : Str → Option NameKind} {x : Str} : ∀ {binds : List (Str × Value)} {m : Str → Option Value}, (∀ v, (x, v) ∉ binds) → bindL kindOf binds m x = m x
  | [], _, _ => rfl
  | (n, v) :: r, m, h => by
    unfold bindL
    rw [bindL_out fun w hw => h w (List.mem_cons_of_mem _ hw)]
    split
    · have : x ≠ n := by rintro rfl; exact h v List.mem_cons_self
      simp [this]
    · rfl
theorem bindC_out {kindOf : Str → Option NameKind} {x : Str} : ∀ {binds : List (Str × Value)} {m : Str → Option Value}, (∀ v, (x, v) ∉ binds) → bindC kindOf binds m x = m x
  | [], _, _ => rfl
  | (n, v) :: r, m, h => by
    unfold bindC
    rw [bindC_out fun w hw => h w (List.mem_cons_of_mem _ hw)]
    split
    · rfl
    · have : x ≠ n := by rintro rfl; exact h v List.mem_cons_self
      simp [this]
theorem bindL_get {kindOf : Str → Option NameKind} {x : Str} {v : Value} : ∀ {P : List Str} {vs : List Value} {i : Nat} {m : Str → Option Value}, P.Nodup → P[i]? = some x → vs[i]? = some v → kindOf x = some .local →
    bindL kindOf (P.zip vs) m x = some v
  | [], _, _, _, _, h, _, _ => by simp at h
  | _ :: _, [], _, _, _, _, h, _ => by simp at h
  | p :: P, w :: vs, 0, m, nd, h1, h2, hk => by
    simp at h1 h2; subst h1; subst h2
    show bindL kindOf ((p, w) :: P.zip vs) m p = _
    unfold bindL
    rw [bindL_out fun v hv => (List.nodup_cons.mp nd).1 (List.of_mem_zip hv).1, if_pos hk]
    simp
  | p :: P, w :: vs, i + 1, m, nd, h1, h2, hk => by
    show bindL kindOf ((p, w) :: P.zip vs) m x = _
    unfold bindL
    exact bindL_get (i := i) (List.nodup_cons.mp nd).2 (by simpa using h1) (by simpa using h2) hk
theorem bindC_get {kindOf : Str → Option NameKind} {x : Str} {v : Value} : ∀ {P : List Str} {vs : List Value} {i : Nat} {m : Str → Option Value}, P.Nodup → P[i]? = some x → vs[i]? = some v → kindOf x ≠ some .local →
    bindC kindOf (P.zip vs) m x = some v
  | [], _, _, _, _, h, _, _ => by simp at h
  | _ :: _, [], _, _, _, _, h, _ => by simp at h
  | p :: P, w :: vs, 0, m, nd, h1, h2, hk => by
    simp at h1 h2; subst h1; subst h2
    show bindC kindOf ((p, w) :: P.zip vs) m p = _
    unfold bindC
    rw [bindC_out fun v hv => (List.nodup_cons.mp nd).1 (List.of_mem_zip hv).1, if_neg hk]
    simp
  | p :: P, w :: vs, i + 1, m, nd, h1, h2, hk => by
    show bindC kindOf ((p, w) :: P.zip vs) m x = _
    unfold bindC
    exact bindC_get (i := i) (List.nodup_cons.mp nd).2 (by simpa using h1) (by simpa using h2) hk

/-- the names' values at the entry -/
def start (N : List Str) (vs : List V) : St := vs.map some ++ List.replicate (N.length - vs.length) none

/-- the context of a def's body, at its entry; an exception leaves the frame, then lies as CX says -/
def cxOf (CX : CXT) (P : Program) (w : World) (K : PySem.W.Frag) (mg : Str → Option Value) (base : Heap) (N : List Str) (qual : Str) (scope : Scope) (f : Addr) (cd : Value) (A : Around) (outer : List Env) (s : Shared) (H : Hp) (E : XK) : Cx where
  prog := P
  w := w
  K := K
  mg := mg
  base := base
  A := A.deeper (envOfC qual scope s.heap.objs.size f cd)
  N := N
  s₀ := s
  H₀ := H
  env := envOfC qual scope s.heap.objs.size f cd
  outer := outer
  stack := envOfC qual scope s.heap.objs.size f cd :: outer
  ex := []
  calm := true
  fn := fun _ => true
  pn := []
  xe := fun e s' => wpAny (model P w) (A.deeper (envOfC qual scope s.heap.objs.size f cd)) (leaving (envOfC qual scope s.heap.objs.size f cd) e) (fun _ s'' => CX outer H s E e s'') (fun e' s'' => CX outer H s E e' s'') s'

theorem cell_has {sc : Scope} {n : Nat} {x : Str} (h : sc.names.lookup x = some .cell) : ∃ c, (cellsFrom n sc.names []).lookup x = some c := by
  have q := PySem.W.cellsFrom_some sc.names n [] (.inl h)
  exact Option.isSome_iff_exists.mp q

theorem inv_start {CX : CXT} {P : Program} {w : World} {K : PySem.W.Frag} {mg : Str → Option Value} {base : Heap} {N ps : List Str} {qual : Str} {scope : Scope} {f : Addr} {cd : Value} {A : Around} {outer : List Env} {s s1 : Shared} {H : Hp} {E : XK} {us : List Value} {vs : List V}
    (S : FnScope N ps scope) (hd : A.handled = none) (e0 : Env0 P w K mg base A outer s H) (hl : vs.length = ps.length) (r : Vals vs us)
    (x : InCallC s s.heap.objs.size (bindL (envOfC qual scope s.heap.objs.size f cd).kindOf (ps.zip us) fun _ => none) (cellsFrom (s.heap.objs.size + 1) scope.names []) (bindC (envOfC qual scope s.heap.objs.size f cd).kindOf (ps.zip us) fun _ => none) s1) :
    Inv (cxOf CX P w K mg base N qual scope f cd A outer s H E) [] (start N vs) H s1 := by
  have hpl : ps.length ≤ N.length := by have := congrArg List.length S.pre; rw [List.length_take] at this; omega
  obtain ⟨h1, tk, rfl, hk⟩ := x.done
  have noA : ∀ b : Addr, b ∉ (cxOf CX P w K mg base N qual scope f cd A outer s H E).ex := fun b z => absurd (show b ∈ ([] : List Addr) from z) (by simp)
  refine ⟨⟨e0.mod, S.kind, rfl, rfl, Nat.le_refl _, fun y z c h1 h2 => ?_, fun y hy => ?_, fun y c _ h => ?_, fun _ => hd, Around.frames_deeper e0.frames, .inr ⟨rfl, rfl⟩, fun b z => absurd z (noA b), e0.bs, e0.bsz, fun b _ _ => noA b, fun b z => absurd z (noA b), e0.funs, e0.frf⟩,
    rfl, e0.bare, Un.kept hk, ⟨_, x.toInCall.ns, fun i y v h1 h2 h3 => ?_⟩, fun y c h => ⟨_, x.cell y c h⟩, e0.hok.fresh (Nat.le_refl _), fun y c h => ?_, fun p hp => absurd (show p ∈ ([] : List (Addr × Obj)) from hp) (by simp), e0.hok.kept hk, ?_⟩
  · exact name_of_addr x.apart (PySem.mem_of_lookup h1) (PySem.mem_of_lookup h2)
  · have hy : scope.names.lookup y = some .cell ∨ scope.names.lookup y = some .free := hy
    rcases hy with hy | hy
    · exact cell_has hy
    · exact absurd rfl (S.nofree _ (PySem.mem_of_lookup hy))
  · exact Nat.le_of_lt (x.above y c (PySem.mem_of_lookup h))
  · have hi : i < vs.length := by
      unfold start at h2
      by_cases hi : i < vs.length
      · exact hi
      · rw [List.getElem?_append_right (by simpa using hi)] at h2
        rw [List.getElem?_replicate] at h2
        split at h2 <;> cases h2
    have ha : vs[i]? = some v := by
      unfold start at h2
      rw [List.getElem?_append_left (by simpa using hi), List.getElem?_map] at h2
      cases e : vs[i]? with
      | none => rw [e] at h2; cases h2
      | some a => rw [e] at h2; cases h2; rfl
    obtain ⟨u, hu, rv⟩ := r.get ha
    have hp : ps[i]? = some y := by
      rw [← S.pre, List.getElem?_take_of_lt (by omega)]; exact h1
    have ndP : ps.Nodup := by rw [← S.pre]; exact S.nd.sublist (List.take_sublist _ _)
    refine ⟨u, rv, ?_⟩
    rcases S.par y (List.mem_of_getElem? hp) with k | k
    · exact .inl ⟨k, bindL_get ndP hp hu k⟩
    · obtain ⟨c, e⟩ := cell_has (n := s.heap.objs.size + 1) k
      refine .inr ⟨.inl k, c, e, ?_⟩
      have q := x.cell y c e
      rw [bindC_get ndP hp hu (by show scope.names.lookup y ≠ _; rw [k]; decide)] at q
      exact q
  · exact e0.hok.fresh (Nat.le_of_lt (x.above y c (PySem.mem_of_lookup h)))
  · unfold start
    show _ = N.length
    rw [List.length_append, List.length_map, List.length_replicate]
    omega

/-- THE RULE: a def (or a method) of the text, by its body. The body's reading t is chosen for each entry; it is run at the parameters' values -/
theorem fn_of {CX : CXT} {P : Program} {w : World} {K : PySem.W.Frag} {mg : Str → Option Value} {base : Heap} {k : Nat} {f : Addr} {name qual : Str} {params : Arguments} {body : List Stmt} {scope : Scope} {dV kV doc pm cdv ct oc : Value} {an od : Option Addr}
    {osl : Array (Option Value)} {N ps : List Str} {sp : Sp} (lk : K.lookup f = some ⟨oc, od, .func (PySem.W.fnOf name qual params body scope dV kV doc pm an cdv ct), osl⟩) (hcd : PySem.W.codeIn K cdv qual = true) (S : FnScope N ps scope)
    (len : ∀ vs H Q E, sp vs H Q E → vs.length = ps.length)
    (hbody : ∀ (A : Around) (outer : List Env) (s : Shared) (H : Hp) (vs : List V) (Q : VK) (E : XK), Room k (A.deeper (envOfC qual scope s.heap.objs.size f cdv)) → sp vs H Q E →
      ∃ t, PSs (cxOf CX P w K mg base N qual scope f cdv A outer s H E) body t ∧ t { nx := fun _ H' => Q .non H', rt := Q } (start N vs) H) :
    FnOk P w K mg base CX (k + 1) f (PySem.W.fnOf name qual params body scope dV kV doc pm an cdv ct) ps sp := by
  refine ⟨len, fun A outer s H args us vs Q E hr e0 hb r hsp => ?_⟩
  have hl := len _ _ _ _ hsp
  have KX : K.In s.heap := e0.mod.kin.keeps fun b o e => (e0.bs b o e).1
  have lim : s.heap.NoLimit := e0.mod.nolimit.keeps fun b o e => (e0.bs b o e).1
  have hkind : ∀ y ∈ ps.zip us, scope.names.lookup y.1 = some .local ∨ (scope.names.lookup y.1 = some .cell ∧ ((cellsFrom (s.heap.objs.size + 1) scope.names []).lookup y.1).isSome = true) := fun ⟨n, v⟩ hy => by
    rcases S.par n (List.of_mem_zip hy).1 with q | q
    · exact .inl q
    · exact .inr ⟨q, PySem.W.cellsFrom_some _ _ _ (.inl q)⟩
  refine codeAny_call_function hr.depth (KX _ _ lk) rfl S.co S.gen rfl (PySem.W.codeRec_of KX hcd) (hb _ _ _ _ ?_)
  refine wpAny_newFunctionEnv_cells S.kind hkind fun env he s1 x => ?_
  subst he
  refine ⟨lim.keeps x.toInCall.keep, codeAny_func ?_⟩
  obtain ⟨t, ht, hq⟩ := hbody A outer s H vs Q E (hr.deeper _) hsp
  have I : Inv (cxOf CX P w K mg base N qual scope f cdv A outer s H E) [] (start N vs) H s1 := inv_start S hr.hd e0 hl r x
  refine wpAny_mono (ht [] s1 (start N vs) H _ I hq) (fun fl s' hs => ?_) fun e s' hs => hs
  have fin : ∀ {σ' : St} {H' : Hp} {v : V} {u : Value}, Inv (cxOf CX P w K mg base N qual scope f cdv A outer s H E) [] σ' H' s' → RelV v u → Q v H' → CE outer P w H s Q u s' :=
    fun {σ' H' v u} J rv q => ⟨v, H', J.os, J.bare, J.base, J.hok, rv, q⟩
  cases fl with
  | ret u =>
    obtain ⟨v, σ', H', J, rv, q⟩ := hs
    exact fin J rv q
  | next =>
    obtain ⟨σ', H', J, q⟩ := hs
    exact fin (v := V.non) (u := Value.none) J rfl q
  | brk =>
    obtain ⟨_, _, _, q⟩ := hs
    exact False.elim q
  | cont =>
    obtain ⟨_, _, _, q⟩ := hs
    exact False.elim q
end L2

namespace L2
open PySem PySem.Spec PyProof.Rows
section
variable {X : Cx} {x : Str} {p pos : Pos} {e : Expr} {es : List Expr} {t : TA} {id T : String} {r : List V → Hp → VK → Prop}

def tCB (r : List V → Hp → VK → Prop) (t : TA) : TE := fun σ H Q => t σ H fun vs H1 => r vs H1 Q
/-- f(e, ..), f a built-in function -/
theorem pe_callB (hc : CallR X (.builtin id) r) (hg : Gl X x) (hm : X.mg x = none) (hv : bootBuiltins x = some (.builtin id)) (ha : PA X (e :: es) t) (hn : x ≠ "__name__" := by decide) (hdb : (x == ("__debug__" : Str)) = false := by decide)
    (he : starEach (e :: es) X.env = (false, eval e X.env) :: starEach es X.env := by rfl) (hpl : (backTo pos (starEach es X.env)).any (·.1) = false := by rfl) : PE X (.Call (.Name x p) (e :: es) [] pos) (tCB r t) := by
  intro pins s σ H Q I h
  refine wpAny_Call_Name_kw (ld_blt I hg hm hv ?_ hn hdb)
  exact PyProof.Rows.callWith_builtin1 (thn (ha pos pins s σ H _ I h) fun us s1 ⟨vs, H1, I1, r1, q1⟩ => hc pins s1 σ H1 vs us Q I1 r1 q1) he hpl
/-- T(e, ..), T a built-in type -/
theorem pe_callTy (hc : CallR X (.type T) r) (hg : Gl X x) (hm : X.mg x = none) (hv : bootBuiltins x = some (.type T)) (ha : PA X (e :: es) t) (hn : x ≠ "__name__" := by decide) (hdb : (x == ("__debug__" : Str)) = false := by decide)
    (he : starEach (e :: es) X.env = (false, eval e X.env) :: starEach es X.env := by rfl) (hpl : (backTo pos (starEach es X.env)).any (·.1) = false := by rfl) : PE X (.Call (.Name x p) (e :: es) [] pos) (tCB r t) := by
  intro pins s σ H Q I h
  refine wpAny_Call_Name_kw (ld_blt I hg hm hv ?_ hn hdb)
  exact PyProof.Rows.callWith_type1 (thn (ha pos pins s σ H _ I h) fun us s1 ⟨vs, H1, I1, r1, q1⟩ => hc pins s1 σ H1 vs us Q I1 r1 q1) he hpl
end
end L2

namespace HT
open PySem PyProof.Rows



section
open PySem.SeqAt
open PySem.AutoSeq1 (wpAny_loadPart')
open PySem.MeetsSeq PySem.MeetsSeq2 PySem.MeetsSeq3

end

section
variable {prog : Program} {w : World} {A : Around} {E : Value → Shared → Prop} {s : Shared}



/-! ### t[a:b], not the whole -/
/-- a slice's bound as a place among n (d where it is left out) -/
def sIx (n d : Nat) : Option Int → Nat
  | none => d
  | some v => if v < 0 then (v + (n : Int)).toNat else min v.toNat n
theorem sIx_none (n d : Nat) : sIx n d none = d := rfl
theorem sIx_le (n d : Nat) (hd : d ≤ n) (o : Option Int) : sIx n d o ≤ n := by
  cases o with
  | none => exact hd
  | some v =>
    show (if v < 0 then (v + (n : Int)).toNat else min v.toNat n) ≤ n
    by_cases hv : v < 0
    · rw [if_pos hv]; omega
    · rw [if_neg hv]; exact Nat.min_le_right _ _

end
end HT

namespace L2
open PySem PySem.Spec PyProof.Rows

/-! ### the parts of a slice -/
abbrev TO := St → Hp → (Option Int → Hp → Prop) → Prop
/-- a slice's part (left out, or an int) -/
def PO (X : Cx) (e : Option Expr) (t : TO) : Prop :=
  ∀ (pins : List (Addr × Obj)) (s : Shared) (σ : St) (H : Hp) (Q : Option Int → Hp → Prop), Inv X pins σ H s → t σ H Q →
    wpAny (model X.prog X.w) X.A (evalPart e X.env) (fun u s' => ∃ o H', Inv X pins σ H' s' ∧ IsPart u o ∧ Q o H') X.xe s
def tNoPart : TO := fun _ H Q => Q none H
def tPart (t : TE) : TO := fun σ H Q => t σ H fun x H1 => ∃ i, x = .int i ∧ Q (some i) H1


section
variable {X : Cx} {e : Expr} {te : TE} {lo hi : Option Expr} {tl th : TO} {pos p2 : Pos}

theorem po_none : PO X none tNoPart := by
  intro pins s σ H Q I h
  rw [evalPart_none]
  exact wpAny_pure ⟨none, H, I, .none, h⟩
theorem po_some (h : PE X e te) : PO X (some e) (tPart te) := by
  intro pins s σ H Q I hw
  rw [evalPart_some]
  refine thn (h pins s σ H _ I hw) fun u s1 ⟨x, H1, I1, r1, q1⟩ => ?_
  obtain ⟨i, rfl, q⟩ := q1
  obtain ⟨t, rfl⟩ := r1
  exact ⟨some i, H1, I1, .int i t, q⟩

/-- what a slice of a value is, by values: the slice object stands at sl -/
def SlR (X : Cx) (r : V → Option Int → Option Int → Hp → VK → Prop) : Prop :=
  ∀ (pins : List (Addr × Obj)) (s : Shared) (σ : St) (H : Hp) (x : V) (v vl vu : Value) (lo hi : Option Int) (sl : Addr) (Q : VK), Inv X pins σ H s → RelV x v → s.heap.IsSliceOf sl vl vu .none → IsPart vl lo → IsPart vu hi → r x lo hi H Q →
    ∃ T id, typeLookup (.type T) "__getitem__" = pure (some (.builtin id)) ∧ s.TypeIs v T ∧ wpAny (model X.prog X.w) X.A (getItem v (.ref sl)) (EP X pins σ Q) X.xe s
theorem SlR.or {r r' : V → Option Int → Option Int → Hp → VK → Prop} (h : SlR X r) (h' : SlR X r') : SlR X (fun x lo hi H Q => r x lo hi H Q ∨ r' x lo hi H Q) := by
  intro pins s σ H x v vl vu lo hi sl Q I rx hs pl pu q
  rcases q with q | q
  · exact h pins s σ H x v vl vu lo hi sl Q I rx hs pl pu q
  · exact h' pins s σ H x v vl vu lo hi sl Q I rx hs pl pu q
def tSl (r : V → Option Int → Option Int → Hp → VK → Prop) (te : TE) (tl th : TO) : TE := fun σ H Q => te σ H fun x H1 => tl σ H1 fun l H2 => th σ H2 fun u H3 => r x l u H3 Q
/-- a[lo:hi], any a -/
theorem pe_slice {r : V → Option Int → Option Int → Hp → VK → Prop} (hr : SlR X r) (he : PE X e te) (hl : PO X lo tl) (hu : PO X hi th) : PE X (.Subscript e (.Slice lo hi none p2) pos) (tSl r te tl th) := by
  intro pins s σ H Q I h
  refine Subscript_ (thn (he pins s σ H _ I h) fun v s1 ⟨x, H1, I1, r1, q1⟩ => ?_)
  refine wpAny_Slice (thn (hl pins s1 σ H1 _ I1 q1) fun vl s2 ⟨l, H2, I2, pl, q2⟩ => thn (hu pins s2 σ H2 _ I2 q2) fun vu s3 ⟨u, H3, I3, pu, q3⟩ => ?_)
  rw [evalPart_none]
  refine wpAny_pure ?_
  have I4 : Inv X pins σ H3 { s3 with heap := s3.heap.push { cls := .type "slice", data := .fields #[vl, vu, .none] } } := I3.kept (t' := s3.toks) fun b ob q => Heap.get?_push_of_some _ q
  obtain ⟨T, id, hT, ht, hg⟩ := hr pins { s3 with heap := s3.heap.push { cls := .type "slice", data := .fields #[vl, vu, .none] } } σ H3 x v vl vu l u s3.heap.objs.size Q I4 r1 (Heap.IsSliceOf.new ..) pl pu q3
  show wpAny (model X.prog X.w) X.A (subscriptTail e (.Slice lo hi none p2) v (.ref s3.heap.objs.size)) (EP X pins σ Q) X.xe { s3 with heap := s3.heap.push { cls := .type "slice", data := .fields #[vl, vu, .none] } }
  exact tail_any (ops := [.ref s3.heap.objs.size, v]) ht hT hg (by with_unfolding_all rfl)

/-- the items of xs[lo:hi] -/
def cutV (xs : List V) (lo hi : Option Int) : List V := (xs.drop (HT.sIx xs.length 0 lo)).take (HT.sIx xs.length xs.length hi - HT.sIx xs.length 0 lo)
theorem cutV_length (xs : List V) (lo hi : Option Int) : (cutV xs lo hi).length ≤ xs.length := by
  unfold cutV
  rw [List.length_take, List.length_drop]
  omega

/-! ### t < u, t + u -/
end
end L2

namespace L2
open PySem PySem.Spec PyProof.Rows

/-! ### places -/
/-- the place that an index of any sign means -/
def ixN (n : Nat) (i : Int) : Option Nat := if 0 ≤ i then (if i < n then some i.toNat else none) else if -(n : Int) ≤ i then some (i + n).toNat else none
def atI {α : Type} (xs : List α) (i : Int) : Option α := (ixN xs.length i).bind fun j => xs[j]?
theorem ixN_seq {n : Nat} {i : Int} {j : Nat} (h : ixN n i = some j) : seqIndex? i n = some j ∧ j < n ∧ -(n : Int) ≤ i ∧ i < n := by
  unfold ixN at h
  by_cases h0 : 0 ≤ i
  · rw [if_pos h0] at h
    by_cases h1 : i < n
    · rw [if_pos h1] at h
      have e : i.toNat = j := Option.some.inj h
      exact ⟨by rw [seqIndex_of h0 h1, e], by omega, by omega, h1⟩
    · rw [if_neg h1] at h; cases h
  · rw [if_neg h0] at h
    by_cases h1 : -(n : Int) ≤ i
    · rw [if_pos h1] at h
      have e : (i + n).toNat = j := Option.some.inj h
      exact ⟨by rw [seqIndex_neg (by omega) h1, e], by omega, h1, by omega⟩
    · rw [if_neg h1] at h; cases h
theorem atI_get {α : Type} {xs : List α} {i : Int} {v : α} (h : atI xs i = some v) : ∃ j, seqIndex? i xs.length = some j ∧ xs[j]? = some v ∧ j < xs.length ∧ -(xs.length : Int) ≤ i ∧ i < xs.length := by
  unfold atI at h
  cases e : ixN xs.length i with
  | none => rw [e] at h; cases h
  | some j =>
    rw [e] at h
    obtain ⟨h1, h2, h3, h4⟩ := ixN_seq e
    exact ⟨j, h1, h, h2, h3, h4⟩
theorem atI_nat {α : Type} {xs : List α} {j : Nat} {v : α} (h : xs[j]? = some v) : atI xs (j : Int) = some v := by
  have hj : j < xs.length := (List.getElem?_eq_some_iff.mp h).1
  have e : ixN xs.length (j : Int) = some j := by
    unfold ixN
    rw [if_pos (by omega), if_pos (by omega)]; simp
  unfold atI; rw [e]; exact h

/-! ### what may be subscripted -/
/-- what stands as an index of a plain subscript -/
def PlainIx (b : Expr) : Prop := ∀ o i, subscripted b false o i = operate [o, i] (getItem o i)
/-- a subscript by values -/
def IxR (X : Cx) (r : R2) : Prop :=
  ∀ (value slice : Expr) (pins : List (Addr × Obj)) (s : Shared) (σ : St) (H : Hp) (x y : V) (v u : Value) (Q : VK), Inv X pins σ H s → RelV x v → RelV y u → r x y H Q →
    subscripted slice false v u = operate [v, u] (getItem v u) → wpAny (model X.prog X.w) X.A (subscriptTail value slice v u) (EP X pins σ Q) X.xe s
/-- a call of a builtin's method by values: the receiver, the arguments -/
def MtR (X : Cx) (id : String) (r : V → List V → Hp → VK → Prop) : Prop :=
  ∀ (pins : List (Addr × Obj)) (s : Shared) (σ : St) (H : Hp) (x : V) (xs : List V) (v : Value) (us : List Value) (Q : VK), Inv X pins σ H s → RelV x v → Vals xs us → r x xs H Q →
    wpAny (model X.prog X.w) X.A (call (.builtin id) (v :: us)) (EP X pins σ Q) X.xe s
section
variable {X : Cx} {a b : Expr} {ta tb : TE} {pos : Pos}
theorem IxR.or {r r' : R2} (h : IxR X r) (h' : IxR X r') : IxR X (fun x y H Q => r x y H Q ∨ r' x y H Q) := by
  intro value slice pins s σ H x y v u Q I rx ry q hs
  rcases q with q | q
  · exact h value slice pins s σ H x y v u Q I rx ry q hs
  · exact h' value slice pins s σ H x y v u Q I rx ry q hs
theorem MtR.or {id : String} {r r' : V → List V → Hp → VK → Prop} (h : MtR X id r) (h' : MtR X id r') : MtR X id (fun x xs H Q => r x xs H Q ∨ r' x xs H Q) := by
  intro pins s σ H x xs v us Q I rx rs q
  rcases q with q | q
  · exact h pins s σ H x xs v us Q I rx rs q
  · exact h' pins s σ H x xs v us Q I rx rs q
/-- a[b] -/
theorem pe_ix {r : R2} (hr : IxR X r) (ha : PE X a ta) (hb : PE X b tb) (hs : PlainIx b) : PE X (.Subscript a b pos) (tOp r ta tb) := by
  intro pins s σ H Q I h
  exact Subscript_ (binT ha hb I h fun v u s2 x y H2 I2 rx ry q => hr a b pins s2 σ H2 x y v u Q I2 rx ry q (hs _ _))

def rIxL (K : PySem.W.Frag) : R2 := fun x y H Q => ∃ p xs i v, x = .ref p ∧ y = .int i ∧ SqL K H p xs ∧ atI xs i = some v ∧ Q v H
def rIxT (K : PySem.W.Frag) : R2 := fun x y H Q => ∃ p xs i v, x = .ref p ∧ y = .int i ∧ SqT K H p xs ∧ atI xs i = some v ∧ Q v H
def rIxS : R2 := fun x y H Q => ∃ z i c, x = .str z ∧ y = .int i ∧ z.length ≤ sizeLine ∧ atI z.cps.toList i = some c ∧ Q (.str ⟨#[c]⟩) H
theorem ix_list : IxR X (rIxL X.K) := by
  intro value slice pins s σ H x y v u Q I rx ry h hs
  obtain ⟨p, xs, i, z, rfl, rfl, hq, he, q⟩ := h
  cases rx
  obtain ⟨t, rfl⟩ := ry
  obtain ⟨its, r, pl, hz⟩ := I.list hq
  obtain ⟨j, h1, h2, h3, h4, h5⟩ := atI_get he
  obtain ⟨w, ew, rw'⟩ := r.get h2
  have hl := r.length
  have hn := line63
  have fin : EP X pins σ Q w s := ⟨z, H, I, rw', q⟩
  by_cases h0 : 0 ≤ i
  · have hj : i.toNat = j := by
      rw [seqIndex_of h0 h5] at h1
      exact Option.some.inj h1
    exact item_listR pl.isList h0 (by omega) (by rw [hj]; simpa using ew) fin hs
  · have hj : (i + (its.toArray.size : Int)).toNat = j := by
      rw [seqIndex_neg (by omega) h4] at h1
      rw [List.size_toArray, ← hl]
      exact Option.some.inj h1
    exact subscriptTail_builtinR (x := w) pl.isList.typeIs slot_list_getitem.lookup
      (wpAny_getItem_list_neg (Q := fun r s' => r = w ∧ EP X pins σ Q r s') pl.isList (by omega) (by rw [List.size_toArray] <;> omega) (by omega) (by rw [hj]; simpa using ew) ⟨rfl, fin⟩) hs
theorem ix_tup : IxR X (rIxT X.K) := by
  intro value slice pins s σ H x y v u Q I rx ry h hs
  obtain ⟨p, xs, i, z, rfl, rfl, hq, he, q⟩ := h
  cases rx
  obtain ⟨t, rfl⟩ := ry
  obtain ⟨its, r, pl, hz⟩ := I.tuple hq
  obtain ⟨j, h1, h2, h3, h4, h5⟩ := atI_get he
  obtain ⟨w, ew, rw'⟩ := r.get h2
  have hl := r.length
  have hn := line63
  have fin : EP X pins σ Q w s := ⟨z, H, I, rw', q⟩
  exact subscriptTail_builtinR (x := w) pl.typeIs slot_tuple_getitem.lookup
    (getItem_tuple (j := j) (Q := fun r s' => r = w ∧ EP X pins σ Q r s') pl (by omega) (by omega) (by rw [List.size_toArray, ← hl]; exact h1) (by simpa using ew) ⟨rfl, fin⟩) hs
theorem ix_str : IxR X rIxS := by
  intro value slice pins s σ H x y v u Q I rx ry h hs
  obtain ⟨z, i, c, rfl, rfl, hz, he, q⟩ := h
  obtain ⟨t, rfl⟩ := rx
  obtain ⟨t', rfl⟩ := ry
  obtain ⟨j, h1, h2, h3, h4, h5⟩ := atI_get he
  have hl : z.cps.toList.length = z.length := by simp [Str.length]
  rw [hl] at h1 h4 h5
  have hn := line63
  exact tail_any (typeIs_str s z t) slot_str_getitem.lookup (getItem_str (c := c) (by
    have e1 : decide (i < -(2 ^ 63 : Int)) = false := decide_eq_false (by omega)
    have e2 : decide (i ≥ 2 ^ 63) = false := decide_eq_false (by omega)
    rw [e1, e2, Bool.or_false]) (by rw [h1]; simpa using h2) ⟨.str ⟨#[c]⟩, H, I.tok _, ⟨_, rfl⟩, q⟩) hs

/-! ### xs[i] = v, any sign -/
/-- the list's object behind a store -/
theorem mapSeq_set (its : List Value) (n j : Nat) (u : Value) : Obj.mapSeq (·.setIfInBounds j u) { cls := .type "list", data := .seq its.toArray n } = { cls := .type "list", data := .seq (its.set j u).toArray n } := by
  simp [Obj.mapSeq]
theorem Inv.lst {pins : List (Addr × Obj)} {σ : St} {H : Hp} {s : Shared} {p : Addr} {xs : List V} (I : Inv X pins σ H s) (h : H p = some (.lst xs)) :
    ∃ (its : List Value) (n : Nat), Vals xs its ∧ s.heap.get? p = some { cls := .type "list", data := .seq its.toArray n } ∧ xs.length ≤ sizeLine := by
  obtain ⟨z, its, n, r, e⟩ := I.hok p _ h
  exact ⟨its, n, r, e, z⟩
/-- the list at p is written by an update of its object -/
theorem Inv.lstUpd {pins : List (Addr × Obj)} {σ : St} {H : Hp} {s : Shared} {p : Addr} {xs ys : List V} {its its' : List Value} {n n' : Nat} {f : Obj → Obj} (I : Inv X pins σ H s) (h : H p = some (.lst xs))
    (ho : s.heap.get? p = some { cls := .type "list", data := .seq its.toArray n }) (hf : f { cls := .type "list", data := .seq its.toArray n } = { cls := .type "list", data := .seq its'.toArray n' }) (r : Vals ys its') (hz : ys.length ≤ sizeLine) (t : Nat) :
    Inv X pins σ (upd H p (.lst ys)) { s with heap := s.heap.update p f, toks := t } := by
  have e : (s.heap.update p f).get? p = some { cls := .type "list", data := .seq its'.toArray n' } := by
    rw [Heap.get?_update_self f ho (by rw [hf] <;> rfl), hf]
  refine I.write (x := p) (e := p) (by rw [h]; trivial) (.inl rfl) (fun b u hb q => (Heap.get?_update_other _ _ (Ne.symm hb)).trans q) ⟨_, e⟩ ?_
  exact ⟨hz, its', n', r, e⟩
def rSetL : V → V → V → Hp → (Hp → Prop) → Prop := fun o i v H Q => ∃ p xs k j, o = .ref p ∧ i = .int k ∧ H p = some (.lst xs) ∧ ixN xs.length k = some j ∧ Q (upd H p (.lst (xs.set j v)))
theorem set_list : PSet X rSetL := by
  intro pins s σ H o i v ov iv u Q I ro ri rv h
  obtain ⟨p, xs, k, j, rfl, rfl, hp, hj, q⟩ := h
  cases ro
  obtain ⟨t, rfl⟩ := ri
  obtain ⟨its, n, r, ho, hz⟩ := I.lst hp
  obtain ⟨h1, h2, h3, h4⟩ := ixN_seq hj
  have hl := r.length
  have hn := line63
  have I' : Inv X pins σ (upd H p (.lst (xs.set j v))) { s with heap := s.heap.update p (Obj.mapSeq (·.setIfInBounds j u)) } :=
    I.lstUpd hp ho (mapSeq_set its n j u) (r.set rv j) (by rw [List.length_set]; exact hz) s.toks
  by_cases h0 : 0 ≤ k
  · have hk : k.toNat = j := by
      rw [seqIndex_of h0 h4] at h1
      exact Option.some.inj h1
    exact PySem.W.ki_setAt ho h0 (by omega) (by rw [List.size_toArray, ← hl]; exact h4) (by rw [hk]; exact ⟨_, I', q⟩)
  · have hk : (k + (its.toArray.size : Int)).toNat = j := by
      rw [seqIndex_neg (by omega) h3] at h1
      rw [List.size_toArray, ← hl]
      exact Option.some.inj h1
    exact PySem.W.ki_setBack ho (by omega) (by rw [List.size_toArray, ← hl]; exact h3) (by omega) (by rw [hk]; exact ⟨_, I', q⟩)

/-! ### slices -/
theorem slice_bounds (lo hi : Option Int) (n : Nat) : (sliceBounds lo hi none n).1 = ((HT.sIx n 0 lo : Nat) : Int) ∧ (sliceBounds lo hi none n).2.1 = ((HT.sIx n n hi : Nat) : Int) ∧ (sliceBounds lo hi none n).2.2 = 1 := by
  refine ⟨?_, ?_, rfl⟩
  · cases lo with
    | none => simp [sliceBounds, HT.sIx]
    | some i =>
      simp only [sliceBounds, HT.sIx, Option.getD_none, show (1 : Int) > 0 by decide, if_true]
      by_cases h : i < 0
      · simp only [h, if_true] <;> omega
      · simp only [h, if_false] <;> omega
  · cases hi with
    | none => simp [sliceBounds, HT.sIx]
    | some i =>
      simp only [sliceBounds, HT.sIx, Option.getD_none, show (1 : Int) > 0 by decide, if_true]
      by_cases h : i < 0
      · simp only [h, if_true] <;> omega
      · simp only [h, if_false] <;> omega
theorem slicePick_cut (its : List Value) (lo hi : Option Int) : slicePick its.toArray lo hi none = ((its.drop (HT.sIx its.length 0 lo)).take (HT.sIx its.length its.length hi - HT.sIx its.length 0 lo)).toArray := by
  obtain ⟨h1, h2, h3⟩ := slice_bounds lo hi its.toArray.size
  unfold slicePick
  rw [h1, h2, h3]
  simp only [sliceRange_one, pick_run, List.size_toArray] <;> rfl
/-- xs[lo:hi] of a list: a new list -/
def rSlL (K : PySem.W.Frag) : V → Option Int → Option Int → Hp → VK → Prop := fun x lo hi H Q => ∃ a xs, x = .ref a ∧ SqL K H a xs ∧ ∀ p, H p = none → Q (.ref p) (upd H p (.lst (cutV xs lo hi)))
theorem sl_list : SlR X (rSlL X.K) := by
  intro pins s σ H x v vl vu lo hi sl Q I rx hs pl pu h
  obtain ⟨a, xs, rfl, hx, q⟩ := h
  cases rx
  obtain ⟨its, r, ht, hz⟩ := I.list hx
  have hlen := r.length
  refine ⟨"list", _, slot_list_getitem.lookup, ht.isList.typeIs, ?_⟩
  refine wpAny_getItem_list_slice ht.isList hs pl pu .none (by simp) ?_ (by rw [List.size_toArray] <;> omega)
  rw [slicePick_cut, ← hlen]
  refine ⟨.ref s.heap.objs.size, _, I.laid (t' := s.toks) (o := .lst (cutV xs lo hi)) (fun b ob q => Heap.get?_push_of_some _ q) (Nat.le_refl _) ?_, rfl, q _ (I.hok.fresh (Nat.le_refl _))⟩
  exact ⟨Nat.le_trans (cutV_length xs lo hi) hz, _, 0, (r.drop (HT.sIx xs.length 0 lo)).take (HT.sIx xs.length xs.length hi - HT.sIx xs.length 0 lo), Heap.get?_push_size _ rfl⟩

/-! ### in, not in: flat items -/
def flatV : V → Bool
  | .non => true
  | .bl _ => true
  | .int _ => true
  | .str _ => true
  | _ => false
/-- == of flat values -/
def eqV : V → V → Bool
  | .non, .non => true
  | .bl a, .bl b => a == b
  | .bl a, .int b => (if a then 1 else 0) == b
  | .int a, .bl b => a == (if b then 1 else 0)
  | .int a, .int b => a == b
  | .str a, .str b => a == b
  | _, _ => false
theorem eqAt_V {A : Around} {s : Shared} {y x : V} {u v : Value} (ry : RelV y u) (rx : RelV x v) (fy : flatV y = true) (fx : flatV x = true) : SeqAt.EqAt A s u v (eqV y x) := by
  cases y with
  | non =>
    cases ry
    cases x with
    | non => cases rx; exact SeqAt.EqAt.same _
    | bl b => cases rx; exact SeqAt.EqAt.none_bool b
    | int b => obtain ⟨t, rfl⟩ := rx; exact SeqAt.EqAt.none_int b t
    | str b => obtain ⟨t, rfl⟩ := rx; exact SeqAt.EqAt.none_str b t
    | _ => exact absurd (show false = true from fx) Bool.false_ne_true
  | bl a =>
    cases ry
    cases x with
    | non => cases rx; exact SeqAt.EqAt.bool_none a
    | bl b => cases rx; exact SeqAt.EqAt.bool_bool a b
    | int b => obtain ⟨t, rfl⟩ := rx; exact SeqAt.EqAt.bool_int a b t
    | str b => obtain ⟨t, rfl⟩ := rx; exact SeqAt.EqAt.bool_str a b t
    | _ => exact absurd (show false = true from fx) Bool.false_ne_true
  | int a =>
    obtain ⟨t', rfl⟩ := ry
    cases x with
    | non => cases rx; exact SeqAt.EqAt.int_none a t'
    | bl b => cases rx; exact SeqAt.EqAt.int_bool a t' b
    | int b => obtain ⟨t, rfl⟩ := rx; exact SeqAt.EqAt.int_int a t' b t
    | str b => obtain ⟨t, rfl⟩ := rx; exact SeqAt.EqAt.int_str a t' b t
    | _ => exact absurd (show false = true from fx) Bool.false_ne_true
  | str a =>
    obtain ⟨t', rfl⟩ := ry
    cases x with
    | non => cases rx; exact SeqAt.EqAt.str_none a t'
    | bl b => cases rx; exact SeqAt.EqAt.str_bool a t' b
    | int b => obtain ⟨t, rfl⟩ := rx; exact SeqAt.EqAt.str_int a t' b t
    | str b => obtain ⟨t, rfl⟩ := rx; exact SeqAt.EqAt.str_str a t' b t
    | _ => exact absurd (show false = true from fx) Bool.false_ne_true
  | _ => exact absurd (show false = true from fy) Bool.false_ne_true
/-- the items' answers, read off the values (a value's own answer does not lean on its token) -/
def eqU (x : V) (u : Value) : Bool := match u with
  | .none => eqV .non x
  | .bool b => eqV (.bl b) x
  | .int i _ => eqV (.int i) x
  | .str z _ => eqV (.str z) x
  | _ => false
theorem eqU_of {x y : V} {u : Value} (r : RelV y u) (f : flatV y = true) : eqU x u = eqV y x := by
  cases y with
  | non => cases r; rfl
  | bl b => cases r; rfl
  | int i => obtain ⟨t, rfl⟩ := r; rfl
  | str z => obtain ⟨t, rfl⟩ := r; rfl
  | _ => exact absurd (show false = true from f) Bool.false_ne_true
theorem any_eqU {x : V} : ∀ {xs : List V} {us : List Value}, Vals xs us → xs.all flatV = true → us.any (eqU x) = xs.any fun y => eqV y x
  | _, _, .nil, _ => rfl
  | y :: xs, u :: us, .cons r t, f => by
    rw [List.all_cons, Bool.and_eq_true] at f
    rw [List.any_cons, List.any_cons, eqU_of r f.1, any_eqU t f.2]
theorem mem_eqAt {A : Around} {s : Shared} {x : V} {v : Value} (rx : RelV x v) (fx : flatV x = true) : ∀ {xs : List V} {us : List Value}, Vals xs us → xs.all flatV = true → ∀ u ∈ us, SeqAt.EqAt A s u v (eqU x u)
  | _, _, .nil, _ => fun u hu => by cases hu
  | y :: xs, u :: us, .cons r t, f => fun u' hu => by
    rw [List.all_cons, Bool.and_eq_true] at f
    rcases List.mem_cons.mp hu with rfl | hu
    · rw [eqU_of r f.1]; exact eqAt_V r rx f.1 fx
    · exact mem_eqAt rx fx t f.2 u' hu
def inV (x : V) (xs : List V) : Bool := xs.any fun y => eqV y x
/-- x in a list or tuple of flat items -/
def rIn (K : PySem.W.Frag) (neg : Bool) : R2 := fun x y H Q => ∃ p xs, y = .ref p ∧ (SqL K H p xs ∨ SqT K H p xs) ∧ flatV x = true ∧ xs.all flatV = true ∧ Q (.bl (if neg then !inV x xs else inV x xs)) H
theorem op_notIn_seq : OpR X (compareOp .NotIn) (rIn X.K true) := by
  intro pins s σ H x y v u Q I rx ry h
  obtain ⟨p, xs, rfl, hq, fx, fs, q⟩ := h
  cases ry
  rcases hq with hq | hq
  · obtain ⟨its, r, pl, hz⟩ := I.list hq
    refine SeqAt.notIn_listAt (eqU x) pl.isList (fun w hw => mem_eqAt rx fx r fs w (by simpa using hw)) ⟨.bl _, H, I, rfl, ?_⟩
    rw [show its.toArray.any (eqU x) = its.any (eqU x) by simp, any_eqU r fs]
    exact q
  · obtain ⟨its, r, pl, hz⟩ := I.tuple hq
    refine SeqAt.notIn_tupleAt (eqU x) pl (fun w hw => mem_eqAt rx fx r fs w (by simpa using hw)) ⟨.bl _, H, I, rfl, ?_⟩
    rw [show its.toArray.any (eqU x) = its.any (eqU x) by simp, any_eqU r fs]
    exact q

/-! ### len, list(x), tuple(x) of any list or tuple that is read -/
theorem call_len_seq : CallR X (.builtin "len") (fun xs H Q => ∃ p ys, xs = [.ref p] ∧ (SqL X.K H p ys ∨ SqT X.K H p ys) ∧ Q (.int ys.length) H) := by
  intro pins s σ H xs us Q I r h
  obtain ⟨p, ys, rfl, hq, q⟩ := h
  obtain ⟨u, rfl, rx⟩ := vals1 r
  cases rx
  have hn := line63
  rcases hq with hq | hq
  · obtain ⟨its, r', pl, hz⟩ := I.list hq
    have hlen := r'.length
    exact Calls.call_len_list pl.isList (by simp only [List.size_toArray] <;> omega) ⟨.int ys.length, H, I.tok _, ⟨s.toks + 1, by rw [List.size_toArray, hlen]⟩, q⟩
  · obtain ⟨its, r', pl, hz⟩ := I.tuple hq
    have hlen := r'.length
    exact len_tuple pl (by simp only [List.size_toArray] <;> omega) ⟨.int ys.length, H, I.tok _, ⟨s.toks + 1, by rw [List.size_toArray, hlen]⟩, q⟩
theorem call_len_str : CallR X (.builtin "len") (fun xs H Q => ∃ z, xs = [.str z] ∧ z.length ≤ sizeLine ∧ Q (.int z.length) H) := by
  intro pins s σ H xs us Q I r h
  obtain ⟨z, rfl, hz, q⟩ := h
  obtain ⟨u, rfl, t, rfl⟩ := vals1 r
  have hn := line63
  exact len_str (by omega) ⟨.int z.length, H, I.tok _, ⟨_, rfl⟩, q⟩
theorem CallR.or {f : Value} {r r' : List V → Hp → VK → Prop} (h : CallR X f r) (h' : CallR X f r') : CallR X f (fun xs H Q => r xs H Q ∨ r' xs H Q) := by
  intro pins s σ H xs us Q I rs q
  rcases q with q | q
  · exact h pins s σ H xs us Q I rs q
  · exact h' pins s σ H xs us Q I rs q
theorem call_list_of : CallR X (.type "list") (fun xs H Q => ∃ p ys, xs = [.ref p] ∧ (SqL X.K H p ys ∨ SqT X.K H p ys) ∧ ∀ l, H l = none → Q (.ref l) (upd H l (.lst ys))) := by
  intro pins s σ H xs us Q I r h
  obtain ⟨p, ys, rfl, hq, q⟩ := h
  obtain ⟨u, rfl, rx⟩ := vals1 r
  cases rx
  have fin : ∀ (its : List Value), Vals ys its → ys.length ≤ sizeLine → ∀ (h' : Heap) (c' : Nat), (∀ b o', s.heap.get? b = some o' → h'.get? b = some o') →
      h'.get? s.heap.objs.size = some { cls := .type "list", dict := none, data := .seq its.toArray c', slots := #[] } → EP X pins σ Q (.ref s.heap.objs.size) { s with heap := h' } := fun its r' hz h' c' kp e =>
    ⟨.ref s.heap.objs.size, _, I.laid (t' := s.toks) kp (Nat.le_refl _) (show ObjOk X.prog X.w _ h' _ (.lst ys) from ⟨hz, its, c', r', e⟩), rfl, q _ (I.hok.fresh (Nat.le_refl _))⟩
  rcases hq with hq | hq
  · obtain ⟨its, r', pl, hz⟩ := I.list hq
    have hlen := r'.length
    obtain ⟨o, ho, hc, n, hd⟩ := pl.isList
    exact call_list_seq p (.inl rfl) ho hc hd (fun h' c' kp e => fin its r' hz h' c' kp e) (by simp only [List.size_toArray] <;> omega)
  · obtain ⟨its, r', pl, hz⟩ := I.tuple hq
    have hlen := r'.length
    obtain ⟨o, ho, hc, n, hd⟩ := pl
    exact call_list_seq p (.inr rfl) ho hc hd (fun h' c' kp e => fin its r' hz h' c' kp e) (by simp only [List.size_toArray] <;> omega)

/-! ### the call of a builtin's method: o.m(..) -/
/-- the value is of that builtin type -/
def tyV (K : PySem.W.Frag) (T : String) (x : V) (H : Hp) : Prop := match x with
  | .str _ => T = "str"
  | .int _ => T = "int"
  | .ref p => (T = "list" ∧ ∃ xs, SqL K H p xs) ∨ (T = "tuple" ∧ ∃ o, K.lookup p = some o ∧ o.cls = .type "tuple" ∧ o.dict = none) ∨
      (T = "dict" ∧ ((∃ kvs, H p = some (.dK kvs)) ∨ ∃ kvs, H p = some (.dT kvs))) ∨ (T = "set" ∧ ∃ S n, H p = some (.set S n))
  | _ => False
theorem tyV_is {pins : List (Addr × Obj)} {σ : St} {H : Hp} {s : Shared} {T : String} {x : V} {v : Value} (I : Inv X pins σ H s) (r : RelV x v) (ty : tyV X.K T x H) :
    s.TypeIs v T ∧ ∀ a, v = .ref a → ∃ ob, s.heap.get? a = some ob ∧ ob.dict = none := by
  cases x with
  | str z =>
    obtain ⟨t, rfl⟩ := r
    cases (show T = "str" from ty)
    exact ⟨typeIs_str s z t, fun _ e => nomatch e⟩
  | int i =>
    obtain ⟨t, rfl⟩ := r
    cases (show T = "int" from ty)
    exact ⟨typeIs_int s i t, fun _ e => nomatch e⟩
  | ref p =>
    cases r
    rcases ty with ⟨rfl, xs, hq⟩ | ⟨rfl, o, hk, hc, hd⟩ | ⟨rfl, hk⟩ | ⟨rfl, S, n, hk⟩
    · obtain ⟨its, _, pl, _⟩ := I.list hq
      refine ⟨pl.isList.typeIs, fun a e => ?_⟩
      cases e
      obtain ⟨o, n, e, c, hd, _⟩ := pl
      exact ⟨o, e, hd⟩
    · refine ⟨⟨o, I.kIn p o hk, hc⟩, fun a e => ?_⟩
      cases e
      exact ⟨o, I.kIn _ o hk, hd⟩
    · have z : ∃ o, s.heap.get? p = some o ∧ o.ExactDict := by
        rcases hk with ⟨kvs, hk⟩ | ⟨kvs, hk⟩
        · obtain ⟨_, _, _, _, o, _, _, e, ex, _⟩ := I.hok p _ hk
          exact ⟨o, e, ex⟩
        · obtain ⟨_, _, _, _, o, _, _, e, ex, _⟩ := I.hok p _ hk
          exact ⟨o, e, ex⟩
      obtain ⟨o, e, ex⟩ := z
      refine ⟨⟨o, e, ex.1⟩, fun a e2 => ?_⟩
      cases e2
      exact ⟨o, e, ex.2.1⟩
    · obtain ⟨o, _, _, _, e, ex, _⟩ := I.hok p _ hk
      refine ⟨⟨o, e, ex.1⟩, fun a e2 => ?_⟩
      cases e2
      exact ⟨o, e, ex.2.1⟩
  | _ => exact False.elim ty
def tBM (K : PySem.W.Frag) (T : String) (r : V → List V → Hp → VK → Prop) (to : TE) (t : TA) : TE := fun σ H Q => to σ H fun x H1 => tyV K T x H1 ∧ t σ H1 fun xs H2 => r x xs H2 Q
variable {o e : Expr} {es : List Expr} {to : TE} {t : TA} {name : Str} {apos cpos : Pos} {T id : String} {r : V → List V → Hp → VK → Prop}
theorem pe_bm (pa : PlainAttrs T) (slot : Slot T name id) (hty : typeOf (.builtin id) = pure (.type "method_descriptor")) (hm : MtR X id r) (ho : PE X o to) (ha : PA X (e :: es) t)
    (hbase : attributeBase o name X.env (eval o X.env) = eval o X.env := by rfl)
    (hfew : ((backTo cpos (starEach (e :: es) X.env)).all (fun x => !x.1) && (backToKw cpos (keywordEach [] X.env)).all (fun x => x.1.isSome)
      && decide ((e :: es).length + ([] : List Keyword).length + (if ([] : List Keyword).isEmpty then 0 else 1) < 30)) = true := by rfl)
    (hline : (apos.endLine == cpos.line) = true := by rfl) (hs : starEach (e :: es) X.env = (false, eval e X.env) :: starEach es X.env := by rfl) (hplain : (backTo cpos (starEach es X.env)).any (·.1) = false := by rfl) :
    PE X (.Call (.Attribute o name apos) (e :: es) [] cpos) (tBM X.K T r to t) := by
  intro pins s σ H Q I h
  refine wpAny_Call_method_late hbase hfew hline rfl (thn (ho pins s σ H _ I h) fun v s1 ⟨x, H1, I1, r1, ty, q1⟩ => ?_)
  obtain ⟨h1, h2⟩ := tyV_is I1 r1 ty
  refine ⟨T, id, pa, slot, hty, h1, h2, ?_⟩
  have hA := ha cpos pins s1 σ H1 _ I1 q1
  rw [hs] at hA ⊢
  refine Calls.callWith_builtin (by show (false || (backTo cpos (starEach es X.env)).any (·.1)) = false; rw [hplain] <;> rfl) (Calls.evalArgs_plain ?_)
  exact thn hA fun us s2 ⟨vs, H2, I2, r2, q2⟩ => hm pins s2 σ H2 x vs v us Q I2 r1 r2 q2
/- xs.append(e), list.index on a module's tuple .. are MtR facts of 06m -/
end
end L2

namespace L2
open PySem PySem.Spec PyProof.Rows

def MtM (X : Cx) (id : String) (r : V → List V → Hp → VK → Prop) : Prop :=
  ∀ (pins : List (Addr × Obj)) (s : Shared) (σ : St) (H : Hp) (x : V) (xs : List V) (v : Value) (us : List Value) (Q : VK), Inv X pins σ H s → RelV x v → Vals xs us → r x xs H Q →
    wpAny (model X.prog X.w) X.A (call (.builtin id) (v :: us)) (EP X pins σ Q) X.xe s

/-! ### lists of values -/
theorem Vals.one : ∀ {x : V} {us : List Value}, Vals [x] us → ∃ u, us = [u] ∧ RelV x u
  | _, _, .cons r .nil => ⟨_, rfl, r⟩
theorem Vals.two : ∀ {x y : V} {us : List Value}, Vals [x, y] us → ∃ u v, us = [u, v] ∧ RelV x u ∧ RelV y v
  | _, _, _, .cons r (.cons q .nil) => ⟨_, _, rfl, r, q⟩
theorem Vals.zero : ∀ {us : List Value}, Vals [] us → us = []
  | _, .nil => rfl
theorem Vals.dropLast {xs : List V} {us : List Value} (h : Vals xs us) : Vals xs.dropLast us.dropLast := by
  induction h with
  | nil => exact .nil
  | cons r t ih =>
    cases t with
    | nil => exact .nil
    | cons q t' => exact .cons r ih
theorem Vals.eraseIdx : ∀ {xs : List V} {us : List Value} (i : Nat), Vals xs us → Vals (xs.eraseIdx i) (us.eraseIdx i)
  | _, _, _, .nil => .nil
  | _, _, 0, .cons _ t => t
  | _, _, i + 1, .cons r t => .cons r (Vals.eraseIdx i t)
theorem Vals.reverse {xs : List V} {us : List Value} (h : Vals xs us) : Vals xs.reverse us.reverse := by
  induction h with
  | nil => exact .nil
  | cons r t ih => rw [List.reverse_cons, List.reverse_cons]; exact Vals.append ih (.cons r .nil)
theorem len_erase {α : Type} : ∀ (l : List α) (i : Nat), (l.eraseIdx i).length ≤ l.length
  | [], _ => Nat.le_refl _
  | _ :: _, 0 => Nat.le_succ _
  | _ :: r, i + 1 => Nat.succ_le_succ (len_erase r i)

section
variable {X : Cx} {pins : List (Addr × Obj)} {σ : St} {H : Hp} {s : Shared} {l b : Addr} {xs ys zs : List V}

/-! ### the two steps: a tracked list is rewritten, a new list is laid -/
theorem Inv.lset {its its' : List Value} {n : Nat} {f : Array Value → Array Value} {t' : Nat} (I : Inv X pins σ H s) (hH : H l = some (.lst xs))
    (e : s.heap.get? l = some { cls := .type "list", data := .seq its.toArray n }) (hf : f its.toArray = its'.toArray) (hv : Vals ys its') (hz : ys.length ≤ sizeLine) :
    Inv X pins σ (upd H l (.lst ys)) { s with heap := s.heap.update l (Obj.mapSeq f), toks := t' } := by
  have q := PySem.IsL.update e f
  rw [hf] at q
  refine I.write (x := l) (e := l) (by rw [hH]; exact trivial) (.inl rfl) (fun b' u hb hu => (Heap.get?_update_other s.heap (Obj.mapSeq f) (Ne.symm hb)).trans hu) ⟨_, q⟩ ?_
  exact ⟨hz, its', _, hv, q⟩
theorem Inv.lnew {its : List Value} {t' : Nat} (I : Inv X pins σ H s) (hv : Vals ys its) (hz : ys.length ≤ sizeLine) :
    Inv X pins σ (upd H s.heap.objs.size (.lst ys)) { s with heap := s.heap.push { cls := .type "list", data := .seq its.toArray }, toks := t' } :=
  I.laid (fun _ _ q => Heap.get?_push_of_some _ q) (Nat.le_refl _) ⟨hz, its, 0, hv, Heap.get?_push_size _ rfl⟩
theorem Inv.fresh (I : Inv X pins σ H s) : H s.heap.objs.size = none := I.hok.fresh (Nat.le_refl _)
theorem Inv.lstM (I : Inv X pins σ H s) (hH : H l = some (.lst xs)) : xs.length ≤ sizeLine ∧ ∃ (its : List Value) (n : Nat), Vals xs its ∧ xs.length = its.length ∧ s.heap.get? l = some { cls := .type "list", data := .seq its.toArray n } := by
  obtain ⟨z, its, n, r, e⟩ := I.hok l _ hH
  exact ⟨z, its, n, r, r.length, e⟩

end

section
variable {X : Cx}

/-! ### methods -/
def rAppend : V → List V → Hp → VK → Prop := fun x vs H Q => ∃ l xs y, x = .ref l ∧ vs = [y] ∧ H l = some (.lst xs) ∧ xs.length < sizeLine ∧ Q .non (upd H l (.lst (xs ++ [y])))
theorem mt_append : MtM X "list.append" rAppend := by
  intro pins s σ H x vs v us Q I rx rv h
  obtain ⟨l, xs, y, rfl, rfl, hH, hz, q⟩ := h
  cases rx
  obtain ⟨u, rfl, ru⟩ := rv.one
  obtain ⟨z, its, n, r, hl, e⟩ := I.lstM hH
  refine call_meets F.slot_list_append ⟨_, e, rfl⟩ F.entry_list_append (F.args_list_append_2 _ _) (PySem.list_append l its.toArray n u (by rw [List.size_toArray]; omega)) ⟨e, ?_⟩
  refine ⟨.non, _, I.lset (its' := its ++ [u]) hH e (by simp) (r.append (.cons ru .nil)) ?_, rfl, q⟩
  rw [List.length_append, List.length_singleton]
  omega



def rPopAt : V → List V → Hp → VK → Prop := fun x vs H Q => ∃ l xs i k y, x = .ref l ∧ vs = [.int i] ∧ H l = some (.lst xs) ∧ -(2 ^ 63) ≤ i ∧ i < 2 ^ 63 ∧ seqIndex? i xs.length = some k ∧ xs[k]? = some y ∧ Q y (upd H l (.lst (xs.eraseIdx k)))
theorem mt_popAt : MtM X "list.pop" rPopAt := by
  intro pins s σ H x vs v us Q I rx rv h
  obtain ⟨l, xs, i, k, y, rfl, rfl, hH, h1, h2, hk, hy, q⟩ := h
  cases rx
  obtain ⟨u, rfl, ru⟩ := rv.one
  obtain ⟨t, rfl⟩ := ru
  obtain ⟨z, its, n, r, hl, e⟩ := I.lstM hH
  obtain ⟨w, hw, rw'⟩ := r.get hy
  refine call_meets F.slot_list_pop ⟨_, e, rfl⟩ F.entry_list_pop (F.args_list_pop_2 _ _)
    (MeetsSeq.list_pop_at l its.toArray n i t k w (fitsIndex_both h1 h2) (by rw [List.size_toArray, ← hl]; exact hk) (by rw [← Array.getElem?_toList]; exact hw) (by rw [List.size_toArray]; omega)) ⟨e, ?_⟩
  refine ⟨y, _, I.lset (its' := its.eraseIdx k) hH e ?_ (r.eraseIdx k) ?_, rw', q⟩
  · show its.toArray.eraseIdxIfInBounds k = (its.eraseIdx k).toArray
    rw [List.eraseIdxIfInBounds_toArray]
  · have := len_erase xs k
    omega



/-! ### list + list, list += list, list * int -/
def rCat : R2 := fun x y H Q => ∃ l b xs zs, x = .ref l ∧ y = .ref b ∧ H l = some (.lst xs) ∧ H b = some (.lst zs) ∧ xs.length + zs.length ≤ sizeLine ∧ ∀ p, H p = none → Q (.ref p) (upd H p (.lst (xs ++ zs)))
theorem op_cat : OpR X (binaryOp .Add) rCat := by
  intro pins s σ H x y v u Q I rx ry h
  obtain ⟨l, b, xs, zs, rfl, rfl, hH, hB, hz, q⟩ := h
  cases rx
  cases ry
  obtain ⟨z, its, n, r, hl, e⟩ := I.lstM hH
  obtain ⟨z2, its2, n2, r2, hl2, e2⟩ := I.lstM hB
  refine PySem.P.add_list e e2 ?_ (by rw [List.size_toArray, List.size_toArray]; omega)
  have ea : its.toArray ++ its2.toArray = (its ++ its2).toArray := by simp
  rw [ea]
  exact ⟨.ref _, _, I.lnew (t' := s.toks) (r.append r2) (by rw [List.length_append]; omega), rfl, q _ I.fresh⟩

/-! ### del xs[i] -/
end

/-! ### xs[a:b] = ys -/
section
variable {prog : Program} {w : World} {A : Around} {E : Value → Shared → Prop} {s : Shared}
set_option maxRecDepth 100000 in
end

section
variable {X : Cx}
end
end L2

namespace Att
open PySem PySem.W PySem.Calls PyProof.Rows

/-! ### the script -/
theorem ints_of_wellAll {P : Params} {h : Heap} : ∀ (ns : List Int) (vs : List Value), WellAll P h vs (ns.map WData.int) → IntsAre vs ns := by
  intro ns
  induction ns with
  | nil =>
    intro vs w
    rw [List.map_nil] at w
    cases w
    exact .nil
  | cons n ns ih =>
    intro vs w
    rw [List.map_cons] at w
    cases w with
    | cons a b =>
      cases a
      exact .cons _ _ (ih _ b)

theorem script_of {l : OpenLaw} {n : Nat} (hn : l.most = some n) {P : Params} {h : Heap} {args : List WData} {vals : List Value}
    (hpre : l.row.toRowW.claim.pre args = true) (hwl : WellAll P h vals args) :
    ∃ a vs ns, vals = [Value.ref a] ∧ args = [WData.list (ns.map WData.int)] ∧ h.get? a = some { cls := .type "list", data := .seq vs.toArray } ∧ IntsAre vs ns ∧ ns.length ≤ n := by
  have hsh : WShape.hasAll [] args [.list .int] = true := (pre_splitW hpre).1
  have hc : l.pre.holds [] { args := args } = true := (pre_splitW hpre).2
  obtain ⟨d, r, rfl, h1, h2⟩ := hasAllW_cons hsh
  obtain rfl := hasAllW_nil h2
  obtain ⟨xs, rfl, h3⟩ := hasW_list h1
  obtain ⟨ns, rfl⟩ := items_int h3
  have hlen : ns.length ≤ n := by
    unfold OpenLaw.pre at hc
    have h4 : (WTm.not (.lt (.lit (.int (n : Int))) (.len (.arg 0)))).holds [] { args := [.list (ns.map .int)] } = true := by
      have h4 := (holds_andW hc).1
      rw [hn] at h4
      exact h4
    have h5 := condW_of h4 (w_not (w_lt w_lit (w_len_list (w_arg rfl))))
    rw [List.length_map] at h5
    refine Nat.le_of_not_lt fun q => ?_
    have q' : (n : Int) < ((ns.length : Nat) : Int) := by omega
    first
      | (rw [decide_eq_true q'] at h5; exact absurd h5 (by decide))
      | (simp at h5; omega)
  cases hwl with
  | cons w1 w2 =>
    cases w2
    cases w1 with
    | list ho hall => exact ⟨_, _, ns, rfl, rfl, ho, ints_of_wellAll ns _ hall, hlen⟩

theorem post_true (l : OpenLaw) (args : List WData) : l.row.toRowW.claim.post args (.bool true) args = true :=
  postW_of (r := l.row.toRowW) (X := (true == true))
    (show WShape.has [] (.bool true) .bool = true by first | rfl | decide | simp [WShape.has, WShape.arms, WShape.armsAll])
    (show (WTm.eq .res (.lit (.bool true))).value [] { args := args, res := some (.bool true), after := args } = some (.bool (true == true)) from w_eq_bool (w_res rfl) w_lit) rfl

/-! ### the attachment: holds_open's last premise (the goal 'hc' behind k_head) from a wpAny of the law's body -/

/-- the same from a codeAny of the CALL (for a layer whose function contracts speak of calls) -/
theorem attach_call {l : OpenLaw} {n : Nat} {q : Program} {loose : List Str} {XP : (Str → Option Value) → Heap → Prop} {YP : World → Heap → Prop} {d : DefRec}
    (hn : l.most = some n) (hdf : d.params.defaults = [])
    (call : ∀ (w : World) (s₀ s₁ : Shared) (mg mb : Str → Option Value) (fa : Addr) (o : Obj) (pm cd doc : Value) (a : Addr) (vs : List Value) (ns : List Int),
      Ground q loose [] XP w s₀ mg mb s₁.heap → YP w s₁.heap →
      s₁.heap.get? fa = some o → o.data = .func (docDef d.name d.params d.body d.scope pm cd doc) → s₁.heap.CodeRec cd d.name → mg d.name = some (.ref fa) →
      s₁.heap.get? a = some { cls := .type "list", data := .seq vs.toArray } → IntsAre vs ns → ns.length ≤ n → s₁.gens = #[] →
      codeAny (model l.prog w) callerA (.call (.ref fa) ⟨[.ref a], []⟩) (fun r s' => r = .ok (.ret (.bool true)) ∧ OldK s₁.heap s'.heap ∧ s'.os = s₁.os ∧ AllBare s'.gens) s₁) :
    WalkO q loose XP YP l.row.toRowW d [] (fun f vs => PySem.call f vs) := by
  intro w s₀ s₁ mg mb G Y fa o pm cd doc dV kV ho hd hcd hD hmg hg args vals as hpre hlay hrd hwl hlo
  obtain rfl : dV = .none := Dflts.none hD hdf
  obtain rfl : kV = .none := Dflts.noKw hD
  obtain ⟨a, vs, ns, rfl, rfl, hobj, hints, hlen⟩ := script_of hn hpre hwl
  refine enter_call (codeAny_mono (call w s₀ s₁ mg mb fa o pm cd doc a vs ns G Y ho (fd_plain hd) hcd hmg hobj hints hlen hg) fun r s' hq => ?_)
  obtain ⟨rfl, h2, h3, h4⟩ := hq
  exact ⟨.inl ⟨.bool true, .bool true, [], rfl, fun _ => rfl, .bool true, post_true l _, fun _ => ⟨List.Pairwise.nil, fun _ hm => (nomatch hm)⟩⟩, h2, h3, h4⟩


/-! ### rules over ANY heap (no ledger) from facts about the written part K: the library's own take a ledger (News) for what they write -/
section
variable {prog : Program} {w : World} {A : Around} {E : Value → Shared → Prop} {s : Shared} {K : Frag}





/-! the whole heap as the ledger: makes every rule that writes through a ledger a rule over any heap -/
def ledger (h : Heap) (L d : Addr) : List (Addr × Obj) := (List.range h.objs.size).filterMap fun a => if a = L ∨ a = d then none else (h.get? a).map fun o => (a, o)

end
end Att

namespace L2
open PySem PySem.Spec PyProof.Rows

theorem vals_ints : ∀ {vs : List Value} {ns : List Int}, IntsAre vs ns → Vals (ns.map V.int) vs
  | _, _, .nil => .nil
  | _, _, .cons n t h => .cons ⟨t, rfl⟩ (vals_ints h)

/-- nothing is tracked but the script, known to the object (or it is an object of the module) -/
def Only (H : Hp) : Prop := ∀ b, H b = none ∨ ∃ o xs, H b = some (.frz o (.lst xs))

/-- THE HEAD: the law's promise, at the heap behind the top. F, the promise of the law's def, may use that base is part of the heap (so K.In base, base.Ns mainGlobals mg stand in Mod) -/
theorem law_call {P : Program} {w : World} {K : PySem.W.Frag} {mg mb : Str → Option Value} {CX : CXT} {k : Nat} {fa a : Addr} {fd : FuncData} {x : Str} {sp : Sp} {s₁ : Shared} {vs : List Value} {ns : List Int}
    (KX : K.In s₁.heap) (hns : s₁.heap.Ns mainGlobals mg) (hb : s₁.heap.Ns builtinsNs mb) (hbb : ∀ x : Str, x ≠ "__name__" → mb x = bootBuiltins x) (hlim : s₁.heap.NoLimit) (hg : s₁.gens = #[])
    (ha : s₁.heap.get? a = some { cls := .type "list", data := .seq vs.toArray }) (hi : IntsAre vs ns) (hl : ns.length ≤ sizeLine) (hr : Room k callerA)
    (F : ∀ base : Heap, K.In base → base.Ns mainGlobals mg → FnOk P w K mg base CX k fa fd [x] sp) (hbind : ∀ (s : Shared) (u : Value), BindsTo s fd ⟨[u], []⟩ [(x, u)])
    (hsp : ∀ H : Hp, Only H → SqL K H a (ns.map V.int) → sp [.ref a] H (fun v _ => v = .bl true) fun _ _ _ => False)
    (hCX : ∀ H e s', CX [] H s₁ (fun _ _ _ => False) e s' → False) :
    codeAny (model P w) callerA (.call (.ref fa) ⟨[.ref a], []⟩) (fun r s' => r = .ok (.ret (.bool true)) ∧ OldK s₁.heap s'.heap ∧ s'.os = s₁.os ∧ AllBare s'.gens) s₁ := by
  have rv := vals_ints hi
  have lenV := hi.length
  -- from an abstract heap in which nothing but the script may be tracked
  have core : ∀ H : Hp, Only H → SqL K H a (ns.map V.int) → HOk P w H s₁.heap → (∀ b, H b ≠ none → b = a) → (H a ≠ none → K.lookup a = none) →
      codeAny (model P w) callerA (.call (.ref fa) ⟨[.ref a], []⟩) (fun r s' => r = .ok (.ret (.bool true)) ∧ OldK s₁.heap s'.heap ∧ s'.os = s₁.os ∧ AllBare s'.gens) s₁ := by
    intro H hO hS hok hA hK
    have base_of : ∀ {b : Addr} {o : Obj}, s₁.heap.get? b = some o → H b = none → (hidT s₁.heap H).get? b = some o := fun e n => hidT_get e n
    have noA : ∀ {b : Addr} {o : Obj} {es : Array DictEntry} {ep : Nat}, s₁.heap.get? b = some o → o.data = .dict es ep → H b = none := fun {b o es ep} e d => by
      cases q : H b with
      | none => rfl
      | some u =>
        have e' : b = a := hA b (by rw [q]; simp)
        subst e'
        rw [ha] at e; cases e
        have d' : Data.seq vs.toArray _ = Data.dict es ep := d
        cases d'
    have nsK : ∀ {b : Addr} {m : Str → Option Value}, s₁.heap.Ns b m → (hidT s₁.heap H).Ns b m := fun {b m} ⟨o, es, ep, e, d, r⟩ => ⟨o, es, ep, base_of e (noA e d), d, r⟩
    have hKb : K.In (hidT s₁.heap H) := fun b o e => base_of (KX b o e) (by
      cases q : H b with
      | none => rfl
      | some u =>
        have e' : b = a := hA b (by rw [q]; simp)
        subst e'
        rw [hK (by rw [q]; simp)] at e; cases e)
    have hM : Mod K mg (hidT s₁.heap H) := ⟨hKb, nsK hns, ⟨mb, nsK hb, hbb⟩, let ⟨mc, h1, h2⟩ := hlim; ⟨mc, nsK h1, h2⟩⟩
    have e0 : Env0 P w K mg (hidT s₁.heap H) callerA [] s₁ H := ⟨rfl, hM, fun b o e => of_hidT e, Nat.le_of_eq (hidT_size _ _), trivial, fun b hb => absurd (show b ∈ ([] : List Addr) from hb) (by simp), hok, .of_eq hg⟩
    refine codeAny_mono ((F _ hKb (nsK hns)).run callerA [] s₁ H ⟨[.ref a], []⟩ [.ref a] [.ref a] _ _ hr e0 (hbind s₁ (.ref a)) (.cons rfl .nil) (hsp H hO hS)) fun r s' h => ?_
    cases r with
    | error e => exact (hCX H e s' h).elim
    | ok fl =>
      cases fl with
      | next => exact False.elim h
      | brk => exact False.elim h
      | cont => exact False.elim h
      | ret u =>
        obtain ⟨v, H', os, bare, un, hok', r', q⟩ := h
        have q' : v = .bl true := q
        subst q'
        obtain rfl : u = Value.bool true := r'
        refine ⟨rfl, OldK.of_keep fun b o e => ?_, os, bare⟩
        cases q : H b with
        | none => exact un.keep b o e q (by intro z; exact absurd (show b ∈ ([] : List Addr) from z) (by simp)) (by simp)
        | some u =>
          rcases hO b with z | ⟨ob, xs, z⟩
          · rw [q] at z; cases z
          · have z2 := un.frzs b ob _ z
            obtain ⟨e1, _⟩ := hok b _ z
            obtain ⟨e2, _⟩ := hok' b _ z2
            rw [e] at e1; cases e1
            exact e2
  cases hk : K.lookup a with
  | some o =>
    -- the script is one of the module's own objects
    have e := KX a o hk
    rw [ha] at e
    cases e
    refine core (fun _ => none) (fun _ => .inl rfl) (.inr ⟨_, vs.toArray, _, hk, rfl, rfl, rfl, by rw [List.size_toArray, lenV]; exact hl, by simpa using rv⟩) (fun b u z => by have z' : (none : Option HO) = some u := z; cases z') (fun b z => absurd rfl z) fun z => absurd rfl z
  | none =>
    refine core (fun b => if b = a then some (.frz { cls := .type "list", data := .seq vs.toArray } (.lst (ns.map V.int))) else none) (fun b => ?_) (.inl (.inr ⟨{ cls := .type "list", data := .seq vs.toArray }, if_pos rfl⟩)) (fun b u z => ?_) (fun b z => ?_) fun _ => hk
    · by_cases hb : b = a
      · exact .inr ⟨_, _, if_pos hb⟩
      · exact .inl (if_neg hb)
    · by_cases hb : b = a
      · have z' := (if_pos hb).symm.trans z
        cases z'
        subst hb
        exact ⟨ha, by rw [List.length_map]; exact hl, vs, _, rv, ha⟩
      · have z' := (if_neg hb).symm.trans z
        cases z'
    · by_cases hb : b = a
      · exact hb
      · exact absurd (if_neg hb) z
end L2

namespace L2
open PySem PySem.Spec PyProof.Rows

abbrev KOf {K : PySem.W.Frag} {h : Heap} (_ : K.In h) : PySem.W.Frag := K

/-- the goal that k_head leaves (case hc), from the law's promise. F gives the function object fd (K's own) once, then the promise over every base -/
theorem walk_of {l : PySem.W.OpenLaw} {n k : Nat} {q : Program} {loose : List Str} {XP : (Str → Option Value) → Heap → Prop} {YP : World → Heap → Prop} {d : DefRec} {K : Params → PySem.W.Frag} {CX : World → CXT} {sp : World → Sp} {x : Str}
    (hn : l.most = some n) (hn2 : n ≤ sizeLine) (hdf : d.params.defaults = []) (hr : Room k callerA)
    (hY : ∀ (w : World) (h : Heap), YP w h → (K w.params).In h)
    (F : ∀ (w : World) (mg : Str → Option Value) (fa : Addr) (h : Heap), (K w.params).In h → h.Ns mainGlobals mg → mg d.name = some (.ref fa) →
      ∃ fd : FuncData, (∀ (s : Shared) (u : Value), BindsTo s fd ⟨[u], []⟩ [(x, u)]) ∧
        ∀ base : Heap, (K w.params).In base → base.Ns mainGlobals mg → FnOk l.prog w (K w.params) mg base (CX w) k fa fd [x] (sp w))
    (hsp : ∀ (w : World) (H : Hp) (a : Addr) (ns : List Int), ns.length ≤ n → Only H → SqL (K w.params) H a (ns.map V.int) → sp w [.ref a] H (fun v _ => v = .bl true) fun _ _ _ => False)
    (hCX : ∀ (w : World) (H : Hp) (s : Shared) (e : Value) (s' : Shared), CX w [] H s (fun _ _ _ => False) e s' → False) :
    PySem.W.WalkO q loose XP YP l.row.toRowW d [] (fun f vs => PySem.call f vs) := by
  refine Att.attach_call hn hdf fun w s₀ s₁ mg mb fa o pm cd doc a vs ns G Y ho hd hcd hmg hobj hints hlen hg => ?_
  have KX := hY w _ Y
  obtain ⟨fd, hb, hF⟩ := F w mg fa _ KX G.T.g hmg
  exact law_call KX G.T.g G.T.b G.T.builtins G.T.nolimit hg hobj hints (Nat.le_trans hlen hn2) hr hF hb (fun H hO hS => hsp w H a ns hlen hO hS) fun H e s' => hCX w H s₁ e s'
end L2

/- THE LAST THEOREM (shape; LID, My.* are yours):
   My.Adr: a structure of the addresses that your layer names (classes, functions); My.Txt K t: a structure (Prop) of the equations over K;
   My.txt_mk : {K} {implicit addresses ..} (e1 : nsIn K mainGlobals "law" = some (some (.ref f))) (e2 : K.lookup f = some ⟨oc, od, .func (fnOf "law" "law" params body scope dV kV doc pm an cdv ct), sl⟩) (e3 : codeIn K cdv "law" = true) .. : ∃ t, My.Txt K t

set_option maxRecDepth 100000 in
set_option maxHeartbeats 0 in
theorem PySem.Challenge.cw_LID_holds : PySem.Challenge.rw_LID.Holds := by
  w_on; o_law; k_head; (case hw => w_witness2)
  k_fill
  refine L2.walk_of (l := PySem.Challenge.rw_LID) (n := 63) (k := 40) (x := "script") (CX := fun w => ..) (sp := fun _ => My.sp_law) rfl (by decide) rfl ⟨rfl, by decide, by decide⟩ (fun w h Y => PySem.W.kIn_of Y) ?F ?S ?C
  case F =>
    intro w mg fa h KX G hmg
    have T : ∃ t, My.Txt (L2.KOf KX) t := by
      dsimp only [L2.KOf]                          -- K must stand as «<heap const> w.params» for k_is
      refine' My.txt_mk ?e1 ?e2 ?e3 ..
      (case e1 => PySem.W.k_is)                    -- in the order: a name -> its address -> its object -> its parts
      (case e2 => PySem.W.k_is)
      ..
    obtain ⟨t, T⟩ := T
    have e0 := hmg.symm.trans (PySem.W.mg_of KX G T.law)
    cases e0                                       -- fa is the law's own address
    exact ⟨_, fun s u => .of_eq rfl, fun base kb nb => My.law_fn T kb nb⟩     -- if «.of_eq rfl» comes too early: refine' ⟨_, ?b, fun base kb nb => My.law_fn T kb nb⟩; exact fun s u => .of_eq rfl
  case S => exact fun w H a ns hl hO hS => ..
  case C => exact ..
(the tactic k_is has no namespace: write k_is) -/

/-! SHORT WORDS over the layer: a def of the text, its body, what a loop and a test want. -/
namespace L2
open PySem PySem.Spec PyProof.Rows

/-! ### the text by places -/
def defArgs (s : Stmt) : Arguments := match s with
  | .FunctionDef _ a _ _ _ _ _ _ _ _ => a
  | _ => { posonlyargs := [], args := [], vararg := none, kwonlyargs := [], kw_defaults := [], kwarg := none, defaults := [] }
def defBody (s : Stmt) : List Stmt := match s with
  | .FunctionDef _ _ b _ _ _ _ _ _ _ => b
  | _ => []
def defScope (s : Stmt) : Scope := match s with
  | .FunctionDef _ _ _ _ _ _ sc _ _ _ => sc
  | _ => { kind := .function, names := [], isGenerator := false, isCoroutine := false }

/-! ### no exception leaves a def -/
abbrev CX0 : CXT := fun _ _ _ _ _ _ => False
abbrev E0 : XK := fun _ _ _ => False
theorem pass0 {X : Cx} : Passes CX0 X E0 := fun _ _ _ _ _ _ _ h => h.elim

/-! ### a def (or method) of the text as it stands behind the top -/
structure Fun (K : PySem.W.Frag) (x qual : Str) (st : Stmt) (f : Addr) (fd : FuncData) : Prop where
  ex : ∃ (oc : Value) (od : Option Addr) (kV doc pm : Value) (an : Option Addr) (cdv ct : Value) (osl : Array (Option Value)),
    fd = PySem.W.fnOf x qual (defArgs st) (defBody st) (defScope st) .none kV doc pm an cdv ct ∧ K.lookup f = some ⟨oc, od, .func fd, osl⟩ ∧ PySem.W.codeIn K cdv qual = true
  kp : PySem.W.keepIn K (.ref f) = true
section
variable {P : Program} {w : World} {K : PySem.W.Frag} {mg : Str → Option Value} {base : Heap}
/-- THE RULE for a def: its body as a term of rules, and the reading of that term -/
theorem Fun.ok {x qual : Str} {st : Stmt} {f : Addr} {fd : FuncData} {N ps : List Str} {k : Nat} {sp : Sp} (F : Fun K x qual st f fd) (S : FnScope N ps (defScope st)) (len : ∀ vs H Q E, sp vs H Q E → vs.length = ps.length)
    (hbody : ∀ (cdv : Value) (A : Around) (outer : List Env) (s : Shared) (H : Hp) (vs : List V) (Q : VK) (E : XK), Room k (A.deeper (envOfC qual (defScope st) s.heap.objs.size f cdv)) → sp vs H Q E →
      ∃ t, PSs (cxOf CX0 P w K mg base N qual (defScope st) f cdv A outer s H E).nox (defBody st) t ∧ t { nx := fun _ H' => Q .non H', rt := Q } (start N vs) H) : FnOk P w K mg base CX0 (k + 1) f fd ps sp := by
  obtain ⟨oc, od, kV, doc, pm, an, cdv, ct, osl, rfl, lk, hcd⟩ := F.ex
  refine fn_of lk hcd S len fun A outer s H vs Q E hr hsp => ?_
  obtain ⟨t, h, q⟩ := hbody cdv A outer s H vs Q E hr hsp
  exact ⟨t, h.nox, q⟩
/-- how its arguments bind (no defaults): h is «fun _ _ _ _ _ _ us hl => match us, hl with | [_, _], _ => rfl», one _ a parameter -/
theorem Fun.binds {x qual : Str} {st : Stmt} {f : Addr} {fd : FuncData} {ps : List Str} (F : Fun K x qual st f fd)
    (h : ∀ (kV doc pm : Value) (an : Option Addr) (cdv ct : Value) (us : List Value), us.length = ps.length → bindArgs (PySem.W.fnOf x qual (defArgs st) (defBody st) (defScope st) .none kV doc pm an cdv ct) ⟨us, []⟩ = pure (ps.zip us)) : Binds K fd ps [] := by
  obtain ⟨oc, od, kV, doc, pm, an, cdv, ct, osl, rfl, lk, hcd⟩ := F.ex
  exact .all (h kV doc pm an cdv ct)
theorem fun_mk {x qual : Str} {st : Stmt} {f : Addr} {oc : Value} {od an : Option Addr} {osl : Array (Option Value)} {kV doc pm cdv ct : Value} (l : K.lookup f = some ⟨oc, od, .func (PySem.W.fnOf x qual (defArgs st) (defBody st) (defScope st) .none kV doc pm an cdv ct), osl⟩)
    (c : PySem.W.codeIn K cdv qual = true) (k : PySem.W.keepIn K (.ref f) = true) : Fun K x qual st f (PySem.W.fnOf x qual (defArgs st) (defBody st) (defScope st) .none kV doc pm an cdv ct) := ⟨⟨oc, od, kV, doc, pm, an, cdv, ct, osl, rfl, l, c⟩, k⟩
end
theorem hu_of {A : Around} {k : Nat} (hr : Room k A) : A.units + 1 < cLine := Nat.lt_of_le_of_lt (Nat.add_le_add_left (by decide : 1 ≤ 64) _) hr.units
theorem small1000 {n : Nat} (h : n ≤ 1000) : n < sizeLine := Nat.lt_of_le_of_lt h (by decide)

/-! ### expressions in short: the name that stands in the i-th slot -/
section
variable {X : Cx}
theorem pv (i : Nat) {x : Str} {pos : Pos} (hN : X.N[i]? = some x := by rfl) (hv : Vis X.env.scope x := by first | exact Or.inl rfl | exact Or.inr (Or.inl rfl) | exact Or.inr (Or.inr rfl)) (hd : (x == ("__debug__" : Str)) = false := by decide)
    (hcd : (x == ("__classdict__" : Str)) = false := by decide) : PE X (.Name x pos) (tVar i) := pe_var hN hv hd hcd
end

/-! ### tests -/
theorem iteF {A B : Prop} (h : B) : if false = true then A else B := by
  rw [if_neg Bool.false_ne_true]
  exact h
theorem iteT {A B : Prop} (h : A) : if true = true then A else B := by
  rw [if_pos rfl]
  exact h
theorem ite2 {c A B : Prop} [Decidable c] (h1 : c → A) (h2 : ¬ c → B) : if c then A else B := by
  by_cases h : c
  · rw [if_pos h]
    exact h1 h
  · rw [if_neg h]
    exact h2 h
theorem iteNS {c A B : Prop} [Decidable c] (hc : c) (h : B) : if (!decide c) = true then A else B := by
  rw [decide_eq_true hc]
  exact iteF h

/-! ### heaps -/
/-- all that was tracked is as it was -/
def Same (H H' : Hp) : Prop := ∀ b o, H b = some o → H' b = some o
theorem Same.refl (H : Hp) : Same H H := fun _ _ h => h
theorem Same.trans {H H1 H2 : Hp} (a : Same H H1) (b : Same H1 H2) : Same H H2 := fun c o h => b c o (a c o h)
theorem Same.free {H H' : Hp} (e : Same H H') {l : Addr} (h : H' l = Option.none) : H l = Option.none := by
  cases q : H l with
  | none => rfl
  | some o =>
    rw [e l o q] at h
    cases h
theorem Same.seq {K : PySem.W.Frag} {H H' : Hp} {a : Addr} {xs : List V} (e : Same H H') (h : SqL K H a xs) : SqL K H' a xs := by
  rcases h with (h | ⟨o, h⟩) | h
  · exact .inl (.inl (e _ _ h))
  · exact .inl (.inr ⟨o, e _ _ h⟩)
  · exact .inr h

end L2

set_option maxHeartbeats 4000000
namespace L2
open PySem PySem.Spec PyProof.Rows

/-! ### comprehensions -/
/-- what is asked of a comprehension's block: sc its names, outer the names around it, M the outer names that it may see (others hidden), x its own -/
def compOK (outer sc : Scope) (x : Str) (M N : List Str) : Bool :=
  decide (sc.kind = .function) && sc.names.all (fun y => decide (y.2 ≠ .cell)) && sc.names.all (fun y => decide (y.2 = .local → sc.names.lookup y.1 = some .local)) && decide (sc.names.lookup x = some .local) &&
  sc.names.all (fun y => decide (y.2 = .free → (outer.names.lookup y.1 = some .cell ∨ outer.names.lookup y.1 = some .free))) &&
  decide ((M ++ [x]).Nodup) && decide (M.length = N.length) && (M.zip N).all (fun p => decide (p.1 = p.2 ∨ sc.names.lookup p.1 = none)) && M.all (fun y => decide (sc.names.lookup y ≠ some .local))

theorem lookup_relabel {env : Env} : ∀ {names : List (Str × NameKind)} {x : Str} {k' : NameKind},
    (names.map fun (n, k) => if (k == NameKind.free && env.scope.kind == .function && env.kindOf n == some .cell) then (n, NameKind.cell) else (n, k)).lookup x = some k' →
    ∃ k, names.lookup x = some k ∧ (k' = k ∨ (k = .free ∧ k' = .cell))
  | [], _, _, h => by simp at h
  | (n, k) :: r, x, k', h => by
    have ih := @lookup_relabel env r x k'
    have h' : List.lookup x ((if (k == NameKind.free && env.scope.kind == .function && env.kindOf n == some .cell) = true then (n, NameKind.cell) else (n, k)) :: _) = some k' := h
    cases hx : x == n with
    | true =>
      by_cases hc : ((k == NameKind.free && env.scope.kind == .function && env.kindOf n == some .cell)) = true
      · rw [if_pos hc] at h'
        simp only [List.lookup_cons, hx] at h'
        refine ⟨k, by simp [List.lookup_cons, hx], .inr ⟨?_, (Option.some.inj h').symm⟩⟩
        simp only [Bool.and_eq_true, beq_iff_eq] at hc
        exact hc.1.1
      · rw [if_neg hc] at h'
        simp only [List.lookup_cons, hx] at h'
        exact ⟨k, by simp [List.lookup_cons, hx], .inl (Option.some.inj h').symm⟩
    | false =>
      have h'' : List.lookup x (r.map fun (n, k) => if (k == NameKind.free && env.scope.kind == .function && env.kindOf n == some .cell) then (n, NameKind.cell) else (n, k)) = some k' := by
        by_cases hc : ((k == NameKind.free && env.scope.kind == .function && env.kindOf n == some .cell)) = true
        · rw [if_pos hc] at h'; simp only [List.lookup_cons, hx] at h'; exact h'
        · rw [if_neg hc] at h'; simp only [List.lookup_cons, hx] at h'; exact h'
      obtain ⟨k0, a, b⟩ := ih h''
      exact ⟨k0, by simp only [List.lookup_cons, hx]; exact a, b⟩

theorem closure_go {env : Env} : ∀ (names : List (Str × NameKind)) (cs : List (Str × Addr)), (∀ y ∈ names, y.2 = .free → ∃ c, env.cells.lookup y.1 = some c) → (∀ y c, cs.lookup y = some c → env.cells.lookup y = some c) →
    ∃ cl, (forIn names cs fun (x : Str × NameKind) (r : List (Str × Addr)) => (if (x.2 == NameKind.free) = true then (do let a ← cellOf env x.1; pure (ForInStep.yield ((x.1, a) :: r))) else pure (ForInStep.yield r) : Sem _)) = pure cl ∧
      (∀ y c, cl.lookup y = some c → env.cells.lookup y = some c) ∧ (∀ y, ((∃ c, cs.lookup y = some c) ∨ (y, NameKind.free) ∈ names) → ∃ c, cl.lookup y = some c)
  | [], cs, _, hc => ⟨cs, rfl, hc, fun y h => by
      rcases h with h | h
      · exact h
      · cases h⟩
  | (n, k) :: r, cs, hf, hc => by
    by_cases hk : k = .free
    · subst hk
      obtain ⟨a, ha⟩ := hf (n, .free) List.mem_cons_self rfl
      have hc' : ∀ y c, List.lookup y ((n, a) :: cs) = some c → env.cells.lookup y = some c := fun y c e => by
        simp only [List.lookup_cons] at e
        split at e
        · rename_i q
          have q' : y = n := by simpa using q
          subst q'
          exact ha.trans e
        · exact hc y c e
      obtain ⟨cl, h1, h2, h3⟩ := closure_go r ((n, a) :: cs) (fun y hy => hf y (List.mem_cons_of_mem _ hy)) hc'
      refine ⟨cl, ?_, h2, fun y h => ?_⟩
      · rw [List.forIn_cons]
        show ((if (NameKind.free == NameKind.free) = true then (do let a ← cellOf env n; pure (ForInStep.yield ((n, a) :: cs))) else pure (ForInStep.yield cs) : Sem _) >>= _) = _
        rw [if_pos (by decide)]
        have e : cellOf env n = pure a := by unfold cellOf; rw [ha]
        rw [e]
        exact h1
      · refine h3 y ?_
        rcases h with ⟨c, h⟩ | h
        · left
          simp only [List.lookup_cons]
          split
          · exact ⟨_, rfl⟩
          · exact ⟨c, h⟩
        · rcases List.mem_cons.mp h with q | q
          · left
            cases q
            exact ⟨a, by simp [List.lookup_cons]⟩
          · exact .inr q
    · obtain ⟨cl, h1, h2, h3⟩ := closure_go r cs (fun y hy => hf y (List.mem_cons_of_mem _ hy)) hc
      refine ⟨cl, ?_, h2, fun y h => ?_⟩
      · rw [List.forIn_cons]
        show ((if (k == NameKind.free) = true then (do let a ← cellOf env n; pure (ForInStep.yield ((n, a) :: cs))) else pure (ForInStep.yield cs) : Sem _) >>= _) = _
        rw [if_neg (by simpa using hk)]
        exact h1
      · refine h3 y ?_
        rcases h with h | h
        · exact .inl h
        · rcases List.mem_cons.mp h with q | q
          · cases q; exact absurd rfl hk
          · exact .inr q

theorem closure_ok {env : Env} {scope : Scope} (hf : ∀ y ∈ scope.names, y.2 = .free → ∃ c, env.cells.lookup y.1 = some c) :
    ∃ cl, closureFor scope env = pure cl ∧ (∀ y c, cl.lookup y = some c → env.cells.lookup y = some c) ∧ (∀ y, (y, NameKind.free) ∈ scope.names → ∃ c, cl.lookup y = some c) := by
  obtain ⟨cl, h1, h2, h3⟩ := closure_go scope.names [] hf (fun y c e => by simp at e)
  refine ⟨cl, ?_, h2, fun y h => h3 y (.inr h)⟩
  unfold closureFor
  rw [← bind_pure (x := (pure cl : Sem _)), ← h1]

/-- a block's own: its cells, its frame, the state and the heap ahead of it, the iterator's records -/
structure CB where
  cl : List (Str × Addr)
  C : Addr
  s2 : Shared
  H2 : Hp
  fp : List Addr
/-- the block's context -/
def Cx.comp (X : Cx) (N' : List Str) (scope : Scope) (b : CB) : Cx where
  prog := X.prog
  w := X.w
  K := X.K
  mg := X.mg
  base := X.base
  A := X.A
  N := N'
  s₀ := b.s2
  H₀ := b.H2
  env := compEnvC scope b.cl b.C X.env
  outer := X.stack
  stack := X.stack
  ex := b.fp
  fn := fun _ => false
  calm := X.calm
  pn := []
  xe := fun _ _ => False

structure CompOK (outer sc : Scope) (x : Str) (M N : List Str) : Prop where
  kind : sc.kind = .function
  nocell : ∀ y ∈ sc.names, y.2 ≠ .cell
  loc : ∀ y ∈ sc.names, y.2 = .local → sc.names.lookup y.1 = some .local
  own : sc.names.lookup x = some .local
  free : ∀ y ∈ sc.names, y.2 = .free → (outer.names.lookup y.1 = some .cell ∨ outer.names.lookup y.1 = some .free)
  nd : (M ++ [x]).Nodup
  len : M.length = N.length
  same : ∀ p ∈ M.zip N, p.1 = p.2 ∨ sc.names.lookup p.1 = none
  noloc : ∀ y ∈ M, sc.names.lookup y ≠ some .local
theorem compOK_of {outer sc : Scope} {x : Str} {M N : List Str} (h : compOK outer sc x M N = true) : CompOK outer sc x M N := by
  unfold compOK at h
  simp only [Bool.and_eq_true, decide_eq_true_eq, List.all_eq_true] at h
  obtain ⟨⟨⟨⟨⟨⟨⟨⟨h1, h2⟩, h3⟩, h4⟩, h5⟩, h6⟩, h7⟩, h8⟩, h9⟩ := h
  exact ⟨h1, h2, h3, h4, h5, h6, h7, h8, h9⟩

section
variable {X : Cx} {pins : List (Addr × Obj)} {σ : St} {H2 : Hp} {s2 : Shared} {scope : Scope} {x : Str} {M : List Str} {cl : List (Str × Addr)} {fp : List Addr} {h1 : Heap} {t' : Nat}

/-- the block's entry -/
theorem Inv.comp (I : Inv X pins σ H2 s2) (K : CompOK X.env.scope scope x M X.N) (hcl : ∀ y c, cl.lookup y = some c → X.env.cells.lookup y = some c) (hcf : ∀ y, (y, NameKind.free) ∈ scope.names → ∃ c, cl.lookup y = some c)
    (hfp : ∀ b ∈ fp, FpOk X pins H2 b) (hlt : ∀ b ∈ fp, b < s2.heap.objs.size) (kp : ∀ b o, s2.heap.get? b = some o → h1.get? b = some o) (hD : h1.get? s2.heap.objs.size = some { cls := .type "list", dict := none, data := .seq ([] : List Value).toArray })
    (hC : h1.Ns (s2.heap.objs.size + 1) (fun _ => none)) :
    Inv (X.comp (M ++ [x]) scope ⟨cl, s2.heap.objs.size + 1, s2, H2, fp⟩) [] (σ ++ [none]) (upd H2 s2.heap.objs.size (.lst [])) { s2 with heap := h1, toks := t' } := by
  have cellLt : ∀ y c, cl.lookup y = some c → c < s2.heap.objs.size := fun y c e => by
    obtain ⟨v, z⟩ := I.cell y c (hcl y c e)
    exact z.lt
  have kindEq : ∀ y k', (compEnvC scope cl (s2.heap.objs.size + 1) X.env).kindOf y = some k' → ∃ k, scope.names.lookup y = some k ∧ (k' = k ∨ (k = .free ∧ k' = .cell)) := fun y k' e => lookup_relabel e
  have freeOf : ∀ y k', (compEnvC scope cl (s2.heap.objs.size + 1) X.env).kindOf y = some k' → (k' = .cell ∨ k' = .free) → (y, NameKind.free) ∈ scope.names := fun y k' e hk => by
    obtain ⟨k, e1, e2⟩ := kindEq y k' e
    have mem := PySem.mem_of_lookup e1
    have : k = .free := by
      rcases e2 with rfl | ⟨rfl, _⟩
      · rcases hk with rfl | rfl
        · exact absurd rfl (K.nocell _ mem)
        · rfl
      · rfl
    subst this
    exact mem
  have hDn : H2 s2.heap.objs.size = none := I.hok.fresh (Nat.le_refl _)
  refine ⟨⟨I.ok.mod, K.kind, I.ok.glob, I.ok.blt, Nat.le_succ _, fun y z c e1 e2 => I.ok.inj y z c (hcl y c e1) (hcl z c e2), fun y hy => ?_, fun y c hf _ => ?_, I.ok.hd, I.ok.frames, .inl rfl, fun b hb => ⟨Nat.ne_of_lt (Nat.lt_succ_of_lt (hlt b hb)), fun y c e => (hfp b hb).2.2.2.2.1 y c (hcl y c e)⟩,
    fun b o e => I.bs b o e, Nat.le_trans I.ok.bsz I.sz, fun b o e hb => ?_, fun b hb hf => ?_, I.stack, I.stkFree⟩, rfl, I.bare, Un.laid kp (Nat.le_refl _) hDn, ⟨_, hC, fun i y v e1 e2 e3 => ?_⟩, fun y c e => ?_, ?_, fun y c e => ?_, fun p hp => absurd (show p ∈ ([] : List (Addr × Obj)) from hp) (by simp), I.hok.laid kp (Nat.le_refl _) ?_, ?_⟩
  · rcases hy with hy | hy
    · exact hcf y (freeOf y _ hy (.inl rfl))
    · exact hcf y (freeOf y _ hy (.inr rfl))
  · exact absurd (show false = true from hf) Bool.false_ne_true
  · obtain ⟨f0, f1, f2, f3, f4, f5⟩ := hfp b hb
    rcases f3 with z | z
    · exact I.ok.noex b o e z
    · exact absurd (Nat.lt_of_lt_of_le (Heap.lt_size (I.ok.bs b o e).1) z) (Nat.lt_irrefl _)
  · obtain ⟨f0, f1, f2, f3, f4, f5⟩ := hfp b hb
    rcases List.mem_cons.mp (I.stkSub b hf) with z | z
    · exact f1 z
    · exact f2 z
  · -- names
    have hi : i < σ.length := by
      by_cases hi : i < σ.length
      · exact hi
      · have hz : (σ ++ [none])[i]? = some (some v) := e2
        rw [List.getElem?_append_right (by omega)] at hz
        by_cases hq : i - σ.length = 0
        · rw [hq] at hz; cases hz
        · rw [List.getElem?_eq_none (by simp; omega)] at hz; cases hz
    have e2' : σ[i]? = some (some v) := by
      have hz : (σ ++ [none])[i]? = some (some v) := e2
      rw [List.getElem?_append_left hi] at hz
      exact hz
    have hiM : i < M.length := by rw [K.len, ← I.len]; exact hi
    have e1' : M[i]? = some y := by
      have hz : (M ++ [x])[i]? = some y := e1
      rw [List.getElem?_append_left hiM] at hz
      exact hz
    have hyM : y ∈ M := List.mem_of_getElem? e1'
    have e3' : ∃ k', (compEnvC scope cl (s2.heap.objs.size + 1) X.env).kindOf y = some k' ∧ (k' = .cell ∨ k' = .free) := by
      rcases e3 with z | z | z
      · obtain ⟨k, a, b⟩ := kindEq y _ z
        rcases b with b | ⟨_, b⟩
        · subst b; exact absurd a (K.noloc y hyM)
        · cases b
      · exact ⟨_, z, .inl rfl⟩
      · exact ⟨_, z, .inr rfl⟩
    obtain ⟨k', ek, hk⟩ := e3'
    have mem := freeOf y k' ek hk
    obtain ⟨k0, a0, _⟩ := kindEq y k' ek
    have hiN : i < X.N.length := by rw [← K.len]; exact hiM
    have eN : X.N[i]? = some y := by
      have hz : (M[i], X.N[i]) ∈ M.zip X.N := by
        rw [List.mem_iff_getElem?]
        exact ⟨i, List.getElem?_zip_eq_some.mpr ⟨List.getElem?_eq_getElem hiM, List.getElem?_eq_getElem hiN⟩⟩
      have eM : M[i] = y := by
        rw [List.getElem?_eq_getElem hiM] at e1'
        exact Option.some.inj e1'
      rcases K.same _ hz with q | q
      · rw [List.getElem?_eq_getElem hiN]
        have q' : M[i] = X.N[i] := q
        rw [← q', eM]
      · have q' : scope.names.lookup M[i] = none := q
        rw [eM, a0] at q'
        cases q'
    have hv := K.free _ mem rfl
    obtain ⟨m, hn, hl⟩ := I.loc
    obtain ⟨u, r, l⟩ := hl i y v eN e2' (hv.elim (fun z => .inr (.inl z)) (fun z => .inr (.inr z)))
    refine ⟨u, r, .inr ⟨?_, ?_⟩⟩
    · rcases hk with rfl | rfl
      · exact .inl ek
      · exact .inr ek
    · obtain ⟨c, ec⟩ := hcf y mem
      refine ⟨c, ec, ?_⟩
      rcases l with ⟨z, _⟩ | ⟨_, c', ec', cc⟩
      · have z' : X.env.scope.names.lookup y = some .local := z
        rcases hv with q | q <;> (rw [z'] at q; cases q)
      · have := (hcl y c ec).symm.trans ec'
        cases this
        obtain ⟨o, ho, hd⟩ := cc
        exact ⟨o, kp _ o ho, hd⟩
  · obtain ⟨v, o, ho, hd⟩ := I.cell y c (hcl y c e)
    exact ⟨v, o, kp _ o ho, hd⟩
  · show upd H2 s2.heap.objs.size (.lst []) (s2.heap.objs.size + 1) = none
    rw [upd_ne (Nat.succ_ne_self _)]
    exact I.hok.fresh (Nat.le_succ _)
  · rw [upd_ne (Nat.ne_of_lt (cellLt y c e))]
    exact I.freeC y c (hcl y c e)
  · exact ⟨Nat.zero_le _, [], _, .nil, hD⟩
  · show (σ ++ [none]).length = (M ++ [x]).length
    simp [I.len, K.len]
end
end L2

namespace L2
open PySem PySem.Spec PyProof.Rows

/-- the loop of a list comprehension of one clause -/
theorem comp_loop {prog : Program} {w : World} {A : Around} {R : Result → Shared → Prop} {s : Shared} {elt target iter : Expr} {ifs : List Expr} {scope : Scope} {pos : Pos} {it acc : Value} {env : Env} (I : Nat → Shared → Prop)
    (onward : ∀ n s, I n s → wpAny (model prog w) A (pyNext it) (fun r za => match r with
      | none => R (.ok .next) za
      | some v => wpAny (model prog w) A (letOwnedTupleGo target it v) (fun _ zb => wpAny (model prog w) A (assign target env v) (fun _ zc =>
          wpAny (model prog w) A (forIn ifs true fun c r => if r = true then do let ok ← isTrue c env (eval c env); pure (ForInStep.yield ok) else pure (ForInStep.yield r)) (fun ok zd =>
            if ok = true then wpAny (model prog w) A (eval elt env) (fun x ze =>
              wpAny (model prog w) A (call (.builtin "list.append") [acc, x]) (fun _ zf => ∃ m, m < n ∧ I m zf) (fun _ _ => False) ze) (fun _ _ => False) zd
            else ∃ m, m < n ∧ I m zd) (fun _ _ => False) zc) (fun _ _ => False) zb) (fun _ _ => False) za) (fun _ _ => False) s)
    (n : Nat) (h : I n s) :
    codeAny (model prog w) A (.compLoop (.ListComp elt [⟨target, iter, ifs, 0⟩] scope pos) 0 it acc env) R s :=
  by
  refine codeAny_loop rfl I (fun n s hJ => ?_) n h
  show wpAny _ A ((compTurn (.ListComp elt [⟨target, iter, ifs, 0⟩] scope pos) 0 it acc env).onRaise (fun ex =>  do noteFrame ex env; theTreesLotGoes ex)) _ _ s
  refine wpAny_noted (wpAny_mono (E := fun _ _ => False) ?_ (fun _ _ q => q) fun _ _ z => z.elim)
  rw [compTurn_list]
  refine wpAny_bind (wpAny_standAt (wpAny_bind (wpAny_mono (onward n s hJ) (fun r za ya => ?_) fun _ _ u => u)))
  cases r with
  | none => exact wpAny_pure ya
  | some v =>
    refine wpAny_bind (wpAny_mono ya (fun _ zb yb => ?_) fun _ _ u => u)
    refine wpAny_bind (wpAny_mono yb (fun _ zc yc => wpAny_bind (wpAny_mono yc (fun ok zd yd => ?_) fun _ _ u => u)) fun _ _ u => u)
    cases ok with
    | false => exact wpAny_pure ⟨rfl, yd⟩
    | true =>
      exact wpAny_bind (wpAny_bind (wpAny_mono yd (fun x ze ye => wpAny_bind (wpAny_mono ye (fun _ zf yf => wpAny_pure (wpAny_pure ⟨rfl, yf⟩)) fun _ _ u => u)) fun _ _ u => u))

/-- the tests of a clause -/
def PIfs (X : Cx) (ifs : List Expr) (t : TT) : Prop :=
  ∀ (pins : List (Addr × Obj)) (s : Shared) (σ : St) (H : Hp) (Q : Bool → Hp → Prop), Inv X pins σ H s → t σ H Q →
    wpAny (model X.prog X.w) X.A (forIn ifs true fun c r => if r = true then do let ok ← isTrue c X.env (eval c X.env); pure (ForInStep.yield ok) else pure (ForInStep.yield r)) (TP X pins σ Q) X.xe s
def tNoIf : TT := fun _ H Q => Q true H
theorem pif_nil {X : Cx} : PIfs X [] tNoIf := fun pins s σ H Q I h => wpAny_tests_nil ⟨H, I, h⟩
theorem pif_one {X : Cx} {c : Expr} {t : TT} (h : PT X c t) : PIfs X [c] t := fun pins s σ H Q I q => wpAny_tests_one (h pins s σ H Q I q)

/-- [elt for x in iter if ..]: D is the list that is made -/
def tComp (wi : TI) (tc : CB → TT) (te : CB → TE) : TE := fun σ H Q => wi σ H fun J H1 => ∀ D, H1 D = none → ∀ b : CB, ∃ W : Nat → Nat → List V → Hp → Prop, (∃ m, W 0 m [] (upd H1 D (.lst []))) ∧
  ∀ i m ys H, W i m ys H → (J.stop i H ∧ Q (.ref D) H) ∨ (J.go i H ∧ ys.length < sizeLine ∧ ∃ N : List V → Hp → Prop, (∀ ys' H', N ys' H' → ∃ m', m' < m ∧ W (i + 1) m' ys' H') ∧ ∀ x H', J.yld i H x H' → tc b (σ ++ [some x]) H' fun ok H2 =>
    if ok = true then te b (σ ++ [some x]) H2 fun v H3 => H3 D = some (.lst ys) ∧ N (ys ++ [v]) (upd H3 D (.lst (ys ++ [v]))) else N ys H2)

theorem append_call {X : Cx} {pins : List (Addr × Obj)} {σ : St} {H : Hp} {s : Shared} {D : Addr} {ys : List V} {v : V} {u : Value} {E : Value → Shared → Prop} (I : Inv X pins σ H s) (hD : H D = some (.lst ys)) (hz : ys.length < sizeLine) (r : RelV v u) :
    wpAny (model X.prog X.w) X.A (call (.builtin "list.append") [.ref D, u]) (fun _ s' => Inv X pins σ (upd H D (.lst (ys ++ [v]))) s') E s := by
  obtain ⟨z, its, n, rv, hl, e⟩ := I.lstM hD
  refine call_meets F.slot_list_append ⟨_, e, rfl⟩ F.entry_list_append (F.args_list_append_2 _ _) (PySem.list_append D its.toArray n u (by rw [List.size_toArray]; omega)) ⟨e, ?_⟩
  refine I.lset (its' := its ++ [u]) hD e (by simp) (rv.append (.cons r .nil)) ?_
  rw [List.length_append, List.length_singleton]
  omega

theorem SameBut.unC {H H' : Hp} {fs ex : List Addr} {h h1 h2 : Heap} {C : Addr} (u : Un fs ex H H' h h1) (sb : Heap.SameBut C h1 h2) (hC : h.objs.size ≤ C) : Un fs ex H H' h h2 := by
  have ne : ∀ b o, h.get? b = some o → b ≠ C := fun b o e z => by subst z; exact absurd (Nat.lt_of_lt_of_le (Heap.lt_size e) hC) (Nat.lt_irrefl _)
  refine ⟨fun b o e n hb hx => (sb.2 b (ne b o e)).trans (u.keep b o e n hb hx), fun b o e n hb hx => ?_, u.free, fun b o e hx => ?_, u.tups, u.frzs, u.tbls⟩
  · obtain ⟨sl, q⟩ := u.slot b o e n hb hx
    exact ⟨sl, (sb.2 b (ne b o e)).trans q⟩
  · obtain ⟨o', q⟩ := u.there b o e hx
    exact ⟨o', (sb.2 b (ne b o e)).trans q⟩
theorem SameBut.hokC {P : Program} {w : World} {H : Hp} {h1 h2 : Heap} {C : Addr} (ok : HOk P w H h1) (sb : Heap.SameBut C h1 h2) (hn : H C = none) : HOk P w H h2 := fun b ob e => by
  refine (ok b ob e).stay (fun c w' hc q => (sb.2 c ?_).trans q) (fun _ q => q) fun _ _ q => q
  rintro rfl
  rcases hc with rfl | hc
  · rw [hn] at e; cases e
  · rw [hn] at hc; cases hc

theorem comp_core {X : Cx} {iter elt : Expr} {ifs : List Expr} {x : Str} {px pos pos0 : Pos} {scope : Scope} (M : List Str) {wi : TI} {tc : CB → TT} {te : CB → TE} {use : Option (Value → Sem Unit)} {R : Value → Shared → Prop}
    {pins : List (Addr × Obj)} {s : Shared} {σ : St} {H : Hp} {Q : VK} (I : Inv X pins σ H s) (h : tComp wi tc te σ H Q)
    (hfin : ∀ (D C : Addr) (m : Str → Option Value) (s' : Shared) (H' : Hp), s'.heap.Ns C m → FpOk X pins H' C → (∀ h', Heap.SameBut C s'.heap h' → Inv X pins σ H' { s' with heap := h' }) → Q (.ref D) H' → compPost (model X.prog X.w) X.A X.xe use R (.ref D) C (.ok .next) s')
    (hc : X.calm = true) (hi : PI X (.Name x px) iter wi)
    (hif : ∀ b : CB, PIfs (X.comp (M ++ [x]) scope b) ifs (tc b)) (he : ∀ b : CB, PE (X.comp (M ++ [x]) scope b) elt (te b))
    (ok : compOK X.env.scope scope x M X.N = true := by kernel_rfl)
    (hs : ∀ x, foldedSetIterable iter X.env x = pure x := by intro _; rfl) :
    wpAny (model X.prog X.w) X.A (comprehension (.ListComp elt [⟨.Name x px, iter, ifs, 0⟩] scope pos) scope X.env pos0 (newList []) false (eval iter X.env) use) R X.xe s := by
  have K := compOK_of ok
  obtain ⟨cl, hclos, hcl, hcf⟩ := closure_ok (env := X.env) (scope := scope) fun y hy hk => I.ok.has y.1 (K.free y hy hk)
  refine wpAny_comprehension_free (use := use) rfl hs hclos K.kind K.loc ?_
  refine thn (hi pins s σ H _ I h) fun v s1 h1 => thn h1 fun itv s2 h2 => ?_
  obtain ⟨it, fp, tn, J, H2, rfl, I2, T, st2, f2, hq⟩ := h2
  refine wpAny_newObj_type (wpAny_newFunctionEnv K.nocell (by intro y hy; simp at hy) (fun h₁ hns₁ hsb₁ => ?_) K.kind)
  dsimp only at hns₁ hsb₁ ⊢
  have hsize : (s2.heap.push { cls := .type "list", dict := none, data := .seq ([] : List Value).toArray }).objs.size = s2.heap.objs.size + 1 := Heap.size_push ..
  rw [hsize] at hns₁ hsb₁
  have ltD : s2.heap.objs.size ≠ s2.heap.objs.size + 1 := Nat.ne_of_lt (Nat.lt_succ_self _)
  have kp : ∀ b o, s2.heap.get? b = some o → h₁.get? b = some o := fun b o e => hsb₁.extBut b o (Nat.ne_of_lt (Nat.lt_succ_of_lt (Heap.lt_size e))) (Heap.get?_push_of_some _ (Heap.get?_push_of_some _ e))
  have hD : h₁.get? s2.heap.objs.size = some { cls := .type "list", dict := none, data := .seq ([] : List Value).toArray } := hsb₁.extBut _ _ ltD (Heap.get?_push_of_some _ (Heap.get?_push_size _ rfl))
  have hlt : ∀ b ∈ fp, b < s2.heap.objs.size := fun b hb => let ⟨o, e, _⟩ := T.obj _ _ st2 b hb; Heap.lt_size e
  have I3 := I2.comp (t' := s2.toks + ([] : List (Str × Value)).length) K hcl hcf f2 hlt kp hD hns₁
  obtain ⟨W, ⟨m0, w0⟩, step⟩ := hq s2.heap.objs.size (I2.hok.fresh (Nat.le_refl _)) ⟨cl, s2.heap.objs.size + 1, s2, H2, fp⟩
  have st3 : tn 0 h₁ := T.keep _ _ _ st2 fun b _ o e => kp b o e
  have fr3 : ∀ b ∈ fp, (upd H2 s2.heap.objs.size (.lst [])) b = none := fun b hb => by rw [upd_ne (Nat.ne_of_lt (hlt b hb))]; exact (f2 b hb).1
  -- what the block's end gives
  have fin : ∀ (s' : Shared) (σ' : St) (H' : Hp), Inv (X.comp (M ++ [x]) scope ⟨cl, s2.heap.objs.size + 1, s2, H2, fp⟩) [] σ' H' s' → Q (.ref s2.heap.objs.size) H' →
      compPost (model X.prog X.w) X.A X.xe use R (.ref s2.heap.objs.size) (s2.heap.objs.size + 1) (.ok .next) s' := fun s' σ' H' J' q => by
    obtain ⟨m, hn, _⟩ := id J'.loc
    have hC : H' (s2.heap.objs.size + 1) = none := J'.free
    refine hfin _ _ m s' H' hn (I2.fpOk (Nat.le_succ _) hC) (fun h' sb => ?_) q
    exact I2.call' (ch := fp) (show s'.os = s2.os from J'.os) (SameBut.unC J'.base sb (Nat.le_succ _)) (SameBut.hokC J'.hok sb hC) J'.bare fun b hb => by
      obtain ⟨f0, f1, f2', f3, f4, f5⟩ := f2 b hb
      exact ⟨f3, f1, f4, f5⟩
  have stat : ∀ {H' : Hp}, (∀ b ∈ fp, H' b = none) → ∀ b ∈ fp, FpOk (X.comp (M ++ [x]) scope ⟨cl, s2.heap.objs.size + 1, s2, H2, fp⟩) [] H' b := fun hn b hb => by
    obtain ⟨f0, f1, f2', f3, f4, f5⟩ := f2 b hb
    refine ⟨hn b hb, Nat.ne_of_lt (Nat.lt_succ_of_lt (hlt b hb)), fun z => ?_, .inl hb, fun y c e => f4 y c (hcl y c e), fun p hp => absurd (show p ∈ ([] : List (Addr × Obj)) from hp) (by simp)⟩
    rcases List.mem_cons.mp (I2.stkSub b z) with z | z
    · exact f1 z
    · exact f2' z
  have len3 : σ.length = M.length := by rw [I.len, K.len]
  have loop : codeAny (model X.prog X.w) X.A (.compLoop (.ListComp elt [⟨.Name x px, iter, ifs, 0⟩] scope pos) 0 (.ref it) (.ref s2.heap.objs.size) (compEnvC scope cl (s2.heap.objs.size + 1) X.env))
      (compPost (model X.prog X.w) X.A X.xe use R (.ref s2.heap.objs.size) (s2.heap.objs.size + 1)) { s2 with heap := h₁, toks := s2.toks + ([] : List (Str × Value)).length } := by
    refine comp_loop (fun n s' => ∃ i ys H', Inv (X.comp (M ++ [x]) scope ⟨cl, s2.heap.objs.size + 1, s2, H2, fp⟩) [] (σ ++ [none]) H' s' ∧ tn i s'.heap ∧ (∀ b ∈ fp, H' b = none) ∧ W i n ys H') ?_ m0 ⟨0, [], _, I3, st3, fr3, w0⟩
    rintro n s4 ⟨i, ys, H4, I4, st4, fr4, w4⟩
    rcases step i n ys H4 w4 with ⟨stop, q⟩ | ⟨go, hz, N, hN, st⟩
    · refine wpAny_mono (T.done (X.comp (M ++ [x]) scope ⟨cl, s2.heap.objs.size + 1, s2, H2, fp⟩) rfl rfl rfl hc i [] s4 _ H4 (fun _ _ => False) I4 (stat fr4) st4 stop) (fun r s5 ⟨hr, I5⟩ => ?_) fun _ _ z => z
      subst hr
      exact fin s5 _ H4 I5 q
    · refine wpAny_mono (T.item (X.comp (M ++ [x]) scope ⟨cl, s2.heap.objs.size + 1, s2, H2, fp⟩) rfl rfl rfl hc i [] s4 _ H4 (fun _ _ => False) I4 (stat fr4) st4 go) (fun r s5 ⟨u, hr, h5⟩ => ?_) fun _ _ z => z
      subst hr
      refine wpAny_mono h5 (fun _ s6 ⟨xv, H6, I6, r6, y6, st6, fr6⟩ => ?_) fun _ _ z => z
      have I6' := I6.pinned (stat fr6) (T.obj _ _ st6)
      have hset : (σ ++ [none]).set σ.length (some xv) = σ ++ [some xv] := by simp
      have hNx : (X.comp (M ++ [x]) scope ⟨cl, s2.heap.objs.size + 1, s2, H2, fp⟩).N[σ.length]? = some x := by
        show (M ++ [x])[σ.length]? = some x
        rw [len3]; simp
      have hlx : (X.comp (M ++ [x]) scope ⟨cl, s2.heap.objs.size + 1, s2, H2, fp⟩).env.scope.names.lookup x = some .local := lookup_relabel_local K.own
      have PGx : PG (X.comp (M ++ [x]) scope ⟨cl, s2.heap.objs.size + 1, s2, H2, fp⟩) (.Name x px) (gName σ.length) := pg_name K.nd hNx (.inl hlx) (.inr hlx)
      refine wpAny_mono (PGx _ s6 _ H6 xv u (fun σ' H' => σ' = σ ++ [some xv] ∧ H' = H6) I6' r6 ⟨hset, rfl⟩) (fun _ s7 ⟨σ7, H7, I7, e7, e7'⟩ => ?_) fun _ _ z => z
      subst e7 e7'
      have again : ∀ {ys' : List V} {H8 : Hp} {s8 : Shared} {m : Nat}, Inv (X.comp (M ++ [x]) scope ⟨cl, s2.heap.objs.size + 1, s2, H2, fp⟩) ([] ++ pinsAt fp s6.heap) (σ ++ [some xv]) H8 s8 → m < n → W (i + 1) m ys' H8 →
          ∃ m, m < n ∧ ∃ i ys H', Inv (X.comp (M ++ [x]) scope ⟨cl, s2.heap.objs.size + 1, s2, H2, fp⟩) [] (σ ++ [none]) H' s8 ∧ tn i s8.heap ∧ (∀ b ∈ fp, H' b = none) ∧ W i m ys H' := fun {ys' H8 s8 m} I8 hm w8 => by
        refine ⟨m, hm, i + 1, ys', H8, (I8.unpinned).weak (by simp) (fun j v e => ?_), T.keep _ _ _ st6 fun b hb o e => (I8.pin (b, o) (List.mem_append_right _ (List.mem_append_right _ (mem_pinsAt hb e)))).1, fun b hb => ?_, w8⟩
        · by_cases hj : j < σ.length
          · rw [List.getElem?_append_left hj] at e ⊢; exact e
          · rw [List.getElem?_append_right (by omega)] at e
            by_cases hq : j - σ.length = 0
            · rw [hq] at e; cases e
            · rw [List.getElem?_eq_none (by simp; omega)] at e; cases e
        · obtain ⟨o, e, d⟩ := T.obj _ _ st6 b hb
          exact (I8.pin (b, o) (List.mem_append_right _ (List.mem_append_right _ (mem_pinsAt hb e)))).2.1
      refine wpAny_mono (hif ⟨cl, s2.heap.objs.size + 1, s2, H2, fp⟩ _ s7 _ _ _ I7 (st xv _ y6)) (fun ok s8 ⟨H8, I8, q8⟩ => ?_) fun _ _ z => z
      cases ok with
      | false =>
        rw [if_neg Bool.false_ne_true] at q8
        obtain ⟨m, hm, w8⟩ := hN _ _ q8
        exact again I8 hm w8
      | true =>
        rw [if_pos rfl] at q8
        refine wpAny_mono (he ⟨cl, s2.heap.objs.size + 1, s2, H2, fp⟩ _ s8 _ H8 _ I8 q8) (fun xu s9 ⟨v9, H9, I9, r9, hD9, n9⟩ => ?_) fun _ _ z => z
        obtain ⟨m, hm, w9⟩ := hN _ _ n9
        exact wpAny_mono (append_call (X := X.comp (M ++ [x]) scope ⟨cl, s2.heap.objs.size + 1, s2, H2, fp⟩) I9 hD9 hz r9) (fun _ s10 I10 => again I10 hm w9) fun _ _ z => z
  rw [hsize]
  exact codeAny_compStart_list loop (T.self X.A 0 _ _ _ st3 loop)


theorem pe_comp {X : Cx} {iter elt : Expr} {ifs : List Expr} {x : Str} {px pos : Pos} {scope : Scope} (M : List Str) {wi : TI} {tc : CB → TT} {te : CB → TE}
    (hc : X.calm = true) (hi : PI X (.Name x px) iter wi)
    (hif : ∀ b : CB, PIfs (X.comp (M ++ [x]) scope b) ifs (tc b)) (he : ∀ b : CB, PE (X.comp (M ++ [x]) scope b) elt (te b))
    (ok : compOK X.env.scope scope x M X.N = true := by kernel_rfl)
    (hs : ∀ x, foldedSetIterable iter X.env x = pure x := by intro _; rfl) :
    PE X (.ListComp elt [⟨.Name x px, iter, ifs, 0⟩] scope pos) (tComp wi tc te) := by
  intro pins s σ H Q I h
  rw [eval_ListComp]
  exact comp_core M (use := none) (R := EP X pins σ Q) I h (fun D C m s' H' hn _ hI q => ⟨m, hn, fun h' sb => ⟨.ref D, H', hI h' sb, rfl, q⟩⟩) hc hi hif he ok hs
/-- the frame of a block may still change -/
theorem Inv.butC {X : Cx} {pins : List (Addr × Obj)} {σ : St} {H : Hp} {s : Shared} {C : Addr} {h' : Heap} (I : Inv X pins σ H s) (f : FpOk X pins H C) (sb : Heap.SameBut C s.heap h') : Inv X pins σ H { s with heap := h' } := by
  obtain ⟨f0, f1, f2, f3, f4, f5⟩ := f
  refine I.call' (ch := [C]) rfl ⟨fun b o e n _ hx => ?_, fun b o e n _ hx => ?_, fun b o e n _ => n, fun b o e hx => ?_, fun _ _ z => z, fun _ _ _ z => z, fun _ ps z => ⟨#[], by simpa using z⟩⟩ (SameBut.hokC I.hok sb f0) I.bare fun b hb => ?_
  · exact (sb.2 b (by simpa using hx)).trans e
  · exact ⟨o.slots, (sb.2 b (by simpa using hx)).trans e⟩
  · exact ⟨o, (sb.2 b (by simpa using hx)).trans e⟩
  · have : b = C := by simpa using hb
    subst this
    exact ⟨f3, f1, f4, f5⟩
/-- name = [comprehension] -/
theorem ps_setC {X : Cx} {iter elt : Expr} {ifs : List Expr} {x y : Str} {px py pos spos : Pos} {scope : Scope} (M : List Str) {i : Nat} {wi : TI} {tc : CB → TT} {te : CB → TE}
    (hc : X.calm = true) (hN : X.N.Nodup) (hiy : X.N[i]? = some y) (hy : Loc X.env.scope y) (hi : PI X (.Name x px) iter wi)
    (hif : ∀ b : CB, PIfs (X.comp (M ++ [x]) scope b) ifs (tc b)) (he : ∀ b : CB, PE (X.comp (M ++ [x]) scope b) elt (te b))
    (hsw : swapsWith (.ListComp elt [⟨.Name x px, iter, ifs, 0⟩] scope pos) (some (.Name y py)) spos.line X.env = pure true := by rfl)
    (ok : compOK X.env.scope scope x M X.N = true := by kernel_rfl)
    (hs : ∀ x, foldedSetIterable iter X.env x = pure x := by intro _; rfl)
    (hf : X.fn y = true ∨ X.env.scope.names.lookup y = some .local := by first | exact .inl rfl | exact .inr rfl | assumption) :
    PS X (.Assign [.Name y py] (.ListComp elt [⟨.Name x px, iter, ifs, 0⟩] scope pos) spos) (tAsg (tComp wi tc te) (gName i)) := by
  intro pins s σ H D I h
  rw [exec_Assign_Name_used _ _ _ _ hsw]; refine wpAny_bind (wpAny_standAt (wpAny_bind ?_))
  show wpAny _ X.A (do let _ ← comprehension (.ListComp elt [⟨.Name x px, iter, ifs, 0⟩] scope pos) scope X.env _ (newList []) false (eval iter X.env) (some (assign (.Name y py) X.env))) _ _ s
  refine wpAny_bind (wpAny_mono (comp_core M (use := some (assign (.Name y py) X.env)) (R := fun _ s' => _) I h (fun D' C m s' H' hn f hI q => ?_) hc hi hif he ok hs) (fun _ s' hq => wpAny_pure (wpAny_pure hq)) fun _ _ e => e)
  have I' : Inv X pins σ H' s' := hI s'.heap ⟨rfl, fun _ _ => rfl⟩
  show wpAny _ X.A (assign (.Name y py) X.env (.ref D')) _ _ _
  refine wpAny_assign_Name (store_ok2 (v := .ref D') I' hN hiy hy rfl (fun s2 I2 ⟨a, sb, ha⟩ => ?_) hf)
  have hCa : C ≠ a := by
    obtain ⟨f0, f1, f2, f3, f4, f5⟩ := f
    rintro rfl
    rcases ha with z | z
    · exact f1 z
    · exact f4 _ _ z rfl
  exact ⟨m, hn.sameBut sb hCa, fun h' sb' => ⟨_, H', I2.butC f sb', q⟩⟩
end L2

namespace L2
open PySem PySem.Spec PyProof.Rows

/-! ### comprehensions in the forms one uses -/
theorem comp_range {lo : Int} {n : Nat} {tc : TT} {te : TE} {σ : St} {H1 : Hp} {Q : Hp → Prop} {D : Addr} (Pv : Nat → List V → Hp → Prop) (hn : n < sizeLine) (h0 : Pv 0 [] (upd H1 D (.lst [])))
    (hl : ∀ i ys H, Pv i ys H → ys.length ≤ i)
    (hs : ∀ i ys H, i < n → Pv i ys H → tc (σ ++ [some (.int (lo + i))]) H fun b H2 => if b = true then te (σ ++ [some (.int (lo + i))]) H2 fun v H3 => H3 D = some (.lst ys) ∧ Pv (i + 1) (ys ++ [v]) (upd H3 D (.lst (ys ++ [v]))) else Pv (i + 1) ys H2)
    (hd : ∀ ys H, Pv n ys H → Q H) :
    ∃ W : Nat → Nat → List V → Hp → Prop, (∃ m, W 0 m [] (upd H1 D (.lst []))) ∧
      ∀ i m ys H, W i m ys H → ((Itr lo n).stop i H ∧ Q H) ∨ ((Itr lo n).go i H ∧ ys.length < sizeLine ∧ ∃ N : List V → Hp → Prop, (∀ ys' H', N ys' H' → ∃ m', m' < m ∧ W (i + 1) m' ys' H') ∧ ∀ x H', (Itr lo n).yld i H x H' → tc (σ ++ [some x]) H' fun b H2 =>
        if b = true then te (σ ++ [some x]) H2 fun v H3 => H3 D = some (.lst ys) ∧ N (ys ++ [v]) (upd H3 D (.lst (ys ++ [v]))) else N ys H2) := by
  refine ⟨fun i m ys H => m = n - i ∧ i ≤ n ∧ Pv i ys H, ⟨n, by simp, Nat.zero_le _, h0⟩, ?_⟩
  rintro i m ys H ⟨rfl, hi, p⟩
  by_cases hlt : i < n
  · refine .inr ⟨hlt, Nat.lt_of_le_of_lt (hl i ys H p) (Nat.lt_trans hlt hn), Pv (i + 1), fun ys' H' p' => ⟨n - (i + 1), by omega, rfl, hlt, p'⟩, fun x H' y => ?_⟩
    obtain ⟨e, y⟩ := y
    subst e y
    exact hs i ys _ hlt p
  · have e : i = n := by omega
    subst e
    exact .inl ⟨Nat.le_refl _, hd ys H p⟩
theorem comp_list {K : PySem.W.Frag} {a : Addr} {xs : List V} {tc : TT} {te : TE} {σ : St} {H1 : Hp} {Q : Hp → Prop} {D : Addr} (Pv : Nat → List V → Hp → Prop) (hn : xs.length < sizeLine) (h0 : Pv 0 [] (upd H1 D (.lst [])))
    (hl : ∀ i ys H, Pv i ys H → ys.length ≤ i) (hq : ∀ i ys H, i ≤ xs.length → Pv i ys H → SqL K H a xs)
    (hs : ∀ i x ys H, xs[i]? = some x → Pv i ys H → tc (σ ++ [some x]) H fun b H2 => if b = true then te (σ ++ [some x]) H2 fun v H3 => H3 D = some (.lst ys) ∧ Pv (i + 1) (ys ++ [v]) (upd H3 D (.lst (ys ++ [v]))) else Pv (i + 1) ys H2)
    (hd : ∀ ys H, Pv xs.length ys H → Q H) :
    ∃ W : Nat → Nat → List V → Hp → Prop, (∃ m, W 0 m [] (upd H1 D (.lst []))) ∧
      ∀ i m ys H, W i m ys H → ((Itl K a).stop i H ∧ Q H) ∨ ((Itl K a).go i H ∧ ys.length < sizeLine ∧ ∃ N : List V → Hp → Prop, (∀ ys' H', N ys' H' → ∃ m', m' < m ∧ W (i + 1) m' ys' H') ∧ ∀ x H', (Itl K a).yld i H x H' → tc (σ ++ [some x]) H' fun b H2 =>
        if b = true then te (σ ++ [some x]) H2 fun v H3 => H3 D = some (.lst ys) ∧ N (ys ++ [v]) (upd H3 D (.lst (ys ++ [v]))) else N ys H2) := by
  refine ⟨fun i m ys H => m = xs.length - i ∧ i ≤ xs.length ∧ Pv i ys H, ⟨xs.length, by simp, Nat.zero_le _, h0⟩, ?_⟩
  rintro i m ys H ⟨rfl, hi, p⟩
  have q := hq i ys H hi p
  by_cases hlt : i < xs.length
  · refine .inr ⟨⟨xs, xs[i], q, by simp [hlt]⟩, Nat.lt_of_le_of_lt (hl i ys H p) (Nat.lt_trans hlt hn), Pv (i + 1), fun ys' H' p' => ⟨xs.length - (i + 1), by omega, rfl, hlt, p'⟩, fun x H' y => ?_⟩
    obtain ⟨e, y⟩ := y
    subst e
    exact hs i x ys _ (y xs q) p
  · have e : i = xs.length := by omega
    subst e
    exact .inl ⟨⟨xs, q, Nat.le_refl _⟩, hd ys H p⟩

/-! ### data, and == of data -/
mutual
def DatV (K : PySem.W.Frag) (H : Hp) : PyData → V → Prop
  | .none, v => v = .non
  | .bool b, v => v = .bl b
  | .int i, v => v = .int i
  | .str x, v => v = .str x ∧ PyData.strOk x = true
  | .list ds, v => ∃ a xs, v = .ref a ∧ SqL K H a xs ∧ DatVs K H ds xs
  | .tuple ds, v => ∃ a xs, v = .ref a ∧ SqT K H a xs ∧ DatVs K H ds xs
  | .dict _, _ => False
def DatVs (K : PySem.W.Frag) (H : Hp) : List PyData → List V → Prop
  | [], xs => xs = []
  | d :: ds, xs => ∃ x r, xs = x :: r ∧ DatV K H d x ∧ DatVs K H ds r
end
section
variable {X : Cx} {pins : List (Addr × Obj)} {σ : St} {H : Hp} {s : Shared}
mutual
theorem DatV.reads (I : Inv X pins σ H s) : ∀ (d : PyData) (v : V) (u : Value), DatV X.K H d v → RelV v u → (∃ as, Reads s.heap u d as) ∧ d.canLay0 = true
  | .none, v, u, h, r => by
    rw [DatV] at h; subst h; cases r; exact ⟨⟨_, .none⟩, by simp [PyData.canLay0]⟩
  | .bool b, v, u, h, r => by
    rw [DatV] at h; subst h; cases r; exact ⟨⟨_, .bool b⟩, by simp [PyData.canLay0]⟩
  | .int i, v, u, h, r => by
    rw [DatV] at h; subst h; obtain ⟨t, rfl⟩ := r; exact ⟨⟨_, .int i t⟩, by simp [PyData.canLay0]⟩
  | .str x, v, u, h, r => by
    rw [DatV] at h; obtain ⟨h, hx⟩ := h; subst h; obtain ⟨t, rfl⟩ := r; exact ⟨⟨_, .str x t⟩, by simp [PyData.canLay0, hx]⟩
  | .list ds, v, u, h, r => by
    rw [DatV] at h; obtain ⟨a, xs, rfl, hq, hd⟩ := h
    cases r
    obtain ⟨its, rv, p, hz⟩ := I.list hq
    obtain ⟨⟨as, ra⟩, cl⟩ := DatVs.reads I ds xs its hd rv
    obtain ⟨o, ho, hc, n, hdt⟩ := p.isList
    exact ⟨⟨_, .list ho hc hdt (by simpa using ra)⟩, by rw [PyData.canLay0]; exact cl⟩
  | .tuple ds, v, u, h, r => by
    rw [DatV] at h; obtain ⟨a, xs, rfl, hq, hd⟩ := h
    cases r
    obtain ⟨its, rv, p, hz⟩ := I.tuple hq
    obtain ⟨⟨as, ra⟩, cl⟩ := DatVs.reads I ds xs its hd rv
    obtain ⟨o, ho, hc, n, hdt⟩ := p
    exact ⟨⟨_, .tuple ho hc hdt (by simpa using ra)⟩, by rw [PyData.canLay0]; exact cl⟩
  | .dict _, v, u, h, r => by rw [DatV] at h; exact h.elim
theorem DatVs.reads (I : Inv X pins σ H s) : ∀ (ds : List PyData) (vs : List V) (us : List Value), DatVs X.K H ds vs → Vals vs us → (∃ as, ReadsAll s.heap us ds as) ∧ PyData.canLayAll0 ds = true
  | [], vs, us, h, r => by
    rw [DatVs] at h; subst h; cases r; exact ⟨⟨_, .nil⟩, by simp [PyData.canLayAll0]⟩
  | d :: ds, vs, us, h, r => by
    rw [DatVs] at h; obtain ⟨x, rr, rfl, h1, h2⟩ := h
    cases r with
    | cons r1 r2 =>
      obtain ⟨⟨as, ra⟩, ca⟩ := DatV.reads I d x _ h1 r1
      obtain ⟨⟨bs, rb⟩, cb⟩ := DatVs.reads I ds rr _ h2 r2
      exact ⟨⟨_, .cons ra rb⟩, by rw [PyData.canLayAll0, ca, cb]; rfl⟩
end
def rEqD (K : PySem.W.Frag) (neg : Bool) : R2 := fun x y H Q => ∃ da db, DatV K H da x ∧ DatV K H db y ∧ min da.depth db.depth ≤ 64 ∧ Q (.bl (if neg then !PyData.eqv da db else PyData.eqv da db)) H
theorem op_eqD {k : Nat} (hr : Room k X.A) : OpR X (compareOp .Eq) (rEqD X.K false) := by
  intro pins s σ H x y v u Q I rx ry h
  obtain ⟨da, db, h1, h2, hd, q⟩ := h
  obtain ⟨⟨as, ra⟩, ca⟩ := DatV.reads I da x v h1 rx
  obtain ⟨⟨bs, rb⟩, cb⟩ := DatV.reads I db y u h2 ry
  exact SeqAt.compareEq_reads ra rb ca cb (by have := hr.units; omega) ⟨.bl _, H, I, rfl, q⟩
theorem op_neD {k : Nat} (hr : Room k X.A) : OpR X (compareOp .NotEq) (rEqD X.K true) := by
  intro pins s σ H x y v u Q I rx ry h
  obtain ⟨da, db, h1, h2, hd, q⟩ := h
  obtain ⟨⟨as, ra⟩, ca⟩ := DatV.reads I da x v h1 rx
  obtain ⟨⟨bs, rb⟩, cb⟩ := DatV.reads I db y u h2 ry
  exact SeqAt.compareNe_reads ra rb ca cb (by have := hr.units; omega) ⟨.bl _, H, I, rfl, q⟩
end

/-! ### lists of ints, of signs -/
theorem datVs_ints {K : PySem.W.Frag} {H : Hp} : ∀ ns : List Int, DatVs K H (ns.map PyData.int) (ns.map V.int)
  | [] => by simp [DatVs]
  | n :: ns => by
    rw [List.map_cons, List.map_cons, DatVs]
    exact ⟨_, _, rfl, by rw [DatV], datVs_ints ns⟩
theorem datV_ints {K : PySem.W.Frag} {H : Hp} {a : Addr} {ns : List Int} (h : SqL K H a (ns.map V.int)) : DatV K H (.list (ns.map PyData.int)) (.ref a) := by
  rw [DatV]; exact ⟨a, _, rfl, h, datVs_ints ns⟩
/-- a sign: a text of one code -/
abbrev sgS (c : Nat) : Str := ⟨#[c]⟩
abbrev sg (c : Nat) : V := .str (sgS c)
theorem datVs_sgs {K : PySem.W.Frag} {H : Hp} : ∀ cs : List Nat, (∀ c ∈ cs, c < 0x110000) → DatVs K H (cs.map fun c => PyData.str (sgS c)) (cs.map sg)
  | [], _ => by simp [DatVs]
  | c :: cs, h => by
    rw [List.map_cons, List.map_cons, DatVs]
    refine ⟨_, _, rfl, ?_, datVs_sgs cs fun c hc => h c (List.mem_cons_of_mem _ hc)⟩
    rw [DatV]
    exact ⟨rfl, by simp [PyData.strOk, h c List.mem_cons_self]⟩
theorem datV_sgs {K : PySem.W.Frag} {H : Hp} {a : Addr} {cs : List Nat} (h : SqL K H a (cs.map sg)) (hc : ∀ c ∈ cs, c < 0x110000) : DatV K H (.list (cs.map fun c => PyData.str (sgS c))) (.ref a) := by
  rw [DatV]; exact ⟨a, _, rfl, h, datVs_sgs cs hc⟩
theorem depthAll_ints : ∀ ns : List Int, PyData.depthAll (ns.map PyData.int) ≤ 1
  | [] => by simp [PyData.depthAll]
  | n :: ns => by
    have := depthAll_ints ns
    rw [List.map_cons, PyData.depthAll]
    simp only [PyData.depth]
    omega
theorem depthAll_sgs : ∀ cs : List Nat, PyData.depthAll (cs.map fun c => PyData.str (sgS c)) ≤ 1
  | [] => by simp [PyData.depthAll]
  | c :: cs => by
    have := depthAll_sgs cs
    rw [List.map_cons, PyData.depthAll]
    simp only [PyData.depth]
    omega
theorem depth_ints (ns : List Int) : (PyData.list (ns.map PyData.int)).depth ≤ 2 := by
  have := depthAll_ints ns
  rw [PyData.depth]; omega
theorem depth_sgs (cs : List Nat) : (PyData.list (cs.map fun c => PyData.str (sgS c))).depth ≤ 2 := by
  have := depthAll_sgs cs
  rw [PyData.depth]; omega
theorem eqvAll_ints : ∀ ns ms : List Int, PyData.eqvAll (ns.map PyData.int) (ms.map PyData.int) = decide (ns = ms)
  | [], [] => by simp [PyData.eqvAll]
  | [], _ :: _ => by simp [PyData.eqvAll]
  | _ :: _, [] => by simp [PyData.eqvAll]
  | n :: ns, m :: ms => by
    rw [List.map_cons, List.map_cons, PyData.eqvAll, eqvAll_ints ns ms]
    rw [PyData.eqv, Bool.beq_eq_decide_eq]
    simp
theorem sgS_inj {a b : Nat} : (sgS a == sgS b) = decide (a = b) := by
  by_cases h : a = b
  · subst h; simp
  · have : sgS a ≠ sgS b := fun e => h (by simpa [sgS] using e)
    simp [h, this]
theorem eqvAll_sgs : ∀ cs ds : List Nat, PyData.eqvAll (cs.map fun c => PyData.str (sgS c)) (ds.map fun c => PyData.str (sgS c)) = decide (cs = ds)
  | [], [] => by simp [PyData.eqvAll]
  | [], _ :: _ => by simp [PyData.eqvAll]
  | _ :: _, [] => by simp [PyData.eqvAll]
  | c :: cs, d :: ds => by
    rw [List.map_cons, List.map_cons, PyData.eqvAll, eqvAll_sgs cs ds, PyData.eqv, sgS_inj]
    simp
theorem eqv_ints (ns ms : List Int) : PyData.eqv (.list (ns.map PyData.int)) (.list (ms.map PyData.int)) = decide (ns = ms) := by rw [PyData.eqv, eqvAll_ints]
theorem eqv_sgs (cs ds : List Nat) : PyData.eqv (.list (cs.map fun c => PyData.str (sgS c))) (.list (ds.map fun c => PyData.str (sgS c))) = decide (cs = ds) := by rw [PyData.eqv, eqvAll_sgs]

/-- == of two lists of ints; of two lists of signs -/
def rEqI (K : PySem.W.Frag) (neg : Bool) : R2 := fun x y H Q => ∃ (a b : Addr) (ns ms : List Int), x = .ref a ∧ y = .ref b ∧ SqL K H a (ns.map V.int) ∧ SqL K H b (ms.map V.int) ∧ Q (.bl (if neg then !decide (ns = ms) else decide (ns = ms))) H
def rEqS (K : PySem.W.Frag) (neg : Bool) : R2 := fun x y H Q => ∃ (a b : Addr) (cs ds : List Nat), x = .ref a ∧ y = .ref b ∧ SqL K H a (cs.map sg) ∧ SqL K H b (ds.map sg) ∧ (∀ c ∈ cs, c < 0x110000) ∧ (∀ c ∈ ds, c < 0x110000) ∧ Q (.bl (if neg then !decide (cs = ds) else decide (cs = ds))) H
section
variable {X : Cx} {k : Nat}
theorem OpR.imp {f : Value → Value → Sem Value} {r r' : R2} (h : OpR X f r) (i : ∀ x y H Q, r' x y H Q → r x y H Q) : OpR X f r' := fun pins s σ H x y v u Q I rx ry q => h pins s σ H x y v u Q I rx ry (i _ _ _ _ q)
theorem rEqI.toD {K : PySem.W.Frag} {neg : Bool} : ∀ x y H Q, rEqI K neg x y H Q → rEqD K neg x y H Q := by
  rintro x y H Q ⟨a, b, ns, ms, rfl, rfl, h1, h2, q⟩
  refine ⟨_, _, datV_ints h1, datV_ints h2, Nat.le_trans (Nat.min_le_left _ _) (Nat.le_trans (depth_ints ns) (by decide)), ?_⟩
  rw [eqv_ints]
  exact q
theorem rEqS.toD {K : PySem.W.Frag} {neg : Bool} : ∀ x y H Q, rEqS K neg x y H Q → rEqD K neg x y H Q := by
  rintro x y H Q ⟨a, b, ns, ms, rfl, rfl, h1, h2, c1, c2, q⟩
  refine ⟨_, _, datV_sgs h1 c1, datV_sgs h2 c2, Nat.le_trans (Nat.min_le_left _ _) (Nat.le_trans (depth_sgs ns) (by decide)), ?_⟩
  rw [eqv_sgs]
  exact q
theorem op_eqLI (hr : Room k X.A) : OpR X (compareOp .Eq) (rEqI X.K false) := (op_eqD hr).imp rEqI.toD
theorem op_neLI (hr : Room k X.A) : OpR X (compareOp .NotEq) (rEqI X.K true) := (op_neD hr).imp rEqI.toD
theorem op_eqLS (hr : Room k X.A) : OpR X (compareOp .Eq) (rEqS X.K false) := (op_eqD hr).imp rEqS.toD
theorem op_le_str : OpR X (compareOp .LtE) (fun x y H Q => ∃ i j, x = .str i ∧ y = .str j ∧ Q (.bl (!decide (j.cps.toList < i.cps.toList))) H) := by
  intro pins s σ H x y v u Q I rx ry h
  obtain ⟨i, j, rfl, rfl, q⟩ := h
  obtain ⟨t, rfl⟩ := rx
  obtain ⟨t', rfl⟩ := ry
  exact PySem.P.le_str ⟨.bl _, H, I, rfl, q⟩
/-- isinstance of a value whose type is known, a built-in type -/
theorem call_isinst : CallR X (.builtin "isinstance") (fun xs H Q => ∃ x t c b, xs = [x, .ty c] ∧ TyOf X.K H x t ∧ PySem.W.kitOne X.K t (.type c) = some b ∧ Q (.bl b) H) := by
  intro pins s σ H xs us Q I r h
  obtain ⟨x, t, c, b, rfl, ty, e, q⟩ := h
  obtain ⟨u, u', rfl, rx, rc⟩ := vals2 r
  cases rc
  exact isinst_ok I rx ty e fun tk => ⟨.bl b, H, I.tok tk, rfl, q⟩
/-- s[lo:hi] of a text -/
def cutS (z : Str) (lo hi : Option Int) : Str := Txt.slice z lo hi
def rSlS : V → Option Int → Option Int → Hp → VK → Prop := fun x lo hi H Q => ∃ z, x = .str z ∧ z.length ≤ sizeLine ∧ Q (.str (cutS z lo hi)) H
theorem sl_str : SlR X rSlS := by
  intro pins s σ H x v vl vu lo hi sl Q I rx hs pl pu h
  obtain ⟨z, rfl, hz, q⟩ := h
  obtain ⟨t, rfl⟩ := rx
  have fin : ∀ t' k, EP X pins σ Q (.str (Txt.slice z lo hi) t') { s with toks := k } := fun t' k => ⟨.str _, H, I.tok k, ⟨t', rfl⟩, q⟩
  refine ⟨"str", _, F.slot_str_getitem.lookup, typeIs_str _ _ _, ?_⟩
  obtain ⟨o, ho, hc, hd⟩ := hs
  cases pl with
  | none =>
    cases pu with
    | none => exact wpAny_getItem_str_slice (l := none) (u := none) (st := none) ⟨o, ho, hc, hd⟩ rfl (post_val_or_str ⟨Nat.le_trans (Txt.slice_le z _ _) hz, fun t' k => fin t' k⟩)
    | int j uj => exact wpAny_getItem_str_slice (l := none) (u := some (j, uj)) (st := none) ⟨o, ho, hc, hd⟩ rfl (post_val_or_str ⟨Nat.le_trans (Txt.slice_le z _ _) hz, fun t' k => fin t' k⟩)
  | int i ui =>
    cases pu with
    | none => exact wpAny_getItem_str_slice (l := some (i, ui)) (u := none) (st := none) ⟨o, ho, hc, hd⟩ rfl (post_val_or_str ⟨Nat.le_trans (Txt.slice_le z _ _) hz, fun t' k => fin t' k⟩)
    | int j uj => exact wpAny_getItem_str_slice (l := some (i, ui)) (u := some (j, uj)) (st := none) ⟨o, ho, hc, hd⟩ rfl (post_val_or_str ⟨Nat.le_trans (Txt.slice_le z _ _) hz, fun t' k => fin t' k⟩)
end
end L2

namespace L2
open PySem PySem.Spec PyProof.Rows
/-! ### a def of the text, by its name -/
structure Fn (P : Program) (w : World) (K : PySem.W.Frag) (mg : Str → Option Value) (base : Heap) (CX : CXT) (x : Str) (k : Nat) (ps : List Str) (sp : Sp) : Prop where
  ex : ∃ f fd, FnOk P w K mg base CX k f fd ps sp ∧ mg x = some (.ref f) ∧ PySem.W.keepIn K (.ref f) = true ∧ Binds K fd ps [] ∧ ∃ oc od osl, K.lookup f = some ⟨oc, od, .func fd, osl⟩
theorem pe_fn {X : Cx} {CX : CXT} {k j : Nat} {ps : List Str} {sp : Sp} {E : XK} {x : Str} {p pos : Pos} {e : Expr} {es : List Expr} {t : TA} (F : Fn X.prog X.w X.K X.mg X.base CX x k ps sp) (hr : Room j X.A) (hx : Passes CX X E) (ha : PA X (e :: es) t) (hg : Gl X x := by rfl) (hj : k ≤ j := by decide)
    (hdb : (x == ("__debug__" : Str)) = false := by decide) (he : starEach (e :: es) X.env = (false, eval e X.env) :: starEach es X.env := by rfl) (hpl : (backTo pos (starEach es X.env)).any (·.1) = false := by rfl) :
    PE X (.Call (.Name x p) (e :: es) [] pos) (tCall sp [] E t) := by
  obtain ⟨f, fd, F, hm, hk, hb, _⟩ := F.ex
  exact pe_call F (hr.mono hj) hg hm hk hb .nil hx ha hdb he hpl
/-- what the top has written of a def -/
structure FF (K : PySem.W.Frag) (x : Str) (st : Stmt) : Prop where
  ex : ∃ (f : Addr) (oc : Value) (od an : Option Addr) (osl : Array (Option Value)) (kV doc pm cdv ct : Value), PySem.W.nsIn K mainGlobals x = some (some (.ref f)) ∧
    K.lookup f = some ⟨oc, od, .func (PySem.W.fnOf x x (defArgs st) (defBody st) (defScope st) .none kV doc pm an cdv ct), osl⟩ ∧ PySem.W.codeIn K cdv x = true ∧ PySem.W.keepIn K (.ref f) = true
theorem ff_mk {K : PySem.W.Frag} {x : Str} {st : Stmt} {f : Addr} {oc : Value} {od an : Option Addr} {osl : Array (Option Value)} {kV doc pm cdv ct : Value} (a : PySem.W.nsIn K mainGlobals x = some (some (.ref f)))
    (l : K.lookup f = some ⟨oc, od, .func (PySem.W.fnOf x x (defArgs st) (defBody st) (defScope st) .none kV doc pm an cdv ct), osl⟩) (c : PySem.W.codeIn K cdv x = true) (k : PySem.W.keepIn K (.ref f) = true) : FF K x st := ⟨f, oc, od, an, osl, kV, doc, pm, cdv, ct, a, l, c, k⟩
/-- the facts of the module that a def wants -/
structure Md (K : PySem.W.Frag) (mg : Str → Option Value) : Prop where
  ns : ∀ x v, PySem.W.nsIn K mainGlobals x = some v → mg x = v
theorem md_of {K : PySem.W.Frag} {h : Heap} {mg : Str → Option Value} (X : K.In h) (G : h.Ns mainGlobals mg) : Md K mg := ⟨fun x v e => by
  cases v with
  | none => exact PySem.W.mg_none_of X G e
  | some u => exact PySem.W.mg_of X G e⟩
/-- THE RULE for a def of the text: no exception leaves it -/
theorem fn_ok {P : Program} {w : World} {K : PySem.W.Frag} {mg : Str → Option Value} {base : Heap} {x : Str} {st : Stmt} {N ps : List Str} {k : Nat} {sp : Sp} (M : Md K mg) (F : FF K x st) (S : FnScope N ps (defScope st))
    (hbind : ∀ (kV doc pm : Value) (an : Option Addr) (cdv ct : Value) (us : List Value), us.length = ps.length → bindArgs (PySem.W.fnOf x x (defArgs st) (defBody st) (defScope st) .none kV doc pm an cdv ct) ⟨us, []⟩ = pure (ps.zip us))
    (len : ∀ vs H Q E, sp vs H Q E → vs.length = ps.length)
    (hbody : ∀ (f : Addr) (cdv : Value) (A : Around) (outer : List Env) (s : Shared) (H : Hp) (vs : List V) (Q : VK) (E : XK), Room k (A.deeper (envOfC x (defScope st) s.heap.objs.size f cdv)) → sp vs H Q E →
      ∃ t, PSs (cxOf CX0 P w K mg base N x (defScope st) f cdv A outer s H E).nox (defBody st) t ∧ t { nx := fun _ H' => Q .non H', rt := Q } (start N vs) H) : Fn P w K mg base CX0 x (k + 1) ps sp := by
  obtain ⟨f, oc, od, an, osl, kV, doc, pm, cdv, ct, a, l, c, kk⟩ := F.ex
  have F1 := fun_mk (st := st) l c kk
  exact ⟨f, _, F1.ok S len (fun cdv A outer s H vs Q E hr h => hbody f cdv A outer s H vs Q E hr h), M.ns _ _ a, kk, F1.binds hbind, oc, od, osl, l⟩
/-- the law's own def, for the head -/
theorem law_of {P : Program} {w : World} {K : PySem.W.Frag} {mg : Str → Option Value} {st : Stmt} {fa : Addr} {k : Nat} {sp : Sp} {CX : CXT} (M : Md K mg) (F : FF K "law" st) (hfa : mg "law" = some (.ref fa))
    (hb : ∀ (kV doc pm : Value) (an : Option Addr) (cdv ct : Value) (s : Shared) (v : Value), BindsTo s (PySem.W.fnOf "law" "law" (defArgs st) (defBody st) (defScope st) .none kV doc pm an cdv ct) ⟨[v], []⟩ [("script", v)])
    (h : ∀ base : Heap, Fn P w K mg base CX "law" k ["script"] sp) :
    ∃ fd : FuncData, (∀ (s : Shared) (v : Value), BindsTo s fd ⟨[v], []⟩ [("script", v)]) ∧ ∀ base : Heap, K.In base → base.Ns mainGlobals mg → FnOk P w K mg base CX k fa fd ["script"] sp := by
  obtain ⟨f, oc, od, an, osl, kV, doc, pm, cdv, ct, a, l, c, kk⟩ := F.ex
  have e := hfa.symm.trans (M.ns _ _ a)
  cases e
  refine ⟨_, hb kV doc pm an cdv ct, fun base _ _ => ?_⟩
  obtain ⟨f', fd', F', hm', _, _, oc', od', osl', l'⟩ := (h base).ex
  have e := hm'.symm.trans (M.ns _ _ a)
  cases e
  rw [l] at l'
  cases l'
  exact F'
/-- the built-in names that the text does not bind -/
structure Bl (mg : Str → Option Value) : Prop where
  max : mg "max" = none
  int : mg "int" = none
  len : mg "len" = none
  range : mg "range" = none
  list : mg "list" = none
  isinst : mg "isinstance" = none
  bool : mg "bool" = none
  str : mg "str" = none
  tuple : mg "tuple" = none
  rev : mg "reversed" = none
  zip : mg "zip" = none
  min : mg "min" = none
  sum : mg "sum" = none
  enumerate : mg "enumerate" = none
  dict : mg "dict" = none
theorem bl_of {K : PySem.W.Frag} {mg : Str → Option Value} (M : Md K mg) (b1 : PySem.W.nsIn K mainGlobals "max" = some none) (b2 : PySem.W.nsIn K mainGlobals "int" = some none) (b3 : PySem.W.nsIn K mainGlobals "len" = some none) (b4 : PySem.W.nsIn K mainGlobals "range" = some none) (b5 : PySem.W.nsIn K mainGlobals "list" = some none) (b6 : PySem.W.nsIn K mainGlobals "isinstance" = some none) (b7 : PySem.W.nsIn K mainGlobals "bool" = some none) (b8 : PySem.W.nsIn K mainGlobals "str" = some none) (b9 : PySem.W.nsIn K mainGlobals "tuple" = some none) (b10 : PySem.W.nsIn K mainGlobals "reversed" = some none) (b11 : PySem.W.nsIn K mainGlobals "zip" = some none) (b12 : PySem.W.nsIn K mainGlobals "min" = some none) (b13 : PySem.W.nsIn K mainGlobals "sum" = some none) (b14 : PySem.W.nsIn K mainGlobals "enumerate" = some none) (b15 : PySem.W.nsIn K mainGlobals "dict" = some none) : Bl mg :=
  ⟨M.ns _ _ b1, M.ns _ _ b2, M.ns _ _ b3, M.ns _ _ b4, M.ns _ _ b5, M.ns _ _ b6, M.ns _ _ b7, M.ns _ _ b8, M.ns _ _ b9, M.ns _ _ b10, M.ns _ _ b11, M.ns _ _ b12, M.ns _ _ b13, M.ns _ _ b14, M.ns _ _ b15⟩
/-- everything tracked but p is as it was -/
def Keep (p : Addr) (H H' : Hp) : Prop := ∀ b o, H b = some o → b ≠ p → H' b = some o
theorem Keep.refl (p : Addr) (H : Hp) : Keep p H H := fun _ _ h _ => h
theorem Keep.trans {p : Addr} {H H1 H2 : Hp} (a : Keep p H H1) (b : Keep p H1 H2) : Keep p H H2 := fun c o h n => b c o (a c o h n) n
theorem Same.keep {p : Addr} {H H' : Hp} (a : Same H H') : Keep p H H' := fun c o h _ => a c o h
theorem Keep.upd {p : Addr} {H : Hp} {o : HO} : Keep p H (upd H p o) := fun c u h n => by rw [upd_ne n]; exact h
theorem Same.upd {H : Hp} {p : Addr} {o : HO} (h : H p = none) : Same H (upd H p o) := fun c u e => by rw [upd_ne (ne_of_none e h)]; exact e
theorem Keep.free {p : Addr} {H H' : Hp} (a : Keep p H H') {o : HO} (hp : H' p = some o) {l : Addr} (h : H' l = none) : H l = none := by
  cases q : H l with
  | none => rfl
  | some u =>
    have : l ≠ p := fun z => by subst z; rw [hp] at h; cases h
    rw [a l u q this] at h; cases h

/-! ### built-in calls in short -/
theorem bt_max : bootBuiltins "max" = some (.builtin "max") := by decide +kernel
theorem bt_min : bootBuiltins "min" = some (.builtin "min") := by decide +kernel
theorem bt_sum : bootBuiltins "sum" = some (.builtin "sum") := by decide +kernel
theorem bt_len : bootBuiltins "len" = some (.builtin "len") := by decide +kernel
theorem bt_isinst : bootBuiltins "isinstance" = some (.builtin "isinstance") := by decide +kernel
theorem bt_int : bootBuiltins "int" = some (.type "int") := by decide +kernel
theorem bt_str : bootBuiltins "str" = some (.type "str") := by decide +kernel
theorem bt_list : bootBuiltins "list" = some (.type "list") := by decide +kernel
theorem bt_rev : bootBuiltins "reversed" = some (.type "reversed") := by decide +kernel
section
variable {X : Cx} {e e2 : Expr} {te te2 : TE} {p p2 pos : Pos}
theorem PE.imp {t t' : TE} (h : PE X e t) (i : ∀ σ H Q, t' σ H Q → t σ H Q) : PE X e t' := fun pins s σ H Q I q => h pins s σ H Q I (i σ H Q q)
def tLenL (K : PySem.W.Frag) (te : TE) : TE := fun σ H Q => te σ H fun x H1 => ∃ a ys, x = .ref a ∧ SqL K H1 a ys ∧ Q (.int ys.length) H1
def tLenS (te : TE) : TE := fun σ H Q => te σ H fun x H1 => ∃ z, x = .str z ∧ z.length ≤ sizeLine ∧ Q (.int z.length) H1
def tMax (te te2 : TE) : TE := fun σ H Q => te σ H fun x H1 => te2 σ H1 fun y H2 => ∃ i j, x = .int i ∧ y = .int j ∧ Q (.int (if j > i then j else i)) H2
def tIntB (te : TE) : TE := fun σ H Q => te σ H fun x H1 => ∃ k, x = .bl k ∧ Q (.int (if k then 1 else 0)) H1
def tListOf (K : PySem.W.Frag) (te : TE) : TE := fun σ H Q => te σ H fun x H1 => ∃ a ys, x = .ref a ∧ SqL K H1 a ys ∧ ∀ l, H1 l = none → Q (.ref l) (upd H1 l (.lst ys))
def tIsi (K : PySem.W.Frag) (c : String) (te : TE) : TE := fun σ H Q => te σ H fun x H1 => ∃ t b, TyOf K H1 x t ∧ PySem.W.kitOne K t (.type c) = some b ∧ Q (.bl b) H1


def r1 (r : V → Hp → VK → Prop) : List V → Hp → VK → Prop := fun xs H Q => match xs with | [x] => r x H Q | _ => False
def r2' (r : V → V → Hp → VK → Prop) : List V → Hp → VK → Prop := fun xs H Q => match xs with | [x, y] => r x y H Q | _ => False
theorem callR1 {f : Value} {r : V → Hp → VK → Prop} (h : ∀ pins s σ H x us Q, Inv X pins σ H s → Vals [x] us → r x H Q → wpAny (model X.prog X.w) X.A (call f us) (EP X pins σ Q) X.xe s) : CallR X f (r1 r) := by
  intro pins s σ H xs us Q I rv q
  match xs, q with
  | [x], q => exact h pins s σ H x us Q I rv q
theorem callR2 {f : Value} {r : V → V → Hp → VK → Prop} (h : ∀ pins s σ H x y us Q, Inv X pins σ H s → Vals [x, y] us → r x y H Q → wpAny (model X.prog X.w) X.A (call f us) (EP X pins σ Q) X.xe s) : CallR X f (r2' r) := by
  intro pins s σ H xs us Q I rv q
  match xs, q with
  | [x, y], q => exact h pins s σ H x y us Q I rv q
theorem pe_lenL (hm : X.mg "len" = none) (ha : PE X e te) (hg : Gl X "len" := by rfl) (he : starEach [e] X.env = [(false, eval e X.env)] := by rfl) : PE X (.Call (.Name "len" p) [e] [] pos) (tLenL X.K te) :=
  pe_callB (r := r1 fun x H Q => ∃ a ys, x = .ref a ∧ SqL X.K H a ys ∧ Q (.int ys.length) H) (callR1 fun pins s σ H x us Q I rv ⟨a, ys, ex, h, q⟩ => call_len_seq pins s σ H _ us Q I rv ⟨a, ys, by rw [ex], .inl h, q⟩) hg hm bt_len (pa_cons ha pa_nil (by exact he)) (he := by exact he)
theorem pe_lenS (hm : X.mg "len" = none) (ha : PE X e te) (hg : Gl X "len" := by rfl) (he : starEach [e] X.env = [(false, eval e X.env)] := by rfl) : PE X (.Call (.Name "len" p) [e] [] pos) (tLenS te) :=
  pe_callB (r := r1 fun x H Q => ∃ z, x = .str z ∧ z.length ≤ sizeLine ∧ Q (.int z.length) H) (callR1 fun pins s σ H x us Q I rv ⟨z, ex, h, q⟩ => call_len_str pins s σ H _ us Q I rv ⟨z, by rw [ex], h, q⟩) hg hm bt_len (pa_cons ha pa_nil (by exact he)) (he := by exact he)
theorem pe_max (hc : X.calm = true) (hm : X.mg "max" = none) (ha : PE X e te) (hb : PE X e2 te2) (hg : Gl X "max" := by rfl) (he : starEach [e, e2] X.env = [(false, eval e X.env), (false, eval e2 X.env)] := by rfl) (he2 : starEach [e2] X.env = [(false, eval e2 X.env)] := by rfl) : PE X (.Call (.Name "max" p) [e, e2] [] pos) (tMax te te2) :=
  pe_callB (r := r2' fun x y H Q => ∃ i j, x = .int i ∧ y = .int j ∧ Q (.int (if j > i then j else i)) H) (callR2 fun pins s σ H x y us Q I rv ⟨i, j, ex, ey, q⟩ => call_max2 hc pins s σ H _ us Q I rv ⟨i, j, by rw [ex, ey], q⟩) hg hm bt_max (pa_cons ha (pa_cons hb pa_nil (by exact he2)) (by rw [he, he2])) (he := by rw [he, he2]) (hpl := by rw [he2]; rfl)
theorem pe_intB (hm : X.mg "int" = none) (ha : PE X e te) (hg : Gl X "int" := by rfl) (he : starEach [e] X.env = [(false, eval e X.env)] := by rfl) : PE X (.Call (.Name "int" p) [e] [] pos) (tIntB te) :=
  pe_callTy (r := r1 fun x H Q => ∃ k, x = .bl k ∧ Q (.int (if k then 1 else 0)) H) (callR1 fun pins s σ H x us Q I rv ⟨z, ex, q⟩ => call_int1 pins s σ H _ us Q I rv (.inr ⟨z, by rw [ex], q⟩)) hg hm bt_int (pa_cons ha pa_nil (by exact he)) (he := by exact he)
theorem pe_listOf (hm : X.mg "list" = none) (ha : PE X e te) (hg : Gl X "list" := by rfl) (he : starEach [e] X.env = [(false, eval e X.env)] := by rfl) : PE X (.Call (.Name "list" p) [e] [] pos) (tListOf X.K te) :=
  pe_callTy (r := r1 fun x H Q => ∃ a ys, x = .ref a ∧ SqL X.K H a ys ∧ ∀ l, H l = none → Q (.ref l) (upd H l (.lst ys))) (callR1 fun pins s σ H x us Q I rv ⟨a, ys, ex, h, q⟩ => call_list_of pins s σ H _ us Q I rv ⟨a, ys, by rw [ex], .inl h, q⟩) hg hm bt_list (pa_cons ha pa_nil (by exact he)) (he := by exact he)
theorem pe_isi {T : Str} {c : String} (hm : X.mg "isinstance" = none) (hT : X.mg T = none) (hb : bootBuiltins T = some (.type c)) (ha : PE X e te) (hg : Gl X "isinstance" := by rfl) (hgT : Gl X T := by rfl) (he : starEach [e, .Name T p2] X.env = [(false, eval e X.env), (false, eval (.Name T p2) X.env)] := by rfl)
    (hn : T ≠ "__name__" := by decide) (hd : (T == ("__debug__" : Str)) = false := by decide) : PE X (.Call (.Name "isinstance" p) [e, .Name T p2] [] pos) (tIsi X.K c te) :=
  pe_callB (r := r2' fun x y H Q => ∃ t b, y = .ty c ∧ TyOf X.K H x t ∧ PySem.W.kitOne X.K t (.type c) = some b ∧ Q (.bl b) H)
    (callR2 fun pins s σ H x y us Q I rv ⟨t, b, ey, ty, ek, q⟩ => call_isinst pins s σ H _ us Q I rv ⟨x, t, c, b, by rw [ey], ty, ek, q⟩) hg hm bt_isinst
    (pa_cons ha (pa_cons (pe_bltn (v := .ty c) hgT hT hb rfl hn hd) pa_nil) (by exact he)) (he := by exact he) |>.imp fun σ H Q h => by
      show te σ H fun x H1 => ∃ t b, V.ty c = .ty c ∧ _
      simp only [true_and]
      exact h
end
end L2

namespace L2
open PySem PySem.Spec PyProof.Rows
theorem sIx_pos (n d : Nat) (i : Int) (h : 0 ≤ i) : HT.sIx n d (some i) = min i.toNat n := by
  show (if i < 0 then (i + (n : Int)).toNat else min i.toNat n) = min i.toNat n
  rw [if_neg (by omega)]
theorem take_min {α : Type} (xs : List α) (k : Nat) : xs.take (min k xs.length) = xs.take k := by
  rcases Nat.le_total k xs.length with h | h
  · rw [Nat.min_eq_left h]
  · rw [Nat.min_eq_right h, List.take_length, List.take_of_length_le h]
theorem drop_min {α : Type} (xs : List α) (k : Nat) : xs.drop (min k xs.length) = xs.drop k := by
  rcases Nat.le_total k xs.length with h | h
  · rw [Nat.min_eq_left h]
  · rw [Nat.min_eq_right h, List.drop_length, List.drop_of_length_le h]
/-- a slice of a list, its bounds from 0 on -/
def cutL {α : Type} (xs : List α) (lo hi : Option Int) : List α := (xs.drop (HT.sIx xs.length 0 lo)).take (HT.sIx xs.length xs.length hi - HT.sIx xs.length 0 lo)
theorem cutL_hi {α : Type} (xs : List α) (k : Int) (h : 0 ≤ k) : cutL xs none (some k) = xs.take k.toNat := by
  unfold cutL
  rw [sIx_pos _ _ _ h, HT.sIx_none, List.drop_zero, Nat.sub_zero, take_min]
theorem cutL_lo {α : Type} (xs : List α) (k : Int) (h : 0 ≤ k) : cutL xs (some k) none = xs.drop k.toNat := by
  unfold cutL
  rw [sIx_pos _ _ _ h, HT.sIx_none, drop_min]
  exact List.take_of_length_le (by rw [List.length_drop]; omega)
theorem cutL_both {α : Type} (xs : List α) (i j : Int) (hi : 0 ≤ i) (hj : i ≤ j) : cutL xs (some i) (some j) = (xs.drop i.toNat).take (j.toNat - i.toNat) := by
  unfold cutL
  rw [sIx_pos _ _ _ hi, sIx_pos _ _ _ (Int.le_trans hi hj), drop_min]
  rcases Nat.le_total j.toNat xs.length with h | h
  · rw [Nat.min_eq_left h, Nat.min_eq_left (by omega)]
  · rw [Nat.min_eq_right h]
    rcases Nat.le_total i.toNat xs.length with h' | h'
    · rw [Nat.min_eq_left h', List.take_of_length_le (by rw [List.length_drop]; omega), List.take_of_length_le (by rw [List.length_drop]; omega)]
    · rw [List.drop_of_length_le h']; simp
theorem cutL_map {α β : Type} (f : α → β) (xs : List α) (lo hi : Option Int) : cutL (xs.map f) lo hi = (cutL xs lo hi).map f := by
  unfold cutL
  rw [List.length_map, List.map_take, List.map_drop]
theorem cutV_cutL (xs : List V) (lo hi : Option Int) : cutV xs lo hi = cutL xs lo hi := rfl
theorem strIx_eq (lo hi : Option Int) (n : Nat) : Builtin.Str.strSliceIndices lo hi 1 n = (List.range (HT.sIx n n hi - HT.sIx n 0 lo)).map (HT.sIx n 0 lo + ·) := by
  obtain ⟨h1, h2, h3⟩ := slice_bounds lo hi n
  have e : Builtin.Str.strSliceIndices lo hi 1 n = sliceRange (sliceBounds lo hi none n).1 (sliceBounds lo hi none n).2.1 (sliceBounds lo hi none n).2.2 := by
    cases lo <;> cases hi <;> rfl
  rw [e, h1, h2, h3, sliceRange_one]
theorem cutS_eq (cs : List Nat) (lo hi : Option Int) : cutS ⟨cs.toArray⟩ lo hi = ⟨(cutL cs lo hi).toArray⟩ := by
  unfold cutS Txt.slice
  have hl : (Str.length ⟨cs.toArray⟩) = cs.length := by simp [Str.length]
  rw [hl, strIx_eq]
  have e := pick_run cs.toArray (HT.sIx cs.length 0 lo) (HT.sIx cs.length cs.length hi - HT.sIx cs.length 0 lo)
  have le1 := HT.sIx_le cs.length 0 (Nat.zero_le _) lo
  have le2 := HT.sIx_le cs.length cs.length (Nat.le_refl _) hi
  split
  · rename_i hc
    simp only [List.length_map, List.length_range, beq_self_eq_true, Bool.true_and, beq_iff_eq] at hc
    unfold cutL
    have z : HT.sIx cs.length 0 lo = 0 ∨ cs.length = 0 := by omega
    have : (cs.drop (HT.sIx cs.length 0 lo)).take (HT.sIx cs.length cs.length hi - HT.sIx cs.length 0 lo) = cs := by
      rcases z with z | z
      · rw [z] at hc ⊢
        rw [List.drop_zero]
        exact List.take_of_length_le (by omega)
      · have : cs = [] := List.length_eq_zero_iff.mp z
        subst this; simp
    rw [this]
  · rw [e]
    rfl
theorem atI_ex {α : Type} (xs : List α) (r : Int) (h0 : 0 ≤ r) (h1 : r < xs.length) : ∃ v, xs[r.toNat]? = some v ∧ v ∈ xs ∧ atI xs r = some v := by
  have hl : r.toNat < xs.length := by omega
  refine ⟨xs[r.toNat], by simp [hl], List.getElem_mem hl, ?_⟩
  have e : ((r.toNat : Nat) : Int) = r := by omega
  have q : atI xs ((r.toNat : Nat) : Int) = some xs[r.toNat] := atI_nat (by simp [hl])
  rw [e] at q
  exact q
theorem ixN_pos (n : Nat) (i : Int) (h0 : 0 ≤ i) (h1 : i < n) : ixN n i = some i.toNat := by
  unfold ixN
  rw [if_pos h0, if_pos h1]
theorem str_len (cs : List Nat) : (Str.length ⟨cs.toArray⟩) = cs.length := by simp [Str.length]
theorem str_app (a b : List Nat) : ((⟨a.toArray⟩ : Str) ++ (⟨b.toArray⟩ : Str)) = ⟨(a ++ b).toArray⟩ := by
  show Str.mk _ = _
  simp
end L2

namespace L2
open PySem PySem.Spec PyProof.Rows
/-- reversed(list), walked -/
def Itv (K : PySem.W.Frag) (a : Addr) (xs : List V) : It :=
  ⟨fun i H => SqL K H a xs ∧ i < xs.length, fun i H x H' => H' = H ∧ xs[xs.length - 1 - i]? = some x, fun i _ => xs.length ≤ i⟩
theorem turn_rev {P : Program} {w : World} {K : PySem.W.Frag} {tg : Expr} (a it : Addr) (xs : List V) : Turn P w K tg (Itv K a xs) [it] it (fun i h => i ≤ xs.length ∧ h.IsRevIter it a ((xs.length : Int) - 1 - (i : Int))) where
  mem := by simp
  obj := fun i h st b hb => by
    have e : b = it := by simpa using hb
    subst e
    obtain ⟨o, e, c, d⟩ := st.2
    exact ⟨o, e, fun v z => by rw [d] at z; cases z⟩
  keep := fun i h h' st k => ⟨st.1, st.2.at fun o e => k it (by simp) o e⟩
  item := by
    intro X hP hw hK hc i pins s σ H E I hf st hg
    subst hP hw hK
    obtain ⟨hq, hx⟩ := hg
    obtain ⟨its, rv, p, hz⟩ := I.list hq
    have hlt : xs.length - 1 - i < xs.length := by omega
    obtain ⟨u, hu, ru⟩ := rv.get (show xs[xs.length - 1 - i]? = some xs[xs.length - 1 - i] by simp [hlt])
    obtain ⟨f0, f1, f2, f3, f4, f5⟩ := hf it (by simp)
    have e1 : (xs.length : Int) - 1 - (i : Int) = ((xs.length - 1 - i : Nat) : Int) := by omega
    have hit := st.2
    rw [e1] at hit
    refine wpAny_pyNext_rev_item hit p.isList (x := u) (by simpa using hu) fun h' st' sb => ?_
    have e2 : ((xs.length - 1 - i : Nat) : Int) - 1 = (xs.length : Int) - 1 - ((i + 1 : Nat) : Int) := by omega
    rw [e2] at st'
    have I1 : Inv X pins σ H { s with heap := h' } := I.turned (t' := s.toks) (fun b o hb e => (sb.2 b hb).trans e) f0 f1 f3 f4 f5
    obtain ⟨o, e, c, d⟩ := id st'
    exact ⟨u, rfl, go_of (s := { s with heap := h' }) e c d (by decide) ⟨_, H, I1, ru, ⟨rfl, by simp [hlt]⟩, ⟨hx, st'⟩, fun b hb => (hf b hb).1⟩⟩
  done := by
    intro X hP hw hK hc i pins s σ H E I hf st hg
    subst hP hw hK
    obtain ⟨f0, f1, f2, f3, f4, f5⟩ := hf it (by simp)
    have hg' : xs.length ≤ i := hg
    have e1 : (xs.length : Int) - 1 - (i : Int) = -1 := by have := st.1; omega
    have hit := st.2
    rw [e1] at hit
    exact wpAny_pyNext_rev_end (I.ok.hd hc) hit fun h' eb => ⟨rfl, I.turned (t' := s.toks) (fun b o hb e => eb b o hb e) f0 f1 f3 f4 f5⟩
  self := fun _ _ _ _ _ st h => wpAny_pyIter_revIter st.2 h
def iRev (K : PySem.W.Frag) (tl : TE) : TI := fun σ H R => tl σ H fun x H1 => ∃ a xs, x = .ref a ∧ SqL K H1 a xs ∧ R (Itv K a xs) H1
theorem pi_rev {X : Cx} {tg e : Expr} {te : TE} {p pos : Pos} (hm : X.mg "reversed" = none) (he : PE X e te) (hg : Gl X "reversed" := by rfl) (hs : starEach [e] X.env = [(false, eval e X.env)] := by rfl) : PI X tg (.Call (.Name "reversed" p) [e] [] pos) (iRev X.K te) := by
  intro pins s σ H R I h
  refine Call_ (ld_blt I hg hm bt_rev (PyProof.Rows.callWith_type1 (thn ((pa_cons he pa_nil (by exact hs)) pos pins s σ H (fun vs H1 => ∃ x, vs = [x] ∧ ∃ a xs, x = .ref a ∧ SqL X.K H1 a xs ∧ R (Itv X.K a xs) H1) I ?_) fun us s1 ⟨vs, H1, I1, r1, q1⟩ => ?_) hs rfl))
  · show te σ H fun x H1 => ∃ x', [x] = [x'] ∧ ∃ a xs, x' = .ref a ∧ SqL X.K H1 a xs ∧ R (Itv X.K a xs) H1
    have e : (fun (x : V) (H1 : Hp) => ∃ x', [x] = [x'] ∧ ∃ a xs, x' = V.ref a ∧ SqL X.K H1 a xs ∧ R (Itv X.K a xs) H1) = fun x H1 => ∃ a xs, x = .ref a ∧ SqL X.K H1 a xs ∧ R (Itv X.K a xs) H1 := by
      funext x H1
      apply propext
      constructor
      · rintro ⟨x', e, r⟩
        cases e
        exact r
      · intro r
        exact ⟨x, rfl, r⟩
    rw [e]
    exact h
  · obtain ⟨x, rfl, a, xs, rfl, hq, q⟩ := q1
    obtain ⟨u, rfl, ru⟩ := vals1 r1
    cases ru
    obtain ⟨its, rv, pl, hz⟩ := I1.list hq
    refine call_reversed_list pl.isList ?_
    have I2 : Inv X pins σ H1 { s1 with heap := s1.heap.push (revObj a ((its.toArray.size : Int) - 1)) } := I1.kept (t' := s1.toks) fun b o e => Heap.get?_push_of_some _ e
    have hl := rv.length
    have st : ({ s1 with heap := s1.heap.push (revObj a ((its.toArray.size : Int) - 1)) } : Shared).heap.IsRevIter s1.heap.objs.size a ((xs.length : Int) - 1 - ((0 : Nat) : Int)) := by
      refine ⟨_, Heap.get?_push_size _ rfl, rfl, ?_⟩
      have : (its.toArray.size : Int) - 1 = (xs.length : Int) - 1 - ((0 : Nat) : Int) := by simp; omega
      rw [← this]; rfl
    refine wpAny_pyIter_revIter st ?_
    refine ⟨s1.heap.objs.size, [s1.heap.objs.size], _, _, H1, rfl, I2, turn_rev a _ xs, ⟨Nat.zero_le _, st⟩, fun b hb => ?_, q⟩
    have e : b = s1.heap.objs.size := by simpa using hb
    subst e
    exact I1.fpOk (Nat.le_refl _) (I1.hok.fresh (Nat.le_refl _))
theorem tNoIf_go {σ : St} {H : Hp} {A B : Hp → Prop} (h : A H) : tNoIf σ H fun b H2 => if b = true then A H2 else B H2 := by
  show if true = true then A H else B H
  rw [if_pos rfl]
  exact h
theorem Same.tup {K : PySem.W.Frag} {H H' : Hp} {a : Addr} {xs : List V} (e : Same H H') (h : H a = some (.tup xs)) : SqT K H' a xs := SqT.of (e _ _ h)
end L2

namespace L2
open PySem PySem.Spec PyProof.Rows
section
variable {X : Cx} {a b e : Expr} {rest : List Expr} {ta tb te : TE} {p pos : Pos}
/-- a or b, by a's truth -/
def tOrT (K : PySem.W.Frag) (ta tb : TE) : TE := fun σ H Q => ta σ H fun x H1 => ∃ k, TruV K x H1 k ∧ if k = true then Q x H1 else tb σ H1 Q
theorem pe_orT (ha : PE X a ta) (hb : PE X (.BoolOp .Or (b :: rest) pos) tb) : PE X (.BoolOp .Or (a :: b :: rest) pos) (tOrT X.K ta tb) := by
  intro pins s σ H Q I h
  refine BoolOp_or (thn (ha pins s σ H _ I h) fun v s1 ⟨x, H1, I1, r1, q1⟩ => ?_)
  obtain ⟨k, tk, q1⟩ := q1
  refine thn (tru_ok pins s1 σ H1 x v (fun k' H' => k' = k ∧ H' = H1) I1 r1 ⟨k, tk, rfl, rfl⟩) fun k' s2 ⟨H2, I2, e1, e2⟩ => ?_
  subst e1 e2
  cases k' with
  | false => exact hb pins s2 σ H2 Q I2 (by rw [if_neg Bool.false_ne_true] at q1; exact q1)
  | true => exact ⟨x, H2, I2, r1, by rw [if_pos rfl] at q1; exact q1⟩
end
/-! ### to go on at the first statement -/
def FW (J : It) (g : TG) (tb : TS) (D : Ends) (σ : St) (H1 : Hp) : Prop := ∃ W : Nat → Nat → St → Hp → Prop, (∃ m, W 0 m σ H1) ∧ ∀ i m σ H, W i m σ H →
  (J.stop i H ∧ D.nx σ H) ∨ (J.go i H ∧ ∃ N : St → Hp → Prop, (∀ σ' H', N σ' H' → ∃ m', m' < m ∧ W (i + 1) m' σ' H') ∧ ∀ x H', J.yld i H x H' → g x σ H' fun σ2 H2 => tb { D with nx := N, ct := N, bk := D.nx } σ2 H2)
theorem seq_for {wi : TI} {g : TG} {tb rest : TS} {D : Ends} {σ : St} {H : Hp} (h : wi σ H fun J H1 => FW J g tb { D with nx := rest D } σ H1) : tSeq (tFor wi g tb) rest D σ H := h
theorem seq_asg {te : TE} {g : TG} {rest : TS} {D : Ends} {σ : St} {H : Hp} (h : te σ H fun x H1 => g x σ H1 (rest D)) : tSeq (tAsg te g) rest D σ H := h
theorem seq_if {c : TT} {t u rest : TS} {D : Ends} {σ : St} {H : Hp} (h : c σ H fun b H1 => if b = true then t { D with nx := rest D } σ H1 else u { D with nx := rest D } σ H1) : tSeq (tIfS c t u) rest D σ H := h
end L2

namespace L2
open PySem PySem.Spec PyProof.Rows
/-! ### // by a divisor of up to sixty figures -/
def CDivL (i j : Int) : Prop := 0 < j ∧ j < 1000000000000000000000000000000000000000000000000000000000000
theorem op_fdivL {X : Cx} : OpR X (binaryOp .FloorDiv) (rI CDivL fun i j => .int (i / j)) := opI fun i j _ _ _ _ _ hc q => by
  have hn : j.natAbs.log2 < 9000 := by
    have h0 : j.natAbs ≠ 0 := by have := hc.1; omega
    rw [Nat.log2_lt h0]
    have h1 : j.natAbs < 1000000000000000000000000000000000000000000000000000000000000 := by have := hc.1; have := hc.2; omega
    exact Nat.lt_of_lt_of_le h1 (Nat.le_trans (show 1000000000000000000000000000000000000000000000000000000000000 ≤ 2 ^ 200 by decide) (Nat.pow_le_pow_right (by decide) (by decide)))
  refine floordiv_int (by have := hc.1; omega) ?_ (.inl (PyProof.noPylong_of_log2 hn))
  rw [Int.fdiv_eq_ediv_of_nonneg _ (by have := hc.1; omega)]
  exact q
/-! ### records turned, and a new object -/
theorem Inv.turnLaid {X : Cx} {pins : List (Addr × Obj)} {σ : St} {H : Hp} {s : Shared} {h' : Heap} {t' : Nat} {ch : List Addr} {a : Addr} {o : HO} (I : Inv X pins σ H s) (hch : ∀ b ∈ ch, FpOk X pins H b)
    (k : ∀ b u, b ∉ ch → s.heap.get? b = some u → h'.get? b = some u) (hp : s.heap.objs.size ≤ a) (new : ObjOk X.prog X.w (upd H a o) h' a o) : Inv X pins σ (upd H a o) { s with heap := h', toks := t' } := by
  have hn := I.hok.fresh hp
  have nch : ∀ b u, H b = some u → b ∉ ch := fun b u e hb => by rw [(hch b hb).1] at e; cases e
  refine I.step (g' := s.gens) (d' := s.drawn) (ch := ch) (fun b hb => ?_) (fun b o _ _ hc e _ => k b o hc e) (fun b o _ _ hc e _ => ⟨o.slots, k b o hc e⟩) (fun b o hc e n => ?_) (fun b o hc e => ⟨o, k b o hc e⟩) (fun b xs e => ?_) (fun b o u e => ?_) (fun b ps e => ⟨#[], ?_⟩) (fun m hm => ?_) (fun b u e => ?_) I.bare
  · obtain ⟨f0, f1, f2, f3, f4, f5⟩ := hch b hb
    exact ⟨f3, f1, f4, f5⟩
  · rw [upd_ne (Nat.ne_of_lt (Nat.lt_of_lt_of_le (Heap.lt_size e) hp))]; exact n
  · rw [upd_ne (ne_of_none e hn)]; exact e
  · rw [upd_ne (ne_of_none e hn)]; exact e
  · rw [upd_ne (ne_of_none e hn), e]; simp
  · obtain ⟨o, es, ep, ho, r⟩ := hm
    exact ⟨o, es, ep, k _ o (fun hb => (hch _ hb).2.1 rfl) ho, r⟩
  · by_cases hb : b = a
    · subst hb; rw [upd_same] at e; cases e; exact new
    · rw [upd_ne hb] at e
      refine (I.hok b u e).stay (fun c v hc q => k c v ?_ q) (fun c q => by rw [upd_ne (ne_of_none q hn)]; exact q) fun c xs q => by rw [upd_ne (ne_of_none q hn)]; exact q
      rcases hc with z | z
      · rw [z]; exact nch b u e
      · exact nch c _ z
theorem Inv.turnMany {X : Cx} {pins : List (Addr × Obj)} {σ : St} {H : Hp} {s : Shared} {h' : Heap} {t' : Nat} {ch : List Addr} (I : Inv X pins σ H s) (hch : ∀ b ∈ ch, FpOk X pins H b)
    (k : ∀ b u, b ∉ ch → s.heap.get? b = some u → h'.get? b = some u) : Inv X pins σ H { s with heap := h', toks := t' } := by
  have nch : ∀ b u, H b = some u → b ∉ ch := fun b u e hb => by rw [(hch b hb).1] at e; cases e
  refine I.step (g' := s.gens) (d' := s.drawn) (ch := ch) (fun b hb => ?_) (fun b o _ _ hc e _ => k b o hc e) (fun b o _ _ hc e _ => ⟨o.slots, k b o hc e⟩) (fun b o hc e n => n) (fun b o hc e => ⟨o, k b o hc e⟩) (fun b xs e => e) (fun b o u e => e) (fun b ps e => ⟨#[], by rw [e]; simp⟩) (fun m hm => ?_) (fun b u e => ?_) I.bare
  · obtain ⟨f0, f1, f2, f3, f4, f5⟩ := hch b hb
    exact ⟨f3, f1, f4, f5⟩
  · obtain ⟨o, es, ep, ho, r⟩ := hm
    exact ⟨o, es, ep, k _ o (fun hb => (hch _ hb).2.1 rfl) ho, r⟩
  · refine (I.hok b u e).stay (fun c v hc q => k c v ?_ q) (fun _ q => q) fun _ _ q => q
    rcases hc with z | z
    · rw [z]; exact nch b u e
    · exact nch c _ z
/-! ### zip of two lists -/
def Itz (a b : Addr) : It :=
  ⟨fun i H => ∃ xs ys, H a = some (.lst xs) ∧ H b = some (.lst ys) ∧ i < xs.length ∧ i < ys.length,
   fun i H x H' => ∃ xs ys u v p, H a = some (.lst xs) ∧ H b = some (.lst ys) ∧ xs[i]? = some u ∧ ys[i]? = some v ∧ H p = none ∧ H' = upd H p (.tup [u, v]) ∧ x = .ref p,
   fun i H => ∃ xs ys, H a = some (.lst xs) ∧ H b = some (.lst ys) ∧ (xs.length ≤ i ∨ ys.length ≤ i)⟩
theorem turn_zip {P : Program} {w : World} {K : PySem.W.Frag} {es : List Expr} {kk : Nat} {tp : Pos} (a b z TI TO i1 i2 : Addr) (D : ZipApart z TI TO i1 i2 a b) :
    Turn P w K (.Tuple es kk tp) (Itz a b) [z, TI, TO, i1, i2] z (fun i h => IsZip h z TI TO .none ∧ IsPair h TI (.ref i1) (.ref i2) ∧ (∃ x y, IsPair h TO x y) ∧ h.IsListIter i1 a i ∧ h.IsListIter i2 b i) where
  mem := by simp
  obj := fun i h st c hc => by
    obtain ⟨h1, h2, ⟨x, y, h3⟩, h4, h5⟩ := st
    simp only [List.mem_cons, List.not_mem_nil, or_false] at hc
    rcases hc with rfl | rfl | rfl | rfl | rfl
    · exact ⟨_, h1, fun v q => by have q' : Data.fields _ = Data.cell v := q; cases q'⟩
    · exact ⟨_, h2, fun v q => by have q' : Data.seq _ _ = Data.cell v := q; cases q'⟩
    · exact ⟨_, h3, fun v q => by have q' : Data.seq _ _ = Data.cell v := q; cases q'⟩
    · obtain ⟨o, e, c, d⟩ := h4
      exact ⟨o, e, fun v q => by rw [d] at q; cases q⟩
    · obtain ⟨o, e, c, d⟩ := h5
      exact ⟨o, e, fun v q => by rw [d] at q; cases q⟩
  keep := fun i h h' st k => by
    obtain ⟨h1, h2, ⟨x, y, h3⟩, h4, h5⟩ := st
    exact ⟨k z (by simp) _ h1, k TI (by simp) _ h2, ⟨x, y, k TO (by simp) _ h3⟩, h4.at fun o e => k i1 (by simp) o e, h5.at fun o e => k i2 (by simp) o e⟩
  item := by
    intro X hP hw hK hc i pins s σ H E I hf st hg
    subst hP hw hK
    obtain ⟨h1, h2, ⟨x, y, h3⟩, h4, h5⟩ := st
    obtain ⟨xs, ys, ha, hb, hi1, hi2⟩ := hg
    obtain ⟨_, its1, n1, rv1, hl1, e1⟩ := I.lstM ha
    obtain ⟨_, its2, n2, rv2, hl2, e2⟩ := I.lstM hb
    obtain ⟨u, hu, ru⟩ := rv1.get (show xs[i]? = some xs[i] by simp [hi1])
    obtain ⟨v, hv, rv⟩ := rv2.get (show ys[i]? = some ys[i] by simp [hi2])
    refine wpAny_pyNext_zip_item D h1 h2 h3 h4 h5 ⟨_, e1, rfl, n1, rfl⟩ ⟨_, e2, rfl, n2, rfl⟩ (x := u) (y := v) (by simpa using hu) (by simpa using hv) fun h' z1 z2 z3 z4 z5 z6 z7 => ⟨_, rfl, ?_⟩
    refine wpAny_letOwnedTupleGo_zip (s := { s with heap := h' }) z1 fun h'' y1 sb => ?_
    have zlt : z < s.heap.objs.size := Heap.lt_size h1
    have nz : s.heap.objs.size ≠ z := Nat.ne_of_gt zlt
    have hnew : IsPair h'' s.heap.objs.size u v := sb.extBut _ _ nz z5
    have kk : ∀ c o, c ∉ [z, TI, TO, i1, i2] → s.heap.get? c = some o → h''.get? c = some o := fun c o hc e => by
      simp only [List.mem_cons, List.not_mem_nil, or_false, not_or] at hc
      exact sb.extBut _ _ hc.1 (z7 c o hc.1 hc.2.2.1 hc.2.2.2.1 hc.2.2.2.2 e)
    have I1 : Inv X pins σ (upd H s.heap.objs.size (.tup [xs[i], ys[i]])) { s with heap := h'', toks := s.toks } := I.turnLaid hf kk (Nat.le_refl _) ⟨by show 2 ≤ sizeLine; decide, [u, v], .cons ru (.cons rv .nil), ⟨_, hnew, rfl, _, rfl⟩⟩
    refine ⟨.ref s.heap.objs.size, _, I1, rfl, ⟨xs, ys, xs[i], ys[i], s.heap.objs.size, ha, hb, by simp [hi1], by simp [hi2], I.hok.fresh (Nat.le_refl _), rfl, rfl⟩, ⟨y1, ?_, ⟨u, v, ?_⟩, ?_, ?_⟩, fun c hc => ?_⟩
    · exact sb.extBut _ _ D.TIz (z7 TI _ D.TIz D.TITO D.TIi1 D.TIi2 h2)
    · exact sb.extBut _ _ D.TOz z2
    · exact z3.at fun o e => sb.extBut _ _ D.i1z e
    · exact z4.at fun o e => sb.extBut _ _ D.i2z e
    · rw [upd_ne]
      · exact (hf c hc).1
      · intro q
        subst q
        obtain ⟨o, e, _⟩ : ∃ o, s.heap.get? s.heap.objs.size = some o ∧ True := by
          simp only [List.mem_cons, List.not_mem_nil, or_false] at hc
          rcases hc with q | q | q | q | q
          · rw [q] at *; exact ⟨_, h1, trivial⟩
          · exact ⟨_, q ▸ h2, trivial⟩
          · exact ⟨_, q ▸ h3, trivial⟩
          · obtain ⟨o, e, _⟩ := h4; exact ⟨o, q ▸ e, trivial⟩
          · obtain ⟨o, e, _⟩ := h5; exact ⟨o, q ▸ e, trivial⟩
        exact absurd (Heap.lt_size e) (Nat.lt_irrefl _)
  done := by
    intro X hP hw hK hc i pins s σ H E I hf st hg
    subst hP hw hK
    obtain ⟨h1, h2, ⟨x, y, h3⟩, h4, h5⟩ := st
    obtain ⟨xs, ys, ha, hb, hend⟩ := hg
    obtain ⟨_, its1, n1, rv1, hl1, e1⟩ := I.lstM ha
    obtain ⟨_, its2, n2, rv2, hl2, e2⟩ := I.lstM hb
    refine wpAny_pyNext_zip_end (I.ok.hd hc) D h1 h2 h3 h4 h5 ⟨_, e1, rfl, n1, rfl⟩ ⟨_, e2, rfl, n2, rfl⟩ ?_ fun h' k => ⟨rfl, I.turnMany (t' := s.toks) hf fun c o hc e => ?_⟩
    · rcases hend with q | q
      · left; simp; omega
      · right; simp; omega
    · simp only [List.mem_cons, List.not_mem_nil, or_false, not_or] at hc
      exact k c o hc.1 hc.2.2.1 hc.2.2.2.1 hc.2.2.2.2 e
  self := fun _ _ _ _ _ st h => wpAny_pyIter_zip st.1 h
theorem bt_zip : bootBuiltins "zip" = some (.type "zip") := by decide +kernel
def iZip (te te2 : TE) : TI := fun σ H R => te σ H fun x H1 => te2 σ H1 fun y H2 => ∃ a b xs ys, x = .ref a ∧ y = .ref b ∧ H2 a = some (.lst xs) ∧ H2 b = some (.lst ys) ∧ R (Itz a b) H2
theorem pi_zip {X : Cx} {es : List Expr} {kk : Nat} {tp : Pos} {e e2 : Expr} {te te2 : TE} {p pos : Pos} (hm : X.mg "zip" = none) (he : PE X e te) (he2 : PE X e2 te2) (hg : Gl X "zip" := by rfl)
    (hs : starEach [e, e2] X.env = [(false, eval e X.env), (false, eval e2 X.env)] := by rfl) (hs2 : starEach [e2] X.env = [(false, eval e2 X.env)] := by rfl) : PI X (.Tuple es kk tp) (.Call (.Name "zip" p) [e, e2] [] pos) (iZip te te2) := by
  intro pins s σ H R I h
  refine Call_ (ld_blt I hg hm bt_zip (PyProof.Rows.callWith_type1 (thn ((pa_cons he (pa_cons he2 pa_nil (by exact hs2)) (by rw [hs, hs2])) pos pins s σ H (fun vs H2 => match vs with | [x, y] => ∃ a b xs ys, x = .ref a ∧ y = .ref b ∧ H2 a = some (.lst xs) ∧ H2 b = some (.lst ys) ∧ R (Itz a b) H2 | _ => False) I h) fun us s1 ⟨vs, H1, I1, r1, q1⟩ => ?_) (by rw [hs, hs2]) (by rw [hs2]; rfl)))
  match vs, q1 with
  | [x, y], q1 =>
    obtain ⟨a, b, xs, ys, rfl, rfl, ha, hb, q⟩ := q1
    obtain ⟨u, v, rfl, ru, rv⟩ := r1.two
    cases ru
    cases rv
    obtain ⟨_, its1, n1, rv1, hl1, e1⟩ := I1.lstM ha
    obtain ⟨_, its2, n2, rv2, hl2, e2⟩ := I1.lstM hb
    have ih1 : s1.heap.IsList a its1.toArray := ⟨_, e1, rfl, n1, rfl⟩
    have ih2 : s1.heap.IsList b its2.toArray := ⟨_, e2, rfl, n2, rfl⟩
    refine call_zip_2 ih1 ih2 fun h' z1 z2 z3 z4 z5 z6 z7 => ?_
    have I2 : Inv X pins σ H1 { s1 with heap := h' } := I1.kept (t' := s1.toks) z7
    refine wpAny_pyIter_zip (s := { s1 with heap := h' }) z1 ?_
    refine ⟨_, _, _, Itz a b, H1, rfl, I2, turn_zip a b _ _ _ _ _ (zipApart_new (Heap.lt_size e1) (Heap.lt_size e2)), ⟨z1, z2, ⟨_, _, z3⟩, z4, z5⟩, fun c hc => ?_, q⟩
    have hge : s1.heap.objs.size ≤ c := by
      simp only [List.mem_cons, List.not_mem_nil, or_false] at hc
      rcases hc with q | q | q | q | q <;> (subst q; first | exact Nat.le_add_right _ _ | exact Nat.le_refl _)
    exact I1.fpOk hge (I1.hok.fresh hge)
theorem for_zip {a b : Addr} {xs ys : List V} {g : TG} {tb : TS} {D : Ends} {σ : St} {H : Hp} (Pv : Nat → St → Hp → Prop) (h0 : Pv 0 σ H) (hl : ∀ i σ H, i ≤ min xs.length ys.length → Pv i σ H → H a = some (.lst xs) ∧ H b = some (.lst ys))
    (hs : ∀ i u v p σ H, xs[i]? = some u → ys[i]? = some v → H p = none → Pv i σ H → g (.ref p) σ (upd H p (.tup [u, v])) fun σ2 H2 => tb { D with nx := Pv (i + 1), ct := Pv (i + 1), bk := D.nx } σ2 H2) (hd : ∀ σ H, Pv (min xs.length ys.length) σ H → D.nx σ H) :
    ∃ W : Nat → Nat → St → Hp → Prop, (∃ m, W 0 m σ H) ∧ ∀ i m σ H, W i m σ H →
      ((Itz a b).stop i H ∧ D.nx σ H) ∨ ((Itz a b).go i H ∧ ∃ N : St → Hp → Prop, (∀ σ' H', N σ' H' → ∃ m', m' < m ∧ W (i + 1) m' σ' H') ∧ ∀ x H', (Itz a b).yld i H x H' → g x σ H' fun σ2 H2 => tb { D with nx := N, ct := N, bk := D.nx } σ2 H2) := by
  refine ⟨fun i m σ H => m = min xs.length ys.length - i ∧ i ≤ min xs.length ys.length ∧ Pv i σ H, ⟨min xs.length ys.length, by simp, Nat.zero_le _, h0⟩, ?_⟩
  rintro i m σ H ⟨rfl, hi, p⟩
  obtain ⟨qa, qb⟩ := hl i σ H hi p
  by_cases hlt : i < min xs.length ys.length
  · refine .inr ⟨⟨xs, ys, qa, qb, by omega, by omega⟩, Pv (i + 1), fun σ' H' p' => ⟨min xs.length ys.length - (i + 1), by omega, rfl, hlt, p'⟩, fun x H' y => ?_⟩
    obtain ⟨xs', ys', u, v, q, ea, eb, eu, ev, hq, e1, e2⟩ := y
    rw [qa] at ea
    rw [qb] at eb
    have e3 : xs = xs' := HO.lst.inj (Option.some.inj ea)
    have e4 : ys = ys' := HO.lst.inj (Option.some.inj eb)
    subst e3 e4 e1 e2
    exact hs i u v q σ H eu ev hq p
  · have e : i = min xs.length ys.length := by omega
    subst e
    exact .inl ⟨⟨xs, ys, qa, qb, by omega⟩, hd σ H p⟩
/-! ### xs[::-1] -/
def tRev (K : PySem.W.Frag) (te : TE) : TE := fun σ H Q => te σ H fun x H1 => ∃ a xs, x = .ref a ∧ SqL K H1 a xs ∧ ∀ p, H1 p = none → Q (.ref p) (upd H1 p (.lst xs.reverse))
theorem pe_rev_slice {X : Cx} {e : Expr} {te : TE} {pos p1 p2 p3 : Pos} {j : Nat} (he : PE X e te) : PE X (.Subscript e (.Slice none none (some (.UnaryOp .USub (.Constant (.int 1) j p1) p2)) p3) pos) (tRev X.K te) := by
  intro pins s σ H Q I h
  refine Subscript_ (thn (he pins s σ H _ I h) fun v s1 ⟨x, H1, I1, r1, q1⟩ => ?_)
  obtain ⟨a, xs, rfl, hq, q⟩ := q1
  cases r1
  refine wpAny_Slice ?_
  rw [evalPart_none, evalPart_some]
  refine wpAny_pure (wpAny_pure ?_)
  refine thn (pe_un un_neg (pe_int (i := 1)) pins s1 σ H1 (fun y H' => y = .int (-1) ∧ H' = H1) I1 ⟨1, rfl, rfl, rfl⟩) fun u s2 ⟨y, H2, I2, r2, e1, e2⟩ => ?_
  subst e1 e2
  obtain ⟨t, rfl⟩ := r2
  have I3 : Inv X pins σ H2 { s2 with heap := s2.heap.push { cls := .type "slice", data := .fields #[.none, .none, .int (-1) t] } } := I2.kept (t' := s2.toks) fun b ob q => Heap.get?_push_of_some _ q
  obtain ⟨its, r, ht, hz⟩ := I3.list hq
  have hlen := r.length
  refine tail_any (ops := [.ref a, .ref s2.heap.objs.size]) ht.isList.typeIs slot_list_getitem.lookup (wpAny_getItem_list_slice ht.isList (Heap.IsSliceOf.new ..) .none .none (.int (-1) t) (by simp) ?_ (by rw [List.size_toArray] <;> omega)) (by with_unfolding_all rfl)
  rw [PySem.W.krv_pick]
  refine ⟨.ref _, _, I3.laid (t' := s2.toks) (o := .lst xs.reverse) (fun b ob q => Heap.get?_push_of_some _ q) (Nat.le_refl _) ?_, rfl, q _ (I3.hok.fresh (Nat.le_refl _))⟩
  exact ⟨by rw [List.length_reverse]; exact hz, _, 0, r.reverse, Heap.get?_push_size _ rfl⟩
end L2

namespace L2
open PySem PySem.Spec PyProof.Rows
section
variable {X : Cx} {e e2 : Expr} {te te2 : TE} {p p2 pos : Pos}
end
end L2
namespace L2
open PySem PySem.Spec PyProof.Rows
/-! ### a row of written whole numbers -/
end L2

namespace L2
open PySem PySem.Spec PyProof.Rows
/-! ### enumerate of a list -/
theorem bt_enum : bootBuiltins "enumerate" = some (.type "enumerate") := by decide +kernel
end L2

namespace L2
open PySem PySem.Spec PyProof.Rows
/-! ### sum of a list of small numbers -/
theorem preSum_take {ns : List Int} : ∀ j, j ≤ ns.length → preSum (fun i => ns.getD i 0) j = (ns.take j).sum
  | 0, _ => by simp [preSum]
  | j + 1, h => by
    rw [show preSum (fun i => ns.getD i 0) (j + 1) = preSum (fun i => ns.getD i 0) j + ns.getD j 0 from rfl, preSum_take j (by omega), List.take_succ]
    have : ns[j]? = some (ns.getD j 0) := by
      rw [List.getD_eq_getElem?_getD]
      cases q : ns[j]? with
      | none => rw [List.getElem?_eq_none_iff] at q; omega
      | some v => rfl
    rw [this, List.sum_append]; simp
section
variable {X : Cx}
variable {e : Expr} {te : TE} {p pos : Pos}
end
end L2

namespace L2
open PySem PySem.Spec PyProof.Rows
/-! ### list of a text -/
theorem vals_of_get : ∀ {xs : List V} {us : List Value}, xs.length = us.length → (∀ (i : Nat) (x : V) (u : Value), xs[i]? = some x → us[i]? = some u → RelV x u) → Vals xs us
  | [], [], _, _ => .nil
  | [], _ :: _, h, _ => by simp at h
  | _ :: _, [], h, _ => by simp at h
  | x :: xs, u :: us, h, g => .cons (g 0 x u rfl rfl) (vals_of_get (by simpa using h) fun i x' u' a b => g (i + 1) x' u' (by simpa using a) (by simpa using b))
section
variable {X : Cx} {e : Expr} {te : TE} {p pos : Pos}
theorem call_listS (hc : X.calm = true) : CallR X (.type "list") (fun xs H Q => ∃ z : Str, xs = [.str z] ∧ z.length ≤ sizeLine ∧ ∀ l, H l = none → Q (.ref l) (upd H l (.lst (z.cps.toList.map sg)))) := by
  intro pins s σ H xs us Q I r h
  obtain ⟨z, rfl, hz, q⟩ := h
  obtain ⟨u, rfl, rx⟩ := vals1 r
  obtain ⟨t, rfl⟩ := rx
  refine call_list_str (hn := hz) (I.ok.hd hc) z t fun h' tk acc c k hl hit => ?_
  refine ⟨.ref _, _, I.laid (t' := tk) (o := .lst (z.cps.toList.map sg)) k (Nat.le_refl _) ?_, rfl, q _ (I.hok.fresh (Nat.le_refl _))⟩
  obtain ⟨hsz, hat⟩ := hit
  refine ⟨by rw [List.length_map]; simpa [Str.length] using hz, acc.toList, c, ?_, by simpa using hl⟩
  refine vals_of_get (by rw [List.length_map]; simp [hsz]) fun i x u hx hu => ?_
  have hu' : acc[i]? = some u := by simpa using hu
  obtain ⟨c', t', h1, rfl⟩ := hat i u hu'
  rw [List.getElem?_map] at hx
  have : z.cps.toList[i]? = some c' := by simpa using h1
  rw [this] at hx
  have e : sg c' = x := Option.some.inj hx
  subst e
  exact ⟨t', rfl⟩
def tListS (te : TE) : TE := fun σ H Q => te σ H fun x H1 => ∃ z : Str, x = .str z ∧ z.length ≤ sizeLine ∧ ∀ l, H1 l = none → Q (.ref l) (upd H1 l (.lst (z.cps.toList.map sg)))
theorem pe_listS (hc : X.calm = true) (hm : X.mg "list" = none) (ha : PE X e te) (hg : Gl X "list" := by rfl) (he : starEach [e] X.env = [(false, eval e X.env)] := by rfl) : PE X (.Call (.Name "list" p) [e] [] pos) (tListS te) :=
  pe_callTy (r := r1 fun x H Q => ∃ z : Str, x = .str z ∧ z.length ≤ sizeLine ∧ ∀ l, H l = none → Q (.ref l) (upd H l (.lst (z.cps.toList.map sg)))) (callR1 fun pins s σ H x us Q I rv ⟨z, ex, h, q⟩ => call_listS hc pins s σ H _ us Q I rv ⟨z, by rw [ex], h, q⟩) hg hm bt_list (pa_cons ha pa_nil (by exact he)) (he := by exact he)
end
end L2

namespace L2
open PySem PySem.Spec PyProof.Rows
/-! ### a comprehension with several names -/

structure CompOK2 (outer sc : Scope) (xs : List Str) (M N : List Str) : Prop where
  kind : sc.kind = .function
  nocell : ∀ y ∈ sc.names, y.2 ≠ .cell
  loc : ∀ y ∈ sc.names, y.2 = .local → sc.names.lookup y.1 = some .local
  own : ∀ x ∈ xs, sc.names.lookup x = some .local
  free : ∀ y ∈ sc.names, y.2 = .free → (outer.names.lookup y.1 = some .cell ∨ outer.names.lookup y.1 = some .free)
  nd : (M ++ xs).Nodup
  len : M.length = N.length
  same : ∀ p ∈ M.zip N, p.1 = p.2 ∨ sc.names.lookup p.1 = none
  noloc : ∀ y ∈ M, sc.names.lookup y ≠ some .local

section
variable {X : Cx} {pins : List (Addr × Obj)} {σ : St} {H2 : Hp} {s2 : Shared} {scope : Scope} {xs M : List Str} {cl : List (Str × Addr)} {fp : List Addr} {h1 : Heap} {t' : Nat}

end


/-! ### isinstance with a row of built-in classes -/
inductive TyB (H : Hp) : V → Value → Prop where
  | non : TyB H .non (.type "NoneType")
  | bl (x : Bool) : TyB H (.bl x) (.type "bool")
  | int (i : Int) : TyB H (.int i) (.type "int")
  | str (x : Str) : TyB H (.str x) (.type "str")
  | lst {a : Addr} {xs : List V} (e : H a = some (.lst xs)) : TyB H (.ref a) (.type "list")
  | tup {a : Addr} {xs : List V} (e : H a = some (.tup xs)) : TyB H (.ref a) (.type "tuple")
section
variable {X : Cx} {e : Expr} {te : TE} {p pos : Pos}
end
/-! ### the walk of a comprehension over zip -/
end L2

namespace L2
open PySem PySem.Spec PyProof.Rows
/-! ### exceptions: how one lies behind a call -/
theorem frames_data {h base : Heap} : ∀ {l : List Env}, h.FunFrames base l → ∀ L ∈ frs l, ∃ o, h.get? L = some o ∧ ∀ vs, o.data ≠ .fields vs
  | [], _, L, hL => by cases hL
  | env :: r, ⟨h1, ⟨L', o, h2, h3, h4, h5⟩, h6⟩, L, hL => by
    obtain ⟨en, e3, e4⟩ := List.mem_filterMap.mp hL
    rcases List.mem_cons.mp e3 with z | z
    · subst z
      have : L = L' := Option.some.inj (e4.symm.trans h2)
      subst this
      exact ⟨o, h4, h5⟩
    · exact frames_data h6 L (List.mem_filterMap.mpr ⟨en, z, e4⟩)
section
variable {X : Cx} {pins : List (Addr × Obj)} {σ : St} {H1 : Hp} {s1 : Shared}
/-- the frames behind a state of a body -/
theorem Inv.fsAt (I : Inv X pins σ H1 s1) : ∀ L ∈ X.fs, ∃ o, s1.heap.get? L = some o ∧ (∀ vs, o.data ≠ .fields vs) ∧ H1 L = none ∧ X.base.get? L = none := fun L hL => by
  obtain ⟨o, h1, h2⟩ := frames_data I.ok.funs L hL
  have hx : L ∉ X.ex := fun z => I.ok.exfs L z hL
  obtain ⟨sl, e⟩ := I.base.slot L o h1 (I.ok.frf L hL) hL hx
  exact ⟨_, e, h2, I.base.free L o h1 (I.ok.frf L hL) hx, (I.ok.funs.mem hL).1⟩
end
/-! ### own classes under ValueError, raised -/
abbrev mroV : List Value := [.type "ValueError", .type "Exception", .type "BaseException", .type "object"]
/-- what the top has written of such a class -/
structure Exc (K : PySem.W.Frag) (mg : Str → Option Value) (x : Str) (C : Addr) : Prop where
  bound : mg x = some (.ref C)
  isIn : PySem.W.excIn K C mroV "ValueError.__new__" = true
end L2

namespace L2
open PySem PySem.Spec PyProof.Rows
/-! ### try .. except C as n: the tried body, what is caught, the suite -/
section
variable {X : Cx} {pins : List (Addr × Obj)} {σ σ0 : St} {H H1 : Hp} {s s1 : Shared} {E0 : XK}
/-- the state in which an exception is caught -/
theorem Inv.caught {s' : Shared} {H' : Hp} {B h5 : Heap} (hst : X.stack = X.env :: X.outer) (hfr : X.env.frame = some X.env.locals) (I : Inv X pins σ H1 s1) (os : s'.os = s1.os) (gb : AllBare s'.gens)
    (un : Un (frs X.stack) [] H1 H' s1.heap s'.heap) (hok : HOk X.prog X.w H' s'.heap) (hB : ∀ b o, s'.heap.get? b = some o → b ∉ frs X.stack → (s1.heap.get? b ≠ none ∨ H' b ≠ none) → B.get? b = some o)
    (st5 : ∀ b o, B.get? b = some o → h5.get? b = some o) (up : s'.heap.UpToSlots h5) : Inv X pins σ H' { s' with heap := h5 } := by
  have frn : ∀ b, b ∈ frs X.stack → H1 b = none ∧ H' b = none ∧ ∃ o, s1.heap.get? b = some o ∧ ∀ vs, o.data ≠ .fields vs := fun b hm => by
    have h1 : ∃ o, s1.heap.get? b = some o ∧ (∀ vs, o.data ≠ .fields vs) ∧ H1 b = none := by
      rw [hst] at hm
      obtain ⟨en, e3, e4⟩ := List.mem_filterMap.mp hm
      rcases List.mem_cons.mp e3 with z | z
      · subst z
        have : b = X.env.locals := Option.some.inj (e4.symm.trans hfr)
        subst this
        obtain ⟨m, hn', _⟩ := I.loc
        obtain ⟨o, es, ep, ho, hd, _⟩ := id hn'
        exact ⟨o, ho, (fun vs q => by rw [hd] at q; cases q), I.free⟩
      · obtain ⟨o, h1, h2, h3, _⟩ := I.fsAt b (List.mem_filterMap.mpr ⟨en, z, e4⟩)
        exact ⟨o, h1, h2, h3⟩
    obtain ⟨o, h2, h3, h4⟩ := h1
    exact ⟨h4, un.free b o h2 h4 (by simp), o, h2, h3⟩
  have st : ∀ b o, s'.heap.get? b = some o → b ∉ frs X.stack → (s1.heap.get? b ≠ none ∨ H' b ≠ none) → h5.get? b = some o := fun b o q n z => st5 b o (hB b o q n z)
  refine I.call' (ch := []) os ⟨fun b o q n hb hx => ?_, fun b o q n hb hx => ?_, un.free, fun b o q hx => ?_, un.tups, un.frzs, un.tbls⟩ (fun b u q => ?_) gb (by simp)
  · exact st b o (un.keep b o q n hb hx) hb (.inl (by rw [q]; simp))
  · obtain ⟨z, q'⟩ := un.slot b o q n hb hx
    obtain ⟨_, _, o2, q2, q3⟩ := frn b hb
    rw [q] at q2; cases q2
    obtain ⟨z', q4⟩ := up b _ q' q3
    exact ⟨z', q4⟩
  · by_cases hb : b ∈ frs X.stack
    · obtain ⟨n1, _, o2, q2, q3⟩ := frn b hb
      rw [q] at q2; cases q2
      obtain ⟨z, q'⟩ := un.slot b o q n1 hb hx
      obtain ⟨z', q4⟩ := up b _ q' q3
      exact ⟨_, q4⟩
    · obtain ⟨o2, q2⟩ := un.there b o q hx
      exact ⟨o2, st b o2 q2 hb (.inl (by rw [q]; simp))⟩
  · refine (hok b u q).stay (fun c v hc q' => st c v q' ?_ (.inr ?_)) (fun _ q' => q') fun _ _ q' => q'
    · intro hm
      rcases hc with z | z
      · rw [z] at hm; rw [(frn b hm).2.1] at q; cases q
      · rw [(frn c hm).2.1] at z; cases z
    · rcases hc with z | z
      · rw [z, q]; simp
      · rw [z]; simp
end
/-- what is wanted behind the suite, where the name goes -/
def Ends.drop (D : Ends) (i : Nat) : Ends := ⟨fun σ H => D.nx (σ.set i none) H, D.rt, fun σ H => D.bk (σ.set i none) H, fun σ H => D.ct (σ.set i none) H⟩
end L2

namespace PySem.W
open PySem PySem.Spec PySem.Calls PyProof.Rows Builtin Builtin.ObjectAttr Builtin.Getset_descriptor
section
variable {prog : Program} {w : World} {A : Around} {E : Value → Shared → Prop} {K : Frag} {h : Heap} {g : Array GenState} {d : Drawn} {t : Nat} {os : OsState} {a D : Addr} {o : Obj} {R : Result → Shared → Prop}
/-- what the top must say of an own class of exceptions, for isinstance -/
def excKit (K : Frag) (D : Addr) : Bool := (clsIn K D).isSome && mroIn K D (.type "object") == some true && mroIn K D (.type "BaseException") == some true && findIn K (.ref D) "__getattribute__" == some (some (.builtin "BaseException.__getattribute__"))
  && findIn K (.ref D) "__getattr__" == some none && findIn K (.ref D) "__class__" == some (some (.builtin "object.__class__"))
end
end PySem.W

namespace L2
open PySem PySem.Spec PyProof.Rows
/-! ### isinstance of a caught thing; count and index of truths; lists of texts as data -/
section
variable {X : Cx} {e e2 : Expr} {te te2 : TE} {p p2 pos : Pos}
end
/-! ### all own classes of exceptions of a text -/
def excFacts (K : PySem.W.Frag) (CE : Addr) (Cs : List Addr) : Bool :=
  Cs.all fun D => PySem.W.exmOne K (.ref D) (.ref CE) == some true && PySem.W.excKit K D && PySem.W.excIn K D mroV "ValueError.__new__" && PySem.W.kitOne K (.ref D) (.type "ValueError") == some true && Cs.all fun C => PySem.W.kitOne K (.ref D) (.ref C) == some (D == C)
structure ExF (K : PySem.W.Frag) (CE D : Addr) (Cs : List Addr) : Prop where
  exm : PySem.W.exmOne K (.ref D) (.ref CE) = some true
  kit : PySem.W.excKit K D = true
  isIn : PySem.W.excIn K D mroV "ValueError.__new__" = true
  val : PySem.W.kitOne K (.ref D) (.type "ValueError") = some true
  one : ∀ C ∈ Cs, PySem.W.kitOne K (.ref D) (.ref C) = some (D == C)
theorem excFacts.of {K : PySem.W.Frag} {CE : Addr} {Cs : List Addr} (h : excFacts K CE Cs = true) : ∀ D ∈ Cs, ExF K CE D Cs := fun D hD => by
  have h1 := List.all_eq_true.mp h D hD
  simp only [Bool.and_eq_true, beq_iff_eq] at h1
  obtain ⟨⟨⟨⟨a, b⟩, c⟩, d⟩, e⟩ := h1
  exact ⟨a, b, c, d, fun C hC => beq_iff_eq.mp (List.all_eq_true.mp e C hC)⟩
theorem ExF.any {K : PySem.W.Frag} {CE D : Addr} {Cs : List Addr} (h : ExF K CE D Cs) : ∀ cs : List Addr, (∀ c ∈ cs, c ∈ Cs) → PySem.W.kitAny K (.ref D) (cs.map Value.ref) = some (cs.any fun c => D == c)
  | [], _ => rfl
  | c :: r, hc => by
    have h1 := h.one c (hc c List.mem_cons_self)
    have h2 := h.any r fun d hd => hc d (List.mem_cons_of_mem _ hd)
    rw [List.map_cons, PySem.W.kitAny, h1]
    cases q : D == c with
    | true => simp [q]
    | false => simp [q, h2]
/-! ### count and index of truths -/
section
variable {X : Cx}
end
/-! ### lists of texts as data -/
end L2
namespace L2
open PySem PySem.Spec PyProof.Rows
section
variable {X : Cx}
end
end L2

namespace PySem.W
open PySem PySem.Spec PySem.Calls PyProof.Rows
/-! ### enumerate(xs, start=1) -/
theorem enum_new1 (l : Addr) (items : Array Value) (n : Nat) (dct : Option Addr) (sl : Array (Option Value)) (u : Tok) :
    Meets (Builtin.«enumerate.__new__» ⟨[.type "enumerate", .ref l], [("start", .int 1 u)]⟩) (fun _ R s => s.heap.get? l = some { cls := .type "list", dict := dct, data := .seq items n, slots := sl } ∧
      R (.ok (.ret (.ref (s.heap.push { cls := .type "list_iterator", data := .fields #[.ref l, .int 0 0] }).objs.size)))
        { s with heap := (s.heap.push { cls := .type "list_iterator", data := .fields #[.ref l, .int 0 0] }).push { cls := .type "enumerate", data := .fields #[.none, .bool false, .ref s.heap.objs.size, rawInt 1, .none, .none] } }) :=
  .of_wp fun prog w A R s ⟨hl, h⟩ => by
    obtain ⟨hp, g, d, tk, os⟩ := s
    have hsub := sub_enumerate; have hL : Heap.IsList (Shared.heap ⟨hp, g, d, tk, os⟩) l items := ⟨_, hl, rfl, n, rfl⟩
    wp_walk using PySem.AutoSeq1.wpAny_loadPart' hl
    refine wpAny_stack_any fun st => wpAny_pure ?_
    split
    · rename_i c _ _ _ _ _; cases (c == Value.type "enumerate") <;> (wp_walk using PySem.AutoSeq1.wpAny_loadPart' hl, wpAny_pyIter_list hL; exact ⟨_, rfl, h⟩)
    · wp_walk using PySem.AutoSeq1.wpAny_loadPart' hl, wpAny_pyIter_list hL; exact ⟨_, rfl, h⟩
theorem enum_init1 (o a : Value) (u : Tok) : argsOk "object.__init__" ⟨[o, a], [("start", .int 1 u)]⟩ := by unfold argsOk; kernel_rfl
theorem enum_check1 (a : Value) (u : Tok) : checkTypeCall "enumerate" ⟨[a], [("start", .int 1 u)]⟩ = pure () := by kernel_rfl
theorem enum_check2 (a : Value) (u : Tok) : checkBuiltinCall "enumerate.__new__" ⟨[.type "enumerate", a], [("start", .int 1 u)]⟩ = pure () := by kernel_rfl
theorem obj_init_kw {self a : Value} {u : Tok} : Meets (Builtin.«object.__init__» ⟨[self, a], [("start", .int 1 u)]⟩) (fun _ R s => s.TypeIs self "enumerate" ∧ R (.ok (.ret .none)) s) := by
  refine Meets.of_wp fun prog w A R s ⟨hT, hq⟩ => ?_
  have hl := F.called_enumerate.init.lookup; have hm := F.called_enumerate.made
  have hne : (some "enumerate.__new__" != some "object.__new__") = true := by decide
  repeat (any_goals (first | assumption | wp_step))
  exact ⟨_, rfl, hq⟩
section
variable {prog : Program} {w : World} {A : Around} {E : Value → Shared → Prop} {s : Shared}
theorem call_enum1 {l : Addr} {items : Array Value} {u : Tok} {Q : Value → Shared → Prop} (hL : s.heap.IsList l items)
    (k : ∀ h', IsEnum h' (s.heap.objs.size + 1) s.heap.objs.size 1 .none → h'.IsListIter s.heap.objs.size l 0 → h'.objs.size = s.heap.objs.size + 2 → (∀ b o, s.heap.get? b = some o → h'.get? b = some o) → Q (.ref (s.heap.objs.size + 1)) { s with heap := h' }) :
    wpAny (model prog w) A (call (.type "enumerate") [.ref l] [("start", .int 1 u)]) Q E s := by
  obtain ⟨⟨c, dct, dt, sl⟩, hl, hc, n, hd⟩ := hL
  obtain rfl : c = .type "list" := hc
  obtain rfl : dt = .seq items n := hd
  obtain ⟨c0, tl, hmro⟩ := F.called_enumerate.mro
  have hmade := F.called_enumerate.made; have hsub := F.called_enumerate.sub; have h1 := F.called_enumerate.notType; have h2 := F.called_enumerate.canCreate; have hct := enum_check1 (.ref l) u
  refine wpAny_call (codeAny_of_tree ?_)
  show wpAny _ _ (callAny (.type "enumerate") _) _ _ _
  refine wpAny_pure ⟨Code.quiet_builtin _ (by decide +kernel), codeAny_builtin F.entry_type_call ?_⟩
  rw [Around.under_plain (weight_type_call_type "enumerate" [.ref l] [("start", .int 1 u)]) (units_type_call_type "enumerate" [.ref l] [("start", .int 1 u)])]
  repeat (any_goals (first | assumption | wp_step))
  let h2 : Heap := (s.heap.push { cls := .type "list_iterator", data := .fields #[.ref l, .int 0 0] }).push { cls := .type "enumerate", data := .fields #[.none, .bool false, .ref s.heap.objs.size, rawInt 1, .none, .none] }
  have hz : (s.heap.push { cls := .type "list_iterator", data := .fields #[.ref l, .int 0 0] }).objs.size = s.heap.objs.size + 1 := Heap.size_push ..
  have he : IsEnum h2 (s.heap.objs.size + 1) s.heap.objs.size 1 .none := by
    have := Heap.get?_push_size (s.heap.push { cls := .type "list_iterator", data := .fields #[.ref l, .int 0 0] }) (o := { cls := .type "enumerate", data := .fields #[.none, .bool false, .ref s.heap.objs.size, rawInt 1, .none, .none] }) rfl
    rw [hz] at this; exact this
  have hi : h2.IsListIter s.heap.objs.size l 0 := ⟨_, Heap.get?_push_of_some _ (Heap.get?_push_size s.heap (o := { cls := .type "list_iterator", data := .fields #[.ref l, .int 0 0] }) rfl), rfl, rfl⟩
  have hs : h2.objs.size = s.heap.objs.size + 2 := by show (Heap.push _ _).objs.size = _; rw [Heap.size_push, hz]
  have hk : ∀ b o, s.heap.get? b = some o → h2.get? b = some o := fun b o e => Heap.get?_push_of_some _ (Heap.get?_push_of_some _ e)
  let R1 : Result → Shared → Prop := fun r z => r = .ok (.ret (.ref (s.heap.objs.size + 1))) ∧ z = { s with heap := h2 }
  have step : codeAny (model prog w) A.in1 (.call (.builtin "enumerate.__new__") ⟨[.type "enumerate", .ref l], [("start", .int 1 u)]⟩) R1 s := by
    refine codeAny_call_builtin F.called_enumerate.plain F.entry_enumerate_new (wpAny_of_eq (enum_check2 (.ref l) u) ?_)
    exact enum_new1 l items n dct sl u prog w A.in1 R1 s ⟨hl, by rw [hz], rfl⟩
  refine codeAny_mono step fun r z hr => ?_
  obtain ⟨rfl, rfl⟩ := hr
  have hT : ({ s with heap := h2 } : Shared).TypeIs (.ref (s.heap.objs.size + 1)) "enumerate" := ⟨_, he, rfl⟩
  have hli := F.called_enumerate.init.lookup; have hbi := F.called_enumerate.init.bind (.ref (s.heap.objs.size + 1))
  repeat (any_goals (first | assumption | wp_step))
  let R2 : Result → Shared → Prop := fun r z => r = .ok (.ret .none) ∧ z = { s with heap := h2 }
  have step2 : codeAny (model prog w) A.in1 (.call (.builtin "object.__init__") ⟨[.ref (s.heap.objs.size + 1), .ref l], [("start", .int 1 u)]⟩) R2 { s with heap := h2 } := by
    refine codeAny_call_builtin F.called_enumerate.init.plain F.entry_object_init (F.called_enumerate.init.check _ _ _ _ _ _ _ _ hT (enum_init1 _ _ u) ?_)
    exact obj_init_kw prog w A.in1 R2 _ ⟨hT, rfl, rfl⟩
  refine codeAny_mono step2 fun r z hr => ?_
  obtain ⟨rfl, rfl⟩ := hr
  repeat (any_goals (first | assumption | wp_step))
  exact k h2 he hi hs hk
/-- the next item, numbered c -/
theorem enum_next {e it l : Addr} {i : Nat} {c : Int} {items : Array Value} {x old : Value} {Q : Value → Shared → Prop} (he : IsEnum s.heap e it c old) (hit : s.heap.IsListIter it l i) (hl : s.heap.IsList l items) (hx : items[i]? = some x) (hne : e ≠ it)
    (hQ : ∀ h', IsEnumOut h' e it (c + 1) x s.heap.objs.size → h'.IsListIter it l (i + 1) → h'.get? s.heap.objs.size = some { cls := .type "tuple", data := .seq #[.int c s.toks, x] } → (∀ b o, b ≠ e → b ≠ it → s.heap.get? b = some o → h'.get? b = some o) → Q (.ref s.heap.objs.size) { s with heap := h', toks := s.toks + 1 }) :
    wpAny (model prog w) A (Builtin.«enumerate.__next__» ⟨[.ref e], []⟩) (fun fin s' => ∃ v, fin = .done (.ret v) ∧ Q v s') E s := by
  obtain ⟨hp, g, d, tk, os⟩ := s
  show wpAny _ _ (field (.ref e) 2 >>= _) _ _ _; refine wpAny_bind (wpAny_field he rfl (x := .ref it) rfl ?_)
  refine wpAny_bind (wpAny_nextOf_list_item hit hl hx fun ha hia (sa : Heap.SameBut it hp ha) => ?_)
  have ea : IsEnum ha e it c old := (sa.2 e hne).trans he
  show wpAny _ _ (field (.ref e) 3 >>= _) _ _ ⟨ha, g, d, tk, os⟩; refine wpAny_bind (wpAny_field ea rfl (x := rawInt c) rfl ?_)
  show wpAny _ _ (field (.ref e) 4 >>= _) _ _ ⟨ha, g, d, tk, os⟩; refine wpAny_bind (wpAny_field ea rfl (x := .none) rfl ?_)
  show wpAny _ _ (mkInt c >>= _) _ _ ⟨ha, g, d, tk, os⟩; refine wpAny_bind (wpAny_mkInt ?_)
  show wpAny _ _ (setField (.ref e) 3 (rawInt (c + 1)) >>= _) _ _ ⟨ha, g, d, tk + 1, os⟩
  refine wpAny_bind (wpAny_setField_rec ea (by simp) fun hb (eb : IsEnum hb e it (c + 1) old) (sb : Heap.SameBut e ha hb) => ?_)
  show wpAny _ _ (setField (.ref e) 4 .none >>= _) _ _ ⟨hb, g, d, tk + 1, os⟩
  refine wpAny_bind (wpAny_setField_rec eb (by simp) fun hc (ec : IsEnum hc e it (c + 1) old) (sc : Heap.SameBut e hb hc) => ?_)
  show wpAny _ _ (newTuple [.int c tk, x] >>= _) _ _ ⟨hc, g, d, tk + 1, os⟩
  refine wpAny_bind (wpAny_newTuple ?_)
  have ed : IsEnum (hc.push { cls := .type "tuple", data := .seq #[.int c tk, x] }) e it (c + 1) old := Heap.get?_push_of_some _ ec
  have hsz : hc.objs.size = hp.objs.size := by rw [sc.1, sb.1, sa.1]
  have hel : e < hp.objs.size := Heap.lt_size he
  have td : (hc.push { cls := .type "tuple", data := .seq #[.int c tk, x] }).get? hp.objs.size = some { cls := .type "tuple", data := .seq #[.int c tk, x] } := by rw [← hsz]; exact Heap.get?_push_size _ rfl
  have kd : ∀ b o, b ≠ e → b ≠ it → hp.get? b = some o → (hc.push { cls := .type "tuple", data := .seq #[.int c tk, x] }).get? b = some o := fun b o n1 n2 q => Heap.get?_push_of_some _ (sc.extBut b o n1 (sb.extBut b o n1 (sa.extBut b o n2 q)))
  have id' : (hc.push { cls := .type "tuple", data := .seq #[.int c tk, x] }).IsListIter it l (i + 1) := by
    obtain ⟨o, ho, r⟩ := (hia.extBut sb.extBut (Ne.symm hne)).extBut sc.extBut (Ne.symm hne); exact ⟨o, Heap.get?_push_of_some _ ho, r⟩
  show wpAny _ _ (Builtin.SmallTypes.ownedTupleIsFree (.ref e) >>= _) _ _ ⟨hc.push { cls := .type "tuple", data := .seq #[.int c tk, x] }, g, d, tk + 1, os⟩
  rw [hsz]
  generalize hc.push { cls := .type "tuple", data := .seq #[.int c tk, x] } = hd at ed td kd id'
  refine wpAny_bind ?_
  unfold Builtin.SmallTypes.ownedTupleIsFree
  refine wpAny_bind (wpAny_field ed rfl (x := .none) rfl (wpAny_pure ?_)); simp only [if_true]; refine wpAny_bind (wpAny_rule (wpAny_bind (wpAny_field ed rfl (x := old) rfl ?_)))
  refine wpAny_bind (wpAny_setField_rec ed (by simp) fun hE (ee : IsEnum hE e it (c + 1) x) (se : Heap.SameBut e hd hE) => ?_)
  show wpAny _ _ (Builtin.SmallTypes.ownedTupleHandOut (.ref e) (.ref hp.objs.size) >>= _) _ _ ⟨hE, g, d, tk + 1, os⟩
  refine wpAny_bind ?_
  unfold Builtin.SmallTypes.ownedTupleHandOut
  refine wpAny_bind (wpAny_setField_rec ee (by simp) fun hF (ef : IsEnumOut hF e it (c + 1) x hp.objs.size) (sf : Heap.SameBut e hE hF) => ?_)
  refine wpAny_setField_rec ef (by simp) fun hG (eg : IsEnumOut hG e it (c + 1) x hp.objs.size) (sg : Heap.SameBut e hF hG) => ?_
  refine wpAny_bind (wpAny_letGo (wpAny_pure ⟨_, rfl, hQ hG eg ?_ ?_ ?_⟩))
  · exact ((id'.extBut se.extBut (Ne.symm hne)).extBut sf.extBut (Ne.symm hne)).extBut sg.extBut (Ne.symm hne)
  · exact sg.extBut _ _ (Nat.ne_of_gt hel) (sf.extBut _ _ (Nat.ne_of_gt hel) (se.extBut _ _ (Nat.ne_of_gt hel) td))
  · exact fun b o n1 n2 q => sg.extBut b o n1 (sf.extBut b o n1 (se.extBut b o n1 (kd b o n1 n2 q)))
theorem next_enum {e it l : Addr} {i : Nat} {c : Int} {items : Array Value} {x old : Value} {Q : Option Value → Shared → Prop} (he : IsEnum s.heap e it c old) (hit : s.heap.IsListIter it l i) (hl : s.heap.IsList l items) (hx : items[i]? = some x) (hne : e ≠ it)
    (hQ : ∀ h', IsEnumOut h' e it (c + 1) x s.heap.objs.size → h'.IsListIter it l (i + 1) → h'.get? s.heap.objs.size = some { cls := .type "tuple", data := .seq #[.int c s.toks, x] } → (∀ b o, b ≠ e → b ≠ it → s.heap.get? b = some o → h'.get? b = some o) → Q (some (.ref s.heap.objs.size)) { s with heap := h', toks := s.toks + 1 }) :
    wpAny (model prog w) A (pyNext (.ref e)) Q E s := by
  have hT : s.TypeIs (.ref e) "enumerate" := ⟨_, he, rfl⟩
  unfold pyNext
  exact wpAny_bind (wpAny_attempt (wpAny_callSpecial?_slot (name := Str.ofString "__next__") hT F.slot_enumerate_next (wpAny_call_entry F.slot_enumerate_next hT F.entry_enumerate_next (enum_next he hit hl hx hne fun h' a b c k => wpAny_pure (hQ h' a b c k)) (F.args_enumerate_next_1 _))))
theorem next_enum_end {e it l : Addr} {i : Nat} {c : Int} {items : Array Value} {old : Value} {Q : Option Value → Shared → Prop} (hh : A.handled = none) (he : IsEnum s.heap e it c old) (hit : s.heap.IsListIter it l i) (hl : s.heap.IsList l items) (hx : items[i]? = none)
    (hQ : ∀ h', Heap.ExtBut it s.heap h' → Q none { s with heap := h' }) : wpAny (model prog w) A (pyNext (.ref e)) Q E s := by
  have hT : s.TypeIs (.ref e) "enumerate" := ⟨_, he, rfl⟩
  unfold pyNext
  refine wpAny_bind (wpAny_attempt (wpAny_callSpecial?_slot (name := Str.ofString "__next__") hT F.slot_enumerate_next (wpAny_call_entry F.slot_enumerate_next hT F.entry_enumerate_next ?_ (F.args_enumerate_next_1 _))))
  show wpAny _ _ (field (.ref e) 2 >>= _) _ _ _; refine wpAny_bind (wpAny_field he rfl (x := .ref it) rfl ?_)
  refine wpAny_bind (wpAny_nextOf_list_end hh hit hl hx fun h' x he' ⟨o, ho, hc⟩ => ?_)
  exact wpAny_bind (wpAny_isInstance (T := "StopIteration") (b := true) ⟨o, ho, hc⟩ isSubtype_stop (wpAny_pure (hQ _ he')))
end
end PySem.W
namespace L2
open PySem PySem.Spec PyProof.Rows
theorem callWith_tyKw {M : Model} {A : Around} {E : Value → Shared → Prop} {s : Shared} {pos : Pos} {T : String} {args : List (Bool × Sem Value)} {keywords : List (Option Str × Sem Value)} {Q : Value → Shared → Prop} (hplain : args.any (·.1) = false) (hkw : keywords.any (·.1.isNone) = false)
    (h : wpAny M A (evalArgs (.type T) true args keywords) (fun a z => wpAny M A (call (.type T) ([] ++ a.pos) a.kw) Q E z) E s) : wpAny M A (callWith pos (.type T) [] args keywords) Q E s := by
  unfold callWith
  refine wpAny_bind (wpAny_holding (wpAny_mono h (fun a z hz => wpAny_bind (wpAny_standAt ?_)) fun _ _ x => x)); simp only [hplain, hkw, Bool.or_false]
  exact wpAny_bind (wpAny_pure (wpAny_bind (wpAny_mono hz (fun r y hr => wpAny_bind (wpAny_holding (wpAny_point (wpAny_pure hr)))) fun _ _ x => x)))
/-- enumerate(xs, start=1): numbers from 1 on -/
def Iten1 (a : Addr) : It :=
  ⟨fun i H => ∃ xs, H a = some (.lst xs) ∧ i < xs.length,
   fun i H x H' => ∃ xs v p, H a = some (.lst xs) ∧ xs[i]? = some v ∧ H p = none ∧ H' = upd H p (.tup [.int ((i : Int) + 1), v]) ∧ x = .ref p,
   fun i H => ∃ xs, H a = some (.lst xs) ∧ xs.length ≤ i⟩
theorem turn_enum1 {P : Program} {w : World} {K : PySem.W.Frag} {es : List Expr} {kk : Nat} {tp : Pos} (a e it : Addr) (hei : e ≠ it) (hae : a ≠ e) (hai : a ≠ it) :
    Turn P w K (.Tuple es kk tp) (Iten1 a) [e, it] e (fun i h => (∃ old, IsEnum h e it ((i : Int) + 1) old) ∧ h.IsListIter it a i) where
  mem := by simp
  obj := fun i h st c hc => by
    obtain ⟨⟨old, h1⟩, h2⟩ := st
    simp only [List.mem_cons, List.not_mem_nil, or_false] at hc
    rcases hc with rfl | rfl
    · exact ⟨_, h1, fun v q => by have q' : Data.fields _ = Data.cell v := q; cases q'⟩
    · obtain ⟨o, e, c, d⟩ := h2
      exact ⟨o, e, fun v q => by rw [d] at q; cases q⟩
  keep := fun i h h' st k => by
    obtain ⟨⟨old, h1⟩, h2⟩ := st
    exact ⟨⟨old, k e (by simp) _ h1⟩, h2.at fun o q => k it (by simp) o q⟩
  item := by
    intro X hP hw hK hc i pins s σ H E I hf st hg
    subst hP hw hK
    obtain ⟨⟨old, h1⟩, h2⟩ := st
    obtain ⟨xs, ha, hi⟩ := hg
    obtain ⟨_, its, n, rv, hl, e1⟩ := I.lstM ha
    obtain ⟨u, hu, ru⟩ := rv.get (show xs[i]? = some xs[i] by simp [hi])
    refine PySem.W.next_enum h1 h2 ⟨_, e1, rfl, n, rfl⟩ (x := u) (by simpa using hu) hei fun h' z1 z2 z3 z5 => ⟨_, rfl, ?_⟩
    refine wpAny_letOwnedTupleGo_enum (s := { s with heap := h', toks := s.toks + 1 }) z1 fun h'' y1 sb => ?_
    have elt : e < s.heap.objs.size := Heap.lt_size h1
    have ne : s.heap.objs.size ≠ e := Nat.ne_of_gt elt
    have hnew : h''.get? s.heap.objs.size = some { cls := .type "tuple", data := .seq #[.int ((i : Int) + 1) s.toks, u] } := (sb.2 _ ne).trans z3
    have kk : ∀ c o, c ∉ [e, it] → s.heap.get? c = some o → h''.get? c = some o := fun c o hc q => by
      simp only [List.mem_cons, List.not_mem_nil, or_false, not_or] at hc
      exact (sb.2 c hc.1).trans (z5 c o hc.1 hc.2 q)
    have I1 : Inv X pins σ (upd H s.heap.objs.size (.tup [.int ((i : Int) + 1), xs[i]])) { s with heap := h'', toks := s.toks + 1 } := I.turnLaid (t' := s.toks + 1) hf kk (Nat.le_refl _) ⟨by show 2 ≤ sizeLine; decide, [.int ((i : Int) + 1) s.toks, u], .cons ⟨_, rfl⟩ (.cons ru .nil), ⟨_, hnew, rfl, _, rfl⟩⟩
    refine ⟨.ref s.heap.objs.size, _, I1, rfl, ⟨xs, xs[i], s.heap.objs.size, ha, by simp [hi], I.hok.fresh (Nat.le_refl _), rfl, rfl⟩, ⟨⟨u, by simpa using y1⟩, z2.at fun o q => (sb.2 it hei.symm).trans q⟩, fun c hc => ?_⟩
    rw [upd_ne]
    · exact (hf c hc).1
    · intro q
      subst q
      obtain ⟨o, e', _⟩ : ∃ o, s.heap.get? s.heap.objs.size = some o ∧ True := by
        simp only [List.mem_cons, List.not_mem_nil, or_false] at hc
        rcases hc with q | q
        · exact absurd q ne
        · obtain ⟨o, e', _⟩ := h2; exact ⟨o, q ▸ e', trivial⟩
      exact absurd (Heap.lt_size e') (Nat.lt_irrefl _)
  done := by
    intro X hP hw hK hc i pins s σ H E I hf st hg
    subst hP hw hK
    obtain ⟨⟨old, h1⟩, h2⟩ := st
    obtain ⟨xs, ha, hend⟩ := hg
    obtain ⟨_, its, n, rv, hl, e1⟩ := I.lstM ha
    refine PySem.W.next_enum_end (I.ok.hd hc) h1 h2 ⟨_, e1, rfl, n, rfl⟩ ?_ fun h' k => ⟨rfl, I.turnMany (t' := s.toks) hf fun c o hc q => ?_⟩
    · rw [Array.getElem?_eq_none]; simp; omega
    · simp only [List.mem_cons, List.not_mem_nil, or_false, not_or] at hc
      exact k c o hc.2 q
  self := fun _ _ _ _ _ st h => wpAny_pyIter_enum st.1.choose_spec h
def iEnum1 (te : TE) : TI := fun σ H R => te σ H fun x H1 => ∃ a xs, x = .ref a ∧ H1 a = some (.lst xs) ∧ R (Iten1 a) H1
theorem pi_enum1 {X : Cx} {es : List Expr} {kk j : Nat} {tp : Pos} {e : Expr} {te : TE} {p pos kp cp : Pos} (hm : X.mg "enumerate" = none) (he : PE X e te) (hg : Gl X "enumerate" := by rfl)
    (hs : starEach [e] X.env = [(false, eval e X.env)] := by rfl) : PI X (.Tuple es kk tp) (.Call (.Name "enumerate" p) [e] [⟨some "start", .Constant (.int 1) j cp, kp⟩] pos) (iEnum1 te) := by
  intro pins s σ H R I h
  refine wpAny_Call_Name_kw (ld_blt I hg hm bt_enum ?_)
  refine callWith_tyKw (by rw [hs]; rfl) (by rfl) ?_
  have hb : backTo pos (starEach [e] X.env) = (false, eval e X.env) :: [] := by rw [hs]; rfl
  rw [hb]
  refine PyProof.Rows.evalArgs_kwB (by rfl) ?_
  rw [← hb]
  refine thn ((pa_cons he pa_nil (by exact hs)) pos pins s σ H (fun vs H2 => match vs with | [x] => ∃ a xs, x = .ref a ∧ H2 a = some (.lst xs) ∧ R (Iten1 a) H2 | _ => False) I h) fun us s1 ⟨vs, H1, I1, r1, q1⟩ => ?_
  match vs, q1 with
  | [x], q1 =>
    obtain ⟨a, xs, rfl, ha, q⟩ := q1
    obtain ⟨u, rfl, ru⟩ := r1.one
    cases ru
    refine PyProof.Rows.kws_cons (thn (pe_int (X := X) pins s1 σ H1 (fun v H2 => v = .int 1 ∧ H2 = H1) I1 ⟨rfl, rfl⟩) fun y s2 ⟨v, H2, I2, ry, ev, eh⟩ => PyProof.Rows.kws_nil ?_)
    subst ev eh
    obtain ⟨t, rfl⟩ := (show ∃ t, y = Value.int 1 t from ry)
    obtain ⟨_, its, n, rv, hl, e1⟩ := I2.lstM ha
    refine PySem.W.call_enum1 (u := t) ⟨_, e1, rfl, n, rfl⟩ fun h' z1 z2 z3 z4 => ?_
    have I3 : Inv X pins σ H2 { s2 with heap := h' } := I2.kept (t' := s2.toks) z4
    refine wpAny_pyIter_enum (s := { s2 with heap := h' }) z1 ?_
    have alt : a < s2.heap.objs.size := Heap.lt_size e1
    refine ⟨_, _, _, Iten1 a, H2, rfl, I3, turn_enum1 a _ _ (Nat.ne_of_gt (Nat.lt_succ_self _)) (Nat.ne_of_lt (Nat.lt_succ_of_lt alt)) (Nat.ne_of_lt alt), ⟨⟨_, z1⟩, z2⟩, fun c hc => ?_, q⟩
    have hge : s2.heap.objs.size ≤ c := by
      simp only [List.mem_cons, List.not_mem_nil, or_false] at hc
      rcases hc with q | q <;> (subst q; first | exact Nat.le_add_right _ _ | exact Nat.le_refl _)
    exact I2.fpOk hge (I2.hok.fresh hge)
theorem for_enum1 {a : Addr} {xs : List V} {g : TG} {tb : TS} {D : Ends} {σ : St} {H : Hp} (Pv : Nat → St → Hp → Prop) (h0 : Pv 0 σ H) (hl : ∀ i σ H, i ≤ xs.length → Pv i σ H → H a = some (.lst xs))
    (hs : ∀ i v p σ H, xs[i]? = some v → H p = none → Pv i σ H → g (.ref p) σ (upd H p (.tup [.int ((i : Int) + 1), v])) fun σ2 H2 => tb { D with nx := Pv (i + 1), ct := Pv (i + 1), bk := D.nx } σ2 H2) (hd : ∀ σ H, Pv xs.length σ H → D.nx σ H) :
    ∃ W : Nat → Nat → St → Hp → Prop, (∃ m, W 0 m σ H) ∧ ∀ i m σ H, W i m σ H →
      ((Iten1 a).stop i H ∧ D.nx σ H) ∨ ((Iten1 a).go i H ∧ ∃ N : St → Hp → Prop, (∀ σ' H', N σ' H' → ∃ m', m' < m ∧ W (i + 1) m' σ' H') ∧ ∀ x H', (Iten1 a).yld i H x H' → g x σ H' fun σ2 H2 => tb { D with nx := N, ct := N, bk := D.nx } σ2 H2) := by
  refine ⟨fun i m σ H => m = xs.length - i ∧ i ≤ xs.length ∧ Pv i σ H, ⟨xs.length, by simp, Nat.zero_le _, h0⟩, ?_⟩
  rintro i m σ H ⟨rfl, hi, p⟩
  have qa := hl i σ H hi p
  by_cases hlt : i < xs.length
  · refine .inr ⟨⟨xs, qa, hlt⟩, Pv (i + 1), fun σ' H' p' => ⟨xs.length - (i + 1), by omega, rfl, hlt, p'⟩, fun x H' y => ?_⟩
    obtain ⟨xs', v, q, ea, ev, hq, e1, e2⟩ := y
    rw [qa] at ea
    have e3 : xs = xs' := HO.lst.inj (Option.some.inj ea)
    subst e3 e1 e2
    exact hs i v q σ H ev hq p
  · have e : i = xs.length := by omega
    subst e
    exact .inl ⟨⟨xs, qa, Nat.le_refl _⟩, hd σ H p⟩
/-! ### max of a list, index of a number -/
section
variable {X : Cx} {e : Expr} {te : TE} {p pos : Pos}
theorem ints_are : ∀ {ns : List Int} {its : List Value}, Vals (ns.map V.int) its → IntsAre its ns
  | [], _, h => by cases h; exact .nil
  | n :: ns, _, h => by
    cases h with
    | cons r t => obtain ⟨u, rfl⟩ := r; exact .cons n u (ints_are t)
def rIndexI : V → List V → Hp → VK → Prop := fun x vs H Q => ∃ (l : Addr) (ns : List Int) (n : Int) (j : Nat), x = .ref l ∧ vs = [.int n] ∧ H l = some (.lst (ns.map V.int)) ∧ ns[j]? = some n ∧ (∀ i, i < j → ns[i]? ≠ some n) ∧ Q (.int (j : Int)) H
theorem mt_indexI : MtR X "list.index" rIndexI := by
  intro pins s σ H x vs v us Q I rx rv h
  obtain ⟨l, ns, k, j, rfl, rfl, hH, hj, hb, q⟩ := h
  cases rx
  obtain ⟨u, rfl, ru⟩ := rv.one
  obtain ⟨t, rfl⟩ := (show ∃ t, u = Value.int k t from ru)
  obtain ⟨z, its, n, r, hl, e⟩ := I.lstM hH
  have hi := ints_are r
  have hlen : its.length = ns.length := by have : (ns.map V.int).length = its.length := r.length; rw [List.length_map] at this; omega
  have hget : ∀ (i : Nat) (b : Int), ns[i]? = some b → ∃ u, its[i]? = some (Value.int b u) := fun i b hi => by
    obtain ⟨w, hw, rw'⟩ := r.get (show (ns.map V.int)[i]? = some (.int b) by rw [List.getElem?_map, hi]; rfl)
    obtain ⟨u, rfl⟩ := (show ∃ u, w = Value.int b u from rw')
    exact ⟨u, hw⟩
  have hjx : j < ns.length := (List.getElem?_eq_some_iff.mp hj).1
  have hsl := sizeLine_eq
  have hnl : ns.length ≤ sizeLine := by simpa using z
  have hjl : j < its.toArray.size := by simp; omega
  refine call_meets F.slot_list_index ⟨_, e, rfl⟩ F.entry_list_index (F.args_list_index_2 _ _) (SeqAt.list_indexAt l its.toArray n none #[] (.int k t) (isInt k) j hjl ?_ ?_ ?_) ⟨e, fun y hy => (eq_isInt k t hi y (by simpa using hy)).at _ _, ?_⟩
  · omega
  · obtain ⟨u, hu⟩ := hget j k hj
    have : its.toArray[j] = Value.int k u := by
      rw [List.getElem?_eq_getElem (by omega)] at hu; simpa using hu
    rw [this]; simp [isInt]
  · intro m hm hmj
    have hml : m < ns.length := by simp at hm; omega
    obtain ⟨u, hu⟩ := hget m ns[m] (by simp [hml])
    have e1 : its.toArray[m] = Value.int ns[m] u := by
      rw [List.getElem?_eq_getElem (by omega)] at hu; simpa using hu
    rw [e1]
    have := hb m hmj
    simp [hml] at this
    simp [isInt, this]
  · exact ⟨.int (j : Int), H, I.tok _, ⟨_, rfl⟩, q⟩
end
end L2

namespace L2
open PySem PySem.Spec PyProof.Rows
/-! ### products of large numbers; any of a list of truths -/
section
variable {X : Cx} {e : Expr} {te : TE} {p pos : Pos}
end
end L2

namespace L2
open PySem PySem.Spec PyProof.Rows

/-! ### lists of pairs as tables -/
section
variable {κ : Type} [DecidableEq κ]
def valV (kvs : List (κ × V)) (k : κ) : Option V := (kvs.find? fun kv => decide (kv.1 = k)).map (·.2)
/-- in its place, or at the end -/
def putK (kvs : List (κ × V)) (k : κ) (v : V) : List (κ × V) :=
  if (kvs.any fun kv => decide (kv.1 = k)) = true then kvs.map (fun kv => if kv.1 = k then (kv.1, v) else kv) else kvs ++ [(k, v)]
def dropK (kvs : List (κ × V)) (k : κ) : List (κ × V) := kvs.filter fun kv => decide (kv.1 ≠ k)

theorem valV_pos {p : κ × V} {r : List (κ × V)} {k : κ} (e : p.1 = k) : valV (p :: r) k = some p.2 := by simp [valV, List.find?_cons, e]
theorem valV_neg {p : κ × V} {r : List (κ × V)} {k : κ} (e : ¬ p.1 = k) : valV (p :: r) k = valV r k := by simp [valV, List.find?_cons, e]
theorem valV_any (k : κ) : ∀ kvs : List (κ × V), (kvs.any fun kv => decide (kv.1 = k)) = (valV kvs k).isSome
  | [] => rfl
  | p :: r => by
    rw [List.any_cons]
    by_cases e : p.1 = k
    · simp only [valV_pos e, decide_eq_true e, Bool.true_or, Option.isSome_some]
    · rw [valV_neg e, decide_eq_false e, Bool.false_or]; exact valV_any k r
theorem valV_map (k j : κ) (y : V) : ∀ kvs : List (κ × V), valV (kvs.map fun kv => if kv.1 = k then (kv.1, y) else kv) j = (valV kvs j).map fun x => if j = k then y else x
  | [] => rfl
  | p :: r => by
    have ih := valV_map k j y r
    rw [List.map_cons]
    by_cases h : p.1 = k
    · rw [if_pos h]
      by_cases e : p.1 = j
      · rw [valV_pos (p := (p.1, y)) e, valV_pos e, Option.map_some, if_pos (e.symm.trans h)]
      · rw [valV_neg (p := (p.1, y)) e, valV_neg e, ih]
    · rw [if_neg h]
      by_cases e : p.1 = j
      · rw [valV_pos (p := p) e, valV_pos e, Option.map_some, if_neg (fun z => h (e.trans z))]
      · rw [valV_neg (p := p) e, valV_neg e, ih]
theorem valV_snoc (k j : κ) (y : V) : ∀ kvs : List (κ × V), valV kvs k = none → valV (kvs ++ [(k, y)]) j = if j = k then some y else valV kvs j
  | [], _ => by
    by_cases e : k = j
    · rw [if_pos e.symm]; exact valV_pos (p := (k, y)) e
    · rw [if_neg (fun z => e z.symm)]; exact valV_neg (p := (k, y)) e
  | p :: r, hn => by
    rw [List.cons_append]
    have hk : ¬ p.1 = k := fun z => by rw [valV_pos z] at hn; cases hn
    rw [valV_neg hk] at hn
    have ih := valV_snoc k j y r hn
    by_cases e : p.1 = j
    · rw [valV_pos e, valV_pos e, if_neg (fun z => hk (e.trans z))]
    · rw [valV_neg e, valV_neg e, ih]
theorem valV_put (kvs : List (κ × V)) (k j : κ) (y : V) : valV (putK kvs k y) j = if j = k then some y else valV kvs j := by
  unfold putK
  by_cases a : (kvs.any fun kv => decide (kv.1 = k)) = true
  · rw [if_pos a, valV_map]
    rw [valV_any] at a
    by_cases e : j = k
    · obtain ⟨x, hx⟩ := Option.isSome_iff_exists.mp a
      rw [if_pos e, e, hx, Option.map_some, if_pos rfl]
    · rw [if_neg e]
      cases valV kvs j with
      | none => rfl
      | some x => rw [Option.map_some, if_neg e]
  · rw [if_neg a]
    refine valV_snoc k j y kvs ?_
    rw [valV_any] at a
    cases q : valV kvs k with
    | none => rfl
    | some x => rw [q] at a; exact (a rfl).elim
theorem length_putK (kvs : List (κ × V)) (k : κ) (v : V) : (putK kvs k v).length ≤ kvs.length + 1 := by
  unfold putK
  split
  · rw [List.length_map]; omega
  · rw [List.length_append, List.length_cons, List.length_nil]; omega

theorem RelO.isSome_eq {o : Option V} {u : Option Value} (r : RelO o u) : o.isSome = u.isSome := by
  cases o with
  | none => cases u with
    | none => rfl
    | some _ => exact (show False from r).elim
  | some _ => cases u with
    | none => exact (show False from r).elim
    | some _ => rfl
theorem RelO.getD {o : Option V} {u : Option Value} {d : V} {d' : Value} (r : RelO o u) (rd : RelV d d') : RelV (o.getD d) (u.getD d') := by
  cases o with
  | none => cases u with
    | none => exact rd
    | some _ => exact (show False from r).elim
  | some _ => cases u with
    | none => exact (show False from r).elim
    | some _ => exact r

/-- raw tables of the same keys -/
theorem KV.val {kvs : List (κ × V)} {vs : List (κ × Value)} (r : KV kvs vs) (k : κ) : RelO (valV kvs k) (valueAt vs k) := by
  unfold KV at r
  induction r with
  | nil => exact True.intro
  | @cons p q ps qs h t ih =>
    obtain ⟨h1, h2⟩ := h
    by_cases e : p.1 = k
    · have e' : q.1 = k := h1.symm.trans e
      have b : valueAt (q :: qs) k = some q.2 := by simp [valueAt, List.find?_cons, e']
      rw [valV_pos e, b]; exact h2
    · have e' : ¬ q.1 = k := fun z => e (h1.trans z)
      have b : valueAt (q :: qs) k = valueAt qs k := by simp [valueAt, List.find?_cons, e']
      rw [valV_neg e, b]; exact ih
theorem KV.any {kvs : List (κ × V)} {vs : List (κ × Value)} (r : KV kvs vs) (k : κ) : (kvs.any fun kv => decide (kv.1 = k)) = vs.any fun kv => decide (kv.1 = k) := by
  unfold KV at r
  induction r with
  | nil => rfl
  | cons h t ih => rw [List.any_cons, List.any_cons, ih, h.1]
theorem KV.repl {kvs : List (κ × V)} {vs : List (κ × Value)} (r : KV kvs vs) (k : κ) {y : V} {u : Value} (ry : RelV y u) :
    KV (kvs.map fun kv => if kv.1 = k then (kv.1, y) else kv) (vs.map fun kv => if kv.1 = k then (kv.1, u) else kv) := by
  unfold KV at r ⊢
  induction r with
  | nil => exact .nil
  | @cons p q ps qs h t ih =>
    rw [List.map_cons, List.map_cons]
    refine .cons ?_ ih
    obtain ⟨h1, h2⟩ := h
    by_cases e : p.1 = k
    · rw [if_pos e, if_pos (h1.symm.trans e)]; exact ⟨h1, ry⟩
    · rw [if_neg e, if_neg (fun z => e (h1.trans z))]; exact ⟨h1, h2⟩
theorem KV.put {kvs : List (κ × V)} {vs : List (κ × Value)} (r : KV kvs vs) (k : κ) {y : V} {u : Value} (ry : RelV y u) : KV (putK kvs k y) (stored vs k u) := by
  unfold putK stored
  rw [r.any k]
  by_cases e : (vs.any fun kv => decide (kv.1 = k)) = true
  · rw [if_pos e, if_pos e]; exact r.repl k ry
  · rw [if_neg e, if_neg e]; exact Paired.snoc r ⟨rfl, ry⟩
theorem KV.drop {kvs : List (κ × V)} {vs : List (κ × Value)} (r : KV kvs vs) (k : κ) : KV (dropK kvs k) (without vs k) := by
  unfold KV at r ⊢
  unfold dropK without
  induction r with
  | nil => exact .nil
  | @cons p q ps qs h t ih =>
    obtain ⟨h1, h2⟩ := h
    rw [List.filter_cons, List.filter_cons]
    by_cases e : p.1 = k
    · have a : ¬ decide (p.1 ≠ k) = true := by simp [e]
      have b : ¬ decide (q.1 ≠ k) = true := by simp [h1.symm.trans e]
      rw [if_neg a, if_neg b]; exact ih
    · have e' : ¬ q.1 = k := fun z => e (h1.trans z)
      have a : decide (p.1 ≠ k) = true := by simp [e]
      have b : decide (q.1 ≠ k) = true := by simp [e']
      rw [if_pos a, if_pos b]; exact .cons ⟨h1, h2⟩ ih
theorem KV.keys {kvs : List (κ × V)} {vs : List (κ × Value)} (r : KV kvs vs) : kvs.map (·.1) = vs.map (·.1) := by
  unfold KV at r
  induction r with
  | nil => rfl
  | cons h t ih => rw [List.map_cons, List.map_cons, ih, h.1]
theorem KV.length {kvs : List (κ × V)} {vs : List (κ × Value)} (r : KV kvs vs) : kvs.length = vs.length := Paired.length r
end


/-! ### a tracked dict, its keys ints and texts or tuples of these -/
theorem kV_is {P : Program} {w : World} {k : Key} {u : Value} (r : RelV (kV k) u) : (mixKind P w).is k u = true := by
  cases k with
  | inl i => obtain ⟨t, e⟩ := (show ∃ t, u = Value.int i t from r); subst e; exact mixKind_int P w i t
  | inr x => obtain ⟨t, e⟩ := (show ∃ t, u = Value.str x t from r); subst e; exact mixKind_str P w x t
theorem items_are {P : Program} {w : World} : ∀ {ks : List Key} {us : List Value}, Vals (ks.map kV) us → ItemsAre (mixKind P w) ks us
  | [], _, r => by rw [List.map_nil] at r; cases r; exact .nil
  | k :: ks, _, r => by
    rw [List.map_cons] at r
    cases r with
    | cons h t => exact .cons (kV_is h) (items_are t)

/-- raw entries of a dict with tuple keys -/
abbrev KT (H : Hp) : List (List Key × V) → List (List Key × Addr × Value) → Prop := Paired fun p q => p.1 = q.1 ∧ H q.2.1 = some (.tup (p.1.map kV)) ∧ RelV p.2 q.2.2
theorem KT.val {H : Hp} {kvs : List (List Key × V)} {xs : List (List Key × Addr × Value)} (r : KT H kvs xs) (k : List Key) : RelO (valV kvs k) ((atKey xs k).map (·.2)) := by
  induction r with
  | nil => exact True.intro
  | @cons p q ps qs h t ih =>
    obtain ⟨h1, _, h2⟩ := h
    by_cases e : p.1 = k
    · have e' : q.1 = k := h1.symm.trans e
      have b : atKey (q :: qs) k = some q.2 := by simp [atKey, List.find?_cons, e']
      rw [valV_pos e, b]; exact h2
    · have e' : ¬ q.1 = k := fun z => e (h1.trans z)
      have b : atKey (q :: qs) k = atKey qs k := by simp [atKey, List.find?_cons, e']
      rw [valV_neg e, b]; exact ih
theorem KT.repl {H : Hp} {kvs : List (List Key × V)} {xs : List (List Key × Addr × Value)} (r : KT H kvs xs) (k : List Key) {y : V} {u : Value} (ry : RelV y u) :
    KT H (kvs.map fun kv => if kv.1 = k then (kv.1, y) else kv) (xs.map (putAt k u)) := by
  induction r with
  | nil => exact .nil
  | @cons p q ps qs h t ih =>
    rw [List.map_cons, List.map_cons]
    refine .cons ?_ ih
    obtain ⟨h1, h2, h3⟩ := h
    unfold putAt
    by_cases e : p.1 = k
    · rw [if_pos e, if_pos (h1.symm.trans e)]; exact ⟨h1, h2, ry⟩
    · rw [if_neg e, if_neg (fun z => e (h1.trans z))]; exact ⟨h1, h2, h3⟩
theorem KT.put {H : Hp} {kvs : List (List Key × V)} {xs : List (List Key × Addr × Value)} (r : KT H kvs xs) (k : List Key) {b : Addr} {y : V} {u : Value} (hb : H b = some (.tup (k.map kV))) (ry : RelV y u) :
    KT H (putK kvs k y) (storedH xs k b u) := by
  have e : (kvs.any fun kv => decide (kv.1 = k)) = (atKey xs k).isSome := by
    rw [valV_any, (r.val k).isSome_eq, Option.isSome_map]
  unfold putK storedH
  rw [e]
  by_cases q : (atKey xs k).isSome = true
  · rw [if_pos q, if_pos q]; exact r.repl k ry
  · rw [if_neg q, if_neg q]; exact Paired.snoc r ⟨rfl, hb, ry⟩
theorem KT.keeps {H H' : Hp} {kvs : List (List Key × V)} {xs : List (List Key × Addr × Value)} (r : KT H kvs xs) (ht : ∀ b ys, H b = some (.tup ys) → H' b = some (.tup ys)) : KT H' kvs xs :=
  Paired.mapP r fun _ _ z => ⟨z.1, ht _ _ z.2.1, z.2.2⟩

section
variable {P : Program} {w : World} {H : Hp} {h : Heap} {a : Addr}
theorem rd_of {u : HO} (ok : HOk P w H h) (e : Rd H a u) : ObjOk P w H h a u := e.ok ok
theorem dk_rd {kvs : List (Key × V)} (ok : HOk P w H h) (e : Rd H a (.dK kvs)) : kvs.length ≤ sizeLine ∧ (a == sysModules) = false ∧ ∃ vs, KV kvs vs ∧ h.DictOf (mixKind P w) a vs :=
  show ObjOk P w H h a (.dK kvs) from rd_of ok e
theorem dk_of {kvs : List (Key × V)} (ok : HOk P w H h) (e : H a = some (.dK kvs)) : kvs.length ≤ sizeLine ∧ (a == sysModules) = false ∧ ∃ vs, KV kvs vs ∧ h.DictOf (mixKind P w) a vs := dk_rd ok (.inl e)
/-- a tracked tuple of ints and texts is a key -/
theorem key_of {ks : List Key} (ok : HOk P w H h) (e : H a = some (.tup (ks.map kV))) : (tupleKind (mixKind P w)).is h ks a := by
  obtain ⟨_, its, r, o, h1, h2, n, h3⟩ := (show ObjOk P w H h a (.tup (ks.map kV)) from ok a _ e)
  exact ⟨o, its.toArray, n, h1, h2, h3, by simpa using items_are r⟩
theorem dt_rd {kvs : List (List Key × V)} (ok : HOk P w H h) (e : Rd H a (.dT kvs)) : kvs.length ≤ sizeLine ∧ (a == sysModules) = false ∧
    ∃ xs, KT H kvs xs ∧ h.DictOfH (tupleKind (mixKind P w)) a xs := by
  obtain ⟨z, y, xs, r, o, es, ep, h1, h2, h3, h4, h5⟩ := (show ObjOk P w H h a (.dT kvs) from rd_of ok e)
  refine ⟨z, y, xs, r, o, es, ep, h1, h2, h3, h4, fun x hx => ?_, h5⟩
  have all : ∀ {l : List (List Key × V)} {m : List (List Key × Addr × Value)}, KT H l m → ∀ x ∈ m, (tupleKind (mixKind P w)).is h x.1 x.2.1 := by
    intro l m q
    induction q with
    | nil => intro x hx; exact nomatch hx
    | @cons p q ps qs hq t ih =>
      intro x hx
      rcases List.mem_cons.mp hx with e | hx
      · subst e
        exact key_of ok (by rw [← hq.1]; exact hq.2.1)
      · exact ih x hx
  exact all r x hx
theorem dt_of {kvs : List (List Key × V)} (ok : HOk P w H h) (e : H a = some (.dT kvs)) : kvs.length ≤ sizeLine ∧ (a == sysModules) = false ∧
    ∃ xs, KT H kvs xs ∧ h.DictOfH (tupleKind (mixKind P w)) a xs := dt_rd ok (.inl e)
end

/-- what the dict at a holds at the key y -/
def DGet (H : Hp) (a : Addr) (y : V) (r : Option V) : Prop :=
  (∃ kvs k, Rd H a (.dK kvs) ∧ y = kV k ∧ r = valV kvs k) ∨ ∃ kvs k b, Rd H a (.dT kvs) ∧ y = .ref b ∧ H b = some (.tup (k.map kV)) ∧ r = valV kvs k
/-- the heap behind a[y] = v -/
def DPut (H : Hp) (a : Addr) (y v : V) (H' : Hp) : Prop :=
  (∃ kvs k, H a = some (.dK kvs) ∧ y = kV k ∧ kvs.length < sizeLine ∧ H' = upd H a (.dK (putK kvs k v))) ∨
  ∃ kvs k b, H a = some (.dT kvs) ∧ y = .ref b ∧ H b = some (.tup (k.map kV)) ∧ kvs.length < sizeLine ∧ H' = upd H a (.dT (putK kvs k v))
theorem DGet.k {H : Hp} {a : Addr} {kvs : List (Key × V)} {k : Key} (e : H a = some (.dK kvs)) : DGet H a (kV k) (valV kvs k) := .inl ⟨kvs, k, .inl e, rfl, rfl⟩
theorem DGet.t {H : Hp} {a b : Addr} {kvs : List (List Key × V)} {k : List Key} (e : H a = some (.dT kvs)) (eb : H b = some (.tup (k.map kV))) : DGet H a (.ref b) (valV kvs k) := .inr ⟨kvs, k, b, .inl e, rfl, eb, rfl⟩
theorem DPut.k {H : Hp} {a : Addr} {kvs : List (Key × V)} {k : Key} {v : V} (e : H a = some (.dK kvs)) (hl : kvs.length < sizeLine) : DPut H a (kV k) v (upd H a (.dK (putK kvs k v))) := .inl ⟨kvs, k, e, rfl, hl, rfl⟩
theorem DPut.t {H : Hp} {a b : Addr} {kvs : List (List Key × V)} {k : List Key} {v : V} (e : H a = some (.dT kvs)) (eb : H b = some (.tup (k.map kV))) (hl : kvs.length < sizeLine) :
    DPut H a (.ref b) v (upd H a (.dT (putK kvs k v))) := .inr ⟨kvs, k, b, e, rfl, eb, hl, rfl⟩


section
variable {X : Cx} {pins : List (Addr × Obj)} {σ : St} {H : Hp} {s : Shared} {a : Addr} {y v : V} {u r : Value} {o : Option V} {A : Around} {E : Value → Shared → Prop}

theorem Inv.big (I : Inv X pins σ H s) : sysModules < s.heap.objs.size := by
  have h : mainGlobals < s.heap.objs.size := (I.mod.glob.keeps I.bk).lt
  exact Nat.lt_trans (by decide) h

/-- d[y], there -/
theorem d_getItem {Q : Value → Shared → Prop} (hu : A.units + 1 < cLine) (I : Inv X pins σ H s) (g : DGet H a y (some v)) (ry : RelV y u) (h : ∀ w' s', Inv X pins σ H s' → RelV v w' → Q w' s') :
    wpAny (model X.prog X.w) A (getItem (.ref a) u) Q E s := by
  rcases g with ⟨kvs, k, e, ey, l⟩ | ⟨kvs, k, b, e, ey, eb, l⟩
  · subst ey
    obtain ⟨z, hd, vs, rel, dd⟩ := dk_rd I.hok e
    obtain ⟨w', hw, rw'⟩ := RelO.some_of (v := v) (o := valueAt vs k) (by rw [l]; exact rel.val k)
    exact wpAny_getItem_of (kV_is ry) dd.mapOf hw (h w' _ (I.tok _) rw')
  · subst ey
    cases (show u = Value.ref b from ry)
    obtain ⟨z, hd, xs, rel, dd⟩ := dt_rd I.hok e
    obtain ⟨w', hw, rw'⟩ := RelO.some_of (v := v) (o := (atKey xs k).map (·.2)) (by rw [l]; exact rel.val k)
    obtain ⟨p, hp, hp2⟩ := Option.map_eq_some_iff.mp hw
    refine wpAny_getItem_heap (tupleKind_room_in1 hu) (key_of I.hok eb) dd hp ?_
    rw [hp2]
    exact h w' _ (I.tok _) rw'
/-- a dict's object is replaced -/
theorem d_write {h' : Heap} {t' : Nat} {ob : HO} (I : Inv X pins σ H s) (mu : Mut (H a)) (hs : Heap.SameBut a s.heap h') (he : ∃ q, h'.get? a = some q) (new : ObjOk X.prog X.w (upd H a ob) h' a ob) :
    Inv X pins σ (upd H a ob) { s with heap := h', toks := t' } :=
  I.write (x := a) (e := a) mu (.inl rfl) (fun b q hb z => (hs.2 b hb).trans z) he new
theorem dk_new {P : Program} {w : World} {H' : Hp} {h' : Heap} {kvs : List (Key × V)} {vs : List (Key × Value)} (z : kvs.length ≤ sizeLine) (hd : (a == sysModules) = false) (rel : KV kvs vs) (dd : h'.DictOf (mixKind P w) a vs) :
    ObjOk P w H' h' a (.dK kvs) := ⟨z, hd, vs, rel, dd⟩
/-- d[y] = v -/
theorem d_setItem {H' : Hp} {Q : Unit → Shared → Prop} (hu : A.units + 1 < cLine) (I : Inv X pins σ H s) (g : DPut H a y v H') (ry : RelV y u) (rv : RelV v r) (h : ∀ s', Inv X pins σ H' s' → Q () s') :
    wpAny (model X.prog X.w) A (setItem (.ref a) u r) Q E s := by
  rcases g with ⟨kvs, k, e, ey, l, eH⟩ | ⟨kvs, k, b, e, ey, eb, l, eH⟩
  · subst ey eH
    obtain ⟨z, hd, vs, rel, dd⟩ := dk_of I.hok e
    have hz : vs.length ≤ sizeLine := by rw [← rel.length]; exact z
    have hl : (putK kvs k v).length ≤ sizeLine := by have := length_putK kvs k v; omega
    refine wpAny_setItem_pairs (hsz := hz) (kV_is ry) dd fun h' dd' hs => h _ ?_
    have he : ∃ q, h'.get? a = some q := let ⟨q, _, _, hq, _⟩ := dd'; ⟨q, hq⟩
    exact d_write I (by rw [e]; exact True.intro) hs he (dk_new hl hd (rel.put k rv) dd')
  · subst ey eH
    cases (show u = Value.ref b from ry)
    obtain ⟨z, hd, xs, rel, dd⟩ := dt_of I.hok e
    have hz : xs.length ≤ sizeLine := by rw [← Paired.length rel]; exact z
    have hl : (putK kvs k v).length ≤ sizeLine := by have := length_putK kvs k v; omega
    refine wpAny_setItem_heap (hsz := hz) (tupleKind_room_in1 hu) (key_of I.hok eb) dd fun h' dd' hs => h _ ?_
    obtain ⟨q, es, ep, hq, h2, h3, h4, _, h5⟩ := dd'
    refine d_write I (by rw [e]; exact True.intro) hs ⟨q, hq⟩ ⟨hl, hd, _, (rel.put k eb rv).keeps fun c ys ec => ?_, q, es, ep, hq, h2, h3, h4, h5⟩
    rw [upd_ne (ne_of ec e (fun z => nomatch z))]
    exact ec
end

section
variable {X : Cx} {pins : List (Addr × Obj)} {σ : St} {H : Hp} {s : Shared} {a : Addr} {kvs : List (Key × V)} {k : Key} {u : Value} {A : Around} {E : Value → Shared → Prop}
end


/-! ### readings and rules -/
/-- the element of a subscription, not a slice -/
def NoSl (i : Expr) : Prop := ∀ ov iv, subscripted i false ov iv = operate [ov, iv] (getItem ov iv)
theorem subD_of {prog : Program} {w : World} {A : Around} {E : Value → Shared → Prop} {s : Shared} {env : Env} {value slice : Expr} {pos : Pos} {T id : String} {Q : Value → Shared → Prop}
    (hl : typeLookup (.type T) "__getitem__" = pure (some (.builtin id))) (hs : NoSl slice)
    (h : wpAny (model prog w) A (eval value env) (fun o s₁ => wpAny (model prog w) A (eval slice env) (fun i s₂ => s₂.TypeIs o T ∧ wpAny (model prog w) A (getItem o i) Q E s₂) E s₁) E s) :
    wpAny (model prog w) A (eval (.Subscript value slice pos) env) Q E s := by
  refine Subscript_ (wpAny_mono h (fun o s₁ h₁ => wpAny_mono h₁ (fun i s₂ h₂ => ?_) fun _ _ x => x) fun _ _ x => x)
  obtain ⟨hT, h₂⟩ := h₂
  unfold subscriptTail
  refine wpAny_bind ?_
  rw [getitemInPython_of_ne hT.not_modules]
  refine wpAny_bind (wpAny_specialOf hT hl ?_)
  have fin : wpAny (model prog w) A (subscripted slice false o i) (fun r s₃ => wpAny (model prog w) A (letTemporaryGo value o r >>= fun _ => pure r) Q E s₃) E s₂ := by
    rw [hs o i]
    exact wpAny_operating (wpAny_mono h₂ (fun r s₃ h₃ => wpAny_bind (wpAny_letTemporaryGo (wpAny_pure h₃))) fun _ _ x => x)
  first
    | exact wpAny_pure (wpAny_bind fin)
    | exact wpAny_bind (wpAny_pure (wpAny_bind fin))
    | exact wpAny_bind fin

theorem dict_typeIs {X : Cx} {pins : List (Addr × Obj)} {σ : St} {H : Hp} {s : Shared} {a : Addr} {y : V} {o : Option V} (I : Inv X pins σ H s) (g : DGet H a y o) : s.TypeIs (.ref a) "dict" := by
  rcases g with ⟨kvs, k, e, _, _⟩ | ⟨kvs, k, b, e, _, _, _⟩
  · obtain ⟨_, _, vs, _, dd⟩ := dk_rd I.hok e
    exact dd.typeIs
  · obtain ⟨_, _, xs, _, dd⟩ := dt_rd I.hok e
    exact dd.typeIs

/-- d[y] -/
def tDGet (td ty : TE) : TE := fun σ H Q => td σ H fun x H1 => ty σ H1 fun y H2 => ∃ a v, x = .ref a ∧ DGet H2 a y (some v) ∧ Q v H2
/-- d[y] = v -/
def sDPut (td ty tv : TE) : TS := fun D σ H => tv σ H fun v H1 => td σ H1 fun x H2 => ty σ H2 fun y H3 => ∃ a H4, x = .ref a ∧ DPut H3 a y v H4 ∧ D.nx σ H4

section
variable {X : Cx} {o i e value : Expr} {pos pos' tpos : Pos} {td ty tv : TE}
theorem pe_dget (hu : X.A.units + 1 < cLine) (ho : PE X o td) (hi : PE X i ty) (hs : NoSl i) : PE X (.Subscript o i pos) (tDGet td ty) := by
  intro pins s σ H Q I h
  refine subD_of PySem.F.slot_dict_getitem.lookup hs (thn (ho pins s σ H _ I h) fun u s1 ⟨x, H1, I1, rx, q1⟩ => thn (hi pins s1 σ H1 _ I1 q1) fun iv s2 ⟨y, H2, I2, ry, a, v, ex, g, q2⟩ => ?_)
  subst ex
  obtain rfl : u = Value.ref a := rx
  exact ⟨dict_typeIs I2 g, d_getItem hu I2 g ry fun w' s3 I3 rw' => ⟨v, H2, I3, rw', q2⟩⟩
theorem ps_dput (hu : X.A.units + 1 < cLine) (ho : PE X o td) (hi : PE X i ty) (hv : PE X value tv) (hs : swapsWith value (some (.Subscript o i pos')) pos.line X.env = pure false) :
    PS X (.Assign [.Subscript o i pos'] value pos) (sDPut td ty tv) := by
  intro pins s σ H D I h
  refine wpAny_Assign_Subscript (thn (hv pins s σ H _ I h) fun r s1 ⟨v, H1, I1, rv, q1⟩ => thn (ho pins s1 σ H1 _ I1 q1) fun u s2 ⟨x, H2, I2, rx, q2⟩ => thn (hi pins s2 σ H2 _ I2 q2) fun iv s3 ⟨y, H3, I3, ry, a, H4, ex, g, q3⟩ => ?_) hs
  subst ex
  obtain rfl : u = Value.ref a := rx
  exact d_setItem hu I3 g ry rv fun s4 I4 => ⟨σ, H4, I4, q3⟩
end


/-! ### displays -/
theorem dk_empty {P : Program} {w : World} {H : Hp} (h : Heap) (hb : sysModules < h.objs.size) : ObjOk P w H (h.push { cls := .type "dict", data := .dict #[] }) h.objs.size (.dK []) :=
  ⟨Nat.zero_le _, beq_eq_false_iff_ne.mpr (Ne.symm (Nat.ne_of_lt hb)), [], .nil, Heap.DictOf.new h⟩
/-- {}, to be a dict of the kind that is wanted -/
def tDNewK : TE := fun _ H Q => ∀ p, H p = none → Q (.ref p) (upd H p (.dK []))
section
variable {X : Cx} {pos : Pos}
theorem pe_dnewK : PE X (.Dict [] [] pos) tDNewK := fun pins s σ H Q I h =>
  wpAny_Dict_empty ⟨.ref s.heap.objs.size, _, I.laid (a := s.heap.objs.size) (o := .dK []) (t' := s.toks) (fun _ _ q => Heap.get?_push_of_some _ q) (Nat.le_refl _) (dk_empty s.heap I.big), rfl, h _ (I.hok.fresh (Nat.le_refl _))⟩
end


def mergeK (kvs more : List (Key × V)) : List (Key × V) := more.foldl (fun acc kv => putK acc kv.1 kv.2) kvs
theorem KV.merge : ∀ {more : List (Key × V)} {rs : List (Key × Value)} {kvs : List (Key × V)} {vs : List (Key × Value)}, KV more rs → KV kvs vs → KV (mergeK kvs more) (merged vs rs) := by
  intro more rs kvs vs r
  unfold KV at r
  induction r generalizing kvs vs with
  | nil => intro q; exact q
  | @cons p q ps qs h t ih =>
    intro r0
    have e : KV (putK kvs p.1 p.2) (stored vs q.1 q.2) := by
      have := r0.put p.1 h.2
      rw [← h.1]; exact this
    exact ih e


/-! ### methods -/
/-- a method call o.m(e) of a built-in, with one argument: what must be seen of the text -/
structure M1 (X : Cx) (o : Expr) (m : Str) (apos : Pos) (e : Expr) (cpos : Pos) : Prop where
  base : attributeBase o m X.env (eval o X.env) = eval o X.env
  few : ((backTo cpos (starEach [e] X.env)).all (fun x => !x.1) && (backToKw cpos (keywordEach [] X.env)).all (fun x => x.1.isSome)
    && decide (([e] : List Expr).length + ([] : List Keyword).length + (if ([] : List Keyword).isEmpty then 0 else 1) < 30)) = true
  line : (apos.endLine == cpos.line) = true
  trees : backTo cpos (starEach [e] X.env) = [(false, eval e X.env)]
structure M2 (X : Cx) (o : Expr) (m : Str) (apos : Pos) (e f : Expr) (cpos : Pos) : Prop where
  base : attributeBase o m X.env (eval o X.env) = eval o X.env
  few : ((backTo cpos (starEach [e, f] X.env)).all (fun x => !x.1) && (backToKw cpos (keywordEach [] X.env)).all (fun x => x.1.isSome)
    && decide (([e, f] : List Expr).length + ([] : List Keyword).length + (if ([] : List Keyword).isEmpty then 0 else 1) < 30)) = true
  line : (apos.endLine == cpos.line) = true
  trees : backTo cpos (starEach [e, f] X.env) = [(false, eval e X.env), (false, eval f X.env)]


section
variable {X : Cx} {pins : List (Addr × Obj)} {σ : St} {H : Hp} {s : Shared} {a : Addr} {y d : V} {u r : Value} {o : Option V} {A : Around} {E : Value → Shared → Prop}
end

section
variable {X : Cx} {o e f : Expr} {apos cpos : Pos} {td ty tx : TE}
end

/-! ### dict(d): a copy -/
section
variable {X : Cx} {pins : List (Addr × Obj)} {σ : St} {H : Hp} {s : Shared} {a : Addr} {kvs : List (Key × V)} {A : Around} {E : Value → Shared → Prop}
end


section
variable {X : Cx} {pins : List (Addr × Obj)} {σ : St} {H : Hp} {s : Shared} {a : Addr} {y : V} {u : Value} {A : Around} {E : Value → Shared → Prop}
end
end L2


namespace L2
open PySem PySem.Spec PyProof.Rows
/-! ### sum of a list of numbers of any size -/
section
variable {X : Cx}
theorem call_sumG (hc : X.calm = true) : CallR X (.builtin "sum") (fun xs H Q => ∃ (p : Addr) (ns : List Int), xs = [.ref p] ∧ H p = some (.lst (ns.map V.int)) ∧ Q (.int ns.sum) H) := by
  intro pins s σ H xs us Q I r h
  obtain ⟨p, ns, rfl, hp, q⟩ := h
  obtain ⟨u, rfl, rx⟩ := vals1 r
  cases rx
  obtain ⟨_, its, n, rv, hlen, e1⟩ := I.lstM hp
  have isl : s.heap.IsList p its.toArray := ⟨_, e1, rfl, n, rfl⟩
  have below : p < s.heap.objs.size := Heap.lt_size e1
  have hil : its.length = ns.length := by rw [← hlen, List.length_map]
  refine call_sum_walkG (wpAny_pyIter_list isl ?_)
  refine ⟨s.heap.objs.size, [s.heap.objs.size, p], [s.heap.objs.size], _, _, _, fun i => ns.getD i 0, rfl, Walks.list (by first | exact I.ok.hd hc | (show X.A.in1.handled = none; exact I.ok.hd hc)) s.heap.objs.size p (Nat.ne_of_lt below) its.toArray, ⟨⟨_, Heap.get?_push_size _ rfl, rfl, rfl⟩, isl.at fun o q => Heap.get?_push_of_some _ q⟩, ?_, ?_, ?_⟩
  · intro b hb
    rw [Heap.size_push]
    simp only [List.mem_cons, List.not_mem_nil, or_false] at hb
    rcases hb with rfl | rfl
    · exact Nat.lt_succ_self _
    · exact Nat.lt_succ_of_lt below
  · intro i v hv
    have hi : i < ns.length := by
      have := (Array.getElem?_eq_some_iff.mp hv).1
      simp at this; omega
    obtain ⟨u, hu, ru⟩ := rv.get (show (ns.map V.int)[i]? = some (.int ns[i]) by simp [hi])
    have : its[i]? = some v := by simpa using hv
    rw [hu] at this
    cases this
    obtain ⟨t, rfl⟩ := ru
    exact ⟨t, by simp [hi]⟩
  · intro h' tk t' hk
    refine ⟨.int ns.sum, H, ?_, ⟨t', ?_⟩, q⟩
    · exact I.kept (h' := h') (t' := tk) fun b o e => hk b o (by simp; exact Nat.ne_of_lt (Heap.lt_size e)) (Heap.get?_push_of_some _ e)
    · rw [show its.toArray.size = ns.length by simp [hil], preSum_take _ (Nat.le_refl _), List.take_length]
variable {e : Expr} {te : TE} {p pos : Pos}
def tSumG (te : TE) : TE := fun σ H Q => te σ H fun x H1 => ∃ (a : Addr) (ns : List Int), x = .ref a ∧ H1 a = some (.lst (ns.map V.int)) ∧ Q (.int ns.sum) H1
theorem pe_sumG (hc : X.calm = true) (hm : X.mg "sum" = none) (ha : PE X e te) (hg : Gl X "sum" := by rfl) (he : starEach [e] X.env = [(false, eval e X.env)] := by rfl) : PE X (.Call (.Name "sum" p) [e] [] pos) (tSumG te) :=
  pe_callB (r := r1 fun x H Q => ∃ (a : Addr) (ns : List Int), x = .ref a ∧ H a = some (.lst (ns.map V.int)) ∧ Q (.int ns.sum) H) (callR1 fun pins s σ H x us Q I rv ⟨a, ns, ex, h1, q⟩ => call_sumG hc pins s σ H _ us Q I rv ⟨a, ns, by rw [ex], h1, q⟩) hg hm bt_sum (pa_cons ha pa_nil (by exact he)) (he := by exact he)
end
/-! ### the walk of a comprehension over enumerate -/
/-! ### a dict of numbers by numbers -/
/-- at w there lies a dict that tells f at each of qs -/
def DictN (H : Hp) (w : Addr) (qs : List Nat) (f : Nat → Int) : Prop := ∃ kvs : List (Key × V), H w = some (.dK kvs) ∧ kvs.length ≤ qs.length ∧ (∀ q ∈ qs, valV kvs (.inl (q : Int)) = some (.int (f q))) ∧ ∀ k : Int, (∀ q ∈ qs, (q : Int) ≠ k) → valV kvs (.inl k) = none
theorem DictN.new {H : Hp} {w : Addr} {f : Nat → Int} (h : H w = some (.dK [])) : DictN H w [] f := ⟨[], h, Nat.le_refl _, fun q hq => absurd hq (List.not_mem_nil), fun _ _ => rfl⟩
theorem DictN.get {H : Hp} {w : Addr} {qs : List Nat} {f : Nat → Int} (h : DictN H w qs f) {q : Nat} (hq : q ∈ qs) : DGet H w (.int (q : Int)) (some (.int (f q))) := by
  obtain ⟨kvs, h1, _, h2, _⟩ := h
  have := DGet.k (k := .inl (q : Int)) h1
  rw [h2 q hq] at this
  exact this
theorem DictN.put {H : Hp} {w : Addr} {qs : List Nat} {f : Nat → Int} (h : DictN H w qs f) {q : Nat} {z : Int} (hz : z = f q) (hl : qs.length < 1000) : ∃ H', DPut H w (.int (q : Int)) (.int z) H' ∧ DictN H' w (qs ++ [q]) f ∧ ∀ b o, H b = some o → b ≠ w → H' b = some o := by
  subst hz
  obtain ⟨kvs, h1, h2, h3, h4⟩ := h
  refine ⟨_, DPut.k (k := .inl (q : Int)) h1 (Nat.lt_of_le_of_lt h2 (Nat.lt_of_lt_of_le hl (by decide))), ⟨_, upd_same, ?_, fun p hp => ?_, fun k hk => ?_⟩, fun b o e ne => by rw [upd_ne ne]; exact e⟩
  · rw [List.length_append, List.length_singleton]
    have := length_putK kvs (.inl (q : Int)) (.int (f q))
    omega
  · rw [valV_put]
    by_cases e : p = q
    · subst e; rw [if_pos rfl]
    · rw [if_neg (fun z => e (by have := Sum.inl.inj z; omega))]
      rcases List.mem_append.mp hp with hp | hp
      · exact h3 p hp
      · exact absurd (List.mem_singleton.mp hp) e
  · rw [valV_put, if_neg (fun z => hk q (by simp) (Sum.inl.inj z).symm)]
    exact h4 k fun p hp => hk p (List.mem_append_left _ hp)
/-! ### name = [comprehension with several names] -/
/-! ### for over reversed(list) -/
theorem for_rev {K : PySem.W.Frag} {a : Addr} {xs : List V} {g : TG} {tb : TS} {D : Ends} {σ : St} {H : Hp} (Pv : Nat → St → Hp → Prop) (h0 : Pv 0 σ H) (hl : ∀ i σ H, i ≤ xs.length → Pv i σ H → SqL K H a xs)
    (hs : ∀ i x σ H, xs.reverse[i]? = some x → Pv i σ H → g x σ H fun σ2 H2 => tb { D with nx := Pv (i + 1), ct := Pv (i + 1), bk := D.nx } σ2 H2) (hd : ∀ σ H, Pv xs.length σ H → D.nx σ H) :
    ∃ W : Nat → Nat → St → Hp → Prop, (∃ m, W 0 m σ H) ∧ ∀ i m σ H, W i m σ H →
      ((Itv K a xs).stop i H ∧ D.nx σ H) ∨ ((Itv K a xs).go i H ∧ ∃ N : St → Hp → Prop, (∀ σ' H', N σ' H' → ∃ m', m' < m ∧ W (i + 1) m' σ' H') ∧ ∀ x H', (Itv K a xs).yld i H x H' → g x σ H' fun σ2 H2 => tb { D with nx := N, ct := N, bk := D.nx } σ2 H2) := by
  refine ⟨fun i m σ H => m = xs.length - i ∧ i ≤ xs.length ∧ Pv i σ H, ⟨xs.length, by simp, Nat.zero_le _, h0⟩, ?_⟩
  rintro i m σ H ⟨rfl, hi, p⟩
  have q := hl i σ H hi p
  by_cases hlt : i < xs.length
  · refine .inr ⟨⟨q, hlt⟩, Pv (i + 1), fun σ' H' p' => ⟨xs.length - (i + 1), by omega, rfl, hlt, p'⟩, fun x H' y => ?_⟩
    obtain ⟨e, y⟩ := y
    subst e
    refine hs i x σ _ ?_ p
    rw [List.getElem?_reverse hlt]
    exact y
  · have e : i = xs.length := by omega
    subst e
    exact .inl ⟨Nat.le_refl _, hd σ H p⟩
end L2

namespace L2
open PySem PySem.Spec PyProof.Rows
/-! ### d.setdefault(k, x), keys that are tuples -/
section
variable {prog : Program} {w : World} {κ : Type} [DecidableEq κ] {knd : HeapKind prog w κ} {A : Around} {E : Value → Shared → Prop} {s : Shared}
end
theorem KT.snoc {H : Hp} {kvs : List (List Key × V)} {xs : List (List Key × Addr × Value)} (r : KT H kvs xs) {k : List Key} {c : Addr} {y : V} {u : Value} (hc : H c = some (.tup (k.map kV))) (ry : RelV y u) : KT H (kvs ++ [(k, y)]) (xs ++ [(k, c, u)]) :=
  Paired.snoc r ⟨rfl, hc, ry⟩
section
variable {X : Cx} {pins : List (Addr × Obj)} {σ : St} {H : Hp} {s : Shared} {a c : Addr} {kvs : List (List Key × V)} {k : List Key} {v : V} {r : Value} {A : Around} {E : Value → Shared → Prop}
end
/-! ### tuple(list) -/
section
variable {X : Cx} {e : Expr} {te : TE} {p pos : Pos}
end
/-! ### a dict is held still -/
theorem Inv.still {X : Cx} {pins : List (Addr × Obj)} {σ : St} {H : Hp} {s : Shared} {a : Addr} {kvs : List (List Key × V)} (I : Inv X pins σ H s) (e : H a = some (.dT kvs)) :
    ∃ o, s.heap.get? a = some o ∧ Inv X pins σ (upd H a (.frz o (.dT kvs))) s := by
  obtain ⟨z, hd, xs, rel, o, es, ep, h1, h2, h3, h4, h5⟩ := (show ObjOk X.prog X.w H s.heap a (.dT kvs) from I.hok a _ e)
  refine ⟨o, h1, d_write (h' := s.heap) (t' := s.toks) I (by rw [e]; exact True.intro) ⟨rfl, fun _ _ => rfl⟩ ⟨o, h1⟩ ⟨h1, z, hd, xs, KT.keeps rel fun b ys eb => ?_, o, es, ep, h1, h2, h3, h4, h5⟩⟩
  rw [upd_ne (ne_of eb e (fun z => nomatch z))]
  exact eb
/-! ### for x in d.values() -/
section
variable {prog : Program} {w : World} {A : Around} {E : Value → Shared → Prop} {s : Shared} {it d : Addr} {i n ep : Nat} {od : Obj} {es : Array DictEntry}
end
/-! ### in, not in a list of data -/
/-! ### a comprehension over a tuple -/
end L2

namespace L2
open PySem PySem.Spec PyProof.Rows
/-! ### f-strings of written texts and numbers -/
section
variable {X : Cx}
end
end L2

namespace L2
open PySem PySem.Spec PyProof.Rows
/-! ### for k, x in d.items() -/
section
variable {prog : Program} {w : World} {A : Around} {E : Value → Shared → Prop} {s : Shared} {it d : Addr} {i n ep : Nat} {od : Obj} {es : Array DictEntry}
end
end L2

namespace L2
open PySem PySem.Spec PyProof.Rows
/-! ### min(xs, key=len, default=d) of a list of lists -/
section
variable {s : Shared} {prog : Program} {w : World} {A : Around} {E : Value → Shared → Prop}
def Grown (h0 h : Heap) : Prop := ∀ b o, h0.get? b = some o → h.get? b = some o
theorem Grown.but {h0 h h' : Heap} {a : Addr} (g : Grown h0 h) (n : h0.get? a = none) (k : ∀ b o, b ≠ a → h.get? b = some o → h'.get? b = some o) : Grown h0 h' := fun b o e => k b o (fun z => by rw [z, n] at e; cases e) (g b o e)
theorem minK_loop {h0 : Heap} {l I S : Addr} {vs : List Value} {dv : Value} {kf : Nat → Int} {R : Result → Shared → Prop} (hh : A.handled = none) (hl : h0.IsList l vs.toArray) (nI : h0.get? I = none) (nS : h0.get? S = none) (hSI : S ≠ I)
    (each : ∀ i v, vs[i]? = some v → ∃ (b : Addr) (items : Array Value), v = .ref b ∧ h0.IsList b items ∧ (items.size : Int) = kf i ∧ (items.size : Int) < 2 ^ 63)
    (hR : ∀ i v h' tk', vs[i]? = some v → (∀ j, j < vs.length → kf i ≤ kf j ∧ (j < i → kf i < kf j)) → Grown h0 h' → R (.ok (.ret v)) { s with heap := h', toks := tk' }) :
    ∀ (r j i : Nat) (h : Heap) (tk : Nat) (vb : Value) (tb : Tok) (c : Nat), vs.length - (j + 1) = r → j + 1 ≤ vs.length → Grown h0 h → h.get? S = some (seqObj "list" #[vb, .int (kf i) tb] c) → h.IsListIter I l (j + 1) → vs[i]? = some vb → i ≤ j → (∀ j', j' ≤ j → kf i ≤ kf j' ∧ (j' < i → kf i < kf j')) →
      codeAny (model prog w) A (.builtin "min.loop" ⟨[.ref I, .builtin "len", .ref S], [("default", dv)]⟩) R { s with heap := h, toks := tk } := by
  have hnm : (toString "min" ++ toString ".loop" : String) = "min.loop" := by decide
  have lI : l ≠ I := fun z => by obtain ⟨o, e, _⟩ := id hl; rw [z, nI] at e; cases e
  have W := Walks.list (prog := prog) (w := w) (A := A.in1) hh I l lI vs.toArray
  have size : vs.toArray.size = vs.length := List.size_toArray ..
  intro r
  induction r with
  | zero =>
    intro j i h tk vb tb c er hj G hS hit hvb hij best
    refine codeAny_builtin PySem.F.entry_min_loop ?_; rw [Around.under_plainId PySem.F.plain_min_loop _]; show wpAny _ A.in1 (seqItems? (.ref S) >>= _) _ _ _
    refine wpAny_bind (wpAny_seqItems hS rfl ?_); show wpAny _ A.in1 (tryCatch (pyNext (.ref I)) _ >>= _) _ _ _
    refine wpAny_bind (wpAny_tryCatch (W.done _ _ _ ⟨by rw [size, show vs.length = j + 1 by omega]; exact hit, hl.at fun o e => G l o e⟩ fun h' tk' kp => ?_))
    have kp' : ∀ b o, b ≠ I → h.get? b = some o → h'.get? b = some o := fun b o hb e => kp b o (by simpa using hb) e
    have G1 := G.but nI kp'
    have sb := Heap.SameBut.update h' S (Obj.mapSeq fun _ => (#[] : Array Value))
    show wpAny _ A.in1 (updateSeq S (fun _ => #[]) >>= _) _ _ _; refine wpAny_bind ?_
    refine wpAny_updateSeq (kp' S _ hSI hS) rfl (wpAny_bind (wpAny_letGo (wpAny_pure ?_)))
    exact hR i vb _ _ hvb (fun j' hj' => best j' (by omega)) (G1.but nS fun b o hb e => (sb.2 b hb).trans e)
  | succ r ih =>
    intro j i h tk vb tb c er hj G hS hit hvb hij best
    have jlt : j + 1 < vs.length := by omega
    refine codeAny_builtin PySem.F.entry_min_loop ?_; rw [Around.under_plainId PySem.F.plain_min_loop _]; show wpAny _ A.in1 (seqItems? (.ref S) >>= _) _ _ _
    refine wpAny_bind (wpAny_seqItems hS rfl ?_); show wpAny _ A.in1 (tryCatch (pyNext (.ref I)) _ >>= _) _ _ _
    refine wpAny_bind (wpAny_tryCatch (W.item (j + 1) _ _ _ (by rw [size]; exact jlt) ⟨hit, hl.at fun o e => G l o e⟩ fun v h' tk' hP st' kp => ?_))
    have kp' : ∀ b o, b ≠ I → h.get? b = some o → h'.get? b = some o := fun b o hb e => kp b o (by simpa using hb) e
    have G1 := G.but nI kp'
    have hS1 := kp' S _ hSI hS
    have vat : vs[j + 1]? = some v := by simpa using hP
    obtain ⟨b, items, rfl, hb, ek, fit⟩ := each (j + 1) v vat
    show wpAny _ A.in1 (tryCatch (holding [.ref b] (call (.builtin "len") [.ref b])) _ >>= _) _ _ _
    refine wpAny_bind (wpAny_tryCatch (wpAny_holding (PySem.Calls.call_len_list (hb.at fun o e => G1 b o e) fit ?_)))
    rw [ek]
    show wpAny _ A.in1 (tryCatch (holding [.ref b, .int (kf (j + 1)) _] (richCompare .Lt (.int (kf (j + 1)) _) (.int (kf i) tb) >>= _)) _ >>= _) _ _ _
    refine wpAny_bind (wpAny_tryCatch (wpAny_holding (wpAny_bind (CmpOf.ints_lt (prog := prog) (w := w) (A := A.in1) (P := fun i v => ∃ t, v = .int (kf i) t) kf (fun i v h => h) (j + 1) i _ _ _ _ _ ⟨_, rfl⟩ ⟨tb, rfl⟩ ?_))))
    refine wpAny_bind (wpAny_holding (wpAny_truthy_bool (wpAny_bind (wpAny_letGo (wpAny_pure ?_)))))
    by_cases less : kf (j + 1) < kf i
    · simp only [less, decide_true, if_true]
      refine wpAny_bind (wpAny_updateSeq hS1 rfl (wpAny_bind (wpAny_letGo ?_))); rw [hnm]
      have sb := Heap.SameBut.update h' S (Obj.mapSeq fun _ => #[Value.ref b, .int (kf (j + 1)) (tk' + 1)])
      refine wpAny_pure ⟨plainId_quiet PySem.F.plain_min_loop _, ih (j + 1) (j + 1) _ _ (.ref b) _ _ (by omega) jlt (G1.but nS fun b o hb e => (sb.2 b hb).trans e) (get?_update_seq hS1 fun _ => #[Value.ref b, .int (kf (j + 1)) (tk' + 1)]) (st'.1.at fun o e => (sb.2 I hSI.symm).trans e) vat (Nat.le_refl _) fun j' hj' => ?_⟩
      by_cases e : j' = j + 1
      · subst e; exact ⟨Int.le_refl _, fun z => by omega⟩
      · have := best j' (by omega); exact ⟨by omega, fun _ => by omega⟩
    · simp only [less, decide_false, Bool.false_eq_true, if_false]
      refine wpAny_bind (wpAny_letGo ?_); rw [hnm]
      refine wpAny_pure ⟨plainId_quiet PySem.F.plain_min_loop _, ih (j + 1) i _ _ vb tb c (by omega) jlt G1 hS1 st'.1 hvb (by omega) fun j' hj' => ?_⟩
      by_cases e : j' = j + 1
      · subst e; exact ⟨by omega, fun z => by omega⟩
      · exact best j' (by omega)
theorem minK_args (a v d : Value) : argsOk "min" ⟨[a], [("key", v), ("default", d)]⟩ := by unfold argsOk; kernel_rfl
theorem minK_call {l : Addr} {vs : List Value} {dv : Value} {kf : Nat → Int} {Q : Value → Shared → Prop} (hh : A.handled = none) (hl : s.heap.IsList l vs.toArray)
    (each : ∀ i v, vs[i]? = some v → ∃ (b : Addr) (items : Array Value), v = .ref b ∧ s.heap.IsList b items ∧ (items.size : Int) = kf i ∧ (items.size : Int) < 2 ^ 63)
    (q0 : vs = [] → ∀ h' tk', Grown s.heap h' → Q dv { s with heap := h', toks := tk' })
    (q1 : ∀ i v h' tk', vs[i]? = some v → (∀ j, j < vs.length → kf i ≤ kf j ∧ (j < i → kf i < kf j)) → Grown s.heap h' → Q v { s with heap := h', toks := tk' }) :
    wpAny (model prog w) A (call (.builtin "min") [.ref l] [("key", .builtin "len"), ("default", dv)]) Q E s := by
  have hnm : (toString "min" ++ toString ".loop" : String) = "min.loop" := by decide
  refine PyProof.Rows.kmb_tree PySem.F.kind_min PySem.F.plain_min PySem.F.entry_min (minK_args _ _ _) ?_
  show wpAny _ A.in1 (Builtin.Builtins.bindParams "min" ["key", "default"] 0 ⟨[], [("key", .builtin "len"), ("default", dv)]⟩ >>= _) _ _ s
  refine wpAny_bind (wpAny_of_eq (show Builtin.Builtins.bindParams "min" ["key", "default"] 0 ⟨[], [("key", .builtin "len"), ("default", dv)]⟩ = pure [some (.builtin "len"), some dv] from rfl) ?_)
  refine wpAny_bind (wpAny_pure (wpAny_bind (wpAny_pyIter_list hl (wpAny_bind (wpAny_newList ?_ (Nat.zero_le _)))))); rw [hnm]
  have size1 : (s.heap.push { cls := .type "list_iterator", data := .fields #[.ref l, .int 0 0] }).objs.size = s.heap.objs.size + 1 := Heap.size_push ..
  have nI : s.heap.get? s.heap.objs.size = none := Heap.get?_none_of_le (Nat.le_refl _)
  have nS : s.heap.get? (s.heap.push { cls := .type "list_iterator", data := .fields #[.ref l, .int 0 0] }).objs.size = none := Heap.get?_none_of_le (by rw [size1]; exact Nat.le_succ _)
  have SI : (s.heap.push { cls := .type "list_iterator", data := .fields #[.ref l, .int 0 0] }).objs.size ≠ s.heap.objs.size := by rw [size1]; exact Nat.succ_ne_self _
  have lI : l ≠ s.heap.objs.size := fun z => by obtain ⟨o, e, _⟩ := id hl; rw [z, nI] at e; cases e
  refine wpAny_pure ⟨plainId_quiet PySem.F.plain_min_loop _, (?_)⟩
  have G : Grown s.heap ((s.heap.push { cls := .type "list_iterator", data := .fields #[.ref l, .int 0 0] }).push (seqObj "list" #[] 0)) := fun b o e => Heap.get?_push_of_some _ (Heap.get?_push_of_some _ e)
  have gI : ((s.heap.push { cls := .type "list_iterator", data := .fields #[.ref l, .int 0 0] }).push (seqObj "list" #[] 0)).IsListIter s.heap.objs.size l 0 := ⟨_, Heap.get?_push_of_some _ (Heap.get?_push_size s.heap (o := { cls := .type "list_iterator", data := .fields #[.ref l, .int 0 0] }) rfl), rfl, rfl⟩
  have gSS : ((s.heap.push { cls := .type "list_iterator", data := .fields #[.ref l, .int 0 0] }).push (seqObj "list" #[] 0)).get? (s.heap.push { cls := .type "list_iterator", data := .fields #[.ref l, .int 0 0] }).objs.size = some (seqObj "list" #[] 0) := Heap.get?_push_size _ rfl
  generalize (s.heap.push { cls := .type "list_iterator", data := .fields #[.ref l, .int 0 0] }).objs.size = S at nS SI gSS ⊢
  have W := Walks.list (prog := prog) (w := w) (A := A.in1) hh s.heap.objs.size l lI vs.toArray
  have size : vs.toArray.size = vs.length := List.size_toArray ..
  refine codeAny_builtin PySem.F.entry_min_loop ?_; rw [Around.under_plainId PySem.F.plain_min_loop _]; show wpAny _ A.in1 (seqItems? (.ref S) >>= _) _ _ _
  refine wpAny_bind (wpAny_seqItems gSS rfl ?_); show wpAny _ A.in1 (tryCatch (pyNext (.ref s.heap.objs.size)) _ >>= _) _ _ _
  by_cases hne : vs = []
  · refine wpAny_bind (wpAny_tryCatch (W.done _ _ _ ⟨by rw [size, hne]; exact gI, hl.at fun o e => G l o e⟩ fun h' tk' kp => ?_))
    have G1 := G.but nI (fun b o hb e => kp b o (by simpa using hb) e)
    refine wpAny_bind (wpAny_rule (wpAny_pure (?_)))
    exact q0 hne _ _ G1
  · have pos : 0 < vs.length := List.length_pos_iff.mpr hne
    refine wpAny_bind (wpAny_tryCatch (W.item 0 _ _ _ (by rw [size]; exact pos) ⟨gI, hl.at fun o e => G l o e⟩ fun v h' tk' hP st' kp => ?_))
    have kp' : ∀ b o, b ≠ s.heap.objs.size → _ → h'.get? b = some o := fun b o hb e => kp b o (by simpa using hb) e
    have G1 := G.but nI kp'
    have hS1 := kp' S _ SI gSS
    have vat : vs[0]? = some v := by simpa using hP
    obtain ⟨b, items, rfl, hb, ek, fit⟩ := each 0 v vat
    show wpAny _ A.in1 (tryCatch (holding [.ref b] (call (.builtin "len") [.ref b])) _ >>= _) _ _ _
    refine wpAny_bind (wpAny_tryCatch (wpAny_holding (PySem.Calls.call_len_list (hb.at fun o e => G1 b o e) fit ?_)))
    rw [ek]
    show wpAny _ A.in1 (updateSeq S (fun _ => #[.ref b, .int (kf 0) _]) >>= _) _ _ _
    refine wpAny_bind (wpAny_updateSeq hS1 rfl ?_); rw [hnm]
    have sb := Heap.SameBut.update h' S (Obj.mapSeq fun _ => #[Value.ref b, .int (kf 0) (tk' + 1)])
    exact wpAny_pure ⟨plainId_quiet PySem.F.plain_min_loop _, minK_loop hh hl nI nS SI each q1 _ 0 0 _ _ (.ref b) _ _ rfl pos (G1.but nS fun b o hb e => (sb.2 b hb).trans e) (get?_update_seq hS1 fun _ => #[Value.ref b, .int (kf 0) (tk' + 1)]) (st'.1.at fun o e => (sb.2 _ SI.symm).trans e) vat (Nat.le_refl _) fun j' hj' => by rw [show j' = 0 by omega]; exact ⟨Int.le_refl _, fun z => by omega⟩⟩
end
def aMin (Q : VK) (x y : V) (H2 : Hp) : Prop := ∃ (l : Addr) (cs : List Addr) (xss : List (List V)), x = .ref l ∧ H2 l = some (.lst (cs.map V.ref)) ∧ cs.length = xss.length ∧ (∀ (i : Nat) (c : Addr) (xs : List V), cs[i]? = some c → xss[i]? = some xs → H2 c = some (.lst xs)) ∧
  (cs = [] → Q y H2) ∧ ∀ (i : Nat) (c : Addr) (xi : List V), cs[i]? = some c → xss[i]? = some xi → (∀ (j : Nat) (xj : List V), xss[j]? = some xj → xi.length ≤ xj.length ∧ (j < i → xi.length < xj.length)) → Q (.ref c) H2
def tMinK (te td : TE) : TE := fun σ H Q => te σ H fun x H1 => td σ H1 fun y H2 => aMin Q x y H2
theorem refs_are : ∀ {cs : List Addr} {us : List Value}, Vals (cs.map V.ref) us → us = cs.map Value.ref
  | [], _, h => by cases h; rfl
  | c :: cs, _, h => by
    cases h with
    | cons r t => cases r; rw [refs_are t]; rfl
theorem pe_minK {X : Cx} {e d : Expr} {te td : TE} {p pos kp1 kp2 np : Pos} (hc : X.calm = true) (hm : X.mg "min" = none) (hml : X.mg "len" = none) (ha : PE X e te) (hd : PE X d td) (hg : Gl X "min" := by rfl) (hgl : Gl X "len" := by rfl) (he : starEach [e] X.env = [(false, eval e X.env)] := by rfl) :
    PE X (.Call (.Name "min" p) [e] [⟨some "key", .Name "len" np, kp1⟩, ⟨some "default", d, kp2⟩] pos) (tMinK te td) := by
  intro pins s σ H Q I h
  refine wpAny_Call_Name_kw (ld_blt I hg hm bt_min ?_)
  have hb : backTo pos (starEach [e] X.env) = (false, eval e X.env) :: backTo pos (starEach [] X.env) := by rw [he]; rfl
  refine PyProof.Rows.callWith_kw ?_ hb (by rw [he]; rfl) (by rfl) (by rfl)
  refine thn ((pa_cons ha pa_nil (by exact he)) pos pins s σ H (fun vs H1 => match vs with | [x] => td σ H1 (fun y H2 => aMin Q x y H2) | _ => False) I h) fun us s1 ⟨vs, H1, I1, r1, q1⟩ => ?_
  match vs, q1 with
  | [x], q1 =>
    obtain ⟨u, rfl, ru⟩ := r1.one
    refine PyProof.Rows.kws_cons (ld_blt I1 hgl hml bt_len ?_)
    refine PyProof.Rows.kws_cons (thn (hd pins s1 σ H1 _ I1 q1) fun yv s2 ⟨y, H2, I2, ry, l, cs, xss, ex, hl, hlen, hat, k0, k1⟩ => PyProof.Rows.kws_nil ?_)
    subst ex
    cases ru
    obtain ⟨z, its, n, r, hz, e1⟩ := I2.lstM hl
    obtain rfl := refs_are r
    have hL : s2.heap.IsList l (cs.map Value.ref).toArray := ⟨_, e1, rfl, n, rfl⟩
    have lenAt : ∀ i c, cs[i]? = some c → ∃ xs, xss[i]? = some xs ∧ H2 c = some (.lst xs) := fun i c hi => by
      have jlt : i < xss.length := by rw [← hlen]; exact (List.getElem?_eq_some_iff.mp hi).1
      exact ⟨xss[i], List.getElem?_eq_getElem jlt, hat i c _ hi (List.getElem?_eq_getElem jlt)⟩
    refine minK_call (vs := cs.map Value.ref) (kf := fun i => (((xss[i]?).map List.length).getD 0 : Nat)) (I2.ok.hd hc) hL (fun i v vat => ?_) (fun hne h' tk' G => ?_) (fun i v h' tk' vat best G => ?_)
    · rw [List.getElem?_map] at vat
      cases ec : cs[i]? with
      | none => rw [ec] at vat; cases vat
      | some c =>
        rw [ec] at vat
        obtain rfl : Value.ref c = v := Option.some.inj vat
        obtain ⟨xs, hx, hH⟩ := lenAt i c ec
        obtain ⟨z2, its2, n2, rr2, hz2, e2⟩ := I2.lstM hH
        have hle := rr2.length
        refine ⟨c, its2.toArray, rfl, ⟨_, e2, rfl, n2, rfl⟩, ?_, ?_⟩
        · rw [hx, List.size_toArray, ← hle]; rfl
        · rw [List.size_toArray]
          have : its2.length ≤ sizeLine := by omega
          have h63 : (sizeLine : Int) < 2 ^ 63 := by decide
          omega
    · exact ⟨y, H2, I2.kept (h' := h') (t' := tk') G, ry, k0 (by simpa using hne)⟩
    · rw [List.getElem?_map] at vat
      cases ec : cs[i]? with
      | none => rw [ec] at vat; cases vat
      | some c =>
        rw [ec] at vat
        obtain rfl : Value.ref c = v := Option.some.inj vat
        obtain ⟨xs, hx, hH⟩ := lenAt i c ec
        refine ⟨.ref c, H2, I2.kept (h' := h') (t' := tk') G, rfl, k1 i c xs ec hx fun j xj hj => ?_⟩
        have hjl : j < (cs.map Value.ref).length := by rw [List.length_map, hlen]; exact (List.getElem?_eq_some_iff.mp hj).1
        have b := best j hjl
        simp only [hx, hj, Option.map_some, Option.getD_some] at b
        exact ⟨by omega, fun z => by have := b.2 z; omega⟩
end L2

namespace L2
open PySem PySem.Spec PyProof.Rows
/-! ### < of lists of numbers, and of pairs of a number and such a list -/
def ltL : List Int → List Int → Bool
  | [], [] => false
  | [], _ :: _ => true
  | _ :: _, [] => false
  | x :: xs, y :: ys => if x = y then ltL xs ys else decide (x < y)
theorem ltL_nil_left : ∀ ys : List Int, ltL [] ys = decide (0 < ys.length)
  | [] => rfl
  | _ :: _ => by simp [ltL]
theorem ltL_nil_right : ∀ xs : List Int, ltL xs [] = false
  | [] => rfl
  | _ :: _ => rfl
section
open SeqAt MeetsSeq MeetsSeq2 MeetsSeq3 SeqRoads2
open AutoSeq1 (wpAny_loadPart')
def LtAt (A : Around) (s : Shared) (y x : Value) (b : Bool) : Prop := ∀ (prog : Program) (w : World) (E : Value → Shared → Prop) (Q : Value → Shared → Prop), Q (.bool b) s → wpAny (model prog w) A (richCompare .Lt y x) Q E s
theorem LtAt.ints {A : Around} {s : Shared} {i j : Int} {t u : Tok} : LtAt A s (.int i t) (.int j u) (decide (i < j)) := fun prog w E Q h =>
  richCompare_gives (op := .Lt) (typeIs_int s _ t) (typeIs_int s _ u) F.slot_int_lt F.entry_int_lt (F.args_int_lt_2 _ _) (gives_int_lt _ _ t u) (fun x => nomatch x) h
/-- items that are these numbers -/
def Nums (xs : List Int) (items : Array Value) : Prop := items.size = xs.length ∧ ∀ (j : Nat) (h : j < items.size), ∃ (x : Int) (t : Tok), xs[j]? = some x ∧ items[j] = .int x t
theorem eqI {A : Around} {s : Shared} {i j : Int} {t u : Tok} : EqAt A s (.int i t) (.int j u) (decide (i = j)) := by
  have := eqAt_V (A := A) (s := s) (y := .int i) (x := .int j) (u := .int i t) (v := .int j u) ⟨t, rfl⟩ ⟨u, rfl⟩ rfl rfl
  have e : eqV (.int i) (.int j) = decide (i = j) := by show (i == j) = _; by_cases h : i = j <;> simp [h]
  rw [e] at this
  exact this
theorem lt_loop {l b : Addr} {items items2 : Array Value} {n n2 : Nat} {dd dd2 : Option Addr} {sl sl2 : Array (Option Value)} {xs ys : List Int} (N1 : Nums xs items) (N2 : Nums ys items2) (k : Nat) :
    ∀ i : Nat, items.size - i = k → i ≤ items.size → i ≤ items2.size → Meets (Builtin.«list.__eq__.loop» ⟨[.ref l, .ref b, rawInt i, rawInt 0], []⟩)
      (fun A R s => s.heap.get? l = some { cls := .type "list", dict := dd, data := .seq items n, slots := sl } ∧ s.heap.get? b = some { cls := .type "list", dict := dd2, data := .seq items2 n2, slots := sl2 } ∧ R (.ok (.ret (.bool (ltL (xs.drop i) (ys.drop i))))) s) := by
  induction k with
  | zero =>
    intro i hk hle hle2 prog w A R s h
    obtain ⟨hp, g, d, tk, os⟩ := s; obtain ⟨hl, hb, h⟩ := h
    wp_walk using wpAny_loadPart' hl, wpAny_loadPart' hb
    have none1 : items[((i : Nat) : Int).toNat]? = none := by simp; omega
    have e1 : xs.drop i = [] := List.drop_eq_nil_of_le (by rw [← N1.1]; omega)
    rw [e1, ltL_nil_left, List.length_drop, ← N2.1] at h
    rw [none1]
    wp_walk using wpAny_loadPart' hl, wpAny_loadPart' hb
    have e2 : decide (items.size < items2.size) = decide (0 < items2.size - i) := decide_eq_decide.mpr (by omega)
    show R (.ok (.ret (.bool (decide (items.size < items2.size))))) _
    rw [e2]
    exact h
  | succ k ih =>
    intro i hk hle hle2 prog w A R s h
    obtain ⟨hp, g, d, tk, os⟩ := s; obtain ⟨hl, hb, h⟩ := h
    have lt1 : i < items.size := by omega
    by_cases lt2 : i < items2.size
    · obtain ⟨x, t, hx, ex⟩ := N1.2 i lt1
      obtain ⟨y, u, hy, ey⟩ := N2.2 i lt2
      have dx : xs.drop i = x :: xs.drop (i + 1) := by
        obtain ⟨q1, q2⟩ := List.getElem?_eq_some_iff.mp hx
        rw [List.drop_eq_getElem_cons q1, q2]
      have dy : ys.drop i = y :: ys.drop (i + 1) := by
        obtain ⟨q1, q2⟩ := List.getElem?_eq_some_iff.mp hy
        rw [List.drop_eq_getElem_cons q1, q2]
      wp_walk using wpAny_loadPart' hl, wpAny_loadPart' hb
      have at1 : items[((i : Nat) : Int).toNat]? = some (.int x t) := by simp [lt1, ex]
      have at2 : items2[((i : Nat) : Int).toNat]? = some (.int y u) := by simp [lt2, ey]
      have hc : ((i : Int) + 1) = ((i + 1 : Nat) : Int) := by push_cast; rfl
      rw [dx, dy] at h
      simp only [ltL] at h
      rw [at1, at2]
      refine wpAny_bind (eqI prog w _ _ ?_)
      by_cases exy : x = y
      · rw [if_pos exy] at h
        rw [decide_eq_true exy]
        wp_walk
        rw [hc]
        exact ⟨plainId_quiet plain_eq_loop _, codeAny_builtin entry_eq_loop (by
          rw [Around.under_plainId plain_eq_loop _]
          exact ih (i + 1) (by omega) (by omega) (by omega) prog w A R _ ⟨hl, hb, h⟩)⟩
      · rw [if_neg exy] at h
        rw [decide_eq_false exy]
        wp_walk using wpAny_loadPart' hl, wpAny_loadPart' hb
        rw [at1, at2]
        refine wpAny_bind (LtAt.ints prog w _ _ ?_)
        wp_walk
        exact h
    · wp_walk using wpAny_loadPart' hl, wpAny_loadPart' hb
      obtain ⟨x, t, hx, ex⟩ := N1.2 i lt1
      have at1 : items[((i : Nat) : Int).toNat]? = some (.int x t) := by simp [lt1, ex]
      have none2 : items2[((i : Nat) : Int).toNat]? = none := by simp; omega
      have e1 : ys.drop i = [] := List.drop_eq_nil_of_le (by rw [← N2.1]; omega)
      rw [e1, ltL_nil_right] at h
      rw [at1, none2]
      wp_walk using wpAny_loadPart' hl, wpAny_loadPart' hb
      have e2 : decide (items.size < items2.size) = false := decide_eq_false (by omega)
      show R (.ok (.ret (.bool (decide (items.size < items2.size))))) _
      rw [e2]
      exact h
theorem list_lt {l b : Addr} {items items2 : Array Value} {n n2 : Nat} {dd dd2 : Option Addr} {sl sl2 : Array (Option Value)} {xs ys : List Int} (N1 : Nums xs items) (N2 : Nums ys items2) : Meets (Builtin.«list.__lt__» ⟨[.ref l, .ref b], []⟩)
    (fun A R s => s.heap.get? l = some { cls := .type "list", dict := dd, data := .seq items n, slots := sl } ∧ s.heap.get? b = some { cls := .type "list", dict := dd2, data := .seq items2 n2, slots := sl2 } ∧ R (.ok (.ret (.bool (ltL xs ys)))) s) := by
  intro prog w A R s h
  obtain ⟨hp, g, d, tk, os⟩ := s; obtain ⟨hl, hb, h⟩ := h
  have sub := AutoSeq1.sub_list_list
  wp_walk using wpAny_loadPart' hl, wpAny_loadPart' hb
  exact ⟨plainId_quiet plain_eq_loop _, codeAny_builtin entry_eq_loop (by
    rw [Around.under_plainId plain_eq_loop _]
    exact lt_loop N1 N2 _ 0 rfl (Nat.zero_le _) (Nat.zero_le _) prog w A R _ ⟨hl, hb, by simpa using h⟩)⟩
theorem LtAt.lists {A : Around} {s : Shared} {l b : Addr} {items items2 : Array Value} {xs ys : List Int} (hl : s.heap.IsList l items) (hb : s.heap.IsList b items2) (N1 : Nums xs items) (N2 : Nums ys items2) (hu : A.units < cLine) : LtAt A s (.ref l) (.ref b) (ltL xs ys) := fun prog w E Q h => by
  obtain ⟨⟨cls, dd, data, sl⟩, ho, hc, n, hd⟩ := id hl
  obtain ⟨⟨cls2, dd2, data2, sl2⟩, ho2, hc2, n2, hd2⟩ := id hb
  simp only at hc hd hc2 hd2; subst hc hd hc2 hd2
  exact richCompare_meets_room (op := .Lt) ⟨_, ho, rfl⟩ ⟨_, ho2, rfl⟩ F.slot_list_lt F.entry_list_lt (F.args_list_lt_2 _ _) (list_lt N1 N2) ⟨ho, ho2, show Value.bool (ltL xs ys) ≠ Value.notImplemented ∧ Q (.bool (ltL xs ys)) s from ⟨(fun x => nomatch x), h⟩⟩ hu
/-- a pair of a number and a list of numbers, ahead of another one -/
def ltP (a b : Int) (xs ys : List Int) : Bool := if a = b then ltL xs ys else decide (a < b)
theorem ltL_self : ∀ xs : List Int, ltL xs xs = false
  | [] => rfl
  | x :: xs => by simp only [ltL, if_true]; exact ltL_self xs
end
end L2

namespace L2
open PySem PySem.Spec PyProof.Rows
/-! ### short forms, so that the terms stay small -/
theorem us1 {C : List Value → Prop} (h : ∀ a, C [a]) : ∀ us : List Value, us.length = 1 → C us
  | [a], _ => h a
theorem us2 {C : List Value → Prop} (h : ∀ a b, C [a, b]) : ∀ us : List Value, us.length = 2 → C us
  | [a, b], _ => h a b
theorem us3 {C : List Value → Prop} (h : ∀ a b c, C [a, b, c]) : ∀ us : List Value, us.length = 3 → C us
  | [a, b, c], _ => h a b c
theorem for_listA {K : PySem.W.Frag} {a : Addr} {xs : List V} {g : TG} {tb : TS} {D : Ends} {σ : St} {H : Hp} (Pv : Nat → St → Hp → Prop) (h0 : Pv 0 σ H) (hl : ∀ i σ H, i ≤ xs.length → Pv i σ H → SqL K H a xs)
    (hs : ∀ (D2 : Ends) i x σ H, (∀ σ' H', Pv (i + 1) σ' H' → D2.nx σ' H') → xs[i]? = some x → Pv i σ H → g x σ H fun σ2 H2 => tb D2 σ2 H2) (hd : ∀ σ H, Pv xs.length σ H → D.nx σ H) : FW (Itl K a) g tb D σ H :=
  for_list Pv h0 hl (fun i x σ H hx p => hs _ i x σ H (fun _ _ h => h) hx p) hd
theorem for_rangeA {lo : Int} {n : Nat} {g : TG} {tb : TS} {D : Ends} {σ : St} {H : Hp} (Pv : Nat → St → Hp → Prop) (h0 : Pv 0 σ H)
    (hs : ∀ (D2 : Ends) i σ H, (∀ σ' H', Pv (i + 1) σ' H' → D2.nx σ' H') → i < n → Pv i σ H → g (.int (lo + i)) σ H fun σ2 H2 => tb D2 σ2 H2) (hd : ∀ σ H, Pv n σ H → D.nx σ H) : FW (Itr lo n) g tb D σ H :=
  for_range Pv h0 (fun i σ H hx p => hs _ i σ H (fun _ _ h => h) hx p) hd
end L2

namespace L2
open PySem PySem.Spec PyProof.Rows
/-! ### walking a text; list(range(0, b, c)) -/
def Its (z : Str) : It := ⟨fun i _ => i < z.cps.size, fun i H x H' => H' = H ∧ ∃ c, z.cps[i]? = some c ∧ x = sg c, fun i _ => z.cps.size ≤ i⟩
theorem turn_str {P : Program} {w : World} {K : PySem.W.Frag} {tg : Expr} (it : Addr) (z : Str) (t : Tok) : Turn P w K tg (Its z) [it] it (fun i h => i ≤ z.cps.size ∧ h.IsStrIter it "str_ascii_iterator" z t i) where
  mem := by simp
  obj := fun i h st b hb => by
    have e : b = it := by simpa using hb
    subst e
    obtain ⟨_, o, e, c, d⟩ := st
    exact ⟨o, e, fun v z => by rw [d] at z; cases z⟩
  keep := fun i h h' st k => by
    obtain ⟨hi, o, e, r⟩ := st
    exact ⟨hi, o, k it (by simp) o e, r⟩
  item := by
    intro X hP hw hK hc i pins s σ H E I hf st hg
    subst hP hw hK
    obtain ⟨f0, f1, f2, f3, f4, f5⟩ := hf it (by simp)
    have W := Walks.strAscii (prog := X.prog) (w := X.w) (I.ok.hd hc) it z t
    refine W.item i s _ _ hg st.2 fun v h' tk hv st' kk => ?_
    obtain ⟨c, u, hc', rfl⟩ := hv
    have I1 : Inv X pins σ H { s with heap := h', toks := tk } := I.turned (fun b o hb e => kk b o (by simpa using hb) e) f0 f1 f3 f4 f5
    obtain ⟨o, e, oc, od⟩ := id st'
    exact ⟨_, rfl, go_of (s := { s with heap := h', toks := tk }) (n := "str_ascii_iterator") e oc od (by decide) ⟨sg c, H, I1, ⟨u, rfl⟩, ⟨rfl, c, hc', rfl⟩, ⟨hg, st'⟩, fun b hb => (hf b hb).1⟩⟩
  done := by
    intro X hP hw hK hc i pins s σ H E I hf st hg
    subst hP hw hK
    obtain ⟨f0, f1, f2, f3, f4, f5⟩ := hf it (by simp)
    have W := Walks.strAscii (prog := X.prog) (w := X.w) (I.ok.hd hc) it z t
    have e : i = z.cps.size := Nat.le_antisymm st.1 hg
    subst e
    exact W.done s _ _ st.2 fun h' tk kk => ⟨rfl, I.turned (fun b o hb e => kk b o (by simpa using hb) e) f0 f1 f3 f4 f5⟩
  self := fun A i s Q E st h => wpAny_pyIter_striter_ascii st.2 h
section
variable {X : Cx} {tg : Expr}
def iStr (tl : TE) : TI := fun σ H R => tl σ H fun x H1 => ∃ z : Str, x = .str z ∧ z.cps.all (· < 128) = true ∧ R (Its z) H1
theorem pi_str {l : Expr} {tl : TE} (hl : PE X l tl) : PI X tg l (iStr tl) := by
  intro pins s σ H R I h
  refine thn (hl pins s σ H _ I h) fun v s1 ⟨x, H1, I1, r1, q1⟩ => ?_
  obtain ⟨z, e, ha, q⟩ := q1
  subst e
  obtain ⟨t, rfl⟩ := r1
  refine wpAny_pyIter_ascii ha ?_
  refine ⟨s1.heap.objs.size, [s1.heap.objs.size], _, _, H1, rfl, I1.kept (t' := s1.toks) fun b o e => Heap.get?_push_of_some _ e, turn_str _ z t, ⟨Nat.zero_le _, _, Heap.get?_push_size _ rfl, rfl, rfl⟩, fun b hb => ?_, q⟩
  have e : b = s1.heap.objs.size := by simpa using hb
  subst e
  exact I1.fpOk (Nat.le_refl _) (I1.hok.fresh (Nat.le_refl _))
end
theorem comp_str {z : Str} {tc : TT} {te : TE} {σ : St} {H1 : Hp} {Q : Hp → Prop} {D : Addr} (Pv : Nat → List V → Hp → Prop) (hn : z.cps.size < sizeLine) (h0 : Pv 0 [] (upd H1 D (.lst [])))
    (hl : ∀ i ys H, Pv i ys H → ys.length ≤ i)
    (hs : ∀ i c ys H, z.cps[i]? = some c → Pv i ys H → tc (σ ++ [some (sg c)]) H fun b H2 => if b = true then te (σ ++ [some (sg c)]) H2 fun v H3 => H3 D = some (.lst ys) ∧ Pv (i + 1) (ys ++ [v]) (upd H3 D (.lst (ys ++ [v]))) else Pv (i + 1) ys H2)
    (hd : ∀ ys H, Pv z.cps.size ys H → Q H) :
    ∃ W : Nat → Nat → List V → Hp → Prop, (∃ m, W 0 m [] (upd H1 D (.lst []))) ∧
      ∀ i m ys H, W i m ys H → ((Its z).stop i H ∧ Q H) ∨ ((Its z).go i H ∧ ys.length < sizeLine ∧ ∃ N : List V → Hp → Prop, (∀ ys' H', N ys' H' → ∃ m', m' < m ∧ W (i + 1) m' ys' H') ∧ ∀ x H', (Its z).yld i H x H' → tc (σ ++ [some x]) H' fun b H2 =>
        if b = true then te (σ ++ [some x]) H2 fun v H3 => H3 D = some (.lst ys) ∧ N (ys ++ [v]) (upd H3 D (.lst (ys ++ [v]))) else N ys H2) := by
  refine ⟨fun i m ys H => m = z.cps.size - i ∧ i ≤ z.cps.size ∧ Pv i ys H, ⟨z.cps.size, by simp, Nat.zero_le _, h0⟩, ?_⟩
  rintro i m ys H ⟨rfl, hi, p⟩
  by_cases hlt : i < z.cps.size
  · refine .inr ⟨hlt, Nat.lt_of_le_of_lt (hl i ys H p) (Nat.lt_trans hlt hn), Pv (i + 1), fun ys' H' p' => ⟨z.cps.size - (i + 1), by omega, rfl, hlt, p'⟩, fun x H' y => ?_⟩
    obtain ⟨e, c, hc, rfl⟩ := y
    subst e
    exact hs i c ys _ hc p
  · have e : i = z.cps.size := by omega
    subst e
    exact .inl ⟨Nat.le_refl _, hd ys H p⟩
section
variable {X : Cx} {a b c : Expr} {ta : TA} {p p2 pos pos2 : Pos}
end
theorem op_isNot {X : Cx} : OpR X (compareOp .IsNot) (fun x y H Q => ∃ a b : Bool, x = .bl a ∧ y = .bl b ∧ Q (.bl (!decide (a = b))) H) := by
  intro pins s σ H x y v u Q I rx ry h
  obtain ⟨a, b, rfl, rfl, q⟩ := h
  cases rx
  cases ry
  cases a <;> cases b <;> first | exact wpAny_pure ⟨.bl false, H, I, rfl, q⟩ | exact wpAny_pure ⟨.bl true, H, I, rfl, q⟩
end L2

namespace L2
open PySem PySem.Spec PyProof.Rows
/-! ### min of a list of triples (number, number, number or list of numbers) -/
abbrev K3 := Int × Int × List Int
section
variable {s : Shared} {prog : Program} {w : World} {A : Around} {E : Value → Shared → Prop}
end
section
open SeqAt MeetsSeq MeetsSeq2 MeetsSeq3 SeqRoads2
open AutoSeq1 (wpAny_loadPart')
end
/-- a triple that stands at an address, its last part a number or a list of numbers -/
def Trip (isL : Bool) (H : Hp) (c : Addr) (k : K3) : Prop := match isL with
  | false => ∃ d : Int, k.2.2 = [d] ∧ H c = some (.tup [.int k.1, .int k.2.1, .int d])
  | true => ∃ g : Addr, H c = some (.tup [.int k.1, .int k.2.1, .ref g]) ∧ H g = some (.lst (k.2.2.map V.int))
/-- triples in a list, by their keys -/
structure Trips (isL : Bool) (H : Hp) (cs : List Addr) (ks : List K3) : Prop where
  len : cs.length = ks.length
  at_ : ∀ (i : Nat) (c : Addr) (k : K3), cs[i]? = some c → ks[i]? = some k → Trip isL H c k
section
variable {X : Cx} {e d : Expr} {te td : TE} {p pos kp : Pos} {k : Nat}
end
end L2

namespace L2
open PySem PySem.Spec PyProof.Rows
/-! ### for x in reversed(range(n)) -/
section
variable {prog : Program} {w : World} {A : Around} {E : Value → Shared → Prop} {s : Shared}
end
section
variable {X : Cx} {tg a : Expr} {ta : TA} {p p2 pos pos2 : Pos}
end
end L2

namespace L2
open PySem PySem.Spec PyProof.Rows
/-! ### in and not in a dict, as operators -/
/-! ### zip of two tuples -/
section
variable {prog : Program} {w : World} {A : Around} {E : Value → Shared → Prop} {s : Shared}
theorem IsTup.at {h h' : Heap} {a : Addr} {items : Array Value} (x : h.IsTuple a items) (k : ∀ o, h.get? a = some o → h'.get? a = some o) : h'.IsTuple a items := by
  obtain ⟨o, ho, r⟩ := x
  exact ⟨o, k o ho, r⟩
theorem IsTupIt.at {h h' : Heap} {a t : Addr} {i : Nat} (x : h.IsTupleIter a t i) (k : ∀ o, h.get? a = some o → h'.get? a = some o) : h'.IsTupleIter a t i := by
  obtain ⟨o, ho, r⟩ := x
  exact ⟨o, k o ho, r⟩
end
section
variable {prog : Program} {w : World} {A : Around} {E : Value → Shared → Prop} {s : Shared}
end
end L2

namespace L2
open PySem PySem.Spec PyProof.Rows
/-! ### a def of the text called while an exception is handled -/
structure RoomH (k : Nat) (A : Around) : Prop where
  dp : A.depth + 3 * k + 5 < recursionLimit
  un : A.units + 16 * k + 200 < cLine
structure FnHOk (P : Program) (w : World) (K : PySem.W.Frag) (mg : Str → Option Value) (base : Heap) (k : Nat) (f : Addr) (fd : FuncData) (ps : List Str) (sp : Sp) : Prop where
  len : ∀ vs H Q E, sp vs H Q E → vs.length = ps.length
  run : ∀ (A : Around) (outer : List Env) (s : Shared) (H : Hp) (args : Args) (us : List Value) (vs : List V) (Q : VK), RoomH k A → Env0 P w K mg base A outer s H → BindsTo s fd args (ps.zip us) → Vals vs us → sp vs H Q E0 →
    codeAny (model P w) A (.call (.ref f) args) (CR CX0 outer P w H s Q E0) s
structure FnH (P : Program) (w : World) (K : PySem.W.Frag) (mg : Str → Option Value) (base : Heap) (x : Str) (k : Nat) (ps : List Str) (sp : Sp) : Prop where
  ex : ∃ f fd, FnHOk P w K mg base k f fd ps sp ∧ mg x = some (.ref f) ∧ PySem.W.keepIn K (.ref f) = true ∧ Binds K fd ps []
end L2

namespace L2
open PySem PySem.Spec PyProof.Rows
/-! ### all of a list of truths -/
section
variable {X : Cx} {e : Expr} {te : TE} {p pos : Pos}
end
/-! ### how often a text stands in a list of texts -/
section
variable {X : Cx}
end
/-! ### list(range(a, b)), list(range(a, b, c)) -/
section
variable {X : Cx} {a b c : Expr} {ta : TA} {p p2 pos pos2 : Pos}
def numsFrom (i k n : Nat) : List Int := (List.range n).map fun q => ((i + q * k : Nat) : Int)
def tListR2 (ta : TA) : TE := fun σ H Q => ta σ H fun vs H1 => ∃ (i j n : Nat), vs = [.int (i : Int), .int (j : Int)] ∧ i ≤ 100000 ∧ j ≤ 100000 ∧ n = (j - i + 1 - 1) / 1 ∧ ∀ l, H1 l = none → Q (.ref l) (upd H1 l (.lst ((numsFrom i 1 n).map V.int)))
theorem size_from {i j k n : Nat} (k1 : 1 ≤ k) (hn : n = (j - i + k - 1) / k) : Builtin.Range.rangeSize (i : Int) (j : Int) (k : Int) = ((n : Nat) : Int) := by
  unfold Builtin.Range.rangeSize
  rw [if_pos (by omega)]
  split
  · rename_i h
    rw [hn]
    have e : ((j : Int) - (i : Int) - 1) / (k : Int) + 1 = ((j : Int) - (i : Int) - 1 + 1 * (k : Int)) / (k : Int) := by rw [Int.add_mul_ediv_right _ _ (by omega)]
    rw [e, show ((j : Int) - (i : Int) - 1 + 1 * (k : Int)) = ((j - i + k - 1 : Nat) : Int) by omega]
    exact (Int.natCast_ediv _ _).symm
  · rename_i h
    have : j - i + k - 1 < k := by omega
    rw [hn, Nat.div_eq_of_lt this]
    rfl
theorem list_from {pins : List (Addr × Obj)} {σ : St} {H1 : Hp} {s : Shared} {Q : VK} {E : Value → Shared → Prop} {i j k n : Nat} {r : Addr} {t u v : Tok} (hc : X.calm = true) (I2 : Inv X pins σ H1 s) (hr : IsRange s.heap r (i : Int) (j : Int) (k : Int) t u v)
    (k1 : 1 ≤ k) (k2 : k ≤ 100000) (i2 : i ≤ 100000) (j2 : j ≤ 100000) (hn : n = (j - i + k - 1) / k) (q : ∀ l, H1 l = none → Q (.ref l) (upd H1 l (.lst ((numsFrom i k n).map V.int)))) : wpAny (model X.prog X.w) X.A (call (.type "list") [.ref r]) (EP X pins σ Q) E s := by
  have hsz := size_from k1 hn
  have hnb : n ≤ 200000 := by rw [hn]; exact Nat.le_trans (Nat.div_le_self _ _) (by omega)
  have hsm : Builtin.Range.small (i : Int) (j : Int) (k : Int) = true := by
    unfold Builtin.Range.small
    rw [hsz, if_pos (show (k : Int) > 0 by omega)]
    simp only [Builtin.Range.rangeFitsLong, Bool.and_eq_true, Bool.or_eq_true, decide_eq_true_eq, beq_iff_eq]
    omega
  refine call_list_range (I2.ok.hd hc) hr hsm hsz (Nat.le_trans hnb (by decide)) fun h' tk acc c k' hl hit => ?_
  refine ⟨.ref _, _, I2.laid (t' := tk) (o := .lst ((numsFrom i k n).map V.int)) k' (Nat.le_refl _) ?_, rfl, q _ (I2.hok.fresh (Nat.le_refl _))⟩
  obtain ⟨hz, hat⟩ := hit
  refine ⟨by unfold numsFrom; rw [List.length_map, List.length_map, List.length_range]; exact Nat.le_trans hnb (by decide), acc.toList, c, ?_, by simpa using hl⟩
  refine vals_of_get (by unfold numsFrom; rw [List.length_map, List.length_map]; simp [hz]) fun y x u' hx hu => ?_
  have hu' : acc[y]? = some u' := by simpa using hu
  obtain ⟨tt, rfl⟩ := hat y u' hu'
  have hi : y < n := by rw [← hz]; exact (Array.getElem?_eq_some_iff.mp hu').1
  unfold numsFrom at hx
  rw [List.getElem?_map, List.getElem?_map, List.getElem?_range hi] at hx
  have e : V.int ((i + y * k : Nat) : Int) = x := Option.some.inj hx
  subst e
  refine ⟨tt, ?_⟩
  rw [Int.natCast_add, Int.natCast_mul]
theorem pe_listRa (hc : X.calm = true) (hml : X.mg "list" = none) (hmr : X.mg "range" = none) (ha : PA X [a, b] ta) (hgl : Gl X "list" := by rfl) (hgr : Gl X "range" := by rfl)
    (he : starEach [Expr.Call (.Name "range" p2) [a, b] [] pos2] X.env = [(false, eval (Expr.Call (.Name "range" p2) [a, b] [] pos2) X.env)] := by rfl)
    (hs : starEach [a, b] X.env = (false, eval a X.env) :: starEach [b] X.env := by rfl) (hs2 : (backTo pos2 (starEach [b] X.env)).any (·.1) = false := by rfl) :
    PE X (.Call (.Name "list" p) [.Call (.Name "range" p2) [a, b] [] pos2] [] pos) (tListR2 ta) := by
  intro pins s σ H Q I h
  refine wpAny_Call_Name_kw (ld_blt I hgl hml bt_list ?_)
  refine PyProof.Rows.callWith_type1 ?_ he rfl
  rw [he]
  show wpAny _ _ (spliced ((false, eval (Expr.Call (.Name "range" p2) [a, b] [] pos2) X.env) :: backTo pos [])) _ _ s
  refine Calls.spliced_cons ?_
  refine Call_ (ld_blt I hgr hmr boot_range (PyProof.Rows.callWith_type1 (thn (ha pos2 pins s σ H _ I h) fun us s1 ⟨vs, H1, I1, r1, q1⟩ => ?_) hs hs2))
  obtain ⟨i, j, n, e, i2, j2, en, q⟩ := q1
  subst e
  cases r1 with
  | cons r rr =>
    cases rr with
    | cons r' rr =>
      cases rr
      obtain ⟨t, rfl⟩ := r
      obtain ⟨t', rfl⟩ := r'
      refine call_range_2 ?_
      refine Calls.spliced_nil ?_
      have I2 : Inv X pins σ H1 { s1 with heap := s1.heap.push { cls := .type "range", data := .fields #[.int (i : Int) t, .int (j : Int) t', .int 1 s1.toks] }, toks := s1.toks + 1 } := I1.kept fun b o e => Heap.get?_push_of_some _ e
      exact list_from (k := 1) hc I2 (IsRange.new ..) (by decide) (by decide) i2 j2 en q
end
/-! ### try .. except C, without a name -/
end L2

namespace L2
open PySem PySem.Spec PyProof.Rows
/-! ### dict of a list of pairs -/
section
variable {prog : Program} {w : World} {A : Around} {E : Value → Shared → Prop} {s : Shared}
theorem list_no_keys : typeLookup (.type "list") "keys" = pure none := am_miss_of_fast (by decide +kernel)
theorem keys_miss {a : Addr} {xs : Array Value} {n : Nat} {sl : Array (Option Value)} {Q : Option Value → Shared → Prop} (hx : s.heap.get? a = some { cls := .type "list", dict := none, data := .seq xs n, slots := sl }) (hA : A.handled = none)
    (h : ∀ h' tk, (∀ b o, s.heap.get? b = some o → h'.get? b = some o) → Q none { s with heap := h', toks := tk }) : wpAny (model prog w) A (getAttr? (.ref a) "keys") Q E s := by
  obtain ⟨hp, g, dr, tk0, os⟩ := s
  have ty : ∀ tk, (⟨hp, g, dr, tk, os⟩ : Shared).TypeIs (.ref a) "list" := fun _ => ⟨_, hx, rfl⟩
  have q1 := sub_AttributeError
  have q2 := F.slot_list_getattribute.lookup
  have q3 := F.slot_list_getattribute.bind (.ref a)
  have q4 := am_list_getattr_none
  unfold getAttr? getAttrBy? getAttrBy
  repeat (any_goals (first | assumption | exact ty _ | ((with_reducible show wpAny _ _ (call (Value.builtin "list.__getattribute__") _ _) _ _ _); refine call_meets F.slot_list_getattribute (ty _) am_entry_list_getattribute (F.args_list_getattribute_2 _ _) (meets_getattribute_miss_list a xs n sl "keys" _ list_no_keys (by decide +kernel)) ⟨hx, hA, fun h' tk' e made => ?_⟩) | wp_step))
  obtain ⟨t', u', he⟩ := made.there
  show wpAny _ _ (getattributeRaised _ _ _ _ _ _ _) _ _ _
  unfold getattributeRaised
  repeat (any_goals (first | assumption | wp_step))
  exact h _ _ made.keeps
end
section
variable {prog : Program} {w : World} {κ : Type} [DecidableEq κ] {knd : KeyKind prog w κ} {A : Around} {E : Value → Shared → Prop} {s : Shared}
theorem plain_updLoop : plainId "dict.update.loop" = true := by decide +kernel
theorem entry_updLoop : entryFor table "dict.update.loop" = some Builtin.«dict.update.loop» := entryFor_of_fast (by kernel_rfl)
/-- the pairs that are still to come are laid into the dict, one after another -/
theorem upd_loop {d I l : Addr} {its : Array Value} {prs : List (κ × Value)} {h₀ : Heap} {R : Result → Shared → Prop} (hh : A.in1.handled = none) (hI : l ≠ I) (hdI : d ≠ I) (hdl : d ≠ l) (hn : prs.length = its.size) (hn2 : prs.length ≤ 1000)
    (hit : ∀ (i : Nat) (v : Value), its[i]? = some v → ∃ (p : Addr) (k : κ) (key val : Value), v = .ref p ∧ p ≠ d ∧ p ≠ I ∧ prs[i]? = some (k, val) ∧ knd.is k key = true ∧ h₀.IsTuple p #[key, val]) :
    ∀ (m i : Nat) (s : Shared) (t : Tok), its.size - i = m → i ≤ its.size → (s.heap.IsListIter I l i ∧ s.heap.IsList l its) → s.heap.DictOf knd d (merged [] (prs.take i)) → (∀ b o, b ≠ I → b ≠ d → h₀.get? b = some o → s.heap.get? b = some o) →
    (∀ h' tk, h'.DictOf knd d (merged [] prs) → (∀ b o, b ≠ I → b ≠ d → h₀.get? b = some o → h'.get? b = some o) → R (.ok (.ret .none)) { s with heap := h', toks := tk }) →
    codeAny (model prog w) A (.builtin "dict.update.loop" ⟨[.ref d, .ref I, .int (i : Int) t, .none], []⟩) R s := by
  have W := Walks.list (prog := prog) (w := w) hh I l hI its
  intro m
  induction m with
  | zero =>
    intro i s t hm hi st hd hk hR
    obtain rfl : i = its.size := by omega
    refine codeAny_builtin entry_updLoop ?_
    rw [Around.under_plainId plain_updLoop _]
    show wpAny _ A.in1 (pyNext (.ref I) >>= _) _ _ s
    refine wpAny_bind (W.done s _ _ st fun h' tk keep => ?_)
    rw [List.take_of_length_le (by omega)] at hd
    obtain ⟨o, es, ep, ho, rest⟩ := hd
    exact wpAny_bind (wpAny_pure (wpAny_pure (hR h' tk ⟨o, es, ep, keep d o (by simpa using hdI) ho, rest⟩ fun b o h1 h2 e => keep b o (by simpa using h1) (hk b o h1 h2 e))))
  | succ m ih =>
    intro i s t hm hi st hd hk hR
    have hlt : i < its.size := by omega
    refine codeAny_builtin entry_updLoop ?_
    rw [Around.under_plainId plain_updLoop _]
    show wpAny _ A.in1 (pyNext (.ref I) >>= _) _ _ s
    refine wpAny_bind (W.item i s _ _ hlt st fun v h' tk hv st' keep => ?_)
    obtain ⟨p, k, key, val, rfl, pd, pI, hpr, hkey, hp⟩ := hit i v hv
    obtain ⟨ob, hob, hcl, n', hda⟩ := hp
    have hp' := keep p _ (by simpa using pI) (hk p _ pI pd hob)
    have hT : ({ s with heap := h', toks := tk } : Shared).TypeIs (.ref p) "tuple" := ⟨_, hp', hcl⟩
    refine wpAny_bind (wpAny_holding ?_)
    refine wpAny_bind (wpAny_tryCatch ?_)
    unfold Builtin.Dict.pairItems
    refine wpAny_bind (wpAny_typeOf hT ?_)
    rw [if_pos (by decide)]
    refine wpAny_bind (wpAny_seqItems hp' hda (wpAny_pure ?_))
    show wpAny _ A.in1 (holding [key, val] (dictSet d key val)) _ _ _
    have hd' : h'.DictOf knd d (merged [] (prs.take i)) := by
      obtain ⟨o, es, ep, ho, rest⟩ := hd
      exact ⟨o, es, ep, keep d o (by simpa using hdI) ho, rest⟩
    have hle : (merged ([] : List (κ × Value)) (prs.take i)).length ≤ 1000 := by
      have := merged_length_le ([] : List (κ × Value)) (prs.take i)
      rw [List.length_nil, List.length_take] at this
      omega
    refine wpAny_holding (wpAny_dictSet_pairs (hsz := Nat.le_trans hle (by decide)) hkey hd' fun h2 hd2 hs2 => ?_)
    refine wpAny_pure ⟨plainId_quiet plain_updLoop _, ?_⟩
    have := ih (i + 1) { s with heap := h2, toks := tk + 1 } 0 (by omega) (by omega) ?_ ?_ ?_ ?_
    · exact this
    · exact ⟨st'.1.at fun o e => (hs2.2 I (Ne.symm hdI)).trans e, st'.2.at fun o e => (hs2.2 l (Ne.symm hdl)).trans e⟩
    · rw [merged_take_succ [] prs i (k, val) hpr]; exact hd2
    · exact fun b o h1 h2' e => (hs2.2 b h2').trans (keep b o (by simpa using h1) (hk b o h1 h2' e))
    · exact fun h3 tk3 a b => hR h3 tk3 a b
/-- dict(list of pairs) -/
theorem call_dict_prs {l : Addr} {its : Array Value} {prs : List (κ × Value)} {Q : Value → Shared → Prop} (hA : A.handled = none) (hn : prs.length = its.size) (hn2 : prs.length ≤ 1000) (n : Nat) (hl : s.heap.get? l = some (seqObj "list" its n))
    (hit : ∀ (i : Nat) (v : Value), its[i]? = some v → ∃ (p : Addr) (k : κ) (key val : Value), v = .ref p ∧ prs[i]? = some (k, val) ∧ knd.is k key = true ∧ s.heap.IsTuple p #[key, val])
    (h : ∀ h' tk, h'.DictOf knd s.heap.objs.size (merged [] prs) → (∀ b o, s.heap.get? b = some o → h'.get? b = some o) → Q (.ref s.heap.objs.size) { s with heap := h', toks := tk }) :
    wpAny (model prog w) A (call (.type "dict") [.ref l]) Q E s := by
  refine callType_codes (Q₁ := fun x s₁ => x = .ref s.heap.objs.size ∧ s₁ = { s with heap := s.heap.push { cls := .type "dict", data := .dict #[] } }) F.kt_called_dict (F.kt_typeCall_dict_1 _) F.entry_dict_init (kt_code_dict_new _ ⟨rfl, rfl⟩) ?_
  rintro x s₁ ⟨rfl, rfl⟩
  have d0 : (s.heap.push { cls := .type "dict", data := .dict #[] }).DictOf knd s.heap.objs.size [] := Heap.DictOf.new s.heap
  refine ⟨d0.typeIs, F.args_dict_init_2 _ _, ?_⟩
  unfold Builtin.«dict.__init__» Builtin.Dict.selfAndRest
  refine wpAny_bind (wpAny_bind (wpAny_notOrdered_dict d0.typeIs (wpAny_pure ?_)))
  have hl' : (s.heap.push { cls := .type "dict", data := .dict #[] }).get? l = some (seqObj "list" its n) := Heap.get?_push_of_some _ hl
  show wpAny _ _ (Builtin.Dict.updateFrom "dict.__init__" s.heap.objs.size (.ref l) [] .none) _ _ _
  unfold Builtin.Dict.updateFrom
  have hT : ({ s with heap := s.heap.push { cls := .type "dict", data := .dict #[] } } : Shared).TypeIs (.ref l) "list" := ⟨_, hl', rfl⟩
  refine wpAny_bind (wpAny_typeOf hT ?_)
  rw [if_pos (by decide)]
  refine wpAny_bind (keys_miss hl' hA fun h1 tk1 keep1 => ?_)
  have hl1 := keep1 _ _ hl'
  have hL1 : h1.IsList l its := ⟨_, hl1, rfl, n, rfl⟩
  show wpAny _ _ (rule _ >>= _) _ _ _
  refine wpAny_bind (wpAny_rule (wpAny_bind (wpAny_pyIter_list hL1 (wpAny_pure ⟨plainId_quiet plain_updLoop _, ?_⟩))))
  have hlt : l < s.heap.objs.size := Heap.lt_size hl
  have dlt : s.heap.objs.size < h1.objs.size := by
    obtain ⟨o, es, ep, ho, _⟩ := d0
    exact Heap.lt_size (keep1 _ _ ho)
  refine upd_loop (knd := knd) (A := A.in1) (h₀ := s.heap) (d := s.heap.objs.size) (I := h1.objs.size) (l := l) (its := its) (prs := prs) (show A.in1.in1.handled = none from hA) (Nat.ne_of_lt (Nat.lt_trans hlt dlt)) (Nat.ne_of_lt dlt) (Nat.ne_of_lt hlt).symm hn hn2 (fun i v hv => ?_) its.size 0 _ _ (Nat.sub_zero _) (Nat.zero_le _) ?_ ?_ ?_ ?_
  · obtain ⟨p, k, key, val, rfl, a, b, c⟩ := hit i v hv
    have : p < s.heap.objs.size := by
      obtain ⟨_, hob, _⟩ := c
      exact Heap.lt_size hob
    exact ⟨p, k, key, val, rfl, Nat.ne_of_lt this, Nat.ne_of_lt (Nat.lt_trans this dlt), a, b, c⟩
  · exact ⟨⟨_, Heap.get?_push_size _ rfl, rfl, rfl⟩, hL1.push _⟩
  · obtain ⟨o, es, ep, ho, rest⟩ := d0
    exact ⟨o, es, ep, Heap.get?_push_of_some _ (keep1 _ _ ho), rest⟩
  · exact fun b o _ _ e => Heap.get?_push_of_some _ (keep1 _ _ (Heap.get?_push_of_some _ e))
  · intro h' tk hd hk
    exact ⟨rfl, h h' tk hd fun b o e => hk b o (Nat.ne_of_lt (Nat.lt_trans (Heap.lt_size e) dlt)) (Nat.ne_of_lt (Heap.lt_size e)) e⟩
end
section
variable {X : Cx} {pins : List (Addr × Obj)} {σ : St} {H : Hp} {s : Shared}
theorem pairs_at (I : Inv X pins σ H s) : ∀ (ps : List Addr) (prs : List (Key × V)), ps.length = prs.length → (∀ (i : Nat) (p : Addr) (kv : Key × V), ps[i]? = some p → prs[i]? = some kv → H p = some (.tup [kV kv.1, kv.2])) →
    ∃ vs : List (Key × Value), KV prs vs ∧ ∀ (i : Nat) (p : Addr), ps[i]? = some p → ∃ (k : Key) (key val : Value), vs[i]? = some (k, val) ∧ (mixKind X.prog X.w).is k key = true ∧ s.heap.IsTuple p #[key, val]
  | [], [], _, _ => ⟨[], .nil, fun i p h => by simp at h⟩
  | p :: ps, kv :: prs, hl, h => by
    obtain ⟨vs, r, hv⟩ := pairs_at I ps prs (by simpa using hl) fun i p' kv' h1 h2 => h (i + 1) p' kv' (by simpa using h1) (by simpa using h2)
    have hp := h 0 p kv rfl rfl
    obtain ⟨z, its, rr, e⟩ := I.hok p _ hp
    obtain ⟨u1, u2, rfl, r1, r2⟩ := rr.two
    refine ⟨(kv.1, u2) :: vs, .cons ⟨rfl, r2⟩ r, fun i p' hi => ?_⟩
    cases i with
    | zero =>
      obtain rfl : p = p' := by simpa using hi
      exact ⟨kv.1, u1, u2, rfl, kV_is r1, e⟩
    | succ i => exact hv i p' (by simpa using hi)
  | [], _ :: _, hl, _ => by simp at hl
  | _ :: _, [], hl, _ => by simp at hl
end
theorem refs_its : ∀ {ps : List Addr} {its : List Value}, Vals (ps.map V.ref) its → its = ps.map Value.ref
  | [], _, h => by cases h; rfl
  | p :: ps, _, h => by
    cases h with
    | cons r t =>
      obtain rfl := refs_its t
      rw [show _ = Value.ref p from r]; rfl
theorem bt_dict : bootBuiltins "dict" = some (.type "dict") := by decide +kernel
section
variable {X : Cx} {e : Expr} {te : TE} {p pos : Pos}
def tDictP (te : TE) : TE := fun σ H Q => te σ H fun x H1 => ∃ (l : Addr) (ps : List Addr) (prs : List (Key × V)), x = .ref l ∧ H1 l = some (.lst (ps.map V.ref)) ∧ ps.length = prs.length ∧ (∀ (i : Nat) (p : Addr) (kv : Key × V), ps[i]? = some p → prs[i]? = some kv → H1 p = some (.tup [kV kv.1, kv.2])) ∧ (prs.map (·.1)).Nodup ∧ prs.length ≤ 1000 ∧ ∀ d, H1 d = none → Q (.ref d) (upd H1 d (.dK prs))
theorem pe_dictP (hc : X.calm = true) (hm : X.mg "dict" = none) (ha : PE X e te) (hg : Gl X "dict" := by rfl) (he : starEach [e] X.env = [(false, eval e X.env)] := by rfl) : PE X (.Call (.Name "dict" p) [e] [] pos) (tDictP te) :=
  pe_callTy (r := r1 fun x H1 Q => ∃ (l : Addr) (ps : List Addr) (prs : List (Key × V)), x = .ref l ∧ H1 l = some (.lst (ps.map V.ref)) ∧ ps.length = prs.length ∧ (∀ (i : Nat) (p : Addr) (kv : Key × V), ps[i]? = some p → prs[i]? = some kv → H1 p = some (.tup [kV kv.1, kv.2])) ∧ (prs.map (·.1)).Nodup ∧ prs.length ≤ 1000 ∧ ∀ d, H1 d = none → Q (.ref d) (upd H1 d (.dK prs)))
    (callR1 fun pins s σ H x us Q I rv ⟨l, ps, prs, ex, hl, hlen, hps, hnd, hn, q⟩ => by
      subst ex
      obtain ⟨u, rfl, ru⟩ := rv.one
      cases ru
      obtain ⟨z, its, n, r, hle, e1⟩ := I.lstM hl
      obtain rfl := refs_its r
      obtain ⟨vs, rk, hv⟩ := pairs_at I ps prs hlen hps
      have hvl := rk.length
      refine call_dict_prs (knd := mixKind X.prog X.w) (prs := vs) (its := (ps.map Value.ref).toArray) (by first | exact I.ok.hd hc | (show X.A.in1.handled = none; exact I.ok.hd hc)) (by simp; omega) (by omega) n e1 (fun i v hi => ?_) fun h' tk hd keep => ?_
      · have hi' : (ps.map Value.ref)[i]? = some v := by simpa using hi
        rw [List.getElem?_map] at hi'
        cases ep : ps[i]? with
        | none => rw [ep] at hi'; cases hi'
        | some p =>
          rw [ep] at hi'
          obtain rfl : Value.ref p = v := Option.some.inj hi'
          obtain ⟨k, key, val, a, b, c⟩ := hv i p ep
          exact ⟨p, k, key, val, rfl, a, b, c⟩
      · rw [merged_nil_of_nodup vs (by rw [← rk.keys]; exact hnd)] at hd
        exact ⟨.ref s.heap.objs.size, _, I.laid (a := s.heap.objs.size) (o := .dK prs) (t' := tk) keep (Nat.le_refl _) ⟨Nat.le_trans hn (by decide), beq_eq_false_iff_ne.mpr (Ne.symm (Nat.ne_of_lt I.big)), vs, rk, hd⟩, rfl, q _ I.fresh⟩)
    hg hm bt_dict (pa_cons ha pa_nil (by exact he)) (he := by exact he)
end
/-! ### min of a list of numbers -/
section
variable {X : Cx} {e : Expr} {te : TE} {p pos : Pos}
end
end L2

namespace L2
open PySem PySem.Spec PyProof.Rows
/-! ### sorted of what is sorted already, of any length -/
section
variable {prog : Program} {w : World} {A : Around} {E : Value → Shared → Prop} {s : Shared} {a₀ : Array Keyed}
theorem out_pairs (vs : List Value) : (pairsOf vs).map (·.2) = vs.toArray := by
  apply Array.toList_inj.mp
  rw [Array.toList_map, pairsOf_toList, List.map_snd_zip (Nat.le_refl _)]
end
section
variable {prog : Program} {w : World} {κ : Type} [DecidableEq κ] {knd : KeyKind prog w κ} {A : Around} {E : Value → Shared → Prop} {s : Shared}
end
theorem vals_up : ∀ {ws : List Value} {ns : List Int}, IntsAre ws ns → Vals (ns.map V.int) ws
  | _, _, .nil => .nil
  | _, _, .cons n t h => .cons ⟨t, rfl⟩ (vals_up h)
theorem bt_sorted : bootBuiltins "sorted" = some (.builtin "sorted") := by decide +kernel
section
variable {X : Cx} {e : Expr} {te : TE} {p pos : Pos}
end
end L2

namespace L2
open PySem PySem.Spec PyProof.Rows
/-! ### names told by a list, < of lists of signs, min of pairs of a number and such a list -/
section
variable {prog : Program} {w : World} {A : Around} {E : Value → Shared → Prop} {s : Shared}
end
section
open SeqAt MeetsSeq MeetsSeq2 MeetsSeq3 SeqRoads2
open AutoSeq1 (wpAny_loadPart')
/-- the codes of signs, as numbers -/
def codes (t : List Nat) : List Int := t.map fun (c : Nat) => (c : Int)
theorem LtAt.signs {A : Around} {s : Shared} {c d : Nat} {t u : Tok} : LtAt A s (.str (sgS c) t) (.str (sgS d) u) (decide ((c : Int) < (d : Int))) := fun prog w E Q h => by
  have e : decide ((sgS c).cps.toList < (sgS d).cps.toList) = decide ((c : Int) < (d : Int)) := by
    apply decide_eq_decide.mpr
    show [c] < [d] ↔ _
    rw [List.cons_lt_cons_iff]
    simp
  rw [← e] at h
  exact richCompare_gives (op := .Lt) (typeIs_str s _ t) (typeIs_str s _ u) F.slot_str_lt F.entry_str_lt (F.args_str_lt_2 _ _) (gives_str_lt _ _ t u) (fun x => nomatch x) h
end
abbrev K2 := Int × List Nat
def lt2 (x y : K2) : Bool := ltP x.1 y.1 (codes x.2) (codes y.2)
/-- a pair of a number and a list of signs that stands at an address -/
def Pair2 (H : Hp) (c : Addr) (k : K2) : Prop := (∀ x ∈ k.2, x < 0x110000) ∧ ∃ g : Addr, H c = some (.tup [.int k.1, .ref g]) ∧ H g = some (.lst (k.2.map sg))
structure Pairs2 (H : Hp) (cs : List Addr) (ks : List K2) : Prop where
  len : cs.length = ks.length
  at_ : ∀ (i : Nat) (c : Addr) (k : K2), cs[i]? = some c → ks[i]? = some k → Pair2 H c k
section
variable {X : Cx} {e d : Expr} {te td : TE} {p pos kp : Pos} {k : Nat}
end
/-! ### for x in range(n, 0, -1) -/
section
variable {X : Cx} {tg a b c : Expr} {ta : TA} {p pos : Pos}
end
/-! ### list(range(n)) -/
section
variable {X : Cx} {a : Expr} {ta : TA} {p p2 pos pos2 : Pos}
end
end L2

namespace L2
open PySem PySem.Spec PyProof.Rows PySem.W
/-! ### sorted of pairs of numbers that are sorted already, of any length -/
section
variable {prog : Program} {w : World} {A : Around} {E : Value → Shared → Prop} {s : Shared}
/-- pairs, the first numbers rising -/
def Prs (h : Heap) (vs : List Value) (ns : List Int) : Prop := vs.length = ns.length ∧ ∀ (i : Nat) (v : Value) (n : Int), vs[i]? = some v → ns[i]? = some n → ∃ (a : Addr) (o : Obj) (t : Tok) (y : Value) (k : Nat), v = .ref a ∧ h.get? a = some o ∧ o.cls = .type "tuple" ∧ o.data = .seq #[.int n t, y] k
theorem Prs.grow {h h' : Heap} {vs : List Value} {ns : List Int} (p : Prs h vs ns) (g : ∀ b o, h.get? b = some o → h'.get? b = some o) : Prs h' vs ns := ⟨p.1, fun i v n e1 e2 => by
  obtain ⟨a, o, t, y, k, rfl, q1, q2, q3⟩ := p.2 i v n e1 e2
  exact ⟨a, o, t, y, k, rfl, g _ _ q1, q2, q3⟩⟩
theorem Prs.tups {h : Heap} : ∀ {vs : List Value} {ns : List Int}, Prs h vs ns → ∃ fs : List Value, KatTups h vs fs ∧ fs.length = vs.length ∧ ∀ v ∈ fs, ∃ n t, v = Value.int n t
  | [], [], _ => ⟨[], KatTups.nil, rfl, fun v hv => by cases hv⟩
  | v :: vs, n :: ns, p => by
    obtain ⟨fs, k1, k2, k3⟩ := Prs.tups (h := h) (vs := vs) (ns := ns) ⟨by have := p.1; simpa using this, fun i v n e1 e2 => p.2 (i + 1) v n e1 e2⟩
    obtain ⟨a, o, t, y, k, rfl, q1, q2, q3⟩ := p.2 0 v n rfl rfl
    refine ⟨.int n t :: fs, KatTups.cons q1 q2 q3 rfl k1, by simp [k2], fun v hv => ?_⟩
    rcases List.mem_cons.mp hv with rfl | z
    · exact ⟨n, t, rfl⟩
    · exact k3 v z
  | [], _ :: _, p => by have := p.1; simp at this
  | _ :: _, [], p => by have := p.1; simp at this
end
section
variable {X : Cx} {e : Expr} {te : TE} {p pos : Pos}
end
end L2

namespace L2
open PySem PySem.Spec PyProof.Rows
/-! ### sorting, of any length and by any order: the runs -/
structure Ordr (κ : Type) where
  lt : κ → κ → Bool
  irr : ∀ a, lt a a = false
  tr : ∀ a b c, lt a b = true → lt b c = true → lt a c = true
  neg : ∀ a b c, lt a c = true → lt a b = true ∨ lt b c = true
namespace Ordr
variable {κ : Type} (O : Ordr κ)
def le (a b : κ) : Prop := O.lt b a = false
variable {O}
theorem le_refl (a : κ) : O.le a a := O.irr a
theorem le_of_lt {a b : κ} (h : O.lt a b = true) : O.le a b := by
  cases z : O.lt b a with
  | false => exact z
  | true => have := O.tr _ _ _ h z; rw [O.irr] at this; cases this
theorem le_trans {a b c : κ} (h1 : O.le a b) (h2 : O.le b c) : O.le a c := by
  cases z : O.lt c a with
  | false => exact z
  | true =>
    rcases O.neg _ b _ z with y | y
    · rw [show O.lt c b = false from h2] at y; cases y
    · rw [show O.lt b a = false from h1] at y; cases y
theorem lt_le {a b c : κ} (h1 : O.lt a b = true) (h2 : O.le b c) : O.lt a c = true := by
  rcases O.neg _ c _ h1 with y | y
  · exact y
  · rw [show O.lt c b = false from h2] at y; cases y
theorem le_lt {a b c : κ} (h1 : O.le a b) (h2 : O.lt b c = true) : O.lt a c = true := by
  rcases O.neg _ a _ h2 with y | y
  · rw [show O.lt b a = false from h1] at y; cases y
  · exact y
theorem le_not {a b : κ} (h : ¬ O.lt a b = true) : O.le b a := by
  cases z : O.lt a b with
  | false => exact z
  | true => exact absurd z h
end Ordr
section
variable {κ : Type} (O : Ordr κ) (key : Keyed → κ)
def kk (a : Array Keyed) (i : Nat) : κ := key ((a[i]?).getD (.none, .none))
theorem kk_congr {a b : Array Keyed} {i j : Nat} (h : a[i]? = b[j]?) : kk key a i = kk key b j := by unfold kk; rw [h]
/-- a stretch that rises -/
def Rise (a : Array Keyed) (lo hi : Nat) : Prop := ∀ i j, lo ≤ i → i ≤ j → j < hi → O.le (kk key a i) (kk key a j)
/-- nothing changed but from lo to hi -/
def OnlyA (a b : Array Keyed) (lo hi : Nat) : Prop := ∀ i, i < lo ∨ hi ≤ i → b[i]? = a[i]?
/-- what a step leaves as it was -/
structure Bas (a₀ : Array Keyed) (kd : SortKind) (st : SortSt) : Prop where
  perm : (arrOf st).Perm a₀
  kind : kindOf st = kd
  failed : failedOf st = none
theorem OnlyA.refl (a : Array Keyed) (lo hi : Nat) : OnlyA a a lo hi := fun _ _ => rfl
theorem OnlyA.trans {a b c : Array Keyed} {lo hi : Nat} (h : OnlyA a b lo hi) (g : OnlyA b c lo hi) : OnlyA a c lo hi := fun i hi => (g i hi).trans (h i hi)
theorem OnlyA.wide {a b : Array Keyed} {lo hi lo' hi' : Nat} (h : OnlyA a b lo hi) (h1 : lo' ≤ lo) (h2 : hi ≤ hi') : OnlyA a b lo' hi' := fun i z => h i (by omega)
theorem Rise.keep {O : Ordr κ} {key : Keyed → κ} {a b : Array Keyed} {lo hi l r : Nat} (h : Rise O key a l r) (g : OnlyA a b lo hi) (d : r ≤ lo ∨ hi ≤ l) : Rise O key b l r := fun i j h1 h2 h3 => by
  rw [kk_congr key (g i (by omega)), kk_congr key (g j (by omega))]
  exact h i j h1 h2 h3
/-- a stretch that rises step by step -/
theorem rise_of {O : Ordr κ} {key : Keyed → κ} {a : Array Keyed} {lo hi : Nat} (h : ∀ i, lo ≤ i → i + 1 < hi → O.le (kk key a i) (kk key a (i + 1))) : Rise O key a lo hi := by
  intro i j h1 h2 h3
  induction j with
  | zero => have : i = 0 := by omega
            subst this; exact Ordr.le_refl _
  | succ j ih =>
    by_cases e : i = j + 1
    · subst e; exact Ordr.le_refl _
    · exact Ordr.le_trans (ih (by omega) (by omega)) (h j (by omega) (by omega))
variable {prog : Program} {w : World} {A : Around} {E : Value → Shared → Prop} {s : Shared} {a₀ : Array Keyed} {kd : SortKind}
/-- elements are compared as their keys are -/
def Cmp (prog : Program) (w : World) (A : Around) (E : Value → Shared → Prop) (s : Shared) (a₀ : Array Keyed) (kd : SortKind) : Prop := ∀ x y, x ∈ a₀ → y ∈ a₀ → ∀ (st : SortSt) (Q : Option Bool → SortSt → Prop), kindOf st = kd → Q (some (O.lt (key x) (key y))) st → wpS (model prog w) A E s (lt' x y) Q st
variable {O key}
theorem Bas.size {st : SortSt} (h : Bas a₀ kd st) : (arrOf st).size = a₀.size := h.perm.size_eq
theorem Bas.at {st : SortSt} (h : Bas a₀ kd st) {i : Nat} (hi : i < a₀.size) : ∃ x, (arrOf st)[i]? = some x ∧ x ∈ a₀ := by
  have hl : i < (arrOf st).size := by rw [h.size]; exact hi
  refine ⟨(arrOf st)[i], by simp [hl], ?_⟩
  exact h.perm.mem_iff.mp (Array.getElem_mem hl)
theorem Bas.set {st : SortSt} (h : Bas a₀ kd st) {xs : Array Keyed} (hp : xs.Perm (arrOf st)) : Bas a₀ kd (setArr st xs) := ⟨hp.trans h.perm, h.kind, h.failed⟩
theorem t_ltAt (C : Cmp O key prog w A E s a₀ kd) {st : SortSt} {i j : Nat} {Q : Option Bool → SortSt → Prop} (hB : Bas a₀ kd st) (hi : i < a₀.size) (hj : j < a₀.size) (h : Q (some (O.lt (kk key (arrOf st) i) (kk key (arrOf st) j))) st) : wpS (model prog w) A E s (ltAt' i j) Q st := by
  obtain ⟨x, e1, m1⟩ := hB.at hi
  obtain ⟨y, e2, m2⟩ := hB.at hj
  rw [ltAt'_eq]
  refine wpS_bind (wpS_get ?_)
  show wpS _ _ _ _ (do let x ← elem' (arrOf st) i; let y ← elem' (arrOf st) j; lt' x y) Q st
  rw [elem'_eq, elem'_eq, e1, e2]
  refine wpS_bind (wpS_pure (wpS_bind (wpS_pure (C x y m1 m2 st Q hB.kind ?_))))
  unfold kk at h
  rw [e1, e2] at h
  exact h
/-! ### insertion by halving -/
theorem t_binary (C : Cmp O key prog w A E s a₀ kd) {st : SortSt} {lo n ok : Nat} {Q : Bool → SortSt → Prop} (hB : Bas a₀ kd st) (hn : lo + n ≤ a₀.size) (hok : ok ≤ n) (hs : Rise O key (arrOf st) lo (lo + ok))
    (h : ∀ st', Bas a₀ kd st' → pendingOf st' = pendingOf st → OnlyA (arrOf st) (arrOf st') lo (lo + n) → Rise O key (arrOf st') lo (lo + n) → Q true st') : wpS (model prog w) A E s (binarySort' lo n ok) Q st := by
  rw [binarySort'_eq]
  refine wpS_bind (wpS_mono (wpS_forRange (I := fun k c st' => c = (none, ()) ∧ Bas a₀ kd st' ∧ pendingOf st' = pendingOf st ∧ OnlyA (arrOf st) (arrOf st') lo (lo + n) ∧ Rise O key (arrOf st') lo (lo + k)) (Q := fun c st' => c = (none, ()) ∧ Bas a₀ kd st' ∧ pendingOf st' = pendingOf st ∧ OnlyA (arrOf st) (arrOf st') lo (lo + n) ∧ Rise O key (arrOf st') lo (lo + max (max ok 1) n)) ?one ?last ?init) ?behind)
  case init =>
    refine ⟨rfl, hB, rfl, OnlyA.refl _ _ _, fun i j h1 h2 h3 => ?_⟩
    by_cases e : ok = 0
    · have : i = j := by omega
      subst this; exact Ordr.le_refl _
    · exact hs i j h1 h2 (by omega)
  case last => exact fun c st' z => z
  case behind =>
    rintro c st' ⟨rfl, hB', hp, ho, hr⟩
    refine wpS_pure (h st' hB' hp ho fun i j h1 h2 h3 => hr i j h1 h2 (by omega))
  case one =>
    rintro k c st' hk1 hk2 ⟨rfl, hB', hp, ho, hr⟩
    dsimp only
    refine wpS_bind (wpS_mono (wpS_forRange (I := fun x c z => z = st' ∧ ∃ l r, c = (none, l, r) ∧ l ≤ r ∧ r ≤ k ∧ (r - l) + x ≤ k ∧ (∀ i, i < l → O.le (kk key (arrOf st') (lo + i)) (kk key (arrOf st') (lo + k))) ∧ (∀ i, r ≤ i → i < k → O.lt (kk key (arrOf st') (lo + k)) (kk key (arrOf st') (lo + i)) = true)) (Q := fun c z => z = st' ∧ ∃ l, c = (none, l, l) ∧ l ≤ k ∧ (∀ i, i < l → O.le (kk key (arrOf st') (lo + i)) (kk key (arrOf st') (lo + k))) ∧ (∀ i, l ≤ i → i < k → O.lt (kk key (arrOf st') (lo + k)) (kk key (arrOf st') (lo + i)) = true)) ?in1 ?in2 ?in3) ?in4)
    case in3 => exact ⟨rfl, 0, k, rfl, by omega, by omega, by omega, fun i hi => by omega, fun i h1 h2 => by omega⟩
    case in2 =>
      rintro c z ⟨rfl, l, r, rfl, h1, h2, h3, h4, h5⟩
      have : l = r := by omega
      subst this
      exact ⟨rfl, l, rfl, h2, h4, h5⟩
    case in1 =>
      rintro x c z _ hx ⟨rfl, l, r, rfl, h1, h2, h3, h4, h5⟩
      dsimp only
      by_cases hlr : l ≥ r
      · rw [if_pos hlr]
        have : l = r := by omega
        subst this
        exact wpS_pure ⟨rfl, l, rfl, h2, h4, h5⟩
      · rw [if_neg hlr]
        refine wpS_bind (t_ltAt C hB' (by omega) (by omega) ?_)
        dsimp only
        have hm1 : l ≤ (l + r) / 2 := by omega
        have hm2 : (l + r) / 2 < r := by omega
        by_cases hc : O.lt (kk key (arrOf z) (lo + k)) (kk key (arrOf z) (lo + (l + r) / 2)) = true
        · rw [if_pos hc]
          refine wpS_pure ⟨rfl, l, (l + r) / 2, rfl, by omega, by omega, by omega, h4, fun i h6 h7 => ?_⟩
          exact Ordr.lt_le hc (hr _ _ (by omega) (by omega) (by omega))
        · rw [if_neg hc]
          refine wpS_pure ⟨rfl, (l + r) / 2 + 1, r, rfl, by omega, by omega, by omega, fun i h6 => ?_, h5⟩
          exact Ordr.le_trans (hr _ _ (by omega) (by omega) (by omega)) (Ordr.le_not hc)
    case in4 =>
      rintro c z ⟨rfl, l, rfl, h2, h4, h5⟩
      dsimp only
      rw [moveDown'_eq]
      refine wpS_bind (wpS_modify (wpS_pure ⟨rfl, hB'.set (bubble_perm _ _ _), hp, ?_, ?_⟩))
      · intro i hi
        show (bubble (arrOf z) (lo + k) (lo + k - (lo + l)))[i]? = _
        rw [getElem?_bubble (by rw [hB'.size]; omega) _ (by omega), if_neg (by omega), if_neg (by omega)]
        exact ho i hi
      · have g : ∀ i, kk key (bubble (arrOf z) (lo + k) (lo + k - (lo + l))) i = if i = lo + l then kk key (arrOf z) (lo + k) else if lo + l < i ∧ i ≤ lo + k then kk key (arrOf z) (i - 1) else kk key (arrOf z) i := fun i => by
          have := getElem?_bubble (xs := arrOf z) (src := lo + k) (by rw [hB'.size]; omega) (lo + k - (lo + l)) (by omega) i
          rw [show lo + k - (lo + k - (lo + l)) = lo + l by omega] at this
          by_cases c1 : i = lo + l
          · rw [if_pos c1] at this ⊢; exact kk_congr key this
          · rw [if_neg c1] at this ⊢
            by_cases c2 : lo + l < i ∧ i ≤ lo + k
            · rw [if_pos c2] at this ⊢; exact kk_congr key this
            · rw [if_neg c2] at this ⊢; exact kk_congr key this
        refine rise_of fun i h6 h7 => ?_
        show O.le (kk key (bubble (arrOf z) (lo + k) (lo + k - (lo + l))) i) (kk key (bubble (arrOf z) (lo + k) (lo + k - (lo + l))) (i + 1))
        rw [g, g]
        by_cases c1 : i = lo + l
        · rw [if_pos c1, if_neg (by omega), if_pos (by omega)]
          refine Ordr.le_of_lt ?_
          have := h5 (i - lo) (by omega) (by omega)
          rw [show lo + (i - lo) = i + 1 - 1 by omega] at this
          exact this
        · rw [if_neg c1]
          by_cases c2 : i + 1 = lo + l
          · rw [if_neg (by omega), if_pos c2]
            have := h4 (i - lo) (by omega)
            rw [show lo + (i - lo) = i by omega] at this
            exact this
          · rw [if_neg c2]
            by_cases c3 : lo + l < i ∧ i ≤ lo + k
            · rw [if_pos c3, if_pos (by omega)]
              exact hr _ _ (by omega) (by omega) (by omega)
            · rw [if_neg c3, if_neg (by omega)]
              exact hr _ _ (by omega) (by omega) (by omega)
end
end L2

namespace L2
open PySem PySem.Spec PyProof.Rows
/-! ### the next run -/
section
variable {κ : Type} {O : Ordr κ} {key : Keyed → κ} {prog : Program} {w : World} {A : Around} {E : Value → Shared → Prop} {s : Shared} {a₀ : Array Keyed} {kd : SortKind}
def Fall (O : Ordr κ) (key : Keyed → κ) (a : Array Keyed) (lo hi : Nat) : Prop := ∀ i j, lo ≤ i → i ≤ j → j < hi → O.le (kk key a j) (kk key a i)
/-- all alike -/
def Even (O : Ordr κ) (key : Keyed → κ) (a : Array Keyed) (lo hi : Nat) : Prop := ∀ i j, lo ≤ i → i < hi → lo ≤ j → j < hi → O.le (kk key a i) (kk key a j)
theorem kk_mirror {a : Array Keyed} {p q : Nat} (hq : q ≤ a.size) (i : Nat) : kk key (mirror a p q ((q - p) / 2)) i = if p ≤ i ∧ i < q then kk key a (p + q - 1 - i) else kk key a i := by
  have e := getElem?_mirror_all (xs := a) (i := p) hq i
  by_cases c : p ≤ i ∧ i < q
  · rw [if_pos c] at e ⊢; exact kk_congr key e
  · rw [if_neg c] at e ⊢; exact kk_congr key e
theorem mirror_only {a : Array Keyed} {p q lo hi : Nat} (hq : q ≤ a.size) (h1 : lo ≤ p) (h2 : q ≤ hi) : OnlyA a (mirror a p q ((q - p) / 2)) lo hi := fun i z => by
  rw [getElem?_mirror_all hq, if_neg (by omega)]
theorem fall_rev {a : Array Keyed} {lo hi p q : Nat} (h : Fall O key a lo hi) (hq : q ≤ a.size) (h1 : lo ≤ p) (h2 : q ≤ hi) (ev : Even O key a p q) : Fall O key (mirror a p q ((q - p) / 2)) lo hi := fun i j z1 z2 z3 => by
  rw [kk_mirror hq, kk_mirror hq]
  by_cases ci : p ≤ i ∧ i < q <;> by_cases cj : p ≤ j ∧ j < q
  · rw [if_pos ci, if_pos cj]; exact ev _ _ (by omega) (by omega) (by omega) (by omega)
  · rw [if_pos ci, if_neg cj]; exact h _ _ (by omega) (by omega) (by omega)
  · rw [if_neg ci, if_pos cj]; exact h _ _ (by omega) (by omega) (by omega)
  · rw [if_neg ci, if_neg cj]; exact h _ _ z1 z2 z3
theorem fall_turn {a : Array Keyed} {lo hi : Nat} (h : Fall O key a lo hi) (hq : hi ≤ a.size) : Rise O key (mirror a lo hi ((hi - lo) / 2)) lo hi := fun i j z1 z2 z3 => by
  rw [kk_mirror hq, kk_mirror hq, if_pos (by omega), if_pos (by omega)]
  exact h _ _ (by omega) (by omega) (by omega)
/-- what is known when a run has gone down -/
structure Down (O : Ordr κ) (key : Keyed → κ) (a₀ : Array Keyed) (kd : SortKind) (st z : SortSt) (lo nrem n q : Nat) : Prop where
  bas : Bas a₀ kd z
  pend : pendingOf z = pendingOf st
  only : OnlyA (arrOf st) (arrOf z) lo (lo + nrem)
  q1 : q < n
  fall : Fall O key (arrOf z) lo (lo + n)
  even : Even O key (arrOf z) (lo + n - (q + 1)) (lo + n)
theorem Down.turn {st z : SortSt} {lo nrem n q : Nat} (h : Down O key a₀ kd st z lo nrem n q) (hn : n ≤ nrem) (hs : lo + nrem ≤ a₀.size) : Down O key a₀ kd st (setArr z (mirror (arrOf z) (lo + n - (q + 1)) (lo + n) ((lo + n - (lo + n - (q + 1))) / 2))) lo nrem n 0 := by
  have q1 := h.q1
  have hz : lo + n ≤ (arrOf z).size := by rw [h.bas.size]; omega
  refine ⟨h.bas.set (mirror_perm _ _ _ _), h.pend, h.only.trans (mirror_only hz (by omega) (by omega)), by omega, fall_rev h.fall hz (by omega) (Nat.le_refl _) h.even, fun i j h1 h2 h3 h4 => ?_⟩
  have : i = j := by omega
  subst this; exact Ordr.le_refl _
theorem t_count (C : Cmp O key prog w A E s a₀ kd) {st : SortSt} {lo nrem : Nat} {Q : Option Nat → SortSt → Prop} (hB : Bas a₀ kd st) (hn : lo + nrem ≤ a₀.size) (h1 : 1 ≤ nrem)
    (h : ∀ st' n, Bas a₀ kd st' → pendingOf st' = pendingOf st → OnlyA (arrOf st) (arrOf st') lo (lo + nrem) → 1 ≤ n → n ≤ nrem → Rise O key (arrOf st') lo (lo + n) → Q (some n) st') : wpS (model prog w) A E s (countRun' lo nrem) Q st := by
  rw [countRun'_eq]
  -- up from a place on
  have up : ∀ (z : SortSt) (m : Nat), Bas a₀ kd z → 1 ≤ m → m ≤ nrem → Rise O key (arrOf z) lo (lo + m) → ∀ (Q' : Option (Option Nat) × Nat → SortSt → Prop), (∀ n, m ≤ n → n ≤ nrem → Rise O key (arrOf z) lo (lo + n) → (n < nrem → O.lt (kk key (arrOf z) (lo + n)) (kk key (arrOf z) (lo + n - 1)) = true) → Q' (none, n) z) →
      wpS (model prog w) A E s (forIn [m:nrem] ((none, m) : Option (Option Nat) × Nat) fun _ r => do
        let x ← ltAt' (lo + r.2) (lo + r.2 - 1)
        match x with
        | some smaller => if smaller = true then pure (ForInStep.done (none, r.2)) else pure (ForInStep.yield (none, r.2 + 1))
        | _ => pure (ForInStep.done (some none, r.2))) Q' z := by
    intro z m hBz m1 m2 hr Q' hQ
    refine wpS_forRange (I := fun x c z' => z' = z ∧ c = (none, x) ∧ m ≤ x ∧ x ≤ nrem ∧ Rise O key (arrOf z) lo (lo + x)) ?_ ?_ ⟨rfl, rfl, Nat.le_refl _, m2, hr⟩
    · rintro x c z' hx1 hx2 ⟨rfl, rfl, g1, g2, g3⟩
      dsimp only
      refine wpS_bind (t_ltAt C hBz (by omega) (by omega) ?_)
      dsimp only
      by_cases hc : O.lt (kk key (arrOf z') (lo + x)) (kk key (arrOf z') (lo + x - 1)) = true
      · rw [if_pos hc]
        exact wpS_pure (hQ x g1 g2 g3 fun _ => hc)
      · rw [if_neg hc]
        refine wpS_pure ⟨rfl, rfl, by omega, by omega, rise_of fun i z1 z2 => ?_⟩
        by_cases e : i + 1 = lo + x
        · rw [e, show i = lo + x - 1 by omega]
          exact Ordr.le_not hc
        · exact g3 _ _ z1 (by omega) (by omega)
    · rintro c z' ⟨rfl, rfl, g1, g2, g3⟩
      rw [Nat.max_eq_right m2] at g1 g2 g3 ⊢
      exact hQ nrem g1 g2 g3 fun z => absurd z (Nat.lt_irrefl _)
  have hsz : lo + nrem ≤ (arrOf st).size := by rw [hB.size]; exact hn
  have r1 : Rise O key (arrOf st) lo (lo + 1) := fun i j z1 z2 z3 => by
    have : i = j := by omega
    subst this; exact Ordr.le_refl _
  -- down from a place on
  have down : ∀ (z : SortSt) (m : Nat), Down O key a₀ kd st z lo nrem m 0 → m ≤ nrem → ∀ (Q' : Option (Option Nat) × Nat × Nat → SortSt → Prop), (∀ z' n q, Down O key a₀ kd st z' lo nrem n q → n ≤ nrem → Q' (none, n, q) z') →
      wpS (model prog w) A E s (forIn [m:nrem] ((none, m, 0) : Option (Option Nat) × Nat × Nat) fun _ r => do
        let x ← ltAt' (lo + r.2.1) (lo + r.2.1 - 1)
        match x with
        | some smaller =>
          if smaller = true then
            if r.2.2 > 0 then do
              reverseSlice' (lo + r.2.1 - (r.2.2 + 1)) (lo + r.2.1)
              pure (ForInStep.yield (none, r.2.1 + 1, 0))
            else pure (ForInStep.yield (none, r.2.1 + 1, 0))
          else do
            let x ← ltAt' (lo + r.2.1 - 1) (lo + r.2.1)
            match x with
            | some larger => if larger = true then pure (ForInStep.done (none, r.2.1, r.2.2)) else pure (ForInStep.yield (none, r.2.1 + 1, r.2.2 + 1))
            | _ => pure (ForInStep.done (some none, r.2.1, r.2.2))
        | _ => pure (ForInStep.done (some none, r.2.1, r.2.2))) Q' z := by
    intro z m hD m2 Q' hQ
    refine wpS_forRange (I := fun x c z' => ∃ q, c = (none, x, q) ∧ x ≤ nrem ∧ Down O key a₀ kd st z' lo nrem x q) ?_ ?_ ⟨0, rfl, m2, hD⟩
    · rintro x c z' hx1 hx2 ⟨q, rfl, g2, g3⟩
      dsimp only
      have q1 := g3.q1
      refine wpS_bind (t_ltAt C g3.bas (by omega) (by omega) ?_)
      dsimp only
      by_cases hc : O.lt (kk key (arrOf z') (lo + x)) (kk key (arrOf z') (lo + x - 1)) = true
      · rw [if_pos hc]
        have more : ∀ z'' : SortSt, Down O key a₀ kd st z'' lo nrem x 0 → O.lt (kk key (arrOf z'') (lo + x)) (kk key (arrOf z'') (lo + x - 1)) = true → Down O key a₀ kd st z'' lo nrem (x + 1) 0 := fun z'' D hlt => by
          refine ⟨D.bas, D.pend, D.only, by omega, fun i j z1 z2 z3 => ?_, fun i j z1 z2 z3 z4 => ?_⟩
          · by_cases ej : j = lo + x
            · subst ej
              by_cases ei : i = lo + x
              · subst ei; exact Ordr.le_refl _
              · exact Ordr.le_trans (Ordr.le_of_lt hlt) (D.fall _ _ z1 (by omega) (by omega))
            · exact D.fall _ _ z1 z2 (by omega)
          · have : i = j := by omega
            subst this; exact Ordr.le_refl _
        by_cases hq : q > 0
        · rw [if_pos hq, reverseSlice'_eq]
          refine wpS_bind (wpS_modify (wpS_pure ⟨0, rfl, by omega, more _ (g3.turn g2 hn) ?_⟩))
          have hz : lo + x ≤ (arrOf z').size := by rw [g3.bas.size]; omega
          show O.lt (kk key (mirror (arrOf z') _ _ _) _) (kk key (mirror (arrOf z') _ _ _) _) = true
          rw [kk_mirror hz, kk_mirror hz, if_neg (by omega), if_pos (by omega)]
          exact Ordr.lt_le hc (g3.even _ _ (by omega) (by omega) (by omega) (by omega))
        · rw [if_neg hq]
          have : q = 0 := by omega
          subst this
          exact wpS_pure ⟨0, rfl, by omega, more _ g3 hc⟩
      · rw [if_neg hc]
        refine wpS_bind (t_ltAt C g3.bas (by omega) (by omega) ?_)
        dsimp only
        by_cases hl : O.lt (kk key (arrOf z') (lo + x - 1)) (kk key (arrOf z') (lo + x)) = true
        · rw [if_pos hl]
          exact wpS_pure (hQ _ _ _ g3 g2)
        · rw [if_neg hl]
          have le1 := Ordr.le_not hc
          have le2 := Ordr.le_not hl
          refine wpS_pure ⟨q + 1, rfl, by omega, g3.bas, g3.pend, g3.only, by omega, fun i j z1 z2 z3 => ?_, fun i j z1 z2 z3 z4 => ?_⟩
          · by_cases ej : j = lo + x
            · subst ej
              by_cases ei : i = lo + x
              · subst ei; exact Ordr.le_refl _
              · exact Ordr.le_trans le2 (g3.fall _ _ z1 (by omega) (by omega))
            · exact g3.fall _ _ z1 z2 (by omega)
          · by_cases ei : i = lo + x <;> by_cases ej : j = lo + x
            · subst ei ej; exact Ordr.le_refl _
            · subst ei; exact Ordr.le_trans le2 (g3.even _ _ (by omega) (by omega) (by omega) (by omega))
            · subst ej; exact Ordr.le_trans (g3.even _ _ (by omega) (by omega) (by omega) (by omega)) le1
            · exact g3.even _ _ (by omega) (by omega) (by omega) (by omega)
    · rintro c z' ⟨q, rfl, g2, g3⟩
      rw [Nat.max_eq_right m2] at g2 g3 ⊢
      exact hQ _ _ _ g3 g2
  refine wpS_bind (up st 1 hB (Nat.le_refl _) h1 r1 _ fun n n1 n2 hr hlt => ?_)
  dsimp only
  by_cases en : n = nrem
  · rw [if_pos (by rw [en]; exact beq_self_eq_true _)]
    exact wpS_pure (h st n hB rfl (OnlyA.refl _ _ _) n1 n2 hr)
  · rw [if_neg (by simpa using en)]
    have hl := hlt (by omega)
    have dn : ∀ z : SortSt, Bas a₀ kd z → pendingOf z = pendingOf st → OnlyA (arrOf st) (arrOf z) lo (lo + nrem) → Even O key (arrOf z) lo (lo + n) → O.lt (kk key (arrOf z) (lo + n)) (kk key (arrOf z) (lo + n - 1)) = true → Down O key a₀ kd st z lo nrem (n + 1) 0 := fun z b1 b2 b3 ev hz => by
      refine ⟨b1, b2, b3, by omega, fun i j z1 z2 z3 => ?_, fun i j z1 z2 z3 z4 => ?_⟩
      · by_cases ej : j = lo + n
        · subst ej
          by_cases ei : i = lo + n
          · subst ei; exact Ordr.le_refl _
          · exact Ordr.le_trans (Ordr.le_of_lt hz) (ev _ _ (by omega) (by omega) (by omega) (by omega))
        · exact ev _ _ (by omega) (by omega) (by omega) (by omega)
      · have : i = j := by omega
        subst this; exact Ordr.le_refl _
    by_cases hn1 : n > 1
    · rw [if_pos hn1]
      refine wpS_bind (t_ltAt C hB (by omega) (by omega) ?_)
      dsimp only
      by_cases hc : O.lt (kk key (arrOf st) lo) (kk key (arrOf st) (lo + n - 1)) = true
      · rw [if_pos hc]
        exact wpS_pure (h st n hB rfl (OnlyA.refl _ _ _) n1 n2 hr)
      · rw [if_neg hc, reverseSlice'_eq]
        have hz : lo + n ≤ (arrOf st).size := by omega
        have le1 := Ordr.le_not hc
        have ev : Even O key (arrOf st) lo (lo + n) := fun i j z1 z2 z3 z4 => Ordr.le_trans (hr i (lo + n - 1) z1 (by omega) (by omega)) (Ordr.le_trans le1 (hr lo j (by omega) z3 (by omega)))
        refine wpS_bind (wpS_modify ?_)
        have D0 := dn (setArr st (mirror (arrOf st) lo (lo + n) ((lo + n - lo) / 2))) (hB.set (mirror_perm _ _ _ _)) rfl (mirror_only hz (Nat.le_refl _) (by omega)) (fun i j z1 z2 z3 z4 => by
          show O.le (kk key (mirror (arrOf st) _ _ _) _) (kk key (mirror (arrOf st) _ _ _) _)
          rw [kk_mirror hz, kk_mirror hz, if_pos (by omega), if_pos (by omega)]
          exact ev _ _ (by omega) (by omega) (by omega) (by omega)) (by
          show O.lt (kk key (mirror (arrOf st) _ _ _) _) (kk key (mirror (arrOf st) _ _ _) _) = true
          rw [kk_mirror hz, kk_mirror hz, if_neg (by omega), if_pos (by omega)]
          exact Ordr.lt_le hl (ev _ _ (by omega) (by omega) (by omega) (by omega)))
        refine wpS_bind (wpS_lift (wpAny_rule ⟨rfl, ?_⟩))
        refine wpS_bind (down _ (n + 1) D0 (by omega) _ fun z' m q D1 hm => ?_)
        dsimp only
        by_cases hq : q > 0
        · rw [if_pos hq]
          refine wpS_bind ?_
          rw [reverseSlice'_eq]
          refine wpS_modify ?_
          have D2 := D1.turn hm hn
          rw [reverseSlice'_eq]
          refine wpS_bind (wpS_modify ?_)
          exact wpS_bind (up _ m (D2.bas.set (mirror_perm _ _ _ _)) (by have := D2.q1; omega) hm (fall_turn D2.fall (by rw [D2.bas.size]; omega)) _ fun n' g1 g2 g3 _ => wpS_pure (h _ n' (D2.bas.set (mirror_perm _ _ _ _)) D2.pend (D2.only.trans (mirror_only (by rw [D2.bas.size]; omega) (Nat.le_refl _) (by omega))) (by have := D2.q1; omega) g2 g3))
        · rw [if_neg hq]
          have e0 : q = 0 := by omega
          subst e0
          rw [reverseSlice'_eq]
          refine wpS_bind (wpS_modify ?_)
          exact wpS_bind (up _ m (D1.bas.set (mirror_perm _ _ _ _)) (by have := D1.q1; omega) hm (fall_turn D1.fall (by rw [D1.bas.size]; omega)) _ fun n' g1 g2 g3 _ => wpS_pure (h _ n' (D1.bas.set (mirror_perm _ _ _ _)) D1.pend (D1.only.trans (mirror_only (by rw [D1.bas.size]; omega) (Nat.le_refl _) (by omega))) (by have := D1.q1; omega) g2 g3))
    · rw [if_neg hn1]
      have : n = 1 := by omega
      subst this
      have D0 := dn st hB rfl (OnlyA.refl _ _ _) (fun i j z1 z2 z3 z4 => by
        have e0 : i = j := by omega
        subst e0; exact Ordr.le_refl _) hl
      refine wpS_bind (wpS_lift (wpAny_rule ⟨rfl, ?_⟩))
      refine wpS_bind (down _ (1 + 1) D0 (by omega) _ fun z' m q D1 hm => ?_)
      dsimp only
      by_cases hq : q > 0
      · rw [if_pos hq]
        refine wpS_bind ?_
        rw [reverseSlice'_eq]
        refine wpS_modify ?_
        have D2 := D1.turn hm hn
        rw [reverseSlice'_eq]
        refine wpS_bind (wpS_modify ?_)
        exact wpS_bind (up _ m (D2.bas.set (mirror_perm _ _ _ _)) (by have := D2.q1; omega) hm (fall_turn D2.fall (by rw [D2.bas.size]; omega)) _ fun n' g1 g2 g3 _ => wpS_pure (h _ n' (D2.bas.set (mirror_perm _ _ _ _)) D2.pend (D2.only.trans (mirror_only (by rw [D2.bas.size]; omega) (Nat.le_refl _) (by omega))) (by have := D2.q1; omega) g2 g3))
      · rw [if_neg hq]
        have e0 : q = 0 := by omega
        subst e0
        rw [reverseSlice'_eq]
        refine wpS_bind (wpS_modify ?_)
        exact wpS_bind (up _ m (D1.bas.set (mirror_perm _ _ _ _)) (by have := D1.q1; omega) hm (fall_turn D1.fall (by rw [D1.bas.size]; omega)) _ fun n' g1 g2 g3 _ => wpS_pure (h _ n' (D1.bas.set (mirror_perm _ _ _ _)) D1.pend (D1.only.trans (mirror_only (by rw [D1.bas.size]; omega) (Nat.le_refl _) (by omega))) (by have := D1.q1; omega) g2 g3))
end
end L2

namespace L2
open PySem PySem.Spec PyProof.Rows
/-! ### how far a key goes into a run -/
def gal : Bool → Keyed → Array Keyed → Nat → Nat → Nat → StateT SortSt Sem (Option Nat) := sortPriv% PySem.Builtin.gallop
theorem gal_eq (lf : Bool) (ky : Keyed) (xs : Array Keyed) (b0 n hint : Nat) : gal lf ky xs b0 n hint = (do
  let past (i : Nat) : StateT SortSt Sem (Option Bool) := do
    let x ← elem' xs (b0 + i)
    if lf then lt' x ky else return (← lt' ky x).map (!·)
  let mut p1 := 0
  let mut p2 := 1
  let mut lo := 0
  let mut hi := 0
  let some rt ← past hint | return none
  if rt then
    let mo := n - hint
    for _ in [0:n] do
      if p2 ≥ mo then break
      let some yet ← past (hint + p2) | return none
      if !yet then break
      p1 := p2
      p2 := 2 * p2 + 1
    lo := hint + p1 + 1
    hi := hint + min p2 mo
  else
    let mo := hint + 1
    for _ in [0:n] do
      if p2 ≥ mo then break
      let some yet ← past (hint - p2) | return none
      if yet then break
      p1 := p2
      p2 := 2 * p2 + 1
    lo := hint + 1 - min p2 mo
    hi := hint - p1
  for _ in [0:n] do
    if lo ≥ hi then break
    let m := lo + (hi - lo) / 2
    let some yet ← past m | return none
    if yet then lo := m + 1 else hi := m
  return some hi) := rfl
section
variable {κ : Type} {O : Ordr κ} {key : Keyed → κ} {prog : Program} {w : World} {A : Around} {E : Value → Shared → Prop} {s : Shared} {a₀ : Array Keyed} {kd : SortKind}
/-- yes to a place, no from it on -/
structure Edge (P : Nat → Bool) (n k : Nat) : Prop where
  le : k ≤ n
  yes : ∀ i, i < k → P i = true
  no : ∀ i, k ≤ i → i < n → P i = false
def pastP (O : Ordr κ) (key : Keyed → κ) (lf : Bool) (ky : Keyed) (xs : Array Keyed) (b0 i : Nat) : Bool := if lf = true then O.lt (kk key xs (b0 + i)) (key ky) else !O.lt (key ky) (kk key xs (b0 + i))
theorem t_gal (C : Cmp O key prog w A E s a₀ kd) {st : SortSt} {lf : Bool} {ky : Keyed} {xs : Array Keyed} {b0 n hint : Nat} {Q : Option Nat → SortSt → Prop} (hk : kindOf st = kd) (mk : ky ∈ a₀) (mx : ∀ i, i < n → ∃ x, xs[b0 + i]? = some x ∧ x ∈ a₀) (hr : Rise O key xs b0 (b0 + n)) (hh : hint < n)
    (h : ∀ k, Edge (pastP O key lf ky xs b0) n k → Q (some k) st) : wpS (model prog w) A E s (gal lf ky xs b0 n hint) Q st := by
  rw [gal_eq]
  generalize hP : pastP O key lf ky xs b0 = P at h
  have mono : ∀ i j, i ≤ j → j < n → P j = true → P i = true := by
    intro i j h1 h2 h3
    rw [← hP] at h3 ⊢
    unfold pastP at h3 ⊢
    have hle := hr (b0 + i) (b0 + j) (by omega) (by omega) (by omega)
    cases lf with
    | true =>
      rw [if_pos rfl] at h3 ⊢
      exact Ordr.le_lt hle h3
    | false =>
      rw [if_neg Bool.false_ne_true] at h3 ⊢
      cases z : O.lt (key ky) (kk key xs (b0 + i)) with
      | false => rfl
      | true => rw [Ordr.lt_le z hle] at h3; cases h3
  have monoF : ∀ i j, i ≤ j → j < n → P i = false → P j = false := fun i j h1 h2 h3 => by
    cases z : P j with
    | false => rfl
    | true => rw [mono i j h1 h2 z] at h3; cases h3
  have past : ∀ i, i < n → ∀ Q' : Option Bool → SortSt → Prop, Q' (some (P i)) st → wpS (model prog w) A E s (do
      let x ← elem' xs (b0 + i)
      if lf = true then lt' x ky else do
        let y ← lt' ky x
        pure (y.map (!·))) Q' st := by
    intro i hi Q' q
    obtain ⟨x, ex, mx⟩ := mx i hi
    rw [elem'_eq, ex]
    refine wpS_bind (wpS_pure ?_)
    have ek : kk key xs (b0 + i) = key x := by unfold kk; rw [ex]; rfl
    rw [← hP] at q
    unfold pastP at q
    rw [ek] at q
    cases lf with
    | true =>
      rw [if_pos rfl] at q ⊢
      exact C x ky mx mk st _ hk q
    | false =>
      rw [if_neg Bool.false_ne_true] at q ⊢
      exact wpS_bind (C ky x mk mx st _ hk (wpS_pure q))
  -- by halves
  have halves : ∀ lo hi, lo ≤ hi → hi ≤ n → (∀ i, i < lo → P i = true) → (∀ i, hi ≤ i → i < n → P i = false) → ∀ Q' : Option (Option Nat) × Nat × Nat → SortSt → Prop, (∀ k, Edge P n k → Q' (none, k, k) st) →
      wpS (model prog w) A E s (forIn [0:n] ((none, lo, hi) : Option (Option Nat) × Nat × Nat) fun _ r =>
        if r.2.1 ≥ r.2.2 then pure (ForInStep.done (none, r.2.1, r.2.2)) else do
          let y ← (do
            let x ← elem' xs (b0 + (r.2.1 + (r.2.2 - r.2.1) / 2))
            if lf = true then lt' x ky else do
              let y ← lt' ky x
              pure (y.map (!·)))
          match y with
          | some yet => if yet = true then pure (ForInStep.yield (none, r.2.1 + (r.2.2 - r.2.1) / 2 + 1, r.2.2)) else pure (ForInStep.yield (none, r.2.1, r.2.1 + (r.2.2 - r.2.1) / 2))
          | _ => pure (ForInStep.done (some none, r.2.1, r.2.2))) Q' st := by
    intro lo hi h1 h2 h3 h4 Q' hQ
    refine wpS_forRange (I := fun x c z => z = st ∧ ∃ l r, c = (none, l, r) ∧ l ≤ r ∧ r ≤ n ∧ (r - l) + x ≤ n ∧ (∀ i, i < l → P i = true) ∧ (∀ i, r ≤ i → i < n → P i = false)) ?_ ?_ ⟨rfl, lo, hi, rfl, h1, h2, by omega, h3, h4⟩
    · rintro x c z _ hx ⟨rfl, l, r, rfl, g1, g2, g3, g4, g5⟩
      dsimp only
      by_cases hlr : l ≥ r
      · rw [if_pos hlr]
        have e : l = r := by omega
        subst e
        exact wpS_pure (hQ l ⟨g2, g4, g5⟩)
      · rw [if_neg hlr]
        refine wpS_bind (past _ (by omega) _ ?_)
        dsimp only
        by_cases hc : P (l + (r - l) / 2) = true
        · rw [if_pos hc]
          exact wpS_pure ⟨rfl, _, r, rfl, by omega, g2, by omega, fun i hi => mono _ _ (by omega) (by omega) hc, g5⟩
        · rw [if_neg hc]
          have hf : P (l + (r - l) / 2) = false := by simpa using hc
          exact wpS_pure ⟨rfl, l, _, rfl, by omega, by omega, by omega, g4, fun i hi hn => monoF _ _ hi hn hf⟩
    · rintro c z ⟨rfl, l, r, rfl, g1, g2, g3, g4, g5⟩
      have e : l = r := by omega
      subst e
      exact hQ l ⟨g2, g4, g5⟩
  dsimp only
  refine wpS_bind (past hint hh _ ?_)
  dsimp only
  by_cases hc : P hint = true
  · rw [if_pos hc]
    refine wpS_bind (wpS_mono (wpS_forRange (I := fun x c z => z = st ∧ ∃ q1 q2, c = (none, q1, q2) ∧ q1 < q2 ∧ x + 1 ≤ q2 ∧ hint + q1 < n ∧ P (hint + q1) = true) (Q := fun c z => z = st ∧ ∃ q1 q2, c = (none, q1, q2) ∧ q1 < q2 ∧ hint + q1 < n ∧ P (hint + q1) = true ∧ (q2 < n - hint → P (hint + q2) = false)) ?_ ?_ ⟨rfl, 0, 1, rfl, by omega, by omega, by omega, hc⟩) ?_)
    · rintro x c z _ hx ⟨rfl, q1, q2, rfl, g1, g2, g3, g4⟩
      dsimp only
      by_cases hm : q2 ≥ n - hint
      · rw [if_pos hm]
        exact wpS_pure ⟨rfl, q1, q2, rfl, g1, g3, g4, fun z => by omega⟩
      · rw [if_neg hm]
        refine wpS_bind (past _ (by omega) _ ?_)
        dsimp only
        cases hy : P (hint + q2) with
        | false =>
          rw [if_pos (by decide)]
          exact wpS_pure ⟨rfl, q1, q2, rfl, g1, g3, g4, fun _ => hy⟩
        | true =>
          rw [if_neg (by decide)]
          exact wpS_pure ⟨rfl, q2, 2 * q2 + 1, rfl, by omega, by omega, by omega, hy⟩
    · rintro c z ⟨rfl, q1, q2, rfl, g1, g2, g3, g4⟩
      exact ⟨rfl, q1, q2, rfl, g1, g3, g4, fun z => by omega⟩
    · rintro c z ⟨rfl, q1, q2, rfl, g1, g3, g4, g5⟩
      dsimp only
      refine wpS_bind (halves _ _ (by omega) (by omega) (fun i hi => mono _ _ (by omega) g3 g4) (fun i h1 h2 => ?_) _ fun k e => ?_)
      · exact monoF _ _ (show hint + q2 ≤ i by omega) h2 (g5 (by omega))
      · exact wpS_pure (h k e)
  · rw [if_neg hc]
    have hf : P hint = false := by simpa using hc
    refine wpS_bind (wpS_mono (wpS_forRange (I := fun x c z => z = st ∧ ∃ q1 q2, c = (none, q1, q2) ∧ q1 < q2 ∧ x + 1 ≤ q2 ∧ q1 ≤ hint ∧ P (hint - q1) = false) (Q := fun c z => z = st ∧ ∃ q1 q2, c = (none, q1, q2) ∧ q1 < q2 ∧ q1 ≤ hint ∧ P (hint - q1) = false ∧ (q2 < hint + 1 → P (hint - q2) = true)) ?_ ?_ ⟨rfl, 0, 1, rfl, by omega, by omega, by omega, hf⟩) ?_)
    · rintro x c z _ hx ⟨rfl, q1, q2, rfl, g1, g2, g3, g4⟩
      dsimp only
      by_cases hm : q2 ≥ hint + 1
      · rw [if_pos hm]
        exact wpS_pure ⟨rfl, q1, q2, rfl, g1, g3, g4, fun z => by omega⟩
      · rw [if_neg hm]
        refine wpS_bind (past _ (by omega) _ ?_)
        dsimp only
        cases hy : P (hint - q2) with
        | true =>
          rw [if_pos rfl]
          exact wpS_pure ⟨rfl, q1, q2, rfl, g1, g3, g4, fun _ => hy⟩
        | false =>
          rw [if_neg Bool.false_ne_true]
          exact wpS_pure ⟨rfl, q2, 2 * q2 + 1, rfl, by omega, by omega, by omega, hy⟩
    · rintro c z ⟨rfl, q1, q2, rfl, g1, g2, g3, g4⟩
      exact ⟨rfl, q1, q2, rfl, g1, g3, g4, fun z => by omega⟩
    · rintro c z ⟨rfl, q1, q2, rfl, g1, g3, g4, g5⟩
      dsimp only
      refine wpS_bind (halves _ _ (by omega) (by omega) (fun i hi => ?_) (fun i h1 h2 => monoF _ _ h1 h2 g4) _ fun k e => ?_)
      · exact mono _ _ (show i ≤ hint - q2 by omega) (by omega) (g5 (by omega))
      · exact wpS_pure (h k e)
end
end L2

namespace L2
open PySem PySem.Spec PyProof.Rows
/-! ### two runs made one -/
section
variable {κ : Type} {O : Ordr κ} {key : Keyed → κ}
def LeL (O : Ordr κ) (key : Keyed → κ) (xs ys : List Keyed) : Prop := ∀ x ∈ xs, ∀ y ∈ ys, O.le (key x) (key y)
def Up (O : Ordr κ) (key : Keyed → κ) (xs : List Keyed) : Prop := xs.Pairwise fun x y => O.le (key x) (key y)
/-- taken from the front, what is left of both behind it -/
structure Mg (O : Ordr κ) (key : Keyed → κ) (T out xs ys : List Keyed) : Prop where
  perm : (out ++ (xs ++ ys)).Perm T
  up : Up O key out
  lx : LeL O key out xs
  ly : LeL O key out ys
  ux : Up O key xs
  uy : Up O key ys
theorem Up.app {xs ys : List Keyed} (h1 : Up O key xs) (h2 : Up O key ys) (h3 : LeL O key xs ys) : Up O key (xs ++ ys) := List.pairwise_append.mpr ⟨h1, h2, h3⟩
theorem Mg.mvX {T out x1 x2 ys : List Keyed} (h : Mg O key T out (x1 ++ x2) ys) (g : LeL O key x1 ys) : Mg O key T (out ++ x1) x2 ys := by
  have ux := List.pairwise_append.mp h.ux
  refine ⟨by have := h.perm; simpa using this, Up.app h.up ux.1 fun x hx y hy => h.lx x hx y (List.mem_append_left _ hy), fun x hx y hy => ?_, fun x hx y hy => ?_, ux.2.1, h.uy⟩
  · rcases List.mem_append.mp hx with z | z
    · exact h.lx x z y (List.mem_append_right _ hy)
    · exact ux.2.2 x z y hy
  · rcases List.mem_append.mp hx with z | z
    · exact h.ly x z y hy
    · exact g x z y hy
theorem Mg.mvY {T out xs y1 y2 : List Keyed} (h : Mg O key T out xs (y1 ++ y2)) (g : LeL O key y1 xs) : Mg O key T (out ++ y1) xs y2 := by
  have uy := List.pairwise_append.mp h.uy
  refine ⟨?_, Up.app h.up uy.1 fun x hx y hy => h.ly x hx y (List.mem_append_left _ hy), fun x hx y hy => ?_, fun x hx y hy => ?_, h.ux, uy.2.1⟩
  · refine List.Perm.trans ?_ h.perm
    rw [List.append_assoc]
    refine List.Perm.append_left _ ?_
    rw [← List.append_assoc, ← List.append_assoc]
    exact List.Perm.append_right _ List.perm_append_comm
  · rcases List.mem_append.mp hx with z | z
    · exact h.lx x z y hy
    · exact g x z y hy
  · rcases List.mem_append.mp hx with z | z
    · exact h.ly x z y (List.mem_append_right _ hy)
    · exact uy.2.2 x z y hy
/-- what is told at the end -/
def Made (O : Ordr κ) (key : Keyed → κ) (T : List Keyed) (r : List Keyed) : Prop := r.Perm T ∧ Up O key r
theorem Mg.endY {T out xs : List Keyed} (h : Mg O key T out xs []) : Made O key T (out ++ xs) := ⟨by have := h.perm; simpa using this, Up.app h.up h.ux h.lx⟩
theorem Mg.endX {T out xs ys : List Keyed} (h : Mg O key T out xs ys) (g : LeL O key ys xs) : Made O key T (out ++ ys ++ xs) := by
  refine ⟨?_, Up.app (Up.app h.up h.uy h.ly) h.ux fun x hx y hy => ?_⟩
  · refine List.Perm.trans ?_ h.perm
    rw [List.append_assoc]
    exact List.Perm.append_left _ List.perm_append_comm
  · rcases List.mem_append.mp hx with z | z
    · exact h.lx x z y hy
    · exact g x z y hy
theorem up_drop {xs : List Keyed} {n : Nat} (h : Up O key xs) : Up O key (xs.drop n) := h.sublist (List.drop_sublist _ _)
theorem up_head {x y : Keyed} {xs : List Keyed} (h : Up O key (x :: xs)) (hy : y ∈ x :: xs) : O.le (key x) (key y) := by
  rcases List.mem_cons.mp hy with rfl | z
  · exact Ordr.le_refl _
  · exact (List.pairwise_cons.mp h).1 y z
end
/-! ### from the front -/
def mgLo : Array Keyed → Array Keyed → StateT SortSt Sem (Array Keyed) := sortPriv% PySem.Builtin.mergeLo
def setG (g : Nat) : StateT SortSt Sem Unit := modify fun s => SortSt.mk' (kindOf s) (arrOf s) (pendingOf s) g (failedOf s)
theorem mgLo_eq (xa xb : Array Keyed) : mgLo xa xb = (do
  rule "list.sort.merge-lo"
  let tot := xa.size + xb.size
  let fin (o : Array Keyed) (i j : Nat) := o ++ xa.extract i xa.size ++ xb.extract j xb.size
  let oneA (o : Array Keyed) (i j : Nat) := o ++ xb.extract j xb.size ++ xa.extract i xa.size
  let mut o : Array Keyed := #[← elem' xb 0]
  let mut i := 0
  let mut j := 1
  if j == xb.size then return fin o i j
  if i + 1 == xa.size then return oneA o i j
  let mut mg := gallopOf (← get)
  for _ in [0:tot] do
    let mut ca := 0
    let mut cb := 0
    for _ in [0:tot] do
      let some won ← lt' (← elem' xb j) (← elem' xa i) | return fin o i j
      if won then
        o := o.push (← elem' xb j); j := j + 1; cb := cb + 1; ca := 0
        if j == xb.size then return fin o i j
        if cb ≥ mg then break
      else
        o := o.push (← elem' xa i); i := i + 1; ca := ca + 1; cb := 0
        if i + 1 == xa.size then return oneA o i j
        if ca ≥ mg then break
    rule "list.sort.gallop"
    mg := mg + 1
    for _ in [0:tot] do
      if mg > 1 then mg := mg - 1
      setG mg
      let some k ← gal false (← elem' xb j) xa i (xa.size - i) 0 | return fin o i j
      ca := k
      if k > 0 then
        o := o ++ xa.extract i (i + k); i := i + k
        if i + 1 == xa.size then return oneA o i j
        if i == xa.size then return fin o i j
      o := o.push (← elem' xb j); j := j + 1
      if j == xb.size then return fin o i j
      let some k ← gal true (← elem' xa i) xb j (xb.size - j) 0 | return fin o i j
      cb := k
      if k > 0 then
        o := o ++ xb.extract j (j + k); j := j + k
        if j == xb.size then return fin o i j
      o := o.push (← elem' xa i); i := i + 1
      if i + 1 == xa.size then return oneA o i j
      if ca < 7 && cb < 7 then break
    mg := mg + 1
    setG mg
  unsupported "internal:list.sort.merge-bound") := rfl
end L2

namespace L2
open PySem PySem.Spec PyProof.Rows
section
variable {κ : Type} {O : Ordr κ} {key : Keyed → κ} {prog : Program} {w : World} {A : Around} {E : Value → Shared → Prop} {s : Shared} {a₀ : Array Keyed} {kd : SortKind}
/-- alike but for the number that the gallop begins with -/
structure SamS (st z : SortSt) : Prop where
  arr : arrOf z = arrOf st
  kind : kindOf z = kindOf st
  pend : pendingOf z = pendingOf st
  failed : failedOf z = failedOf st
theorem SamS.refl (st : SortSt) : SamS st st := ⟨rfl, rfl, rfl, rfl⟩
theorem t_setG {M : Model} {z : SortSt} {g : Nat} {Q : PUnit → SortSt → Prop} (h : Q ⟨⟩ (SortSt.mk' (kindOf z) (arrOf z) (pendingOf z) g (failedOf z))) : wpS M A E s (setG g) Q z := wpS_modify h
theorem SamS.setG {st z : SortSt} (h : SamS st z) (g : Nat) : SamS st (SortSt.mk' (kindOf z) (arrOf z) (pendingOf z) g (failedOf z)) := ⟨h.arr, h.kind, h.pend, h.failed⟩
theorem t_elem {M : Model} {z : SortSt} {xs : Array Keyed} {i : Nat} {x : Keyed} {Q : Keyed → SortSt → Prop} (e : xs[i]? = some x) (h : Q x z) : wpS M A E s (elem' xs i) Q z := by
  rw [elem'_eq, e]
  exact wpS_pure h
theorem kk_at {xs : Array Keyed} {i : Nat} {x : Keyed} (e : xs[i]? = some x) : kk key xs i = key x := by unfold kk; rw [e]; rfl
theorem drop_at {xs : Array Keyed} {i : Nat} {x : Keyed} (e : xs[i]? = some x) : xs.toList.drop i = x :: xs.toList.drop (i + 1) := by
  rw [← Array.getElem?_toList] at e
  obtain ⟨h1, h2⟩ := List.getElem?_eq_some_iff.mp e
  rw [List.drop_eq_getElem_cons h1, h2]
theorem up_rise {xs : Array Keyed} (h : Up O key xs.toList) (lo hi : Nat) (hh : hi ≤ xs.size) : Rise O key xs lo hi := fun i j h1 h2 h3 => by
  have l1 : i < xs.size := by omega
  have l2 : j < xs.size := by omega
  rw [kk_at (x := xs[i]) (by simp [l1]), kk_at (x := xs[j]) (by simp [l2])]
  rcases Nat.lt_or_eq_of_le h2 with z | z
  · have := List.pairwise_iff_getElem.mp h i j (by simpa using l1) (by simpa using l2) z
    simpa using this
  · subst z; exact Ordr.le_refl _
theorem rest_toList (xs : Array Keyed) (i : Nat) : (xs.extract i xs.size).toList = xs.toList.drop i := by
  rw [Array.toList_extract, List.extract_eq_drop_take]
  exact List.take_of_length_le (by rw [List.length_drop]; simp)
theorem part_toList (xs : Array Keyed) (i k : Nat) : (xs.extract i (i + k)).toList = (xs.toList.drop i).take k := by
  rw [Array.toList_extract, List.extract_eq_drop_take, Nat.add_sub_cancel_left]
/-- on the way from the front -/
structure JLo (O : Ordr κ) (key : Keyed → κ) (xa xb : Array Keyed) (T : List Keyed) (o : Array Keyed) (i j : Nat) : Prop where
  mg : Mg O key T o.toList (xa.toList.drop i) (xb.toList.drop j)
  i1 : i + 1 < xa.size
  j1 : j < xb.size
  sz : o.size = i + j
/-- what both have to be -/
structure Two (O : Ordr κ) (key : Keyed → κ) (a₀ xa xb : Array Keyed) : Prop where
  ma : ∀ (i : Nat) (x : Keyed), xa[i]? = some x → x ∈ a₀
  mb : ∀ (i : Nat) (x : Keyed), xb[i]? = some x → x ∈ a₀
  ua : Up O key xa.toList
  ub : Up O key xb.toList
  na : 1 ≤ xa.size
  nb : 1 ≤ xb.size
  first : ∀ x y : Keyed, xa[0]? = some x → xb[0]? = some y → O.lt (key y) (key x) = true
  last : ∀ (x y : Keyed) (j : Nat), xa[xa.size - 1]? = some x → xb[j]? = some y → O.lt (key y) (key x) = true
variable {xa xb : Array Keyed} {T : List Keyed} {o : Array Keyed} {i j : Nat}
theorem lo_fin (h : Mg O key T o.toList (xa.toList.drop i) (xb.toList.drop j)) (e : j = xb.size) : Made O key T (o ++ xa.extract i xa.size ++ xb.extract j xb.size).toList := by
  rw [Array.toList_append, Array.toList_append, rest_toList, rest_toList]
  have e0 : xb.toList.drop j = [] := List.drop_eq_nil_of_le (by rw [e]; simp)
  rw [e0] at h ⊢
  rw [List.append_nil]
  exact h.endY
theorem lo_one (W : Two O key a₀ xa xb) (h : Mg O key T o.toList (xa.toList.drop i) (xb.toList.drop j)) (e : i + 1 = xa.size) : Made O key T (o ++ xb.extract j xb.size ++ xa.extract i xa.size).toList := by
  rw [Array.toList_append, Array.toList_append, rest_toList, rest_toList]
  refine h.endX fun y hy x hx => ?_
  have l1 : i < xa.size := by omega
  have ex : xa[i]? = some xa[i] := by simp [l1]
  rw [drop_at ex, List.drop_eq_nil_of_le (by simp; omega)] at hx
  rw [List.mem_singleton.mp hx]
  obtain ⟨q, hq⟩ := List.mem_iff_getElem?.mp hy
  rw [List.getElem?_drop, Array.getElem?_toList] at hq
  exact Ordr.le_of_lt (W.last _ y _ (by rw [show xa.size - 1 = i by omega]; exact ex) hq)
theorem le_drop {xs : Array Keyed} {k : Nat} {y z : Keyed} (hu : Up O key xs.toList) (e : xs[k]? = some y) (h : O.le (key z) (key y)) : LeL O key [z] (xs.toList.drop k) := fun u hu' v hv => by
  rw [List.mem_singleton.mp hu']
  rw [drop_at e] at hv
  have := up_drop (n := k) hu
  rw [drop_at e] at this
  exact Ordr.le_trans h (up_head this hv)
theorem lo_B (W : Two O key a₀ xa xb) (h : Mg O key T o.toList (xa.toList.drop i) (xb.toList.drop j)) {x y : Keyed} (ex : xa[i]? = some x) (ey : xb[j]? = some y) (hc : O.le (key y) (key x)) : Mg O key T (o.push y).toList (xa.toList.drop i) (xb.toList.drop (j + 1)) := by
  rw [drop_at ey] at h
  have := h.mvY (y1 := [y]) (le_drop W.ua ex hc)
  rw [Array.toList_push]
  exact this
theorem lo_A (W : Two O key a₀ xa xb) (h : Mg O key T o.toList (xa.toList.drop i) (xb.toList.drop j)) {x y : Keyed} (ex : xa[i]? = some x) (ey : xb[j]? = some y) (hc : O.le (key x) (key y)) : Mg O key T (o.push x).toList (xa.toList.drop (i + 1)) (xb.toList.drop j) := by
  rw [drop_at ex] at h
  have := h.mvX (x1 := [x]) (le_drop W.ub ey hc)
  rw [Array.toList_push]
  exact this
theorem edgeA (W : Two O key a₀ xa xb) {k : Nat} {y : Keyed} (ey : xb[j]? = some y) (hi : i < xa.size) (g : Edge (pastP O key false y xa i) (xa.size - i) k) : i + k < xa.size ∧ ∀ x, xa[i + k]? = some x → O.lt (key y) (key x) = true := by
  have lt : i + k < xa.size := by
    by_cases z : i + k < xa.size
    · exact z
    · have hk : k = xa.size - i := by have := g.le; omega
      have l1 : xa.size - 1 < xa.size := by omega
      have ex : xa[xa.size - 1]? = some xa[xa.size - 1] := by simp [l1]
      have h1 := g.yes (xa.size - 1 - i) (by omega)
      unfold pastP at h1
      rw [if_neg Bool.false_ne_true, show i + (xa.size - 1 - i) = xa.size - 1 by omega, kk_at ex, W.last _ y _ ex ey] at h1
      cases h1
  refine ⟨lt, fun x ex => ?_⟩
  have h1 := g.no k (Nat.le_refl _) (by omega)
  unfold pastP at h1
  rw [if_neg Bool.false_ne_true, kk_at ex] at h1
  cases z : O.lt (key y) (key x) with
  | true => rfl
  | false => rw [z] at h1; cases h1
theorem lo_GA (W : Two O key a₀ xa xb) (h : Mg O key T o.toList (xa.toList.drop i) (xb.toList.drop j)) {k : Nat} {y : Keyed} (ey : xb[j]? = some y) (g : Edge (pastP O key false y xa i) (xa.size - i) k) : Mg O key T (o ++ xa.extract i (i + k)).toList (xa.toList.drop (i + k)) (xb.toList.drop j) := by
  rw [Array.toList_append, part_toList, ← List.drop_drop]
  rw [← List.take_append_drop k (xa.toList.drop i)] at h
  refine h.mvX fun x hx v hv => ?_
  obtain ⟨q, hq⟩ := List.mem_iff_getElem?.mp hx
  have hqk : q < k := by
    have := (List.getElem?_eq_some_iff.mp hq).1
    rw [List.length_take] at this; omega
  rw [List.getElem?_take_of_lt hqk, List.getElem?_drop, Array.getElem?_toList] at hq
  have h1 := g.yes q hqk
  unfold pastP at h1
  rw [if_neg Bool.false_ne_true, kk_at hq] at h1
  have h2 : O.le (key x) (key y) := by
    show O.lt (key y) (key x) = false
    cases z : O.lt (key y) (key x) with
    | false => rfl
    | true => rw [z] at h1; cases h1
  exact le_drop W.ub ey h2 x (List.mem_singleton.mpr rfl) v hv
theorem lo_GB (W : Two O key a₀ xa xb) (h : Mg O key T o.toList (xa.toList.drop i) (xb.toList.drop j)) {k : Nat} {x : Keyed} (ex : xa[i]? = some x) (g : Edge (pastP O key true x xb j) (xb.size - j) k) : Mg O key T (o ++ xb.extract j (j + k)).toList (xa.toList.drop i) (xb.toList.drop (j + k)) ∧ ∀ y, j + k < xb.size → xb[j + k]? = some y → O.le (key x) (key y) := by
  constructor
  · rw [Array.toList_append, part_toList, ← List.drop_drop]
    rw [← List.take_append_drop k (xb.toList.drop j)] at h
    refine h.mvY fun y hy v hv => ?_
    obtain ⟨q, hq⟩ := List.mem_iff_getElem?.mp hy
    have hqk : q < k := by
      have := (List.getElem?_eq_some_iff.mp hq).1
      rw [List.length_take] at this; omega
    rw [List.getElem?_take_of_lt hqk, List.getElem?_drop, Array.getElem?_toList] at hq
    have h1 := g.yes q hqk
    unfold pastP at h1
    rw [if_pos rfl, kk_at hq] at h1
    exact le_drop W.ua ex (Ordr.le_of_lt h1) y (List.mem_singleton.mpr rfl) v hv
  · intro y hl ey
    have h1 := g.no k (Nat.le_refl _) (by omega)
    unfold pastP at h1
    rw [if_pos rfl, kk_at ey] at h1
    exact h1
theorem at_lt {xs : Array Keyed} {i : Nat} (h : i < xs.size) : xs[i]? = some xs[i] := by simp [h]
theorem sz_part (xs o : Array Keyed) (i k : Nat) (h : i + k ≤ xs.size) : (o ++ xs.extract i (i + k)).size = o.size + k := by
  rw [Array.size_append, Array.size_extract]; omega
/-- two ways that meet again -/
theorem jp1 {M : Model} {α : Type} {Q : α → SortSt → Prop} {z : SortSt} {c : Nat → Prop} {dc : ∀ g, Decidable (c g)} {x F : Nat → StateT SortSt Sem α} (hx : ∀ g, x g = F (g - 1)) (h : ∀ g, wpS M A E s (F g) Q z) : ∀ g, wpS M A E s (@ite _ (c g) (dc g) (x g) (F g)) Q z := fun g => by
  rw [hx]
  split
  · exact h _
  · exact h _
theorem jp2 {M : Model} {α : Type} {Q : α → SortSt → Prop} {z : SortSt} {c : Nat → Prop} {dc : ∀ i, Decidable (c i)} {x F : Array Keyed → Nat → StateT SortSt Sem α} {o : Array Keyed} {i : Nat} (P : Array Keyed → Nat → Prop) (h : ∀ o i, P o i → wpS M A E s (F o i) Q z) (h1 : c i → (∀ o i, P o i → wpS M A E s (F o i) Q z) → wpS M A E s (x o i) Q z) (h2 : ¬ c i → P o i) : ∀ o', o = o' → ∀ i', i = i' → wpS M A E s (@ite _ (c i') (dc i') (x o' i') (F o' i')) Q z := by
  rintro _ rfl _ rfl
  split
  · exact h1 ‹_› h
  · exact h _ _ (h2 ‹_›)
theorem t_mgLo (C : Cmp O key prog w A E s a₀ kd) {st : SortSt} {Q : Array Keyed → SortSt → Prop} (hk : kindOf st = kd) (W : Two O key a₀ xa xb)
    (h : ∀ r z, SamS st z → Made O key (xa.toList ++ xb.toList) r.toList → Q r z) : wpS (model prog w) A E s (mgLo xa xb) Q st := by
  obtain ⟨T, hT⟩ : ∃ T, T = xa.toList ++ xb.toList := ⟨_, rfl⟩
  rw [← hT] at h
  have na := W.na
  have nb := W.nb
  rw [mgLo_eq]
  refine wpS_bind (wpS_lift (wpAny_rule ⟨rfl, ?_⟩))
  dsimp only
  have ey0 := at_lt (xs := xb) (i := 0) (by omega)
  have ex0 := at_lt (xs := xa) (i := 0) (by omega)
  have M0 : Mg O key T #[xb[0]].toList (xa.toList.drop 0) (xb.toList.drop 1) := by
    have h0 : Mg O key T [] (xa.toList.drop 0) (xb.toList.drop 0) := ⟨by rw [hT]; simp, List.Pairwise.nil, (fun x hx => by cases hx), (fun x hx => by cases hx), by simpa using W.ua, by simpa using W.ub⟩
    exact lo_B (o := #[]) W h0 ex0 ey0 (Ordr.le_of_lt (W.first _ _ ex0 ey0))
  refine wpS_bind (t_elem ey0 ?_)
  by_cases e1 : 1 = xb.size
  · rw [if_pos (by rw [← e1]; rfl)]
    exact wpS_pure (h _ st (SamS.refl _) (lo_fin M0 e1))
  rw [if_neg (by simpa using e1)]
  by_cases e2 : 0 + 1 = xa.size
  · rw [if_pos (by rw [← e2]; rfl)]
    exact wpS_pure (h _ st (SamS.refl _) (lo_one W M0 e2))
  rw [if_neg (by simpa using e2)]
  refine wpS_bind (wpS_get ?_)
  have J0 : JLo O key xa xb T #[xb[0]] 0 1 := ⟨M0, by omega, by omega, rfl⟩
  refine wpS_bind (wpS_mono (wpS_forRange (I := fun x c z => SamS st z ∧ ∃ o i j g, c = (none, o, i, j, g) ∧ JLo O key xa xb T o i j ∧ x + 1 ≤ o.size) (Q := fun c z => SamS st z ∧ ∃ r, c.1 = some r ∧ Made O key T r.toList) ?out1 ?out2 ⟨SamS.refl _, _, _, _, _, rfl, J0, by simp⟩) ?out3)
  case out3 =>
    rintro ⟨c1, c2⟩ z ⟨SS, r, e, M⟩
    dsimp only at e
    subst e
    exact wpS_pure (h r z SS M)
  case out2 =>
    rintro c z ⟨SS, o, i, j, g, rfl, J, hx⟩
    have := J.sz; have := J.i1; have := J.j1
    omega
  case out1 =>
    rintro x0 c z _ hx0 ⟨SS, o, i, j, g, rfl, J, hx⟩
    dsimp only
    have hkz : kindOf z = kd := SS.kind.trans hk
    -- one by one
    refine wpS_bind (wpS_mono (wpS_forRange (I := fun x c z' => z' = z ∧ ∃ o' i j ca cb, c = (none, o', i, j, ca, cb) ∧ JLo O key xa xb T o' i j ∧ o.size + min x 1 ≤ o'.size) (Q := fun c z' => z' = z ∧ ((∃ o' i j ca cb, c = (none, o', i, j, ca, cb) ∧ JLo O key xa xb T o' i j ∧ o.size + 1 ≤ o'.size) ∨ ∃ r, c.1 = some r ∧ Made O key T r.toList)) ?in1 ?in2 ⟨rfl, o, i, j, 0, 0, rfl, J, by omega⟩) ?in3)
    case in2 =>
      rintro c z' ⟨rfl, o', i, j, ca, cb, rfl, J, hp⟩
      refine ⟨rfl, .inl ⟨o', i, j, ca, cb, rfl, J, ?_⟩⟩
      have : min (max 0 (xa.size + xb.size)) 1 = 1 := by omega
      omega
    case in1 =>
      rintro x c z' _ hx ⟨rfl, o', i, j, ca, cb, rfl, J, hp⟩
      dsimp only
      have ex := at_lt (xs := xa) (i := i) (by have := J.i1; omega)
      have ey := at_lt (xs := xb) (i := j) J.j1
      have i1 := J.i1
      have j1 := J.j1
      refine wpS_bind (t_elem ey (wpS_bind (t_elem ex (wpS_bind (C _ _ (W.mb _ _ ey) (W.ma _ _ ex) z' _ hkz ?_)))))
      dsimp only
      by_cases hc : O.lt (key xb[j]) (key xa[i]) = true
      · rw [if_pos hc]
        refine wpS_bind (t_elem ey ?_)
        have M1 := lo_B W J.mg ex ey (Ordr.le_of_lt hc)
        by_cases e : j + 1 = xb.size
        · rw [if_pos (by simpa using e)]
          exact wpS_pure ⟨rfl, .inr ⟨_, rfl, lo_fin M1 e⟩⟩
        · rw [if_neg (by simpa using e)]
          have J1 : JLo O key xa xb T (o'.push xb[j]) i (j + 1) := ⟨M1, i1, by omega, by rw [Array.size_push, J.sz]; omega⟩
          have sz1 : o.size + 1 ≤ (o'.push xb[j]).size := by rw [Array.size_push]; omega
          split
          · exact wpS_pure ⟨rfl, .inl ⟨_, _, _, _, _, rfl, J1, sz1⟩⟩
          · exact wpS_pure ⟨rfl, _, _, _, _, _, rfl, J1, by omega⟩
      · rw [if_neg hc]
        refine wpS_bind (t_elem ex ?_)
        have M1 := lo_A W J.mg ex ey (Ordr.le_not hc)
        by_cases e : i + 1 + 1 = xa.size
        · rw [if_pos (by simpa using e)]
          exact wpS_pure ⟨rfl, .inr ⟨_, rfl, lo_one W M1 e⟩⟩
        · rw [if_neg (by simpa using e)]
          have J1 : JLo O key xa xb T (o'.push xa[i]) (i + 1) j := ⟨M1, by omega, j1, by rw [Array.size_push, J.sz]; omega⟩
          have sz1 : o.size + 1 ≤ (o'.push xa[i]).size := by rw [Array.size_push]; omega
          split
          · exact wpS_pure ⟨rfl, .inl ⟨_, _, _, _, _, rfl, J1, sz1⟩⟩
          · exact wpS_pure ⟨rfl, _, _, _, _, _, rfl, J1, by omega⟩
    case in3 =>
      rintro c z' ⟨rfl, ⟨o1, i, j, ca, cb, rfl, J1, hp⟩ | ⟨r, e, M⟩⟩
      · dsimp only
        refine wpS_bind (wpS_lift (wpAny_rule ⟨rfl, ?_⟩))
        refine wpS_bind (wpS_mono (wpS_forRange (I := fun x c z => SamS st z ∧ ∃ o' i j g ca cb, c = (none, o', i, j, g, ca, cb) ∧ JLo O key xa xb T o' i j ∧ o.size + 1 ≤ o'.size) (Q := fun c z => SamS st z ∧ ((∃ o' i j g ca cb, c = (none, o', i, j, g, ca, cb) ∧ JLo O key xa xb T o' i j ∧ o.size + 1 ≤ o'.size) ∨ ∃ r, c.1 = some r ∧ Made O key T r.toList)) ?gl1 ?gl2 ⟨SS, o1, i, j, _, _, _, rfl, J1, hp⟩) ?gl3)
        case gl2 =>
          rintro c z ⟨SS, h⟩
          exact ⟨SS, .inl h⟩
        case gl3 =>
          rintro c z ⟨SS, ⟨o', i, j, g, ca, cb, rfl, J, hp⟩ | ⟨r, e, M⟩⟩
          · dsimp only
            exact wpS_bind (t_setG (wpS_pure ⟨SS.setG _, _, _, _, _, rfl, J, by omega⟩))
          · obtain ⟨c1, c2⟩ := c
            dsimp only at e
            subst e
            exact wpS_pure ⟨SS, r, rfl, M⟩
        case gl1 =>
          rintro x c z _ hx ⟨SS, o2, i, j, g, ca, cb, rfl, J, hp⟩
          dsimp only
          revert g
          refine jp1 (fun g => rfl) fun g => ?_
          refine wpS_bind (t_setG ?_)
          have SS1 := SS.setG g
          have i1 := J.i1
          have j1 := J.j1
          have jsz := J.sz
          have ey := at_lt (xs := xb) (i := j) j1
          refine wpS_bind (t_elem ey (wpS_bind (t_gal C (SS1.kind.trans hk) (W.mb _ _ ey) (fun q hq => ⟨_, at_lt (by omega), W.ma _ _ (at_lt (by omega))⟩) (up_rise W.ua _ _ (by omega)) (by omega) fun k eg => ?_)))
          dsimp only
          have M1 := lo_GA W J.mg ey eg
          obtain ⟨lk, ltk⟩ := edgeA W ey (by omega) eg
          obtain ⟨ax, ex⟩ : ∃ ax, xa[i + k]? = some ax := ⟨_, at_lt lk⟩
          have hlt := ltk _ ex
          have sz1 := sz_part xa o2 i k (by omega)
          generalize hgi : i = i'
          revert i'
          generalize hgo : o2 = o'
          revert o'
          refine jp2 (o := o2) (i := i) (fun o3 i3 => i3 + 1 < xa.size ∧ Mg O key T o3.toList (xa.toList.drop i3) (xb.toList.drop j) ∧ o3.size = i3 + j ∧ o.size + 1 ≤ o3.size ∧ xa[i3]? = some ax) ?b1 (fun hk0 hF => ?w1) (fun hk0 => ?w2)
          case w1 =>
            by_cases ea : i + k + 1 = xa.size
            · rw [if_pos (by simpa using ea)]
              exact wpS_pure ⟨SS1, .inr ⟨_, rfl, lo_one W M1 ea⟩⟩
            · rw [if_neg (by simpa using ea), if_neg (by simp; omega)]
              exact hF _ _ ⟨by omega, M1, by omega, by omega, ex⟩
          case w2 =>
            have e5 : k = 0 := by omega
            subst e5
            exact ⟨i1, J.mg, jsz, hp, ex⟩
          case b1 =>
            rintro o3 i3 ⟨hi3, M3, z3, p3, x3⟩
            refine wpS_bind (t_elem ey ?_)
            have M4 := lo_B W M3 x3 ey (Ordr.le_of_lt hlt)
            by_cases eb : j + 1 = xb.size
            · rw [if_pos (by simpa using eb)]
              exact wpS_pure ⟨SS1, .inr ⟨_, rfl, lo_fin M4 eb⟩⟩
            · rw [if_neg (by simpa using eb)]
              refine wpS_bind (t_elem x3 (wpS_bind (t_gal C (SS1.kind.trans hk) (W.ma _ _ x3) (fun q hq => ⟨_, at_lt (by omega), W.mb _ _ (at_lt (by omega))⟩) (up_rise W.ub _ _ (by omega)) (by omega) fun k2 eg2 => ?_)))
              dsimp only
              obtain ⟨M5, le5⟩ := lo_GB W M4 x3 eg2
              have hk2 := eg2.le
              obtain ⟨o4, e4⟩ : ∃ o4, o4 = o3.push xb[j] := ⟨_, rfl⟩
              obtain ⟨j4, e8⟩ : ∃ j4, j4 = j + 1 := ⟨_, rfl⟩
              have sz4 : o4.size = o3.size + 1 := by rw [e4, Array.size_push]
              rw [← e4] at M4 M5 ⊢
              rw [← e8] at M4 M5 le5 hk2 eb ⊢
              have sz5 := sz_part xb o4 j4 k2 (by omega)
              generalize hgi : j4 = j'
              revert j'
              generalize hgo : o4 = o'
              revert o'
              refine jp2 (o := o4) (i := j4) (fun o5 j5 => j5 < xb.size ∧ Mg O key T (o5.push ax).toList (xa.toList.drop (i3 + 1)) (xb.toList.drop j5) ∧ o5.size = i3 + j5 ∧ o.size + 1 ≤ o5.size) ?b2 (fun hk0 hF => ?w3) (fun hk0 => ?w4)
              case w3 =>
                by_cases ec : j4 + k2 = xb.size
                · rw [if_pos (by simpa using ec)]
                  exact wpS_pure ⟨SS1, .inr ⟨_, rfl, lo_fin M5 ec⟩⟩
                · rw [if_neg (by simpa using ec)]
                  have ey5 := at_lt (xs := xb) (i := j4 + k2) (by omega)
                  exact hF _ _ ⟨by omega, lo_A W M5 x3 ey5 (le5 _ (by omega) ey5), by omega, by omega⟩
              case w4 =>
                have e5 : k2 = 0 := by omega
                subst e5
                have ey5 := at_lt (xs := xb) (i := j4) (by omega)
                exact ⟨by omega, lo_A W M4 x3 ey5 (le5 _ (by omega) ey5), by omega, by omega⟩
              case b2 =>
                rintro o5 j5 ⟨hj5, M6, z5, p5⟩
                refine wpS_bind (t_elem x3 ?_)
                by_cases ed : i3 + 1 + 1 = xa.size
                · rw [if_pos (by simpa using ed)]
                  exact wpS_pure ⟨SS1, .inr ⟨_, rfl, lo_one W M6 ed⟩⟩
                · rw [if_neg (by simpa using ed)]
                  have J6 : JLo O key xa xb T (o5.push ax) (i3 + 1) j5 := ⟨M6, by omega, by omega, by rw [Array.size_push]; omega⟩
                  have p6 := J6.sz
                  split
                  · exact wpS_pure ⟨SS1, .inl ⟨_, _, _, _, _, _, rfl, J6, by rw [p6]; omega⟩⟩
                  · exact wpS_pure ⟨SS1, _, _, _, _, _, _, rfl, J6, by rw [p6]; omega⟩
      · obtain ⟨c1, c2⟩ := c
        dsimp only at e
        subst e
        exact wpS_pure ⟨SS, r, rfl, M⟩
end
end L2

namespace L2
open PySem PySem.Spec PyProof.Rows
/-! ### from the end: the same, turned about -/
def Ordr.flip {κ : Type} (O : Ordr κ) : Ordr κ := ⟨fun a b => O.lt b a, O.irr, fun _ _ _ h1 h2 => O.tr _ _ _ h2 h1, fun _ b _ h => (O.neg _ b _ h).symm⟩
def mgHi : Array Keyed → Array Keyed → StateT SortSt Sem (Array Keyed) := sortPriv% PySem.Builtin.mergeHi
theorem mgHi_eq (xa xb : Array Keyed) : mgHi xa xb = (do
  rule "list.sort.merge-hi"
  let tot := xa.size + xb.size
  let fin (o : Array Keyed) (i j : Nat) := xa.extract 0 i ++ xb.extract 0 j ++ o.reverse
  let oneB (o : Array Keyed) (i j : Nat) := xb.extract 0 j ++ xa.extract 0 i ++ o.reverse
  let mut i := xa.size - 1
  let mut j := xb.size
  let mut o : Array Keyed := #[← elem' xa i]
  if i == 0 then return fin o i j
  if j == 1 then return oneB o i j
  let mut mg := gallopOf (← get)
  for _ in [0:tot] do
    let mut ca := 0
    let mut cb := 0
    for _ in [0:tot] do
      let some won ← lt' (← elem' xb (j - 1)) (← elem' xa (i - 1)) | return fin o i j
      if won then
        i := i - 1; o := o.push (← elem' xa i); ca := ca + 1; cb := 0
        if i == 0 then return fin o i j
        if ca ≥ mg then break
      else
        j := j - 1; o := o.push (← elem' xb j); cb := cb + 1; ca := 0
        if j == 1 then return oneB o i j
        if cb ≥ mg then break
    rule "list.sort.gallop"
    mg := mg + 1
    for _ in [0:tot] do
      if mg > 1 then mg := mg - 1
      setG mg
      let some p ← gal false (← elem' xb (j - 1)) xa 0 i (i - 1) | return fin o i j
      let k := i - p
      ca := k
      if k > 0 then
        o := o ++ (xa.extract p i).reverse; i := p
        if i == 0 then return fin o i j
      j := j - 1; o := o.push (← elem' xb j)
      if j == 1 then return oneB o i j
      let some p ← gal true (← elem' xa (i - 1)) xb 0 j (j - 1) | return fin o i j
      let k := j - p
      cb := k
      if k > 0 then
        o := o ++ (xb.extract p j).reverse; j := p
        if j == 1 then return oneB o i j
        if j == 0 then return fin o i j
      i := i - 1; o := o.push (← elem' xa i)
      if i == 0 then return fin o i j
      if ca < 7 && cb < 7 then break
    mg := mg + 1
    setG mg
  unsupported "internal:list.sort.merge-bound") := rfl
section
variable {κ : Type} {O : Ordr κ} {key : Keyed → κ} {prog : Program} {w : World} {A : Around} {E : Value → Shared → Prop} {s : Shared} {a₀ : Array Keyed} {kd : SortKind}
theorem rev_at {xs : Array Keyed} {n q : Nat} (hn : n ≤ xs.size) (hq : q < n) : xs.reverse[xs.size - n + q]? = xs[n - 1 - q]? := by
  rw [Array.getElem?_reverse (by omega)]
  congr 1
  omega
theorem kk_rev {xs : Array Keyed} {n q : Nat} (hn : n ≤ xs.size) (hq : q < n) : kk key xs.reverse (xs.size - n + q) = kk key xs (n - 1 - q) := kk_congr key (rev_at hn hq)
theorem ext_rev (xs : Array Keyed) {p n : Nat} (hp : p ≤ n) (hn : n ≤ xs.size) : (xs.extract p n).reverse = xs.reverse.extract (xs.size - n) (xs.size - n + (n - p)) := by
  apply Array.ext
  · simp; omega
  · intro i h1 h2
    simp only [Array.getElem_reverse, Array.getElem_extract]
    simp at h1
    congr 1
    simp
    omega
theorem Up.flip {xs : List Keyed} (h : Up O key xs) : Up O.flip key xs.reverse := List.pairwise_reverse.mpr h
theorem Made.flip {T T' r : List Keyed} (h : Made O.flip key T r) (p : T.Perm T') : Made O key T' r.reverse := ⟨(List.reverse_perm _).trans (h.1.trans p), List.pairwise_reverse.mpr h.2⟩
theorem Two.flip {xa xb : Array Keyed} (W : Two O key a₀ xa xb) : Two O.flip key a₀ xb.reverse xa.reverse := by
  have na := W.na
  have nb := W.nb
  have gb : ∀ (i : Nat) (x : Keyed), xb.reverse[i]? = some x → ∃ j : Nat, xb[j]? = some x ∧ i < xb.size ∧ j = xb.size - 1 - i := fun i x e => by
    have hi : i < xb.size := by
      have := (Array.getElem?_eq_some_iff.mp e).1
      simpa using this
    rw [Array.getElem?_reverse hi] at e
    exact ⟨_, e, hi, rfl⟩
  have ga : ∀ (i : Nat) (x : Keyed), xa.reverse[i]? = some x → ∃ j : Nat, xa[j]? = some x ∧ i < xa.size ∧ j = xa.size - 1 - i := fun i x e => by
    have hi : i < xa.size := by
      have := (Array.getElem?_eq_some_iff.mp e).1
      simpa using this
    rw [Array.getElem?_reverse hi] at e
    exact ⟨_, e, hi, rfl⟩
  refine ⟨fun i x e => ?_, fun i x e => ?_, by rw [Array.toList_reverse]; exact W.ub.flip, by rw [Array.toList_reverse]; exact W.ua.flip, by simpa using nb, by simpa using na, fun x y ex ey => ?_, fun x y j ex ey => ?_⟩
  · obtain ⟨j, e', _⟩ := gb i x e
    exact W.mb j x e'
  · obtain ⟨j, e', _⟩ := ga i x e
    exact W.ma j x e'
  · obtain ⟨j, e1, _, h1⟩ := gb 0 x ex
    obtain ⟨k, e2, _, h2⟩ := ga 0 y ey
    subst h2
    exact W.last y x j e2 e1
  · obtain ⟨k, e1, _, h1⟩ := gb _ x ex
    obtain ⟨m, e2, _, h2⟩ := ga _ y ey
    rw [Array.size_reverse] at h1
    have hk : k = 0 := by omega
    subst hk
    have ea0 := at_lt (xs := xa) (i := 0) (by omega)
    have lt0 := W.first _ x ea0 e1
    have hr := up_rise W.ua 0 xa.size (Nat.le_refl _) 0 m (Nat.le_refl _) (Nat.zero_le _) (by omega)
    rw [kk_at ea0, kk_at e2] at hr
    have := Ordr.lt_le (O := O) lt0 hr
    exact this
theorem edgeH1 {xs : Array Keyed} {n p : Nat} {y : Keyed} (hn : n ≤ xs.size) (g : Edge (pastP O key false y xs 0) n p) : Edge (pastP O.flip key true y xs.reverse (xs.size - n)) (xs.reverse.size - (xs.size - n)) (n - p) := by
  have hp := g.le
  refine ⟨by rw [Array.size_reverse]; omega, fun q hq => ?_, fun q h1 h2 => ?_⟩
  · have := g.no (n - 1 - q) (by omega) (by omega)
    unfold pastP at this ⊢
    rw [if_neg Bool.false_ne_true, Nat.zero_add] at this
    rw [if_pos rfl, kk_rev hn (by omega)]
    show O.lt (key y) _ = true
    cases z : O.lt (key y) (kk key xs (n - 1 - q)) with
    | true => rfl
    | false => rw [z] at this; cases this
  · rw [Array.size_reverse] at h2
    have := g.yes (n - 1 - q) (by omega)
    unfold pastP at this ⊢
    rw [if_neg Bool.false_ne_true, Nat.zero_add] at this
    rw [if_pos rfl, kk_rev hn (by omega)]
    show O.lt (key y) _ = false
    cases z : O.lt (key y) (kk key xs (n - 1 - q)) with
    | false => rfl
    | true => rw [z] at this; cases this
theorem edgeH2 {xs : Array Keyed} {n p : Nat} {y : Keyed} (hn : n ≤ xs.size) (g : Edge (pastP O key true y xs 0) n p) : Edge (pastP O.flip key false y xs.reverse (xs.size - n)) (xs.reverse.size - (xs.size - n)) (n - p) := by
  have hp := g.le
  refine ⟨by rw [Array.size_reverse]; omega, fun q hq => ?_, fun q h1 h2 => ?_⟩
  · have := g.no (n - 1 - q) (by omega) (by omega)
    unfold pastP at this ⊢
    rw [if_pos rfl, Nat.zero_add] at this
    rw [if_neg Bool.false_ne_true, kk_rev hn (by omega)]
    show (!O.lt _ (key y)) = true
    rw [this]; rfl
  · rw [Array.size_reverse] at h2
    have := g.yes (n - 1 - q) (by omega)
    unfold pastP at this ⊢
    rw [if_pos rfl, Nat.zero_add] at this
    rw [if_neg Bool.false_ne_true, kk_rev hn (by omega)]
    show (!O.lt _ (key y)) = false
    rw [this]; rfl
variable {xa xb : Array Keyed} {T : List Keyed} {o : Array Keyed} {i j : Nat}
theorem rest_rev (xs : Array Keyed) {n : Nat} (hn : n ≤ xs.size) : (xs.reverse.toList.drop (xs.size - n)).reverse = (xs.extract 0 n).toList := by
  rw [Array.toList_reverse, List.drop_reverse, List.reverse_reverse, Array.toList_extract, List.extract_eq_drop_take, Array.length_toList, List.drop_zero]
  congr 1
  omega
theorem hi_fin {na nb : Nat} (ha : na ≤ xa.size) (hb : nb ≤ xb.size) (h : Mg O.flip key (xb.reverse.toList ++ xa.reverse.toList) o.toList (xb.reverse.toList.drop (xb.size - nb)) (xa.reverse.toList.drop (xa.size - na))) (e : na = 0) : Made O key (xa.toList ++ xb.toList) (xa.extract 0 na ++ xb.extract 0 nb ++ o.reverse).toList := by
  have := lo_fin h (by rw [Array.size_reverse]; omega)
  have m := this.flip (T' := xa.toList ++ xb.toList) (by
    rw [Array.toList_reverse, Array.toList_reverse]
    exact ((List.reverse_perm _).append (List.reverse_perm _)).trans List.perm_append_comm)
  rw [Array.toList_append, Array.toList_append, rest_toList, rest_toList, List.reverse_append, List.reverse_append, rest_rev xa ha, rest_rev xb hb] at m
  rw [Array.toList_append, Array.toList_append, Array.toList_reverse, List.append_assoc]
  exact m
theorem hi_one {na nb : Nat} (ha : na ≤ xa.size) (hb : nb ≤ xb.size) (W : Two O.flip key a₀ xb.reverse xa.reverse) (h : Mg O.flip key (xb.reverse.toList ++ xa.reverse.toList) o.toList (xb.reverse.toList.drop (xb.size - nb)) (xa.reverse.toList.drop (xa.size - na))) (e : nb = 1) : Made O key (xa.toList ++ xb.toList) (xb.extract 0 nb ++ xa.extract 0 na ++ o.reverse).toList := by
  have := lo_one W h (by rw [Array.size_reverse]; omega)
  have m := this.flip (T' := xa.toList ++ xb.toList) (by
    rw [Array.toList_reverse, Array.toList_reverse]
    exact ((List.reverse_perm _).append (List.reverse_perm _)).trans List.perm_append_comm)
  rw [Array.toList_append, Array.toList_append, rest_toList, rest_toList, List.reverse_append, List.reverse_append, rest_rev xa ha, rest_rev xb hb] at m
  rw [Array.toList_append, Array.toList_append, Array.toList_reverse, List.append_assoc]
  exact m
/-- on the way from the end -/
structure JHi (O : Ordr κ) (key : Keyed → κ) (xa xb : Array Keyed) (T : List Keyed) (o : Array Keyed) (i j : Nat) : Prop where
  mg : Mg O.flip key T o.toList (xb.reverse.toList.drop (xb.size - j)) (xa.reverse.toList.drop (xa.size - i))
  i1 : 1 ≤ i
  i2 : i ≤ xa.size
  j1 : 2 ≤ j
  j2 : j ≤ xb.size
  sz : o.size = (xa.size - i) + (xb.size - j)
theorem sz_rev (o xs : Array Keyed) {p n : Nat} (hn : n ≤ xs.size) : (o ++ (xs.extract p n).reverse).size = o.size + (n - p) := by
  rw [Array.size_append, Array.size_reverse, Array.size_extract]; omega
theorem t_mgHi (C : Cmp O key prog w A E s a₀ kd) {st : SortSt} {Q : Array Keyed → SortSt → Prop} (hk : kindOf st = kd) (V : Two O key a₀ xa xb)
    (h : ∀ r z, SamS st z → Made O key (xa.toList ++ xb.toList) r.toList → Q r z) : wpS (model prog w) A E s (mgHi xa xb) Q st := by
  have W := V.flip
  have na := V.na
  have nb := V.nb
  obtain ⟨T, hT⟩ : ∃ T, T = xb.reverse.toList ++ xa.reverse.toList := ⟨_, rfl⟩
  have fin : ∀ {o : Array Keyed} {i j : Nat}, i ≤ xa.size → j ≤ xb.size → Mg O.flip key T o.toList (xb.reverse.toList.drop (xb.size - j)) (xa.reverse.toList.drop (xa.size - i)) → i = 0 → Made O key (xa.toList ++ xb.toList) (xa.extract 0 i ++ xb.extract 0 j ++ o.reverse).toList := fun h1 h2 m e => by
    rw [hT] at m
    exact hi_fin h1 h2 m e
  have oneB : ∀ {o : Array Keyed} {i j : Nat}, i ≤ xa.size → j ≤ xb.size → Mg O.flip key T o.toList (xb.reverse.toList.drop (xb.size - j)) (xa.reverse.toList.drop (xa.size - i)) → j = 1 → Made O key (xa.toList ++ xb.toList) (xb.extract 0 j ++ xa.extract 0 i ++ o.reverse).toList := fun h1 h2 m e => by
    rw [hT] at m
    exact hi_one h1 h2 W m e
  generalize xa.toList ++ xb.toList = TT at h fin oneB
  -- the places, turned about
  have sa : xa.reverse.size = xa.size := Array.size_reverse
  have sb : xb.reverse.size = xb.size := Array.size_reverse
  have atA : ∀ {i : Nat} {x : Keyed}, 1 ≤ i → i ≤ xa.size → xa[i - 1]? = some x → xa.reverse[xa.size - i]? = some x := fun {i x} h1 h2 e => by
    have := rev_at (xs := xa) (n := i) (q := 0) h2 (by omega)
    rw [Nat.add_zero, Nat.sub_zero] at this
    rw [this]; exact e
  have atB : ∀ {i : Nat} {x : Keyed}, 1 ≤ i → i ≤ xb.size → xb[i - 1]? = some x → xb.reverse[xb.size - i]? = some x := fun {i x} h1 h2 e => by
    have := rev_at (xs := xb) (n := i) (q := 0) h2 (by omega)
    rw [Nat.add_zero, Nat.sub_zero] at this
    rw [this]; exact e
  -- one of a, one of b
  have pushA : ∀ {o : Array Keyed} {i j : Nat} {x y : Keyed}, 1 ≤ i → i ≤ xa.size → 1 ≤ j → j ≤ xb.size → xb[j - 1]? = some x → xa[i - 1]? = some y → O.lt (key x) (key y) = true → Mg O.flip key T o.toList (xb.reverse.toList.drop (xb.size - j)) (xa.reverse.toList.drop (xa.size - i)) → Mg O.flip key T (o.push y).toList (xb.reverse.toList.drop (xb.size - j)) (xa.reverse.toList.drop (xa.size - (i - 1))) := fun {o i j x y} h1 h2 h3 h4 ex ey hc m => by
    have := lo_B W m (atB h3 h4 ex) (atA h1 h2 ey) (Ordr.le_of_lt (O := O.flip) hc)
    rw [show xa.size - (i - 1) = xa.size - i + 1 by omega]
    exact this
  have pushB : ∀ {o : Array Keyed} {i j : Nat} {x y : Keyed}, 1 ≤ i → i ≤ xa.size → 1 ≤ j → j ≤ xb.size → xb[j - 1]? = some x → xa[i - 1]? = some y → O.le (key y) (key x) → Mg O.flip key T o.toList (xb.reverse.toList.drop (xb.size - j)) (xa.reverse.toList.drop (xa.size - i)) → Mg O.flip key T (o.push x).toList (xb.reverse.toList.drop (xb.size - (j - 1))) (xa.reverse.toList.drop (xa.size - i)) := fun {o i j x y} h1 h2 h3 h4 ex ey hc m => by
    have := lo_A W m (atB h3 h4 ex) (atA h1 h2 ey) (show O.flip.le (key x) (key y) from hc)
    rw [show xb.size - (j - 1) = xb.size - j + 1 by omega]
    exact this
  -- many of a, many of b
  have galA : ∀ {o : Array Keyed} {i j p : Nat} {x : Keyed}, 1 ≤ i → i ≤ xa.size → 1 ≤ j → j ≤ xb.size → xb[j - 1]? = some x → Edge (pastP O key false x xa 0) i p → Mg O.flip key T o.toList (xb.reverse.toList.drop (xb.size - j)) (xa.reverse.toList.drop (xa.size - i)) → Mg O.flip key T (o ++ (xa.extract p i).reverse).toList (xb.reverse.toList.drop (xb.size - j)) (xa.reverse.toList.drop (xa.size - p)) ∧ ∀ y, 1 ≤ p → xa[p - 1]? = some y → O.le (key y) (key x) := fun {o i j p x} h1 h2 h3 h4 ex g m => by
    have gl := g.le
    obtain ⟨m1, m2⟩ := lo_GB W m (atB h3 h4 ex) (edgeH1 h2 g)
    rw [← ext_rev xa gl h2, show xa.size - i + (i - p) = xa.size - p by omega] at m1
    refine ⟨m1, fun y hp ey => ?_⟩
    have := m2 y (by rw [sa]; omega) (by rw [show xa.size - i + (i - p) = xa.size - p by omega]; exact atA hp (by omega) ey)
    exact this
  have galB : ∀ {o : Array Keyed} {i j p : Nat} {y : Keyed}, 1 ≤ i → i ≤ xa.size → 1 ≤ j → j ≤ xb.size → xa[i - 1]? = some y → Edge (pastP O key true y xb 0) j p → Mg O.flip key T o.toList (xb.reverse.toList.drop (xb.size - j)) (xa.reverse.toList.drop (xa.size - i)) → Mg O.flip key T (o ++ (xb.extract p j).reverse).toList (xb.reverse.toList.drop (xb.size - p)) (xa.reverse.toList.drop (xa.size - i)) ∧ 1 ≤ p ∧ ∀ x, xb[p - 1]? = some x → O.lt (key x) (key y) = true := fun {o i j p y} h1 h2 h3 h4 ey g m => by
    have gl := g.le
    have m1 := lo_GA W m (atA h1 h2 ey) (edgeH2 h4 g)
    obtain ⟨l1, l2⟩ := edgeA W (atA h1 h2 ey) (i := xb.size - j) (by rw [sb]; omega) (edgeH2 h4 g)
    rw [sb] at l1
    rw [← ext_rev xb gl h4, show xb.size - j + (j - p) = xb.size - p by omega] at m1
    refine ⟨m1, by omega, fun x ex => ?_⟩
    have := l2 x (by rw [show xb.size - j + (j - p) = xb.size - p by omega]; exact atB (by omega) (by omega) ex)
    exact this
  rw [mgHi_eq]
  refine wpS_bind (wpS_lift (wpAny_rule ⟨rfl, ?_⟩))
  dsimp only
  have ea0 := at_lt (xs := xa) (i := xa.size - 1) (by omega)
  have eb0 := at_lt (xs := xb) (i := xb.size - 1) (by omega)
  have M0 : Mg O.flip key T #[xa[xa.size - 1]].toList (xb.reverse.toList.drop (xb.size - xb.size)) (xa.reverse.toList.drop (xa.size - (xa.size - 1))) := by
    have h0 : Mg O.flip key T (#[] : Array Keyed).toList (xb.reverse.toList.drop (xb.size - xb.size)) (xa.reverse.toList.drop (xa.size - xa.size)) := ⟨by rw [hT]; simp, List.Pairwise.nil, (fun x hx => by cases hx), (fun x hx => by cases hx), by simpa using W.ua, by simpa using W.ub⟩
    exact pushA (i := xa.size) (j := xb.size) na (Nat.le_refl _) nb (Nat.le_refl _) eb0 ea0 (V.last _ _ _ ea0 eb0) h0
  refine wpS_bind (t_elem ea0 ?_)
  by_cases e1 : xa.size - 1 = 0
  · rw [if_pos (by simpa using e1)]
    exact wpS_pure (h _ st (SamS.refl _) (fin (by omega) (Nat.le_refl _) M0 e1))
  rw [if_neg (by simpa using e1)]
  by_cases e2 : xb.size = 1
  · rw [if_pos (by simpa using e2)]
    exact wpS_pure (h _ st (SamS.refl _) (oneB (by omega) (Nat.le_refl _) M0 e2))
  rw [if_neg (by simpa using e2)]
  refine wpS_bind (wpS_get ?_)
  have J0 : JHi O key xa xb T #[xa[xa.size - 1]] (xa.size - 1) xb.size := ⟨M0, by omega, by omega, by omega, Nat.le_refl _, by simp; omega⟩
  refine wpS_bind (wpS_mono (wpS_forRange (I := fun x c z => SamS st z ∧ ∃ o i j g, c = (none, i, j, o, g) ∧ JHi O key xa xb T o i j ∧ x + 1 ≤ o.size) (Q := fun c z => SamS st z ∧ ∃ r, c.1 = some r ∧ Made O key TT r.toList) ?out1 ?out2 ⟨SamS.refl _, _, _, _, _, rfl, J0, by simp⟩) ?out3)
  case out3 =>
    rintro ⟨c1, c2⟩ z ⟨SS, r, e, M⟩
    dsimp only at e
    subst e
    exact wpS_pure (h r z SS M)
  case out2 =>
    rintro c z ⟨SS, o, i, j, g, rfl, J, hx⟩
    have := J.sz; have := J.i1; have := J.j1
    omega
  case out1 =>
    rintro x0 c z _ hx0 ⟨SS, o, i, j, g, rfl, J, hx⟩
    dsimp only
    have hkz : kindOf z = kd := SS.kind.trans hk
    refine wpS_bind (wpS_mono (wpS_forRange (I := fun x c z' => z' = z ∧ ∃ o' i j ca cb, c = (none, i, j, o', ca, cb) ∧ JHi O key xa xb T o' i j ∧ o.size + min x 1 ≤ o'.size) (Q := fun c z' => z' = z ∧ ((∃ o' i j ca cb, c = (none, i, j, o', ca, cb) ∧ JHi O key xa xb T o' i j ∧ o.size + 1 ≤ o'.size) ∨ ∃ r, c.1 = some r ∧ Made O key TT r.toList)) ?in1 ?in2 ⟨rfl, o, i, j, 0, 0, rfl, J, by omega⟩) ?in3)
    case in2 =>
      rintro c z' ⟨rfl, o', i, j, ca, cb, rfl, J, hp⟩
      refine ⟨rfl, .inl ⟨o', i, j, ca, cb, rfl, J, ?_⟩⟩
      have : min (max 0 (xa.size + xb.size)) 1 = 1 := by omega
      omega
    case in1 =>
      rintro x c z' _ hx ⟨rfl, o', i, j, ca, cb, rfl, J, hp⟩
      dsimp only
      have i1 := J.i1
      have i2 := J.i2
      have j1 := J.j1
      have j2 := J.j2
      have sz := J.sz
      have ey := at_lt (xs := xa) (i := i - 1) (by omega)
      have ex := at_lt (xs := xb) (i := j - 1) (by omega)
      refine wpS_bind (t_elem ex (wpS_bind (t_elem ey (wpS_bind (C _ _ (V.mb _ _ ex) (V.ma _ _ ey) z' _ hkz ?_)))))
      dsimp only
      by_cases hc : O.lt (key xb[j - 1]) (key xa[i - 1]) = true
      · rw [if_pos hc]
        refine wpS_bind (t_elem ey ?_)
        have M1 := pushA i1 i2 (by omega) j2 ex ey hc J.mg
        by_cases e : i - 1 = 0
        · rw [if_pos (by simpa using e)]
          exact wpS_pure ⟨rfl, .inr ⟨_, rfl, fin (by omega) j2 M1 e⟩⟩
        · rw [if_neg (by simpa using e)]
          have J1 : JHi O key xa xb T (o'.push xa[i - 1]) (i - 1) j := ⟨M1, by omega, by omega, j1, j2, by rw [Array.size_push]; omega⟩
          have sz1 : o.size + 1 ≤ (o'.push xa[i - 1]).size := by rw [Array.size_push]; omega
          split
          · exact wpS_pure ⟨rfl, .inl ⟨_, _, _, _, _, rfl, J1, sz1⟩⟩
          · exact wpS_pure ⟨rfl, _, _, _, _, _, rfl, J1, by omega⟩
      · rw [if_neg hc]
        refine wpS_bind (t_elem ex ?_)
        have M1 := pushB i1 i2 (by omega) j2 ex ey (Ordr.le_not hc) J.mg
        by_cases e : j - 1 = 1
        · rw [if_pos (by simpa using e)]
          exact wpS_pure ⟨rfl, .inr ⟨_, rfl, oneB i2 (by omega) M1 e⟩⟩
        · rw [if_neg (by simpa using e)]
          have J1 : JHi O key xa xb T (o'.push xb[j - 1]) i (j - 1) := ⟨M1, i1, i2, by omega, by omega, by rw [Array.size_push]; omega⟩
          have sz1 : o.size + 1 ≤ (o'.push xb[j - 1]).size := by rw [Array.size_push]; omega
          split
          · exact wpS_pure ⟨rfl, .inl ⟨_, _, _, _, _, rfl, J1, sz1⟩⟩
          · exact wpS_pure ⟨rfl, _, _, _, _, _, rfl, J1, by omega⟩
    case in3 =>
      rintro c z' ⟨rfl, ⟨o1, i, j, ca, cb, rfl, J1, hp⟩ | ⟨r, e, M⟩⟩
      · dsimp only
        refine wpS_bind (wpS_lift (wpAny_rule ⟨rfl, ?_⟩))
        refine wpS_bind (wpS_mono (wpS_forRange (I := fun x c z => SamS st z ∧ ∃ o' i j g ca cb, c = (none, i, j, o', g, ca, cb) ∧ JHi O key xa xb T o' i j ∧ o.size + 1 ≤ o'.size) (Q := fun c z => SamS st z ∧ ((∃ o' i j g ca cb, c = (none, i, j, o', g, ca, cb) ∧ JHi O key xa xb T o' i j ∧ o.size + 1 ≤ o'.size) ∨ ∃ r, c.1 = some r ∧ Made O key TT r.toList)) ?gl1 ?gl2 ⟨SS, o1, i, j, _, _, _, rfl, J1, hp⟩) ?gl3)
        case gl2 =>
          rintro c z ⟨SS, h⟩
          exact ⟨SS, .inl h⟩
        case gl3 =>
          rintro c z ⟨SS, ⟨o', i, j, g, ca, cb, rfl, J, hp⟩ | ⟨r, e, M⟩⟩
          · dsimp only
            exact wpS_bind (t_setG (wpS_pure ⟨SS.setG _, _, _, _, _, rfl, J, by omega⟩))
          · obtain ⟨c1, c2⟩ := c
            dsimp only at e
            subst e
            exact wpS_pure ⟨SS, r, rfl, M⟩
        case gl1 =>
          rintro x c z _ hx ⟨SS, o2, i, j, g, ca, cb, rfl, J, hp⟩
          dsimp only
          revert g
          refine jp1 (fun g => rfl) fun g => ?_
          refine wpS_bind (t_setG ?_)
          have SS1 := SS.setG g
          have i1 := J.i1
          have i2 := J.i2
          have j1 := J.j1
          have j2 := J.j2
          have sz := J.sz
          obtain ⟨bx, ex⟩ : ∃ bx, xb[j - 1]? = some bx := ⟨_, at_lt (by omega)⟩
          refine wpS_bind (t_elem ex (wpS_bind (t_gal C (SS1.kind.trans hk) (V.mb _ _ ex) (fun q hq => ⟨_, at_lt (by omega), V.ma _ _ (at_lt (by omega))⟩) (up_rise V.ua _ _ (by omega)) (by omega) fun p eg => ?_)))
          dsimp only
          obtain ⟨M1, le1⟩ := galA i1 i2 (by omega) j2 ex eg J.mg
          have pl := eg.le
          have sz1 := sz_rev o2 xa (p := p) i2
          generalize hkk : i - p = k1
          generalize hgi : i = i'
          revert i'
          generalize hgo : o2 = o'
          revert o'
          refine jp2 (o := o2) (i := i) (fun o3 i3 => (1 ≤ i3 ∧ i3 ≤ xa.size) ∧ Mg O.flip key T o3.toList (xb.reverse.toList.drop (xb.size - j)) (xa.reverse.toList.drop (xa.size - i3)) ∧ o3.size = (xa.size - i3) + (xb.size - j) ∧ o.size + 1 ≤ o3.size ∧ ∃ ay, xa[i3 - 1]? = some ay ∧ O.le (key ay) (key bx)) ?b1 (fun hk0 hF => ?w1) (fun hk0 => ?w2)
          case w1 =>
            by_cases ea : p = 0
            · rw [if_pos (by simpa using ea)]
              exact wpS_pure ⟨SS1, .inr ⟨_, rfl, fin (by omega) j2 M1 ea⟩⟩
            · rw [if_neg (by simpa using ea)]
              obtain ⟨ay, ey⟩ : ∃ ay, xa[p - 1]? = some ay := ⟨_, at_lt (by omega)⟩
              exact hF (o2 ++ (xa.extract p i).reverse) p ⟨by omega, M1, by omega, by omega, ay, ey, le1 _ (by omega) ey⟩
          case w2 =>
            have e5 : p = i := by omega
            subst e5
            obtain ⟨ay, ey⟩ : ∃ ay, xa[p - 1]? = some ay := ⟨_, at_lt (by omega)⟩
            exact ⟨⟨i1, i2⟩, J.mg, sz, hp, ay, ey, le1 _ (by omega) ey⟩
          case b1 =>
            rintro o3 i3 ⟨hi3, M3, z3, p3, ay, y3, le3⟩
            refine wpS_bind (t_elem ex ?_)
            have M4 := pushB hi3.1 hi3.2 (by omega) j2 ex y3 le3 M3
            by_cases eb : j - 1 = 1
            · rw [if_pos (by simpa using eb)]
              exact wpS_pure ⟨SS1, .inr ⟨_, rfl, oneB hi3.2 (by omega) M4 eb⟩⟩
            · rw [if_neg (by simpa using eb)]
              clear M1 le1 pl sz1 eg
              obtain ⟨o4, e4⟩ : ∃ o4, o4 = o3.push bx := ⟨_, rfl⟩
              obtain ⟨j4, e8⟩ : ∃ j4, j4 = j - 1 := ⟨_, rfl⟩
              have sz4 : o4.size = o3.size + 1 := by rw [e4, Array.size_push]
              rw [← e4] at M4 ⊢
              rw [← e8] at M4 eb ⊢
              have j41 : 2 ≤ j4 := by omega
              have j42 : j4 ≤ xb.size := by omega
              have z4 : o4.size = (xa.size - i3) + (xb.size - j4) := by omega
              have p4 : o.size + 1 ≤ o4.size := by omega
              clear z3 p3 M3 e4 e8 ex sz4 eb j1 j2 sz
              refine wpS_bind (t_elem y3 (wpS_bind (t_gal C (SS1.kind.trans hk) (V.ma _ _ y3) (fun q hq => ⟨_, at_lt (by omega), V.mb _ _ (at_lt (by omega))⟩) (up_rise V.ub _ _ (by omega)) (by omega) fun p2 eg2 => ?_)))
              dsimp only
              obtain ⟨M5, p21, lt5⟩ := galB hi3.1 hi3.2 (by omega) (by omega) y3 eg2 M4
              have hk2 := eg2.le
              have sz5 := sz_rev o4 xb (p := p2) (n := j4) (by omega)
              generalize hkk2 : j4 - p2 = k2
              generalize hgi : j4 = j'
              revert j'
              generalize hgo : o4 = o'
              revert o'
              refine jp2 (o := o4) (i := j4) (fun o5 j5 => (2 ≤ j5 ∧ j5 ≤ xb.size) ∧ Mg O.flip key T (o5.push ay).toList (xb.reverse.toList.drop (xb.size - j5)) (xa.reverse.toList.drop (xa.size - (i3 - 1))) ∧ o5.size = (xa.size - i3) + (xb.size - j5) ∧ o.size + 1 ≤ o5.size) ?b2 (fun hk0 hF => ?w3) (fun hk0 => ?w4)
              case w3 =>
                by_cases ec : p2 = 1
                · rw [if_pos (by simpa using ec)]
                  exact wpS_pure ⟨SS1, .inr ⟨_, rfl, oneB hi3.2 (by omega) M5 ec⟩⟩
                · rw [if_neg (by simpa using ec), if_neg (by simp; omega)]
                  obtain ⟨bx5, ex5⟩ : ∃ bx5, xb[p2 - 1]? = some bx5 := ⟨_, at_lt (by omega)⟩
                  exact hF (o4 ++ (xb.extract p2 j4).reverse) p2 ⟨by omega, pushA hi3.1 hi3.2 p21 (by omega) ex5 y3 (lt5 _ ex5) M5, by omega, by omega⟩
              case w4 =>
                have e9 : p2 = j4 := by omega
                subst e9
                obtain ⟨bx5, ex5⟩ : ∃ bx5, xb[p2 - 1]? = some bx5 := ⟨_, at_lt (by omega)⟩
                exact ⟨by omega, pushA hi3.1 hi3.2 p21 j42 ex5 y3 (lt5 _ ex5) M4, z4, p4⟩
              case b2 =>
                rintro o5 j5 ⟨hj5, M6, z5, p5⟩
                clear M5 lt5 hk2 sz5 eg2 M4 z4 p4
                refine wpS_bind (t_elem y3 ?_)
                by_cases ed : i3 - 1 = 0
                · rw [if_pos (by simpa using ed)]
                  exact wpS_pure ⟨SS1, .inr ⟨_, rfl, fin (by omega) (by omega) M6 ed⟩⟩
                · rw [if_neg (by simpa using ed)]
                  have J6 : JHi O key xa xb T (o5.push ay) (i3 - 1) j5 := ⟨M6, by omega, by omega, by omega, by omega, by rw [Array.size_push]; omega⟩
                  have p6 := J6.sz
                  split
                  · exact wpS_pure ⟨SS1, .inl ⟨_, _, _, _, _, _, rfl, J6, by rw [p6]; omega⟩⟩
                  · exact wpS_pure ⟨SS1, _, _, _, _, _, _, rfl, J6, by rw [p6]; omega⟩
      · obtain ⟨c1, c2⟩ := c
        dsimp only at e
        subst e
        exact wpS_pure ⟨SS, r, rfl, M⟩
end
end L2

namespace L2
open PySem PySem.Spec PyProof.Rows
/-! ### two runs made one -/
section
variable {κ : Type} {O : Ordr κ} {key : Keyed → κ} {prog : Program} {w : World} {A : Around} {E : Value → Shared → Prop} {s : Shared} {a₀ : Array Keyed} {kd : SortKind}
def putIn (a : Array Keyed) (lo : Nat) (r : List (Keyed × Nat)) : Array Keyed := r.foldl (fun b q => b.setIfInBounds (lo + q.2) q.1) a
theorem put_list (lo : Nat) : ∀ (r : List Keyed) (n : Nat) (a : Array Keyed), lo + n + r.length ≤ a.size → (putIn a lo (r.zipIdx n)).toList = a.toList.take (lo + n) ++ r ++ a.toList.drop (lo + n + r.length)
  | [], n, a, h => by simp [putIn]
  | x :: r, n, a, h => by
    have hl : lo + n < a.toList.length := by rw [Array.length_toList]; simp at h; omega
    have ih := put_list lo r (n + 1) (a.setIfInBounds (lo + n) x) (by rw [Array.size_setIfInBounds]; simp at h; omega)
    have e0 : putIn a lo ((x :: r).zipIdx n) = putIn (a.setIfInBounds (lo + n) x) lo (r.zipIdx (n + 1)) := rfl
    rw [e0, ih, Array.toList_setIfInBounds, List.set_eq_take_append_cons_drop, if_pos hl]
    have tl : (a.toList.take (lo + n)).length = lo + n := by rw [List.length_take]; omega
    have e1 : (a.toList.take (lo + n) ++ x :: a.toList.drop (lo + n + 1)).take (lo + (n + 1)) = a.toList.take (lo + n) ++ [x] := by
      rw [List.take_append, tl, List.take_of_length_le (by rw [tl]; omega), show lo + (n + 1) - (lo + n) = 1 by omega]; rfl
    have e2 : (a.toList.take (lo + n) ++ x :: a.toList.drop (lo + n + 1)).drop (lo + (n + 1) + r.length) = a.toList.drop (lo + n + (x :: r).length) := by
      rw [List.drop_append, tl, List.drop_eq_nil_of_le (by rw [tl]; omega), List.nil_append, show lo + (n + 1) + r.length - (lo + n) = r.length + 1 by omega, List.drop_succ_cons, List.drop_drop, List.length_cons]
      congr 1
      omega
    rw [e1, e2]
    simp
theorem mid_list (a : Array Keyed) {lo sb hi : Nat} (h1 : lo ≤ sb) (h2 : sb ≤ hi) : (a.extract lo sb).toList ++ (a.extract sb hi).toList = (a.toList.drop lo).take (hi - lo) := by
  rw [Array.toList_extract, Array.toList_extract, List.extract_eq_drop_take, List.extract_eq_drop_take]
  have e1 : (a.toList.drop lo).take (hi - lo) = (a.toList.drop lo).take (sb - lo) ++ ((a.toList.drop lo).drop (sb - lo)).take (hi - sb) := by
    rw [show hi - lo = (sb - lo) + (hi - sb) by omega, List.take_add]
  rw [e1, List.drop_drop, show lo + (sb - lo) = sb by omega]
theorem merge_rise {a a' : Array Keyed} {sa lo sb hi en : Nat} {r : List Keyed} (h1 : sa ≤ lo) (h2 : lo < sb) (h3 : sb ≤ hi) (h4 : hi ≤ en) (h5 : en ≤ a.size) (h6 : sb < en) (Ra : Rise O key a sa sb) (Rb : Rise O key a sb en)
    (pre : ∀ p, sa ≤ p → p < lo → O.le (kk key a p) (kk key a sb)) (suf : ∀ q, hi ≤ q → q < en → O.le (kk key a (sb - 1)) (kk key a q)) (M : Made O key ((a.extract lo sb).toList ++ (a.extract sb hi).toList) r)
    (e : a'.toList = a.toList.take lo ++ r ++ a.toList.drop hi) : Rise O key a' sa en ∧ a'.toList.Perm a.toList ∧ OnlyA a a' lo hi := by
  obtain ⟨pm, up⟩ := M
  rw [mid_list a (by omega) h3] at pm
  have rl : r.length = hi - lo := by rw [pm.length_eq, List.length_take, List.length_drop, Array.length_toList]; omega
  have tl : (a.toList.take lo).length = lo := by rw [List.length_take, Array.length_toList]; omega
  have g1 : ∀ p, p < lo → a'[p]? = a[p]? := fun p hp => by
    rw [← Array.getElem?_toList, e, List.append_assoc, List.getElem?_append_left (by omega), List.getElem?_take_of_lt hp, Array.getElem?_toList]
  have g3 : ∀ p, hi ≤ p → a'[p]? = a[p]? := fun p hp => by
    rw [← Array.getElem?_toList, e, List.getElem?_append_right (by rw [List.length_append, tl, rl]; omega), List.length_append, tl, rl, List.getElem?_drop, Array.getElem?_toList]
    congr 1
    omega
  have g2 : ∀ p, lo ≤ p → p < hi → a'[p]? = r[p - lo]? := fun p hp hq => by
    rw [← Array.getElem?_toList, e, List.getElem?_append_left (by rw [List.length_append, tl, rl]; omega), List.getElem?_append_right (by omega), tl]
  have mem : ∀ m ∈ r, ∃ p, lo ≤ p ∧ p < hi ∧ a[p]? = some m := fun m hm => by
    obtain ⟨q, hq⟩ := List.mem_iff_getElem?.mp (pm.mem_iff.mp hm)
    have ql : q < hi - lo := by
      have := (List.getElem?_eq_some_iff.mp hq).1
      rw [List.length_take] at this; omega
    rw [List.getElem?_take_of_lt ql, List.getElem?_drop, Array.getElem?_toList] at hq
    exact ⟨lo + q, by omega, by omega, hq⟩
  have k2 : ∀ p, lo ≤ p → p < hi → ∃ p', lo ≤ p' ∧ p' < hi ∧ kk key a' p = kk key a p' := fun p hp hq => by
    have hr : r[p - lo]? = some (r[p - lo]'(by omega)) := List.getElem?_eq_getElem (by omega)
    obtain ⟨p', q1, q2, q3⟩ := mem _ (List.mem_of_getElem? hr)
    exact ⟨p', q1, q2, kk_congr key ((g2 p hp hq).trans (hr.trans q3.symm))⟩
  have lowM : ∀ p p', sa ≤ p → p < lo → lo ≤ p' → p' < hi → O.le (kk key a p) (kk key a p') := fun p p' q1 q2 q3 q4 => by
    rcases Nat.lt_or_ge p' sb with z | z
    · exact Ra p p' q1 (by omega) z
    · exact Ordr.le_trans (pre p q1 q2) (Rb sb p' (Nat.le_refl _) z (by omega))
  have midH : ∀ p' q, lo ≤ p' → p' < hi → hi ≤ q → q < en → O.le (kk key a p') (kk key a q) := fun p' q q1 q2 q3 q4 => by
    rcases Nat.lt_or_ge p' sb with z | z
    · exact Ordr.le_trans (Ra p' (sb - 1) (by omega) (by omega) (by omega)) (suf q q3 q4)
    · exact Rb p' q z (by omega) q4
  refine ⟨fun p q q1 q2 q3 => ?_, ?_, fun p hp => ?_⟩
  · rcases Nat.lt_or_ge p lo with z1 | z1
    · rw [kk_congr key (g1 p z1)]
      rcases Nat.lt_or_ge q lo with z2 | z2
      · rw [kk_congr key (g1 q z2)]; exact Ra p q q1 q2 (by omega)
      · rcases Nat.lt_or_ge q hi with z3 | z3
        · obtain ⟨q', r1, r2, r3⟩ := k2 q z2 z3
          rw [r3]; exact lowM p q' q1 z1 r1 r2
        · rw [kk_congr key (g3 q z3)]
          exact Ordr.le_trans (Ra p (sb - 1) q1 (by omega) (by omega)) (suf q z3 q3)
    · rcases Nat.lt_or_ge p hi with z4 | z4
      · rcases Nat.lt_or_ge q hi with z3 | z3
        · rcases Nat.lt_or_eq_of_le q2 with z5 | z5
          · have hr1 : r[p - lo]? = some (r[p - lo]'(by omega)) := List.getElem?_eq_getElem (by omega)
            have hr2 : r[q - lo]? = some (r[q - lo]'(by omega)) := List.getElem?_eq_getElem (by omega)
            rw [kk_at ((g2 p z1 z4).trans hr1), kk_at ((g2 q (by omega) z3).trans hr2)]
            exact List.pairwise_iff_getElem.mp up (p - lo) (q - lo) (by omega) (by omega) (by omega)
          · rw [z5]; exact Ordr.le_refl _
        · obtain ⟨p', r1, r2, r3⟩ := k2 p z1 z4
          rw [r3, kk_congr key (g3 q z3)]
          exact midH p' q r1 r2 z3 q3
      · rw [kk_congr key (g3 p z4), kk_congr key (g3 q (by omega))]
        exact Rb p q (by omega) q2 q3
  · rw [e]
    have e1 : a.toList = a.toList.take lo ++ ((a.toList.drop lo).take (hi - lo) ++ a.toList.drop hi) := by
      have : (a.toList.drop lo).take (hi - lo) ++ a.toList.drop hi = a.toList.drop lo := by
        conv => rhs; rw [← List.take_append_drop (hi - lo) (a.toList.drop lo)]
        rw [List.drop_drop, show lo + (hi - lo) = hi by omega]
      rw [this, List.take_append_drop]
    conv => rhs; rw [e1]
    rw [List.append_assoc]
    exact (pm.append_right _).append_left _
  · rcases hp with hp | hp
    · exact g1 p hp
    · exact g3 p hp
end
end L2

namespace L2
open PySem PySem.Spec PyProof.Rows
def mgAt : Nat → StateT SortSt Sem Bool := sortPriv% PySem.Builtin.mergeAt
theorem mgAt_eq (i : Nat) : mgAt i = (do
  let z ← get
  let (some (la, ca, pw), some (lb, cb, _)) := ((pendingOf z)[i]?, (pendingOf z)[i + 1]?) | unsupported "internal:list.sort.pending"
  set (SortSt.mk' (kindOf z) (arrOf z) (((pendingOf z).setIfInBounds i (la, ca + cb, pw)).eraseIdxIfInBounds (i + 1)) (gallopOf z) (failedOf z))
  let some k ← gal false (← elem' (arrOf z) lb) (arrOf z) la ca 0 | return false
  let (la, ca) := (la + k, ca - k)
  if ca == 0 then return true
  let some cb ← gal true (← elem' (arrOf z) (la + ca - 1)) (arrOf z) lb cb (cb - 1) | return false
  if cb == 0 then return true
  let xx := (arrOf z).extract la lb
  let yy := (arrOf z).extract lb (lb + cb)
  let m ← if ca ≤ cb then mgLo xx yy else mgHi xx yy
  modify fun q => SortSt.mk' (kindOf q) (m.toList.zipIdx.foldl (fun a (p, j) => a.setIfInBounds (la + j) p) (arrOf q)) (pendingOf q) (gallopOf q) (failedOf q)
  return (failedOf (← get)).isNone) := rfl
section
variable {κ : Type} {O : Ordr κ} {key : Keyed → κ} {prog : Program} {w : World} {A : Around} {E : Value → Shared → Prop} {s : Shared} {a₀ : Array Keyed} {kd : SortKind}
theorem t_set {M : Model} {st z : SortSt} {Q : PUnit → SortSt → Prop} (h : Q ⟨⟩ z) : wpS M A E s (set z : StateT SortSt Sem PUnit) Q st := by
  unfold wpS
  rw [StateT.run_set]
  exact wpAny_pure ⟨rfl, h⟩
theorem join_rise {a : Array Keyed} {sa sb en : Nat} (h : sb < en) (Ra : Rise O key a sa sb) (Rb : Rise O key a sb en) (m : ∀ p, sa ≤ p → p < sb → O.le (kk key a p) (kk key a sb)) : Rise O key a sa en := fun p q q1 q2 q3 => by
  rcases Nat.lt_or_ge p sb with z | z
  · rcases Nat.lt_or_ge q sb with y | y
    · exact Ra p q q1 q2 y
    · exact Ordr.le_trans (m p q1 z) (Rb sb q (Nat.le_refl _) y q3)
  · exact Rb p q z q2 q3
theorem ext_at {a : Array Keyed} {lo hi i : Nat} {x : Keyed} (h : hi ≤ a.size) (e : (a.extract lo hi)[i]? = some x) : lo + i < hi ∧ a[lo + i]? = some x := by
  rw [Array.getElem?_extract] at e
  split at e
  · exact ⟨by omega, e⟩
  · cases e
theorem up_ext {a : Array Keyed} {lo hi : Nat} (h : hi ≤ a.size) (R : Rise O key a lo hi) : Up O key (a.extract lo hi).toList := by
  refine List.pairwise_iff_getElem.mpr fun i j h1 h2 h3 => ?_
  rw [Array.length_toList] at h1 h2
  have e1 : (a.extract lo hi)[i]? = some ((a.extract lo hi).toList[i]) := by rw [← Array.getElem?_toList]; exact List.getElem?_eq_getElem _
  have e2 : (a.extract lo hi)[j]? = some ((a.extract lo hi).toList[j]) := by rw [← Array.getElem?_toList]; exact List.getElem?_eq_getElem _
  obtain ⟨l1, g1⟩ := ext_at h e1
  obtain ⟨l2, g2⟩ := ext_at h e2
  have := R (lo + i) (lo + j) (by omega) (by omega) l2
  rw [kk_at g1, kk_at g2] at this
  exact this
theorem t_mgAt (C : Cmp O key prog w A E s a₀ kd) {st : SortSt} {i la ca pa lb cb pb : Nat} {Q : Bool → SortSt → Prop} (hB : Bas a₀ kd st) (e1 : (pendingOf st)[i]? = some (la, ca, pa)) (e2 : (pendingOf st)[i + 1]? = some (lb, cb, pb)) (el : lb = la + ca) (c1 : 1 ≤ ca) (c2 : 1 ≤ cb) (hz : lb + cb ≤ a₀.size)
    (Ra : Rise O key (arrOf st) la lb) (Rb : Rise O key (arrOf st) lb (lb + cb))
    (h : ∀ z, Bas a₀ kd z → pendingOf z = ((pendingOf st).setIfInBounds i (la, ca + cb, pa)).eraseIdxIfInBounds (i + 1) → OnlyA (arrOf st) (arrOf z) la (lb + cb) → Rise O key (arrOf z) la (lb + cb) → Q true z) : wpS (model prog w) A E s (mgAt i) Q st := by
  rw [mgAt_eq]
  refine wpS_bind (wpS_get ?_)
  dsimp only
  rw [e1, e2]
  dsimp only
  refine wpS_bind (t_set ?_)
  obtain ⟨P, hP⟩ : ∃ P, P = ((pendingOf st).setIfInBounds i (la, ca + cb, pa)).eraseIdxIfInBounds (i + 1) := ⟨_, rfl⟩
  rw [← hP] at h ⊢
  have hsz := hB.size
  have BZ : Bas a₀ kd (SortSt.mk' (kindOf st) (arrOf st) P (gallopOf st) (failedOf st)) := ⟨hB.perm, hB.kind, hB.failed⟩
  obtain ⟨y0, ey0, my0⟩ := hB.at (i := lb) (by omega)
  have mem : ∀ {q : Nat} {x : Keyed}, (arrOf st)[q]? = some x → x ∈ a₀ := fun {q x} e => by
    have hq : q < a₀.size := by
      have := (Array.getElem?_eq_some_iff.mp e).1
      omega
    obtain ⟨x', e', m'⟩ := hB.at hq
    rw [e] at e'
    rw [Option.some.inj e']; exact m'
  refine wpS_bind (t_elem ey0 (wpS_bind (t_gal C BZ.kind my0 (fun q hq => ?m1) (by rw [← el]; exact Ra) (by omega) fun k eg => ?_)))
  case m1 =>
    obtain ⟨x, ex, mx⟩ := hB.at (i := la + q) (by omega)
    exact ⟨x, ex, mx⟩
  dsimp only
  have kl := eg.le
  have lowB : ∀ p, la ≤ p → p < la + k → O.le (kk key (arrOf st) p) (kk key (arrOf st) lb) := fun p h1 h2 => by
    have := eg.yes (p - la) (by omega)
    unfold pastP at this
    rw [if_neg Bool.false_ne_true, show la + (p - la) = p by omega] at this
    rw [kk_at ey0]
    show O.lt (key y0) (kk key (arrOf st) p) = false
    cases z : O.lt (key y0) (kk key (arrOf st) p) with
    | false => rfl
    | true => rw [z] at this; cases this
  by_cases z0 : ca - k = 0
  · rw [if_pos (by simpa using z0)]
    exact wpS_pure (h _ BZ rfl (OnlyA.refl _ _ _) (join_rise (by omega) Ra Rb fun p h1 h2 => lowB p h1 (by omega)))
  rw [if_neg (by simpa using z0), show la + k + (ca - k) - 1 = lb - 1 by omega]
  obtain ⟨xl, exl, mxl⟩ := hB.at (i := lb - 1) (by omega)
  refine wpS_bind (t_elem exl (wpS_bind (t_gal C BZ.kind mxl (fun q hq => ?m2) Rb (by omega) fun k2 eg2 => ?_)))
  case m2 =>
    obtain ⟨x, ex, mx⟩ := hB.at (i := lb + q) (by omega)
    exact ⟨x, ex, mx⟩
  dsimp only
  have kl2 := eg2.le
  have hiL : ∀ q, lb + k2 ≤ q → q < lb + cb → O.le (kk key (arrOf st) (lb - 1)) (kk key (arrOf st) q) := fun q h1 h2 => by
    have := eg2.no (q - lb) (by omega) (by omega)
    unfold pastP at this
    rw [if_pos rfl, show lb + (q - lb) = q by omega] at this
    rw [kk_at exl]
    exact this
  by_cases z1 : k2 = 0
  · rw [if_pos (by simpa using z1)]
    exact wpS_pure (h _ BZ rfl (OnlyA.refl _ _ _) (join_rise (by omega) Ra Rb fun p h1 h2 => Ordr.le_trans (Ra p (lb - 1) h1 (by omega) (by omega)) (hiL lb (by omega) (by omega))))
  rw [if_neg (by simpa using z1)]
  have W : Two O key a₀ ((arrOf st).extract (la + k) lb) ((arrOf st).extract lb (lb + k2)) := by
    refine ⟨fun q x e => mem (ext_at (by omega) e).2, fun q x e => mem (ext_at (by omega) e).2, up_ext (by omega) fun p q h1 h2 h3 => Ra p q (by omega) h2 h3, up_ext (by omega) fun p q h1 h2 h3 => Rb p q h1 h2 (by omega), by rw [Array.size_extract]; omega, by rw [Array.size_extract]; omega, fun x y ex ey => ?_, fun x y j ex ey => ?_⟩
    · obtain ⟨_, g1⟩ := ext_at (by omega) ex
      obtain ⟨_, g2⟩ := ext_at (by omega) ey
      rw [Nat.add_zero] at g1
      have := eg.no k (Nat.le_refl _) (by omega)
      unfold pastP at this
      rw [if_neg Bool.false_ne_true, kk_at g1] at this
      rw [show lb + 0 = lb by omega, ey0] at g2
      rw [← Option.some.inj g2]
      cases z : O.lt (key y0) (key x) with
      | true => rfl
      | false => rw [z] at this; cases this
    · rw [Array.size_extract] at ex
      obtain ⟨_, g1⟩ := ext_at (by omega) ex
      obtain ⟨l2, g2⟩ := ext_at (by omega) ey
      rw [show la + k + (min lb (arrOf st).size - (la + k) - 1) = lb - 1 by omega, exl] at g1
      have := eg2.yes j (by omega)
      unfold pastP at this
      rw [if_pos rfl, kk_at g2, Option.some.inj g1] at this
      exact this
  have cont : ∀ (r : Array Keyed) (z : SortSt), SamS (SortSt.mk' (kindOf st) (arrOf st) P (gallopOf st) (failedOf st)) z → Made O key (((arrOf st).extract (la + k) lb).toList ++ ((arrOf st).extract lb (lb + k2)).toList) r.toList → Q true (SortSt.mk' (kindOf z) (putIn (arrOf z) (la + k) r.toList.zipIdx) (pendingOf z) (gallopOf z) (failedOf z)) := fun r z SS M => by
    have ea : arrOf z = arrOf st := SS.arr
    have rl : r.toList.length = lb + k2 - (la + k) := by
      rw [M.1.length_eq, mid_list _ (by omega) (by omega), List.length_take, List.length_drop, Array.length_toList]; omega
    have pe := put_list (la + k) r.toList 0 (arrOf z) (by rw [ea, rl]; omega)
    rw [Nat.add_zero, rl, ea, show la + k + (lb + k2 - (la + k)) = lb + k2 by omega] at pe
    obtain ⟨R1, R2, R3⟩ := merge_rise (a' := putIn (arrOf st) (la + k) r.toList.zipIdx) (sa := la) (en := lb + cb) (by omega) (by omega) (by omega) (by omega) (by omega) (by omega) Ra Rb (fun p h1 h2 => lowB p h1 h2) hiL M pe
    rw [ea]
    exact h _ ⟨(Array.perm_iff_toList_perm.mpr R2).trans hB.perm, SS.kind.trans hB.kind, SS.failed.trans hB.failed⟩ SS.pend (R3.wide (by omega) (by omega)) R1
  have fz : ∀ (z : SortSt), SamS (SortSt.mk' (kindOf st) (arrOf st) P (gallopOf st) (failedOf st)) z → (failedOf z).isNone = true := fun z SS => by rw [SS.failed, show failedOf (SortSt.mk' (kindOf st) (arrOf st) P (gallopOf st) (failedOf st)) = none from hB.failed]; rfl
  split
  · refine wpS_bind (t_mgLo C BZ.kind W fun r z SS M => wpS_bind (wpS_modify (wpS_bind (wpS_get (wpS_pure ?_)))))
    rw [show (failedOf (SortSt.mk' (kindOf z) _ (pendingOf z) (gallopOf z) (failedOf z))).isNone = true from fz z SS]
    exact cont r z SS M
  · refine wpS_bind (t_mgHi C BZ.kind W fun r z SS M => wpS_bind (wpS_modify (wpS_bind (wpS_get (wpS_pure ?_)))))
    rw [show (failedOf (SortSt.mk' (kindOf z) _ (pendingOf z) (gallopOf z) (failedOf z))).isNone = true from fz z SS]
    exact cont r z SS M
end
end L2

namespace L2
open PySem PySem.Spec PyProof.Rows
/-! ### the stack of runs -/
section
variable {κ : Type} {O : Ordr κ} {key : Keyed → κ} {prog : Program} {w : World} {A : Around} {E : Value → Shared → Prop} {s : Shared} {a₀ : Array Keyed} {kd : SortKind}
inductive Stk (O : Ordr κ) (key : Keyed → κ) (x : Array Keyed) : List (Nat × Nat × Nat) → Nat → Nat → Prop
  | nil (a : Nat) : Stk O key x [] a a
  | cons {a n p b : Nat} {r : List (Nat × Nat × Nat)} : 1 ≤ n → Rise O key x a (a + n) → Stk O key x r (a + n) b → Stk O key x ((a, n, p) :: r) a b
theorem Stk.len {x : Array Keyed} {l : List (Nat × Nat × Nat)} {a b : Nat} (h : Stk O key x l a b) : a + l.length ≤ b := by
  induction h with
  | nil => simp
  | cons h1 _ _ ih => rw [List.length_cons]; omega
theorem Stk.snoc {x : Array Keyed} {l : List (Nat × Nat × Nat)} {a b n p : Nat} (h : Stk O key x l a b) (h1 : 1 ≤ n) (R : Rise O key x b (b + n)) : Stk O key x (l ++ [(b, n, p)]) a (b + n) := by
  induction h with
  | nil => exact .cons h1 R (.nil _)
  | cons g1 g2 _ ih => exact .cons g1 g2 (ih R)
theorem Stk.keep {x y : Array Keyed} {l : List (Nat × Nat × Nat)} {a b lo hi : Nat} (h : Stk O key x l a b) (g : OnlyA x y lo hi) (d : b ≤ lo ∨ hi ≤ a) : Stk O key y l a b := by
  induction h with
  | nil => exact .nil _
  | cons g1 g2 g3 ih =>
    have := g3.len
    exact .cons g1 (g2.keep g (by omega)) (ih (by omega))
theorem Stk.at {x : Array Keyed} {l : List (Nat × Nat × Nat)} {a b : Nat} (h : Stk O key x l a b) : ∀ {i u n p : Nat}, l[i]? = some (u, n, p) → 1 ≤ n ∧ a ≤ u ∧ u + n ≤ b ∧ Rise O key x u (u + n) := by
  induction h with
  | nil => intro i u n p e; simp at e
  | cons g1 g2 g3 ih =>
    intro i u n p e
    cases i with
    | zero =>
      have e := Option.some.inj e
      injection e with e1 e2
      injection e2 with e2 e3
      subst e1 e2
      exact ⟨g1, Nat.le_refl _, (by have := g3.len; omega), g2⟩
    | succ i =>
      obtain ⟨k1, k2, k3, k4⟩ := ih e
      exact ⟨k1, by omega, k3, k4⟩
theorem Stk.merge {x y : Array Keyed} {l : List (Nat × Nat × Nat)} {a b : Nat} (h : Stk O key x l a b) : ∀ {i u n p v m q : Nat}, l[i]? = some (u, n, p) → l[i + 1]? = some (v, m, q) → v = u + n ∧ (OnlyA x y u (v + m) → Rise O key y u (v + m) → Stk O key y ((l.set i (u, n + m, p)).eraseIdx (i + 1)) a b) := by
  induction h with
  | nil => intro i u n p v m q e; simp at e
  | @cons a n0 p0 b r g1 g2 g3 ih =>
    intro i u n p v m q e1 e2
    cases i with
    | zero =>
      have e := Option.some.inj e1
      injection e with e1 e3
      injection e3 with e3 e4
      subst e1 e3 e4
      cases g3 with
      | nil => simp at e2
      | @cons _ n1 p1 _ r1 k1 k2 k3 =>
        have e := Option.some.inj e2
        injection e with f1 f3
        injection f3 with f3 f4
        subst f3
        refine ⟨f1.symm, fun On R => ?_⟩
        subst f1
        have := k3.len
        show Stk O key y ((a, n0 + n1, p0) :: r1) a b
        refine .cons (by omega) (by rw [← Nat.add_assoc]; exact R) ?_
        rw [← Nat.add_assoc]
        exact k3.keep On (by omega)
    | succ i =>
      obtain ⟨j1, j2⟩ := ih e1 e2
      obtain ⟨_, k2, _, _⟩ := g3.at e1
      exact ⟨j1, fun On R => .cons g1 (g2.keep On (by omega)) (j2 On R)⟩
theorem Stk.pow {x : Array Keyed} {l : List (Nat × Nat × Nat)} {a b pw : Nat} (h : Stk O key x l a b) : ∀ i, Stk O key x (l.modify i fun q => (q.1, q.2.1, pw)) a b := by
  induction h with
  | nil => intro i; cases i <;> exact .nil _
  | cons g1 g2 g3 ih =>
    intro i
    cases i with
    | zero => exact .cons g1 g2 g3
    | succ i => exact .cons g1 g2 (ih i)
theorem t_merge (C : Cmp O key prog w A E s a₀ kd) {z : SortSt} {i lo : Nat} {Q : Bool → SortSt → Prop} (hB : Bas a₀ kd z) (S : Stk O key (arrOf z) (pendingOf z).toList 0 lo) (hl : lo ≤ a₀.size) (hi : i + 1 < (pendingOf z).size)
    (h : ∀ z', Bas a₀ kd z' → Stk O key (arrOf z') (pendingOf z').toList 0 lo → (pendingOf z').size + 1 = (pendingOf z).size → OnlyA (arrOf z) (arrOf z') 0 lo → Q true z') : wpS (model prog w) A E s (mergeAt' i) Q z := by
  have e1 : (pendingOf z)[i]? = some ((pendingOf z)[i]) := Array.getElem?_eq_getElem _
  have e2 : (pendingOf z)[i + 1]? = some ((pendingOf z)[i + 1]) := Array.getElem?_eq_getElem _
  obtain ⟨⟨u, n, p⟩, hu⟩ : ∃ q, q = (pendingOf z)[i] := ⟨_, rfl⟩
  obtain ⟨⟨v, m, q⟩, hv⟩ : ∃ q, q = (pendingOf z)[i + 1] := ⟨_, rfl⟩
  rw [← hu] at e1
  rw [← hv] at e2
  have f1 : (pendingOf z).toList[i]? = some (u, n, p) := by rw [Array.getElem?_toList]; exact e1
  have f2 : (pendingOf z).toList[i + 1]? = some (v, m, q) := by rw [Array.getElem?_toList]; exact e2
  obtain ⟨a1, a2, a3, a4⟩ := S.at f1
  obtain ⟨b1, b2, b3, b4⟩ := S.at f2
  have ev := (S.merge (y := arrOf z) f1 f2).1
  refine t_mgAt C hB e1 e2 ev a1 b1 (by omega) (by rw [ev]; exact a4) b4 fun z' B' P' On R => ?_
  have st := (S.merge (y := arrOf z') f1 f2).2 On R
  have sz : (pendingOf z').size + 1 = (pendingOf z).size := by
    rw [P']
    unfold Array.eraseIdxIfInBounds
    rw [dif_pos (by rw [Array.size_setIfInBounds]; exact hi), Array.size_eraseIdx, Array.size_setIfInBounds]; omega
  refine h z' B' ?_ sz (On.wide (by omega) (by omega))
  rw [P']
  unfold Array.eraseIdxIfInBounds
  rw [dif_pos (by rw [Array.size_setIfInBounds]; exact hi), Array.toList_eraseIdx, Array.toList_setIfInBounds]
  exact st
theorem t_runs (C : Cmp O key prog w A E s a₀ kd) {st : SortSt} {Q : Unit → SortSt → Prop} (hB : Bas a₀ kd st) (hp : pendingOf st = #[]) (h1 : 1 ≤ a₀.size)
    (h : ∀ z, Bas a₀ kd z → Rise O key (arrOf z) 0 a₀.size → Q () z) : wpS (model prog w) A E s sortRuns' Q st := by
  rw [sortRuns'_eq]
  refine wpS_bind (wpS_get ?_)
  dsimp only
  simp only [hB.size]
  generalize minRun' a₀.size a₀.size 0 = mr
  have S0 : Stk O key (arrOf st) (pendingOf st).toList 0 0 := by rw [hp]; exact .nil _
  refine wpS_bind (wpS_mono (wpS_forRange (I := fun x c z => ∃ lo, c = (none, lo) ∧ Bas a₀ kd z ∧ Stk O key (arrOf z) (pendingOf z).toList 0 lo ∧ lo ≤ a₀.size ∧ x ≤ lo) (Q := fun c z => c = (none, a₀.size) ∧ Bas a₀ kd z ∧ Stk O key (arrOf z) (pendingOf z).toList 0 a₀.size) ?one ?last ⟨0, rfl, hB, S0, Nat.zero_le _, Nat.le_refl _⟩) ?behind)
  case last =>
    rintro c z ⟨lo, rfl, B, S, l1, l2⟩
    have e : lo = a₀.size := by omega
    subst e
    exact ⟨rfl, B, S⟩
  case one =>
    rintro x c z _ hx ⟨lo, rfl, B, S, l1, l2⟩
    dsimp only
    by_cases hlo : lo ≥ a₀.size
    · rw [if_pos hlo]
      have e : lo = a₀.size := by omega
      subst e
      exact wpS_pure ⟨rfl, B, S⟩
    · rw [if_neg hlo]
      refine wpS_bind (t_count C B (by omega) (by omega) fun z1 n B1 P1 On1 n1 n2 R1 => ?_)
      dsimp only
      have S1 : Stk O key (arrOf z1) (pendingOf z1).toList 0 lo := by rw [P1]; exact S.keep On1 (.inl (Nat.le_refl _))
      by_cases hmr : n < mr
      · rw [if_pos hmr]
        refine wpS_bind (wpS_lift (wpAny_rule ⟨rfl, ?_⟩))
        refine wpS_bind (t_binary C B1 (by omega) (by omega) R1 fun z2 B2 P2 On2 R2 => ?_)
        rw [if_neg (by simp)]
        have S2 : Stk O key (arrOf z2) (pendingOf z2).toList 0 lo := by rw [P2]; exact S1.keep On2 (.inl (Nat.le_refl _))
        have m1 : 1 ≤ min (a₀.size - lo) mr := by omega
        have m2 : lo + min (a₀.size - lo) mr ≤ a₀.size := by omega
        generalize min (a₀.size - lo) mr = N at R2 m1 m2 ⊢
        refine wpS_bind (wpS_get ?_)
        cases hb : (pendingOf z2).back? with
        | none =>
          dsimp only
          refine wpS_bind (wpS_modify (wpS_pure ⟨lo + N, rfl, ⟨B2.perm, B2.kind, B2.failed⟩, ?_, m2, by omega⟩))
          show Stk O key (arrOf z2) ((pendingOf z2).push (lo, N, 0)).toList 0 (lo + N)
          rw [Array.toList_push]
          exact S2.snoc m1 R2
        | some t =>
          obtain ⟨s1, k1, q1⟩ := t
          dsimp only
          refine wpS_bind (wpS_mono (wpS_forRange (I := fun _ c z => c = (none, ()) ∧ Bas a₀ kd z ∧ Stk O key (arrOf z) (pendingOf z).toList 0 lo ∧ Rise O key (arrOf z) lo (lo + N)) (Q := fun c z => c = (none, ()) ∧ Bas a₀ kd z ∧ Stk O key (arrOf z) (pendingOf z).toList 0 lo ∧ Rise O key (arrOf z) lo (lo + N)) ?st (fun c z q => q) ⟨rfl, B2, S2, R2⟩) ?en)
          case st =>
            rintro y c z _ _ ⟨rfl, Bz, Sz, Rz⟩
            refine wpS_bind (wpS_get ?_)
            by_cases h2 : (pendingOf z).size > 1
            · rw [if_pos h2]
              cases he : (pendingOf z)[(pendingOf z).size - 2]? with
              | none => exact wpS_pure ⟨rfl, Bz, Sz, Rz⟩
              | some t =>
                obtain ⟨t1, t2, t3⟩ := t
                dsimp only
                split
                · exact wpS_pure ⟨rfl, Bz, Sz, Rz⟩
                · refine wpS_bind (t_merge C Bz Sz l1 (by omega) fun z' B' S' _ On' => ?_)
                  rw [if_neg (by simp)]
                  exact wpS_pure ⟨rfl, B', S', Rz.keep On' (.inr (Nat.le_refl _))⟩
            · rw [if_neg h2]
              exact wpS_pure ⟨rfl, Bz, Sz, Rz⟩
          case en =>
            rintro c z ⟨rfl, Bz, Sz, Rz⟩
            dsimp only
            refine wpS_bind (wpS_modify (wpS_bind (wpS_modify (wpS_pure ⟨lo + N, rfl, ⟨Bz.perm, Bz.kind, Bz.failed⟩, ?_, m2, by omega⟩))))
            show Stk O key (arrOf z) (((pendingOf z).modify _ _).push (lo, N, 0)).toList 0 (lo + N)
            rw [Array.toList_push, Array.toList_modify]
            exact (Sz.pow _).snoc m1 Rz
      · rw [if_neg hmr]
        have m2 : lo + n ≤ a₀.size := by omega
        refine wpS_bind (wpS_get ?_)
        cases hb : (pendingOf z1).back? with
        | none =>
          dsimp only
          refine wpS_bind (wpS_modify (wpS_pure ⟨lo + n, rfl, ⟨B1.perm, B1.kind, B1.failed⟩, ?_, m2, by omega⟩))
          show Stk O key (arrOf z1) ((pendingOf z1).push (lo, n, 0)).toList 0 (lo + n)
          rw [Array.toList_push]
          exact S1.snoc n1 R1
        | some t =>
          obtain ⟨s1, k1, q1⟩ := t
          dsimp only
          refine wpS_bind (wpS_mono (wpS_forRange (I := fun _ c z => c = (none, ()) ∧ Bas a₀ kd z ∧ Stk O key (arrOf z) (pendingOf z).toList 0 lo ∧ Rise O key (arrOf z) lo (lo + n)) (Q := fun c z => c = (none, ()) ∧ Bas a₀ kd z ∧ Stk O key (arrOf z) (pendingOf z).toList 0 lo ∧ Rise O key (arrOf z) lo (lo + n)) ?st (fun c z q => q) ⟨rfl, B1, S1, R1⟩) ?en)
          case st =>
            rintro y c z _ _ ⟨rfl, Bz, Sz, Rz⟩
            refine wpS_bind (wpS_get ?_)
            by_cases h2 : (pendingOf z).size > 1
            · rw [if_pos h2]
              cases he : (pendingOf z)[(pendingOf z).size - 2]? with
              | none => exact wpS_pure ⟨rfl, Bz, Sz, Rz⟩
              | some t =>
                obtain ⟨t1, t2, t3⟩ := t
                dsimp only
                split
                · exact wpS_pure ⟨rfl, Bz, Sz, Rz⟩
                · refine wpS_bind (t_merge C Bz Sz l1 (by omega) fun z' B' S' _ On' => ?_)
                  rw [if_neg (by simp)]
                  exact wpS_pure ⟨rfl, B', S', Rz.keep On' (.inr (Nat.le_refl _))⟩
            · rw [if_neg h2]
              exact wpS_pure ⟨rfl, Bz, Sz, Rz⟩
          case en =>
            rintro c z ⟨rfl, Bz, Sz, Rz⟩
            dsimp only
            refine wpS_bind (wpS_modify (wpS_bind (wpS_modify (wpS_pure ⟨lo + n, rfl, ⟨Bz.perm, Bz.kind, Bz.failed⟩, ?_, m2, by omega⟩))))
            show Stk O key (arrOf z) (((pendingOf z).modify _ _).push (lo, n, 0)).toList 0 (lo + n)
            rw [Array.toList_push, Array.toList_modify]
            exact (Sz.pow _).snoc n1 Rz
  case behind =>
    rintro c z ⟨rfl, B, S⟩
    dsimp only
    refine wpS_bind (wpS_mono (wpS_forRange (I := fun x c z => c = (none, ()) ∧ Bas a₀ kd z ∧ Stk O key (arrOf z) (pendingOf z).toList 0 a₀.size ∧ ((pendingOf z).size ≤ 1 ∨ (pendingOf z).size + x ≤ a₀.size)) (Q := fun c z => c = (none, ()) ∧ Bas a₀ kd z ∧ Stk O key (arrOf z) (pendingOf z).toList 0 a₀.size ∧ (pendingOf z).size ≤ 1) ?go ?stop ⟨rfl, B, S, .inr (by have := S.len; rw [Array.length_toList] at this; omega)⟩) ?fin)
    case stop =>
      rintro c z ⟨rfl, B, S, o⟩
      exact ⟨rfl, B, S, by omega⟩
    case go =>
      rintro x c z _ hx ⟨rfl, B, S, o⟩
      refine wpS_bind (wpS_get ?_)
      by_cases h2 : (pendingOf z).size ≤ 1
      · rw [if_pos h2]
        exact wpS_pure ⟨rfl, B, S, h2⟩
      · rw [if_neg h2]
        have hi : ∀ b : Bool, (if b = true then (pendingOf z).size - 2 - 1 else (pendingOf z).size - 2) + 1 < (pendingOf z).size := fun b => by
          cases b
          · rw [if_neg Bool.false_ne_true]; omega
          · rw [if_pos rfl]; omega
        refine wpS_bind (t_merge C B S (Nat.le_refl _) (hi _) fun z' B' S' sz' _ => ?_)
        rw [if_neg (by simp)]
        exact wpS_pure ⟨rfl, B', S', by omega⟩
    case fin =>
      rintro c z ⟨rfl, B, S, o⟩
      refine wpS_pure (h z B ?_)
      rw [← Array.length_toList] at o
      cases hl : (pendingOf z).toList with
      | nil =>
        rw [hl] at S
        generalize e : a₀.size = m at S h1
        cases S
        omega
      | cons q r =>
        rw [hl] at S o
        have hr : r = [] := by
          cases r with
          | nil => rfl
          | cons _ _ => simp at o
        subst hr
        obtain ⟨u, n, p⟩ := q
        generalize e : a₀.size = m at S ⊢
        cases S with
        | cons g1 g2 g3 =>
          cases g3
          exact g2
end
end L2

namespace L2
open PySem PySem.Spec PyProof.Rows
/-! ### sorted of numbers, in any order, of any length -/
def ordI : Ordr Int := ⟨fun a b => decide (a < b), fun a => decide_eq_false (Int.lt_irrefl a), fun a b c h1 h2 => decide_eq_true (Int.lt_trans (of_decide_eq_true h1) (of_decide_eq_true h2)), fun a b c h => by
  have := of_decide_eq_true h
  by_cases z : a < b
  · exact .inl (decide_eq_true z)
  · exact .inr (decide_eq_true (by omega))⟩
def keyI (k : Keyed) : Int := numOf k.1
section
variable {prog : Program} {w : World} {A : Around} {E : Value → Shared → Prop} {s : Shared}
theorem cmpI {a₀ : Array Keyed} (h0 : IntKeys a₀) : Cmp ordI keyI prog w A E s a₀ oneType' := by
  intro x y hx hy st Q hk q
  obtain ⟨a, t, ex⟩ := h0 x (Array.mem_toList_iff.mpr hx)
  obtain ⟨b, u, ey⟩ := h0 y (Array.mem_toList_iff.mpr hy)
  obtain ⟨x1, x2⟩ := x
  obtain ⟨y1, y2⟩ := y
  dsimp only at ex ey
  subst ex ey
  rw [lt'_eq]
  refine wpS_bind (wpS_get ?_)
  rw [hk, keyLt'_oneType]
  refine wpS_bind (wpS_lift (wpAny_attempt (oneLt_int ⟨rfl, ?_⟩)))
  exact wpS_pure q
theorem i_sort {a : Addr} {vs : List Value} {ns : List Int} {n : Nat} {P : Fin → Shared → Prop} (ho : s.heap.get? a = some (seqObj "list" vs.toArray n)) (hI : IntsAre vs ns) (hle : vs.length ≤ 1000)
    (h : ∀ ws ms, IntsAre ws ms → ms.Perm ns → ms.Pairwise (· ≤ ·) → P (.done (.ret .none)) { s with heap := sortedHeap s.heap a vs ws.toArray }) : wpAny (model prog w) A (Builtin.«list.sort» ⟨[.ref a], []⟩) P E s := by
  rw [list_sort_plain]
  refine wpAny_bind (listItems_at ho rfl (wpAny_bind (listUpdate_at ho rfl ?_)))
  obtain ⟨e1, ho1⟩ : ∃ e1, (s.heap.update a (Obj.mapSeq fun _ => #[])).get? a = some (seqObj "list" #[] e1) := ⟨_, get?_update_seq ho (fun _ => #[])⟩
  refine wpAny_bind (seqEpoch_at ho1 rfl (wpAny_bind (wpAny_newTuple (wpAny_bind (wpAny_newList (wpAny_holding ?_))))))
  have ho6 : (((s.heap.update a (Obj.mapSeq fun _ => #[])).push (seqObj "tuple" vs.toArray 0)).push (seqObj "list" #[] 0)).get? a = some (seqObj "list" #[] e1) := Heap.get?_push_of_some _ (Heap.get?_push_of_some _ ho1)
  show wpAny (model prog w) A _ P E { s with heap := ((s.heap.update a (Obj.mapSeq fun _ => #[])).push (seqObj "tuple" vs.toArray 0)).push (seqObj "list" #[] 0) }
  dsimp only
  have hsl : vs.length ≤ sizeLine := Nat.le_trans hle (by decide)
  by_cases h2 : vs.toArray.size < 2
  · rw [if_pos h2, if_pos h2]
    refine wpAny_bind (wpAny_pure ?_)
    rw [StateT.run_pure]
    refine wpAny_bind (wpAny_pure ?_)
    dsimp only
    refine wpAny_bind (seqEpoch_at ho6 rfl (wpAny_bind (listUpdate_at ho6 rfl ?_ (hsz2 := by rw [Array.size_map]; show (pairsOf vs).size ≤ _; rw [pairsOf_size]; omega))))
    simp only [bne_self_eq_false, Bool.false_eq_true, if_false]
    have := out_pairs vs
    unfold pairsOf at this
    refine wpAny_pure ?_
    rw [this]
    refine h vs ns hI (List.Perm.refl _) ?_
    have hl := hI.length
    have : ns.length < 2 := by rw [← hl]; simpa using h2
    match ns, this with
    | [], _ => exact List.Pairwise.nil
    | [x], _ => exact List.pairwise_singleton _ _
  · rw [if_neg h2, if_neg h2]
    obtain ⟨v₁, v₂, rest, rfl⟩ : ∃ v₁ v₂ rest, vs = v₁ :: v₂ :: rest := by
      match vs, h2 with
      | [], h2 => simp at h2
      | [_], h2 => simp at h2
      | v₁ :: v₂ :: rest, _ => exact ⟨v₁, v₂, rest, rfl⟩
    rw [keyKind_ints hI]
    refine wpAny_bind (wpAny_pure (wpAny_bind (wpAny_mono (t_runs (cmpI hI.intKeys) (a₀ := pairsOf (v₁ :: v₂ :: rest)) (kd := oneType') (st := SortSt.mk' oneType' ((v₁ :: v₂ :: rest).toArray.zip (v₁ :: v₂ :: rest).toArray) #[] 7 none) (Q := fun _ z => (arrOf z).Perm (pairsOf (v₁ :: v₂ :: rest)) ∧ failedOf z = none ∧ Rise ordI keyI (arrOf z) 0 (pairsOf (v₁ :: v₂ :: rest)).size) ⟨Array.Perm.refl _, rfl, rfl⟩ rfl (by rw [pairsOf_size]; simp) fun z B R => ⟨B.perm, B.failed, R⟩) ?_ fun _ _ e => e)))
    rintro ⟨⟨⟩, z⟩ s' ⟨rfl, pm, hf, R⟩
    dsimp only
    have pm2 : ((arrOf z).map (·.2)).toList.Perm (v₁ :: v₂ :: rest) := by
      have := (Array.perm_iff_toList_perm.mp pm).map (·.2)
      rw [← Array.toList_map, ← Array.toList_map, out_pairs] at this
      exact this
    have sz : (arrOf z).size = (v₁ :: v₂ :: rest).length := by rw [pm.size_eq, pairsOf_size]
    refine wpAny_bind (seqEpoch_at ho6 rfl (wpAny_bind (listUpdate_at ho6 rfl ?_ (hsz2 := by rw [Array.size_map, sz]; simp at hsl ⊢; omega))))
    rw [hf]
    simp only [bne_self_eq_false, Bool.false_eq_true, if_false]
    refine wpAny_pure ?_
    have hv : ∀ v ∈ ((arrOf z).map (·.2)).toList, ∃ n t, v = Value.int n t := fun v hv => hI.all v (pm2.mem_iff.mp hv)
    have hW := intsAre_map _ hv
    have := h _ _ hW (by rw [← hI.nums]; exact pm2.map numOf) ?_
    · exact this
    · have both : ∀ k ∈ (arrOf z).toList, k.1 = k.2 := fun k hk => by
        have hk' := (Array.perm_iff_toList_perm.mp pm).mem_iff.mp hk
        rw [pairsOf_toList] at hk'
        obtain ⟨i, hi⟩ := List.mem_iff_getElem?.mp hk'
        rw [List.getElem?_zip_eq_some] at hi
        exact Option.some.inj (hi.1.symm.trans hi.2)
      rw [Array.toList_map, List.map_map]
      refine List.pairwise_map.mpr (List.pairwise_iff_getElem.mpr fun i j h1 h3 h4 => ?_)
      rw [Array.length_toList] at h1 h3
      have r := R i j (Nat.zero_le _) (by omega) (by rw [pairsOf_size, ← sz]; exact h3)
      rw [kk_at (at_lt h1), kk_at (at_lt h3)] at r
      have b1 := both (arrOf z)[i] (by rw [← Array.getElem_toList]; exact List.getElem_mem _)
      have b2 := both (arrOf z)[j] (by rw [← Array.getElem_toList]; exact List.getElem_mem _)
      have r' : decide (numOf (arrOf z)[j].1 < numOf (arrOf z)[i].1) = false := r
      rw [b1, b2] at r'
      have := of_decide_eq_false r'
      simp only [Function.comp, Array.getElem_toList]
      omega
theorem i_sorted {l : Addr} {vs : List Value} {ns : List Int} {Q : Value → Shared → Prop} (hl : s.heap.IsList l vs.toArray) (hI : IntsAre vs ns) (hle : vs.length ≤ 1000) (h : ∀ ws ms, IntsAre ws ms → ms.Perm ns → ms.Pairwise (· ≤ ·) → Q (.ref (s.heap.objs.size + 1)) { s with heap := sortedAll s.heap vs ws.toArray }) :
    wpAny (model prog w) A (call (.builtin "sorted") [.ref l]) Q E s := by
  have hsl : vs.length ≤ sizeLine := Nat.le_trans hle (by decide)
  refine Calls.call_function_entry kind_sorted plain_sorted entry_sorted (args_sorted1 _) ?_
  unfold Builtin.«sorted»
  refine wpAny_bind (m := checkCount "sorted" 1 1 _) (wpAny_pure ?_)
  refine wpAny_bind (collect_list hl ?_ hsl)
  refine wpAny_bind (wpAny_newList ?_ hsl)
  have sz1 : ((s.heap.push (seqObj "list" #[] 0)).update s.heap.objs.size (Obj.mapSeq (· ++ vs.toArray))).objs.size = s.heap.objs.size + 1 := by rw [Heap.size_update, size_push']
  have at1 : (((s.heap.push (seqObj "list" #[] 0)).update s.heap.objs.size (Obj.mapSeq (· ++ vs.toArray))).push (seqObj "list" vs.toArray 0)).get? (s.heap.objs.size + 1) = some (seqObj "list" vs.toArray 0) := by
    rw [← sz1]; exact Heap.get?_push_size _ rfl
  show wpAny _ _ _ _ _ { s with heap := ((s.heap.push (seqObj "list" #[] 0)).update s.heap.objs.size (Obj.mapSeq (· ++ vs.toArray))).push (seqObj "list" vs.toArray 0) }
  rw [sz1]
  refine wpAny_bind (wpAny_holding (wpAny_call_entry slot_list_sort ⟨_, at1, rfl⟩ entry_list_sort (i_sort at1 hI hle fun ws ms h1 h2 h3 => ⟨_, rfl, ?_⟩) (args_list_sort _)))
  exact wpAny_pure ⟨_, rfl, h ws ms h1 h2 h3⟩
end
section
variable {X : Cx} {e : Expr} {te : TE} {p pos : Pos}
/-- sorted(a list of numbers) -/
def tSortI (te : TE) : TE := fun σ H Q => te σ H fun x H1 => ∃ (l : Addr) (ns : List Int), x = .ref l ∧ H1 l = some (.lst (ns.map V.int)) ∧ ns.length ≤ 1000 ∧ ∀ (r : Addr) (ms : List Int), ms.Perm ns → ms.Pairwise (· ≤ ·) → H1 r = none → Q (.ref r) (upd H1 r (.lst (ms.map V.int)))
theorem pe_sortI (hc : X.calm = true) (hm : X.mg "sorted" = none) (ha : PE X e te) (hg : Gl X "sorted" := by rfl) (he : starEach [e] X.env = [(false, eval e X.env)] := by rfl) : PE X (.Call (.Name "sorted" p) [e] [] pos) (tSortI te) :=
  pe_callB (r := r1 fun x H1 Q => ∃ (l : Addr) (ns : List Int), x = .ref l ∧ H1 l = some (.lst (ns.map V.int)) ∧ ns.length ≤ 1000 ∧ ∀ (r : Addr) (ms : List Int), ms.Perm ns → ms.Pairwise (· ≤ ·) → H1 r = none → Q (.ref r) (upd H1 r (.lst (ms.map V.int))))
    (callR1 fun pins s σ H x us Q I rv ⟨l, ns, ex, hH, hn, q⟩ => by
      subst ex
      obtain ⟨u, rfl, ru⟩ := rv.one
      cases ru
      obtain ⟨z, its, m, r, hz, e1⟩ := I.lstM hH
      have hI := ints_are r
      have hL : s.heap.IsList l its.toArray := ⟨_, e1, rfl, m, rfl⟩
      refine i_sorted hL hI (by rw [hI.length]; exact hn) fun ws ms h1 h2 h3 => ?_
      obtain ⟨ep, at2⟩ := sortedAll_at s.heap its ws.toArray
      have hk : ∀ b o, s.heap.get? b = some o → (sortedAll s.heap its ws.toArray).get? b = some o := fun b o e => sortedAll_old e
      exact ⟨.ref (s.heap.objs.size + 1), _, I.laid (a := s.heap.objs.size + 1) (o := .lst (ms.map V.int)) (t' := s.toks) hk (Nat.le_succ _) ⟨by rw [List.length_map, h2.length_eq]; exact Nat.le_trans hn (by decide), ws, ep, vals_up h1, at2⟩, rfl, q _ ms h2 h3 (I.hok.fresh (Nat.le_succ _))⟩)
    hg hm bt_sorted (pa_cons ha pa_nil (by exact he)) (he := by exact he)
end
end L2

namespace L2
open PySem PySem.Spec PyProof.Rows
/-! ### sum(a list of lists, []) -/
theorem args_sum2 (a b : Value) : argsOk "sum" ⟨[a, b], []⟩ := by unfold argsOk; kernel_rfl
def flatV' (L : Nat → List Value) (i : Nat) : List Value := (List.range i).flatMap L
theorem flatV'_succ (L : Nat → List Value) (i : Nat) : flatV' L (i + 1) = flatV' L i ++ L i := by
  unfold flatV'
  rw [List.range_succ, List.flatMap_append]; simp
theorem flatV'_le (L : Nat → List Value) {i : Nat} : ∀ d, (flatV' L i).length ≤ (flatV' L (i + d)).length
  | 0 => Nat.le_refl _
  | d + 1 => Nat.le_trans (flatV'_le L d) (by rw [← Nat.add_assoc, flatV'_succ, List.length_append]; omega)
section
variable {prog : Program} {w : World} {A : Around} {R : Result → Shared → Prop} {I S ax : Addr} {items : Array Value} {L : Nat → List Value}
theorem sumLL_loop (hh : A.in1.handled = none) (nS : S ≠ I) (nax : ax ≠ I) (naS : ax ≠ S) (hz : (flatV' L items.size).length ≤ sizeLine) :
    ∀ (k i : Nat) (s : Shared) (q c m : Nat), items.size - i = k → i ≤ items.size → s.heap.IsListIter I ax i → s.heap.IsList ax items → q ≠ I → q ≠ S →
    (∀ j v, items[j]? = some v → ∃ b n, v = .ref b ∧ b ≠ I ∧ b ≠ S ∧ IsL s.heap b (L j).toArray n) → IsL s.heap S #[.ref q] c → IsL s.heap q (flatV' L i).toArray m →
    (∀ h' q' m', (∀ b o, b ≠ I → b ≠ S → s.heap.get? b = some o → h'.get? b = some o) → IsL h' q' (flatV' L items.size).toArray m' → (i < items.size → s.heap.objs.size ≤ q') → (i = items.size → q' = q) → R (.ok (.ret (.ref q'))) { s with heap := h' }) →
    codeAny (model prog w) A (.builtin "sum.loop" ⟨[.ref I, .ref S, rawInt 2, rawInt 0], []⟩) R s := by
  intro k
  induction k with
  | zero =>
    intro i s q c m hk hi hit hl nqI nqS hin hS hq hR
    have hin' : i = items.size := by omega
    subst hin'
    refine codeAny_builtin F.entry_sum_loop ?_; rw [Around.under_plainId F.plain_sum_loop _]; show wpAny _ A.in1 (seqItems? (.ref S) >>= _) _ _ s; refine wpAny_bind (wpAny_seqItems hS rfl ?_); show wpAny _ A.in1 (tryCatch (pyNext (.ref I)) _ >>= _) _ _ s
    refine wpAny_bind (wpAny_tryCatch (wpAny_pyNext_list_end hh hit hl (by simp) fun h' he => ?_))
    exact wpAny_pure (hR h' q m (fun b o h1 h2 e => he b o h1 e) (he q _ nqI hq) (fun z => absurd z (Nat.lt_irrefl _)) fun _ => rfl)
  | succ k ih =>
    intro i s q c m hk hi hit hl nqI nqS hin hS hq hR
    have hlt : i < items.size := (by omega : i < items.size)
    refine codeAny_builtin F.entry_sum_loop ?_; rw [Around.under_plainId F.plain_sum_loop _]; show wpAny _ A.in1 (seqItems? (.ref S) >>= _) _ _ s; refine wpAny_bind (wpAny_seqItems hS rfl ?_); show wpAny _ A.in1 (tryCatch (pyNext (.ref I)) _ >>= _) _ _ s
    have ev : items[i]? = some items[i] := by simp [hlt]
    obtain ⟨b, n, eb, nbI, nbS, hb⟩ := hin i _ ev
    refine wpAny_bind (wpAny_tryCatch (wpAny_pyNext_list_item hit hl ev fun h' hit' hs' => ?_))
    have hS' := hs'.extBut S _ nS hS
    have hq' := hs'.extBut q _ nqI hq
    have hb' := hs'.extBut b _ nbI hb
    rw [eb]
    show wpAny _ A.in1 ((holding [Value.ref b] (binaryOp .Add (.ref q) (.ref b))).attempt >>= _) _ _ _
    have hlen : (flatV' L i).length + (L i).length ≤ sizeLine := by
      have := flatV'_le L (i := i + 1) (items.size - (i + 1))
      rw [show i + 1 + (items.size - (i + 1)) = items.size by omega, flatV'_succ, List.length_append] at this
      omega
    refine wpAny_bind (wpAny_attempt (wpAny_holding (PySem.P.add_list (s := { s with heap := h' }) hq' hb' ?_ (by simpa using hlen))))
    have ea : (flatV' L i).toArray ++ (L i).toArray = (flatV' L (i + 1)).toArray := by rw [flatV'_succ]; simp
    rw [ea]
    have hsz : h'.objs.size = s.heap.objs.size := hs'.1
    have keep : ∀ b o, h'.get? b = some o → (h'.push { cls := .type "list", data := .seq (flatV' L (i + 1)).toArray }).get? b = some o := fun b o e => Heap.get?_push_of_some _ e
    have hS2 := keep S _ hS'
    have hp := Heap.get?_push_size h' (o := { cls := .type "list", data := .seq (flatV' L (i + 1)).toArray }) rfl
    have ltS : S < h'.objs.size := Heap.lt_size hS'
    have ltI : I < h'.objs.size := by obtain ⟨o, ho, _⟩ := id hit'; exact Heap.lt_size ho
    have n1 : h'.objs.size ≠ S := Nat.ne_of_gt ltS
    have n2 : h'.objs.size ≠ I := Nat.ne_of_gt ltI
    show wpAny _ A.in1 (updateSeq S (fun _ => #[.ref h'.objs.size]) >>= _) _ _ _
    refine wpAny_bind ?_
    refine wpAny_updateSeq hS2 rfl ?_
    have hS3 := Heap.get?_update_self (Obj.mapSeq fun _ => #[Value.ref h'.objs.size]) hS2 rfl; refine wpAny_bind (wpAny_letGo ?_)
    refine wpAny_bind ?_
    have oth : ∀ b o, b ≠ S → (h'.push { cls := .type "list", data := .seq (flatV' L (i + 1)).toArray }).get? b = some o → (((h'.push { cls := .type "list", data := .seq (flatV' L (i + 1)).toArray }).update S (Obj.mapSeq fun _ => #[Value.ref h'.objs.size])).update S (Obj.mapSeq fun _ => #[Value.ref h'.objs.size])).get? b = some o := fun b o hb e =>
      (Heap.get?_update_other _ _ (Ne.symm hb)).trans ((Heap.get?_update_other _ _ (Ne.symm hb)).trans e)
    refine wpAny_updateSeq hS3 rfl (wpAny_pure ⟨plainId_quiet F.plain_sum_loop _, ih (i + 1) _ h'.objs.size _ 0 (by omega) hlt ?_ ?_ n2 n1 ?_ (Heap.get?_update_self _ hS3 rfl) (oth _ _ n1 hp) fun h'' q'' m'' hk'' hq'' hf'' hg'' => ?_⟩)
    · exact hit'.at fun o e => oth I o nS.symm (keep I o e)
    · exact (hl.extBut hs'.extBut nax).at fun o e => oth ax o naS (keep ax o e)
    · intro j v hv
      obtain ⟨b2, n2', e1, e2, e3, e4⟩ := hin j v hv
      exact ⟨b2, n2', e1, e2, e3, oth _ _ e3 (keep _ _ (hs'.extBut b2 _ e2 e4))⟩
    · refine hR h'' q'' m'' (fun b o h1 h2 e => hk'' b o h1 h2 (oth b o h2 (keep b o (hs'.extBut b o h1 e)))) hq'' (fun _ => ?_) fun z => absurd z (Nat.ne_of_lt hlt)
      by_cases z : i + 1 < items.size
      · have := hf'' z
        simp only [Heap.size_update, Heap.size_push] at this
        omega
      · rw [hg'' (by omega), hsz]
        exact Nat.le_refl _
theorem call_sumLL {E : Value → Shared → Prop} {s : Shared} {Q : Value → Shared → Prop} {q : Addr} {n0 : Nat} (hh : A.in1.handled = none) (hax : s.heap.IsList ax items) (h1 : 1 ≤ items.size) (hq : IsL s.heap q #[] n0) (hin : ∀ j v, items[j]? = some v → ∃ b n, v = .ref b ∧ IsL s.heap b (L j).toArray n) (hz : (flatV' L items.size).length ≤ sizeLine)
    (hQ : ∀ h' q' m', (∀ b o, s.heap.get? b = some o → h'.get? b = some o) → IsL h' q' (flatV' L items.size).toArray m' → s.heap.objs.size ≤ q' → Q (.ref q') { s with heap := h' }) :
    wpAny (model prog w) A (call (.builtin "sum") [.ref ax, .ref q]) Q E s := by
  refine call_function_tree F.kind_sum F.plain_sum F.entry_sum (args_sum2 _ _) ?_
  unfold Builtin.«sum»; simp only [List.length_cons, List.length_nil]
  rw [if_neg (by decide)]
  refine wpAny_bind (wpAny_of_eq (show Builtin.Builtins.bindParams "sum" ["start"] 0 ⟨[Value.ref q], []⟩ = pure [some (.ref q)] from rfl) ?_)
  refine wpAny_bind (wpAny_pyIter_list hax ?_)
  have keep : ∀ b o, s.heap.get? b = some o → (s.heap.push { cls := .type "list_iterator", data := .fields #[.ref ax, .int 0 0] }).get? b = some o := fun b o e => Heap.get?_push_of_some _ e
  have hq1 := keep _ _ hq; refine wpAny_bind (wpAny_pure ?_); simp only [List.forIn_cons, List.forIn_nil]
  have ty : ∀ s' : Shared, s'.heap.get? q = some { cls := .type "list", dict := none, data := .seq #[] n0, slots := #[] } → s'.TypeIs (.ref q) "list" := fun s' e => ⟨_, e, rfl⟩
  refine wpAny_bind (wpAny_bind (wpAny_bind (wpAny_isInstance (T := "list") (b := false) (ty _ hq1) F.sub_list_str ?_))); simp only [Bool.false_eq_true, if_false]
  refine wpAny_pure (wpAny_bind (wpAny_bind (wpAny_isInstance (T := "list") (b := false) (ty _ hq1) F.sub_list_bytes ?_))); simp only [Bool.false_eq_true, if_false]
  refine wpAny_pure (wpAny_bind (wpAny_bind (wpAny_isInstance (T := "list") (b := false) (ty _ hq1) F.sub_list_bytearray ?_))); simp only [Bool.false_eq_true, if_false]; refine wpAny_pure (wpAny_pure ?_); refine wpAny_bind (wpAny_newObj_type ?_)
  have hI0 : (s.heap.push { cls := .type "list_iterator", data := .fields #[.ref ax, .int 0 0] }).get? s.heap.objs.size = some { cls := .type "list_iterator", data := .fields #[.ref ax, .int 0 0] } := Heap.get?_push_size _ rfl
  have sz1 : (s.heap.push { cls := .type "list_iterator", data := .fields #[.ref ax, .int 0 0] }).objs.size = s.heap.objs.size + 1 := Heap.size_push ..
  have ltq : q < s.heap.objs.size := Heap.lt_size hq
  have lta : ax < s.heap.objs.size := by obtain ⟨o, ho, _⟩ := id hax; exact Heap.lt_size ho
  generalize hh1 : s.heap.push { cls := .type "list_iterator", data := .fields #[.ref ax, .int 0 0] } = g1 at *
  have keep2 : ∀ b o, g1.get? b = some o → (g1.push { cls := .type "list", data := .seq #[.ref q] }).get? b = some o := fun b o e => Heap.get?_push_of_some _ e
  have ne1 : ∀ b : Addr, b < s.heap.objs.size → b ≠ s.heap.objs.size := fun b h => Nat.ne_of_lt h
  have ne2 : ∀ b : Addr, b < s.heap.objs.size → b ≠ g1.objs.size := fun b h => Nat.ne_of_lt (by rw [sz1]; exact Nat.lt_succ_of_lt h)
  have ne3 : g1.objs.size ≠ s.heap.objs.size := by rw [sz1]; exact Nat.succ_ne_self _
  refine wpAny_pure ⟨plainId_quiet F.plain_sum_loop _, sumLL_loop (I := s.heap.objs.size) (S := g1.objs.size) (ax := ax) (items := items) (L := L) hh ne3 (ne1 _ lta) (ne2 _ lta) hz items.size 0 _ q 0 n0 (by omega) (Nat.zero_le _) ⟨_, keep2 _ _ hI0, rfl, rfl⟩ ?_ (ne1 _ ltq) (ne2 _ ltq) ?_ (Heap.get?_push_size _ rfl) (keep2 _ _ hq1) fun h' q' m' hk hq' hf _ => ?_⟩
  · obtain ⟨o, ho, h2⟩ := hax
    exact ⟨o, keep2 _ _ (keep _ _ ho), h2⟩
  · intro j v hv
    obtain ⟨b, n, e1, e2⟩ := hin j v hv
    have := Heap.lt_size e2
    exact ⟨b, n, e1, ne1 _ this, ne2 _ this, keep2 _ _ (keep _ _ e2)⟩
  · refine hQ h' q' m' (fun b o e => ?_) hq' ?_
    · have := Heap.lt_size e
      exact hk b o (ne1 _ this) (ne2 _ this) (keep2 _ _ (keep _ _ e))
    · have := hf (by omega)
      simp only [Heap.size_push, sz1] at this
      omega
end
section
variable {X : Cx} {e e2 : Expr} {te te2 : TE} {p pos : Pos}
/-- sum(rows, []), the rows lists of numbers -/
def rSumLL : List V → Hp → VK → Prop := r2' fun x y H Q => ∃ (a q : Addr) (cs : List Addr) (f : Nat → List Nat), x = .ref a ∧ y = .ref q ∧ H a = some (.lst (cs.map V.ref)) ∧ 1 ≤ cs.length ∧ H q = some (.lst []) ∧ (∀ i c, cs[i]? = some c → H c = some (.lst ((f i).map fun (k : Nat) => V.int (k : Int)))) ∧ ((List.range cs.length).flatMap f).length ≤ 1000 ∧
  ∀ r, H r = none → Q (.ref r) (upd H r (.lst (((List.range cs.length).flatMap f).map fun (k : Nat) => V.int (k : Int))))
def tSumLL (te te2 : TE) : TE := fun σ H Q => te σ H fun x H1 => te2 σ H1 fun y H2 => rSumLL [x, y] H2 Q
theorem vals_flat {f : Nat → List V} {L : Nat → List Value} : ∀ n, (∀ i, i < n → Vals (f i) (L i)) → Vals ((List.range n).flatMap f) (flatV' L n)
  | 0, _ => by simp [flatV']; exact .nil
  | n + 1, h => by
    rw [flatV'_succ, List.range_succ, List.flatMap_append]
    refine (vals_flat n fun i hi => h i (by omega)).append ?_
    simpa using h n (by omega)
theorem pe_sumLL (hc : X.calm = true) (hm : X.mg "sum" = none) (ha : PE X e te) (hb : PE X e2 te2) (hg : Gl X "sum" := by rfl) (he : starEach [e, e2] X.env = [(false, eval e X.env), (false, eval e2 X.env)] := by rfl) (he2 : starEach [e2] X.env = [(false, eval e2 X.env)] := by rfl) : PE X (.Call (.Name "sum" p) [e, e2] [] pos) (tSumLL te te2) :=
  pe_callB (r := rSumLL)
    (callR2 fun pins s σ H x y us Q I rv ⟨a, q, cs, f, ex, ey, ha, h1, hq, hrow, hlen, k⟩ => by
      subst ex ey
      obtain ⟨u, v, rfl, ru, rv'⟩ := rv.two
      cases ru
      cases rv'
      obtain ⟨z, its, m, r, hz, e1⟩ := I.lstM ha
      obtain ⟨z2, its2, m2, r2, hz2, e2⟩ := I.lstM hq
      have hi2 : its2 = [] := by
        have := r2.length
        simp at this
        exact List.length_eq_zero_iff.mp (by omega)
      subst hi2
      have hil : its.length = cs.length := by rw [← hz, List.length_map]
      have hex : ∀ i, ∃ ws : List Value, i < cs.length → Vals ((f i).map fun (k : Nat) => V.int (k : Int)) ws ∧ ∃ c n, its[i]? = some (.ref c) ∧ s.heap.get? c = some { cls := .type "list", data := .seq ws.toArray n } := fun i => by
        by_cases hi : i < cs.length
        · have hc : cs[i]? = some cs[i] := by simp [hi]
          obtain ⟨_, ws, n, rw', _, ew⟩ := I.lstM (hrow i _ hc)
          obtain ⟨u, hu, ru⟩ := r.get (show (cs.map V.ref)[i]? = some (.ref cs[i]) by simp [hi])
          cases ru
          exact ⟨ws, fun _ => ⟨rw', _, n, hu, ew⟩⟩
        · exact ⟨[], fun z => absurd z hi⟩
      obtain ⟨L, hL⟩ := Classical.axiomOfChoice hex
      have hv := vals_flat (f := fun i => (f i).map fun (k : Nat) => V.int (k : Int)) (L := L) cs.length fun i hi => (hL i hi).1
      have hvl := hv.length
      have ef : ((List.range cs.length).flatMap fun i => (f i).map fun (k : Nat) => V.int (k : Int)) = ((List.range cs.length).flatMap f).map fun (k : Nat) => V.int (k : Int) := by rw [List.map_flatMap]
      rw [ef] at hv hvl
      rw [List.length_map] at hvl
      have hsz : its.toArray.size = cs.length := by simp [hil]
      refine call_sumLL (ax := a) (items := its.toArray) (L := L) (q := q) (by exact I.ok.hd hc) ⟨_, e1, rfl, m, rfl⟩ (by rw [hsz]; exact h1) e2 (fun j v hv => ?_) (by rw [hsz, ← hvl]; exact Nat.le_trans hlen (by decide)) fun h' q' m' hk hq' hf => ?_
      · have hv' : its[j]? = some v := by simpa using hv
        have hj : j < cs.length := by have := (List.getElem?_eq_some_iff.mp hv').1; omega
        obtain ⟨_, c, n, e3, e4⟩ := hL j hj
        rw [hv'] at e3
        cases e3
        exact ⟨c, n, rfl, e4⟩
      · rw [hsz] at hq'
        exact ⟨.ref q', _, I.laid (a := q') (o := .lst (((List.range cs.length).flatMap f).map fun (k : Nat) => V.int (k : Int))) (t' := s.toks) hk hf ⟨by rw [List.length_map]; exact Nat.le_trans hlen (by decide), flatV' L cs.length, m', hv, hq'⟩, rfl, k _ (I.hok.fresh hf)⟩)
    hg hm bt_sum (pa_cons ha (pa_cons hb pa_nil (by exact he2)) (by rw [he, he2])) (he := by rw [he, he2]) (hpl := by rw [he2]; rfl)
end
end L2

namespace Ov
open PySem L2
def top (i : Nat) : Stmt := PySem.Challenge.pw_overlaid_k15_whole_covers.main.body.getD i (.Pass ⟨0, 0, 0, 0⟩)
abbrev sHand : Stmt := top 32
abbrev sTake : Stmt := top 33
/-- the drawing hand -/
def Hand (H : Hp) (p : Addr) : Prop := ∃ a b : Int, H p = some (.lst [.int a, .int b]) ∧ 0 ≤ a ∧ 0 ≤ b ∧ b ≤ 2147483647
def spHand : Sp := fun vs H Q _ => ∃ c : Int, vs = [.int c] ∧ ∀ p H', H p = none → Hand H' p → Same H H' → Q (.ref p) H'
def spTake : Sp := fun vs H Q _ => ∃ (p : Addr) (many : Int), vs = [.ref p, .int many] ∧ Hand H p ∧ 1 ≤ many ∧ many < 1000000000000000000000000000000000000000000000000000000000000 ∧
  ∀ (r : Int) (H' : Hp), 0 ≤ r → r < many → Hand H' p → Keep p H H' → Q (.int r) H'
section
variable {P : Program} {w : World} {K : PySem.W.Frag} {mg : Str → Option Value} {base : Heap}
theorem scHand : FnScope ["cell"] ["cell"] (defScope sHand) := ⟨rfl, rfl, rfl, by decide +kernel, rfl, by decide +kernel, by decide +kernel⟩
theorem ok_hand (M : Md K mg) (B : Bl mg) (F : FF K "_law_hand" sHand) : Fn P w K mg base CX0 "_law_hand" 1 ["cell"] spHand := by
  refine fn_ok M F scHand (fun _ _ _ _ _ _ => us1 fun _ => rfl) (fun vs H Q E h => ?_) (fun f cdv A outer s H vs Q E hr h => ?_)
  · obtain ⟨c, rfl, _⟩ := h; rfl
  · obtain ⟨c, rfl, k⟩ := h
    refine ⟨_, pss_one (ps_ret (pe_lst (pa_cons (pe_max rfl B.max pe_int (pe_op op_sub (pv 0) (pe_op op_pow pe_int pe_int)))
      (pa_cons (pe_op op_mul (pe_op op_add (pe_op op_mod (pv 0) pe_int) pe_int) (pe_intB B.int (pe_cmpR op_ne (pv 0) (pe_op op_pow pe_int pe_int) (nomark _)))) pa_nil)))), ?_⟩
    refine ⟨_, rfl, _, _, rfl, rfl, ⟨by decide, by decide, by decide⟩, _, _, rfl, rfl, _, _, rfl, rfl, ?_⟩
    refine ⟨_, rfl, _, _, rfl, rfl, (by show (0 : Int) < 2147483629; decide), _, _, rfl, rfl, _, rfl, _, _, rfl, rfl, ⟨by decide, by decide, by decide⟩, rfl, ?_⟩
    refine ⟨_, rfl, _, _, rfl, rfl, .inr ?_, ?_⟩
    · split <;> constructor <;> decide
    · refine ⟨by show 2 ≤ sizeLine; decide, fun l hl => k l _ hl ⟨_, _, upd_same, ?_, ?_, ?_⟩ (Same.upd hl)⟩
      · split <;> omega
      · have := Int.emod_nonneg c (show (2147483629 : Int) ≠ 0 by decide)
        split <;> omega
      · have := Int.emod_lt_of_pos c (show (0 : Int) < 2147483629 by decide)
        split <;> omega
theorem scTake : FnScope ["hand", "many", "taken"] ["hand", "many"] (defScope sTake) := ⟨rfl, rfl, rfl, by decide +kernel, rfl, by decide +kernel, by decide +kernel⟩
theorem ok_take (M : Md K mg) (F : FF K "_law_take" sTake) : Fn P w K mg base CX0 "_law_take" 1 ["hand", "many"] spTake := by
  refine fn_ok M F scTake (fun _ _ _ _ _ _ => us2 fun _ _ => rfl) (fun vs H Q E h => ?_) (fun f cdv A outer s H vs Q E hr h => ?_)
  · obtain ⟨p, many, rfl, _⟩ := h; rfl
  · obtain ⟨p, many, rfl, ⟨a, b, hp, ha, hb, hb2⟩, h1, h2, k⟩ := h
    refine ⟨_, pss_cons (ps_if (pt_cmpR op_gt (pe_ix ix_list (pv 0) pe_int (fun _ _ => rfl)) pe_int (nomark _))
        (pss_cons (ps_set (i := 2) scTake.nd rfl (Or.inl rfl) (pe_op op_mod (pe_ix ix_list (pv 0) pe_int (fun _ _ => rfl)) (pv 1)))
        (pss_cons (ps_asg (pe_op op_fdivL (pe_ix ix_list (pv 0) pe_int (fun _ _ => rfl)) (pv 1)) (pg_sub (pv 0) pe_int set_list))
        (pss_one (ps_ret (pv 2))))) pss_nil)
      (pss_cons (ps_asg (pe_op op_mod (pe_op op_mul (pe_ix ix_list (pv 0) pe_int (fun _ _ => rfl)) pe_int) pe_int) (pg_sub (pv 0) pe_int set_list))
      (pss_one (ps_ret (pe_op op_mod (pe_op op_fdivL (pe_op op_pow (pe_op op_add (pe_ix ix_list (pv 0) pe_int (fun _ _ => rfl)) pe_int) pe_int) pe_int) (pv 1))))), ?_⟩
    refine ⟨_, rfl, p, _, _, _, rfl, rfl, SqL.of hp, atI_nat (j := 0) rfl, _, _, rfl, rfl, _, rfl, ?_⟩
    refine ite2 (fun hc => ?_) (fun hc => ?_)
    · have hc' : 0 < a := of_decide_eq_true hc
      refine ⟨_, rfl, p, _, _, _, rfl, rfl, SqL.of hp, atI_nat (j := 0) rfl, _, rfl, _, _, rfl, rfl, (by show 0 < many; omega), ?_⟩
      refine ⟨_, rfl, p, _, _, _, rfl, rfl, SqL.of hp, atI_nat (j := 0) rfl, _, rfl, _, _, rfl, rfl, ⟨by omega, by omega⟩, ?_⟩
      refine ⟨_, rfl, p, _, 0, 0, rfl, rfl, hp, rfl, _, rfl, ?_⟩
      refine k _ _ (Int.emod_nonneg a (by omega)) (Int.emod_lt_of_pos a (by omega)) ⟨_, _, upd_same, Int.ediv_nonneg ha (by omega), hb, hb2⟩ Keep.upd
    · refine ⟨_, rfl, p, _, _, _, rfl, rfl, SqL.of hp, atI_nat (j := 1) rfl, _, _, rfl, rfl, .inl ⟨by omega, by omega⟩, _, _, rfl, rfl, (by show (0 : Int) < 2147483647; decide), ?_⟩
      refine ⟨_, rfl, p, _, 1, 1, rfl, rfl, hp, rfl, ?_⟩
      have n1 := Int.emod_nonneg (b * 48271) (show (2147483647 : Int) ≠ 0 by decide)
      have n2 := Int.emod_lt_of_pos (b * 48271) (show (0 : Int) < 2147483647 by decide)
      refine ⟨_, rfl, p, _, _, _, rfl, rfl, SqL.of upd_same, atI_nat (j := 1) rfl, _, _, rfl, rfl, _, _, rfl, rfl, ⟨by decide, by decide, ?_⟩, _, _, rfl, rfl, ⟨by decide, by decide⟩, _, rfl, _, _, rfl, rfl, (by show 0 < many; omega), ?_⟩
      · show (b * 48271 % 2147483647 + 1).natAbs < 2 ^ 64
        omega
      · refine k _ _ (Int.emod_nonneg _ (by omega)) (Int.emod_lt_of_pos _ (by omega)) ⟨a, _, upd_same, ha, n1, by omega⟩ Keep.upd
end

end Ov

namespace Ov
open PySem L2
abbrev sLetters : Stmt := top 34
def az : List Nat := (List.range 26).map (97 + ·)
/-- the letters that are drawn from: some of a to z, each once -/
def Letters (z : Str) : Prop := ∃ fc lc : List Nat, z = ⟨fc.toArray⟩ ∧ (fc ++ lc).Perm az ∧ 2 ≤ fc.length
theorem Letters.len {z : Str} (h : Letters z) : 2 ≤ z.length ∧ z.length ≤ 26 := by
  obtain ⟨fc, lc, rfl, hp, h2⟩ := h
  have := hp.length_eq
  rw [str_len]
  simp [az] at this
  omega
theorem az_mem {c : Nat} (h : c ∈ az) : 97 ≤ c ∧ c ≤ 122 := by
  simp [az] at h
  omega
theorem Letters.mem {z : Str} (h : Letters z) : ∀ c ∈ z.cps.toList, 97 ≤ c ∧ c ≤ 122 := by
  obtain ⟨fc, lc, rfl, hp, h2⟩ := h
  intro c hc
  exact az_mem (hp.mem_iff.mp (List.mem_append_left _ (by simpa using hc)))
theorem letters_step {fc lc : List Nat} {at_ : Nat} {c : Nat} (hp : (fc ++ lc).Perm az) (hc : lc[at_]? = some c) : ((fc ++ [c]) ++ (lc.take at_ ++ lc.drop (at_ + 1))).Perm az := by
  obtain ⟨hlt, hv⟩ := List.getElem?_eq_some_iff.mp hc
  have e : lc = lc.take at_ ++ c :: lc.drop (at_ + 1) := by
    rw [← hv, ← List.drop_eq_getElem_cons hlt, List.take_append_drop]
  have p : (c :: (lc.take at_ ++ lc.drop (at_ + 1))).Perm lc := by
    have q := List.perm_middle (a := c) (l₁ := lc.take at_) (l₂ := lc.drop (at_ + 1))
    rw [← e] at q
    exact q.symm
  have q : ((fc ++ [c]) ++ (lc.take at_ ++ lc.drop (at_ + 1))).Perm (fc ++ lc) := by
    rw [List.append_assoc]
    exact List.Perm.append_left fc p
  exact q.trans hp
def spLetters : Sp := fun vs H Q _ => ∃ p : Addr, vs = [.ref p] ∧ Hand H p ∧ ∀ z H', Letters z → Hand H' p → Keep p H H' → Q (.str z) H'
section
variable {P : Program} {w : World} {K : PySem.W.Frag} {mg : Str → Option Value} {base : Heap}
theorem Hand.ne {H : Hp} {p l : Addr} (h : Hand H p) (hl : H l = none) : p ≠ l := by
  obtain ⟨a, b, e, _⟩ := h
  exact ne_of_none e hl
theorem Hand.upd {H : Hp} {p l : Addr} {o : HO} (h : Hand H p) (hl : p ≠ l) : Hand (L2.upd H l o) p := by
  obtain ⟨a, b, e, r⟩ := h
  exact ⟨a, b, by rw [upd_ne hl]; exact e, r⟩
theorem Hand.keep {H H' : Hp} {p q : Addr} (h : Hand H p) (k : Keep q H H') (hne : p ≠ q) : Hand H' p := by
  obtain ⟨a, b, e, r⟩ := h
  exact ⟨a, b, k _ _ e hne, r⟩
theorem Hand.same {H H' : Hp} {p : Addr} (h : Hand H p) (k : Same H H') : Hand H' p := by
  obtain ⟨a, b, e, r⟩ := h
  exact ⟨a, b, k _ _ e, r⟩
theorem scLetters : FnScope ["hand", "left", "found", "k", "at"] ["hand"] (defScope sLetters) := ⟨rfl, rfl, rfl, by decide +kernel, rfl, by decide +kernel, by decide +kernel⟩
theorem ok_letters (M : Md K mg) (B : Bl mg) (F : FF K "_law_letters" sLetters) (F_law_take : Fn P w K mg base CX0 "_law_take" 1 ["hand", "many"] spTake) : Fn P w K mg base CX0 "_law_letters" 2 ["hand"] spLetters := by
  refine fn_ok M F scLetters (fun _ _ _ _ _ _ => us1 fun _ => rfl) (fun vs H Q E h => ?_) (fun f cdv A outer s H vs Q E hr h => ?_)
  · obtain ⟨p, rfl, _⟩ := h; rfl
  · obtain ⟨p, rfl, hp, k⟩ := h
    refine ⟨_, (pss_cons (ps_set (i := 1) scLetters.nd rfl (by first | exact Or.inl rfl | exact Or.inr rfl) pe_str)
      (pss_cons (ps_set (i := 2) scLetters.nd rfl (by first | exact Or.inl rfl | exact Or.inr rfl) pe_str)
      (pss_cons (ps_for PassesOwn.never rfl (pi_range1 (by rfl) B.range (pa_cons (pe_ix ix_list (pe_lst (pa_cons pe_int (pa_cons pe_int (pa_cons pe_int (pa_cons pe_int pa_nil))))) (pe_fn F_law_take hr pass0 (pa_cons (pv 0) (pa_cons pe_int pa_nil))) (fun _ _ => rfl)) pa_nil)) (pg_name (i := 3) scLetters.nd rfl (by first | exact Or.inl rfl | exact Or.inr rfl))
      (pss_cons (ps_set (i := 4) scLetters.nd rfl (by first | exact Or.inl rfl | exact Or.inr rfl) (pe_fn F_law_take hr pass0 (pa_cons (pv 0) (pa_cons (pe_lenS B.len (pv 1)) pa_nil))))
      (pss_cons (ps_set (i := 2) scLetters.nd rfl (by first | exact Or.inl rfl | exact Or.inr rfl) (pe_op op_add_str (pv 2) (pe_ix ix_str (pv 1) (pv 4) (fun _ _ => rfl))))
      (pss_one (ps_set (i := 1) scLetters.nd rfl (by first | exact Or.inl rfl | exact Or.inr rfl) (pe_op op_add_str (pe_slice sl_str (pv 1) po_none (po_some (pv 4))) (pe_slice sl_str (pv 1) (po_some (pe_op op_add (pv 4) pe_int)) po_none)))))))
      (pss_one (ps_ret (pv 2)))))), ?_⟩
    refine ⟨by show 4 ≤ sizeLine; decide, fun l hl => ?_⟩
    refine ⟨_, rfl, p, 4, rfl, hp.upd (hp.ne hl), by decide, by decide, fun r H1 r0 r4 hp1 k1 => ?_⟩
    have hl1 : H1 l = some (.lst [.int 2, .int 3, .int 5, .int 26]) := k1 _ _ upd_same (hp.ne hl).symm
    obtain ⟨v, _, hv, ea⟩ := atI_ex [V.int 2, V.int 3, V.int 5, V.int 26] r r0 (by simpa using r4)
    obtain ⟨n, rfl, hn⟩ : ∃ n : Int, v = .int n ∧ 2 ≤ n ∧ n ≤ 26 := by
      simp at hv
      rcases hv with rfl | rfl | rfl | rfl
      · exact ⟨_, rfl, by decide, by decide⟩
      · exact ⟨_, rfl, by decide, by decide⟩
      · exact ⟨_, rfl, by decide, by decide⟩
      · exact ⟨_, rfl, by decide, by decide⟩
    refine ⟨l, _, r, _, rfl, rfl, SqL.of hl1, ea, n, rfl, by omega, by omega, ?_⟩
    have k01 : Keep p H H1 := (Same.upd hl).keep.trans k1
    refine for_rangeA (lo := 0) (n := n.toNat) (fun i σ H2 => ∃ (fc lc : List Nat) (v3 v4 : Option V), σ = [some (.ref p), some (.str ⟨lc.toArray⟩), some (.str ⟨fc.toArray⟩), v3, v4] ∧ (fc ++ lc).Perm az ∧ fc.length = i ∧ Hand H2 p ∧ Keep p H H2) ?_ ?_ ?_
    · exact ⟨[], az, none, none, rfl, by simp, rfl, hp1, k01⟩
    · rintro D2 i σ H2 nx2 hi ⟨fc, lc, v3, v4, rfl, perm, hfc, hp2, k2⟩
      have hlc : fc.length + lc.length = 26 := by
        have := perm.length_eq
        simpa [az] using this
      refine ⟨_, rfl, _, rfl, _, rfl, by rw [str_len]; exact Nat.le_of_lt (small1000 (by omega)), p, _, rfl, hp2, by rw [str_len]; omega, by rw [str_len]; omega, fun r H3 r0 r1 hp3 k3 => ?_⟩
      rw [str_len] at r1
      obtain ⟨c, hc, _, ec⟩ := atI_ex lc r r0 r1
      have hz : ∀ cs : List Nat, cs.length ≤ 26 → (Str.length ⟨cs.toArray⟩) ≤ sizeLine := fun cs h => by rw [str_len]; exact Nat.le_of_lt (small1000 (by omega))
      refine ⟨_, rfl, _, rfl, _, rfl, _, r, c, rfl, rfl, hz lc (by omega), by simpa using ec, _, _, rfl, rfl, ?_, ?_⟩
      · show Str.length _ + 1 ≤ sizeLine
        rw [str_len]; exact small1000 (by omega)
      · refine ⟨_, rfl, _, rfl, r, rfl, _, rfl, hz lc (by omega), _, rfl, _, rfl, _, _, rfl, rfl, r + 1, rfl, _, rfl, hz lc (by omega), _, _, rfl, rfl, ?_, ?_⟩
        · rw [cutS_eq, cutS_eq, cutL_hi _ _ r0, cutL_lo _ _ (by omega), str_len, str_len, List.length_take, List.length_drop]
          exact Nat.le_of_lt (small1000 (by omega))
        · refine nx2 _ _ ⟨fc ++ [c], lc.take r.toNat ++ lc.drop (r.toNat + 1), some (.int (0 + (i : Int))), some (.int r), ?_, letters_step perm hc, by simp [hfc], hp3, k2.trans k3⟩
          have e1 : cutS ⟨lc.toArray⟩ none (some r) ++ cutS ⟨lc.toArray⟩ (some (r + 1)) none = (⟨(lc.take r.toNat ++ lc.drop (r.toNat + 1)).toArray⟩ : Str) := by
            rw [cutS_eq, cutS_eq, cutL_hi _ _ r0, cutL_lo _ _ (by omega), str_app, show (r + 1).toNat = r.toNat + 1 by omega]
          have e2 : (⟨fc.toArray⟩ ++ ⟨#[c]⟩ : Str) = ⟨(fc ++ [c]).toArray⟩ := str_app fc [c]
          rw [← e1, ← e2]
          rfl
    · rintro σ H2 ⟨fc, lc, v3, v4, rfl, perm, hfc, hp2, k2⟩
      exact ⟨_, rfl, k _ _ ⟨fc, lc, rfl, perm, by omega⟩ hp2 k2⟩
end

end Ov

namespace Ov
open PySem L2
abbrev sSigns : Stmt := top 35
abbrev sEnds : Stmt := top 36
/-- small letters -/
def Low (t : List Nat) : Prop := ∀ c ∈ t, 97 ≤ c ∧ c ≤ 122
theorem Low.cp {t : List Nat} (h : Low t) : ∀ c ∈ t, c < 0x110000 := fun c hc => by have := h c hc; omega
theorem Low.take {t : List Nat} (h : Low t) (n : Nat) : Low (t.take n) := fun c hc => h c (List.mem_of_mem_take hc)
theorem Low.drop {t : List Nat} (h : Low t) (n : Nat) : Low (t.drop n) := fun c hc => h c (List.mem_of_mem_drop hc)
theorem Low.app {t u : List Nat} (h : Low t) (g : Low u) : Low (t ++ u) := fun c hc => (List.mem_append.mp hc).elim (h c) (g c)
theorem Low.set {t : List Nat} (h : Low t) (n c : Nat) (hc : 97 ≤ c ∧ c ≤ 122) : Low (t.set n c) := fun d hd => by
  rcases List.mem_or_eq_of_mem_set hd with q | q
  · exact h d q
  · subst q; exact hc
theorem Low.nil : Low [] := fun c hc => by cases hc
/-- signs to draw from -/
structure Alph (z : Str) : Prop where
  low : ∀ c ∈ z.cps.toList, 97 ≤ c ∧ c ≤ 122
  one : 1 ≤ z.length
  few : z.length ≤ 1000
theorem Letters.alph {z : Str} (h : Letters z) : Alph z := ⟨h.mem, by have := h.len; omega, by have := h.len; omega⟩
theorem hand_ne {H : Hp} {p a : Addr} {t : List Nat} (h : Hand H p) (ha : H a = some (.lst (t.map sg))) : a ≠ p := by
  obtain ⟨x, y, e, _⟩ := h
  refine ne_of ha e fun z => ?_
  have z' : t.map sg = [.int x, .int y] := HO.lst.inj z
  cases t with
  | nil => cases z'
  | cons c t => cases z'
theorem sz {n : Nat} (h : n ≤ 1000) : n ≤ sizeLine := Nat.le_of_lt (small1000 h)
/-- a sign of the letters at a drawn place -/
theorem alph_at {z : Str} (h : Alph z) {r : Int} (r0 : 0 ≤ r) (r1 : r < z.length) : ∃ c, atI z.cps.toList r = some c ∧ 97 ≤ c ∧ c ≤ 122 ∧ c ∈ z.cps.toList := by
  obtain ⟨c, _, hm, e⟩ := atI_ex z.cps.toList r r0 (by simpa [Str.length] using r1)
  exact ⟨c, e, (h.low c hm).1, (h.low c hm).2, hm⟩
def spSigns : Sp := fun vs H Q _ => ∃ (p : Addr) (z : Str) (n : Int), vs = [.ref p, .str z, .int n] ∧ Hand H p ∧ Alph z ∧ 0 ≤ n ∧ n ≤ 1000 ∧
  ∀ (t : List Nat) (r : Addr) (H' : Hp), H r = none → H' r = some (.lst (t.map sg)) → Low t → (∀ c ∈ t, c ∈ z.cps.toList) → t.length = n.toNat → Hand H' p → Keep p H H' → Q (.ref r) H'
def ends (t : List Nat) : List Nat := (List.range t.length).filter fun k => decide (t.take k = t.drop (t.length - k))
def vInts (ks : List Nat) : List V := (ks.map fun (k : Nat) => (k : Int)).map V.int
def spEnds : Sp := fun vs H Q _ => ∃ (a : Addr) (t : List Nat), vs = [.ref a] ∧ H a = some (.lst (t.map sg)) ∧ Low t ∧ t.length ≤ 1000 ∧
  ∀ (r : Addr) (H' : Hp), H r = none → H' r = some (.lst (vInts (ends t))) → Same H H' → Q (.ref r) H'
section
variable {P : Program} {w : World} {K : PySem.W.Frag} {mg : Str → Option Value} {base : Heap}
theorem scSigns : FnScope ["hand", "letters", "many"] ["hand", "letters", "many"] (defScope sSigns) := ⟨rfl, rfl, rfl, by decide +kernel, rfl, by decide +kernel, by decide +kernel⟩
theorem ok_signs (M : Md K mg) (B : Bl mg) (F : FF K "_law_signs" sSigns) (F_law_take : Fn P w K mg base CX0 "_law_take" 1 ["hand", "many"] spTake) : Fn P w K mg base CX0 "_law_signs" 2 ["hand", "letters", "many"] spSigns := by
  refine fn_ok M F scSigns (fun _ _ _ _ _ _ => us3 fun _ _ _ => rfl) (fun vs H Q E h => ?_) (fun f cdv A outer s H vs Q E hr h => ?_)
  · obtain ⟨p, z, n, rfl, _⟩ := h; rfl
  · obtain ⟨p, z, n, rfl, hp, hz, n0, n1, k⟩ := h
    refine ⟨_, (pss_one (ps_ret (pe_comp ["hand", "letters", "many"] rfl (pi_range1 (by rfl) B.range (pa_cons (pv 2) pa_nil)) (fun _ => by exact pif_nil) (fun _ => by exact (pe_ix ix_str (pv 1) (pe_fn F_law_take hr pass0 (pa_cons (pv 0) (pa_cons (pe_lenS B.len (pv 1)) pa_nil))) (fun _ _ => rfl)))))), ?_⟩
    refine ⟨_, rfl, n, rfl, by omega, by omega, fun D hD b => ?_⟩
    refine comp_range (lo := 0) (n := n.toNat) (fun i ys H2 => ∃ t : List Nat, ys = t.map sg ∧ Low t ∧ (∀ c ∈ t, c ∈ z.cps.toList) ∧ t.length = i ∧ Hand H2 p ∧ Keep p H H2 ∧ H2 D = some (.lst ys)) (small1000 (by omega)) ?_ ?_ ?_ ?_
    · exact ⟨[], rfl, Low.nil, (fun c hc => by cases hc), rfl, hp.upd (hp.ne hD), (Same.upd hD).keep, upd_same⟩
    · rintro i ys H2 ⟨t, rfl, _, _, rfl, _⟩
      simp
    · rintro i ys H2 hi ⟨t, rfl, lt, mt, rfl, hp2, k2, hD2⟩
      refine tNoIf_go ?_
      refine ⟨_, rfl, _, rfl, _, rfl, z, rfl, sz hz.few, p, _, rfl, hp2, by have := hz.one; omega, by have := hz.few; omega, fun r H3 r0 r1 hp3 k3 => ?_⟩
      obtain ⟨c, ec, c1, c2, hm⟩ := alph_at hz r0 r1
      have nD : D ≠ p := (hp.ne hD).symm
      refine ⟨z, r, c, rfl, rfl, sz hz.few, ec, k3 _ _ hD2 nD, t ++ [c], by simp, ?_, ?_, by simp, hp3.upd nD.symm, ?_, ?_⟩
      · exact lt.app fun d hd => by rw [List.mem_singleton.mp hd]; exact ⟨c1, c2⟩
      · intro d hd
        rcases List.mem_append.mp hd with q | q
        · exact mt d q
        · rw [List.mem_singleton.mp q]; exact hm
      · intro b o e nb
        rw [upd_ne (ne_of_none e hD)]
        exact k3 _ _ (k2 b o e nb) nb
      · exact upd_same
    · rintro ys H2 ⟨t, rfl, lt, mt, hl, hp2, k2, hD2⟩
      exact k t D H2 hD hD2 lt mt hl hp2 k2
theorem scEnds : FnScope ["text"] ["text"] (defScope sEnds) := ⟨rfl, rfl, rfl, by decide +kernel, rfl, by decide +kernel, by decide +kernel⟩
theorem ends_step {t : List Nat} {i : Nat} : ((List.range (i + 1)).filter fun k => decide (t.take k = t.drop (t.length - k))) = ((List.range i).filter fun k => decide (t.take k = t.drop (t.length - k))) ++ (if t.take i = t.drop (t.length - i) then [i] else []) := by
  rw [List.range_succ, List.filter_append]
  congr 1
  by_cases h : t.take i = t.drop (t.length - i) <;> simp [h]
theorem vInts_snoc (ks : List Nat) (i : Nat) : vInts (ks ++ [i]) = vInts ks ++ [V.int (0 + (i : Int))] := by
  simp [vInts]
theorem vInts_len (ks : List Nat) : (vInts ks).length = ks.length := by simp [vInts]
theorem filter_len {i : Nat} (p : Nat → Bool) : ((List.range i).filter p).length ≤ i := by
  have := List.length_filter_le p (List.range i)
  simpa using this
theorem ok_ends (M : Md K mg) (B : Bl mg) (F : FF K "_law_ends" sEnds) : Fn P w K mg base CX0 "_law_ends" 1 ["text"] spEnds := by
  refine fn_ok M F scEnds (fun _ _ _ _ _ _ => us1 fun _ => rfl) (fun vs H Q E h => ?_) (fun f cdv A outer s H vs Q E hr h => ?_)
  · obtain ⟨a, t, rfl, _⟩ := h; rfl
  · obtain ⟨a, t, rfl, ha, lt, hl, k⟩ := h
    refine ⟨_, (pss_one (ps_ret (pe_comp ["text"] rfl (pi_range1 (by rfl) B.range (pa_cons (pe_lenL B.len (pv 0)) pa_nil)) (fun _ => by exact (pif_one (pt_cmpR (op_eqLS (by exact hr)) (pe_slice sl_list (pv 0) po_none (po_some (pv 1))) (pe_slice sl_list (pv 0) (po_some (pe_op op_sub (pe_lenL B.len (pv 0)) (pv 1))) po_none) (nomark _)))) (fun _ => by exact (pv 1))))), ?_⟩
    refine ⟨_, rfl, a, _, rfl, SqL.of ha, _, rfl, by omega, by rw [List.length_map]; omega, fun D hD b => ?_⟩
    rw [List.length_map, Int.toNat_natCast]
    refine comp_range (lo := 0) (n := t.length) (fun i ys H2 => ys = vInts ((List.range i).filter fun k => decide (t.take k = t.drop (t.length - k))) ∧ Same H H2 ∧ H2 D = some (.lst ys)) (small1000 hl) ?_ ?_ ?_ ?_
    · exact ⟨rfl, Same.upd hD, upd_same⟩
    · rintro i ys H2 ⟨rfl, _⟩
      rw [vInts_len]; exact filter_len _
    · rintro i ys H2 hi ⟨rfl, s2, hD2⟩
      refine ⟨_, rfl, _, rfl, _, rfl, a, _, rfl, SqL.of (s2 _ _ ha), fun p1 hp1 => ?_⟩
      have s3 := s2.trans (Same.upd (o := .lst (cutV (t.map sg) none (some (0 + (i : Int))))) hp1)
      refine ⟨_, rfl, _, rfl, a, _, rfl, SqL.of (s3 _ _ ha), _, rfl, _, _, rfl, rfl, _, rfl, a, _, rfl, SqL.of (s3 _ _ ha), fun p2 hp2 => ?_⟩
      have n12 : p1 ≠ p2 := ne_of_none upd_same hp2
      refine ⟨p1, p2, t.take i, t.drop (t.length - i), rfl, rfl, SqL.of ?_, SqL.of ?_, (lt.take _).cp, (lt.drop _).cp, _, rfl, ?_⟩
      · rw [upd_ne n12, upd_same, cutV_cutL, cutL_map, cutL_hi _ _ (by omega), show (0 + (i : Int)).toNat = i by omega]
      · rw [upd_same, cutV_cutL, cutL_map, cutL_lo _ _ (by rw [List.length_map]; omega), List.length_map, show ((t.length : Int) - (0 + (i : Int))).toNat = t.length - i by omega]
      · have s4 := s3.trans (Same.upd (o := .lst (cutV (t.map sg) (some (((t.map sg).length : Int) - (0 + (i : Int)))) none)) hp2)
        have hD4 := (Same.upd (H := L2.upd H2 p1 _) (o := .lst (cutV (t.map sg) (some (((t.map sg).length : Int) - (0 + (i : Int)))) none)) hp2) _ _ ((Same.upd (o := .lst (cutV (t.map sg) none (some (0 + (i : Int))))) hp1) _ _ hD2)
        refine ite2 (fun hc => ?_) (fun hc => ?_)
        · have hc' : t.take i = t.drop (t.length - i) := by simpa using hc
          refine ⟨_, rfl, hD4, ?_, ?_, upd_same⟩
          · rw [ends_step, if_pos hc', vInts_snoc]
          · intro b o e
            rw [upd_ne (ne_of_none e hD)]
            exact s4 b o e
        · have hc' : ¬ t.take i = t.drop (t.length - i) := by simpa using hc
          refine ⟨?_, s4, hD4⟩
          rw [ends_step, if_neg hc', List.append_nil]
    · rintro ys H2 ⟨rfl, s2, hD2⟩
      exact k D H2 hD hD2 s2
end

end Ov

namespace Ov
open PySem L2
abbrev sLaid : Stmt := top 37
abbrev sText : Stmt := top 38
theorem ends_lt {t : List Nat} {k : Nat} (h : k ∈ ends t) : k < t.length := by
  simp [ends] at h; exact h.1
theorem ends_zero {t : List Nat} (h : 1 ≤ t.length) : 1 ≤ (ends t).length := by
  have : 0 ∈ ends t := by
    simp [ends]; omega
  cases e : ends t with
  | nil => rw [e] at this; cases this
  | cons _ _ => simp
theorem ends_len (t : List Nat) : (ends t).length ≤ t.length := filter_len _
theorem vInts_at {ks : List Nat} {r : Int} (r0 : 0 ≤ r) (r1 : r < ks.length) : ∃ k : Nat, k ∈ ks ∧ ks[r.toNat]? = some k ∧ atI (vInts ks) r = some (V.int (k : Int)) := by
  obtain ⟨v, hv, hm, e⟩ := atI_ex (vInts ks) r r0 (by rw [vInts_len]; exact r1)
  unfold vInts at hv
  rw [List.map_map, List.getElem?_map] at hv
  cases q : ks[r.toNat]? with
  | none => rw [q] at hv; cases hv
  | some k =>
    rw [q] at hv
    have : v = V.int (k : Int) := (Option.some.inj hv).symm
    subst this
    exact ⟨k, List.mem_of_getElem? q, rfl, e⟩
def spLaid : Sp := fun vs H Q _ => ∃ (p a : Addr) (t : List Nat) (most : Int), vs = [.ref p, .ref a, .int most] ∧ Hand H p ∧ H a = some (.lst (t.map sg)) ∧ Low t ∧ 1 ≤ t.length ∧ (t.length : Int) ≤ most ∧ most ≤ 200 ∧
  ∀ (u : List Nat) (r : Addr) (H' : Hp), H r = none → H' r = some (.lst (u.map sg)) → Low u → 1 ≤ u.length → (u.length : Int) ≤ most → Hand H' p → Keep p H H' → Q (.ref r) H'
def spText : Sp := fun vs H Q _ => ∃ (p : Addr) (z : Str), vs = [.ref p, .str z] ∧ Hand H p ∧ Alph z ∧
  ∀ (u : List Nat) (r : Addr) (H' : Hp), H r = none → H' r = some (.lst (u.map sg)) → Low u → u.length ≤ 200 → Hand H' p → Keep p H H' → Q (.ref r) H'
section
variable {P : Program} {w : World} {K : PySem.W.Frag} {mg : Str → Option Value} {base : Heap}
theorem scLaid : FnScope ["hand", "word", "most", "found", "some", "k", "at"] ["hand", "word", "most"] (defScope sLaid) := ⟨rfl, rfl, rfl, by decide +kernel, rfl, by decide +kernel, by decide +kernel⟩
theorem ok_laid (M : Md K mg) (B : Bl mg) (F : FF K "_law_laid" sLaid) (F_law_take : Fn P w K mg base CX0 "_law_take" 1 ["hand", "many"] spTake) (F_law_ends : Fn P w K mg base CX0 "_law_ends" 1 ["text"] spEnds) : Fn P w K mg base CX0 "_law_laid" 2 ["hand", "word", "most"] spLaid := by
  refine fn_ok M F scLaid (fun _ _ _ _ _ _ => us3 fun _ _ _ => rfl) (fun vs H Q E h => ?_) (fun f cdv A outer s H vs Q E hr h => ?_)
  · obtain ⟨p, a, t, most, rfl, _⟩ := h; rfl
  · obtain ⟨p, a, t, most, rfl, hp, ha, lt, t1, tm, m2, k⟩ := h
    refine ⟨_, (pss_cons (ps_set (i := 3) scLaid.nd rfl (by first | exact Or.inl rfl | exact Or.inr rfl) (pe_listOf B.list (pv 1)))
      (pss_cons (ps_set (i := 4) scLaid.nd rfl (by first | exact Or.inl rfl | exact Or.inr rfl) (pe_fn F_law_ends hr pass0 (pa_cons (pv 1) pa_nil)))
      (pss_cons (ps_for PassesOwn.never rfl (pi_range1 (by rfl) B.range (pa_cons (pe_op op_add pe_int (pe_fn F_law_take hr pass0 (pa_cons (pv 0) (pa_cons pe_int pa_nil)))) pa_nil)) (pg_name (i := 5) scLaid.nd rfl (by first | exact Or.inl rfl | exact Or.inr rfl))
      (pss_cons (ps_set (i := 6) scLaid.nd rfl (by first | exact Or.inl rfl | exact Or.inr rfl) (pe_ix ix_list (pv 4) (pe_fn F_law_take hr pass0 (pa_cons (pv 0) (pa_cons (pe_lenL B.len (pv 4)) pa_nil))) (fun _ _ => rfl)))
      (pss_one (ps_if (pt_cmpR op_le (pe_op op_sub (pe_op op_add (pe_lenL B.len (pv 3)) (pe_lenL B.len (pv 1))) (pv 6)) (pv 2) (nomark _)) (pss_one (ps_set (i := 3) scLaid.nd rfl (by first | exact Or.inl rfl | exact Or.inr rfl) (pe_op op_cat (pv 3) (pe_slice sl_list (pv 1) (po_some (pv 6)) po_none)))) pss_nil))))
      (pss_one (ps_ret (pv 3)))))), ?_⟩
    refine ⟨_, rfl, a, _, rfl, SqL.of ha, fun r0 hr0 => ?_⟩
    have s0 := Same.upd (H := H) (o := .lst (t.map sg)) hr0
    refine ⟨_, rfl, a, t, rfl, s0 _ _ ha, lt, by omega, fun q H1 hq hq1 s1 => ?_⟩
    have pq : q ≠ p := (hp.same s0).ne hq |>.symm
    have s01 := s0.trans s1
    refine ⟨_, rfl, p, 6, rfl, hp.same s01, by decide, by decide, fun n H2 n0 n6 hp2 k2 => ?_⟩
    refine ⟨_, _, rfl, rfl, _, rfl, by omega, by omega, ?_⟩
    refine for_rangeA (lo := 0) (n := (1 + n).toNat) (fun i σ H3 => ∃ (u : List Nat) (r : Addr) (v5 v6 : Option V), σ = [some (.ref p), some (.ref a), some (.int most), some (.ref r), some (.ref q), v5, v6] ∧ H r = none ∧ H3 r = some (.lst (u.map sg)) ∧ Low u ∧ 1 ≤ u.length ∧ (u.length : Int) ≤ most ∧ Hand H3 p ∧ Keep p H H3 ∧ H3 q = some (.lst (vInts (ends t)))) ?_ ?_ ?_
    · exact ⟨t, r0, none, none, rfl, hr0, k2 _ _ (s1 _ _ upd_same) (hp.ne hr0).symm, lt, t1, tm, hp2, s01.keep.trans k2, k2 _ _ hq1 pq⟩
    · rintro D2 i σ H3 nx2 hi ⟨u, r, v5, v6, rfl, hrn, hr3, lu, u1, um, hp3, k3, hq3⟩
      have el := ends_len t
      have ez := ends_zero t1
      refine ⟨_, rfl, _, rfl, _, rfl, q, _, rfl, SqL.of hq3, p, _, rfl, hp3, by rw [vInts_len]; omega, by rw [vInts_len]; omega, fun j H4 j0 j1 hp4 k4 => ?_⟩
      rw [vInts_len] at j1
      obtain ⟨at_, hat, _, eat⟩ := vInts_at j0 j1
      have hat' := ends_lt hat
      have hr4 := k4 _ _ hr3 (hand_ne hp3 hr3)
      have ha4 := k4 _ _ (k3 _ _ ha (hand_ne hp ha)) (hand_ne hp ha)
      refine ⟨q, _, j, _, rfl, rfl, SqL.of (k4 _ _ hq3 pq), eat, ?_⟩
      refine ⟨_, rfl, r, _, rfl, SqL.of hr4, _, rfl, a, _, rfl, SqL.of ha4, _, _, rfl, rfl, _, rfl, _, _, rfl, rfl, _, rfl, _, _, rfl, rfl, _, rfl, ?_⟩
      refine ite2 (fun hc => ?_) (fun hc => ?_)
      · have hc' : (u.length : Int) + t.length - at_ ≤ most := by simpa using hc
        refine ⟨_, rfl, _, rfl, _, rfl, _, rfl, a, _, rfl, SqL.of ha4, fun p1 hp1 => ?_⟩
        have s5 := Same.upd (o := .lst (cutV (t.map sg) (some (at_ : Int)) none)) hp1
        have e1 : cutV (t.map sg) (some (at_ : Int)) none = (t.drop at_).map sg := by
          rw [cutV_cutL, cutL_map, cutL_lo _ _ (by omega), Int.toNat_natCast]
        rw [e1] at s5 ⊢
        refine ⟨r, p1, _, _, rfl, rfl, s5 _ _ hr4, upd_same, ?_, fun p2 hp2' => ?_⟩
        · rw [List.length_map, List.length_map, List.length_drop]
          exact sz (by omega)
        · have s6 := s5.trans (Same.upd (o := .lst (u.map sg ++ (t.drop at_).map sg)) hp2')
          have k6 : Keep p H (L2.upd (L2.upd H4 p1 (.lst ((t.drop at_).map sg))) p2 (.lst (u.map sg ++ (t.drop at_).map sg))) := (k3.trans k4).trans s6.keep
          refine nx2 _ _ ⟨u ++ t.drop at_, p2, _, _, rfl, ?_, by rw [upd_same, List.map_append], lu.app (lt.drop _), by rw [List.length_append]; omega, by rw [List.length_append, List.length_drop]; omega, hp4.same s6, k6, s6 _ _ (k4 _ _ hq3 pq)⟩
          have h4 : H4 p2 = none := s5.free hp2'
          obtain ⟨x, y, e4, _⟩ := hp4
          exact (k3.trans k4).free e4 h4
      · exact nx2 _ _ ⟨u, r, _, _, rfl, hrn, hr4, lu, u1, um, hp4, k3.trans k4, k4 _ _ hq3 pq⟩
    · rintro σ H3 ⟨u, r, v5, v6, rfl, hrn, hr3, lu, u1, um, hp3, k3, hq3⟩
      exact ⟨_, rfl, k u r H3 hrn hr3 lu u1 um hp3 k3⟩
theorem scText : FnScope ["hand", "letters", "most", "text", "turn", "way", "at"] ["hand", "letters"] (defScope sText) := ⟨rfl, rfl, rfl, by decide +kernel, rfl, by decide +kernel, by decide +kernel⟩
theorem ok_text (M : Md K mg) (B : Bl mg) (F : FF K "_law_text" sText) (F_law_take : Fn P w K mg base CX0 "_law_take" 1 ["hand", "many"] spTake) (F_law_signs : Fn P w K mg base CX0 "_law_signs" 2 ["hand", "letters", "many"] spSigns)
    (F_law_laid : Fn P w K mg base CX0 "_law_laid" 2 ["hand", "word", "most"] spLaid) : Fn P w K mg base CX0 "_law_text" 3 ["hand", "letters"] spText := by
  refine fn_ok M F scText (fun _ _ _ _ _ _ => us2 fun _ _ => rfl) (fun vs H Q E h => ?_) (fun f cdv A outer s H vs Q E hr h => ?_)
  · obtain ⟨p, z, rfl, _⟩ := h; rfl
  · obtain ⟨p, z, rfl, hp, hz, k⟩ := h
    refine ⟨_, (pss_cons (ps_set (i := 2) scText.nd rfl (by first | exact Or.inl rfl | exact Or.inr rfl) (pe_ix ix_list (pe_lst (pa_cons pe_int (pa_cons pe_int pa_nil))) (pe_intB B.int (pe_cmpR op_eq (pe_fn F_law_take hr pass0 (pa_cons (pv 0) (pa_cons pe_int pa_nil))) pe_int (nomark _))) (fun _ _ => rfl)))
      (pss_cons (ps_if (pt_cmpR op_eq (pe_fn F_law_take hr pass0 (pa_cons (pv 0) (pa_cons pe_int pa_nil))) pe_int (nomark _)) (pss_one (ps_ret (pe_fn F_law_signs hr pass0 (pa_cons (pv 0) (pa_cons (pv 1) (pa_cons (pe_fn F_law_take hr pass0 (pa_cons (pv 0) (pa_cons (pe_op op_add (pv 2) pe_int) pa_nil))) pa_nil)))))) pss_nil)
      (pss_cons (ps_set (i := 3) scText.nd rfl (by first | exact Or.inl rfl | exact Or.inr rfl) (pe_fn F_law_signs hr pass0 (pa_cons (pv 0) (pa_cons (pv 1) (pa_cons (pe_op op_add pe_int (pe_fn F_law_take hr pass0 (pa_cons (pv 0) (pa_cons pe_int pa_nil)))) pa_nil)))))
      (pss_cons (ps_for PassesOwn.never rfl (pi_range1 (by rfl) B.range (pa_cons (pe_op op_add pe_int (pe_fn F_law_take hr pass0 (pa_cons (pv 0) (pa_cons pe_int pa_nil)))) pa_nil)) (pg_name (i := 4) scText.nd rfl (by first | exact Or.inl rfl | exact Or.inr rfl))
      (pss_one (ps_set (i := 3) scText.nd rfl (by first | exact Or.inl rfl | exact Or.inr rfl) (pe_fn F_law_laid hr pass0 (pa_cons (pv 0) (pa_cons (pv 3) (pa_cons (pv 2) pa_nil)))))))
      (pss_cons (ps_set (i := 5) scText.nd rfl (by first | exact Or.inl rfl | exact Or.inr rfl) (pe_fn F_law_take hr pass0 (pa_cons (pv 0) (pa_cons pe_int pa_nil))))
      (pss_cons (ps_set (i := 6) scText.nd rfl (by first | exact Or.inl rfl | exact Or.inr rfl) (pe_fn F_law_take hr pass0 (pa_cons (pv 0) (pa_cons (pe_lenL B.len (pv 3)) pa_nil))))
      (pss_cons (ps_if (pt_cmpR op_eq (pv 5) pe_int (nomark _)) (pss_one (ps_asg (pe_ix ix_str (pv 1) (pe_fn F_law_take hr pass0 (pa_cons (pv 0) (pa_cons (pe_lenS B.len (pv 1)) pa_nil))) (fun _ _ => rfl)) (pg_sub (pv 3) (pv 6) set_list))) pss_nil)
      (pss_one (ps_ret (pe_ix ix_list (pe_lst (pa_cons (pv 3) (pa_cons (pv 3) (pa_cons (pe_slice sl_list (pv 3) po_none (po_some (pe_op op_add (pv 6) pe_int))) (pa_cons (pe_slice sl_list (pv 3) (po_some (pv 6)) po_none) (pa_cons (pv 3) pa_nil)))))) (pv 5) (fun _ _ => rfl))))))))))), ?_⟩
    refine ⟨by show 2 ≤ sizeLine; decide, fun l hl => ?_⟩
    refine ⟨_, rfl, p, 16, rfl, hp.upd (hp.ne hl), by decide, by decide, fun n H1 n0 n16 hp1 k1 => ?_⟩
    have k01 : Keep p H H1 := (Same.upd hl).keep.trans k1
    have hl1 : H1 l = some (.lst [.int 40, .int 200]) := k1 _ _ upd_same (hp.ne hl).symm
    refine ⟨rfl, _, rfl, ?_⟩
    obtain ⟨most, em, m1, m2⟩ : ∃ most : Int, atI [V.int 40, V.int 200] (if decide (V.int n = V.int 3) then 1 else 0) = some (.int most) ∧ 40 ≤ most ∧ most ≤ 200 := by
      by_cases hc : V.int n = V.int 3
      · rw [decide_eq_true hc]; exact ⟨200, rfl, by decide, by decide⟩
      · rw [decide_eq_false hc]; exact ⟨40, rfl, by decide, by decide⟩
    refine ⟨l, _, _, _, rfl, rfl, SqL.of hl1, em, ?_⟩
    refine ⟨_, rfl, p, 4, rfl, hp1, by decide, by decide, fun n2 H2 a0 a1 hp2 k2 => ?_⟩
    have k02 := k01.trans k2
    refine ⟨rfl, _, rfl, ?_⟩
    refine ite2 (fun hc => ?_) (fun hc => ?_)
    · -- return signs(hand, letters, take(most + 1))
      refine ⟨_, rfl, _, rfl, _, rfl, _, rfl, _, _, rfl, rfl, p, most + 1, rfl, hp2, by omega, by omega, fun n3 H3 b0 b1 hp3 k3 => ?_⟩
      refine ⟨p, z, n3, rfl, hp3, hz, b0, by omega, fun t r H4 hrn hr4 lt _ tl hp4 k4 => ?_⟩
      obtain ⟨x, y, e3, _⟩ := hp3
      exact k t r H4 ((k02.trans k3).free e3 hrn) hr4 lt (by omega) hp4 ((k02.trans k3).trans k4)
    · -- text = signs(hand, letters, 1 + take(4))
      refine ⟨_, rfl, _, rfl, _, rfl, p, 4, rfl, hp2, by decide, by decide, fun n3 H3 b0 b1 hp3 k3 => ?_⟩
      have k03 := k02.trans k3
      refine ⟨_, _, rfl, rfl, p, z, 1 + n3, rfl, hp3, hz, by omega, by omega, fun t r H4 hrn hr4 lt _ tl hp4 k4 => ?_⟩
      have hrn0 : H r = none := by obtain ⟨x, y, e3, _⟩ := hp3; exact k03.free e3 hrn
      have k04 := k03.trans k4
      refine ⟨_, rfl, p, 4, rfl, hp4, by decide, by decide, fun n5 H5 c0 c1 hp5 k5 => ?_⟩
      refine ⟨_, _, rfl, rfl, _, rfl, by omega, by omega, ?_⟩
      refine for_rangeA (lo := 0) (n := (1 + n5).toNat) (fun i σ H6 => ∃ (u : List Nat) (r : Addr) (v4 v5 v6 : Option V), σ = [some (.ref p), some (.str z), some (.int most), some (.ref r), v4, v5, v6] ∧ H r = none ∧ H6 r = some (.lst (u.map sg)) ∧ Low u ∧ 1 ≤ u.length ∧ (u.length : Int) ≤ most ∧ Hand H6 p ∧ Keep p H H6) ?_ ?_ ?_
      · exact ⟨t, r, none, none, none, rfl, hrn0, k5 _ _ hr4 (hand_ne hp4 hr4), lt, by omega, by omega, hp5, k04.trans k5⟩
      · rintro D2 i σ H6 nx2 hi ⟨u, r, v4, v5, v6, rfl, hrn, hr6, lu, u1, um, hp6, k6⟩
        refine ⟨_, rfl, _, rfl, _, rfl, p, r, u, most, rfl, hp6, hr6, lu, u1, um, m2, fun u' r' H7 hrn7 hr7 lu' u1' um' hp7 k7 => ?_⟩
        refine nx2 _ _ ⟨u', r', _, _, _, rfl, ?_, hr7, lu', u1', um', hp7, k6.trans k7⟩
        obtain ⟨x, y, e6, _⟩ := hp6
        exact k6.free e6 hrn7
      · rintro σ H6 ⟨u, r, v4, v5, v6, rfl, hrn, hr6, lu, u1, um, hp6, k6⟩
        refine ⟨_, rfl, p, 5, rfl, hp6, by decide, by decide, fun way H7 w0 w1 hp7 k7 => ?_⟩
        have hr7 := k7 _ _ hr6 (hand_ne hp6 hr6)
        refine ⟨_, rfl, _, rfl, r, _, rfl, SqL.of hr7, p, _, rfl, hp7, by rw [List.length_map]; omega, by rw [List.length_map]; omega, fun at_ H8 d0 d1 hp8 k8 => ?_⟩
        rw [List.length_map] at d1
        have hr8 := k8 _ _ hr7 (hand_ne hp7 hr7)
        have k08 := (k6.trans k7).trans k8
        have fin : ∀ (u9 : List Nat) (H9 : Hp), Hand H9 p → Keep p H H9 → H9 r = some (.lst (u9.map sg)) → Low u9 → u9.length ≤ 200 →
            tRet (tOp (rIxL K) (tLst (tCons (tVar 3) (tCons (tVar 3) (tCons (tSl (rSlL K) (tVar 3) tNoPart (tPart (tOp (rI0 fun i j => V.int (i + j)) (tVar 6) (tC (V.int 1))))) (tCons (tSl (rSlL K) (tVar 3) (tPart (tVar 6)) tNoPart) (tCons (tVar 3) tNil)))))) (tVar 5))
              { nx := fun x H' => Q V.non H', rt := Q } [some (.ref p), some (.str z), some (.int most), some (.ref r), v4, some (.int way), some (.int at_)] H9 := by
          intro u9 H9 hp9 k9 hr9 lu9 ul9
          refine ⟨_, rfl, _, rfl, _, rfl, _, rfl, _, _, rfl, rfl, at_ + 1, rfl, r, _, rfl, SqL.of hr9, fun q1 hq1 => ?_⟩
          have e1 : cutV (u9.map sg) none (some (at_ + 1)) = (u9.take (at_ + 1).toNat).map sg := by rw [cutV_cutL, cutL_map, cutL_hi _ _ (by omega)]
          have s1 := Same.upd (o := .lst (cutV (u9.map sg) none (some (at_ + 1)))) hq1
          refine ⟨_, rfl, _, rfl, at_, rfl, r, _, rfl, SqL.of (s1 _ _ hr9), fun q2 hq2 => ?_⟩
          have e2 : cutV (u9.map sg) (some at_) none = (u9.drop at_.toNat).map sg := by rw [cutV_cutL, cutL_map, cutL_lo _ _ (by omega)]
          have s2 := s1.trans (Same.upd (o := .lst (cutV (u9.map sg) (some at_) none)) hq2)
          refine ⟨_, rfl, by show 5 ≤ sizeLine; decide, fun l2 hl2 => ?_⟩
          have s3 := s2.trans (Same.upd (o := .lst [.ref r, .ref r, .ref q1, .ref q2, .ref r]) hl2)
          have k3 : Keep p H _ := k9.trans s3.keep
          have hp3 := hp9.same s3
          have fr : ∀ {b : Addr}, H9 b = none → H b = none := fun hb => by obtain ⟨x, y, e9, _⟩ := hp9; exact k9.free e9 hb
          have g0 : Q (.ref r) _ := k u9 r _ hrn (s3 _ _ hr9) lu9 ul9 hp3 k3
          have n1 : q1 ≠ q2 := ne_of_none upd_same hq2
          have g1 : Q (.ref q1) _ := k (u9.take (at_ + 1).toNat) q1 _ (fr hq1) (by
            rw [upd_ne (ne_of_none (by rw [upd_ne n1]; exact upd_same) hl2), upd_ne n1, upd_same, e1]) (lu9.take _) (by rw [List.length_take]; omega) hp3 k3
          have g2 : Q (.ref q2) _ := k (u9.drop at_.toNat) q2 _ (fr (s1.free hq2)) (by
            rw [upd_ne (ne_of_none upd_same hl2), upd_same, e2]) (lu9.drop _) (by rw [List.length_drop]; omega) hp3 k3
          have hw : way = 0 ∨ way = 1 ∨ way = 2 ∨ way = 3 ∨ way = 4 := by omega
          rcases hw with rfl | rfl | rfl | rfl | rfl
          · exact ⟨_, rfl, l2, _, _, _, rfl, rfl, SqL.of upd_same, rfl, g0⟩
          · exact ⟨_, rfl, l2, _, _, _, rfl, rfl, SqL.of upd_same, rfl, g0⟩
          · exact ⟨_, rfl, l2, _, _, _, rfl, rfl, SqL.of upd_same, rfl, g1⟩
          · exact ⟨_, rfl, l2, _, _, _, rfl, rfl, SqL.of upd_same, rfl, g2⟩
          · exact ⟨_, rfl, l2, _, _, _, rfl, rfl, SqL.of upd_same, rfl, g0⟩
        refine ⟨_, rfl, rfl, _, rfl, ?_⟩
        refine ite2 (fun hc => ?_) (fun hc => ?_)
        · refine ⟨_, rfl, _, rfl, _, rfl, z, rfl, sz hz.few, p, _, rfl, hp8, by have := hz.one; omega, by have := hz.few; omega, fun j H9 j0 j1 hp9 k9 => ?_⟩
          obtain ⟨c, ec, c1, c2, _⟩ := alph_at hz j0 j1
          have hr9 := k9 _ _ hr8 (hand_ne hp8 hr8)
          refine ⟨z, j, c, rfl, rfl, sz hz.few, ec, _, rfl, _, rfl, r, _, at_, at_.toNat, rfl, rfl, hr9, ixN_pos _ _ d0 (by rw [List.length_map]; exact d1), ?_⟩
          have nrp := hand_ne hp9 hr9
          refine fin (u.set at_.toNat c) _ (hp9.upd nrp.symm) ?_ (by rw [upd_same, List.map_set]) (lu.set _ _ ⟨c1, c2⟩) (by rw [List.length_set]; omega)
          intro b o e nb
          rw [upd_ne (fun q => by subst q; rw [e] at hrn; cases hrn)]
          exact (k08.trans k9) b o e nb
        · exact fin u H8 hp8 k08 hr8 lu (by omega)
end

end Ov

namespace Ov
open PySem L2
abbrev sIsSign : Stmt := top 7
abbrev sCheck : Stmt := top 8
def spIsSign : Sp := fun vs H Q _ => ∃ c : Nat, vs = [sg c] ∧ 97 ≤ c ∧ c ≤ 122 ∧ Q (.bl true) H
def spCheck : Sp := fun vs H Q _ => ∃ (a : Addr) (t : List Nat), vs = [.ref a] ∧ H a = some (.lst (t.map sg)) ∧ Low t ∧ Q .non H
theorem sg_ge {c : Nat} (h : 97 ≤ c) : (!decide ((sgS c).cps.toList < (Str.ofString "a").cps.toList)) = true := by
  have e : (Str.ofString "a").cps.toList = [97] := by decide +kernel
  rw [e]
  have : ¬ ([c] < [97]) := fun q => by
    cases q with
    | rel r => omega
    | cons r => cases r
  simp [this]
theorem sg_le {c : Nat} (h : c ≤ 122) : (!decide ((Str.ofString "z").cps.toList < (sgS c).cps.toList)) = true := by
  have e : (Str.ofString "z").cps.toList = [122] := by decide +kernel
  rw [e]
  have : ¬ ([122] < [c]) := fun q => by
    cases q with
    | rel r => omega
    | cons r => cases r
  simp [this]
section
variable {P : Program} {w : World} {K : PySem.W.Frag} {mg : Str → Option Value} {base : Heap}
theorem scIsSign : FnScope ["sign"] ["sign"] (defScope sIsSign) := ⟨rfl, rfl, rfl, by decide +kernel, rfl, by decide +kernel, by decide +kernel⟩
theorem ok_is_sign (M : Md K mg) (B : Bl mg) (F : FF K "is_sign" sIsSign) : Fn P w K mg base CX0 "is_sign" 1 ["sign"] spIsSign := by
  refine fn_ok M F scIsSign (fun _ _ _ _ _ _ => us1 fun _ => rfl) (fun vs H Q E h => ?_) (fun f cdv A outer s H vs Q E hr h => ?_)
  · obtain ⟨c, rfl, _⟩ := h; rfl
  · obtain ⟨c, rfl, c1, c2, k⟩ := h
    refine ⟨_, (pss_one (ps_ret (pe_and (pe_isi B.isinst B.str bt_str (pv 0)) (pe_and (pe_cmpR op_eq (pe_lenS B.len (pv 0)) pe_int (nomark _)) (pe_one (pe_chain op_le_str op_le_str pe_str (pv 0) pe_str)))))), ?_⟩
    refine ⟨_, rfl, _, true, TyOf.str _, rfl, _, rfl, iteT ?_⟩
    refine ⟨_, rfl, _, rfl, sz (by show 1 ≤ 1000; decide), rfl, true, rfl, iteT ?_⟩
    refine ⟨_, rfl, _, _, rfl, rfl, _, rfl, ?_⟩
    rw [sg_ge c1]
    refine iteT ⟨_, _, rfl, rfl, ?_⟩
    rw [sg_le c2]
    exact k
theorem scCheck : FnScope ["text", "sign"] ["text"] (defScope sCheck) := ⟨rfl, rfl, rfl, by decide +kernel, rfl, by decide +kernel, by decide +kernel⟩
theorem ok_check (M : Md K mg) (B : Bl mg) (F : FF K "check_signs" sCheck) (Fis_sign : Fn P w K mg base CX0 "is_sign" 1 ["sign"] spIsSign) : Fn P w K mg base CX0 "check_signs" 2 ["text"] spCheck := by
  refine fn_ok M F scCheck (fun _ _ _ _ _ _ => us1 fun _ => rfl) (fun vs H Q E h => ?_) (fun f cdv A outer s H vs Q E hr h => ?_)
  · obtain ⟨a, t, rfl, _⟩ := h; rfl
  · obtain ⟨a, t, rfl, ha, lt, k⟩ := h
    refine ⟨_, (pss_one (ps_for PassesOwn.never rfl (pi_list (pv 0)) (pg_name (i := 1) scCheck.nd rfl (by first | exact Or.inl rfl | exact Or.inr rfl))
      (pss_one (ps_if (pt_not (pt_val (pe_fn Fis_sign hr pass0 (pa_cons (pv 1) pa_nil)))) (pss_one ps_never) pss_nil)))), ?_⟩
    refine ⟨_, rfl, a, rfl, ⟨_, SqL.of ha⟩, for_list (K := K) (a := a) (xs := t.map sg) (fun i σ H2 => H2 = H ∧ ∃ v, σ = [some (.ref a), v]) ⟨rfl, none, rfl⟩ (fun i σ H2 _ h2 => by rw [h2.1]; exact SqL.of ha) ?_ ?_⟩
    · rintro i x σ H2 hx ⟨rfl, v, rfl⟩
      rw [List.getElem?_map] at hx
      cases e : t[i]? with
      | none => rw [e] at hx; cases hx
      | some c =>
        rw [e] at hx
        have : sg c = x := Option.some.inj hx
        subst this
        have hc := lt c (List.mem_of_getElem? e)
        exact ⟨_, rfl, c, rfl, hc.1, hc.2, true, rfl, iteF ⟨rfl, _, rfl⟩⟩
    · rintro σ H2 ⟨rfl, _⟩
      exact k
end

end Ov

namespace Ov
open PySem L2
abbrev sBorders : Stmt := top 12
section
variable {P : Program} {w : World} {K : PySem.W.Frag} {mg : Str → Option Value} {base : Heap}
theorem scBorders : FnScope ["text", "length"] ["text"] (defScope sBorders) := ⟨rfl, rfl, rfl, by decide +kernel, rfl, by decide +kernel, by decide +kernel⟩
theorem ok_borders (M : Md K mg) (B : Bl mg) (F : FF K "borders" sBorders) (Fcheck_signs : Fn P w K mg base CX0 "check_signs" 2 ["text"] spCheck) : Fn P w K mg base CX0 "borders" 3 ["text"] spEnds := by
  refine fn_ok M F scBorders (fun _ _ _ _ _ _ => us1 fun _ => rfl) (fun vs H Q E h => ?_) (fun f cdv A outer s H vs Q E hr h => ?_)
  · obtain ⟨a, t, rfl, _⟩ := h; rfl
  · obtain ⟨a, t, rfl, ha, lt, hl, k⟩ := h
    refine ⟨_, (pss_cons (ps_expr (pe_fn Fcheck_signs hr pass0 (pa_cons (pv 0) pa_nil)))
      (pss_cons (ps_set (i := 1) scBorders.nd rfl (by first | exact Or.inl rfl | exact Or.inr rfl) (pe_lenL B.len (pv 0)))
      (pss_one (ps_ret (pe_comp ["text", "length"] rfl (pi_range1 (by rfl) B.range (pa_cons (pv 1) pa_nil)) (fun _ => by exact (pif_one (pt_cmpR (op_eqLS (by exact hr)) (pe_slice sl_list (pv 0) po_none (po_some (pv 2))) (pe_slice sl_list (pv 0) (po_some (pe_op op_sub (pv 1) (pv 2))) po_none) (nomark _)))) (fun _ => by exact (pv 2))))))), ?_⟩
    refine ⟨_, rfl, a, t, rfl, ha, lt, ?_⟩
    refine ⟨_, rfl, a, _, rfl, SqL.of ha, ?_⟩
    refine ⟨_, rfl, _, rfl, by rw [List.length_map]; omega, by rw [List.length_map]; omega, fun D hD b => ?_⟩
    rw [List.length_map, Int.toNat_natCast]
    refine comp_range (lo := 0) (n := t.length) (fun i ys H2 => ys = vInts ((List.range i).filter fun k => decide (t.take k = t.drop (t.length - k))) ∧ Same H H2 ∧ H2 D = some (.lst ys)) (small1000 hl) ?_ ?_ ?_ ?_
    · exact ⟨rfl, Same.upd hD, upd_same⟩
    · rintro i ys H2 ⟨rfl, _⟩
      rw [vInts_len]; exact filter_len _
    · rintro i ys H2 hi ⟨rfl, s2, hD2⟩
      refine ⟨_, rfl, _, rfl, _, rfl, a, _, rfl, SqL.of (s2 _ _ ha), fun p1 hp1 => ?_⟩
      have s3 := s2.trans (Same.upd (o := .lst (cutV (t.map sg) none (some (0 + (i : Int))))) hp1)
      refine ⟨_, rfl, _, rfl, _, rfl, _, _, rfl, rfl, _, rfl, a, _, rfl, SqL.of (s3 _ _ ha), fun p2 hp2 => ?_⟩
      have n12 : p1 ≠ p2 := ne_of_none upd_same hp2
      refine ⟨p1, p2, t.take i, t.drop (t.length - i), rfl, rfl, SqL.of ?_, SqL.of ?_, (lt.take _).cp, (lt.drop _).cp, _, rfl, ?_⟩
      · rw [upd_ne n12, upd_same, cutV_cutL, cutL_map, cutL_hi _ _ (by omega), show (0 + (i : Int)).toNat = i by omega]
      · rw [upd_same, cutV_cutL, cutL_map, cutL_lo _ _ (by omega), show ((t.length : Int) - (0 + (i : Int))).toNat = t.length - i by omega]
      · have s4 := s3.trans (Same.upd (o := .lst (cutV (t.map sg) (some ((t.length : Int) - (0 + (i : Int)))) none)) hp2)
        have hD4 := (Same.upd (H := L2.upd H2 p1 _) (o := .lst (cutV (t.map sg) (some ((t.length : Int) - (0 + (i : Int)))) none)) hp2) _ _ ((Same.upd (o := .lst (cutV (t.map sg) none (some (0 + (i : Int))))) hp1) _ _ hD2)
        refine ite2 (fun hc => ?_) (fun hc => ?_)
        · have hc' : t.take i = t.drop (t.length - i) := by simpa using hc
          refine ⟨_, rfl, hD4, ?_, ?_, upd_same⟩
          · rw [ends_step, if_pos hc', vInts_snoc]
          · intro b o e
            rw [upd_ne (ne_of_none e hD)]
            exact s4 b o e
        · have hc' : ¬ t.take i = t.drop (t.length - i) := by simpa using hc
          refine ⟨?_, s4, hD4⟩
          rw [ends_step, if_neg hc', List.append_nil]
    · rintro ys H2 ⟨rfl, s2, hD2⟩
      exact k D H2 hD hD2 s2
end

end Ov

namespace Ov
open PySem L2
/-- the places at which u lies in t -/
def liesIn (t u : List Nat) : List Nat := (List.range (t.length + 1 - u.length)).filter fun p => decide ((t.drop p).take u.length = u)
theorem sg_inj {a b : Nat} : (sg a = sg b) ↔ a = b := by
  constructor
  · intro h
    have : sgS a = sgS b := V.str.inj h
    simpa [sgS] using this
  · intro h; rw [h]
theorem vInts_snoc' (ks : List Nat) (i : Nat) : vInts (ks ++ [i]) = vInts ks ++ [V.int (i : Int)] := by simp [vInts]
/-- the places at which the word's signs are others, up to the j-th -/
def parts (t u : List Nat) (p j : Nat) : List Nat := (List.range j).filter fun q => !decide (t[p + q]? = u[q]?)
theorem lies_step (t u : List Nat) (i : Nat) : ((List.range (i + 1)).filter fun p => decide ((t.drop p).take u.length = u)) = ((List.range i).filter fun p => decide ((t.drop p).take u.length = u)) ++ (if (t.drop i).take u.length = u then [i] else []) := by
  rw [List.range_succ, List.filter_append]
  congr 1
  by_cases h : (t.drop i).take u.length = u <;> simp [h]
theorem lies_len (t u : List Nat) : (liesIn t u).length ≤ t.length + 1 - u.length := filter_len _
def spLies : Sp := fun vs H Q _ => ∃ (a b : Addr) (t u : List Nat), vs = [.ref a, .ref b] ∧ H a = some (.lst (t.map sg)) ∧ H b = some (.lst (u.map sg)) ∧ Low t ∧ Low u ∧ t.length ≤ 900 ∧ u.length ≤ 900 ∧ 1 ≤ u.length ∧
  ∀ (r : Addr) (H' : Hp), H r = none → H' r = some (.lst (vInts (liesIn t u))) → Same H H' → Q (.ref r) H'

end Ov

namespace Ov
open PySem L2
abbrev sCheckWord : Stmt := top 9
abbrev sLiesAt : Stmt := top 13
def spCheckWord : Sp := fun vs H Q _ => ∃ (a : Addr) (t : List Nat), vs = [.ref a] ∧ H a = some (.lst (t.map sg)) ∧ Low t ∧ 1 ≤ t.length ∧ Q .non H
section
variable {P : Program} {w : World} {K : PySem.W.Frag} {mg : Str → Option Value} {base : Heap}
theorem scCheckWord : FnScope ["word"] ["word"] (defScope sCheckWord) := ⟨rfl, rfl, rfl, by decide +kernel, rfl, by decide +kernel, by decide +kernel⟩
theorem ok_check_word (M : Md K mg) (B : Bl mg) (F : FF K "check_word" sCheckWord) (Fcheck_signs : Fn P w K mg base CX0 "check_signs" 2 ["text"] spCheck) : Fn P w K mg base CX0 "check_word" 3 ["word"] spCheckWord := by
  refine fn_ok M F scCheckWord (fun _ _ _ _ _ _ => us1 fun _ => rfl) (fun vs H Q E h => ?_) (fun f cdv A outer s H vs Q E hr h => ?_)
  · obtain ⟨a, t, rfl, _⟩ := h; rfl
  · obtain ⟨a, t, rfl, ha, lt, t1, k⟩ := h
    refine ⟨_, (pss_cons (ps_if (pt_cmpR op_eq (pe_lenL B.len (pv 0)) pe_int (nomark _)) (pss_one ps_never) pss_nil)
      (pss_one (ps_expr (pe_fn Fcheck_signs hr pass0 (pa_cons (pv 0) pa_nil))))), ?_⟩
    refine ⟨_, rfl, a, _, rfl, SqL.of ha, rfl, _, rfl, ?_⟩
    rw [decide_eq_false (fun q => by have := V.int.inj q; rw [List.length_map] at this; omega)]
    exact iteF ⟨_, rfl, a, t, rfl, ha, lt, k⟩
theorem scLiesAt : FnScope ["text", "word", "many"] ["text", "word"] (defScope sLiesAt) := ⟨rfl, rfl, rfl, by decide +kernel, rfl, by decide +kernel, by decide +kernel⟩
theorem ok_lies_at (M : Md K mg) (B : Bl mg) (F : FF K "lies_at" sLiesAt) (Fcheck_signs : Fn P w K mg base CX0 "check_signs" 2 ["text"] spCheck) (Fcheck_word : Fn P w K mg base CX0 "check_word" 3 ["word"] spCheckWord) : Fn P w K mg base CX0 "lies_at" 4 ["text", "word"] spLies := by
  refine fn_ok M F scLiesAt (fun _ _ _ _ _ _ => us2 fun _ _ => rfl) (fun vs H Q E h => ?_) (fun f cdv A outer s H vs Q E hr h => ?_)
  · obtain ⟨a, b, t, u, rfl, _⟩ := h; rfl
  · obtain ⟨a, b, t, u, rfl, ha, hb, lt, lu, tl, ul, u1, k⟩ := h
    refine ⟨_, (pss_cons (ps_expr (pe_fn Fcheck_word hr pass0 (pa_cons (pv 1) pa_nil)))
      (pss_cons (ps_expr (pe_fn Fcheck_signs hr pass0 (pa_cons (pv 0) pa_nil)))
      (pss_cons (ps_set (i := 2) scLiesAt.nd rfl (by first | exact Or.inl rfl | exact Or.inr rfl) (pe_lenL B.len (pv 1)))
      (pss_one (ps_ret (pe_comp ["text", "word", "many"] rfl (pi_range1 (by rfl) B.range (pa_cons (pe_op op_add (pe_op op_sub (pe_lenL B.len (pv 0)) (pv 2)) pe_int) pa_nil)) (fun _ => by exact (pif_one (pt_cmpR (op_eqLS (by exact hr)) (pe_slice sl_list (pv 0) (po_some (pv 3)) (po_some (pe_op op_add (pv 3) (pv 2)))) (pv 1) (nomark _)))) (fun _ => by exact (pv 3)))))))), ?_⟩
    refine ⟨_, rfl, b, u, rfl, hb, lu, u1, ?_⟩
    refine ⟨_, rfl, a, t, rfl, ha, lt, ?_⟩
    refine ⟨_, rfl, b, _, rfl, SqL.of hb, ?_⟩
    refine ⟨_, rfl, a, _, rfl, SqL.of ha, _, rfl, _, _, rfl, rfl, _, _, rfl, rfl, _, rfl, by rw [List.length_map, List.length_map]; omega, by rw [List.length_map, List.length_map]; omega, fun D hD cb => ?_⟩
    rw [List.length_map, List.length_map, show ((t.length : Int) - (u.length : Int) + 1).toNat = t.length + 1 - u.length by omega]
    refine comp_range (lo := 0) (n := t.length + 1 - u.length) (fun i ys H2 => ys = vInts ((List.range i).filter fun p => decide ((t.drop p).take u.length = u)) ∧ Same H H2 ∧ H2 D = some (.lst ys)) (small1000 (by omega)) ?_ ?_ ?_ ?_
    · exact ⟨rfl, Same.upd hD, upd_same⟩
    · rintro i ys H2 ⟨rfl, _⟩
      rw [vInts_len]; exact filter_len _
    · rintro i ys H2 hi ⟨rfl, s2, hD2⟩
      refine ⟨_, rfl, _, rfl, _, rfl, _, rfl, _, rfl, _, _, rfl, rfl, _, rfl, a, _, rfl, SqL.of (s2 _ _ ha), fun p1 hp1 => ?_⟩
      have s3 := s2.trans (Same.upd (o := .lst (cutV (t.map sg) (some (0 + (i : Int))) (some (0 + (i : Int) + (u.length : Int))))) hp1)
      refine ⟨_, rfl, p1, b, (t.drop i).take u.length, u, rfl, rfl, SqL.of ?_, SqL.of (s3 _ _ hb), ((lt.drop _).take _).cp, lu.cp, _, rfl, ?_⟩
      · rw [upd_same, cutV_cutL, cutL_map, cutL_both _ _ _ (by omega) (by omega), show (0 + (i : Int)).toNat = i by omega, show (0 + (i : Int) + (u.length : Int)).toNat - i = u.length by omega]
      · have hD3 := (Same.upd (o := .lst (cutV (t.map sg) (some (0 + (i : Int))) (some (0 + (i : Int) + (u.length : Int))))) hp1) _ _ hD2
        refine ite2 (fun hc => ?_) (fun hc => ?_)
        · have hc' : (t.drop i).take u.length = u := by simpa using hc
          refine ⟨_, rfl, hD3, ?_, ?_, upd_same⟩
          · rw [lies_step, if_pos hc', vInts_snoc]
          · intro b o e
            rw [upd_ne (ne_of_none e hD)]
            exact s3 b o e
        · have hc' : ¬ (t.drop i).take u.length = u := by simpa using hc
          refine ⟨?_, s3, hD3⟩
          rw [lies_step, if_neg hc', List.append_nil]
    · rintro ys H2 ⟨rfl, s2, hD2⟩
      exact k D H2 hD hD2 s2
end

end Ov

namespace Ov
open PySem L2
theorem takeWhile_all {α : Type} {f : α → Bool} : ∀ {l : List α}, (∀ x ∈ l, f x = true) → l.takeWhile f = l
  | [], _ => rfl
  | x :: l, h => by
    rw [List.takeWhile_cons, h x List.mem_cons_self, if_pos rfl, takeWhile_all fun y hy => h y (List.mem_cons_of_mem _ hy)]
theorem mem_takeWhile {α : Type} {f : α → Bool} {y : α} : ∀ {l : List α}, y ∈ l.takeWhile f → f y = true
  | [], h => by cases h
  | x :: l, h => by
    rw [List.takeWhile_cons] at h
    cases q : f x with
    | false => rw [q] at h; cases h
    | true =>
      rw [q, if_pos rfl] at h
      rcases List.mem_cons.mp h with rfl | h
      · exact q
      · exact mem_takeWhile h
/-- a sign is in one of the places -/
def cov (ks : List Nat) (m i : Nat) : Bool := ks.any fun p => decide (p ≤ i ∧ i < p + m)
/-- the least sign that is in none of them (n where there is none) -/
def bareOf (n m : Nat) (ks : List Nat) : Nat := ((List.range n).takeWhile (cov ks m)).length
theorem bareOf_le (n m : Nat) (ks : List Nat) : bareOf n m ks ≤ n := by
  unfold bareOf
  have := (List.takeWhile_sublist (cov ks m) (l := List.range n)).length_le
  simpa using this
theorem takeWhile_len {n x : Nat} {f : Nat → Bool} (hx : x ≤ n) (h1 : ∀ i, i < x → f i = true) (h2 : x < n → f x = false) : ((List.range n).takeWhile f).length = x := by
  have e : List.range n = List.range x ++ (List.range (n - x)).map (x + ·) := by
    rw [← List.range_add]; congr 1; omega
  have a : (List.range x).takeWhile f = List.range x := by
    apply takeWhile_all
    intro i hi
    exact h1 i (by simpa using hi)
  rw [e, List.takeWhile_append, a]
  simp only [List.length_range, if_true]
  by_cases hlt : x < n
  · obtain ⟨d, hd⟩ : ∃ d, n - x = d + 1 := ⟨n - x - 1, by omega⟩
    rw [hd, List.range_succ_eq_map, List.map_cons, List.takeWhile_cons]
    simp [h2 hlt]
  · have : n - x = 0 := by omega
    rw [this]; simp
theorem takeWhile_true {n : Nat} {f : Nat → Bool} {i : Nat} (h : i < ((List.range n).takeWhile f).length) : f i = true := by
  have hp := List.takeWhile_prefix f (l := List.range n)
  have e : ((List.range n).takeWhile f)[i]? = (List.range n)[i]? := by
    obtain ⟨r, hr⟩ := hp
    conv => rhs; rw [← hr]
    rw [List.getElem?_append_left h]
  have hi : i < n := by
    have := hp.length_le
    simp at this; omega
  have m : i ∈ (List.range n).takeWhile f := by
    rw [List.mem_iff_getElem?]
    exact ⟨i, by rw [e]; simp [hi]⟩
  exact mem_takeWhile m
theorem takeWhile_false {n : Nat} {f : Nat → Bool} (h : ((List.range n).takeWhile f).length < n) : f ((List.range n).takeWhile f).length = false := by
  cases q : f ((List.range n).takeWhile f).length with
  | false => rfl
  | true =>
    exfalso
    generalize hx : ((List.range n).takeWhile f).length = x at h q
    have h1 : ∀ i, i < x → f i = true := fun i hi => takeWhile_true (n := n) (by omega)
    have : x + 1 ≤ ((List.range n).takeWhile f).length := by
      have e : List.range n = List.range (x + 1) ++ (List.range (n - (x + 1))).map (x + 1 + ·) := by
        rw [← List.range_add]; congr 1; omega
      have a : (List.range (x + 1)).takeWhile f = List.range (x + 1) := by
        apply takeWhile_all
        intro i hi
        have hi' : i < x + 1 := by simpa using hi
        rcases Nat.lt_or_ge i x with z | z
        · exact h1 i z
        · have : i = x := by omega
          rw [this]; exact q
      rw [e, List.takeWhile_append, a]
      simp
    omega
theorem bareOf_cov {n m : Nat} {ks : List Nat} {i : Nat} (h : i < bareOf n m ks) : cov ks m i = true := takeWhile_true h
theorem bareOf_not {n m : Nat} {ks : List Nat} (h : bareOf n m ks < n) : cov ks m (bareOf n m ks) = false := takeWhile_false h
theorem bareOf_eq {n m x : Nat} {ks : List Nat} (hx : x ≤ n) (h1 : ∀ i, i < x → cov ks m i = true) (h2 : x < n → cov ks m x = false) : bareOf n m ks = x := takeWhile_len hx h1 h2
/-- going along -/
def fb (m : Nat) : Nat → List Nat → Nat
  | reach, [] => reach
  | reach, p :: r => if p > reach then reach else fb m (p + m) r
theorem cov_true {ks : List Nat} {m i : Nat} : cov ks m i = true ↔ ∃ p ∈ ks, p ≤ i ∧ i < p + m := by
  unfold cov
  rw [List.any_eq_true]
  constructor
  · rintro ⟨p, hp, h⟩; exact ⟨p, hp, of_decide_eq_true h⟩
  · rintro ⟨p, hp, h⟩; exact ⟨p, hp, decide_eq_true h⟩
theorem cov_false {ks : List Nat} {m i : Nat} : cov ks m i = false ↔ ∀ p ∈ ks, ¬ (p ≤ i ∧ i < p + m) := by
  rw [← Bool.not_eq_true, cov_true]
  constructor
  · intro h p hp q; exact h ⟨p, hp, q⟩
  · rintro h ⟨p, hp, q⟩; exact h p hp q
theorem fb_spec {m n : Nat} : ∀ (ks D : List Nat) (R : Nat), (D ++ ks).Pairwise (· < ·) → (∀ p ∈ D, p + m ≤ R) → (∀ i, i < R → cov D m i = true) → R ≤ n → (∀ p ∈ ks, p + m ≤ n) →
    fb m R ks ≤ n ∧ (∀ i, i < fb m R ks → cov (D ++ ks) m i = true) ∧ cov (D ++ ks) m (fb m R ks) = false
  | [], D, R, hs, hd, hc, hr, hk => by
    rw [List.append_nil]
    refine ⟨hr, hc, ?_⟩
    rw [cov_false]
    intro p hp q
    have := hd p hp
    simp only [fb] at q
    omega
  | p :: r, D, R, hs, hd, hc, hr, hk => by
    simp only [fb]
    have hsp := List.pairwise_append.mp hs
    have hpr := List.pairwise_cons.mp hsp.2.1
    by_cases h : p > R
    · rw [if_pos h]
      refine ⟨hr, fun i hi => ?_, ?_⟩
      · obtain ⟨q, hq, z⟩ := cov_true.mp (hc i hi)
        exact cov_true.mpr ⟨q, List.mem_append_left _ hq, z⟩
      · rw [cov_false]
        intro q hq z
        rcases List.mem_append.mp hq with hq | hq
        · have := hd q hq; omega
        · rcases List.mem_cons.mp hq with rfl | hq
          · omega
          · have := hpr.1 q hq; omega
    · rw [if_neg h]
      have e : D ++ p :: r = (D ++ [p]) ++ r := by simp
      rw [e] at hs ⊢
      refine fb_spec r (D ++ [p]) (p + m) hs (fun q hq => ?_) (fun i hi => ?_) (hk p List.mem_cons_self) (fun q hq => hk q (List.mem_cons_of_mem _ hq))
      · rcases List.mem_append.mp hq with hq | hq
        · have := hsp.2.2 q hq p List.mem_cons_self; omega
        · rw [List.mem_singleton.mp hq]; omega
      · by_cases hi2 : i < R
        · obtain ⟨q, hq, z⟩ := cov_true.mp (hc i hi2)
          exact cov_true.mpr ⟨q, List.mem_append_left _ hq, z⟩
        · exact cov_true.mpr ⟨p, by simp, by omega, hi⟩
theorem fb_bare {m n : Nat} {ks : List Nat} (hs : ks.Pairwise (· < ·)) (hk : ∀ p ∈ ks, p + m ≤ n) : fb m 0 ks = bareOf n m ks := by
  obtain ⟨h1, h2, h3⟩ := fb_spec (m := m) (n := n) ks [] 0 (by simpa using hs) (by simp) (by simp) (Nat.zero_le _) hk
  rw [List.nil_append] at h2 h3
  exact (bareOf_eq h1 h2 fun _ => h3).symm
theorem lies_sorted (t u : List Nat) : (liesIn t u).Pairwise (· < ·) := by
  unfold liesIn
  exact List.Pairwise.filter _ List.pairwise_lt_range
theorem lies_in {t u : List Nat} {p : Nat} (h : p ∈ liesIn t u) (u1 : 1 ≤ u.length) : p + u.length ≤ t.length := by
  unfold liesIn at h
  have := (List.mem_filter.mp h).1
  simp at this
  omega

end Ov

namespace Ov
open PySem L2
theorem vInts_get {ks : List Nat} {i : Nat} {x : V} (h : (vInts ks)[i]? = some x) : ∃ k, ks[i]? = some k ∧ x = V.int (k : Int) := by
  unfold vInts at h
  rw [List.map_map, List.getElem?_map] at h
  cases q : ks[i]? with
  | none => rw [q] at h; cases h
  | some k => rw [q] at h; exact ⟨k, rfl, (Option.some.inj h).symm⟩

end Ov

namespace Ov
open PySem L2
/-- u covers t -/
def covers (t u : List Nat) : Bool := decide (bareOf t.length u.length (liesIn t u) = t.length)
/-- the lengths of the beginnings that cover -/
def coversOf (t : List Nat) : List Nat := ((List.range t.length).map (· + 1)).filter fun m => covers t (t.take m)
theorem mem_lies {t u : List Nat} {p : Nat} : p ∈ liesIn t u ↔ p < t.length + 1 - u.length ∧ (t.drop p).take u.length = u := by
  unfold liesIn
  rw [List.mem_filter]
  simp
theorem covers_iff {t u : List Nat} : covers t u = true ↔ ∀ i, i < t.length → ∃ p ∈ liesIn t u, p ≤ i ∧ i < p + u.length := by
  unfold covers
  rw [decide_eq_true_eq]
  constructor
  · intro h i hi
    exact cov_true.mp (bareOf_cov (n := t.length) (by omega))
  · intro h
    exact bareOf_eq (Nat.le_refl _) (fun i hi => cov_true.mpr (h i hi)) (fun z => absurd z (Nat.lt_irrefl _))
theorem covers_self {t : List Nat} : covers t t = true := by
  rw [covers_iff]
  intro i hi
  exact ⟨0, mem_lies.mpr ⟨by omega, by simp⟩, Nat.zero_le _, by omega⟩
theorem covers_border {t : List Nat} {m : Nat} (m1 : 1 ≤ m) (mn : m < t.length) (h : covers t (t.take m) = true) : t.take m = t.drop (t.length - m) := by
  have hl : (t.take m).length = m := by rw [List.length_take]; omega
  obtain ⟨p, hp, h1, h2⟩ := covers_iff.mp h (t.length - 1) (by omega)
  have hp' := mem_lies.mp hp
  rw [hl] at h2 hp'
  have e : p = t.length - m := by omega
  have e2 : (t.drop p).take m = t.drop p := List.take_of_length_le (by rw [List.length_drop]; omega)
  rw [e2] at hp'
  rw [← e, hp'.2]
theorem coversOf_range (t : List Nat) : coversOf t = (List.range (t.length + 1)).filter fun m => decide (0 < m) && covers t (t.take m) := by
  unfold coversOf
  rw [List.range_succ_eq_map, List.filter_cons_of_neg (by simp)]
  rw [List.filter_map, List.filter_map]
  congr 1
theorem coversOf_ends (t : List Nat) : (ends t ++ [t.length]).filter (fun m => decide (0 < m) && covers t (t.take m)) = coversOf t := by
  rw [coversOf_range, List.range_succ, List.filter_append, List.filter_append]
  congr 1
  unfold ends
  rw [List.filter_filter]
  apply List.filter_congr
  intro m hm
  have hm' : m < t.length := by simpa using hm
  by_cases h : decide (0 < m) && covers t (t.take m)
  · have h' := h
    rw [Bool.and_eq_true, decide_eq_true_eq] at h'
    rw [h, Bool.true_and, decide_eq_true (covers_border h'.1 hm' h'.2)]
  · have h' : (decide (0 < m) && covers t (t.take m)) = false := by simpa using h
    rw [h', Bool.false_and]
theorem coversOf_own {t : List Nat} (h : 1 ≤ t.length) : t.length ∈ coversOf t := by
  unfold coversOf
  rw [List.mem_filter]
  refine ⟨?_, ?_⟩
  · simp; exact ⟨t.length - 1, by omega, by omega⟩
  · rw [List.take_length]; exact covers_self
theorem coversOf_len (t : List Nat) : (coversOf t).length ≤ t.length := by
  unfold coversOf
  have := List.length_filter_le (fun m => covers t (t.take m)) ((List.range t.length).map (· + 1))
  simpa using this
theorem coversOf_cons {t : List Nat} (h : 1 ≤ t.length) : ∃ x r, coversOf t = x :: r := by
  have := coversOf_own h
  cases e : coversOf t with
  | nil => rw [e] at this; cases this
  | cons x r => exact ⟨x, r, rfl⟩
theorem mem_coversOf {t : List Nat} {m : Nat} (h : m ∈ coversOf t) : 1 ≤ m ∧ m ≤ t.length ∧ covers t (t.take m) = true := by
  unfold coversOf at h
  rw [List.mem_filter] at h
  obtain ⟨h1, h2⟩ := h
  simp at h1
  obtain ⟨a, h3, h4⟩ := h1
  exact ⟨by omega, by omega, h2⟩

end Ov

namespace Ov
open PySem L2
theorem nd {p : Prop} [Decidable p] (h : ¬ decide p = true) : ¬ p := fun z => h (decide_eq_true z)
theorem sorted_ext : ∀ {a b : List Nat}, a.Pairwise (· < ·) → b.Pairwise (· < ·) → (∀ x, x ∈ a ↔ x ∈ b) → a = b
  | [], [], _, _, _ => rfl
  | [], y :: b, _, _, h => by have := (h y).mpr List.mem_cons_self; cases this
  | x :: a, [], _, _, h => by have := (h x).mp List.mem_cons_self; cases this
  | x :: a, y :: b, ha, hb, h => by
    have ha' := List.pairwise_cons.mp ha
    have hb' := List.pairwise_cons.mp hb
    have e : x = y := by
      have h1 := (h x).mp List.mem_cons_self
      have h2 := (h y).mpr List.mem_cons_self
      rcases List.mem_cons.mp h1 with q | q
      · exact q
      · rcases List.mem_cons.mp h2 with r | r
        · exact r.symm
        · have := hb'.1 x q
          have := ha'.1 y r
          omega
    subst e
    congr 1
    refine sorted_ext ha'.2 hb'.2 fun z => ?_
    constructor
    · intro hz
      have := ha'.1 z hz
      rcases List.mem_cons.mp ((h z).mp (List.mem_cons_of_mem _ hz)) with q | q
      · omega
      · exact q
    · intro hz
      have := hb'.1 z hz
      rcases List.mem_cons.mp ((h z).mpr (List.mem_cons_of_mem _ hz)) with q | q
      · omega
      · exact q
/-- the ends of the layings up to the first gap -/
def ce (m : Nat) : Nat → List Nat → List Nat
  | _, [] => []
  | R, p :: r => if p > R then [] else (p + m) :: ce m (p + m) r
theorem ce_pre (m : Nat) : ∀ (ks : List Nat) (R : Nat), ce m R ks <+: ks.map (· + m)
  | [], _ => List.nil_prefix
  | p :: r, R => by
    simp only [ce]
    split
    · exact List.nil_prefix
    · rw [List.map_cons]
      exact (List.cons_prefix_cons).mpr ⟨rfl, ce_pre m r (p + m)⟩
theorem ce_sorted {m : Nat} {ks : List Nat} (R : Nat) (h : ks.Pairwise (· < ·)) : (ce m R ks).Pairwise (· < ·) :=
  List.Pairwise.sublist (ce_pre m ks R).sublist (List.pairwise_map.mpr (h.imp fun q => by omega))
theorem ce_mem {m R e : Nat} {ks : List Nat} (h : e ∈ ce m R ks) : ∃ p ∈ ks, p + m = e := by
  have := (ce_pre m ks R).sublist.subset h
  exact List.mem_map.mp this
theorem ce_len (m R : Nat) (ks : List Nat) : (ce m R ks).length ≤ ks.length := by
  have := (ce_pre m ks R).length_le
  rwa [List.length_map] at this
theorem ce_iff {m e : Nat} : ∀ {ks : List Nat} {R : Nat}, ks.Pairwise (· < ·) → R ≠ e → (e ∈ ce m R ks ↔ fb m R (ks.filter fun p => decide (p + m ≤ e)) = e)
  | [], R, _, hR => by simp [ce, fb, hR]
  | p :: r, R, h, hR => by
    have h' := List.pairwise_cons.mp h
    have none : p + m ≥ e → r.filter (fun p => decide (p + m ≤ e)) = [] := fun q => by
      rw [List.filter_eq_nil_iff]
      intro x hx
      have := h'.1 x hx
      simp; omega
    by_cases hp : p + m ≤ e
    · rw [List.filter_cons_of_pos (by simpa using hp)]
      simp only [ce, fb]
      by_cases hg : p > R
      · rw [if_pos hg, if_pos hg]
        simp [hR]
      · rw [if_neg hg, if_neg hg]
        by_cases he : p + m = e
        · rw [none (by omega)]
          simp [fb, he]
        · rw [← ce_iff h'.2 he, List.mem_cons]
          constructor
          · intro q
            rcases q with q | q
            · exact absurd q.symm he
            · exact q
          · exact .inr
    · rw [List.filter_cons_of_neg (by simpa using hp), none (by omega)]
      constructor
      · intro q
        obtain ⟨x, hx, ex⟩ := ce_mem q
        rcases List.mem_cons.mp hx with z | z
        · subst z; omega
        · have := h'.1 x z; omega
      · intro q
        simp only [fb] at q
        exact absurd q hR
/-- the beginnings that are covered: by their ends -/
def begs (t u : List Nat) : List Nat := ce u.length 0 (liesIn t u)
theorem begs_len (t u : List Nat) : (begs t u).length ≤ t.length + 1 - u.length := Nat.le_trans (ce_len _ _ _) (lies_len t u)
def spBegs : Sp := fun vs H Q _ => ∃ (a b : Addr) (t u : List Nat), vs = [.ref a, .ref b] ∧ H a = some (.lst (t.map sg)) ∧ H b = some (.lst (u.map sg)) ∧ Low t ∧ Low u ∧ t.length ≤ 900 ∧ u.length ≤ 900 ∧ 1 ≤ u.length ∧
  ∀ (r : Addr) (H' : Hp), H r = none → H' r = some (.lst (vInts (begs t u))) → Same H H' → Q (.ref r) H'

end Ov

namespace Ov
open PySem L2
abbrev sCheckSome : Stmt := top 10
abbrev sFirstBare : Stmt := top 15
def spCheckSome : Sp := fun vs H Q _ => ∃ (a : Addr) (t : List Nat), vs = [.ref a] ∧ H a = some (.lst (t.map sg)) ∧ 1 ≤ t.length ∧ Q .non H
def spFirstBare : Sp := fun vs H Q _ => ∃ (a : Addr) (ks : List Nat) (m : Nat), vs = [.ref a, .int (m : Int)] ∧ H a = some (.lst (vInts ks)) ∧ Q (.int (fb m 0 ks : Nat)) H
section
variable {P : Program} {w : World} {K : PySem.W.Frag} {mg : Str → Option Value} {base : Heap}
theorem scCheckSome : FnScope ["text"] ["text"] (defScope sCheckSome) := ⟨rfl, rfl, rfl, by decide +kernel, rfl, by decide +kernel, by decide +kernel⟩
theorem ok_check_some (M : Md K mg) (B : Bl mg) (F : FF K "check_some" sCheckSome) : Fn P w K mg base CX0 "check_some" 1 ["text"] spCheckSome := by
  refine fn_ok M F scCheckSome (fun _ _ _ _ _ _ => us1 fun _ => rfl) (fun vs H Q E h => ?_) (fun f cdv A outer s H vs Q E hr h => ?_)
  · obtain ⟨a, t, rfl, _⟩ := h; rfl
  · obtain ⟨a, t, rfl, ha, t1, k⟩ := h
    refine ⟨_, (pss_one (ps_if (pt_cmpR op_eq (pe_lenL B.len (pv 0)) pe_int (nomark _)) (pss_one ps_never) pss_nil)), ?_⟩
    refine ⟨_, rfl, a, _, rfl, SqL.of ha, rfl, _, rfl, ?_⟩
    rw [decide_eq_false (fun q => by have := V.int.inj q; rw [List.length_map] at this; omega)]
    exact iteF k
theorem scFirstBare : FnScope ["places", "many", "reach", "place"] ["places", "many"] (defScope sFirstBare) := ⟨rfl, rfl, rfl, by decide +kernel, rfl, by decide +kernel, by decide +kernel⟩
theorem ok_first_bare (M : Md K mg) (B : Bl mg) (F : FF K "first_bare" sFirstBare) : Fn P w K mg base CX0 "first_bare" 1 ["places", "many"] spFirstBare := by
  refine fn_ok M F scFirstBare (fun _ _ _ _ _ _ => us2 fun _ _ => rfl) (fun vs H Q E h => ?_) (fun f cdv A outer s H vs Q E hr h => ?_)
  · obtain ⟨a, ks, m, rfl, _⟩ := h; rfl
  · obtain ⟨a, ks, m, rfl, ha, k⟩ := h
    refine ⟨_, (pss_cons (ps_set (i := 2) scFirstBare.nd rfl (by first | exact Or.inl rfl | exact Or.inr rfl) pe_int)
      (pss_cons (ps_for PassesOwn.never rfl (pi_list (pv 0)) (pg_name (i := 3) scFirstBare.nd rfl (by first | exact Or.inl rfl | exact Or.inr rfl))
      (pss_cons (ps_if (pt_cmpR op_gt (pv 3) (pv 2) (nomark _)) (pss_one (ps_ret (pv 2))) pss_nil)
      (pss_one (ps_set (i := 2) scFirstBare.nd rfl (by first | exact Or.inl rfl | exact Or.inr rfl) (pe_op op_add (pv 3) (pv 1))))))
      (pss_one (ps_ret (pv 2))))), ?_⟩
    refine ⟨_, rfl, a, rfl, ⟨_, SqL.of ha⟩, for_list (K := K) (a := a) (xs := vInts ks) (fun i σ H2 => H2 = H ∧ ∃ (R : Nat) (v3 : Option V), σ = [some (.ref a), some (.int (m : Int)), some (.int (R : Int)), v3] ∧ fb m 0 ks = fb m R (ks.drop i)) ⟨rfl, 0, none, rfl, rfl⟩ (fun i σ H2 _ h2 => by rw [h2.1]; exact SqL.of ha) ?_ ?_⟩
    · rintro i x σ H2 hx ⟨rfl, R, v3, rfl, e⟩
      obtain ⟨p, hp, rfl⟩ := vInts_get hx
      have ed : ks.drop i = p :: ks.drop (i + 1) := by
        obtain ⟨h1, h2⟩ := List.getElem?_eq_some_iff.mp hp
        rw [List.drop_eq_getElem_cons h1, h2]
      rw [ed] at e
      refine ⟨_, rfl, _, rfl, _, _, rfl, rfl, _, rfl, ?_⟩
      refine ite2 (fun hc => ?_) (fun hc => ?_)
      · have hc' : R < p := by simpa using hc
        refine ⟨_, rfl, ?_⟩
        have : fb m 0 ks = R := by rw [e]; simp only [fb]; rw [if_pos hc']
        rw [this] at k
        exact k
      · have hc' : ¬ p > R := by simpa using hc
        refine ⟨_, rfl, _, rfl, _, _, rfl, rfl, rfl, p + m, some (.int (p : Int)), ?_, ?_⟩
        · rw [Int.natCast_add]
          rfl
        · rw [e]; simp only [fb]; rw [if_neg hc']
    · rintro σ H2 ⟨rfl, R, v3, rfl, e⟩
      rw [vInts_len, List.drop_length] at e
      simp only [fb] at e
      rw [e] at k
      exact ⟨_, rfl, k⟩
end

end Ov

namespace Ov
open PySem L2
abbrev sCovered : Stmt := top 16
/-- what covered tells -/
def spCovered : Sp := fun vs H Q _ => ∃ (a b : Addr) (t u : List Nat), vs = [.ref a, .ref b] ∧ H a = some (.lst (t.map sg)) ∧ H b = some (.lst (u.map sg)) ∧ Low t ∧ Low u ∧ 1 ≤ t.length ∧ t.length ≤ 900 ∧ u.length ≤ 900 ∧ 1 ≤ u.length ∧
  (∀ (r : Addr) (H' : Hp), H r = none → Same H H' → bareOf t.length u.length (liesIn t u) < t.length → H' r = some (.tup [.str "bare", .int (bareOf t.length u.length (liesIn t u) : Nat)]) → Q (.ref r) H') ∧
  (∀ (r q : Addr) (H' : Hp), H r = none → H q = none → Same H H' → bareOf t.length u.length (liesIn t u) = t.length → H' q = some (.lst (vInts (liesIn t u))) → H' r = some (.tup [.str "covers", .ref q]) → Q (.ref r) H')
section
variable {P : Program} {w : World} {K : PySem.W.Frag} {mg : Str → Option Value} {base : Heap}
theorem scCovered : FnScope ["text", "word", "places", "bare"] ["text", "word"] (defScope sCovered) := ⟨rfl, rfl, rfl, by decide +kernel, rfl, by decide +kernel, by decide +kernel⟩
theorem ok_covered (M : Md K mg) (B : Bl mg) (F : FF K "covered" sCovered) (Flies_at : Fn P w K mg base CX0 "lies_at" 4 ["text", "word"] spLies) (Fcheck_some : Fn P w K mg base CX0 "check_some" 1 ["text"] spCheckSome) (Ffirst_bare : Fn P w K mg base CX0 "first_bare" 1 ["places", "many"] spFirstBare) : Fn P w K mg base CX0 "covered" 5 ["text", "word"] spCovered := by
  refine fn_ok M F scCovered (fun _ _ _ _ _ _ => us2 fun _ _ => rfl) (fun vs H Q E h => ?_) (fun f cdv A outer s H vs Q E hr h => ?_)
  · obtain ⟨a, b, t, u, rfl, _⟩ := h; rfl
  · obtain ⟨a, b, t, u, rfl, ha, hb, lt, lu, t1, tl, ul, u1, k1, k2⟩ := h
    refine ⟨_, (pss_cons (ps_set (i := 2) scCovered.nd rfl (by first | exact Or.inl rfl | exact Or.inr rfl) (pe_fn Flies_at hr pass0 (pa_cons (pv 0) (pa_cons (pv 1) pa_nil))))
      (pss_cons (ps_expr (pe_fn Fcheck_some hr pass0 (pa_cons (pv 0) pa_nil)))
      (pss_cons (ps_set (i := 3) scCovered.nd rfl (by first | exact Or.inl rfl | exact Or.inr rfl) (pe_fn Ffirst_bare hr pass0 (pa_cons (pv 2) (pa_cons (pe_lenL B.len (pv 1)) pa_nil))))
      (pss_cons (ps_if (pt_cmpR op_lt (pv 3) (pe_lenL B.len (pv 0)) (nomark _)) (pss_one (ps_ret (pe_tup (pa_cons pe_str (pa_cons (pv 3) pa_nil))))) pss_nil)
      (pss_one (ps_ret (pe_tup (pa_cons pe_str (pa_cons (pv 2) pa_nil))))))))), ?_⟩
    refine ⟨_, rfl, _, rfl, a, b, t, u, rfl, ha, hb, lt, lu, tl, ul, u1, fun q H1 hq0 hq1 s1 => ?_⟩
    refine ⟨_, rfl, a, t, rfl, s1 _ _ ha, t1, ?_⟩
    refine ⟨_, rfl, _, rfl, b, _, rfl, SqL.of (s1 _ _ hb), q, liesIn t u, u.length, by rw [List.length_map]; rfl, hq1, ?_⟩
    have ef : fb u.length 0 (liesIn t u) = bareOf t.length u.length (liesIn t u) := fb_bare (lies_sorted t u) fun p hp => lies_in hp u1
    rw [ef]
    have hbl := bareOf_le t.length u.length (liesIn t u)
    refine ⟨_, rfl, _, rfl, a, _, rfl, SqL.of (s1 _ _ ha), _, _, rfl, rfl, _, rfl, ?_⟩
    refine ite2 (fun hc => ?_) (fun hc => ?_)
    · have hc' : bareOf t.length u.length (liesIn t u) < t.length := by simpa using hc
      exact ⟨_, rfl, by show 2 ≤ sizeLine; decide, fun r hr0 => k1 r _ (s1.free hr0) (s1.trans (Same.upd hr0)) hc' upd_same⟩
    · have hc' : ¬ bareOf t.length u.length (liesIn t u) < t.length := by simpa using hc
      exact ⟨_, rfl, by show 2 ≤ sizeLine; decide, fun r hr0 => k2 r q _ (s1.free hr0) hq0 (s1.trans (Same.upd hr0)) (by omega) ((Same.upd hr0) _ _ hq1) upd_same⟩
end

end Ov

namespace Ov
open PySem L2
abbrev sAllCovers : Stmt := top 17
def spAllCovers : Sp := fun vs H Q _ => ∃ (a : Addr) (t : List Nat), vs = [.ref a] ∧ H a = some (.lst (t.map sg)) ∧ Low t ∧ 1 ≤ t.length ∧ t.length ≤ 900 ∧
  ∀ (r : Addr) (H' : Hp), H r = none → H' r = some (.lst (vInts (coversOf t))) → Same H H' → Q (.ref r) H'
abbrev sShortest : Stmt := top 18
abbrev sIsBare : Stmt := top 19
def spShortest : Sp := fun vs H Q _ => ∃ (a : Addr) (t : List Nat), vs = [.ref a] ∧ H a = some (.lst (t.map sg)) ∧ Low t ∧ 1 ≤ t.length ∧ t.length ≤ 900 ∧
  ∀ (x : Nat) (r : List Nat) (H' : Hp), coversOf t = x :: r → Same H H' → Q (.int (x : Int)) H'
def spIsBare : Sp := fun vs H Q _ => ∃ (a : Addr) (t : List Nat), vs = [.ref a] ∧ H a = some (.lst (t.map sg)) ∧ Low t ∧ 1 ≤ t.length ∧ t.length ≤ 900 ∧
  ∀ (x : Nat) (r : List Nat) (H' : Hp), coversOf t = x :: r → Same H H' → Q (.bl (decide (x = t.length))) H'
section
variable {P : Program} {w : World} {K : PySem.W.Frag} {mg : Str → Option Value} {base : Heap}
theorem scAllCovers : FnScope ["text", "lengths"] ["text"] (defScope sAllCovers) := ⟨rfl, rfl, rfl, by decide +kernel, rfl, by decide +kernel, by decide +kernel⟩
theorem str_ne : (V.str (Str.ofString "bare") = V.str (Str.ofString "covers")) = False := by
  apply eq_false
  intro h
  have := V.str.inj h
  revert this
  decide +kernel
theorem ok_all_covers (M : Md K mg) (B : Bl mg) (F : FF K "all_covers" sAllCovers) (Fborders : Fn P w K mg base CX0 "borders" 3 ["text"] spEnds) (Fcheck_some : Fn P w K mg base CX0 "check_some" 1 ["text"] spCheckSome) (Fcovered : Fn P w K mg base CX0 "covered" 5 ["text", "word"] spCovered) : Fn P w K mg base CX0 "all_covers" 6 ["text"] spAllCovers := by
  refine fn_ok M F scAllCovers (fun _ _ _ _ _ _ => us1 fun _ => rfl) (fun vs H Q E h => ?_) (fun f cdv A outer s H vs Q E hr h => ?_)
  · obtain ⟨a, t, rfl, _⟩ := h; rfl
  · obtain ⟨a, t, rfl, ha, lt, t1, tl, k⟩ := h
    refine ⟨_, (pss_cons (ps_set (i := 1) scAllCovers.nd rfl (by first | exact Or.inl rfl | exact Or.inr rfl) (pe_op op_cat (pe_fn Fborders hr pass0 (pa_cons (pv 0) pa_nil)) (pe_lst (pa_cons (pe_lenL B.len (pv 0)) pa_nil))))
      (pss_cons (ps_expr (pe_fn Fcheck_some hr pass0 (pa_cons (pv 0) pa_nil)))
      (pss_one (ps_ret (pe_comp ["text", "lengths"] rfl (pi_list (pv 1)) (fun _ => by exact (pif_one (PW.pt (pw_and (pt_cmpR op_gt (pv 2) pe_int (nomark _)) (pw_and1 (pt_cmpR op_eq (pe_ix ix_tup (pe_fn Fcovered hr pass0 (pa_cons (pv 0) (pa_cons (pe_slice sl_list (pv 0) po_none (po_some (pv 2))) pa_nil))) pe_int (fun _ _ => rfl)) pe_str (nomark _))))))) (fun _ => by exact (pv 2))))))), ?_⟩
    refine ⟨_, rfl, a, t, rfl, ha, lt, by omega, fun b1 H1 hb0 hb1 s1 => ?_⟩
    refine ⟨_, rfl, a, _, rfl, SqL.of (s1 _ _ ha), by show 1 ≤ sizeLine; decide, fun b2 hb2 => ?_⟩
    have s2 := s1.trans (Same.upd (o := .lst [V.int ((t.map sg).length : Nat)]) hb2)
    have el := ends_len t
    refine ⟨b1, b2, _, _, rfl, rfl, (Same.upd hb2) _ _ hb1, upd_same, by rw [vInts_len]; show (ends t).length + 1 ≤ sizeLine; exact sz (by omega), fun b3 hb3 => ?_⟩
    have e3 : vInts (ends t) ++ [V.int ((t.map sg).length : Nat)] = vInts (ends t ++ [t.length]) := by rw [vInts_snoc', List.length_map]
    have s3 := s2.trans (Same.upd (o := .lst (vInts (ends t) ++ [V.int ((t.map sg).length : Nat)])) hb3)
    refine ⟨_, rfl, a, t, rfl, s3 _ _ ha, t1, ?_⟩
    have hb33 : (L2.upd (L2.upd H1 b2 (.lst [V.int ((t.map sg).length : Nat)])) b3 (.lst (vInts (ends t) ++ [V.int ((t.map sg).length : Nat)]))) b3 = some (.lst (vInts (ends t ++ [t.length]))) := by rw [upd_same, e3]
    generalize L2.upd (L2.upd H1 b2 (.lst [V.int ((t.map sg).length : Nat)])) b3 (.lst (vInts (ends t) ++ [V.int ((t.map sg).length : Nat)])) = H3 at s3 hb33 ⊢
    refine ⟨_, rfl, b3, rfl, ⟨_, SqL.of hb33⟩, fun D hD cb => ?_⟩
    refine comp_list (K := K) (a := b3) (xs := vInts (ends t ++ [t.length])) (fun i ys H4 => ys = vInts (((ends t ++ [t.length]).take i).filter fun m => decide (0 < m) && covers t (t.take m)) ∧ Same H3 H4 ∧ H4 D = some (.lst ys)) (by rw [vInts_len, List.length_append]; show (ends t).length + 1 < sizeLine; exact small1000 (by omega)) ?_ ?_ ?_ ?_ ?_
    · exact ⟨by simp [vInts], Same.upd hD, upd_same⟩
    · rintro i ys H4 ⟨rfl, _⟩
      rw [vInts_len]
      have := List.length_filter_le (fun m => decide (0 < m) && covers t (t.take m)) ((ends t ++ [t.length]).take i)
      rw [List.length_take] at this
      omega
    · rintro i ys H4 _ ⟨rfl, s4, _⟩; exact SqL.of (s4 _ _ hb33)
    · rintro i x ys H4 hx ⟨rfl, s4, hD4⟩
      obtain ⟨m, hm, rfl⟩ := vInts_get hx
      have hmn : m ≤ t.length := by
        rcases List.mem_append.mp (List.mem_of_getElem? hm) with q | q
        · exact Nat.le_of_lt (ends_lt q)
        · rw [List.mem_singleton.mp q]; exact Nat.le_refl _
      have stp : ((ends t ++ [t.length]).take (i + 1)).filter (fun m => decide (0 < m) && covers t (t.take m)) = ((ends t ++ [t.length]).take i).filter (fun m => decide (0 < m) && covers t (t.take m)) ++ (if (decide (0 < m) && covers t (t.take m)) = true then [m] else []) := by
        rw [List.take_add_one, hm, List.filter_append]
        congr 1
        by_cases h : (decide (0 < m) && covers t (t.take m)) = true
        · simp [h]
        · simp [h]
      have ha4 := s4 _ _ (s3 _ _ ha)
      refine ⟨_, rfl, _, _, rfl, rfl, _, rfl, ?_⟩
      by_cases h0 : 0 < m
      · rw [decide_eq_true (show (0 : Int) < (m : Int) by omega)]
        refine iteT ?_
        refine ⟨_, rfl, _, rfl, _, rfl, _, rfl, a, _, rfl, SqL.of ha4, fun p1 hp1 => ?_⟩
        have e1 : cutV (t.map sg) none (some (m : Int)) = (t.take m).map sg := by rw [cutV_cutL, cutL_map, cutL_hi _ _ (by omega), Int.toNat_natCast]
        have s5 := Same.upd (o := .lst (cutV (t.map sg) none (some (m : Int)))) hp1
        have hlm : (t.take m).length = m := by rw [List.length_take]; omega
        have hp5 : (L2.upd H4 p1 (.lst (cutV (t.map sg) none (some (m : Int))))) p1 = some (.lst ((t.take m).map sg)) := by rw [upd_same, e1]
        refine ⟨a, p1, t, t.take m, rfl, s5 _ _ ha4, hp5, lt, lt.take _, t1, tl, by omega, by omega, ?_, ?_⟩
        · intro r H6 hr0 s6 hlt hr6
          refine ⟨r, _, _, _, rfl, rfl, SqT.of hr6, atI_nat (j := 0) rfl, rfl, _, rfl, ?_⟩
          rw [decide_eq_false (by rw [str_ne]; exact fun z => z)]
          refine iteF ⟨?_, (s4.trans s5).trans s6, s6 _ _ (s5 _ _ hD4)⟩
          have hv : covers t (t.take m) = false := by
            unfold covers; exact decide_eq_false (by omega)
          rw [stp, hv, Bool.and_false, if_neg Bool.false_ne_true, List.append_nil]
        · intro r q H6 hr0 hq0 s6 hEq hq6 hr6
          refine ⟨r, _, _, _, rfl, rfl, SqT.of hr6, atI_nat (j := 0) rfl, rfl, _, rfl, ?_⟩
          rw [decide_eq_true rfl]
          have hD6 := s6 _ _ (s5 _ _ hD4)
          refine iteT ⟨_, rfl, hD6, ?_, ?_, upd_same⟩
          · have hv : covers t (t.take m) = true := by
              unfold covers; exact decide_eq_true hEq
            rw [stp, hv, decide_eq_true h0, Bool.and_self, if_pos rfl, vInts_snoc']
          · intro b o e
            rw [upd_ne (ne_of_none e hD)]
            exact s6 _ _ (s5 _ _ (s4 b o e))
      · rw [decide_eq_false (show ¬ (0 : Int) < (m : Int) by omega)]
        refine iteF (iteF ⟨?_, s4, hD4⟩)
        rw [stp, decide_eq_false h0, Bool.false_and, if_neg Bool.false_ne_true, List.append_nil]
    · rintro ys H4 ⟨rfl, s4, hD4⟩
      refine k D H4 (s3.free hD) ?_ (s3.trans s4)
      rw [hD4, vInts_len, List.take_length, coversOf_ends]
theorem scShortest : FnScope ["text"] ["text"] (defScope sShortest) := ⟨rfl, rfl, rfl, by decide +kernel, rfl, by decide +kernel, by decide +kernel⟩
theorem ok_shortest (M : Md K mg) (B : Bl mg) (F : FF K "shortest_cover" sShortest) (Fall_covers : Fn P w K mg base CX0 "all_covers" 6 ["text"] spAllCovers) : Fn P w K mg base CX0 "shortest_cover" 7 ["text"] spShortest := by
  refine fn_ok M F scShortest (fun _ _ _ _ _ _ => us1 fun _ => rfl) (fun vs H Q E h => ?_) (fun f cdv A outer s H vs Q E hr h => ?_)
  · obtain ⟨a, t, rfl, _⟩ := h; rfl
  · obtain ⟨a, t, rfl, ha, lt, t1, tl, k⟩ := h
    refine ⟨_, (pss_one (ps_ret (pe_ix ix_list (pe_fn Fall_covers hr pass0 (pa_cons (pv 0) pa_nil)) pe_int (fun _ _ => rfl)))), ?_⟩
    obtain ⟨x, r, e⟩ := coversOf_cons t1
    refine ⟨_, rfl, a, t, rfl, ha, lt, t1, tl, fun q H1 hq0 hq1 s1 => ?_⟩
    rw [e] at hq1
    exact ⟨q, _, 0, _, rfl, rfl, SqL.of hq1, atI_nat (j := 0) rfl, k x r H1 e s1⟩
theorem scIsBare : FnScope ["text"] ["text"] (defScope sIsBare) := ⟨rfl, rfl, rfl, by decide +kernel, rfl, by decide +kernel, by decide +kernel⟩
theorem ok_is_bare (M : Md K mg) (B : Bl mg) (F : FF K "is_bare" sIsBare) (Fshortest_cover : Fn P w K mg base CX0 "shortest_cover" 7 ["text"] spShortest) : Fn P w K mg base CX0 "is_bare" 8 ["text"] spIsBare := by
  refine fn_ok M F scIsBare (fun _ _ _ _ _ _ => us1 fun _ => rfl) (fun vs H Q E h => ?_) (fun f cdv A outer s H vs Q E hr h => ?_)
  · obtain ⟨a, t, rfl, _⟩ := h; rfl
  · obtain ⟨a, t, rfl, ha, lt, t1, tl, k⟩ := h
    refine ⟨_, (pss_one (ps_ret (pe_cmpR op_eq (pe_fn Fshortest_cover hr pass0 (pa_cons (pv 0) pa_nil)) (pe_lenL B.len (pv 0)) (nomark _)))), ?_⟩
    refine ⟨_, rfl, a, t, rfl, ha, lt, t1, tl, fun x r H1 e s1 => ?_⟩
    refine ⟨_, rfl, a, _, rfl, SqL.of (s1 _ _ ha), rfl, ?_⟩
    have q := k x r H1 e s1
    have eq : decide (V.int (x : Int) = V.int ((t.map sg).length : Nat)) = decide (x = t.length) := by
      apply decide_eq_decide.mpr
      rw [List.length_map]
      constructor
      · intro h; have := V.int.inj h; omega
      · intro h; rw [h]
    rw [eq]
    exact q
end

end Ov

namespace Ov
open PySem L2
abbrev sIsLaying : Stmt := top 20
/-- rising, place by place -/
def Rise (ns : List Int) : Prop := ∀ (k : Nat) (u v : Int), ns[k]? = some u → ns[k + 1]? = some v → u < v
def InL (ns : List Int) (L : List Nat) : Prop := ∀ n ∈ ns, ∃ k ∈ L, n = ((k : Nat) : Int)
def Laying (t u : List Nat) (ns : List Int) : Prop := InL ns (liesIn t u) ∧ Rise ns ∧ bareOf t.length u.length (ns.map Int.toNat) = t.length
theorem Rise.tail {n : Int} {ns : List Int} (h : Rise (n :: ns)) : Rise ns := fun k u v h1 h2 => h (k + 1) u v (by simpa using h1) (by simpa using h2)
theorem rise_pw : ∀ {ns : List Int}, Rise ns → ns.Pairwise (· < ·)
  | [], _ => List.Pairwise.nil
  | [n], _ => List.pairwise_singleton _ _
  | n :: m :: r, h => by
    have ih := rise_pw h.tail
    have hnm : n < m := h 0 n m rfl rfl
    refine List.Pairwise.cons ?_ ih
    intro x hx
    rcases List.mem_cons.mp hx with rfl | hx
    · exact hnm
    · have := (List.pairwise_cons.mp ih).1 x hx; omega
theorem inL_nat {ns : List Int} {L : List Nat} (h : InL ns L) : ns = (ns.map Int.toNat).map (fun (k : Nat) => (k : Int)) := by
  rw [List.map_map]
  conv => lhs; rw [← List.map_id ns]
  apply List.map_congr_left
  intro n hn
  obtain ⟨k, _, rfl⟩ := h n hn
  simp
theorem inL_vInts {ns : List Int} {L : List Nat} (h : InL ns L) : ns.map V.int = vInts (ns.map Int.toNat) := by
  unfold vInts
  rw [← inL_nat h]
theorem inL_mem {ns : List Int} {L : List Nat} (h : InL ns L) : ∀ p ∈ ns.map Int.toNat, p ∈ L := fun p hp => by
  obtain ⟨n, hn, rfl⟩ := List.mem_map.mp hp
  obtain ⟨k, hk, rfl⟩ := h n hn
  simpa using hk
theorem rise_nat {ns : List Int} {L : List Nat} (h : InL ns L) (r : Rise ns) : (ns.map Int.toNat).Pairwise (· < ·) := by
  rw [List.pairwise_map]
  refine (rise_pw r).imp_of_mem ?_
  intro a b ha hb hab
  obtain ⟨k, _, rfl⟩ := h a ha
  obtain ⟨j, _, rfl⟩ := h b hb
  simp
  omega
theorem inV_ints {n : Int} {L : List Nat} : inV (.int n) (vInts L) = true ↔ ∃ k ∈ L, n = ((k : Nat) : Int) := by
  unfold inV vInts
  rw [List.map_map, List.any_map, List.any_eq_true]
  constructor
  · rintro ⟨k, hk, h⟩
    have h' : ((k : Int) == n) = true := h
    exact ⟨k, hk, by simpa using (beq_iff_eq.mp h').symm⟩
  · rintro ⟨k, hk, rfl⟩
    refine ⟨k, hk, ?_⟩
    show ((k : Int) == (k : Int)) = true
    simp
theorem flat_vInts (L : List Nat) : (vInts L).all flatV = true := by
  unfold vInts
  rw [List.map_map, List.all_map, List.all_eq_true]
  intro k _; rfl
theorem ints_get {ns : List Int} {i : Nat} {x : V} (h : (ns.map V.int)[i]? = some x) : ∃ n, ns[i]? = some n ∧ x = V.int n := by
  rw [List.getElem?_map] at h
  cases e : ns[i]? with
  | none => rw [e] at h; cases h
  | some z => rw [e] at h; exact ⟨z, rfl, (Option.some.inj h).symm⟩
def spIsLaying : Sp := fun vs H Q _ => ∃ (a b c : Addr) (t u : List Nat) (ns : List Int), vs = [.ref a, .ref b, .ref c] ∧ H a = some (.lst (t.map sg)) ∧ H b = some (.lst (u.map sg)) ∧ H c = some (.lst (ns.map V.int)) ∧ Low t ∧ Low u ∧ 1 ≤ t.length ∧ t.length ≤ 900 ∧ u.length ≤ 900 ∧ 1 ≤ u.length ∧ ns.length ≤ 900 ∧
  ∀ (res : Bool) (H' : Hp), (res = true ↔ Laying t u ns) → Same H H' → Q (.bl res) H'
section
variable {P : Program} {w : World} {K : PySem.W.Frag} {mg : Str → Option Value} {base : Heap}
theorem scIsLaying : FnScope ["text", "word", "places", "spots", "place", "before", "behind"] ["text", "word", "places"] (defScope sIsLaying) := ⟨rfl, rfl, rfl, by decide +kernel, rfl, by decide +kernel, by decide +kernel⟩
theorem ok_is_laying (M : Md K mg) (B : Bl mg) (F : FF K "is_laying" sIsLaying) (Flies_at : Fn P w K mg base CX0 "lies_at" 4 ["text", "word"] spLies) (Fcheck_some : Fn P w K mg base CX0 "check_some" 1 ["text"] spCheckSome) (Ffirst_bare : Fn P w K mg base CX0 "first_bare" 1 ["places", "many"] spFirstBare) : Fn P w K mg base CX0 "is_laying" 5 ["text", "word", "places"] spIsLaying := by
  refine fn_ok M F scIsLaying (fun _ _ _ _ _ _ => us3 fun _ _ _ => rfl) (fun vs H Q E h => ?_) (fun f cdv A outer s H vs Q E hr h => ?_)
  · obtain ⟨a, b, c, t, u, ns, rfl, _⟩ := h; rfl
  · obtain ⟨a, b, c, t, u, ns, rfl, ha, hb, hc, lt, lu, t1, tl, ul, u1, nl, k⟩ := h
    refine ⟨_, (pss_cons (ps_set (i := 3) scIsLaying.nd rfl (by first | exact Or.inl rfl | exact Or.inr rfl) (pe_fn Flies_at hr pass0 (pa_cons (pv 0) (pa_cons (pv 1) pa_nil))))
      (pss_cons (ps_expr (pe_fn Fcheck_some hr pass0 (pa_cons (pv 0) pa_nil)))
      (pss_cons (ps_for PassesOwn.never rfl (pi_list (pv 2)) (pg_name (i := 4) scIsLaying.nd rfl (by first | exact Or.inl rfl | exact Or.inr rfl))
      (pss_one (ps_if (pt_cmpR op_notIn_seq (pv 4) (pv 3) (by with_unfolding_all rfl)) (pss_one (ps_ret pe_bl)) pss_nil)))
      (pss_cons (ps_for PassesOwn.never rfl (pi_zip B.zip (pv 2) (pe_slice sl_list (pv 2) (po_some pe_int) po_none)) (pg_tup rfl (pgs_cons (pg_name (i := 5) scIsLaying.nd rfl (by first | exact Or.inl rfl | exact Or.inr rfl)) (pgs_cons (pg_name (i := 6) scIsLaying.nd rfl (by first | exact Or.inl rfl | exact Or.inr rfl)) pgs_nil)))
      (pss_one (ps_if (pt_cmpR op_ge (pv 5) (pv 6) (nomark _)) (pss_one (ps_ret pe_bl)) pss_nil)))
      (pss_one (ps_ret (pe_cmpR op_eq (pe_fn Ffirst_bare hr pass0 (pa_cons (pv 2) (pa_cons (pe_lenL B.len (pv 1)) pa_nil))) (pe_lenL B.len (pv 0)) (nomark _)))))))), ?_⟩
    refine ⟨_, rfl, _, rfl, a, b, t, u, rfl, ha, hb, lt, lu, tl, ul, u1, fun q H1 hq0 hq1 s1 => ?_⟩
    refine ⟨_, rfl, a, t, rfl, s1 _ _ ha, t1, ?_⟩
    have hc1 := s1 _ _ hc
    refine ⟨_, rfl, c, rfl, ⟨_, SqL.of hc1⟩, for_list (K := K) (a := c) (xs := ns.map V.int) (fun i σ H2 => H2 = H1 ∧ (∃ v4 v5 v6, σ = [some (.ref a), some (.ref b), some (.ref c), some (.ref q), v4, v5, v6]) ∧ ∀ j n, j < i → ns[j]? = some n → ∃ k ∈ liesIn t u, n = ((k : Nat) : Int)) ⟨rfl, ⟨_, _, _, rfl⟩, fun j n hj => absurd hj (Nat.not_lt_zero _)⟩ (fun i σ H2 _ h2 => by rw [h2.1]; exact SqL.of hc1) ?_ ?_⟩
    · rintro i x σ H2 hx ⟨rfl, ⟨v4, v5, v6, rfl⟩, hin⟩
      obtain ⟨n, hn, rfl⟩ := ints_get hx
      refine ⟨_, rfl, _, rfl, q, _, rfl, .inl (SqL.of hq1), rfl, flat_vInts _, _, rfl, ?_⟩
      by_cases hv : inV (.int n) (vInts (liesIn t u)) = true
      · rw [hv]
        refine iteF ⟨rfl, ⟨_, _, _, rfl⟩, fun j m hj hm => ?_⟩
        rcases Nat.lt_or_ge j i with z | z
        · exact hin j m z hm
        · have : j = i := by omega
          subst this
          rw [hn] at hm
          cases hm
          exact inV_ints.mp hv
      · have hv' : inV (.int n) (vInts (liesIn t u)) = false := by simpa using hv
        rw [hv']
        refine iteT (k false _ ⟨fun z => Bool.noConfusion z, fun L => ?_⟩ s1)
        exact absurd (inV_ints.mpr (L.1 n (List.mem_of_getElem? hn))) hv
    · rintro σ H2 ⟨rfl, ⟨v4, v5, v6, rfl⟩, hin⟩
      have hIn : InL ns (liesIn t u) := fun n hn => by
        obtain ⟨j, hj⟩ := List.mem_iff_getElem?.mp hn
        exact hin j n (by rw [List.length_map]; exact (List.getElem?_eq_some_iff.mp hj).1) hj
      refine ⟨_, rfl, _, rfl, 1, rfl, c, _, rfl, SqL.of hc1, fun d hd => ?_⟩
      have e1 : cutV (ns.map V.int) (some 1) none = (ns.drop 1).map V.int := by rw [cutV_cutL, cutL_map, cutL_lo _ _ (by decide)]; rfl
      have s2 := Same.upd (o := .lst (cutV (ns.map V.int) (some 1) none)) hd
      refine ⟨c, d, ns.map V.int, (ns.drop 1).map V.int, rfl, rfl, s2 _ _ hc1, by rw [upd_same, e1], for_zip (xs := ns.map V.int) (ys := (ns.drop 1).map V.int) (fun i σ H3 => (Same H2 H3 ∧ H3 d = some (.lst ((ns.drop 1).map V.int))) ∧ (∃ v4 v5 v6, σ = [some (.ref a), some (.ref b), some (.ref c), some (.ref q), v4, v5, v6]) ∧ ∀ (j : Nat) (x y : Int), j < i → ns[j]? = some x → ns[j + 1]? = some y → x < y) ?_ ?_ ?_ ?_⟩
      · exact ⟨⟨s2, by rw [upd_same, e1]⟩, ⟨_, _, _, rfl⟩, fun j x y hj => absurd hj (Nat.not_lt_zero _)⟩
      · rintro i σ H3 _ ⟨⟨s3, hd3⟩, _, _⟩
        exact ⟨s3 _ _ hc1, hd3⟩
      · rintro i x y p σ H3 hx hy hp ⟨⟨s3, hd3⟩, ⟨v4, v5, v6, rfl⟩, hris⟩
        obtain ⟨n, hn, rfl⟩ := ints_get hx
        obtain ⟨m, hm, rfl⟩ := ints_get hy
        rw [List.getElem?_drop, Nat.add_comm] at hm
        have s4 := Same.upd (o := .tup [V.int n, V.int m]) hp
        refine ⟨p, _, rfl, SqT.of upd_same, rfl, _, _, rfl, _, _, rfl, rfl, ?_⟩
        refine ⟨_, rfl, _, rfl, _, _, rfl, rfl, _, rfl, ?_⟩
        by_cases hge : m ≤ n
        · rw [decide_eq_true hge]
          refine iteT (k false _ ⟨fun z => Bool.noConfusion z, fun L => ?_⟩ ((s1.trans s3).trans s4))
          have := L.2.1 i n m hn hm
          omega
        · rw [decide_eq_false hge]
          refine iteF ⟨⟨s3.trans s4, s4 _ _ hd3⟩, ⟨_, _, _, rfl⟩, fun j x y hj h1 h2 => ?_⟩
          rcases Nat.lt_or_ge j i with z | z
          · exact hris j x y z h1 h2
          · have : j = i := by omega
            subst this
            rw [hn] at h1
            rw [hm] at h2
            cases h1
            cases h2
            omega
      · rintro σ H3 ⟨⟨s3, hd3⟩, ⟨v4, v5, v6, rfl⟩, hris⟩
        have hR : Rise ns := fun j x y h1 h2 => by
          have h3 := (List.getElem?_eq_some_iff.mp h2).1
          exact hris j x y (by rw [List.length_map, List.length_map, List.length_drop]; omega) h1 h2
        have hc3 := s3 _ _ hc1
        rw [inL_vInts hIn] at hc3
        refine ⟨_, rfl, _, rfl, b, _, rfl, SqL.of (s3 _ _ (s1 _ _ hb)), c, ns.map Int.toNat, u.length, by rw [List.length_map]; rfl, hc3, ?_⟩
        rw [fb_bare (n := t.length) (rise_nat hIn hR) fun p hp => lies_in (inL_mem hIn p hp) u1]
        refine ⟨_, rfl, a, _, rfl, SqL.of (s3 _ _ (s1 _ _ ha)), rfl, ?_⟩
        refine k _ _ ?_ (s1.trans s3)
        rw [decide_eq_true_eq, List.length_map]
        constructor
        · intro h
          refine ⟨hIn, hR, ?_⟩
          have := V.int.inj h
          omega
        · intro h
          rw [h.2.2]
end

end Ov

namespace Ov
open PySem L2
/-- in how many ways places of ks go along from the reach R to n -/
def wys (n m : Nat) : Nat → List Nat → Nat
  | R, [] => if R = n then 1 else 0
  | R, p :: r => (if p ≤ R then wys n m (p + m) r else 0) + wys n m R r
/-- the places that a number's figures by twos pick -/
def pick : List Nat → Nat → List Nat
  | [], _ => []
  | p :: r, x => if x % 2 = 1 then p :: pick r (x / 2) else pick r (x / 2)
theorem pick_sub : ∀ (l : List Nat) (x : Nat), (pick l x).Sublist l
  | [], _ => .slnil
  | p :: r, x => by
    simp only [pick]
    split
    · exact .cons₂ _ (pick_sub r _)
    · exact .cons _ (pick_sub r _)
theorem count_two (f : Nat → Bool) : ∀ N, (List.range (2 * N)).countP f = (List.range N).countP (fun x => f (2 * x + 1)) + (List.range N).countP (fun x => f (2 * x))
  | 0 => rfl
  | N + 1 => by
    rw [show 2 * (N + 1) = 2 * N + 1 + 1 by omega, List.range_succ, List.range_succ, List.range_succ, List.countP_append, List.countP_append, List.countP_append, List.countP_append, count_two f N]
    simp only [List.countP_singleton]
    omega
theorem fb_cons {m R p : Nat} {r : List Nat} : fb m R (p :: r) = if p > R then R else fb m (p + m) r := rfl
theorem wys_count {n m : Nat} (m1 : 1 ≤ m) : ∀ (ks : List Nat) (R : Nat), (∀ p ∈ ks, p + m ≤ n) → (List.range (2 ^ ks.length)).countP (fun x => decide (fb m R (pick ks x) = n)) = wys n m R ks
  | [], R, _ => by
    simp only [List.length_nil, Nat.pow_zero, wys, pick, fb]
    by_cases h : R = n <;> simp [h]
  | p :: r, R, hk => by
    have hp := hk p List.mem_cons_self
    have hr : ∀ q ∈ r, q + m ≤ n := fun q hq => hk q (List.mem_cons_of_mem _ hq)
    rw [List.length_cons, Nat.pow_succ, Nat.mul_comm, count_two]
    simp only [wys]
    congr 1
    · by_cases h : p ≤ R
      · rw [if_pos h, ← wys_count m1 r (p + m) hr]
        apply List.countP_congr
        intro x _
        have e1 : (2 * x + 1) % 2 = 1 := by omega
        have e2 : (2 * x + 1) / 2 = x := by omega
        simp only [pick, e1, e2, if_true, fb_cons]
        rw [if_neg (by omega)]
      · rw [if_neg h]
        rw [List.countP_eq_zero]
        intro x _
        have e1 : (2 * x + 1) % 2 = 1 := by omega
        simp only [pick, e1, if_true, fb_cons]
        rw [if_pos (by omega), decide_eq_true_eq]
        omega
    · rw [← wys_count m1 r R hr]
      apply List.countP_congr
      intro x _
      have e1 : ¬ (2 * x) % 2 = 1 := by omega
      have e2 : (2 * x) / 2 = x := by omega
      simp only [pick, e1, e2, if_false]
/-- all sets of places, asked sign by sign -/
theorem wys_sets {n m : Nat} {ks : List Nat} (m1 : 1 ≤ m) (hs : ks.Pairwise (· < ·)) (hk : ∀ p ∈ ks, p + m ≤ n) : (List.range (2 ^ ks.length)).countP (fun x => decide (bareOf n m (pick ks x) = n)) = wys n m 0 ks := by
  rw [← wys_count m1 ks 0 hk]
  apply List.countP_congr
  intro x _
  rw [fb_bare (n := n) (hs.sublist (pick_sub ks x)) fun p hp => hk p ((pick_sub ks x).subset hp)]
theorem wys_bare {n m : Nat} {ks : List Nat} (m1 : 1 ≤ m) (hs : ks.Pairwise (· < ·)) (hk : ∀ p ∈ ks, p + m ≤ n) (h : bareOf n m ks < n) : wys n m 0 ks = 0 := by
  rw [← wys_sets m1 hs hk, List.countP_eq_zero]
  intro x _
  rw [decide_eq_true_eq]
  intro e
  have := bareOf_not h
  rw [cov_false] at this
  obtain ⟨p, hp, z⟩ := cov_true.mp (bareOf_cov (n := n) (m := m) (ks := pick ks x) (i := bareOf n m ks) (by omega))
  exact this p ((pick_sub ks x).subset hp) z
/-- in how many ways it goes on from the place p -/
def wyAt (n m : Nat) (ks : List Nat) (p : Nat) : Nat := wys n m (p + m) (ks.filter fun q => decide (p < q))
/-- the places behind p that leave no gap -/
def nearOf (m : Nat) (ks : List Nat) (p : Nat) : List Nat := ks.filter fun q => decide (p < q) && decide (q ≤ p + m)
theorem filter_none {α : Type} {f : α → Bool} {l : List α} (h : ∀ x ∈ l, f x = false) : l.filter f = [] := by
  rw [List.filter_eq_nil_iff]
  intro x hx
  rw [h x hx]; decide
theorem filter_whole {α : Type} {f : α → Bool} {l : List α} (h : ∀ x ∈ l, f x = true) : l.filter f = l := by
  rw [List.filter_eq_self]; exact h
theorem wys_sum {n m : Nat} : ∀ (r pre : List Nat) (R : Nat), (pre ++ r).Pairwise (· < ·) → wys n m R r = (if R = n then 1 else 0) + ((r.filter fun q => decide (q ≤ R)).map (wyAt n m (pre ++ r))).sum
  | [], pre, R, _ => by simp [wys]
  | p :: r, pre, R, hs => by
    have hsp := List.pairwise_append.mp hs
    have hpr := List.pairwise_cons.mp hsp.2.1
    have e : pre ++ p :: r = (pre ++ [p]) ++ r := by simp
    have ih := wys_sum (n := n) (m := m) r (pre ++ [p]) R (by rw [← e]; exact hs)
    rw [← e] at ih
    have ev : wyAt n m (pre ++ p :: r) p = wys n m (p + m) r := by
      unfold wyAt
      rw [List.filter_append, filter_none (l := pre) fun x hx => decide_eq_false (by have := hsp.2.2 x hx p List.mem_cons_self; omega), List.nil_append, List.filter_cons_of_neg (by simp), filter_whole fun x hx => decide_eq_true (hpr.1 x hx)]
    simp only [wys]
    by_cases h : p ≤ R
    · rw [if_pos h, List.filter_cons_of_pos (by simpa using h), List.map_cons, List.sum_cons, ev, ih]; omega
    · rw [if_neg h, List.filter_cons_of_neg (by simpa using h), ih]; omega
theorem wys_sum0 {n m R : Nat} {ks : List Nat} (hs : ks.Pairwise (· < ·)) : wys n m R ks = (if R = n then 1 else 0) + ((ks.filter fun q => decide (q ≤ R)).map (wyAt n m ks)).sum := by
  have := wys_sum (n := n) (m := m) ks [] R (by simpa using hs)
  simpa using this
theorem wyAt_tail {n m p : Nat} {ks : List Nat} (hs : ks.Pairwise (· < ·)) (R : Nat) : wys n m R (ks.filter fun q => decide (p < q)) = (if R = n then 1 else 0) + (((ks.filter fun q => decide (p < q)).filter fun q => decide (q ≤ R)).map (wyAt n m ks)).sum := by
  have e : ks = (ks.filter fun q => !decide (p < q)) ++ (ks.filter fun q => decide (p < q)) := by
    clear R
    induction ks with
    | nil => rfl
    | cons x r ih =>
      have hp := List.pairwise_cons.mp hs
      by_cases h : p < x
      · rw [List.filter_cons_of_neg (by simpa using h), List.filter_cons_of_pos (by simpa using h), filter_none (l := r) fun y hy => by have := hp.1 y hy; simp; omega, filter_whole (l := r) fun y hy => by have := hp.1 y hy; simp; omega]
        rfl
      · rw [List.filter_cons_of_pos (by simpa using h), List.filter_cons_of_neg (by simpa using h), List.cons_append, ← ih hp.2]
  have := wys_sum (n := n) (m := m) (ks.filter fun q => decide (p < q)) (ks.filter fun q => !decide (p < q)) R (by rw [← e]; exact hs)
  rw [← e] at this
  exact this
/-- the ways from a place are those from the places near behind it, and one where it ends -/
theorem wyAt_eq {n m p : Nat} {ks : List Nat} (hs : ks.Pairwise (· < ·)) : wyAt n m ks p = ((nearOf m ks p).map (wyAt n m ks)).sum + (if p + m = n then 1 else 0) := by
  show wys n m (p + m) _ = _
  rw [wyAt_tail hs, List.filter_filter, Nat.add_comm]
  have e : (fun q => decide (q ≤ p + m) && decide (p < q)) = fun q => decide (p < q) && decide (q ≤ p + m) := by funext q; rw [Bool.and_comm]
  rw [e]; rfl
/-- of a text that is covered: one where there is none near behind -/
theorem wyAt_cov {n m p : Nat} {ks : List Nat} (hs : ks.Pairwise (· < ·)) (m1 : 1 ≤ m) (hk : ∀ q ∈ ks, q + m ≤ n) (hp : p ∈ ks) (hc : bareOf n m ks = n) : wyAt n m ks p = if nearOf m ks p = [] then 1 else ((nearOf m ks p).map (wyAt n m ks)).sum := by
  rw [wyAt_eq hs]
  have hpn := hk p hp
  by_cases h : nearOf m ks p = []
  · rw [if_pos h, h]
    have : p + m = n := by
      rcases Nat.lt_or_ge (p + m) n with z | z
      · exfalso
        obtain ⟨q, hq, z1, z2⟩ := cov_true.mp (bareOf_cov (n := n) (m := m) (ks := ks) (i := p + m) (by omega))
        have : q ∈ nearOf m ks p := by
          unfold nearOf
          rw [List.mem_filter]
          exact ⟨hq, by simp; omega⟩
        rw [h] at this
        cases this
      · omega
    rw [if_pos this]; rfl
  · rw [if_neg h]
    obtain ⟨q, r, e⟩ := List.exists_cons_of_ne_nil h
    have hq : q ∈ nearOf m ks p := by rw [e]; exact List.mem_cons_self
    unfold nearOf at hq
    rw [List.mem_filter] at hq
    have := hk q hq.1
    have h2 := hq.2
    simp at h2
    rw [if_neg (by omega)]; rfl
theorem wys_zero {n m : Nat} {ks : List Nat} (n1 : 1 ≤ n) (hs : ks.Pairwise (· < ·)) : wys n m 0 ks = if 0 ∈ ks then wyAt n m ks 0 else 0 := by
  rw [wys_sum0 hs, if_neg (by omega), Nat.zero_add]
  have key : ∀ l : List Nat, l.Pairwise (· < ·) → (l.filter fun q => decide (q ≤ 0)) = if 0 ∈ l then [0] else [] := by
    intro l hl
    cases l with
    | nil => rfl
    | cons x r =>
      have hp := List.pairwise_cons.mp hl
      have er : (r.filter fun q => decide (q ≤ 0)) = [] := filter_none fun y hy => decide_eq_false (by have := hp.1 y hy; omega)
      have nr : 0 ∉ r := fun z => by have := hp.1 0 z; omega
      by_cases h : x = 0
      · subst h; rw [List.filter_cons_of_pos (by simp), er]; simp
      · rw [List.filter_cons_of_neg (by simp; omega), er, if_neg]
        intro z
        rcases List.mem_cons.mp z with z | z
        · exact h z.symm
        · exact nr z
  rw [key ks hs]
  by_cases h : 0 ∈ ks <;> simp [h]
theorem cov_zero {n m : Nat} {ks : List Nat} (n1 : 1 ≤ n) (hc : bareOf n m ks = n) : 0 ∈ ks := by
  obtain ⟨q, hq, z1, z2⟩ := cov_true.mp (bareOf_cov (n := n) (m := m) (ks := ks) (i := 0) (by omega))
  have : q = 0 := by omega
  rw [← this]; exact hq

end Ov

namespace Ov
open PySem L2
/-- the first of the shortest lists -/
def fmin (L : List (List Nat)) : List Nat := (L.find? fun x => L.all fun y => decide (x.length ≤ y.length)).getD []
def bst (m : Nat) (ks : List Nat) : Nat → Nat → List Nat
  | 0, p => [p]
  | k + 1, p => p :: fmin ((nearOf m ks p).map (bst m ks k))
/-- the laying with the fewest places from a place on, of these the first -/
def bestF (n m : Nat) (ks : List Nat) (p : Nat) : List Nat := bst m ks (n - p) p
theorem mem_near {m : Nat} {ks : List Nat} {p q : Nat} : q ∈ nearOf m ks p ↔ q ∈ ks ∧ p < q ∧ q ≤ p + m := by
  unfold nearOf
  rw [List.mem_filter]
  simp
theorem near_end {n m : Nat} {ks : List Nat} {p : Nat} (hk : ∀ q ∈ ks, q + m ≤ n) (h : n ≤ p + m) : nearOf m ks p = [] := by
  apply List.eq_nil_iff_forall_not_mem.mpr
  intro q hq
  obtain ⟨h1, h2, _⟩ := mem_near.mp hq
  have := hk q h1
  omega
theorem bst_stable {n m : Nat} {ks : List Nat} (m1 : 1 ≤ m) (hk : ∀ q ∈ ks, q + m ≤ n) : ∀ (k j p : Nat), n - p ≤ k → n - p ≤ j → bst m ks k p = bst m ks j p
  | 0, 0, p, _, _ => rfl
  | 0, j + 1, p, h, _ => by
    simp only [bst]
    rw [near_end hk (by omega)]
    rfl
  | k + 1, 0, p, _, h => by
    simp only [bst]
    rw [near_end hk (by omega)]
    rfl
  | k + 1, j + 1, p, h1, h2 => by
    simp only [bst]
    congr 2
    apply List.map_congr_left
    intro q hq
    obtain ⟨_, h3, _⟩ := mem_near.mp hq
    exact bst_stable m1 hk k j q (by omega) (by omega)
theorem bestF_eq {n m : Nat} {ks : List Nat} (m1 : 1 ≤ m) (hk : ∀ q ∈ ks, q + m ≤ n) {p : Nat} (hp : p < n) : bestF n m ks p = p :: fmin ((nearOf m ks p).map (bestF n m ks)) := by
  unfold bestF
  obtain ⟨k, hk'⟩ : ∃ k, n - p = k + 1 := ⟨n - p - 1, by omega⟩
  rw [hk']
  simp only [bst]
  congr 2
  apply List.map_congr_left
  intro q hq
  obtain ⟨_, h3, _⟩ := mem_near.mp hq
  exact bst_stable m1 hk k (n - q) q (by omega) (by omega)
/-- the first of the shortest, told by its place -/
theorem fmin_at {α : Type} {f : α → List Nat} {l : List α} (hne : l ≠ []) : ∃ pre x post, l = pre ++ x :: post ∧ fmin (l.map f) = f x ∧ (∀ y ∈ l, (f x).length ≤ (f y).length) ∧ ∀ y ∈ pre, (f x).length < (f y).length := by
  have hex : ∃ x ∈ l, ∀ y ∈ l, (f x).length ≤ (f y).length := by
    induction l with
    | nil => exact absurd rfl hne
    | cons a r ih =>
      by_cases hr : r = []
      · subst hr
        exact ⟨a, List.mem_cons_self, fun y hy => by rw [List.mem_singleton.mp hy]; exact Nat.le_refl _⟩
      · obtain ⟨x, hx, h⟩ := ih hr
        by_cases hle : (f a).length ≤ (f x).length
        · refine ⟨a, List.mem_cons_self, fun y hy => ?_⟩
          rcases List.mem_cons.mp hy with q | q
          · rw [q]; exact Nat.le_refl _
          · exact Nat.le_trans hle (h y q)
        · refine ⟨x, List.mem_cons_of_mem _ hx, fun y hy => ?_⟩
          rcases List.mem_cons.mp hy with q | q
          · rw [q]; omega
          · exact h y q
  obtain ⟨x0, hx0, h0⟩ := hex
  have hp : ∀ x ∈ l, ((l.map f).all fun y => decide ((f x).length ≤ y.length)) = true ↔ ∀ y ∈ l, (f x).length ≤ (f y).length := by
    intro x _
    rw [List.all_map, List.all_eq_true]
    constructor
    · intro h y hy; simpa using h y hy
    · intro h y hy; simpa using h y hy
  have hfm : fmin (l.map f) = ((l.find? fun x => (l.map f).all fun y => decide ((f x).length ≤ y.length)).map f).getD [] := by
    unfold fmin
    rw [List.find?_map]
    rfl
  cases hfind : l.find? fun x => (l.map f).all fun y => decide ((f x).length ≤ y.length) with
  | none =>
    have := List.find?_eq_none.mp hfind x0 hx0
    exact absurd ((hp x0 hx0).mpr h0) this
  | some x =>
    obtain ⟨h1, pre, post, e, h2⟩ := List.find?_eq_some_iff_append.mp hfind
    have hx : x ∈ l := by rw [e]; simp
    have hmin := (hp x hx).mp h1
    refine ⟨pre, x, post, e, by rw [hfm, hfind]; rfl, hmin, fun y hy => ?_⟩
    have hyl : y ∈ l := by rw [e]; exact List.mem_append_left _ hy
    have hn := h2 y hy
    refine Nat.lt_of_not_le fun hle => ?_
    have : ((l.map f).all fun z => decide ((f y).length ≤ z.length)) = true := (hp y hyl).mpr fun z hz => Nat.le_trans hle (hmin z hz)
    rw [this] at hn
    simp at hn
section
variable {n m : Nat} {ks : List Nat}
def lenF (n m : Nat) (ks : List Nat) (p : Nat) : Nat := (bestF n m ks p).length
/-- places that cover -/
structure Cvr (n m : Nat) (ks : List Nat) : Prop where
  m1 : 1 ≤ m
  srt : ks.Pairwise (· < ·)
  lim : ∀ q ∈ ks, q + m ≤ n
  cov : bareOf n m ks = n
theorem near_some (C : Cvr n m ks) {p : Nat} (h : p + m < n) : nearOf m ks p ≠ [] := by
  intro z
  obtain ⟨q, hq, h1, h2⟩ := cov_true.mp (bareOf_cov (n := n) (m := m) (ks := ks) (i := p + m) (by rw [C.cov]; exact h))
  have : q ∈ nearOf m ks p := mem_near.mpr ⟨hq, by omega, h1⟩
  rw [z] at this
  cases this
theorem bestF_step (C : Cvr n m ks) {p : Nat} (hp : p ∈ ks) : bestF n m ks p = p :: fmin ((nearOf m ks p).map (bestF n m ks)) := bestF_eq C.m1 C.lim (by have := C.lim p hp; have := C.m1; omega)
theorem bestF_end (C : Cvr n m ks) {p : Nat} (hp : p ∈ ks) (h : n ≤ p + m) : bestF n m ks p = [p] := by
  rw [bestF_step C hp, near_end C.lim h]
  rfl
/-- the step on: the first of the best ones near -/
theorem bestF_next (C : Cvr n m ks) {p : Nat} (hp : p ∈ ks) (h : p + m < n) : ∃ pre q post, nearOf m ks p = pre ++ q :: post ∧ bestF n m ks p = p :: bestF n m ks q ∧ (∀ y ∈ nearOf m ks p, lenF n m ks q ≤ lenF n m ks y) ∧ ∀ y ∈ pre, lenF n m ks q < lenF n m ks y := by
  obtain ⟨pre, q, post, e, h1, h2, h3⟩ := fmin_at (f := bestF n m ks) (near_some C h)
  exact ⟨pre, q, post, e, by rw [bestF_step C hp, h1], h2, h3⟩
theorem lenF_end (C : Cvr n m ks) {p : Nat} (hp : p ∈ ks) (h : n ≤ p + m) : lenF n m ks p = 1 := by unfold lenF; rw [bestF_end C hp h]; rfl
/-- the list itself covers, of places -/
theorem bestF_chain (C : Cvr n m ks) : ∀ (d p : Nat), n - p ≤ d → p ∈ ks → ∃ r, bestF n m ks p = p :: r ∧ fb m (p + m) r = n ∧ (p :: r).Pairwise (· < ·) ∧ ∀ x ∈ p :: r, x ∈ ks
  | 0, p, hd, hp => by have := C.lim p hp; have := C.m1; omega
  | d + 1, p, hd, hp => by
    have hp1 := C.lim p hp
    by_cases h : n ≤ p + m
    · refine ⟨[], bestF_end C hp h, by simp only [fb]; omega, by simp, fun x hx => by rw [List.mem_singleton.mp hx]; exact hp⟩
    · obtain ⟨pre, q, post, e, h1, h2, _⟩ := bestF_next C hp (by omega)
      have hqn : q ∈ nearOf m ks p := by rw [e]; simp
      obtain ⟨hq, hpq, hqm⟩ := mem_near.mp hqn
      obtain ⟨r, e1, e2, e3, e4⟩ := bestF_chain C d q (by omega) hq
      refine ⟨q :: r, by rw [h1, e1], ?_, ?_, fun x hx => ?_⟩
      · simp only [fb]
        rw [if_neg (by omega)]
        exact e2
      · rw [List.pairwise_cons]
        refine ⟨fun x hx => ?_, e3⟩
        rcases List.mem_cons.mp hx with z | z
        · omega
        · have := (List.pairwise_cons.mp e3).1 x z; omega
      · rcases List.mem_cons.mp hx with z | z
        · rw [z]; exact hp
        · exact e4 x z
def toI (l : List Nat) : List Int := l.map fun (k : Nat) => (k : Int)
/-- no list of places that covers from p on is ahead of it -/
theorem bestF_least (C : Cvr n m ks) : ∀ (r : List Nat) (p : Nat), (∀ x ∈ p :: r, x ∈ ks) → (p :: r).Pairwise (· < ·) → fb m (p + m) r = n → lenF n m ks p ≤ (p :: r).length ∧ ((p :: r).length = lenF n m ks p → ltL (toI (p :: r)) (toI (bestF n m ks p)) = false)
  | [], p, hin, _, hf => by
    have hp := hin p List.mem_cons_self
    have he : n ≤ p + m := by simp only [fb] at hf; omega
    refine ⟨by rw [lenF_end C hp he]; simp, fun _ => ?_⟩
    rw [bestF_end C hp he]
    exact ltL_self _
  | q :: r, p, hin, hs, hf => by
    have hp := hin p List.mem_cons_self
    have hq := hin q (by simp)
    have hpq := (List.pairwise_cons.mp hs).1 q List.mem_cons_self
    have hqn := C.lim q hq
    simp only [fb] at hf
    have hle : ¬ q > p + m := fun z => by rw [if_pos z] at hf; omega
    rw [if_neg hle] at hf
    have hlt : p + m < n := by omega
    obtain ⟨i1, i2⟩ := bestF_least C r q (fun x hx => hin x (List.mem_cons_of_mem _ hx)) (List.pairwise_cons.mp hs).2 hf
    obtain ⟨pre, q0, post, e, h1, h2, h3⟩ := bestF_next C hp hlt
    have hqnear : q ∈ nearOf m ks p := mem_near.mpr ⟨hq, hpq, by omega⟩
    have hmin := h2 q hqnear
    have el : lenF n m ks p = lenF n m ks q0 + 1 := by unfold lenF; rw [h1]; simp
    rw [List.length_cons] at i1 i2 ⊢
    refine ⟨by rw [List.length_cons]; omega, fun hlen => ?_⟩
    rw [List.length_cons] at hlen
    have e1 : lenF n m ks q = lenF n m ks q0 := by omega
    have i3 := i2 (by omega)
    have hq0 : q0 ∈ ks := (mem_near.mp (show q0 ∈ nearOf m ks p by rw [e]; simp)).1
    have hle0 : q0 ≤ q := by
      have hns : (nearOf m ks p).Pairwise (· < ·) := List.Pairwise.filter _ C.srt
      rw [e] at hqnear hns
      rcases List.mem_append.mp hqnear with z | z
      · have := h3 q z; omega
      · rcases List.mem_cons.mp z with z | z
        · omega
        · have := (List.pairwise_cons.mp (List.pairwise_append.mp hns).2.1).1 q z; omega
    rw [h1]
    show ltL ((p : Int) :: toI (q :: r)) ((p : Int) :: toI (bestF n m ks q0)) = false
    simp only [ltL, if_true]
    by_cases eq0 : q0 = q
    · rw [eq0]; exact i3
    · rw [bestF_step C hq0]
      show ltL ((q : Int) :: toI r) ((q0 : Int) :: _) = false
      simp only [ltL]
      rw [if_neg (by omega), decide_eq_false (by omega)]
end
theorem sub_of : ∀ {ks S : List Nat}, ks.Pairwise (· < ·) → S.Pairwise (· < ·) → (∀ x ∈ S, x ∈ ks) → S.Sublist ks
  | [], [], _, _, _ => .slnil
  | [], s :: S, _, _, h => by have := h s List.mem_cons_self; cases this
  | k :: ks, [], _, _, _ => List.nil_sublist _
  | k :: ks, s :: S, hk, hs, h => by
    have hk' := List.pairwise_cons.mp hk
    have hs' := List.pairwise_cons.mp hs
    by_cases e : s = k
    · subst e
      refine .cons₂ _ (sub_of hk'.2 hs'.2 fun x hx => ?_)
      rcases List.mem_cons.mp (h x (List.mem_cons_of_mem _ hx)) with z | z
      · have := hs'.1 x hx; omega
      · exact z
    · have hsk : s ∈ ks := by
        rcases List.mem_cons.mp (h s List.mem_cons_self) with z | z
        · exact absurd z e
        · exact z
      refine .cons _ (sub_of hk'.2 hs fun x hx => ?_)
      rcases List.mem_cons.mp (h x hx) with z | z
      · rcases List.mem_cons.mp hx with w | w
        · rw [w]; exact hsk
        · have h1 := hs'.1 x w
          have h2 := hk'.1 s hsk
          omega
      · exact z
theorem pick_all : ∀ {ks S : List Nat}, S.Sublist ks → ∃ x, x < 2 ^ ks.length ∧ pick ks x = S
  | _, _, .slnil => ⟨0, by simp, rfl⟩
  | _, _, .cons a h => by
    obtain ⟨x, hx, e⟩ := pick_all h
    refine ⟨2 * x, by rw [List.length_cons, Nat.pow_succ]; omega, ?_⟩
    simp only [pick]
    rw [if_neg (by omega), show 2 * x / 2 = x by omega, e]
  | _, _, .cons₂ a h => by
    obtain ⟨x, hx, e⟩ := pick_all h
    refine ⟨2 * x + 1, by rw [List.length_cons, Nat.pow_succ]; omega, ?_⟩
    simp only [pick]
    rw [if_pos (by omega), show (2 * x + 1) / 2 = x by omega, e]
theorem toI_inj : ∀ {xs ys : List Nat}, toI xs = toI ys → xs = ys
  | [], [], _ => rfl
  | [], _ :: _, h => by cases h
  | _ :: _, [], h => by cases h
  | x :: xs, y :: ys, h => by
    have h' : ((x : Int) :: toI xs) = ((y : Int) :: toI ys) := h
    injection h' with h1 h2
    rw [toI_inj h2, show x = y by omega]

end Ov

namespace Ov
open PySem L2
theorem sum_cast (f : Nat → Nat) (l : List Nat) : (l.map fun q => ((f q : Nat) : Int)).sum = (((l.map f).sum : Nat) : Int) := by
  induction l with
  | nil => rfl
  | cons x r ih => rw [List.map_cons, List.sum_cons, ih, List.map_cons, List.sum_cons, Int.natCast_add]
theorem mem_rev_take {ks : List Nat} (hs : ks.Pairwise (· < ·)) {j q o : Nat} (hq : ks.reverse[j]? = some q) (ho : o ∈ ks) (hlt : q < o) : o ∈ ks.reverse.take j := by
  have hr : ks.reverse.Pairwise (· > ·) := List.pairwise_reverse.mpr hs
  have hm : o ∈ ks.reverse := List.mem_reverse.mpr ho
  obtain ⟨h1, h2⟩ := List.getElem?_eq_some_iff.mp hq
  rw [← List.take_append_drop j ks.reverse, List.drop_eq_getElem_cons h1, h2] at hm hr
  rcases List.mem_append.mp hm with h | h
  · exact h
  · rcases List.mem_cons.mp h with h | h
    · omega
    · have := (List.pairwise_cons.mp (List.pairwise_append.mp hr).2.1).1 o h
      omega
theorem take_snoc {α : Type} {l : List α} {j : Nat} {x : α} (h : l[j]? = some x) : l.take (j + 1) = l.take j ++ [x] := by
  rw [List.take_add_one, h]; rfl
theorem filter_snoc {l : List Nat} {f : Nat → Bool} {i o : Nat} (h : l[i]? = some o) : (l.take (i + 1)).filter f = (l.take i).filter f ++ (if f o = true then [o] else []) := by
  rw [take_snoc h, List.filter_append]
  congr 1
  by_cases hf : f o = true <;> simp [hf]
theorem vInts_rev (ks : List Nat) : (vInts ks).reverse = vInts ks.reverse := by simp [vInts]
abbrev sWithin : Stmt := top 21
abbrev sFewest : Stmt := top 22
def spFewest : Sp := fun vs H Q _ => ∃ (a b : Addr) (t u : List Nat), vs = [.ref a, .ref b] ∧ H a = some (.lst (t.map sg)) ∧ H b = some (.lst (u.map sg)) ∧ Low t ∧ Low u ∧ 1 ≤ t.length ∧ t.length ≤ 900 ∧ u.length ≤ 900 ∧ 1 ≤ u.length ∧ bareOf t.length u.length (liesIn t u) = t.length ∧ ∀ (r : Addr) (H' : Hp), H r = none → H' r = some (.lst (vInts (bestF t.length u.length (liesIn t u) 0))) → Same H H' → Q (.ref r) H'
theorem bestF_short {n m : Nat} {ks : List Nat} (C : Cvr n m ks) {p : Nat} (hp : p ∈ ks) : (bestF n m ks p).length ≤ ks.length := by
  obtain ⟨r, e, _, h3, h4⟩ := bestF_chain C _ p (Nat.le_refl _) hp
  rw [e]
  exact (sub_of C.srt h3 h4).length_le
/-- a dict of numbers by numbers, its values lists of numbers of their own -/
def DictL (H0 H : Hp) (w : Addr) (qs : List Nat) (f : Nat → List Nat) : Prop := ∃ kvs : List (Key × V), H w = some (.dK kvs) ∧ kvs.length ≤ qs.length ∧ ∀ q ∈ qs, ∃ c : Addr, valV kvs (.inl (q : Int)) = some (.ref c) ∧ H0 c = none ∧ H c = some (.lst (vInts (f q)))
theorem DictL.get {H0 H : Hp} {w : Addr} {qs : List Nat} {f : Nat → List Nat} (h : DictL H0 H w qs f) {q : Nat} (hq : q ∈ qs) : ∃ c : Addr, DGet H w (.int (q : Int)) (some (.ref c)) ∧ H0 c = none ∧ H c = some (.lst (vInts (f q))) := by
  obtain ⟨kvs, h1, _, h2⟩ := h
  obtain ⟨c, e1, e2, e3⟩ := h2 q hq
  have := DGet.k (k := .inl (q : Int)) h1
  rw [e1] at this
  exact ⟨c, this, e2, e3⟩
theorem DictL.same {H0 H H' : Hp} {w : Addr} {qs : List Nat} {f : Nat → List Nat} (h : DictL H0 H w qs f) (s : Same H H') : DictL H0 H' w qs f := by
  obtain ⟨kvs, h1, h2, h3⟩ := h
  refine ⟨kvs, s _ _ h1, h2, fun q hq => ?_⟩
  obtain ⟨c, e1, e2, e3⟩ := h3 q hq
  exact ⟨c, e1, e2, s _ _ e3⟩
theorem DictL.put {H0 H : Hp} {w c : Addr} {qs : List Nat} {f : Nat → List Nat} {q : Nat} {L : List Nat} (h : DictL H0 H w qs f) (hq : q ∉ qs) (hL : L = f q) (hl : qs.length < 1000) (c0 : H0 c = none) (hc : H c = some (.lst (vInts L))) : ∃ H', DPut H w (.int (q : Int)) (.ref c) H' ∧ DictL H0 H' w (qs ++ [q]) f ∧ ∀ b o, H b = some o → b ≠ w → H' b = some o := by
  obtain ⟨kvs, h1, h2, h3⟩ := h
  refine ⟨_, DPut.k (k := .inl (q : Int)) h1 (Nat.lt_of_le_of_lt h2 (Nat.lt_of_lt_of_le hl (by decide))), ⟨_, upd_same, ?_, fun p hp => ?_⟩, fun b o e ne => by rw [upd_ne ne]; exact e⟩
  · rw [List.length_append, List.length_singleton]
    have := length_putK kvs (.inl (q : Int)) (.ref c)
    omega
  · rw [valV_put]
    by_cases e : p = q
    · subst e
      rw [if_pos rfl]
      refine ⟨c, rfl, c0, ?_⟩
      rw [upd_ne (ne_of hc h1 (fun z => nomatch z))]
      rw [← hL]
      exact hc
    · have hp' : p ∈ qs := by
        rcases List.mem_append.mp hp with z | z
        · exact z
        · exact absurd (List.mem_singleton.mp z) e
      obtain ⟨c', e1, e2, e3⟩ := h3 p hp'
      rw [if_neg (fun z => e (by have := Sum.inl.inj z; omega))]
      refine ⟨c', e1, e2, ?_⟩
      rw [upd_ne (ne_of e3 h1 (fun z => nomatch z))]
      exact e3
def spWithin : Sp := fun vs H Q _ => ∃ (a : Addr) (ks : List Nat) (p m : Nat), vs = [.ref a, .int (p : Int), .int (m : Int)] ∧ H a = some (.lst (vInts ks)) ∧ ks.length ≤ 950 ∧
  ∀ (r : Addr) (H' : Hp), H r = none → H' r = some (.lst (vInts (nearOf m ks p))) → Same H H' → Q (.ref r) H'
theorem near_len (m : Nat) (ks : List Nat) (p : Nat) : (nearOf m ks p).length ≤ ks.length := List.length_filter_le _ _
theorem kind_ne : (V.str (Str.ofString "covers") = V.str (Str.ofString "bare")) = False := by
  apply eq_false
  intro h
  have := V.str.inj h
  revert this
  decide +kernel
section
variable {P : Program} {w : World} {K : PySem.W.Frag} {mg : Str → Option Value} {base : Heap}
theorem scWithin : FnScope ["places", "place", "many"] ["places", "place", "many"] (defScope sWithin) := ⟨rfl, rfl, rfl, by decide +kernel, rfl, by decide +kernel, by decide +kernel⟩
theorem ok_within (M : Md K mg) (B : Bl mg) (F : FF K "within_reach" sWithin) : Fn P w K mg base CX0 "within_reach" 1 ["places", "place", "many"] spWithin := by
  refine fn_ok M F scWithin (fun _ _ _ _ _ _ => us3 fun _ _ _ => rfl) (fun vs H Q E h => ?_) (fun f cdv A outer s H vs Q E hr h => ?_)
  · obtain ⟨a, ks, p, m, rfl, _⟩ := h; rfl
  · obtain ⟨a, ks, p, m, rfl, ha, kl, k⟩ := h
    refine ⟨_, (pss_one (ps_ret (pe_comp ["places", "place", "many"] rfl (pi_list (pv 0)) (fun _ => by exact (pif_one (pt_chain op_lt op_le (pv 1) (pv 3) (pe_op op_add (pv 1) (pv 2))))) (fun _ => by exact (pv 3))))), ?_⟩
    refine ⟨_, rfl, a, rfl, ⟨_, SqL.of ha⟩, fun D hD cb => ?_⟩
    refine comp_list (K := K) (a := a) (xs := vInts ks) (fun i ys H3 => ys = vInts ((ks.take i).filter fun o => decide (p < o) && decide (o ≤ p + m)) ∧ Same H H3 ∧ H3 D = some (.lst ys)) (by rw [vInts_len]; exact small1000 (by omega)) ?_ ?_ ?_ ?_ ?_
    · exact ⟨rfl, Same.upd hD, upd_same⟩
    · rintro i ys H3 ⟨rfl, _⟩
      rw [vInts_len]
      exact Nat.le_trans (List.length_filter_le _ _) (by rw [List.length_take]; omega)
    · rintro i ys H3 _ ⟨_, s5, _⟩; exact SqL.of (s5 _ _ ha)
    · rintro i x ys H3 hx ⟨rfl, s5, hD3⟩
      obtain ⟨o, ho, rfl⟩ := vInts_get hx
      refine ⟨_, rfl, _, rfl, _, _, rfl, rfl, _, rfl, ?_⟩
      have stp := filter_snoc (f := fun o => decide (p < o) && decide (o ≤ p + m)) ho
      by_cases h1 : p < o
      · rw [decide_eq_true (show ((p : Int) < (o : Int)) by omega)]
        refine iteT ⟨_, rfl, _, rfl, _, _, rfl, rfl, _, _, rfl, rfl, _, rfl, ?_⟩
        by_cases h2 : o ≤ p + m
        · rw [decide_eq_true (show ((o : Int) ≤ (p : Int) + (m : Int)) by omega)]
          refine iteT ⟨_, rfl, hD3, ?_, ?_, upd_same⟩
          · rw [stp, if_pos (by simp [h1, h2]), vInts_snoc']
          · intro e o' z
            rw [upd_ne (ne_of_none z hD)]
            exact s5 _ _ z
        · rw [decide_eq_false (show ¬ ((o : Int) ≤ (p : Int) + (m : Int)) by omega)]
          refine iteF ⟨?_, s5, hD3⟩
          rw [stp, if_neg (by simp [h2]), List.append_nil]
      · rw [decide_eq_false (show ¬ ((p : Int) < (o : Int)) by omega)]
        refine iteF ⟨_, rfl, iteF ⟨?_, s5, hD3⟩⟩
        rw [stp, if_neg (by simp [h1]), List.append_nil]
    · rintro ys H3 ⟨rfl, s5, hD3⟩
      rw [vInts_len, List.take_length] at hD3
      exact k D H3 hD hD3 s5
theorem scFewest : FnScope ["text", "word", "kind", "found", "best", "place", "tails"] ["text", "word"] (defScope sFewest) := ⟨rfl, rfl, rfl, by decide +kernel, rfl, by decide +kernel, by decide +kernel⟩
theorem ok_fewest (M : Md K mg) (B : Bl mg) (F : FF K "fewest_layings" sFewest) (Fcovered : Fn P w K mg base CX0 "covered" 5 ["text", "word"] spCovered) (Fwithin_reach : Fn P w K mg base CX0 "within_reach" 1 ["places", "place", "many"] spWithin) : Fn P w K mg base CX0 "fewest_layings" 6 ["text", "word"] spFewest := by
  refine fn_ok M F scFewest (fun _ _ _ _ _ _ => us2 fun _ _ => rfl) (fun vs H Q E h => ?_) (fun f cdv A outer s H vs Q E hr h => ?_)
  · obtain ⟨a, b, t, u, rfl, _⟩ := h; rfl
  · obtain ⟨a, b, t, u, rfl, ha, hb, lt, lu, t1, tl, ul, u1, hcov0, k⟩ := h
    refine ⟨_, (pss_cons (ps_asg (pe_fn Fcovered hr pass0 (pa_cons (pv 0) (pa_cons (pv 1) pa_nil))) (pg_tup rfl (pgs_cons (pg_name (i := 2) scFewest.nd rfl (by first | exact Or.inl rfl | exact Or.inr rfl)) (pgs_cons (pg_name (i := 3) scFewest.nd rfl (by first | exact Or.inl rfl | exact Or.inr rfl)) pgs_nil))))
      (pss_cons (ps_if (pt_cmpR op_eq (pv 2) pe_str (nomark _)) (pss_one ps_never) pss_nil)
      (pss_cons (ps_set (i := 4) scFewest.nd rfl (by first | exact Or.inl rfl | exact Or.inr rfl) pe_dnewK)
      (pss_cons (ps_for PassesOwn.never rfl (pi_rev B.rev (pv 3)) (pg_name (i := 5) scFewest.nd rfl (by first | exact Or.inl rfl | exact Or.inr rfl))
      (pss_cons (ps_setC (i := 6) ["text", "word", "kind", "found", "best", "place", "tails"] rfl scFewest.nd rfl (by first | exact Or.inl rfl | exact Or.inr rfl) (pi_list (pe_fn Fwithin_reach hr pass0 (pa_cons (pv 3) (pa_cons (pv 5) (pa_cons (pe_lenL B.len (pv 1)) pa_nil))))) (fun _ => by exact pif_nil) (fun _ => by exact (pe_dget (by exact hu_of hr) (pv 4) (pv 7) (fun _ _ => rfl))))
      (pss_one (ps_dput (by exact hu_of hr) (pv 4) (pv 5) (pe_op op_cat (pe_lst (pa_cons (pv 5) pa_nil)) (pe_minK rfl B.min B.len (pv 6) (pe_lst pa_nil))) rfl))))
      (pss_one (ps_ret (pe_dget (by exact hu_of hr) (pv 4) pe_int (fun _ _ => rfl)))))))), ?_⟩
    refine ⟨_, rfl, _, rfl, a, b, t, u, rfl, ha, hb, lt, lu, t1, tl, ul, u1, ?_⟩
    have hin : ∀ p ∈ liesIn t u, p + u.length ≤ t.length := fun p hp => lies_in hp u1
    have srt := lies_sorted t u
    have ll := lies_len t u
    refine ⟨?_, ?_⟩
    · intro r H1 hr0 s1 hlt hr1
      refine ⟨r, _, rfl, SqT.of hr1, rfl, _, _, rfl, _, _, rfl, rfl, ?_⟩
      omega
    · intro r fd H1 hr0 hf0 s1 hcov hf1 hr1
      refine ⟨r, _, rfl, SqT.of hr1, rfl, _, _, rfl, _, _, rfl, rfl, ?_⟩
      refine ⟨_, rfl, rfl, _, rfl, ?_⟩
      rw [decide_eq_false (by rw [kind_ne]; exact id)]
      refine iteF ?_
      have k' := k
      have C : Cvr t.length u.length (liesIn t u) := ⟨u1, srt, hin, hcov⟩
      have h0 := cov_zero t1 hcov
      generalize liesIn t u = ks at *
      intro w hw
      have s2 := Same.upd (o := .dK []) hw
      have wn : H w = none := s1.free hw
      refine ⟨_, rfl, fd, _, rfl, SqL.of (s2 _ _ hf1), for_rev (K := K) (a := fd) (xs := vInts ks) (fun j σ H2 => Same H H2 ∧ H2 fd = some (.lst (vInts ks)) ∧ DictL H H2 w (ks.reverse.take j) (bestF t.length u.length ks) ∧ ∃ v5 v6, σ = [some (.ref a), some (.ref b), some (.str "covers"), some (.ref fd), some (.ref w), v5, v6]) ?_ (fun j σ H2 _ h2 => SqL.of h2.2.1) ?_ ?_⟩
      · refine ⟨s1.trans s2, s2 _ _ hf1, ⟨[], upd_same, Nat.le_refl _, fun q hq => ?_⟩, _, _, rfl⟩
        rw [List.take_zero] at hq; cases hq
      · rintro j x σ H2 hx ⟨sH, hf2, hw2, v5, v6, rfl⟩
        rw [vInts_rev] at hx
        obtain ⟨q, hq, rfl⟩ := vInts_get hx
        have hqk : q ∈ ks := List.mem_reverse.mp (List.mem_of_getElem? hq)
        have hjl : j < ks.length := by have := (List.getElem?_eq_some_iff.mp hq).1; rw [List.length_reverse] at this; exact this
        refine ⟨_, rfl, _, rfl, _, rfl, b, _, rfl, SqL.of (sH _ _ hb), fd, ks, q, u.length, by rw [List.length_map]; rfl, hf2, by omega, fun n H3 hn0 hn3 s4 => ?_⟩
        refine ⟨n, rfl, ⟨_, SqL.of hn3⟩, fun D hD cb => ?_⟩
        have nl := near_len u.length ks q
        have hw3 := hw2.same s4
        refine comp_list (K := K) (a := n) (xs := vInts (nearOf u.length ks q)) (fun i ys H4 => (∃ cs : List Addr, ys = cs.map V.ref ∧ cs.length = i ∧ ∀ (k : Nat) (c : Addr) (o : Nat), cs[k]? = some c → (nearOf u.length ks q)[k]? = some o → H3 c = some (.lst (vInts (bestF t.length u.length ks o)))) ∧ Same H3 H4 ∧ H4 D = some (.lst ys)) (by rw [vInts_len]; exact small1000 (by omega)) ?_ ?_ ?_ ?_ ?_
        · exact ⟨⟨[], rfl, rfl, fun k c o h => by simp at h⟩, Same.upd hD, upd_same⟩
        · rintro i ys H4 ⟨⟨cs, rfl, hl, _⟩, _⟩
          rw [List.length_map, hl]; exact Nat.le_refl _
        · rintro i ys H4 _ ⟨_, s5, _⟩; exact SqL.of (s5 _ _ hn3)
        · rintro i x ys H4 hx ⟨⟨cs, rfl, hl, hcs⟩, s5, hD4⟩
          obtain ⟨o, ho, rfl⟩ := vInts_get hx
          have hon := List.mem_of_getElem? ho
          unfold nearOf at hon
          rw [List.mem_filter] at hon
          have hlt : q < o := by have := hon.2; simp at this; exact this.1
          obtain ⟨kvs, z1, _, z3⟩ := id hw3
          obtain ⟨c', e1, _, hc'⟩ := z3 o (mem_rev_take srt hq hon.1 hlt)
          have dg := DGet.k (k := .inl (o : Int)) (s5 _ _ z1)
          rw [e1] at dg
          refine tNoIf_go ⟨_, rfl, _, rfl, w, _, rfl, dg, hD4, ⟨cs ++ [c'], by simp, by simp [hl], fun k c o' h1 h2 => ?_⟩, ?_, upd_same⟩
          · by_cases hk : k < cs.length
            · rw [List.getElem?_append_left hk] at h1
              exact hcs k c o' h1 h2
            · rw [List.getElem?_append_right (by omega)] at h1
              have hz : k - cs.length = 0 := by
                by_cases hz : k - cs.length = 0
                · exact hz
                · rw [List.getElem?_eq_none (by simp; omega)] at h1; cases h1
              rw [hz] at h1
              have e1 : c' = c := Option.some.inj h1
              have hki : k = i := by omega
              rw [hki, ho] at h2
              have e2 : o = o' := Option.some.inj h2
              rw [← e1, ← e2]
              exact hc'
          · intro e o' z
            rw [upd_ne (ne_of_none z hD)]
            exact s5 _ _ z
        · rintro ys H4 ⟨⟨cs, rfl, hl, hcs⟩, s5, hD4⟩
          rw [vInts_len] at hl
          have s45 := s4.trans s5
          have sH4 := sH.trans s45
          refine ⟨_, rfl, by show 1 ≤ sizeLine; decide, fun l1 hl1 => ?_⟩
          have s6 := Same.upd (o := .lst [V.int (q : Int)]) hl1
          refine ⟨_, rfl, Nat.zero_le _, fun l2 hl2 => ?_⟩
          have s7 := Same.upd (o := .lst []) hl2
          have s67 := s6.trans s7
          have h17 := s7 _ _ (upd_same (H := H4) (a := l1) (o := .lst [V.int (q : Int)]))
          have h27 := upd_same (H := L2.upd H4 l1 (.lst [V.int (q : Int)])) (a := l2) (o := .lst [])
          generalize L2.upd (L2.upd H4 l1 (.lst [V.int (q : Int)])) l2 (.lst []) = H7 at s67 h17 h27 ⊢
          have s37 := s5.trans s67
          have hw7 := hw3.same s37
          have sH7 := sH4.trans s67
          have fin : ∀ (c : Addr) (L : List Nat), H7 c = some (.lst (vInts L)) → L.length ≤ 950 → q :: L = bestF t.length u.length ks q → rCat (.ref l1) (.ref c) H7 fun x H8 => ∃ (H9 : Hp), DPut H8 w (.int (q : Int)) x H9 ∧ Same H H9 ∧ H9 fd = some (.lst (vInts ks)) ∧ DictL H H9 w (ks.reverse.take (j + 1)) (bestF t.length u.length ks) := by
            intro c L hc hL hLF
            refine ⟨l1, c, _, _, rfl, rfl, h17, hc, by rw [vInts_len]; exact sz (by show 1 + L.length ≤ 1000; omega), fun p hp => ?_⟩
            have e8 : [V.int (q : Int)] ++ vInts L = vInts (q :: L) := rfl
            rw [e8]
            have s8 := Same.upd (o := .lst (vInts (q :: L))) hp
            have hqn : q ∉ ks.reverse.take j := by
              intro z
              have nd : ks.reverse.Nodup := (List.reverse_perm ks).nodup_iff.mpr (srt.imp fun h => Nat.ne_of_lt h)
              have hsp := List.take_append_drop j ks.reverse
              obtain ⟨h1, h2⟩ := List.getElem?_eq_some_iff.mp hq
              rw [List.drop_eq_getElem_cons h1, h2] at hsp
              rw [← hsp, List.nodup_append] at nd
              exact nd.2.2 q z q List.mem_cons_self rfl
            obtain ⟨H9, put, hw9, k9⟩ := (hw7.same s8).put (q := q) (L := q :: L) hqn hLF (by rw [List.length_take, List.length_reverse]; omega) (sH7.free hp) upd_same
            refine ⟨H9, put, fun e o z => k9 _ _ (s8 _ _ (sH7 _ _ z)) (ne_of_none z wn), k9 _ _ (s8 _ _ (s67 _ _ (s45 _ _ hf2))) (ne_of_none hf1 hw), by rw [take_snoc hq]; exact hw9⟩
          refine ⟨D, cs, (nearOf u.length ks q).map fun o => vInts (bestF t.length u.length ks o), rfl, s67 _ _ hD4, by rw [List.length_map, hl], fun i c xs h1 h2 => ?_, fun hnil => ?_, fun i c xi h1 h2 best => ?_⟩
          · rw [List.getElem?_map] at h2
            cases eo : (nearOf u.length ks q)[i]? with
            | none => rw [eo] at h2; cases h2
            | some o =>
              rw [eo] at h2
              rw [← Option.some.inj h2]
              exact s37 _ _ (hcs i c o h1 eo)
          · obtain ⟨c, rc⟩ : ∃ c, c = l2 := ⟨_, rfl⟩
            have hnn : nearOf u.length ks q = [] := List.length_eq_zero_iff.mp (by rw [← hl, hnil]; rfl)
            have fz := fin l2 [] h27 (Nat.zero_le _) (by rw [bestF_step C hqk, hnn]; rfl)
            obtain ⟨l0, b0, xs0, zs0, e1, e2, e3, e4, e5, e6⟩ := fz
            refine ⟨l0, b0, xs0, zs0, e1, e2, e3, e4, e5, fun p hp => ?_⟩
            obtain ⟨H9, put, r1, r2, r3⟩ := e6 p hp
            exact ⟨_, rfl, _, rfl, w, H9, rfl, put, r1, r2, r3, _, _, rfl⟩
          · rw [List.getElem?_map] at h2
            cases eo : (nearOf u.length ks q)[i]? with
            | none => rw [eo] at h2; cases h2
            | some o =>
              have hon := List.mem_of_getElem? eo
              unfold nearOf at hon
              rw [List.mem_filter] at hon
              have hlt : q < o := by have := hon.2; simp at this; exact this.1
              have hne : nearOf u.length ks q ≠ [] := fun z => by rw [z] at eo; simp at eo
              have exi : xi = vInts (bestF t.length u.length ks o) := by rw [eo] at h2; exact (Option.some.inj h2).symm
              obtain ⟨pre, x0, post, e0, e1, e2, e3⟩ := fmin_at (f := bestF t.length u.length ks) hne
              have hio : o = x0 := by
                have ix : (nearOf u.length ks q)[pre.length]? = some x0 := by rw [e0]; simp
                have b0 := (best pre.length (vInts (bestF t.length u.length ks x0)) (by rw [List.getElem?_map, ix]; rfl))
                rw [exi, vInts_len, vInts_len] at b0
                have hoi := e2 o (List.mem_of_getElem? eo)
                rcases Nat.lt_trichotomy i pre.length with z | z | z
                · have hop : o ∈ pre := by
                    rw [e0, List.getElem?_append_left z] at eo
                    exact List.mem_of_getElem? eo
                  have := e3 o hop
                  omega
                · rw [z, ix] at eo; exact (Option.some.inj eo).symm
                · have := b0.2 z; omega
              have fz := fin c (bestF t.length u.length ks o) (s37 _ _ (hcs i c o h1 eo)) (by have := bestF_short C hon.1; omega) (by rw [bestF_step C hqk, e1, hio])
              obtain ⟨l0, b0, xs0, zs0, e1, e2, e3, e4, e5, e6⟩ := fz
              refine ⟨l0, b0, xs0, zs0, e1, e2, e3, e4, e5, fun p hp => ?_⟩
              obtain ⟨H9, put, r1, r2, r3⟩ := e6 p hp
              exact ⟨_, rfl, _, rfl, w, H9, rfl, put, r1, r2, r3, _, _, rfl⟩
      · rintro σ H2 ⟨sH, hf2, hw2, v5, v6, rfl⟩
        rw [vInts_len, List.take_of_length_le (by rw [List.length_reverse]; exact Nat.le_refl _)] at hw2
        obtain ⟨c, dg, c0, hc⟩ := hw2.get (List.mem_reverse.mpr h0)
        exact ⟨_, rfl, w, _, rfl, dg, k' c H2 c0 hc sH⟩
end

end Ov

namespace Ov
open PySem L2
abbrev sMany : Stmt := top 23
def spMany : Sp := fun vs H Q _ => ∃ (a b : Addr) (t u : List Nat), vs = [.ref a, .ref b] ∧ H a = some (.lst (t.map sg)) ∧ H b = some (.lst (u.map sg)) ∧ Low t ∧ Low u ∧ 1 ≤ t.length ∧ t.length ≤ 900 ∧ u.length ≤ 900 ∧ 1 ≤ u.length ∧
  ∀ H', Same H H' → Q (.int (wys t.length u.length 0 (liesIn t u) : Nat)) H'
section
variable {n m : Nat} {ks : List Nat}
theorem set_least (C : Cvr n m ks) (n1 : 1 ≤ n) {Z : List Nat} (hZ : Z.Sublist ks) (hb : bareOf n m Z = n) : lenF n m ks 0 ≤ Z.length ∧ (Z.length = lenF n m ks 0 → ltL (toI Z) (toI (bestF n m ks 0)) = false) := by
  have sz := List.Pairwise.sublist hZ C.srt
  have hf : fb m 0 Z = n := by rw [fb_bare sz fun p hp => C.lim p (hZ.subset hp)]; exact hb
  cases Z with
  | nil => simp only [fb] at hf; omega
  | cons p r =>
    simp only [fb] at hf
    have p0 : p = 0 := by
      by_cases hp : p > 0
      · rw [if_pos hp] at hf; omega
      · omega
    subst p0
    rw [if_neg (by omega)] at hf
    exact bestF_least C r 0 (fun x hx => hZ.subset hx) sz hf
theorem best_covers (C : Cvr n m ks) (h0 : 0 ∈ ks) : bareOf n m (bestF n m ks 0) = n ∧ (bestF n m ks 0).Sublist ks := by
  obtain ⟨r, e, h1, h2, h3⟩ := bestF_chain C _ 0 (Nat.le_refl _) h0
  refine ⟨?_, by rw [e]; exact sub_of C.srt h2 h3⟩
  rw [e, ← fb_bare h2 fun p hp => C.lim p (h3 p hp)]
  simp only [fb]
  rw [if_neg (by omega)]
  exact h1
end
section
variable {P : Program} {w : World} {K : PySem.W.Frag} {mg : Str → Option Value} {base : Heap}
theorem scMany : FnScope ["text", "word", "kind", "found", "ways", "place", "tails"] ["text", "word"] (defScope sMany) := ⟨rfl, rfl, rfl, by decide +kernel, rfl, by decide +kernel, by decide +kernel⟩
theorem ok_many (M : Md K mg) (B : Bl mg) (F : FF K "how_many_layings" sMany) (Fcovered : Fn P w K mg base CX0 "covered" 5 ["text", "word"] spCovered) (Fwithin_reach : Fn P w K mg base CX0 "within_reach" 1 ["places", "place", "many"] spWithin) : Fn P w K mg base CX0 "how_many_layings" 6 ["text", "word"] spMany := by
  refine fn_ok M F scMany (fun _ _ _ _ _ _ => us2 fun _ _ => rfl) (fun vs H Q E h => ?_) (fun f cdv A outer s H vs Q E hr h => ?_)
  · obtain ⟨a, b, t, u, rfl, _⟩ := h; rfl
  · obtain ⟨a, b, t, u, rfl, ha, hb, lt, lu, t1, tl, ul, u1, k⟩ := h
    refine ⟨_, (pss_cons (ps_asg (pe_fn Fcovered hr pass0 (pa_cons (pv 0) (pa_cons (pv 1) pa_nil))) (pg_tup rfl (pgs_cons (pg_name (i := 2) scMany.nd rfl (by first | exact Or.inl rfl | exact Or.inr rfl)) (pgs_cons (pg_name (i := 3) scMany.nd rfl (by first | exact Or.inl rfl | exact Or.inr rfl)) pgs_nil))))
      (pss_cons (ps_if (pt_cmpR op_eq (pv 2) pe_str (nomark _)) (pss_one (ps_ret pe_int)) pss_nil)
      (pss_cons (ps_set (i := 4) scMany.nd rfl (by first | exact Or.inl rfl | exact Or.inr rfl) pe_dnewK)
      (pss_cons (ps_for PassesOwn.never rfl (pi_rev B.rev (pv 3)) (pg_name (i := 5) scMany.nd rfl (by first | exact Or.inl rfl | exact Or.inr rfl))
      (pss_cons (ps_setC (i := 6) ["text", "word", "kind", "found", "ways", "place", "tails"] rfl scMany.nd rfl (by first | exact Or.inl rfl | exact Or.inr rfl) (pi_list (pe_fn Fwithin_reach hr pass0 (pa_cons (pv 3) (pa_cons (pv 5) (pa_cons (pe_lenL B.len (pv 1)) pa_nil))))) (fun _ => by exact pif_nil) (fun _ => by exact (pe_dget (by exact hu_of hr) (pv 4) (pv 7) (fun _ _ => rfl))))
      (pss_one (ps_dput (by exact hu_of hr) (pv 4) (pv 5) (pe_ifExp (pt_truth (pv 6) (fun _ => rfl)) (pe_sumG rfl B.sum (pv 6)) pe_int) rfl))))
      (pss_one (ps_ret (pe_dget (by exact hu_of hr) (pv 4) pe_int (fun _ _ => rfl)))))))), ?_⟩
    have srt := lies_sorted t u
    have hin : ∀ p ∈ liesIn t u, p + u.length ≤ t.length := fun p hp => lies_in hp u1
    have ll := lies_len t u
    refine ⟨_, rfl, _, rfl, a, b, t, u, rfl, ha, hb, lt, lu, t1, tl, ul, u1, ?_, ?_⟩
    · intro r H1 hr0 s1 hlt hr1
      refine ⟨r, _, rfl, SqT.of hr1, rfl, _, _, rfl, _, _, rfl, rfl, ?_⟩
      refine ⟨_, rfl, rfl, _, rfl, iteT ?_⟩
      have out := k H1 s1
      rw [wys_bare u1 srt hin hlt] at out
      exact out
    · intro r fd H1 hr0 hf0 s1 hcov hf1 hr1
      refine ⟨r, _, rfl, SqT.of hr1, rfl, _, _, rfl, _, _, rfl, rfl, ?_⟩
      refine ⟨_, rfl, rfl, _, rfl, ?_⟩
      rw [decide_eq_false (by rw [kind_ne]; exact id)]
      refine iteF ?_
      generalize hks : liesIn t u = ks at *
      intro w hw
      have s2 := Same.upd (o := .dK []) hw
      have wn : H w = none := s1.free hw
      refine ⟨_, rfl, fd, _, rfl, SqL.of (s2 _ _ hf1), for_rev (K := K) (a := fd) (xs := vInts ks) (fun j σ H2 => Same H H2 ∧ H2 fd = some (.lst (vInts ks)) ∧ DictN H2 w (ks.reverse.take j) (fun q => ((wyAt t.length u.length ks q : Nat) : Int)) ∧ ∃ v5 v6, σ = [some (.ref a), some (.ref b), some (.str "covers"), some (.ref fd), some (.ref w), v5, v6]) ?_ (fun j σ H2 _ h2 => SqL.of h2.2.1) ?_ ?_⟩
      · exact ⟨s1.trans s2, s2 _ _ hf1, DictN.new upd_same, _, _, rfl⟩
      · rintro j x σ H2 hx ⟨sH, hf2, hw2, v5, v6, rfl⟩
        rw [vInts_rev] at hx
        obtain ⟨q, hq, rfl⟩ := vInts_get hx
        have hqk : q ∈ ks := List.mem_reverse.mp (List.mem_of_getElem? hq)
        refine ⟨_, rfl, _, rfl, _, rfl, b, _, rfl, SqL.of (sH _ _ hb), fd, ks, q, u.length, by rw [List.length_map]; rfl, hf2, by omega, fun n H3 hn0 hn3 s4 => ?_⟩
        refine ⟨n, rfl, ⟨_, SqL.of hn3⟩, fun D hD cb => ?_⟩
        have nl := near_len u.length ks q
        refine comp_list (K := K) (a := n) (xs := vInts (nearOf u.length ks q)) (fun i ys H4 => ys = (((nearOf u.length ks q).take i).map fun o => V.int ((wyAt t.length u.length ks o : Nat) : Int)) ∧ Same H3 H4 ∧ H4 D = some (.lst ys)) (by rw [vInts_len]; exact small1000 (by omega)) ?_ ?_ ?_ ?_ ?_
        · exact ⟨rfl, Same.upd hD, upd_same⟩
        · rintro i ys H4 ⟨rfl, _⟩
          rw [List.length_map, List.length_take]; omega
        · rintro i ys H4 _ ⟨_, s5, _⟩; exact SqL.of (s5 _ _ hn3)
        · rintro i x ys H4 hx ⟨rfl, s5, hD4⟩
          obtain ⟨o, ho, rfl⟩ := vInts_get hx
          have hon := List.mem_of_getElem? ho
          unfold nearOf at hon
          rw [List.mem_filter] at hon
          have hlt : q < o := by have := hon.2; simp at this; exact this.1
          refine tNoIf_go ⟨_, rfl, _, rfl, w, _, rfl, DictN.get (f := fun q => ((wyAt t.length u.length ks q : Nat) : Int)) (qs := ks.reverse.take j) ?_ (mem_rev_take srt hq hon.1 hlt), hD4, ?_, ?_, upd_same⟩
          · obtain ⟨kvs, z1, z2⟩ := hw2
            exact ⟨kvs, s5 _ _ (s4 _ _ z1), z2⟩
          · rw [take_snoc ho, List.map_append]; rfl
          · intro e o' z
            rw [upd_ne (ne_of_none z hD)]
            exact s5 _ _ z
        · rintro ys H4 ⟨rfl, s5, hD4⟩
          rw [vInts_len, List.take_length] at hD4
          have hD4' : H4 D = some (.lst (((nearOf u.length ks q).map fun o => ((wyAt t.length u.length ks o : Nat) : Int)).map V.int)) := by
            rw [hD4, List.map_map]; rfl
          have s45 := s4.trans s5
          have hw4 : DictN H4 w (ks.reverse.take j) (fun q => ((wyAt t.length u.length ks q : Nat) : Int)) := by
            obtain ⟨kvs, z1, z2⟩ := hw2
            exact ⟨kvs, s45 _ _ z1, z2⟩
          have sH4 := sH.trans s45
          have fin : ∀ z : Int, z = ((wyAt t.length u.length ks q : Nat) : Int) → ∃ H5, DPut H4 w (.int (q : Int)) (.int z) H5 ∧ (Same H H5 ∧ H5 fd = some (.lst (vInts ks)) ∧ DictN H5 w (ks.reverse.take (j + 1)) (fun q => ((wyAt t.length u.length ks q : Nat) : Int))) := by
            intro z hz
            obtain ⟨H5, put, hw5, k5⟩ := hw4.put (q := q) (z := z) hz (by rw [List.length_take, List.length_reverse]; omega)
            refine ⟨H5, put, fun e o z => k5 _ _ (sH4 _ _ z) (ne_of_none z wn), k5 _ _ (s45 _ _ hf2) (ne_of_none hf1 hw), by rw [take_snoc hq]; exact hw5⟩
          have ec := wyAt_cov srt u1 hin hqk hcov
          by_cases hnil : nearOf u.length ks q = []
          · rw [if_pos hnil] at ec
            obtain ⟨H5, put, r5⟩ := fin 1 (by rw [ec]; rfl)
            refine ⟨_, rfl, false, .inl ⟨_, SqL.of hD4', by rw [hnil]; rfl⟩, iteF ?_⟩
            exact ⟨_, rfl, _, rfl, w, H5, rfl, put, r5.1, r5.2.1, r5.2.2, _, _, rfl⟩
          · rw [if_neg hnil] at ec
            obtain ⟨H5, put, r5⟩ := fin _ (show (((nearOf u.length ks q).map fun o => ((wyAt t.length u.length ks o : Nat) : Int)).sum) = _ by rw [sum_cast, ec])
            refine ⟨_, rfl, true, .inl ⟨_, SqL.of hD4', ?_⟩, iteT ?_⟩
            · obtain ⟨y, l, e⟩ := List.exists_cons_of_ne_nil hnil
              rw [e]; rfl
            · exact ⟨_, rfl, D, _, rfl, hD4', _, rfl, _, rfl, w, H5, rfl, put, r5.1, r5.2.1, r5.2.2, _, _, rfl⟩
      · rintro σ H2 ⟨sH, hf2, hw2, v5, v6, rfl⟩
        rw [vInts_len, List.take_of_length_le (by rw [List.length_reverse]; exact Nat.le_refl _)] at hw2
        have h0 := cov_zero t1 hcov
        have out := k H2 sH
        rw [wys_zero t1 srt, if_pos h0] at out
        exact ⟨_, rfl, w, _, rfl, hw2.get (q := 0) (List.mem_reverse.mpr h0), out⟩
end

end Ov

namespace Ov
open PySem L2
abbrev sCovBeg : Stmt := top 25
section
variable {P : Program} {w : World} {K : PySem.W.Frag} {mg : Str → Option Value} {base : Heap}
theorem ce_snoc {m : Nat} {ks done : List Nat} {i p R : Nat} (hp : ks[i]? = some p) (e : ce m 0 ks = done ++ ce m R (ks.drop i)) : ce m 0 ks = if p > R then done else (done ++ [p + m]) ++ ce m (p + m) (ks.drop (i + 1)) := by
  obtain ⟨h1, h2⟩ := List.getElem?_eq_some_iff.mp hp
  rw [e, List.drop_eq_getElem_cons h1, h2]
  simp only [ce]
  split <;> simp
theorem scCovBeg : FnScope ["text", "word", "lengths", "reach", "place"] ["text", "word"] (defScope sCovBeg) := ⟨rfl, rfl, rfl, by decide +kernel, rfl, by decide +kernel, by decide +kernel⟩
theorem ok_covbeg (M : Md K mg) (B : Bl mg) (F : FF K "covered_beginnings" sCovBeg) (Flies_at : Fn P w K mg base CX0 "lies_at" 4 ["text", "word"] spLies) : Fn P w K mg base CX0 "covered_beginnings" 5 ["text", "word"] spBegs := by
  refine fn_ok M F scCovBeg (fun _ _ _ _ _ _ => us2 fun _ _ => rfl) (fun vs H Q E h => ?_) (fun f cdv A outer s H vs Q E hr h => ?_)
  · obtain ⟨a, b, t, u, rfl, _⟩ := h; rfl
  · obtain ⟨a, b, t, u, rfl, ha, hb, lt, lu, tl, ul, u1, k⟩ := h
    refine ⟨_, (pss_cons (ps_set (i := 2) scCovBeg.nd rfl (by first | exact Or.inl rfl | exact Or.inr rfl) (pe_lst pa_nil))
      (pss_cons (ps_set (i := 3) scCovBeg.nd rfl (by first | exact Or.inl rfl | exact Or.inr rfl) pe_int)
      (pss_cons (ps_for PassesOwn.never rfl (pi_list (pe_fn Flies_at hr pass0 (pa_cons (pv 0) (pa_cons (pv 1) pa_nil)))) (pg_name (i := 4) scCovBeg.nd rfl (by first | exact Or.inl rfl | exact Or.inr rfl))
      (pss_cons (ps_if (pt_cmpR op_gt (pv 4) (pv 3) (nomark _)) (pss_one (ps_ret (pv 2))) pss_nil)
      (pss_cons (ps_set (i := 3) scCovBeg.nd rfl (by first | exact Or.inl rfl | exact Or.inr rfl) (pe_op op_add (pv 4) (pe_lenL B.len (pv 1))))
      (pss_one (ps_expr (pe_bm PySem.F.plainAttrs_list PySem.F.slot_list_append PySem.F.type_list_append mt_append (pv 2) (pa_cons (pv 3) pa_nil)))))))
      (pss_one (ps_ret (pv 2)))))), ?_⟩
    refine ⟨Nat.zero_le _, fun r hrn => ?_⟩
    have s0 := Same.upd (o := .lst []) hrn
    refine ⟨_, rfl, _, rfl, a, b, t, u, rfl, s0 _ _ ha, s0 _ _ hb, lt, lu, tl, ul, u1, fun q H1 hq0 hq1 s1 => ?_⟩
    have hrq : r ≠ q := ne_of_none upd_same hq0
    refine ⟨q, rfl, ⟨_, SqL.of hq1⟩, ?_⟩
    have ll := lies_len t u
    refine for_list (K := K) (a := q) (xs := vInts (liesIn t u)) (fun i σ H2 => Same H H2 ∧ H2 q = some (.lst (vInts (liesIn t u))) ∧ ∃ (done : List Nat) (R : Nat) (v4 : Option V), σ = [some (.ref a), some (.ref b), some (.ref r), some (.int (R : Int)), v4] ∧ H2 r = some (.lst (vInts done)) ∧ begs t u = done ++ ce u.length R ((liesIn t u).drop i)) ?_ ?_ ?_ ?_
    · exact ⟨s0.trans s1, hq1, [], 0, none, rfl, s1 _ _ upd_same, rfl⟩
    · rintro i σ H2 _ ⟨_, h2, _⟩
      exact SqL.of h2
    · rintro i x σ H2 hx ⟨s2, hq2, done, R, v4, rfl, hr2, e⟩
      obtain ⟨p, hp, rfl⟩ := vInts_get hx
      have e' := ce_snoc hp e
      refine ⟨_, rfl, _, rfl, _, _, rfl, rfl, _, rfl, ?_⟩
      refine ite2 (fun hc => ?_) (fun hc => ?_)
      · have hc' : R < p := by simpa using hc
        rw [if_pos hc'] at e'
        refine ⟨_, rfl, k r H2 hrn ?_ s2⟩
        rw [hr2, show begs t u = done from e']
      · have hc' : ¬ p > R := by simpa using hc
        rw [if_neg hc'] at e'
        refine ⟨_, rfl, _, rfl, b, _, rfl, SqL.of (s2 _ _ hb), _, _, rfl, rfl, ?_⟩
        rw [List.length_map]
        have hd : done.length + 1 ≤ 901 := by
          have h1 := begs_len t u
          have h2 := congrArg List.length (show begs t u = _ from e')
          simp only [List.length_append, List.length_singleton] at h2
          omega
        refine ⟨_, rfl, .inl ⟨rfl, _, SqL.of hr2⟩, _, rfl, r, _, _, rfl, rfl, hr2, ?_, ?_⟩
        · rw [vInts_len]; exact small1000 (by omega)
        · refine ⟨?_, ?_, done ++ [p + u.length], p + u.length, some (.int (p : Int)), ?_, ?_, e'⟩
          · intro b o e
            rw [upd_ne (ne_of_none e hrn)]
            exact s2 b o e
          · rw [upd_ne hrq.symm]; exact hq2
          · rw [Int.natCast_add]; rfl
          · rw [upd_same, vInts_snoc', Int.natCast_add]
    · rintro σ H2 ⟨s2, hq2, done, R, v4, rfl, hr2, e⟩
      rw [vInts_len, List.drop_length] at e
      simp only [ce, List.append_nil] at e
      exact ⟨_, rfl, k r H2 hrn (by rw [hr2, e]) s2⟩
end

end Ov

namespace Ov
open PySem L2
/-- rows of whole numbers: r a list of lists, new since H0 -/
structure Rows (H0 H : Hp) (r : Addr) (cs : List Addr) (f : Nat → List Nat) : Prop where
  top : H r = some (.lst (cs.map V.ref))
  nd : cs.Nodup
  row : ∀ i c, cs[i]? = some c → H c = some (.lst (vInts (f i)))
  fr : H0 r = none
  frs : ∀ c ∈ cs, H0 c = none
  nr : r ∉ cs
theorem Rows.same {H0 H H' : Hp} {r : Addr} {cs : List Addr} {f : Nat → List Nat} (R : Rows H0 H r cs f) (s : Same H H') : Rows H0 H' r cs f :=
  ⟨s _ _ R.top, R.nd, fun i c h => s _ _ (R.row i c h), R.fr, R.frs, R.nr⟩
theorem Rows.ext {H0 H : Hp} {r : Addr} {cs : List Addr} {f g : Nat → List Nat} (R : Rows H0 H r cs f) (e : ∀ i, i < cs.length → f i = g i) : Rows H0 H r cs g :=
  ⟨R.top, R.nd, fun i c h => by rw [← e i (List.getElem?_eq_some_iff.mp h).1]; exact R.row i c h, R.fr, R.frs, R.nr⟩
theorem Rows.up {H0 H1 H : Hp} {r : Addr} {cs : List Addr} {f : Nat → List Nat} (R : Rows H1 H r cs f) (s : Same H0 H1) : Rows H0 H r cs f :=
  ⟨R.top, R.nd, R.row, s.free R.fr, fun c hc => s.free (R.frs c hc), R.nr⟩
theorem Rows.app {H0 H : Hp} {r : Addr} {cs : List Addr} {f : Nat → List Nat} (R : Rows H0 H r cs f) {i : Nat} {c : Addr} (h : cs[i]? = some c) (v : Nat) :
    Rows H0 (L2.upd H c (.lst (vInts (f i) ++ [V.int (v : Int)]))) r cs (fun j => if j = i then f i ++ [v] else f j) := by
  have hc : c ∈ cs := List.mem_of_getElem? h
  refine ⟨?_, R.nd, fun j d hd => ?_, R.fr, R.frs, R.nr⟩
  · rw [upd_ne (fun q => R.nr (by rw [q]; exact hc))]; exact R.top
  · by_cases hj : j = i
    · subst hj
      rw [h] at hd; cases hd
      rw [upd_same, if_pos rfl, vInts_snoc']
    · have hne : d ≠ c := fun q => hj (by
        have hl : i < cs.length := (List.getElem?_eq_some_iff.mp h).1
        have := (List.getElem?_inj (j := j) hl R.nd).mp (by rw [h, hd, q])
        exact this.symm)
      rw [upd_ne hne, if_neg hj]
      exact R.row j d hd
/-- the sizes up to k whose beginnings cover the beginning of e signs -/
def lensAt (t : List Nat) (k e : Nat) : List Nat := ((List.range k).map (· + 1)).filter fun m => decide (e ∈ begs t (t.take m))
theorem lens_step (t : List Nat) (k e : Nat) : lensAt t (k + 1) e = lensAt t k e ++ (if e ∈ begs t (t.take (k + 1)) then [k + 1] else []) := by
  unfold lensAt
  rw [List.range_succ, List.map_append, List.filter_append]
  congr 1
  by_cases h : e ∈ begs t (t.take (k + 1)) <;> simp [h]
theorem lens_len (t : List Nat) (k e : Nat) : (lensAt t k e).length ≤ k := by
  unfold lensAt
  have := List.length_filter_le (fun m => decide (e ∈ begs t (t.take m))) ((List.range k).map (· + 1))
  simpa using this
theorem begs_nodup (t u : List Nat) : (begs t u).Nodup := (ce_sorted 0 (lies_sorted t u)).imp fun h => Nat.ne_of_lt h
theorem begs_in {t u : List Nat} {e : Nat} (u1 : 1 ≤ u.length) (h : e ∈ begs t u) : u.length ≤ e ∧ e ≤ t.length := by
  obtain ⟨p, hp, rfl⟩ := ce_mem h
  have := lies_in hp u1
  omega
theorem mem_take_succ {L : List Nat} {j x : Nat} (h : L[j]? = some x) (e : Nat) : e ∈ L.take (j + 1) ↔ e ∈ L.take j ∨ e = x := by
  rw [List.take_succ, h, List.mem_append]
  simp
theorem not_mem_take {L : List Nat} {j x : Nat} (hn : L.Nodup) (h : L[j]? = some x) : x ∉ L.take j := by
  intro hx
  obtain ⟨i, hi⟩ := List.getElem?_of_mem hx
  have hij : i < j := by
    have := (List.getElem?_eq_some_iff.mp hi).1
    rw [List.length_take] at this
    omega
  rw [List.getElem?_take_of_lt hij] at hi
  have := (List.getElem?_inj (j := j) (List.getElem?_eq_some_iff.mp hi).1 hn).mp (by rw [hi, h])
  omega
/-- the row of e behind the first j ends of size k + 1 -/
def lensMid (t : List Nat) (k j e : Nat) : List Nat := lensAt t k e ++ (if e ∈ (begs t (t.take (k + 1))).take j then [k + 1] else [])
theorem mid_zero (t : List Nat) (k e : Nat) : lensMid t k 0 e = lensAt t k e := by simp [lensMid]
theorem mid_all (t : List Nat) (k e : Nat) : lensMid t k (begs t (t.take (k + 1))).length e = lensAt t (k + 1) e := by
  rw [lensMid, List.take_length, lens_step]
theorem mid_step {t : List Nat} {k j x : Nat} (h : (begs t (t.take (k + 1)))[j]? = some x) (e : Nat) : lensMid t k (j + 1) e = if e = x then lensMid t k j x ++ [k + 1] else lensMid t k j e := by
  unfold lensMid
  by_cases he : e = x
  · subst he
    rw [if_pos rfl, if_pos ((mem_take_succ h e).mpr (.inr rfl)), if_neg (not_mem_take (begs_nodup _ _) h), List.append_nil]
  · rw [if_neg he]
    congr 1
    by_cases hm : e ∈ (begs t (t.take (k + 1))).take j
    · rw [if_pos hm, if_pos ((mem_take_succ h e).mpr (.inl hm))]
    · rw [if_neg hm, if_neg (fun q => ((mem_take_succ h e).mp q).elim hm he)]
theorem mid_len (t : List Nat) (k j e : Nat) : (lensMid t k j e).length ≤ k + 1 := by
  unfold lensMid
  rw [List.length_append]
  have := lens_len t k e
  split <;> simp <;> omega
/-- all sizes that cover the beginning of e signs -/
def lens (t : List Nat) (e : Nat) : List Nat := lensAt t t.length e
theorem mem_lens {t : List Nat} {e m : Nat} : m ∈ lens t e ↔ 1 ≤ m ∧ m ≤ t.length ∧ e ∈ begs t (t.take m) := by
  unfold lens lensAt
  rw [List.mem_filter, List.mem_map, decide_eq_true_eq]
  constructor
  · rintro ⟨⟨x, hx, rfl⟩, h⟩
    have : x < t.length := by simpa using hx
    exact ⟨by omega, by omega, h⟩
  · rintro ⟨h1, h2, h3⟩
    exact ⟨⟨m - 1, by simp; omega, by omega⟩, h3⟩
theorem lens_sorted (t : List Nat) (k e : Nat) : (lensAt t k e).Pairwise (· < ·) := List.Pairwise.filter _ (List.pairwise_map.mpr (List.pairwise_lt_range.imp fun q => by omega))
theorem lens_own {t : List Nat} {e : Nat} (e1 : 1 ≤ e) (e2 : e ≤ t.length) : e ∈ lens t e := by
  rw [mem_lens]
  refine ⟨e1, e2, ?_⟩
  have hl : (t.take e).length = e := by rw [List.length_take]; omega
  have h0 : 0 ∈ liesIn t (t.take e) := mem_lies.mpr ⟨by rw [hl]; omega, by rw [hl, List.drop_zero]⟩
  unfold begs
  cases q : liesIn t (t.take e) with
  | nil => rw [q] at h0; cases h0
  | cons p r =>
    have hs := lies_sorted t (t.take e)
    rw [q] at hs h0
    have : p = 0 := by
      rcases List.mem_cons.mp h0 with z | z
      · exact z.symm
      · have := (List.pairwise_cons.mp hs).1 0 z; omega
    subst this
    simp only [ce, hl]
    rw [if_neg (by omega)]
    simp
theorem lens_le {t : List Nat} {e m : Nat} (h : m ∈ lens t e) : m ≤ e := by
  obtain ⟨h1, h2, h3⟩ := mem_lens.mp h
  have hl : (t.take m).length = m := by rw [List.length_take]; omega
  have := (begs_in (by omega) h3).1
  omega
theorem sorted_split : ∀ {L : List Nat} {e : Nat}, L.Pairwise (· < ·) → e ∈ L → (∀ m ∈ L, m ≤ e) → ∃ L', L = L' ++ [e] ∧ ∀ m ∈ L', m < e
  | [], _, _, h, _ => by cases h
  | [x], e, _, h, _ => by
    have : e = x := by simpa using h
    subst this
    exact ⟨[], rfl, by simp⟩
  | x :: y :: r, e, hs, h, hm => by
    have hs' := List.pairwise_cons.mp hs
    have hxy := hs'.1 y List.mem_cons_self
    have hy := hm y (by simp)
    have he : e ∈ y :: r := by
      rcases List.mem_cons.mp h with q | q
      · omega
      · exact q
    obtain ⟨L', e1, e2⟩ := sorted_split hs'.2 he fun m hm' => hm m (List.mem_cons_of_mem _ hm')
    refine ⟨x :: L', by rw [e1]; rfl, fun m h => ?_⟩
    rcases List.mem_cons.mp h with q | q
    · omega
    · exact e2 m q
theorem lens_split {t : List Nat} {e : Nat} (e1 : 1 ≤ e) (e2 : e ≤ t.length) : ∃ L', lens t e = L' ++ [e] ∧ ∀ m ∈ L', m < e :=
  sorted_split (lens_sorted _ _ _) (lens_own e1 e2) fun _ => lens_le
def shortOf (t : List Nat) : List Nat := (List.range t.length).map fun x => (lens t (x + 1)).headD 0
def greatOf (t : List Nat) : List Nat := (List.range t.length).map fun x => ((lens t (x + 1)).filter fun m => decide (m < x + 1)).getLastD 0
def spByLen : Sp := fun vs H Q _ => ∃ (a : Addr) (t : List Nat), vs = [.ref a] ∧ H a = some (.lst (t.map sg)) ∧ Low t ∧ t.length ≤ 900 ∧
  ∀ (r : Addr) (cs : List Addr) (H' : Hp), Rows H H' r cs (lens t) → cs.length = t.length + 1 → Same H H' → Q (.ref r) H'
def spInts (g : List Nat → List Nat) : Sp := fun vs H Q _ => ∃ (a : Addr) (t : List Nat), vs = [.ref a] ∧ H a = some (.lst (t.map sg)) ∧ Low t ∧ t.length ≤ 900 ∧
  ∀ (r : Addr) (H' : Hp), H r = none → H' r = some (.lst (vInts (g t))) → Same H H' → Q (.ref r) H'

end Ov

namespace Ov
open PySem L2
abbrev sByLen : Stmt := top 26
section
variable {P : Program} {w : World} {K : PySem.W.Frag} {mg : Str → Option Value} {base : Heap}
theorem scByLen : FnScope ["text", "found", "many", "length"] ["text"] (defScope sByLen) := ⟨rfl, rfl, rfl, by decide +kernel, rfl, by decide +kernel, by decide +kernel⟩
theorem rows_get {cs : List Addr} {e : Nat} (h : e < cs.length) : ∃ c, cs[e]? = some c ∧ (cs.map V.ref)[e]? = some (.ref c) := by
  refine ⟨cs[e], by simp [h], by simp [h]⟩
theorem ok_bylen (M : Md K mg) (B : Bl mg) (F : FF K "covers_by_length" sByLen) (Fcheck_signs : Fn P w K mg base CX0 "check_signs" 2 ["text"] spCheck) (Fcovered_beginnings : Fn P w K mg base CX0 "covered_beginnings" 5 ["text", "word"] spBegs) : Fn P w K mg base CX0 "covers_by_length" 6 ["text"] spByLen := by
  refine fn_ok M F scByLen (fun _ _ _ _ _ _ => us1 fun _ => rfl) (fun vs H Q E h => ?_) (fun f cdv A outer s H vs Q E hr h => ?_)
  · obtain ⟨a, t, rfl, _⟩ := h; rfl
  · obtain ⟨a, t, rfl, ha, lt, tl, k⟩ := h
    refine ⟨_, (pss_cons (ps_expr (pe_fn Fcheck_signs hr pass0 (pa_cons (pv 0) pa_nil)))
      (pss_cons (ps_setC (i := 1) ["text", "found", "many", ""] rfl scByLen.nd rfl (by first | exact Or.inl rfl | exact Or.inr rfl) (pi_range1 (by rfl) B.range (pa_cons (pe_op op_add (pe_lenL B.len (pv 0)) pe_int) pa_nil)) (fun _ => by exact pif_nil) (fun _ => by exact (pe_lst pa_nil)))
      (pss_cons (ps_for PassesOwn.never rfl (pi_range2 (by rfl) B.range (pa_cons pe_int (pa_cons (pe_op op_add (pe_lenL B.len (pv 0)) pe_int) pa_nil))) (pg_name (i := 2) scByLen.nd rfl (by first | exact Or.inl rfl | exact Or.inr rfl))
      (pss_one (ps_for PassesOwn.never rfl (pi_list (pe_fn Fcovered_beginnings hr pass0 (pa_cons (pv 0) (pa_cons (pe_slice sl_list (pv 0) po_none (po_some (pv 2))) pa_nil)))) (pg_name (i := 3) scByLen.nd rfl (by first | exact Or.inl rfl | exact Or.inr rfl))
      (pss_one (ps_expr (pe_bm PySem.F.plainAttrs_list PySem.F.slot_list_append PySem.F.type_list_append mt_append (pe_ix ix_list (pv 1) (pv 3) (fun _ _ => rfl)) (pa_cons (pv 2) pa_nil)))))))
      (pss_one (ps_ret (pv 1)))))), ?_⟩
    refine ⟨_, rfl, a, t, rfl, ha, lt, ?_⟩
    refine ⟨_, rfl, a, _, rfl, SqL.of ha, _, _, rfl, rfl, _, rfl, by rw [List.length_map]; omega, by rw [List.length_map]; omega, fun r hrn cb => ?_⟩
    rw [List.length_map, show ((t.length : Int) + 1).toNat = t.length + 1 by omega]
    refine comp_range (lo := 0) (n := t.length + 1) (fun i ys H2 => ∃ cs : List Addr, ys = cs.map V.ref ∧ Rows H H2 r cs (fun _ => []) ∧ cs.length = i ∧ Same H H2) (small1000 (by omega)) ?_ ?_ ?_ ?_
    · exact ⟨[], rfl, ⟨upd_same, List.nodup_nil, fun i c h => by simp at h, hrn, fun c hc => by (cases hc), fun hc => by (cases hc)⟩, rfl, Same.upd hrn⟩
    · rintro i ys H2 ⟨cs, rfl, _, rfl, _⟩
      simp
    · rintro i ys H2 hi ⟨cs, rfl, R, rfl, s2⟩
      refine tNoIf_go ?_
      refine ⟨Nat.zero_le _, fun l hl => ?_⟩
      have sl := Same.upd (o := .lst []) hl
      have hlr : r ≠ l := ne_of_none R.top hl
      have hlc : l ∉ cs := fun q => by
        obtain ⟨i, hi⟩ := List.getElem?_of_mem q
        exact ne_of_none (R.row i l hi) hl rfl
      refine ⟨sl _ _ R.top, cs ++ [l], by simp, ⟨by rw [upd_same]; simp, ?_, ?_, hrn, ?_, ?_⟩, by simp, ?_⟩
      · rw [List.nodup_append]
        refine ⟨R.nd, by simp, ?_⟩
        intro x hx y hy
        rw [List.mem_singleton.mp hy]
        exact fun q => hlc (by rw [← q]; exact hx)
      · intro j c hc
        have hcr : c ≠ r := fun q => by
          subst q
          rcases List.mem_append.mp (List.mem_of_getElem? hc) with z | z
          · exact R.nr z
          · exact hlr (List.mem_singleton.mp z)
        rw [upd_ne hcr]
        by_cases hj : j < cs.length
        · rw [List.getElem?_append_left hj] at hc
          exact sl _ _ (R.row j c hc)
        · rw [List.getElem?_append_right (by omega)] at hc
          have : l = c := by
            by_cases hz : j - cs.length = 0
            · rw [hz] at hc; exact Option.some.inj hc
            · rw [List.getElem?_eq_none (by simp; omega)] at hc; cases hc
          subst this
          rw [upd_same]; rfl
      · intro c hc
        rcases List.mem_append.mp hc with z | z
        · exact R.frs c z
        · rw [List.mem_singleton.mp z]; exact s2.free hl
      · intro hc
        rcases List.mem_append.mp hc with z | z
        · exact R.nr z
        · exact hlr (List.mem_singleton.mp z)
      · intro b o e
        rw [upd_ne (ne_of_none e hrn)]
        exact sl _ _ (s2 b o e)
    · rintro ys H2 ⟨cs, rfl, R, hlen, s2⟩
      refine ⟨_, rfl, a, _, rfl, SqL.of (s2 _ _ ha), _, _, rfl, rfl, 1, _, rfl, ⟨by decide, by decide, by rw [List.length_map]; omega, by rw [List.length_map]; omega⟩, ?_⟩
      rw [List.length_map, show ((t.length : Int) + 1 - 1).toNat = t.length by omega]
      refine for_range (lo := 1) (n := t.length) (fun i σ H3 => Rows H H3 r cs (lensAt t i) ∧ Same H H3 ∧ ∃ v2 v3, σ = [some (.ref a), some (.ref r), v2, v3]) ?_ ?_ ?_
      · exact ⟨R.ext fun i _ => rfl, s2, _, _, rfl⟩
      · rintro i σ H3 hi ⟨R3, s3, v2, v3, rfl⟩
        have hlu : (t.take (i + 1)).length = i + 1 := by rw [List.length_take]; omega
        refine ⟨_, rfl, _, rfl, _, rfl, _, rfl, a, _, rfl, SqL.of (s3 _ _ ha), fun p1 hp1 => ?_⟩
        have s4 := Same.upd (o := .lst (cutV (t.map sg) none (some (1 + (i : Int))))) hp1
        have hp4 : (L2.upd H3 p1 (.lst (cutV (t.map sg) none (some (1 + (i : Int)))))) p1 = some (.lst ((t.take (i + 1)).map sg)) := by
          rw [upd_same, cutV_cutL, cutL_map, cutL_hi _ _ (by omega), show (1 + (i : Int)).toNat = i + 1 by omega]
        refine ⟨a, p1, t, t.take (i + 1), rfl, s4 _ _ (s3 _ _ ha), hp4, lt, lt.take _, by omega, by omega, by omega, fun q H5 hq0 hq5 s5 => ?_⟩
        have R5 := (R3.same s4).same s5
        have s35 := s3.trans (s4.trans s5)
        have hqc : ∀ c ∈ cs, q ≠ c := fun c hc z => by
          obtain ⟨i, hi⟩ := List.getElem?_of_mem hc
          exact ne_of_none ((R3.same s4).row i c hi) hq0 z.symm
        refine ⟨q, rfl, ⟨_, SqL.of hq5⟩, ?_⟩
        refine for_list (K := K) (a := q) (xs := vInts (begs t (t.take (i + 1)))) (fun j σ H6 => Rows H H6 r cs (lensMid t i j) ∧ Same H H6 ∧ H6 q = some (.lst (vInts (begs t (t.take (i + 1))))) ∧ ∃ v3, σ = [some (.ref a), some (.ref r), some (.int (1 + (i : Int))), v3]) ?_ ?_ ?_ ?_
        · exact ⟨R5.ext fun e _ => (mid_zero t i e).symm, s35, hq5, _, rfl⟩
        · rintro j σ H6 _ ⟨_, _, h6, _⟩
          exact SqL.of h6
        · rintro j x σ H6 hx ⟨R6, s6, hq6, v3, rfl⟩
          obtain ⟨e, he, rfl⟩ := vInts_get hx
          have hin := begs_in (by omega) (List.mem_of_getElem? he)
          obtain ⟨c, hc, hv⟩ := rows_get (cs := cs) (e := e) (by omega)
          have hcr := R6.row e c hc
          refine ⟨_, rfl, _, rfl, r, _, _, _, rfl, rfl, SqL.of R6.top, atI_nat hv, .inl ⟨rfl, _, SqL.of hcr⟩, _, rfl, c, _, _, rfl, rfl, hcr, ?_, ?_⟩
          · rw [vInts_len]
            have := mid_len t i j e
            exact small1000 (by omega)
          · have e1 : V.int (1 + (i : Int)) = V.int (((i + 1 : Nat) : Int)) := by congr 1; omega
            rw [e1]
            refine ⟨(R6.app hc (i + 1)).ext fun e' _ => (mid_step he e').symm, ?_, ?_, _, rfl⟩
            · intro b o eb
              rw [upd_ne (ne_of_none eb (R6.frs c (List.mem_of_getElem? hc)))]
              exact s6 b o eb
            · rw [upd_ne (hqc c (List.mem_of_getElem? hc))]; exact hq6
        · rintro σ H6 ⟨R6, s6, hq6, v3, rfl⟩
          rw [vInts_len] at R6
          exact ⟨R6.ext fun e _ => mid_all t i e, s6, _, _, rfl⟩
      · rintro σ H3 ⟨R3, s3, v2, v3, rfl⟩
        exact ⟨_, rfl, k r cs H3 R3 hlen s3⟩
end

end Ov

namespace Ov
open PySem L2
abbrev sShortC : Stmt := top 27
abbrev sGreatC : Stmt := top 28
section
variable {P : Program} {w : World} {K : PySem.W.Frag} {mg : Str → Option Value} {base : Heap}
theorem map_step (g : Nat → Nat) (i : Nat) : (List.range (i + 1)).map g = (List.range i).map g ++ [g i] := by
  rw [List.range_succ, List.map_append]; rfl
theorem vInts_map_len (g : Nat → Nat) (i : Nat) : (vInts ((List.range i).map g)).length = i := by rw [vInts_len]; simp
theorem cut1 {cs : List Addr} : cutV (cs.map V.ref) (some 1) none = (cs.drop 1).map V.ref := by
  rw [cutV_cutL, cutL_map, cutL_lo _ _ (by decide)]; rfl
theorem ref_item {cs : List Addr} {i : Nat} {x : V} (h : ((cs.drop 1).map V.ref)[i]? = some x) : ∃ c, cs[i + 1]? = some c ∧ x = .ref c := by
  rw [List.getElem?_map, List.getElem?_drop] at h
  cases q : cs[1 + i]? with
  | none => rw [q] at h; cases h
  | some c => rw [q] at h; exact ⟨c, by rw [show i + 1 = 1 + i by omega]; exact q, (Option.some.inj h).symm⟩
theorem scShortC : FnScope ["text"] ["text"] (defScope sShortC) := ⟨rfl, rfl, rfl, by decide +kernel, rfl, by decide +kernel, by decide +kernel⟩
theorem ok_shortC (M : Md K mg) (B : Bl mg) (F : FF K "shortest_covers" sShortC) (Fcovers_by_length : Fn P w K mg base CX0 "covers_by_length" 6 ["text"] spByLen) : Fn P w K mg base CX0 "shortest_covers" 7 ["text"] (spInts shortOf) := by
  refine fn_ok M F scShortC (fun _ _ _ _ _ _ => us1 fun _ => rfl) (fun vs H Q E h => ?_) (fun f cdv A outer s H vs Q E hr h => ?_)
  · obtain ⟨a, t, rfl, _⟩ := h; rfl
  · obtain ⟨a, t, rfl, ha, lt, tl, k⟩ := h
    refine ⟨_, (pss_one (ps_ret (pe_comp ["text"] rfl (pi_list (pe_slice sl_list (pe_fn Fcovers_by_length hr pass0 (pa_cons (pv 0) pa_nil)) (po_some pe_int) po_none)) (fun _ => by exact pif_nil) (fun _ => by exact (pe_ix ix_list (pv 1) pe_int (fun _ _ => rfl)))))), ?_⟩
    refine ⟨_, rfl, a, t, rfl, ha, lt, tl, fun r cs H1 R hlen s1 => ?_⟩
    refine ⟨1, rfl, r, _, rfl, SqL.of R.top, fun l hl => ?_⟩
    rw [cut1] at *
    have sl := Same.upd (o := .lst ((cs.drop 1).map V.ref)) hl
    refine ⟨l, rfl, ⟨_, SqL.of upd_same⟩, fun D hD cb => ?_⟩
    have R2 := R.same sl
    refine comp_list (K := K) (a := l) (xs := (cs.drop 1).map V.ref) (fun j ys H3 => ys = vInts ((List.range j).map fun x => (lens t (x + 1)).headD 0) ∧ Same (L2.upd H1 l (.lst ((cs.drop 1).map V.ref))) H3 ∧ H3 D = some (.lst ys)) ?_ ?_ ?_ ?_ ?_ ?_
    · rw [List.length_map, List.length_drop]; exact small1000 (by omega)
    · exact ⟨rfl, Same.upd hD, upd_same⟩
    · rintro j ys H3 ⟨rfl, _⟩
      rw [vInts_map_len]; exact Nat.le_refl _
    · rintro j ys H3 _ ⟨_, s3, _⟩
      exact SqL.of (s3 _ _ upd_same)
    · rintro j x ys H3 hx ⟨rfl, s3, hD3⟩
      have hj : j < t.length := by
        have := (List.getElem?_eq_some_iff.mp hx).1
        rw [List.length_map, List.length_drop] at this
        omega
      obtain ⟨c, hc, rfl⟩ := ref_item hx
      obtain ⟨L', e, _⟩ := lens_split (t := t) (e := j + 1) (by omega) (by omega)
      have hcr := (R2.same s3).row _ c hc
      have h0 : (vInts (lens t (j + 1)))[0]? = some (V.int (((lens t (j + 1)).headD 0 : Nat) : Int)) := by
        rw [e]; cases L' <;> rfl
      refine tNoIf_go ?_
      refine ⟨_, rfl, c, _, 0, _, rfl, rfl, SqL.of hcr, atI_nat (j := 0) h0, hD3, ?_, ?_, upd_same⟩
      · rw [map_step, vInts_snoc']
      · intro b o eb
        rw [upd_ne (ne_of_none eb hD)]
        exact s3 b o eb
    · rintro ys H3 ⟨rfl, s3, hD3⟩
      refine k D H3 ((s1.trans sl).free hD) ?_ (s1.trans (sl.trans s3))
      rw [hD3, List.length_map, List.length_drop, hlen]; rfl
theorem last2 {L' : List Nat} {e : Nat} {x : Nat} (hx : L' ≠ []) : (L' ++ [e])[(L' ++ [e]).length - 2]? = some (L'.getLastD x) := by
  have h1 : 0 < L'.length := List.length_pos_iff.mpr hx
  rw [List.length_append, List.length_singleton, List.getElem?_append_left (by omega), show L'.length + 1 - 2 = L'.length - 1 by omega]
  rw [List.getLastD_eq_getLast?, List.getLast?_eq_getElem?]
  rw [List.getElem?_eq_getElem (by omega)]
  rfl
theorem atI_neg2 {α : Type} {xs : List α} {v : α} (h2 : 2 ≤ xs.length) (h : xs[xs.length - 2]? = some v) : atI xs (-2) = some v := by
  unfold atI ixN
  rw [if_neg (by decide), if_pos (by omega)]
  show xs[(-2 + (xs.length : Int)).toNat]? = _
  rw [show (-2 + (xs.length : Int)).toNat = xs.length - 2 by omega]
  exact h
theorem scGreatC : FnScope ["text"] ["text"] (defScope sGreatC) := ⟨rfl, rfl, rfl, by decide +kernel, rfl, by decide +kernel, by decide +kernel⟩
theorem ok_greatC (M : Md K mg) (B : Bl mg) (F : FF K "greatest_covers" sGreatC) (Fcovers_by_length : Fn P w K mg base CX0 "covers_by_length" 6 ["text"] spByLen) : Fn P w K mg base CX0 "greatest_covers" 7 ["text"] (spInts greatOf) := by
  refine fn_ok M F scGreatC (fun _ _ _ _ _ _ => us1 fun _ => rfl) (fun vs H Q E h => ?_) (fun f cdv A outer s H vs Q E hr h => ?_)
  · obtain ⟨a, t, rfl, _⟩ := h; rfl
  · obtain ⟨a, t, rfl, ha, lt, tl, k⟩ := h
    refine ⟨_, (pss_one (ps_ret (pe_comp ["text"] rfl (pi_list (pe_slice sl_list (pe_fn Fcovers_by_length hr pass0 (pa_cons (pv 0) pa_nil)) (po_some pe_int) po_none)) (fun _ => by exact pif_nil) (fun _ => by exact (pe_ifExp (pt_cmpR op_gt (pe_lenL B.len (pv 1)) pe_int (nomark _)) (pe_ix ix_list (pv 1) (pe_un un_neg pe_int) (fun _ _ => rfl)) pe_int))))), ?_⟩
    refine ⟨_, rfl, a, t, rfl, ha, lt, tl, fun r cs H1 R hlen s1 => ?_⟩
    refine ⟨1, rfl, r, _, rfl, SqL.of R.top, fun l hl => ?_⟩
    rw [cut1] at *
    have sl := Same.upd (o := .lst ((cs.drop 1).map V.ref)) hl
    refine ⟨l, rfl, ⟨_, SqL.of upd_same⟩, fun D hD cb => ?_⟩
    have R2 := R.same sl
    refine comp_list (K := K) (a := l) (xs := (cs.drop 1).map V.ref) (fun j ys H3 => ys = vInts ((List.range j).map fun x => ((lens t (x + 1)).filter fun m => decide (m < x + 1)).getLastD 0) ∧ Same (L2.upd H1 l (.lst ((cs.drop 1).map V.ref))) H3 ∧ H3 D = some (.lst ys)) ?_ ?_ ?_ ?_ ?_ ?_
    · rw [List.length_map, List.length_drop]; exact small1000 (by omega)
    · exact ⟨rfl, Same.upd hD, upd_same⟩
    · rintro j ys H3 ⟨rfl, _⟩
      rw [vInts_map_len]; exact Nat.le_refl _
    · rintro j ys H3 _ ⟨_, s3, _⟩
      exact SqL.of (s3 _ _ upd_same)
    · rintro j x ys H3 hx ⟨rfl, s3, hD3⟩
      have hj : j < t.length := by
        have := (List.getElem?_eq_some_iff.mp hx).1
        rw [List.length_map, List.length_drop] at this
        omega
      obtain ⟨c, hc, rfl⟩ := ref_item hx
      obtain ⟨L', e, hL⟩ := lens_split (t := t) (e := j + 1) (by omega) (by omega)
      have hcr := (R2.same s3).row _ c hc
      have ef : (lens t (j + 1)).filter (fun m => decide (m < j + 1)) = L' := by
        rw [e, List.filter_append, List.filter_eq_self.mpr (fun m hm => decide_eq_true (hL m hm))]
        simp
      have keep : ∀ b o, (L2.upd H1 l (.lst ((cs.drop 1).map V.ref))) b = some o → ∀ xs, (L2.upd H3 D (.lst xs)) b = some o := fun b o eb xs => by
        rw [upd_ne (ne_of_none eb hD)]
        exact s3 b o eb
      refine tNoIf_go ?_
      refine ⟨_, rfl, c, _, rfl, SqL.of hcr, _, _, rfl, rfl, _, rfl, ?_⟩
      rw [map_step, vInts_snoc', ef]
      refine ite2 (fun hc => ?_) (fun hc => ?_)
      · have h2 : 1 < (lens t (j + 1)).length := by
          have := of_decide_eq_true hc
          rw [vInts_len] at this
          omega
        have hne : L' ≠ [] := fun z => by rw [e, z] at h2; simp at h2
        have hx : (vInts (lens t (j + 1)))[(vInts (lens t (j + 1))).length - 2]? = some (V.int ((L'.getLastD 0 : Nat) : Int)) := by
          rw [vInts_len, e]
          unfold vInts
          rw [List.getElem?_map, List.getElem?_map, last2 (x := 0) hne]
          rfl
        refine ⟨_, rfl, _, rfl, c, _, -2, _, rfl, rfl, SqL.of hcr, atI_neg2 (by rw [vInts_len]; omega) hx, hD3, rfl, fun b o eb => keep b o eb _, upd_same⟩
      · have h2 : ¬ 1 < (lens t (j + 1)).length := by
          have := nd hc
          rw [vInts_len] at this
          omega
        have hne : L' = [] := by
          rw [e, List.length_append, List.length_singleton] at h2
          exact List.length_eq_zero_iff.mp (by omega)
        rw [hne]
        exact ⟨hD3, rfl, fun b o eb => keep b o eb _, upd_same⟩
    · rintro ys H3 ⟨rfl, s3, hD3⟩
      refine k D H3 ((s1.trans sl).free hD) ?_ (s1.trans (sl.trans s3))
      rw [hD3, List.length_map, List.length_drop, hlen]; rfl
end

end Ov

namespace Ov
open PySem L2
def manyOf (t : List Nat) : List Nat := (List.range t.length).map fun x => (lens t (x + 1)).length
/-- the greatest cover but its own of the beginning of x + 1 signs -/
def gr (t : List Nat) (x : Nat) : Nat := ((lens t (x + 1)).filter fun m => decide (m < x + 1)).getLastD 0
theorem gr_le (t : List Nat) (x : Nat) : gr t x ≤ x := by
  unfold gr
  cases q : ((lens t (x + 1)).filter fun m => decide (m < x + 1)) with
  | nil => simp
  | cons y r =>
    have hm : (y :: r).getLastD 0 ∈ (lens t (x + 1)).filter fun m => decide (m < x + 1) := by
      rw [q]
      have e : (y :: r).getLastD 0 = (y :: r).getLast (by simp) := by
        rw [List.getLastD_eq_getLast?, List.getLast?_eq_some_getLast (by simp)]; rfl
      rw [e]
      exact List.getLast_mem (by simp)
    have := (List.mem_filter.mp hm).2
    have := of_decide_eq_true this
    omega
def treeAt (t : List Nat) (i e : Nat) : List Nat := ((List.range i).filter fun x => decide (gr t x = e)).map (· + 1)
theorem tree_step (t : List Nat) (i e : Nat) : treeAt t (i + 1) e = if e = gr t i then treeAt t i (gr t i) ++ [i + 1] else treeAt t i e := by
  unfold treeAt
  rw [List.range_succ, List.filter_append, List.map_append]
  by_cases h : e = gr t i
  · subst h; simp
  · have : ¬ gr t i = e := fun q => h q.symm
    simp [this, h]
theorem tree_len (t : List Nat) (i e : Nat) : (treeAt t i e).length ≤ i := by
  unfold treeAt
  rw [List.length_map]; exact filter_len _
def tree (t : List Nat) (e : Nat) : List Nat := treeAt t t.length e
def spTree : Sp := fun vs H Q _ => ∃ (a : Addr) (t : List Nat), vs = [.ref a] ∧ H a = some (.lst (t.map sg)) ∧ Low t ∧ t.length ≤ 900 ∧
  ∀ (r : Addr) (cs : List Addr) (H' : Hp), Rows H H' r cs (tree t) → cs.length = t.length + 1 → Same H H' → Q (.ref r) H'

end Ov

namespace Ov
open PySem L2
abbrev sHowMany : Stmt := top 30
abbrev sTree : Stmt := top 29
section
variable {P : Program} {w : World} {K : PySem.W.Frag} {mg : Str → Option Value} {base : Heap}
theorem scHowMany : FnScope ["text"] ["text"] (defScope sHowMany) := ⟨rfl, rfl, rfl, by decide +kernel, rfl, by decide +kernel, by decide +kernel⟩
theorem ok_howMany (M : Md K mg) (B : Bl mg) (F : FF K "how_many_covers" sHowMany) (Fcovers_by_length : Fn P w K mg base CX0 "covers_by_length" 6 ["text"] spByLen) : Fn P w K mg base CX0 "how_many_covers" 7 ["text"] (spInts manyOf) := by
  refine fn_ok M F scHowMany (fun _ _ _ _ _ _ => us1 fun _ => rfl) (fun vs H Q E h => ?_) (fun f cdv A outer s H vs Q E hr h => ?_)
  · obtain ⟨a, t, rfl, _⟩ := h; rfl
  · obtain ⟨a, t, rfl, ha, lt, tl, k⟩ := h
    refine ⟨_, (pss_one (ps_ret (pe_comp ["text"] rfl (pi_list (pe_slice sl_list (pe_fn Fcovers_by_length hr pass0 (pa_cons (pv 0) pa_nil)) (po_some pe_int) po_none)) (fun _ => by exact pif_nil) (fun _ => by exact (pe_lenL B.len (pv 1)))))), ?_⟩
    refine ⟨_, rfl, a, t, rfl, ha, lt, tl, fun r cs H1 R hlen s1 => ?_⟩
    refine ⟨1, rfl, r, _, rfl, SqL.of R.top, fun l hl => ?_⟩
    rw [cut1] at *
    have sl := Same.upd (o := .lst ((cs.drop 1).map V.ref)) hl
    refine ⟨l, rfl, ⟨_, SqL.of upd_same⟩, fun D hD cb => ?_⟩
    have R2 := R.same sl
    refine comp_list (K := K) (a := l) (xs := (cs.drop 1).map V.ref) (fun j ys H3 => ys = vInts ((List.range j).map fun x => (lens t (x + 1)).length) ∧ Same (L2.upd H1 l (.lst ((cs.drop 1).map V.ref))) H3 ∧ H3 D = some (.lst ys)) ?_ ?_ ?_ ?_ ?_ ?_
    · rw [List.length_map, List.length_drop]; exact small1000 (by omega)
    · exact ⟨rfl, Same.upd hD, upd_same⟩
    · rintro j ys H3 ⟨rfl, _⟩
      rw [vInts_map_len]; exact Nat.le_refl _
    · rintro j ys H3 _ ⟨_, s3, _⟩
      exact SqL.of (s3 _ _ upd_same)
    · rintro j x ys H3 hx ⟨rfl, s3, hD3⟩
      obtain ⟨c, hc, rfl⟩ := ref_item hx
      have hcr := (R2.same s3).row _ c hc
      refine tNoIf_go ?_
      refine ⟨_, rfl, c, _, rfl, SqL.of hcr, hD3, ?_, ?_, upd_same⟩
      · rw [map_step, vInts_snoc', vInts_len]
      · intro b o eb
        rw [upd_ne (ne_of_none eb hD)]
        exact s3 b o eb
    · rintro ys H3 ⟨rfl, s3, hD3⟩
      refine k D H3 ((s1.trans sl).free hD) ?_ (s1.trans (sl.trans s3))
      rw [hD3, List.length_map, List.length_drop, hlen]; rfl
/-- rows without numbers, as many as turns -/
theorem rows_nil {H H2 : Hp} {r l : Addr} {cs : List Addr} (R : Rows H H2 r cs (fun _ => [])) (s2 : Same H H2) (hrn : H r = none) (hl : H2 l = none) :
    (L2.upd H2 l (.lst [])) r = some (.lst (cs.map V.ref)) ∧ ∃ cs' : List Addr, cs.map V.ref ++ [V.ref l] = cs'.map V.ref ∧ Rows H (L2.upd (L2.upd H2 l (.lst [])) r (.lst (cs.map V.ref ++ [V.ref l]))) r cs' (fun _ => []) ∧ cs'.length = cs.length + 1 ∧ Same H (L2.upd (L2.upd H2 l (.lst [])) r (.lst (cs.map V.ref ++ [V.ref l]))) := by
  have sl := Same.upd (o := .lst []) hl
  have hlr : r ≠ l := ne_of_none R.top hl
  have hlc : l ∉ cs := fun q => by
    obtain ⟨i, hi⟩ := List.getElem?_of_mem q
    exact ne_of_none (R.row i l hi) hl rfl
  refine ⟨sl _ _ R.top, cs ++ [l], by simp, ⟨by rw [upd_same]; simp, ?_, ?_, hrn, ?_, ?_⟩, by simp, ?_⟩
  · rw [List.nodup_append]
    refine ⟨R.nd, by simp, ?_⟩
    intro x hx y hy
    rw [List.mem_singleton.mp hy]
    exact fun q => hlc (by rw [← q]; exact hx)
  · intro j c hc
    have hcr : c ≠ r := fun q => by
      subst q
      rcases List.mem_append.mp (List.mem_of_getElem? hc) with z | z
      · exact R.nr z
      · exact hlr (List.mem_singleton.mp z)
    rw [upd_ne hcr]
    by_cases hj : j < cs.length
    · rw [List.getElem?_append_left hj] at hc
      exact sl _ _ (R.row j c hc)
    · rw [List.getElem?_append_right (by omega)] at hc
      have : l = c := by
        by_cases hz : j - cs.length = 0
        · rw [hz] at hc; exact Option.some.inj hc
        · rw [List.getElem?_eq_none (by simp; omega)] at hc; cases hc
      subst this
      rw [upd_same]; rfl
  · intro c hc
    rcases List.mem_append.mp hc with z | z
    · exact R.frs c z
    · rw [List.mem_singleton.mp z]; exact s2.free hl
  · intro hc
    rcases List.mem_append.mp hc with z | z
    · exact R.nr z
    · exact hlr (List.mem_singleton.mp z)
  · intro b o e
    rw [upd_ne (ne_of_none e hrn)]
    exact sl _ _ (s2 b o e)
theorem scTree : FnScope ["text", "tree", "length", "cover"] ["text"] (defScope sTree) := ⟨rfl, rfl, rfl, by decide +kernel, rfl, by decide +kernel, by decide +kernel⟩
theorem ok_tree (M : Md K mg) (B : Bl mg) (F : FF K "cover_tree" sTree) (Fgreatest_covers : Fn P w K mg base CX0 "greatest_covers" 7 ["text"] (spInts greatOf)) : Fn P w K mg base CX0 "cover_tree" 8 ["text"] spTree := by
  refine fn_ok M F scTree (fun _ _ _ _ _ _ => us1 fun _ => rfl) (fun vs H Q E h => ?_) (fun f cdv A outer s H vs Q E hr h => ?_)
  · obtain ⟨a, t, rfl, _⟩ := h; rfl
  · obtain ⟨a, t, rfl, ha, lt, tl, k⟩ := h
    refine ⟨_, (pss_cons (ps_setC (i := 1) ["text", "tree", "", "cover"] rfl scTree.nd rfl (by first | exact Or.inl rfl | exact Or.inr rfl) (pi_range1 (by rfl) B.range (pa_cons (pe_op op_add (pe_lenL B.len (pv 0)) pe_int) pa_nil)) (fun _ => by exact pif_nil) (fun _ => by exact (pe_lst pa_nil)))
      (pss_cons (ps_for PassesOwn.never rfl (pi_enum1 B.enumerate (pe_fn Fgreatest_covers hr pass0 (pa_cons (pv 0) pa_nil))) (pg_tup rfl (pgs_cons (pg_name (i := 2) scTree.nd rfl (by first | exact Or.inl rfl | exact Or.inr rfl)) (pgs_cons (pg_name (i := 3) scTree.nd rfl (by first | exact Or.inl rfl | exact Or.inr rfl)) pgs_nil)))
      (pss_one (ps_expr (pe_bm PySem.F.plainAttrs_list PySem.F.slot_list_append PySem.F.type_list_append mt_append (pe_ix ix_list (pv 1) (pv 3) (fun _ _ => rfl)) (pa_cons (pv 2) pa_nil)))))
      (pss_one (ps_ret (pv 1))))), ?_⟩
    refine ⟨_, rfl, a, _, rfl, SqL.of ha, _, _, rfl, rfl, _, rfl, by rw [List.length_map]; omega, by rw [List.length_map]; omega, fun r hrn cb => ?_⟩
    rw [List.length_map, show ((t.length : Int) + 1).toNat = t.length + 1 by omega]
    refine comp_range (lo := 0) (n := t.length + 1) (fun i ys H2 => ∃ cs : List Addr, ys = cs.map V.ref ∧ Rows H H2 r cs (fun _ => []) ∧ cs.length = i ∧ Same H H2) (small1000 (by omega)) ?_ ?_ ?_ ?_
    · exact ⟨[], rfl, ⟨upd_same, List.nodup_nil, fun i c h => by simp at h, hrn, fun c hc => by (cases hc), fun hc => by (cases hc)⟩, rfl, Same.upd hrn⟩
    · rintro i ys H2 ⟨cs, rfl, _, rfl, _⟩
      simp
    · rintro i ys H2 hi ⟨cs, rfl, R, rfl, s2⟩
      refine tNoIf_go ?_
      refine ⟨Nat.zero_le _, fun l hl => ?_⟩
      obtain ⟨q1, cs', q2, q3, q4, q5⟩ := rows_nil R s2 hrn hl
      exact ⟨q1, cs', q2, q3, q4, q5⟩
    · rintro ys H2 ⟨cs, rfl, R, hlen, s2⟩
      refine ⟨_, rfl, a, t, rfl, s2 _ _ ha, lt, tl, fun q H3 hq0 hq3 s3 => ?_⟩
      have R3 := R.same s3
      have s23 := s2.trans s3
      have hqc : ∀ c ∈ cs, q ≠ c := fun c hc z => by
        obtain ⟨i, hi⟩ := List.getElem?_of_mem hc
        exact ne_of_none (R.row i c hi) hq0 z.symm
      refine ⟨q, _, rfl, hq3, ?_⟩
      refine for_enum1 (a := q) (xs := vInts (greatOf t)) (fun i σ H4 => Rows H H4 r cs (treeAt t i) ∧ Same H H4 ∧ H4 q = some (.lst (vInts (greatOf t))) ∧ ∃ v2 v3, σ = [some (.ref a), some (.ref r), v2, v3]) ?_ ?_ ?_ ?_
      · exact ⟨R3.ext fun i _ => rfl, s23, hq3, _, _, rfl⟩
      · rintro i σ H4 _ ⟨_, _, h, _⟩; exact h
      · rintro i v p σ H4 hv hp ⟨R4, s4, hq4, v2, v3, rfl⟩
        obtain ⟨e, he, rfl⟩ := vInts_get hv
        have hi : i < t.length := by
          have := (List.getElem?_eq_some_iff.mp he).1
          unfold greatOf at this
          simpa using this
        have hg : gr t i = e := by
          unfold greatOf at he
          rw [List.getElem?_map, List.getElem?_range hi] at he
          exact Option.some.inj he
        have hle := gr_le t i
        have s5 := Same.upd (o := .tup [V.int ((i : Int) + 1), V.int (e : Int)]) hp
        have R5 := R4.same s5
        refine ⟨p, _, rfl, SqT.of upd_same, rfl, _, _, rfl, _, _, rfl, rfl, ?_⟩
        obtain ⟨c, hc, hvc⟩ := rows_get (cs := cs) (e := e) (by omega)
        have hcr := R5.row e c hc
        refine ⟨_, rfl, _, rfl, r, _, _, _, rfl, rfl, SqL.of R5.top, atI_nat hvc, .inl ⟨rfl, _, SqL.of hcr⟩, _, rfl, c, _, _, rfl, rfl, hcr, ?_, ?_⟩
        · rw [vInts_len]
          have := tree_len t i e
          exact small1000 (by omega)
        · have e1 : V.int ((i : Int) + 1) = V.int (((i + 1 : Nat) : Int)) := by congr 1
          have hpc : p ≠ c := fun z => ne_of_none (R4.row e c hc) hp z.symm
          rw [e1] at *
          refine ⟨(R5.app hc (i + 1)).ext fun e' _ => ?_, ?_, ?_, _, _, rfl⟩
          · rw [tree_step, hg]
          · intro b o eb
            rw [upd_ne (ne_of_none eb (R4.frs c (List.mem_of_getElem? hc)))]
            exact s5 _ _ (s4 b o eb)
          · rw [upd_ne (hqc c (List.mem_of_getElem? hc))]; exact s5 _ _ hq4
      · rintro σ H4 ⟨R4, s4, hq4, v2, v3, rfl⟩
        rw [vInts_len, show (greatOf t).length = t.length by simp [greatOf]] at R4
        exact ⟨_, rfl, k r cs H4 R4 hlen s4⟩
end

end Ov

namespace Ov
open PySem L2
abbrev sRenamed : Stmt := top 39
/-- each letter by its new one -/
def Ren (H : Hp) (d : Addr) (f : Nat → Nat) : Prop := ∃ kvs : List (Key × V), H d = some (.dK kvs) ∧ ∀ c, 97 ≤ c → c ≤ 122 → valV kvs (.inr (sgS c)) = some (sg (f c))
def spRen : Sp := fun vs H Q _ => ∃ p : Addr, vs = [.ref p] ∧ Hand H p ∧ ∀ (f : Nat → Nat) (d : Addr) (H' : Hp), H d = none → Ren H' d f → (∀ c, 97 ≤ c → c ≤ 122 → 97 ≤ f c ∧ f c ≤ 122) → (∀ a b, 97 ≤ a → a ≤ 122 → 97 ≤ b → b ≤ 122 → f a = f b → a = b) → Hand H' p → Keep p H H' → Q (.ref d) H'
theorem valV_at {κ : Type} [DecidableEq κ] : ∀ {kvs : List (κ × V)} {i : Nat} {k : κ} {v : V}, (kvs.map (·.1)).Nodup → kvs[i]? = some (k, v) → valV kvs k = some v
  | [], _, _, _, _, h => by simp at h
  | (k0, v0) :: r, 0, k, v, _, h => by
    have e : (k0, v0) = (k, v) := by simpa using h
    cases e
    exact valV_pos rfl
  | (k0, v0) :: r, i + 1, k, v, hn, h => by
    have h' : r[i]? = some (k, v) := by simpa using h
    rw [List.map_cons, List.nodup_cons] at hn
    rw [valV_neg (fun e => hn.1 (List.mem_map.mpr ⟨(k, v), List.mem_of_getElem? h', e.symm⟩))]
    exact valV_at hn.2 h'
def renPairs (t : List Nat) : List (Key × V) := (List.range 26).map fun i => (Sum.inr (sgS (97 + i)), sg (t.getD i 0))
theorem renPairs_nodup (t : List Nat) : ((renPairs t).map (·.1)).Nodup := by
  unfold renPairs
  rw [List.map_map]
  refine List.Pairwise.map _ (fun a b (hab : a ≠ b) => ?_) List.nodup_range
  intro e
  have e2 : sgS (97 + a) = sgS (97 + b) := Sum.inr.inj e
  have : sg (97 + a) = sg (97 + b) := congrArg V.str e2
  have := sg_inj.mp this
  omega
theorem renPairs_at (t : List Nat) {i : Nat} (hi : i < 26) : (renPairs t)[i]? = some (Sum.inr (sgS (97 + i)), sg (t.getD i 0)) := by
  unfold renPairs
  rw [List.getElem?_map, List.getElem?_range hi]; rfl
section
variable {P : Program} {w : World} {K : PySem.W.Frag} {mg : Str → Option Value} {base : Heap}
theorem scRenamed : FnScope ["hand", "left"] ["hand"] (defScope sRenamed) := ⟨rfl, rfl, rfl, by decide +kernel, rfl, by decide +kernel, by decide +kernel⟩
theorem ok_renamed (M : Md K mg) (B : Bl mg) (ndict : mg "dict" = none) (F : FF K "_law_renamed" sRenamed) (F_law_take : Fn P w K mg base CX0 "_law_take" 1 ["hand", "many"] spTake) : Fn P w K mg base CX0 "_law_renamed" 2 ["hand"] spRen := by
  refine fn_ok M F scRenamed (fun _ _ _ _ _ _ => us1 fun _ => rfl) (fun vs H Q E h => ?_) (fun f cdv A outer s H vs Q E hr h => ?_)
  · obtain ⟨p, rfl, _⟩ := h; rfl
  · obtain ⟨p, rfl, hp, k⟩ := h
    refine ⟨_, (pss_cons (ps_set (i := 1) scRenamed.nd rfl (by first | exact Or.inl rfl | exact Or.inr rfl) (pe_listS rfl B.list pe_str))
      (pss_one (ps_ret (pe_dictP rfl ndict (pe_comp ["hand", "left"] rfl (pi_str pe_str) (fun _ => by exact pif_nil) (fun _ => by exact (pe_tup (pa_cons (pv 2) (pa_cons (pe_bm PySem.F.plainAttrs_list PySem.F.slot_list_pop PySem.F.type_list_pop mt_popAt (pv 1) (pa_cons (pe_fn F_law_take hr pass0 (pa_cons (pv 0) (pa_cons (pe_lenL B.len (pv 1)) pa_nil))) pa_nil)) pa_nil))))))))), ?_⟩
    have naz : az.Nodup := by decide +kernel
    refine ⟨⟨az.toArray⟩, rfl, by rw [str_len]; exact sz (by simp [az]), fun l hl => ?_⟩
    have s1 := Same.upd (o := .lst (az.map sg)) hl
    have hl1 : (L2.upd H l (.lst (az.map sg))) l = some (.lst (az.map sg)) := upd_same
    have hp1 := hp.same s1
    have nlp : l ≠ p := (hp.ne hl).symm
    have hfree : ∀ b, (L2.upd H l (.lst (az.map sg))) b = none → H b = none := fun b hb => s1.free hb
    generalize L2.upd H l (.lst (az.map sg)) = H1 at s1 hl1 hp1 hfree ⊢
    refine ⟨⟨az.toArray⟩, rfl, by decide +kernel, fun D hD cb => ?_⟩
    have nD : D ≠ p := (hp1.ne hD).symm
    have nlD : l ≠ D := ne_of_none hl1 hD
    refine comp_str (z := ⟨az.toArray⟩) (fun i ys H3 => ∃ (t left : List Nat) (ps : List Addr), ys = ps.map V.ref ∧ ps.length = i ∧ (t ++ left).Perm az ∧ t.length = i ∧ H3 l = some (.lst (left.map sg)) ∧ (∀ (j : Nat) (g : Addr), ps[j]? = some g → H1 g = none ∧ H3 g = some (.tup [sg (97 + j), sg (t.getD j 0)])) ∧ Hand H3 p ∧ (∀ b o, H1 b = some o → b ≠ p → b ≠ l → H3 b = some o) ∧ H3 D = some (.lst ys)) (small1000 (by decide)) ?_ ?_ ?_ ?_
    · refine ⟨[], az, [], rfl, rfl, List.Perm.refl _, rfl, by rw [upd_ne nlD]; exact hl1, fun j g h => by simp at h, hp1.upd (hp1.ne hD), fun b o e _ _ => by rw [upd_ne (ne_of_none e hD)]; exact e, upd_same⟩
    · rintro i ys H3 ⟨t, left, ps, rfl, h, _⟩
      simp [h]
    · rintro i c ys H3 hc ⟨t, left, ps, rfl, pl, hper, tl, hl3, hps, hp3, k3, hD3⟩
      refine tNoIf_go ?_
      have hi : i < 26 := by
        have := (Array.getElem?_eq_some_iff.mp hc).1
        simpa [az] using this
      have hci : c = 97 + i := by
        have h2 : az[i]? = some c := by simpa using hc
        unfold az at h2
        rw [List.getElem?_map, List.getElem?_range hi] at h2
        exact (Option.some.inj h2).symm
      have hlen : t.length + left.length = 26 := by have := hper.length_eq; simpa [az] using this
      refine ⟨_, rfl, _, rfl, .inl ⟨rfl, _, SqL.of hl3⟩, _, rfl, _, rfl, l, _, rfl, SqL.of hl3, p, _, rfl, hp3, by rw [List.length_map]; omega, by rw [List.length_map]; omega, fun r H4 r0 r1 hp4 k4 => ?_⟩
      rw [List.length_map] at r1
      have hl4 := k4 _ _ hl3 nlp
      have hD4 := k4 _ _ hD3 nD
      have hr : r.toNat < left.length := by omega
      have hc' : left[r.toNat]? = some left[r.toNat] := by simp [hr]
      refine ⟨l, _, r, r.toNat, sg left[r.toNat], rfl, rfl, hl4, by omega, by omega, ?_, by rw [List.getElem?_map, hc']; rfl, ?_⟩
      · rw [List.length_map]
        exact (ixN_seq (ixN_pos _ _ r0 r1)).1
      have ee : (left.map sg).eraseIdx r.toNat = (left.eraseIdx r.toNat).map sg := by
        apply List.ext_getElem?
        intro q
        rw [List.getElem?_map, List.getElem?_eraseIdx, List.getElem?_eraseIdx]
        split <;> rw [List.getElem?_map]
      rw [ee]
      have k45 : ∀ b o, H4 b = some o → b ≠ l → (L2.upd H4 l (.lst ((left.eraseIdx r.toNat).map sg))) b = some o := fun b o e n => by rw [upd_ne n]; exact e
      have hl5 := upd_same (H := H4) (a := l) (o := .lst ((left.eraseIdx r.toNat).map sg))
      have hp5 := hp4.upd (o := .lst ((left.eraseIdx r.toNat).map sg)) nlp.symm
      generalize L2.upd H4 l (.lst ((left.eraseIdx r.toNat).map sg)) = H5 at k45 hl5 hp5 ⊢
      refine ⟨by show 2 ≤ sizeLine; decide, fun g hg => ?_⟩
      have s6 := Same.upd (o := .tup [sg c, sg left[r.toNat]]) hg
      have hg6 := upd_same (H := H5) (a := g) (o := .tup [sg c, sg left[r.toNat]])
      have hg1 : H1 g = none := by
        cases e : H1 g with
        | none => rfl
        | some o =>
          by_cases n1 : g = p
          · subst n1; exact absurd rfl (hp5.ne hg)
          · by_cases n2 : g = l
            · subst n2; rw [hl5] at hg; cases hg
            · have := k45 _ _ (k4 _ _ (k3 _ _ e n1 n2) n1) n2
              rw [this] at hg; cases hg
      have hp6 := hp5.same s6
      generalize L2.upd H5 g (.tup [sg c, sg left[r.toNat]]) = H6 at s6 hg6 hp6 ⊢
      have hD6 := s6 _ _ (k45 _ _ hD4 nlD.symm)
      have ngD : g ≠ D := fun e => by subst e; rw [k45 _ _ hD4 nlD.symm] at hg; cases hg
      refine ⟨hD6, t ++ [left[r.toNat]], left.eraseIdx r.toNat, ps ++ [g], by simp, by simp [pl], ?_, by simp [tl], by rw [upd_ne nlD]; exact s6 _ _ hl5, fun j g' hj => ?_, hp6.upd nD.symm, fun b o e n1 n2 => ?_, upd_same⟩
      · have h1 : (left[r.toNat] :: left.eraseIdx r.toNat).Perm left := by
          rw [List.eraseIdx_eq_take_drop_succ]
          have q := List.perm_middle (a := left[r.toNat]) (l₁ := left.take r.toNat) (l₂ := left.drop (r.toNat + 1))
          rw [← List.drop_eq_getElem_cons hr, List.take_append_drop] at q
          exact q.symm
        have h2 : ((t ++ [left[r.toNat]]) ++ left.eraseIdx r.toNat).Perm (t ++ left) := by
          rw [List.append_assoc]
          exact List.Perm.append_left t h1
        exact h2.trans hper
      · by_cases hjl : j < ps.length
        · rw [List.getElem?_append_left hjl] at hj
          obtain ⟨a1, a2⟩ := hps j g' hj
          have n1 : g' ≠ p := (hp1.ne a1).symm
          have n2 : g' ≠ l := fun e => by subst e; rw [hl1] at a1; cases a1
          have n3 : g' ≠ D := fun e => by subst e; rw [hD3] at a2; cases a2
          refine ⟨a1, ?_⟩
          rw [upd_ne n3, s6 _ _ (k45 _ _ (k4 _ _ a2 n1) n2), List.getD_eq_getElem?_getD, List.getD_eq_getElem?_getD, List.getElem?_append_left (by omega)]
        · rw [List.getElem?_append_right (by omega)] at hj
          have hj0 : j - ps.length = 0 := by
            have := (List.getElem?_eq_some_iff.mp hj).1
            simp at this; omega
          rw [hj0] at hj
          obtain rfl : g = g' := by simpa using hj
          have ej : j = i := by omega
          subst ej
          refine ⟨hg1, ?_⟩
          rw [upd_ne ngD, hg6, hci]
          congr 3
          rw [List.getD_eq_getElem?_getD, List.getElem?_append_right (by omega), show j - t.length = 0 by omega]
          rfl
      · rw [upd_ne (ne_of_none e hD)]
        exact s6 _ _ (k45 _ _ (k4 _ _ (k3 b o e n1 n2) n1) n2)
    · rintro ys H3 ⟨t, left, ps, rfl, pl, hper, tl, hl3, hps, hp3, k3, hD3⟩
      have e26 : (az.toArray).size = 26 := by simp [az]
      have pl' : ps.length = 26 := pl.trans e26
      have tl' : t.length = 26 := tl.trans e26
      have hlen : t.length + left.length = 26 := by have := hper.length_eq; simpa [az] using this
      have lnil : left = [] := List.length_eq_zero_iff.mp (by omega)
      subst lnil
      rw [List.append_nil] at hper
      refine ⟨D, ps, renPairs t, rfl, hD3, by rw [pl']; simp [renPairs], fun i g kv hi hkv => ?_, renPairs_nodup t, by simp [renPairs], fun d hd => ?_⟩
      · have hi' : i < 26 := by have := (List.getElem?_eq_some_iff.mp hi).1; omega
        rw [renPairs_at t hi'] at hkv
        cases Option.some.inj hkv
        exact (hps i g hi).2
      · have hdH : H d = none := by
          cases e : H d with
          | none => rfl
          | some o =>
            have e1 := s1 _ _ e
            by_cases n1 : d = p
            · subst n1; exact absurd rfl (hp3.ne hd)
            · have n2 : d ≠ l := fun z => by subst z; rw [hl] at e; cases e
              have := k3 _ _ e1 n1 n2
              rw [this] at hd; cases hd
        have tn : t.Nodup := hper.nodup_iff.mpr naz
        have gt : ∀ c, 97 ≤ c → c ≤ 122 → t[c - 97]? = some (t.getD (c - 97) 0) := fun c h1 h2 => by
          rw [List.getD_eq_getElem?_getD, List.getElem?_eq_getElem (by omega)]; rfl
        refine k (fun c => t.getD (c - 97) 0) d _ hdH ⟨renPairs t, upd_same, fun c h1 h2 => ?_⟩ (fun c h1 h2 => az_mem (hper.mem_iff.mp (List.mem_of_getElem? (gt c h1 h2)))) (fun a b a1 a2 b1 b2 e => ?_) (hp3.upd (hp3.ne hd)) fun b o e n1 => ?_
        · have := renPairs_at t (i := c - 97) (by omega)
          rw [show 97 + (c - 97) = c by omega] at this
          exact valV_at (renPairs_nodup t) this
        · have ga := gt a a1 a2
          have gb := gt b b1 b2
          have e' : t.getD (a - 97) 0 = t.getD (b - 97) 0 := e
          rw [← e'] at gb
          have := (List.getElem?_inj (by omega) tn).mp (ga.trans gb.symm)
          omega
        · have n2 : b ≠ l := fun z => by subst z; rw [hl] at e; cases e
          have n3 := k3 _ _ (s1 _ _ e) n1 n2
          rw [upd_ne (ne_of_none n3 hd)]; exact n3
end

end Ov

namespace Ov
open PySem L2
/-- u lies at p, sign by sign -/
theorem lies_iff15 {t u : List Nat} {p : Nat} : p ∈ liesIn t u ↔ p < t.length + 1 - u.length ∧ ∀ j, j < u.length → t[p + j]? = u[j]? := by
  rw [mem_lies]
  constructor
  · rintro ⟨h1, h2⟩
    refine ⟨h1, fun j hj => ?_⟩
    have := congrArg (·[j]?) h2
    have this : ((t.drop p).take u.length)[j]? = u[j]? := this
    rwa [List.getElem?_take_of_lt hj, List.getElem?_drop] at this
  · rintro ⟨h1, h2⟩
    refine ⟨h1, List.ext_getElem? fun j => ?_⟩
    by_cases hj : j < u.length
    · rw [List.getElem?_take_of_lt hj, List.getElem?_drop, h2 j hj]
    · rw [List.getElem?_eq_none (by rw [List.length_take]; omega), List.getElem?_eq_none (by omega)]
theorem cov_mem {t : List Nat} {m : Nat} : m ∈ coversOf t ↔ 1 ≤ m ∧ m ≤ t.length ∧ covers t (t.take m) = true := by
  refine ⟨mem_coversOf, fun ⟨h1, h2, h3⟩ => ?_⟩
  unfold coversOf
  rw [List.mem_filter, List.mem_map]
  exact ⟨⟨m - 1, by rw [List.mem_range]; omega, by omega⟩, h3⟩
theorem cov_sorted (t : List Nat) : (coversOf t).Pairwise (· < ·) := List.Pairwise.filter _ (List.pairwise_map.mpr (List.pairwise_lt_range.imp fun q => by omega))
theorem tlen {t : List Nat} {m : Nat} (h : m ≤ t.length) : (t.take m).length = m := by rw [List.length_take]; omega
theorem lies_take15 {t u : List Nat} {e : Nat} (u1 : 1 ≤ u.length) (he : e ≤ t.length) : (liesIn t u).filter (fun p => decide (p + u.length ≤ e)) = liesIn (t.take e) u := by
  refine sorted_ext (List.Pairwise.filter _ (lies_sorted t u)) (lies_sorted _ _) fun p => ?_
  rw [List.mem_filter, lies_iff15, lies_iff15, tlen he, decide_eq_true_eq]
  constructor
  · rintro ⟨⟨h1, h2⟩, h3⟩
    exact ⟨by omega, fun j hj => by rw [List.getElem?_take_of_lt (by omega)]; exact h2 j hj⟩
  · rintro ⟨h1, h2⟩
    exact ⟨⟨by omega, fun j hj => by rw [← h2 j hj, List.getElem?_take_of_lt (by omega)]⟩, by omega⟩
theorem begs_iff {t u : List Nat} {e : Nat} (u1 : 1 ≤ u.length) (e1 : 1 ≤ e) (e2 : e ≤ t.length) : e ∈ begs t u ↔ covers (t.take e) u = true := by
  unfold begs
  rw [ce_iff (lies_sorted t u) (by omega), lies_take15 u1 e2, fb_bare (n := e) (lies_sorted _ _) fun p hp => by have := lies_in hp u1; rw [tlen e2] at this; exact this]
  unfold covers
  rw [decide_eq_true_eq, tlen e2]
theorem covers_le {t u : List Nat} (t1 : 1 ≤ t.length) (u1 : 1 ≤ u.length) (h : covers t u = true) : u.length ≤ t.length := by
  obtain ⟨p, hp, _⟩ := covers_iff.mp h 0 (by omega)
  have := lies_in hp u1
  omega
theorem take2 {t : List Nat} {m c : Nat} (h : m ≤ c) : (t.take c).take m = t.take m := by rw [List.take_take, Nat.min_eq_left h]
theorem lens_cov {t : List Nat} {e : Nat} (e1 : 1 ≤ e) (e2 : e ≤ t.length) : lens t e = coversOf (t.take e) := by
  refine sorted_ext (lens_sorted t _ e) (cov_sorted _) fun m => ?_
  rw [mem_lens, cov_mem, tlen e2]
  constructor
  · rintro ⟨h1, h2, h3⟩
    have hl := tlen h2
    rw [begs_iff (by omega) e1 e2] at h3
    have hm := covers_le (by rw [tlen e2]; exact e1) (by omega) h3
    rw [tlen e2, hl] at hm
    exact ⟨h1, hm, by rw [take2 hm]; exact h3⟩
  · rintro ⟨h1, h2, h3⟩
    have hl := tlen (Nat.le_trans h2 e2)
    rw [take2 h2] at h3
    exact ⟨h1, by omega, by rw [begs_iff (by omega) e1 e2]; exact h3⟩
theorem cov_trans {t v u : List Nat} (u1 : 1 ≤ u.length) (v1 : 1 ≤ v.length) (h1 : covers t v = true) (h2 : covers v u = true) : covers t u = true := by
  rw [covers_iff]
  intro i hi
  obtain ⟨p, hp, a1, a2⟩ := covers_iff.mp h1 i hi
  obtain ⟨q, hq, b1, b2⟩ := covers_iff.mp h2 (i - p) (by omega)
  have lp := lies_in hp v1
  have lq := lies_in hq u1
  refine ⟨p + q, lies_iff15.mpr ⟨by omega, fun j hj => ?_⟩, by omega, by omega⟩
  rw [← (lies_iff15.mp hq).2 j hj, ← (lies_iff15.mp hp).2 (q + j) (by omega), Nat.add_assoc]
theorem border_get {t : List Nat} {m : Nat} (m1 : 1 ≤ m) (mn : m ≤ t.length) (h : covers t (t.take m) = true) (j : Nat) (hj : j < m) : t[t.length - m + j]? = t[j]? := by
  by_cases e : m = t.length
  · subst e; rw [Nat.sub_self, Nat.zero_add]
  · have b := congrArg (·[j]?) (covers_border m1 (by omega) h)
    have b : (t.take m)[j]? = (t.drop (t.length - m))[j]? := b
    rw [List.getElem?_take_of_lt hj, List.getElem?_drop] at b
    exact b.symm
theorem cov_down {t : List Nat} {m c : Nat} (m1 : 1 ≤ m) (hm : m ≤ c) (hc : c ≤ t.length) (h1 : covers t (t.take m) = true) (h2 : covers t (t.take c) = true) : covers (t.take c) (t.take m) = true := by
  have lm := tlen (t := t) (m := m) (by omega)
  have lc := tlen hc
  rw [covers_iff]
  intro i hi
  rw [lc] at hi
  obtain ⟨p, hp, a1, a2⟩ := covers_iff.mp h1 i (by omega)
  rw [lm] at a2
  by_cases hin : p + m ≤ c
  · refine ⟨p, lies_iff15.mpr ⟨by rw [lc, lm]; omega, fun j hj => ?_⟩, a1, by rw [lm]; exact a2⟩
    rw [lm] at hj
    rw [List.getElem?_take_of_lt (show p + j < c by omega)]
    exact (lies_iff15.mp hp).2 j (by rw [lm]; exact hj)
  · refine ⟨c - m, lies_iff15.mpr ⟨by rw [lc, lm]; omega, fun j hj => ?_⟩, by omega, by rw [lm]; omega⟩
    rw [lm] at hj
    rw [List.getElem?_take_of_lt (by omega), List.getElem?_take_of_lt hj, ← border_get m1 (by omega) h1 j hj, ← border_get (by omega) hc h2 (c - m + j) (by omega), show t.length - c + (c - m + j) = t.length - m + j by omega]
theorem cov_cover {t : List Nat} {c : Nat} (h : c ∈ coversOf t) (m : Nat) : m ∈ coversOf (t.take c) ↔ m ∈ coversOf t ∧ m ≤ c := by
  obtain ⟨c1, c2, c3⟩ := cov_mem.mp h
  rw [cov_mem, cov_mem, tlen c2]
  constructor
  · rintro ⟨h1, h2, h3⟩
    rw [take2 h2] at h3
    exact ⟨⟨h1, by omega, cov_trans (by rw [tlen (by omega)]; exact h1) (by rw [tlen c2]; exact c1) c3 h3⟩, h2⟩
  · rintro ⟨⟨h1, h2, h3⟩, h4⟩
    exact ⟨h1, h4, by rw [take2 h4]; exact cov_down h1 h4 c2 h3 c3⟩
theorem cov_upto {t : List Nat} {c : Nat} (h : c ∈ coversOf t) : coversOf (t.take c) = (coversOf t).filter fun m => decide (m ≤ c) := by
  refine sorted_ext (cov_sorted _) (List.Pairwise.filter _ (cov_sorted _)) fun m => ?_
  rw [cov_cover h, List.mem_filter, decide_eq_true_eq]
theorem filter_upto : ∀ {L : List Nat} {i c : Nat}, L.Pairwise (· < ·) → L[i]? = some c → L.filter (fun m => decide (m ≤ c)) = L.take (i + 1)
  | [], i, c, _, h => by simp at h
  | x :: r, 0, c, hs, h => by
    have : x = c := by simpa using h
    subst this
    rw [List.filter_cons, if_pos (by simp), List.filter_eq_nil_iff.mpr]
    · simp
    · intro y hy
      have := (List.pairwise_cons.mp hs).1 y hy
      simp; omega
  | x :: r, i + 1, c, hs, h => by
    have h' : r[i]? = some c := by simpa using h
    have hs' := List.pairwise_cons.mp hs
    have := hs'.1 c (List.mem_of_getElem? h')
    rw [List.filter_cons, if_pos (by simp; omega), filter_upto hs'.2 h']
    simp
theorem cov_last {t : List Nat} (h : 1 ≤ t.length) : ∃ L, coversOf t = L ++ [t.length] ∧ ∀ m ∈ L, m < t.length :=
  sorted_split (cov_sorted t) (coversOf_own h) fun _ hm => (mem_coversOf hm).2.1
theorem cov_head {t : List Nat} {x : Nat} {r : List Nat} (h : coversOf t = x :: r) : coversOf (t.take x) = [x] := by
  have hx : x ∈ coversOf t := by rw [h]; exact List.mem_cons_self
  rw [cov_upto hx, filter_upto (cov_sorted t) (i := 0) (by rw [h]; rfl), h]
  rfl
/-- the covers of the beginning of h signs -/
def lens0 (t : List Nat) (h : Nat) : List Nat := if h = 0 then [] else lens t h
theorem lens_gr {t : List Nat} {h : Nat} (h1 : 1 ≤ h) (h2 : h ≤ t.length) : lens t h = lens0 t (gr t (h - 1)) ++ [h] := by
  obtain ⟨L, e, hL⟩ := lens_split h1 h2
  have eh : h - 1 + 1 = h := by omega
  have eg : gr t (h - 1) = L.getLastD 0 := by
    unfold gr
    rw [eh, e, List.filter_append, List.filter_eq_self.mpr fun m hm => decide_eq_true (hL m hm)]
    simp
  rw [e]
  congr 1
  rcases List.eq_nil_or_concat L with rfl | ⟨M, g, rfl⟩
  · rw [eg]; rfl
  · rw [eg, show (M.concat g).getLastD 0 = g by simp]
    rw [List.concat_eq_append] at e hL ⊢
    have hg : g ∈ lens t h := by rw [e]; simp
    have g2 := hL g (by simp)
    have hc := lens_cov h1 h2
    rw [hc] at hg e
    have g1 := (cov_mem.mp hg).1
    unfold lens0
    rw [if_neg (by omega), lens_cov g1 (by omega), ← take2 (t := t) (Nat.le_of_lt g2), cov_upto hg, filter_upto (cov_sorted _) (i := M.length) (by rw [e]; simp), e, List.take_left' (by simp)]
theorem lens_all {t : List Nat} (h : 1 ≤ t.length) : lens t t.length = coversOf t := by rw [lens_cov h (Nat.le_refl _), List.take_length]
/-- every length is in one row of the tree -/
theorem rows_perm {f : Nat → Nat} {L : List Nat} : ∀ N, ((List.range N).flatMap fun e => L.filter fun x => decide (f x = e)).Perm (L.filter fun x => decide (f x < N))
  | 0 => by simp
  | N + 1 => by
    rw [List.range_succ, List.flatMap_append]
    refine (List.Perm.append_right _ (rows_perm N)).trans ?_
    have h := List.filter_append_perm (fun x => decide (f x < N)) (L.filter fun x => decide (f x < N + 1))
    rw [List.filter_filter, List.filter_filter] at h
    have e1 : (L.filter fun x => decide (f x < N) && decide (f x < N + 1)) = L.filter fun x => decide (f x < N) := List.filter_congr fun x _ => by
      by_cases h : f x < N
      · simp [h]; omega
      · simp [h]
    have e2 : (L.filter fun x => !decide (f x < N) && decide (f x < N + 1)) = [N].flatMap fun e => L.filter fun x => decide (f x = e) := by
      simp only [List.flatMap_cons, List.flatMap_nil, List.append_nil]
      refine List.filter_congr fun x _ => ?_
      by_cases h : f x = N
      · simp [h]
      · by_cases h' : f x < N
        · simp [h']; omega
        · have : ¬ f x < N + 1 := by omega
          simp [h, this]
    rw [e1, e2] at h
    exact h
def treeCat (t : List Nat) (k : Nat) : List Nat := (List.range k).flatMap (tree t)
theorem treeCat_succ (t : List Nat) (k : Nat) : treeCat t (k + 1) = treeCat t k ++ tree t k := by
  unfold treeCat
  rw [List.range_succ, List.flatMap_append]; simp
theorem tree_perm (t : List Nat) : (treeCat t (t.length + 1)).Perm ((List.range t.length).map (· + 1)) := by
  have h := (rows_perm (f := gr t) (L := List.range t.length) (t.length + 1)).map (· + 1)
  have e1 : ((List.range t.length).filter fun x => decide (gr t x < t.length + 1)) = List.range t.length := List.filter_eq_self.mpr fun x hx => by
    have := gr_le t x
    rw [List.mem_range] at hx
    exact decide_eq_true (show gr t x < t.length + 1 by omega)
  rw [e1, List.map_flatMap] at h
  exact h
theorem treeCat_len {t : List Nat} {k : Nat} (h : k ≤ t.length + 1) : (treeCat t k).length ≤ t.length := by
  have h1 := (tree_perm t).length_eq
  rw [List.length_map, List.length_range] at h1
  have : ∀ d k, k + d = t.length + 1 → (treeCat t k).length ≤ (treeCat t (t.length + 1)).length := by
    intro d
    induction d with
    | zero => intro k e; rw [show k = t.length + 1 by omega]; exact Nat.le_refl _
    | succ d ih =>
      intro k e
      have := ih (k + 1) (by omega)
      rw [treeCat_succ, List.length_append] at this
      omega
  have := this (t.length + 1 - k) k (by omega)
  omega
theorem sorted_all {ms : List Int} {L : List Nat} {n : Nat} (hp : ms.Perm (L.map fun (k : Nat) => (k : Int))) (hs : ms.Pairwise (· ≤ ·)) (hL : L.Perm ((List.range n).map (· + 1))) : ms = (List.range n).map fun x => ((x + 1 : Nat) : Int) := by
  refine List.Perm.eq_of_pairwise (le := (· ≤ ·)) (fun a b _ _ h1 h2 => by omega) hs ?_ (hp.trans ?_)
  · exact List.pairwise_map.mpr (List.pairwise_lt_range.imp fun q => by omega)
  · have := hL.map fun (k : Nat) => (k : Int)
    rw [List.map_map] at this
    exact this
/-- from behind -/
theorem cov_rev1 {t : List Nat} {m : Nat} (h : m ∈ coversOf t) : m ∈ coversOf t.reverse := by
  obtain ⟨h1, h2, h3⟩ := cov_mem.mp h
  have lm := tlen h2
  rw [cov_mem, List.length_reverse]
  refine ⟨h1, h2, covers_iff.mpr fun i hi => ?_⟩
  rw [List.length_reverse] at hi
  have lr : (t.reverse.take m).length = m := by rw [tlen]; rw [List.length_reverse]; exact h2
  obtain ⟨p, hp, a1, a2⟩ := covers_iff.mp h3 (t.length - 1 - i) (by omega)
  have lp := lies_in hp (by omega)
  have gp := (lies_iff15.mp hp).2
  rw [lm] at a2 lp gp
  refine ⟨t.length - m - p, lies_iff15.mpr ⟨by rw [lr, List.length_reverse]; omega, fun j hj => ?_⟩, by omega, by rw [lr]; omega⟩
  rw [lr] at hj
  rw [List.getElem?_take_of_lt hj, List.getElem?_reverse (by omega), List.getElem?_reverse (by omega)]
  have g := gp (m - 1 - j) (by omega)
  rw [List.getElem?_take_of_lt (show m - 1 - j < m by omega), ← border_get h1 h2 h3 (m - 1 - j) (by omega)] at g
  rw [show t.length - 1 - (t.length - m - p + j) = p + (m - 1 - j) by omega, g, show t.length - m + (m - 1 - j) = t.length - 1 - j by omega]
theorem cov_rev (t : List Nat) : coversOf t.reverse = coversOf t := by
  refine sorted_ext (cov_sorted _) (cov_sorted _) fun m => ⟨fun h => ?_, cov_rev1⟩
  have := cov_rev1 h
  rwa [List.reverse_reverse] at this
theorem cov_map {t : List Nat} {f : Nat → Nat} (hf : ∀ a ∈ t, ∀ b ∈ t, f a = f b → a = b) : coversOf (t.map f) = coversOf t := by
  unfold coversOf
  rw [List.length_map]
  refine List.filter_congr fun m hm => ?_
  have key : ∀ {a b : Nat}, a < t.length → b < t.length → ((t.map f)[a]? = (t.map f)[b]? ↔ t[a]? = t[b]?) := fun {a b} ha hb => by
    rw [List.getElem?_map, List.getElem?_map, List.getElem?_eq_getElem ha, List.getElem?_eq_getElem hb]
    constructor
    · intro h
      rw [hf _ (List.getElem_mem ha) _ (List.getElem_mem hb) (Option.some.inj h)]
    · intro h
      rw [Option.some.inj h]
  obtain ⟨x, hx, rfl⟩ := (List.mem_map (b := m)).mp hm
  rw [List.mem_range] at hx
  have l1 : ((t.map f).take (x + 1)).length = x + 1 := by rw [tlen]; rw [List.length_map]; omega
  have l2 : (t.take (x + 1)).length = x + 1 := tlen (by omega)
  have e : liesIn (t.map f) ((t.map f).take (x + 1)) = liesIn t (t.take (x + 1)) := by
    refine sorted_ext (lies_sorted _ _) (lies_sorted _ _) fun p => ?_
    rw [lies_iff15, lies_iff15, l1, l2, List.length_map]
    refine and_congr_right fun hp => ⟨fun h j hj => ?_, fun h j hj => ?_⟩
    · have := h j hj
      rw [List.getElem?_take_of_lt hj] at this ⊢
      exact (key (by omega) (by omega)).mp this
    · have := h j hj
      rw [List.getElem?_take_of_lt hj] at this ⊢
      exact (key (by omega) (by omega)).mpr this
  unfold covers
  rw [e, l1, l2, List.length_map]
/-- the sets of places that cover: one, just where the fewest are all -/
theorem two_le_count {f : Nat → Bool} {N a b : Nat} (ha : a < N) (hb : b < N) (hab : a ≠ b) (fa : f a = true) (fb : f b = true) : 2 ≤ (List.range N).countP f := by
  rw [List.countP_eq_length_filter]
  have hn : ([a, b] : List Nat).Nodup := by simp [hab]
  have := hn.length_le_of_subset (l₂ := (List.range N).filter f) fun x hx => by
    rw [List.mem_filter, List.mem_range]
    rcases (List.mem_cons (a := x)).mp hx with rfl | hx'
    · exact ⟨ha, fa⟩
    · rw [List.mem_singleton.mp hx']; exact ⟨hb, fb⟩
  simpa using this
theorem count_le_one {f : Nat → Bool} {N c : Nat} (h : ∀ x, x < N → f x = true → x = c) : (List.range N).countP f ≤ 1 := by
  rw [List.countP_eq_length_filter]
  have hn : ((List.range N).filter f).Nodup := List.Nodup.sublist List.filter_sublist List.nodup_range
  have := hn.length_le_of_subset (l₂ := [c]) fun x hx => by
    obtain ⟨h1, h2⟩ := List.mem_filter.mp hx
    rw [h x (List.mem_range.mp h1) h2]; simp
  simpa using this
theorem pick_full : ∀ {l : List Nat} {x : Nat}, x < 2 ^ l.length → pick l x = l → x = 2 ^ l.length - 1
  | [], x, h, _ => by simp at h; simp [h]
  | p :: r, x, h, e => by
    rw [List.length_cons, Nat.pow_succ] at h ⊢
    have hp : 0 < 2 ^ r.length := Nat.two_pow_pos _
    simp only [pick] at e
    by_cases z : x % 2 = 1
    · rw [if_pos z] at e
      have := pick_full (x := x / 2) (by omega) (List.cons.inj e).2
      omega
    · rw [if_neg z] at e
      have h1 := (pick_sub r (x / 2)).length_le
      have h2 := congrArg List.length e
      rw [List.length_cons] at h2
      omega
theorem ways_one {n m : Nat} {ks : List Nat} (C : Cvr n m ks) (n1 : 1 ≤ n) : 1 ≤ wys n m 0 ks ∧ (wys n m 0 ks = 1 ↔ bestF n m ks 0 = ks) := by
  have h0 := cov_zero n1 C.cov
  obtain ⟨b1, b2⟩ := best_covers C h0
  rw [← wys_sets C.m1 C.srt C.lim]
  obtain ⟨x, hx, ex⟩ := pick_all (List.Sublist.refl ks)
  obtain ⟨y, hy, ey⟩ := pick_all b2
  have fx : decide (bareOf n m (pick ks x) = n) = true := by rw [ex]; exact decide_eq_true C.cov
  have fy : decide (bareOf n m (pick ks y) = n) = true := by rw [ey]; exact decide_eq_true b1
  have p1 : 1 ≤ (List.range (2 ^ ks.length)).countP fun x => decide (bareOf n m (pick ks x) = n) := by
    rw [Nat.one_le_iff_ne_zero]
    intro z
    exact (List.countP_eq_zero.mp z) x (List.mem_range.mpr hx) fx
  refine ⟨p1, fun h => ?_, fun h => ?_⟩
  · by_cases e : x = y
    · rw [← e, ex] at ey; exact ey.symm
    · have := two_le_count (f := fun x => decide (bareOf n m (pick ks x) = n)) hx hy e fx fy
      omega
  · have : (List.range (2 ^ ks.length)).countP (fun x => decide (bareOf n m (pick ks x) = n)) ≤ 1 := by
      refine count_le_one (c := 2 ^ ks.length - 1) fun z hz fz => pick_full hz ?_
      have l := (set_least C n1 (pick_sub ks z) (of_decide_eq_true fz)).1
      unfold lenF at l
      rw [h] at l
      have l2 := (pick_sub ks z).length_le
      exact (pick_sub ks z).eq_of_length (by omega)
    omega
/-- one place fewer is no laying -/
theorem fewer_none {n m : Nat} {ks : List Nat} (C : Cvr n m ks) (n1 : 1 ≤ n) {i : Nat} (hi : i < (bestF n m ks 0).length) : bareOf n m ((bestF n m ks 0).eraseIdx i) ≠ n := fun h => by
  have h0 := cov_zero n1 C.cov
  obtain ⟨b1, b2⟩ := best_covers C h0
  have l := (set_least C n1 ((List.eraseIdx_sublist _ _).trans b2) h).1
  rw [List.length_eraseIdx_of_lt hi] at l
  unfold lenF at l
  omega

end Ov

namespace Ov
open PySem L2
abbrev sTreeR : Stmt := top 40
def spTreeR : Sp := fun vs H Q _ => ∃ (a b : Addr) (t : List Nat), vs = [.ref a, .ref b] ∧ H a = some (.lst (t.map sg)) ∧ H b = some (.lst (vInts (coversOf t))) ∧ Low t ∧ 1 ≤ t.length ∧ t.length ≤ 900 ∧
  ∀ H', Same H H' → Q (.bl true) H'
theorem atI_neg1 {α : Type} {xs : List α} {v : α} (h1 : 1 ≤ xs.length) (h : xs[xs.length - 1]? = some v) : atI xs (-1) = some v := by
  unfold atI ixN
  rw [if_neg (by decide), if_pos (by omega)]
  show xs[(-1 + (xs.length : Int)).toNat]? = _
  rw [show (-1 + (xs.length : Int)).toNat = xs.length - 1 by omega]
  exact h
theorem vI_at {L : List Nat} {j x : Nat} (h : L[j]? = some x) : (vInts L)[j]? = some (V.int (x : Int)) := by
  unfold vInts
  rw [List.map_map, List.getElem?_map, h]; rfl
theorem lens0_zero (t : List Nat) : lens0 t 0 = [] := rfl
theorem in_vInts {n : Nat} {L : List Nat} (h : n ∈ L) : inV (.int (n : Int)) (vInts L) = true := by
  unfold inV vInts
  rw [List.map_map, List.any_map, List.any_eq_true]
  refine ⟨n, h, ?_⟩
  show ((n : Int) == (n : Int)) = true
  simp
theorem flat_vI (L : List Nat) : (vInts L).all flatV = true := by
  unfold vInts
  rw [List.map_map, List.all_map, List.all_eq_true]
  intro k _; rfl
section
variable {P : Program} {w : World} {K : PySem.W.Frag} {mg : Str → Option Value} {base : Heap}
theorem scTreeR : FnScope ["text", "covers", "size", "tree", "above", "found", "here"] ["text", "covers"] (defScope sTreeR) := ⟨rfl, rfl, rfl, by decide +kernel, rfl, by decide +kernel, by decide +kernel⟩
theorem ok_treeR (M : Md K mg) (B : Bl mg) (nsorted : mg "sorted" = none) (F : FF K "_law_tree_right" sTreeR) (Fcover_tree : Fn P w K mg base CX0 "cover_tree" 8 ["text"] spTree) (Fgreatest_covers : Fn P w K mg base CX0 "greatest_covers" 7 ["text"] (spInts greatOf)) (Fhow_many_covers : Fn P w K mg base CX0 "how_many_covers" 7 ["text"] (spInts manyOf)) (Fshortest_covers : Fn P w K mg base CX0 "shortest_covers" 7 ["text"] (spInts shortOf)) : Fn P w K mg base CX0 "_law_tree_right" 9 ["text", "covers"] spTreeR := by
  refine fn_ok M F scTreeR (fun _ _ _ _ _ _ => us2 fun _ _ => rfl) (fun vs H Q E h => ?_) (fun f cdv A outer s H vs Q E hr h => ?_)
  · obtain ⟨a, b, t, rfl, _⟩ := h; rfl
  · obtain ⟨a, b, t, rfl, ha, hb, lt, t1, tl, k⟩ := h
    refine ⟨_, (pss_cons (ps_set (i := 2) scTreeR.nd rfl (by first | exact Or.inl rfl | exact Or.inr rfl) (pe_lenL B.len (pv 0)))
      (pss_cons (ps_set (i := 3) scTreeR.nd rfl (by first | exact Or.inl rfl | exact Or.inr rfl) (pe_fn Fcover_tree hr pass0 (pa_cons (pv 0) pa_nil)))
      (pss_cons (ps_set (i := 4) scTreeR.nd rfl (by first | exact Or.inl rfl | exact Or.inr rfl) (pe_fn Fgreatest_covers hr pass0 (pa_cons (pv 0) pa_nil)))
      (pss_cons (ps_set (i := 5) scTreeR.nd rfl (by first | exact Or.inl rfl | exact Or.inr rfl) (pe_lst pa_nil))
      (pss_cons (ps_set (i := 6) scTreeR.nd rfl (by first | exact Or.inl rfl | exact Or.inr rfl) (pv 2))
      (pss_cons (ps_while PassesOwn.never (pt_cmpR op_gt (pv 6) pe_int (nomark _)) (pss_cons (ps_expr (pe_bm PySem.F.plainAttrs_list PySem.F.slot_list_append PySem.F.type_list_append mt_append (pv 5) (pa_cons (pv 6) pa_nil)))
      (pss_cons (ps_if (pt_cmpR op_notIn_seq (pv 6) (pe_ix ix_list (pv 3) (pe_ix ix_list (pv 4) (pe_op op_sub (pv 6) pe_int) (fun _ _ => rfl)) (fun _ _ => rfl)) (by with_unfolding_all rfl)) (pss_one (ps_ret pe_bl)) pss_nil)
      (pss_one (ps_set (i := 6) scTreeR.nd rfl (by first | exact Or.inl rfl | exact Or.inr rfl) (pe_ix ix_list (pv 4) (pe_op op_sub (pv 6) pe_int) (fun _ _ => rfl)))))))
      (pss_cons (ps_if (PW.pt (pw_or (pt_cmpR (op_neLI (by exact hr)) (pe_rev_slice (pv 5)) (pv 1) (nomark _)) (pw_or1 (pt_cmpR op_ne (pe_ix ix_list (pe_fn Fhow_many_covers hr pass0 (pa_cons (pv 0) pa_nil)) (pe_un un_neg pe_int) (fun _ _ => rfl)) (pe_lenL B.len (pv 1)) (nomark _))))) (pss_one (ps_ret pe_bl)) pss_nil)
      (pss_one (ps_ret (pe_and (pe_cmpR op_eq (pe_ix ix_list (pe_fn Fshortest_covers hr pass0 (pa_cons (pv 0) pa_nil)) (pe_un un_neg pe_int) (fun _ _ => rfl)) (pe_ix ix_list (pv 1) pe_int (fun _ _ => rfl)) (nomark _)) (pe_one (pe_cmpR (op_eqLI (by exact hr)) (pe_sortI rfl nsorted (pe_sumLL rfl B.sum (pv 3) (pe_lst pa_nil))) (pe_listRa rfl B.list B.range (pa_cons pe_int (pa_cons (pe_op op_add (pv 2) pe_int) pa_nil))) (nomark _))))))))))))), ?_⟩
    refine ⟨_, rfl, a, _, rfl, SqL.of ha, ?_⟩
    rw [List.length_map]
    refine ⟨_, rfl, a, t, rfl, ha, lt, tl, fun r1 cs1 H1 R1 n1 s1 => ?_⟩
    have ha1 := s1 _ _ ha
    refine ⟨_, rfl, a, t, rfl, ha1, lt, tl, fun r2 H2 hr20 hr2 s2 => ?_⟩
    refine ⟨Nat.zero_le _, fun r3 hr3 => ?_⟩
    have s3 := Same.upd (o := .lst []) hr3
    have hr33 := upd_same (H := H2) (a := r3) (o := .lst [])
    generalize L2.upd H2 r3 (.lst []) = H3 at s3 hr33 ⊢
    refine ⟨_, rfl, ?_⟩
    refine ⟨fun m σ H' => ∃ (fs : List Nat) (h : Nat), m = h ∧ h ≤ t.length ∧ σ = [some (.ref a), some (.ref b), some (.int (t.length : Nat)), some (.ref r1), some (.ref r2), some (.ref r3), some (.int (h : Int))] ∧ coversOf t = lens0 t h ++ fs.reverse ∧ H' r3 = some (.lst (vInts fs)) ∧ fs.length + h ≤ t.length ∧ ∀ b o, H2 b = some o → H' b = some o, ⟨t.length, [], t.length, rfl, Nat.le_refl _, rfl, ?_, hr33, by simp, s3⟩, ?_⟩
    · unfold lens0
      rw [if_neg (by omega), lens_all t1]; simp
    rintro m σ H' ⟨fs, h, rfl, hm, rfl, hcv, hf, hfl, s4⟩
    have R1' := R1.same (fun b o e => s4 b o (s2 b o e))
    have hr2' := s4 _ _ hr2
    refine ⟨_, rfl, _, _, rfl, rfl, _, rfl, ?_⟩
    refine ite2 (fun hc => ?_) (fun hc => ?_)
    · have hm0 : 0 < m := by
        have : (0 : Int) < (m : Int) := of_decide_eq_true hc
        omega
      have em : (m : Int) - 1 = ((m - 1 : Nat) : Int) := by omega
      have hg : (greatOf t)[m - 1]? = some (gr t (m - 1)) := by
        unfold greatOf
        rw [List.getElem?_map, List.getElem?_range (by omega)]; rfl
      have hgl := gr_le t (m - 1)
      refine ⟨fun σ' H'' => σ' = [some (.ref a), some (.ref b), some (.int (t.length : Nat)), some (.ref r1), some (.ref r2), some (.ref r3), some (.int (gr t (m - 1) : Nat))] ∧ H'' r3 = some (.lst (vInts (fs ++ [m]))) ∧ ∀ b o, H2 b = some o → H'' b = some o, ?_, ?_⟩
      · rintro σ' H'' ⟨rfl, h1, h2⟩
        refine ⟨gr t (m - 1), by omega, fs ++ [m], _, rfl, by omega, rfl, ?_, h1, by simp; omega, h2⟩
        rw [hcv, show lens0 t m = lens t m by unfold lens0; rw [if_neg (by omega)], lens_gr hm0 hm]
        simp
      · refine ⟨_, rfl, .inl ⟨rfl, _, SqL.of hf⟩, _, rfl, r3, _, _, rfl, rfl, hf, by rw [vInts_len]; exact small1000 (by omega), ?_⟩
        have nr : ∀ b o, H2 b = some o → b ≠ r3 := fun b o e => ne_of_none e hr3
        have s5 : ∀ b o, H2 b = some o → (L2.upd H' r3 (.lst (vInts fs ++ [V.int (m : Int)]))) b = some o := fun b o e => by rw [upd_ne (nr b o e)]; exact s4 b o e
        have hf5 : (L2.upd H' r3 (.lst (vInts fs ++ [V.int (m : Int)]))) r3 = some (.lst (vInts (fs ++ [m]))) := by rw [upd_same, vInts_snoc']
        generalize L2.upd H' r3 (.lst (vInts fs ++ [V.int (m : Int)])) = H5 at s5 hf5 ⊢
        obtain ⟨c, hc1, hc2⟩ := rows_get (cs := cs1) (e := gr t (m - 1)) (by omega)
        have R5 := R1.same (fun b o e => s5 b o (s2 b o e))
        have ix : atI (vInts (greatOf t)) ((m : Int) - 1) = some (.int (gr t (m - 1) : Nat)) := by rw [em]; exact atI_nat (vI_at hg)
        refine ⟨_, rfl, _, rfl, _, rfl, _, rfl, _, _, rfl, rfl, r2, _, _, _, rfl, rfl, SqL.of (s5 _ _ hr2), ix, r1, _, _, _, rfl, rfl, SqL.of R5.top, atI_nat hc2, c, _, rfl, .inl (SqL.of (R5.row _ c hc1)), rfl, flat_vI _, _, rfl, ?_⟩
        have hmem : m ∈ tree t (gr t (m - 1)) := by
          unfold tree treeAt
          rw [List.mem_map]
          exact ⟨m - 1, List.mem_filter.mpr ⟨List.mem_range.mpr (by omega), decide_eq_true rfl⟩, by omega⟩
        rw [in_vInts hmem]
        refine iteF ?_
        exact ⟨_, rfl, _, rfl, _, _, rfl, rfl, r2, _, _, _, rfl, rfl, SqL.of (s5 _ _ hr2), ix, rfl, hf5, s5⟩
    · have h0 : m = 0 := by
        have : ¬ (0 : Int) < (m : Int) := fun z => hc (decide_eq_true z)
        omega
      subst h0
      rw [lens0_zero, List.nil_append] at hcv
      have s04 : ∀ b o, H b = some o → H' b = some o := fun b o e => s4 b o (s2 b o (s1 b o e))
      have ha4 := s04 _ _ ha
      have hb4 := s04 _ _ hb
      have cl := coversOf_len t
      refine ⟨_, rfl, r3, _, rfl, SqL.of hf, fun p1 hp1 => ?_⟩
      rw [vInts_rev]
      have s5 := Same.upd (o := .lst (vInts fs.reverse)) hp1
      have hp5 := upd_same (H := H') (a := p1) (o := .lst (vInts fs.reverse))
      generalize L2.upd H' p1 (.lst (vInts fs.reverse)) = H5 at s5 hp5 ⊢
      refine ⟨_, rfl, p1, b, fs.reverse.map (fun (k : Nat) => (k : Int)), (coversOf t).map (fun (k : Nat) => (k : Int)), rfl, rfl, SqL.of hp5, SqL.of (s5 _ _ hb4), _, rfl, ?_⟩
      rw [decide_eq_true (show fs.reverse.map (fun (k : Nat) => (k : Int)) = (coversOf t).map (fun (k : Nat) => (k : Int)) by rw [hcv])]
      refine iteF ?_
      refine ⟨_, rfl, a, t, rfl, s5 _ _ ha4, lt, tl, fun r4 H6 hr40 hr46 s6 => ?_⟩
      have hml : (manyOf t).length = t.length := by simp [manyOf]
      have hmv : (manyOf t)[t.length - 1]? = some (coversOf t).length := by
        unfold manyOf
        rw [List.getElem?_map, List.getElem?_range (by omega)]
        show some (lens t (t.length - 1 + 1)).length = _
        rw [show t.length - 1 + 1 = t.length by omega, lens_all t1]
      refine ⟨1, rfl, r4, _, _, _, rfl, rfl, SqL.of hr46, atI_neg1 (by rw [vInts_len, hml]; exact t1) (by rw [vInts_len, hml]; exact vI_at hmv), ?_⟩
      have hb6 := s6 _ _ (s5 _ _ hb4)
      have ha6 := s6 _ _ (s5 _ _ ha4)
      refine ⟨_, rfl, b, _, rfl, SqL.of hb6, rfl, _, rfl, ?_⟩
      rw [vInts_len]
      refine iteNS rfl ?_
      refine ⟨_, rfl, a, t, rfl, ha6, lt, tl, fun r5 H7 hr50 hr57 s7 => ?_⟩
      have hsl : (shortOf t).length = t.length := by simp [shortOf]
      obtain ⟨x, rr, ex⟩ := coversOf_cons t1
      have hsv : (shortOf t)[t.length - 1]? = some x := by
        unfold shortOf
        rw [List.getElem?_map, List.getElem?_range (by omega)]
        show some ((lens t (t.length - 1 + 1)).headD 0) = _
        rw [show t.length - 1 + 1 = t.length by omega, lens_all t1, ex]; rfl
      have hb7 := s7 _ _ hb6
      refine ⟨1, rfl, r5, _, _, _, rfl, rfl, SqL.of hr57, atI_neg1 (by rw [vInts_len, hsl]; exact t1) (by rw [vInts_len, hsl]; exact vI_at hsv), ?_⟩
      refine ⟨_, rfl, b, _, 0, _, rfl, rfl, SqL.of hb7, atI_nat (j := 0) (vI_at (by rw [ex]; rfl)), rfl, _, rfl, ?_⟩
      rw [decide_eq_true rfl]
      refine iteT ?_
      have s47 : ∀ b o, H' b = some o → H7 b = some o := fun b o e => s7 _ _ (s6 _ _ (s5 _ _ e))
      have R7 := R1'.same s47
      refine ⟨_, rfl, Nat.zero_le _, fun p2 hp2 => ?_⟩
      have s8 := Same.upd (o := .lst []) hp2
      have hp8 := upd_same (H := H7) (a := p2) (o := .lst [])
      generalize L2.upd H7 p2 (.lst []) = H8 at s8 hp8 ⊢
      have R8 := R7.same s8
      have tcl := treeCat_len (t := t) (k := t.length + 1) (Nat.le_refl _)
      have ec : (List.range cs1.length).flatMap (tree t) = treeCat t (t.length + 1) := by unfold treeCat; rw [n1]
      refine ⟨r1, p2, cs1, tree t, rfl, rfl, R8.top, by omega, hp8, fun i c h => by rw [R8.row i c h]; unfold vInts; rw [List.map_map]; rfl, by rw [ec]; omega, fun p3 hp3 => ?_⟩
      rw [ec]
      have s9 := Same.upd (o := .lst ((treeCat t (t.length + 1)).map fun (k : Nat) => V.int (k : Int))) hp3
      have hp9 := upd_same (H := H8) (a := p3) (o := .lst ((treeCat t (t.length + 1)).map fun (k : Nat) => V.int (k : Int)))
      generalize L2.upd H8 p3 (.lst ((treeCat t (t.length + 1)).map fun (k : Nat) => V.int (k : Int))) = H9 at s9 hp9 ⊢
      refine ⟨p3, (treeCat t (t.length + 1)).map (fun (k : Nat) => (k : Int)), rfl, by rw [hp9, List.map_map]; rfl, by rw [List.length_map]; omega, fun p4 ms hpm hps hp4 => ?_⟩
      have ems := sorted_all hpm hps (tree_perm t)
      have s10 := Same.upd (o := .lst (ms.map V.int)) hp4
      have hp10 := upd_same (H := H9) (a := p4) (o := .lst (ms.map V.int))
      generalize L2.upd H9 p4 (.lst (ms.map V.int)) = H10 at s10 hp10 ⊢
      refine ⟨_, rfl, _, _, rfl, rfl, 1, t.length + 1, t.length, rfl, by decide, by omega, by omega, fun p5 hp5 => ?_⟩
      have s11 := Same.upd (o := .lst ((numsFrom 1 1 t.length).map V.int)) hp5
      have hp11 := upd_same (H := H10) (a := p5) (o := .lst ((numsFrom 1 1 t.length).map V.int))
      generalize L2.upd H10 p5 (.lst ((numsFrom 1 1 t.length).map V.int)) = H11 at s11 hp11 ⊢
      refine ⟨p4, p5, ms, numsFrom 1 1 t.length, rfl, rfl, SqL.of (s11 _ _ hp10), SqL.of hp11, ?_⟩
      have en : ms = numsFrom 1 1 t.length := by
        rw [ems]
        unfold numsFrom
        refine List.map_congr_left fun y _ => ?_
        rw [Nat.mul_one, Nat.add_comm]
      rw [decide_eq_true en]
      exact k _ fun b o e => s11 _ _ (s10 _ _ (s9 _ _ (s8 _ _ (s47 _ _ (s04 _ _ e)))))
end

end Ov

namespace Ov
open PySem L2
abbrev sCovR : Stmt := top 41
def spCovR : Sp := fun vs H Q _ => ∃ (p a b : Addr) (t : List Nat), vs = [.ref p, .ref a, .ref b] ∧ Hand H p ∧ a ≠ p ∧ b ≠ p ∧ H a = some (.lst (t.map sg)) ∧ H b = some (.lst (vInts (coversOf t))) ∧ Low t ∧ 1 ≤ t.length ∧ t.length ≤ 900 ∧
  ∀ H', Hand H' p → Keep p H H' → Q (.bl true) H'
theorem meet_any {t rest : TS} {D : Ends} {σ : St} {H : Hp} (T : St → Hp → Prop) (hr : ∀ σ' H', T σ' H' → rest D σ' H') (h : ∀ R : St → Hp → Prop, (∀ σ' H', T σ' H' → R σ' H') → t { D with nx := R } σ H) : tSeq t rest D σ H := h (rest D) hr
theorem cut_pre {t : List Nat} {m : Nat} : cutV (t.map sg) none (some (m : Int)) = (t.take m).map sg := by rw [cutV_cutL, cutL_map, cutL_hi _ _ (by omega), Int.toNat_natCast]
theorem cut_vI {L : List Nat} {m : Nat} : cutV (vInts L) none (some (m : Int)) = vInts (L.take m) := by
  rw [cutV_cutL, cutL_hi _ _ (by omega), Int.toNat_natCast]
  unfold vInts
  rw [List.map_take, List.map_take]
theorem cutL_m1 {α : Type} (xs : List α) (x : α) : cutL (xs ++ [x]) none (some (-1)) = xs := by
  unfold cutL
  have e : HT.sIx (xs ++ [x]).length (xs ++ [x]).length (some (-1)) = xs.length := by
    simp [HT.sIx]
    omega
  rw [e, HT.sIx_none, List.drop_zero, Nat.sub_zero, List.take_left']
  rfl
theorem cut_last {L : List Nat} {n : Nat} : cutV (vInts (L ++ [n])) none (some (-1)) = vInts L := by
  rw [cutV_cutL, vInts_snoc']
  exact cutL_m1 _ _
theorem vI_get {L : List Nat} {i : Nat} {x : V} (h : (vInts L)[i]? = some x) : ∃ k, L[i]? = some k ∧ x = V.int (k : Int) := vInts_get h
theorem first_at {C : List Nat} {c : Nat} (hs : C.Pairwise (· < ·)) (h : c ∈ C) : ∃ j : Nat, C[j]? = some c ∧ (C.map fun (k : Nat) => (k : Int))[j]? = some (c : Int) ∧ ∀ i, i < j → (C.map fun (k : Nat) => (k : Int))[i]? ≠ some (c : Int) := by
  obtain ⟨j, hj⟩ := List.mem_iff_getElem?.mp h
  refine ⟨j, hj, by rw [List.getElem?_map, hj]; rfl, fun i hi q => ?_⟩
  rw [List.getElem?_map] at q
  cases e : C[i]? with
  | none => rw [e] at q; cases q
  | some x =>
    rw [e] at q
    have : (x : Int) = (c : Int) := Option.some.inj q
    have ex : x = c := by omega
    subst ex
    have := (List.getElem?_inj (List.getElem?_eq_some_iff.mp e).1 (hs.imp fun h => Nat.ne_of_lt h)).mp (e.trans hj.symm)
    omega
section
variable {P : Program} {w : World} {K : PySem.W.Frag} {mg : Str → Option Value} {base : Heap}
theorem scCovR : FnScope ["hand", "text", "covers", "some", "cover", "names", "called"] ["hand", "text", "covers"] (defScope sCovR) := ⟨rfl, rfl, rfl, by decide +kernel, rfl, by decide +kernel, by decide +kernel⟩
theorem ok_covR (M : Md K mg) (B : Bl mg) (F : FF K "_law_covers_right" sCovR) (F_law_take : Fn P w K mg base CX0 "_law_take" 1 ["hand", "many"] spTake) (Fborders : Fn P w K mg base CX0 "borders" 3 ["text"] spEnds) (Fcovered : Fn P w K mg base CX0 "covered" 5 ["text", "word"] spCovered) (Fall_covers : Fn P w K mg base CX0 "all_covers" 6 ["text"] spAllCovers) (Fcovered_beginnings : Fn P w K mg base CX0 "covered_beginnings" 5 ["text", "word"] spBegs) (Fis_bare : Fn P w K mg base CX0 "is_bare" 8 ["text"] spIsBare) (Fshortest_cover : Fn P w K mg base CX0 "shortest_cover" 7 ["text"] spShortest) (F_law_renamed : Fn P w K mg base CX0 "_law_renamed" 2 ["hand"] spRen) : Fn P w K mg base CX0 "_law_covers_right" 9 ["hand", "text", "covers"] spCovR := by
  refine fn_ok M F scCovR (fun _ _ _ _ _ _ => us3 fun _ _ _ => rfl) (fun vs H Q E h => ?_) (fun f cdv A outer s H vs Q E hr h => ?_)
  · obtain ⟨p, a, b, t, rfl, _⟩ := h; rfl
  · obtain ⟨p, a, b, t, rfl, hp, nap, nbp, ha, hb, lt, t1, tl, k⟩ := h
    refine ⟨_, (pss_cons (ps_set (i := 3) scCovR.nd rfl (by first | exact Or.inl rfl | exact Or.inr rfl) (pe_slice sl_list (pv 2) po_none (po_some (pe_un un_neg pe_int))))
      (pss_cons (ps_if (PW.pt (pw_and (pt_cmpR op_gt (pe_lenL B.len (pv 1)) pe_int (nomark _)) (pw_and1 (pt_cmpR (op_neLI (by exact hr)) (pv 3) (pe_lst pa_nil) (nomark _))))) (pss_one (ps_setC (i := 3) ["hand", "text", "covers", "some", "cover", "names", "called"] rfl scCovR.nd rfl (by first | exact Or.inl rfl | exact Or.inr rfl) (pi_range1 (by rfl) B.range (pa_cons pe_int pa_nil)) (fun _ => by exact pif_nil) (fun _ => by exact (pe_ix ix_list (pv 2) (pe_fn F_law_take hr pass0 (pa_cons (pv 0) (pa_cons (pe_op op_sub (pe_lenL B.len (pv 2)) pe_int) pa_nil))) (fun _ _ => rfl))))) pss_nil)
      (pss_cons (ps_for PassesOwn.never rfl (pi_list (pv 3)) (pg_name (i := 4) scCovR.nd rfl (by first | exact Or.inl rfl | exact Or.inr rfl))
      (pss_cons (ps_if (PW.pt (pw_or (pt_cmpR op_notIn_seq (pv 4) (pe_fn Fborders hr pass0 (pa_cons (pv 1) pa_nil)) (by with_unfolding_all rfl)) (pw_or1 (pt_cmpR op_ne (pe_ix ix_tup (pe_fn Fcovered hr pass0 (pa_cons (pv 1) (pa_cons (pe_slice sl_list (pv 1) po_none (po_some (pv 4))) pa_nil))) pe_int (fun _ _ => rfl)) pe_str (nomark _))))) (pss_one (ps_ret pe_bl)) pss_nil)
      (pss_cons (ps_if (pt_cmpR (op_neLI (by exact hr)) (pe_fn Fall_covers hr pass0 (pa_cons (pe_slice sl_list (pv 1) po_none (po_some (pv 4))) pa_nil)) (pe_slice sl_list (pv 2) po_none (po_some (pe_op op_add (pe_bm PySem.F.plainAttrs_list PySem.F.slot_list_index PySem.F.type_list_index mt_indexI (pv 2) (pa_cons (pv 4) pa_nil)) pe_int))) (nomark _)) (pss_one (ps_ret pe_bl)) pss_nil)
      (pss_one (ps_if (pt_cmpR op_notIn_seq (pe_lenL B.len (pv 1)) (pe_fn Fcovered_beginnings hr pass0 (pa_cons (pv 1) (pa_cons (pe_slice sl_list (pv 1) po_none (po_some (pv 4))) pa_nil))) (by with_unfolding_all rfl)) (pss_one (ps_ret pe_bl)) pss_nil)))))
      (pss_cons (ps_if (PW.pt (pw_or (pt_cmpR op_isNot (pe_fn Fis_bare hr pass0 (pa_cons (pe_slice sl_list (pv 1) po_none (po_some (pe_ix ix_list (pv 2) pe_int (fun _ _ => rfl)))) pa_nil)) pe_bl (nomark _)) (pw_or1 (pt_cmpR op_ne (pe_fn Fis_bare hr pass0 (pa_cons (pv 1) pa_nil)) (pe_cmpR op_eq (pe_lenL B.len (pv 2)) pe_int (nomark _)) (nomark _))))) (pss_one (ps_ret pe_bl)) pss_nil)
      (pss_cons (ps_if (pt_cmpR op_ne (pe_fn Fshortest_cover hr pass0 (pa_cons (pv 1) pa_nil)) (pe_ix ix_list (pv 2) pe_int (fun _ _ => rfl)) (nomark _)) (pss_one (ps_ret pe_bl)) pss_nil)
      (pss_cons (ps_set (i := 5) scCovR.nd rfl (by first | exact Or.inl rfl | exact Or.inr rfl) (pe_fn F_law_renamed hr pass0 (pa_cons (pv 0) pa_nil)))
      (pss_cons (ps_setC (i := 6) ["hand", "text", "covers", "some", "cover", "names", "called"] rfl scCovR.nd rfl (by first | exact Or.inl rfl | exact Or.inr rfl) (pi_list (pv 1)) (fun _ => by exact pif_nil) (fun _ => by exact (pe_dget (by exact hu_of hr) (pv 5) (pv 7) (fun _ _ => rfl))))
      (pss_one (ps_ret (pe_and (pe_cmpR (op_eqLI (by exact hr)) (pe_fn Fall_covers hr pass0 (pa_cons (pe_rev_slice (pv 1)) pa_nil)) (pv 2) (nomark _)) (pe_one (pe_cmpR (op_eqLI (by exact hr)) (pe_fn Fall_covers hr pass0 (pa_cons (pv 6) pa_nil)) (pv 2) (nomark _))))))))))))), ?_⟩
    obtain ⟨L, eL, hL⟩ := cov_last t1
    have cl := coversOf_len t
    refine ⟨_, rfl, 1, rfl, _, rfl, b, _, rfl, SqL.of hb, fun q1 hq1 => ?_⟩
    rw [eL, cut_last]
    have s1 := Same.upd (o := .lst (vInts L)) hq1
    have hq11 := upd_same (H := H) (a := q1) (o := .lst (vInts L))
    have nq1 : q1 ≠ p := (hp.ne hq1).symm
    have hp1 := hp.same s1
    generalize L2.upd H q1 (.lst (vInts L)) = H1 at s1 hq11 hp1 ⊢
    have ha1 := s1 _ _ ha
    have hb1 := s1 _ _ hb
    dsimp only
    refine meet_any (fun σ H2 => ∃ (q : Addr) (cs : List Nat), σ = [some (.ref p), some (.ref a), some (.ref b), some (.ref q), none, none, none] ∧ q ≠ p ∧ H2 q = some (.lst (vInts cs)) ∧ cs.length ≤ 900 ∧ (∀ c ∈ cs, c ∈ coversOf t ∧ c < t.length) ∧ Hand H2 p ∧ Keep p H H2) ?_ fun R hR => ?_
    · rintro σ H2 ⟨q, cs, rfl, nq, hq2, cl2, hcs, hp2, k2⟩
      have ha2 := k2 _ _ ha nap
      have hb2 := k2 _ _ hb nbp
      refine seq_for ?_
      refine ⟨_, rfl, q, rfl, ⟨_, SqL.of hq2⟩, for_listA (K := K) (a := q) (xs := vInts cs) (fun i σ H3 => Same H2 H3 ∧ ∃ v4, σ = [some (.ref p), some (.ref a), some (.ref b), some (.ref q), v4, none, none]) ⟨Same.refl _, _, rfl⟩ (fun i σ H3 _ h => SqL.of (h.1 _ _ hq2)) ?_ ?_⟩
      · rintro D1 i x σ H3 nx1 hx ⟨s3, v4, rfl⟩
        obtain ⟨c, hc, rfl⟩ := vI_get hx
        obtain ⟨hcC, hcn⟩ := hcs c (List.mem_of_getElem? hc)
        obtain ⟨c1, c2, c3⟩ := cov_mem.mp hcC
        have lc : (t.take c).length = c := tlen c2
        have ha3 := s3 _ _ ha2
        have hb3 := s3 _ _ hb2
        refine ⟨_, rfl, _, rfl, a, t, rfl, ha3, lt, by omega, fun r4 H4 hr40 hr44 s4 => ?_⟩
        refine ⟨r4, _, rfl, .inl (SqL.of hr44), rfl, flat_vI _, false, ?_, iteF ?_⟩
        · show V.bl (!inV (.int (c : Int)) (vInts (ends t))) = _
          rw [in_vInts (show c ∈ ends t from List.mem_filter.mpr ⟨List.mem_range.mpr hcn, decide_eq_true (covers_border c1 hcn c3)⟩)]; rfl
        have s34 := s3.trans s4
        have ha4 := s34 _ _ ha2
        refine ⟨_, rfl, _, rfl, _, rfl, _, rfl, a, _, rfl, SqL.of ha4, fun q5 hq5 => ?_⟩
        rw [cut_pre]
        have s5 := Same.upd (o := .lst ((t.take c).map sg)) hq5
        have hq55 := upd_same (H := H4) (a := q5) (o := .lst ((t.take c).map sg))
        generalize L2.upd H4 q5 (.lst ((t.take c).map sg)) = H5 at s5 hq55 ⊢
        have ha5 := s5 _ _ ha4
        refine ⟨a, q5, t, t.take c, rfl, ha5, hq55, lt, lt.take _, t1, tl, by omega, by omega, fun r H6 hr0 s6 hlt => ?_, fun r r' H6 hr0 hr0' s6 hEq hq6 hr6 => ?_⟩
        · have := of_decide_eq_true c3
          omega
        refine ⟨r, _, _, _, rfl, rfl, SqT.of hr6, atI_nat (j := 0) rfl, rfl, false, by simp, iteF ?_⟩
        have s36 := (s34.trans s5).trans s6
        have ha6 := s36 _ _ ha2
        have hb6 := s36 _ _ hb2
        refine ⟨_, rfl, _, rfl, _, rfl, a, _, rfl, SqL.of ha6, fun q7 hq7 => ?_⟩
        rw [cut_pre]
        have s7 := Same.upd (o := .lst ((t.take c).map sg)) hq7
        have hq77 := upd_same (H := H6) (a := q7) (o := .lst ((t.take c).map sg))
        generalize L2.upd H6 q7 (.lst ((t.take c).map sg)) = H7 at s7 hq77 ⊢
        refine ⟨q7, t.take c, rfl, hq77, lt.take _, by omega, by omega, fun r8 H8 hr80 hr88 s8 => ?_⟩
        have hb8 := s8 _ _ (s7 _ _ hb6)
        obtain ⟨j, hj1, hj2, hj3⟩ := first_at (cov_sorted t) hcC
        have hjl : j < (coversOf t).length := (List.getElem?_eq_some_iff.mp hj1).1
        refine ⟨_, rfl, _, rfl, .inl ⟨rfl, _, SqL.of hb8⟩, _, rfl, b, (coversOf t).map (fun (k : Nat) => (k : Int)), (c : Int), j, rfl, rfl, hb8, hj2, hj3, _, _, rfl, rfl, ((j + 1 : Nat) : Int), rfl, b, _, rfl, SqL.of hb8, fun q9 hq9 => ?_⟩
        rw [cut_vI]
        have s9 := Same.upd (o := .lst (vInts ((coversOf t).take (j + 1)))) hq9
        have hq99 := upd_same (H := H8) (a := q9) (o := .lst (vInts ((coversOf t).take (j + 1))))
        generalize L2.upd H8 q9 (.lst (vInts ((coversOf t).take (j + 1)))) = H9 at s9 hq99 ⊢
        have eC : coversOf (t.take c) = (coversOf t).take (j + 1) := by rw [cov_upto hcC, filter_upto (cov_sorted t) hj1]
        refine ⟨r8, q9, (coversOf (t.take c)).map (fun (k : Nat) => (k : Int)), ((coversOf t).take (j + 1)).map (fun (k : Nat) => (k : Int)), rfl, rfl, SqL.of (s9 _ _ hr88), SqL.of hq99, false, by rw [eC]; simp, iteF ?_⟩
        have s39 := ((s36.trans s7).trans s8).trans s9
        have ha9 := s39 _ _ ha2
        refine ⟨_, rfl, a, _, rfl, SqL.of ha9, ?_⟩
        refine ⟨_, rfl, _, rfl, _, rfl, _, rfl, a, _, rfl, SqL.of ha9, fun q10 hq10 => ?_⟩
        rw [cut_pre]
        have s10 := Same.upd (o := .lst ((t.take c).map sg)) hq10
        have hq1010 := upd_same (H := H9) (a := q10) (o := .lst ((t.take c).map sg))
        generalize L2.upd H9 q10 (.lst ((t.take c).map sg)) = H10 at s10 hq1010 ⊢
        refine ⟨a, q10, t, t.take c, rfl, s10 _ _ ha9, hq1010, lt, lt.take _, tl, by omega, by omega, fun r11 H11 hr110 hr1111 s11 => ?_⟩
        refine ⟨r11, _, rfl, .inl (SqL.of hr1111), rfl, flat_vI _, false, ?_, iteF (nx1 _ _ ⟨(s39.trans s10).trans s11, _, rfl⟩)⟩
        show V.bl (!inV (.int ((t.map sg).length : Nat)) (vInts (begs t (t.take c)))) = _
        rw [List.length_map, in_vInts ((begs_iff (by omega) t1 (Nat.le_refl _)).mpr (by rw [List.take_length]; exact c3))]; rfl
      · rintro σ H3 ⟨s3, v4, rfl⟩
        unfold tNext
        dsimp only
        have ha3 := s3 _ _ ha2
        have hb3 := s3 _ _ hb2
        have hp3 := hp2.same s3
        have k3 : Keep p H H3 := fun c o h e => s3 _ _ (k2 c o h e)
        obtain ⟨x, r, ex⟩ := coversOf_cons t1
        have hx : x ∈ coversOf t := by rw [ex]; exact List.mem_cons_self
        obtain ⟨x1, x2, x3⟩ := cov_mem.mp hx
        have lx : (t.take x).length = x := tlen x2
        have hb0 : atI (vInts (coversOf t)) 0 = some (.int (x : Int)) := atI_nat (j := 0) (vI_at (by rw [ex]; rfl))
        have key : (x = t.length) ↔ (coversOf t).length = 1 := by
          constructor
          · intro e
            rcases r with _ | ⟨y, r'⟩
            · rw [ex]; rfl
            · have hy : y ∈ coversOf t := by rw [ex]; simp
              have h1 := (mem_coversOf hy).2.1
              have h2 := cov_sorted t
              rw [ex] at h2
              have := (List.pairwise_cons.mp h2).1 y List.mem_cons_self
              omega
          · intro e
            rw [ex] at e
            have e2 := eL
            have : r = [] := List.length_eq_zero_iff.mp (by simpa using e)
            rw [ex, this] at e2
            have := coversOf_own t1
            rw [ex, ‹r = []›] at this
            exact (List.mem_singleton.mp this).symm
        refine seq_if ?_
        refine ⟨_, rfl, _, rfl, b, _, 0, _, rfl, rfl, SqL.of hb3, hb0, _, rfl, a, _, rfl, SqL.of ha3, fun q4 hq4 => ?_⟩
        rw [cut_pre]
        have s4 := Same.upd (o := .lst ((t.take x).map sg)) hq4
        have hq44 := upd_same (H := H3) (a := q4) (o := .lst ((t.take x).map sg))
        generalize L2.upd H3 q4 (.lst ((t.take x).map sg)) = H4 at s4 hq44 ⊢
        refine ⟨q4, t.take x, rfl, hq44, lt.take _, by omega, by omega, fun y r5 H5 ey s5 => ?_⟩
        rw [cov_head ex] at ey
        have ey' : y = x := (List.cons.inj ey).1.symm
        refine ⟨_, true, rfl, rfl, false, by rw [lx, ey']; simp, iteF ?_⟩
        have s35 := s4.trans s5
        have ha5 := s35 _ _ ha3
        have hb5 := s35 _ _ hb3
        refine ⟨_, rfl, a, t, rfl, ha5, lt, t1, tl, fun y r6 H6 ey s6 => ?_⟩
        rw [ex] at ey
        obtain rfl : x = y := (List.cons.inj ey).1
        refine ⟨_, rfl, b, _, rfl, SqL.of (s6 _ _ hb5), rfl, rfl, false, ?_, iteF ?_⟩
        · rw [vInts_len]
          have : decide (x = t.length) = decide (V.int ((coversOf t).length : Nat) = V.int 1) := by
            apply decide_eq_decide.mpr
            rw [key]
            constructor
            · intro h; rw [h]; rfl
            · intro h; have := V.int.inj h; omega
          rw [this]
          simp
        have s36 := s35.trans s6
        dsimp only
        refine seq_if ?_
        refine ⟨_, rfl, a, t, rfl, s36 _ _ ha3, lt, t1, tl, fun y r7 H7 ey s7 => ?_⟩
        rw [ex] at ey
        obtain rfl : x = y := (List.cons.inj ey).1
        have s37 := s36.trans s7
        refine ⟨_, rfl, b, _, 0, _, rfl, rfl, SqL.of (s37 _ _ hb3), hb0, rfl, false, by simp, iteF ?_⟩
        have hp7 := hp3.same s37
        have ha7 := s37 _ _ ha3
        have hb7 := s37 _ _ hb3
        have k7 : Keep p H H7 := fun c o h e => s37 _ _ (k3 c o h e)
        refine ⟨_, rfl, p, rfl, hp7, fun fn d H8 hd0 hd8 fl fi hp8 k8 => ?_⟩
        have ha8 := k8 _ _ ha7 nap
        have hb8 := k8 _ _ hb7 nbp
        have k08 : Keep p H H8 := k7.trans k8
        obtain ⟨kvs, hk, hv⟩ := hd8
        refine ⟨_, rfl, a, rfl, ⟨_, SqL.of ha8⟩, fun D hD cb => ?_⟩
        refine comp_list (K := K) (a := a) (xs := t.map sg) (fun i ys H9 => ys = ((t.take i).map fn).map sg ∧ Same H8 H9 ∧ H9 D = some (.lst ys)) (by rw [List.length_map]; exact small1000 (by omega)) ?_ ?_ ?_ ?_ ?_
        · exact ⟨rfl, Same.upd hD, upd_same⟩
        · rintro i ys H9 ⟨rfl, _⟩
          rw [List.length_map, List.length_map, List.length_take]; omega
        · rintro i ys H9 _ ⟨_, s9, _⟩; exact SqL.of (s9 _ _ ha8)
        · rintro i x ys H9 hx ⟨rfl, s9, hD9⟩
          rw [List.getElem?_map] at hx
          cases e : t[i]? with
          | none => rw [e] at hx; cases hx
          | some c =>
            rw [e] at hx
            obtain rfl : sg c = x := Option.some.inj hx
            have hc := lt c (List.mem_of_getElem? e)
            have hget : DGet H9 d (sg c) (some (sg (fn c))) := by
              have := DGet.k (k := .inr (sgS c)) (s9 _ _ hk)
              rw [hv c hc.1 hc.2] at this
              exact this
            refine tNoIf_go ⟨_, rfl, _, rfl, d, _, rfl, hget, hD9, ?_, fun e o' z => by rw [upd_ne (ne_of_none z hD)]; exact s9 _ _ z, upd_same⟩
            rw [List.take_add_one, e, List.map_append, List.map_append]; rfl
        · rintro ys H9 ⟨rfl, s9, hD9⟩
          rw [List.length_map, List.take_length] at hD9
          have ha9 := s9 _ _ ha8
          have hb9 := s9 _ _ hb8
          refine ⟨_, rfl, a, _, rfl, SqL.of ha9, fun q10 hq10 => ?_⟩
          have er : (t.map sg).reverse = t.reverse.map sg := by rw [List.map_reverse]
          rw [er]
          have s10 := Same.upd (o := .lst (t.reverse.map sg)) hq10
          have hq1010 := upd_same (H := H9) (a := q10) (o := .lst (t.reverse.map sg))
          generalize L2.upd H9 q10 (.lst (t.reverse.map sg)) = H10 at s10 hq1010 ⊢
          refine ⟨q10, t.reverse, rfl, hq1010, fun c hc => lt c (List.mem_reverse.mp hc), by rw [List.length_reverse]; exact t1, by rw [List.length_reverse]; exact tl, fun r11 H11 hr110 hr1111 s11 => ?_⟩
          rw [cov_rev] at hr1111
          have hb11 := s11 _ _ (s10 _ _ hb9)
          refine ⟨_, rfl, r11, b, (coversOf t).map (fun (k : Nat) => (k : Int)), (coversOf t).map (fun (k : Nat) => (k : Int)), rfl, rfl, SqL.of hr1111, SqL.of hb11, true, by simp, iteT ?_⟩
          have hD11 := s11 _ _ (s10 _ _ hD9)
          refine ⟨_, rfl, D, t.map fn, rfl, hD11, fun c hc => ?_, by rw [List.length_map]; exact t1, by rw [List.length_map]; exact tl, fun r12 H12 hr120 hr1212 s12 => ?_⟩
          · obtain ⟨c', hc', rfl⟩ := List.mem_map.mp hc
            exact fl c' (lt c' hc').1 (lt c' hc').2
          rw [cov_map fun x hx y hy => fi x y (lt x hx).1 (lt x hx).2 (lt y hy).1 (lt y hy).2] at hr1212
          refine ⟨_, rfl, r12, b, (coversOf t).map (fun (k : Nat) => (k : Int)), (coversOf t).map (fun (k : Nat) => (k : Int)), rfl, rfl, SqL.of hr1212, SqL.of (s12 _ _ hb11), ?_⟩
          have s812 : Same H8 H12 := ((s9.trans s10).trans s11).trans s12
          rw [decide_eq_true rfl]
          exact k _ (hp8.same s812) fun c o h e => s812 _ _ (k08 c o h e)
    · -- the two ways
      have way : ∀ H2, Same H1 H2 → R [some (.ref p), some (.ref a), some (.ref b), some (.ref q1), none, none, none] H2 := fun H2 s2 =>
        hR _ _ ⟨q1, L, rfl, nq1, s2 _ _ hq11, by have := congrArg List.length eL; simp at this; omega, fun c hc => ⟨by rw [eL]; exact List.mem_append_left _ hc, hL c hc⟩, hp1.same s2, fun c o h e => s2 _ _ (s1 _ _ h)⟩
      refine ⟨_, rfl, a, _, rfl, SqL.of ha1, _, _, rfl, rfl, _, rfl, ?_⟩
      refine ite2 (fun hc => ?_) (fun hc => iteF (way _ (Same.refl _)))
      refine ⟨_, rfl, Nat.zero_le _, fun q2 hq2 => ?_⟩
      have s2 := Same.upd (o := .lst []) hq2
      have hq22 := upd_same (H := H1) (a := q2) (o := .lst [])
      generalize L2.upd H1 q2 (.lst []) = H2 at s2 hq22 ⊢
      refine ⟨q1, q2, L.map (fun (k : Nat) => (k : Int)), [], rfl, rfl, SqL.of (s2 _ _ hq11), SqL.of hq22, ?_⟩
      by_cases hLn : L = []
      · exact ⟨false, by rw [hLn]; rfl, iteF (way _ s2)⟩
      refine ⟨true, by cases L with | nil => exact absurd rfl hLn | cons x r => rfl, iteT ?_⟩
      have hL1 : 1 ≤ L.length := List.length_pos_iff.mpr hLn
      have eLl : (coversOf t).length = L.length + 1 := by rw [eL]; simp
      have hb2 := s2 _ _ hb1
      have hp2 := hp1.same s2
      have k02 : Keep p H H2 := fun c o h e => s2 _ _ (s1 _ _ h)
      refine ⟨6, rfl, by decide, by decide, fun D hD cb => ?_⟩
      have nD : D ≠ p := (hp2.ne hD).symm
      refine comp_range (lo := 0) (n := 6) (fun i ys H3 => ∃ cs : List Nat, ys = vInts cs ∧ cs.length = i ∧ (∀ c ∈ cs, c ∈ L) ∧ Hand H3 p ∧ Keep p H2 H3 ∧ H3 D = some (.lst ys)) (small1000 (by decide)) ?_ ?_ ?_ ?_
      · exact ⟨[], rfl, rfl, fun c hc => by (cases hc), hp2.upd (hp2.ne hD), fun c o h _ => by rw [upd_ne (ne_of_none h hD)]; exact h, upd_same⟩
      · rintro i ys H3 ⟨cs, rfl, rfl, _⟩
        rw [vInts_len]; exact Nat.le_refl _
      · rintro i ys H3 hi ⟨cs, rfl, hl, hcs, hp3, k3, hD3⟩
        refine tNoIf_go ?_
        have hb3 := k3 _ _ hb2 nbp
        refine ⟨_, rfl, _, rfl, _, rfl, b, _, rfl, SqL.of hb3, _, _, rfl, rfl, p, _, rfl, hp3, by rw [vInts_len]; omega, by rw [vInts_len]; omega, fun r H4 r0 r1 hp4 k4 => ?_⟩
        rw [vInts_len] at r1
        have hb4 := k4 _ _ hb3 nbp
        obtain ⟨c, _, hc2, hc3⟩ := vInts_at (ks := coversOf t) r0 (by omega)
        have hcL : c ∈ L := by
          rw [eL, List.getElem?_append_left (by omega)] at hc2
          exact List.mem_of_getElem? hc2
        refine ⟨b, _, _, _, rfl, rfl, SqL.of hb4, hc3, k4 _ _ hD3 nD, cs ++ [c], by rw [vInts_snoc'], by simp [hl], fun x hx => ?_, hp4.upd nD.symm, fun x o h e => ?_, upd_same⟩
        · rcases List.mem_append.mp hx with z | z
          · exact hcs x z
          · rw [List.mem_singleton.mp z]; exact hcL
        · rw [upd_ne (ne_of_none h hD)]; exact k4 _ _ (k3 _ _ h e) e
      · rintro ys H3 ⟨cs, rfl, hl, hcs, hp3, k3, hD3⟩
        exact hR _ _ ⟨D, cs, rfl, nD, hD3, by omega, fun c hc => ⟨by rw [eL]; exact List.mem_append_left _ (hcs c hc), hL c (hcs c hc)⟩, hp3, fun c o h e => k3 _ _ (k02 _ _ h e) e⟩
end

end Ov

namespace Ov
open PySem L2
abbrev sLayR : Stmt := top 42
def spLayR : Sp := fun vs H Q _ => ∃ (a b : Addr) (t u : List Nat), vs = [.ref a, .ref b] ∧ H a = some (.lst (t.map sg)) ∧ H b = some (.lst (u.map sg)) ∧ Low t ∧ Low u ∧ 1 ≤ t.length ∧ t.length ≤ 900 ∧ u.length ≤ 900 ∧ 1 ≤ u.length ∧ covers t u = true ∧
  ∀ H', Same H H' → Q (.bl true) H'
theorem toI_nat (Z : List Nat) : (toI Z).map Int.toNat = Z := by
  unfold toI
  rw [List.map_map]
  conv => rhs; rw [← List.map_id Z]
  exact List.map_congr_left fun n _ => by simp
theorem lay_iff {t u Z : List Nat} (hZ : Z.Sublist (liesIn t u)) : Laying t u (toI Z) ↔ bareOf t.length u.length Z = t.length := by
  unfold Laying
  rw [toI_nat]
  refine ⟨fun h => h.2.2, fun h => ⟨fun n hn => ?_, fun k x y h1 h2 => ?_, h⟩⟩
  · obtain ⟨z, hz, rfl⟩ := List.mem_map.mp hn
    exact ⟨z, hZ.subset hz, rfl⟩
  · unfold toI at h1 h2
    rw [List.getElem?_map] at h1 h2
    cases e1 : Z[k]? with
    | none => rw [e1] at h1; cases h1
    | some z1 =>
      cases e2 : Z[k + 1]? with
      | none => rw [e2] at h2; cases h2
      | some z2 =>
        rw [e1] at h1
        rw [e2] at h2
        obtain ⟨l1, g1⟩ := List.getElem?_eq_some_iff.mp e1
        obtain ⟨l2, g2⟩ := List.getElem?_eq_some_iff.mp e2
        have := List.pairwise_iff_getElem.mp (List.Pairwise.sublist hZ (lies_sorted t u)) k (k + 1) l1 l2 (by omega)
        rw [g1, g2] at this
        have h1 : (z1 : Int) = x := Option.some.inj h1
        have h2 : (z2 : Int) = y := Option.some.inj h2
        omega
theorem erase_cut {Z : List Nat} {i : Nat} : cutV (vInts Z) none (some (i : Int)) ++ cutV (vInts Z) (some ((i : Int) + 1)) none = (toI (Z.eraseIdx i)).map V.int := by
  rw [cut_vI, cutV_cutL, show (i : Int) + 1 = ((i + 1 : Nat) : Int) from rfl, cutL_lo _ _ (by omega), Int.toNat_natCast, List.eraseIdx_eq_take_drop_succ]
  unfold vInts toI
  rw [← List.map_drop, ← List.map_drop, List.map_append, List.map_append]
section
variable {P : Program} {w : World} {K : PySem.W.Frag} {mg : Str → Option Value} {base : Heap}
theorem scLayR : FnScope ["text", "word", "places", "fewest", "at", "many"] ["text", "word"] (defScope sLayR) := ⟨rfl, rfl, rfl, by decide +kernel, rfl, by decide +kernel, by decide +kernel⟩
theorem ok_layR (M : Md K mg) (B : Bl mg) (F : FF K "_law_layings_right" sLayR) (Fcovered : Fn P w K mg base CX0 "covered" 5 ["text", "word"] spCovered) (Ffewest_layings : Fn P w K mg base CX0 "fewest_layings" 6 ["text", "word"] spFewest) (Fis_laying : Fn P w K mg base CX0 "is_laying" 5 ["text", "word", "places"] spIsLaying) (Fhow_many_layings : Fn P w K mg base CX0 "how_many_layings" 6 ["text", "word"] spMany) : Fn P w K mg base CX0 "_law_layings_right" 7 ["text", "word"] spLayR := by
  refine fn_ok M F scLayR (fun _ _ _ _ _ _ => us2 fun _ _ => rfl) (fun vs H Q E h => ?_) (fun f cdv A outer s H vs Q E hr h => ?_)
  · obtain ⟨a, b, t, u, rfl, _⟩ := h; rfl
  · obtain ⟨a, b, t, u, rfl, ha, hb, lt, lu, t1, tl, ul, u1, hc, k⟩ := h
    refine ⟨_, (pss_cons (ps_set (i := 2) scLayR.nd rfl (by first | exact Or.inl rfl | exact Or.inr rfl) (pe_ix ix_tup (pe_fn Fcovered hr pass0 (pa_cons (pv 0) (pa_cons (pv 1) pa_nil))) pe_int (fun _ _ => rfl)))
      (pss_cons (ps_set (i := 3) scLayR.nd rfl (by first | exact Or.inl rfl | exact Or.inr rfl) (pe_fn Ffewest_layings hr pass0 (pa_cons (pv 0) (pa_cons (pv 1) pa_nil))))
      (pss_cons (ps_if (PW.pt (pw_or (pt_cmpR op_isNot (pe_fn Fis_laying hr pass0 (pa_cons (pv 0) (pa_cons (pv 1) (pa_cons (pv 2) pa_nil)))) pe_bl (nomark _)) (pw_or1 (pt_cmpR op_isNot (pe_fn Fis_laying hr pass0 (pa_cons (pv 0) (pa_cons (pv 1) (pa_cons (pv 3) pa_nil)))) pe_bl (nomark _))))) (pss_one (ps_ret pe_bl)) pss_nil)
      (pss_cons (ps_for PassesOwn.never rfl (pi_range1 (by rfl) B.range (pa_cons (pe_lenL B.len (pv 3)) pa_nil)) (pg_name (i := 4) scLayR.nd rfl (by first | exact Or.inl rfl | exact Or.inr rfl))
      (pss_one (ps_if (pt_cmpR op_isNot (pe_fn Fis_laying hr pass0 (pa_cons (pv 0) (pa_cons (pv 1) (pa_cons (pe_op op_cat (pe_slice sl_list (pv 3) po_none (po_some (pv 4))) (pe_slice sl_list (pv 3) (po_some (pe_op op_add (pv 4) pe_int)) po_none)) pa_nil)))) pe_bl (nomark _)) (pss_one (ps_ret pe_bl)) pss_nil)))
      (pss_cons (ps_set (i := 5) scLayR.nd rfl (by first | exact Or.inl rfl | exact Or.inr rfl) (pe_fn Fhow_many_layings hr pass0 (pa_cons (pv 0) (pa_cons (pv 1) pa_nil))))
      (pss_one (ps_ret (pe_and (pe_cmpR op_ge (pv 5) pe_int (nomark _)) (pe_one (pe_cmpR op_eq (pe_cmpR op_eq (pv 5) pe_int (nomark _)) (pe_cmpR (op_eqLI (by exact hr)) (pv 3) (pv 2) (nomark _)) (nomark _))))))))))), ?_⟩
    have hcv := of_decide_eq_true hc
    have C : Cvr t.length u.length (liesIn t u) := ⟨u1, lies_sorted t u, fun p hp => lies_in hp u1, hcv⟩
    have h0 := cov_zero t1 C.cov
    obtain ⟨b1, b2⟩ := best_covers C h0
    have ll := lies_len t u
    have bl := b2.length_le
    refine ⟨_, rfl, _, rfl, a, b, t, u, rfl, ha, hb, lt, lu, t1, tl, ul, u1, fun r H1 hr0 s1 hlt => absurd hcv (by omega), fun r q H1 hr0 hq0 s1 _ hq1 hr1 => ?_⟩
    refine ⟨r, _, _, _, rfl, rfl, SqT.of hr1, atI_nat (j := 1) rfl, ?_⟩
    refine ⟨_, rfl, _, rfl, a, b, t, u, rfl, s1 _ _ ha, s1 _ _ hb, lt, lu, t1, tl, ul, u1, hcv, fun g H2 hg0 hg2 s2 => ?_⟩
    have s12 := s1.trans s2
    have ha2 := s12 _ _ ha
    have hb2 := s12 _ _ hb
    have hq2 := s2 _ _ hq1
    generalize hZ : bestF t.length u.length (liesIn t u) 0 = Z at *
    refine ⟨_, rfl, _, rfl, _, rfl, a, b, q, t, u, toI (liesIn t u), rfl, ha2, hb2, hq2, lt, lu, t1, tl, ul, u1, by unfold toI; rw [List.length_map]; omega, fun res H3 hres s3 => ?_⟩
    obtain rfl : res = true := hres.mpr ((lay_iff (List.Sublist.refl _)).mpr hcv)
    refine ⟨_, true, rfl, rfl, false, rfl, iteF ?_⟩
    refine ⟨_, rfl, _, rfl, _, rfl, a, b, g, t, u, toI Z, rfl, s3 _ _ ha2, s3 _ _ hb2, s3 _ _ hg2, lt, lu, t1, tl, ul, u1, by unfold toI; rw [List.length_map]; omega, fun res H4 hres s4 => ?_⟩
    obtain rfl : res = true := hres.mpr ((lay_iff b2).mpr b1)
    refine ⟨_, true, rfl, rfl, false, rfl, iteF ?_⟩
    have s24 := s3.trans s4
    have ha4 := s24 _ _ ha2
    have hb4 := s24 _ _ hb2
    have hg4 := s24 _ _ hg2
    have hq4 := s24 _ _ hq2
    refine ⟨_, rfl, g, _, rfl, SqL.of hg4, ?_⟩
    refine ⟨(Z.length : Int), by rw [vInts_len], by omega, by omega, ?_⟩
    rw [Int.toNat_natCast]
    refine for_range (lo := 0) (n := Z.length) (fun i σ H5 => Same H4 H5 ∧ ∃ v4, σ = [some (.ref a), some (.ref b), some (.ref q), some (.ref g), v4, none]) ⟨Same.refl _, _, rfl⟩ ?_ ?_
    · rintro i σ H5 hi ⟨s5, v4, rfl⟩
      have hg5 := s5 _ _ hg4
      rw [show (0 : Int) + (i : Int) = (i : Int) by omega]
      refine ⟨_, rfl, _, rfl, _, rfl, _, rfl, _, rfl, g, _, rfl, SqL.of hg5, fun q1 hq1' => ?_⟩
      have s6 := Same.upd (o := .lst (cutV (vInts Z) none (some (i : Int)))) hq1'
      have hq16 := upd_same (H := H5) (a := q1) (o := .lst (cutV (vInts Z) none (some (i : Int))))
      generalize L2.upd H5 q1 (.lst (cutV (vInts Z) none (some (i : Int)))) = H6 at s6 hq16 ⊢
      refine ⟨_, rfl, _, rfl, _, _, rfl, rfl, _, rfl, g, _, rfl, SqL.of (s6 _ _ hg5), fun q2 hq2' => ?_⟩
      have s7 := Same.upd (o := .lst (cutV (vInts Z) (some ((i : Int) + 1)) none)) hq2'
      have hq27 := upd_same (H := H6) (a := q2) (o := .lst (cutV (vInts Z) (some ((i : Int) + 1)) none))
      generalize L2.upd H6 q2 (.lst (cutV (vInts Z) (some ((i : Int) + 1)) none)) = H7 at s7 hq27 ⊢
      have hel : (toI (Z.eraseIdx i)).length ≤ Z.length := by unfold toI; rw [List.length_map]; exact (List.eraseIdx_sublist _ _).length_le
      have hcl : (cutV (vInts Z) none (some (i : Int))).length + (cutV (vInts Z) (some ((i : Int) + 1)) none).length ≤ 1000 := by
        have := congrArg List.length (erase_cut (Z := Z) (i := i))
        rw [List.length_append, List.length_map] at this
        omega
      refine ⟨q1, q2, _, _, rfl, rfl, s7 _ _ hq16, hq27, Nat.le_trans hcl (by decide), fun q3 hq3 => ?_⟩
      rw [erase_cut]
      have s8 := Same.upd (o := .lst ((toI (Z.eraseIdx i)).map V.int)) hq3
      have hq38 := upd_same (H := H7) (a := q3) (o := .lst ((toI (Z.eraseIdx i)).map V.int))
      generalize L2.upd H7 q3 (.lst ((toI (Z.eraseIdx i)).map V.int)) = H8 at s8 hq38 ⊢
      have s58 := (s6.trans s7).trans s8
      refine ⟨a, b, q3, t, u, toI (Z.eraseIdx i), rfl, s58 _ _ (s5 _ _ ha4), s58 _ _ (s5 _ _ hb4), hq38, lt, lu, t1, tl, ul, u1, by omega, fun res H9 hres s9 => ?_⟩
      have hno : ¬ Laying t u (toI (Z.eraseIdx i)) := fun z => by
        have z := (lay_iff ((List.eraseIdx_sublist _ _).trans b2)).mp z
        have := fewer_none C t1 (i := i) (by rw [hZ]; exact hi)
        rw [hZ] at this
        exact this z
      obtain rfl : res = false := by
        cases res with
        | false => rfl
        | true => exact absurd (hres.mp rfl) hno
      exact ⟨_, false, rfl, rfl, false, rfl, iteF ⟨(s5.trans s58).trans s9, _, rfl⟩⟩
    · rintro σ H5 ⟨s5, v4, rfl⟩
      have ha5 := s5 _ _ ha4
      have hb5 := s5 _ _ hb4
      refine ⟨_, rfl, _, rfl, a, b, t, u, rfl, ha5, hb5, lt, lu, t1, tl, ul, u1, fun H6 s6 => ?_⟩
      obtain ⟨w1, w2⟩ := ways_one C t1
      rw [hZ] at w2
      generalize wys t.length u.length 0 (liesIn t u) = W at w1 w2 ⊢
      refine ⟨_, rfl, _, _, rfl, rfl, true, by show V.bl (decide ((1 : Int) ≤ (W : Int))) = V.bl true; rw [decide_eq_true (show (1 : Int) ≤ (W : Int) by omega)], iteT ?_⟩
      have s46 := s5.trans s6
      refine ⟨_, rfl, rfl, _, rfl, _, rfl, g, q, toI Z, toI (liesIn t u), rfl, rfl, SqL.of (s46 _ _ hg4), SqL.of (s46 _ _ hq4), rfl, ?_⟩
      have e1 : decide (V.int (W : Int) = V.int 1) = decide (toI Z = toI (liesIn t u)) := by
        apply decide_eq_decide.mpr
        constructor
        · intro h
          have := V.int.inj h
          rw [w2.mp (by omega)]
        · intro h
          rw [w2.mpr (toI_inj h)]; rfl
      rw [e1]
      have := k H6 ((s12.trans s24).trans s46)
      simpa using this
end

end Ov

namespace Ov
open PySem L2
/-- a text, or its first letter alone where it has no signs -/
theorem or_text {K : PySem.W.Frag} {σ : St} {H : Hp} {p : Addr} {z : Str} {i j : Nat} {Q : VK} (hi : σ[i]? = some (some (.ref p))) (hj : σ[j]? = some (some (.str z))) (hp : Hand H p) (hz : Alph z)
    (k : ∀ (t : List Nat) (r : Addr) (H' : Hp), H r = none → H' r = some (.lst (t.map sg)) → Low t → 1 ≤ t.length → t.length ≤ 200 → Hand H' p → Keep p H H' → Q (.ref r) H') :
    tOrT K (tCall spText [] E0 (tCons (tVar i) (tCons (tVar j) tNil))) (tLst (tCons (tOp rIxS (tVar j) (tC (.int 0))) tNil)) σ H Q := by
  refine ⟨_, hi, _, hj, p, z, rfl, hp, hz, fun t r H5 hr0 hr5 lt tl hp5 k5 => ?_⟩
  by_cases ht : t = []
  · subst ht
    refine ⟨false, .inl ⟨_, SqL.of hr5, rfl⟩, iteF ?_⟩
    obtain ⟨c, ec, c1, c2, _⟩ := alph_at hz (r := 0) (by decide) (by have := hz.one; omega)
    refine ⟨_, hj, z, 0, c, rfl, rfl, sz hz.few, ec, by show 1 ≤ sizeLine; decide, fun l hl => ?_⟩
    have hln : H l = none := by obtain ⟨x, y, e5, _⟩ := hp5; exact k5.free e5 hl
    exact k [c] l _ hln upd_same (fun d hd => by rw [List.mem_singleton.mp hd]; exact ⟨c1, c2⟩) (by simp) (by simp) (hp5.upd (hp5.ne hl)) (k5.trans (Same.upd hl).keep)
  · refine ⟨true, .inl ⟨_, SqL.of hr5, ?_⟩, iteT ?_⟩
    · cases t with
      | nil => exact absurd rfl ht
      | cons _ _ => rfl
    · refine k t r H5 hr0 hr5 lt ?_ tl hp5 k5
      cases t with
      | nil => exact absurd rfl ht
      | cons _ _ => simp
theorem int_item {xs : List Int} {i : Nat} {x : V} (h : (xs.map V.int)[i]? = some x) : ∃ z : Int, x = .int z := by
  rw [List.getElem?_map] at h
  cases e : xs[i]? with
  | none => rw [e] at h; cases h
  | some z => rw [e] at h; exact ⟨z, (Option.some.inj h).symm⟩
def spLaw (K : PySem.W.Frag) : Sp := fun vs H Q _ => ∃ (a : Addr) (ns : List Int), vs = [.ref a] ∧ SqL K H a (ns.map V.int) ∧ ns.length ≤ 63 ∧ ∀ H', Q (.bl true) H'
/-- [10 ** 18] + script[:n], walked -/
theorem cells {K : PySem.W.Frag} {σ : St} {H : Hp} {a : Addr} {ns : List Int} {n : Int} {R : It → Hp → Prop} (hi : σ[0]? = some (some (.ref a))) (hS : SqL K H a (ns.map V.int)) (hn : 0 ≤ n) (hn2 : n ≤ 100)
    (k : ∀ (b : Addr) (xs : List Int) (H' : Hp), xs.length ≤ 101 → H' b = some (.lst (xs.map V.int)) → R (Itl K b) H') :
    iList K (tOp rCat (tLst (tCons (tOp (rI CPow fun i j => V.int (i ^ j.toNat)) (tC (.int 10)) (tC (.int 18))) tNil)) (tSl (rSlL K) (tVar 0) tNoPart (tPart (tC (.int n))))) σ H R := by
  refine ⟨_, _, rfl, rfl, ⟨by decide, by decide, by decide⟩, by show 1 ≤ sizeLine; decide, fun l0 hl0 => ?_⟩
  refine ⟨_, hi, _, rfl, a, _, rfl, (Same.upd hl0).seq hS, fun l1 hl1 => ?_⟩
  have e1 : cutV (ns.map V.int) none (some n) = (ns.take n.toNat).map V.int := by rw [cutV_cutL, cutL_map, cutL_hi _ _ hn]
  rw [e1] at *
  refine ⟨l0, l1, _, _, rfl, rfl, (Same.upd hl1) _ _ upd_same, upd_same, by simp only [List.length_cons, List.length_nil, List.length_map, List.length_take]; exact sz (by omega), fun b hb => ?_⟩
  refine ⟨b, rfl, ⟨_, SqL.of upd_same⟩, k b ((10 ^ Int.toNat 18) :: ns.take n.toNat) _ (by rw [List.length_cons, List.length_take]; omega) ?_⟩
  rw [upd_same]
  rfl

end Ov

namespace Ov
open PySem L2
abbrev sLaw : Stmt := top 43
section
variable {P : Program} {w : World} {K : PySem.W.Frag} {mg : Str → Option Value} {base : Heap}
theorem scLaw : FnScope ["script", "cell", "hand", "letters", "text", "covers"] ["script"] (defScope sLaw) := ⟨rfl, rfl, rfl, by decide +kernel, rfl, by decide +kernel, by decide +kernel⟩
theorem ok_law (M : Md K mg) (B : Bl mg) (F : FF K "law" sLaw) (F_law_hand : Fn P w K mg base CX0 "_law_hand" 1 ["cell"] spHand) (F_law_take : Fn P w K mg base CX0 "_law_take" 1 ["hand", "many"] spTake) (F_law_letters : Fn P w K mg base CX0 "_law_letters" 2 ["hand"] spLetters)
    (F_law_text : Fn P w K mg base CX0 "_law_text" 3 ["hand", "letters"] spText) (Fall_covers : Fn P w K mg base CX0 "all_covers" 6 ["text"] spAllCovers) (F_law_tree_right : Fn P w K mg base CX0 "_law_tree_right" 9 ["text", "covers"] spTreeR) (F_law_covers_right : Fn P w K mg base CX0 "_law_covers_right" 9 ["hand", "text", "covers"] spCovR) (F_law_layings_right : Fn P w K mg base CX0 "_law_layings_right" 7 ["text", "word"] spLayR) : Fn P w K mg base CX0 "law" 10 ["script"] (spLaw K) := by
  refine fn_ok M F scLaw (fun _ _ _ _ _ _ => us1 fun _ => rfl) (fun vs H Q E h => ?_) (fun f cdv A outer s H vs Q E hr h => ?_)
  · obtain ⟨a, ns, rfl, _⟩ := h; rfl
  · obtain ⟨a, ns, rfl, hS, hlen, k⟩ := h
    refine ⟨_, (pss_cons (ps_for PassesOwn.never rfl (pi_list (pe_op op_cat (pe_lst (pa_cons (pe_op op_pow pe_int pe_int) pa_nil)) (pe_slice sl_list (pv 0) po_none (po_some pe_int)))) (pg_name (i := 1) scLaw.nd rfl (by first | exact Or.inl rfl | exact Or.inr rfl))
      (pss_cons (ps_set (i := 2) scLaw.nd rfl (by first | exact Or.inl rfl | exact Or.inr rfl) (pe_fn F_law_hand hr pass0 (pa_cons (pv 1) pa_nil)))
      (pss_cons (ps_set (i := 3) scLaw.nd rfl (by first | exact Or.inl rfl | exact Or.inr rfl) (pe_fn F_law_letters hr pass0 (pa_cons (pv 2) pa_nil)))
      (pss_cons (ps_set (i := 4) scLaw.nd rfl (by first | exact Or.inl rfl | exact Or.inr rfl) (pe_slice sl_list (pe_orT (pe_fn F_law_text hr pass0 (pa_cons (pv 2) (pa_cons (pv 3) pa_nil))) (pe_one (pe_lst (pa_cons (pe_ix ix_str (pv 3) pe_int (fun _ _ => rfl)) pa_nil)))) po_none (po_some pe_int)))
      (pss_cons (ps_set (i := 5) scLaw.nd rfl (by first | exact Or.inl rfl | exact Or.inr rfl) (pe_fn Fall_covers hr pass0 (pa_cons (pv 4) pa_nil)))
      (pss_cons (ps_if (PW.pt (pw_or (pt_cmpR op_ne (pe_ix ix_list (pv 5) (pe_un un_neg pe_int) (fun _ _ => rfl)) (pe_lenL B.len (pv 4)) (nomark _)) (pw_or1 (pt_not (pt_val (pe_fn F_law_tree_right hr pass0 (pa_cons (pv 4) (pa_cons (pv 5) pa_nil)))))))) (pss_one (ps_ret pe_bl)) pss_nil)
      (pss_cons (ps_if (pt_not (pt_val (pe_fn F_law_covers_right hr pass0 (pa_cons (pv 2) (pa_cons (pv 4) (pa_cons (pv 5) pa_nil)))))) (pss_one (ps_ret pe_bl)) pss_nil)
      (pss_one (ps_if (pt_not (pt_val (pe_fn F_law_layings_right hr pass0 (pa_cons (pv 4) (pa_cons (pe_slice sl_list (pv 4) po_none (po_some (pe_ix ix_list (pv 5) (pe_fn F_law_take hr pass0 (pa_cons (pv 2) (pa_cons (pe_lenL B.len (pv 5)) pa_nil))) (fun _ _ => rfl)))) pa_nil))))) (pss_one (ps_ret pe_bl)) pss_nil)))))))))
      (pss_one (ps_ret pe_bl))), ?_⟩
    refine seq_for (cells (K := K) (n := 6) rfl hS (by decide) (by decide) fun b cs H1 hcs hb1 => ?_)
    refine for_list (K := K) (a := b) (xs := cs.map V.int) (fun i σ H2 => H2 b = some (.lst (cs.map V.int)) ∧ ∃ v1 v2 v3 v4 v5, σ = [some (.ref a), v1, v2, v3, v4, v5]) ⟨hb1, none, none, none, none, none, rfl⟩ (fun i σ H2 _ h2 => SqL.of h2.1) ?_ ?_
    · rintro i x σ H2 hx ⟨hb2, v1, v2, v3, v4, v5, rfl⟩
      obtain ⟨c, rfl⟩ := int_item hx
      refine ⟨_, rfl, c, rfl, fun p H3 hp0 hp3 s3 => ?_⟩
      have hb3 := s3 _ _ hb2
      have nb : b ≠ p := ne_of_none hb2 hp0
      refine ⟨_, rfl, p, rfl, hp3, fun z H4 hz hp4 k4 => ?_⟩
      have hb4 := k4 _ _ hb3 nb
      unfold gName
      dsimp only
      refine seq_asg ?_
      unfold tSl
      refine or_text (K := K) (i := 2) (j := 3) rfl rfl hp4 hz.alph fun t r0 H5 hr0 hr5 lt t1 tl hp5 k5 => ?_
      have hb5 := k5 _ _ hb4 nb
      refine ⟨200, rfl, r0, _, rfl, SqL.of hr5, fun r hr => ?_⟩
      rw [show (200 : Int) = ((200 : Nat) : Int) from rfl, cut_pre, List.take_of_length_le tl]
      have s6 := Same.upd (o := .lst (t.map sg)) hr
      have hr6 := upd_same (H := H5) (a := r) (o := .lst (t.map sg))
      have nr : r ≠ p := (hp5.ne hr).symm
      have hp6 := hp5.same s6
      have hb6 := s6 _ _ hb5
      generalize L2.upd H5 r (.lst (t.map sg)) = H6 at s6 hr6 hp6 hb6 ⊢
      refine ⟨_, rfl, r, t, rfl, hr6, lt, t1, by omega, fun d H7 hd0 hd7 s7 => ?_⟩
      have nd : d ≠ p := (hp6.ne hd0).symm
      have hr7 := s7 _ _ hr6
      have hp7 := hp6.same s7
      have hb7 := s7 _ _ hb6
      have cl := coversOf_len t
      obtain ⟨L, eL, hL⟩ := cov_last t1
      have hcl : 1 ≤ (coversOf t).length := by rw [eL]; simp
      have hlast : (coversOf t)[(coversOf t).length - 1]? = some t.length := by rw [eL]; simp
      refine ⟨_, rfl, 1, rfl, d, _, _, _, rfl, rfl, SqL.of hd7, atI_neg1 (by rw [vInts_len]; exact hcl) (by rw [vInts_len]; exact vI_at hlast), ?_⟩
      refine ⟨_, rfl, r, _, rfl, SqL.of hr7, rfl, false, by rw [List.length_map]; simp, iteF ?_⟩
      refine ⟨_, rfl, _, rfl, r, d, t, rfl, hr7, hd7, lt, t1, by omega, fun H8 s8 => ⟨true, rfl, iteF ?_⟩⟩
      have hr8 := s8 _ _ hr7
      have hd8 := s8 _ _ hd7
      have hb8 := s8 _ _ hb7
      refine ⟨_, rfl, _, rfl, _, rfl, p, r, d, t, rfl, hp7.same s8, nr, nd, hr8, hd8, lt, t1, by omega, fun H9 hp9 k9 => ⟨true, rfl, iteF ?_⟩⟩
      have hr9 := k9 _ _ hr8 nr
      have hd9 := k9 _ _ hd8 nd
      have hb9 := k9 _ _ hb8 nb
      refine ⟨_, rfl, _, rfl, _, rfl, _, rfl, _, rfl, d, _, rfl, SqL.of hd9, p, _, rfl, hp9, by rw [vInts_len]; omega, by rw [vInts_len]; omega, fun x H10 x0 x1 hp10 k10 => ?_⟩
      rw [vInts_len] at x1
      have hr10 := k10 _ _ hr9 nr
      have hd10 := k10 _ _ hd9 nd
      have hb10 := k10 _ _ hb9 nb
      obtain ⟨m, hm1, _, hm3⟩ := vInts_at (ks := coversOf t) x0 x1
      obtain ⟨m1, m2, m3⟩ := cov_mem.mp hm1
      refine ⟨d, _, _, _, rfl, rfl, SqL.of hd10, hm3, _, rfl, r, _, rfl, SqL.of hr10, fun q hq => ?_⟩
      rw [cut_pre]
      have s11 := Same.upd (o := .lst ((t.take m).map sg)) hq
      have hq11 := upd_same (H := H10) (a := q) (o := .lst ((t.take m).map sg))
      generalize L2.upd H10 q (.lst ((t.take m).map sg)) = H11 at s11 hq11 ⊢
      have lm := tlen m2
      refine ⟨r, q, t, t.take m, rfl, s11 _ _ hr10, hq11, lt, lt.take _, t1, by omega, by omega, by omega, m3, fun H12 s12 => ⟨true, rfl, iteF ?_⟩⟩
      exact ⟨s12 _ _ (s11 _ _ hb10), _, _, _, _, _, rfl⟩
    · rintro σ H2 ⟨hb2, v1, v2, v3, v4, v5, rfl⟩
      exact k H2
end

end Ov

namespace Ov
open PySem L2
theorem all_mk {P : Program} {w : World} {K : PySem.W.Frag} {h : Heap} {mg : Str → Option Value} {fa : Addr} (X : K.In h) (G : h.Ns mainGlobals mg) (hfa : mg "law" = some (.ref fa))
    (f1 : FF K "_law_hand" sHand) (f2 : FF K "_law_take" sTake) (f3 : FF K "_law_letters" sLetters) (f4 : FF K "_law_signs" sSigns) (f5 : FF K "_law_ends" sEnds) (f6 : FF K "_law_laid" sLaid) (f7 : FF K "_law_text" sText) (f8 : FF K "is_sign" sIsSign) (f9 : FF K "check_signs" sCheck) (f10 : FF K "check_word" sCheckWord)
    (f11 : FF K "borders" sBorders) (f12 : FF K "check_some" sCheckSome) (f13 : FF K "lies_at" sLiesAt) (f14 : FF K "first_bare" sFirstBare) (f15 : FF K "covered" sCovered) (f16 : FF K "all_covers" sAllCovers) (f17 : FF K "shortest_cover" sShortest) (f18 : FF K "is_bare" sIsBare) (f19 : FF K "is_laying" sIsLaying) (f20 : FF K "within_reach" sWithin) (f21 : FF K "fewest_layings" sFewest) (f22 : FF K "how_many_layings" sMany)
    (f23 : FF K "covered_beginnings" sCovBeg) (f24 : FF K "covers_by_length" sByLen) (f25 : FF K "shortest_covers" sShortC) (f26 : FF K "greatest_covers" sGreatC) (f27 : FF K "cover_tree" sTree) (f28 : FF K "how_many_covers" sHowMany) (f29 : FF K "_law_renamed" sRenamed) (f30 : FF K "_law_tree_right" sTreeR) (f31 : FF K "_law_covers_right" sCovR) (f32 : FF K "_law_layings_right" sLayR) (f33 : FF K "law" sLaw) (na : PySem.W.nsIn K mainGlobals "sorted" = some none) (b : Md K mg → Bl mg) :
    ∃ fd : FuncData, (∀ (s : Shared) (v : Value), BindsTo s fd ⟨[v], []⟩ [("script", v)]) ∧ ∀ base : Heap, K.In base → base.Ns mainGlobals mg → FnOk P w K mg base CX0 10 fa fd ["script"] (spLaw K) := by
  have M := md_of X G
  have Bl := b M
  refine law_of M f33 hfa (fun _ _ _ _ _ _ s v => .of_eq rfl) fun base => ?_
  have nsorted : mg "sorted" = none := M.ns _ _ na
  have g2 := ok_take (P := P) (w := w) (base := base) M f2
  have g1 := ok_hand (P := P) (w := w) (base := base) M Bl f1
  have g3 := ok_letters M Bl f3 g2
  have g4 := ok_signs M Bl f4 g2
  have g5 := ok_ends (P := P) (w := w) (base := base) M Bl f5
  have g6 := ok_laid M Bl f6 g2 g5
  have g7 := ok_text M Bl f7 g2 g4 g6
  have g8 := ok_is_sign (P := P) (w := w) (base := base) M Bl f8
  have g9 := ok_check M Bl f9 g8
  have g10 := ok_check_word M Bl f10 g9
  have g11 := ok_borders M Bl f11 g9
  have g12 := ok_check_some (P := P) (w := w) (base := base) M Bl f12
  have g13 := ok_lies_at M Bl f13 g9 g10
  have g14 := ok_first_bare (P := P) (w := w) (base := base) M Bl f14
  have g15 := ok_covered M Bl f15 g13 g12 g14
  have g16 := ok_all_covers M Bl f16 g11 g12 g15
  have g17 := ok_shortest M Bl f17 g16
  have g18 := ok_is_bare M Bl f18 g17
  have g19 := ok_is_laying M Bl f19 g13 g12 g14
  have g20 := ok_within (P := P) (w := w) (base := base) M Bl f20
  have g21 := ok_fewest M Bl f21 g15 g20
  have g22 := ok_many M Bl f22 g15 g20
  have g23 := ok_covbeg M Bl f23 g13
  have g24 := ok_bylen M Bl f24 g9 g23
  have g25 := ok_shortC M Bl f25 g24
  have g26 := ok_greatC M Bl f26 g24
  have g27 := ok_tree M Bl f27 g26
  have g28 := ok_howMany M Bl f28 g24
  have g29 := ok_renamed M Bl Bl.dict f29 g2
  have g30 := ok_treeR M Bl nsorted f30 g27 g26 g28 g25
  have g31 := ok_covR M Bl f31 g2 g11 g15 g16 g23 g18 g17 g29
  have g32 := ok_layR M Bl f32 g15 g21 g19 g22
  exact ok_law M Bl f33 g1 g2 g3 g7 g16 g30 g31 g32

end Ov

namespace Ov
open PySem L2
theorem walk {l : PySem.W.OpenLaw} {q : Program} {loose : List Str} {XP : (Str → Option Value) → Heap → Prop} {YP : World → Heap → Prop} {d : DefRec} {K : Params → PySem.W.Frag} (hn : l.most = some 63) (hdf : d.params.defaults = [])
    (hY : ∀ (w : World) (h : Heap), YP w h → (K w.params).In h)
    (F : ∀ (w : World) (mg : Str → Option Value) (fa : Addr) (h : Heap), (K w.params).In h → h.Ns mainGlobals mg → mg d.name = some (.ref fa) →
      ∃ fd : FuncData, (∀ (s : Shared) (u : Value), BindsTo s fd ⟨[u], []⟩ [("script", u)]) ∧ ∀ base : Heap, (K w.params).In base → base.Ns mainGlobals mg → FnOk l.prog w (K w.params) mg base CX0 10 fa fd ["script"] (spLaw (K w.params))) :
    PySem.W.WalkO q loose XP YP l.row.toRowW d [] (fun f vs => PySem.call f vs) :=
  L2.walk_of (n := 63) (k := 10) (x := "script") (CX := fun _ => CX0) (sp := fun w => spLaw (K w.params)) hn (by decide) hdf ⟨rfl, by decide, by decide⟩ hY F (fun _ _ a ns hl _ hS => ⟨a, ns, rfl, hS, hl, fun _ => rfl⟩) fun _ _ _ _ _ z => z

end Ov

theorem PySem.W.Fast.tw29568789603371475 : True := trivial
theorem PySem.W.Fast.tw9945913373201364285 : True := trivial
theorem PySem.W.Fast.tw11716647553673941636 : True := trivial
theorem PySem.W.Fast.tw1029199005786246296 : True := trivial

open PySem PySem.W PyProof.Rows
set_option maxRecDepth 100000 in
set_option maxHeartbeats 0 in
theorem PySem.Challenge.cw_overlaid_k15_whole_covers_holds : PySem.Challenge.rw_overlaid_k15_whole_covers.Holds := by
  w_on; o_law; k_head; (case hw => w_witness2)
  k_fill
  refine Ov.walk (l := PySem.Challenge.rw_overlaid_k15_whole_covers) rfl rfl (fun w h Y => PySem.W.kIn_of Y) ?F
  case F =>
    intro w mg fa h KX G hmg
    refine' Ov.all_mk KX G hmg ?f1 ?f2 ?f3 ?f4 ?f5 ?f6 ?f7 ?f8 ?f9 ?f10 ?f11 ?f12 ?f13 ?f14 ?f15 ?f16 ?f17 ?f18 ?f19 ?f20 ?f21 ?f22 ?f23 ?f24 ?f25 ?f26 ?f27 ?f28 ?f29 ?f30 ?f31 ?f32 ?f33 ?Nsorted ?B
    (case f1 => (refine' L2.ff_mk ?a ?l ?c ?k; (case a => k_is); (case l => k_is); (case c => k_is); (case k => k_is)))
    (case f2 => (refine' L2.ff_mk ?a ?l ?c ?k; (case a => k_is); (case l => k_is); (case c => k_is); (case k => k_is)))
    (case f3 => (refine' L2.ff_mk ?a ?l ?c ?k; (case a => k_is); (case l => k_is); (case c => k_is); (case k => k_is)))
    (case f4 => (refine' L2.ff_mk ?a ?l ?c ?k; (case a => k_is); (case l => k_is); (case c => k_is); (case k => k_is)))
    (case f5 => (refine' L2.ff_mk ?a ?l ?c ?k; (case a => k_is); (case l => k_is); (case c => k_is); (case k => k_is)))
    (case f6 => (refine' L2.ff_mk ?a ?l ?c ?k; (case a => k_is); (case l => k_is); (case c => k_is); (case k => k_is)))
    (case f7 => (refine' L2.ff_mk ?a ?l ?c ?k; (case a => k_is); (case l => k_is); (case c => k_is); (case k => k_is)))
    (case f8 => (refine' L2.ff_mk ?a ?l ?c ?k; (case a => k_is); (case l => k_is); (case c => k_is); (case k => k_is)))
    (case f9 => (refine' L2.ff_mk ?a ?l ?c ?k; (case a => k_is); (case l => k_is); (case c => k_is); (case k => k_is)))
    (case f10 => (refine' L2.ff_mk ?a ?l ?c ?k; (case a => k_is); (case l => k_is); (case c => k_is); (case k => k_is)))
    (case f11 => (refine' L2.ff_mk ?a ?l ?c ?k; (case a => k_is); (case l => k_is); (case c => k_is); (case k => k_is)))
    (case f12 => (refine' L2.ff_mk ?a ?l ?c ?k; (case a => k_is); (case l => k_is); (case c => k_is); (case k => k_is)))
    (case f13 => (refine' L2.ff_mk ?a ?l ?c ?k; (case a => k_is); (case l => k_is); (case c => k_is); (case k => k_is)))
    (case f14 => (refine' L2.ff_mk ?a ?l ?c ?k; (case a => k_is); (case l => k_is); (case c => k_is); (case k => k_is)))
    (case f15 => (refine' L2.ff_mk ?a ?l ?c ?k; (case a => k_is); (case l => k_is); (case c => k_is); (case k => k_is)))
    (case f16 => (refine' L2.ff_mk ?a ?l ?c ?k; (case a => k_is); (case l => k_is); (case c => k_is); (case k => k_is)))
    (case f17 => (refine' L2.ff_mk ?a ?l ?c ?k; (case a => k_is); (case l => k_is); (case c => k_is); (case k => k_is)))
    (case f18 => (refine' L2.ff_mk ?a ?l ?c ?k; (case a => k_is); (case l => k_is); (case c => k_is); (case k => k_is)))
    (case f19 => (refine' L2.ff_mk ?a ?l ?c ?k; (case a => k_is); (case l => k_is); (case c => k_is); (case k => k_is)))
    (case f20 => (refine' L2.ff_mk ?a ?l ?c ?k; (case a => k_is); (case l => k_is); (case c => k_is); (case k => k_is)))
    (case f21 => (refine' L2.ff_mk ?a ?l ?c ?k; (case a => k_is); (case l => k_is); (case c => k_is); (case k => k_is)))
    (case f22 => (refine' L2.ff_mk ?a ?l ?c ?k; (case a => k_is); (case l => k_is); (case c => k_is); (case k => k_is)))
    (case f23 => (refine' L2.ff_mk ?a ?l ?c ?k; (case a => k_is); (case l => k_is); (case c => k_is); (case k => k_is)))
    (case f24 => (refine' L2.ff_mk ?a ?l ?c ?k; (case a => k_is); (case l => k_is); (case c => k_is); (case k => k_is)))
    (case f25 => (refine' L2.ff_mk ?a ?l ?c ?k; (case a => k_is); (case l => k_is); (case c => k_is); (case k => k_is)))
    (case f26 => (refine' L2.ff_mk ?a ?l ?c ?k; (case a => k_is); (case l => k_is); (case c => k_is); (case k => k_is)))
    (case f27 => (refine' L2.ff_mk ?a ?l ?c ?k; (case a => k_is); (case l => k_is); (case c => k_is); (case k => k_is)))
    (case f28 => (refine' L2.ff_mk ?a ?l ?c ?k; (case a => k_is); (case l => k_is); (case c => k_is); (case k => k_is)))
    (case f29 => (refine' L2.ff_mk ?a ?l ?c ?k; (case a => k_is); (case l => k_is); (case c => k_is); (case k => k_is)))
    (case f30 => (refine' L2.ff_mk ?a ?l ?c ?k; (case a => k_is); (case l => k_is); (case c => k_is); (case k => k_is)))
    (case f31 => (refine' L2.ff_mk ?a ?l ?c ?k; (case a => k_is); (case l => k_is); (case c => k_is); (case k => k_is)))
    (case f32 => (refine' L2.ff_mk ?a ?l ?c ?k; (case a => k_is); (case l => k_is); (case c => k_is); (case k => k_is)))
    (case f33 => (refine' L2.ff_mk ?a ?l ?c ?k; (case a => k_is); (case l => k_is); (case c => k_is); (case k => k_is)))
    (case Nsorted => k_is)
    (case B => (intro M; refine' L2.bl_of M ?b1 ?b2 ?b3 ?b4 ?b5 ?b6 ?b7 ?b8 ?b9 ?b10 ?b11 ?b12 ?b13 ?b14 ?b15; (case b1 => k_is); (case b2 => k_is); (case b3 => k_is); (case b4 => k_is); (case b5 => k_is); (case b6 => k_is); (case b7 => k_is); (case b8 => k_is); (case b9 => k_is); (case b10 => k_is); (case b11 => k_is); (case b12 => k_is); (case b13 => k_is); (case b14 => k_is); (case b15 => k_is)))
