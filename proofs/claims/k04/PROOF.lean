import PyProof.Rows.All
import Wide.All
import OpenK.AllK
import Wide.FinOn
import Lean
import PyProof.EqAt
import PyProof.EqKinds
import PyProof.TupleCall
import PySem.Challenge.RW_overlaid_k04_whole_borders
set_option Elab.async false
set_option linter.all false
set_option maxRecDepth 100000
/-! THE HAND LAYER, for ints, bools, texts, own classes, LISTS and tuples (index, slices, in, append, pop ..), calls, loops. Paste it whole ahead of your own text; what your proof does not reach may be deleted. -/
namespace L2
open PySem PySem.Spec PyProof.Rows

/-- a key: an int or a str -/
abbrev Key := Sum Int Str
def keyIs : Key → Value → Bool
  | .inl k, v => Value.isInt k v
  | .inr x, v => Value.isStrOf x v
def keyH (w : World) : Key → Int
  | .inl k => hashInt k
  | .inr x => hashStr w x
theorem keyIs_shape : ∀ {k : Key} {v : Value}, keyIs k v = true → (∃ i t, k = Sum.inl i ∧ v = Value.int i t) ∨ (∃ x t, k = Sum.inr x ∧ v = Value.str x t)
  | .inl i, v, h => by
    obtain ⟨t, e⟩ := Value.isInt_shape (k := i) (v := v) h
    exact .inl ⟨i, t, rfl, e⟩
  | .inr x, v, h => by
    obtain ⟨t, e⟩ := Value.isStrOf_shape (x := x) (v := v) h
    exact .inr ⟨x, t, rfl, e⟩
theorem keyIs_int (i : Int) (t : Tok) : keyIs (.inl i) (.int i t) = true := by simp [keyIs, Value.isInt]
theorem keyIs_str (x : Str) (t : Tok) : keyIs (.inr x) (.str x t) = true := by simp [keyIs, Value.isStrOf]
theorem key_ll (a b : Int) : decide ((Sum.inl a : Key) = Sum.inl b) = (a == b) := by
  by_cases e : a = b
  · subst e; simp
  · have h : ¬ (Sum.inl a : Key) = Sum.inl b := fun q => e (Sum.inl.inj q)
    rw [decide_eq_false h]
    exact (beq_eq_false_iff_ne.mpr e).symm
theorem key_rr (a b : Str) : decide ((Sum.inr a : Key) = Sum.inr b) = decide (a = b) := by
  by_cases e : a = b
  · subst e; simp
  · have h : ¬ (Sum.inr a : Key) = Sum.inr b := fun q => e (Sum.inr.inj q)
    rw [decide_eq_false h, decide_eq_false e]
theorem key_lr (a : Int) (b : Str) : decide ((Sum.inl a : Key) = Sum.inr b) = false := decide_eq_false (fun q => nomatch q)
theorem key_rl (a : Str) (b : Int) : decide ((Sum.inr a : Key) = Sum.inl b) = false := decide_eq_false (fun q => nomatch q)

def mixKind (prog : Program) (w : World) : PySem.KeyKind prog w Key where
  is := keyIs
  hash := keyH w
  inj := fun v a b ha hb => by
    rcases keyIs_shape ha with ⟨i, t, rfl, rfl⟩ | ⟨x, t, rfl, rfl⟩
    · rcases keyIs_shape hb with ⟨j, u, rfl, e⟩ | ⟨y, u, rfl, e⟩
      · injection e with e1 _; rw [e1]
      · exact nomatch e
    · rcases keyIs_shape hb with ⟨j, u, rfl, e⟩ | ⟨y, u, rfl, e⟩
      · exact nomatch e
      · injection e with e1 _; rw [e1]
  byValue := fun k v h => by
    rcases keyIs_shape h with ⟨i, t, rfl, rfl⟩ | ⟨x, t, rfl, rfl⟩ <;> rfl
  pyHash := fun hv h => by
    rcases keyIs_shape hv with ⟨i, t, rfl, rfl⟩ | ⟨x, t, rfl, rfl⟩
    · exact wpAny_pyHash_int h
    · exact wpAny_pyHash_str h
  eqBool := fun hu hv h => by
    rcases keyIs_shape hu with ⟨i, t, rfl, rfl⟩ | ⟨x, t, rfl, rfl⟩
    · rcases keyIs_shape hv with ⟨j, u, rfl, rfl⟩ | ⟨y, u, rfl, rfl⟩
      · rw [key_ll] at h; exact wpAny_eqBool_int h
      · rw [key_lr] at h; exact SeqAt.EqAt.int_str i t y u _ _ _ _ h
    · rcases keyIs_shape hv with ⟨j, u, rfl, rfl⟩ | ⟨y, u, rfl, rfl⟩
      · rw [key_rl] at h; exact SeqAt.EqAt.str_int x t j u _ _ _ _ h
      · rw [key_rr] at h; exact wpAny_eqBool_str h
  «strs» := fun k x t v h => by
    rcases keyIs_shape h with ⟨i, u, rfl, e⟩ | ⟨y, u, rfl, e⟩
    · exact nomatch e
    · injection e with e1 _
      subst e1
      cases v <;> rfl

theorem mixKind_int (prog : Program) (w : World) (i : Int) (t : Tok) : (mixKind prog w).is (.inl i) (.int i t) = true := keyIs_int i t
theorem mixKind_str (prog : Program) (w : World) (x : Str) (t : Tok) : (mixKind prog w).is (.inr x) (.str x t) = true := keyIs_str x t
end L2

namespace L2
open PySem PySem.Spec PyProof.Rows

/-- a value, without the heap -/
inductive V where
  | non | bl (b : Bool) | int (i : Int) | str (x : Str) | byt (b : Array UInt8) | flt (b : UInt64) | ref (a : Addr) | ty (n : String)
  deriving DecidableEq

def RelV : V → Value → Prop
  | .non, u => u = Value.none
  | .bl b, u => u = Value.bool b
  | .int i, u => ∃ t, u = Value.int i t
  | .str x, u => ∃ t, u = Value.str x t
  | .byt b, u => ∃ t, u = Value.bytes b t
  | .flt b, u => ∃ t, u = Value.float b t
  | .ref a, u => u = Value.ref a
  | .ty n, u => u = Value.type n

abbrev Vals : List V → List Value → Prop := Paired RelV
theorem Vals.length {xs : List V} {us : List Value} (r : Vals xs us) : xs.length = us.length := Paired.length r
theorem Vals.get : ∀ {xs : List V} {us : List Value} {i : Nat} {x : V}, Vals xs us → xs[i]? = some x → ∃ u, us[i]? = some u ∧ RelV x u
  | _, _, _, _, .nil, e => by simp at e
  | _, _, 0, _, .cons r _, e => by simp at e; subst e; exact ⟨_, rfl, r⟩
  | _, _, i + 1, x, .cons _ t, e => by
    obtain ⟨u, h1, h2⟩ := Vals.get (i := i) (x := x) t (by simpa using e)
    exact ⟨u, by simpa using h1, h2⟩
theorem Vals.set {x : V} {u : Value} (r : RelV x u) : ∀ {xs : List V} {us : List Value} (i : Nat), Vals xs us → Vals (xs.set i x) (us.set i u)
  | _, _, _, .nil => .nil
  | _, _, 0, .cons _ t => .cons r t
  | _, _, i + 1, .cons q t => .cons q (Vals.set r i t)
theorem Vals.append : ∀ {xs ys : List V} {us ws : List Value}, Vals xs us → Vals ys ws → Vals (xs ++ ys) (us ++ ws)
  | _, _, _, _, .nil, s => s
  | _, _, _, _, .cons r t, s => .cons r (Vals.append t s)
theorem Vals.take : ∀ {xs : List V} {us : List Value} (n : Nat), Vals xs us → Vals (xs.take n) (us.take n)
  | _, _, 0, _ => .nil
  | _, _, _ + 1, .nil => .nil
  | _, _, n + 1, .cons r t => .cons r (Vals.take n t)
theorem Vals.drop : ∀ {xs : List V} {us : List Value} (n : Nat), Vals xs us → Vals (xs.drop n) (us.drop n)
  | _, _, 0, r => r
  | _, _, _ + 1, .nil => .nil
  | _, _, n + 1, .cons _ t => Vals.drop n t

def RelO : Option V → Option Value → Prop
  | some v, some u => RelV v u
  | none, none => True
  | _, _ => False
def KV {κ : Type} : List (κ × V) → List (κ × Value) → Prop := Paired fun (p : κ × V) (q : κ × Value) => p.1 = q.1 ∧ RelV p.2 q.2

/-- a key of a dict (00_mix): an int or a text -/
def kV : Key → V
  | .inl i => .int i
  | .inr x => .str x

/-- what stands at a tracked address -/
inductive HO where
  /-- a list -/
  | lst (xs : List V)
  /-- a tuple (never changes) -/
  | tup (xs : List V)
  /-- a dict whose keys are ints and texts; one whose keys are tuples of ints and texts (the empty one is both) -/
  | dK (kvs : List (Key × V)) | dT (kvs : List (List Key × V))
  /-- a set of ints: its members, its size -/
  | set (S : Int → Bool) (n : Nat)
  /-- an instance of the class at C, its dict at dx, its attributes -/
  | ins (C dx : Addr) (fs : List (Str × V))
  /-- the dict of the instance at x -/
  | own (x : Addr)
  /-- the dict of an exception -/
  | xd (fs : List (Str × V))
  /-- a bound method, f of x -/
  | met (f x : Addr)
  /-- a range object lo, lo + 1, .. below hi -/
  | rng (lo hi : Int)
  /-- a thing that is known to the object (the script; a dict while a loop walks it): read, never written while it is so -/
  | frz (o : Obj) (u : HO)
  /-- a code object's table -/
  | tbl (ps : Array Value)
  /-- any other thing, by what is true of its one object (a def of one's own: SetO a S n := HO.ext fun h => ..) -/
  | ext (φ : Heap → Prop)

abbrev Hp := Addr → Option HO
def upd (H : Hp) (a : Addr) (o : HO) : Hp := fun b => if b = a then some o else H b
theorem upd_same {H : Hp} {a : Addr} {o : HO} : upd H a o a = some o := by unfold upd; rw [if_pos rfl]
theorem upd_ne {H : Hp} {a b : Addr} {o : HO} (h : b ≠ a) : upd H a o b = H b := by unfold upd; rw [if_neg h]
/-- two objects of different content stand apart -/
theorem ne_of {H : Hp} {a b : Addr} {o u : HO} (h : H a = some o) (h' : H b = some u) (d : o ≠ u) : a ≠ b := by
  intro e; subst e; rw [h] at h'; exact d (Option.some.inj h')
theorem ne_of_none {H : Hp} {a b : Addr} {o : HO} (h : H a = some o) (h' : H b = none) : a ≠ b := by
  intro e; subst e; rw [h] at h'; cases h'

section
variable (P : Program) (w : World)
def ObjOk (H : Hp) (h : Heap) (a : Addr) : HO → Prop
  | .lst xs => xs.length ≤ sizeLine ∧ ∃ (its : List Value) (n : Nat), Vals xs its ∧ h.get? a = some { cls := .type "list", data := .seq its.toArray n }
  | .tup xs => xs.length ≤ sizeLine ∧ ∃ its : List Value, Vals xs its ∧ IsTup h a its.toArray
  | .dK kvs => kvs.length ≤ sizeLine ∧ (a == sysModules) = false ∧ ∃ vs, KV kvs vs ∧ h.DictOf (mixKind P w) a vs
  | .dT kvs => kvs.length ≤ sizeLine ∧ (a == sysModules) = false ∧ ∃ xs : List (List Key × Addr × Value),
      Paired (fun (p : List Key × V) (q : List Key × Addr × Value) => p.1 = q.1 ∧ H q.2.1 = some (.tup (p.1.map kV)) ∧ RelV p.2 q.2.2) kvs xs ∧
      ∃ o es ep, h.get? a = some o ∧ o.ExactDict ∧ o.data = .dict es ep ∧ es.toList = xs.map (entryOfKey (tupleKind (mixKind P w))) ∧ (xs.map (·.1)).Nodup
  | .set S n => h.SetOf (intKind P w) a S n
  | .ins C dx fs => H dx = some (.own a) ∧ fs.length ≤ 1000 ∧ dx ≠ a ∧ h.get? a = some (PySem.W.instObj C dx) ∧
      ∃ mA, h.Ns1 dx mA ∧ (∀ f, RelO (fs.lookup f) (mA f)) ∧ PySem.Within mA (fs.map (·.1))
  | .own _ => ∃ o, h.get? a = some o
  | .xd fs => ∃ mA, h.Ns1 a mA ∧ ∀ f, RelO (fs.lookup f) (mA f)
  | .rng lo hi => ∃ t u v, h.get? a = some { cls := .type "range", data := .fields #[.int lo t, .int hi u, .int 1 v] }
  | .frz o u => h.get? a = some o ∧ ObjOk H h a u
  | .tbl ps => h.get? a = some { cls := .none, data := .fields ps }
  | .met f x => h.get? a = some (PySem.W.methodObj (.ref f) (.ref x))
  | .ext φ => φ h ∧ (∃ o, h.get? a = some o) ∧ ∀ h1 h2 : Heap, φ h1 → (∀ o, h1.get? a = some o → h2.get? a = some o) → φ h2
/-- the abstract heap is held -/
def HOk (H : Hp) (h : Heap) : Prop := ∀ a o, H a = some o → ObjOk P w H h a o
end

section
variable {P : Program} {w : World} {H H' : Hp} {h h' : Heap} {a : Addr} {o : HO}
theorem ObjOk.lt (x : ObjOk P w H h a o) : a < h.objs.size := by
  cases o with
  | lst xs => obtain ⟨_, _, _, _, e⟩ := x; exact Heap.lt_size e
  | tup xs => obtain ⟨_, _, _, p⟩ := x; exact p.lt
  | dK kvs => obtain ⟨_, _, _, _, o, _, _, e, _⟩ := x; exact Heap.lt_size e
  | dT kvs => obtain ⟨_, _, _, _, o, _, _, e, _⟩ := x; exact Heap.lt_size e
  | set S n => obtain ⟨o, _, _, _, e, _⟩ := x; exact Heap.lt_size e
  | ins C dx fs => obtain ⟨_, _, _, e, _⟩ := x; exact Heap.lt_size e
  | own y => obtain ⟨_, e⟩ := x; exact Heap.lt_size e
  | xd fs => obtain ⟨_, ⟨_, _, _, e, _⟩, _⟩ := x; exact Heap.lt_size e
  | rng lo hi => obtain ⟨_, _, _, e⟩ := x; exact Heap.lt_size e
  | frz ob u => obtain ⟨e, _⟩ := x; exact Heap.lt_size e
  | tbl ps => exact Heap.lt_size (show h.get? a = some _ from x)
  | met f y => exact Heap.lt_size (show h.get? a = some _ from x)
  | ext φ => obtain ⟨_, ⟨_, e⟩, _⟩ := x; exact Heap.lt_size e
theorem Paired.mapP {α β : Type} {F G : α → β → Prop} : ∀ {l₁ : List α} {l₂ : List β}, Paired F l₁ l₂ → (∀ a b, F a b → G a b) → Paired G l₁ l₂
  | _, _, .nil, _ => .nil
  | _, _, .cons r t, f => .cons (f _ _ r) (Paired.mapP t f)
/-- what an object's description leans on: its own object, its own dict, the tuples -/
theorem ObjOk.stay (x : ObjOk P w H h a o) (k : ∀ b u, (b = a ∨ H b = some (.own a)) → h.get? b = some u → h'.get? b = some u)
    (ho : ∀ b, H b = some (.own a) → H' b = some (.own a)) (ht : ∀ b xs, H b = some (.tup xs) → H' b = some (.tup xs)) : ObjOk P w H' h' a o := by
  induction o with
  | lst xs => obtain ⟨z, its, n, r, e⟩ := x; exact ⟨z, its, n, r, k _ _ (.inl rfl) e⟩
  | tup xs => obtain ⟨z, its, r, ob, e, c⟩ := x; exact ⟨z, its, r, ob, k _ _ (.inl rfl) e, c⟩
  | dK kvs => obtain ⟨z, y, vs, r, ob, es, ep, e, c⟩ := x; exact ⟨z, y, vs, r, ob, es, ep, k _ _ (.inl rfl) e, c⟩
  | dT kvs =>
    obtain ⟨z, y, xs, r, ob, es, ep, e, c⟩ := x
    exact ⟨z, y, xs, Paired.mapP r fun p q z => ⟨z.1, ht _ _ z.2.1, z.2.2⟩, ob, es, ep, k _ _ (.inl rfl) e, c⟩
  | set S n => obtain ⟨ob, es, ep, t, e, c⟩ := x; exact ⟨ob, es, ep, t, k _ _ (.inl rfl) e, c⟩
  | ins C dx fs =>
    obtain ⟨d, z, ne, e, mA, ⟨od, es, ep, e2, c⟩, r⟩ := x
    exact ⟨ho _ d, z, ne, k _ _ (.inl rfl) e, mA, ⟨od, es, ep, k _ _ (.inr d) e2, c⟩, r⟩
  | own y => obtain ⟨ob, e⟩ := x; exact ⟨ob, k _ _ (.inl rfl) e⟩
  | xd fs => obtain ⟨mA, ⟨od, es, ep, e, c⟩, r⟩ := x; exact ⟨mA, ⟨od, es, ep, k _ _ (.inl rfl) e, c⟩, r⟩
  | rng lo hi => obtain ⟨t, u, v, e⟩ := x; exact ⟨t, u, v, k _ _ (.inl rfl) e⟩
  | frz ob u ih => obtain ⟨e, q⟩ := x; exact ⟨k _ _ (.inl rfl) e, ih q⟩
  | tbl ps =>
    have e : h.get? a = some { cls := .none, data := .fields ps } := x
    show h'.get? a = some { cls := .none, data := .fields ps }
    exact k a _ (.inl rfl) e
  | met f y =>
    have e : h.get? a = some (PySem.W.methodObj (.ref f) (.ref y)) := x
    show h'.get? a = some (PySem.W.methodObj (.ref f) (.ref y))
    exact k a _ (.inl rfl) e
  | ext φ => obtain ⟨p, ⟨o, e⟩, st⟩ := x; exact ⟨st _ _ p fun o q => k _ _ (.inl rfl) q, ⟨o, k _ _ (.inl rfl) e⟩, st⟩
theorem HOk.lt (x : HOk P w H h) (e : H a = some o) : a < h.objs.size := (x a o e).lt
theorem HOk.fresh (x : HOk P w H h) (e : h.objs.size ≤ a) : H a = none := by
  cases q : H a with
  | none => rfl
  | some u => exact absurd (Nat.lt_of_lt_of_le (x.lt q) e) (Nat.lt_irrefl _)
/-- every object of the heap is kept -/
theorem HOk.kept (x : HOk P w H h) (k : ∀ b u, h.get? b = some u → h'.get? b = some u) : HOk P w H h' := fun a o e =>
  (x a o e).stay (fun b u _ q => k b u q) (fun _ q => q) fun _ _ q => q
/-- a new object is laid and tracked -/
theorem HOk.laid (x : HOk P w H h) (k : ∀ b u, h.get? b = some u → h'.get? b = some u) (hp : h.objs.size ≤ a) (new : ObjOk P w (upd H a o) h' a o) : HOk P w (upd H a o) h' := fun b u e => by
  have hn := x.fresh hp
  by_cases hb : b = a
  · subst hb; rw [upd_same] at e; cases e; exact new
  · rw [upd_ne hb] at e
    exact (x b u e).stay (fun c v _ q => k c v q) (fun c q => by rw [upd_ne (ne_of_none q hn)]; exact q) fun c xs q => by rw [upd_ne (ne_of_none q hn)]; exact q
end

/-- what may be read as u: it is u, or a known u -/
def Rd (H : Hp) (a : Addr) (u : HO) : Prop := H a = some u ∨ ∃ o, H a = some (.frz o u)
theorem Rd.of {H : Hp} {a : Addr} {u : HO} (h : H a = some u) : Rd H a u := .inl h
theorem Rd.ok {P : Program} {w : World} {H : Hp} {h : Heap} {a : Addr} {u : HO} (r : Rd H a u) (x : HOk P w H h) : ObjOk P w H h a u := by
  rcases r with r | ⟨o, r⟩
  · exact x a u r
  · obtain ⟨_, q⟩ := x a _ r
    exact q
/-- what may be written -/
def Mut : Option HO → Prop
  | some (.lst _) => True
  | some (.dK _) => True
  | some (.dT _) => True
  | some (.set _ _) => True
  | some (.ins _ _ _) => True
  | some (.ext _) => True
  | _ => False
section
variable {P : Program} {w : World} {H : Hp} {h h' : Heap} {x e : Addr} {o' : HO}
/-- the object at e is changed: x itself, or the dict of the instance x -/
theorem HOk.write (ok : HOk P w H h) (mu : Mut (H x)) (he : e = x ∨ H e = some (.own x)) (k : ∀ b u, b ≠ e → h.get? b = some u → h'.get? b = some u) (heo : ∃ u, h'.get? e = some u)
    (new : ObjOk P w (upd H x o') h' x o') : HOk P w (upd H x o') h' := fun b u q => by
  have nown : ∀ c y, H c = some (.own y) → c ≠ x := fun c y r z => by subst z; rw [r] at mu; exact mu
  have ntup : ∀ c xs, H c = some (.tup xs) → c ≠ x := fun c xs r z => by subst z; rw [r] at mu; exact mu
  by_cases hb : b = x
  · subst hb; rw [upd_same] at q; cases q; exact new
  · rw [upd_ne hb] at q
    by_cases hbe : b = e
    · have q' : H b = some (.own x) := by
        rcases he with z | z
        · exact absurd (hbe.trans z) hb
        · rw [hbe]; exact z
      rw [q] at q'; cases q'
      obtain ⟨v, hv⟩ := heo
      exact ⟨v, by rw [hbe]; exact hv⟩
    · refine (ok b u q).stay (fun c v hc r => k c v ?_ r) (fun c r => by rw [upd_ne (nown c b r)]; exact r) fun c xs r => by rw [upd_ne (ntup c xs r)]; exact r
      rcases hc with rfl | hc
      · exact hbe
      · rintro rfl
        rcases he with z | z
        · exact nown c b hc z
        · rw [hc] at z; cases z; exact hb rfl
end

/-! ### kept unless tracked; of the frames at fs (the callers') the slots may change (an exception that passes writes there); of the records at ex (iterators) nothing is said -/
structure Un (fs ex : List Addr) (H H' : Hp) (h h' : Heap) : Prop where
  keep : ∀ b o, h.get? b = some o → H b = none → b ∉ fs → b ∉ ex → h'.get? b = some o
  slot : ∀ b o, h.get? b = some o → H b = none → b ∈ fs → b ∉ ex → ∃ sl, h'.get? b = some { o with slots := sl }
  free : ∀ b o, h.get? b = some o → H b = none → b ∉ ex → H' b = none
  there : ∀ b o, h.get? b = some o → b ∉ ex → ∃ o', h'.get? b = some o'
  tups : ∀ b xs, H b = some (.tup xs) → H' b = some (.tup xs)
  frzs : ∀ b o u, H b = some (.frz o u) → H' b = some (.frz o u)
  tbls : ∀ b ps, H b = some (.tbl ps) → ∃ more, H' b = some (.tbl (ps ++ more))
section
variable {fs fs' ex ex' : List Addr} {H H1 H2 : Hp} {h h1 h2 h' : Heap} {a x e : Addr} {o : HO}
theorem Un.any (u : Un fs ex H H1 h h1) {b : Addr} {ob : Obj} (q : h.get? b = some ob) (n : H b = none) (hx : b ∉ ex) : ∃ sl, h1.get? b = some { ob with slots := sl } := by
  by_cases hb : b ∈ fs
  · exact u.slot b ob q n hb hx
  · exact ⟨ob.slots, u.keep b ob q n hb hx⟩
theorem Un.trans (a : Un fs ex H H1 h h1) (b : Un fs ex H1 H2 h1 h2) : Un fs ex H H2 h h2 where
  keep := fun c ob q n hc hx => b.keep c ob (a.keep c ob q n hc hx) (a.free c ob q n hx) hc hx
  slot := fun c ob q n hc hx => by
    obtain ⟨sl, e1⟩ := a.slot c ob q n hc hx
    obtain ⟨sl', e2⟩ := b.slot c _ e1 (a.free c ob q n hx) hc hx
    exact ⟨sl', e2⟩
  free := fun c ob q n hx => by
    obtain ⟨o', e1⟩ := a.there c ob q hx
    exact b.free c o' e1 (a.free c ob q n hx) hx
  there := fun c ob q hx => by
    obtain ⟨o', e1⟩ := a.there c ob q hx
    exact b.there c o' e1 hx
  tups := fun c xs q => b.tups c xs (a.tups c xs q)
  frzs := fun c ob xs q => b.frzs c ob xs (a.frzs c ob xs q)
  tbls := fun c ps q => by
    obtain ⟨m1, e1⟩ := a.tbls c ps q
    obtain ⟨m2, e2⟩ := b.tbls c _ e1
    exact ⟨m1 ++ m2, by rw [e2, Array.append_assoc]⟩
theorem Un.kept (k : ∀ b u, h.get? b = some u → h'.get? b = some u) : Un fs ex H H h h' :=
  ⟨fun b ob q _ _ _ => k b ob q, fun b ob q _ _ _ => ⟨ob.slots, k b ob q⟩, fun _ _ _ n _ => n, fun b ob q _ => ⟨ob, k b ob q⟩, fun _ _ q => q, fun _ _ _ q => q, fun _ ps q => ⟨#[], by rw [q]; simp⟩⟩
theorem Un.refl : Un fs ex H H h h := Un.kept fun _ _ q => q
theorem Un.laid (k : ∀ b u, h.get? b = some u → h'.get? b = some u) (hp : h.objs.size ≤ a) (hn : H a = none) : Un fs ex H (upd H a o) h h' where
  keep := fun b u q _ _ _ => k b u q
  slot := fun b u q _ _ _ => ⟨u.slots, k b u q⟩
  free := fun b u q n _ => by rw [upd_ne (Nat.ne_of_lt (Nat.lt_of_lt_of_le (Heap.lt_size q) hp))]; exact n
  there := fun b u q _ => ⟨u, k b u q⟩
  tups := fun b xs q => by rw [upd_ne (ne_of_none q hn)]; exact q
  frzs := fun b u xs q => by rw [upd_ne (ne_of_none q hn)]; exact q
  tbls := fun b ps q => ⟨#[], by rw [upd_ne (ne_of_none q hn), q]; simp⟩
theorem Un.write (mu : Mut (H x)) (he : e = x ∨ H e = some (.own x)) (k : ∀ b u, b ≠ e → h.get? b = some u → h'.get? b = some u) (heo : ∃ u, h'.get? e = some u) : Un fs ex H (upd H x o) h h' := by
  have hx : ∀ b, H b = none → b ≠ x := fun b n z => by subst z; rw [n] at mu; exact mu
  have hb : ∀ b, H b = none → b ≠ e := fun b n z => by
    subst z
    rcases he with r | r
    · exact hx b n r
    · rw [n] at r; cases r
  have hm : ∀ b u, H b = some u → ¬ Mut (some u) → b ≠ x := fun b u q nm z => by subst z; rw [q] at mu; exact nm mu
  refine ⟨fun b u q n _ _ => k b u (hb b n) q, fun b u q n _ _ => ⟨u.slots, k b u (hb b n) q⟩, fun b u q n _ => by rw [upd_ne (hx b n)]; exact n, fun b u q _ => ?_,
    fun b xs q => by rw [upd_ne (hm b _ q fun z => z)]; exact q, fun b u xs q => by rw [upd_ne (hm b _ q fun z => z)]; exact q, fun b ps q => ⟨#[], by rw [upd_ne (hm b _ q fun z => z), q]; simp⟩⟩
  by_cases hbe : b = e
  · subst hbe; exact heo
  · exact ⟨u, k b u hbe q⟩
theorem Un.mono (u : Un fs ex H H1 h h1) (hs : ∀ b ∈ fs, b ∈ fs') (hx : ∀ b ∈ ex, b ∈ ex') : Un fs' ex' H H1 h h1 :=
  ⟨fun b ob q n hb he => u.keep b ob q n (fun z => hb (hs b z)) fun z => he (hx b z), fun _ _ q n _ he => u.any q n fun z => he (hx _ z), fun b ob q n he => u.free b ob q n fun z => he (hx b z), fun b ob q he => u.there b ob q fun z => he (hx b z), u.tups, u.frzs, u.tbls⟩
end

/-! ### the heap without what is tracked -/
def trk (h : Heap) (H : Hp) : List Addr := (List.range h.objs.size).filter fun a => (H a).isSome
def hidT (h : Heap) (H : Hp) : Heap := PySem.W.hideAll h (trk h H)
theorem hidT_size (h : Heap) (H : Hp) : (hidT h H).objs.size = h.objs.size := PySem.W.hideAll_size _ _
theorem hidT_get {h : Heap} {H : Hp} {b : Addr} {o : Obj} (e : h.get? b = some o) (n : H b = none) : (hidT h H).get? b = some o :=
  PySem.W.hideAll_get _ e fun hm => by
    have q : (H b).isSome = true := (List.mem_filter.mp hm).2
    rw [n] at q; simp at q
theorem of_hidT {h : Heap} {H : Hp} {b : Addr} {o : Obj} (e : (hidT h H).get? b = some o) : h.get? b = some o ∧ H b = none := by
  have e' : h.get? b = some o := PySem.W.of_hideAll (trk h H) e
  refine ⟨e', ?_⟩
  cases q : H b with
  | none => rfl
  | some x =>
    have hm : b ∈ trk h H := List.mem_filter.mpr ⟨List.mem_range.mpr (Heap.lt_size e'), by simp [q]⟩
    have z : (hidT h H).get? b = none := PySem.W.hideAll_none (trk h H) hm
    rw [z] at e; cases e

/-! ### OpenK's ledger, filled with every new object but one -/
def allNews (g h : Heap) (L : Addr) : List (Addr × Obj) := (List.range h.objs.size).filterMap fun a => if a = L ∨ (g.get? a).isSome = true then none else (h.get? a).map fun o => (a, o)
def rest (g h : Heap) (L d : Addr) : List (Addr × Obj) := (allNews g h L).filter fun p => decide (p.1 ≠ d)
end L2

namespace L2
open PySem PySem.Spec PyProof.Rows

/-- the module's facts, over the base: the heap at the law's entry without what is tracked there -/
structure Mod (K : PySem.W.Frag) (mg : Str → Option Value) (base : Heap) : Prop where
  kin : K.In base
  glob : base.Ns mainGlobals mg
  blt : ∃ mb, base.Ns builtinsNs mb ∧ ∀ x : Str, x ≠ "__name__" → mb x = bootBuiltins x
  nolimit : base.NoLimit

/-- the context: a def's body (or a comprehension's block) running. base: fixed through the whole law; s₀, H₀: the entry; outer: the frames whose slots others may change (a def's callers); stack: all frames that run;
   ex: iterators that were made ahead of the entry and are walked here (a comprehension's); fn: the names whose cells were made at the entry (a def: all; a comprehension's block: its own); calm: not within an except suite; pn: pins that every state bears; xe: what is wanted of an exception that leaves the code -/
structure Cx where
  prog : Program
  w : World
  K : PySem.W.Frag
  mg : Str → Option Value
  base : Heap
  A : Around
  N : List Str
  s₀ : Shared
  H₀ : Hp
  env : Env
  outer : List Env
  stack : List Env
  ex : List Addr
  fn : Str → Bool
  calm : Bool
  pn : List (Addr × Obj)
  xe : Value → Shared → Prop
/-- the callers' frames -/
def frs (l : List Env) : List Addr := l.filterMap (·.frame)
abbrev Cx.fs (X : Cx) : List Addr := frs X.outer

def Vis (sc : Scope) (x : Str) : Prop := sc.names.lookup x = some .local ∨ sc.names.lookup x = some .cell ∨ sc.names.lookup x = some .free
def Loc (sc : Scope) (x : Str) : Prop := sc.names.lookup x = some .local ∨ sc.names.lookup x = some .cell
def Look (env : Env) (h : Heap) (m : Str → Option Value) (x : Str) (u : Value) : Prop :=
  (env.kindOf x = some .local ∧ m x = some u) ∨ ((env.kindOf x = some .cell ∨ env.kindOf x = some .free) ∧ ∃ c, env.cells.lookup x = some c ∧ h.IsCell c (some u))

structure Cx.Ok (X : Cx) : Prop where
  mod : Mod X.K X.mg X.base
  kind : X.env.scope.kind = .function
  glob : X.env.globals = mainGlobals
  blt : X.env.builtins = builtinsNs
  above : X.s₀.heap.objs.size ≤ X.env.locals
  inj : ∀ x y c, X.env.cells.lookup x = some c → X.env.cells.lookup y = some c → x = y
  has : ∀ x, (X.env.kindOf x = some .cell ∨ X.env.kindOf x = some .free) → ∃ c, X.env.cells.lookup x = some c
  cab : ∀ x c, X.fn x = true → X.env.cells.lookup x = some c → X.s₀.heap.objs.size ≤ c
  hd : X.calm = true → X.A.handled = none
  frames : X.A.frames = some X.stack
  stk : X.stack = X.outer ∨ (X.stack = X.env :: X.outer ∧ X.env.frame = some X.env.locals)
  exf : ∀ b ∈ X.ex, b ≠ X.env.locals ∧ ∀ x c, X.env.cells.lookup x = some c → c ≠ b
  bs : ∀ b o, X.base.get? b = some o → X.s₀.heap.get? b = some o ∧ X.H₀ b = none
  bsz : X.base.objs.size ≤ X.s₀.heap.objs.size
  noex : ∀ b o, X.base.get? b = some o → b ∉ X.ex
  exfs : ∀ b ∈ X.ex, b ∉ X.fs
  funs : X.s₀.heap.FunFrames X.base X.outer
  frf : ∀ b ∈ X.fs, X.H₀ b = none

structure Inv (X : Cx) (pins : List (Addr × Obj)) (σ : List (Option V)) (H : Hp) (s : Shared) : Prop where
  ok : X.Ok
  os : s.os = X.s₀.os
  bare : AllBare s.gens
  base : Un X.fs X.ex X.H₀ H X.s₀.heap s.heap
  loc : ∃ m, s.heap.Ns X.env.locals m ∧ ∀ (i : Nat) (x : Str) (v : V), X.N[i]? = some x → σ[i]? = some (some v) → Vis X.env.scope x → ∃ u, RelV v u ∧ Look X.env s.heap m x u
  cell : ∀ x c, X.env.cells.lookup x = some c → ∃ v, s.heap.IsCell c v
  free : H X.env.locals = none
  freeC : ∀ x c, X.env.cells.lookup x = some c → H c = none
  pin : ∀ p ∈ X.pn ++ pins, s.heap.get? p.1 = some p.2 ∧ H p.1 = none ∧ p.1 ≠ X.env.locals ∧ p.1 ∉ X.fs ∧ ∀ v, p.2.data ≠ .cell v
  hok : HOk X.prog X.w H s.heap
  len : σ.length = X.N.length

section
variable {X : Cx} {pins : List (Addr × Obj)} {σ : List (Option V)} {H H' : Hp} {s : Shared} {h' : Heap}

theorem Cx.Ok.nofr (ok : X.Ok) {b : Addr} {o : Obj} (e : X.base.get? b = some o) : b ∉ X.fs := fun hb => by
  have := (ok.funs.mem hb).1
  rw [e] at this; cases this
theorem Inv.bs (I : Inv X pins σ H s) : ∀ b o, X.base.get? b = some o → s.heap.get? b = some o ∧ H b = none := fun b o e =>
  ⟨I.base.keep b o (I.ok.bs b o e).1 (I.ok.bs b o e).2 (I.ok.nofr e) (I.ok.noex b o e), I.base.free b o (I.ok.bs b o e).1 (I.ok.bs b o e).2 (I.ok.noex b o e)⟩
theorem Inv.bk (I : Inv X pins σ H s) : ∀ b o, X.base.get? b = some o → s.heap.get? b = some o := fun b o e => (I.bs b o e).1
theorem Inv.mod (I : Inv X pins σ H s) : Mod X.K X.mg X.base := I.ok.mod
theorem Inv.kIn (I : Inv X pins σ H s) : X.K.In s.heap := I.ok.mod.kin.keeps I.bk
theorem Inv.nolimit (I : Inv X pins σ H s) : s.heap.NoLimit := I.ok.mod.nolimit.keeps I.bk
/-- the frame over the base: for OpenK's rules (K.In X.base is I.mod.kin) -/
theorem Inv.fr (I : Inv X pins σ H s) : ∃ m, Fr X.base X.env.locals s.heap m :=
  let ⟨m, hn, _⟩ := I.loc
  ⟨m, hn, I.bk, Nat.le_trans I.ok.bsz I.ok.above⟩
theorem Inv.lt (I : Inv X pins σ H s) : X.env.locals < s.heap.objs.size := let ⟨_, hn, _⟩ := I.loc; hn.lt
theorem Inv.sz (I : Inv X pins σ H s) : X.s₀.heap.objs.size ≤ s.heap.objs.size := Nat.le_trans I.ok.above (Nat.le_of_lt I.lt)
theorem Inv.nofs (I : Inv X pins σ H s) {a : Addr} (h : s.heap.objs.size ≤ a) : a ∉ X.fs := fun hb => by
  obtain ⟨_, o, ho, _⟩ := I.ok.funs.mem hb
  exact absurd (Nat.lt_of_lt_of_le (Heap.lt_size ho) (Nat.le_trans I.sz h)) (Nat.lt_irrefl _)
theorem Inv.cne (I : Inv X pins σ H s) : ∀ x c, X.env.cells.lookup x = some c → c ≠ X.env.locals := fun x c e z => by
  obtain ⟨v, o, ho, hd⟩ := I.cell x c e
  obtain ⟨m, ⟨o', es, ep, ho', hd', _⟩, _⟩ := I.loc
  rw [z, ho'] at ho; cases ho; rw [hd'] at hd; cases hd
theorem Inv.funs (I : Inv X pins σ H s) : s.heap.FunFrames X.base X.outer := by
  have all : ∀ (l : List Env), (∀ b ∈ frs l, b ∈ X.fs) → X.s₀.heap.FunFrames X.base l → s.heap.FunFrames X.base l := by
    intro l
    induction l with
    | nil => intro _ _; trivial
    | cons env r ih =>
      intro hs hl
      obtain ⟨hk, ⟨L, o, hf, hn, ho, hd⟩, hr⟩ := hl
      have hL : L ∈ X.fs := hs L (by unfold frs; rw [List.filterMap_cons, hf]; exact List.mem_cons_self)
      obtain ⟨sl, e⟩ := I.base.slot L o ho (I.ok.frf L hL) hL fun z => I.ok.exfs L z hL
      exact ⟨hk, ⟨L, _, hf, hn, e, hd⟩, ih (fun b hb => hs b (by unfold frs; rw [List.filterMap_cons, hf]; exact List.mem_cons_of_mem _ hb)) hr⟩
  exact all X.outer (fun _ hb => hb) I.ok.funs

/-- the frames that run, for a call -/
theorem Inv.stack (I : Inv X pins σ H s) : s.heap.FunFrames X.base X.stack := by
  rcases I.ok.stk with e | ⟨e, hf⟩
  · rw [e]; exact I.funs
  · rw [e]
    obtain ⟨m, hn, _⟩ := I.loc
    refine .cons (by rw [I.ok.kind]; decide) hf hn ?_ I.funs
    exact Heap.get?_none_of_le (Nat.le_trans I.ok.bsz I.ok.above)
theorem Inv.stkSub (I : Inv X pins σ H s) : ∀ b ∈ frs X.stack, b ∈ X.env.locals :: X.fs := fun b hb => by
  rcases I.ok.stk with e | ⟨e, hf⟩
  · rw [e] at hb; exact List.mem_cons_of_mem _ hb
  · rw [e] at hb
    unfold frs at hb
    rw [List.filterMap_cons, hf] at hb
    exact hb
theorem Inv.stkFree (I : Inv X pins σ H s) : ∀ b ∈ frs X.stack, H b = none := fun b hb => by
  rcases List.mem_cons.mp (I.stkSub b hb) with e | hb
  · rw [e]; exact I.free
  · obtain ⟨_, o, ho, _⟩ := I.ok.funs.mem hb
    exact I.base.free b o ho (I.ok.frf b hb) fun z => I.ok.exfs b z hb

/-- THE STEP: the untracked objects but the frame and the records at ch are kept (the callers' frames up to slots), the frame's map is kept, the new abstract heap is held -/
theorem Inv.step {g' : Array GenState} {t' : Nat} {d' : Drawn} {ch : List Addr} (I : Inv X pins σ H s)
    (hch : ∀ b ∈ ch, (b ∈ X.ex ∨ X.s₀.heap.objs.size ≤ b) ∧ b ≠ X.env.locals ∧ (∀ x c, X.env.cells.lookup x = some c → c ≠ b) ∧ ∀ p ∈ X.pn ++ pins, p.1 ≠ b)
    (keep : ∀ b o, b ≠ X.env.locals → b ∉ X.fs → b ∉ ch → s.heap.get? b = some o → H b = none → h'.get? b = some o)
    (slot : ∀ b o, b ≠ X.env.locals → b ∈ X.fs → b ∉ ch → s.heap.get? b = some o → H b = none → ∃ sl, h'.get? b = some { o with slots := sl }) (free : ∀ b o, b ∉ ch → s.heap.get? b = some o → H b = none → H' b = none)
    (there : ∀ b o, b ∉ ch → s.heap.get? b = some o → ∃ o', h'.get? b = some o')
    (tups : ∀ b xs, H b = some (.tup xs) → H' b = some (.tup xs)) (frzs : ∀ b o u, H b = some (.frz o u) → H' b = some (.frz o u)) (tbls : ∀ b ps, H b = some (.tbl ps) → ∃ more, H' b = some (.tbl (ps ++ more)))
    (ns : ∀ m, s.heap.Ns X.env.locals m → h'.Ns X.env.locals m) (hok : HOk X.prog X.w H' h') (hg : AllBare g') :
    Inv X pins σ H' { s with heap := h', gens := g', drawn := d', toks := t' } := by
  have neL : ∀ b o, X.s₀.heap.get? b = some o → b ≠ X.env.locals := fun b o e => Nat.ne_of_lt (Nat.lt_of_lt_of_le (Heap.lt_size e) I.ok.above)
  have neC : ∀ b o, X.s₀.heap.get? b = some o → b ∉ X.ex → b ∉ ch := fun b o e hx hb => by
    rcases (hch b hb).1 with z | z
    · exact hx z
    · exact absurd (Nat.lt_of_lt_of_le (Heap.lt_size e) z) (Nat.lt_irrefl _)
  have cellK : ∀ x c, X.env.cells.lookup x = some c → ∀ v, s.heap.IsCell c v → h'.IsCell c v := fun x c e v ⟨o, ho, hd⟩ => by
    have nch : c ∉ ch := fun z => (hch c z).2.2.1 x c e rfl
    by_cases hc : c ∈ X.fs
    · obtain ⟨sl, q⟩ := slot c o (I.cne x c e) hc nch ho (I.freeC x c e)
      exact ⟨_, q, hd⟩
    · exact ⟨o, keep c o (I.cne x c e) hc nch ho (I.freeC x c e), hd⟩
  refine ⟨I.ok, I.os, hg, ⟨fun b o e n hb hx => ?_, fun b o e n hb hx => ?_, fun b o e n hx => ?_, fun b o e hx => ?_, fun b xs e => tups b xs (I.base.tups b xs e), fun b o xs e => frzs b o xs (I.base.frzs b o xs e), fun b ps e => ?_⟩, ?_, fun x c e => ?_, ?_, fun x c e => ?_, fun p hp => ?_, hok, I.len⟩
  · exact keep b o (neL b o e) hb (neC b o e hx) (I.base.keep b o e n hb hx) (I.base.free b o e n hx)
  · obtain ⟨sl, e1⟩ := I.base.slot b o e n hb hx
    obtain ⟨sl', e2⟩ := slot b _ (neL b o e) hb (neC b o e hx) e1 (I.base.free b o e n hx)
    exact ⟨sl', e2⟩
  · obtain ⟨o', e1⟩ := I.base.there b o e hx
    exact free b o' (neC b o e hx) e1 (I.base.free b o e n hx)
  · obtain ⟨o', e1⟩ := I.base.there b o e hx
    exact there b o' (neC b o e hx) e1
  · obtain ⟨m1, e1⟩ := I.base.tbls b ps e
    obtain ⟨m2, e2⟩ := tbls b _ e1
    exact ⟨m1 ++ m2, by rw [e2, Array.append_assoc]⟩
  · obtain ⟨m, hn, hl⟩ := I.loc
    refine ⟨m, ns m hn, fun i x v e1 e2 e3 => ?_⟩
    obtain ⟨u, r, l⟩ := hl i x v e1 e2 e3
    refine ⟨u, r, ?_⟩
    rcases l with l | ⟨k, c, e, z⟩
    · exact .inl l
    · exact .inr ⟨k, c, e, cellK x c e _ z⟩
  · obtain ⟨v, z⟩ := I.cell x c e
    exact ⟨v, cellK x c e v z⟩
  · obtain ⟨m, ⟨o, _, _, ho, _⟩, _⟩ := I.loc
    exact free _ o (fun z => (hch _ z).2.1 rfl) ho I.free
  · obtain ⟨v, o, ho, hd⟩ := I.cell x c e
    exact free c o (fun z => (hch c z).2.2.1 x c e rfl) ho (I.freeC x c e)
  · obtain ⟨e, n, ne, nf, d⟩ := I.pin p hp
    have nch : p.1 ∉ ch := fun z => (hch p.1 z).2.2.2 p hp rfl
    exact ⟨keep p.1 p.2 ne nf nch e n, free p.1 p.2 nch e n, ne, nf, d⟩
/-- .. where the frame's own object is kept too -/
theorem Inv.un {t' : Nat} (I : Inv X pins σ H s) (u : Un X.fs [] H H' s.heap h') (hok : HOk X.prog X.w H' h') : Inv X pins σ H' { s with heap := h', toks := t' } := by
  obtain ⟨m, ⟨o, es, ep, ho, r⟩, _⟩ := id I.loc
  obtain ⟨sl, hL⟩ := u.any ho I.free (by simp)
  exact I.step (g' := s.gens) (d' := s.drawn) (ch := []) (fun _ z => nomatch z) (fun b o _ hb _ e n => u.keep b o e n hb (by simp)) (fun b o _ hb _ e n => u.slot b o e n hb (by simp)) (fun b o _ e n => u.free b o e n (by simp)) (fun b o _ e => u.there b o e (by simp)) u.tups u.frzs u.tbls (fun m' hm => by
    obtain ⟨o', es', ep', ho', r'⟩ := hm
    rw [ho] at ho'; cases ho'
    exact ⟨_, es', ep', hL, r'⟩) hok I.bare
/-- behind a call (or a comprehension's block): the slots of this frame may have changed too, the records at ch may have turned -/
theorem Inv.call {g' : Array GenState} {t' : Nat} {d' : Drawn} {ch : List Addr} (I : Inv X pins σ H s) (u : Un (frs X.stack) ch H H' s.heap h') (hok : HOk X.prog X.w H' h') (hg : AllBare g')
    (hch : ∀ b ∈ ch, (b ∈ X.ex ∨ X.s₀.heap.objs.size ≤ b) ∧ b ≠ X.env.locals ∧ (∀ x c, X.env.cells.lookup x = some c → c ≠ b) ∧ ∀ p ∈ X.pn ++ pins, p.1 ≠ b) :
    Inv X pins σ H' { s with heap := h', gens := g', drawn := d', toks := t' } := by
  obtain ⟨m, ⟨o, es, ep, ho, r⟩, _⟩ := id I.loc
  obtain ⟨sl, hL⟩ := u.any ho I.free fun z => (hch _ z).2.1 rfl
  exact I.step (ch := ch) hch (fun b o hL hb hc e n => u.keep b o e n (fun z => (List.mem_cons.mp (I.stkSub b z)).elim hL hb) hc) (fun b o _ _ hc e n => u.any e n hc) (fun b o hc e n => u.free b o e n hc) (fun b o hc e => u.there b o e hc) u.tups u.frzs u.tbls (fun m' hm => by
    obtain ⟨o', es', ep', ho', r'⟩ := hm
    rw [ho] at ho'; cases ho'
    exact ⟨_, es', ep', hL, r'⟩) hok hg
/-- an untracked record of ours (an iterator) has turned -/
theorem Inv.turned {t' : Nat} {it : Addr} (I : Inv X pins σ H s) (k : ∀ b o, b ≠ it → s.heap.get? b = some o → h'.get? b = some o) (hn : H it = none) (hL : it ≠ X.env.locals)
    (h1 : it ∈ X.ex ∨ X.s₀.heap.objs.size ≤ it) (h2 : ∀ x c, X.env.cells.lookup x = some c → c ≠ it) (h3 : ∀ p ∈ X.pn ++ pins, p.1 ≠ it) : Inv X pins σ H { s with heap := h', toks := t' } := by
  have nit : ∀ b u, H b = some u → b ≠ it := fun b u e z => by rw [z, hn] at e; cases e
  refine I.step (g' := s.gens) (d' := s.drawn) (ch := [it]) (fun b hb => ?_) (fun b o _ _ hc e _ => k b o (fun z => hc (by simp [z])) e) (fun b o _ _ hc e _ => ⟨o.slots, k b o (fun z => hc (by simp [z])) e⟩) (fun _ _ _ _ n => n)
    (fun b o hc e => ⟨o, k b o (fun z => hc (by simp [z])) e⟩) (fun _ _ e => e) (fun _ _ _ e => e) (fun b ps e => ⟨#[], by rw [e]; simp⟩) (fun m hm => ?_) (fun b u e => ?_) I.bare
  · have e : b = it := by simpa using hb
    subst e
    exact ⟨h1, hL, h2, h3⟩
  · obtain ⟨o, es, ep, ho, r⟩ := hm
    exact ⟨o, es, ep, k _ o (Ne.symm hL) ho, r⟩
  · refine (I.hok b u e).stay (fun c v hc q => k c v ?_ q) (fun _ q => q) fun _ _ q => q
    rcases hc with z | z
    · rw [z]; exact nit b u e
    · exact nit c _ z
theorem Inv.tok (I : Inv X pins σ H s) (t : Nat) : Inv X pins σ H { s with toks := t } := I.un (h' := s.heap) (t' := t) Un.refl I.hok
/-- all objects kept -/
theorem Inv.kept {t' : Nat} (I : Inv X pins σ H s) (k : ∀ b u, s.heap.get? b = some u → h'.get? b = some u) : Inv X pins σ H { s with heap := h', toks := t' } := I.un (Un.kept k) (I.hok.kept k)
/-- a new object laid and tracked -/
theorem Inv.laid {a : Addr} {o : HO} {t' : Nat} (I : Inv X pins σ H s) (k : ∀ b u, s.heap.get? b = some u → h'.get? b = some u) (hp : s.heap.objs.size ≤ a) (new : ObjOk X.prog X.w (upd H a o) h' a o) :
    Inv X pins σ (upd H a o) { s with heap := h', toks := t' } := I.un (Un.laid k hp (I.hok.fresh hp)) (I.hok.laid k hp new)
/-- an object written -/
theorem Inv.write {x e : Addr} {o : HO} {t' : Nat} (I : Inv X pins σ H s) (mu : Mut (H x)) (he : e = x ∨ H e = some (.own x)) (k : ∀ b u, b ≠ e → s.heap.get? b = some u → h'.get? b = some u) (heo : ∃ u, h'.get? e = some u)
    (new : ObjOk X.prog X.w (upd H x o) h' x o) : Inv X pins σ (upd H x o) { s with heap := h', toks := t' } := I.un (Un.write mu he k heo) (I.hok.write mu he k heo new)
/-- forgetting slots, pins -/
theorem Inv.weak {σ' : List (Option V)} (I : Inv X pins σ H s) (hl : σ'.length = σ.length) (w : ∀ (i : Nat) v, σ'[i]? = some (some v) → σ[i]? = some (some v)) : Inv X pins σ' H s :=
  ⟨I.ok, I.os, I.bare, I.base, let ⟨m, hn, hl'⟩ := I.loc; ⟨m, hn, fun i x v e1 e2 e3 => hl' i x v e1 (w i v e2) e3⟩, I.cell, I.free, I.freeC, I.pin, I.hok, hl.trans I.len⟩
theorem Inv.pins_of {pins' : List (Addr × Obj)} (I : Inv X pins σ H s) (h : ∀ p ∈ pins', s.heap.get? p.1 = some p.2 ∧ H p.1 = none ∧ p.1 ≠ X.env.locals ∧ p.1 ∉ X.fs ∧ ∀ v, p.2.data ≠ .cell v) : Inv X pins' σ H s :=
  ⟨I.ok, I.os, I.bare, I.base, I.loc, I.cell, I.free, I.freeC, fun p hp => (List.mem_append.mp hp).elim (fun z => I.pin p (List.mem_append_left _ z)) (h p), I.hok, I.len⟩

theorem nodup_ix {N : List Str} (hN : N.Nodup) {i j : Nat} {x : Str} (a : N[i]? = some x) (b : N[j]? = some x) : i = j := by
  obtain ⟨h1, e1⟩ := List.getElem?_eq_some_iff.mp a
  obtain ⟨h2, e2⟩ := List.getElem?_eq_some_iff.mp b
  exact (List.getElem_inj hN).mp (e1.trans e2.symm)

/-- a name is stored; what changed -/
theorem store_ok2 {M : Model} {A : Around} {E : Value → Shared → Prop} {i : Nat} {x : Str} {v : V} {u : Value} {Q : Unit → Shared → Prop} (I : Inv X pins σ H s) (hN : X.N.Nodup) (hi : X.N[i]? = some x) (hx : Loc X.env.scope x) (r : RelV v u)
    (h : ∀ s', Inv X pins (σ.set i (some v)) H s' → (∃ a, Heap.SameBut a s.heap s'.heap ∧ (a = X.env.locals ∨ X.env.cells.lookup x = some a)) → Q () s') (hf : X.fn x = true ∨ X.env.scope.names.lookup x = some .local := by first | exact .inl rfl | exact .inr rfl | assumption) : wpAny M A (storeName X.env x u) Q E s := by
  obtain ⟨m, hn, hl⟩ := id I.loc
  have hcls : (X.env.scope.kind == .class || (X.env.scope.kind == .module && X.env.locals != X.env.globals)) = false := by rw [I.ok.kind]; rfl
  have hiσ : i < σ.length := by rw [I.len]; exact (List.getElem?_eq_some_iff.mp hi).1
  have cne := I.cne
  have tracked : ∀ {a : Addr} {h' : Heap}, (∃ o, s.heap.get? a = some o ∧ H a = none) → Heap.SameBut a s.heap h' → HOk X.prog X.w H h' := fun {a h'} ha hs b ob e => by
    obtain ⟨_, _, hfree⟩ := ha
    refine (I.hok b ob e).stay (fun c w' hc q => (hs.2 c ?_).trans q) (fun _ q => q) fun _ _ q => q
    rintro rfl
    rcases hc with rfl | hc
    · rw [hfree] at e; cases e
    · rw [hfree] at hc; cases hc
  rcases hx with hk | hk
  · refine wpAny_storeName_local hk hn (fun h' hn' hs => ?_) hcls
    obtain ⟨oL, _, _, hoL, _⟩ := id hn
    refine h _ ⟨I.ok, I.os, I.bare, ⟨fun b o e n hb hx => ?_, fun b o e n hb hx => ?_, I.base.free, fun b o e hx => ?_, I.base.tups, I.base.frzs, I.base.tbls⟩, ⟨_, hn', fun j y v' e1 e2 e3 => ?_⟩, fun y c e => ?_, I.free, I.freeC, fun p hp => ?_, tracked ⟨oL, hoL, I.free⟩ hs, by simpa using I.len⟩ ⟨_, hs, .inl rfl⟩
    · exact (hs.2 b (Nat.ne_of_lt (Nat.lt_of_lt_of_le (Heap.lt_size e) I.ok.above))).trans (I.base.keep b o e n hb hx)
    · obtain ⟨sl, e1⟩ := I.base.slot b o e n hb hx
      exact ⟨sl, (hs.2 b (Nat.ne_of_lt (Nat.lt_of_lt_of_le (Heap.lt_size e) I.ok.above))).trans e1⟩
    · obtain ⟨o', e1⟩ := I.base.there b o e hx
      exact ⟨o', (hs.2 b (Nat.ne_of_lt (Nat.lt_of_lt_of_le (Heap.lt_size e) I.ok.above))).trans e1⟩
    · by_cases hj : j = i
      · subst hj
        rw [hi] at e1; cases e1
        rw [List.getElem?_set_self hiσ] at e2
        cases e2
        exact ⟨u, r, .inl ⟨hk, by simp⟩⟩
      · rw [List.getElem?_set_ne (Ne.symm hj)] at e2
        obtain ⟨u', r', q⟩ := hl j y v' e1 e2 e3
        refine ⟨u', r', ?_⟩
        rcases q with ⟨k, e⟩ | ⟨k, c, e, z⟩
        · refine .inl ⟨k, ?_⟩
          have : y ≠ x := fun e => hj (nodup_ix hN e1 (e ▸ hi))
          simp [this, e]
        · exact .inr ⟨k, c, e, z.sameBut hs (cne y c e)⟩
    · obtain ⟨w', z⟩ := I.cell y c e
      exact ⟨w', z.sameBut hs (cne y c e)⟩
    · obtain ⟨e, n, ne, nf, d⟩ := I.pin p hp
      exact ⟨(hs.2 p.1 ne).trans e, n, ne, nf, d⟩
  · have hfn : X.fn x = true := by
      rcases hf with z | z
      · exact z
      · rw [z] at hk; cases hk
    obtain ⟨c, hc⟩ := I.ok.has x (.inl hk)
    obtain ⟨w', z⟩ := I.cell x c hc
    refine wpAny_storeName_cell I.ok.kind hk hc z (fun h' hc' hs => ?_)
    obtain ⟨oc, hoc, hocd⟩ := id z
    refine h { s with heap := h' } ⟨I.ok, I.os, I.bare, ⟨fun b o e n hb hx => ?_, fun b o e n hb hx => ?_, I.base.free, fun b o e hx => ?_, I.base.tups, I.base.frzs, I.base.tbls⟩, ⟨m, hn.sameBut hs (Ne.symm (cne x c hc)), fun j y v' e1 e2 e3 => ?_⟩, fun y c' e => ?_, I.free, I.freeC, fun p hp => ?_, tracked ⟨oc, hoc, I.freeC x c hc⟩ hs, by simpa using I.len⟩ ⟨c, hs, .inr hc⟩
    · exact (hs.2 b (Nat.ne_of_lt (Nat.lt_of_lt_of_le (Heap.lt_size e) (I.ok.cab x c hfn hc)))).trans (I.base.keep b o e n hb hx)
    · obtain ⟨sl, e1⟩ := I.base.slot b o e n hb hx
      exact ⟨sl, (hs.2 b (Nat.ne_of_lt (Nat.lt_of_lt_of_le (Heap.lt_size e) (I.ok.cab x c hfn hc)))).trans e1⟩
    · obtain ⟨o', e1⟩ := I.base.there b o e hx
      exact ⟨o', (hs.2 b (Nat.ne_of_lt (Nat.lt_of_lt_of_le (Heap.lt_size e) (I.ok.cab x c hfn hc)))).trans e1⟩
    · by_cases hj : j = i
      · subst hj
        rw [hi] at e1; cases e1
        rw [List.getElem?_set_self hiσ] at e2
        cases e2
        exact ⟨u, r, .inr ⟨.inl hk, c, hc, hc'⟩⟩
      · rw [List.getElem?_set_ne (Ne.symm hj)] at e2
        obtain ⟨u', r', q⟩ := hl j y v' e1 e2 e3
        refine ⟨u', r', ?_⟩
        rcases q with q | ⟨k, c', e, z'⟩
        · exact .inl q
        · refine .inr ⟨k, c', e, z'.sameBut hs ?_⟩
          rintro rfl
          exact hj (nodup_ix hN e1 (I.ok.inj _ _ _ e hc ▸ hi))
    · by_cases hcc : c' = c
      · subst hcc; exact ⟨_, hc'⟩
      · obtain ⟨w2, z2⟩ := I.cell y c' e
        exact ⟨w2, z2.sameBut hs hcc⟩
    · obtain ⟨e, n, ne, nf, d⟩ := I.pin p hp
      refine ⟨(hs.2 p.1 ?_).trans e, n, ne, nf, d⟩
      intro q
      rw [q, hoc] at e
      have q' : oc = p.2 := Option.some.inj e
      exact d w' (by rw [← q']; exact hocd)
theorem store_ok {M : Model} {A : Around} {E : Value → Shared → Prop} {i : Nat} {x : Str} {v : V} {u : Value} {Q : Unit → Shared → Prop} (I : Inv X pins σ H s) (hN : X.N.Nodup) (hi : X.N[i]? = some x) (hx : Loc X.env.scope x) (r : RelV v u)
    (h : ∀ s', Inv X pins (σ.set i (some v)) H s' → Q () s') (hf : X.fn x = true ∨ X.env.scope.names.lookup x = some .local := by first | exact .inl rfl | exact .inr rfl | assumption) : wpAny M A (storeName X.env x u) Q E s :=
  store_ok2 I hN hi hx r (fun s' I' _ => h s' I') hf
/-- behind a call or a block, the state as it is -/
theorem Inv.call' {s' : Shared} {ch : List Addr} (I : Inv X pins σ H s) (ho : s'.os = s.os) (u : Un (frs X.stack) ch H H' s.heap s'.heap) (hok : HOk X.prog X.w H' s'.heap) (hg : AllBare s'.gens)
    (hch : ∀ b ∈ ch, (b ∈ X.ex ∨ X.s₀.heap.objs.size ≤ b) ∧ b ≠ X.env.locals ∧ (∀ x c, X.env.cells.lookup x = some c → c ≠ b) ∧ ∀ p ∈ X.pn ++ pins, p.1 ≠ b) : Inv X pins σ H' s' := by
  obtain ⟨h', g', d', t', o'⟩ := s'
  have e : o' = s.os := ho
  subst e
  exact I.call (g' := g') (t' := t') (d' := d') u hok hg hch
end

/-! ### the judgements -/
/-- an exception: its class, its own dict's address (where it has one), the abstract heap behind it -/
abbrev XK := Value → Option Addr → Hp → Prop
abbrev St := List (Option V)
abbrev VK := V → Hp → Prop
/-- an expression's reading; a test's; an argument list's -/
abbrev TE := St → Hp → VK → Prop
abbrev TT := St → Hp → (Bool → Hp → Prop) → Prop
abbrev TA := St → Hp → (List V → Hp → Prop) → Prop
/-- what is wanted behind a statement -/
structure Ends where
  nx : St → Hp → Prop
  rt : VK
  bk : St → Hp → Prop := fun _ _ => False
  ct : St → Hp → Prop := fun _ _ => False
abbrev TS := Ends → St → Hp → Prop

def EP (X : Cx) (pins : List (Addr × Obj)) (σ : St) (Q : VK) (u : Value) (s' : Shared) : Prop := ∃ v H', Inv X pins σ H' s' ∧ RelV v u ∧ Q v H'
def TP (X : Cx) (pins : List (Addr × Obj)) (σ : St) (Q : Bool → Hp → Prop) (b : Bool) (s' : Shared) : Prop := ∃ H', Inv X pins σ H' s' ∧ Q b H'
def AP (X : Cx) (pins : List (Addr × Obj)) (σ : St) (Q : List V → Hp → Prop) (us : List Value) (s' : Shared) : Prop := ∃ vs H', Inv X pins σ H' s' ∧ Vals vs us ∧ Q vs H'
def SP (X : Cx) (pins : List (Addr × Obj)) (D : Ends) (f : Flow) (s' : Shared) : Prop :=
  match f with
  | .next => ∃ σ' H', Inv X pins σ' H' s' ∧ D.nx σ' H'
  | .brk => ∃ σ' H', Inv X pins σ' H' s' ∧ D.bk σ' H'
  | .cont => ∃ σ' H', Inv X pins σ' H' s' ∧ D.ct σ' H'
  | .ret u => ∃ v σ' H', Inv X pins σ' H' s' ∧ RelV v u ∧ D.rt v H'

def PE (X : Cx) (e : Expr) (t : TE) : Prop :=
  ∀ (pins : List (Addr × Obj)) (s : Shared) (σ : St) (H : Hp) (Q : VK), Inv X pins σ H s → t σ H Q → wpAny (model X.prog X.w) X.A (eval e X.env) (EP X pins σ Q) X.xe s
def PT (X : Cx) (e : Expr) (t : TT) : Prop :=
  ∀ (pins : List (Addr × Obj)) (s : Shared) (σ : St) (H : Hp) (Q : Bool → Hp → Prop), Inv X pins σ H s → t σ H Q → wpAny (model X.prog X.w) X.A (isTrue e X.env (eval e X.env)) (TP X pins σ Q) X.xe s
/-- a test whatever its 'whole' is (and, or) -/
def PW (X : Cx) (e : Expr) (t : TT) : Prop :=
  ∀ (whole : Sem Value) (pins : List (Addr × Obj)) (s : Shared) (σ : St) (H : Hp) (Q : Bool → Hp → Prop), Inv X pins σ H s → t σ H Q → wpAny (model X.prog X.w) X.A (isTrue e X.env whole) (TP X pins σ Q) X.xe s
theorem PW.pt {X : Cx} {e : Expr} {t : TT} (h : PW X e t) : PT X e t := h _
/-- an argument list (no star), from the left -/
def PA (X : Cx) (es : List Expr) (t : TA) : Prop :=
  ∀ (pos : Pos) (pins : List (Addr × Obj)) (s : Shared) (σ : St) (H : Hp) (Q : List V → Hp → Prop), Inv X pins σ H s → t σ H Q → wpAny (model X.prog X.w) X.A (spliced (backTo pos (starEach es X.env))) (AP X pins σ Q) X.xe s
def PS (X : Cx) (st : Stmt) (t : TS) : Prop :=
  ∀ (pins : List (Addr × Obj)) (s : Shared) (σ : St) (H : Hp) (D : Ends), Inv X pins σ H s → t D σ H → wpAny (model X.prog X.w) X.A (exec st X.env) (SP X pins D) X.xe s
def PSs (X : Cx) (st : List Stmt) (t : TS) : Prop :=
  ∀ (pins : List (Addr × Obj)) (s : Shared) (σ : St) (H : Hp) (D : Ends), Inv X pins σ H s → t D σ H → wpAny (model X.prog X.w) X.A (execs st X.env) (SP X pins D) X.xe s
/-- weaken the end -/
theorem thn {α : Type} {t : Sem α} {Q Q' : α → Shared → Prop} {M : Model} {A : Around} {E : Value → Shared → Prop} {s : Shared} (h : wpAny M A t Q E s) (hQ : ∀ a s, Q a s → Q' a s) : wpAny M A t Q' E s := wpAny_mono h hQ fun _ _ x => x
end L2

namespace L2
open PySem PySem.Spec PyProof.Rows
section
variable {X : Cx}


/-! ### names and constants -/
def tVar (i : Nat) : TE := fun σ H Q => ∃ v, σ[i]? = some (some v) ∧ Q v H
def tC (v : V) : TE := fun _ H Q => Q v H
theorem pe_var {i : Nat} {x : Str} {pos : Pos} (hN : X.N[i]? = some x) (hv : Vis X.env.scope x) (hd : (x == ("__debug__" : Str)) = false := by decide) (hcd : (x == ("__classdict__" : Str)) = false := by decide) : PE X (.Name x pos) (tVar i) := by
  intro pins s σ H Q I h
  obtain ⟨v, e, h⟩ := h
  obtain ⟨m, hn, hl⟩ := I.loc
  obtain ⟨u, r, l⟩ := hl i x v hN e hv
  have fin : EP X pins σ Q u s := ⟨v, H, I, r, h⟩
  rcases l with ⟨hk, hm⟩ | ⟨hk, c, hc, hcell⟩
  · exact wpAny_Name (wpAny_loadName_local I.ok.kind hk hn hm fin) hd
  · rcases hk with hk | hk
    · exact wpAny_Name (wpAny_loadName_cell I.ok.kind hk hc hcell fin) hd
    · exact wpAny_Name (wpAny_loadName_free I.ok.kind hk hc hcell fin hcd) hd
theorem pe_int {i j pos} : PE X (.Constant (.int i) j pos) (tC (.int i)) := fun _ _ _ H _ I h => wpAny_Constant_int ⟨.int i, H, I.tok _, ⟨_, rfl⟩, h⟩
theorem pe_bl {b j pos} : PE X (.Constant (.bool b) j pos) (tC (.bl b)) := fun _ _ _ H _ I h => Constant_bool ⟨.bl b, H, I, rfl, h⟩
theorem pe_str {x j pos} : PE X (.Constant (.str x) j pos) (tC (.str x)) := fun _ _ _ H _ I h => Calls.Constant_str ⟨.str x, H, I.tok _, ⟨_, rfl⟩, h⟩

/-- a global name of the def -/
def Gl (X : Cx) (x : Str) : Prop := X.env.kindOf x = some .globalImplicit
theorem ld_glob {E : Value → Shared → Prop} {pins : List (Addr × Obj)} {s : Shared} {σ : St} {H : Hp} {x : Str} {u : Value} {pos : Pos} {Q : Value → Shared → Prop} (I : Inv X pins σ H s) (hg : Gl X x) (hm : X.mg x = some u) (h : Q u s)
    (hd : (x == ("__debug__" : Str)) = false := by decide) : wpAny (model X.prog X.w) X.A (eval (.Name x pos) X.env) Q E s :=
  Calls.Name_function_global I.ok.kind hg (Calls.loadGlobal_global (by rw [I.ok.glob]; exact I.mod.glob.keeps I.bk) hm h) hd
theorem ld_blt {E : Value → Shared → Prop} {pins : List (Addr × Obj)} {s : Shared} {σ : St} {H : Hp} {x : Str} {u : Value} {pos : Pos} {Q : Value → Shared → Prop} (I : Inv X pins σ H s) (hg : Gl X x) (hm : X.mg x = none) (hv : bootBuiltins x = some u) (h : Q u s)
    (hn : x ≠ "__name__" := by decide) (hd : (x == ("__debug__" : Str)) = false := by decide) : wpAny (model X.prog X.w) X.A (eval (.Name x pos) X.env) Q E s := by
  obtain ⟨mb, h1, h2⟩ := I.mod.blt
  exact Calls.Name_function_global I.ok.kind hg (Calls.loadGlobal_builtin (by rw [I.ok.glob]; exact I.mod.glob.keeps I.bk) hm (by rw [I.ok.blt]; exact h1.keeps I.bk) ((h2 x hn).trans hv) h) hd
theorem pe_bltn {x : Str} {v : V} {u : Value} {pos : Pos} (hg : Gl X x) (hm : X.mg x = none) (hv : bootBuiltins x = some u) (r : RelV v u) (hn : x ≠ "__name__" := by decide) (hd : (x == ("__debug__" : Str)) = false := by decide) : PE X (.Name x pos) (tC v) :=
  fun _ _ _ H _ I h => ld_blt I hg hm hv ⟨v, H, I, r, h⟩ hn hd

/-! ### arithmetic -/
variable {a b : Expr} {ta tb : TE} {pos : Pos}

/-! ### comparisons -/
/-- a comparison as a value, as a test -/
def tB (t : TE) : TT := fun σ H Q => t σ H fun x H1 => ∃ c, x = .bl c ∧ Q c H1
/-- an expression whose value is a bool, as a test -/
theorem pt_val {e : Expr} {t : TE} (h : PE X e t) (he : ∀ whole, isTrue e X.env whole = (do let v ← whole; standAt e.pos; holding [v] (truthy v)) := by intro _; rfl) : PT X e (tB t) := by
  intro pins s σ H Q I hw
  refine isTrue_plain (thn (h pins s σ H _ I hw) fun v s1 ⟨x, H1, I1, r1, q1⟩ => ?_) (he _)
  obtain ⟨d, rfl, q⟩ := q1
  cases r1
  exact wpAny_truthy_bool ⟨H1, I1, q⟩

/-! ### and, or, not -/
variable {tA tB' : TT} {rest : List Expr}
def tAnd (t u : TT) : TT := fun σ H Q => t σ H fun c H1 => if c = true then u σ H1 Q else Q false H1
def tOr (t u : TT) : TT := fun σ H Q => t σ H fun c H1 => if c = true then Q true H1 else u σ H1 Q
def tNot (t : TT) : TT := fun σ H Q => t σ H fun c H1 => Q (!c) H1
theorem pw_and1 (ha : PT X a tA) : PW X (.BoolOp .And [a] pos) tA := by
  intro wh pins s σ H Q I h
  refine isTrue_and (thn (ha pins s σ H Q I h) fun c s1 e => ?_)
  cases c with
  | true => exact isTrue_and_nil e
  | false => exact e
theorem pw_or1 (ha : PT X a tA) : PW X (.BoolOp .Or [a] pos) tA := by
  intro wh pins s σ H Q I h
  refine isTrue_or (thn (ha pins s σ H Q I h) fun c s1 e => ?_)
  cases c with
  | false => exact isTrue_or_nil e
  | true => exact e
theorem pw_and (ha : PT X a tA) (hb : PW X (.BoolOp .And (b :: rest) pos) tB') : PW X (.BoolOp .And (a :: b :: rest) pos) (tAnd tA tB') := by
  intro wh pins s σ H Q I h
  refine isTrue_and (thn (ha pins s σ H _ I h) fun c s1 ⟨H1, I1, q1⟩ => ?_)
  cases c with
  | true => exact hb wh pins s1 σ H1 Q I1 q1
  | false => exact ⟨H1, I1, q1⟩
theorem pw_or (ha : PT X a tA) (hb : PW X (.BoolOp .Or (b :: rest) pos) tB') : PW X (.BoolOp .Or (a :: b :: rest) pos) (tOr tA tB') := by
  intro wh pins s σ H Q I h
  refine isTrue_or (thn (ha pins s σ H _ I h) fun c s1 ⟨H1, I1, q1⟩ => ?_)
  cases c with
  | true => exact ⟨H1, I1, q1⟩
  | false => exact hb wh pins s1 σ H1 Q I1 q1
theorem pt_not (ha : PT X a tA) : PT X (.UnaryOp .Not a pos) (tNot tA) := by
  intro pins s σ H Q I h
  exact isTrue_not (ha pins s σ H (fun c H1 => Q (!c) H1) I h)
/-- .. as values (bools) -/
def tAndV (ta tb : TE) : TE := fun σ H Q => ta σ H fun x H1 => ∃ c, x = .bl c ∧ if c = true then tb σ H1 Q else Q (.bl false) H1
theorem pe_one {op} {t : TE} (h : PE X a t) : PE X (.BoolOp op [a] pos) t := fun pins s σ H Q I hw => BoolOp_one (h pins s σ H Q I hw)
theorem pe_and (ha : PE X a ta) (hb : PE X (.BoolOp .And (b :: rest) pos) tb) : PE X (.BoolOp .And (a :: b :: rest) pos) (tAndV ta tb) := by
  intro pins s σ H Q I h
  refine BoolOp_and (thn (ha pins s σ H _ I h) fun v s1 ⟨x, H1, I1, r1, q1⟩ => ?_)
  obtain ⟨c, rfl, q1⟩ := q1
  cases r1
  refine wpAny_truthy_bool ?_
  cases c with
  | true => exact hb pins s1 σ H1 Q I1 q1
  | false => exact ⟨.bl false, H1, I1, rfl, q1⟩
end
end L2

namespace L2
open PySem PySem.Spec PyProof.Rows

/-! ### a list, a tuple that is read: tracked, frozen, or an object of the module -/
def SqL (K : PySem.W.Frag) (H : Hp) (a : Addr) (xs : List V) : Prop :=
  Rd H a (.lst xs) ∨
    ∃ (o : Obj) (its : Array Value) (n : Nat), K.lookup a = some o ∧ o.cls = .type "list" ∧ o.dict = none ∧ o.data = .seq its n ∧ its.size ≤ sizeLine ∧ Vals xs its.toList
def SqT (K : PySem.W.Frag) (H : Hp) (a : Addr) (xs : List V) : Prop :=
  Rd H a (.tup xs) ∨
    ∃ (o : Obj) (its : Array Value) (n : Nat), K.lookup a = some o ∧ o.cls = .type "tuple" ∧ o.data = .seq its n ∧ its.size ≤ sizeLine ∧ Vals xs its.toList
def absV : Value → Option V
  | .none => some .non
  | .bool b => some (.bl b)
  | .int i _ => some (.int i)
  | .str x _ => some (.str x)
  | .bytes b _ => some (.byt b)
  | .float b _ => some (.flt b)
  | .ref a => some (.ref a)
  | .type n => some (.ty n)
  | _ => none
theorem RelV.abs {x : V} {u : Value} (r : RelV x u) : absV u = some x := by
  cases x with
  | non => cases r; rfl
  | bl _ => cases r; rfl
  | int _ => obtain ⟨t, rfl⟩ := r; rfl
  | str _ => obtain ⟨t, rfl⟩ := r; rfl
  | byt _ => obtain ⟨t, rfl⟩ := r; rfl
  | flt _ => obtain ⟨t, rfl⟩ := r; rfl
  | ref _ => cases r; rfl
  | ty _ => cases r; rfl
theorem RelV.inj {x y : V} {u : Value} (r : RelV x u) (q : RelV y u) : x = y := Option.some.inj (r.abs.symm.trans q.abs)
theorem Vals.inj : ∀ {xs ys : List V} {us : List Value}, Vals xs us → Vals ys us → xs = ys
  | _, _, _, .nil, .nil => rfl
  | _, _, _, .cons r t, .cons r' t' => by rw [r.inj r', Vals.inj t t']
section
variable {X : Cx} {pins : List (Addr × Obj)} {σ : St} {H : Hp} {s : Shared} {a : Addr} {xs ys : List V}
theorem SqL.of {K : PySem.W.Frag} (h : H a = some (.lst xs)) : SqL K H a xs := .inl (.inl h)
theorem SqT.of {K : PySem.W.Frag} (h : H a = some (.tup xs)) : SqT K H a xs := .inl (.inl h)
theorem Inv.list (I : Inv X pins σ H s) (h : SqL X.K H a xs) : ∃ its : List Value, Vals xs its ∧ PlainL s.heap a its.toArray ∧ xs.length ≤ sizeLine := by
  rcases h with h | ⟨o, its, n, hk, hc, hd, hs, hz, r⟩
  · obtain ⟨z, its, n, r, e⟩ := h.ok I.hok
    exact ⟨its, r, ⟨_, n, e, rfl, rfl, rfl⟩, z⟩
  · refine ⟨its.toList, r, ⟨o, n, I.kIn a o hk, hc, hd, by simpa using hs⟩, ?_⟩
    have e := r.length
    simp only [Array.length_toList] at e
    omega
theorem Inv.tuple (I : Inv X pins σ H s) (h : SqT X.K H a xs) : ∃ its : List Value, Vals xs its ∧ IsTup s.heap a its.toArray ∧ xs.length ≤ sizeLine := by
  rcases h with h | ⟨o, its, n, hk, hc, hs, hz, r⟩
  · obtain ⟨z, its, r, p⟩ := h.ok I.hok
    exact ⟨its, r, p, z⟩
  · refine ⟨its.toList, r, ⟨o, I.kIn a o hk, hc, n, by simpa using hs⟩, ?_⟩
    have e := r.length
    simp only [Array.length_toList] at e
    omega
theorem Inv.list_inj (I : Inv X pins σ H s) (h : SqL X.K H a xs) (h' : SqL X.K H a ys) : xs = ys := by
  obtain ⟨its, r, ⟨o, n, e, _, _, d⟩, _⟩ := I.list h
  obtain ⟨its', r', ⟨o', n', e', _, _, d'⟩, _⟩ := I.list h'
  rw [e] at e'; cases e'
  rw [d] at d'
  injection d' with d1 _
  have : its = its' := by simpa using congrArg Array.toList d1
  subst this
  exact r.inj r'
end

/-! ### another wish about exceptions -/
abbrev Cx.wish (X : Cx) (E : Value → Shared → Prop) : Cx := { X with xe := E }
/-- no exception leaves -/
abbrev Cx.nox (X : Cx) : Cx := X.wish fun _ _ => False
theorem Cx.Ok.wish {X : Cx} (ok : X.Ok) (E : Value → Shared → Prop) : (X.wish E).Ok :=
  ⟨ok.mod, ok.kind, ok.glob, ok.blt, ok.above, ok.inj, ok.has, ok.cab, ok.hd, ok.frames, ok.stk, ok.exf, ok.bs, ok.bsz, ok.noex, ok.exfs, ok.funs, ok.frf⟩
theorem Cx.Ok.unwish {X : Cx} {E : Value → Shared → Prop} (ok : (X.wish E).Ok) : X.Ok :=
  ⟨ok.mod, ok.kind, ok.glob, ok.blt, ok.above, ok.inj, ok.has, ok.cab, ok.hd, ok.frames, ok.stk, ok.exf, ok.bs, ok.bsz, ok.noex, ok.exfs, ok.funs, ok.frf⟩
section
variable {X : Cx} {pins : List (Addr × Obj)} {σ : St} {H : Hp} {s : Shared} {E : Value → Shared → Prop}
theorem Inv.wish (I : Inv X pins σ H s) (E : Value → Shared → Prop) : Inv (X.wish E) pins σ H s := ⟨I.ok.wish E, I.os, I.bare, I.base, I.loc, I.cell, I.free, I.freeC, I.pin, I.hok, I.len⟩
theorem Inv.unwish (I : Inv (X.wish E) pins σ H s) : Inv X pins σ H s := ⟨I.ok.unwish, I.os, I.bare, I.base, I.loc, I.cell, I.free, I.freeC, I.pin, I.hok, I.len⟩
theorem SP.unwish {D : Ends} {f : Flow} {s' : Shared} (h : SP (X.wish E) pins D f s') : SP X pins D f s' := by
  cases f with
  | next => obtain ⟨σ', H', I, q⟩ := h; exact ⟨σ', H', I.unwish, q⟩
  | brk => obtain ⟨σ', H', I, q⟩ := h; exact ⟨σ', H', I.unwish, q⟩
  | cont => obtain ⟨σ', H', I, q⟩ := h; exact ⟨σ', H', I.unwish, q⟩
  | ret u => obtain ⟨v, σ', H', I, r, q⟩ := h; exact ⟨v, σ', H', I.unwish, r, q⟩
theorem PE.nox {e : Expr} {t : TE} (h : PE X.nox e t) : PE X e t := fun pins s σ H Q I hw =>
  wpAny_mono (h pins s σ H Q (I.wish _) hw) (fun _ _ ⟨v, H', I', r, q⟩ => ⟨v, H', I'.unwish, r, q⟩) fun _ _ z => False.elim z
theorem PT.nox {e : Expr} {t : TT} (h : PT X.nox e t) : PT X e t := fun pins s σ H Q I hw =>
  wpAny_mono (h pins s σ H Q (I.wish _) hw) (fun _ _ ⟨H', I', q⟩ => ⟨H', I'.unwish, q⟩) fun _ _ z => False.elim z
theorem PSs.nox {st : List Stmt} {t : TS} (h : PSs X.nox st t) : PSs X st t := fun pins s σ H D I hw =>
  wpAny_mono (h pins s σ H D (I.wish _) hw) (fun _ _ q => q.unwish) fun _ _ z => False.elim z
end

/-! ### blocks and small statements -/
section
variable {X : Cx} {st : Stmt} {rest : List Stmt} {t u : TS} {e : Expr} {te : TE} {pos : Pos}
def tNext : TS := fun D σ H => D.nx σ H
def tSeq (t u : TS) : TS := fun D σ H => t { D with nx := u D } σ H
theorem pss_nil : PSs X [] tNext := fun _ _ σ H _ I h => wpAny_execs_nil ⟨σ, H, I, h⟩
theorem pss_cons (h1 : PS X st t) (h2 : PSs X rest u) : PSs X (st :: rest) (tSeq t u) := by
  intro pins s σ H D I h
  refine wpAny_execs_cons (thn (h1 pins s σ H { D with nx := u D } I h) fun f s1 q => ?_)
  cases f with
  | next =>
    obtain ⟨σ', H', I', q⟩ := q
    exact h2 pins s1 σ' H' D I' q
  | ret v => exact q
  | brk => exact q
  | cont => exact q
theorem pss_one (h1 : PS X st t) : PSs X [st] t := by
  intro pins s σ H D I h
  refine wpAny_execs_cons (thn (h1 pins s σ H D I h) fun f s1 q => ?_)
  cases f with
  | next => exact wpAny_execs_nil q
  | ret v => exact q
  | brk => exact q
  | cont => exact q
/-- in a def's body nothing is shown -/
theorem Inv.quiet {pins : List (Addr × Obj)} {σ : St} {H : Hp} {s : Shared} (I : Inv X pins σ H s) : interactive X.env = false := by simp [interactive, I.ok.kind]
/-- an expression whose value is dropped -/
def tDrop (te : TE) : TS := fun D σ H => te σ H fun _ H1 => D.nx σ H1
theorem ps_expr (he : PE X e te) (hs : swapsWith e none pos.line X.env = pure false := by rfl) : PS X (.Expr e pos) (tDrop te) := by
  intro pins s σ H D I h
  exact wpAny_Expr_any (thn (he pins s σ H _ I h) fun v s1 ⟨x, H1, I1, r1, q1⟩ => ⟨σ, H1, I1, q1⟩) I.quiet hs
def tRet (te : TE) : TS := fun D σ H => te σ H D.rt
theorem ps_ret (he : PE X e te) : PS X (.Return (some e) pos) (tRet te) := by
  intro pins s σ H D I h
  exact wpAny_Return_some (thn (he pins s σ H _ I h) fun v s1 ⟨x, H1, I1, r1, q1⟩ => ⟨x, σ, H1, I1, r1, q1⟩)
def tIfS (c : TT) (t u : TS) : TS := fun D σ H => c σ H fun b H1 => if b = true then t D σ H1 else u D σ H1
theorem ps_if {c : Expr} {a b : List Stmt} {tc : TT} (hc : PT X c tc) (ha : PSs X a t) (hb : PSs X b u) : PS X (.If c a b pos) (tIfS tc t u) := by
  intro pins s σ H D I h
  refine wpAny_If (thn (hc pins s σ H _ I h) fun d s1 ⟨H1, I1, q1⟩ => ?_)
  cases d with
  | true => exact ha pins s1 σ H1 D I1 q1
  | false => exact hb pins s1 σ H1 D I1 q1
/-- code that the proof never comes to -/
def tNever : TS := fun _ _ _ => False
theorem ps_never : PS X st tNever := fun _ _ _ _ _ _ h => h.elim
end

/-! ### targets -/
abbrev TG := V → St → Hp → (St → Hp → Prop) → Prop
def PG (X : Cx) (target : Expr) (t : TG) : Prop :=
  ∀ (pins : List (Addr × Obj)) (s : Shared) (σ : St) (H : Hp) (v : V) (u : Value) (Q : St → Hp → Prop), Inv X pins σ H s → RelV v u → t v σ H Q →
    wpAny (model X.prog X.w) X.A (assign target X.env u) (fun _ s' => ∃ σ' H', Inv X pins σ' H' s' ∧ Q σ' H') X.xe s
/-- o[i] = v, by values -/
abbrev TSet := V → V → V → Hp → (Hp → Prop) → Prop
def PSet (X : Cx) (t : TSet) : Prop :=
  ∀ (pins : List (Addr × Obj)) (s : Shared) (σ : St) (H : Hp) (o i v : V) (ov iv u : Value) (Q : Hp → Prop), Inv X pins σ H s → RelV o ov → RelV i iv → RelV v u → t o i v H Q →
    wpAny (model X.prog X.w) X.A (setItem ov iv u) (fun _ s' => ∃ H', Inv X pins σ H' s' ∧ Q H') X.xe s
section
variable {X : Cx} {pos : Pos}
def gName (i : Nat) : TG := fun v σ H Q => Q (σ.set i (some v)) H
theorem pg_name {i : Nat} {x : Str} (hN : X.N.Nodup) (hi : X.N[i]? = some x) (hx : Loc X.env.scope x) (hf : X.fn x = true ∨ X.env.scope.names.lookup x = some .local := by first | exact .inl rfl | exact .inr rfl | assumption) : PG X (.Name x pos) (gName i) := by
  intro pins s σ H v u Q I r h
  exact wpAny_assign_Name (store_ok I hN hi hx r (fun s' I' => ⟨_, H, I', h⟩) hf)
/-- o[i] = .. -/
def gSub (to ti : TE) (t : TSet) : TG := fun v σ H Q => to σ H fun o H1 => ti σ H1 fun i H2 => t o i v H2 fun H3 => Q σ H3
theorem pg_sub {o i : Expr} {to ti : TE} {t : TSet} (ho : PE X o to) (hi : PE X i ti) (hs : PSet X t)
    (ha : ∀ v, assign (.Subscript o i pos) X.env v = (do
      let ov ← holding [v] (eval o X.env)
      let iv ← holding [v, ov] (eval i X.env)
      standAt pos
      holding [v, ov, iv] (setItem ov iv v)
      release [v, ov, iv] []) := by intro _; rfl) : PG X (.Subscript o i pos) (gSub to ti t) := by
  intro pins s σ H v u Q I r h
  rw [ha]
  refine wpAny_bind (wpAny_holding (thn (ho pins s σ H _ I h) fun ov s1 ⟨x, H1, I1, r1, q1⟩ => ?_))
  refine wpAny_bind (wpAny_holding (thn (hi pins s1 σ H1 _ I1 q1) fun iv s2 ⟨y, H2, I2, r2, q2⟩ => ?_))
  refine wpAny_bind (wpAny_standAt (wpAny_bind (wpAny_holding (thn (hs pins s2 σ H2 x y v ov iv u _ I2 r1 r2 r q2) fun _ s3 ⟨H3, I3, q3⟩ => ?_))))
  exact wpAny_release ⟨σ, H3, I3, q3⟩
/-- target = value -/
def tAsg (te : TE) (g : TG) : TS := fun D σ H => te σ H fun x H1 => g x σ H1 D.nx
theorem ps_asg {tg e : Expr} {te : TE} {g : TG} (he : PE X e te) (hg : PG X tg g) (hs : swapsWithSole [tg] e pos.line X.env = pure false := by rfl) (hw : swappedStores [tg] e X.env = pure none := by rfl)
    (h1 : (assignEach [tg] X.env).map (·.2) = [assign tg X.env] := by rfl) : PS X (.Assign [tg] e pos) (tAsg te g) := by
  intro pins s σ H D I h
  refine wpAny_Assign_stores (thn (he pins s σ H _ I h) fun v s1 ⟨x, H1, I1, r1, q1⟩ => ?_) hs hw
  rw [h1]
  exact thn (hg pins s1 σ H1 x v _ I1 r1 q1) fun _ s2 q => q
/-- name = value -/
theorem ps_set {i : Nat} {x : Str} {e : Expr} {te : TE} {pos' : Pos} (hN : X.N.Nodup) (hi : X.N[i]? = some x) (hx : Loc X.env.scope x) (he : PE X e te) (hs : swapsWith e (some (.Name x pos')) pos.line X.env = pure false := by rfl) (hf : X.fn x = true ∨ X.env.scope.names.lookup x = some .local := by first | exact .inl rfl | exact .inr rfl | assumption) :
    PS X (.Assign [.Name x pos'] e pos) (tAsg te (gName i)) := by
  intro pins s σ H D I h
  refine wpAny_Assign_Name (thn (he pins s σ H _ I h) fun v s1 ⟨y, H1, I1, r1, q1⟩ => ?_) hs
  exact store_ok I1 hN hi hx r1 (fun s2 I2 => ⟨_, H1, I2, q1⟩) hf
/-- a, b = x, y with plain local names: stored from the right; the pair itself is not tracked (the opening rows as in PyProof/Rows/TupAssign.lean:23) -/
def tPar (i j : Nat) (ta : TA) : TS := fun D σ H => ta σ H fun vs H1 => ∃ v w, vs = [v, w] ∧ D.nx ((σ.set i (some v)).set j (some w)) H1
theorem ps_par {i j : Nat} {x y : Str} {a b : Expr} {ta : TA} {px py pt : Pos} {kt k2 pt2} (hc : X.calm = true) (hN : X.N.Nodup) (hi : X.N[i]? = some x) (hj : X.N[j]? = some y) (hij : i ≠ j)
    (hx : X.env.scope.names.lookup x = some .local) (hy : X.env.scope.names.lookup y = some .local) (ha : PA X [a, b] ta)
    (hw : swappedStores [.Tuple [.Name x px, .Name y py] kt pt] (.Tuple [a, b] k2 pt2) X.env = pure (some [x, y]))
    (hs : swapsWithSole [.Tuple [.Name x px, .Name y py] kt pt] (.Tuple [a, b] k2 pt2) pos.line X.env = pure false := by rfl) :
    PS X (.Assign [.Tuple [.Name x px, .Name y py] kt pt] (.Tuple [a, b] k2 pt2) pos) (tPar i j ta) := by
  intro pins s σ H D I h
  rw [exec_Assign_arm]
  refine wpAny_bind (wpAny_standAt ?_)
  rw [hs]
  refine wpAny_bind (wpAny_pure ?_)
  rw [if_neg (by decide)]
  refine wpAny_bind (Tuple_ (thn (ha _ pins s σ H _ I h) fun us s1 ⟨vs, H1, I1, r1, q1⟩ => ?_))
  obtain ⟨v, w, e1, q1⟩ := q1
  subst e1
  obtain ⟨u1, u2, rfl, rv, rw'⟩ : ∃ u1 u2, us = [u1, u2] ∧ RelV v u1 ∧ RelV w u2 := by
    cases r1 with
    | cons p q =>
      cases q with
      | cons p' q' =>
        cases q'
        exact ⟨_, _, rfl, p, p'⟩
  refine wpAny_newObj_type ?_ (by show 2 ≤ sizeLine; decide)
  have I2 : Inv X pins σ H1 { s1 with heap := s1.heap.push { cls := .type "tuple", data := .seq [u1, u2].toArray } } := I1.kept (t' := s1.toks) fun b o e => Heap.get?_push_of_some _ e
  rw [hw]
  refine wpAny_bind (wpAny_pure ?_)
  show wpAny (model X.prog X.w) X.A (do rule "assign.swapped-stores"; let items ← unpackItems (.ref s1.heap.objs.size) 2 none; assignInOrder [fun v => bindName X.env y v, fun v => bindName X.env x v] items.reverse; pure Flow.next) _ _ _
  refine wpAny_bind (wpAny_rule (wpAny_bind (unpackItems_tuple (items := #[u1, u2]) (I.ok.hd hc) (IsTup.new s1.heap _) fun h' hx' => ?_)))
  have I3 := I2.kept (h' := h') (t' := s1.toks) fun b o e => hx' b o (Nat.ne_of_lt (Heap.lt_size e)) e
  show wpAny _ _ (assignInOrder [fun v => bindName X.env y v, fun v => bindName X.env x v] [u2, u1] >>= fun _ => pure Flow.next) _ _ _
  refine wpAny_bind (assignInOrder_cons (wpAny_bindName (store_ok I3 hN hj (.inl hy) rw' (fun s2 I4 => ?_) (.inr hy))))
  refine assignInOrder_cons (wpAny_bindName (store_ok I4 hN hi (.inl hx) rv (fun s3 I5 => assignInOrder_nil (wpAny_pure ?_)) (.inr hx)))
  rw [List.set_comm _ _ (Ne.symm hij)] at I5
  exact ⟨_, H1, I5, q1⟩
end

/-! ### while -/
section
variable {X : Cx} {pos : Pos}
/-- the invariant W with its measure -/
def tWhile (c : TT) (tb : TS) : TS := fun D σ H => ∃ W : Nat → St → Hp → Prop, (∃ m, W m σ H) ∧ ∀ m σ H, W m σ H →
  c σ H fun b H1 => if b = true then ∃ N : St → Hp → Prop, (∀ σ' H', N σ' H' → ∃ m', m' < m ∧ W m' σ' H') ∧ tb { D with nx := N, ct := N, bk := D.nx } σ H1 else D.nx σ H1
theorem ps_while {c : Expr} {body : List Stmt} {tc : TT} {tb : TS} (hp : PassesOwn (model X.prog X.w) X.A X.env X.xe) (hc : PT X c tc) (hb : PSs X body tb) : PS X (.While c body [] pos) (tWhile tc tb) := by
  intro pins s σ H D I h
  obtain ⟨W, ⟨m0, w0⟩, turn⟩ := h
  refine wpAny_While (codeAny_whileLoop (fun n s' => ∃ σ' H', Inv X pins σ' H' s' ∧ W n σ' H') ?_ m0 ⟨σ, H, I, w0⟩)
  rintro n s1 ⟨σ1, H1, I1, w1⟩
  refine wpAny_passesOwn hp (thn (hc pins s1 σ1 H1 _ I1 (turn n σ1 H1 w1)) fun b s2 ⟨H2, I2, q2⟩ => ?_)
  cases b with
  | true =>
    obtain ⟨N, hN, q2⟩ := q2
    rw [if_pos rfl]
    refine wpAny_passesOwn hp (thn (hb pins s2 σ1 H2 _ I2 q2) fun f s3 q3 => ?_)
    cases f with
    | next =>
      obtain ⟨σ3, H3, I3, n3⟩ := q3
      obtain ⟨m', hm, w3⟩ := hN σ3 H3 n3
      exact ⟨m', hm, σ3, H3, I3, w3⟩
    | cont =>
      obtain ⟨σ3, H3, I3, n3⟩ := q3
      obtain ⟨m', hm, w3⟩ := hN σ3 H3 n3
      exact ⟨m', hm, σ3, H3, I3, w3⟩
    | brk => exact q3
    | ret v => exact q3
  | false =>
    rw [if_neg Bool.false_ne_true]
    exact wpAny_execs_nil ⟨σ1, H2, I2, q2⟩
end

/-! ### what a loop or a comprehension walks -/
/-- at turn i: it yields x (the heap may grow), or it stops -/
structure It where
  go : Nat → Hp → Prop
  yld : Nat → Hp → V → Hp → Prop
  stop : Nat → Hp → Prop
/-- the iterator's own objects may turn: they are not the frame's, not pinned, younger than the entry (or a comprehension's own) -/
def FpOk (X : Cx) (pins : List (Addr × Obj)) (H : Hp) (b : Addr) : Prop :=
  H b = none ∧ b ≠ X.env.locals ∧ b ∉ X.fs ∧ (b ∈ X.ex ∨ X.s₀.heap.objs.size ≤ b) ∧ (∀ x c, X.env.cells.lookup x = some c → c ≠ b) ∧ ∀ p ∈ X.pn ++ pins, p.1 ≠ b
theorem Inv.fpOk {X : Cx} {pins : List (Addr × Obj)} {σ : St} {H H' : Hp} {s : Shared} {b : Addr} (I : Inv X pins σ H s) (hb : s.heap.objs.size ≤ b) (hn : H' b = none) : FpOk X pins H' b := by
  refine ⟨hn, Nat.ne_of_gt (Nat.lt_of_lt_of_le I.lt hb), I.nofs hb, .inr (Nat.le_trans I.sz hb), fun x c e z => ?_, fun p hp z => ?_⟩
  · obtain ⟨v, q⟩ := I.cell x c e
    exact absurd (Nat.lt_of_lt_of_le q.lt (by rw [z]; exact hb)) (Nat.lt_irrefl _)
  · exact absurd (Nat.lt_of_lt_of_le (Heap.lt_size (I.pin p hp).1) (by rw [z]; exact hb)) (Nat.lt_irrefl _)
structure Turn (P : Program) (w : World) (K : PySem.W.Frag) (tg : Expr) (J : It) (fp : List Addr) (it : Addr) (tn : Nat → Heap → Prop) : Prop where
  mem : it ∈ fp
  obj : ∀ i h, tn i h → ∀ b ∈ fp, ∃ o, h.get? b = some o ∧ ∀ v, o.data ≠ .cell v
  keep : ∀ i h h', tn i h → (∀ b ∈ fp, ∀ o, h.get? b = some o → h'.get? b = some o) → tn i h'
  item : ∀ (X : Cx), X.prog = P → X.w = w → X.K = K → X.calm = true → ∀ (i : Nat) (pins : List (Addr × Obj)) (s : Shared) (σ : St) (H : Hp) (E : Value → Shared → Prop), Inv X pins σ H s → (∀ b ∈ fp, FpOk X pins H b) → tn i s.heap → J.go i H →
    wpAny (model P w) X.A (pyNext (.ref it)) (fun r s1 => ∃ u, r = some u ∧
      wpAny (model P w) X.A (letOwnedTupleGo tg (.ref it) u) (fun _ s2 => ∃ x H', Inv X pins σ H' s2 ∧ RelV x u ∧ J.yld i H x H' ∧ tn (i + 1) s2.heap ∧ ∀ b ∈ fp, H' b = none) E s1) E s
  done : ∀ (X : Cx), X.prog = P → X.w = w → X.K = K → X.calm = true → ∀ (i : Nat) (pins : List (Addr × Obj)) (s : Shared) (σ : St) (H : Hp) (E : Value → Shared → Prop), Inv X pins σ H s → (∀ b ∈ fp, FpOk X pins H b) → tn i s.heap → J.stop i H →
    wpAny (model P w) X.A (pyNext (.ref it)) (fun r s1 => r = none ∧ Inv X pins σ H s1) E s
  self : ∀ (A : Around) (i : Nat) (s : Shared) (Q : Value → Shared → Prop) (E : Value → Shared → Prop), tn i s.heap → Q (.ref it) s → wpAny (model P w) A (pyIter (.ref it)) Q E s
abbrev TI := St → Hp → (It → Hp → Prop) → Prop
/-- an iterator has come -/
def PIE (X : Cx) (pins : List (Addr × Obj)) (σ : St) (tg : Expr) (R : It → Hp → Prop) (itv : Value) (s2 : Shared) : Prop :=
  ∃ (it : Addr) (fp : List Addr) (tn : Nat → Heap → Prop) (J : It) (H' : Hp), itv = .ref it ∧ Inv X pins σ H' s2 ∧ Turn X.prog X.w X.K tg J fp it tn ∧ tn 0 s2.heap ∧ (∀ b ∈ fp, FpOk X pins H' b) ∧ R J H'
def PI (X : Cx) (tg iter : Expr) (wi : TI) : Prop :=
  ∀ (pins : List (Addr × Obj)) (s : Shared) (σ : St) (H : Hp) (R : It → Hp → Prop), Inv X pins σ H s → wi σ H R →
    wpAny (model X.prog X.w) X.A (eval iter X.env) (fun v s1 => wpAny (model X.prog X.w) X.A (pyIter v) (PIE X pins σ tg R) X.xe s1) X.xe s

/-- the step ahead of the store is nothing for an iterator that keeps no tuple -/
theorem go_of {M : Model} {A : Around} {E : Value → Shared → Prop} {s : Shared} {tg : Expr} {it : Addr} {u : Value} {o : Obj} {n : String} {vs : Array Value} {Q : Unit → Shared → Prop} (ho : s.heap.get? it = some o) (hc : o.cls = .type n) (hd : o.data = .fields vs)
    (hn : ["enumerate", "zip", "dict_itemiterator", "dict_reverseitemiterator", "odict_iterator", "itertools.zip_longest", "itertools.pairwise"].contains n = false) (hQ : Q () s) : wpAny M A (letOwnedTupleGo tg (.ref it) u) Q E s := by
  unfold letOwnedTupleGo
  cases tg <;> first
    | exact wpAny_pure hQ
    | (cases u <;> first
        | exact wpAny_pure hQ
        | (refine wpAny_bind (wpAny_load ho ?_)
           rw [hc, hd]
           show wpAny M A (if (["enumerate", "zip", "dict_itemiterator", "dict_reverseitemiterator", "odict_iterator", "itertools.zip_longest", "itertools.pairwise"].contains n && vs[0]? == some (rawInt _)) = true then _ else _) Q E s
           rw [if_neg (by intro h; rw [hn, Bool.false_and] at h; cases h)]
           exact wpAny_pure hQ))

/-- the list at a, as it stands at each turn (a loop may append to it) -/
def Itl (K : PySem.W.Frag) (a : Addr) : It :=
  ⟨fun i H => ∃ xs x, SqL K H a xs ∧ xs[i]? = some x, fun i H x H' => H' = H ∧ ∀ xs, SqL K H a xs → xs[i]? = some x, fun i H => ∃ xs, SqL K H a xs ∧ xs.length ≤ i⟩
/-- lo, lo + 1, .. (n of them) -/
def Itr (lo : Int) (n : Nat) : It := ⟨fun i _ => i < n, fun i H x H' => H' = H ∧ x = .int (lo + i), fun i _ => n ≤ i⟩
theorem turn_list {P : Program} {w : World} {K : PySem.W.Frag} {tg : Expr} (a it : Addr) : Turn P w K tg (Itl K a) [it] it (fun i h => h.IsListIter it a i) where
  mem := by simp
  obj := fun i h st b hb => by
    have e : b = it := by simpa using hb
    subst e
    obtain ⟨o, e, c, d⟩ := st
    exact ⟨o, e, fun v z => by rw [d] at z; cases z⟩
  keep := fun i h h' st k => st.at fun o e => k it (by simp) o e
  item := by
    intro X hP hw hK hc i pins s σ H E I hf st hg
    subst hP hw hK
    obtain ⟨xs, x, hq, hx⟩ := hg
    obtain ⟨its, rv, p, hz⟩ := I.list hq
    obtain ⟨u, hu, ru⟩ := rv.get hx
    obtain ⟨f0, f1, f2, f3, f4, f5⟩ := hf it (by simp)
    refine wpAny_pyNext_list_item st p.isList (x := u) (by simpa using hu) fun h' st' sb => ?_
    have I1 : Inv X pins σ H { s with heap := h' } := I.turned (t' := s.toks) (fun b o hb e => (sb.2 b hb).trans e) f0 f1 f3 f4 f5
    obtain ⟨o, e, c, d⟩ := id st'
    exact ⟨u, rfl, go_of (s := { s with heap := h' }) e c d (by decide) ⟨x, H, I1, ru, ⟨rfl, fun ys hy => by rw [I.list_inj hy hq]; exact hx⟩, st', fun b hb => (hf b hb).1⟩⟩
  done := by
    intro X hP hw hK hc i pins s σ H E I hf st hg
    subst hP hw hK
    obtain ⟨xs, hq, hx⟩ := hg
    obtain ⟨its, rv, p, hz⟩ := I.list hq
    obtain ⟨f0, f1, f2, f3, f4, f5⟩ := hf it (by simp)
    have hl := rv.length
    exact wpAny_pyNext_list_end (I.ok.hd hc) st p.isList (by simp; omega) fun h' eb => ⟨rfl, I.turned (t' := s.toks) (fun b o hb e => eb b o hb e) f0 f1 f3 f4 f5⟩
  self := fun _ _ _ _ _ st h => wpAny_pyIter_listiter st h
theorem turn_range {P : Program} {w : World} {K : PySem.W.Frag} {tg : Expr} (it : Addr) (lo : Int) (n : Nat) : Turn P w K tg (Itr lo n) [it] it (fun i h => IsRangeIter h it (lo + (i : Nat) * 1) ((n : Int) - (i : Nat)) 1) where
  mem := by simp
  obj := fun i h st b hb => by
    have e : b = it := by simpa using hb
    subst e
    exact ⟨_, st, fun v z => by
      have z' : Data.fields _ = Data.cell v := z
      cases z'⟩
  keep := fun i h h' st k => k it (by simp) _ st
  item := by
    intro X hP hw hK hc i pins s σ H E I hf st hg
    subst hP hw hK
    obtain ⟨f0, f1, f2, f3, f4, f5⟩ := hf it (by simp)
    have W := Walks.range (prog := X.prog) (w := X.w) (I.ok.hd hc) it lo 1 n
    refine W.item i s _ _ hg st fun v h' tk hv st' kk => ?_
    obtain ⟨t, rfl⟩ := hv
    have I1 : Inv X pins σ H { s with heap := h', toks := tk } := I.turned (fun b o hb e => kk b o (by simpa using hb) e) f0 f1 f3 f4 f5
    refine ⟨_, rfl, go_of (s := { s with heap := h', toks := tk }) (n := "range_iterator") st' rfl rfl (by decide) ⟨.int (lo + i), H, I1, ⟨t, ?_⟩, ⟨rfl, rfl⟩, st', fun b hb => (hf b hb).1⟩⟩
    rw [Int.mul_one]
  done := by
    intro X hP hw hK hc i pins s σ H E I hf st hg
    subst hP hw hK
    obtain ⟨f0, f1, f2, f3, f4, f5⟩ := hf it (by simp)
    exact wpAny_pyNext_range_end (I.ok.hd hc) st (by have : n ≤ i := hg; omega) fun h' eb => ⟨rfl, I.turned (t' := s.toks) (fun b o hb e => eb b o hb e) f0 f1 f3 f4 f5⟩
  self := fun _ _ _ _ _ st h => wpAny_pyIter_rangeiter st h
end L2

namespace L2
open PySem PySem.Spec PyProof.Rows
section
variable {X : Cx} {tg : Expr}
def iList (K : PySem.W.Frag) (tl : TE) : TI := fun σ H R => tl σ H fun x H1 => ∃ a, x = .ref a ∧ (∃ xs, SqL K H1 a xs) ∧ R (Itl K a) H1
theorem pi_list {l : Expr} {tl : TE} (hl : PE X l tl) : PI X tg l (iList X.K tl) := by
  intro pins s σ H R I h
  refine thn (hl pins s σ H _ I h) fun v s1 ⟨x, H1, I1, r1, q1⟩ => ?_
  obtain ⟨a, e, ⟨xs, hq⟩, q⟩ := q1
  subst e
  cases r1
  obtain ⟨its, rv, p, hz⟩ := I1.list hq
  refine wpAny_pyIter_list p.isList ?_
  refine ⟨s1.heap.objs.size, [s1.heap.objs.size], _, _, H1, rfl, I1.kept (t' := s1.toks) fun b o e => Heap.get?_push_of_some _ e, turn_list a _, ⟨_, Heap.get?_push_size _ rfl, rfl, rfl⟩, fun b hb => ?_, q⟩
  have e : b = s1.heap.objs.size := by simpa using hb
  subst e
  exact I1.fpOk (Nat.le_refl _) (I1.hok.fresh (Nat.le_refl _))
/-- a range object just made, walked -/
theorem range_it {pins : List (Addr × Obj)} {σ : St} {H : Hp} {s : Shared} {R : It → Hp → Prop} {E : Value → Shared → Prop} {lo hi : Int} {t u v : Tok} {tk : Nat} (I : Inv X pins σ H s) (h1 : -(2 ^ 62) ≤ lo) (h2 : lo < 2 ^ 62) (h3 : -(2 ^ 62) ≤ hi) (h4 : hi < 2 ^ 62)
    (q : R (Itr lo (hi - lo).toNat) H) : wpAny (model X.prog X.w) X.A (pyIter (.ref s.heap.objs.size)) (PIE X pins σ tg R) E { s with heap := s.heap.push { cls := .type "range", data := .fields #[.int lo t, .int hi u, .int 1 v] }, toks := tk } := by
  refine wpAny_pyIter_range (IsRange.new ..) (small_one h1 h2 h3 h4) ?_
  have I1 : Inv X pins σ H { s with heap := s.heap.push { cls := .type "range", data := .fields #[.int lo t, .int hi u, .int 1 v] }, toks := tk } := I.kept fun b o e => Heap.get?_push_of_some _ e
  refine ⟨(s.heap.push { cls := .type "range", data := .fields #[.int lo t, .int hi u, .int 1 v] }).objs.size, [(s.heap.push { cls := .type "range", data := .fields #[.int lo t, .int hi u, .int 1 v] }).objs.size], _, _, H, rfl,
    I1.kept (t' := tk) fun b o e => Heap.get?_push_of_some _ e, turn_range _ lo (hi - lo).toNat, ?_, fun b hb => ?_, q⟩
  · have e1 : lo + ((0 : Nat) : Int) * 1 = lo := by simp
    have e2 : (((hi - lo).toNat : Nat) : Int) - ((0 : Nat) : Int) = Builtin.Range.rangeSize lo hi 1 := by rw [rangeSize_one]; split <;> omega
    show IsRangeIter _ _ (lo + ((0 : Nat) : Int) * 1) ((((hi - lo).toNat : Nat) : Int) - ((0 : Nat) : Int)) 1
    rw [e1, e2]
    exact Heap.get?_push_size _ rfl
  · have e : b = (s.heap.push { cls := .type "range", data := .fields #[.int lo t, .int hi u, .int 1 v] }).objs.size := by simpa using hb
    subst e
    exact I1.fpOk (Nat.le_refl _) (I1.hok.fresh (Nat.le_refl _))
def iRng1 (ta : TA) : TI := fun σ H R => ta σ H fun vs H1 => ∃ j : Int, vs = [.int j] ∧ -(2 ^ 62) ≤ j ∧ j < 2 ^ 62 ∧ R (Itr 0 j.toNat) H1
theorem pi_range1 {a : Expr} {ta : TA} {p pos : Pos} (hg : Gl X "range") (hm : X.mg "range" = none) (ha : PA X [a] ta) (hs : starEach [a] X.env = [(false, eval a X.env)] := by rfl) : PI X tg (.Call (.Name "range" p) [a] [] pos) (iRng1 ta) := by
  intro pins s σ H R I h
  refine Call_ (ld_blt I hg hm boot_range (PyProof.Rows.callWith_type1 (thn (ha pos pins s σ H _ I h) fun us s1 ⟨vs, H1, I1, r1, q1⟩ => ?_) hs rfl))
  obtain ⟨j, e, q1, q2, q⟩ := q1
  subst e
  cases r1 with
  | cons r rr =>
    cases rr
    obtain ⟨t, rfl⟩ := r
    exact call_range_1 (range_it I1 (by omega) (by omega) q1 q2 (by simpa using q))

/-! ### for -/
/-- W: the invariant by the turn and a measure; N: what the body is to reach -/
def tFor (wi : TI) (g : TG) (tb : TS) : TS := fun D σ H => wi σ H fun J H1 => ∃ W : Nat → Nat → St → Hp → Prop, (∃ m, W 0 m σ H1) ∧ ∀ i m σ H, W i m σ H →
  (J.stop i H ∧ D.nx σ H) ∨ (J.go i H ∧ ∃ N : St → Hp → Prop, (∀ σ' H', N σ' H' → ∃ m', m' < m ∧ W (i + 1) m' σ' H') ∧ ∀ x H', J.yld i H x H' → g x σ H' fun σ2 H2 => tb { D with nx := N, ct := N, bk := D.nx } σ2 H2)
/-- the records at fp as they stand -/
def pinsAt (fp : List Addr) (h : Heap) : List (Addr × Obj) := fp.filterMap fun b => (h.get? b).map fun o => (b, o)
theorem mem_pinsAt {fp : List Addr} {h : Heap} {b : Addr} {o : Obj} (hb : b ∈ fp) (e : h.get? b = some o) : (b, o) ∈ pinsAt fp h := List.mem_filterMap.mpr ⟨b, hb, by rw [e]; rfl⟩
theorem of_pinsAt {fp : List Addr} {h : Heap} {p : Addr × Obj} (hp : p ∈ pinsAt fp h) : p.1 ∈ fp ∧ h.get? p.1 = some p.2 := by
  obtain ⟨b, hb, e⟩ := List.mem_filterMap.mp hp
  cases q : h.get? b with
  | none => rw [q] at e; cases e
  | some o =>
    rw [q] at e
    have e' : (b, o) = p := Option.some.inj e
    subst e'
    exact ⟨hb, q⟩
theorem Inv.pinned {pins : List (Addr × Obj)} {σ : St} {H : Hp} {s : Shared} {fp : List Addr} (I : Inv X pins σ H s) (hf : ∀ b ∈ fp, FpOk X pins H b) (ho : ∀ b ∈ fp, ∃ o, s.heap.get? b = some o ∧ ∀ v, o.data ≠ .cell v) : Inv X (pins ++ pinsAt fp s.heap) σ H s :=
  I.pins_of fun p hp => (List.mem_append.mp hp).elim (fun z => I.pin p (List.mem_append_right _ z)) fun z => by
    obtain ⟨hb, e⟩ := of_pinsAt z
    obtain ⟨f0, f1, f2, _⟩ := hf p.1 hb
    obtain ⟨o, e', d⟩ := ho p.1 hb
    rw [e] at e'; cases e'
    exact ⟨e, f0, f1, f2, d⟩
theorem Inv.unpinned {pins pl : List (Addr × Obj)} {σ : St} {H : Hp} {s : Shared} (I : Inv X (pins ++ pl) σ H s) : Inv X pins σ H s := I.pins_of fun p hp => I.pin p (List.mem_append_right _ (List.mem_append_left _ hp))
theorem ps_for {iter : Expr} {body : List Stmt} {wi : TI} {g : TG} {tb : TS} {pos : Pos} (hp : PassesOwn (model X.prog X.w) X.A X.env X.xe) (hc : X.calm = true) (hi : PI X tg iter wi) (hg : PG X tg g) (hb : PSs X body tb)
    (hs : ∀ x, foldedSetIterable iter X.env x = pure x := by intro _; rfl) : PS X (.For tg iter body [] pos) (tFor wi g tb) := by
  intro pins s σ H D I h
  refine wpAny_For (thn (hi pins s σ H _ I h) fun v s1 h1 => thn h1 fun itv s2 h2 => ?_) hs
  obtain ⟨it, fp, tn, J, H2, e, I2, T, st2, f2, W, ⟨m0, w0⟩, turn⟩ := h2
  subst e
  -- what stays true of the iterator's objects through the loop
  have stat : ∀ {H' : Hp}, (∀ b ∈ fp, H' b = none) → ∀ b ∈ fp, FpOk X pins H' b := fun hn b hb => ⟨hn b hb, (f2 b hb).2⟩
  refine codeAny_forLoop_any (fun n s' => ∃ i σ' H', Inv X pins σ' H' s' ∧ tn i s'.heap ∧ (∀ b ∈ fp, H' b = none) ∧ W i n σ' H') ?_ m0 ⟨0, σ, H2, I2, st2, fun b hb => (f2 b hb).1, w0⟩
  rintro n s3 ⟨i, σ3, H3, I3, st3, fr3, w3⟩
  rcases turn i n σ3 H3 w3 with ⟨stop, qn⟩ | ⟨go, N, hN, step⟩
  · refine wpAny_passesOwn hp (thn (T.done X rfl rfl rfl hc i pins s3 σ3 H3 X.xe I3 (stat fr3) st3 stop) fun r s4 ⟨hr, I4⟩ => ?_)
    subst hr
    exact wpAny_execs_nil ⟨σ3, H3, I4, qn⟩
  · refine wpAny_passesOwn hp (thn (T.item X rfl rfl rfl hc i pins s3 σ3 H3 X.xe I3 (stat fr3) st3 go) fun r s4 ⟨u, hr, h4⟩ => ?_)
    subst hr
    refine wpAny_passesOwn hp (thn h4 fun _ s5 ⟨x, H5, I5, r5, y5, st5, fr5⟩ => ?_)
    have I5' := I5.pinned (stat fr5) (T.obj _ _ st5)
    refine wpAny_passesOwn hp (thn (hg _ s5 σ3 H5 x u _ I5' r5 (step x H5 y5)) fun _ s6 ⟨σ6, H6, I6, q6⟩ => ?_)
    refine wpAny_passesOwn hp (thn (hb _ s6 σ6 H6 _ I6 q6) fun f s7 q7 => ?_)
    have again : ∀ {σ7 : St} {H7 : Hp}, Inv X (pins ++ pinsAt fp s5.heap) σ7 H7 s7 → N σ7 H7 → ∃ m, m < n ∧ ∃ i σ' H', Inv X pins σ' H' s7 ∧ tn i s7.heap ∧ (∀ b ∈ fp, H' b = none) ∧ W i m σ' H' := fun {σ7 H7} I7 n7 => by
      obtain ⟨m', hm, w7⟩ := hN σ7 H7 n7
      refine ⟨m', hm, i + 1, σ7, H7, I7.unpinned, T.keep _ _ _ st5 fun b hb o e => (I7.pin (b, o) (List.mem_append_right _ (List.mem_append_right _ (mem_pinsAt hb e)))).1, fun b hb => ?_, w7⟩
      obtain ⟨o, e, d⟩ := T.obj _ _ st5 b hb
      exact (I7.pin (b, o) (List.mem_append_right _ (List.mem_append_right _ (mem_pinsAt hb e)))).2.1
    cases f with
    | next => obtain ⟨σ7, H7, I7, n7⟩ := q7; exact again I7 n7
    | cont => obtain ⟨σ7, H7, I7, n7⟩ := q7; exact again I7 n7
    | brk => obtain ⟨σ7, H7, I7, q7⟩ := q7; exact ⟨σ7, H7, I7.unpinned, q7⟩
    | ret v => obtain ⟨x7, σ7, H7, I7, r7, q7⟩ := q7; exact ⟨x7, σ7, H7, I7.unpinned, r7, q7⟩
end

/-! ### the forms one uses -/
/-- over a list that the body leaves as it is -/
theorem for_list {K : PySem.W.Frag} {a : Addr} {xs : List V} {g : TG} {tb : TS} {D : Ends} {σ : St} {H : Hp} (Pv : Nat → St → Hp → Prop) (h0 : Pv 0 σ H) (hl : ∀ i σ H, i ≤ xs.length → Pv i σ H → SqL K H a xs)
    (hs : ∀ i x σ H, xs[i]? = some x → Pv i σ H → g x σ H fun σ2 H2 => tb { D with nx := Pv (i + 1), ct := Pv (i + 1), bk := D.nx } σ2 H2) (hd : ∀ σ H, Pv xs.length σ H → D.nx σ H) :
    ∃ W : Nat → Nat → St → Hp → Prop, (∃ m, W 0 m σ H) ∧ ∀ i m σ H, W i m σ H →
      ((Itl K a).stop i H ∧ D.nx σ H) ∨ ((Itl K a).go i H ∧ ∃ N : St → Hp → Prop, (∀ σ' H', N σ' H' → ∃ m', m' < m ∧ W (i + 1) m' σ' H') ∧ ∀ x H', (Itl K a).yld i H x H' → g x σ H' fun σ2 H2 => tb { D with nx := N, ct := N, bk := D.nx } σ2 H2) := by
  refine ⟨fun i m σ H => m = xs.length - i ∧ i ≤ xs.length ∧ Pv i σ H, ⟨xs.length, by simp, Nat.zero_le _, h0⟩, ?_⟩
  rintro i m σ H ⟨rfl, hi, p⟩
  have q := hl i σ H hi p
  by_cases hlt : i < xs.length
  · refine .inr ⟨⟨xs, xs[i], q, by simp [hlt]⟩, Pv (i + 1), fun σ' H' p' => ⟨xs.length - (i + 1), by omega, rfl, hlt, p'⟩, fun x H' y => ?_⟩
    obtain ⟨e, y⟩ := y
    subst e
    exact hs i x σ _ (y xs q) p
  · have e : i = xs.length := by omega
    subst e
    exact .inl ⟨⟨xs, q, Nat.le_refl _⟩, hd σ H p⟩
theorem for_range {lo : Int} {n : Nat} {g : TG} {tb : TS} {D : Ends} {σ : St} {H : Hp} (Pv : Nat → St → Hp → Prop) (h0 : Pv 0 σ H)
    (hs : ∀ i σ H, i < n → Pv i σ H → g (.int (lo + i)) σ H fun σ2 H2 => tb { D with nx := Pv (i + 1), ct := Pv (i + 1), bk := D.nx } σ2 H2) (hd : ∀ σ H, Pv n σ H → D.nx σ H) :
    ∃ W : Nat → Nat → St → Hp → Prop, (∃ m, W 0 m σ H) ∧ ∀ i m σ H, W i m σ H →
      ((Itr lo n).stop i H ∧ D.nx σ H) ∨ ((Itr lo n).go i H ∧ ∃ N : St → Hp → Prop, (∀ σ' H', N σ' H' → ∃ m', m' < m ∧ W (i + 1) m' σ' H') ∧ ∀ x H', (Itr lo n).yld i H x H' → g x σ H' fun σ2 H2 => tb { D with nx := N, ct := N, bk := D.nx } σ2 H2) := by
  refine ⟨fun i m σ H => m = n - i ∧ i ≤ n ∧ Pv i σ H, ⟨n, by simp, Nat.zero_le _, h0⟩, ?_⟩
  rintro i m σ H ⟨rfl, hi, p⟩
  by_cases hlt : i < n
  · refine .inr ⟨hlt, Pv (i + 1), fun σ' H' p' => ⟨n - (i + 1), by omega, rfl, hlt, p'⟩, fun x H' y => ?_⟩
    obtain ⟨e, y⟩ := y
    subst e y
    exact hs i σ _ hlt p
  · have e : i = n := by omega
    subst e
    exact .inl ⟨Nat.le_refl _, hd σ H p⟩
end L2

namespace L2
open PySem PySem.Spec PyProof.Rows

abbrev R2 := V → V → Hp → VK → Prop
/-- a two-place operation on values: f is binaryOp op, inplaceOp op or compareOp op -/
def OpR (X : Cx) (f : Value → Value → Sem Value) (r : R2) : Prop :=
  ∀ (pins : List (Addr × Obj)) (s : Shared) (σ : St) (H : Hp) (x y : V) (v u : Value) (Q : VK), Inv X pins σ H s → RelV x v → RelV y u → r x y H Q →
    wpAny (model X.prog X.w) X.A (f v u) (EP X pins σ Q) X.xe s
/-- a one-place operation -/
def UnR (X : Cx) (f : Value → Sem Value) (r : V → Hp → VK → Prop) : Prop :=
  ∀ (pins : List (Addr × Obj)) (s : Shared) (σ : St) (H : Hp) (x : V) (v : Value) (Q : VK), Inv X pins σ H s → RelV x v → r x H Q →
    wpAny (model X.prog X.w) X.A (f v) (EP X pins σ Q) X.xe s
/-- a call of a value that is known (a builtin, a type) with values -/
def CallR (X : Cx) (f : Value) (r : List V → Hp → VK → Prop) : Prop :=
  ∀ (pins : List (Addr × Obj)) (s : Shared) (σ : St) (H : Hp) (xs : List V) (us : List Value) (Q : VK), Inv X pins σ H s → Vals xs us → r xs H Q →
    wpAny (model X.prog X.w) X.A (call f us) (EP X pins σ Q) X.xe s

def tOp (r : R2) (ta tb : TE) : TE := fun σ H Q => ta σ H fun x H1 => tb σ H1 fun y H2 => r x y H2 Q
def tUn (r : V → Hp → VK → Prop) (ta : TE) : TE := fun σ H Q => ta σ H fun x H1 => r x H1 Q
/-- ints in, under C, and a value out -/
def rI (C : Int → Int → Prop) (g : Int → Int → V) : R2 := fun x y H Q => ∃ i j, x = .int i ∧ y = .int j ∧ C i j ∧ Q (g i j) H
def rI0 (g : Int → Int → V) : R2 := fun x y H Q => ∃ i j, x = .int i ∧ y = .int j ∧ Q (g i j) H
def rU (g : Int → V) : V → Hp → VK → Prop := fun x H Q => ∃ i, x = .int i ∧ Q (g i) H

section
variable {X : Cx} {a b c : Expr} {ta tb tc : TE} {pos : Pos}

theorem binT (ha : PE X a ta) (hb : PE X b tb) {pins : List (Addr × Obj)} {s : Shared} {σ : St} {H : Hp} {R : V → V → Hp → Prop} (I : Inv X pins σ H s)
    (h : ta σ H fun x H1 => tb σ H1 fun y H2 => R x y H2) {Q : Value → Shared → Prop} {f : Value → Value → Sem Value}
    (hf : ∀ v u s2 x y H2, Inv X pins σ H2 s2 → RelV x v → RelV y u → R x y H2 → wpAny (model X.prog X.w) X.A (f v u) Q X.xe s2) :
    wpAny (model X.prog X.w) X.A (eval a X.env) (fun v s₁ => wpAny (model X.prog X.w) X.A (eval b X.env) (fun u s₂ => wpAny (model X.prog X.w) X.A (f v u) Q X.xe s₂) X.xe s₁) X.xe s := by
  refine thn (ha pins s σ H _ I h) fun v s1 ⟨x, H1, I1, r1, q1⟩ => ?_
  refine thn (hb pins s1 σ H1 _ I1 q1) fun u s2 ⟨y, H2, I2, r2, q2⟩ => ?_
  exact hf v u s2 x y H2 I2 r1 r2 q2

theorem pe_op {op : Operator} {r : R2} (ho : OpR X (binaryOp op) r) (ha : PE X a ta) (hb : PE X b tb) : PE X (.BinOp a op b pos) (tOp r ta tb) := by
  intro pins s σ H Q I h
  exact wpAny_BinOp (binT ha hb I h fun v u s2 x y H2 I2 rx ry q => ho pins s2 σ H2 x y v u Q I2 rx ry q)
theorem pe_un {op : UnaryOp} {r : V → Hp → VK → Prop} (ho : UnR X (unaryOp op) r) (ha : PE X a ta) : PE X (.UnaryOp op a pos) (tUn r ta) := by
  intro pins s σ H Q I h
  exact UnaryOp_ (thn (ha pins s σ H _ I h) fun v s1 ⟨x, H1, I1, r1, q1⟩ => ho pins s1 σ H1 x v Q I1 r1 q1)

/-! ### ints -/
theorem opI {f : Value → Value → Sem Value} {C : Int → Int → Prop} {g : Int → Int → Int}
    (rule : ∀ (i j : Int) (t u : Tok) (s : Shared) (Q : Value → Shared → Prop) (E : Value → Shared → Prop), C i j → Q (.int (g i j) s.toks) { s with toks := s.toks + 1 } → wpAny (model X.prog X.w) X.A (f (.int i t) (.int j u)) Q E s) :
    OpR X f (rI C fun i j => .int (g i j)) := by
  intro pins s σ H x y v u Q I rx ry h
  obtain ⟨i, j, rfl, rfl, hc, q⟩ := h
  obtain ⟨t, rfl⟩ := rx
  obtain ⟨t', rfl⟩ := ry
  exact rule i j t t' s _ _ hc ⟨.int (g i j), H, I.tok _, ⟨_, rfl⟩, q⟩
theorem opI0 {f : Value → Value → Sem Value} {g : Int → Int → Int}
    (rule : ∀ (i j : Int) (t u : Tok) (s : Shared) (Q : Value → Shared → Prop) (E : Value → Shared → Prop), Q (.int (g i j) s.toks) { s with toks := s.toks + 1 } → wpAny (model X.prog X.w) X.A (f (.int i t) (.int j u)) Q E s) :
    OpR X f (rI0 fun i j => .int (g i j)) := by
  intro pins s σ H x y v u Q I rx ry h
  obtain ⟨i, j, rfl, rfl, q⟩ := h
  obtain ⟨t, rfl⟩ := rx
  obtain ⟨t', rfl⟩ := ry
  exact rule i j t t' s _ _ ⟨.int (g i j), H, I.tok _, ⟨_, rfl⟩, q⟩
theorem opB0 {f : Value → Value → Sem Value} {g : Int → Int → Bool}
    (rule : ∀ (i j : Int) (t u : Tok) (s : Shared) (Q : Value → Shared → Prop) (E : Value → Shared → Prop), Q (.bool (g i j)) s → wpAny (model X.prog X.w) X.A (f (.int i t) (.int j u)) Q E s) :
    OpR X f (rI0 fun i j => .bl (g i j)) := by
  intro pins s σ H x y v u Q I rx ry h
  obtain ⟨i, j, rfl, rfl, q⟩ := h
  obtain ⟨t, rfl⟩ := rx
  obtain ⟨t', rfl⟩ := ry
  exact rule i j t t' s _ _ ⟨.bl (g i j), H, I, rfl, q⟩

def CPow (i j : Int) : Prop := 0 ≤ j ∧ j ≤ 1000000 ∧ i.natAbs < 2 ^ 64
def CMul (i j : Int) : Prop := (-(2 ^ 64) < i ∧ i < 2 ^ 64) ∨ (-(2 ^ 64) < j ∧ j < 2 ^ 64)
theorem CMul.ok {i j : Int} (h : CMul i j) : IntMulOk i j := by
  rcases h with ⟨h1, h2⟩ | ⟨h1, h2⟩
  · exact .of_left (intBits_le_64 h1 h2)
  · exact .of_right (intBits_le_64 h1 h2)

theorem op_add : OpR X (binaryOp .Add) (rI0 fun i j => .int (i + j)) := opI0 fun _ _ _ _ _ _ _ q => add_int q
theorem op_sub : OpR X (binaryOp .Sub) (rI0 fun i j => .int (i - j)) := opI0 fun _ _ _ _ _ _ _ q => sub_int q
theorem op_mul : OpR X (binaryOp .Mult) (rI CMul fun i j => .int (i * j)) := opI fun _ _ _ _ _ _ _ hc q => mul_int q hc.ok
/-- % by a positive divisor of any size -/
theorem op_mod : OpR X (binaryOp .Mod) (rI (fun _ j => 0 < j) fun i j => .int (i % j)) := opI fun i j _ _ _ _ _ hc q => by
  have h1 : (0 : Int) < j := hc
  exact mod_int' (by omega) (by rw [Int.fmod_eq_emod_of_nonneg i (by omega)]; exact q)
theorem op_pow : OpR X (binaryOp .Pow) (rI CPow fun i j => .int (i ^ j.toNat)) := opI fun _ _ _ _ _ _ _ hc q => pow_int_small hc.1 hc.2.1 hc.2.2 q


theorem unI {f : Value → Sem Value} {g : Int → Int}
    (rule : ∀ (i : Int) (t : Tok) (s : Shared) (Q : Value → Shared → Prop) (E : Value → Shared → Prop), Q (.int (g i) s.toks) { s with toks := s.toks + 1 } → wpAny (model X.prog X.w) X.A (f (.int i t)) Q E s) :
    UnR X f (rU fun i => .int (g i)) := by
  intro pins s σ H x v Q I rx h
  obtain ⟨i, rfl, q⟩ := h
  obtain ⟨t, rfl⟩ := rx
  exact rule i t s _ _ ⟨.int (g i), H, I.tok _, ⟨_, rfl⟩, q⟩
theorem un_neg : UnR X (unaryOp .USub) (rU fun i => .int (-i)) := unI fun _ _ _ _ _ q => neg_int q

/-! ### bools among ints: n += (a < b) -/
end

/-! ### comparisons -/
/-- the scalars that == tells apart as data does -/
def scal : V → V → Bool
  | .non, .non => true | .non, .int _ => true | .int _, .non => true | .non, .bl _ => true | .bl _, .non => true | .non, .str _ => true | .str _, .non => true
  | .int _, .int _ => true | .bl _, .bl _ => true | .str _, .str _ => true | .byt _, .byt _ => true
  | .int _, .str _ => true | .str _, .int _ => true | .bl _, .str _ => true | .str _, .bl _ => true
  | _, _ => false
def rEq : R2 := fun x y H Q => scal x y = true ∧ Q (.bl (decide (x = y))) H
def rNe : R2 := fun x y H Q => scal x y = true ∧ Q (.bl (!decide (x = y))) H

theorem dec_int {i j : Int} : decide (V.int i = V.int j) = (i == j) := by
  rw [Bool.eq_iff_iff]
  simp
theorem dec_bl {i j : Bool} : decide (V.bl i = V.bl j) = (i == j) := by
  rw [Bool.eq_iff_iff]
  simp
theorem dec_str {i j : Str} : decide (V.str i = V.str j) = (i == j) := by
  rw [Bool.eq_iff_iff]
  simp
theorem dec_byt {i j : Array UInt8} : decide (V.byt i = V.byt j) = (i.toList == j.toList) := by
  rw [Bool.eq_iff_iff]
  cases i
  cases j
  simp

section
variable {X : Cx} {a b c : Expr} {ta tb tc : TE} {pos : Pos}
theorem fin_bl {pins : List (Addr × Obj)} {σ : St} {H : Hp} {s : Shared} {Q : VK} {k k' : Bool} (I : Inv X pins σ H s) (q : Q (.bl k) H) (e : k = k') : EP X pins σ Q (.bool k') s := by
  subst e
  exact ⟨.bl k, H, I, rfl, q⟩
theorem op_eq : OpR X (compareOp .Eq) rEq := by
  intro pins s σ H x y v u Q I rx ry h
  obtain ⟨hs, q⟩ := h
  cases x with
  | non =>
    cases rx
    cases y with
    | non => cases ry; exact PySem.EqNone.eq_none_none (fin_bl I q (by simp))
    | bl j => cases ry; exact PySem.EqNone.eq_none_bool (fin_bl I q (by simp))
    | int j => obtain ⟨t', rfl⟩ := ry; exact PySem.EqNone.eq_none_int (fin_bl I q (by simp))
    | str j => obtain ⟨t', rfl⟩ := ry; exact PySem.EqNone.eq_none_str (fin_bl I q (by simp))
    | _ => exact absurd (show false = true from hs) Bool.false_ne_true
  | bl i =>
    cases rx
    cases y with
    | non => cases ry; exact PySem.EqNone.eq_bool_none (fin_bl I q (by simp))
    | bl j => cases ry; exact eq_bool (fin_bl I q dec_bl)
    | str j => obtain ⟨t', rfl⟩ := ry; exact PySem.EqMixed.eq_bool_str (fin_bl I q (by simp))
    | _ => exact absurd (show false = true from hs) Bool.false_ne_true
  | int i =>
    obtain ⟨t, rfl⟩ := rx
    cases y with
    | non => cases ry; exact PySem.EqNone.eq_int_none (fin_bl I q (by simp))
    | int j => obtain ⟨t', rfl⟩ := ry; exact eq_int (fin_bl I q dec_int)
    | str j => obtain ⟨t', rfl⟩ := ry; exact PySem.EqMixed.eq_int_str (fin_bl I q (by simp))
    | _ => exact absurd (show false = true from hs) Bool.false_ne_true
  | str i =>
    obtain ⟨t, rfl⟩ := rx
    cases y with
    | non => cases ry; exact PySem.EqNone.eq_str_none (fin_bl I q (by simp))
    | bl j => cases ry; exact PySem.EqMixed.eq_str_bool (fin_bl I q (by simp))
    | int j => obtain ⟨t', rfl⟩ := ry; exact PySem.EqMixed.eq_str_int (fin_bl I q (by simp))
    | str j => obtain ⟨t', rfl⟩ := ry; exact eq_str (fin_bl I q dec_str)
    | _ => exact absurd (show false = true from hs) Bool.false_ne_true
  | byt i =>
    obtain ⟨t, rfl⟩ := rx
    cases y with
    | byt j => obtain ⟨t', rfl⟩ := ry; exact PySem.W.eq_bytes (fin_bl I q dec_byt)
    | _ => exact absurd (show false = true from hs) Bool.false_ne_true
  | _ => cases y <;> exact absurd (show false = true from hs) Bool.false_ne_true
theorem op_ne : OpR X (compareOp .NotEq) rNe := by
  intro pins s σ H x y v u Q I rx ry h
  obtain ⟨hs, q⟩ := h
  cases x with
  | non =>
    cases rx
    cases y with
    | non => cases ry; exact PySem.EqNone.ne_none_none (fin_bl I q (by simp))
    | bl j => cases ry; exact PySem.EqNone.ne_none_bool (fin_bl I q (by simp))
    | int j => obtain ⟨t', rfl⟩ := ry; exact PySem.EqNone.ne_none_int (fin_bl I q (by simp))
    | str j => obtain ⟨t', rfl⟩ := ry; exact PySem.EqNone.ne_none_str (fin_bl I q (by simp))
    | _ => exact absurd (show false = true from hs) Bool.false_ne_true
  | bl i =>
    cases rx
    cases y with
    | non => cases ry; exact PySem.EqNone.ne_bool_none (fin_bl I q (by simp))
    | bl j => cases ry; exact ne_bool (fin_bl I q (congrArg not dec_bl))
    | str j => obtain ⟨t', rfl⟩ := ry; exact PySem.EqMixed.ne_bool_str (fin_bl I q (by simp))
    | _ => exact absurd (show false = true from hs) Bool.false_ne_true
  | int i =>
    obtain ⟨t, rfl⟩ := rx
    cases y with
    | non => cases ry; exact PySem.EqNone.ne_int_none (fin_bl I q (by simp))
    | int j => obtain ⟨t', rfl⟩ := ry; exact ne_int (fin_bl I q (congrArg not dec_int))
    | str j => obtain ⟨t', rfl⟩ := ry; exact PySem.EqMixed.ne_int_str (fin_bl I q (by simp))
    | _ => exact absurd (show false = true from hs) Bool.false_ne_true
  | str i =>
    obtain ⟨t, rfl⟩ := rx
    cases y with
    | non => cases ry; exact PySem.EqNone.ne_str_none (fin_bl I q (by simp))
    | bl j => cases ry; exact PySem.EqMixed.ne_str_bool (fin_bl I q (by simp))
    | int j => obtain ⟨t', rfl⟩ := ry; exact PySem.EqMixed.ne_str_int (fin_bl I q (by simp))
    | str j => obtain ⟨t', rfl⟩ := ry; exact ne_str (fin_bl I q (congrArg not dec_str))
    | _ => exact absurd (show false = true from hs) Bool.false_ne_true
  | byt i =>
    obtain ⟨t, rfl⟩ := rx
    cases y with
    | byt j => obtain ⟨t', rfl⟩ := ry; exact PySem.W.ne_bytes (fin_bl I q (congrArg not dec_byt))
    | _ => exact absurd (show false = true from hs) Bool.false_ne_true
  | _ => cases y <;> exact absurd (show false = true from hs) Bool.false_ne_true

theorem op_lt : OpR X (compareOp .Lt) (rI0 fun i j => .bl (decide (i < j))) := opB0 fun _ _ _ _ _ _ _ q => lt_int q
theorem op_le : OpR X (compareOp .LtE) (rI0 fun i j => .bl (decide (i ≤ j))) := opB0 fun _ _ _ _ _ _ _ q => le_int q
theorem op_gt : OpR X (compareOp .Gt) (rI0 fun i j => .bl (decide (j < i))) := opB0 fun _ _ _ _ _ _ _ q => gt_int q



/-- two rules for one operation: by cases -/
theorem OpR.or {f : Value → Value → Sem Value} {r r' : R2} (h : OpR X f r) (h' : OpR X f r') : OpR X f (fun x y H Q => r x y H Q ∨ r' x y H Q) := by
  intro pins s σ H x y v u Q I rx ry q
  rcases q with q | q
  · exact h pins s σ H x y v u Q I rx ry q
  · exact h' pins s σ H x y v u Q I rx ry q

theorem nomark (b : Expr) {op : CmpOp} (h : op ≠ .In := by decide) (h2 : op ≠ .NotIn := by decide) : behindInMarks op b = false := by
  have e1 : (op == CmpOp.In) = false := by cases op <;> first | rfl | exact absurd rfl h
  have e2 : (op == CmpOp.NotIn) = false := by cases op <;> first | rfl | exact absurd rfl h2
  cases b <;> simp [behindInMarks, e1, e2]
/-- a comparison as a value; hm: nomark b, or (for in, not in) by with_unfolding_all rfl -/
theorem pe_cmpR {op : CmpOp} {r : R2} (ho : OpR X (compareOp op) r) (ha : PE X a ta) (hb : PE X b tb) (hm : behindInMarks op b = false) : PE X (.Compare a [op] [b] pos) (tOp r ta tb) := by
  intro pins s σ H Q I h
  exact wpAny_Compare1 (binT ha hb I h fun v u s2 x y H2 I2 rx ry q => ho pins s2 σ H2 x y v u Q I2 rx ry q) hm
/-- a reading of a value as a test -/
def tTest (t : TE) : TT := fun σ H Q => t σ H fun x H' => ∃ k, x = .bl k ∧ Q k H'
theorem pt_cmpR {op : CmpOp} {r : R2} (ho : OpR X (compareOp op) r) (ha : PE X a ta) (hb : PE X b tb) (hm : behindInMarks op b = false) : PT X (.Compare a [op] [b] pos) (tTest (tOp r ta tb)) := by
  intro pins s σ H Q I h
  refine wpAny_isTrue_Compare1 (thn (ha pins s σ H _ I h) fun v s1 ⟨x, H1, I1, r1, q1⟩ => thn (hb pins s1 σ H1 _ I1 q1) fun u s2 ⟨y, H2, I2, r2, q2⟩ =>
    thn (ho pins s2 σ H2 x y v u _ I2 r1 r2 q2) fun c s3 ⟨z, H3, I3, r3, k, e, q3⟩ => ?_) hm
  subst e
  cases r3
  exact wpAny_truthy_bool ⟨H3, I3, q3⟩
/-- a op1 b op2 c -/
def tChain (r r' : R2) (ta tb tc : TE) : TE := fun σ H Q => ta σ H fun x H1 => tb σ H1 fun y H2 => r x y H2 fun z H3 => ∃ k, z = .bl k ∧
  (if k = true then tc σ H3 fun w' H4 => r' y w' H4 Q else Q (.bl false) H3)
theorem pe_chain {op op' : CmpOp} {r r' : R2} (ho : OpR X (compareOp op) r) (ho' : OpR X (compareOp op') r') (ha : PE X a ta) (hb : PE X b tb) (hc : PE X c tc)
    (hm : lastMarks [op, op'] [b, c] = false := by with_unfolding_all rfl) : PE X (.Compare a [op, op'] [b, c] pos) (tChain r r' ta tb tc) := by
  intro pins s σ H Q I h
  refine Compare_chain (thn (ha pins s σ H _ I h) fun v s1 ⟨x, H1, I1, r1, q1⟩ => chain_link (thn (hb pins s1 σ H1 _ I1 q1) fun u s2 ⟨y, H2, I2, r2, q2⟩ =>
    thn (ho pins s2 σ H2 x y v u _ I2 r1 r2 q2) fun d s3 ⟨z, H3, I3, r3, k, e, q3⟩ => ?_)) hm
  subst e
  cases r3
  refine wpAny_truthy_bool ?_
  cases k with
  | false => exact ite_ff ⟨.bl false, H3, I3, rfl, q3⟩
  | true => exact ite_tt (chain_last (thn (hc pins s3 σ H3 _ I3 q3) fun w' s4 ⟨z', H4, I4, r4, q4⟩ => ho' pins s4 σ H4 y z' u w' Q I4 r2 r4 q4))

/-! ### truth -/
theorem line63 : (sizeLine : Nat) < 2 ^ 63 := by rw [sizeLine_eq]; decide

/-! ### strs and bytes -/
theorem op_add_str : OpR X (binaryOp .Add) (fun x y H Q => ∃ i j, x = .str i ∧ y = .str j ∧ i.length + j.length ≤ sizeLine ∧ Q (.str (i ++ j)) H) := by
  intro pins s σ H x y v u Q I rx ry h
  obtain ⟨i, j, rfl, rfl, hz, q⟩ := h
  obtain ⟨t, rfl⟩ := rx
  obtain ⟨t', rfl⟩ := ry
  exact add_str (fun t' tk => ⟨.str (i ++ j), H, I.tok _, ⟨_, rfl⟩, q⟩) hz


/-! ### scalar builtins, by CallR -/
theorem vals1 {x : V} {us : List Value} (r : Vals [x] us) : ∃ u, us = [u] ∧ RelV x u := by
  cases r with
  | cons r1 r2 => cases r2; exact ⟨_, rfl, r1⟩
theorem vals2 {x y : V} {us : List Value} (r : Vals [x, y] us) : ∃ u w', us = [u, w'] ∧ RelV x u ∧ RelV y w' := by
  cases r with
  | cons r1 r2 =>
    cases r2 with
    | cons r3 r4 => cases r4; exact ⟨_, _, rfl, r1, r3⟩
theorem call_max2 (hc : X.calm = true) : CallR X (.builtin "max") (fun xs H Q => ∃ i j, xs = [.int i, .int j] ∧ Q (.int (if j > i then j else i)) H) := by
  intro pins s σ H xs us Q I r h
  obtain ⟨i, j, rfl, q⟩ := h
  obtain ⟨u, w', rfl, ⟨t, rfl⟩, ⟨t', rfl⟩⟩ := vals2 r
  refine max_two_ints (I.ok.hd hc) fun h' tk k => ⟨_, H, I.kept k, ?_, q⟩
  by_cases hj : j > i
  · rw [if_pos hj, if_pos hj]; exact ⟨_, rfl⟩
  · rw [if_neg hj, if_neg hj]; exact ⟨_, rfl⟩
theorem call_int1 : CallR X (.type "int") (fun xs H Q => (∃ i, xs = [.int i] ∧ Q (.int i) H) ∨ ∃ k, xs = [.bl k] ∧ Q (.int (if k then 1 else 0)) H) := by
  intro pins s σ H xs us Q I r h
  rcases h with ⟨i, rfl, q⟩ | ⟨k, rfl, q⟩
  · obtain ⟨u, rfl, t, rfl⟩ := vals1 r
    exact call_int_int ⟨.int i, H, I, ⟨_, rfl⟩, q⟩
  · obtain ⟨u, rfl, r1⟩ := vals1 r
    cases r1
    exact call_int_bool ⟨.int (if k then 1 else 0), H, I.tok _, ⟨_, rfl⟩, q⟩
end
end L2

namespace L2
open PySem PySem.Spec PyProof.Rows

/-! ### an instance, its attributes a map -/
structure ObjM (h : Heap) (x dx C : Addr) (mA : Str → Option Value) : Prop where
  obj : h.get? x = some (PySem.W.instObj C dx)
  ns : h.Ns1 dx mA
  ne : dx ≠ x

theorem lookIn_ns {h : Heap} {dx : Addr} {mA : Str → Option Value} (n : h.Ns1 dx mA) : ∃ od, h.get? dx = some od ∧ ∀ name, PySem.W.lookIn name od = some (mA name) := by
  obtain ⟨o, es, ep, ho, hd, hk, _, hm⟩ := n
  refine ⟨o, ho, fun name => ?_⟩
  have e := hm name
  unfold nsFind findBy at e
  rw [← Array.find?_toList] at e
  unfold PySem.W.lookIn
  rw [hd]
  dsimp only
  split
  · rename_i y q
    rw [q] at e
    exact congrArg some e
  · rename_i q
    rw [q] at e
    have a : es.toList.any (·.refKey) = false := by
      rw [List.any_eq_false]
      intro y hy
      obtain ⟨z, t, hkey⟩ := hk y (Array.mem_toList_iff.mp hy)
      simp [DictEntry.refKey, hkey]
    have a' : ¬ es.toList.any (·.refKey) = true := by rw [a]; exact Bool.false_ne_true
    rw [if_neg a']
    exact congrArg some e

theorem ObjM.look {h : Heap} {x dx C : Addr} {mA : Str → Option Value} (I : ObjM h x dx C mA) : ∃ od, PySem.W.InstAt h x (PySem.W.instObj C dx) C (some od) ∧ ∀ name, PySem.W.lookIn name od = some (mA name) :=
  let ⟨od, ho, hl⟩ := lookIn_ns I.ns
  ⟨od, ⟨I.obj, rfl, rfl, ho⟩, hl⟩

section
variable {prog : Program} {w : World} {A : Around} {E : Value → Shared → Prop} {s : Shared} {K : PySem.W.Frag} {x dx C f : Addr} {mA : Str → Option Value} {name : Str} {v : Value}





end

/-! ### the attributes as a list of pairs -/

theorem RelO.some_of {v : V} {o : Option Value} (r : RelO (some v) o) : ∃ u, o = some u ∧ RelV v u := by
  cases o with
  | none => exact (show False from r).elim
  | some u => exact ⟨u, rfl, r⟩

section
variable {P : Program} {w : World} {H H' : Hp} {h h' : Heap} {a C dx : Addr} {fs fs' : List (Str × V)}
theorem ins_get (hok : HOk P w H h) (e : H a = some (.ins C dx fs)) : ∃ mA, ObjM h a dx C mA ∧ (∀ f, RelO (fs.lookup f) (mA f)) ∧ PySem.Within mA (fs.map (·.1)) ∧ fs.length ≤ 1000 ∧ H dx = some (.own a) := by
  obtain ⟨d, z, ne, ob, mA, n, r, q⟩ := (show ObjOk P w H h a (.ins C dx fs) from hok a _ e)
  exact ⟨mA, ⟨ob, n, ne⟩, r, q, z, d⟩
end

/-! ### what of the text a class must have -/
structure Cls (K : PySem.W.Frag) (C : Addr) : Prop where
  pg : PySem.W.plainGet K C Str.empty = true
  hd : PySem.W.hasDictIn K C = true
  po : PySem.W.plainOver K C = true
  sa : PySem.W.findIn K (.ref C) "__setattr__" = some (some (.builtin "object.__setattr__"))
theorem Cls.get {K : PySem.W.Frag} {C : Addr} (c : Cls K C) (f : Str) : PySem.W.plainGet K C f = true := c.pg
/-- a constant of the class -/
structure Con (K : PySem.W.Frag) (C : Addr) (f : Str) (v : V) (u : Value) : Prop where
  at_ : PySem.W.findIn K (.ref C) f = some (some u)
  rel : RelV v u
  get : PySem.W.specialIn K u "__get__" = some none
  cp : PySem.W.copiedNames.contains f = false
/-- a method: a plain def of the class or of one above it -/
structure Meth (K : PySem.W.Frag) (C : Addr) (m : Str) (f : Addr) : Prop where
  at_ : PySem.W.findIn K (.ref C) m = some (some (.ref f))
  fn : PySem.W.isFn K (.ref f) = true
  kp : PySem.W.keepIn K (.ref f) = true

section
variable {X : Cx} {pins : List (Addr × Obj)} {σ : St} {H : Hp} {s : Shared} {a C dx : Addr} {fs : List (Str × V)} {f : Str} {v : V} {A : Around} {E : Value → Shared → Prop}





/-- a new instance, tracked, without attributes -/
theorem Inv.made (I : Inv X pins σ H s) : Inv X pins σ (upd (upd H s.heap.objs.size (.own (s.heap.objs.size + 1))) (s.heap.objs.size + 1) (.ins C s.heap.objs.size []))
    { s with heap := (s.heap.push PySem.W.emptyDict).push (PySem.W.instObj C s.heap.objs.size) } := by
  have e1 : (s.heap.push PySem.W.emptyDict).get? s.heap.objs.size = some PySem.W.emptyDict := Heap.get?_push_size s.heap rfl
  have e2 : ((s.heap.push PySem.W.emptyDict).push (PySem.W.instObj C s.heap.objs.size)).get? (s.heap.objs.size + 1) = some (PySem.W.instObj C s.heap.objs.size) := by
    have := Heap.get?_push_size (s.heap.push PySem.W.emptyDict) (o := PySem.W.instObj C s.heap.objs.size) rfl
    rwa [Heap.size_push] at this
  have e3 : (s.heap.push PySem.W.emptyDict).Ns s.heap.objs.size (fun _ => none) := ⟨PySem.W.emptyDict, #[], _, e1, rfl, (fun e he => absurd he (by simp)), fun _ => rfl⟩
  have I1 := I.laid (a := s.heap.objs.size) (o := .own (s.heap.objs.size + 1)) (h' := s.heap.push PySem.W.emptyDict) (t' := s.toks) (fun b u q => Heap.get?_push_of_some _ q) (Nat.le_refl _) ⟨_, e1⟩
  refine I1.laid (a := s.heap.objs.size + 1) (o := .ins C s.heap.objs.size []) (t' := s.toks) (fun b u q => Heap.get?_push_of_some _ q) (Nat.le_of_eq (Heap.size_push _ _)) ?_
  have ne : s.heap.objs.size ≠ s.heap.objs.size + 1 := Nat.ne_of_lt (Nat.lt_succ_self _)
  refine ⟨by rw [upd_ne ne, upd_same], Nat.zero_le _, ne, e2, fun _ => none, (Heap.Ns1.of_empty e3).at fun o q => Heap.get?_push_of_some _ q, fun _ => True.intro, fun y hy => absurd rfl hy⟩

end

/-! ### readings and rules -/

section
variable {X : Cx} {o e value : Expr} {f : Str} {pos pos' tpos : Pos} {ta tv : TE}

end

/-! ### isinstance -/
section
variable {X : Cx} {pins : List (Addr × Obj)} {σ : St} {H : Hp} {s : Shared} {A : Around} {E : Value → Shared → Prop} {Q : Value → Shared → Prop} {c : Value} {b : Bool}
/-- the type of a value, as the fragment's deciders take it; for an instance its class -/
inductive TyOf (K : PySem.W.Frag) (H : Hp) : V → Value → Prop where
  | non : TyOf K H .non (.type "NoneType")
  | bl (x : Bool) : TyOf K H (.bl x) (.type "bool")
  | int (i : Int) : TyOf K H (.int i) (.type "int")
  | str (x : Str) : TyOf K H (.str x) (.type "str")
  | flt (x : UInt64) : TyOf K H (.flt x) (.type "float")
  | lst {a : Addr} {xs : List V} (e : H a = some (.lst xs)) : TyOf K H (.ref a) (.type "list")
  | frz {a : Addr} {o : Obj} {xs : List V} (e : H a = some (.frz o (.lst xs))) : TyOf K H (.ref a) (.type "list")
  | tup {a : Addr} {xs : List V} (e : H a = some (.tup xs)) : TyOf K H (.ref a) (.type "tuple")
  | dK {a : Addr} {kvs : List (Key × V)} (e : H a = some (.dK kvs)) : TyOf K H (.ref a) (.type "dict")
  | dT {a : Addr} {kvs : List (List Key × V)} (e : H a = some (.dT kvs)) : TyOf K H (.ref a) (.type "dict")
  | ins {a C dx : Addr} {fs : List (Str × V)} (e : H a = some (.ins C dx fs)) (cl : Cls K C) (ha : PySem.W.findIn K (.ref C) "__class__" = some (some (.builtin "object.__class__")))
      (hn : PySem.W.specialIn K (.builtin "object.__class__") "__get__" = some (some (.builtin "getset_descriptor.__get__"))) (htk : PySem.W.takesIn K (.builtin "object.__class__") = some true)
      (hm : PySem.W.mroIn K C (.type "object") = some true) : TyOf K H (.ref a) (.ref C)
/-- isinstance(x, c) for one class c, a built-in or an own one: kitOne's answer -/
theorem isinst_ok {x : V} {u t : Value} (I : Inv X pins σ H s) (rx : RelV x u) (ty : TyOf X.K H x t) (e : PySem.W.kitOne X.K t c = some b) (h : ∀ tk, Q (.bool b) { s with toks := tk }) :
    wpAny (model X.prog X.w) A (call (.builtin "isinstance") [u, c]) Q E s := by
  cases ty with
  | non => cases (show u = Value.none from rx); exact PySem.W.kia_one PySem.W.kitx_none I.kIn True.intro e (fun z => nomatch z) h
  | bl y => cases (show u = Value.bool y from rx); exact PySem.W.kia_one PySem.W.kitx_bool I.kIn True.intro e (fun z => nomatch z) h
  | int i => obtain ⟨t, q⟩ := (show ∃ t, u = Value.int i t from rx); cases q; exact PySem.W.kia_one PySem.W.kitx_int I.kIn True.intro e (fun z => nomatch z) h
  | str y => obtain ⟨t, q⟩ := (show ∃ t, u = Value.str y t from rx); cases q; exact PySem.W.kia_one PySem.W.kitx_str I.kIn True.intro e (fun z => nomatch z) h
  | flt y => obtain ⟨t, q⟩ := (show ∃ t, u = Value.float y t from rx); cases q; exact PySem.W.kia_one PySem.W.kitx_float I.kIn True.intro e (fun z => nomatch z) h
  | @lst a xs ea =>
    cases (show u = Value.ref a from rx)
    obtain ⟨_, _, n, _, h1⟩ := (show ObjOk X.prog X.w H s.heap a (.lst xs) from I.hok a _ ea)
    exact PySem.W.kia_one PySem.W.kitx_list I.kIn ⟨_, h1, rfl⟩ e (fun z => nomatch z) h
  | @frz a ob xs ea =>
    cases (show u = Value.ref a from rx)
    obtain ⟨_, _, _, n, _, h1⟩ := (show ObjOk X.prog X.w H s.heap a (.frz ob (.lst xs)) from I.hok a _ ea)
    exact PySem.W.kia_one PySem.W.kitx_list I.kIn ⟨_, h1, rfl⟩ e (fun z => nomatch z) h
  | @tup a xs ea =>
    cases (show u = Value.ref a from rx)
    obtain ⟨_, _, _, p⟩ := (show ObjOk X.prog X.w H s.heap a (.tup xs) from I.hok a _ ea)
    obtain ⟨o, h1, h2, _⟩ := p
    exact PySem.W.kia_one PySem.W.kitx_tuple I.kIn ⟨o, h1, h2⟩ e (fun z => nomatch z) h
  | @dK a kvs ea =>
    cases (show u = Value.ref a from rx)
    obtain ⟨_, _, vs, _, p⟩ := (show ObjOk X.prog X.w H s.heap a (.dK kvs) from I.hok a _ ea)
    obtain ⟨o, es, ep, h1, h2, _⟩ := p
    exact PySem.W.kia_one PySem.W.kitx_dict I.kIn ⟨o, h1, h2.1⟩ e (fun z => nomatch z) h
  | @dT a kvs ea =>
    cases (show u = Value.ref a from rx)
    obtain ⟨_, _, xs, _, o, es, ep, h1, h2, _⟩ := (show ObjOk X.prog X.w H s.heap a (.dT kvs) from I.hok a _ ea)
    exact PySem.W.kia_one PySem.W.kitx_dict I.kIn ⟨o, h1, h2.1⟩ e (fun z => nomatch z) h
  | @ins a C dx fs ea cl ha hn htk hm =>
    cases (show u = Value.ref a from rx)
    obtain ⟨mA, O, _⟩ := ins_get I.hok ea
    obtain ⟨od, J, _⟩ := O.look
    exact PySem.W.kia_one (PySem.W.kitx_own (cl.get _) cl.hd ha hn htk hm) I.kIn J e (fun z => nomatch z) h
end
end L2

namespace L2
open PySem PySem.Spec PyProof.Rows

/-! ### room -/
structure Room (k : Nat) (A : Around) : Prop where
  hd : A.handled = none
  dp : A.depth + 3 * k + 5 < recursionLimit
  un : A.units + 16 * k + 200 < cLine
theorem Room.mono {j k : Nat} {A : Around} (r : Room k A) (h : j ≤ k) : Room j A := ⟨r.hd, by have := r.dp; omega, by have := r.un; omega⟩
theorem Room.deeper {k : Nat} {A : Around} (r : Room (k + 1) A) (env : Env) : Room k (A.deeper env) :=
  ⟨r.hd, by have := r.dp; show A.depth + 1 + 3 * k + 5 < _; omega, by have := r.un; show A.units + 3 + 16 * k + 200 < _; omega⟩
theorem Room.in1 {k : Nat} {A : Around} (r : Room (k + 1) A) : Room k A.in1 :=
  ⟨r.hd, by have := r.dp; show A.depth + 3 * k + 5 < _; omega, by have := r.un; show A.units + 1 + 16 * k + 200 < _; omega⟩
theorem Room.depth {k : Nat} {A : Around} (r : Room k A) : A.depth < recursionLimit := by have := r.dp; omega
theorem Room.units {k : Nat} {A : Around} (r : Room k A) : A.units + 64 < cLine := by have := r.un; omega

/-! ### argument lists and displays -/
def tNil : TA := fun _ H Q => Q [] H
def tCons (ta : TE) (tr : TA) : TA := fun σ H Q => ta σ H fun x H1 => tr σ H1 fun xs H2 => Q (x :: xs) H2
section
variable {X : Cx} {e : Expr} {es : List Expr} {te : TE} {t : TA} {pos : Pos}
theorem pa_nil : PA X [] tNil := fun _ _ _ _ H Q I h => Calls.spliced_nil ⟨[], H, I, .nil, h⟩
theorem pa_cons (ha : PE X e te) (hr : PA X es t) (hs : starEach (e :: es) X.env = (false, eval e X.env) :: starEach es X.env := by rfl) : PA X (e :: es) (tCons te t) := by
  intro pos pins s σ H Q I h
  rw [hs]
  show wpAny _ _ (spliced ((false, eval e X.env) :: backTo pos (starEach es X.env))) _ _ s
  refine Calls.spliced_cons (thn (ha pins s σ H _ I h) fun u s1 ⟨x, H1, I1, r1, q1⟩ => ?_)
  exact thn (hr pos pins s1 σ H1 _ I1 q1) fun us s2 ⟨xs, H2, I2, r2, q2⟩ => ⟨x :: xs, H2, I2, .cons r1 r2, q2⟩

/-- a tuple, a list of written items -/
def tTup (t : TA) : TE := fun σ H Q => t σ H fun xs H1 => xs.length ≤ sizeLine ∧ ∀ p, H1 p = none → Q (.ref p) (upd H1 p (.tup xs))
def tLst (t : TA) : TE := fun σ H Q => t σ H fun xs H1 => xs.length ≤ sizeLine ∧ ∀ p, H1 p = none → Q (.ref p) (upd H1 p (.lst xs))
theorem pe_tup {x1} (h : PA X es t) : PE X (.Tuple es x1 pos) (tTup t) := by
  intro pins s σ H Q I hq
  refine wpAny_Tuple_spliced (thn (h pos pins s σ H _ I hq) fun us s1 ⟨xs, H1, I1, r, z, q⟩ => ⟨by rw [← r.length]; exact z, ?_⟩)
  have hf : H1 s1.heap.objs.size = none := I1.hok.fresh (Nat.le_refl _)
  refine ⟨.ref s1.heap.objs.size, upd H1 s1.heap.objs.size (.tup xs), I1.laid (t' := s1.toks) (fun b u e => Heap.get?_push_of_some _ e) (Nat.le_refl _) ?_, rfl, q _ hf⟩
  exact ⟨z, us, r, ⟨_, Heap.get?_push_size _ rfl, rfl, _, rfl⟩⟩
theorem pe_lst (h : PA X es t) : PE X (.List es pos) (tLst t) := by
  intro pins s σ H Q I hq
  refine wpAny_List_spliced (thn (h pos pins s σ H _ I hq) fun us s1 ⟨xs, H1, I1, r, z, q⟩ => ⟨by rw [← r.length]; exact z, ?_⟩)
  have hf : H1 s1.heap.objs.size = none := I1.hok.fresh (Nat.le_refl _)
  refine ⟨.ref s1.heap.objs.size, upd H1 s1.heap.objs.size (.lst xs), I1.laid (t' := s1.toks) (fun b u e => Heap.get?_push_of_some _ e) (Nat.le_refl _) ?_, rfl, q _ hf⟩
  exact ⟨z, us, 0, r, Heap.get?_push_size _ rfl⟩
end

/-! ### what a def promises -/
/-- a def's promise: the bound arguments in the parameters' order, the heap, the wanted end, the wanted exception -/
abbrev Sp := List V → Hp → VK → XK → Prop
/-- how an exception lies behind a call (file 08 gives it): the callers' frames, abstract heap and state ahead of the call, the wish, the exception, the state -/
abbrev CXT := List Env → Hp → Shared → XK → Value → Shared → Prop

/-- the state at a call -/
structure Env0 (P : Program) (w : World) (K : PySem.W.Frag) (mg : Str → Option Value) (base : Heap) (A : Around) (outer : List Env) (s : Shared) (H : Hp) : Prop where
  frames : A.frames = some outer
  mod : Mod K mg base
  bs : ∀ b o, base.get? b = some o → s.heap.get? b = some o ∧ H b = none
  bsz : base.objs.size ≤ s.heap.objs.size
  funs : s.heap.FunFrames base outer
  frf : ∀ b ∈ frs outer, H b = none
  hok : HOk P w H s.heap
  bare : AllBare s.gens
/-- a call's end -/
def CE (outer : List Env) (P : Program) (w : World) (H : Hp) (s : Shared) (Q : VK) (u : Value) (s' : Shared) : Prop :=
  ∃ v H', s'.os = s.os ∧ AllBare s'.gens ∧ Un (frs outer) [] H H' s.heap s'.heap ∧ HOk P w H' s'.heap ∧ RelV v u ∧ Q v H'
def CR (CX : CXT) (outer : List Env) (P : Program) (w : World) (H : Hp) (s : Shared) (Q : VK) (E : XK) (r : Result) (s' : Shared) : Prop :=
  match r with
  | .ok (.ret u) => CE outer P w H s Q u s'
  | .ok _ => False
  | .error e => CX outer H s E e s'
structure FnOk (P : Program) (w : World) (K : PySem.W.Frag) (mg : Str → Option Value) (base : Heap) (CX : CXT) (k : Nat) (f : Addr) (fd : FuncData) (ps : List Str) (sp : Sp) : Prop where
  len : ∀ vs H Q E, sp vs H Q E → vs.length = ps.length
  run : ∀ (A : Around) (outer : List Env) (s : Shared) (H : Hp) (args : Args) (us : List Value) (vs : List V) (Q : VK) (E : XK), Room k A → Env0 P w K mg base A outer s H → BindsTo s fd args (ps.zip us) → Vals vs us → sp vs H Q E →
    codeAny (model P w) A (.call (.ref f) args) (CR CX outer P w H s Q E) s
theorem FnOk.mono {P : Program} {w : World} {K : PySem.W.Frag} {mg : Str → Option Value} {base : Heap} {CX : CXT} {j k : Nat} {f : Addr} {fd : FuncData} {ps : List Str} {sp : Sp} (F : FnOk P w K mg base CX j f fd ps sp) (h : j ≤ k) :
    FnOk P w K mg base CX k f fd ps sp := ⟨F.len, fun A outer s H args us vs Q E hr => F.run A outer s H args us vs Q E (hr.mono h)⟩
/-- a weaker promise -/
theorem FnOk.imp {P : Program} {w : World} {K : PySem.W.Frag} {mg : Str → Option Value} {base : Heap} {CX : CXT} {k : Nat} {f : Addr} {fd : FuncData} {ps : List Str} {sp sp' : Sp} (F : FnOk P w K mg base CX k f fd ps sp)
    (h : ∀ vs H Q E, sp' vs H Q E → sp vs H Q E) : FnOk P w K mg base CX k f fd ps sp' :=
  ⟨fun vs H Q E q => F.len vs H Q E (h _ _ _ _ q), fun A outer s H args us vs Q E hr he hb hv hs => F.run A outer s H args us vs Q E hr he hb hv (h _ _ _ _ hs)⟩

theorem Env0.in1 {P : Program} {w : World} {K : PySem.W.Frag} {mg : Str → Option Value} {base : Heap} {A : Around} {outer : List Env} {s : Shared} {H : Hp} (e : Env0 P w K mg base A outer s H) :
    Env0 P w K mg base A.in1 outer s H := ⟨e.frames, e.mod, e.bs, e.bsz, e.funs, e.frf, e.hok, e.bare⟩

section
variable {X : Cx} {pins : List (Addr × Obj)} {σ : St} {H : Hp} {s s' : Shared}
/-- from a body: what a callee wants -/
theorem Inv.env0 (I : Inv X pins σ H s) : Env0 X.prog X.w X.K X.mg X.base X.A X.stack s H :=
  ⟨I.ok.frames, I.ok.mod, I.bs, Nat.le_trans I.ok.bsz I.sz, I.stack, I.stkFree, I.hok, I.bare⟩
/-- behind a call -/
theorem Inv.after {Q : VK} {u : Value} (I : Inv X pins σ H s) (h : CE X.stack X.prog X.w H s Q u s') : EP X pins σ Q u s' := by
  obtain ⟨v, H', os, bare, un, hok, r, q⟩ := h
  obtain ⟨hh, g, d, t, os'⟩ := s'
  obtain rfl : os' = s.os := os
  exact ⟨v, H', I.call (h' := hh) (g' := g) (d' := d) (t' := t) (ch := []) un hok bare (fun b z => absurd z (by simp)), r, q⟩
end

/-! ### calls -/
/-- f(..): the written arguments, then the defaults dvs; E: what is wanted of an exception -/
def tCall (sp : Sp) (dvs : List V) (E : XK) (t : TA) : TE := fun σ H Q => t σ H fun vs H1 => sp (vs ++ dvs) H1 Q E

/-- how the parameters are bound: us the positional arguments, kw the keywords' values by name, ds the defaults that fill up -/
def Binds (K : PySem.W.Frag) (fd : FuncData) (ps : List Str) (ds : List Value) : Prop :=
  ∀ (s : Shared) (us : List Value), K.In s.heap → (us ++ ds).length = ps.length → BindsTo s fd ⟨us, []⟩ (ps.zip (us ++ ds))
/-- every parameter is given -/
theorem Binds.all {K : PySem.W.Frag} {fd : FuncData} {ps : List Str} (h : ∀ us : List Value, us.length = ps.length → bindArgs fd ⟨us, []⟩ = pure (ps.zip us)) : Binds K fd ps [] := fun s us _ hl => by
  rw [List.append_nil] at hl ⊢
  exact .of_eq (h us hl)

/-- an exception of a callee reaches what this body wants of exceptions -/
def Passes (CX : CXT) (X : Cx) (E : XK) : Prop := ∀ (pins : List (Addr × Obj)) (σ : St) (H : Hp) (s : Shared) (e : Value) (s' : Shared), Inv X pins σ H s → CX X.stack H s E e s' → X.xe e s'

section
variable {X : Cx} {CX : CXT} {k : Nat} {f C : Addr} {fd : FuncData} {ps : List Str} {sp : Sp} {dvs : List V} {ds : List Value} {E : XK} {x m : Str} {p pos apos : Pos} {e o : Expr} {es : List Expr} {ta : TE} {t : TA}

/-- the callee runs -/
theorem run_fn {pins : List (Addr × Obj)} {σ : St} {H : Hp} {s : Shared} {Q : VK} {us : List Value} {vs : List V} (F : FnOk X.prog X.w X.K X.mg X.base CX k f fd ps sp) (hr : Room k X.A) (hb : Binds X.K fd ps ds) (hd : Vals dvs ds) (hx : Passes CX X E)
    (I : Inv X pins σ H s) (r : Vals vs us) (h : sp (vs ++ dvs) H Q E) : wpAny (model X.prog X.w) X.A (call (.ref f) us) (EP X pins σ Q) X.xe s := by
  have r2 : Vals (vs ++ dvs) (us ++ ds) := r.append hd
  have hl : (us ++ ds).length = ps.length := by rw [← r2.length]; exact F.len _ _ _ _ h
  refine wpAny_call (codeAny_mono (F.run X.A X.stack s H ⟨us, []⟩ (us ++ ds) (vs ++ dvs) Q E hr I.env0 (hb s us I.kIn hl) r2 h) fun r s' hq => ?_)
  cases r with
  | error e => exact hx pins σ H s e s' I hq
  | ok fl =>
    cases fl with
    | ret u => exact I.after hq
    | next => exact False.elim hq
    | brk => exact False.elim hq
    | cont => exact False.elim hq

theorem pe_call (F : FnOk X.prog X.w X.K X.mg X.base CX k f fd ps sp) (hr : Room k X.A) (hg : Gl X x) (hm : X.mg x = some (.ref f)) (hk : PySem.W.keepIn X.K (.ref f) = true) (hb : Binds X.K fd ps ds) (hd : Vals dvs ds) (hx : Passes CX X E)
    (ha : PA X (e :: es) t) (hdb : (x == ("__debug__" : Str)) = false := by decide) (he : starEach (e :: es) X.env = (false, eval e X.env) :: starEach es X.env := by rfl) (hpl : (backTo pos (starEach es X.env)).any (·.1) = false := by rfl) :
    PE X (.Call (.Name x p) (e :: es) [] pos) (tCall sp dvs E t) := by
  intro pins s σ H Q I h
  refine wpAny_Call_Name_kw (ld_glob I hg hm ?_ hdb)
  refine PySem.W.callWith_K (h₀ := X.base) I.ok.mod.kin hk (thn (ha pos pins s σ H _ I h) fun us s1 ⟨vs, H1, I1, r, q⟩ => ⟨I1.kIn, ?_⟩) he hpl
  exact run_fn F hr hb hd hx I1 r q


/-- what a class must have to be made -/
structure Mk (K : PySem.W.Frag) (C f : Addr) : Prop where
  makes : PySem.W.makesIn K C = true
  init : PySem.W.findIn K (.ref C) "__init__" = some (some (.ref f))
  fn : PySem.W.isFn K (.ref f) = true
  kp : PySem.W.keepIn K (.ref C) = true

end

/-! ### keywords -/
section
variable {X : Cx} {CX : CXT} {k : Nat} {f C : Addr} {fd : FuncData} {ps ks : List Str} {sp : Sp} {E : XK} {x m : Str} {p pos apos kpos : Pos} {e o : Expr} {es : List Expr} {kws : List Keyword} {te ta : TE} {t tk : TA} {nm : Option Str}

/-- how a call with keywords binds: g puts the positional values us and the keywords' values ws (names ks) in the parameters' order, defaults among them -/
structure KBinds (K : PySem.W.Frag) (fd : FuncData) (ps ks : List Str) (g : List Value → List Value → List Value) (gV : List V → List V → List V) : Prop where
  to : ∀ (s : Shared) (us ws : List Value), K.In s.heap → (g us ws).length = ps.length → BindsTo s fd ⟨us, ks.zip ws⟩ (ps.zip (g us ws))
  rel : ∀ {vs : List V} {us : List Value} {zs : List V} {ws : List Value}, Vals vs us → Vals zs ws → Vals (gV vs zs) (g us ws)
variable {g : List Value → List Value → List Value} {gV : List V → List V → List V}
end

/-! ### a def's body keeps its promise -/
/-- names: the parameters first -/
structure FnScope (N P : List Str) (sc : Scope) : Prop where
  kind : sc.kind = .function
  co : sc.isCoroutine = false
  gen : sc.isGenerator = false
  nd : N.Nodup
  pre : N.take P.length = P
  par : ∀ x ∈ P, sc.names.lookup x = some .local ∨ sc.names.lookup x = some .cell
  nofree : ∀ y ∈ sc.names, y.2 ≠ .free

theorem bindL_out {kindOf : Str → Option NameKind} {x : Str} : ∀ {binds : List (Str × Value)} {m : Str → Option Value}, (∀ v, (x, v) ∉ binds) → bindL kindOf binds m x = m x
  | [], _, _ => rfl
  | (n, v) :: r, m, h => by
    unfold bindL
    rw [bindL_out fun w hw => h w (List.mem_cons_of_mem _ hw)]
    split
    · have : x ≠ n := by rintro rfl; exact h v List.mem_cons_self
      simp [this]
    · rfl
theorem bindC_out {kindOf : Str → Option NameKind} {x : Str} : ∀ {binds : List (Str × Value)} {m : Str → Option Value}, (∀ v, (x, v) ∉ binds) → bindC kindOf binds m x = m x
  | [], _, _ => rfl
  | (n, v) :: r, m, h => by
    unfold bindC
    rw [bindC_out fun w hw => h w (List.mem_cons_of_mem _ hw)]
    split
    · rfl
    · have : x ≠ n := by rintro rfl; exact h v List.mem_cons_self
      simp [this]
theorem bindL_get {kindOf : Str → Option NameKind} {x : Str} {v : Value} : ∀ {P : List Str} {vs : List Value} {i : Nat} {m : Str → Option Value}, P.Nodup → P[i]? = some x → vs[i]? = some v → kindOf x = some .local →
    bindL kindOf (P.zip vs) m x = some v
  | [], _, _, _, _, h, _, _ => by simp at h
  | _ :: _, [], _, _, _, _, h, _ => by simp at h
  | p :: P, w :: vs, 0, m, nd, h1, h2, hk => by
    simp at h1 h2; subst h1; subst h2
    show bindL kindOf ((p, w) :: P.zip vs) m p = _
    unfold bindL
    rw [bindL_out fun v hv => (List.nodup_cons.mp nd).1 (List.of_mem_zip hv).1, if_pos hk]
    simp
  | p :: P, w :: vs, i + 1, m, nd, h1, h2, hk => by
    show bindL kindOf ((p, w) :: P.zip vs) m x = _
    unfold bindL
    exact bindL_get (i := i) (List.nodup_cons.mp nd).2 (by simpa using h1) (by simpa using h2) hk
theorem bindC_get {kindOf : Str → Option NameKind} {x : Str} {v : Value} : ∀ {P : List Str} {vs : List Value} {i : Nat} {m : Str → Option Value}, P.Nodup → P[i]? = some x → vs[i]? = some v → kindOf x ≠ some .local →
    bindC kindOf (P.zip vs) m x = some v
  | [], _, _, _, _, h, _, _ => by simp at h
  | _ :: _, [], _, _, _, _, h, _ => by simp at h
  | p :: P, w :: vs, 0, m, nd, h1, h2, hk => by
    simp at h1 h2; subst h1; subst h2
    show bindC kindOf ((p, w) :: P.zip vs) m p = _
    unfold bindC
    rw [bindC_out fun v hv => (List.nodup_cons.mp nd).1 (List.of_mem_zip hv).1, if_neg hk]
    simp
  | p :: P, w :: vs, i + 1, m, nd, h1, h2, hk => by
    show bindC kindOf ((p, w) :: P.zip vs) m x = _
    unfold bindC
    exact bindC_get (i := i) (List.nodup_cons.mp nd).2 (by simpa using h1) (by simpa using h2) hk

/-- the names' values at the entry -/
def start (N : List Str) (vs : List V) : St := vs.map some ++ List.replicate (N.length - vs.length) none

/-- the context of a def's body, at its entry; an exception leaves the frame, then lies as CX says -/
def cxOf (CX : CXT) (P : Program) (w : World) (K : PySem.W.Frag) (mg : Str → Option Value) (base : Heap) (N : List Str) (qual : Str) (scope : Scope) (f : Addr) (cd : Value) (A : Around) (outer : List Env) (s : Shared) (H : Hp) (E : XK) : Cx where
  prog := P
  w := w
  K := K
  mg := mg
  base := base
  A := A.deeper (envOfC qual scope s.heap.objs.size f cd)
  N := N
  s₀ := s
  H₀ := H
  env := envOfC qual scope s.heap.objs.size f cd
  outer := outer
  stack := envOfC qual scope s.heap.objs.size f cd :: outer
  ex := []
  calm := true
  fn := fun _ => true
  pn := []
  xe := fun e s' => wpAny (model P w) (A.deeper (envOfC qual scope s.heap.objs.size f cd)) (leaving (envOfC qual scope s.heap.objs.size f cd) e) (fun _ s'' => CX outer H s E e s'') (fun e' s'' => CX outer H s E e' s'') s'

theorem cell_has {sc : Scope} {n : Nat} {x : Str} (h : sc.names.lookup x = some .cell) : ∃ c, (cellsFrom n sc.names []).lookup x = some c := by
  have q := PySem.W.cellsFrom_some sc.names n [] (.inl h)
  exact Option.isSome_iff_exists.mp q

theorem inv_start {CX : CXT} {P : Program} {w : World} {K : PySem.W.Frag} {mg : Str → Option Value} {base : Heap} {N ps : List Str} {qual : Str} {scope : Scope} {f : Addr} {cd : Value} {A : Around} {outer : List Env} {s s1 : Shared} {H : Hp} {E : XK} {us : List Value} {vs : List V}
    (S : FnScope N ps scope) (hd : A.handled = none) (e0 : Env0 P w K mg base A outer s H) (hl : vs.length = ps.length) (r : Vals vs us)
    (x : InCallC s s.heap.objs.size (bindL (envOfC qual scope s.heap.objs.size f cd).kindOf (ps.zip us) fun _ => none) (cellsFrom (s.heap.objs.size + 1) scope.names []) (bindC (envOfC qual scope s.heap.objs.size f cd).kindOf (ps.zip us) fun _ => none) s1) :
    Inv (cxOf CX P w K mg base N qual scope f cd A outer s H E) [] (start N vs) H s1 := by
  have hpl : ps.length ≤ N.length := by have := congrArg List.length S.pre; rw [List.length_take] at this; omega
  obtain ⟨h1, tk, rfl, hk⟩ := x.done
  have noA : ∀ b : Addr, b ∉ (cxOf CX P w K mg base N qual scope f cd A outer s H E).ex := fun b z => absurd (show b ∈ ([] : List Addr) from z) (by simp)
  refine ⟨⟨e0.mod, S.kind, rfl, rfl, Nat.le_refl _, fun y z c h1 h2 => ?_, fun y hy => ?_, fun y c _ h => ?_, fun _ => hd, Around.frames_deeper e0.frames, .inr ⟨rfl, rfl⟩, fun b z => absurd z (noA b), e0.bs, e0.bsz, fun b _ _ => noA b, fun b z => absurd z (noA b), e0.funs, e0.frf⟩,
    rfl, e0.bare, Un.kept hk, ⟨_, x.toInCall.ns, fun i y v h1 h2 h3 => ?_⟩, fun y c h => ⟨_, x.cell y c h⟩, e0.hok.fresh (Nat.le_refl _), fun y c h => ?_, fun p hp => absurd (show p ∈ ([] : List (Addr × Obj)) from hp) (by simp), e0.hok.kept hk, ?_⟩
  · exact name_of_addr x.apart (PySem.mem_of_lookup h1) (PySem.mem_of_lookup h2)
  · have hy : scope.names.lookup y = some .cell ∨ scope.names.lookup y = some .free := hy
    rcases hy with hy | hy
    · exact cell_has hy
    · exact absurd rfl (S.nofree _ (PySem.mem_of_lookup hy))
  · exact Nat.le_of_lt (x.above y c (PySem.mem_of_lookup h))
  · have hi : i < vs.length := by
      unfold start at h2
      by_cases hi : i < vs.length
      · exact hi
      · rw [List.getElem?_append_right (by simpa using hi)] at h2
        rw [List.getElem?_replicate] at h2
        split at h2 <;> cases h2
    have ha : vs[i]? = some v := by
      unfold start at h2
      rw [List.getElem?_append_left (by simpa using hi), List.getElem?_map] at h2
      cases e : vs[i]? with
      | none => rw [e] at h2; cases h2
      | some a => rw [e] at h2; cases h2; rfl
    obtain ⟨u, hu, rv⟩ := r.get ha
    have hp : ps[i]? = some y := by
      rw [← S.pre, List.getElem?_take_of_lt (by omega)]; exact h1
    have ndP : ps.Nodup := by rw [← S.pre]; exact S.nd.sublist (List.take_sublist _ _)
    refine ⟨u, rv, ?_⟩
    rcases S.par y (List.mem_of_getElem? hp) with k | k
    · exact .inl ⟨k, bindL_get ndP hp hu k⟩
    · obtain ⟨c, e⟩ := cell_has (n := s.heap.objs.size + 1) k
      refine .inr ⟨.inl k, c, e, ?_⟩
      have q := x.cell y c e
      rw [bindC_get ndP hp hu (by show scope.names.lookup y ≠ _; rw [k]; decide)] at q
      exact q
  · exact e0.hok.fresh (Nat.le_of_lt (x.above y c (PySem.mem_of_lookup h)))
  · unfold start
    show _ = N.length
    rw [List.length_append, List.length_map, List.length_replicate]
    omega

/-- THE RULE: a def (or a method) of the text, by its body. The body's reading t is chosen for each entry; it is run at the parameters' values -/
theorem fn_of {CX : CXT} {P : Program} {w : World} {K : PySem.W.Frag} {mg : Str → Option Value} {base : Heap} {k : Nat} {f : Addr} {name qual : Str} {params : Arguments} {body : List Stmt} {scope : Scope} {dV kV doc pm cdv ct oc : Value} {an od : Option Addr}
    {osl : Array (Option Value)} {N ps : List Str} {sp : Sp} (lk : K.lookup f = some ⟨oc, od, .func (PySem.W.fnOf name qual params body scope dV kV doc pm an cdv ct), osl⟩) (hcd : PySem.W.codeIn K cdv qual = true) (S : FnScope N ps scope)
    (len : ∀ vs H Q E, sp vs H Q E → vs.length = ps.length)
    (hbody : ∀ (A : Around) (outer : List Env) (s : Shared) (H : Hp) (vs : List V) (Q : VK) (E : XK), Room k (A.deeper (envOfC qual scope s.heap.objs.size f cdv)) → sp vs H Q E →
      ∃ t, PSs (cxOf CX P w K mg base N qual scope f cdv A outer s H E) body t ∧ t { nx := fun _ H' => Q .non H', rt := Q } (start N vs) H) :
    FnOk P w K mg base CX (k + 1) f (PySem.W.fnOf name qual params body scope dV kV doc pm an cdv ct) ps sp := by
  refine ⟨len, fun A outer s H args us vs Q E hr e0 hb r hsp => ?_⟩
  have hl := len _ _ _ _ hsp
  have KX : K.In s.heap := e0.mod.kin.keeps fun b o e => (e0.bs b o e).1
  have lim : s.heap.NoLimit := e0.mod.nolimit.keeps fun b o e => (e0.bs b o e).1
  have hkind : ∀ y ∈ ps.zip us, scope.names.lookup y.1 = some .local ∨ (scope.names.lookup y.1 = some .cell ∧ ((cellsFrom (s.heap.objs.size + 1) scope.names []).lookup y.1).isSome = true) := fun ⟨n, v⟩ hy => by
    rcases S.par n (List.of_mem_zip hy).1 with q | q
    · exact .inl q
    · exact .inr ⟨q, PySem.W.cellsFrom_some _ _ _ (.inl q)⟩
  refine codeAny_call_function hr.depth (KX _ _ lk) rfl S.co S.gen rfl (PySem.W.codeRec_of KX hcd) (hb _ _ _ _ ?_)
  refine wpAny_newFunctionEnv_cells S.kind hkind fun env he s1 x => ?_
  subst he
  refine ⟨lim.keeps x.toInCall.keep, codeAny_func ?_⟩
  obtain ⟨t, ht, hq⟩ := hbody A outer s H vs Q E (hr.deeper _) hsp
  have I : Inv (cxOf CX P w K mg base N qual scope f cdv A outer s H E) [] (start N vs) H s1 := inv_start S hr.hd e0 hl r x
  refine wpAny_mono (ht [] s1 (start N vs) H _ I hq) (fun fl s' hs => ?_) fun e s' hs => hs
  have fin : ∀ {σ' : St} {H' : Hp} {v : V} {u : Value}, Inv (cxOf CX P w K mg base N qual scope f cdv A outer s H E) [] σ' H' s' → RelV v u → Q v H' → CE outer P w H s Q u s' :=
    fun {σ' H' v u} J rv q => ⟨v, H', J.os, J.bare, J.base, J.hok, rv, q⟩
  cases fl with
  | ret u =>
    obtain ⟨v, σ', H', J, rv, q⟩ := hs
    exact fin J rv q
  | next =>
    obtain ⟨σ', H', J, q⟩ := hs
    exact fin (v := V.non) (u := Value.none) J rfl q
  | brk =>
    obtain ⟨_, _, _, q⟩ := hs
    exact False.elim q
  | cont =>
    obtain ⟨_, _, _, q⟩ := hs
    exact False.elim q
end L2

namespace L2
open PySem PySem.Spec PyProof.Rows
section
variable {X : Cx} {x : Str} {p pos : Pos} {e : Expr} {es : List Expr} {t : TA} {id T : String} {r : List V → Hp → VK → Prop}

def tCB (r : List V → Hp → VK → Prop) (t : TA) : TE := fun σ H Q => t σ H fun vs H1 => r vs H1 Q
/-- f(e, ..), f a built-in function -/
theorem pe_callB (hc : CallR X (.builtin id) r) (hg : Gl X x) (hm : X.mg x = none) (hv : bootBuiltins x = some (.builtin id)) (ha : PA X (e :: es) t) (hn : x ≠ "__name__" := by decide) (hdb : (x == ("__debug__" : Str)) = false := by decide)
    (he : starEach (e :: es) X.env = (false, eval e X.env) :: starEach es X.env := by rfl) (hpl : (backTo pos (starEach es X.env)).any (·.1) = false := by rfl) : PE X (.Call (.Name x p) (e :: es) [] pos) (tCB r t) := by
  intro pins s σ H Q I h
  refine wpAny_Call_Name_kw (ld_blt I hg hm hv ?_ hn hdb)
  exact PyProof.Rows.callWith_builtin1 (thn (ha pos pins s σ H _ I h) fun us s1 ⟨vs, H1, I1, r1, q1⟩ => hc pins s1 σ H1 vs us Q I1 r1 q1) he hpl
/-- T(e, ..), T a built-in type -/
theorem pe_callTy (hc : CallR X (.type T) r) (hg : Gl X x) (hm : X.mg x = none) (hv : bootBuiltins x = some (.type T)) (ha : PA X (e :: es) t) (hn : x ≠ "__name__" := by decide) (hdb : (x == ("__debug__" : Str)) = false := by decide)
    (he : starEach (e :: es) X.env = (false, eval e X.env) :: starEach es X.env := by rfl) (hpl : (backTo pos (starEach es X.env)).any (·.1) = false := by rfl) : PE X (.Call (.Name x p) (e :: es) [] pos) (tCB r t) := by
  intro pins s σ H Q I h
  refine wpAny_Call_Name_kw (ld_blt I hg hm hv ?_ hn hdb)
  exact PyProof.Rows.callWith_type1 (thn (ha pos pins s σ H _ I h) fun us s1 ⟨vs, H1, I1, r1, q1⟩ => hc pins s1 σ H1 vs us Q I1 r1 q1) he hpl
end
end L2

namespace HT
open PySem PyProof.Rows



section
open PySem.SeqAt
open PySem.AutoSeq1 (wpAny_loadPart')
open PySem.MeetsSeq PySem.MeetsSeq2 PySem.MeetsSeq3

end

section
variable {prog : Program} {w : World} {A : Around} {E : Value → Shared → Prop} {s : Shared}



/-! ### t[a:b], not the whole -/
/-- a slice's bound as a place among n (d where it is left out) -/
def sIx (n d : Nat) : Option Int → Nat
  | none => d
  | some v => if v < 0 then (v + (n : Int)).toNat else min v.toNat n
theorem sIx_none (n d : Nat) : sIx n d none = d := rfl
theorem sIx_le (n d : Nat) (hd : d ≤ n) (o : Option Int) : sIx n d o ≤ n := by
  cases o with
  | none => exact hd
  | some v =>
    show (if v < 0 then (v + (n : Int)).toNat else min v.toNat n) ≤ n
    by_cases hv : v < 0
    · rw [if_pos hv]; omega
    · rw [if_neg hv]; exact Nat.min_le_right _ _

end
end HT

namespace L2
open PySem PySem.Spec PyProof.Rows

/-! ### the parts of a slice -/
abbrev TO := St → Hp → (Option Int → Hp → Prop) → Prop
/-- a slice's part (left out, or an int) -/
def PO (X : Cx) (e : Option Expr) (t : TO) : Prop :=
  ∀ (pins : List (Addr × Obj)) (s : Shared) (σ : St) (H : Hp) (Q : Option Int → Hp → Prop), Inv X pins σ H s → t σ H Q →
    wpAny (model X.prog X.w) X.A (evalPart e X.env) (fun u s' => ∃ o H', Inv X pins σ H' s' ∧ IsPart u o ∧ Q o H') X.xe s
def tNoPart : TO := fun _ H Q => Q none H
def tPart (t : TE) : TO := fun σ H Q => t σ H fun x H1 => ∃ i, x = .int i ∧ Q (some i) H1


section
variable {X : Cx} {e : Expr} {te : TE} {lo hi : Option Expr} {tl th : TO} {pos p2 : Pos}

theorem po_none : PO X none tNoPart := by
  intro pins s σ H Q I h
  rw [evalPart_none]
  exact wpAny_pure ⟨none, H, I, .none, h⟩
theorem po_some (h : PE X e te) : PO X (some e) (tPart te) := by
  intro pins s σ H Q I hw
  rw [evalPart_some]
  refine thn (h pins s σ H _ I hw) fun u s1 ⟨x, H1, I1, r1, q1⟩ => ?_
  obtain ⟨i, rfl, q⟩ := q1
  obtain ⟨t, rfl⟩ := r1
  exact ⟨some i, H1, I1, .int i t, q⟩

/-- what a slice of a value is, by values: the slice object stands at sl -/
def SlR (X : Cx) (r : V → Option Int → Option Int → Hp → VK → Prop) : Prop :=
  ∀ (pins : List (Addr × Obj)) (s : Shared) (σ : St) (H : Hp) (x : V) (v vl vu : Value) (lo hi : Option Int) (sl : Addr) (Q : VK), Inv X pins σ H s → RelV x v → s.heap.IsSliceOf sl vl vu .none → IsPart vl lo → IsPart vu hi → r x lo hi H Q →
    ∃ T id, typeLookup (.type T) "__getitem__" = pure (some (.builtin id)) ∧ s.TypeIs v T ∧ wpAny (model X.prog X.w) X.A (getItem v (.ref sl)) (EP X pins σ Q) X.xe s
theorem SlR.or {r r' : V → Option Int → Option Int → Hp → VK → Prop} (h : SlR X r) (h' : SlR X r') : SlR X (fun x lo hi H Q => r x lo hi H Q ∨ r' x lo hi H Q) := by
  intro pins s σ H x v vl vu lo hi sl Q I rx hs pl pu q
  rcases q with q | q
  · exact h pins s σ H x v vl vu lo hi sl Q I rx hs pl pu q
  · exact h' pins s σ H x v vl vu lo hi sl Q I rx hs pl pu q
def tSl (r : V → Option Int → Option Int → Hp → VK → Prop) (te : TE) (tl th : TO) : TE := fun σ H Q => te σ H fun x H1 => tl σ H1 fun l H2 => th σ H2 fun u H3 => r x l u H3 Q
/-- a[lo:hi], any a -/
theorem pe_slice {r : V → Option Int → Option Int → Hp → VK → Prop} (hr : SlR X r) (he : PE X e te) (hl : PO X lo tl) (hu : PO X hi th) : PE X (.Subscript e (.Slice lo hi none p2) pos) (tSl r te tl th) := by
  intro pins s σ H Q I h
  refine Subscript_ (thn (he pins s σ H _ I h) fun v s1 ⟨x, H1, I1, r1, q1⟩ => ?_)
  refine wpAny_Slice (thn (hl pins s1 σ H1 _ I1 q1) fun vl s2 ⟨l, H2, I2, pl, q2⟩ => thn (hu pins s2 σ H2 _ I2 q2) fun vu s3 ⟨u, H3, I3, pu, q3⟩ => ?_)
  rw [evalPart_none]
  refine wpAny_pure ?_
  have I4 : Inv X pins σ H3 { s3 with heap := s3.heap.push { cls := .type "slice", data := .fields #[vl, vu, .none] } } := I3.kept (t' := s3.toks) fun b ob q => Heap.get?_push_of_some _ q
  obtain ⟨T, id, hT, ht, hg⟩ := hr pins { s3 with heap := s3.heap.push { cls := .type "slice", data := .fields #[vl, vu, .none] } } σ H3 x v vl vu l u s3.heap.objs.size Q I4 r1 (Heap.IsSliceOf.new ..) pl pu q3
  show wpAny (model X.prog X.w) X.A (subscriptTail e (.Slice lo hi none p2) v (.ref s3.heap.objs.size)) (EP X pins σ Q) X.xe { s3 with heap := s3.heap.push { cls := .type "slice", data := .fields #[vl, vu, .none] } }
  exact tail_any (ops := [.ref s3.heap.objs.size, v]) ht hT hg (by with_unfolding_all rfl)

/-- the items of xs[lo:hi] -/
def cutV (xs : List V) (lo hi : Option Int) : List V := (xs.drop (HT.sIx xs.length 0 lo)).take (HT.sIx xs.length xs.length hi - HT.sIx xs.length 0 lo)
theorem cutV_length (xs : List V) (lo hi : Option Int) : (cutV xs lo hi).length ≤ xs.length := by
  unfold cutV
  rw [List.length_take, List.length_drop]
  omega

/-! ### t < u, t + u -/
end
end L2

namespace L2
open PySem PySem.Spec PyProof.Rows

/-! ### places -/
/-- the place that an index of any sign means -/
def ixN (n : Nat) (i : Int) : Option Nat := if 0 ≤ i then (if i < n then some i.toNat else none) else if -(n : Int) ≤ i then some (i + n).toNat else none
def atI {α : Type} (xs : List α) (i : Int) : Option α := (ixN xs.length i).bind fun j => xs[j]?
theorem ixN_seq {n : Nat} {i : Int} {j : Nat} (h : ixN n i = some j) : seqIndex? i n = some j ∧ j < n ∧ -(n : Int) ≤ i ∧ i < n := by
  unfold ixN at h
  by_cases h0 : 0 ≤ i
  · rw [if_pos h0] at h
    by_cases h1 : i < n
    · rw [if_pos h1] at h
      have e : i.toNat = j := Option.some.inj h
      exact ⟨by rw [seqIndex_of h0 h1, e], by omega, by omega, h1⟩
    · rw [if_neg h1] at h; cases h
  · rw [if_neg h0] at h
    by_cases h1 : -(n : Int) ≤ i
    · rw [if_pos h1] at h
      have e : (i + n).toNat = j := Option.some.inj h
      exact ⟨by rw [seqIndex_neg (by omega) h1, e], by omega, h1, by omega⟩
    · rw [if_neg h1] at h; cases h
theorem atI_get {α : Type} {xs : List α} {i : Int} {v : α} (h : atI xs i = some v) : ∃ j, seqIndex? i xs.length = some j ∧ xs[j]? = some v ∧ j < xs.length ∧ -(xs.length : Int) ≤ i ∧ i < xs.length := by
  unfold atI at h
  cases e : ixN xs.length i with
  | none => rw [e] at h; cases h
  | some j =>
    rw [e] at h
    obtain ⟨h1, h2, h3, h4⟩ := ixN_seq e
    exact ⟨j, h1, h, h2, h3, h4⟩
theorem atI_nat {α : Type} {xs : List α} {j : Nat} {v : α} (h : xs[j]? = some v) : atI xs (j : Int) = some v := by
  have hj : j < xs.length := (List.getElem?_eq_some_iff.mp h).1
  have e : ixN xs.length (j : Int) = some j := by
    unfold ixN
    rw [if_pos (by omega), if_pos (by omega)]; simp
  unfold atI; rw [e]; exact h
theorem atI_last {α : Type} (xs : List α) (v : α) : atI (xs ++ [v]) (-1) = some v := by
  have hl : (xs ++ [v]).length = xs.length + 1 := by simp
  have e : ixN (xs ++ [v]).length (-1) = some xs.length := by
    unfold ixN
    rw [hl, if_neg (by decide), if_pos (by omega)]
    congr 1
    omega
  unfold atI
  rw [e]
  show (xs ++ [v])[xs.length]? = some v
  simp

/-! ### what may be subscripted -/
/-- what stands as an index of a plain subscript -/
def PlainIx (b : Expr) : Prop := ∀ o i, subscripted b false o i = operate [o, i] (getItem o i)
/-- a subscript by values -/
def IxR (X : Cx) (r : R2) : Prop :=
  ∀ (value slice : Expr) (pins : List (Addr × Obj)) (s : Shared) (σ : St) (H : Hp) (x y : V) (v u : Value) (Q : VK), Inv X pins σ H s → RelV x v → RelV y u → r x y H Q →
    subscripted slice false v u = operate [v, u] (getItem v u) → wpAny (model X.prog X.w) X.A (subscriptTail value slice v u) (EP X pins σ Q) X.xe s
/-- a call of a builtin's method by values: the receiver, the arguments -/
def MtR (X : Cx) (id : String) (r : V → List V → Hp → VK → Prop) : Prop :=
  ∀ (pins : List (Addr × Obj)) (s : Shared) (σ : St) (H : Hp) (x : V) (xs : List V) (v : Value) (us : List Value) (Q : VK), Inv X pins σ H s → RelV x v → Vals xs us → r x xs H Q →
    wpAny (model X.prog X.w) X.A (call (.builtin id) (v :: us)) (EP X pins σ Q) X.xe s
section
variable {X : Cx} {a b : Expr} {ta tb : TE} {pos : Pos}
theorem IxR.or {r r' : R2} (h : IxR X r) (h' : IxR X r') : IxR X (fun x y H Q => r x y H Q ∨ r' x y H Q) := by
  intro value slice pins s σ H x y v u Q I rx ry q hs
  rcases q with q | q
  · exact h value slice pins s σ H x y v u Q I rx ry q hs
  · exact h' value slice pins s σ H x y v u Q I rx ry q hs
theorem MtR.or {id : String} {r r' : V → List V → Hp → VK → Prop} (h : MtR X id r) (h' : MtR X id r') : MtR X id (fun x xs H Q => r x xs H Q ∨ r' x xs H Q) := by
  intro pins s σ H x xs v us Q I rx rs q
  rcases q with q | q
  · exact h pins s σ H x xs v us Q I rx rs q
  · exact h' pins s σ H x xs v us Q I rx rs q
/-- a[b] -/
theorem pe_ix {r : R2} (hr : IxR X r) (ha : PE X a ta) (hb : PE X b tb) (hs : PlainIx b) : PE X (.Subscript a b pos) (tOp r ta tb) := by
  intro pins s σ H Q I h
  exact Subscript_ (binT ha hb I h fun v u s2 x y H2 I2 rx ry q => hr a b pins s2 σ H2 x y v u Q I2 rx ry q (hs _ _))

def rIxL (K : PySem.W.Frag) : R2 := fun x y H Q => ∃ p xs i v, x = .ref p ∧ y = .int i ∧ SqL K H p xs ∧ atI xs i = some v ∧ Q v H
def rIxS : R2 := fun x y H Q => ∃ z i c, x = .str z ∧ y = .int i ∧ z.length ≤ sizeLine ∧ atI z.cps.toList i = some c ∧ Q (.str ⟨#[c]⟩) H
theorem ix_list : IxR X (rIxL X.K) := by
  intro value slice pins s σ H x y v u Q I rx ry h hs
  obtain ⟨p, xs, i, z, rfl, rfl, hq, he, q⟩ := h
  cases rx
  obtain ⟨t, rfl⟩ := ry
  obtain ⟨its, r, pl, hz⟩ := I.list hq
  obtain ⟨j, h1, h2, h3, h4, h5⟩ := atI_get he
  obtain ⟨w, ew, rw'⟩ := r.get h2
  have hl := r.length
  have hn := line63
  have fin : EP X pins σ Q w s := ⟨z, H, I, rw', q⟩
  by_cases h0 : 0 ≤ i
  · have hj : i.toNat = j := by
      rw [seqIndex_of h0 h5] at h1
      exact Option.some.inj h1
    exact item_listR pl.isList h0 (by omega) (by rw [hj]; simpa using ew) fin hs
  · have hj : (i + (its.toArray.size : Int)).toNat = j := by
      rw [seqIndex_neg (by omega) h4] at h1
      rw [List.size_toArray, ← hl]
      exact Option.some.inj h1
    exact subscriptTail_builtinR (x := w) pl.isList.typeIs slot_list_getitem.lookup
      (wpAny_getItem_list_neg (Q := fun r s' => r = w ∧ EP X pins σ Q r s') pl.isList (by omega) (by rw [List.size_toArray] <;> omega) (by omega) (by rw [hj]; simpa using ew) ⟨rfl, fin⟩) hs
theorem ix_str : IxR X rIxS := by
  intro value slice pins s σ H x y v u Q I rx ry h hs
  obtain ⟨z, i, c, rfl, rfl, hz, he, q⟩ := h
  obtain ⟨t, rfl⟩ := rx
  obtain ⟨t', rfl⟩ := ry
  obtain ⟨j, h1, h2, h3, h4, h5⟩ := atI_get he
  have hl : z.cps.toList.length = z.length := by simp [Str.length]
  rw [hl] at h1 h4 h5
  have hn := line63
  exact tail_any (typeIs_str s z t) slot_str_getitem.lookup (getItem_str (c := c) (by
    have e1 : decide (i < -(2 ^ 63 : Int)) = false := decide_eq_false (by omega)
    have e2 : decide (i ≥ 2 ^ 63) = false := decide_eq_false (by omega)
    rw [e1, e2, Bool.or_false]) (by rw [h1]; simpa using h2) ⟨.str ⟨#[c]⟩, H, I.tok _, ⟨_, rfl⟩, q⟩) hs

/-! ### xs[i] = v, any sign -/
/-- the list's object behind a store -/
theorem mapSeq_set (its : List Value) (n j : Nat) (u : Value) : Obj.mapSeq (·.setIfInBounds j u) { cls := .type "list", data := .seq its.toArray n } = { cls := .type "list", data := .seq (its.set j u).toArray n } := by
  simp [Obj.mapSeq]
theorem Inv.lst {pins : List (Addr × Obj)} {σ : St} {H : Hp} {s : Shared} {p : Addr} {xs : List V} (I : Inv X pins σ H s) (h : H p = some (.lst xs)) :
    ∃ (its : List Value) (n : Nat), Vals xs its ∧ s.heap.get? p = some { cls := .type "list", data := .seq its.toArray n } ∧ xs.length ≤ sizeLine := by
  obtain ⟨z, its, n, r, e⟩ := I.hok p _ h
  exact ⟨its, n, r, e, z⟩
/-- the list at p is written by an update of its object -/
theorem Inv.lstUpd {pins : List (Addr × Obj)} {σ : St} {H : Hp} {s : Shared} {p : Addr} {xs ys : List V} {its its' : List Value} {n n' : Nat} {f : Obj → Obj} (I : Inv X pins σ H s) (h : H p = some (.lst xs))
    (ho : s.heap.get? p = some { cls := .type "list", data := .seq its.toArray n }) (hf : f { cls := .type "list", data := .seq its.toArray n } = { cls := .type "list", data := .seq its'.toArray n' }) (r : Vals ys its') (hz : ys.length ≤ sizeLine) (t : Nat) :
    Inv X pins σ (upd H p (.lst ys)) { s with heap := s.heap.update p f, toks := t } := by
  have e : (s.heap.update p f).get? p = some { cls := .type "list", data := .seq its'.toArray n' } := by
    rw [Heap.get?_update_self f ho (by rw [hf] <;> rfl), hf]
  refine I.write (x := p) (e := p) (by rw [h]; trivial) (.inl rfl) (fun b u hb q => (Heap.get?_update_other _ _ (Ne.symm hb)).trans q) ⟨_, e⟩ ?_
  exact ⟨hz, its', n', r, e⟩
def rSetL : V → V → V → Hp → (Hp → Prop) → Prop := fun o i v H Q => ∃ p xs k j, o = .ref p ∧ i = .int k ∧ H p = some (.lst xs) ∧ ixN xs.length k = some j ∧ Q (upd H p (.lst (xs.set j v)))
theorem set_list : PSet X rSetL := by
  intro pins s σ H o i v ov iv u Q I ro ri rv h
  obtain ⟨p, xs, k, j, rfl, rfl, hp, hj, q⟩ := h
  cases ro
  obtain ⟨t, rfl⟩ := ri
  obtain ⟨its, n, r, ho, hz⟩ := I.lst hp
  obtain ⟨h1, h2, h3, h4⟩ := ixN_seq hj
  have hl := r.length
  have hn := line63
  have I' : Inv X pins σ (upd H p (.lst (xs.set j v))) { s with heap := s.heap.update p (Obj.mapSeq (·.setIfInBounds j u)) } :=
    I.lstUpd hp ho (mapSeq_set its n j u) (r.set rv j) (by rw [List.length_set]; exact hz) s.toks
  by_cases h0 : 0 ≤ k
  · have hk : k.toNat = j := by
      rw [seqIndex_of h0 h4] at h1
      exact Option.some.inj h1
    exact PySem.W.ki_setAt ho h0 (by omega) (by rw [List.size_toArray, ← hl]; exact h4) (by rw [hk]; exact ⟨_, I', q⟩)
  · have hk : (k + (its.toArray.size : Int)).toNat = j := by
      rw [seqIndex_neg (by omega) h3] at h1
      rw [List.size_toArray, ← hl]
      exact Option.some.inj h1
    exact PySem.W.ki_setBack ho (by omega) (by rw [List.size_toArray, ← hl]; exact h3) (by omega) (by rw [hk]; exact ⟨_, I', q⟩)

/-! ### slices -/
theorem slice_bounds (lo hi : Option Int) (n : Nat) : (sliceBounds lo hi none n).1 = ((HT.sIx n 0 lo : Nat) : Int) ∧ (sliceBounds lo hi none n).2.1 = ((HT.sIx n n hi : Nat) : Int) ∧ (sliceBounds lo hi none n).2.2 = 1 := by
  refine ⟨?_, ?_, rfl⟩
  · cases lo with
    | none => simp [sliceBounds, HT.sIx]
    | some i =>
      simp only [sliceBounds, HT.sIx, Option.getD_none, show (1 : Int) > 0 by decide, if_true]
      by_cases h : i < 0
      · simp only [h, if_true] <;> omega
      · simp only [h, if_false] <;> omega
  · cases hi with
    | none => simp [sliceBounds, HT.sIx]
    | some i =>
      simp only [sliceBounds, HT.sIx, Option.getD_none, show (1 : Int) > 0 by decide, if_true]
      by_cases h : i < 0
      · simp only [h, if_true] <;> omega
      · simp only [h, if_false] <;> omega
theorem slicePick_cut (its : List Value) (lo hi : Option Int) : slicePick its.toArray lo hi none = ((its.drop (HT.sIx its.length 0 lo)).take (HT.sIx its.length its.length hi - HT.sIx its.length 0 lo)).toArray := by
  obtain ⟨h1, h2, h3⟩ := slice_bounds lo hi its.toArray.size
  unfold slicePick
  rw [h1, h2, h3]
  simp only [sliceRange_one, pick_run, List.size_toArray] <;> rfl
/-- xs[lo:hi] of a list: a new list -/
def rSlL (K : PySem.W.Frag) : V → Option Int → Option Int → Hp → VK → Prop := fun x lo hi H Q => ∃ a xs, x = .ref a ∧ SqL K H a xs ∧ ∀ p, H p = none → Q (.ref p) (upd H p (.lst (cutV xs lo hi)))
theorem sl_list : SlR X (rSlL X.K) := by
  intro pins s σ H x v vl vu lo hi sl Q I rx hs pl pu h
  obtain ⟨a, xs, rfl, hx, q⟩ := h
  cases rx
  obtain ⟨its, r, ht, hz⟩ := I.list hx
  have hlen := r.length
  refine ⟨"list", _, slot_list_getitem.lookup, ht.isList.typeIs, ?_⟩
  refine wpAny_getItem_list_slice ht.isList hs pl pu .none (by simp) ?_ (by rw [List.size_toArray] <;> omega)
  rw [slicePick_cut, ← hlen]
  refine ⟨.ref s.heap.objs.size, _, I.laid (t' := s.toks) (o := .lst (cutV xs lo hi)) (fun b ob q => Heap.get?_push_of_some _ q) (Nat.le_refl _) ?_, rfl, q _ (I.hok.fresh (Nat.le_refl _))⟩
  exact ⟨Nat.le_trans (cutV_length xs lo hi) hz, _, 0, (r.drop (HT.sIx xs.length 0 lo)).take (HT.sIx xs.length xs.length hi - HT.sIx xs.length 0 lo), Heap.get?_push_size _ rfl⟩

/-! ### in, not in: flat items -/
def flatV : V → Bool
  | .non => true
  | .bl _ => true
  | .int _ => true
  | .str _ => true
  | _ => false
/-- == of flat values -/
def eqV : V → V → Bool
  | .non, .non => true
  | .bl a, .bl b => a == b
  | .bl a, .int b => (if a then 1 else 0) == b
  | .int a, .bl b => a == (if b then 1 else 0)
  | .int a, .int b => a == b
  | .str a, .str b => a == b
  | _, _ => false
theorem eqAt_V {A : Around} {s : Shared} {y x : V} {u v : Value} (ry : RelV y u) (rx : RelV x v) (fy : flatV y = true) (fx : flatV x = true) : SeqAt.EqAt A s u v (eqV y x) := by
  cases y with
  | non =>
    cases ry
    cases x with
    | non => cases rx; exact SeqAt.EqAt.same _
    | bl b => cases rx; exact SeqAt.EqAt.none_bool b
    | int b => obtain ⟨t, rfl⟩ := rx; exact SeqAt.EqAt.none_int b t
    | str b => obtain ⟨t, rfl⟩ := rx; exact SeqAt.EqAt.none_str b t
    | _ => exact absurd (show false = true from fx) Bool.false_ne_true
  | bl a =>
    cases ry
    cases x with
    | non => cases rx; exact SeqAt.EqAt.bool_none a
    | bl b => cases rx; exact SeqAt.EqAt.bool_bool a b
    | int b => obtain ⟨t, rfl⟩ := rx; exact SeqAt.EqAt.bool_int a b t
    | str b => obtain ⟨t, rfl⟩ := rx; exact SeqAt.EqAt.bool_str a b t
    | _ => exact absurd (show false = true from fx) Bool.false_ne_true
  | int a =>
    obtain ⟨t', rfl⟩ := ry
    cases x with
    | non => cases rx; exact SeqAt.EqAt.int_none a t'
    | bl b => cases rx; exact SeqAt.EqAt.int_bool a t' b
    | int b => obtain ⟨t, rfl⟩ := rx; exact SeqAt.EqAt.int_int a t' b t
    | str b => obtain ⟨t, rfl⟩ := rx; exact SeqAt.EqAt.int_str a t' b t
    | _ => exact absurd (show false = true from fx) Bool.false_ne_true
  | str a =>
    obtain ⟨t', rfl⟩ := ry
    cases x with
    | non => cases rx; exact SeqAt.EqAt.str_none a t'
    | bl b => cases rx; exact SeqAt.EqAt.str_bool a t' b
    | int b => obtain ⟨t, rfl⟩ := rx; exact SeqAt.EqAt.str_int a t' b t
    | str b => obtain ⟨t, rfl⟩ := rx; exact SeqAt.EqAt.str_str a t' b t
    | _ => exact absurd (show false = true from fx) Bool.false_ne_true
  | _ => exact absurd (show false = true from fy) Bool.false_ne_true
/-- the items' answers, read off the values (a value's own answer does not lean on its token) -/
def eqU (x : V) (u : Value) : Bool := match u with
  | .none => eqV .non x
  | .bool b => eqV (.bl b) x
  | .int i _ => eqV (.int i) x
  | .str z _ => eqV (.str z) x
  | _ => false
theorem eqU_of {x y : V} {u : Value} (r : RelV y u) (f : flatV y = true) : eqU x u = eqV y x := by
  cases y with
  | non => cases r; rfl
  | bl b => cases r; rfl
  | int i => obtain ⟨t, rfl⟩ := r; rfl
  | str z => obtain ⟨t, rfl⟩ := r; rfl
  | _ => exact absurd (show false = true from f) Bool.false_ne_true
theorem any_eqU {x : V} : ∀ {xs : List V} {us : List Value}, Vals xs us → xs.all flatV = true → us.any (eqU x) = xs.any fun y => eqV y x
  | _, _, .nil, _ => rfl
  | y :: xs, u :: us, .cons r t, f => by
    rw [List.all_cons, Bool.and_eq_true] at f
    rw [List.any_cons, List.any_cons, eqU_of r f.1, any_eqU t f.2]
theorem mem_eqAt {A : Around} {s : Shared} {x : V} {v : Value} (rx : RelV x v) (fx : flatV x = true) : ∀ {xs : List V} {us : List Value}, Vals xs us → xs.all flatV = true → ∀ u ∈ us, SeqAt.EqAt A s u v (eqU x u)
  | _, _, .nil, _ => fun u hu => by cases hu
  | y :: xs, u :: us, .cons r t, f => fun u' hu => by
    rw [List.all_cons, Bool.and_eq_true] at f
    rcases List.mem_cons.mp hu with rfl | hu
    · rw [eqU_of r f.1]; exact eqAt_V r rx f.1 fx
    · exact mem_eqAt rx fx t f.2 u' hu
def inV (x : V) (xs : List V) : Bool := xs.any fun y => eqV y x
/-- x in a list or tuple of flat items -/
def rIn (K : PySem.W.Frag) (neg : Bool) : R2 := fun x y H Q => ∃ p xs, y = .ref p ∧ (SqL K H p xs ∨ SqT K H p xs) ∧ flatV x = true ∧ xs.all flatV = true ∧ Q (.bl (if neg then !inV x xs else inV x xs)) H
theorem op_notIn_seq : OpR X (compareOp .NotIn) (rIn X.K true) := by
  intro pins s σ H x y v u Q I rx ry h
  obtain ⟨p, xs, rfl, hq, fx, fs, q⟩ := h
  cases ry
  rcases hq with hq | hq
  · obtain ⟨its, r, pl, hz⟩ := I.list hq
    refine SeqAt.notIn_listAt (eqU x) pl.isList (fun w hw => mem_eqAt rx fx r fs w (by simpa using hw)) ⟨.bl _, H, I, rfl, ?_⟩
    rw [show its.toArray.any (eqU x) = its.any (eqU x) by simp, any_eqU r fs]
    exact q
  · obtain ⟨its, r, pl, hz⟩ := I.tuple hq
    refine SeqAt.notIn_tupleAt (eqU x) pl (fun w hw => mem_eqAt rx fx r fs w (by simpa using hw)) ⟨.bl _, H, I, rfl, ?_⟩
    rw [show its.toArray.any (eqU x) = its.any (eqU x) by simp, any_eqU r fs]
    exact q

/-! ### len, list(x), tuple(x) of any list or tuple that is read -/
theorem call_len_seq : CallR X (.builtin "len") (fun xs H Q => ∃ p ys, xs = [.ref p] ∧ (SqL X.K H p ys ∨ SqT X.K H p ys) ∧ Q (.int ys.length) H) := by
  intro pins s σ H xs us Q I r h
  obtain ⟨p, ys, rfl, hq, q⟩ := h
  obtain ⟨u, rfl, rx⟩ := vals1 r
  cases rx
  have hn := line63
  rcases hq with hq | hq
  · obtain ⟨its, r', pl, hz⟩ := I.list hq
    have hlen := r'.length
    exact Calls.call_len_list pl.isList (by simp only [List.size_toArray] <;> omega) ⟨.int ys.length, H, I.tok _, ⟨s.toks + 1, by rw [List.size_toArray, hlen]⟩, q⟩
  · obtain ⟨its, r', pl, hz⟩ := I.tuple hq
    have hlen := r'.length
    exact len_tuple pl (by simp only [List.size_toArray] <;> omega) ⟨.int ys.length, H, I.tok _, ⟨s.toks + 1, by rw [List.size_toArray, hlen]⟩, q⟩
theorem call_len_str : CallR X (.builtin "len") (fun xs H Q => ∃ z, xs = [.str z] ∧ z.length ≤ sizeLine ∧ Q (.int z.length) H) := by
  intro pins s σ H xs us Q I r h
  obtain ⟨z, rfl, hz, q⟩ := h
  obtain ⟨u, rfl, t, rfl⟩ := vals1 r
  have hn := line63
  exact len_str (by omega) ⟨.int z.length, H, I.tok _, ⟨_, rfl⟩, q⟩
theorem CallR.or {f : Value} {r r' : List V → Hp → VK → Prop} (h : CallR X f r) (h' : CallR X f r') : CallR X f (fun xs H Q => r xs H Q ∨ r' xs H Q) := by
  intro pins s σ H xs us Q I rs q
  rcases q with q | q
  · exact h pins s σ H xs us Q I rs q
  · exact h' pins s σ H xs us Q I rs q
theorem call_list_of : CallR X (.type "list") (fun xs H Q => ∃ p ys, xs = [.ref p] ∧ (SqL X.K H p ys ∨ SqT X.K H p ys) ∧ ∀ l, H l = none → Q (.ref l) (upd H l (.lst ys))) := by
  intro pins s σ H xs us Q I r h
  obtain ⟨p, ys, rfl, hq, q⟩ := h
  obtain ⟨u, rfl, rx⟩ := vals1 r
  cases rx
  have fin : ∀ (its : List Value), Vals ys its → ys.length ≤ sizeLine → ∀ (h' : Heap) (c' : Nat), (∀ b o', s.heap.get? b = some o' → h'.get? b = some o') →
      h'.get? s.heap.objs.size = some { cls := .type "list", dict := none, data := .seq its.toArray c', slots := #[] } → EP X pins σ Q (.ref s.heap.objs.size) { s with heap := h' } := fun its r' hz h' c' kp e =>
    ⟨.ref s.heap.objs.size, _, I.laid (t' := s.toks) kp (Nat.le_refl _) (show ObjOk X.prog X.w _ h' _ (.lst ys) from ⟨hz, its, c', r', e⟩), rfl, q _ (I.hok.fresh (Nat.le_refl _))⟩
  rcases hq with hq | hq
  · obtain ⟨its, r', pl, hz⟩ := I.list hq
    have hlen := r'.length
    obtain ⟨o, ho, hc, n, hd⟩ := pl.isList
    exact call_list_seq p (.inl rfl) ho hc hd (fun h' c' kp e => fin its r' hz h' c' kp e) (by simp only [List.size_toArray] <;> omega)
  · obtain ⟨its, r', pl, hz⟩ := I.tuple hq
    have hlen := r'.length
    obtain ⟨o, ho, hc, n, hd⟩ := pl
    exact call_list_seq p (.inr rfl) ho hc hd (fun h' c' kp e => fin its r' hz h' c' kp e) (by simp only [List.size_toArray] <;> omega)

/-! ### the call of a builtin's method: o.m(..) -/
/-- the value is of that builtin type -/
def tyV (K : PySem.W.Frag) (T : String) (x : V) (H : Hp) : Prop := match x with
  | .str _ => T = "str"
  | .int _ => T = "int"
  | .ref p => (T = "list" ∧ ∃ xs, SqL K H p xs) ∨ (T = "tuple" ∧ ∃ o, K.lookup p = some o ∧ o.cls = .type "tuple" ∧ o.dict = none) ∨
      (T = "dict" ∧ ((∃ kvs, H p = some (.dK kvs)) ∨ ∃ kvs, H p = some (.dT kvs))) ∨ (T = "set" ∧ ∃ S n, H p = some (.set S n))
  | _ => False
theorem tyV_is {pins : List (Addr × Obj)} {σ : St} {H : Hp} {s : Shared} {T : String} {x : V} {v : Value} (I : Inv X pins σ H s) (r : RelV x v) (ty : tyV X.K T x H) :
    s.TypeIs v T ∧ ∀ a, v = .ref a → ∃ ob, s.heap.get? a = some ob ∧ ob.dict = none := by
  cases x with
  | str z =>
    obtain ⟨t, rfl⟩ := r
    cases (show T = "str" from ty)
    exact ⟨typeIs_str s z t, fun _ e => nomatch e⟩
  | int i =>
    obtain ⟨t, rfl⟩ := r
    cases (show T = "int" from ty)
    exact ⟨typeIs_int s i t, fun _ e => nomatch e⟩
  | ref p =>
    cases r
    rcases ty with ⟨rfl, xs, hq⟩ | ⟨rfl, o, hk, hc, hd⟩ | ⟨rfl, hk⟩ | ⟨rfl, S, n, hk⟩
    · obtain ⟨its, _, pl, _⟩ := I.list hq
      refine ⟨pl.isList.typeIs, fun a e => ?_⟩
      cases e
      obtain ⟨o, n, e, c, hd, _⟩ := pl
      exact ⟨o, e, hd⟩
    · refine ⟨⟨o, I.kIn p o hk, hc⟩, fun a e => ?_⟩
      cases e
      exact ⟨o, I.kIn _ o hk, hd⟩
    · have z : ∃ o, s.heap.get? p = some o ∧ o.ExactDict := by
        rcases hk with ⟨kvs, hk⟩ | ⟨kvs, hk⟩
        · obtain ⟨_, _, _, _, o, _, _, e, ex, _⟩ := I.hok p _ hk
          exact ⟨o, e, ex⟩
        · obtain ⟨_, _, _, _, o, _, _, e, ex, _⟩ := I.hok p _ hk
          exact ⟨o, e, ex⟩
      obtain ⟨o, e, ex⟩ := z
      refine ⟨⟨o, e, ex.1⟩, fun a e2 => ?_⟩
      cases e2
      exact ⟨o, e, ex.2.1⟩
    · obtain ⟨o, _, _, _, e, ex, _⟩ := I.hok p _ hk
      refine ⟨⟨o, e, ex.1⟩, fun a e2 => ?_⟩
      cases e2
      exact ⟨o, e, ex.2.1⟩
  | _ => exact False.elim ty
def tBM (K : PySem.W.Frag) (T : String) (r : V → List V → Hp → VK → Prop) (to : TE) (t : TA) : TE := fun σ H Q => to σ H fun x H1 => tyV K T x H1 ∧ t σ H1 fun xs H2 => r x xs H2 Q
variable {o e : Expr} {es : List Expr} {to : TE} {t : TA} {name : Str} {apos cpos : Pos} {T id : String} {r : V → List V → Hp → VK → Prop}
theorem pe_bm (pa : PlainAttrs T) (slot : Slot T name id) (hty : typeOf (.builtin id) = pure (.type "method_descriptor")) (hm : MtR X id r) (ho : PE X o to) (ha : PA X (e :: es) t)
    (hbase : attributeBase o name X.env (eval o X.env) = eval o X.env := by rfl)
    (hfew : ((backTo cpos (starEach (e :: es) X.env)).all (fun x => !x.1) && (backToKw cpos (keywordEach [] X.env)).all (fun x => x.1.isSome)
      && decide ((e :: es).length + ([] : List Keyword).length + (if ([] : List Keyword).isEmpty then 0 else 1) < 30)) = true := by rfl)
    (hline : (apos.endLine == cpos.line) = true := by rfl) (hs : starEach (e :: es) X.env = (false, eval e X.env) :: starEach es X.env := by rfl) (hplain : (backTo cpos (starEach es X.env)).any (·.1) = false := by rfl) :
    PE X (.Call (.Attribute o name apos) (e :: es) [] cpos) (tBM X.K T r to t) := by
  intro pins s σ H Q I h
  refine wpAny_Call_method_late hbase hfew hline rfl (thn (ho pins s σ H _ I h) fun v s1 ⟨x, H1, I1, r1, ty, q1⟩ => ?_)
  obtain ⟨h1, h2⟩ := tyV_is I1 r1 ty
  refine ⟨T, id, pa, slot, hty, h1, h2, ?_⟩
  have hA := ha cpos pins s1 σ H1 _ I1 q1
  rw [hs] at hA ⊢
  refine Calls.callWith_builtin (by show (false || (backTo cpos (starEach es X.env)).any (·.1)) = false; rw [hplain] <;> rfl) (Calls.evalArgs_plain ?_)
  exact thn hA fun us s2 ⟨vs, H2, I2, r2, q2⟩ => hm pins s2 σ H2 x vs v us Q I2 r1 r2 q2
/- xs.append(e), list.index on a module's tuple .. are MtR facts of 06m -/
end
end L2

namespace L2
open PySem PySem.Spec PyProof.Rows

def MtM (X : Cx) (id : String) (r : V → List V → Hp → VK → Prop) : Prop :=
  ∀ (pins : List (Addr × Obj)) (s : Shared) (σ : St) (H : Hp) (x : V) (xs : List V) (v : Value) (us : List Value) (Q : VK), Inv X pins σ H s → RelV x v → Vals xs us → r x xs H Q →
    wpAny (model X.prog X.w) X.A (call (.builtin id) (v :: us)) (EP X pins σ Q) X.xe s

/-! ### lists of values -/
theorem Vals.one : ∀ {x : V} {us : List Value}, Vals [x] us → ∃ u, us = [u] ∧ RelV x u
  | _, _, .cons r .nil => ⟨_, rfl, r⟩
theorem Vals.two : ∀ {x y : V} {us : List Value}, Vals [x, y] us → ∃ u v, us = [u, v] ∧ RelV x u ∧ RelV y v
  | _, _, _, .cons r (.cons q .nil) => ⟨_, _, rfl, r, q⟩
theorem Vals.zero : ∀ {us : List Value}, Vals [] us → us = []
  | _, .nil => rfl
theorem Vals.dropLast {xs : List V} {us : List Value} (h : Vals xs us) : Vals xs.dropLast us.dropLast := by
  induction h with
  | nil => exact .nil
  | cons r t ih =>
    cases t with
    | nil => exact .nil
    | cons q t' => exact .cons r ih
theorem Vals.eraseIdx : ∀ {xs : List V} {us : List Value} (i : Nat), Vals xs us → Vals (xs.eraseIdx i) (us.eraseIdx i)
  | _, _, _, .nil => .nil
  | _, _, 0, .cons _ t => t
  | _, _, i + 1, .cons r t => .cons r (Vals.eraseIdx i t)
theorem Vals.reverse {xs : List V} {us : List Value} (h : Vals xs us) : Vals xs.reverse us.reverse := by
  induction h with
  | nil => exact .nil
  | cons r t ih => rw [List.reverse_cons, List.reverse_cons]; exact Vals.append ih (.cons r .nil)
theorem len_erase {α : Type} : ∀ (l : List α) (i : Nat), (l.eraseIdx i).length ≤ l.length
  | [], _ => Nat.le_refl _
  | _ :: _, 0 => Nat.le_succ _
  | _ :: r, i + 1 => Nat.succ_le_succ (len_erase r i)

section
variable {X : Cx} {pins : List (Addr × Obj)} {σ : St} {H : Hp} {s : Shared} {l b : Addr} {xs ys zs : List V}

/-! ### the two steps: a tracked list is rewritten, a new list is laid -/
theorem Inv.lset {its its' : List Value} {n : Nat} {f : Array Value → Array Value} {t' : Nat} (I : Inv X pins σ H s) (hH : H l = some (.lst xs))
    (e : s.heap.get? l = some { cls := .type "list", data := .seq its.toArray n }) (hf : f its.toArray = its'.toArray) (hv : Vals ys its') (hz : ys.length ≤ sizeLine) :
    Inv X pins σ (upd H l (.lst ys)) { s with heap := s.heap.update l (Obj.mapSeq f), toks := t' } := by
  have q := PySem.IsL.update e f
  rw [hf] at q
  refine I.write (x := l) (e := l) (by rw [hH]; exact trivial) (.inl rfl) (fun b' u hb hu => (Heap.get?_update_other s.heap (Obj.mapSeq f) (Ne.symm hb)).trans hu) ⟨_, q⟩ ?_
  exact ⟨hz, its', _, hv, q⟩
theorem Inv.lnew {its : List Value} {t' : Nat} (I : Inv X pins σ H s) (hv : Vals ys its) (hz : ys.length ≤ sizeLine) :
    Inv X pins σ (upd H s.heap.objs.size (.lst ys)) { s with heap := s.heap.push { cls := .type "list", data := .seq its.toArray }, toks := t' } :=
  I.laid (fun _ _ q => Heap.get?_push_of_some _ q) (Nat.le_refl _) ⟨hz, its, 0, hv, Heap.get?_push_size _ rfl⟩
theorem Inv.fresh (I : Inv X pins σ H s) : H s.heap.objs.size = none := I.hok.fresh (Nat.le_refl _)
theorem Inv.lstM (I : Inv X pins σ H s) (hH : H l = some (.lst xs)) : xs.length ≤ sizeLine ∧ ∃ (its : List Value) (n : Nat), Vals xs its ∧ xs.length = its.length ∧ s.heap.get? l = some { cls := .type "list", data := .seq its.toArray n } := by
  obtain ⟨z, its, n, r, e⟩ := I.hok l _ hH
  exact ⟨z, its, n, r, r.length, e⟩

end

section
variable {X : Cx}

/-! ### methods -/



def rPopAt : V → List V → Hp → VK → Prop := fun x vs H Q => ∃ l xs i k y, x = .ref l ∧ vs = [.int i] ∧ H l = some (.lst xs) ∧ -(2 ^ 63) ≤ i ∧ i < 2 ^ 63 ∧ seqIndex? i xs.length = some k ∧ xs[k]? = some y ∧ Q y (upd H l (.lst (xs.eraseIdx k)))
theorem mt_popAt : MtM X "list.pop" rPopAt := by
  intro pins s σ H x vs v us Q I rx rv h
  obtain ⟨l, xs, i, k, y, rfl, rfl, hH, h1, h2, hk, hy, q⟩ := h
  cases rx
  obtain ⟨u, rfl, ru⟩ := rv.one
  obtain ⟨t, rfl⟩ := ru
  obtain ⟨z, its, n, r, hl, e⟩ := I.lstM hH
  obtain ⟨w, hw, rw'⟩ := r.get hy
  refine call_meets F.slot_list_pop ⟨_, e, rfl⟩ F.entry_list_pop (F.args_list_pop_2 _ _)
    (MeetsSeq.list_pop_at l its.toArray n i t k w (fitsIndex_both h1 h2) (by rw [List.size_toArray, ← hl]; exact hk) (by rw [← Array.getElem?_toList]; exact hw) (by rw [List.size_toArray]; omega)) ⟨e, ?_⟩
  refine ⟨y, _, I.lset (its' := its.eraseIdx k) hH e ?_ (r.eraseIdx k) ?_, rw', q⟩
  · show its.toArray.eraseIdxIfInBounds k = (its.eraseIdx k).toArray
    rw [List.eraseIdxIfInBounds_toArray]
  · have := len_erase xs k
    omega



/-! ### list + list, list += list, list * int -/
def rCat : R2 := fun x y H Q => ∃ l b xs zs, x = .ref l ∧ y = .ref b ∧ H l = some (.lst xs) ∧ H b = some (.lst zs) ∧ xs.length + zs.length ≤ sizeLine ∧ ∀ p, H p = none → Q (.ref p) (upd H p (.lst (xs ++ zs)))
theorem op_cat : OpR X (binaryOp .Add) rCat := by
  intro pins s σ H x y v u Q I rx ry h
  obtain ⟨l, b, xs, zs, rfl, rfl, hH, hB, hz, q⟩ := h
  cases rx
  cases ry
  obtain ⟨z, its, n, r, hl, e⟩ := I.lstM hH
  obtain ⟨z2, its2, n2, r2, hl2, e2⟩ := I.lstM hB
  refine PySem.P.add_list e e2 ?_ (by rw [List.size_toArray, List.size_toArray]; omega)
  have ea : its.toArray ++ its2.toArray = (its ++ its2).toArray := by simp
  rw [ea]
  exact ⟨.ref _, _, I.lnew (t' := s.toks) (r.append r2) (by rw [List.length_append]; omega), rfl, q _ I.fresh⟩

/-! ### del xs[i] -/
end

/-! ### xs[a:b] = ys -/
section
variable {prog : Program} {w : World} {A : Around} {E : Value → Shared → Prop} {s : Shared}
set_option maxRecDepth 100000 in
end

section
variable {X : Cx}
end
end L2

namespace Att
open PySem PySem.W PySem.Calls PyProof.Rows

/-! ### the script -/
theorem ints_of_wellAll {P : Params} {h : Heap} : ∀ (ns : List Int) (vs : List Value), WellAll P h vs (ns.map WData.int) → IntsAre vs ns := by
  intro ns
  induction ns with
  | nil =>
    intro vs w
    rw [List.map_nil] at w
    cases w
    exact .nil
  | cons n ns ih =>
    intro vs w
    rw [List.map_cons] at w
    cases w with
    | cons a b =>
      cases a
      exact .cons _ _ (ih _ b)

theorem script_of {l : OpenLaw} {n : Nat} (hn : l.most = some n) {P : Params} {h : Heap} {args : List WData} {vals : List Value}
    (hpre : l.row.toRowW.claim.pre args = true) (hwl : WellAll P h vals args) :
    ∃ a vs ns, vals = [Value.ref a] ∧ args = [WData.list (ns.map WData.int)] ∧ h.get? a = some { cls := .type "list", data := .seq vs.toArray } ∧ IntsAre vs ns ∧ ns.length ≤ n := by
  have hsh : WShape.hasAll [] args [.list .int] = true := (pre_splitW hpre).1
  have hc : l.pre.holds [] { args := args } = true := (pre_splitW hpre).2
  obtain ⟨d, r, rfl, h1, h2⟩ := hasAllW_cons hsh
  obtain rfl := hasAllW_nil h2
  obtain ⟨xs, rfl, h3⟩ := hasW_list h1
  obtain ⟨ns, rfl⟩ := items_int h3
  have hlen : ns.length ≤ n := by
    unfold OpenLaw.pre at hc
    have h4 : (WTm.not (.lt (.lit (.int (n : Int))) (.len (.arg 0)))).holds [] { args := [.list (ns.map .int)] } = true := by
      have h4 := (holds_andW hc).1
      rw [hn] at h4
      exact h4
    have h5 := condW_of h4 (w_not (w_lt w_lit (w_len_list (w_arg rfl))))
    rw [List.length_map] at h5
    refine Nat.le_of_not_lt fun q => ?_
    have q' : (n : Int) < ((ns.length : Nat) : Int) := by omega
    first
      | (rw [decide_eq_true q'] at h5; exact absurd h5 (by decide))
      | (simp at h5; omega)
  cases hwl with
  | cons w1 w2 =>
    cases w2
    cases w1 with
    | list ho hall => exact ⟨_, _, ns, rfl, rfl, ho, ints_of_wellAll ns _ hall, hlen⟩

theorem post_true (l : OpenLaw) (args : List WData) : l.row.toRowW.claim.post args (.bool true) args = true :=
  postW_of (r := l.row.toRowW) (X := (true == true))
    (show WShape.has [] (.bool true) .bool = true by first | rfl | decide | simp [WShape.has, WShape.arms, WShape.armsAll])
    (show (WTm.eq .res (.lit (.bool true))).value [] { args := args, res := some (.bool true), after := args } = some (.bool (true == true)) from w_eq_bool (w_res rfl) w_lit) rfl

/-! ### the attachment: holds_open's last premise (the goal 'hc' behind k_head) from a wpAny of the law's body -/

/-- the same from a codeAny of the CALL (for a layer whose function contracts speak of calls) -/
theorem attach_call {l : OpenLaw} {n : Nat} {q : Program} {loose : List Str} {XP : (Str → Option Value) → Heap → Prop} {YP : World → Heap → Prop} {d : DefRec}
    (hn : l.most = some n) (hdf : d.params.defaults = [])
    (call : ∀ (w : World) (s₀ s₁ : Shared) (mg mb : Str → Option Value) (fa : Addr) (o : Obj) (pm cd doc : Value) (a : Addr) (vs : List Value) (ns : List Int),
      Ground q loose [] XP w s₀ mg mb s₁.heap → YP w s₁.heap →
      s₁.heap.get? fa = some o → o.data = .func (docDef d.name d.params d.body d.scope pm cd doc) → s₁.heap.CodeRec cd d.name → mg d.name = some (.ref fa) →
      s₁.heap.get? a = some { cls := .type "list", data := .seq vs.toArray } → IntsAre vs ns → ns.length ≤ n → s₁.gens = #[] →
      codeAny (model l.prog w) callerA (.call (.ref fa) ⟨[.ref a], []⟩) (fun r s' => r = .ok (.ret (.bool true)) ∧ OldK s₁.heap s'.heap ∧ s'.os = s₁.os ∧ AllBare s'.gens) s₁) :
    WalkO q loose XP YP l.row.toRowW d [] (fun f vs => PySem.call f vs) := by
  intro w s₀ s₁ mg mb G Y fa o pm cd doc dV kV ho hd hcd hD hmg hg args vals as hpre hlay hrd hwl hlo
  obtain rfl : dV = .none := Dflts.none hD hdf
  obtain rfl : kV = .none := Dflts.noKw hD
  obtain ⟨a, vs, ns, rfl, rfl, hobj, hints, hlen⟩ := script_of hn hpre hwl
  refine enter_call (codeAny_mono (call w s₀ s₁ mg mb fa o pm cd doc a vs ns G Y ho (fd_plain hd) hcd hmg hobj hints hlen hg) fun r s' hq => ?_)
  obtain ⟨rfl, h2, h3, h4⟩ := hq
  exact ⟨.inl ⟨.bool true, .bool true, [], rfl, fun _ => rfl, .bool true, post_true l _, fun _ => ⟨List.Pairwise.nil, fun _ hm => (nomatch hm)⟩⟩, h2, h3, h4⟩


/-! ### rules over ANY heap (no ledger) from facts about the written part K: the library's own take a ledger (News) for what they write -/
section
variable {prog : Program} {w : World} {A : Around} {E : Value → Shared → Prop} {s : Shared} {K : Frag}





/-! the whole heap as the ledger: makes every rule that writes through a ledger a rule over any heap -/
def ledger (h : Heap) (L d : Addr) : List (Addr × Obj) := (List.range h.objs.size).filterMap fun a => if a = L ∨ a = d then none else (h.get? a).map fun o => (a, o)

end
end Att

namespace L2
open PySem PySem.Spec PyProof.Rows

theorem vals_ints : ∀ {vs : List Value} {ns : List Int}, IntsAre vs ns → Vals (ns.map V.int) vs
  | _, _, .nil => .nil
  | _, _, .cons n t h => .cons ⟨t, rfl⟩ (vals_ints h)

/-- nothing is tracked but the script, known to the object (or it is an object of the module) -/
def Only (H : Hp) : Prop := ∀ b, H b = none ∨ ∃ o xs, H b = some (.frz o (.lst xs))

/-- THE HEAD: the law's promise, at the heap behind the top. F, the promise of the law's def, may use that base is part of the heap (so K.In base, base.Ns mainGlobals mg stand in Mod) -/
theorem law_call {P : Program} {w : World} {K : PySem.W.Frag} {mg mb : Str → Option Value} {CX : CXT} {k : Nat} {fa a : Addr} {fd : FuncData} {x : Str} {sp : Sp} {s₁ : Shared} {vs : List Value} {ns : List Int}
    (KX : K.In s₁.heap) (hns : s₁.heap.Ns mainGlobals mg) (hb : s₁.heap.Ns builtinsNs mb) (hbb : ∀ x : Str, x ≠ "__name__" → mb x = bootBuiltins x) (hlim : s₁.heap.NoLimit) (hg : s₁.gens = #[])
    (ha : s₁.heap.get? a = some { cls := .type "list", data := .seq vs.toArray }) (hi : IntsAre vs ns) (hl : ns.length ≤ sizeLine) (hr : Room k callerA)
    (F : ∀ base : Heap, K.In base → base.Ns mainGlobals mg → FnOk P w K mg base CX k fa fd [x] sp) (hbind : ∀ (s : Shared) (u : Value), BindsTo s fd ⟨[u], []⟩ [(x, u)])
    (hsp : ∀ H : Hp, Only H → SqL K H a (ns.map V.int) → sp [.ref a] H (fun v _ => v = .bl true) fun _ _ _ => False)
    (hCX : ∀ H e s', CX [] H s₁ (fun _ _ _ => False) e s' → False) :
    codeAny (model P w) callerA (.call (.ref fa) ⟨[.ref a], []⟩) (fun r s' => r = .ok (.ret (.bool true)) ∧ OldK s₁.heap s'.heap ∧ s'.os = s₁.os ∧ AllBare s'.gens) s₁ := by
  have rv := vals_ints hi
  have lenV := hi.length
  -- from an abstract heap in which nothing but the script may be tracked
  have core : ∀ H : Hp, Only H → SqL K H a (ns.map V.int) → HOk P w H s₁.heap → (∀ b, H b ≠ none → b = a) → (H a ≠ none → K.lookup a = none) →
      codeAny (model P w) callerA (.call (.ref fa) ⟨[.ref a], []⟩) (fun r s' => r = .ok (.ret (.bool true)) ∧ OldK s₁.heap s'.heap ∧ s'.os = s₁.os ∧ AllBare s'.gens) s₁ := by
    intro H hO hS hok hA hK
    have base_of : ∀ {b : Addr} {o : Obj}, s₁.heap.get? b = some o → H b = none → (hidT s₁.heap H).get? b = some o := fun e n => hidT_get e n
    have noA : ∀ {b : Addr} {o : Obj} {es : Array DictEntry} {ep : Nat}, s₁.heap.get? b = some o → o.data = .dict es ep → H b = none := fun {b o es ep} e d => by
      cases q : H b with
      | none => rfl
      | some u =>
        have e' : b = a := hA b (by rw [q]; simp)
        subst e'
        rw [ha] at e; cases e
        have d' : Data.seq vs.toArray _ = Data.dict es ep := d
        cases d'
    have nsK : ∀ {b : Addr} {m : Str → Option Value}, s₁.heap.Ns b m → (hidT s₁.heap H).Ns b m := fun {b m} ⟨o, es, ep, e, d, r⟩ => ⟨o, es, ep, base_of e (noA e d), d, r⟩
    have hKb : K.In (hidT s₁.heap H) := fun b o e => base_of (KX b o e) (by
      cases q : H b with
      | none => rfl
      | some u =>
        have e' : b = a := hA b (by rw [q]; simp)
        subst e'
        rw [hK (by rw [q]; simp)] at e; cases e)
    have hM : Mod K mg (hidT s₁.heap H) := ⟨hKb, nsK hns, ⟨mb, nsK hb, hbb⟩, let ⟨mc, h1, h2⟩ := hlim; ⟨mc, nsK h1, h2⟩⟩
    have e0 : Env0 P w K mg (hidT s₁.heap H) callerA [] s₁ H := ⟨rfl, hM, fun b o e => of_hidT e, Nat.le_of_eq (hidT_size _ _), trivial, fun b hb => absurd (show b ∈ ([] : List Addr) from hb) (by simp), hok, .of_eq hg⟩
    refine codeAny_mono ((F _ hKb (nsK hns)).run callerA [] s₁ H ⟨[.ref a], []⟩ [.ref a] [.ref a] _ _ hr e0 (hbind s₁ (.ref a)) (.cons rfl .nil) (hsp H hO hS)) fun r s' h => ?_
    cases r with
    | error e => exact (hCX H e s' h).elim
    | ok fl =>
      cases fl with
      | next => exact False.elim h
      | brk => exact False.elim h
      | cont => exact False.elim h
      | ret u =>
        obtain ⟨v, H', os, bare, un, hok', r', q⟩ := h
        have q' : v = .bl true := q
        subst q'
        obtain rfl : u = Value.bool true := r'
        refine ⟨rfl, OldK.of_keep fun b o e => ?_, os, bare⟩
        cases q : H b with
        | none => exact un.keep b o e q (by intro z; exact absurd (show b ∈ ([] : List Addr) from z) (by simp)) (by simp)
        | some u =>
          rcases hO b with z | ⟨ob, xs, z⟩
          · rw [q] at z; cases z
          · have z2 := un.frzs b ob _ z
            obtain ⟨e1, _⟩ := hok b _ z
            obtain ⟨e2, _⟩ := hok' b _ z2
            rw [e] at e1; cases e1
            exact e2
  cases hk : K.lookup a with
  | some o =>
    -- the script is one of the module's own objects
    have e := KX a o hk
    rw [ha] at e
    cases e
    refine core (fun _ => none) (fun _ => .inl rfl) (.inr ⟨_, vs.toArray, _, hk, rfl, rfl, rfl, by rw [List.size_toArray, lenV]; exact hl, by simpa using rv⟩) (fun b u z => by have z' : (none : Option HO) = some u := z; cases z') (fun b z => absurd rfl z) fun z => absurd rfl z
  | none =>
    refine core (fun b => if b = a then some (.frz { cls := .type "list", data := .seq vs.toArray } (.lst (ns.map V.int))) else none) (fun b => ?_) (.inl (.inr ⟨{ cls := .type "list", data := .seq vs.toArray }, if_pos rfl⟩)) (fun b u z => ?_) (fun b z => ?_) fun _ => hk
    · by_cases hb : b = a
      · exact .inr ⟨_, _, if_pos hb⟩
      · exact .inl (if_neg hb)
    · by_cases hb : b = a
      · have z' := (if_pos hb).symm.trans z
        cases z'
        subst hb
        exact ⟨ha, by rw [List.length_map]; exact hl, vs, _, rv, ha⟩
      · have z' := (if_neg hb).symm.trans z
        cases z'
    · by_cases hb : b = a
      · exact hb
      · exact absurd (if_neg hb) z
end L2

namespace L2
open PySem PySem.Spec PyProof.Rows

abbrev KOf {K : PySem.W.Frag} {h : Heap} (_ : K.In h) : PySem.W.Frag := K

/-- the goal that k_head leaves (case hc), from the law's promise. F gives the function object fd (K's own) once, then the promise over every base -/
theorem walk_of {l : PySem.W.OpenLaw} {n k : Nat} {q : Program} {loose : List Str} {XP : (Str → Option Value) → Heap → Prop} {YP : World → Heap → Prop} {d : DefRec} {K : Params → PySem.W.Frag} {CX : World → CXT} {sp : World → Sp} {x : Str}
    (hn : l.most = some n) (hn2 : n ≤ sizeLine) (hdf : d.params.defaults = []) (hr : Room k callerA)
    (hY : ∀ (w : World) (h : Heap), YP w h → (K w.params).In h)
    (F : ∀ (w : World) (mg : Str → Option Value) (fa : Addr) (h : Heap), (K w.params).In h → h.Ns mainGlobals mg → mg d.name = some (.ref fa) →
      ∃ fd : FuncData, (∀ (s : Shared) (u : Value), BindsTo s fd ⟨[u], []⟩ [(x, u)]) ∧
        ∀ base : Heap, (K w.params).In base → base.Ns mainGlobals mg → FnOk l.prog w (K w.params) mg base (CX w) k fa fd [x] (sp w))
    (hsp : ∀ (w : World) (H : Hp) (a : Addr) (ns : List Int), ns.length ≤ n → Only H → SqL (K w.params) H a (ns.map V.int) → sp w [.ref a] H (fun v _ => v = .bl true) fun _ _ _ => False)
    (hCX : ∀ (w : World) (H : Hp) (s : Shared) (e : Value) (s' : Shared), CX w [] H s (fun _ _ _ => False) e s' → False) :
    PySem.W.WalkO q loose XP YP l.row.toRowW d [] (fun f vs => PySem.call f vs) := by
  refine Att.attach_call hn hdf fun w s₀ s₁ mg mb fa o pm cd doc a vs ns G Y ho hd hcd hmg hobj hints hlen hg => ?_
  have KX := hY w _ Y
  obtain ⟨fd, hb, hF⟩ := F w mg fa _ KX G.T.g hmg
  exact law_call KX G.T.g G.T.b G.T.builtins G.T.nolimit hg hobj hints (Nat.le_trans hlen hn2) hr hF hb (fun H hO hS => hsp w H a ns hlen hO hS) fun H e s' => hCX w H s₁ e s'
end L2

/- THE LAST THEOREM (shape; LID, My.* are yours):
   My.Adr: a structure of the addresses that your layer names (classes, functions); My.Txt K t: a structure (Prop) of the equations over K;
   My.txt_mk : {K} {implicit addresses ..} (e1 : nsIn K mainGlobals "law" = some (some (.ref f))) (e2 : K.lookup f = some ⟨oc, od, .func (fnOf "law" "law" params body scope dV kV doc pm an cdv ct), sl⟩) (e3 : codeIn K cdv "law" = true) .. : ∃ t, My.Txt K t

set_option maxRecDepth 100000 in
set_option maxHeartbeats 0 in
theorem PySem.Challenge.cw_LID_holds : PySem.Challenge.rw_LID.Holds := by
  w_on; o_law; k_head; (case hw => w_witness2)
  k_fill
  refine L2.walk_of (l := PySem.Challenge.rw_LID) (n := 63) (k := 40) (x := "script") (CX := fun w => ..) (sp := fun _ => My.sp_law) rfl (by decide) rfl ⟨rfl, by decide, by decide⟩ (fun w h Y => PySem.W.kIn_of Y) ?F ?S ?C
  case F =>
    intro w mg fa h KX G hmg
    have T : ∃ t, My.Txt (L2.KOf KX) t := by
      dsimp only [L2.KOf]                          -- K must stand as «<heap const> w.params» for k_is
      refine' My.txt_mk ?e1 ?e2 ?e3 ..
      (case e1 => PySem.W.k_is)                    -- in the order: a name -> its address -> its object -> its parts
      (case e2 => PySem.W.k_is)
      ..
    obtain ⟨t, T⟩ := T
    have e0 := hmg.symm.trans (PySem.W.mg_of KX G T.law)
    cases e0                                       -- fa is the law's own address
    exact ⟨_, fun s u => .of_eq rfl, fun base kb nb => My.law_fn T kb nb⟩     -- if «.of_eq rfl» comes too early: refine' ⟨_, ?b, fun base kb nb => My.law_fn T kb nb⟩; exact fun s u => .of_eq rfl
  case S => exact fun w H a ns hl hO hS => ..
  case C => exact ..
(the tactic k_is has no namespace: write k_is) -/

/-! SHORT WORDS over the layer: a def of the text, its body, what a loop and a test want. -/
namespace L2
open PySem PySem.Spec PyProof.Rows

/-! ### the text by places -/
def defArgs (s : Stmt) : Arguments := match s with
  | .FunctionDef _ a _ _ _ _ _ _ _ _ => a
  | _ => { posonlyargs := [], args := [], vararg := none, kwonlyargs := [], kw_defaults := [], kwarg := none, defaults := [] }
def defBody (s : Stmt) : List Stmt := match s with
  | .FunctionDef _ _ b _ _ _ _ _ _ _ => b
  | _ => []
def defScope (s : Stmt) : Scope := match s with
  | .FunctionDef _ _ _ _ _ _ sc _ _ _ => sc
  | _ => { kind := .function, names := [], isGenerator := false, isCoroutine := false }

/-! ### no exception leaves a def -/
abbrev CX0 : CXT := fun _ _ _ _ _ _ => False
abbrev E0 : XK := fun _ _ _ => False
theorem pass0 {X : Cx} : Passes CX0 X E0 := fun _ _ _ _ _ _ _ h => h.elim

/-! ### a def (or method) of the text as it stands behind the top -/
structure Fun (K : PySem.W.Frag) (x qual : Str) (st : Stmt) (f : Addr) (fd : FuncData) : Prop where
  ex : ∃ (oc : Value) (od : Option Addr) (kV doc pm : Value) (an : Option Addr) (cdv ct : Value) (osl : Array (Option Value)),
    fd = PySem.W.fnOf x qual (defArgs st) (defBody st) (defScope st) .none kV doc pm an cdv ct ∧ K.lookup f = some ⟨oc, od, .func fd, osl⟩ ∧ PySem.W.codeIn K cdv qual = true
  kp : PySem.W.keepIn K (.ref f) = true
section
variable {P : Program} {w : World} {K : PySem.W.Frag} {mg : Str → Option Value} {base : Heap}
/-- THE RULE for a def: its body as a term of rules, and the reading of that term -/
theorem Fun.ok {x qual : Str} {st : Stmt} {f : Addr} {fd : FuncData} {N ps : List Str} {k : Nat} {sp : Sp} (F : Fun K x qual st f fd) (S : FnScope N ps (defScope st)) (len : ∀ vs H Q E, sp vs H Q E → vs.length = ps.length)
    (hbody : ∀ (cdv : Value) (A : Around) (outer : List Env) (s : Shared) (H : Hp) (vs : List V) (Q : VK) (E : XK), Room k (A.deeper (envOfC qual (defScope st) s.heap.objs.size f cdv)) → sp vs H Q E →
      ∃ t, PSs (cxOf CX0 P w K mg base N qual (defScope st) f cdv A outer s H E).nox (defBody st) t ∧ t { nx := fun _ H' => Q .non H', rt := Q } (start N vs) H) : FnOk P w K mg base CX0 (k + 1) f fd ps sp := by
  obtain ⟨oc, od, kV, doc, pm, an, cdv, ct, osl, rfl, lk, hcd⟩ := F.ex
  refine fn_of lk hcd S len fun A outer s H vs Q E hr hsp => ?_
  obtain ⟨t, h, q⟩ := hbody cdv A outer s H vs Q E hr hsp
  exact ⟨t, h.nox, q⟩
/-- how its arguments bind (no defaults): h is «fun _ _ _ _ _ _ us hl => match us, hl with | [_, _], _ => rfl», one _ a parameter -/
theorem Fun.binds {x qual : Str} {st : Stmt} {f : Addr} {fd : FuncData} {ps : List Str} (F : Fun K x qual st f fd)
    (h : ∀ (kV doc pm : Value) (an : Option Addr) (cdv ct : Value) (us : List Value), us.length = ps.length → bindArgs (PySem.W.fnOf x qual (defArgs st) (defBody st) (defScope st) .none kV doc pm an cdv ct) ⟨us, []⟩ = pure (ps.zip us)) : Binds K fd ps [] := by
  obtain ⟨oc, od, kV, doc, pm, an, cdv, ct, osl, rfl, lk, hcd⟩ := F.ex
  exact .all (h kV doc pm an cdv ct)
theorem fun_mk {x qual : Str} {st : Stmt} {f : Addr} {oc : Value} {od an : Option Addr} {osl : Array (Option Value)} {kV doc pm cdv ct : Value} (l : K.lookup f = some ⟨oc, od, .func (PySem.W.fnOf x qual (defArgs st) (defBody st) (defScope st) .none kV doc pm an cdv ct), osl⟩)
    (c : PySem.W.codeIn K cdv qual = true) (k : PySem.W.keepIn K (.ref f) = true) : Fun K x qual st f (PySem.W.fnOf x qual (defArgs st) (defBody st) (defScope st) .none kV doc pm an cdv ct) := ⟨⟨oc, od, kV, doc, pm, an, cdv, ct, osl, rfl, l, c⟩, k⟩
end
theorem hu_of {A : Around} {k : Nat} (hr : Room k A) : A.units + 1 < cLine := Nat.lt_of_le_of_lt (Nat.add_le_add_left (by decide : 1 ≤ 64) _) hr.units
theorem small1000 {n : Nat} (h : n ≤ 1000) : n < sizeLine := Nat.lt_of_le_of_lt h (by decide)

/-! ### expressions in short: the name that stands in the i-th slot -/
section
variable {X : Cx}
theorem pv (i : Nat) {x : Str} {pos : Pos} (hN : X.N[i]? = some x := by rfl) (hv : Vis X.env.scope x := by first | exact Or.inl rfl | exact Or.inr (Or.inl rfl) | exact Or.inr (Or.inr rfl)) (hd : (x == ("__debug__" : Str)) = false := by decide)
    (hcd : (x == ("__classdict__" : Str)) = false := by decide) : PE X (.Name x pos) (tVar i) := pe_var hN hv hd hcd
end

/-! ### tests -/
theorem iteF {A B : Prop} (h : B) : if false = true then A else B := by
  rw [if_neg Bool.false_ne_true]
  exact h
theorem iteT {A B : Prop} (h : A) : if true = true then A else B := by
  rw [if_pos rfl]
  exact h
theorem ite2 {c A B : Prop} [Decidable c] (h1 : c → A) (h2 : ¬ c → B) : if c then A else B := by
  by_cases h : c
  · rw [if_pos h]
    exact h1 h
  · rw [if_neg h]
    exact h2 h

/-! ### heaps -/
/-- all that was tracked is as it was -/
def Same (H H' : Hp) : Prop := ∀ b o, H b = some o → H' b = some o
theorem Same.refl (H : Hp) : Same H H := fun _ _ h => h
theorem Same.trans {H H1 H2 : Hp} (a : Same H H1) (b : Same H1 H2) : Same H H2 := fun c o h => b c o (a c o h)
theorem Same.free {H H' : Hp} (e : Same H H') {l : Addr} (h : H' l = Option.none) : H l = Option.none := by
  cases q : H l with
  | none => rfl
  | some o =>
    rw [e l o q] at h
    cases h
theorem Same.seq {K : PySem.W.Frag} {H H' : Hp} {a : Addr} {xs : List V} (e : Same H H') (h : SqL K H a xs) : SqL K H' a xs := by
  rcases h with (h | ⟨o, h⟩) | h
  · exact .inl (.inl (e _ _ h))
  · exact .inl (.inr ⟨o, e _ _ h⟩)
  · exact .inr h

end L2

set_option maxHeartbeats 4000000
namespace L2
open PySem PySem.Spec PyProof.Rows

/-! ### comprehensions -/
/-- what is asked of a comprehension's block: sc its names, outer the names around it, M the outer names that it may see (others hidden), x its own -/
def compOK (outer sc : Scope) (x : Str) (M N : List Str) : Bool :=
  decide (sc.kind = .function) && sc.names.all (fun y => decide (y.2 ≠ .cell)) && sc.names.all (fun y => decide (y.2 = .local → sc.names.lookup y.1 = some .local)) && decide (sc.names.lookup x = some .local) &&
  sc.names.all (fun y => decide (y.2 = .free → (outer.names.lookup y.1 = some .cell ∨ outer.names.lookup y.1 = some .free))) &&
  decide ((M ++ [x]).Nodup) && decide (M.length = N.length) && (M.zip N).all (fun p => decide (p.1 = p.2 ∨ sc.names.lookup p.1 = none)) && M.all (fun y => decide (sc.names.lookup y ≠ some .local))

theorem lookup_relabel {env : Env} : ∀ {names : List (Str × NameKind)} {x : Str} {k' : NameKind},
    (names.map fun (n, k) => if (k == NameKind.free && env.scope.kind == .function && env.kindOf n == some .cell) then (n, NameKind.cell) else (n, k)).lookup x = some k' →
    ∃ k, names.lookup x = some k ∧ (k' = k ∨ (k = .free ∧ k' = .cell))
  | [], _, _, h => by simp at h
  | (n, k) :: r, x, k', h => by
    have ih := @lookup_relabel env r x k'
    have h' : List.lookup x ((if (k == NameKind.free && env.scope.kind == .function && env.kindOf n == some .cell) = true then (n, NameKind.cell) else (n, k)) :: _) = some k' := h
    cases hx : x == n with
    | true =>
      by_cases hc : ((k == NameKind.free && env.scope.kind == .function && env.kindOf n == some .cell)) = true
      · rw [if_pos hc] at h'
        simp only [List.lookup_cons, hx] at h'
        refine ⟨k, by simp [List.lookup_cons, hx], .inr ⟨?_, (Option.some.inj h').symm⟩⟩
        simp only [Bool.and_eq_true, beq_iff_eq] at hc
        exact hc.1.1
      · rw [if_neg hc] at h'
        simp only [List.lookup_cons, hx] at h'
        exact ⟨k, by simp [List.lookup_cons, hx], .inl (Option.some.inj h').symm⟩
    | false =>
      have h'' : List.lookup x (r.map fun (n, k) => if (k == NameKind.free && env.scope.kind == .function && env.kindOf n == some .cell) then (n, NameKind.cell) else (n, k)) = some k' := by
        by_cases hc : ((k == NameKind.free && env.scope.kind == .function && env.kindOf n == some .cell)) = true
        · rw [if_pos hc] at h'; simp only [List.lookup_cons, hx] at h'; exact h'
        · rw [if_neg hc] at h'; simp only [List.lookup_cons, hx] at h'; exact h'
      obtain ⟨k0, a, b⟩ := ih h''
      exact ⟨k0, by simp only [List.lookup_cons, hx]; exact a, b⟩

theorem closure_go {env : Env} : ∀ (names : List (Str × NameKind)) (cs : List (Str × Addr)), (∀ y ∈ names, y.2 = .free → ∃ c, env.cells.lookup y.1 = some c) → (∀ y c, cs.lookup y = some c → env.cells.lookup y = some c) →
    ∃ cl, (forIn names cs fun (x : Str × NameKind) (r : List (Str × Addr)) => (if (x.2 == NameKind.free) = true then (do let a ← cellOf env x.1; pure (ForInStep.yield ((x.1, a) :: r))) else pure (ForInStep.yield r) : Sem _)) = pure cl ∧
      (∀ y c, cl.lookup y = some c → env.cells.lookup y = some c) ∧ (∀ y, ((∃ c, cs.lookup y = some c) ∨ (y, NameKind.free) ∈ names) → ∃ c, cl.lookup y = some c)
  | [], cs, _, hc => ⟨cs, rfl, hc, fun y h => by
      rcases h with h | h
      · exact h
      · cases h⟩
  | (n, k) :: r, cs, hf, hc => by
    by_cases hk : k = .free
    · subst hk
      obtain ⟨a, ha⟩ := hf (n, .free) List.mem_cons_self rfl
      have hc' : ∀ y c, List.lookup y ((n, a) :: cs) = some c → env.cells.lookup y = some c := fun y c e => by
        simp only [List.lookup_cons] at e
        split at e
        · rename_i q
          have q' : y = n := by simpa using q
          subst q'
          exact ha.trans e
        · exact hc y c e
      obtain ⟨cl, h1, h2, h3⟩ := closure_go r ((n, a) :: cs) (fun y hy => hf y (List.mem_cons_of_mem _ hy)) hc'
      refine ⟨cl, ?_, h2, fun y h => ?_⟩
      · rw [List.forIn_cons]
        show ((if (NameKind.free == NameKind.free) = true then (do let a ← cellOf env n; pure (ForInStep.yield ((n, a) :: cs))) else pure (ForInStep.yield cs) : Sem _) >>= _) = _
        rw [if_pos (by decide)]
        have e : cellOf env n = pure a := by unfold cellOf; rw [ha]
        rw [e]
        exact h1
      · refine h3 y ?_
        rcases h with ⟨c, h⟩ | h
        · left
          simp only [List.lookup_cons]
          split
          · exact ⟨_, rfl⟩
          · exact ⟨c, h⟩
        · rcases List.mem_cons.mp h with q | q
          · left
            cases q
            exact ⟨a, by simp [List.lookup_cons]⟩
          · exact .inr q
    · obtain ⟨cl, h1, h2, h3⟩ := closure_go r cs (fun y hy => hf y (List.mem_cons_of_mem _ hy)) hc
      refine ⟨cl, ?_, h2, fun y h => ?_⟩
      · rw [List.forIn_cons]
        show ((if (k == NameKind.free) = true then (do let a ← cellOf env n; pure (ForInStep.yield ((n, a) :: cs))) else pure (ForInStep.yield cs) : Sem _) >>= _) = _
        rw [if_neg (by simpa using hk)]
        exact h1
      · refine h3 y ?_
        rcases h with h | h
        · exact .inl h
        · rcases List.mem_cons.mp h with q | q
          · cases q; exact absurd rfl hk
          · exact .inr q

theorem closure_ok {env : Env} {scope : Scope} (hf : ∀ y ∈ scope.names, y.2 = .free → ∃ c, env.cells.lookup y.1 = some c) :
    ∃ cl, closureFor scope env = pure cl ∧ (∀ y c, cl.lookup y = some c → env.cells.lookup y = some c) ∧ (∀ y, (y, NameKind.free) ∈ scope.names → ∃ c, cl.lookup y = some c) := by
  obtain ⟨cl, h1, h2, h3⟩ := closure_go scope.names [] hf (fun y c e => by simp at e)
  refine ⟨cl, ?_, h2, fun y h => h3 y (.inr h)⟩
  unfold closureFor
  rw [← bind_pure (x := (pure cl : Sem _)), ← h1]

/-- a block's own: its cells, its frame, the state and the heap ahead of it, the iterator's records -/
structure CB where
  cl : List (Str × Addr)
  C : Addr
  s2 : Shared
  H2 : Hp
  fp : List Addr
/-- the block's context -/
def Cx.comp (X : Cx) (N' : List Str) (scope : Scope) (b : CB) : Cx where
  prog := X.prog
  w := X.w
  K := X.K
  mg := X.mg
  base := X.base
  A := X.A
  N := N'
  s₀ := b.s2
  H₀ := b.H2
  env := compEnvC scope b.cl b.C X.env
  outer := X.stack
  stack := X.stack
  ex := b.fp
  fn := fun _ => false
  calm := X.calm
  pn := []
  xe := fun _ _ => False

structure CompOK (outer sc : Scope) (x : Str) (M N : List Str) : Prop where
  kind : sc.kind = .function
  nocell : ∀ y ∈ sc.names, y.2 ≠ .cell
  loc : ∀ y ∈ sc.names, y.2 = .local → sc.names.lookup y.1 = some .local
  own : sc.names.lookup x = some .local
  free : ∀ y ∈ sc.names, y.2 = .free → (outer.names.lookup y.1 = some .cell ∨ outer.names.lookup y.1 = some .free)
  nd : (M ++ [x]).Nodup
  len : M.length = N.length
  same : ∀ p ∈ M.zip N, p.1 = p.2 ∨ sc.names.lookup p.1 = none
  noloc : ∀ y ∈ M, sc.names.lookup y ≠ some .local
theorem compOK_of {outer sc : Scope} {x : Str} {M N : List Str} (h : compOK outer sc x M N = true) : CompOK outer sc x M N := by
  unfold compOK at h
  simp only [Bool.and_eq_true, decide_eq_true_eq, List.all_eq_true] at h
  obtain ⟨⟨⟨⟨⟨⟨⟨⟨h1, h2⟩, h3⟩, h4⟩, h5⟩, h6⟩, h7⟩, h8⟩, h9⟩ := h
  exact ⟨h1, h2, h3, h4, h5, h6, h7, h8, h9⟩

section
variable {X : Cx} {pins : List (Addr × Obj)} {σ : St} {H2 : Hp} {s2 : Shared} {scope : Scope} {x : Str} {M : List Str} {cl : List (Str × Addr)} {fp : List Addr} {h1 : Heap} {t' : Nat}

/-- the block's entry -/
theorem Inv.comp (I : Inv X pins σ H2 s2) (K : CompOK X.env.scope scope x M X.N) (hcl : ∀ y c, cl.lookup y = some c → X.env.cells.lookup y = some c) (hcf : ∀ y, (y, NameKind.free) ∈ scope.names → ∃ c, cl.lookup y = some c)
    (hfp : ∀ b ∈ fp, FpOk X pins H2 b) (hlt : ∀ b ∈ fp, b < s2.heap.objs.size) (kp : ∀ b o, s2.heap.get? b = some o → h1.get? b = some o) (hD : h1.get? s2.heap.objs.size = some { cls := .type "list", dict := none, data := .seq ([] : List Value).toArray })
    (hC : h1.Ns (s2.heap.objs.size + 1) (fun _ => none)) :
    Inv (X.comp (M ++ [x]) scope ⟨cl, s2.heap.objs.size + 1, s2, H2, fp⟩) [] (σ ++ [none]) (upd H2 s2.heap.objs.size (.lst [])) { s2 with heap := h1, toks := t' } := by
  have cellLt : ∀ y c, cl.lookup y = some c → c < s2.heap.objs.size := fun y c e => by
    obtain ⟨v, z⟩ := I.cell y c (hcl y c e)
    exact z.lt
  have kindEq : ∀ y k', (compEnvC scope cl (s2.heap.objs.size + 1) X.env).kindOf y = some k' → ∃ k, scope.names.lookup y = some k ∧ (k' = k ∨ (k = .free ∧ k' = .cell)) := fun y k' e => lookup_relabel e
  have freeOf : ∀ y k', (compEnvC scope cl (s2.heap.objs.size + 1) X.env).kindOf y = some k' → (k' = .cell ∨ k' = .free) → (y, NameKind.free) ∈ scope.names := fun y k' e hk => by
    obtain ⟨k, e1, e2⟩ := kindEq y k' e
    have mem := PySem.mem_of_lookup e1
    have : k = .free := by
      rcases e2 with rfl | ⟨rfl, _⟩
      · rcases hk with rfl | rfl
        · exact absurd rfl (K.nocell _ mem)
        · rfl
      · rfl
    subst this
    exact mem
  have hDn : H2 s2.heap.objs.size = none := I.hok.fresh (Nat.le_refl _)
  refine ⟨⟨I.ok.mod, K.kind, I.ok.glob, I.ok.blt, Nat.le_succ _, fun y z c e1 e2 => I.ok.inj y z c (hcl y c e1) (hcl z c e2), fun y hy => ?_, fun y c hf _ => ?_, I.ok.hd, I.ok.frames, .inl rfl, fun b hb => ⟨Nat.ne_of_lt (Nat.lt_succ_of_lt (hlt b hb)), fun y c e => (hfp b hb).2.2.2.2.1 y c (hcl y c e)⟩,
    fun b o e => I.bs b o e, Nat.le_trans I.ok.bsz I.sz, fun b o e hb => ?_, fun b hb hf => ?_, I.stack, I.stkFree⟩, rfl, I.bare, Un.laid kp (Nat.le_refl _) hDn, ⟨_, hC, fun i y v e1 e2 e3 => ?_⟩, fun y c e => ?_, ?_, fun y c e => ?_, fun p hp => absurd (show p ∈ ([] : List (Addr × Obj)) from hp) (by simp), I.hok.laid kp (Nat.le_refl _) ?_, ?_⟩
  · rcases hy with hy | hy
    · exact hcf y (freeOf y _ hy (.inl rfl))
    · exact hcf y (freeOf y _ hy (.inr rfl))
  · exact absurd (show false = true from hf) Bool.false_ne_true
  · obtain ⟨f0, f1, f2, f3, f4, f5⟩ := hfp b hb
    rcases f3 with z | z
    · exact I.ok.noex b o e z
    · exact absurd (Nat.lt_of_lt_of_le (Heap.lt_size (I.ok.bs b o e).1) z) (Nat.lt_irrefl _)
  · obtain ⟨f0, f1, f2, f3, f4, f5⟩ := hfp b hb
    rcases List.mem_cons.mp (I.stkSub b hf) with z | z
    · exact f1 z
    · exact f2 z
  · -- names
    have hi : i < σ.length := by
      by_cases hi : i < σ.length
      · exact hi
      · have hz : (σ ++ [none])[i]? = some (some v) := e2
        rw [List.getElem?_append_right (by omega)] at hz
        by_cases hq : i - σ.length = 0
        · rw [hq] at hz; cases hz
        · rw [List.getElem?_eq_none (by simp; omega)] at hz; cases hz
    have e2' : σ[i]? = some (some v) := by
      have hz : (σ ++ [none])[i]? = some (some v) := e2
      rw [List.getElem?_append_left hi] at hz
      exact hz
    have hiM : i < M.length := by rw [K.len, ← I.len]; exact hi
    have e1' : M[i]? = some y := by
      have hz : (M ++ [x])[i]? = some y := e1
      rw [List.getElem?_append_left hiM] at hz
      exact hz
    have hyM : y ∈ M := List.mem_of_getElem? e1'
    have e3' : ∃ k', (compEnvC scope cl (s2.heap.objs.size + 1) X.env).kindOf y = some k' ∧ (k' = .cell ∨ k' = .free) := by
      rcases e3 with z | z | z
      · obtain ⟨k, a, b⟩ := kindEq y _ z
        rcases b with b | ⟨_, b⟩
        · subst b; exact absurd a (K.noloc y hyM)
        · cases b
      · exact ⟨_, z, .inl rfl⟩
      · exact ⟨_, z, .inr rfl⟩
    obtain ⟨k', ek, hk⟩ := e3'
    have mem := freeOf y k' ek hk
    obtain ⟨k0, a0, _⟩ := kindEq y k' ek
    have hiN : i < X.N.length := by rw [← K.len]; exact hiM
    have eN : X.N[i]? = some y := by
      have hz : (M[i], X.N[i]) ∈ M.zip X.N := by
        rw [List.mem_iff_getElem?]
        exact ⟨i, List.getElem?_zip_eq_some.mpr ⟨List.getElem?_eq_getElem hiM, List.getElem?_eq_getElem hiN⟩⟩
      have eM : M[i] = y := by
        rw [List.getElem?_eq_getElem hiM] at e1'
        exact Option.some.inj e1'
      rcases K.same _ hz with q | q
      · rw [List.getElem?_eq_getElem hiN]
        have q' : M[i] = X.N[i] := q
        rw [← q', eM]
      · have q' : scope.names.lookup M[i] = none := q
        rw [eM, a0] at q'
        cases q'
    have hv := K.free _ mem rfl
    obtain ⟨m, hn, hl⟩ := I.loc
    obtain ⟨u, r, l⟩ := hl i y v eN e2' (hv.elim (fun z => .inr (.inl z)) (fun z => .inr (.inr z)))
    refine ⟨u, r, .inr ⟨?_, ?_⟩⟩
    · rcases hk with rfl | rfl
      · exact .inl ek
      · exact .inr ek
    · obtain ⟨c, ec⟩ := hcf y mem
      refine ⟨c, ec, ?_⟩
      rcases l with ⟨z, _⟩ | ⟨_, c', ec', cc⟩
      · have z' : X.env.scope.names.lookup y = some .local := z
        rcases hv with q | q <;> (rw [z'] at q; cases q)
      · have := (hcl y c ec).symm.trans ec'
        cases this
        obtain ⟨o, ho, hd⟩ := cc
        exact ⟨o, kp _ o ho, hd⟩
  · obtain ⟨v, o, ho, hd⟩ := I.cell y c (hcl y c e)
    exact ⟨v, o, kp _ o ho, hd⟩
  · show upd H2 s2.heap.objs.size (.lst []) (s2.heap.objs.size + 1) = none
    rw [upd_ne (Nat.succ_ne_self _)]
    exact I.hok.fresh (Nat.le_succ _)
  · rw [upd_ne (Nat.ne_of_lt (cellLt y c e))]
    exact I.freeC y c (hcl y c e)
  · exact ⟨Nat.zero_le _, [], _, .nil, hD⟩
  · show (σ ++ [none]).length = (M ++ [x]).length
    simp [I.len, K.len]
end
end L2

namespace L2
open PySem PySem.Spec PyProof.Rows

/-- the loop of a list comprehension of one clause -/
theorem comp_loop {prog : Program} {w : World} {A : Around} {R : Result → Shared → Prop} {s : Shared} {elt target iter : Expr} {ifs : List Expr} {scope : Scope} {pos : Pos} {it acc : Value} {env : Env} (I : Nat → Shared → Prop)
    (onward : ∀ n s, I n s → wpAny (model prog w) A (pyNext it) (fun r za => match r with
      | none => R (.ok .next) za
      | some v => wpAny (model prog w) A (letOwnedTupleGo target it v) (fun _ zb => wpAny (model prog w) A (assign target env v) (fun _ zc =>
          wpAny (model prog w) A (forIn ifs true fun c r => if r = true then do let ok ← isTrue c env (eval c env); pure (ForInStep.yield ok) else pure (ForInStep.yield r)) (fun ok zd =>
            if ok = true then wpAny (model prog w) A (eval elt env) (fun x ze =>
              wpAny (model prog w) A (call (.builtin "list.append") [acc, x]) (fun _ zf => ∃ m, m < n ∧ I m zf) (fun _ _ => False) ze) (fun _ _ => False) zd
            else ∃ m, m < n ∧ I m zd) (fun _ _ => False) zc) (fun _ _ => False) zb) (fun _ _ => False) za) (fun _ _ => False) s)
    (n : Nat) (h : I n s) :
    codeAny (model prog w) A (.compLoop (.ListComp elt [⟨target, iter, ifs, 0⟩] scope pos) 0 it acc env) R s :=
  by
  refine codeAny_loop rfl I (fun n s hJ => ?_) n h
  show wpAny _ A ((compTurn (.ListComp elt [⟨target, iter, ifs, 0⟩] scope pos) 0 it acc env).onRaise (fun ex =>  do noteFrame ex env; theTreesLotGoes ex)) _ _ s
  refine wpAny_noted (wpAny_mono (E := fun _ _ => False) ?_ (fun _ _ q => q) fun _ _ z => z.elim)
  rw [compTurn_list]
  refine wpAny_bind (wpAny_standAt (wpAny_bind (wpAny_mono (onward n s hJ) (fun r za ya => ?_) fun _ _ u => u)))
  cases r with
  | none => exact wpAny_pure ya
  | some v =>
    refine wpAny_bind (wpAny_mono ya (fun _ zb yb => ?_) fun _ _ u => u)
    refine wpAny_bind (wpAny_mono yb (fun _ zc yc => wpAny_bind (wpAny_mono yc (fun ok zd yd => ?_) fun _ _ u => u)) fun _ _ u => u)
    cases ok with
    | false => exact wpAny_pure ⟨rfl, yd⟩
    | true =>
      exact wpAny_bind (wpAny_bind (wpAny_mono yd (fun x ze ye => wpAny_bind (wpAny_mono ye (fun _ zf yf => wpAny_pure (wpAny_pure ⟨rfl, yf⟩)) fun _ _ u => u)) fun _ _ u => u))

/-- the tests of a clause -/
def PIfs (X : Cx) (ifs : List Expr) (t : TT) : Prop :=
  ∀ (pins : List (Addr × Obj)) (s : Shared) (σ : St) (H : Hp) (Q : Bool → Hp → Prop), Inv X pins σ H s → t σ H Q →
    wpAny (model X.prog X.w) X.A (forIn ifs true fun c r => if r = true then do let ok ← isTrue c X.env (eval c X.env); pure (ForInStep.yield ok) else pure (ForInStep.yield r)) (TP X pins σ Q) X.xe s
def tNoIf : TT := fun _ H Q => Q true H
theorem pif_nil {X : Cx} : PIfs X [] tNoIf := fun pins s σ H Q I h => wpAny_tests_nil ⟨H, I, h⟩
theorem pif_one {X : Cx} {c : Expr} {t : TT} (h : PT X c t) : PIfs X [c] t := fun pins s σ H Q I q => wpAny_tests_one (h pins s σ H Q I q)

/-- [elt for x in iter if ..]: D is the list that is made -/
def tComp (wi : TI) (tc : CB → TT) (te : CB → TE) : TE := fun σ H Q => wi σ H fun J H1 => ∀ D, H1 D = none → ∀ b : CB, ∃ W : Nat → Nat → List V → Hp → Prop, (∃ m, W 0 m [] (upd H1 D (.lst []))) ∧
  ∀ i m ys H, W i m ys H → (J.stop i H ∧ Q (.ref D) H) ∨ (J.go i H ∧ ys.length < sizeLine ∧ ∃ N : List V → Hp → Prop, (∀ ys' H', N ys' H' → ∃ m', m' < m ∧ W (i + 1) m' ys' H') ∧ ∀ x H', J.yld i H x H' → tc b (σ ++ [some x]) H' fun ok H2 =>
    if ok = true then te b (σ ++ [some x]) H2 fun v H3 => H3 D = some (.lst ys) ∧ N (ys ++ [v]) (upd H3 D (.lst (ys ++ [v]))) else N ys H2)

theorem append_call {X : Cx} {pins : List (Addr × Obj)} {σ : St} {H : Hp} {s : Shared} {D : Addr} {ys : List V} {v : V} {u : Value} {E : Value → Shared → Prop} (I : Inv X pins σ H s) (hD : H D = some (.lst ys)) (hz : ys.length < sizeLine) (r : RelV v u) :
    wpAny (model X.prog X.w) X.A (call (.builtin "list.append") [.ref D, u]) (fun _ s' => Inv X pins σ (upd H D (.lst (ys ++ [v]))) s') E s := by
  obtain ⟨z, its, n, rv, hl, e⟩ := I.lstM hD
  refine call_meets F.slot_list_append ⟨_, e, rfl⟩ F.entry_list_append (F.args_list_append_2 _ _) (PySem.list_append D its.toArray n u (by rw [List.size_toArray]; omega)) ⟨e, ?_⟩
  refine I.lset (its' := its ++ [u]) hD e (by simp) (rv.append (.cons r .nil)) ?_
  rw [List.length_append, List.length_singleton]
  omega

theorem SameBut.unC {H H' : Hp} {fs ex : List Addr} {h h1 h2 : Heap} {C : Addr} (u : Un fs ex H H' h h1) (sb : Heap.SameBut C h1 h2) (hC : h.objs.size ≤ C) : Un fs ex H H' h h2 := by
  have ne : ∀ b o, h.get? b = some o → b ≠ C := fun b o e z => by subst z; exact absurd (Nat.lt_of_lt_of_le (Heap.lt_size e) hC) (Nat.lt_irrefl _)
  refine ⟨fun b o e n hb hx => (sb.2 b (ne b o e)).trans (u.keep b o e n hb hx), fun b o e n hb hx => ?_, u.free, fun b o e hx => ?_, u.tups, u.frzs, u.tbls⟩
  · obtain ⟨sl, q⟩ := u.slot b o e n hb hx
    exact ⟨sl, (sb.2 b (ne b o e)).trans q⟩
  · obtain ⟨o', q⟩ := u.there b o e hx
    exact ⟨o', (sb.2 b (ne b o e)).trans q⟩
theorem SameBut.hokC {P : Program} {w : World} {H : Hp} {h1 h2 : Heap} {C : Addr} (ok : HOk P w H h1) (sb : Heap.SameBut C h1 h2) (hn : H C = none) : HOk P w H h2 := fun b ob e => by
  refine (ok b ob e).stay (fun c w' hc q => (sb.2 c ?_).trans q) (fun _ q => q) fun _ _ q => q
  rintro rfl
  rcases hc with rfl | hc
  · rw [hn] at e; cases e
  · rw [hn] at hc; cases hc

theorem comp_core {X : Cx} {iter elt : Expr} {ifs : List Expr} {x : Str} {px pos pos0 : Pos} {scope : Scope} (M : List Str) {wi : TI} {tc : CB → TT} {te : CB → TE} {use : Option (Value → Sem Unit)} {R : Value → Shared → Prop}
    {pins : List (Addr × Obj)} {s : Shared} {σ : St} {H : Hp} {Q : VK} (I : Inv X pins σ H s) (h : tComp wi tc te σ H Q)
    (hfin : ∀ (D C : Addr) (m : Str → Option Value) (s' : Shared) (H' : Hp), s'.heap.Ns C m → FpOk X pins H' C → (∀ h', Heap.SameBut C s'.heap h' → Inv X pins σ H' { s' with heap := h' }) → Q (.ref D) H' → compPost (model X.prog X.w) X.A X.xe use R (.ref D) C (.ok .next) s')
    (hc : X.calm = true) (hi : PI X (.Name x px) iter wi)
    (hif : ∀ b : CB, PIfs (X.comp (M ++ [x]) scope b) ifs (tc b)) (he : ∀ b : CB, PE (X.comp (M ++ [x]) scope b) elt (te b))
    (ok : compOK X.env.scope scope x M X.N = true := by kernel_rfl)
    (hs : ∀ x, foldedSetIterable iter X.env x = pure x := by intro _; rfl) :
    wpAny (model X.prog X.w) X.A (comprehension (.ListComp elt [⟨.Name x px, iter, ifs, 0⟩] scope pos) scope X.env pos0 (newList []) false (eval iter X.env) use) R X.xe s := by
  have K := compOK_of ok
  obtain ⟨cl, hclos, hcl, hcf⟩ := closure_ok (env := X.env) (scope := scope) fun y hy hk => I.ok.has y.1 (K.free y hy hk)
  refine wpAny_comprehension_free (use := use) rfl hs hclos K.kind K.loc ?_
  refine thn (hi pins s σ H _ I h) fun v s1 h1 => thn h1 fun itv s2 h2 => ?_
  obtain ⟨it, fp, tn, J, H2, rfl, I2, T, st2, f2, hq⟩ := h2
  refine wpAny_newObj_type (wpAny_newFunctionEnv K.nocell (by intro y hy; simp at hy) (fun h₁ hns₁ hsb₁ => ?_) K.kind)
  dsimp only at hns₁ hsb₁ ⊢
  have hsize : (s2.heap.push { cls := .type "list", dict := none, data := .seq ([] : List Value).toArray }).objs.size = s2.heap.objs.size + 1 := Heap.size_push ..
  rw [hsize] at hns₁ hsb₁
  have ltD : s2.heap.objs.size ≠ s2.heap.objs.size + 1 := Nat.ne_of_lt (Nat.lt_succ_self _)
  have kp : ∀ b o, s2.heap.get? b = some o → h₁.get? b = some o := fun b o e => hsb₁.extBut b o (Nat.ne_of_lt (Nat.lt_succ_of_lt (Heap.lt_size e))) (Heap.get?_push_of_some _ (Heap.get?_push_of_some _ e))
  have hD : h₁.get? s2.heap.objs.size = some { cls := .type "list", dict := none, data := .seq ([] : List Value).toArray } := hsb₁.extBut _ _ ltD (Heap.get?_push_of_some _ (Heap.get?_push_size _ rfl))
  have hlt : ∀ b ∈ fp, b < s2.heap.objs.size := fun b hb => let ⟨o, e, _⟩ := T.obj _ _ st2 b hb; Heap.lt_size e
  have I3 := I2.comp (t' := s2.toks + ([] : List (Str × Value)).length) K hcl hcf f2 hlt kp hD hns₁
  obtain ⟨W, ⟨m0, w0⟩, step⟩ := hq s2.heap.objs.size (I2.hok.fresh (Nat.le_refl _)) ⟨cl, s2.heap.objs.size + 1, s2, H2, fp⟩
  have st3 : tn 0 h₁ := T.keep _ _ _ st2 fun b _ o e => kp b o e
  have fr3 : ∀ b ∈ fp, (upd H2 s2.heap.objs.size (.lst [])) b = none := fun b hb => by rw [upd_ne (Nat.ne_of_lt (hlt b hb))]; exact (f2 b hb).1
  -- what the block's end gives
  have fin : ∀ (s' : Shared) (σ' : St) (H' : Hp), Inv (X.comp (M ++ [x]) scope ⟨cl, s2.heap.objs.size + 1, s2, H2, fp⟩) [] σ' H' s' → Q (.ref s2.heap.objs.size) H' →
      compPost (model X.prog X.w) X.A X.xe use R (.ref s2.heap.objs.size) (s2.heap.objs.size + 1) (.ok .next) s' := fun s' σ' H' J' q => by
    obtain ⟨m, hn, _⟩ := id J'.loc
    have hC : H' (s2.heap.objs.size + 1) = none := J'.free
    refine hfin _ _ m s' H' hn (I2.fpOk (Nat.le_succ _) hC) (fun h' sb => ?_) q
    exact I2.call' (ch := fp) (show s'.os = s2.os from J'.os) (SameBut.unC J'.base sb (Nat.le_succ _)) (SameBut.hokC J'.hok sb hC) J'.bare fun b hb => by
      obtain ⟨f0, f1, f2', f3, f4, f5⟩ := f2 b hb
      exact ⟨f3, f1, f4, f5⟩
  have stat : ∀ {H' : Hp}, (∀ b ∈ fp, H' b = none) → ∀ b ∈ fp, FpOk (X.comp (M ++ [x]) scope ⟨cl, s2.heap.objs.size + 1, s2, H2, fp⟩) [] H' b := fun hn b hb => by
    obtain ⟨f0, f1, f2', f3, f4, f5⟩ := f2 b hb
    refine ⟨hn b hb, Nat.ne_of_lt (Nat.lt_succ_of_lt (hlt b hb)), fun z => ?_, .inl hb, fun y c e => f4 y c (hcl y c e), fun p hp => absurd (show p ∈ ([] : List (Addr × Obj)) from hp) (by simp)⟩
    rcases List.mem_cons.mp (I2.stkSub b z) with z | z
    · exact f1 z
    · exact f2' z
  have len3 : σ.length = M.length := by rw [I.len, K.len]
  have loop : codeAny (model X.prog X.w) X.A (.compLoop (.ListComp elt [⟨.Name x px, iter, ifs, 0⟩] scope pos) 0 (.ref it) (.ref s2.heap.objs.size) (compEnvC scope cl (s2.heap.objs.size + 1) X.env))
      (compPost (model X.prog X.w) X.A X.xe use R (.ref s2.heap.objs.size) (s2.heap.objs.size + 1)) { s2 with heap := h₁, toks := s2.toks + ([] : List (Str × Value)).length } := by
    refine comp_loop (fun n s' => ∃ i ys H', Inv (X.comp (M ++ [x]) scope ⟨cl, s2.heap.objs.size + 1, s2, H2, fp⟩) [] (σ ++ [none]) H' s' ∧ tn i s'.heap ∧ (∀ b ∈ fp, H' b = none) ∧ W i n ys H') ?_ m0 ⟨0, [], _, I3, st3, fr3, w0⟩
    rintro n s4 ⟨i, ys, H4, I4, st4, fr4, w4⟩
    rcases step i n ys H4 w4 with ⟨stop, q⟩ | ⟨go, hz, N, hN, st⟩
    · refine wpAny_mono (T.done (X.comp (M ++ [x]) scope ⟨cl, s2.heap.objs.size + 1, s2, H2, fp⟩) rfl rfl rfl hc i [] s4 _ H4 (fun _ _ => False) I4 (stat fr4) st4 stop) (fun r s5 ⟨hr, I5⟩ => ?_) fun _ _ z => z
      subst hr
      exact fin s5 _ H4 I5 q
    · refine wpAny_mono (T.item (X.comp (M ++ [x]) scope ⟨cl, s2.heap.objs.size + 1, s2, H2, fp⟩) rfl rfl rfl hc i [] s4 _ H4 (fun _ _ => False) I4 (stat fr4) st4 go) (fun r s5 ⟨u, hr, h5⟩ => ?_) fun _ _ z => z
      subst hr
      refine wpAny_mono h5 (fun _ s6 ⟨xv, H6, I6, r6, y6, st6, fr6⟩ => ?_) fun _ _ z => z
      have I6' := I6.pinned (stat fr6) (T.obj _ _ st6)
      have hset : (σ ++ [none]).set σ.length (some xv) = σ ++ [some xv] := by simp
      have hNx : (X.comp (M ++ [x]) scope ⟨cl, s2.heap.objs.size + 1, s2, H2, fp⟩).N[σ.length]? = some x := by
        show (M ++ [x])[σ.length]? = some x
        rw [len3]; simp
      have hlx : (X.comp (M ++ [x]) scope ⟨cl, s2.heap.objs.size + 1, s2, H2, fp⟩).env.scope.names.lookup x = some .local := lookup_relabel_local K.own
      have PGx : PG (X.comp (M ++ [x]) scope ⟨cl, s2.heap.objs.size + 1, s2, H2, fp⟩) (.Name x px) (gName σ.length) := pg_name K.nd hNx (.inl hlx) (.inr hlx)
      refine wpAny_mono (PGx _ s6 _ H6 xv u (fun σ' H' => σ' = σ ++ [some xv] ∧ H' = H6) I6' r6 ⟨hset, rfl⟩) (fun _ s7 ⟨σ7, H7, I7, e7, e7'⟩ => ?_) fun _ _ z => z
      subst e7 e7'
      have again : ∀ {ys' : List V} {H8 : Hp} {s8 : Shared} {m : Nat}, Inv (X.comp (M ++ [x]) scope ⟨cl, s2.heap.objs.size + 1, s2, H2, fp⟩) ([] ++ pinsAt fp s6.heap) (σ ++ [some xv]) H8 s8 → m < n → W (i + 1) m ys' H8 →
          ∃ m, m < n ∧ ∃ i ys H', Inv (X.comp (M ++ [x]) scope ⟨cl, s2.heap.objs.size + 1, s2, H2, fp⟩) [] (σ ++ [none]) H' s8 ∧ tn i s8.heap ∧ (∀ b ∈ fp, H' b = none) ∧ W i m ys H' := fun {ys' H8 s8 m} I8 hm w8 => by
        refine ⟨m, hm, i + 1, ys', H8, (I8.unpinned).weak (by simp) (fun j v e => ?_), T.keep _ _ _ st6 fun b hb o e => (I8.pin (b, o) (List.mem_append_right _ (List.mem_append_right _ (mem_pinsAt hb e)))).1, fun b hb => ?_, w8⟩
        · by_cases hj : j < σ.length
          · rw [List.getElem?_append_left hj] at e ⊢; exact e
          · rw [List.getElem?_append_right (by omega)] at e
            by_cases hq : j - σ.length = 0
            · rw [hq] at e; cases e
            · rw [List.getElem?_eq_none (by simp; omega)] at e; cases e
        · obtain ⟨o, e, d⟩ := T.obj _ _ st6 b hb
          exact (I8.pin (b, o) (List.mem_append_right _ (List.mem_append_right _ (mem_pinsAt hb e)))).2.1
      refine wpAny_mono (hif ⟨cl, s2.heap.objs.size + 1, s2, H2, fp⟩ _ s7 _ _ _ I7 (st xv _ y6)) (fun ok s8 ⟨H8, I8, q8⟩ => ?_) fun _ _ z => z
      cases ok with
      | false =>
        rw [if_neg Bool.false_ne_true] at q8
        obtain ⟨m, hm, w8⟩ := hN _ _ q8
        exact again I8 hm w8
      | true =>
        rw [if_pos rfl] at q8
        refine wpAny_mono (he ⟨cl, s2.heap.objs.size + 1, s2, H2, fp⟩ _ s8 _ H8 _ I8 q8) (fun xu s9 ⟨v9, H9, I9, r9, hD9, n9⟩ => ?_) fun _ _ z => z
        obtain ⟨m, hm, w9⟩ := hN _ _ n9
        exact wpAny_mono (append_call (X := X.comp (M ++ [x]) scope ⟨cl, s2.heap.objs.size + 1, s2, H2, fp⟩) I9 hD9 hz r9) (fun _ s10 I10 => again I10 hm w9) fun _ _ z => z
  rw [hsize]
  exact codeAny_compStart_list loop (T.self X.A 0 _ _ _ st3 loop)


theorem pe_comp {X : Cx} {iter elt : Expr} {ifs : List Expr} {x : Str} {px pos : Pos} {scope : Scope} (M : List Str) {wi : TI} {tc : CB → TT} {te : CB → TE}
    (hc : X.calm = true) (hi : PI X (.Name x px) iter wi)
    (hif : ∀ b : CB, PIfs (X.comp (M ++ [x]) scope b) ifs (tc b)) (he : ∀ b : CB, PE (X.comp (M ++ [x]) scope b) elt (te b))
    (ok : compOK X.env.scope scope x M X.N = true := by kernel_rfl)
    (hs : ∀ x, foldedSetIterable iter X.env x = pure x := by intro _; rfl) :
    PE X (.ListComp elt [⟨.Name x px, iter, ifs, 0⟩] scope pos) (tComp wi tc te) := by
  intro pins s σ H Q I h
  rw [eval_ListComp]
  exact comp_core M (use := none) (R := EP X pins σ Q) I h (fun D C m s' H' hn _ hI q => ⟨m, hn, fun h' sb => ⟨.ref D, H', hI h' sb, rfl, q⟩⟩) hc hi hif he ok hs
/-- the frame of a block may still change -/
theorem Inv.butC {X : Cx} {pins : List (Addr × Obj)} {σ : St} {H : Hp} {s : Shared} {C : Addr} {h' : Heap} (I : Inv X pins σ H s) (f : FpOk X pins H C) (sb : Heap.SameBut C s.heap h') : Inv X pins σ H { s with heap := h' } := by
  obtain ⟨f0, f1, f2, f3, f4, f5⟩ := f
  refine I.call' (ch := [C]) rfl ⟨fun b o e n _ hx => ?_, fun b o e n _ hx => ?_, fun b o e n _ => n, fun b o e hx => ?_, fun _ _ z => z, fun _ _ _ z => z, fun _ ps z => ⟨#[], by simpa using z⟩⟩ (SameBut.hokC I.hok sb f0) I.bare fun b hb => ?_
  · exact (sb.2 b (by simpa using hx)).trans e
  · exact ⟨o.slots, (sb.2 b (by simpa using hx)).trans e⟩
  · exact ⟨o, (sb.2 b (by simpa using hx)).trans e⟩
  · have : b = C := by simpa using hb
    subst this
    exact ⟨f3, f1, f4, f5⟩
/-- name = [comprehension] -/
theorem ps_setC {X : Cx} {iter elt : Expr} {ifs : List Expr} {x y : Str} {px py pos spos : Pos} {scope : Scope} (M : List Str) {i : Nat} {wi : TI} {tc : CB → TT} {te : CB → TE}
    (hc : X.calm = true) (hN : X.N.Nodup) (hiy : X.N[i]? = some y) (hy : Loc X.env.scope y) (hi : PI X (.Name x px) iter wi)
    (hif : ∀ b : CB, PIfs (X.comp (M ++ [x]) scope b) ifs (tc b)) (he : ∀ b : CB, PE (X.comp (M ++ [x]) scope b) elt (te b))
    (hsw : swapsWith (.ListComp elt [⟨.Name x px, iter, ifs, 0⟩] scope pos) (some (.Name y py)) spos.line X.env = pure true := by rfl)
    (ok : compOK X.env.scope scope x M X.N = true := by kernel_rfl)
    (hs : ∀ x, foldedSetIterable iter X.env x = pure x := by intro _; rfl)
    (hf : X.fn y = true ∨ X.env.scope.names.lookup y = some .local := by first | exact .inl rfl | exact .inr rfl | assumption) :
    PS X (.Assign [.Name y py] (.ListComp elt [⟨.Name x px, iter, ifs, 0⟩] scope pos) spos) (tAsg (tComp wi tc te) (gName i)) := by
  intro pins s σ H D I h
  rw [exec_Assign_Name_used _ _ _ _ hsw]; refine wpAny_bind (wpAny_standAt (wpAny_bind ?_))
  show wpAny _ X.A (do let _ ← comprehension (.ListComp elt [⟨.Name x px, iter, ifs, 0⟩] scope pos) scope X.env _ (newList []) false (eval iter X.env) (some (assign (.Name y py) X.env))) _ _ s
  refine wpAny_bind (wpAny_mono (comp_core M (use := some (assign (.Name y py) X.env)) (R := fun _ s' => _) I h (fun D' C m s' H' hn f hI q => ?_) hc hi hif he ok hs) (fun _ s' hq => wpAny_pure (wpAny_pure hq)) fun _ _ e => e)
  have I' : Inv X pins σ H' s' := hI s'.heap ⟨rfl, fun _ _ => rfl⟩
  show wpAny _ X.A (assign (.Name y py) X.env (.ref D')) _ _ _
  refine wpAny_assign_Name (store_ok2 (v := .ref D') I' hN hiy hy rfl (fun s2 I2 ⟨a, sb, ha⟩ => ?_) hf)
  have hCa : C ≠ a := by
    obtain ⟨f0, f1, f2, f3, f4, f5⟩ := f
    rintro rfl
    rcases ha with z | z
    · exact f1 z
    · exact f4 _ _ z rfl
  exact ⟨m, hn.sameBut sb hCa, fun h' sb' => ⟨_, H', I2.butC f sb', q⟩⟩
end L2

namespace L2
open PySem PySem.Spec PyProof.Rows

/-! ### comprehensions in the forms one uses -/
theorem comp_range {lo : Int} {n : Nat} {tc : TT} {te : TE} {σ : St} {H1 : Hp} {Q : Hp → Prop} {D : Addr} (Pv : Nat → List V → Hp → Prop) (hn : n < sizeLine) (h0 : Pv 0 [] (upd H1 D (.lst [])))
    (hl : ∀ i ys H, Pv i ys H → ys.length ≤ i)
    (hs : ∀ i ys H, i < n → Pv i ys H → tc (σ ++ [some (.int (lo + i))]) H fun b H2 => if b = true then te (σ ++ [some (.int (lo + i))]) H2 fun v H3 => H3 D = some (.lst ys) ∧ Pv (i + 1) (ys ++ [v]) (upd H3 D (.lst (ys ++ [v]))) else Pv (i + 1) ys H2)
    (hd : ∀ ys H, Pv n ys H → Q H) :
    ∃ W : Nat → Nat → List V → Hp → Prop, (∃ m, W 0 m [] (upd H1 D (.lst []))) ∧
      ∀ i m ys H, W i m ys H → ((Itr lo n).stop i H ∧ Q H) ∨ ((Itr lo n).go i H ∧ ys.length < sizeLine ∧ ∃ N : List V → Hp → Prop, (∀ ys' H', N ys' H' → ∃ m', m' < m ∧ W (i + 1) m' ys' H') ∧ ∀ x H', (Itr lo n).yld i H x H' → tc (σ ++ [some x]) H' fun b H2 =>
        if b = true then te (σ ++ [some x]) H2 fun v H3 => H3 D = some (.lst ys) ∧ N (ys ++ [v]) (upd H3 D (.lst (ys ++ [v]))) else N ys H2) := by
  refine ⟨fun i m ys H => m = n - i ∧ i ≤ n ∧ Pv i ys H, ⟨n, by simp, Nat.zero_le _, h0⟩, ?_⟩
  rintro i m ys H ⟨rfl, hi, p⟩
  by_cases hlt : i < n
  · refine .inr ⟨hlt, Nat.lt_of_le_of_lt (hl i ys H p) (Nat.lt_trans hlt hn), Pv (i + 1), fun ys' H' p' => ⟨n - (i + 1), by omega, rfl, hlt, p'⟩, fun x H' y => ?_⟩
    obtain ⟨e, y⟩ := y
    subst e y
    exact hs i ys _ hlt p
  · have e : i = n := by omega
    subst e
    exact .inl ⟨Nat.le_refl _, hd ys H p⟩
theorem comp_list {K : PySem.W.Frag} {a : Addr} {xs : List V} {tc : TT} {te : TE} {σ : St} {H1 : Hp} {Q : Hp → Prop} {D : Addr} (Pv : Nat → List V → Hp → Prop) (hn : xs.length < sizeLine) (h0 : Pv 0 [] (upd H1 D (.lst [])))
    (hl : ∀ i ys H, Pv i ys H → ys.length ≤ i) (hq : ∀ i ys H, i ≤ xs.length → Pv i ys H → SqL K H a xs)
    (hs : ∀ i x ys H, xs[i]? = some x → Pv i ys H → tc (σ ++ [some x]) H fun b H2 => if b = true then te (σ ++ [some x]) H2 fun v H3 => H3 D = some (.lst ys) ∧ Pv (i + 1) (ys ++ [v]) (upd H3 D (.lst (ys ++ [v]))) else Pv (i + 1) ys H2)
    (hd : ∀ ys H, Pv xs.length ys H → Q H) :
    ∃ W : Nat → Nat → List V → Hp → Prop, (∃ m, W 0 m [] (upd H1 D (.lst []))) ∧
      ∀ i m ys H, W i m ys H → ((Itl K a).stop i H ∧ Q H) ∨ ((Itl K a).go i H ∧ ys.length < sizeLine ∧ ∃ N : List V → Hp → Prop, (∀ ys' H', N ys' H' → ∃ m', m' < m ∧ W (i + 1) m' ys' H') ∧ ∀ x H', (Itl K a).yld i H x H' → tc (σ ++ [some x]) H' fun b H2 =>
        if b = true then te (σ ++ [some x]) H2 fun v H3 => H3 D = some (.lst ys) ∧ N (ys ++ [v]) (upd H3 D (.lst (ys ++ [v]))) else N ys H2) := by
  refine ⟨fun i m ys H => m = xs.length - i ∧ i ≤ xs.length ∧ Pv i ys H, ⟨xs.length, by simp, Nat.zero_le _, h0⟩, ?_⟩
  rintro i m ys H ⟨rfl, hi, p⟩
  have q := hq i ys H hi p
  by_cases hlt : i < xs.length
  · refine .inr ⟨⟨xs, xs[i], q, by simp [hlt]⟩, Nat.lt_of_le_of_lt (hl i ys H p) (Nat.lt_trans hlt hn), Pv (i + 1), fun ys' H' p' => ⟨xs.length - (i + 1), by omega, rfl, hlt, p'⟩, fun x H' y => ?_⟩
    obtain ⟨e, y⟩ := y
    subst e
    exact hs i x ys _ (y xs q) p
  · have e : i = xs.length := by omega
    subst e
    exact .inl ⟨⟨xs, q, Nat.le_refl _⟩, hd ys H p⟩

/-! ### data, and == of data -/
mutual
def DatV (K : PySem.W.Frag) (H : Hp) : PyData → V → Prop
  | .none, v => v = .non
  | .bool b, v => v = .bl b
  | .int i, v => v = .int i
  | .str x, v => v = .str x ∧ PyData.strOk x = true
  | .list ds, v => ∃ a xs, v = .ref a ∧ SqL K H a xs ∧ DatVs K H ds xs
  | .tuple ds, v => ∃ a xs, v = .ref a ∧ SqT K H a xs ∧ DatVs K H ds xs
  | .dict _, _ => False
def DatVs (K : PySem.W.Frag) (H : Hp) : List PyData → List V → Prop
  | [], xs => xs = []
  | d :: ds, xs => ∃ x r, xs = x :: r ∧ DatV K H d x ∧ DatVs K H ds r
end
section
variable {X : Cx} {pins : List (Addr × Obj)} {σ : St} {H : Hp} {s : Shared}
mutual
theorem DatV.reads (I : Inv X pins σ H s) : ∀ (d : PyData) (v : V) (u : Value), DatV X.K H d v → RelV v u → (∃ as, Reads s.heap u d as) ∧ d.canLay0 = true
  | .none, v, u, h, r => by
    rw [DatV] at h; subst h; cases r; exact ⟨⟨_, .none⟩, by simp [PyData.canLay0]⟩
  | .bool b, v, u, h, r => by
    rw [DatV] at h; subst h; cases r; exact ⟨⟨_, .bool b⟩, by simp [PyData.canLay0]⟩
  | .int i, v, u, h, r => by
    rw [DatV] at h; subst h; obtain ⟨t, rfl⟩ := r; exact ⟨⟨_, .int i t⟩, by simp [PyData.canLay0]⟩
  | .str x, v, u, h, r => by
    rw [DatV] at h; obtain ⟨h, hx⟩ := h; subst h; obtain ⟨t, rfl⟩ := r; exact ⟨⟨_, .str x t⟩, by simp [PyData.canLay0, hx]⟩
  | .list ds, v, u, h, r => by
    rw [DatV] at h; obtain ⟨a, xs, rfl, hq, hd⟩ := h
    cases r
    obtain ⟨its, rv, p, hz⟩ := I.list hq
    obtain ⟨⟨as, ra⟩, cl⟩ := DatVs.reads I ds xs its hd rv
    obtain ⟨o, ho, hc, n, hdt⟩ := p.isList
    exact ⟨⟨_, .list ho hc hdt (by simpa using ra)⟩, by rw [PyData.canLay0]; exact cl⟩
  | .tuple ds, v, u, h, r => by
    rw [DatV] at h; obtain ⟨a, xs, rfl, hq, hd⟩ := h
    cases r
    obtain ⟨its, rv, p, hz⟩ := I.tuple hq
    obtain ⟨⟨as, ra⟩, cl⟩ := DatVs.reads I ds xs its hd rv
    obtain ⟨o, ho, hc, n, hdt⟩ := p
    exact ⟨⟨_, .tuple ho hc hdt (by simpa using ra)⟩, by rw [PyData.canLay0]; exact cl⟩
  | .dict _, v, u, h, r => by rw [DatV] at h; exact h.elim
theorem DatVs.reads (I : Inv X pins σ H s) : ∀ (ds : List PyData) (vs : List V) (us : List Value), DatVs X.K H ds vs → Vals vs us → (∃ as, ReadsAll s.heap us ds as) ∧ PyData.canLayAll0 ds = true
  | [], vs, us, h, r => by
    rw [DatVs] at h; subst h; cases r; exact ⟨⟨_, .nil⟩, by simp [PyData.canLayAll0]⟩
  | d :: ds, vs, us, h, r => by
    rw [DatVs] at h; obtain ⟨x, rr, rfl, h1, h2⟩ := h
    cases r with
    | cons r1 r2 =>
      obtain ⟨⟨as, ra⟩, ca⟩ := DatV.reads I d x _ h1 r1
      obtain ⟨⟨bs, rb⟩, cb⟩ := DatVs.reads I ds rr _ h2 r2
      exact ⟨⟨_, .cons ra rb⟩, by rw [PyData.canLayAll0, ca, cb]; rfl⟩
end
def rEqD (K : PySem.W.Frag) (neg : Bool) : R2 := fun x y H Q => ∃ da db, DatV K H da x ∧ DatV K H db y ∧ min da.depth db.depth ≤ 64 ∧ Q (.bl (if neg then !PyData.eqv da db else PyData.eqv da db)) H
theorem op_eqD {k : Nat} (hr : Room k X.A) : OpR X (compareOp .Eq) (rEqD X.K false) := by
  intro pins s σ H x y v u Q I rx ry h
  obtain ⟨da, db, h1, h2, hd, q⟩ := h
  obtain ⟨⟨as, ra⟩, ca⟩ := DatV.reads I da x v h1 rx
  obtain ⟨⟨bs, rb⟩, cb⟩ := DatV.reads I db y u h2 ry
  exact SeqAt.compareEq_reads ra rb ca cb (by have := hr.units; omega) ⟨.bl _, H, I, rfl, q⟩
theorem op_neD {k : Nat} (hr : Room k X.A) : OpR X (compareOp .NotEq) (rEqD X.K true) := by
  intro pins s σ H x y v u Q I rx ry h
  obtain ⟨da, db, h1, h2, hd, q⟩ := h
  obtain ⟨⟨as, ra⟩, ca⟩ := DatV.reads I da x v h1 rx
  obtain ⟨⟨bs, rb⟩, cb⟩ := DatV.reads I db y u h2 ry
  exact SeqAt.compareNe_reads ra rb ca cb (by have := hr.units; omega) ⟨.bl _, H, I, rfl, q⟩
end

/-! ### lists of ints, of signs -/
theorem datVs_ints {K : PySem.W.Frag} {H : Hp} : ∀ ns : List Int, DatVs K H (ns.map PyData.int) (ns.map V.int)
  | [] => by simp [DatVs]
  | n :: ns => by
    rw [List.map_cons, List.map_cons, DatVs]
    exact ⟨_, _, rfl, by rw [DatV], datVs_ints ns⟩
theorem datV_ints {K : PySem.W.Frag} {H : Hp} {a : Addr} {ns : List Int} (h : SqL K H a (ns.map V.int)) : DatV K H (.list (ns.map PyData.int)) (.ref a) := by
  rw [DatV]; exact ⟨a, _, rfl, h, datVs_ints ns⟩
/-- a sign: a text of one code -/
abbrev sgS (c : Nat) : Str := ⟨#[c]⟩
abbrev sg (c : Nat) : V := .str (sgS c)
theorem datVs_sgs {K : PySem.W.Frag} {H : Hp} : ∀ cs : List Nat, (∀ c ∈ cs, c < 0x110000) → DatVs K H (cs.map fun c => PyData.str (sgS c)) (cs.map sg)
  | [], _ => by simp [DatVs]
  | c :: cs, h => by
    rw [List.map_cons, List.map_cons, DatVs]
    refine ⟨_, _, rfl, ?_, datVs_sgs cs fun c hc => h c (List.mem_cons_of_mem _ hc)⟩
    rw [DatV]
    exact ⟨rfl, by simp [PyData.strOk, h c List.mem_cons_self]⟩
theorem datV_sgs {K : PySem.W.Frag} {H : Hp} {a : Addr} {cs : List Nat} (h : SqL K H a (cs.map sg)) (hc : ∀ c ∈ cs, c < 0x110000) : DatV K H (.list (cs.map fun c => PyData.str (sgS c))) (.ref a) := by
  rw [DatV]; exact ⟨a, _, rfl, h, datVs_sgs cs hc⟩
theorem depthAll_ints : ∀ ns : List Int, PyData.depthAll (ns.map PyData.int) ≤ 1
  | [] => by simp [PyData.depthAll]
  | n :: ns => by
    have := depthAll_ints ns
    rw [List.map_cons, PyData.depthAll]
    simp only [PyData.depth]
    omega
theorem depthAll_sgs : ∀ cs : List Nat, PyData.depthAll (cs.map fun c => PyData.str (sgS c)) ≤ 1
  | [] => by simp [PyData.depthAll]
  | c :: cs => by
    have := depthAll_sgs cs
    rw [List.map_cons, PyData.depthAll]
    simp only [PyData.depth]
    omega
theorem depth_ints (ns : List Int) : (PyData.list (ns.map PyData.int)).depth ≤ 2 := by
  have := depthAll_ints ns
  rw [PyData.depth]; omega
theorem depth_sgs (cs : List Nat) : (PyData.list (cs.map fun c => PyData.str (sgS c))).depth ≤ 2 := by
  have := depthAll_sgs cs
  rw [PyData.depth]; omega
theorem eqvAll_ints : ∀ ns ms : List Int, PyData.eqvAll (ns.map PyData.int) (ms.map PyData.int) = decide (ns = ms)
  | [], [] => by simp [PyData.eqvAll]
  | [], _ :: _ => by simp [PyData.eqvAll]
  | _ :: _, [] => by simp [PyData.eqvAll]
  | n :: ns, m :: ms => by
    rw [List.map_cons, List.map_cons, PyData.eqvAll, eqvAll_ints ns ms]
    rw [PyData.eqv, Bool.beq_eq_decide_eq]
    simp
theorem sgS_inj {a b : Nat} : (sgS a == sgS b) = decide (a = b) := by
  by_cases h : a = b
  · subst h; simp
  · have : sgS a ≠ sgS b := fun e => h (by simpa [sgS] using e)
    simp [h, this]
theorem eqvAll_sgs : ∀ cs ds : List Nat, PyData.eqvAll (cs.map fun c => PyData.str (sgS c)) (ds.map fun c => PyData.str (sgS c)) = decide (cs = ds)
  | [], [] => by simp [PyData.eqvAll]
  | [], _ :: _ => by simp [PyData.eqvAll]
  | _ :: _, [] => by simp [PyData.eqvAll]
  | c :: cs, d :: ds => by
    rw [List.map_cons, List.map_cons, PyData.eqvAll, eqvAll_sgs cs ds, PyData.eqv, sgS_inj]
    simp
theorem eqv_ints (ns ms : List Int) : PyData.eqv (.list (ns.map PyData.int)) (.list (ms.map PyData.int)) = decide (ns = ms) := by rw [PyData.eqv, eqvAll_ints]
theorem eqv_sgs (cs ds : List Nat) : PyData.eqv (.list (cs.map fun c => PyData.str (sgS c))) (.list (ds.map fun c => PyData.str (sgS c))) = decide (cs = ds) := by rw [PyData.eqv, eqvAll_sgs]

/-- == of two lists of ints; of two lists of signs -/
def rEqI (K : PySem.W.Frag) (neg : Bool) : R2 := fun x y H Q => ∃ (a b : Addr) (ns ms : List Int), x = .ref a ∧ y = .ref b ∧ SqL K H a (ns.map V.int) ∧ SqL K H b (ms.map V.int) ∧ Q (.bl (if neg then !decide (ns = ms) else decide (ns = ms))) H
def rEqS (K : PySem.W.Frag) (neg : Bool) : R2 := fun x y H Q => ∃ (a b : Addr) (cs ds : List Nat), x = .ref a ∧ y = .ref b ∧ SqL K H a (cs.map sg) ∧ SqL K H b (ds.map sg) ∧ (∀ c ∈ cs, c < 0x110000) ∧ (∀ c ∈ ds, c < 0x110000) ∧ Q (.bl (if neg then !decide (cs = ds) else decide (cs = ds))) H
section
variable {X : Cx} {k : Nat}
theorem OpR.imp {f : Value → Value → Sem Value} {r r' : R2} (h : OpR X f r) (i : ∀ x y H Q, r' x y H Q → r x y H Q) : OpR X f r' := fun pins s σ H x y v u Q I rx ry q => h pins s σ H x y v u Q I rx ry (i _ _ _ _ q)
theorem rEqI.toD {K : PySem.W.Frag} {neg : Bool} : ∀ x y H Q, rEqI K neg x y H Q → rEqD K neg x y H Q := by
  rintro x y H Q ⟨a, b, ns, ms, rfl, rfl, h1, h2, q⟩
  refine ⟨_, _, datV_ints h1, datV_ints h2, Nat.le_trans (Nat.min_le_left _ _) (Nat.le_trans (depth_ints ns) (by decide)), ?_⟩
  rw [eqv_ints]
  exact q
theorem rEqS.toD {K : PySem.W.Frag} {neg : Bool} : ∀ x y H Q, rEqS K neg x y H Q → rEqD K neg x y H Q := by
  rintro x y H Q ⟨a, b, ns, ms, rfl, rfl, h1, h2, c1, c2, q⟩
  refine ⟨_, _, datV_sgs h1 c1, datV_sgs h2 c2, Nat.le_trans (Nat.min_le_left _ _) (Nat.le_trans (depth_sgs ns) (by decide)), ?_⟩
  rw [eqv_sgs]
  exact q
theorem op_eqLI (hr : Room k X.A) : OpR X (compareOp .Eq) (rEqI X.K false) := (op_eqD hr).imp rEqI.toD
theorem op_neLI (hr : Room k X.A) : OpR X (compareOp .NotEq) (rEqI X.K true) := (op_neD hr).imp rEqI.toD
theorem op_eqLS (hr : Room k X.A) : OpR X (compareOp .Eq) (rEqS X.K false) := (op_eqD hr).imp rEqS.toD
theorem op_le_str : OpR X (compareOp .LtE) (fun x y H Q => ∃ i j, x = .str i ∧ y = .str j ∧ Q (.bl (!decide (j.cps.toList < i.cps.toList))) H) := by
  intro pins s σ H x y v u Q I rx ry h
  obtain ⟨i, j, rfl, rfl, q⟩ := h
  obtain ⟨t, rfl⟩ := rx
  obtain ⟨t', rfl⟩ := ry
  exact PySem.P.le_str ⟨.bl _, H, I, rfl, q⟩
/-- isinstance of a value whose type is known, a built-in type -/
theorem call_isinst : CallR X (.builtin "isinstance") (fun xs H Q => ∃ x t c b, xs = [x, .ty c] ∧ TyOf X.K H x t ∧ PySem.W.kitOne X.K t (.type c) = some b ∧ Q (.bl b) H) := by
  intro pins s σ H xs us Q I r h
  obtain ⟨x, t, c, b, rfl, ty, e, q⟩ := h
  obtain ⟨u, u', rfl, rx, rc⟩ := vals2 r
  cases rc
  exact isinst_ok I rx ty e fun tk => ⟨.bl b, H, I.tok tk, rfl, q⟩
/-- s[lo:hi] of a text -/
def cutS (z : Str) (lo hi : Option Int) : Str := Txt.slice z lo hi
def rSlS : V → Option Int → Option Int → Hp → VK → Prop := fun x lo hi H Q => ∃ z, x = .str z ∧ z.length ≤ sizeLine ∧ Q (.str (cutS z lo hi)) H
theorem sl_str : SlR X rSlS := by
  intro pins s σ H x v vl vu lo hi sl Q I rx hs pl pu h
  obtain ⟨z, rfl, hz, q⟩ := h
  obtain ⟨t, rfl⟩ := rx
  have fin : ∀ t' k, EP X pins σ Q (.str (Txt.slice z lo hi) t') { s with toks := k } := fun t' k => ⟨.str _, H, I.tok k, ⟨t', rfl⟩, q⟩
  refine ⟨"str", _, F.slot_str_getitem.lookup, typeIs_str _ _ _, ?_⟩
  obtain ⟨o, ho, hc, hd⟩ := hs
  cases pl with
  | none =>
    cases pu with
    | none => exact wpAny_getItem_str_slice (l := none) (u := none) (st := none) ⟨o, ho, hc, hd⟩ rfl (post_val_or_str ⟨Nat.le_trans (Txt.slice_le z _ _) hz, fun t' k => fin t' k⟩)
    | int j uj => exact wpAny_getItem_str_slice (l := none) (u := some (j, uj)) (st := none) ⟨o, ho, hc, hd⟩ rfl (post_val_or_str ⟨Nat.le_trans (Txt.slice_le z _ _) hz, fun t' k => fin t' k⟩)
  | int i ui =>
    cases pu with
    | none => exact wpAny_getItem_str_slice (l := some (i, ui)) (u := none) (st := none) ⟨o, ho, hc, hd⟩ rfl (post_val_or_str ⟨Nat.le_trans (Txt.slice_le z _ _) hz, fun t' k => fin t' k⟩)
    | int j uj => exact wpAny_getItem_str_slice (l := some (i, ui)) (u := some (j, uj)) (st := none) ⟨o, ho, hc, hd⟩ rfl (post_val_or_str ⟨Nat.le_trans (Txt.slice_le z _ _) hz, fun t' k => fin t' k⟩)
end
end L2

namespace L2
open PySem PySem.Spec PyProof.Rows
/-! ### a def of the text, by its name -/
structure Fn (P : Program) (w : World) (K : PySem.W.Frag) (mg : Str → Option Value) (base : Heap) (CX : CXT) (x : Str) (k : Nat) (ps : List Str) (sp : Sp) : Prop where
  ex : ∃ f fd, FnOk P w K mg base CX k f fd ps sp ∧ mg x = some (.ref f) ∧ PySem.W.keepIn K (.ref f) = true ∧ Binds K fd ps [] ∧ ∃ oc od osl, K.lookup f = some ⟨oc, od, .func fd, osl⟩
theorem pe_fn {X : Cx} {CX : CXT} {k j : Nat} {ps : List Str} {sp : Sp} {E : XK} {x : Str} {p pos : Pos} {e : Expr} {es : List Expr} {t : TA} (F : Fn X.prog X.w X.K X.mg X.base CX x k ps sp) (hr : Room j X.A) (hx : Passes CX X E) (ha : PA X (e :: es) t) (hg : Gl X x := by rfl) (hj : k ≤ j := by decide)
    (hdb : (x == ("__debug__" : Str)) = false := by decide) (he : starEach (e :: es) X.env = (false, eval e X.env) :: starEach es X.env := by rfl) (hpl : (backTo pos (starEach es X.env)).any (·.1) = false := by rfl) :
    PE X (.Call (.Name x p) (e :: es) [] pos) (tCall sp [] E t) := by
  obtain ⟨f, fd, F, hm, hk, hb, _⟩ := F.ex
  exact pe_call F (hr.mono hj) hg hm hk hb .nil hx ha hdb he hpl
/-- what the top has written of a def -/
structure FF (K : PySem.W.Frag) (x : Str) (st : Stmt) : Prop where
  ex : ∃ (f : Addr) (oc : Value) (od an : Option Addr) (osl : Array (Option Value)) (kV doc pm cdv ct : Value), PySem.W.nsIn K mainGlobals x = some (some (.ref f)) ∧
    K.lookup f = some ⟨oc, od, .func (PySem.W.fnOf x x (defArgs st) (defBody st) (defScope st) .none kV doc pm an cdv ct), osl⟩ ∧ PySem.W.codeIn K cdv x = true ∧ PySem.W.keepIn K (.ref f) = true
theorem ff_mk {K : PySem.W.Frag} {x : Str} {st : Stmt} {f : Addr} {oc : Value} {od an : Option Addr} {osl : Array (Option Value)} {kV doc pm cdv ct : Value} (a : PySem.W.nsIn K mainGlobals x = some (some (.ref f)))
    (l : K.lookup f = some ⟨oc, od, .func (PySem.W.fnOf x x (defArgs st) (defBody st) (defScope st) .none kV doc pm an cdv ct), osl⟩) (c : PySem.W.codeIn K cdv x = true) (k : PySem.W.keepIn K (.ref f) = true) : FF K x st := ⟨f, oc, od, an, osl, kV, doc, pm, cdv, ct, a, l, c, k⟩
/-- the facts of the module that a def wants -/
structure Md (K : PySem.W.Frag) (mg : Str → Option Value) : Prop where
  ns : ∀ x v, PySem.W.nsIn K mainGlobals x = some v → mg x = v
theorem md_of {K : PySem.W.Frag} {h : Heap} {mg : Str → Option Value} (X : K.In h) (G : h.Ns mainGlobals mg) : Md K mg := ⟨fun x v e => by
  cases v with
  | none => exact PySem.W.mg_none_of X G e
  | some u => exact PySem.W.mg_of X G e⟩
/-- THE RULE for a def of the text: no exception leaves it -/
theorem fn_ok {P : Program} {w : World} {K : PySem.W.Frag} {mg : Str → Option Value} {base : Heap} {x : Str} {st : Stmt} {N ps : List Str} {k : Nat} {sp : Sp} (M : Md K mg) (F : FF K x st) (S : FnScope N ps (defScope st))
    (hbind : ∀ (kV doc pm : Value) (an : Option Addr) (cdv ct : Value) (us : List Value), us.length = ps.length → bindArgs (PySem.W.fnOf x x (defArgs st) (defBody st) (defScope st) .none kV doc pm an cdv ct) ⟨us, []⟩ = pure (ps.zip us))
    (len : ∀ vs H Q E, sp vs H Q E → vs.length = ps.length)
    (hbody : ∀ (f : Addr) (cdv : Value) (A : Around) (outer : List Env) (s : Shared) (H : Hp) (vs : List V) (Q : VK) (E : XK), Room k (A.deeper (envOfC x (defScope st) s.heap.objs.size f cdv)) → sp vs H Q E →
      ∃ t, PSs (cxOf CX0 P w K mg base N x (defScope st) f cdv A outer s H E).nox (defBody st) t ∧ t { nx := fun _ H' => Q .non H', rt := Q } (start N vs) H) : Fn P w K mg base CX0 x (k + 1) ps sp := by
  obtain ⟨f, oc, od, an, osl, kV, doc, pm, cdv, ct, a, l, c, kk⟩ := F.ex
  have F1 := fun_mk (st := st) l c kk
  exact ⟨f, _, F1.ok S len (fun cdv A outer s H vs Q E hr h => hbody f cdv A outer s H vs Q E hr h), M.ns _ _ a, kk, F1.binds hbind, oc, od, osl, l⟩
/-- the law's own def, for the head -/
theorem law_of {P : Program} {w : World} {K : PySem.W.Frag} {mg : Str → Option Value} {st : Stmt} {fa : Addr} {k : Nat} {sp : Sp} {CX : CXT} (M : Md K mg) (F : FF K "law" st) (hfa : mg "law" = some (.ref fa))
    (hb : ∀ (kV doc pm : Value) (an : Option Addr) (cdv ct : Value) (s : Shared) (v : Value), BindsTo s (PySem.W.fnOf "law" "law" (defArgs st) (defBody st) (defScope st) .none kV doc pm an cdv ct) ⟨[v], []⟩ [("script", v)])
    (h : ∀ base : Heap, Fn P w K mg base CX "law" k ["script"] sp) :
    ∃ fd : FuncData, (∀ (s : Shared) (v : Value), BindsTo s fd ⟨[v], []⟩ [("script", v)]) ∧ ∀ base : Heap, K.In base → base.Ns mainGlobals mg → FnOk P w K mg base CX k fa fd ["script"] sp := by
  obtain ⟨f, oc, od, an, osl, kV, doc, pm, cdv, ct, a, l, c, kk⟩ := F.ex
  have e := hfa.symm.trans (M.ns _ _ a)
  cases e
  refine ⟨_, hb kV doc pm an cdv ct, fun base _ _ => ?_⟩
  obtain ⟨f', fd', F', hm', _, _, oc', od', osl', l'⟩ := (h base).ex
  have e := hm'.symm.trans (M.ns _ _ a)
  cases e
  rw [l] at l'
  cases l'
  exact F'
/-- the built-in names that the text does not bind -/
structure Bl (mg : Str → Option Value) : Prop where
  max : mg "max" = none
  int : mg "int" = none
  len : mg "len" = none
  range : mg "range" = none
  list : mg "list" = none
  isinst : mg "isinstance" = none
  bool : mg "bool" = none
  str : mg "str" = none
  tuple : mg "tuple" = none
  rev : mg "reversed" = none
  zip : mg "zip" = none
  min : mg "min" = none
  sum : mg "sum" = none
  enumerate : mg "enumerate" = none
  dict : mg "dict" = none
theorem bl_of {K : PySem.W.Frag} {mg : Str → Option Value} (M : Md K mg) (b1 : PySem.W.nsIn K mainGlobals "max" = some none) (b2 : PySem.W.nsIn K mainGlobals "int" = some none) (b3 : PySem.W.nsIn K mainGlobals "len" = some none) (b4 : PySem.W.nsIn K mainGlobals "range" = some none) (b5 : PySem.W.nsIn K mainGlobals "list" = some none) (b6 : PySem.W.nsIn K mainGlobals "isinstance" = some none) (b7 : PySem.W.nsIn K mainGlobals "bool" = some none) (b8 : PySem.W.nsIn K mainGlobals "str" = some none) (b9 : PySem.W.nsIn K mainGlobals "tuple" = some none) (b10 : PySem.W.nsIn K mainGlobals "reversed" = some none) (b11 : PySem.W.nsIn K mainGlobals "zip" = some none) (b12 : PySem.W.nsIn K mainGlobals "min" = some none) (b13 : PySem.W.nsIn K mainGlobals "sum" = some none) (b14 : PySem.W.nsIn K mainGlobals "enumerate" = some none) (b15 : PySem.W.nsIn K mainGlobals "dict" = some none) : Bl mg :=
  ⟨M.ns _ _ b1, M.ns _ _ b2, M.ns _ _ b3, M.ns _ _ b4, M.ns _ _ b5, M.ns _ _ b6, M.ns _ _ b7, M.ns _ _ b8, M.ns _ _ b9, M.ns _ _ b10, M.ns _ _ b11, M.ns _ _ b12, M.ns _ _ b13, M.ns _ _ b14, M.ns _ _ b15⟩
/-- everything tracked but p is as it was -/
def Keep (p : Addr) (H H' : Hp) : Prop := ∀ b o, H b = some o → b ≠ p → H' b = some o
theorem Keep.refl (p : Addr) (H : Hp) : Keep p H H := fun _ _ h _ => h
theorem Keep.trans {p : Addr} {H H1 H2 : Hp} (a : Keep p H H1) (b : Keep p H1 H2) : Keep p H H2 := fun c o h n => b c o (a c o h n) n
theorem Same.keep {p : Addr} {H H' : Hp} (a : Same H H') : Keep p H H' := fun c o h _ => a c o h
theorem Keep.upd {p : Addr} {H : Hp} {o : HO} : Keep p H (upd H p o) := fun c u h n => by rw [upd_ne n]; exact h
theorem Same.upd {H : Hp} {p : Addr} {o : HO} (h : H p = none) : Same H (upd H p o) := fun c u e => by rw [upd_ne (ne_of_none e h)]; exact e
theorem Keep.free {p : Addr} {H H' : Hp} (a : Keep p H H') {o : HO} (hp : H' p = some o) {l : Addr} (h : H' l = none) : H l = none := by
  cases q : H l with
  | none => rfl
  | some u =>
    have : l ≠ p := fun z => by subst z; rw [hp] at h; cases h
    rw [a l u q this] at h; cases h

/-! ### built-in calls in short -/
theorem bt_max : bootBuiltins "max" = some (.builtin "max") := by decide +kernel
theorem bt_min : bootBuiltins "min" = some (.builtin "min") := by decide +kernel
theorem bt_len : bootBuiltins "len" = some (.builtin "len") := by decide +kernel
theorem bt_isinst : bootBuiltins "isinstance" = some (.builtin "isinstance") := by decide +kernel
theorem bt_int : bootBuiltins "int" = some (.type "int") := by decide +kernel
theorem bt_str : bootBuiltins "str" = some (.type "str") := by decide +kernel
theorem bt_list : bootBuiltins "list" = some (.type "list") := by decide +kernel
theorem bt_rev : bootBuiltins "reversed" = some (.type "reversed") := by decide +kernel
section
variable {X : Cx} {e e2 : Expr} {te te2 : TE} {p p2 pos : Pos}
theorem PE.imp {t t' : TE} (h : PE X e t) (i : ∀ σ H Q, t' σ H Q → t σ H Q) : PE X e t' := fun pins s σ H Q I q => h pins s σ H Q I (i σ H Q q)
def tLenL (K : PySem.W.Frag) (te : TE) : TE := fun σ H Q => te σ H fun x H1 => ∃ a ys, x = .ref a ∧ SqL K H1 a ys ∧ Q (.int ys.length) H1
def tLenS (te : TE) : TE := fun σ H Q => te σ H fun x H1 => ∃ z, x = .str z ∧ z.length ≤ sizeLine ∧ Q (.int z.length) H1
def tMax (te te2 : TE) : TE := fun σ H Q => te σ H fun x H1 => te2 σ H1 fun y H2 => ∃ i j, x = .int i ∧ y = .int j ∧ Q (.int (if j > i then j else i)) H2
def tIntB (te : TE) : TE := fun σ H Q => te σ H fun x H1 => ∃ k, x = .bl k ∧ Q (.int (if k then 1 else 0)) H1
def tListOf (K : PySem.W.Frag) (te : TE) : TE := fun σ H Q => te σ H fun x H1 => ∃ a ys, x = .ref a ∧ SqL K H1 a ys ∧ ∀ l, H1 l = none → Q (.ref l) (upd H1 l (.lst ys))
def tIsi (K : PySem.W.Frag) (c : String) (te : TE) : TE := fun σ H Q => te σ H fun x H1 => ∃ t b, TyOf K H1 x t ∧ PySem.W.kitOne K t (.type c) = some b ∧ Q (.bl b) H1


def r1 (r : V → Hp → VK → Prop) : List V → Hp → VK → Prop := fun xs H Q => match xs with | [x] => r x H Q | _ => False
def r2' (r : V → V → Hp → VK → Prop) : List V → Hp → VK → Prop := fun xs H Q => match xs with | [x, y] => r x y H Q | _ => False
theorem callR1 {f : Value} {r : V → Hp → VK → Prop} (h : ∀ pins s σ H x us Q, Inv X pins σ H s → Vals [x] us → r x H Q → wpAny (model X.prog X.w) X.A (call f us) (EP X pins σ Q) X.xe s) : CallR X f (r1 r) := by
  intro pins s σ H xs us Q I rv q
  match xs, q with
  | [x], q => exact h pins s σ H x us Q I rv q
theorem callR2 {f : Value} {r : V → V → Hp → VK → Prop} (h : ∀ pins s σ H x y us Q, Inv X pins σ H s → Vals [x, y] us → r x y H Q → wpAny (model X.prog X.w) X.A (call f us) (EP X pins σ Q) X.xe s) : CallR X f (r2' r) := by
  intro pins s σ H xs us Q I rv q
  match xs, q with
  | [x, y], q => exact h pins s σ H x y us Q I rv q
theorem pe_lenL (hm : X.mg "len" = none) (ha : PE X e te) (hg : Gl X "len" := by rfl) (he : starEach [e] X.env = [(false, eval e X.env)] := by rfl) : PE X (.Call (.Name "len" p) [e] [] pos) (tLenL X.K te) :=
  pe_callB (r := r1 fun x H Q => ∃ a ys, x = .ref a ∧ SqL X.K H a ys ∧ Q (.int ys.length) H) (callR1 fun pins s σ H x us Q I rv ⟨a, ys, ex, h, q⟩ => call_len_seq pins s σ H _ us Q I rv ⟨a, ys, by rw [ex], .inl h, q⟩) hg hm bt_len (pa_cons ha pa_nil (by exact he)) (he := by exact he)
theorem pe_lenS (hm : X.mg "len" = none) (ha : PE X e te) (hg : Gl X "len" := by rfl) (he : starEach [e] X.env = [(false, eval e X.env)] := by rfl) : PE X (.Call (.Name "len" p) [e] [] pos) (tLenS te) :=
  pe_callB (r := r1 fun x H Q => ∃ z, x = .str z ∧ z.length ≤ sizeLine ∧ Q (.int z.length) H) (callR1 fun pins s σ H x us Q I rv ⟨z, ex, h, q⟩ => call_len_str pins s σ H _ us Q I rv ⟨z, by rw [ex], h, q⟩) hg hm bt_len (pa_cons ha pa_nil (by exact he)) (he := by exact he)
theorem pe_max (hc : X.calm = true) (hm : X.mg "max" = none) (ha : PE X e te) (hb : PE X e2 te2) (hg : Gl X "max" := by rfl) (he : starEach [e, e2] X.env = [(false, eval e X.env), (false, eval e2 X.env)] := by rfl) (he2 : starEach [e2] X.env = [(false, eval e2 X.env)] := by rfl) : PE X (.Call (.Name "max" p) [e, e2] [] pos) (tMax te te2) :=
  pe_callB (r := r2' fun x y H Q => ∃ i j, x = .int i ∧ y = .int j ∧ Q (.int (if j > i then j else i)) H) (callR2 fun pins s σ H x y us Q I rv ⟨i, j, ex, ey, q⟩ => call_max2 hc pins s σ H _ us Q I rv ⟨i, j, by rw [ex, ey], q⟩) hg hm bt_max (pa_cons ha (pa_cons hb pa_nil (by exact he2)) (by rw [he, he2])) (he := by rw [he, he2]) (hpl := by rw [he2]; rfl)
theorem pe_intB (hm : X.mg "int" = none) (ha : PE X e te) (hg : Gl X "int" := by rfl) (he : starEach [e] X.env = [(false, eval e X.env)] := by rfl) : PE X (.Call (.Name "int" p) [e] [] pos) (tIntB te) :=
  pe_callTy (r := r1 fun x H Q => ∃ k, x = .bl k ∧ Q (.int (if k then 1 else 0)) H) (callR1 fun pins s σ H x us Q I rv ⟨z, ex, q⟩ => call_int1 pins s σ H _ us Q I rv (.inr ⟨z, by rw [ex], q⟩)) hg hm bt_int (pa_cons ha pa_nil (by exact he)) (he := by exact he)
theorem pe_listOf (hm : X.mg "list" = none) (ha : PE X e te) (hg : Gl X "list" := by rfl) (he : starEach [e] X.env = [(false, eval e X.env)] := by rfl) : PE X (.Call (.Name "list" p) [e] [] pos) (tListOf X.K te) :=
  pe_callTy (r := r1 fun x H Q => ∃ a ys, x = .ref a ∧ SqL X.K H a ys ∧ ∀ l, H l = none → Q (.ref l) (upd H l (.lst ys))) (callR1 fun pins s σ H x us Q I rv ⟨a, ys, ex, h, q⟩ => call_list_of pins s σ H _ us Q I rv ⟨a, ys, by rw [ex], .inl h, q⟩) hg hm bt_list (pa_cons ha pa_nil (by exact he)) (he := by exact he)
theorem pe_isi {T : Str} {c : String} (hm : X.mg "isinstance" = none) (hT : X.mg T = none) (hb : bootBuiltins T = some (.type c)) (ha : PE X e te) (hg : Gl X "isinstance" := by rfl) (hgT : Gl X T := by rfl) (he : starEach [e, .Name T p2] X.env = [(false, eval e X.env), (false, eval (.Name T p2) X.env)] := by rfl)
    (hn : T ≠ "__name__" := by decide) (hd : (T == ("__debug__" : Str)) = false := by decide) : PE X (.Call (.Name "isinstance" p) [e, .Name T p2] [] pos) (tIsi X.K c te) :=
  pe_callB (r := r2' fun x y H Q => ∃ t b, y = .ty c ∧ TyOf X.K H x t ∧ PySem.W.kitOne X.K t (.type c) = some b ∧ Q (.bl b) H)
    (callR2 fun pins s σ H x y us Q I rv ⟨t, b, ey, ty, ek, q⟩ => call_isinst pins s σ H _ us Q I rv ⟨x, t, c, b, by rw [ey], ty, ek, q⟩) hg hm bt_isinst
    (pa_cons ha (pa_cons (pe_bltn (v := .ty c) hgT hT hb rfl hn hd) pa_nil) (by exact he)) (he := by exact he) |>.imp fun σ H Q h => by
      show te σ H fun x H1 => ∃ t b, V.ty c = .ty c ∧ _
      simp only [true_and]
      exact h
end
end L2

namespace L2
open PySem PySem.Spec PyProof.Rows
theorem sIx_pos (n d : Nat) (i : Int) (h : 0 ≤ i) : HT.sIx n d (some i) = min i.toNat n := by
  show (if i < 0 then (i + (n : Int)).toNat else min i.toNat n) = min i.toNat n
  rw [if_neg (by omega)]
theorem take_min {α : Type} (xs : List α) (k : Nat) : xs.take (min k xs.length) = xs.take k := by
  rcases Nat.le_total k xs.length with h | h
  · rw [Nat.min_eq_left h]
  · rw [Nat.min_eq_right h, List.take_length, List.take_of_length_le h]
theorem drop_min {α : Type} (xs : List α) (k : Nat) : xs.drop (min k xs.length) = xs.drop k := by
  rcases Nat.le_total k xs.length with h | h
  · rw [Nat.min_eq_left h]
  · rw [Nat.min_eq_right h, List.drop_length, List.drop_of_length_le h]
/-- a slice of a list, its bounds from 0 on -/
def cutL {α : Type} (xs : List α) (lo hi : Option Int) : List α := (xs.drop (HT.sIx xs.length 0 lo)).take (HT.sIx xs.length xs.length hi - HT.sIx xs.length 0 lo)
theorem cutL_hi {α : Type} (xs : List α) (k : Int) (h : 0 ≤ k) : cutL xs none (some k) = xs.take k.toNat := by
  unfold cutL
  rw [sIx_pos _ _ _ h, HT.sIx_none, List.drop_zero, Nat.sub_zero, take_min]
theorem cutL_lo {α : Type} (xs : List α) (k : Int) (h : 0 ≤ k) : cutL xs (some k) none = xs.drop k.toNat := by
  unfold cutL
  rw [sIx_pos _ _ _ h, HT.sIx_none, drop_min]
  exact List.take_of_length_le (by rw [List.length_drop]; omega)
theorem cutL_both {α : Type} (xs : List α) (i j : Int) (hi : 0 ≤ i) (hj : i ≤ j) : cutL xs (some i) (some j) = (xs.drop i.toNat).take (j.toNat - i.toNat) := by
  unfold cutL
  rw [sIx_pos _ _ _ hi, sIx_pos _ _ _ (Int.le_trans hi hj), drop_min]
  rcases Nat.le_total j.toNat xs.length with h | h
  · rw [Nat.min_eq_left h, Nat.min_eq_left (by omega)]
  · rw [Nat.min_eq_right h]
    rcases Nat.le_total i.toNat xs.length with h' | h'
    · rw [Nat.min_eq_left h', List.take_of_length_le (by rw [List.length_drop]; omega), List.take_of_length_le (by rw [List.length_drop]; omega)]
    · rw [List.drop_of_length_le h']; simp
theorem cutL_map {α β : Type} (f : α → β) (xs : List α) (lo hi : Option Int) : cutL (xs.map f) lo hi = (cutL xs lo hi).map f := by
  unfold cutL
  rw [List.length_map, List.map_take, List.map_drop]
theorem cutV_cutL (xs : List V) (lo hi : Option Int) : cutV xs lo hi = cutL xs lo hi := rfl
theorem strIx_eq (lo hi : Option Int) (n : Nat) : Builtin.Str.strSliceIndices lo hi 1 n = (List.range (HT.sIx n n hi - HT.sIx n 0 lo)).map (HT.sIx n 0 lo + ·) := by
  obtain ⟨h1, h2, h3⟩ := slice_bounds lo hi n
  have e : Builtin.Str.strSliceIndices lo hi 1 n = sliceRange (sliceBounds lo hi none n).1 (sliceBounds lo hi none n).2.1 (sliceBounds lo hi none n).2.2 := by
    cases lo <;> cases hi <;> rfl
  rw [e, h1, h2, h3, sliceRange_one]
theorem cutS_eq (cs : List Nat) (lo hi : Option Int) : cutS ⟨cs.toArray⟩ lo hi = ⟨(cutL cs lo hi).toArray⟩ := by
  unfold cutS Txt.slice
  have hl : (Str.length ⟨cs.toArray⟩) = cs.length := by simp [Str.length]
  rw [hl, strIx_eq]
  have e := pick_run cs.toArray (HT.sIx cs.length 0 lo) (HT.sIx cs.length cs.length hi - HT.sIx cs.length 0 lo)
  have le1 := HT.sIx_le cs.length 0 (Nat.zero_le _) lo
  have le2 := HT.sIx_le cs.length cs.length (Nat.le_refl _) hi
  split
  · rename_i hc
    simp only [List.length_map, List.length_range, beq_self_eq_true, Bool.true_and, beq_iff_eq] at hc
    unfold cutL
    have z : HT.sIx cs.length 0 lo = 0 ∨ cs.length = 0 := by omega
    have : (cs.drop (HT.sIx cs.length 0 lo)).take (HT.sIx cs.length cs.length hi - HT.sIx cs.length 0 lo) = cs := by
      rcases z with z | z
      · rw [z] at hc ⊢
        rw [List.drop_zero]
        exact List.take_of_length_le (by omega)
      · have : cs = [] := List.length_eq_zero_iff.mp z
        subst this; simp
    rw [this]
  · rw [e]
    rfl
theorem atI_ex {α : Type} (xs : List α) (r : Int) (h0 : 0 ≤ r) (h1 : r < xs.length) : ∃ v, xs[r.toNat]? = some v ∧ v ∈ xs ∧ atI xs r = some v := by
  have hl : r.toNat < xs.length := by omega
  refine ⟨xs[r.toNat], by simp [hl], List.getElem_mem hl, ?_⟩
  have e : ((r.toNat : Nat) : Int) = r := by omega
  have q : atI xs ((r.toNat : Nat) : Int) = some xs[r.toNat] := atI_nat (by simp [hl])
  rw [e] at q
  exact q
theorem ixN_pos (n : Nat) (i : Int) (h0 : 0 ≤ i) (h1 : i < n) : ixN n i = some i.toNat := by
  unfold ixN
  rw [if_pos h0, if_pos h1]
theorem str_len (cs : List Nat) : (Str.length ⟨cs.toArray⟩) = cs.length := by simp [Str.length]
theorem str_app (a b : List Nat) : ((⟨a.toArray⟩ : Str) ++ (⟨b.toArray⟩ : Str)) = ⟨(a ++ b).toArray⟩ := by
  show Str.mk _ = _
  simp
end L2

namespace L2
open PySem PySem.Spec PyProof.Rows
/-- reversed(list), walked -/
def Itv (K : PySem.W.Frag) (a : Addr) (xs : List V) : It :=
  ⟨fun i H => SqL K H a xs ∧ i < xs.length, fun i H x H' => H' = H ∧ xs[xs.length - 1 - i]? = some x, fun i _ => xs.length ≤ i⟩
theorem turn_rev {P : Program} {w : World} {K : PySem.W.Frag} {tg : Expr} (a it : Addr) (xs : List V) : Turn P w K tg (Itv K a xs) [it] it (fun i h => i ≤ xs.length ∧ h.IsRevIter it a ((xs.length : Int) - 1 - (i : Int))) where
  mem := by simp
  obj := fun i h st b hb => by
    have e : b = it := by simpa using hb
    subst e
    obtain ⟨o, e, c, d⟩ := st.2
    exact ⟨o, e, fun v z => by rw [d] at z; cases z⟩
  keep := fun i h h' st k => ⟨st.1, st.2.at fun o e => k it (by simp) o e⟩
  item := by
    intro X hP hw hK hc i pins s σ H E I hf st hg
    subst hP hw hK
    obtain ⟨hq, hx⟩ := hg
    obtain ⟨its, rv, p, hz⟩ := I.list hq
    have hlt : xs.length - 1 - i < xs.length := by omega
    obtain ⟨u, hu, ru⟩ := rv.get (show xs[xs.length - 1 - i]? = some xs[xs.length - 1 - i] by simp [hlt])
    obtain ⟨f0, f1, f2, f3, f4, f5⟩ := hf it (by simp)
    have e1 : (xs.length : Int) - 1 - (i : Int) = ((xs.length - 1 - i : Nat) : Int) := by omega
    have hit := st.2
    rw [e1] at hit
    refine wpAny_pyNext_rev_item hit p.isList (x := u) (by simpa using hu) fun h' st' sb => ?_
    have e2 : ((xs.length - 1 - i : Nat) : Int) - 1 = (xs.length : Int) - 1 - ((i + 1 : Nat) : Int) := by omega
    rw [e2] at st'
    have I1 : Inv X pins σ H { s with heap := h' } := I.turned (t' := s.toks) (fun b o hb e => (sb.2 b hb).trans e) f0 f1 f3 f4 f5
    obtain ⟨o, e, c, d⟩ := id st'
    exact ⟨u, rfl, go_of (s := { s with heap := h' }) e c d (by decide) ⟨_, H, I1, ru, ⟨rfl, by simp [hlt]⟩, ⟨hx, st'⟩, fun b hb => (hf b hb).1⟩⟩
  done := by
    intro X hP hw hK hc i pins s σ H E I hf st hg
    subst hP hw hK
    obtain ⟨f0, f1, f2, f3, f4, f5⟩ := hf it (by simp)
    have hg' : xs.length ≤ i := hg
    have e1 : (xs.length : Int) - 1 - (i : Int) = -1 := by have := st.1; omega
    have hit := st.2
    rw [e1] at hit
    exact wpAny_pyNext_rev_end (I.ok.hd hc) hit fun h' eb => ⟨rfl, I.turned (t' := s.toks) (fun b o hb e => eb b o hb e) f0 f1 f3 f4 f5⟩
  self := fun _ _ _ _ _ st h => wpAny_pyIter_revIter st.2 h
def iRev (K : PySem.W.Frag) (tl : TE) : TI := fun σ H R => tl σ H fun x H1 => ∃ a xs, x = .ref a ∧ SqL K H1 a xs ∧ R (Itv K a xs) H1
theorem pi_rev {X : Cx} {tg e : Expr} {te : TE} {p pos : Pos} (hm : X.mg "reversed" = none) (he : PE X e te) (hg : Gl X "reversed" := by rfl) (hs : starEach [e] X.env = [(false, eval e X.env)] := by rfl) : PI X tg (.Call (.Name "reversed" p) [e] [] pos) (iRev X.K te) := by
  intro pins s σ H R I h
  refine Call_ (ld_blt I hg hm bt_rev (PyProof.Rows.callWith_type1 (thn ((pa_cons he pa_nil (by exact hs)) pos pins s σ H (fun vs H1 => ∃ x, vs = [x] ∧ ∃ a xs, x = .ref a ∧ SqL X.K H1 a xs ∧ R (Itv X.K a xs) H1) I ?_) fun us s1 ⟨vs, H1, I1, r1, q1⟩ => ?_) hs rfl))
  · show te σ H fun x H1 => ∃ x', [x] = [x'] ∧ ∃ a xs, x' = .ref a ∧ SqL X.K H1 a xs ∧ R (Itv X.K a xs) H1
    have e : (fun (x : V) (H1 : Hp) => ∃ x', [x] = [x'] ∧ ∃ a xs, x' = V.ref a ∧ SqL X.K H1 a xs ∧ R (Itv X.K a xs) H1) = fun x H1 => ∃ a xs, x = .ref a ∧ SqL X.K H1 a xs ∧ R (Itv X.K a xs) H1 := by
      funext x H1
      apply propext
      constructor
      · rintro ⟨x', e, r⟩
        cases e
        exact r
      · intro r
        exact ⟨x, rfl, r⟩
    rw [e]
    exact h
  · obtain ⟨x, rfl, a, xs, rfl, hq, q⟩ := q1
    obtain ⟨u, rfl, ru⟩ := vals1 r1
    cases ru
    obtain ⟨its, rv, pl, hz⟩ := I1.list hq
    refine call_reversed_list pl.isList ?_
    have I2 : Inv X pins σ H1 { s1 with heap := s1.heap.push (revObj a ((its.toArray.size : Int) - 1)) } := I1.kept (t' := s1.toks) fun b o e => Heap.get?_push_of_some _ e
    have hl := rv.length
    have st : ({ s1 with heap := s1.heap.push (revObj a ((its.toArray.size : Int) - 1)) } : Shared).heap.IsRevIter s1.heap.objs.size a ((xs.length : Int) - 1 - ((0 : Nat) : Int)) := by
      refine ⟨_, Heap.get?_push_size _ rfl, rfl, ?_⟩
      have : (its.toArray.size : Int) - 1 = (xs.length : Int) - 1 - ((0 : Nat) : Int) := by simp; omega
      rw [← this]; rfl
    refine wpAny_pyIter_revIter st ?_
    refine ⟨s1.heap.objs.size, [s1.heap.objs.size], _, _, H1, rfl, I2, turn_rev a _ xs, ⟨Nat.zero_le _, st⟩, fun b hb => ?_, q⟩
    have e : b = s1.heap.objs.size := by simpa using hb
    subst e
    exact I1.fpOk (Nat.le_refl _) (I1.hok.fresh (Nat.le_refl _))
/-- a comprehension over reversed(list) -/
theorem comp_rev {K : PySem.W.Frag} {a : Addr} {xs : List V} {tc : TT} {te : TE} {σ : St} {H1 : Hp} {Q : Hp → Prop} {D : Addr} (Pv : Nat → List V → Hp → Prop) (hn : xs.length < sizeLine) (h0 : Pv 0 [] (upd H1 D (.lst [])))
    (hl : ∀ i ys H, Pv i ys H → ys.length ≤ i) (hq : ∀ i ys H, i ≤ xs.length → Pv i ys H → SqL K H a xs)
    (hs : ∀ i x ys H, xs[xs.length - 1 - i]? = some x → i < xs.length → Pv i ys H → tc (σ ++ [some x]) H fun b H2 => if b = true then te (σ ++ [some x]) H2 fun v H3 => H3 D = some (.lst ys) ∧ Pv (i + 1) (ys ++ [v]) (upd H3 D (.lst (ys ++ [v]))) else Pv (i + 1) ys H2)
    (hd : ∀ ys H, Pv xs.length ys H → Q H) :
    ∃ W : Nat → Nat → List V → Hp → Prop, (∃ m, W 0 m [] (upd H1 D (.lst []))) ∧
      ∀ i m ys H, W i m ys H → ((Itv K a xs).stop i H ∧ Q H) ∨ ((Itv K a xs).go i H ∧ ys.length < sizeLine ∧ ∃ N : List V → Hp → Prop, (∀ ys' H', N ys' H' → ∃ m', m' < m ∧ W (i + 1) m' ys' H') ∧ ∀ x H', (Itv K a xs).yld i H x H' → tc (σ ++ [some x]) H' fun b H2 =>
        if b = true then te (σ ++ [some x]) H2 fun v H3 => H3 D = some (.lst ys) ∧ N (ys ++ [v]) (upd H3 D (.lst (ys ++ [v]))) else N ys H2) := by
  refine ⟨fun i m ys H => m = xs.length - i ∧ i ≤ xs.length ∧ Pv i ys H, ⟨xs.length, by simp, Nat.zero_le _, h0⟩, ?_⟩
  rintro i m ys H ⟨rfl, hi, p⟩
  have q := hq i ys H hi p
  by_cases hlt : i < xs.length
  · refine .inr ⟨⟨q, hlt⟩, Nat.lt_of_le_of_lt (hl i ys H p) (Nat.lt_trans hlt hn), Pv (i + 1), fun ys' H' p' => ⟨xs.length - (i + 1), by omega, rfl, hlt, p'⟩, fun x H' y => ?_⟩
    obtain ⟨e, y⟩ := y
    subst e
    exact hs i x ys _ y hlt p
  · have e : i = xs.length := by omega
    subst e
    exact .inl ⟨Nat.le_refl _, hd ys H p⟩
theorem tNoIf_go {σ : St} {H : Hp} {A B : Hp → Prop} (h : A H) : tNoIf σ H fun b H2 => if b = true then A H2 else B H2 := by
  show if true = true then A H else B H
  rw [if_pos rfl]
  exact h
theorem Same.tup {K : PySem.W.Frag} {H H' : Hp} {a : Addr} {xs : List V} (e : Same H H') (h : H a = some (.tup xs)) : SqT K H' a xs := SqT.of (e _ _ h)
end L2

namespace L2
open PySem PySem.Spec PyProof.Rows
section
variable {X : Cx} {a b e : Expr} {rest : List Expr} {ta tb te : TE} {p pos : Pos}
end
/-! ### to go on at the first statement -/
def FW (J : It) (g : TG) (tb : TS) (D : Ends) (σ : St) (H1 : Hp) : Prop := ∃ W : Nat → Nat → St → Hp → Prop, (∃ m, W 0 m σ H1) ∧ ∀ i m σ H, W i m σ H →
  (J.stop i H ∧ D.nx σ H) ∨ (J.go i H ∧ ∃ N : St → Hp → Prop, (∀ σ' H', N σ' H' → ∃ m', m' < m ∧ W (i + 1) m' σ' H') ∧ ∀ x H', J.yld i H x H' → g x σ H' fun σ2 H2 => tb { D with nx := N, ct := N, bk := D.nx } σ2 H2)
theorem seq_for {wi : TI} {g : TG} {tb rest : TS} {D : Ends} {σ : St} {H : Hp} (h : wi σ H fun J H1 => FW J g tb { D with nx := rest D } σ H1) : tSeq (tFor wi g tb) rest D σ H := h
theorem seq_asg {te : TE} {g : TG} {rest : TS} {D : Ends} {σ : St} {H : Hp} (h : te σ H fun x H1 => g x σ H1 (rest D)) : tSeq (tAsg te g) rest D σ H := h
theorem seq_if {c : TT} {t u rest : TS} {D : Ends} {σ : St} {H : Hp} (h : c σ H fun b H1 => if b = true then t { D with nx := rest D } σ H1 else u { D with nx := rest D } σ H1) : tSeq (tIfS c t u) rest D σ H := h
end L2

namespace L2
open PySem PySem.Spec PyProof.Rows
/-! ### // by a divisor of up to sixty figures -/
def CDivL (i j : Int) : Prop := 0 < j ∧ j < 1000000000000000000000000000000000000000000000000000000000000
theorem op_fdivL {X : Cx} : OpR X (binaryOp .FloorDiv) (rI CDivL fun i j => .int (i / j)) := opI fun i j _ _ _ _ _ hc q => by
  have hn : j.natAbs.log2 < 9000 := by
    have h0 : j.natAbs ≠ 0 := by have := hc.1; omega
    rw [Nat.log2_lt h0]
    have h1 : j.natAbs < 1000000000000000000000000000000000000000000000000000000000000 := by have := hc.1; have := hc.2; omega
    exact Nat.lt_of_lt_of_le h1 (Nat.le_trans (show 1000000000000000000000000000000000000000000000000000000000000 ≤ 2 ^ 200 by decide) (Nat.pow_le_pow_right (by decide) (by decide)))
  refine floordiv_int (by have := hc.1; omega) ?_ (.inl (PyProof.noPylong_of_log2 hn))
  rw [Int.fdiv_eq_ediv_of_nonneg _ (by have := hc.1; omega)]
  exact q
/-! ### records turned, and a new object -/
/-! ### zip of two lists -/
/-! ### xs[::-1] -/
def tRev (K : PySem.W.Frag) (te : TE) : TE := fun σ H Q => te σ H fun x H1 => ∃ a xs, x = .ref a ∧ SqL K H1 a xs ∧ ∀ p, H1 p = none → Q (.ref p) (upd H1 p (.lst xs.reverse))
theorem pe_rev_slice {X : Cx} {e : Expr} {te : TE} {pos p1 p2 p3 : Pos} {j : Nat} (he : PE X e te) : PE X (.Subscript e (.Slice none none (some (.UnaryOp .USub (.Constant (.int 1) j p1) p2)) p3) pos) (tRev X.K te) := by
  intro pins s σ H Q I h
  refine Subscript_ (thn (he pins s σ H _ I h) fun v s1 ⟨x, H1, I1, r1, q1⟩ => ?_)
  obtain ⟨a, xs, rfl, hq, q⟩ := q1
  cases r1
  refine wpAny_Slice ?_
  rw [evalPart_none, evalPart_some]
  refine wpAny_pure (wpAny_pure ?_)
  refine thn (pe_un un_neg (pe_int (i := 1)) pins s1 σ H1 (fun y H' => y = .int (-1) ∧ H' = H1) I1 ⟨1, rfl, rfl, rfl⟩) fun u s2 ⟨y, H2, I2, r2, e1, e2⟩ => ?_
  subst e1 e2
  obtain ⟨t, rfl⟩ := r2
  have I3 : Inv X pins σ H2 { s2 with heap := s2.heap.push { cls := .type "slice", data := .fields #[.none, .none, .int (-1) t] } } := I2.kept (t' := s2.toks) fun b ob q => Heap.get?_push_of_some _ q
  obtain ⟨its, r, ht, hz⟩ := I3.list hq
  have hlen := r.length
  refine tail_any (ops := [.ref a, .ref s2.heap.objs.size]) ht.isList.typeIs slot_list_getitem.lookup (wpAny_getItem_list_slice ht.isList (Heap.IsSliceOf.new ..) .none .none (.int (-1) t) (by simp) ?_ (by rw [List.size_toArray] <;> omega)) (by with_unfolding_all rfl)
  rw [PySem.W.krv_pick]
  refine ⟨.ref _, _, I3.laid (t' := s2.toks) (o := .lst xs.reverse) (fun b ob q => Heap.get?_push_of_some _ q) (Nat.le_refl _) ?_, rfl, q _ (I3.hok.fresh (Nat.le_refl _))⟩
  exact ⟨by rw [List.length_reverse]; exact hz, _, 0, r.reverse, Heap.get?_push_size _ rfl⟩
end L2

namespace L2
open PySem PySem.Spec PyProof.Rows
section
variable {X : Cx} {e e2 : Expr} {te te2 : TE} {p p2 pos : Pos}
end
end L2
namespace L2
open PySem PySem.Spec PyProof.Rows
/-! ### a row of written whole numbers -/
end L2

namespace L2
open PySem PySem.Spec PyProof.Rows
/-! ### enumerate of a list -/
end L2

namespace L2
open PySem PySem.Spec PyProof.Rows
/-! ### sum of a list of small numbers -/
section
variable {X : Cx}
variable {e : Expr} {te : TE} {p pos : Pos}
end
end L2

namespace L2
open PySem PySem.Spec PyProof.Rows
/-! ### list of a text -/
theorem vals_of_get : ∀ {xs : List V} {us : List Value}, xs.length = us.length → (∀ (i : Nat) (x : V) (u : Value), xs[i]? = some x → us[i]? = some u → RelV x u) → Vals xs us
  | [], [], _, _ => .nil
  | [], _ :: _, h, _ => by simp at h
  | _ :: _, [], h, _ => by simp at h
  | x :: xs, u :: us, h, g => .cons (g 0 x u rfl rfl) (vals_of_get (by simpa using h) fun i x' u' a b => g (i + 1) x' u' (by simpa using a) (by simpa using b))
section
variable {X : Cx} {e : Expr} {te : TE} {p pos : Pos}
theorem call_listS (hc : X.calm = true) : CallR X (.type "list") (fun xs H Q => ∃ z : Str, xs = [.str z] ∧ z.length ≤ sizeLine ∧ ∀ l, H l = none → Q (.ref l) (upd H l (.lst (z.cps.toList.map sg)))) := by
  intro pins s σ H xs us Q I r h
  obtain ⟨z, rfl, hz, q⟩ := h
  obtain ⟨u, rfl, rx⟩ := vals1 r
  obtain ⟨t, rfl⟩ := rx
  refine call_list_str (hn := hz) (I.ok.hd hc) z t fun h' tk acc c k hl hit => ?_
  refine ⟨.ref _, _, I.laid (t' := tk) (o := .lst (z.cps.toList.map sg)) k (Nat.le_refl _) ?_, rfl, q _ (I.hok.fresh (Nat.le_refl _))⟩
  obtain ⟨hsz, hat⟩ := hit
  refine ⟨by rw [List.length_map]; simpa [Str.length] using hz, acc.toList, c, ?_, by simpa using hl⟩
  refine vals_of_get (by rw [List.length_map]; simp [hsz]) fun i x u hx hu => ?_
  have hu' : acc[i]? = some u := by simpa using hu
  obtain ⟨c', t', h1, rfl⟩ := hat i u hu'
  rw [List.getElem?_map] at hx
  have : z.cps.toList[i]? = some c' := by simpa using h1
  rw [this] at hx
  have e : sg c' = x := Option.some.inj hx
  subst e
  exact ⟨t', rfl⟩
def tListS (te : TE) : TE := fun σ H Q => te σ H fun x H1 => ∃ z : Str, x = .str z ∧ z.length ≤ sizeLine ∧ ∀ l, H1 l = none → Q (.ref l) (upd H1 l (.lst (z.cps.toList.map sg)))
theorem pe_listS (hc : X.calm = true) (hm : X.mg "list" = none) (ha : PE X e te) (hg : Gl X "list" := by rfl) (he : starEach [e] X.env = [(false, eval e X.env)] := by rfl) : PE X (.Call (.Name "list" p) [e] [] pos) (tListS te) :=
  pe_callTy (r := r1 fun x H Q => ∃ z : Str, x = .str z ∧ z.length ≤ sizeLine ∧ ∀ l, H l = none → Q (.ref l) (upd H l (.lst (z.cps.toList.map sg)))) (callR1 fun pins s σ H x us Q I rv ⟨z, ex, h, q⟩ => call_listS hc pins s σ H _ us Q I rv ⟨z, by rw [ex], h, q⟩) hg hm bt_list (pa_cons ha pa_nil (by exact he)) (he := by exact he)
end
end L2

namespace L2
open PySem PySem.Spec PyProof.Rows
/-! ### a comprehension with several names -/

structure CompOK2 (outer sc : Scope) (xs : List Str) (M N : List Str) : Prop where
  kind : sc.kind = .function
  nocell : ∀ y ∈ sc.names, y.2 ≠ .cell
  loc : ∀ y ∈ sc.names, y.2 = .local → sc.names.lookup y.1 = some .local
  own : ∀ x ∈ xs, sc.names.lookup x = some .local
  free : ∀ y ∈ sc.names, y.2 = .free → (outer.names.lookup y.1 = some .cell ∨ outer.names.lookup y.1 = some .free)
  nd : (M ++ xs).Nodup
  len : M.length = N.length
  same : ∀ p ∈ M.zip N, p.1 = p.2 ∨ sc.names.lookup p.1 = none
  noloc : ∀ y ∈ M, sc.names.lookup y ≠ some .local

section
variable {X : Cx} {pins : List (Addr × Obj)} {σ : St} {H2 : Hp} {s2 : Shared} {scope : Scope} {xs M : List Str} {cl : List (Str × Addr)} {fp : List Addr} {h1 : Heap} {t' : Nat}

end


/-! ### isinstance with a row of built-in classes -/
inductive TyB (H : Hp) : V → Value → Prop where
  | non : TyB H .non (.type "NoneType")
  | bl (x : Bool) : TyB H (.bl x) (.type "bool")
  | int (i : Int) : TyB H (.int i) (.type "int")
  | str (x : Str) : TyB H (.str x) (.type "str")
  | lst {a : Addr} {xs : List V} (e : H a = some (.lst xs)) : TyB H (.ref a) (.type "list")
  | tup {a : Addr} {xs : List V} (e : H a = some (.tup xs)) : TyB H (.ref a) (.type "tuple")
section
variable {X : Cx} {e : Expr} {te : TE} {p pos : Pos}
end
/-! ### the walk of a comprehension over zip -/
end L2

namespace L2
open PySem PySem.Spec PyProof.Rows
/-! ### exceptions: how one lies behind a call -/
theorem frames_data {h base : Heap} : ∀ {l : List Env}, h.FunFrames base l → ∀ L ∈ frs l, ∃ o, h.get? L = some o ∧ ∀ vs, o.data ≠ .fields vs
  | [], _, L, hL => by cases hL
  | env :: r, ⟨h1, ⟨L', o, h2, h3, h4, h5⟩, h6⟩, L, hL => by
    obtain ⟨en, e3, e4⟩ := List.mem_filterMap.mp hL
    rcases List.mem_cons.mp e3 with z | z
    · subst z
      have : L = L' := Option.some.inj (e4.symm.trans h2)
      subst this
      exact ⟨o, h4, h5⟩
    · exact frames_data h6 L (List.mem_filterMap.mpr ⟨en, z, e4⟩)
section
variable {X : Cx} {pins : List (Addr × Obj)} {σ : St} {H1 : Hp} {s1 : Shared}
/-- the frames behind a state of a body -/
theorem Inv.fsAt (I : Inv X pins σ H1 s1) : ∀ L ∈ X.fs, ∃ o, s1.heap.get? L = some o ∧ (∀ vs, o.data ≠ .fields vs) ∧ H1 L = none ∧ X.base.get? L = none := fun L hL => by
  obtain ⟨o, h1, h2⟩ := frames_data I.ok.funs L hL
  have hx : L ∉ X.ex := fun z => I.ok.exfs L z hL
  obtain ⟨sl, e⟩ := I.base.slot L o h1 (I.ok.frf L hL) hL hx
  exact ⟨_, e, h2, I.base.free L o h1 (I.ok.frf L hL) hx, (I.ok.funs.mem hL).1⟩
end
/-! ### own classes under ValueError, raised -/
abbrev mroV : List Value := [.type "ValueError", .type "Exception", .type "BaseException", .type "object"]
/-- what the top has written of such a class -/
structure Exc (K : PySem.W.Frag) (mg : Str → Option Value) (x : Str) (C : Addr) : Prop where
  bound : mg x = some (.ref C)
  isIn : PySem.W.excIn K C mroV "ValueError.__new__" = true
end L2

namespace L2
open PySem PySem.Spec PyProof.Rows
/-! ### try .. except C as n: the tried body, what is caught, the suite -/
section
variable {X : Cx} {pins : List (Addr × Obj)} {σ σ0 : St} {H H1 : Hp} {s s1 : Shared} {E0 : XK}
/-- the state in which an exception is caught -/
theorem Inv.caught {s' : Shared} {H' : Hp} {B h5 : Heap} (hst : X.stack = X.env :: X.outer) (hfr : X.env.frame = some X.env.locals) (I : Inv X pins σ H1 s1) (os : s'.os = s1.os) (gb : AllBare s'.gens)
    (un : Un (frs X.stack) [] H1 H' s1.heap s'.heap) (hok : HOk X.prog X.w H' s'.heap) (hB : ∀ b o, s'.heap.get? b = some o → b ∉ frs X.stack → (s1.heap.get? b ≠ none ∨ H' b ≠ none) → B.get? b = some o)
    (st5 : ∀ b o, B.get? b = some o → h5.get? b = some o) (up : s'.heap.UpToSlots h5) : Inv X pins σ H' { s' with heap := h5 } := by
  have frn : ∀ b, b ∈ frs X.stack → H1 b = none ∧ H' b = none ∧ ∃ o, s1.heap.get? b = some o ∧ ∀ vs, o.data ≠ .fields vs := fun b hm => by
    have h1 : ∃ o, s1.heap.get? b = some o ∧ (∀ vs, o.data ≠ .fields vs) ∧ H1 b = none := by
      rw [hst] at hm
      obtain ⟨en, e3, e4⟩ := List.mem_filterMap.mp hm
      rcases List.mem_cons.mp e3 with z | z
      · subst z
        have : b = X.env.locals := Option.some.inj (e4.symm.trans hfr)
        subst this
        obtain ⟨m, hn', _⟩ := I.loc
        obtain ⟨o, es, ep, ho, hd, _⟩ := id hn'
        exact ⟨o, ho, (fun vs q => by rw [hd] at q; cases q), I.free⟩
      · obtain ⟨o, h1, h2, h3, _⟩ := I.fsAt b (List.mem_filterMap.mpr ⟨en, z, e4⟩)
        exact ⟨o, h1, h2, h3⟩
    obtain ⟨o, h2, h3, h4⟩ := h1
    exact ⟨h4, un.free b o h2 h4 (by simp), o, h2, h3⟩
  have st : ∀ b o, s'.heap.get? b = some o → b ∉ frs X.stack → (s1.heap.get? b ≠ none ∨ H' b ≠ none) → h5.get? b = some o := fun b o q n z => st5 b o (hB b o q n z)
  refine I.call' (ch := []) os ⟨fun b o q n hb hx => ?_, fun b o q n hb hx => ?_, un.free, fun b o q hx => ?_, un.tups, un.frzs, un.tbls⟩ (fun b u q => ?_) gb (by simp)
  · exact st b o (un.keep b o q n hb hx) hb (.inl (by rw [q]; simp))
  · obtain ⟨z, q'⟩ := un.slot b o q n hb hx
    obtain ⟨_, _, o2, q2, q3⟩ := frn b hb
    rw [q] at q2; cases q2
    obtain ⟨z', q4⟩ := up b _ q' q3
    exact ⟨z', q4⟩
  · by_cases hb : b ∈ frs X.stack
    · obtain ⟨n1, _, o2, q2, q3⟩ := frn b hb
      rw [q] at q2; cases q2
      obtain ⟨z, q'⟩ := un.slot b o q n1 hb hx
      obtain ⟨z', q4⟩ := up b _ q' q3
      exact ⟨_, q4⟩
    · obtain ⟨o2, q2⟩ := un.there b o q hx
      exact ⟨o2, st b o2 q2 hb (.inl (by rw [q]; simp))⟩
  · refine (hok b u q).stay (fun c v hc q' => st c v q' ?_ (.inr ?_)) (fun _ q' => q') fun _ _ q' => q'
    · intro hm
      rcases hc with z | z
      · rw [z] at hm; rw [(frn b hm).2.1] at q; cases q
      · rw [(frn c hm).2.1] at z; cases z
    · rcases hc with z | z
      · rw [z, q]; simp
      · rw [z]; simp
end
/-- what is wanted behind the suite, where the name goes -/
def Ends.drop (D : Ends) (i : Nat) : Ends := ⟨fun σ H => D.nx (σ.set i none) H, D.rt, fun σ H => D.bk (σ.set i none) H, fun σ H => D.ct (σ.set i none) H⟩
end L2

namespace PySem.W
open PySem PySem.Spec PySem.Calls PyProof.Rows Builtin Builtin.ObjectAttr Builtin.Getset_descriptor
section
variable {prog : Program} {w : World} {A : Around} {E : Value → Shared → Prop} {K : Frag} {h : Heap} {g : Array GenState} {d : Drawn} {t : Nat} {os : OsState} {a D : Addr} {o : Obj} {R : Result → Shared → Prop}
/-- what the top must say of an own class of exceptions, for isinstance -/
def excKit (K : Frag) (D : Addr) : Bool := (clsIn K D).isSome && mroIn K D (.type "object") == some true && mroIn K D (.type "BaseException") == some true && findIn K (.ref D) "__getattribute__" == some (some (.builtin "BaseException.__getattribute__"))
  && findIn K (.ref D) "__getattr__" == some none && findIn K (.ref D) "__class__" == some (some (.builtin "object.__class__"))
end
end PySem.W

namespace L2
open PySem PySem.Spec PyProof.Rows
/-! ### isinstance of a caught thing; count and index of truths; lists of texts as data -/
section
variable {X : Cx} {e e2 : Expr} {te te2 : TE} {p p2 pos : Pos}
end
/-! ### all own classes of exceptions of a text -/
def excFacts (K : PySem.W.Frag) (CE : Addr) (Cs : List Addr) : Bool :=
  Cs.all fun D => PySem.W.exmOne K (.ref D) (.ref CE) == some true && PySem.W.excKit K D && PySem.W.excIn K D mroV "ValueError.__new__" && PySem.W.kitOne K (.ref D) (.type "ValueError") == some true && Cs.all fun C => PySem.W.kitOne K (.ref D) (.ref C) == some (D == C)
structure ExF (K : PySem.W.Frag) (CE D : Addr) (Cs : List Addr) : Prop where
  exm : PySem.W.exmOne K (.ref D) (.ref CE) = some true
  kit : PySem.W.excKit K D = true
  isIn : PySem.W.excIn K D mroV "ValueError.__new__" = true
  val : PySem.W.kitOne K (.ref D) (.type "ValueError") = some true
  one : ∀ C ∈ Cs, PySem.W.kitOne K (.ref D) (.ref C) = some (D == C)
theorem excFacts.of {K : PySem.W.Frag} {CE : Addr} {Cs : List Addr} (h : excFacts K CE Cs = true) : ∀ D ∈ Cs, ExF K CE D Cs := fun D hD => by
  have h1 := List.all_eq_true.mp h D hD
  simp only [Bool.and_eq_true, beq_iff_eq] at h1
  obtain ⟨⟨⟨⟨a, b⟩, c⟩, d⟩, e⟩ := h1
  exact ⟨a, b, c, d, fun C hC => beq_iff_eq.mp (List.all_eq_true.mp e C hC)⟩
theorem ExF.any {K : PySem.W.Frag} {CE D : Addr} {Cs : List Addr} (h : ExF K CE D Cs) : ∀ cs : List Addr, (∀ c ∈ cs, c ∈ Cs) → PySem.W.kitAny K (.ref D) (cs.map Value.ref) = some (cs.any fun c => D == c)
  | [], _ => rfl
  | c :: r, hc => by
    have h1 := h.one c (hc c List.mem_cons_self)
    have h2 := h.any r fun d hd => hc d (List.mem_cons_of_mem _ hd)
    rw [List.map_cons, PySem.W.kitAny, h1]
    cases q : D == c with
    | true => simp [q]
    | false => simp [q, h2]
/-! ### count and index of truths -/
section
variable {X : Cx}
end
/-! ### lists of texts as data -/
end L2
namespace L2
open PySem PySem.Spec PyProof.Rows
section
variable {X : Cx}
end
end L2

namespace PySem.W
open PySem PySem.Spec PySem.Calls PyProof.Rows
/-! ### enumerate(xs, start=1) -/
section
variable {prog : Program} {w : World} {A : Around} {E : Value → Shared → Prop} {s : Shared}
end
end PySem.W
namespace L2
open PySem PySem.Spec PyProof.Rows
/-! ### max of a list, index of a number -/
section
variable {X : Cx} {e : Expr} {te : TE} {p pos : Pos}
theorem ints_are : ∀ {ns : List Int} {its : List Value}, Vals (ns.map V.int) its → IntsAre its ns
  | [], _, h => by cases h; exact .nil
  | n :: ns, _, h => by
    cases h with
    | cons r t => obtain ⟨u, rfl⟩ := r; exact .cons n u (ints_are t)
end
end L2

namespace L2
open PySem PySem.Spec PyProof.Rows
/-! ### products of large numbers; any of a list of truths -/
section
variable {X : Cx} {e : Expr} {te : TE} {p pos : Pos}
end
end L2

namespace L2
open PySem PySem.Spec PyProof.Rows

/-! ### lists of pairs as tables -/
section
variable {κ : Type} [DecidableEq κ]
def valV (kvs : List (κ × V)) (k : κ) : Option V := (kvs.find? fun kv => decide (kv.1 = k)).map (·.2)
/-- in its place, or at the end -/
def putK (kvs : List (κ × V)) (k : κ) (v : V) : List (κ × V) :=
  if (kvs.any fun kv => decide (kv.1 = k)) = true then kvs.map (fun kv => if kv.1 = k then (kv.1, v) else kv) else kvs ++ [(k, v)]
def dropK (kvs : List (κ × V)) (k : κ) : List (κ × V) := kvs.filter fun kv => decide (kv.1 ≠ k)

theorem valV_pos {p : κ × V} {r : List (κ × V)} {k : κ} (e : p.1 = k) : valV (p :: r) k = some p.2 := by simp [valV, List.find?_cons, e]
theorem valV_neg {p : κ × V} {r : List (κ × V)} {k : κ} (e : ¬ p.1 = k) : valV (p :: r) k = valV r k := by simp [valV, List.find?_cons, e]

theorem RelO.getD {o : Option V} {u : Option Value} {d : V} {d' : Value} (r : RelO o u) (rd : RelV d d') : RelV (o.getD d) (u.getD d') := by
  cases o with
  | none => cases u with
    | none => exact rd
    | some _ => exact (show False from r).elim
  | some _ => cases u with
    | none => exact (show False from r).elim
    | some _ => exact r

/-- raw tables of the same keys -/
theorem KV.val {kvs : List (κ × V)} {vs : List (κ × Value)} (r : KV kvs vs) (k : κ) : RelO (valV kvs k) (valueAt vs k) := by
  unfold KV at r
  induction r with
  | nil => exact True.intro
  | @cons p q ps qs h t ih =>
    obtain ⟨h1, h2⟩ := h
    by_cases e : p.1 = k
    · have e' : q.1 = k := h1.symm.trans e
      have b : valueAt (q :: qs) k = some q.2 := by simp [valueAt, List.find?_cons, e']
      rw [valV_pos e, b]; exact h2
    · have e' : ¬ q.1 = k := fun z => e (h1.trans z)
      have b : valueAt (q :: qs) k = valueAt qs k := by simp [valueAt, List.find?_cons, e']
      rw [valV_neg e, b]; exact ih
theorem KV.any {kvs : List (κ × V)} {vs : List (κ × Value)} (r : KV kvs vs) (k : κ) : (kvs.any fun kv => decide (kv.1 = k)) = vs.any fun kv => decide (kv.1 = k) := by
  unfold KV at r
  induction r with
  | nil => rfl
  | cons h t ih => rw [List.any_cons, List.any_cons, ih, h.1]
theorem KV.drop {kvs : List (κ × V)} {vs : List (κ × Value)} (r : KV kvs vs) (k : κ) : KV (dropK kvs k) (without vs k) := by
  unfold KV at r ⊢
  unfold dropK without
  induction r with
  | nil => exact .nil
  | @cons p q ps qs h t ih =>
    obtain ⟨h1, h2⟩ := h
    rw [List.filter_cons, List.filter_cons]
    by_cases e : p.1 = k
    · have a : ¬ decide (p.1 ≠ k) = true := by simp [e]
      have b : ¬ decide (q.1 ≠ k) = true := by simp [h1.symm.trans e]
      rw [if_neg a, if_neg b]; exact ih
    · have e' : ¬ q.1 = k := fun z => e (h1.trans z)
      have a : decide (p.1 ≠ k) = true := by simp [e]
      have b : decide (q.1 ≠ k) = true := by simp [e']
      rw [if_pos a, if_pos b]; exact .cons ⟨h1, h2⟩ ih
theorem KV.keys {kvs : List (κ × V)} {vs : List (κ × Value)} (r : KV kvs vs) : kvs.map (·.1) = vs.map (·.1) := by
  unfold KV at r
  induction r with
  | nil => rfl
  | cons h t ih => rw [List.map_cons, List.map_cons, ih, h.1]
theorem KV.length {kvs : List (κ × V)} {vs : List (κ × Value)} (r : KV kvs vs) : kvs.length = vs.length := Paired.length r
end


/-! ### a tracked dict, its keys ints and texts or tuples of these -/
theorem kV_is {P : Program} {w : World} {k : Key} {u : Value} (r : RelV (kV k) u) : (mixKind P w).is k u = true := by
  cases k with
  | inl i => obtain ⟨t, e⟩ := (show ∃ t, u = Value.int i t from r); subst e; exact mixKind_int P w i t
  | inr x => obtain ⟨t, e⟩ := (show ∃ t, u = Value.str x t from r); subst e; exact mixKind_str P w x t
theorem items_are {P : Program} {w : World} : ∀ {ks : List Key} {us : List Value}, Vals (ks.map kV) us → ItemsAre (mixKind P w) ks us
  | [], _, r => by rw [List.map_nil] at r; cases r; exact .nil
  | k :: ks, _, r => by
    rw [List.map_cons] at r
    cases r with
    | cons h t => exact .cons (kV_is h) (items_are t)

/-- raw entries of a dict with tuple keys -/
abbrev KT (H : Hp) : List (List Key × V) → List (List Key × Addr × Value) → Prop := Paired fun p q => p.1 = q.1 ∧ H q.2.1 = some (.tup (p.1.map kV)) ∧ RelV p.2 q.2.2
theorem KT.val {H : Hp} {kvs : List (List Key × V)} {xs : List (List Key × Addr × Value)} (r : KT H kvs xs) (k : List Key) : RelO (valV kvs k) ((atKey xs k).map (·.2)) := by
  induction r with
  | nil => exact True.intro
  | @cons p q ps qs h t ih =>
    obtain ⟨h1, _, h2⟩ := h
    by_cases e : p.1 = k
    · have e' : q.1 = k := h1.symm.trans e
      have b : atKey (q :: qs) k = some q.2 := by simp [atKey, List.find?_cons, e']
      rw [valV_pos e, b]; exact h2
    · have e' : ¬ q.1 = k := fun z => e (h1.trans z)
      have b : atKey (q :: qs) k = atKey qs k := by simp [atKey, List.find?_cons, e']
      rw [valV_neg e, b]; exact ih
theorem KT.keeps {H H' : Hp} {kvs : List (List Key × V)} {xs : List (List Key × Addr × Value)} (r : KT H kvs xs) (ht : ∀ b ys, H b = some (.tup ys) → H' b = some (.tup ys)) : KT H' kvs xs :=
  Paired.mapP r fun _ _ z => ⟨z.1, ht _ _ z.2.1, z.2.2⟩

section
variable {P : Program} {w : World} {H : Hp} {h : Heap} {a : Addr}
theorem rd_of {u : HO} (ok : HOk P w H h) (e : Rd H a u) : ObjOk P w H h a u := e.ok ok
theorem dk_rd {kvs : List (Key × V)} (ok : HOk P w H h) (e : Rd H a (.dK kvs)) : kvs.length ≤ sizeLine ∧ (a == sysModules) = false ∧ ∃ vs, KV kvs vs ∧ h.DictOf (mixKind P w) a vs :=
  show ObjOk P w H h a (.dK kvs) from rd_of ok e
/-- a tracked tuple of ints and texts is a key -/
theorem key_of {ks : List Key} (ok : HOk P w H h) (e : H a = some (.tup (ks.map kV))) : (tupleKind (mixKind P w)).is h ks a := by
  obtain ⟨_, its, r, o, h1, h2, n, h3⟩ := (show ObjOk P w H h a (.tup (ks.map kV)) from ok a _ e)
  exact ⟨o, its.toArray, n, h1, h2, h3, by simpa using items_are r⟩
theorem dt_rd {kvs : List (List Key × V)} (ok : HOk P w H h) (e : Rd H a (.dT kvs)) : kvs.length ≤ sizeLine ∧ (a == sysModules) = false ∧
    ∃ xs, KT H kvs xs ∧ h.DictOfH (tupleKind (mixKind P w)) a xs := by
  obtain ⟨z, y, xs, r, o, es, ep, h1, h2, h3, h4, h5⟩ := (show ObjOk P w H h a (.dT kvs) from rd_of ok e)
  refine ⟨z, y, xs, r, o, es, ep, h1, h2, h3, h4, fun x hx => ?_, h5⟩
  have all : ∀ {l : List (List Key × V)} {m : List (List Key × Addr × Value)}, KT H l m → ∀ x ∈ m, (tupleKind (mixKind P w)).is h x.1 x.2.1 := by
    intro l m q
    induction q with
    | nil => intro x hx; exact nomatch hx
    | @cons p q ps qs hq t ih =>
      intro x hx
      rcases List.mem_cons.mp hx with e | hx
      · subst e
        exact key_of ok (by rw [← hq.1]; exact hq.2.1)
      · exact ih x hx
  exact all r x hx
end

/-- what the dict at a holds at the key y -/
def DGet (H : Hp) (a : Addr) (y : V) (r : Option V) : Prop :=
  (∃ kvs k, Rd H a (.dK kvs) ∧ y = kV k ∧ r = valV kvs k) ∨ ∃ kvs k b, Rd H a (.dT kvs) ∧ y = .ref b ∧ H b = some (.tup (k.map kV)) ∧ r = valV kvs k
/-- the heap behind a[y] = v -/
def DPut (H : Hp) (a : Addr) (y v : V) (H' : Hp) : Prop :=
  (∃ kvs k, H a = some (.dK kvs) ∧ y = kV k ∧ kvs.length < sizeLine ∧ H' = upd H a (.dK (putK kvs k v))) ∨
  ∃ kvs k b, H a = some (.dT kvs) ∧ y = .ref b ∧ H b = some (.tup (k.map kV)) ∧ kvs.length < sizeLine ∧ H' = upd H a (.dT (putK kvs k v))
theorem DGet.k {H : Hp} {a : Addr} {kvs : List (Key × V)} {k : Key} (e : H a = some (.dK kvs)) : DGet H a (kV k) (valV kvs k) := .inl ⟨kvs, k, .inl e, rfl, rfl⟩
theorem DGet.t {H : Hp} {a b : Addr} {kvs : List (List Key × V)} {k : List Key} (e : H a = some (.dT kvs)) (eb : H b = some (.tup (k.map kV))) : DGet H a (.ref b) (valV kvs k) := .inr ⟨kvs, k, b, .inl e, rfl, eb, rfl⟩
theorem DPut.k {H : Hp} {a : Addr} {kvs : List (Key × V)} {k : Key} {v : V} (e : H a = some (.dK kvs)) (hl : kvs.length < sizeLine) : DPut H a (kV k) v (upd H a (.dK (putK kvs k v))) := .inl ⟨kvs, k, e, rfl, hl, rfl⟩
theorem DPut.t {H : Hp} {a b : Addr} {kvs : List (List Key × V)} {k : List Key} {v : V} (e : H a = some (.dT kvs)) (eb : H b = some (.tup (k.map kV))) (hl : kvs.length < sizeLine) :
    DPut H a (.ref b) v (upd H a (.dT (putK kvs k v))) := .inr ⟨kvs, k, b, e, rfl, eb, hl, rfl⟩


section
variable {X : Cx} {pins : List (Addr × Obj)} {σ : St} {H : Hp} {s : Shared} {a : Addr} {y v : V} {u r : Value} {o : Option V} {A : Around} {E : Value → Shared → Prop}

theorem Inv.big (I : Inv X pins σ H s) : sysModules < s.heap.objs.size := by
  have h : mainGlobals < s.heap.objs.size := (I.mod.glob.keeps I.bk).lt
  exact Nat.lt_trans (by decide) h

/-- d[y], there -/
theorem d_getItem {Q : Value → Shared → Prop} (hu : A.units + 1 < cLine) (I : Inv X pins σ H s) (g : DGet H a y (some v)) (ry : RelV y u) (h : ∀ w' s', Inv X pins σ H s' → RelV v w' → Q w' s') :
    wpAny (model X.prog X.w) A (getItem (.ref a) u) Q E s := by
  rcases g with ⟨kvs, k, e, ey, l⟩ | ⟨kvs, k, b, e, ey, eb, l⟩
  · subst ey
    obtain ⟨z, hd, vs, rel, dd⟩ := dk_rd I.hok e
    obtain ⟨w', hw, rw'⟩ := RelO.some_of (v := v) (o := valueAt vs k) (by rw [l]; exact rel.val k)
    exact wpAny_getItem_of (kV_is ry) dd.mapOf hw (h w' _ (I.tok _) rw')
  · subst ey
    cases (show u = Value.ref b from ry)
    obtain ⟨z, hd, xs, rel, dd⟩ := dt_rd I.hok e
    obtain ⟨w', hw, rw'⟩ := RelO.some_of (v := v) (o := (atKey xs k).map (·.2)) (by rw [l]; exact rel.val k)
    obtain ⟨p, hp, hp2⟩ := Option.map_eq_some_iff.mp hw
    refine wpAny_getItem_heap (tupleKind_room_in1 hu) (key_of I.hok eb) dd hp ?_
    rw [hp2]
    exact h w' _ (I.tok _) rw'
/-- a dict's object is replaced -/
theorem d_write {h' : Heap} {t' : Nat} {ob : HO} (I : Inv X pins σ H s) (mu : Mut (H a)) (hs : Heap.SameBut a s.heap h') (he : ∃ q, h'.get? a = some q) (new : ObjOk X.prog X.w (upd H a ob) h' a ob) :
    Inv X pins σ (upd H a ob) { s with heap := h', toks := t' } :=
  I.write (x := a) (e := a) mu (.inl rfl) (fun b q hb z => (hs.2 b hb).trans z) he new
end

section
variable {X : Cx} {pins : List (Addr × Obj)} {σ : St} {H : Hp} {s : Shared} {a : Addr} {kvs : List (Key × V)} {k : Key} {u : Value} {A : Around} {E : Value → Shared → Prop}
end


/-! ### readings and rules -/
/-- the element of a subscription, not a slice -/
def NoSl (i : Expr) : Prop := ∀ ov iv, subscripted i false ov iv = operate [ov, iv] (getItem ov iv)
theorem subD_of {prog : Program} {w : World} {A : Around} {E : Value → Shared → Prop} {s : Shared} {env : Env} {value slice : Expr} {pos : Pos} {T id : String} {Q : Value → Shared → Prop}
    (hl : typeLookup (.type T) "__getitem__" = pure (some (.builtin id))) (hs : NoSl slice)
    (h : wpAny (model prog w) A (eval value env) (fun o s₁ => wpAny (model prog w) A (eval slice env) (fun i s₂ => s₂.TypeIs o T ∧ wpAny (model prog w) A (getItem o i) Q E s₂) E s₁) E s) :
    wpAny (model prog w) A (eval (.Subscript value slice pos) env) Q E s := by
  refine Subscript_ (wpAny_mono h (fun o s₁ h₁ => wpAny_mono h₁ (fun i s₂ h₂ => ?_) fun _ _ x => x) fun _ _ x => x)
  obtain ⟨hT, h₂⟩ := h₂
  unfold subscriptTail
  refine wpAny_bind ?_
  rw [getitemInPython_of_ne hT.not_modules]
  refine wpAny_bind (wpAny_specialOf hT hl ?_)
  have fin : wpAny (model prog w) A (subscripted slice false o i) (fun r s₃ => wpAny (model prog w) A (letTemporaryGo value o r >>= fun _ => pure r) Q E s₃) E s₂ := by
    rw [hs o i]
    exact wpAny_operating (wpAny_mono h₂ (fun r s₃ h₃ => wpAny_bind (wpAny_letTemporaryGo (wpAny_pure h₃))) fun _ _ x => x)
  first
    | exact wpAny_pure (wpAny_bind fin)
    | exact wpAny_bind (wpAny_pure (wpAny_bind fin))
    | exact wpAny_bind fin

theorem dict_typeIs {X : Cx} {pins : List (Addr × Obj)} {σ : St} {H : Hp} {s : Shared} {a : Addr} {y : V} {o : Option V} (I : Inv X pins σ H s) (g : DGet H a y o) : s.TypeIs (.ref a) "dict" := by
  rcases g with ⟨kvs, k, e, _, _⟩ | ⟨kvs, k, b, e, _, _, _⟩
  · obtain ⟨_, _, vs, _, dd⟩ := dk_rd I.hok e
    exact dd.typeIs
  · obtain ⟨_, _, xs, _, dd⟩ := dt_rd I.hok e
    exact dd.typeIs

/-- d[y] -/
def tDGet (td ty : TE) : TE := fun σ H Q => td σ H fun x H1 => ty σ H1 fun y H2 => ∃ a v, x = .ref a ∧ DGet H2 a y (some v) ∧ Q v H2

section
variable {X : Cx} {o i e value : Expr} {pos pos' tpos : Pos} {td ty tv : TE}
theorem pe_dget (hu : X.A.units + 1 < cLine) (ho : PE X o td) (hi : PE X i ty) (hs : NoSl i) : PE X (.Subscript o i pos) (tDGet td ty) := by
  intro pins s σ H Q I h
  refine subD_of PySem.F.slot_dict_getitem.lookup hs (thn (ho pins s σ H _ I h) fun u s1 ⟨x, H1, I1, rx, q1⟩ => thn (hi pins s1 σ H1 _ I1 q1) fun iv s2 ⟨y, H2, I2, ry, a, v, ex, g, q2⟩ => ?_)
  subst ex
  obtain rfl : u = Value.ref a := rx
  exact ⟨dict_typeIs I2 g, d_getItem hu I2 g ry fun w' s3 I3 rw' => ⟨v, H2, I3, rw', q2⟩⟩
end


/-! ### displays -/
section
variable {X : Cx} {pos : Pos}
end




/-! ### methods -/
/-- a method call o.m(e) of a built-in, with one argument: what must be seen of the text -/
structure M1 (X : Cx) (o : Expr) (m : Str) (apos : Pos) (e : Expr) (cpos : Pos) : Prop where
  base : attributeBase o m X.env (eval o X.env) = eval o X.env
  few : ((backTo cpos (starEach [e] X.env)).all (fun x => !x.1) && (backToKw cpos (keywordEach [] X.env)).all (fun x => x.1.isSome)
    && decide (([e] : List Expr).length + ([] : List Keyword).length + (if ([] : List Keyword).isEmpty then 0 else 1) < 30)) = true
  line : (apos.endLine == cpos.line) = true
  trees : backTo cpos (starEach [e] X.env) = [(false, eval e X.env)]
structure M2 (X : Cx) (o : Expr) (m : Str) (apos : Pos) (e f : Expr) (cpos : Pos) : Prop where
  base : attributeBase o m X.env (eval o X.env) = eval o X.env
  few : ((backTo cpos (starEach [e, f] X.env)).all (fun x => !x.1) && (backToKw cpos (keywordEach [] X.env)).all (fun x => x.1.isSome)
    && decide (([e, f] : List Expr).length + ([] : List Keyword).length + (if ([] : List Keyword).isEmpty then 0 else 1) < 30)) = true
  line : (apos.endLine == cpos.line) = true
  trees : backTo cpos (starEach [e, f] X.env) = [(false, eval e X.env), (false, eval f X.env)]


section
variable {X : Cx} {pins : List (Addr × Obj)} {σ : St} {H : Hp} {s : Shared} {a : Addr} {y d : V} {u r : Value} {o : Option V} {A : Around} {E : Value → Shared → Prop}
end

section
variable {X : Cx} {o e f : Expr} {apos cpos : Pos} {td ty tx : TE}
end

/-! ### dict(d): a copy -/
section
variable {X : Cx} {pins : List (Addr × Obj)} {σ : St} {H : Hp} {s : Shared} {a : Addr} {kvs : List (Key × V)} {A : Around} {E : Value → Shared → Prop}
end


section
variable {X : Cx} {pins : List (Addr × Obj)} {σ : St} {H : Hp} {s : Shared} {a : Addr} {y : V} {u : Value} {A : Around} {E : Value → Shared → Prop}
end
end L2


namespace L2
open PySem PySem.Spec PyProof.Rows
/-! ### sum of a list of numbers of any size -/
section
variable {X : Cx}
variable {e : Expr} {te : TE} {p pos : Pos}
end
/-! ### the walk of a comprehension over enumerate -/
/-! ### a dict of numbers by numbers -/
/-- at w there lies a dict that tells f at each of qs -/
def DictN (H : Hp) (w : Addr) (qs : List Nat) (f : Nat → Int) : Prop := ∃ kvs : List (Key × V), H w = some (.dK kvs) ∧ kvs.length ≤ qs.length ∧ (∀ q ∈ qs, valV kvs (.inl (q : Int)) = some (.int (f q))) ∧ ∀ k : Int, (∀ q ∈ qs, (q : Int) ≠ k) → valV kvs (.inl k) = none
theorem DictN.new {H : Hp} {w : Addr} {f : Nat → Int} (h : H w = some (.dK [])) : DictN H w [] f := ⟨[], h, Nat.le_refl _, fun q hq => absurd hq (List.not_mem_nil), fun _ _ => rfl⟩
theorem DictN.get {H : Hp} {w : Addr} {qs : List Nat} {f : Nat → Int} (h : DictN H w qs f) {q : Nat} (hq : q ∈ qs) : DGet H w (.int (q : Int)) (some (.int (f q))) := by
  obtain ⟨kvs, h1, _, h2, _⟩ := h
  have := DGet.k (k := .inl (q : Int)) h1
  rw [h2 q hq] at this
  exact this
/-! ### name = [comprehension with several names] -/
/-! ### for over reversed(list) -/
end L2

namespace L2
open PySem PySem.Spec PyProof.Rows
/-! ### d.setdefault(k, x), keys that are tuples -/
section
variable {prog : Program} {w : World} {κ : Type} [DecidableEq κ] {knd : HeapKind prog w κ} {A : Around} {E : Value → Shared → Prop} {s : Shared}
end
section
variable {X : Cx} {pins : List (Addr × Obj)} {σ : St} {H : Hp} {s : Shared} {a c : Addr} {kvs : List (List Key × V)} {k : List Key} {v : V} {r : Value} {A : Around} {E : Value → Shared → Prop}
end
/-! ### tuple(list) -/
section
variable {X : Cx} {e : Expr} {te : TE} {p pos : Pos}
end
/-! ### a dict is held still -/
theorem Inv.still {X : Cx} {pins : List (Addr × Obj)} {σ : St} {H : Hp} {s : Shared} {a : Addr} {kvs : List (List Key × V)} (I : Inv X pins σ H s) (e : H a = some (.dT kvs)) :
    ∃ o, s.heap.get? a = some o ∧ Inv X pins σ (upd H a (.frz o (.dT kvs))) s := by
  obtain ⟨z, hd, xs, rel, o, es, ep, h1, h2, h3, h4, h5⟩ := (show ObjOk X.prog X.w H s.heap a (.dT kvs) from I.hok a _ e)
  refine ⟨o, h1, d_write (h' := s.heap) (t' := s.toks) I (by rw [e]; exact True.intro) ⟨rfl, fun _ _ => rfl⟩ ⟨o, h1⟩ ⟨h1, z, hd, xs, KT.keeps rel fun b ys eb => ?_, o, es, ep, h1, h2, h3, h4, h5⟩⟩
  rw [upd_ne (ne_of eb e (fun z => nomatch z))]
  exact eb
/-! ### for x in d.values() -/
section
variable {prog : Program} {w : World} {A : Around} {E : Value → Shared → Prop} {s : Shared} {it d : Addr} {i n ep : Nat} {od : Obj} {es : Array DictEntry}
end
/-! ### in, not in a list of data -/
/-! ### a comprehension over a tuple -/
end L2

namespace L2
open PySem PySem.Spec PyProof.Rows
/-! ### f-strings of written texts and numbers -/
section
variable {X : Cx}
end
end L2

namespace L2
open PySem PySem.Spec PyProof.Rows
/-! ### for k, x in d.items() -/
section
variable {prog : Program} {w : World} {A : Around} {E : Value → Shared → Prop} {s : Shared} {it d : Addr} {i n ep : Nat} {od : Obj} {es : Array DictEntry}
end
end L2

namespace L2
open PySem PySem.Spec PyProof.Rows
/-! ### min(xs, key=len, default=d) of a list of lists -/
section
variable {s : Shared} {prog : Program} {w : World} {A : Around} {E : Value → Shared → Prop}
def Grown (h0 h : Heap) : Prop := ∀ b o, h0.get? b = some o → h.get? b = some o
theorem Grown.but {h0 h h' : Heap} {a : Addr} (g : Grown h0 h) (n : h0.get? a = none) (k : ∀ b o, b ≠ a → h.get? b = some o → h'.get? b = some o) : Grown h0 h' := fun b o e => k b o (fun z => by rw [z, n] at e; cases e) (g b o e)
end
end L2

namespace L2
open PySem PySem.Spec PyProof.Rows
/-! ### < of lists of numbers, and of pairs of a number and such a list -/
def ltL : List Int → List Int → Bool
  | [], [] => false
  | [], _ :: _ => true
  | _ :: _, [] => false
  | x :: xs, y :: ys => if x = y then ltL xs ys else decide (x < y)
theorem ltL_nil_left : ∀ ys : List Int, ltL [] ys = decide (0 < ys.length)
  | [] => rfl
  | _ :: _ => by simp [ltL]
theorem ltL_nil_right : ∀ xs : List Int, ltL xs [] = false
  | [] => rfl
  | _ :: _ => rfl
section
open SeqAt MeetsSeq MeetsSeq2 MeetsSeq3 SeqRoads2
open AutoSeq1 (wpAny_loadPart')
def LtAt (A : Around) (s : Shared) (y x : Value) (b : Bool) : Prop := ∀ (prog : Program) (w : World) (E : Value → Shared → Prop) (Q : Value → Shared → Prop), Q (.bool b) s → wpAny (model prog w) A (richCompare .Lt y x) Q E s
theorem LtAt.ints {A : Around} {s : Shared} {i j : Int} {t u : Tok} : LtAt A s (.int i t) (.int j u) (decide (i < j)) := fun prog w E Q h =>
  richCompare_gives (op := .Lt) (typeIs_int s _ t) (typeIs_int s _ u) F.slot_int_lt F.entry_int_lt (F.args_int_lt_2 _ _) (gives_int_lt _ _ t u) (fun x => nomatch x) h
/-- items that are these numbers -/
def Nums (xs : List Int) (items : Array Value) : Prop := items.size = xs.length ∧ ∀ (j : Nat) (h : j < items.size), ∃ (x : Int) (t : Tok), xs[j]? = some x ∧ items[j] = .int x t
theorem eqI {A : Around} {s : Shared} {i j : Int} {t u : Tok} : EqAt A s (.int i t) (.int j u) (decide (i = j)) := by
  have := eqAt_V (A := A) (s := s) (y := .int i) (x := .int j) (u := .int i t) (v := .int j u) ⟨t, rfl⟩ ⟨u, rfl⟩ rfl rfl
  have e : eqV (.int i) (.int j) = decide (i = j) := by show (i == j) = _; by_cases h : i = j <;> simp [h]
  rw [e] at this
  exact this
theorem lt_loop {l b : Addr} {items items2 : Array Value} {n n2 : Nat} {dd dd2 : Option Addr} {sl sl2 : Array (Option Value)} {xs ys : List Int} (N1 : Nums xs items) (N2 : Nums ys items2) (k : Nat) :
    ∀ i : Nat, items.size - i = k → i ≤ items.size → i ≤ items2.size → Meets (Builtin.«list.__eq__.loop» ⟨[.ref l, .ref b, rawInt i, rawInt 0], []⟩)
      (fun A R s => s.heap.get? l = some { cls := .type "list", dict := dd, data := .seq items n, slots := sl } ∧ s.heap.get? b = some { cls := .type "list", dict := dd2, data := .seq items2 n2, slots := sl2 } ∧ R (.ok (.ret (.bool (ltL (xs.drop i) (ys.drop i))))) s) := by
  induction k with
  | zero =>
    intro i hk hle hle2 prog w A R s h
    obtain ⟨hp, g, d, tk, os⟩ := s; obtain ⟨hl, hb, h⟩ := h
    wp_walk using wpAny_loadPart' hl, wpAny_loadPart' hb
    have none1 : items[((i : Nat) : Int).toNat]? = none := by simp; omega
    have e1 : xs.drop i = [] := List.drop_eq_nil_of_le (by rw [← N1.1]; omega)
    rw [e1, ltL_nil_left, List.length_drop, ← N2.1] at h
    rw [none1]
    wp_walk using wpAny_loadPart' hl, wpAny_loadPart' hb
    have e2 : decide (items.size < items2.size) = decide (0 < items2.size - i) := decide_eq_decide.mpr (by omega)
    show R (.ok (.ret (.bool (decide (items.size < items2.size))))) _
    rw [e2]
    exact h
  | succ k ih =>
    intro i hk hle hle2 prog w A R s h
    obtain ⟨hp, g, d, tk, os⟩ := s; obtain ⟨hl, hb, h⟩ := h
    have lt1 : i < items.size := by omega
    by_cases lt2 : i < items2.size
    · obtain ⟨x, t, hx, ex⟩ := N1.2 i lt1
      obtain ⟨y, u, hy, ey⟩ := N2.2 i lt2
      have dx : xs.drop i = x :: xs.drop (i + 1) := by
        obtain ⟨q1, q2⟩ := List.getElem?_eq_some_iff.mp hx
        rw [List.drop_eq_getElem_cons q1, q2]
      have dy : ys.drop i = y :: ys.drop (i + 1) := by
        obtain ⟨q1, q2⟩ := List.getElem?_eq_some_iff.mp hy
        rw [List.drop_eq_getElem_cons q1, q2]
      wp_walk using wpAny_loadPart' hl, wpAny_loadPart' hb
      have at1 : items[((i : Nat) : Int).toNat]? = some (.int x t) := by simp [lt1, ex]
      have at2 : items2[((i : Nat) : Int).toNat]? = some (.int y u) := by simp [lt2, ey]
      have hc : ((i : Int) + 1) = ((i + 1 : Nat) : Int) := by push_cast; rfl
      rw [dx, dy] at h
      simp only [ltL] at h
      rw [at1, at2]
      refine wpAny_bind (eqI prog w _ _ ?_)
      by_cases exy : x = y
      · rw [if_pos exy] at h
        rw [decide_eq_true exy]
        wp_walk
        rw [hc]
        exact ⟨plainId_quiet plain_eq_loop _, codeAny_builtin entry_eq_loop (by
          rw [Around.under_plainId plain_eq_loop _]
          exact ih (i + 1) (by omega) (by omega) (by omega) prog w A R _ ⟨hl, hb, h⟩)⟩
      · rw [if_neg exy] at h
        rw [decide_eq_false exy]
        wp_walk using wpAny_loadPart' hl, wpAny_loadPart' hb
        rw [at1, at2]
        refine wpAny_bind (LtAt.ints prog w _ _ ?_)
        wp_walk
        exact h
    · wp_walk using wpAny_loadPart' hl, wpAny_loadPart' hb
      obtain ⟨x, t, hx, ex⟩ := N1.2 i lt1
      have at1 : items[((i : Nat) : Int).toNat]? = some (.int x t) := by simp [lt1, ex]
      have none2 : items2[((i : Nat) : Int).toNat]? = none := by simp; omega
      have e1 : ys.drop i = [] := List.drop_eq_nil_of_le (by rw [← N2.1]; omega)
      rw [e1, ltL_nil_right] at h
      rw [at1, none2]
      wp_walk using wpAny_loadPart' hl, wpAny_loadPart' hb
      have e2 : decide (items.size < items2.size) = false := decide_eq_false (by omega)
      show R (.ok (.ret (.bool (decide (items.size < items2.size))))) _
      rw [e2]
      exact h
theorem list_lt {l b : Addr} {items items2 : Array Value} {n n2 : Nat} {dd dd2 : Option Addr} {sl sl2 : Array (Option Value)} {xs ys : List Int} (N1 : Nums xs items) (N2 : Nums ys items2) : Meets (Builtin.«list.__lt__» ⟨[.ref l, .ref b], []⟩)
    (fun A R s => s.heap.get? l = some { cls := .type "list", dict := dd, data := .seq items n, slots := sl } ∧ s.heap.get? b = some { cls := .type "list", dict := dd2, data := .seq items2 n2, slots := sl2 } ∧ R (.ok (.ret (.bool (ltL xs ys)))) s) := by
  intro prog w A R s h
  obtain ⟨hp, g, d, tk, os⟩ := s; obtain ⟨hl, hb, h⟩ := h
  have sub := AutoSeq1.sub_list_list
  wp_walk using wpAny_loadPart' hl, wpAny_loadPart' hb
  exact ⟨plainId_quiet plain_eq_loop _, codeAny_builtin entry_eq_loop (by
    rw [Around.under_plainId plain_eq_loop _]
    exact lt_loop N1 N2 _ 0 rfl (Nat.zero_le _) (Nat.zero_le _) prog w A R _ ⟨hl, hb, by simpa using h⟩)⟩
theorem LtAt.lists {A : Around} {s : Shared} {l b : Addr} {items items2 : Array Value} {xs ys : List Int} (hl : s.heap.IsList l items) (hb : s.heap.IsList b items2) (N1 : Nums xs items) (N2 : Nums ys items2) (hu : A.units < cLine) : LtAt A s (.ref l) (.ref b) (ltL xs ys) := fun prog w E Q h => by
  obtain ⟨⟨cls, dd, data, sl⟩, ho, hc, n, hd⟩ := id hl
  obtain ⟨⟨cls2, dd2, data2, sl2⟩, ho2, hc2, n2, hd2⟩ := id hb
  simp only at hc hd hc2 hd2; subst hc hd hc2 hd2
  exact richCompare_meets_room (op := .Lt) ⟨_, ho, rfl⟩ ⟨_, ho2, rfl⟩ F.slot_list_lt F.entry_list_lt (F.args_list_lt_2 _ _) (list_lt N1 N2) ⟨ho, ho2, show Value.bool (ltL xs ys) ≠ Value.notImplemented ∧ Q (.bool (ltL xs ys)) s from ⟨(fun x => nomatch x), h⟩⟩ hu
end
end L2

namespace L2
open PySem PySem.Spec PyProof.Rows
/-! ### short forms, so that the terms stay small -/
theorem us1 {C : List Value → Prop} (h : ∀ a, C [a]) : ∀ us : List Value, us.length = 1 → C us
  | [a], _ => h a
theorem us2 {C : List Value → Prop} (h : ∀ a b, C [a, b]) : ∀ us : List Value, us.length = 2 → C us
  | [a, b], _ => h a b
theorem us3 {C : List Value → Prop} (h : ∀ a b c, C [a, b, c]) : ∀ us : List Value, us.length = 3 → C us
  | [a, b, c], _ => h a b c
theorem for_listA {K : PySem.W.Frag} {a : Addr} {xs : List V} {g : TG} {tb : TS} {D : Ends} {σ : St} {H : Hp} (Pv : Nat → St → Hp → Prop) (h0 : Pv 0 σ H) (hl : ∀ i σ H, i ≤ xs.length → Pv i σ H → SqL K H a xs)
    (hs : ∀ (D2 : Ends) i x σ H, (∀ σ' H', Pv (i + 1) σ' H' → D2.nx σ' H') → xs[i]? = some x → Pv i σ H → g x σ H fun σ2 H2 => tb D2 σ2 H2) (hd : ∀ σ H, Pv xs.length σ H → D.nx σ H) : FW (Itl K a) g tb D σ H :=
  for_list Pv h0 hl (fun i x σ H hx p => hs _ i x σ H (fun _ _ h => h) hx p) hd
theorem for_rangeA {lo : Int} {n : Nat} {g : TG} {tb : TS} {D : Ends} {σ : St} {H : Hp} (Pv : Nat → St → Hp → Prop) (h0 : Pv 0 σ H)
    (hs : ∀ (D2 : Ends) i σ H, (∀ σ' H', Pv (i + 1) σ' H' → D2.nx σ' H') → i < n → Pv i σ H → g (.int (lo + i)) σ H fun σ2 H2 => tb D2 σ2 H2) (hd : ∀ σ H, Pv n σ H → D.nx σ H) : FW (Itr lo n) g tb D σ H :=
  for_range Pv h0 (fun i σ H hx p => hs _ i σ H (fun _ _ h => h) hx p) hd
end L2

namespace L2
open PySem PySem.Spec PyProof.Rows
/-! ### walking a text; list(range(0, b, c)) -/
def Its (z : Str) : It := ⟨fun i _ => i < z.cps.size, fun i H x H' => H' = H ∧ ∃ c, z.cps[i]? = some c ∧ x = sg c, fun i _ => z.cps.size ≤ i⟩
theorem turn_str {P : Program} {w : World} {K : PySem.W.Frag} {tg : Expr} (it : Addr) (z : Str) (t : Tok) : Turn P w K tg (Its z) [it] it (fun i h => i ≤ z.cps.size ∧ h.IsStrIter it "str_ascii_iterator" z t i) where
  mem := by simp
  obj := fun i h st b hb => by
    have e : b = it := by simpa using hb
    subst e
    obtain ⟨_, o, e, c, d⟩ := st
    exact ⟨o, e, fun v z => by rw [d] at z; cases z⟩
  keep := fun i h h' st k => by
    obtain ⟨hi, o, e, r⟩ := st
    exact ⟨hi, o, k it (by simp) o e, r⟩
  item := by
    intro X hP hw hK hc i pins s σ H E I hf st hg
    subst hP hw hK
    obtain ⟨f0, f1, f2, f3, f4, f5⟩ := hf it (by simp)
    have W := Walks.strAscii (prog := X.prog) (w := X.w) (I.ok.hd hc) it z t
    refine W.item i s _ _ hg st.2 fun v h' tk hv st' kk => ?_
    obtain ⟨c, u, hc', rfl⟩ := hv
    have I1 : Inv X pins σ H { s with heap := h', toks := tk } := I.turned (fun b o hb e => kk b o (by simpa using hb) e) f0 f1 f3 f4 f5
    obtain ⟨o, e, oc, od⟩ := id st'
    exact ⟨_, rfl, go_of (s := { s with heap := h', toks := tk }) (n := "str_ascii_iterator") e oc od (by decide) ⟨sg c, H, I1, ⟨u, rfl⟩, ⟨rfl, c, hc', rfl⟩, ⟨hg, st'⟩, fun b hb => (hf b hb).1⟩⟩
  done := by
    intro X hP hw hK hc i pins s σ H E I hf st hg
    subst hP hw hK
    obtain ⟨f0, f1, f2, f3, f4, f5⟩ := hf it (by simp)
    have W := Walks.strAscii (prog := X.prog) (w := X.w) (I.ok.hd hc) it z t
    have e : i = z.cps.size := Nat.le_antisymm st.1 hg
    subst e
    exact W.done s _ _ st.2 fun h' tk kk => ⟨rfl, I.turned (fun b o hb e => kk b o (by simpa using hb) e) f0 f1 f3 f4 f5⟩
  self := fun A i s Q E st h => wpAny_pyIter_striter_ascii st.2 h
section
variable {X : Cx} {tg : Expr}
def iStr (tl : TE) : TI := fun σ H R => tl σ H fun x H1 => ∃ z : Str, x = .str z ∧ z.cps.all (· < 128) = true ∧ R (Its z) H1
theorem pi_str {l : Expr} {tl : TE} (hl : PE X l tl) : PI X tg l (iStr tl) := by
  intro pins s σ H R I h
  refine thn (hl pins s σ H _ I h) fun v s1 ⟨x, H1, I1, r1, q1⟩ => ?_
  obtain ⟨z, e, ha, q⟩ := q1
  subst e
  obtain ⟨t, rfl⟩ := r1
  refine wpAny_pyIter_ascii ha ?_
  refine ⟨s1.heap.objs.size, [s1.heap.objs.size], _, _, H1, rfl, I1.kept (t' := s1.toks) fun b o e => Heap.get?_push_of_some _ e, turn_str _ z t, ⟨Nat.zero_le _, _, Heap.get?_push_size _ rfl, rfl, rfl⟩, fun b hb => ?_, q⟩
  have e : b = s1.heap.objs.size := by simpa using hb
  subst e
  exact I1.fpOk (Nat.le_refl _) (I1.hok.fresh (Nat.le_refl _))
end
theorem comp_str {z : Str} {tc : TT} {te : TE} {σ : St} {H1 : Hp} {Q : Hp → Prop} {D : Addr} (Pv : Nat → List V → Hp → Prop) (hn : z.cps.size < sizeLine) (h0 : Pv 0 [] (upd H1 D (.lst [])))
    (hl : ∀ i ys H, Pv i ys H → ys.length ≤ i)
    (hs : ∀ i c ys H, z.cps[i]? = some c → Pv i ys H → tc (σ ++ [some (sg c)]) H fun b H2 => if b = true then te (σ ++ [some (sg c)]) H2 fun v H3 => H3 D = some (.lst ys) ∧ Pv (i + 1) (ys ++ [v]) (upd H3 D (.lst (ys ++ [v]))) else Pv (i + 1) ys H2)
    (hd : ∀ ys H, Pv z.cps.size ys H → Q H) :
    ∃ W : Nat → Nat → List V → Hp → Prop, (∃ m, W 0 m [] (upd H1 D (.lst []))) ∧
      ∀ i m ys H, W i m ys H → ((Its z).stop i H ∧ Q H) ∨ ((Its z).go i H ∧ ys.length < sizeLine ∧ ∃ N : List V → Hp → Prop, (∀ ys' H', N ys' H' → ∃ m', m' < m ∧ W (i + 1) m' ys' H') ∧ ∀ x H', (Its z).yld i H x H' → tc (σ ++ [some x]) H' fun b H2 =>
        if b = true then te (σ ++ [some x]) H2 fun v H3 => H3 D = some (.lst ys) ∧ N (ys ++ [v]) (upd H3 D (.lst (ys ++ [v]))) else N ys H2) := by
  refine ⟨fun i m ys H => m = z.cps.size - i ∧ i ≤ z.cps.size ∧ Pv i ys H, ⟨z.cps.size, by simp, Nat.zero_le _, h0⟩, ?_⟩
  rintro i m ys H ⟨rfl, hi, p⟩
  by_cases hlt : i < z.cps.size
  · refine .inr ⟨hlt, Nat.lt_of_le_of_lt (hl i ys H p) (Nat.lt_trans hlt hn), Pv (i + 1), fun ys' H' p' => ⟨z.cps.size - (i + 1), by omega, rfl, hlt, p'⟩, fun x H' y => ?_⟩
    obtain ⟨e, c, hc, rfl⟩ := y
    subst e
    exact hs i c ys _ hc p
  · have e : i = z.cps.size := by omega
    subst e
    exact .inl ⟨Nat.le_refl _, hd ys H p⟩
section
variable {X : Cx} {a b c : Expr} {ta : TA} {p p2 pos pos2 : Pos}
def tListR3 (ta : TA) : TE := fun σ H Q => ta σ H fun vs H1 => ∃ (j k n : Nat), vs = [.int 0, .int (j : Int), .int (k : Int)] ∧ 1 ≤ k ∧ k ≤ 100000 ∧ j ≤ 100000 ∧ n = (j + k - 1) / k ∧ ∀ l, H1 l = none → Q (.ref l) (upd H1 l (.lst ((List.range n).map fun q => V.int ((q * k : Nat) : Int))))
theorem pe_listR3 (hc : X.calm = true) (hml : X.mg "list" = none) (hmr : X.mg "range" = none) (ha : PA X [a, b, c] ta) (hgl : Gl X "list" := by rfl) (hgr : Gl X "range" := by rfl)
    (he : starEach [Expr.Call (.Name "range" p2) [a, b, c] [] pos2] X.env = [(false, eval (Expr.Call (.Name "range" p2) [a, b, c] [] pos2) X.env)] := by rfl)
    (hs : starEach [a, b, c] X.env = (false, eval a X.env) :: starEach [b, c] X.env := by rfl) (hs2 : (backTo pos2 (starEach [b, c] X.env)).any (·.1) = false := by rfl) :
    PE X (.Call (.Name "list" p) [.Call (.Name "range" p2) [a, b, c] [] pos2] [] pos) (tListR3 ta) := by
  intro pins s σ H Q I h
  refine wpAny_Call_Name_kw (ld_blt I hgl hml bt_list ?_)
  refine PyProof.Rows.callWith_type1 ?_ he rfl
  rw [he]
  show wpAny _ _ (spliced ((false, eval (Expr.Call (.Name "range" p2) [a, b, c] [] pos2) X.env) :: backTo pos [])) _ _ s
  refine Calls.spliced_cons ?_
  refine Call_ (ld_blt I hgr hmr boot_range (PyProof.Rows.callWith_type1 (thn (ha pos2 pins s σ H _ I h) fun us s1 ⟨vs, H1, I1, r1, q1⟩ => ?_) hs hs2))
  obtain ⟨j, k, n, e, k1, k2, j2, en, q⟩ := q1
  subst e
  cases r1 with
  | cons r rr =>
    cases rr with
    | cons r' rr =>
      cases rr with
      | cons r'' rr =>
        cases rr
        obtain ⟨t, rfl⟩ := r
        obtain ⟨t', rfl⟩ := r'
        obtain ⟨t'', rfl⟩ := r''
        refine call_range_3 (by omega) ?_ (Or.inl (PyProof.noPylong_small (by omega)))
        refine Calls.spliced_nil ?_
        have I2 : Inv X pins σ H1 { s1 with heap := s1.heap.push { cls := .type "range", data := .fields #[.int 0 t, .int (j : Int) t', .int (k : Int) t''] }, toks := s1.toks } := I1.kept fun b o e => Heap.get?_push_of_some _ e
        have hsz : Builtin.Range.rangeSize 0 (j : Int) (k : Int) = ((n : Nat) : Int) := by
          rw [rangeSize_pos (by omega) (by omega), en]
          have : ((j : Int) + (k : Int) - 1) = ((j + k - 1 : Nat) : Int) := by omega
          rw [this]
          exact (Int.natCast_ediv _ _).symm
        have hnb : n ≤ 200000 := by
          rw [en]
          exact Nat.le_trans (Nat.div_le_self _ _) (by omega)
        have hsm : Builtin.Range.small 0 (j : Int) (k : Int) = true := by
          unfold Builtin.Range.small
          rw [hsz, if_pos (show (k : Int) > 0 by omega)]
          simp only [Builtin.Range.rangeFitsLong, Bool.and_eq_true, Bool.or_eq_true, decide_eq_true_eq, beq_iff_eq]
          omega
        refine call_list_range (I2.ok.hd hc) (IsRange.new ..) hsm hsz (Nat.le_trans hnb (by decide)) fun h' tk acc c k' hl hit => ?_
        refine ⟨.ref _, _, I2.laid (t' := tk) (o := .lst ((List.range n).map fun q => V.int ((q * k : Nat) : Int))) k' (Nat.le_refl _) ?_, rfl, q _ (I2.hok.fresh (Nat.le_refl _))⟩
        obtain ⟨hz, hat⟩ := hit
        refine ⟨by rw [List.length_map, List.length_range]; exact Nat.le_trans hnb (by decide), acc.toList, c, ?_, by simpa using hl⟩
        refine vals_of_get (by rw [List.length_map]; simp [hz]) fun i x u hx hu => ?_
        have hu' : acc[i]? = some u := by simpa using hu
        obtain ⟨tt, rfl⟩ := hat i u hu'
        have hi : i < n := by
          rw [← hz]
          exact (Array.getElem?_eq_some_iff.mp hu').1
        rw [List.getElem?_map, List.getElem?_range hi] at hx
        have e : V.int ((i * k : Nat) : Int) = x := Option.some.inj hx
        subst e
        refine ⟨tt, ?_⟩
        rw [Int.zero_add, Int.natCast_mul]
end
end L2

namespace L2
open PySem PySem.Spec PyProof.Rows
/-! ### min of a list of triples (number, number, number or list of numbers) -/
abbrev K3 := Int × Int × List Int
section
variable {s : Shared} {prog : Program} {w : World} {A : Around} {E : Value → Shared → Prop}
end
section
open SeqAt MeetsSeq MeetsSeq2 MeetsSeq3 SeqRoads2
open AutoSeq1 (wpAny_loadPart')
end
/-- a triple that stands at an address, its last part a number or a list of numbers -/
def Trip (isL : Bool) (H : Hp) (c : Addr) (k : K3) : Prop := match isL with
  | false => ∃ d : Int, k.2.2 = [d] ∧ H c = some (.tup [.int k.1, .int k.2.1, .int d])
  | true => ∃ g : Addr, H c = some (.tup [.int k.1, .int k.2.1, .ref g]) ∧ H g = some (.lst (k.2.2.map V.int))
/-- triples in a list, by their keys -/
structure Trips (isL : Bool) (H : Hp) (cs : List Addr) (ks : List K3) : Prop where
  len : cs.length = ks.length
  at_ : ∀ (i : Nat) (c : Addr) (k : K3), cs[i]? = some c → ks[i]? = some k → Trip isL H c k
section
variable {X : Cx} {e d : Expr} {te td : TE} {p pos kp : Pos} {k : Nat}
end
end L2

namespace L2
open PySem PySem.Spec PyProof.Rows
/-! ### for x in reversed(range(n)) -/
section
variable {prog : Program} {w : World} {A : Around} {E : Value → Shared → Prop} {s : Shared}
end
section
variable {X : Cx} {tg a : Expr} {ta : TA} {p p2 pos pos2 : Pos}
end
end L2

namespace L2
open PySem PySem.Spec PyProof.Rows
/-! ### in and not in a dict, as operators -/
/-! ### zip of two tuples -/
section
variable {prog : Program} {w : World} {A : Around} {E : Value → Shared → Prop} {s : Shared}
theorem IsTup.at {h h' : Heap} {a : Addr} {items : Array Value} (x : h.IsTuple a items) (k : ∀ o, h.get? a = some o → h'.get? a = some o) : h'.IsTuple a items := by
  obtain ⟨o, ho, r⟩ := x
  exact ⟨o, k o ho, r⟩
theorem IsTupIt.at {h h' : Heap} {a t : Addr} {i : Nat} (x : h.IsTupleIter a t i) (k : ∀ o, h.get? a = some o → h'.get? a = some o) : h'.IsTupleIter a t i := by
  obtain ⟨o, ho, r⟩ := x
  exact ⟨o, k o ho, r⟩
end
section
variable {prog : Program} {w : World} {A : Around} {E : Value → Shared → Prop} {s : Shared}
end
end L2

namespace L2
open PySem PySem.Spec PyProof.Rows
/-! ### a def of the text called while an exception is handled -/
structure RoomH (k : Nat) (A : Around) : Prop where
  dp : A.depth + 3 * k + 5 < recursionLimit
  un : A.units + 16 * k + 200 < cLine
structure FnHOk (P : Program) (w : World) (K : PySem.W.Frag) (mg : Str → Option Value) (base : Heap) (k : Nat) (f : Addr) (fd : FuncData) (ps : List Str) (sp : Sp) : Prop where
  len : ∀ vs H Q E, sp vs H Q E → vs.length = ps.length
  run : ∀ (A : Around) (outer : List Env) (s : Shared) (H : Hp) (args : Args) (us : List Value) (vs : List V) (Q : VK), RoomH k A → Env0 P w K mg base A outer s H → BindsTo s fd args (ps.zip us) → Vals vs us → sp vs H Q E0 →
    codeAny (model P w) A (.call (.ref f) args) (CR CX0 outer P w H s Q E0) s
structure FnH (P : Program) (w : World) (K : PySem.W.Frag) (mg : Str → Option Value) (base : Heap) (x : Str) (k : Nat) (ps : List Str) (sp : Sp) : Prop where
  ex : ∃ f fd, FnHOk P w K mg base k f fd ps sp ∧ mg x = some (.ref f) ∧ PySem.W.keepIn K (.ref f) = true ∧ Binds K fd ps []
end L2

namespace L2
open PySem PySem.Spec PyProof.Rows
/-! ### all of a list of truths -/
section
variable {X : Cx} {e : Expr} {te : TE} {p pos : Pos}
end
/-! ### how often a text stands in a list of texts -/
section
variable {X : Cx}
end
/-! ### list(range(a, b)), list(range(a, b, c)) -/
section
variable {X : Cx} {a b c : Expr} {ta : TA} {p p2 pos pos2 : Pos}
end
/-! ### try .. except C, without a name -/
end L2

namespace L2
open PySem PySem.Spec PyProof.Rows
/-! ### dict of a list of pairs -/
section
variable {prog : Program} {w : World} {A : Around} {E : Value → Shared → Prop} {s : Shared}
theorem list_no_keys : typeLookup (.type "list") "keys" = pure none := am_miss_of_fast (by decide +kernel)
theorem keys_miss {a : Addr} {xs : Array Value} {n : Nat} {sl : Array (Option Value)} {Q : Option Value → Shared → Prop} (hx : s.heap.get? a = some { cls := .type "list", dict := none, data := .seq xs n, slots := sl }) (hA : A.handled = none)
    (h : ∀ h' tk, (∀ b o, s.heap.get? b = some o → h'.get? b = some o) → Q none { s with heap := h', toks := tk }) : wpAny (model prog w) A (getAttr? (.ref a) "keys") Q E s := by
  obtain ⟨hp, g, dr, tk0, os⟩ := s
  have ty : ∀ tk, (⟨hp, g, dr, tk, os⟩ : Shared).TypeIs (.ref a) "list" := fun _ => ⟨_, hx, rfl⟩
  have q1 := sub_AttributeError
  have q2 := F.slot_list_getattribute.lookup
  have q3 := F.slot_list_getattribute.bind (.ref a)
  have q4 := am_list_getattr_none
  unfold getAttr? getAttrBy? getAttrBy
  repeat (any_goals (first | assumption | exact ty _ | ((with_reducible show wpAny _ _ (call (Value.builtin "list.__getattribute__") _ _) _ _ _); refine call_meets F.slot_list_getattribute (ty _) am_entry_list_getattribute (F.args_list_getattribute_2 _ _) (meets_getattribute_miss_list a xs n sl "keys" _ list_no_keys (by decide +kernel)) ⟨hx, hA, fun h' tk' e made => ?_⟩) | wp_step))
  obtain ⟨t', u', he⟩ := made.there
  show wpAny _ _ (getattributeRaised _ _ _ _ _ _ _) _ _ _
  unfold getattributeRaised
  repeat (any_goals (first | assumption | wp_step))
  exact h _ _ made.keeps
end
section
variable {prog : Program} {w : World} {κ : Type} [DecidableEq κ] {knd : KeyKind prog w κ} {A : Around} {E : Value → Shared → Prop} {s : Shared}
theorem plain_updLoop : plainId "dict.update.loop" = true := by decide +kernel
theorem entry_updLoop : entryFor table "dict.update.loop" = some Builtin.«dict.update.loop» := entryFor_of_fast (by kernel_rfl)
/-- the pairs that are still to come are laid into the dict, one after another -/
theorem upd_loop {d I l : Addr} {its : Array Value} {prs : List (κ × Value)} {h₀ : Heap} {R : Result → Shared → Prop} (hh : A.in1.handled = none) (hI : l ≠ I) (hdI : d ≠ I) (hdl : d ≠ l) (hn : prs.length = its.size) (hn2 : prs.length ≤ 1000)
    (hit : ∀ (i : Nat) (v : Value), its[i]? = some v → ∃ (p : Addr) (k : κ) (key val : Value), v = .ref p ∧ p ≠ d ∧ p ≠ I ∧ prs[i]? = some (k, val) ∧ knd.is k key = true ∧ h₀.IsTuple p #[key, val]) :
    ∀ (m i : Nat) (s : Shared) (t : Tok), its.size - i = m → i ≤ its.size → (s.heap.IsListIter I l i ∧ s.heap.IsList l its) → s.heap.DictOf knd d (merged [] (prs.take i)) → (∀ b o, b ≠ I → b ≠ d → h₀.get? b = some o → s.heap.get? b = some o) →
    (∀ h' tk, h'.DictOf knd d (merged [] prs) → (∀ b o, b ≠ I → b ≠ d → h₀.get? b = some o → h'.get? b = some o) → R (.ok (.ret .none)) { s with heap := h', toks := tk }) →
    codeAny (model prog w) A (.builtin "dict.update.loop" ⟨[.ref d, .ref I, .int (i : Int) t, .none], []⟩) R s := by
  have W := Walks.list (prog := prog) (w := w) hh I l hI its
  intro m
  induction m with
  | zero =>
    intro i s t hm hi st hd hk hR
    obtain rfl : i = its.size := by omega
    refine codeAny_builtin entry_updLoop ?_
    rw [Around.under_plainId plain_updLoop _]
    show wpAny _ A.in1 (pyNext (.ref I) >>= _) _ _ s
    refine wpAny_bind (W.done s _ _ st fun h' tk keep => ?_)
    rw [List.take_of_length_le (by omega)] at hd
    obtain ⟨o, es, ep, ho, rest⟩ := hd
    exact wpAny_bind (wpAny_pure (wpAny_pure (hR h' tk ⟨o, es, ep, keep d o (by simpa using hdI) ho, rest⟩ fun b o h1 h2 e => keep b o (by simpa using h1) (hk b o h1 h2 e))))
  | succ m ih =>
    intro i s t hm hi st hd hk hR
    have hlt : i < its.size := by omega
    refine codeAny_builtin entry_updLoop ?_
    rw [Around.under_plainId plain_updLoop _]
    show wpAny _ A.in1 (pyNext (.ref I) >>= _) _ _ s
    refine wpAny_bind (W.item i s _ _ hlt st fun v h' tk hv st' keep => ?_)
    obtain ⟨p, k, key, val, rfl, pd, pI, hpr, hkey, hp⟩ := hit i v hv
    obtain ⟨ob, hob, hcl, n', hda⟩ := hp
    have hp' := keep p _ (by simpa using pI) (hk p _ pI pd hob)
    have hT : ({ s with heap := h', toks := tk } : Shared).TypeIs (.ref p) "tuple" := ⟨_, hp', hcl⟩
    refine wpAny_bind (wpAny_holding ?_)
    refine wpAny_bind (wpAny_tryCatch ?_)
    unfold Builtin.Dict.pairItems
    refine wpAny_bind (wpAny_typeOf hT ?_)
    rw [if_pos (by decide)]
    refine wpAny_bind (wpAny_seqItems hp' hda (wpAny_pure ?_))
    show wpAny _ A.in1 (holding [key, val] (dictSet d key val)) _ _ _
    have hd' : h'.DictOf knd d (merged [] (prs.take i)) := by
      obtain ⟨o, es, ep, ho, rest⟩ := hd
      exact ⟨o, es, ep, keep d o (by simpa using hdI) ho, rest⟩
    have hle : (merged ([] : List (κ × Value)) (prs.take i)).length ≤ 1000 := by
      have := merged_length_le ([] : List (κ × Value)) (prs.take i)
      rw [List.length_nil, List.length_take] at this
      omega
    refine wpAny_holding (wpAny_dictSet_pairs (hsz := Nat.le_trans hle (by decide)) hkey hd' fun h2 hd2 hs2 => ?_)
    refine wpAny_pure ⟨plainId_quiet plain_updLoop _, ?_⟩
    have := ih (i + 1) { s with heap := h2, toks := tk + 1 } 0 (by omega) (by omega) ?_ ?_ ?_ ?_
    · exact this
    · exact ⟨st'.1.at fun o e => (hs2.2 I (Ne.symm hdI)).trans e, st'.2.at fun o e => (hs2.2 l (Ne.symm hdl)).trans e⟩
    · rw [merged_take_succ [] prs i (k, val) hpr]; exact hd2
    · exact fun b o h1 h2' e => (hs2.2 b h2').trans (keep b o (by simpa using h1) (hk b o h1 h2' e))
    · exact fun h3 tk3 a b => hR h3 tk3 a b
/-- dict(list of pairs) -/
theorem call_dict_prs {l : Addr} {its : Array Value} {prs : List (κ × Value)} {Q : Value → Shared → Prop} (hA : A.handled = none) (hn : prs.length = its.size) (hn2 : prs.length ≤ 1000) (n : Nat) (hl : s.heap.get? l = some (seqObj "list" its n))
    (hit : ∀ (i : Nat) (v : Value), its[i]? = some v → ∃ (p : Addr) (k : κ) (key val : Value), v = .ref p ∧ prs[i]? = some (k, val) ∧ knd.is k key = true ∧ s.heap.IsTuple p #[key, val])
    (h : ∀ h' tk, h'.DictOf knd s.heap.objs.size (merged [] prs) → (∀ b o, s.heap.get? b = some o → h'.get? b = some o) → Q (.ref s.heap.objs.size) { s with heap := h', toks := tk }) :
    wpAny (model prog w) A (call (.type "dict") [.ref l]) Q E s := by
  refine callType_codes (Q₁ := fun x s₁ => x = .ref s.heap.objs.size ∧ s₁ = { s with heap := s.heap.push { cls := .type "dict", data := .dict #[] } }) F.kt_called_dict (F.kt_typeCall_dict_1 _) F.entry_dict_init (kt_code_dict_new _ ⟨rfl, rfl⟩) ?_
  rintro x s₁ ⟨rfl, rfl⟩
  have d0 : (s.heap.push { cls := .type "dict", data := .dict #[] }).DictOf knd s.heap.objs.size [] := Heap.DictOf.new s.heap
  refine ⟨d0.typeIs, F.args_dict_init_2 _ _, ?_⟩
  unfold Builtin.«dict.__init__» Builtin.Dict.selfAndRest
  refine wpAny_bind (wpAny_bind (wpAny_notOrdered_dict d0.typeIs (wpAny_pure ?_)))
  have hl' : (s.heap.push { cls := .type "dict", data := .dict #[] }).get? l = some (seqObj "list" its n) := Heap.get?_push_of_some _ hl
  show wpAny _ _ (Builtin.Dict.updateFrom "dict.__init__" s.heap.objs.size (.ref l) [] .none) _ _ _
  unfold Builtin.Dict.updateFrom
  have hT : ({ s with heap := s.heap.push { cls := .type "dict", data := .dict #[] } } : Shared).TypeIs (.ref l) "list" := ⟨_, hl', rfl⟩
  refine wpAny_bind (wpAny_typeOf hT ?_)
  rw [if_pos (by decide)]
  refine wpAny_bind (keys_miss hl' hA fun h1 tk1 keep1 => ?_)
  have hl1 := keep1 _ _ hl'
  have hL1 : h1.IsList l its := ⟨_, hl1, rfl, n, rfl⟩
  show wpAny _ _ (rule _ >>= _) _ _ _
  refine wpAny_bind (wpAny_rule (wpAny_bind (wpAny_pyIter_list hL1 (wpAny_pure ⟨plainId_quiet plain_updLoop _, ?_⟩))))
  have hlt : l < s.heap.objs.size := Heap.lt_size hl
  have dlt : s.heap.objs.size < h1.objs.size := by
    obtain ⟨o, es, ep, ho, _⟩ := d0
    exact Heap.lt_size (keep1 _ _ ho)
  refine upd_loop (knd := knd) (A := A.in1) (h₀ := s.heap) (d := s.heap.objs.size) (I := h1.objs.size) (l := l) (its := its) (prs := prs) (show A.in1.in1.handled = none from hA) (Nat.ne_of_lt (Nat.lt_trans hlt dlt)) (Nat.ne_of_lt dlt) (Nat.ne_of_lt hlt).symm hn hn2 (fun i v hv => ?_) its.size 0 _ _ (Nat.sub_zero _) (Nat.zero_le _) ?_ ?_ ?_ ?_
  · obtain ⟨p, k, key, val, rfl, a, b, c⟩ := hit i v hv
    have : p < s.heap.objs.size := by
      obtain ⟨_, hob, _⟩ := c
      exact Heap.lt_size hob
    exact ⟨p, k, key, val, rfl, Nat.ne_of_lt this, Nat.ne_of_lt (Nat.lt_trans this dlt), a, b, c⟩
  · exact ⟨⟨_, Heap.get?_push_size _ rfl, rfl, rfl⟩, hL1.push _⟩
  · obtain ⟨o, es, ep, ho, rest⟩ := d0
    exact ⟨o, es, ep, Heap.get?_push_of_some _ (keep1 _ _ ho), rest⟩
  · exact fun b o _ _ e => Heap.get?_push_of_some _ (keep1 _ _ (Heap.get?_push_of_some _ e))
  · intro h' tk hd hk
    exact ⟨rfl, h h' tk hd fun b o e => hk b o (Nat.ne_of_lt (Nat.lt_trans (Heap.lt_size e) dlt)) (Nat.ne_of_lt (Heap.lt_size e)) e⟩
end
section
variable {X : Cx} {pins : List (Addr × Obj)} {σ : St} {H : Hp} {s : Shared}
theorem pairs_at (I : Inv X pins σ H s) : ∀ (ps : List Addr) (prs : List (Key × V)), ps.length = prs.length → (∀ (i : Nat) (p : Addr) (kv : Key × V), ps[i]? = some p → prs[i]? = some kv → H p = some (.tup [kV kv.1, kv.2])) →
    ∃ vs : List (Key × Value), KV prs vs ∧ ∀ (i : Nat) (p : Addr), ps[i]? = some p → ∃ (k : Key) (key val : Value), vs[i]? = some (k, val) ∧ (mixKind X.prog X.w).is k key = true ∧ s.heap.IsTuple p #[key, val]
  | [], [], _, _ => ⟨[], .nil, fun i p h => by simp at h⟩
  | p :: ps, kv :: prs, hl, h => by
    obtain ⟨vs, r, hv⟩ := pairs_at I ps prs (by simpa using hl) fun i p' kv' h1 h2 => h (i + 1) p' kv' (by simpa using h1) (by simpa using h2)
    have hp := h 0 p kv rfl rfl
    obtain ⟨z, its, rr, e⟩ := I.hok p _ hp
    obtain ⟨u1, u2, rfl, r1, r2⟩ := rr.two
    refine ⟨(kv.1, u2) :: vs, .cons ⟨rfl, r2⟩ r, fun i p' hi => ?_⟩
    cases i with
    | zero =>
      obtain rfl : p = p' := by simpa using hi
      exact ⟨kv.1, u1, u2, rfl, kV_is r1, e⟩
    | succ i => exact hv i p' (by simpa using hi)
  | [], _ :: _, hl, _ => by simp at hl
  | _ :: _, [], hl, _ => by simp at hl
end
theorem refs_its : ∀ {ps : List Addr} {its : List Value}, Vals (ps.map V.ref) its → its = ps.map Value.ref
  | [], _, h => by cases h; rfl
  | p :: ps, _, h => by
    cases h with
    | cons r t =>
      obtain rfl := refs_its t
      rw [show _ = Value.ref p from r]; rfl
theorem bt_dict : bootBuiltins "dict" = some (.type "dict") := by decide +kernel
section
variable {X : Cx} {e : Expr} {te : TE} {p pos : Pos}
def tDictP (te : TE) : TE := fun σ H Q => te σ H fun x H1 => ∃ (l : Addr) (ps : List Addr) (prs : List (Key × V)), x = .ref l ∧ H1 l = some (.lst (ps.map V.ref)) ∧ ps.length = prs.length ∧ (∀ (i : Nat) (p : Addr) (kv : Key × V), ps[i]? = some p → prs[i]? = some kv → H1 p = some (.tup [kV kv.1, kv.2])) ∧ (prs.map (·.1)).Nodup ∧ prs.length ≤ 1000 ∧ ∀ d, H1 d = none → Q (.ref d) (upd H1 d (.dK prs))
theorem pe_dictP (hc : X.calm = true) (hm : X.mg "dict" = none) (ha : PE X e te) (hg : Gl X "dict" := by rfl) (he : starEach [e] X.env = [(false, eval e X.env)] := by rfl) : PE X (.Call (.Name "dict" p) [e] [] pos) (tDictP te) :=
  pe_callTy (r := r1 fun x H1 Q => ∃ (l : Addr) (ps : List Addr) (prs : List (Key × V)), x = .ref l ∧ H1 l = some (.lst (ps.map V.ref)) ∧ ps.length = prs.length ∧ (∀ (i : Nat) (p : Addr) (kv : Key × V), ps[i]? = some p → prs[i]? = some kv → H1 p = some (.tup [kV kv.1, kv.2])) ∧ (prs.map (·.1)).Nodup ∧ prs.length ≤ 1000 ∧ ∀ d, H1 d = none → Q (.ref d) (upd H1 d (.dK prs)))
    (callR1 fun pins s σ H x us Q I rv ⟨l, ps, prs, ex, hl, hlen, hps, hnd, hn, q⟩ => by
      subst ex
      obtain ⟨u, rfl, ru⟩ := rv.one
      cases ru
      obtain ⟨z, its, n, r, hle, e1⟩ := I.lstM hl
      obtain rfl := refs_its r
      obtain ⟨vs, rk, hv⟩ := pairs_at I ps prs hlen hps
      have hvl := rk.length
      refine call_dict_prs (knd := mixKind X.prog X.w) (prs := vs) (its := (ps.map Value.ref).toArray) (by first | exact I.ok.hd hc | (show X.A.in1.handled = none; exact I.ok.hd hc)) (by simp; omega) (by omega) n e1 (fun i v hi => ?_) fun h' tk hd keep => ?_
      · have hi' : (ps.map Value.ref)[i]? = some v := by simpa using hi
        rw [List.getElem?_map] at hi'
        cases ep : ps[i]? with
        | none => rw [ep] at hi'; cases hi'
        | some p =>
          rw [ep] at hi'
          obtain rfl : Value.ref p = v := Option.some.inj hi'
          obtain ⟨k, key, val, a, b, c⟩ := hv i p ep
          exact ⟨p, k, key, val, rfl, a, b, c⟩
      · rw [merged_nil_of_nodup vs (by rw [← rk.keys]; exact hnd)] at hd
        exact ⟨.ref s.heap.objs.size, _, I.laid (a := s.heap.objs.size) (o := .dK prs) (t' := tk) keep (Nat.le_refl _) ⟨Nat.le_trans hn (by decide), beq_eq_false_iff_ne.mpr (Ne.symm (Nat.ne_of_lt I.big)), vs, rk, hd⟩, rfl, q _ I.fresh⟩)
    hg hm bt_dict (pa_cons ha pa_nil (by exact he)) (he := by exact he)
end
/-! ### min of a list of numbers -/
section
variable {X : Cx} {e : Expr} {te : TE} {p pos : Pos}
def tMinL (te : TE) : TE := fun σ H Q => te σ H fun x H1 => ∃ (l : Addr) (ns : List Int), x = .ref l ∧ H1 l = some (.lst (ns.map V.int)) ∧ ns ≠ [] ∧ ∀ m, m ∈ ns → (∀ a, a ∈ ns → m ≤ a) → Q (.int m) H1
theorem pe_minL (hc : X.calm = true) (hm : X.mg "min" = none) (ha : PE X e te) (hg : Gl X "min" := by rfl) (he : starEach [e] X.env = [(false, eval e X.env)] := by rfl) : PE X (.Call (.Name "min" p) [e] [] pos) (tMinL te) :=
  pe_callB (r := r1 fun x H Q => ∃ (l : Addr) (ns : List Int), x = .ref l ∧ H l = some (.lst (ns.map V.int)) ∧ ns ≠ [] ∧ ∀ m, m ∈ ns → (∀ a, a ∈ ns → m ≤ a) → Q (.int m) H)
    (callR1 fun pins s σ H x us Q I rv ⟨l, ns, ex, hH, hne, q⟩ => by
      subst ex
      obtain ⟨u, rfl, ru⟩ := rv.one
      cases ru
      obtain ⟨z, its, n, r, hl, e1⟩ := I.lstM hH
      have hi := ints_are r
      have hL : s.heap.IsList l its.toArray := ⟨_, e1, rfl, n, rfl⟩
      obtain ⟨xs, ex⟩ := hi.allInts.items
      have hns : ns = xs.toList.map (·.1) := by rw [← hi.numsOf, ← nums_intItems, ← ex]
      have hsz : 0 < xs.size := by
        cases ns with
        | nil => exact absurd rfl hne
        | cons _ _ =>
          have := congrArg List.length hns
          simp at this; omega
      rw [ex] at hL
      refine min_intList (I.ok.hd hc) hL hsz fun v h' tk hv hk => ?_
      obtain ⟨t, rfl⟩ := intItems_at hv
      obtain ⟨h1, h2⟩ := argBest_lt (numAt xs) (xs.size - 1)
      refine ⟨.int _, H, I.kept (t' := tk) hk, ⟨_, rfl⟩, q _ ?_ fun a ha => ?_⟩
      · rw [hns, numAt_eq]; exact getD_mem (by rw [List.length_map, Array.length_toList]; omega)
      · rw [hns] at ha
        obtain ⟨j, hj, rfl⟩ := mem_getD ha
        rw [List.length_map, Array.length_toList] at hj
        rw [← numAt_eq]; exact h2 j (by omega)) hg hm bt_min (pa_cons ha pa_nil (by exact he)) (he := by exact he)
end
end L2

namespace Ov
open PySem L2
def top (i : Nat) : Stmt := PySem.Challenge.pw_overlaid_k04_whole_borders.main.body.getD i (.Pass ⟨0, 0, 0, 0⟩)
abbrev sHand : Stmt := top 13
abbrev sTake : Stmt := top 14
/-- the drawing hand -/
def Hand (H : Hp) (p : Addr) : Prop := ∃ a b : Int, H p = some (.lst [.int a, .int b]) ∧ 0 ≤ a ∧ 0 ≤ b ∧ b ≤ 2147483647
def spHand : Sp := fun vs H Q _ => ∃ c : Int, vs = [.int c] ∧ ∀ p H', H p = none → Hand H' p → Same H H' → Q (.ref p) H'
def spTake : Sp := fun vs H Q _ => ∃ (p : Addr) (many : Int), vs = [.ref p, .int many] ∧ Hand H p ∧ 1 ≤ many ∧ many < 1000000000000000000000000000000000000000000000000000000000000 ∧
  ∀ (r : Int) (H' : Hp), 0 ≤ r → r < many → Hand H' p → Keep p H H' → Q (.int r) H'
section
variable {P : Program} {w : World} {K : PySem.W.Frag} {mg : Str → Option Value} {base : Heap}
theorem scHand : FnScope ["cell"] ["cell"] (defScope sHand) := ⟨rfl, rfl, rfl, by decide +kernel, rfl, by decide +kernel, by decide +kernel⟩
theorem ok_hand (M : Md K mg) (B : Bl mg) (F : FF K "_law_hand" sHand) : Fn P w K mg base CX0 "_law_hand" 1 ["cell"] spHand := by
  refine fn_ok M F scHand (fun _ _ _ _ _ _ => us1 fun _ => rfl) (fun vs H Q E h => ?_) (fun f cdv A outer s H vs Q E hr h => ?_)
  · obtain ⟨c, rfl, _⟩ := h; rfl
  · obtain ⟨c, rfl, k⟩ := h
    refine ⟨_, pss_one (ps_ret (pe_lst (pa_cons (pe_max rfl B.max pe_int (pe_op op_sub (pv 0) (pe_op op_pow pe_int pe_int)))
      (pa_cons (pe_op op_mul (pe_op op_add (pe_op op_mod (pv 0) pe_int) pe_int) (pe_intB B.int (pe_cmpR op_ne (pv 0) (pe_op op_pow pe_int pe_int) (nomark _)))) pa_nil)))), ?_⟩
    refine ⟨_, rfl, _, _, rfl, rfl, ⟨by decide, by decide, by decide⟩, _, _, rfl, rfl, _, _, rfl, rfl, ?_⟩
    refine ⟨_, rfl, _, _, rfl, rfl, (by show (0 : Int) < 2147483629; decide), _, _, rfl, rfl, _, rfl, _, _, rfl, rfl, ⟨by decide, by decide, by decide⟩, rfl, ?_⟩
    refine ⟨_, rfl, _, _, rfl, rfl, .inr ?_, ?_⟩
    · split <;> constructor <;> decide
    · refine ⟨by show 2 ≤ sizeLine; decide, fun l hl => k l _ hl ⟨_, _, upd_same, ?_, ?_, ?_⟩ (Same.upd hl)⟩
      · split <;> omega
      · have := Int.emod_nonneg c (show (2147483629 : Int) ≠ 0 by decide)
        split <;> omega
      · have := Int.emod_lt_of_pos c (show (0 : Int) < 2147483629 by decide)
        split <;> omega
theorem scTake : FnScope ["hand", "many", "taken"] ["hand", "many"] (defScope sTake) := ⟨rfl, rfl, rfl, by decide +kernel, rfl, by decide +kernel, by decide +kernel⟩
theorem ok_take (M : Md K mg) (F : FF K "_law_take" sTake) : Fn P w K mg base CX0 "_law_take" 1 ["hand", "many"] spTake := by
  refine fn_ok M F scTake (fun _ _ _ _ _ _ => us2 fun _ _ => rfl) (fun vs H Q E h => ?_) (fun f cdv A outer s H vs Q E hr h => ?_)
  · obtain ⟨p, many, rfl, _⟩ := h; rfl
  · obtain ⟨p, many, rfl, ⟨a, b, hp, ha, hb, hb2⟩, h1, h2, k⟩ := h
    refine ⟨_, pss_cons (ps_if (pt_cmpR op_gt (pe_ix ix_list (pv 0) pe_int (fun _ _ => rfl)) pe_int (nomark _))
        (pss_cons (ps_set (i := 2) scTake.nd rfl (Or.inl rfl) (pe_op op_mod (pe_ix ix_list (pv 0) pe_int (fun _ _ => rfl)) (pv 1)))
        (pss_cons (ps_asg (pe_op op_fdivL (pe_ix ix_list (pv 0) pe_int (fun _ _ => rfl)) (pv 1)) (pg_sub (pv 0) pe_int set_list))
        (pss_one (ps_ret (pv 2))))) pss_nil)
      (pss_cons (ps_asg (pe_op op_mod (pe_op op_mul (pe_ix ix_list (pv 0) pe_int (fun _ _ => rfl)) pe_int) pe_int) (pg_sub (pv 0) pe_int set_list))
      (pss_one (ps_ret (pe_op op_mod (pe_op op_fdivL (pe_op op_pow (pe_op op_add (pe_ix ix_list (pv 0) pe_int (fun _ _ => rfl)) pe_int) pe_int) pe_int) (pv 1))))), ?_⟩
    refine ⟨_, rfl, p, _, _, _, rfl, rfl, SqL.of hp, atI_nat (j := 0) rfl, _, _, rfl, rfl, _, rfl, ?_⟩
    refine ite2 (fun hc => ?_) (fun hc => ?_)
    · have hc' : 0 < a := of_decide_eq_true hc
      refine ⟨_, rfl, p, _, _, _, rfl, rfl, SqL.of hp, atI_nat (j := 0) rfl, _, rfl, _, _, rfl, rfl, (by show 0 < many; omega), ?_⟩
      refine ⟨_, rfl, p, _, _, _, rfl, rfl, SqL.of hp, atI_nat (j := 0) rfl, _, rfl, _, _, rfl, rfl, ⟨by omega, by omega⟩, ?_⟩
      refine ⟨_, rfl, p, _, 0, 0, rfl, rfl, hp, rfl, _, rfl, ?_⟩
      refine k _ _ (Int.emod_nonneg a (by omega)) (Int.emod_lt_of_pos a (by omega)) ⟨_, _, upd_same, Int.ediv_nonneg ha (by omega), hb, hb2⟩ Keep.upd
    · refine ⟨_, rfl, p, _, _, _, rfl, rfl, SqL.of hp, atI_nat (j := 1) rfl, _, _, rfl, rfl, .inl ⟨by omega, by omega⟩, _, _, rfl, rfl, (by show (0 : Int) < 2147483647; decide), ?_⟩
      refine ⟨_, rfl, p, _, 1, 1, rfl, rfl, hp, rfl, ?_⟩
      have n1 := Int.emod_nonneg (b * 48271) (show (2147483647 : Int) ≠ 0 by decide)
      have n2 := Int.emod_lt_of_pos (b * 48271) (show (0 : Int) < 2147483647 by decide)
      refine ⟨_, rfl, p, _, _, _, rfl, rfl, SqL.of upd_same, atI_nat (j := 1) rfl, _, _, rfl, rfl, _, _, rfl, rfl, ⟨by decide, by decide, ?_⟩, _, _, rfl, rfl, ⟨by decide, by decide⟩, _, rfl, _, _, rfl, rfl, (by show 0 < many; omega), ?_⟩
      · show (b * 48271 % 2147483647 + 1).natAbs < 2 ^ 64
        omega
      · refine k _ _ (Int.emod_nonneg _ (by omega)) (Int.emod_lt_of_pos _ (by omega)) ⟨a, _, upd_same, ha, n1, by omega⟩ Keep.upd
end

end Ov

namespace Ov
open PySem L2
abbrev sLetters : Stmt := top 15
def az : List Nat := (List.range 26).map (97 + ·)
/-- the letters that are drawn from: some of a to z, each once -/
def Letters (z : Str) : Prop := ∃ fc lc : List Nat, z = ⟨fc.toArray⟩ ∧ (fc ++ lc).Perm az ∧ 2 ≤ fc.length
theorem Letters.len {z : Str} (h : Letters z) : 2 ≤ z.length ∧ z.length ≤ 26 := by
  obtain ⟨fc, lc, rfl, hp, h2⟩ := h
  have := hp.length_eq
  rw [str_len]
  simp [az] at this
  omega
theorem az_mem {c : Nat} (h : c ∈ az) : 97 ≤ c ∧ c ≤ 122 := by
  simp [az] at h
  omega
theorem Letters.mem {z : Str} (h : Letters z) : ∀ c ∈ z.cps.toList, 97 ≤ c ∧ c ≤ 122 := by
  obtain ⟨fc, lc, rfl, hp, h2⟩ := h
  intro c hc
  exact az_mem (hp.mem_iff.mp (List.mem_append_left _ (by simpa using hc)))
theorem letters_step {fc lc : List Nat} {at_ : Nat} {c : Nat} (hp : (fc ++ lc).Perm az) (hc : lc[at_]? = some c) : ((fc ++ [c]) ++ (lc.take at_ ++ lc.drop (at_ + 1))).Perm az := by
  obtain ⟨hlt, hv⟩ := List.getElem?_eq_some_iff.mp hc
  have e : lc = lc.take at_ ++ c :: lc.drop (at_ + 1) := by
    rw [← hv, ← List.drop_eq_getElem_cons hlt, List.take_append_drop]
  have p : (c :: (lc.take at_ ++ lc.drop (at_ + 1))).Perm lc := by
    have q := List.perm_middle (a := c) (l₁ := lc.take at_) (l₂ := lc.drop (at_ + 1))
    rw [← e] at q
    exact q.symm
  have q : ((fc ++ [c]) ++ (lc.take at_ ++ lc.drop (at_ + 1))).Perm (fc ++ lc) := by
    rw [List.append_assoc]
    exact List.Perm.append_left fc p
  exact q.trans hp
def spLetters : Sp := fun vs H Q _ => ∃ p : Addr, vs = [.ref p] ∧ Hand H p ∧ ∀ z H', Letters z → Hand H' p → Keep p H H' → Q (.str z) H'
section
variable {P : Program} {w : World} {K : PySem.W.Frag} {mg : Str → Option Value} {base : Heap}
theorem Hand.ne {H : Hp} {p l : Addr} (h : Hand H p) (hl : H l = none) : p ≠ l := by
  obtain ⟨a, b, e, _⟩ := h
  exact ne_of_none e hl
theorem Hand.upd {H : Hp} {p l : Addr} {o : HO} (h : Hand H p) (hl : p ≠ l) : Hand (L2.upd H l o) p := by
  obtain ⟨a, b, e, r⟩ := h
  exact ⟨a, b, by rw [upd_ne hl]; exact e, r⟩
theorem Hand.keep {H H' : Hp} {p q : Addr} (h : Hand H p) (k : Keep q H H') (hne : p ≠ q) : Hand H' p := by
  obtain ⟨a, b, e, r⟩ := h
  exact ⟨a, b, k _ _ e hne, r⟩
theorem Hand.same {H H' : Hp} {p : Addr} (h : Hand H p) (k : Same H H') : Hand H' p := by
  obtain ⟨a, b, e, r⟩ := h
  exact ⟨a, b, k _ _ e, r⟩
theorem scLetters : FnScope ["hand", "left", "found", "k", "at"] ["hand"] (defScope sLetters) := ⟨rfl, rfl, rfl, by decide +kernel, rfl, by decide +kernel, by decide +kernel⟩
theorem ok_letters (M : Md K mg) (B : Bl mg) (F : FF K "_law_letters" sLetters) (F_law_take : Fn P w K mg base CX0 "_law_take" 1 ["hand", "many"] spTake) : Fn P w K mg base CX0 "_law_letters" 2 ["hand"] spLetters := by
  refine fn_ok M F scLetters (fun _ _ _ _ _ _ => us1 fun _ => rfl) (fun vs H Q E h => ?_) (fun f cdv A outer s H vs Q E hr h => ?_)
  · obtain ⟨p, rfl, _⟩ := h; rfl
  · obtain ⟨p, rfl, hp, k⟩ := h
    refine ⟨_, (pss_cons (ps_set (i := 1) scLetters.nd rfl (by first | exact Or.inl rfl | exact Or.inr rfl) pe_str)
      (pss_cons (ps_set (i := 2) scLetters.nd rfl (by first | exact Or.inl rfl | exact Or.inr rfl) pe_str)
      (pss_cons (ps_for PassesOwn.never rfl (pi_range1 (by rfl) B.range (pa_cons (pe_ix ix_list (pe_lst (pa_cons pe_int (pa_cons pe_int (pa_cons pe_int (pa_cons pe_int pa_nil))))) (pe_fn F_law_take hr pass0 (pa_cons (pv 0) (pa_cons pe_int pa_nil))) (fun _ _ => rfl)) pa_nil)) (pg_name (i := 3) scLetters.nd rfl (by first | exact Or.inl rfl | exact Or.inr rfl))
      (pss_cons (ps_set (i := 4) scLetters.nd rfl (by first | exact Or.inl rfl | exact Or.inr rfl) (pe_fn F_law_take hr pass0 (pa_cons (pv 0) (pa_cons (pe_lenS B.len (pv 1)) pa_nil))))
      (pss_cons (ps_set (i := 2) scLetters.nd rfl (by first | exact Or.inl rfl | exact Or.inr rfl) (pe_op op_add_str (pv 2) (pe_ix ix_str (pv 1) (pv 4) (fun _ _ => rfl))))
      (pss_one (ps_set (i := 1) scLetters.nd rfl (by first | exact Or.inl rfl | exact Or.inr rfl) (pe_op op_add_str (pe_slice sl_str (pv 1) po_none (po_some (pv 4))) (pe_slice sl_str (pv 1) (po_some (pe_op op_add (pv 4) pe_int)) po_none)))))))
      (pss_one (ps_ret (pv 2)))))), ?_⟩
    refine ⟨by show 4 ≤ sizeLine; decide, fun l hl => ?_⟩
    refine ⟨_, rfl, p, 4, rfl, hp.upd (hp.ne hl), by decide, by decide, fun r H1 r0 r4 hp1 k1 => ?_⟩
    have hl1 : H1 l = some (.lst [.int 2, .int 3, .int 5, .int 26]) := k1 _ _ upd_same (hp.ne hl).symm
    obtain ⟨v, _, hv, ea⟩ := atI_ex [V.int 2, V.int 3, V.int 5, V.int 26] r r0 (by simpa using r4)
    obtain ⟨n, rfl, hn⟩ : ∃ n : Int, v = .int n ∧ 2 ≤ n ∧ n ≤ 26 := by
      simp at hv
      rcases hv with rfl | rfl | rfl | rfl
      · exact ⟨_, rfl, by decide, by decide⟩
      · exact ⟨_, rfl, by decide, by decide⟩
      · exact ⟨_, rfl, by decide, by decide⟩
      · exact ⟨_, rfl, by decide, by decide⟩
    refine ⟨l, _, r, _, rfl, rfl, SqL.of hl1, ea, n, rfl, by omega, by omega, ?_⟩
    have k01 : Keep p H H1 := (Same.upd hl).keep.trans k1
    refine for_rangeA (lo := 0) (n := n.toNat) (fun i σ H2 => ∃ (fc lc : List Nat) (v3 v4 : Option V), σ = [some (.ref p), some (.str ⟨lc.toArray⟩), some (.str ⟨fc.toArray⟩), v3, v4] ∧ (fc ++ lc).Perm az ∧ fc.length = i ∧ Hand H2 p ∧ Keep p H H2) ?_ ?_ ?_
    · exact ⟨[], az, none, none, rfl, by simp, rfl, hp1, k01⟩
    · rintro D2 i σ H2 nx2 hi ⟨fc, lc, v3, v4, rfl, perm, hfc, hp2, k2⟩
      have hlc : fc.length + lc.length = 26 := by
        have := perm.length_eq
        simpa [az] using this
      refine ⟨_, rfl, _, rfl, _, rfl, by rw [str_len]; exact Nat.le_of_lt (small1000 (by omega)), p, _, rfl, hp2, by rw [str_len]; omega, by rw [str_len]; omega, fun r H3 r0 r1 hp3 k3 => ?_⟩
      rw [str_len] at r1
      obtain ⟨c, hc, _, ec⟩ := atI_ex lc r r0 r1
      have hz : ∀ cs : List Nat, cs.length ≤ 26 → (Str.length ⟨cs.toArray⟩) ≤ sizeLine := fun cs h => by rw [str_len]; exact Nat.le_of_lt (small1000 (by omega))
      refine ⟨_, rfl, _, rfl, _, rfl, _, r, c, rfl, rfl, hz lc (by omega), by simpa using ec, _, _, rfl, rfl, ?_, ?_⟩
      · show Str.length _ + 1 ≤ sizeLine
        rw [str_len]; exact small1000 (by omega)
      · refine ⟨_, rfl, _, rfl, r, rfl, _, rfl, hz lc (by omega), _, rfl, _, rfl, _, _, rfl, rfl, r + 1, rfl, _, rfl, hz lc (by omega), _, _, rfl, rfl, ?_, ?_⟩
        · rw [cutS_eq, cutS_eq, cutL_hi _ _ r0, cutL_lo _ _ (by omega), str_len, str_len, List.length_take, List.length_drop]
          exact Nat.le_of_lt (small1000 (by omega))
        · refine nx2 _ _ ⟨fc ++ [c], lc.take r.toNat ++ lc.drop (r.toNat + 1), some (.int (0 + (i : Int))), some (.int r), ?_, letters_step perm hc, by simp [hfc], hp3, k2.trans k3⟩
          have e1 : cutS ⟨lc.toArray⟩ none (some r) ++ cutS ⟨lc.toArray⟩ (some (r + 1)) none = (⟨(lc.take r.toNat ++ lc.drop (r.toNat + 1)).toArray⟩ : Str) := by
            rw [cutS_eq, cutS_eq, cutL_hi _ _ r0, cutL_lo _ _ (by omega), str_app, show (r + 1).toNat = r.toNat + 1 by omega]
          have e2 : (⟨fc.toArray⟩ ++ ⟨#[c]⟩ : Str) = ⟨(fc ++ [c]).toArray⟩ := str_app fc [c]
          rw [← e1, ← e2]
          rfl
    · rintro σ H2 ⟨fc, lc, v3, v4, rfl, perm, hfc, hp2, k2⟩
      exact ⟨_, rfl, k _ _ ⟨fc, lc, rfl, perm, by omega⟩ hp2 k2⟩
end

end Ov

namespace Ov
open PySem L2
abbrev sSigns : Stmt := top 16
abbrev sEnds : Stmt := top 17
/-- small letters -/
def Low (t : List Nat) : Prop := ∀ c ∈ t, 97 ≤ c ∧ c ≤ 122
theorem Low.cp {t : List Nat} (h : Low t) : ∀ c ∈ t, c < 0x110000 := fun c hc => by have := h c hc; omega
theorem Low.take {t : List Nat} (h : Low t) (n : Nat) : Low (t.take n) := fun c hc => h c (List.mem_of_mem_take hc)
theorem Low.drop {t : List Nat} (h : Low t) (n : Nat) : Low (t.drop n) := fun c hc => h c (List.mem_of_mem_drop hc)
theorem Low.app {t u : List Nat} (h : Low t) (g : Low u) : Low (t ++ u) := fun c hc => (List.mem_append.mp hc).elim (h c) (g c)
theorem Low.set {t : List Nat} (h : Low t) (n c : Nat) (hc : 97 ≤ c ∧ c ≤ 122) : Low (t.set n c) := fun d hd => by
  rcases List.mem_or_eq_of_mem_set hd with q | q
  · exact h d q
  · subst q; exact hc
theorem Low.nil : Low [] := fun c hc => by cases hc
/-- signs to draw from -/
structure Alph (z : Str) : Prop where
  low : ∀ c ∈ z.cps.toList, 97 ≤ c ∧ c ≤ 122
  one : 1 ≤ z.length
  few : z.length ≤ 1000
theorem Letters.alph {z : Str} (h : Letters z) : Alph z := ⟨h.mem, by have := h.len; omega, by have := h.len; omega⟩
theorem hand_ne {H : Hp} {p a : Addr} {t : List Nat} (h : Hand H p) (ha : H a = some (.lst (t.map sg))) : a ≠ p := by
  obtain ⟨x, y, e, _⟩ := h
  refine ne_of ha e fun z => ?_
  have z' : t.map sg = [.int x, .int y] := HO.lst.inj z
  cases t with
  | nil => cases z'
  | cons c t => cases z'
theorem sz {n : Nat} (h : n ≤ 1000) : n ≤ sizeLine := Nat.le_of_lt (small1000 h)
/-- a sign of the letters at a drawn place -/
theorem alph_at {z : Str} (h : Alph z) {r : Int} (r0 : 0 ≤ r) (r1 : r < z.length) : ∃ c, atI z.cps.toList r = some c ∧ 97 ≤ c ∧ c ≤ 122 ∧ c ∈ z.cps.toList := by
  obtain ⟨c, _, hm, e⟩ := atI_ex z.cps.toList r r0 (by simpa [Str.length] using r1)
  exact ⟨c, e, (h.low c hm).1, (h.low c hm).2, hm⟩
def spSigns : Sp := fun vs H Q _ => ∃ (p : Addr) (z : Str) (n : Int), vs = [.ref p, .str z, .int n] ∧ Hand H p ∧ Alph z ∧ 0 ≤ n ∧ n ≤ 1000 ∧
  ∀ (t : List Nat) (r : Addr) (H' : Hp), H r = none → H' r = some (.lst (t.map sg)) → Low t → (∀ c ∈ t, c ∈ z.cps.toList) → t.length = n.toNat → Hand H' p → Keep p H H' → Q (.ref r) H'
def ends (t : List Nat) : List Nat := (List.range t.length).filter fun k => decide (t.take k = t.drop (t.length - k))
def vInts (ks : List Nat) : List V := (ks.map fun (k : Nat) => (k : Int)).map V.int
def spEnds : Sp := fun vs H Q _ => ∃ (a : Addr) (t : List Nat), vs = [.ref a] ∧ H a = some (.lst (t.map sg)) ∧ Low t ∧ t.length ≤ 1000 ∧
  ∀ (r : Addr) (H' : Hp), H r = none → H' r = some (.lst (vInts (ends t))) → Same H H' → Q (.ref r) H'
section
variable {P : Program} {w : World} {K : PySem.W.Frag} {mg : Str → Option Value} {base : Heap}
theorem scSigns : FnScope ["hand", "letters", "many"] ["hand", "letters", "many"] (defScope sSigns) := ⟨rfl, rfl, rfl, by decide +kernel, rfl, by decide +kernel, by decide +kernel⟩
theorem ok_signs (M : Md K mg) (B : Bl mg) (F : FF K "_law_signs" sSigns) (F_law_take : Fn P w K mg base CX0 "_law_take" 1 ["hand", "many"] spTake) : Fn P w K mg base CX0 "_law_signs" 2 ["hand", "letters", "many"] spSigns := by
  refine fn_ok M F scSigns (fun _ _ _ _ _ _ => us3 fun _ _ _ => rfl) (fun vs H Q E h => ?_) (fun f cdv A outer s H vs Q E hr h => ?_)
  · obtain ⟨p, z, n, rfl, _⟩ := h; rfl
  · obtain ⟨p, z, n, rfl, hp, hz, n0, n1, k⟩ := h
    refine ⟨_, (pss_one (ps_ret (pe_comp ["hand", "letters", "many"] rfl (pi_range1 (by rfl) B.range (pa_cons (pv 2) pa_nil)) (fun _ => by exact pif_nil) (fun _ => by exact (pe_ix ix_str (pv 1) (pe_fn F_law_take hr pass0 (pa_cons (pv 0) (pa_cons (pe_lenS B.len (pv 1)) pa_nil))) (fun _ _ => rfl)))))), ?_⟩
    refine ⟨_, rfl, n, rfl, by omega, by omega, fun D hD b => ?_⟩
    refine comp_range (lo := 0) (n := n.toNat) (fun i ys H2 => ∃ t : List Nat, ys = t.map sg ∧ Low t ∧ (∀ c ∈ t, c ∈ z.cps.toList) ∧ t.length = i ∧ Hand H2 p ∧ Keep p H H2 ∧ H2 D = some (.lst ys)) (small1000 (by omega)) ?_ ?_ ?_ ?_
    · exact ⟨[], rfl, Low.nil, (fun c hc => by cases hc), rfl, hp.upd (hp.ne hD), (Same.upd hD).keep, upd_same⟩
    · rintro i ys H2 ⟨t, rfl, _, _, rfl, _⟩
      simp
    · rintro i ys H2 hi ⟨t, rfl, lt, mt, rfl, hp2, k2, hD2⟩
      refine tNoIf_go ?_
      refine ⟨_, rfl, _, rfl, _, rfl, z, rfl, sz hz.few, p, _, rfl, hp2, by have := hz.one; omega, by have := hz.few; omega, fun r H3 r0 r1 hp3 k3 => ?_⟩
      obtain ⟨c, ec, c1, c2, hm⟩ := alph_at hz r0 r1
      have nD : D ≠ p := (hp.ne hD).symm
      refine ⟨z, r, c, rfl, rfl, sz hz.few, ec, k3 _ _ hD2 nD, t ++ [c], by simp, ?_, ?_, by simp, hp3.upd nD.symm, ?_, ?_⟩
      · exact lt.app fun d hd => by rw [List.mem_singleton.mp hd]; exact ⟨c1, c2⟩
      · intro d hd
        rcases List.mem_append.mp hd with q | q
        · exact mt d q
        · rw [List.mem_singleton.mp q]; exact hm
      · intro b o e nb
        rw [upd_ne (ne_of_none e hD)]
        exact k3 _ _ (k2 b o e nb) nb
      · exact upd_same
    · rintro ys H2 ⟨t, rfl, lt, mt, hl, hp2, k2, hD2⟩
      exact k t D H2 hD hD2 lt mt hl hp2 k2
theorem scEnds : FnScope ["text"] ["text"] (defScope sEnds) := ⟨rfl, rfl, rfl, by decide +kernel, rfl, by decide +kernel, by decide +kernel⟩
theorem ends_step {t : List Nat} {i : Nat} : ((List.range (i + 1)).filter fun k => decide (t.take k = t.drop (t.length - k))) = ((List.range i).filter fun k => decide (t.take k = t.drop (t.length - k))) ++ (if t.take i = t.drop (t.length - i) then [i] else []) := by
  rw [List.range_succ, List.filter_append]
  congr 1
  by_cases h : t.take i = t.drop (t.length - i) <;> simp [h]
theorem vInts_snoc (ks : List Nat) (i : Nat) : vInts (ks ++ [i]) = vInts ks ++ [V.int (0 + (i : Int))] := by
  simp [vInts]
theorem vInts_len (ks : List Nat) : (vInts ks).length = ks.length := by simp [vInts]
theorem filter_len {i : Nat} (p : Nat → Bool) : ((List.range i).filter p).length ≤ i := by
  have := List.length_filter_le p (List.range i)
  simpa using this
theorem ok_ends (M : Md K mg) (B : Bl mg) (F : FF K "_law_ends" sEnds) : Fn P w K mg base CX0 "_law_ends" 1 ["text"] spEnds := by
  refine fn_ok M F scEnds (fun _ _ _ _ _ _ => us1 fun _ => rfl) (fun vs H Q E h => ?_) (fun f cdv A outer s H vs Q E hr h => ?_)
  · obtain ⟨a, t, rfl, _⟩ := h; rfl
  · obtain ⟨a, t, rfl, ha, lt, hl, k⟩ := h
    refine ⟨_, (pss_one (ps_ret (pe_comp ["text"] rfl (pi_range1 (by rfl) B.range (pa_cons (pe_lenL B.len (pv 0)) pa_nil)) (fun _ => by exact (pif_one (pt_cmpR (op_eqLS (by exact hr)) (pe_slice sl_list (pv 0) po_none (po_some (pv 1))) (pe_slice sl_list (pv 0) (po_some (pe_op op_sub (pe_lenL B.len (pv 0)) (pv 1))) po_none) (nomark _)))) (fun _ => by exact (pv 1))))), ?_⟩
    refine ⟨_, rfl, a, _, rfl, SqL.of ha, _, rfl, by omega, by rw [List.length_map]; omega, fun D hD b => ?_⟩
    rw [List.length_map, Int.toNat_natCast]
    refine comp_range (lo := 0) (n := t.length) (fun i ys H2 => ys = vInts ((List.range i).filter fun k => decide (t.take k = t.drop (t.length - k))) ∧ Same H H2 ∧ H2 D = some (.lst ys)) (small1000 hl) ?_ ?_ ?_ ?_
    · exact ⟨rfl, Same.upd hD, upd_same⟩
    · rintro i ys H2 ⟨rfl, _⟩
      rw [vInts_len]; exact filter_len _
    · rintro i ys H2 hi ⟨rfl, s2, hD2⟩
      refine ⟨_, rfl, _, rfl, _, rfl, a, _, rfl, SqL.of (s2 _ _ ha), fun p1 hp1 => ?_⟩
      have s3 := s2.trans (Same.upd (o := .lst (cutV (t.map sg) none (some (0 + (i : Int))))) hp1)
      refine ⟨_, rfl, _, rfl, a, _, rfl, SqL.of (s3 _ _ ha), _, rfl, _, _, rfl, rfl, _, rfl, a, _, rfl, SqL.of (s3 _ _ ha), fun p2 hp2 => ?_⟩
      have n12 : p1 ≠ p2 := ne_of_none upd_same hp2
      refine ⟨p1, p2, t.take i, t.drop (t.length - i), rfl, rfl, SqL.of ?_, SqL.of ?_, (lt.take _).cp, (lt.drop _).cp, _, rfl, ?_⟩
      · rw [upd_ne n12, upd_same, cutV_cutL, cutL_map, cutL_hi _ _ (by omega), show (0 + (i : Int)).toNat = i by omega]
      · rw [upd_same, cutV_cutL, cutL_map, cutL_lo _ _ (by rw [List.length_map]; omega), List.length_map, show ((t.length : Int) - (0 + (i : Int))).toNat = t.length - i by omega]
      · have s4 := s3.trans (Same.upd (o := .lst (cutV (t.map sg) (some (((t.map sg).length : Int) - (0 + (i : Int)))) none)) hp2)
        have hD4 := (Same.upd (H := L2.upd H2 p1 _) (o := .lst (cutV (t.map sg) (some (((t.map sg).length : Int) - (0 + (i : Int)))) none)) hp2) _ _ ((Same.upd (o := .lst (cutV (t.map sg) none (some (0 + (i : Int))))) hp1) _ _ hD2)
        refine ite2 (fun hc => ?_) (fun hc => ?_)
        · have hc' : t.take i = t.drop (t.length - i) := by simpa using hc
          refine ⟨_, rfl, hD4, ?_, ?_, upd_same⟩
          · rw [ends_step, if_pos hc', vInts_snoc]
          · intro b o e
            rw [upd_ne (ne_of_none e hD)]
            exact s4 b o e
        · have hc' : ¬ t.take i = t.drop (t.length - i) := by simpa using hc
          refine ⟨?_, s4, hD4⟩
          rw [ends_step, if_neg hc', List.append_nil]
    · rintro ys H2 ⟨rfl, s2, hD2⟩
      exact k D H2 hD hD2 s2
end

end Ov

namespace Ov
open PySem L2
abbrev sLaid : Stmt := top 18
abbrev sText : Stmt := top 19
theorem ends_lt {t : List Nat} {k : Nat} (h : k ∈ ends t) : k < t.length := by
  simp [ends] at h; exact h.1
theorem ends_zero {t : List Nat} (h : 1 ≤ t.length) : 1 ≤ (ends t).length := by
  have : 0 ∈ ends t := by
    simp [ends]; omega
  cases e : ends t with
  | nil => rw [e] at this; cases this
  | cons _ _ => simp
theorem ends_len (t : List Nat) : (ends t).length ≤ t.length := filter_len _
theorem vInts_at {ks : List Nat} {r : Int} (r0 : 0 ≤ r) (r1 : r < ks.length) : ∃ k : Nat, k ∈ ks ∧ ks[r.toNat]? = some k ∧ atI (vInts ks) r = some (V.int (k : Int)) := by
  obtain ⟨v, hv, hm, e⟩ := atI_ex (vInts ks) r r0 (by rw [vInts_len]; exact r1)
  unfold vInts at hv
  rw [List.map_map, List.getElem?_map] at hv
  cases q : ks[r.toNat]? with
  | none => rw [q] at hv; cases hv
  | some k =>
    rw [q] at hv
    have : v = V.int (k : Int) := (Option.some.inj hv).symm
    subst this
    exact ⟨k, List.mem_of_getElem? q, rfl, e⟩
def spLaid : Sp := fun vs H Q _ => ∃ (p a : Addr) (t : List Nat) (most : Int), vs = [.ref p, .ref a, .int most] ∧ Hand H p ∧ H a = some (.lst (t.map sg)) ∧ Low t ∧ 1 ≤ t.length ∧ (t.length : Int) ≤ most ∧ most ≤ 200 ∧
  ∀ (u : List Nat) (r : Addr) (H' : Hp), H r = none → H' r = some (.lst (u.map sg)) → Low u → 1 ≤ u.length → (u.length : Int) ≤ most → Hand H' p → Keep p H H' → Q (.ref r) H'
def spText : Sp := fun vs H Q _ => ∃ (p : Addr) (z : Str), vs = [.ref p, .str z] ∧ Hand H p ∧ Alph z ∧
  ∀ (u : List Nat) (r : Addr) (H' : Hp), H r = none → H' r = some (.lst (u.map sg)) → Low u → u.length ≤ 200 → Hand H' p → Keep p H H' → Q (.ref r) H'
section
variable {P : Program} {w : World} {K : PySem.W.Frag} {mg : Str → Option Value} {base : Heap}
theorem scLaid : FnScope ["hand", "word", "most", "found", "some", "k", "at"] ["hand", "word", "most"] (defScope sLaid) := ⟨rfl, rfl, rfl, by decide +kernel, rfl, by decide +kernel, by decide +kernel⟩
theorem ok_laid (M : Md K mg) (B : Bl mg) (F : FF K "_law_laid" sLaid) (F_law_take : Fn P w K mg base CX0 "_law_take" 1 ["hand", "many"] spTake) (F_law_ends : Fn P w K mg base CX0 "_law_ends" 1 ["text"] spEnds) : Fn P w K mg base CX0 "_law_laid" 2 ["hand", "word", "most"] spLaid := by
  refine fn_ok M F scLaid (fun _ _ _ _ _ _ => us3 fun _ _ _ => rfl) (fun vs H Q E h => ?_) (fun f cdv A outer s H vs Q E hr h => ?_)
  · obtain ⟨p, a, t, most, rfl, _⟩ := h; rfl
  · obtain ⟨p, a, t, most, rfl, hp, ha, lt, t1, tm, m2, k⟩ := h
    refine ⟨_, (pss_cons (ps_set (i := 3) scLaid.nd rfl (by first | exact Or.inl rfl | exact Or.inr rfl) (pe_listOf B.list (pv 1)))
      (pss_cons (ps_set (i := 4) scLaid.nd rfl (by first | exact Or.inl rfl | exact Or.inr rfl) (pe_fn F_law_ends hr pass0 (pa_cons (pv 1) pa_nil)))
      (pss_cons (ps_for PassesOwn.never rfl (pi_range1 (by rfl) B.range (pa_cons (pe_op op_add pe_int (pe_fn F_law_take hr pass0 (pa_cons (pv 0) (pa_cons pe_int pa_nil)))) pa_nil)) (pg_name (i := 5) scLaid.nd rfl (by first | exact Or.inl rfl | exact Or.inr rfl))
      (pss_cons (ps_set (i := 6) scLaid.nd rfl (by first | exact Or.inl rfl | exact Or.inr rfl) (pe_ix ix_list (pv 4) (pe_fn F_law_take hr pass0 (pa_cons (pv 0) (pa_cons (pe_lenL B.len (pv 4)) pa_nil))) (fun _ _ => rfl)))
      (pss_one (ps_if (pt_cmpR op_le (pe_op op_sub (pe_op op_add (pe_lenL B.len (pv 3)) (pe_lenL B.len (pv 1))) (pv 6)) (pv 2) (nomark _)) (pss_one (ps_set (i := 3) scLaid.nd rfl (by first | exact Or.inl rfl | exact Or.inr rfl) (pe_op op_cat (pv 3) (pe_slice sl_list (pv 1) (po_some (pv 6)) po_none)))) pss_nil))))
      (pss_one (ps_ret (pv 3)))))), ?_⟩
    refine ⟨_, rfl, a, _, rfl, SqL.of ha, fun r0 hr0 => ?_⟩
    have s0 := Same.upd (H := H) (o := .lst (t.map sg)) hr0
    refine ⟨_, rfl, a, t, rfl, s0 _ _ ha, lt, by omega, fun q H1 hq hq1 s1 => ?_⟩
    have pq : q ≠ p := (hp.same s0).ne hq |>.symm
    have s01 := s0.trans s1
    refine ⟨_, rfl, p, 6, rfl, hp.same s01, by decide, by decide, fun n H2 n0 n6 hp2 k2 => ?_⟩
    refine ⟨_, _, rfl, rfl, _, rfl, by omega, by omega, ?_⟩
    refine for_rangeA (lo := 0) (n := (1 + n).toNat) (fun i σ H3 => ∃ (u : List Nat) (r : Addr) (v5 v6 : Option V), σ = [some (.ref p), some (.ref a), some (.int most), some (.ref r), some (.ref q), v5, v6] ∧ H r = none ∧ H3 r = some (.lst (u.map sg)) ∧ Low u ∧ 1 ≤ u.length ∧ (u.length : Int) ≤ most ∧ Hand H3 p ∧ Keep p H H3 ∧ H3 q = some (.lst (vInts (ends t)))) ?_ ?_ ?_
    · exact ⟨t, r0, none, none, rfl, hr0, k2 _ _ (s1 _ _ upd_same) (hp.ne hr0).symm, lt, t1, tm, hp2, s01.keep.trans k2, k2 _ _ hq1 pq⟩
    · rintro D2 i σ H3 nx2 hi ⟨u, r, v5, v6, rfl, hrn, hr3, lu, u1, um, hp3, k3, hq3⟩
      have el := ends_len t
      have ez := ends_zero t1
      refine ⟨_, rfl, _, rfl, _, rfl, q, _, rfl, SqL.of hq3, p, _, rfl, hp3, by rw [vInts_len]; omega, by rw [vInts_len]; omega, fun j H4 j0 j1 hp4 k4 => ?_⟩
      rw [vInts_len] at j1
      obtain ⟨at_, hat, _, eat⟩ := vInts_at j0 j1
      have hat' := ends_lt hat
      have hr4 := k4 _ _ hr3 (hand_ne hp3 hr3)
      have ha4 := k4 _ _ (k3 _ _ ha (hand_ne hp ha)) (hand_ne hp ha)
      refine ⟨q, _, j, _, rfl, rfl, SqL.of (k4 _ _ hq3 pq), eat, ?_⟩
      refine ⟨_, rfl, r, _, rfl, SqL.of hr4, _, rfl, a, _, rfl, SqL.of ha4, _, _, rfl, rfl, _, rfl, _, _, rfl, rfl, _, rfl, _, _, rfl, rfl, _, rfl, ?_⟩
      refine ite2 (fun hc => ?_) (fun hc => ?_)
      · have hc' : (u.length : Int) + t.length - at_ ≤ most := by simpa using hc
        refine ⟨_, rfl, _, rfl, _, rfl, _, rfl, a, _, rfl, SqL.of ha4, fun p1 hp1 => ?_⟩
        have s5 := Same.upd (o := .lst (cutV (t.map sg) (some (at_ : Int)) none)) hp1
        have e1 : cutV (t.map sg) (some (at_ : Int)) none = (t.drop at_).map sg := by
          rw [cutV_cutL, cutL_map, cutL_lo _ _ (by omega), Int.toNat_natCast]
        rw [e1] at s5 ⊢
        refine ⟨r, p1, _, _, rfl, rfl, s5 _ _ hr4, upd_same, ?_, fun p2 hp2' => ?_⟩
        · rw [List.length_map, List.length_map, List.length_drop]
          exact sz (by omega)
        · have s6 := s5.trans (Same.upd (o := .lst (u.map sg ++ (t.drop at_).map sg)) hp2')
          have k6 : Keep p H (L2.upd (L2.upd H4 p1 (.lst ((t.drop at_).map sg))) p2 (.lst (u.map sg ++ (t.drop at_).map sg))) := (k3.trans k4).trans s6.keep
          refine nx2 _ _ ⟨u ++ t.drop at_, p2, _, _, rfl, ?_, by rw [upd_same, List.map_append], lu.app (lt.drop _), by rw [List.length_append]; omega, by rw [List.length_append, List.length_drop]; omega, hp4.same s6, k6, s6 _ _ (k4 _ _ hq3 pq)⟩
          have h4 : H4 p2 = none := s5.free hp2'
          obtain ⟨x, y, e4, _⟩ := hp4
          exact (k3.trans k4).free e4 h4
      · exact nx2 _ _ ⟨u, r, _, _, rfl, hrn, hr4, lu, u1, um, hp4, k3.trans k4, k4 _ _ hq3 pq⟩
    · rintro σ H3 ⟨u, r, v5, v6, rfl, hrn, hr3, lu, u1, um, hp3, k3, hq3⟩
      exact ⟨_, rfl, k u r H3 hrn hr3 lu u1 um hp3 k3⟩
theorem scText : FnScope ["hand", "letters", "most", "text", "turn", "way", "at"] ["hand", "letters"] (defScope sText) := ⟨rfl, rfl, rfl, by decide +kernel, rfl, by decide +kernel, by decide +kernel⟩
theorem ok_text (M : Md K mg) (B : Bl mg) (F : FF K "_law_text" sText) (F_law_take : Fn P w K mg base CX0 "_law_take" 1 ["hand", "many"] spTake) (F_law_signs : Fn P w K mg base CX0 "_law_signs" 2 ["hand", "letters", "many"] spSigns)
    (F_law_laid : Fn P w K mg base CX0 "_law_laid" 2 ["hand", "word", "most"] spLaid) : Fn P w K mg base CX0 "_law_text" 3 ["hand", "letters"] spText := by
  refine fn_ok M F scText (fun _ _ _ _ _ _ => us2 fun _ _ => rfl) (fun vs H Q E h => ?_) (fun f cdv A outer s H vs Q E hr h => ?_)
  · obtain ⟨p, z, rfl, _⟩ := h; rfl
  · obtain ⟨p, z, rfl, hp, hz, k⟩ := h
    refine ⟨_, (pss_cons (ps_set (i := 2) scText.nd rfl (by first | exact Or.inl rfl | exact Or.inr rfl) (pe_ix ix_list (pe_lst (pa_cons pe_int (pa_cons pe_int pa_nil))) (pe_intB B.int (pe_cmpR op_eq (pe_fn F_law_take hr pass0 (pa_cons (pv 0) (pa_cons pe_int pa_nil))) pe_int (nomark _))) (fun _ _ => rfl)))
      (pss_cons (ps_if (pt_cmpR op_eq (pe_fn F_law_take hr pass0 (pa_cons (pv 0) (pa_cons pe_int pa_nil))) pe_int (nomark _)) (pss_one (ps_ret (pe_fn F_law_signs hr pass0 (pa_cons (pv 0) (pa_cons (pv 1) (pa_cons (pe_fn F_law_take hr pass0 (pa_cons (pv 0) (pa_cons (pe_op op_add (pv 2) pe_int) pa_nil))) pa_nil)))))) pss_nil)
      (pss_cons (ps_set (i := 3) scText.nd rfl (by first | exact Or.inl rfl | exact Or.inr rfl) (pe_fn F_law_signs hr pass0 (pa_cons (pv 0) (pa_cons (pv 1) (pa_cons (pe_op op_add pe_int (pe_fn F_law_take hr pass0 (pa_cons (pv 0) (pa_cons pe_int pa_nil)))) pa_nil)))))
      (pss_cons (ps_for PassesOwn.never rfl (pi_range1 (by rfl) B.range (pa_cons (pe_op op_add pe_int (pe_fn F_law_take hr pass0 (pa_cons (pv 0) (pa_cons pe_int pa_nil)))) pa_nil)) (pg_name (i := 4) scText.nd rfl (by first | exact Or.inl rfl | exact Or.inr rfl))
      (pss_one (ps_set (i := 3) scText.nd rfl (by first | exact Or.inl rfl | exact Or.inr rfl) (pe_fn F_law_laid hr pass0 (pa_cons (pv 0) (pa_cons (pv 3) (pa_cons (pv 2) pa_nil)))))))
      (pss_cons (ps_set (i := 5) scText.nd rfl (by first | exact Or.inl rfl | exact Or.inr rfl) (pe_fn F_law_take hr pass0 (pa_cons (pv 0) (pa_cons pe_int pa_nil))))
      (pss_cons (ps_set (i := 6) scText.nd rfl (by first | exact Or.inl rfl | exact Or.inr rfl) (pe_fn F_law_take hr pass0 (pa_cons (pv 0) (pa_cons (pe_lenL B.len (pv 3)) pa_nil))))
      (pss_cons (ps_if (pt_cmpR op_eq (pv 5) pe_int (nomark _)) (pss_one (ps_asg (pe_ix ix_str (pv 1) (pe_fn F_law_take hr pass0 (pa_cons (pv 0) (pa_cons (pe_lenS B.len (pv 1)) pa_nil))) (fun _ _ => rfl)) (pg_sub (pv 3) (pv 6) set_list))) pss_nil)
      (pss_one (ps_ret (pe_ix ix_list (pe_lst (pa_cons (pv 3) (pa_cons (pv 3) (pa_cons (pe_slice sl_list (pv 3) po_none (po_some (pe_op op_add (pv 6) pe_int))) (pa_cons (pe_slice sl_list (pv 3) (po_some (pv 6)) po_none) (pa_cons (pv 3) pa_nil)))))) (pv 5) (fun _ _ => rfl))))))))))), ?_⟩
    refine ⟨by show 2 ≤ sizeLine; decide, fun l hl => ?_⟩
    refine ⟨_, rfl, p, 16, rfl, hp.upd (hp.ne hl), by decide, by decide, fun n H1 n0 n16 hp1 k1 => ?_⟩
    have k01 : Keep p H H1 := (Same.upd hl).keep.trans k1
    have hl1 : H1 l = some (.lst [.int 40, .int 200]) := k1 _ _ upd_same (hp.ne hl).symm
    refine ⟨rfl, _, rfl, ?_⟩
    obtain ⟨most, em, m1, m2⟩ : ∃ most : Int, atI [V.int 40, V.int 200] (if decide (V.int n = V.int 3) then 1 else 0) = some (.int most) ∧ 40 ≤ most ∧ most ≤ 200 := by
      by_cases hc : V.int n = V.int 3
      · rw [decide_eq_true hc]; exact ⟨200, rfl, by decide, by decide⟩
      · rw [decide_eq_false hc]; exact ⟨40, rfl, by decide, by decide⟩
    refine ⟨l, _, _, _, rfl, rfl, SqL.of hl1, em, ?_⟩
    refine ⟨_, rfl, p, 4, rfl, hp1, by decide, by decide, fun n2 H2 a0 a1 hp2 k2 => ?_⟩
    have k02 := k01.trans k2
    refine ⟨rfl, _, rfl, ?_⟩
    refine ite2 (fun hc => ?_) (fun hc => ?_)
    · -- return signs(hand, letters, take(most + 1))
      refine ⟨_, rfl, _, rfl, _, rfl, _, rfl, _, _, rfl, rfl, p, most + 1, rfl, hp2, by omega, by omega, fun n3 H3 b0 b1 hp3 k3 => ?_⟩
      refine ⟨p, z, n3, rfl, hp3, hz, b0, by omega, fun t r H4 hrn hr4 lt _ tl hp4 k4 => ?_⟩
      obtain ⟨x, y, e3, _⟩ := hp3
      exact k t r H4 ((k02.trans k3).free e3 hrn) hr4 lt (by omega) hp4 ((k02.trans k3).trans k4)
    · -- text = signs(hand, letters, 1 + take(4))
      refine ⟨_, rfl, _, rfl, _, rfl, p, 4, rfl, hp2, by decide, by decide, fun n3 H3 b0 b1 hp3 k3 => ?_⟩
      have k03 := k02.trans k3
      refine ⟨_, _, rfl, rfl, p, z, 1 + n3, rfl, hp3, hz, by omega, by omega, fun t r H4 hrn hr4 lt _ tl hp4 k4 => ?_⟩
      have hrn0 : H r = none := by obtain ⟨x, y, e3, _⟩ := hp3; exact k03.free e3 hrn
      have k04 := k03.trans k4
      refine ⟨_, rfl, p, 4, rfl, hp4, by decide, by decide, fun n5 H5 c0 c1 hp5 k5 => ?_⟩
      refine ⟨_, _, rfl, rfl, _, rfl, by omega, by omega, ?_⟩
      refine for_rangeA (lo := 0) (n := (1 + n5).toNat) (fun i σ H6 => ∃ (u : List Nat) (r : Addr) (v4 v5 v6 : Option V), σ = [some (.ref p), some (.str z), some (.int most), some (.ref r), v4, v5, v6] ∧ H r = none ∧ H6 r = some (.lst (u.map sg)) ∧ Low u ∧ 1 ≤ u.length ∧ (u.length : Int) ≤ most ∧ Hand H6 p ∧ Keep p H H6) ?_ ?_ ?_
      · exact ⟨t, r, none, none, none, rfl, hrn0, k5 _ _ hr4 (hand_ne hp4 hr4), lt, by omega, by omega, hp5, k04.trans k5⟩
      · rintro D2 i σ H6 nx2 hi ⟨u, r, v4, v5, v6, rfl, hrn, hr6, lu, u1, um, hp6, k6⟩
        refine ⟨_, rfl, _, rfl, _, rfl, p, r, u, most, rfl, hp6, hr6, lu, u1, um, m2, fun u' r' H7 hrn7 hr7 lu' u1' um' hp7 k7 => ?_⟩
        refine nx2 _ _ ⟨u', r', _, _, _, rfl, ?_, hr7, lu', u1', um', hp7, k6.trans k7⟩
        obtain ⟨x, y, e6, _⟩ := hp6
        exact k6.free e6 hrn7
      · rintro σ H6 ⟨u, r, v4, v5, v6, rfl, hrn, hr6, lu, u1, um, hp6, k6⟩
        refine ⟨_, rfl, p, 5, rfl, hp6, by decide, by decide, fun way H7 w0 w1 hp7 k7 => ?_⟩
        have hr7 := k7 _ _ hr6 (hand_ne hp6 hr6)
        refine ⟨_, rfl, _, rfl, r, _, rfl, SqL.of hr7, p, _, rfl, hp7, by rw [List.length_map]; omega, by rw [List.length_map]; omega, fun at_ H8 d0 d1 hp8 k8 => ?_⟩
        rw [List.length_map] at d1
        have hr8 := k8 _ _ hr7 (hand_ne hp7 hr7)
        have k08 := (k6.trans k7).trans k8
        have fin : ∀ (u9 : List Nat) (H9 : Hp), Hand H9 p → Keep p H H9 → H9 r = some (.lst (u9.map sg)) → Low u9 → u9.length ≤ 200 →
            tRet (tOp (rIxL K) (tLst (tCons (tVar 3) (tCons (tVar 3) (tCons (tSl (rSlL K) (tVar 3) tNoPart (tPart (tOp (rI0 fun i j => V.int (i + j)) (tVar 6) (tC (V.int 1))))) (tCons (tSl (rSlL K) (tVar 3) (tPart (tVar 6)) tNoPart) (tCons (tVar 3) tNil)))))) (tVar 5))
              { nx := fun x H' => Q V.non H', rt := Q } [some (.ref p), some (.str z), some (.int most), some (.ref r), v4, some (.int way), some (.int at_)] H9 := by
          intro u9 H9 hp9 k9 hr9 lu9 ul9
          refine ⟨_, rfl, _, rfl, _, rfl, _, rfl, _, _, rfl, rfl, at_ + 1, rfl, r, _, rfl, SqL.of hr9, fun q1 hq1 => ?_⟩
          have e1 : cutV (u9.map sg) none (some (at_ + 1)) = (u9.take (at_ + 1).toNat).map sg := by rw [cutV_cutL, cutL_map, cutL_hi _ _ (by omega)]
          have s1 := Same.upd (o := .lst (cutV (u9.map sg) none (some (at_ + 1)))) hq1
          refine ⟨_, rfl, _, rfl, at_, rfl, r, _, rfl, SqL.of (s1 _ _ hr9), fun q2 hq2 => ?_⟩
          have e2 : cutV (u9.map sg) (some at_) none = (u9.drop at_.toNat).map sg := by rw [cutV_cutL, cutL_map, cutL_lo _ _ (by omega)]
          have s2 := s1.trans (Same.upd (o := .lst (cutV (u9.map sg) (some at_) none)) hq2)
          refine ⟨_, rfl, by show 5 ≤ sizeLine; decide, fun l2 hl2 => ?_⟩
          have s3 := s2.trans (Same.upd (o := .lst [.ref r, .ref r, .ref q1, .ref q2, .ref r]) hl2)
          have k3 : Keep p H _ := k9.trans s3.keep
          have hp3 := hp9.same s3
          have fr : ∀ {b : Addr}, H9 b = none → H b = none := fun hb => by obtain ⟨x, y, e9, _⟩ := hp9; exact k9.free e9 hb
          have g0 : Q (.ref r) _ := k u9 r _ hrn (s3 _ _ hr9) lu9 ul9 hp3 k3
          have n1 : q1 ≠ q2 := ne_of_none upd_same hq2
          have g1 : Q (.ref q1) _ := k (u9.take (at_ + 1).toNat) q1 _ (fr hq1) (by
            rw [upd_ne (ne_of_none (by rw [upd_ne n1]; exact upd_same) hl2), upd_ne n1, upd_same, e1]) (lu9.take _) (by rw [List.length_take]; omega) hp3 k3
          have g2 : Q (.ref q2) _ := k (u9.drop at_.toNat) q2 _ (fr (s1.free hq2)) (by
            rw [upd_ne (ne_of_none upd_same hl2), upd_same, e2]) (lu9.drop _) (by rw [List.length_drop]; omega) hp3 k3
          have hw : way = 0 ∨ way = 1 ∨ way = 2 ∨ way = 3 ∨ way = 4 := by omega
          rcases hw with rfl | rfl | rfl | rfl | rfl
          · exact ⟨_, rfl, l2, _, _, _, rfl, rfl, SqL.of upd_same, rfl, g0⟩
          · exact ⟨_, rfl, l2, _, _, _, rfl, rfl, SqL.of upd_same, rfl, g0⟩
          · exact ⟨_, rfl, l2, _, _, _, rfl, rfl, SqL.of upd_same, rfl, g1⟩
          · exact ⟨_, rfl, l2, _, _, _, rfl, rfl, SqL.of upd_same, rfl, g2⟩
          · exact ⟨_, rfl, l2, _, _, _, rfl, rfl, SqL.of upd_same, rfl, g0⟩
        refine ⟨_, rfl, rfl, _, rfl, ?_⟩
        refine ite2 (fun hc => ?_) (fun hc => ?_)
        · refine ⟨_, rfl, _, rfl, _, rfl, z, rfl, sz hz.few, p, _, rfl, hp8, by have := hz.one; omega, by have := hz.few; omega, fun j H9 j0 j1 hp9 k9 => ?_⟩
          obtain ⟨c, ec, c1, c2, _⟩ := alph_at hz j0 j1
          have hr9 := k9 _ _ hr8 (hand_ne hp8 hr8)
          refine ⟨z, j, c, rfl, rfl, sz hz.few, ec, _, rfl, _, rfl, r, _, at_, at_.toNat, rfl, rfl, hr9, ixN_pos _ _ d0 (by rw [List.length_map]; exact d1), ?_⟩
          have nrp := hand_ne hp9 hr9
          refine fin (u.set at_.toNat c) _ (hp9.upd nrp.symm) ?_ (by rw [upd_same, List.map_set]) (lu.set _ _ ⟨c1, c2⟩) (by rw [List.length_set]; omega)
          intro b o e nb
          rw [upd_ne (fun q => by subst q; rw [e] at hrn; cases hrn)]
          exact (k08.trans k9) b o e nb
        · exact fin u H8 hp8 k08 hr8 lu (by omega)
end

end Ov

namespace Ov
open PySem L2
abbrev sIsSign : Stmt := top 5
abbrev sCheck : Stmt := top 6
def spIsSign : Sp := fun vs H Q _ => ∃ c : Nat, vs = [sg c] ∧ 97 ≤ c ∧ c ≤ 122 ∧ Q (.bl true) H
def spCheck : Sp := fun vs H Q _ => ∃ (a : Addr) (t : List Nat), vs = [.ref a] ∧ H a = some (.lst (t.map sg)) ∧ Low t ∧ Q .non H
theorem sg_ge {c : Nat} (h : 97 ≤ c) : (!decide ((sgS c).cps.toList < (Str.ofString "a").cps.toList)) = true := by
  have e : (Str.ofString "a").cps.toList = [97] := by decide +kernel
  rw [e]
  have : ¬ ([c] < [97]) := fun q => by
    cases q with
    | rel r => omega
    | cons r => cases r
  simp [this]
theorem sg_le {c : Nat} (h : c ≤ 122) : (!decide ((Str.ofString "z").cps.toList < (sgS c).cps.toList)) = true := by
  have e : (Str.ofString "z").cps.toList = [122] := by decide +kernel
  rw [e]
  have : ¬ ([122] < [c]) := fun q => by
    cases q with
    | rel r => omega
    | cons r => cases r
  simp [this]
section
variable {P : Program} {w : World} {K : PySem.W.Frag} {mg : Str → Option Value} {base : Heap}
theorem scIsSign : FnScope ["sign"] ["sign"] (defScope sIsSign) := ⟨rfl, rfl, rfl, by decide +kernel, rfl, by decide +kernel, by decide +kernel⟩
theorem ok_is_sign (M : Md K mg) (B : Bl mg) (F : FF K "is_sign" sIsSign) : Fn P w K mg base CX0 "is_sign" 1 ["sign"] spIsSign := by
  refine fn_ok M F scIsSign (fun _ _ _ _ _ _ => us1 fun _ => rfl) (fun vs H Q E h => ?_) (fun f cdv A outer s H vs Q E hr h => ?_)
  · obtain ⟨c, rfl, _⟩ := h; rfl
  · obtain ⟨c, rfl, c1, c2, k⟩ := h
    refine ⟨_, (pss_one (ps_ret (pe_and (pe_isi B.isinst B.str bt_str (pv 0)) (pe_and (pe_cmpR op_eq (pe_lenS B.len (pv 0)) pe_int (nomark _)) (pe_one (pe_chain op_le_str op_le_str pe_str (pv 0) pe_str)))))), ?_⟩
    refine ⟨_, rfl, _, true, TyOf.str _, rfl, _, rfl, iteT ?_⟩
    refine ⟨_, rfl, _, rfl, sz (by show 1 ≤ 1000; decide), rfl, true, rfl, iteT ?_⟩
    refine ⟨_, rfl, _, _, rfl, rfl, _, rfl, ?_⟩
    rw [sg_ge c1]
    refine iteT ⟨_, _, rfl, rfl, ?_⟩
    rw [sg_le c2]
    exact k
theorem scCheck : FnScope ["text", "sign"] ["text"] (defScope sCheck) := ⟨rfl, rfl, rfl, by decide +kernel, rfl, by decide +kernel, by decide +kernel⟩
theorem ok_check (M : Md K mg) (B : Bl mg) (F : FF K "check_signs" sCheck) (Fis_sign : Fn P w K mg base CX0 "is_sign" 1 ["sign"] spIsSign) : Fn P w K mg base CX0 "check_signs" 2 ["text"] spCheck := by
  refine fn_ok M F scCheck (fun _ _ _ _ _ _ => us1 fun _ => rfl) (fun vs H Q E h => ?_) (fun f cdv A outer s H vs Q E hr h => ?_)
  · obtain ⟨a, t, rfl, _⟩ := h; rfl
  · obtain ⟨a, t, rfl, ha, lt, k⟩ := h
    refine ⟨_, (pss_one (ps_for PassesOwn.never rfl (pi_list (pv 0)) (pg_name (i := 1) scCheck.nd rfl (by first | exact Or.inl rfl | exact Or.inr rfl))
      (pss_one (ps_if (pt_not (pt_val (pe_fn Fis_sign hr pass0 (pa_cons (pv 1) pa_nil)))) (pss_one ps_never) pss_nil)))), ?_⟩
    refine ⟨_, rfl, a, rfl, ⟨_, SqL.of ha⟩, for_list (K := K) (a := a) (xs := t.map sg) (fun i σ H2 => H2 = H ∧ ∃ v, σ = [some (.ref a), v]) ⟨rfl, none, rfl⟩ (fun i σ H2 _ h2 => by rw [h2.1]; exact SqL.of ha) ?_ ?_⟩
    · rintro i x σ H2 hx ⟨rfl, v, rfl⟩
      rw [List.getElem?_map] at hx
      cases e : t[i]? with
      | none => rw [e] at hx; cases hx
      | some c =>
        rw [e] at hx
        have : sg c = x := Option.some.inj hx
        subst this
        have hc := lt c (List.mem_of_getElem? e)
        exact ⟨_, rfl, c, rfl, hc.1, hc.2, true, rfl, iteF ⟨rfl, _, rfl⟩⟩
    · rintro σ H2 ⟨rfl, _⟩
      exact k
end

end Ov

namespace Ov
open PySem L2
abbrev sBorders : Stmt := top 9
section
variable {P : Program} {w : World} {K : PySem.W.Frag} {mg : Str → Option Value} {base : Heap}
theorem scBorders : FnScope ["text", "length"] ["text"] (defScope sBorders) := ⟨rfl, rfl, rfl, by decide +kernel, rfl, by decide +kernel, by decide +kernel⟩
theorem ok_borders (M : Md K mg) (B : Bl mg) (F : FF K "borders" sBorders) (Fcheck_signs : Fn P w K mg base CX0 "check_signs" 2 ["text"] spCheck) : Fn P w K mg base CX0 "borders" 3 ["text"] spEnds := by
  refine fn_ok M F scBorders (fun _ _ _ _ _ _ => us1 fun _ => rfl) (fun vs H Q E h => ?_) (fun f cdv A outer s H vs Q E hr h => ?_)
  · obtain ⟨a, t, rfl, _⟩ := h; rfl
  · obtain ⟨a, t, rfl, ha, lt, hl, k⟩ := h
    refine ⟨_, (pss_cons (ps_expr (pe_fn Fcheck_signs hr pass0 (pa_cons (pv 0) pa_nil)))
      (pss_cons (ps_set (i := 1) scBorders.nd rfl (by first | exact Or.inl rfl | exact Or.inr rfl) (pe_lenL B.len (pv 0)))
      (pss_one (ps_ret (pe_comp ["text", "length"] rfl (pi_range1 (by rfl) B.range (pa_cons (pv 1) pa_nil)) (fun _ => by exact (pif_one (pt_cmpR (op_eqLS (by exact hr)) (pe_slice sl_list (pv 0) po_none (po_some (pv 2))) (pe_slice sl_list (pv 0) (po_some (pe_op op_sub (pv 1) (pv 2))) po_none) (nomark _)))) (fun _ => by exact (pv 2))))))), ?_⟩
    refine ⟨_, rfl, a, t, rfl, ha, lt, ?_⟩
    refine ⟨_, rfl, a, _, rfl, SqL.of ha, ?_⟩
    refine ⟨_, rfl, _, rfl, by rw [List.length_map]; omega, by rw [List.length_map]; omega, fun D hD b => ?_⟩
    rw [List.length_map, Int.toNat_natCast]
    refine comp_range (lo := 0) (n := t.length) (fun i ys H2 => ys = vInts ((List.range i).filter fun k => decide (t.take k = t.drop (t.length - k))) ∧ Same H H2 ∧ H2 D = some (.lst ys)) (small1000 hl) ?_ ?_ ?_ ?_
    · exact ⟨rfl, Same.upd hD, upd_same⟩
    · rintro i ys H2 ⟨rfl, _⟩
      rw [vInts_len]; exact filter_len _
    · rintro i ys H2 hi ⟨rfl, s2, hD2⟩
      refine ⟨_, rfl, _, rfl, _, rfl, a, _, rfl, SqL.of (s2 _ _ ha), fun p1 hp1 => ?_⟩
      have s3 := s2.trans (Same.upd (o := .lst (cutV (t.map sg) none (some (0 + (i : Int))))) hp1)
      refine ⟨_, rfl, _, rfl, _, rfl, _, _, rfl, rfl, _, rfl, a, _, rfl, SqL.of (s3 _ _ ha), fun p2 hp2 => ?_⟩
      have n12 : p1 ≠ p2 := ne_of_none upd_same hp2
      refine ⟨p1, p2, t.take i, t.drop (t.length - i), rfl, rfl, SqL.of ?_, SqL.of ?_, (lt.take _).cp, (lt.drop _).cp, _, rfl, ?_⟩
      · rw [upd_ne n12, upd_same, cutV_cutL, cutL_map, cutL_hi _ _ (by omega), show (0 + (i : Int)).toNat = i by omega]
      · rw [upd_same, cutV_cutL, cutL_map, cutL_lo _ _ (by omega), show ((t.length : Int) - (0 + (i : Int))).toNat = t.length - i by omega]
      · have s4 := s3.trans (Same.upd (o := .lst (cutV (t.map sg) (some ((t.length : Int) - (0 + (i : Int)))) none)) hp2)
        have hD4 := (Same.upd (H := L2.upd H2 p1 _) (o := .lst (cutV (t.map sg) (some ((t.length : Int) - (0 + (i : Int)))) none)) hp2) _ _ ((Same.upd (o := .lst (cutV (t.map sg) none (some (0 + (i : Int))))) hp1) _ _ hD2)
        refine ite2 (fun hc => ?_) (fun hc => ?_)
        · have hc' : t.take i = t.drop (t.length - i) := by simpa using hc
          refine ⟨_, rfl, hD4, ?_, ?_, upd_same⟩
          · rw [ends_step, if_pos hc', vInts_snoc]
          · intro b o e
            rw [upd_ne (ne_of_none e hD)]
            exact s4 b o e
        · have hc' : ¬ t.take i = t.drop (t.length - i) := by simpa using hc
          refine ⟨?_, s4, hD4⟩
          rw [ends_step, if_neg hc', List.append_nil]
    · rintro ys H2 ⟨rfl, s2, hD2⟩
      exact k D H2 hD hD2 s2
end

end Ov

namespace Ov
open PySem L2
abbrev sPeriods : Stmt := top 10
def pers (t : List Nat) : List Nat := (ends t).reverse.map (t.length - ·)
def spPeriods : Sp := fun vs H Q _ => ∃ (a : Addr) (t : List Nat), vs = [.ref a] ∧ H a = some (.lst (t.map sg)) ∧ Low t ∧ t.length ≤ 1000 ∧
  ∀ (r : Addr) (H' : Hp), H r = none → H' r = some (.lst (vInts (pers t))) → Same H H' → Q (.ref r) H'
theorem take_rev {α : Type} (xs : List α) (i : Nat) (x : α) (h : xs[xs.length - 1 - i]? = some x) (hi : i < xs.length) : xs.reverse.take (i + 1) = xs.reverse.take i ++ [x] := by
  rw [List.take_add_one, List.getElem?_reverse hi, h]
  rfl
section
variable {P : Program} {w : World} {K : PySem.W.Frag} {mg : Str → Option Value} {base : Heap}
theorem scPeriods : FnScope ["text"] ["text"] (defScope sPeriods) := ⟨rfl, rfl, rfl, by decide +kernel, rfl, by decide +kernel, by decide +kernel⟩
theorem ok_periods (M : Md K mg) (B : Bl mg) (F : FF K "periods" sPeriods) (Fborders : Fn P w K mg base CX0 "borders" 3 ["text"] spEnds) : Fn P w K mg base CX0 "periods" 4 ["text"] spPeriods := by
  refine fn_ok M F scPeriods (fun _ _ _ _ _ _ => us1 fun _ => rfl) (fun vs H Q E h => ?_) (fun f cdv A outer s H vs Q E hr h => ?_)
  · obtain ⟨a, t, rfl, _⟩ := h; rfl
  · obtain ⟨a, t, rfl, ha, lt, hl, k⟩ := h
    refine ⟨_, (pss_one (ps_ret (pe_comp ["text"] rfl (pi_rev B.rev (pe_fn Fborders hr pass0 (pa_cons (pv 0) pa_nil))) (fun _ => by exact pif_nil) (fun _ => by exact (pe_op op_sub (pe_lenL B.len (pv 0)) (pv 1)))))), ?_⟩
    refine ⟨_, rfl, a, t, rfl, ha, lt, hl, fun r H1 hr0 hr1 s1 => ?_⟩
    refine ⟨r, _, rfl, SqL.of hr1, fun D hD b => ?_⟩
    have el := ends_len t
    refine comp_rev (K := K) (a := r) (xs := vInts (ends t)) (fun i ys H2 => ys = vInts (((ends t).reverse.take i).map (t.length - ·)) ∧ Same H1 H2 ∧ H2 D = some (.lst ys)) (by rw [vInts_len]; exact small1000 (by omega)) ?_ ?_ ?_ ?_ ?_
    · exact ⟨by simp [vInts], Same.upd hD, upd_same⟩
    · rintro i ys H2 ⟨rfl, _⟩
      rw [vInts_len, List.length_map, List.length_take]; omega
    · rintro i ys H2 _ ⟨rfl, s2, _⟩; exact SqL.of (s2 _ _ hr1)
    · rintro i x ys H2 hx hi ⟨rfl, s2, hD2⟩
      refine tNoIf_go ?_
      rw [vInts_len] at hx hi
      obtain ⟨k, hk, rfl⟩ : ∃ k, (ends t)[(ends t).length - 1 - i]? = some k ∧ x = V.int (k : Int) := by
        unfold vInts at hx
        rw [List.map_map, List.getElem?_map] at hx
        cases q : (ends t)[(ends t).length - 1 - i]? with
        | none => rw [q] at hx; cases hx
        | some k =>
          rw [q] at hx
          exact ⟨k, rfl, (Option.some.inj hx).symm⟩
      have hk' := ends_lt (List.mem_of_getElem? hk)
      refine ⟨_, rfl, a, _, rfl, SqL.of (s2 _ _ (s1 _ _ ha)), _, rfl, _, _, rfl, rfl, hD2, ?_, ?_, upd_same⟩
      · rw [take_rev _ _ _ hk hi, List.map_append, List.length_map]
        show vInts _ ++ [V.int ((t.length : Int) - (k : Int))] = vInts (_ ++ [t.length - k])
        rw [vInts_snoc, Int.zero_add, Int.ofNat_sub (Nat.le_of_lt hk')]
      · intro b o e
        rw [upd_ne (ne_of_none e hD)]
        exact s2 b o e
    · rintro ys H2 ⟨rfl, s2, hD2⟩
      refine k D H2 (s1.free hD) ?_ (s1.trans s2)
      rw [hD2, vInts_len, List.take_of_length_le (by simp)]
      rfl
end

end Ov

namespace Ov
open PySem L2
/-- the places at which u lies in t -/
def liesIn (t u : List Nat) : List Nat := (List.range (t.length + 1 - u.length)).filter fun p => decide ((t.drop p).take u.length = u)
theorem sg_inj {a b : Nat} : (sg a = sg b) ↔ a = b := by
  constructor
  · intro h
    have : sgS a = sgS b := V.str.inj h
    simpa [sgS] using this
  · intro h; rw [h]
theorem vInts_app (ks js : List Nat) : vInts (ks ++ js) = vInts ks ++ vInts js := by simp [vInts]
theorem vInts_snoc' (ks : List Nat) (i : Nat) : vInts (ks ++ [i]) = vInts ks ++ [V.int (i : Int)] := by simp [vInts]
/-- the places at which the word's signs are others, up to the j-th -/
def parts (t u : List Nat) (p j : Nat) : List Nat := (List.range j).filter fun q => !decide (t[p + q]? = u[q]?)
theorem lies_step (t u : List Nat) (i : Nat) : ((List.range (i + 1)).filter fun p => decide ((t.drop p).take u.length = u)) = ((List.range i).filter fun p => decide ((t.drop p).take u.length = u)) ++ (if (t.drop i).take u.length = u then [i] else []) := by
  rw [List.range_succ, List.filter_append]
  congr 1
  by_cases h : (t.drop i).take u.length = u <;> simp [h]
def spLies : Sp := fun vs H Q _ => ∃ (a b : Addr) (t u : List Nat), vs = [.ref a, .ref b] ∧ H a = some (.lst (t.map sg)) ∧ H b = some (.lst (u.map sg)) ∧ Low t ∧ Low u ∧ t.length ≤ 900 ∧ u.length ≤ 900 ∧ 1 ≤ u.length ∧
  ∀ (r : Addr) (H' : Hp), H r = none → H' r = some (.lst (vInts (liesIn t u))) → Same H H' → Q (.ref r) H'

end Ov

namespace Ov
open PySem L2
abbrev sCheckWord : Stmt := top 7
abbrev sLiesAt : Stmt := top 11
def spCheckWord : Sp := fun vs H Q _ => ∃ (a : Addr) (t : List Nat), vs = [.ref a] ∧ H a = some (.lst (t.map sg)) ∧ Low t ∧ 1 ≤ t.length ∧ Q .non H
section
variable {P : Program} {w : World} {K : PySem.W.Frag} {mg : Str → Option Value} {base : Heap}
theorem scCheckWord : FnScope ["word"] ["word"] (defScope sCheckWord) := ⟨rfl, rfl, rfl, by decide +kernel, rfl, by decide +kernel, by decide +kernel⟩
theorem ok_check_word (M : Md K mg) (B : Bl mg) (F : FF K "check_word" sCheckWord) (Fcheck_signs : Fn P w K mg base CX0 "check_signs" 2 ["text"] spCheck) : Fn P w K mg base CX0 "check_word" 3 ["word"] spCheckWord := by
  refine fn_ok M F scCheckWord (fun _ _ _ _ _ _ => us1 fun _ => rfl) (fun vs H Q E h => ?_) (fun f cdv A outer s H vs Q E hr h => ?_)
  · obtain ⟨a, t, rfl, _⟩ := h; rfl
  · obtain ⟨a, t, rfl, ha, lt, t1, k⟩ := h
    refine ⟨_, (pss_cons (ps_if (pt_cmpR op_eq (pe_lenL B.len (pv 0)) pe_int (nomark _)) (pss_one ps_never) pss_nil)
      (pss_one (ps_expr (pe_fn Fcheck_signs hr pass0 (pa_cons (pv 0) pa_nil))))), ?_⟩
    refine ⟨_, rfl, a, _, rfl, SqL.of ha, rfl, _, rfl, ?_⟩
    rw [decide_eq_false (fun q => by have := V.int.inj q; rw [List.length_map] at this; omega)]
    exact iteF ⟨_, rfl, a, t, rfl, ha, lt, k⟩
theorem scLiesAt : FnScope ["text", "word", "many"] ["text", "word"] (defScope sLiesAt) := ⟨rfl, rfl, rfl, by decide +kernel, rfl, by decide +kernel, by decide +kernel⟩
theorem ok_lies_at (M : Md K mg) (B : Bl mg) (F : FF K "lies_at" sLiesAt) (Fcheck_signs : Fn P w K mg base CX0 "check_signs" 2 ["text"] spCheck) (Fcheck_word : Fn P w K mg base CX0 "check_word" 3 ["word"] spCheckWord) : Fn P w K mg base CX0 "lies_at" 4 ["text", "word"] spLies := by
  refine fn_ok M F scLiesAt (fun _ _ _ _ _ _ => us2 fun _ _ => rfl) (fun vs H Q E h => ?_) (fun f cdv A outer s H vs Q E hr h => ?_)
  · obtain ⟨a, b, t, u, rfl, _⟩ := h; rfl
  · obtain ⟨a, b, t, u, rfl, ha, hb, lt, lu, tl, ul, u1, k⟩ := h
    refine ⟨_, (pss_cons (ps_expr (pe_fn Fcheck_word hr pass0 (pa_cons (pv 1) pa_nil)))
      (pss_cons (ps_expr (pe_fn Fcheck_signs hr pass0 (pa_cons (pv 0) pa_nil)))
      (pss_cons (ps_set (i := 2) scLiesAt.nd rfl (by first | exact Or.inl rfl | exact Or.inr rfl) (pe_lenL B.len (pv 1)))
      (pss_one (ps_ret (pe_comp ["text", "word", "many"] rfl (pi_range1 (by rfl) B.range (pa_cons (pe_op op_add (pe_op op_sub (pe_lenL B.len (pv 0)) (pv 2)) pe_int) pa_nil)) (fun _ => by exact (pif_one (pt_cmpR (op_eqLS (by exact hr)) (pe_slice sl_list (pv 0) (po_some (pv 3)) (po_some (pe_op op_add (pv 3) (pv 2)))) (pv 1) (nomark _)))) (fun _ => by exact (pv 3)))))))), ?_⟩
    refine ⟨_, rfl, b, u, rfl, hb, lu, u1, ?_⟩
    refine ⟨_, rfl, a, t, rfl, ha, lt, ?_⟩
    refine ⟨_, rfl, b, _, rfl, SqL.of hb, ?_⟩
    refine ⟨_, rfl, a, _, rfl, SqL.of ha, _, rfl, _, _, rfl, rfl, _, _, rfl, rfl, _, rfl, by rw [List.length_map, List.length_map]; omega, by rw [List.length_map, List.length_map]; omega, fun D hD cb => ?_⟩
    rw [List.length_map, List.length_map, show ((t.length : Int) - (u.length : Int) + 1).toNat = t.length + 1 - u.length by omega]
    refine comp_range (lo := 0) (n := t.length + 1 - u.length) (fun i ys H2 => ys = vInts ((List.range i).filter fun p => decide ((t.drop p).take u.length = u)) ∧ Same H H2 ∧ H2 D = some (.lst ys)) (small1000 (by omega)) ?_ ?_ ?_ ?_
    · exact ⟨rfl, Same.upd hD, upd_same⟩
    · rintro i ys H2 ⟨rfl, _⟩
      rw [vInts_len]; exact filter_len _
    · rintro i ys H2 hi ⟨rfl, s2, hD2⟩
      refine ⟨_, rfl, _, rfl, _, rfl, _, rfl, _, rfl, _, _, rfl, rfl, _, rfl, a, _, rfl, SqL.of (s2 _ _ ha), fun p1 hp1 => ?_⟩
      have s3 := s2.trans (Same.upd (o := .lst (cutV (t.map sg) (some (0 + (i : Int))) (some (0 + (i : Int) + (u.length : Int))))) hp1)
      refine ⟨_, rfl, p1, b, (t.drop i).take u.length, u, rfl, rfl, SqL.of ?_, SqL.of (s3 _ _ hb), ((lt.drop _).take _).cp, lu.cp, _, rfl, ?_⟩
      · rw [upd_same, cutV_cutL, cutL_map, cutL_both _ _ _ (by omega) (by omega), show (0 + (i : Int)).toNat = i by omega, show (0 + (i : Int) + (u.length : Int)).toNat - i = u.length by omega]
      · have hD3 := (Same.upd (o := .lst (cutV (t.map sg) (some (0 + (i : Int))) (some (0 + (i : Int) + (u.length : Int))))) hp1) _ _ hD2
        refine ite2 (fun hc => ?_) (fun hc => ?_)
        · have hc' : (t.drop i).take u.length = u := by simpa using hc
          refine ⟨_, rfl, hD3, ?_, ?_, upd_same⟩
          · rw [lies_step, if_pos hc', vInts_snoc]
          · intro b o e
            rw [upd_ne (ne_of_none e hD)]
            exact s3 b o e
        · have hc' : ¬ (t.drop i).take u.length = u := by simpa using hc
          refine ⟨?_, s3, hD3⟩
          rw [lies_step, if_neg hc', List.append_nil]
    · rintro ys H2 ⟨rfl, s2, hD2⟩
      exact k D H2 hD hD2 s2
end

end Ov

namespace Ov
open PySem L2
/-! borders and periods, as they hang together -/
def Per (t : List Nat) (p : Nat) : Prop := ∀ q, p + q < t.length → t[p + q]? = t[q]?
theorem mem_ends04 {t : List Nat} {k : Nat} : k ∈ ends t ↔ k < t.length ∧ t.take k = t.drop (t.length - k) := by
  unfold ends
  rw [List.mem_filter, List.mem_range, decide_eq_true_eq]
theorem per_take {t : List Nat} {p : Nat} (hp : p ≤ t.length) : Per t p ↔ t.take (t.length - p) = t.drop p := by
  constructor
  · intro h
    apply List.ext_getElem?
    intro q
    rw [List.getElem?_drop]
    by_cases hq : q < t.length - p
    · rw [List.getElem?_take_of_lt hq, h q (by omega)]
    · rw [List.getElem?_eq_none (by rw [List.length_take]; omega), List.getElem?_eq_none (by omega)]
  · intro h q hq
    have := congrArg (·[q]?) h
    simp only [List.getElem?_drop] at this
    rw [List.getElem?_take_of_lt (by omega)] at this
    exact this.symm
theorem mem_pers04 {t : List Nat} {p : Nat} : p ∈ pers t ↔ 1 ≤ p ∧ p ≤ t.length ∧ Per t p := by
  unfold pers
  rw [List.mem_map]
  constructor
  · rintro ⟨k, hk, rfl⟩
    obtain ⟨h1, h2⟩ := mem_ends04.mp (List.mem_reverse.mp hk)
    refine ⟨by omega, by omega, (per_take (by omega)).mpr ?_⟩
    rw [show t.length - (t.length - k) = k by omega]; exact h2
  · rintro ⟨h1, h2, h3⟩
    refine ⟨t.length - p, List.mem_reverse.mpr (mem_ends04.mpr ⟨by omega, ?_⟩), by omega⟩
    rw [show t.length - (t.length - p) = p by omega]; exact (per_take h2).mp h3
theorem per_sub {t : List Nat} {p q : Nat} (h1 : Per t p) (h2 : Per t q) (hq : q ≤ p) (hs : p + q ≤ t.length) : Per t (p - q) := by
  intro i hi
  by_cases h : q ≤ i
  · have a := h1 (i - q) (by omega)
    have b := h2 (i - q) (by omega)
    rw [show p - q + i = p + (i - q) by omega, a, ← b, show q + (i - q) = i by omega]
  · have a := h1 i (by omega)
    have b := h2 (p - q + i) (by omega)
    rw [← b, show q + (p - q + i) = p + i by omega, a]
theorem per_gcd {t : List Nat} : ∀ (n p q : Nat), p + q ≤ n → 1 ≤ p → 1 ≤ q → Per t p → Per t q → p + q ≤ t.length → Per t (Nat.gcd p q)
  | 0, p, q, h, h1, _, _, _, _ => by omega
  | n + 1, p, q, h, h1, h2, a, b, hs => by
    rcases Nat.lt_trichotomy p q with hl | he | hl
    · have c := per_sub b a (Nat.le_of_lt hl) (by omega)
      have := per_gcd n p (q - p) (by omega) h1 (by omega) a c (by omega)
      rw [Nat.gcd_sub_self_right (Nat.le_of_lt hl)] at this
      exact this
    · subst he; rw [Nat.gcd_self]; exact a
    · have c := per_sub a b (Nat.le_of_lt hl) hs
      have := per_gcd n (p - q) q (by omega) (by omega) h2 c b (by omega)
      rw [Nat.gcd_sub_self_left (Nat.le_of_lt hl)] at this
      exact this
theorem gcd_pers {t : List Nat} {p q : Nat} (hp : p ∈ pers t) (hq : q ∈ pers t) (hs : p + q ≤ t.length) : Nat.gcd p q ∈ pers t := by
  obtain ⟨p1, p2, p3⟩ := mem_pers04.mp hp
  obtain ⟨q1, q2, q3⟩ := mem_pers04.mp hq
  have := Nat.gcd_le_left q p1
  exact mem_pers04.mpr ⟨Nat.gcd_pos_of_pos_left q p1, by omega, per_gcd _ p q (Nat.le_refl _) p1 q1 p3 q3 hs⟩
/-! what renames and what turns about -/
theorem ends_congr {t u : List Nat} (hl : t.length = u.length) (h : ∀ k, k < t.length → (t.take k = t.drop (t.length - k) ↔ u.take k = u.drop (u.length - k))) : ends t = ends u := by
  unfold ends
  rw [hl]
  apply List.filter_congr
  intro k hk
  rw [List.mem_range] at hk
  have := h k (by omega)
  rw [hl] at this
  rw [Bool.eq_iff_iff, decide_eq_true_eq, decide_eq_true_eq, this]
theorem ends_rev (t : List Nat) : ends t.reverse = ends t := by
  refine ends_congr (by simp) fun k hk => ?_
  rw [List.length_reverse] at hk ⊢
  rw [List.take_reverse, List.drop_reverse, show t.length - (t.length - k) = k by omega]
  constructor
  · intro h; exact (List.reverse_inj.mp h).symm
  · intro h; rw [h]
theorem ends_map {t : List Nat} {f : Nat → Nat} (hf : ∀ a ∈ t, ∀ b ∈ t, f a = f b → a = b) : ends (t.map f) = ends t := by
  refine ends_congr (by simp) fun k hk => ?_
  rw [List.length_map, ← List.map_take, ← List.map_drop]
  constructor
  · intro h
    apply List.ext_getElem?
    intro i
    have e := congrArg (·[i]?) h
    simp only [List.getElem?_map] at e
    cases e1 : (t.take k)[i]? with
    | none => rw [e1] at e; cases e2 : (t.drop (t.length - k))[i]? with
      | none => rfl
      | some y => rw [e2] at e; cases e
    | some x => rw [e1] at e; cases e2 : (t.drop (t.length - k))[i]? with
      | none => rw [e2] at e; cases e
      | some y =>
        rw [e2] at e
        congr 1
        exact hf x (List.mem_of_mem_take (List.mem_of_getElem? e1)) y (List.mem_of_mem_drop (List.mem_of_getElem? e2)) (Option.some.inj e)
  · intro h; rw [h]
theorem pers_map {t : List Nat} {f : Nat → Nat} (hf : ∀ a ∈ t, ∀ b ∈ t, f a = f b → a = b) : pers (t.map f) = pers t := by
  unfold pers
  rw [ends_map hf, List.length_map]
/-! the longest border -/
theorem ends_zero4 {t : List Nat} (h : 1 ≤ t.length) : ∃ r, ends t = 0 :: r := by
  unfold ends
  obtain ⟨n, hn⟩ : ∃ n, t.length = n + 1 := ⟨t.length - 1, by omega⟩
  rw [hn, List.range_succ_eq_map, List.filter_cons, if_pos]
  · exact ⟨_, rfl⟩
  · rw [decide_eq_true_eq, ← hn, List.take_zero, Nat.sub_zero, List.drop_length]
theorem ends_sorted (t : List Nat) : (ends t).Pairwise (· < ·) := by
  unfold ends
  exact List.Pairwise.filter _ List.pairwise_lt_range
theorem ends_below {t : List Nat} {b : Nat} (hb : b ∈ ends t) : ends (t.take b) = (ends t).filter (fun k => decide (k < b)) := by
  obtain ⟨h1, h2⟩ := mem_ends04.mp hb
  have hl : (t.take b).length = b := by rw [List.length_take]; omega
  have e : (ends t).filter (fun k => decide (k < b)) = ((List.range t.length).filter (fun k => decide (k < b))).filter fun k => decide (t.take k = t.drop (t.length - k)) := by
    unfold ends
    rw [List.filter_filter, List.filter_filter]
    apply List.filter_congr
    intro k _
    rw [Bool.and_comm]
  have e2 : (List.range t.length).filter (fun k => decide (k < b)) = List.range b := by
    have : t.length = b + (t.length - b) := by omega
    rw [this, List.range_add, List.filter_append, List.filter_eq_self.mpr (fun a ha => decide_eq_true (List.mem_range.mp ha)), List.filter_eq_nil_iff.mpr, List.append_nil]
    intro a ha
    obtain ⟨c, _, rfl⟩ := List.mem_map.mp ha
    simp
  rw [e, e2]
  unfold ends
  rw [hl]
  apply List.filter_congr
  intro k hk
  rw [List.mem_range] at hk
  rw [Bool.eq_iff_iff, decide_eq_true_eq, decide_eq_true_eq, List.take_take, Nat.min_eq_left (by omega), h2, List.drop_drop, show t.length - b + (b - k) = t.length - k by omega]
theorem last_below : ∀ {l : List Nat} {b : Nat}, (l ++ [b]).Pairwise (· < ·) → (l ++ [b]).filter (fun k => decide (k < b)) = l := by
  intro l b h
  rw [List.pairwise_append] at h
  rw [List.filter_append, List.filter_eq_self.mpr (fun a ha => decide_eq_true (h.2.2 a ha b (by simp))), List.filter_eq_nil_iff.mpr (by simp), List.append_nil]
theorem ends_last {t l : List Nat} {b : Nat} (h : ends t = l ++ [b]) : ends (t.take b) = l := by
  rw [ends_below (by rw [h]; simp), h]
  exact last_below (by rw [← h]; exact ends_sorted t)
theorem ends_cut {t : List Nat} {b : Nat} (hb : b ∈ ends t) (h1 : 1 ≤ b) : b - 1 ∈ ends (t.take (t.length - 1)) := by
  obtain ⟨h2, h3⟩ := mem_ends04.mp hb
  refine mem_ends04.mpr ⟨by rw [List.length_take]; omega, ?_⟩
  rw [List.length_take, Nat.min_eq_left (by omega), List.take_take, Nat.min_eq_left (by omega), show t.length - 1 - (b - 1) = t.length - b by omega, List.drop_take, ← h3, List.take_take]
  congr 1
  omega
/-! where the text lies in its own double -/
theorem self_lies (t : List Nat) (h : 1 ≤ t.length) : liesIn t t = [0] := by
  unfold liesIn
  rw [show t.length + 1 - t.length = 1 by omega]
  simp
def Fr (t : List Nat) (i : Nat) : Option Nat := t[i % t.length]?
def Rot (t : List Nat) (d : Nat) : Prop := ∀ i, Fr t (d + i) = Fr t i
theorem fr_lt {t : List Nat} {i : Nat} (h : i < t.length) : Fr t i = t[i]? := by unfold Fr; rw [Nat.mod_eq_of_lt h]
theorem fr_add (t : List Nat) (i k : Nat) : Fr t (i + t.length * k) = Fr t i := by unfold Fr; rw [Nat.add_mul_mod_self_left]
theorem rot_len (t : List Nat) : Rot t t.length := fun i => by have := fr_add t i 1; rw [Nat.mul_one, Nat.add_comm] at this; exact this
theorem rot_sub {t : List Nat} {a b : Nat} (ha : Rot t a) (hb : Rot t b) (h : b ≤ a) : Rot t (a - b) := fun i => by
  have x := ha i
  have y := hb (a - b + i)
  rw [show b + (a - b + i) = a + i by omega] at y
  rw [← y, x]
theorem rot_gcd {t : List Nat} : ∀ (n a b : Nat), a + b ≤ n → 1 ≤ a → 1 ≤ b → Rot t a → Rot t b → Rot t (Nat.gcd a b)
  | 0, a, b, h, h1, _, _, _ => by omega
  | n + 1, a, b, h, h1, h2, x, y => by
    rcases Nat.lt_trichotomy a b with hl | he | hl
    · have := rot_gcd n a (b - a) (by omega) h1 (by omega) x (rot_sub y x (Nat.le_of_lt hl))
      rw [Nat.gcd_sub_self_right (Nat.le_of_lt hl)] at this
      exact this
    · subst he; rw [Nat.gcd_self]; exact x
    · have := rot_gcd n (a - b) b (by omega) (by omega) h2 (rot_sub x y (Nat.le_of_lt hl)) y
      rw [Nat.gcd_sub_self_left (Nat.le_of_lt hl)] at this
      exact this
theorem rot_mul {t : List Nat} {a : Nat} (h : Rot t a) : ∀ k, Rot t (a * k)
  | 0 => fun i => by rw [Nat.mul_zero, Nat.zero_add]
  | k + 1 => fun i => by
    have := h (a * k + i)
    rw [show a * (k + 1) + i = a + (a * k + i) by rw [Nat.mul_add]; omega, this]
    exact rot_mul h k i
theorem rot_per {t : List Nat} {p : Nat} (h : Rot t p) : Per t p := fun q hq => by
  have := h q
  rw [fr_lt hq, fr_lt (by omega)] at this
  exact this
theorem per_mul {t : List Nat} {p : Nat} (h : Per t p) : ∀ (k q : Nat), p * k + q < t.length → t[p * k + q]? = t[q]?
  | 0, q, _ => by rw [Nat.mul_zero, Nat.zero_add]
  | k + 1, q, hq => by
    have e : p * (k + 1) + q = p + (p * k + q) := by rw [Nat.mul_add]; omega
    rw [e] at hq ⊢
    rw [h _ hq]
    exact per_mul h k q (by omega)
theorem per_rot {t : List Nat} {p : Nat} (h : Per t p) (p1 : 1 ≤ p) (hd : p ∣ t.length) (n1 : 1 ≤ t.length) : Rot t p := fun i => by
  obtain ⟨m, hm⟩ := hd
  have hj : i % t.length < t.length := Nat.mod_lt _ (by omega)
  have hm1 : 1 ≤ m := by
    cases m with
    | zero => rw [Nat.mul_zero] at hm; omega
    | succ m => omega
  have hpn : p ≤ t.length := by rw [hm]; exact Nat.le_mul_of_pos_right p hm1
  have e : Fr t (p + i) = Fr t (p + i % t.length) := by
    unfold Fr
    rw [Nat.add_mod, Nat.add_mod p (i % t.length), Nat.mod_mod]
  rw [e]
  show _ = t[i % t.length]?
  generalize i % t.length = j at hj
  by_cases hl : p + j < t.length
  · rw [fr_lt hl, h j hl]
  · have e2 : Fr t (p + j) = t[p + j - t.length]? := by
      rw [← fr_lt (by omega), ← fr_add t (p + j - t.length) 1, Nat.mul_one, show p + j - t.length + t.length = p + j by omega]
    rw [e2]
    have e3 : p * (m - 1) = t.length - p := by rw [Nat.mul_sub, Nat.mul_one, ← hm]
    have := per_mul h (m - 1) (p + j - t.length) (by rw [e3]; omega)
    rw [e3, show t.length - p + (p + j - t.length) = j by omega] at this
    exact this.symm
theorem lies_rot {t : List Nat} {d : Nat} (hd : d < t.length) : ((t ++ t).drop d).take t.length = t ↔ Rot t d := by
  have get : ∀ i, i < t.length → ((t ++ t).drop d)[i]? = Fr t (d + i) := fun i hi => by
    rw [List.getElem?_drop]
    by_cases h : d + i < t.length
    · rw [List.getElem?_append_left h, fr_lt h]
    · rw [List.getElem?_append_right (by omega), ← fr_lt (by omega), ← fr_add t (d + i - t.length) 1, Nat.mul_one, show d + i - t.length + t.length = d + i by omega]
  constructor
  · intro h i
    have hj : i % t.length < t.length := Nat.mod_lt _ (by omega)
    have e := congrArg (·[i % t.length]?) h
    rw [List.getElem?_take_of_lt hj, get _ hj] at e
    show _ = t[i % t.length]?
    rw [← e]
    unfold Fr
    rw [Nat.add_mod, Nat.add_mod d (i % t.length), Nat.mod_mod]
  · intro h
    apply List.ext_getElem?
    intro i
    by_cases hi : i < t.length
    · rw [List.getElem?_take_of_lt hi, get i hi, h i, fr_lt hi]
    · rw [List.getElem?_eq_none (by rw [List.length_take]; omega), List.getElem?_eq_none (by omega)]
/-- r: the least period that divides the length -/
theorem rot_iff {t : List Nat} {r d : Nat} (n1 : 1 ≤ t.length) (hr : r ∈ pers t) (hrd : r ∣ t.length) (hl : ∀ p ∈ pers t, p ∣ t.length → r ≤ p) : Rot t d ↔ d % r = 0 := by
  obtain ⟨r1, r2, r3⟩ := mem_pers04.mp hr
  have R := per_rot r3 r1 hrd n1
  have edm := Nat.div_add_mod d r
  constructor
  · intro h
    apply Nat.eq_zero_of_not_pos
    intro hpos
    have e1 : Rot t (d % r) := by
      have := rot_sub h (rot_mul R (d / r)) (by omega)
      rw [show d - r * (d / r) = d % r by omega] at this
      exact this
    have g := rot_gcd _ (d % r) t.length (Nat.le_refl _) hpos n1 e1 (rot_len t)
    have gl := Nat.gcd_le_left t.length hpos
    have gd := Nat.gcd_dvd_right (d % r) t.length
    have hlt := Nat.mod_lt d r1
    have gp := Nat.gcd_pos_of_pos_left t.length hpos
    have := hl (Nat.gcd (d % r) t.length) (mem_pers04.mpr ⟨gp, Nat.le_of_dvd n1 gd, rot_per g⟩) gd
    omega
  · intro h
    rw [h, Nat.add_zero] at edm
    rw [← edm]
    exact rot_mul R _
theorem mults : ∀ (r m : Nat), 1 ≤ r → (List.range (r * m)).filter (fun d => decide (d % r = 0)) = (List.range m).map (fun q => q * r)
  | r, 0, _ => by simp
  | r, m + 1, h => by
    rw [Nat.mul_add, Nat.mul_one, List.range_add, List.filter_append, mults r m h, List.range_succ, List.map_append]
    congr 1
    rw [List.filter_map]
    obtain ⟨r', rfl⟩ : ∃ r', r = r' + 1 := ⟨r - 1, by omega⟩
    have : (List.range (r' + 1)).filter ((fun d => decide (d % (r' + 1) = 0)) ∘ fun x => (r' + 1) * m + x) = [0] := by
      rw [List.range_succ_eq_map, List.filter_cons, if_pos (by simp), List.filter_eq_nil_iff.mpr]
      intro x hx
      obtain ⟨y, hy, rfl⟩ := List.mem_map.mp hx
      rw [List.mem_range] at hy
      simp only [Function.comp]
      rw [Nat.mul_add_mod, Nat.mod_eq_of_lt (by omega)]
      simp
    rw [this]
    simp [Nat.mul_comm]
theorem twice_eq {t : List Nat} {r : Nat} (n1 : 1 ≤ t.length) (hr : r ∈ pers t) (hrd : r ∣ t.length) (hl : ∀ p ∈ pers t, p ∣ t.length → r ≤ p) :
    (liesIn (t ++ t) t).filter (fun d => decide (d < t.length)) = (List.range (t.length / r)).map (fun q => q * r) := by
  obtain ⟨r1, _, _⟩ := mem_pers04.mp hr
  have e0 : (t ++ t).length + 1 - t.length = t.length + 1 := by rw [List.length_append]; omega
  unfold liesIn
  rw [e0, List.range_succ, List.filter_append, List.filter_append]
  have e2 : List.filter (fun d => decide (d < t.length)) (List.filter (fun p => decide (((t ++ t).drop p).take t.length = t)) [t.length]) = [] := by
    rw [List.filter_eq_nil_iff]
    intro a ha
    have := (List.mem_filter.mp ha).1
    rw [List.mem_singleton.mp this]
    simp
  rw [e2, List.append_nil, List.filter_filter]
  obtain ⟨m, hm⟩ := hrd
  have e3 : t.length / r = m := by rw [hm, Nat.mul_div_cancel_left _ r1]
  rw [e3, ← mults r m r1, ← hm]
  apply List.filter_congr
  intro d hd
  rw [List.mem_range] at hd
  rw [Bool.eq_iff_iff, Bool.and_eq_true, decide_eq_true_eq, decide_eq_true_eq, decide_eq_true_eq, lies_rot hd, rot_iff n1 hr ⟨m, hm⟩ hl]
  exact ⟨fun h => h.2, fun h => ⟨hd, h⟩⟩

end Ov

namespace Ov
open PySem L2
abbrev sCommon : Stmt := top 21
abbrev sRenamed : Stmt := top 20
def spCommon : Sp := fun vs H Q _ => ∃ (p q : Nat), vs = [.int (p : Int), .int (q : Int)] ∧ Q (.int (Nat.gcd p q : Nat)) H
/-- each letter by its new one -/
def Ren (H : Hp) (d : Addr) (f : Nat → Nat) : Prop := ∃ kvs : List (Key × V), H d = some (.dK kvs) ∧ ∀ c, 97 ≤ c → c ≤ 122 → valV kvs (.inr (sgS c)) = some (sg (f c))
def spRen : Sp := fun vs H Q _ => ∃ p : Addr, vs = [.ref p] ∧ Hand H p ∧ ∀ (f : Nat → Nat) (d : Addr) (H' : Hp), H d = none → Ren H' d f → (∀ c, 97 ≤ c → c ≤ 122 → 97 ≤ f c ∧ f c ≤ 122) → (∀ a b, 97 ≤ a → a ≤ 122 → 97 ≤ b → b ≤ 122 → f a = f b → a = b) → Hand H' p → Keep p H H' → Q (.ref d) H'
theorem valV_at {κ : Type} [DecidableEq κ] : ∀ {kvs : List (κ × V)} {i : Nat} {k : κ} {v : V}, (kvs.map (·.1)).Nodup → kvs[i]? = some (k, v) → valV kvs k = some v
  | [], _, _, _, _, h => by simp at h
  | (k0, v0) :: r, 0, k, v, _, h => by
    have e : (k0, v0) = (k, v) := by simpa using h
    cases e
    exact valV_pos rfl
  | (k0, v0) :: r, i + 1, k, v, hn, h => by
    have h' : r[i]? = some (k, v) := by simpa using h
    rw [List.map_cons, List.nodup_cons] at hn
    rw [valV_neg (fun e => hn.1 (List.mem_map.mpr ⟨(k, v), List.mem_of_getElem? h', e.symm⟩))]
    exact valV_at hn.2 h'
def renPairs (t : List Nat) : List (Key × V) := (List.range 26).map fun i => (Sum.inr (sgS (97 + i)), sg (t.getD i 0))
theorem renPairs_nodup (t : List Nat) : ((renPairs t).map (·.1)).Nodup := by
  unfold renPairs
  rw [List.map_map]
  refine List.Pairwise.map _ (fun a b (hab : a ≠ b) => ?_) List.nodup_range
  intro e
  have e2 : sgS (97 + a) = sgS (97 + b) := Sum.inr.inj e
  have : sg (97 + a) = sg (97 + b) := congrArg V.str e2
  have := sg_inj.mp this
  omega
theorem renPairs_at (t : List Nat) {i : Nat} (hi : i < 26) : (renPairs t)[i]? = some (Sum.inr (sgS (97 + i)), sg (t.getD i 0)) := by
  unfold renPairs
  rw [List.getElem?_map, List.getElem?_range hi]; rfl
section
variable {P : Program} {w : World} {K : PySem.W.Frag} {mg : Str → Option Value} {base : Heap}
theorem scCommon : FnScope ["one", "other"] ["one", "other"] (defScope sCommon) := ⟨rfl, rfl, rfl, by decide +kernel, rfl, by decide +kernel, by decide +kernel⟩
theorem ok_common (M : Md K mg) (B : Bl mg) (F : FF K "_law_common" sCommon) : Fn P w K mg base CX0 "_law_common" 1 ["one", "other"] spCommon := by
  refine fn_ok M F scCommon (fun _ _ _ _ _ _ => us2 fun _ _ => rfl) (fun vs H Q E h => ?_) (fun f cdv A outer s H vs Q E hr h => ?_)
  · obtain ⟨p, q, rfl, _⟩ := h; rfl
  · obtain ⟨p, q, rfl, k⟩ := h
    refine ⟨_, (pss_cons (ps_while PassesOwn.never (pt_cmpR op_gt (pv 1) pe_int (nomark _)) (pss_one (ps_par (i := 0) (j := 1) rfl scCommon.nd rfl rfl (by decide) rfl rfl (pa_cons (pv 1) (pa_cons (pe_op op_mod (pv 0) (pv 1)) pa_nil)) (by rfl))))
      (pss_one (ps_ret (pv 0)))), ?_⟩
    refine ⟨fun m σ H' => H' = H ∧ ∃ a b : Nat, m = b ∧ σ = [some (.int (a : Int)), some (.int (b : Int))] ∧ Nat.gcd a b = Nat.gcd p q, ⟨q, rfl, p, q, rfl, rfl, rfl⟩, ?_⟩
    rintro m σ H' ⟨rfl, a, b, rfl, rfl, hg⟩
    refine ⟨_, rfl, _, _, rfl, rfl, _, rfl, ?_⟩
    refine ite2 (fun hc => ?_) (fun hc => ?_)
    · have hm : 0 < m := by
        have : (0 : Int) < (m : Int) := of_decide_eq_true hc
        omega
      refine ⟨fun σ' H'' => H'' = H' ∧ σ' = [some (.int (m : Int)), some (.int ((a % m : Nat) : Int))], ?_, ?_⟩
      · rintro σ' H'' ⟨rfl, rfl⟩
        refine ⟨a % m, Nat.mod_lt _ hm, rfl, m, a % m, rfl, rfl, ?_⟩
        rw [← hg, Nat.gcd_comm m, ← Nat.gcd_rec, Nat.gcd_comm]
      · refine ⟨_, rfl, _, rfl, _, rfl, _, _, rfl, rfl, (by show (0 : Int) < (m : Int); omega), _, _, rfl, rfl, ?_⟩
        show [some (V.int (m : Int)), some (V.int ((a : Int) % (m : Int)))] = _
        rw [← Int.natCast_emod]
    · have hb : m = 0 := by
        have : ¬ ((0 : Int) < (m : Int)) := fun z => hc (decide_eq_true z)
        omega
      subst hb
      rw [Nat.gcd_zero_right] at hg
      refine ⟨_, rfl, ?_⟩
      rw [hg]; exact k
theorem scRenamed : FnScope ["hand", "left"] ["hand"] (defScope sRenamed) := ⟨rfl, rfl, rfl, by decide +kernel, rfl, by decide +kernel, by decide +kernel⟩
theorem ok_renamed (M : Md K mg) (B : Bl mg) (ndict : mg "dict" = none) (F : FF K "_law_renamed" sRenamed) (F_law_take : Fn P w K mg base CX0 "_law_take" 1 ["hand", "many"] spTake) : Fn P w K mg base CX0 "_law_renamed" 2 ["hand"] spRen := by
  refine fn_ok M F scRenamed (fun _ _ _ _ _ _ => us1 fun _ => rfl) (fun vs H Q E h => ?_) (fun f cdv A outer s H vs Q E hr h => ?_)
  · obtain ⟨p, rfl, _⟩ := h; rfl
  · obtain ⟨p, rfl, hp, k⟩ := h
    refine ⟨_, (pss_cons (ps_set (i := 1) scRenamed.nd rfl (by first | exact Or.inl rfl | exact Or.inr rfl) (pe_listS rfl B.list pe_str))
      (pss_one (ps_ret (pe_dictP rfl ndict (pe_comp ["hand", "left"] rfl (pi_str pe_str) (fun _ => by exact pif_nil) (fun _ => by exact (pe_tup (pa_cons (pv 2) (pa_cons (pe_bm PySem.F.plainAttrs_list PySem.F.slot_list_pop PySem.F.type_list_pop mt_popAt (pv 1) (pa_cons (pe_fn F_law_take hr pass0 (pa_cons (pv 0) (pa_cons (pe_lenL B.len (pv 1)) pa_nil))) pa_nil)) pa_nil))))))))), ?_⟩
    have naz : az.Nodup := by decide +kernel
    refine ⟨⟨az.toArray⟩, rfl, by rw [str_len]; exact sz (by simp [az]), fun l hl => ?_⟩
    have s1 := Same.upd (o := .lst (az.map sg)) hl
    have hl1 : (L2.upd H l (.lst (az.map sg))) l = some (.lst (az.map sg)) := upd_same
    have hp1 := hp.same s1
    have nlp : l ≠ p := (hp.ne hl).symm
    have hfree : ∀ b, (L2.upd H l (.lst (az.map sg))) b = none → H b = none := fun b hb => s1.free hb
    generalize L2.upd H l (.lst (az.map sg)) = H1 at s1 hl1 hp1 hfree ⊢
    refine ⟨⟨az.toArray⟩, rfl, by decide +kernel, fun D hD cb => ?_⟩
    have nD : D ≠ p := (hp1.ne hD).symm
    have nlD : l ≠ D := ne_of_none hl1 hD
    refine comp_str (z := ⟨az.toArray⟩) (fun i ys H3 => ∃ (t left : List Nat) (ps : List Addr), ys = ps.map V.ref ∧ ps.length = i ∧ (t ++ left).Perm az ∧ t.length = i ∧ H3 l = some (.lst (left.map sg)) ∧ (∀ (j : Nat) (g : Addr), ps[j]? = some g → H1 g = none ∧ H3 g = some (.tup [sg (97 + j), sg (t.getD j 0)])) ∧ Hand H3 p ∧ (∀ b o, H1 b = some o → b ≠ p → b ≠ l → H3 b = some o) ∧ H3 D = some (.lst ys)) (small1000 (by decide)) ?_ ?_ ?_ ?_
    · refine ⟨[], az, [], rfl, rfl, List.Perm.refl _, rfl, by rw [upd_ne nlD]; exact hl1, fun j g h => by simp at h, hp1.upd (hp1.ne hD), fun b o e _ _ => by rw [upd_ne (ne_of_none e hD)]; exact e, upd_same⟩
    · rintro i ys H3 ⟨t, left, ps, rfl, h, _⟩
      simp [h]
    · rintro i c ys H3 hc ⟨t, left, ps, rfl, pl, hper, tl, hl3, hps, hp3, k3, hD3⟩
      refine tNoIf_go ?_
      have hi : i < 26 := by
        have := (Array.getElem?_eq_some_iff.mp hc).1
        simpa [az] using this
      have hci : c = 97 + i := by
        have h2 : az[i]? = some c := by simpa using hc
        unfold az at h2
        rw [List.getElem?_map, List.getElem?_range hi] at h2
        exact (Option.some.inj h2).symm
      have hlen : t.length + left.length = 26 := by have := hper.length_eq; simpa [az] using this
      refine ⟨_, rfl, _, rfl, .inl ⟨rfl, _, SqL.of hl3⟩, _, rfl, _, rfl, l, _, rfl, SqL.of hl3, p, _, rfl, hp3, by rw [List.length_map]; omega, by rw [List.length_map]; omega, fun r H4 r0 r1 hp4 k4 => ?_⟩
      rw [List.length_map] at r1
      have hl4 := k4 _ _ hl3 nlp
      have hD4 := k4 _ _ hD3 nD
      have hr : r.toNat < left.length := by omega
      have hc' : left[r.toNat]? = some left[r.toNat] := by simp [hr]
      refine ⟨l, _, r, r.toNat, sg left[r.toNat], rfl, rfl, hl4, by omega, by omega, ?_, by rw [List.getElem?_map, hc']; rfl, ?_⟩
      · rw [List.length_map]
        exact (ixN_seq (ixN_pos _ _ r0 r1)).1
      have ee : (left.map sg).eraseIdx r.toNat = (left.eraseIdx r.toNat).map sg := by
        apply List.ext_getElem?
        intro q
        rw [List.getElem?_map, List.getElem?_eraseIdx, List.getElem?_eraseIdx]
        split <;> rw [List.getElem?_map]
      rw [ee]
      have k45 : ∀ b o, H4 b = some o → b ≠ l → (L2.upd H4 l (.lst ((left.eraseIdx r.toNat).map sg))) b = some o := fun b o e n => by rw [upd_ne n]; exact e
      have hl5 := upd_same (H := H4) (a := l) (o := .lst ((left.eraseIdx r.toNat).map sg))
      have hp5 := hp4.upd (o := .lst ((left.eraseIdx r.toNat).map sg)) nlp.symm
      generalize L2.upd H4 l (.lst ((left.eraseIdx r.toNat).map sg)) = H5 at k45 hl5 hp5 ⊢
      refine ⟨by show 2 ≤ sizeLine; decide, fun g hg => ?_⟩
      have s6 := Same.upd (o := .tup [sg c, sg left[r.toNat]]) hg
      have hg6 := upd_same (H := H5) (a := g) (o := .tup [sg c, sg left[r.toNat]])
      have hg1 : H1 g = none := by
        cases e : H1 g with
        | none => rfl
        | some o =>
          by_cases n1 : g = p
          · subst n1; exact absurd rfl (hp5.ne hg)
          · by_cases n2 : g = l
            · subst n2; rw [hl5] at hg; cases hg
            · have := k45 _ _ (k4 _ _ (k3 _ _ e n1 n2) n1) n2
              rw [this] at hg; cases hg
      have hp6 := hp5.same s6
      generalize L2.upd H5 g (.tup [sg c, sg left[r.toNat]]) = H6 at s6 hg6 hp6 ⊢
      have hD6 := s6 _ _ (k45 _ _ hD4 nlD.symm)
      have ngD : g ≠ D := fun e => by subst e; rw [k45 _ _ hD4 nlD.symm] at hg; cases hg
      refine ⟨hD6, t ++ [left[r.toNat]], left.eraseIdx r.toNat, ps ++ [g], by simp, by simp [pl], ?_, by simp [tl], by rw [upd_ne nlD]; exact s6 _ _ hl5, fun j g' hj => ?_, hp6.upd nD.symm, fun b o e n1 n2 => ?_, upd_same⟩
      · have h1 : (left[r.toNat] :: left.eraseIdx r.toNat).Perm left := by
          rw [List.eraseIdx_eq_take_drop_succ]
          have q := List.perm_middle (a := left[r.toNat]) (l₁ := left.take r.toNat) (l₂ := left.drop (r.toNat + 1))
          rw [← List.drop_eq_getElem_cons hr, List.take_append_drop] at q
          exact q.symm
        have h2 : ((t ++ [left[r.toNat]]) ++ left.eraseIdx r.toNat).Perm (t ++ left) := by
          rw [List.append_assoc]
          exact List.Perm.append_left t h1
        exact h2.trans hper
      · by_cases hjl : j < ps.length
        · rw [List.getElem?_append_left hjl] at hj
          obtain ⟨a1, a2⟩ := hps j g' hj
          have n1 : g' ≠ p := (hp1.ne a1).symm
          have n2 : g' ≠ l := fun e => by subst e; rw [hl1] at a1; cases a1
          have n3 : g' ≠ D := fun e => by subst e; rw [hD3] at a2; cases a2
          refine ⟨a1, ?_⟩
          rw [upd_ne n3, s6 _ _ (k45 _ _ (k4 _ _ a2 n1) n2), List.getD_eq_getElem?_getD, List.getD_eq_getElem?_getD, List.getElem?_append_left (by omega)]
        · rw [List.getElem?_append_right (by omega)] at hj
          have hj0 : j - ps.length = 0 := by
            have := (List.getElem?_eq_some_iff.mp hj).1
            simp at this; omega
          rw [hj0] at hj
          obtain rfl : g = g' := by simpa using hj
          have ej : j = i := by omega
          subst ej
          refine ⟨hg1, ?_⟩
          rw [upd_ne ngD, hg6, hci]
          congr 3
          rw [List.getD_eq_getElem?_getD, List.getElem?_append_right (by omega), show j - t.length = 0 by omega]
          rfl
      · rw [upd_ne (ne_of_none e hD)]
        exact s6 _ _ (k45 _ _ (k4 _ _ (k3 b o e n1 n2) n1) n2)
    · rintro ys H3 ⟨t, left, ps, rfl, pl, hper, tl, hl3, hps, hp3, k3, hD3⟩
      have e26 : (az.toArray).size = 26 := by simp [az]
      have pl' : ps.length = 26 := pl.trans e26
      have tl' : t.length = 26 := tl.trans e26
      have hlen : t.length + left.length = 26 := by have := hper.length_eq; simpa [az] using this
      have lnil : left = [] := List.length_eq_zero_iff.mp (by omega)
      subst lnil
      rw [List.append_nil] at hper
      refine ⟨D, ps, renPairs t, rfl, hD3, by rw [pl']; simp [renPairs], fun i g kv hi hkv => ?_, renPairs_nodup t, by simp [renPairs], fun d hd => ?_⟩
      · have hi' : i < 26 := by have := (List.getElem?_eq_some_iff.mp hi).1; omega
        rw [renPairs_at t hi'] at hkv
        cases Option.some.inj hkv
        exact (hps i g hi).2
      · have hdH : H d = none := by
          cases e : H d with
          | none => rfl
          | some o =>
            have e1 := s1 _ _ e
            by_cases n1 : d = p
            · subst n1; exact absurd rfl (hp3.ne hd)
            · have n2 : d ≠ l := fun z => by subst z; rw [hl] at e; cases e
              have := k3 _ _ e1 n1 n2
              rw [this] at hd; cases hd
        have tn : t.Nodup := hper.nodup_iff.mpr naz
        have gt : ∀ c, 97 ≤ c → c ≤ 122 → t[c - 97]? = some (t.getD (c - 97) 0) := fun c h1 h2 => by
          rw [List.getD_eq_getElem?_getD, List.getElem?_eq_getElem (by omega)]; rfl
        refine k (fun c => t.getD (c - 97) 0) d _ hdH ⟨renPairs t, upd_same, fun c h1 h2 => ?_⟩ (fun c h1 h2 => az_mem (hper.mem_iff.mp (List.mem_of_getElem? (gt c h1 h2)))) (fun a b a1 a2 b1 b2 e => ?_) (hp3.upd (hp3.ne hd)) fun b o e n1 => ?_
        · have := renPairs_at t (i := c - 97) (by omega)
          rw [show 97 + (c - 97) = c by omega] at this
          exact valV_at (renPairs_nodup t) this
        · have ga := gt a a1 a2
          have gb := gt b b1 b2
          have e' : t.getD (a - 97) 0 = t.getD (b - 97) 0 := e
          rw [← e'] at gb
          have := (List.getElem?_inj (by omega) tn).mp (ga.trans gb.symm)
          omega
        · have n2 : b ≠ l := fun z => by subst z; rw [hl] at e; cases e
          have n3 := k3 _ _ (s1 _ _ e) n1 n2
          rw [upd_ne (ne_of_none n3 hd)]; exact n3
end

end Ov

namespace Ov
open PySem L2
theorem nm_int {k : Nat} {v : V} {j : Int} {σ : St} {H : Hp} {R : St → Hp → Prop} (e : v = .int j) (h : gName k (.int j) σ H R) : gName k v σ H R := by rw [e]; exact h
theorem sIx_m1 (n d : Nat) : HT.sIx n d (some (-1)) = n - 1 := by
  show (if (-1 : Int) < 0 then ((-1 : Int) + (n : Int)).toNat else min (-1 : Int).toNat n) = n - 1
  rw [if_pos (by decide)]; omega
theorem cut_but (xs : List V) : cutV xs none (some (-1)) = xs.take (xs.length - 1) := by
  unfold cutV
  rw [sIx_m1, HT.sIx_none, List.drop_zero, Nat.sub_zero]
theorem cut_last (xs : List V) : cutV xs (some (-1)) none = xs.drop (xs.length - 1) := by
  unfold cutV
  rw [sIx_m1, HT.sIx_none]
  exact List.take_of_length_le (by rw [List.length_drop]; omega)
theorem cut_hi4 {t : List Nat} {n : Int} (h : 0 ≤ n) : cutV (t.map sg) none (some n) = (t.take n.toNat).map sg := by rw [cutV_cutL, cutL_map, cutL_hi _ _ h]
theorem vInts_at4 {S : List Nat} {i : Nat} {x : V} (h : (vInts S)[i]? = some x) : ∃ o, S[i]? = some o ∧ x = V.int (o : Int) := by
  unfold vInts at h
  rw [List.map_map, List.getElem?_map] at h
  cases q : S[i]? with
  | none => rw [q] at h; cases h
  | some k => rw [q] at h; exact ⟨k, rfl, (Option.some.inj h).symm⟩
theorem pers_len (t : List Nat) : (pers t).length = (ends t).length := by unfold pers; rw [List.length_map, List.length_reverse]
theorem ends_snoc {t : List Nat} (h : 1 ≤ t.length) : ∃ l b, ends t = l ++ [b] := by
  obtain ⟨r, hr⟩ := ends_zero4 h
  exact ⟨(ends t).dropLast, (ends t).getLast (by rw [hr]; simp), (List.dropLast_concat_getLast _).symm⟩
/-- found[:1] + told[-1:], [0, size][:2 * int(size > 0)] -/
theorem heads (t : List Nat) : ∃ ns : List Int, cutV (vInts (ends t)) none (some 1) ++ cutV (vInts (pers t)) (some (-1)) none = ns.map V.int ∧ cutV [V.int 0, V.int (t.length : Int)] none (some (2 * if decide ((0 : Int) < (t.length : Int)) then 1 else 0)) = ns.map V.int ∧ ns.length ≤ 2 := by
  rw [cut_last, cutV_cutL, cutL_hi _ _ (by decide)]
  by_cases h : 1 ≤ t.length
  · obtain ⟨r, hr⟩ := ends_zero4 h
    refine ⟨[0, (t.length : Int)], ?_, ?_, by simp⟩
    · have e : pers t = (r.reverse.map (t.length - ·)) ++ [t.length] := by
        unfold pers
        rw [hr, List.reverse_cons, List.map_append]; rfl
      rw [e, hr, vInts_app, List.drop_append_of_le_length (by simp [vInts])]
      simp [vInts]
    · rw [decide_eq_true (show (0 : Int) < (t.length : Int) by omega), if_pos rfl, cutV_cutL, cutL_hi _ _ (by decide)]
      rfl
  · have h0 : t = [] := List.length_eq_zero_iff.mp (by omega)
    subst h0
    exact ⟨[], rfl, rfl, by simp⟩
section
variable {K : PySem.W.Frag} {σ : St} {H : Hp} {t : List Nat} {a f1 f2 : Addr} {Q : Bool → Hp → Prop}
theorem told_test (hσ : σ.length = 12) (h2 : σ[2]? = some (some (.ref f1))) (h3 : σ[3]? = some (some (.ref f2))) (h4 : σ[4]? = some (some (.int (t.length : Int)))) (tl : t.length ≤ 100) (hf : H f1 = some (.lst (vInts (ends t)))) (hg : H f2 = some (.lst (vInts (pers t))))
    (k : ∀ H', Same H H' → Q false H') : tTest (tOp (rEqI K true) (tVar 3) (tComp (iList K (tRev K (tVar 2))) (fun _ => tNoIf) fun _ => tOp (rI0 fun i j => .int (i - j)) (tVar 4) (tVar 12))) σ H Q := by
  refine ⟨_, h3, _, h2, f1, _, rfl, SqL.of hf, fun q hq => ?_⟩
  have el := ends_len t
  have er : (vInts (ends t)).reverse = vInts (ends t).reverse := by unfold vInts; rw [List.map_reverse, List.map_reverse]
  rw [er]
  have s1 := Same.upd (o := .lst (vInts (ends t).reverse)) hq
  have hq1 := upd_same (H := H) (a := q) (o := .lst (vInts (ends t).reverse))
  generalize L2.upd H q (.lst (vInts (ends t).reverse)) = H1 at s1 hq1 ⊢
  refine ⟨q, rfl, ⟨_, SqL.of hq1⟩, fun D hD cb => ?_⟩
  refine comp_list (K := K) (a := q) (xs := vInts (ends t).reverse) (fun i ys H3 => ys = vInts (((ends t).reverse.take i).map (t.length - ·)) ∧ Same H1 H3 ∧ H3 D = some (.lst ys)) (by rw [vInts_len, List.length_reverse]; exact small1000 (by omega)) ?_ ?_ ?_ ?_ ?_
  · exact ⟨by simp [vInts], Same.upd hD, upd_same⟩
  · rintro i ys H3 ⟨rfl, _⟩
    rw [vInts_len, List.length_map, List.length_take]; omega
  · rintro i ys H3 _ ⟨_, s5, _⟩; exact SqL.of (s5 _ _ hq1)
  · rintro i x ys H3 hx ⟨rfl, s5, hD3⟩
    obtain ⟨o, ho, rfl⟩ := vInts_at4 hx
    have ol := ends_lt (List.mem_reverse.mp (List.mem_of_getElem? ho))
    have e12 : (σ ++ [some (V.int (o : Int))])[12]? = some (some (.int (o : Int))) := by rw [← hσ, List.getElem?_append_right (Nat.le_refl _)]; simp
    have e4 : (σ ++ [some (V.int (o : Int))])[4]? = some (some (.int (t.length : Int))) := by rw [List.getElem?_append_left (by omega)]; exact h4
    refine tNoIf_go ⟨_, e4, _, e12, _, _, rfl, rfl, hD3, ?_, fun e o' z => by rw [upd_ne (ne_of_none z hD)]; exact s5 _ _ z, upd_same⟩
    rw [List.take_add_one, ho, List.map_append]
    show vInts _ ++ [V.int ((t.length : Int) - (o : Int))] = vInts (_ ++ [t.length - o])
    rw [vInts_snoc', Int.ofNat_sub (Nat.le_of_lt ol)]
  · rintro ys H3 ⟨rfl, s5, hD3⟩
    rw [vInts_len, List.take_of_length_le (Nat.le_refl _)] at hD3
    refine ⟨f2, D, _, _, rfl, rfl, SqL.of ((s1.trans s5) _ _ hg), SqL.of hD3, false, ?_, k _ (s1.trans s5)⟩
    have : pers t = (ends t).reverse.map (t.length - ·) := rfl
    rw [this]; simp
theorem heads_test (h2 : σ[2]? = some (some (.ref f1))) (h3 : σ[3]? = some (some (.ref f2))) (h4 : σ[4]? = some (some (.int (t.length : Int)))) (tl : t.length ≤ 100) (hf : H f1 = some (.lst (vInts (ends t)))) (hg : H f2 = some (.lst (vInts (pers t))))
    (k : ∀ H', Same H H' → Q false H') : tTest (tOp (rEqI K true) (tOp rCat (tSl (rSlL K) (tVar 2) tNoPart (tPart (tC (.int 1)))) (tSl (rSlL K) (tVar 3) (tPart (tUn (rU fun i => .int (-i)) (tC (.int 1)))) tNoPart)) (tSl (rSlL K) (tLst (tCons (tC (.int 0)) (tCons (tVar 4) tNil))) tNoPart (tPart (tOp (rI CMul fun i j => .int (i * j)) (tC (.int 2)) (tIntB (tOp (rI0 fun i j => .bl (decide (j < i))) (tVar 4) (tC (.int 0)))))))) σ H Q := by
  obtain ⟨ns, e1, e2, nl⟩ := heads t
  refine ⟨_, h2, 1, rfl, f1, _, rfl, SqL.of hf, fun q1 hq1 => ?_⟩
  have s1 := Same.upd (o := .lst (cutV (vInts (ends t)) none (some 1))) hq1
  have a1 := upd_same (H := H) (a := q1) (o := .lst (cutV (vInts (ends t)) none (some 1)))
  generalize L2.upd H q1 (.lst (cutV (vInts (ends t)) none (some 1))) = H1 at s1 a1 ⊢
  refine ⟨_, h3, 1, rfl, -1, rfl, f2, _, rfl, SqL.of (s1 _ _ hg), fun q2 hq2 => ?_⟩
  have s2 := Same.upd (o := .lst (cutV (vInts (pers t)) (some (-1)) none)) hq2
  have a2 := upd_same (H := H1) (a := q2) (o := .lst (cutV (vInts (pers t)) (some (-1)) none))
  have a1' := s2 _ _ a1
  generalize L2.upd H1 q2 (.lst (cutV (vInts (pers t)) (some (-1)) none)) = H2 at s2 a2 a1' ⊢
  refine ⟨q1, q2, _, _, rfl, rfl, a1', a2, ?_, fun q3 hq3 => ?_⟩
  · have := congrArg List.length e1
    rw [List.length_append, List.length_map] at this
    rw [this]; exact sz (by omega)
  rw [e1]
  have s3 := Same.upd (o := .lst (ns.map V.int)) hq3
  have a3 := upd_same (H := H2) (a := q3) (o := .lst (ns.map V.int))
  generalize L2.upd H2 q3 (.lst (ns.map V.int)) = H3 at s3 a3 ⊢
  refine ⟨_, h4, by show 2 ≤ sizeLine; decide, fun q4 hq4 => ?_⟩
  have s4 := Same.upd (o := .lst [V.int 0, V.int (t.length : Int)]) hq4
  have a4 := upd_same (H := H3) (a := q4) (o := .lst [V.int 0, V.int (t.length : Int)])
  have a3' := s4 _ _ a3
  generalize L2.upd H3 q4 (.lst [V.int 0, V.int (t.length : Int)]) = H4 at s4 a4 a3' ⊢
  refine ⟨_, h4, _, _, rfl, rfl, _, rfl, _, _, rfl, rfl, .inl ⟨by decide, by decide⟩, _, rfl, q4, _, rfl, SqL.of a4, fun q5 hq5 => ?_⟩
  rw [e2]
  have s5 := Same.upd (o := .lst (ns.map V.int)) hq5
  refine ⟨q3, q5, ns, ns, rfl, rfl, SqL.of (s5 _ _ a3'), SqL.of upd_same, false, by simp, k _ ((((s1.trans s2).trans s3).trans s4).trans s5)⟩
/-- size > 0 and found[-1] > 0 and borders(text[:found[-1]]) != found[:-1] -/
theorem longest_test (h1 : σ[1]? = some (some (.ref a))) (h2 : σ[2]? = some (some (.ref f1))) (h4 : σ[4]? = some (some (.int (t.length : Int)))) (tl : t.length ≤ 100) (lt : Low t) (ha : H a = some (.lst (t.map sg))) (hf : H f1 = some (.lst (vInts (ends t))))
    (k : ∀ H', Same H H' → Q false H') : tAnd (tTest (tOp (rI0 fun i j => .bl (decide (j < i))) (tVar 4) (tC (.int 0)))) (tAnd (tTest (tOp (rI0 fun i j => .bl (decide (j < i))) (tOp (rIxL K) (tVar 2) (tUn (rU fun i => .int (-i)) (tC (.int 1)))) (tC (.int 0))))
      (tTest (tOp (rEqI K true) (tCall spEnds [] E0 (tCons (tSl (rSlL K) (tVar 1) tNoPart (tPart (tOp (rIxL K) (tVar 2) (tUn (rU fun i => .int (-i)) (tC (.int 1)))))) tNil)) (tSl (rSlL K) (tVar 2) tNoPart (tPart (tUn (rU fun i => .int (-i)) (tC (.int 1)))))))) σ H Q := by
  refine ⟨_, h4, _, _, rfl, rfl, _, rfl, ?_⟩
  by_cases h : 1 ≤ t.length
  · rw [decide_eq_true (show (0 : Int) < (t.length : Int) by omega)]
    obtain ⟨l, b, hlb⟩ := ends_snoc h
    have hat : atI (vInts (ends t)) (-1) = some (.int (b : Int)) := by rw [hlb, vInts_snoc', atI_last]
    have hb : b ∈ ends t := by rw [hlb]; simp
    have bl := ends_lt hb
    refine iteT ⟨_, h2, 1, rfl, f1, _, -1, _, rfl, rfl, SqL.of hf, hat, _, _, rfl, rfl, _, rfl, ?_⟩
    by_cases hb0 : 0 < b
    · rw [decide_eq_true (show (0 : Int) < (b : Int) by omega)]
      refine iteT ⟨_, h1, _, h2, 1, rfl, f1, _, -1, _, rfl, rfl, SqL.of hf, hat, (b : Int), rfl, a, _, rfl, SqL.of ha, fun q hq => ?_⟩
      rw [cut_hi4 (Int.natCast_nonneg b), Int.toNat_natCast]
      have s1 := Same.upd (o := .lst ((t.take b).map sg)) hq
      refine ⟨q, t.take b, rfl, upd_same, lt.take _, by rw [List.length_take]; omega, fun r H2 hr0 hr2 s2 => ?_⟩
      have s12 := s1.trans s2
      rw [ends_last hlb] at hr2
      refine ⟨_, h2, 1, rfl, -1, rfl, f1, _, rfl, SqL.of (s12 _ _ hf), fun q2 hq2 => ?_⟩
      have e : cutV (vInts (ends t)) none (some (-1)) = vInts l := by
        rw [cut_but, hlb, vInts_snoc', List.length_append, List.length_singleton, Nat.add_sub_cancel, List.take_left]
      rw [e]
      have s3 := Same.upd (o := .lst (vInts l)) hq2
      exact ⟨r, q2, _, _, rfl, rfl, SqL.of (s3 _ _ hr2), SqL.of upd_same, false, by simp, k _ (s12.trans s3)⟩
    · rw [decide_eq_false (show ¬ (0 : Int) < (b : Int) by omega)]
      exact iteF (k H (Same.refl _))
  · rw [decide_eq_false (show ¬ (0 : Int) < (t.length : Int) by omega)]
    exact iteF (k H (Same.refl _))
/-- borders(text[::-1]) != found or periods(the text renamed) != told -/
theorem names_test {d : Addr} {f : Nat → Nat} (hσ : σ.length = 12) (h1 : σ[1]? = some (some (.ref a))) (h2 : σ[2]? = some (some (.ref f1))) (h3 : σ[3]? = some (some (.ref f2))) (h7 : σ[7]? = some (some (.ref d))) (tl : t.length ≤ 100) (lt : Low t) (ha : H a = some (.lst (t.map sg))) (hf : H f1 = some (.lst (vInts (ends t)))) (hg : H f2 = some (.lst (vInts (pers t))))
    (hd : Ren H d f) (fl : ∀ c, 97 ≤ c → c ≤ 122 → 97 ≤ f c ∧ f c ≤ 122) (fi : ∀ a b, 97 ≤ a → a ≤ 122 → 97 ≤ b → b ≤ 122 → f a = f b → a = b) (k : ∀ H', Same H H' → Q false H') :
    tOr (tTest (tOp (rEqI K true) (tCall spEnds [] E0 (tCons (tRev K (tVar 1)) tNil)) (tVar 2))) (tTest (tOp (rEqI K true) (tCall spPeriods [] E0 (tCons (tComp (iList K (tVar 1)) (fun _ => tNoIf) (fun _ => tDGet (tVar 7) (tVar 12))) tNil)) (tVar 3))) σ H Q := by
  refine ⟨_, h1, a, _, rfl, SqL.of ha, fun q hq => ?_⟩
  have er : (t.map sg).reverse = t.reverse.map sg := by rw [List.map_reverse]
  rw [er]
  have s1 := Same.upd (o := .lst (t.reverse.map sg)) hq
  refine ⟨q, t.reverse, rfl, upd_same, fun c hc => lt c (List.mem_reverse.mp hc), by rw [List.length_reverse]; omega, fun r H2 hr0 hr2 s2 => ?_⟩
  have s12 := s1.trans s2
  rw [ends_rev] at hr2
  refine ⟨_, h2, r, f1, _, _, rfl, rfl, SqL.of hr2, SqL.of (s12 _ _ hf), false, by simp, iteF ?_⟩
  obtain ⟨kvs, hk, hv⟩ := hd
  have hk2 := s12 _ _ hk
  refine ⟨_, h1, a, rfl, ⟨_, SqL.of (s12 _ _ ha)⟩, fun D hD cb => ?_⟩
  refine comp_list (K := K) (a := a) (xs := t.map sg) (fun i ys H3 => ys = ((t.take i).map f).map sg ∧ Same H2 H3 ∧ H3 D = some (.lst ys)) (by rw [List.length_map]; exact small1000 (by omega)) ?_ ?_ ?_ ?_ ?_
  · exact ⟨rfl, Same.upd hD, upd_same⟩
  · rintro i ys H3 ⟨rfl, _⟩
    rw [List.length_map, List.length_map, List.length_take]; omega
  · rintro i ys H3 _ ⟨_, s5, _⟩; exact SqL.of ((s12.trans s5) _ _ ha)
  · rintro i x ys H3 hx ⟨rfl, s5, hD3⟩
    rw [List.getElem?_map] at hx
    cases e : t[i]? with
    | none => rw [e] at hx; cases hx
    | some c =>
      rw [e] at hx
      obtain rfl : sg c = x := Option.some.inj hx
      have hc := lt c (List.mem_of_getElem? e)
      have e12 : (σ ++ [some (sg c)])[12]? = some (some (sg c)) := by rw [← hσ, List.getElem?_append_right (Nat.le_refl _)]; simp
      have e7 : (σ ++ [some (sg c)])[7]? = some (some (.ref d)) := by rw [List.getElem?_append_left (by omega)]; exact h7
      have hget : DGet H3 d (sg c) (some (sg (f c))) := by
        have := DGet.k (k := .inr (sgS c)) (s5 _ _ hk2)
        rw [hv c hc.1 hc.2] at this
        exact this
      refine tNoIf_go ⟨_, e7, _, e12, d, _, rfl, hget, hD3, ?_, fun e o' z => by rw [upd_ne (ne_of_none z hD)]; exact s5 _ _ z, upd_same⟩
      rw [List.take_add_one, e, List.map_append, List.map_append]; rfl
  · rintro ys H3 ⟨rfl, s5, hD3⟩
    rw [List.length_map, List.take_length] at hD3
    refine ⟨D, t.map f, rfl, hD3, fun c hc => ?_, by rw [List.length_map]; omega, fun r2 H4 hr20 hr24 s4 => ?_⟩
    · obtain ⟨c', hc', rfl⟩ := List.mem_map.mp hc
      exact fl c' (lt c' hc').1 (lt c' hc').2
    rw [pers_map fun x hx y hy => fi x y (lt x hx).1 (lt x hx).2 (lt y hy).1 (lt y hy).2] at hr24
    have s14 := (s12.trans s5).trans s4
    exact ⟨_, h3, r2, f2, _, _, rfl, rfl, SqL.of hr24, SqL.of (s14 _ _ hg), false, by simp, k _ s14⟩
end

end Ov

namespace Ov
open PySem L2
abbrev sRight : Stmt := top 22
def spRight : Sp := fun vs H Q _ => ∃ (p a : Addr) (t : List Nat), vs = [.ref p, .ref a] ∧ Hand H p ∧ H a = some (.lst (t.map sg)) ∧ Low t ∧ t.length ≤ 100 ∧ ∀ H', Hand H' p → Keep p H H' → Q (.bl true) H'
theorem inV_ints4 (S : List Nat) (d : Int) : inV (.int d) (vInts S) = decide (d ∈ S.map fun (s : Nat) => (s : Int)) := by
  unfold inV vInts
  rw [List.map_map, Bool.eq_iff_iff, List.any_eq_true, decide_eq_true_eq, List.mem_map]
  constructor
  · rintro ⟨v, hv, h⟩
    obtain ⟨x, hx, rfl⟩ := List.mem_map.mp hv
    have h : decide ((x : Int) = d) = true := h
    exact ⟨x, hx, of_decide_eq_true h⟩
  · rintro ⟨x, hx, rfl⟩
    exact ⟨.int (x : Int), List.mem_map.mpr ⟨x, hx, rfl⟩, show decide ((x : Int) = (x : Int)) = true from decide_eq_true rfl⟩
theorem inV_nat {S : List Nat} {d : Nat} (h : d ∈ S) : inV (.int (d : Int)) (vInts S) = true := by
  rw [inV_ints4, decide_eq_true_eq]
  exact List.mem_map.mpr ⟨d, h, rfl⟩
theorem flat_ints (S : List Nat) : (vInts S).all flatV = true := by
  rw [List.all_eq_true]
  intro x hx
  obtain ⟨i, e⟩ := List.mem_iff_getElem?.mp hx
  obtain ⟨o, _, rfl⟩ := vInts_at4 e
  rfl
theorem lies_first {t : List Nat} {b : Nat} (hb : b ∈ ends t) : ∃ r, liesIn t (t.take b) = 0 :: r := by
  obtain ⟨h1, h2⟩ := mem_ends04.mp hb
  have bl : (t.take b).length = b := by rw [List.length_take]; omega
  unfold liesIn
  rw [bl, show t.length + 1 - b = (t.length - b) + 1 by omega, List.range_succ_eq_map, List.filter_cons, if_pos (by rw [decide_eq_true_eq, List.drop_zero])]
  exact ⟨_, rfl⟩
theorem lies_end {t : List Nat} {b : Nat} (hb : b ∈ ends t) : ∃ l, liesIn t (t.take b) = l ++ [t.length - b] := by
  obtain ⟨h1, h2⟩ := mem_ends04.mp hb
  have bl : (t.take b).length = b := by rw [List.length_take]; omega
  unfold liesIn
  rw [bl, show t.length + 1 - b = (t.length - b) + 1 by omega, List.range_succ, List.filter_append, List.filter_cons, if_pos (by rw [decide_eq_true_eq, ← h2, List.take_take, Nat.min_self])]
  exact ⟨_, rfl⟩
theorem iteC4 {c : Bool} {A B : Prop} (hc : c = true) (h : A) : if c = true then A else B := by subst hc; exact h
theorem iteD4 {c : Bool} {A B : Prop} (hc : c = false) (h : B) : if c = true then A else B := by subst hc; exact h
section
variable {K : PySem.W.Frag} {σ : St} {H : Hp} {t : List Nat} {a f1 f2 : Addr}
/-- twice = [place for place in lies_at(text + text, text) if place < size] -/
theorem set_twice {rest : TS} {D : Ends} (hσ : σ.length = 12) (h1 : σ[1]? = some (some (.ref a))) (h4 : σ[4]? = some (some (.int (t.length : Int)))) (tl : t.length ≤ 100) (t1 : 1 ≤ t.length) (lt : Low t) (ha : H a = some (.lst (t.map sg)))
    (k : ∀ q H', H q = none → H' q = some (.lst (vInts ((liesIn (t ++ t) t).filter fun d => decide (d < t.length)))) → Same H H' → rest D (σ.set 10 (some (.ref q))) H') :
    tSeq (tAsg (tComp (iList K (tCall spLies [] E0 (tCons (tOp rCat (tVar 1) (tVar 1)) (tCons (tVar 1) tNil)))) (fun _ => tTest (tOp (rI0 fun i j => .bl (decide (i < j))) (tVar 12) (tVar 4))) (fun _ => tVar 12)) (gName 10)) rest D σ H := by
  refine seq_asg ⟨_, h1, _, h1, a, a, _, _, rfl, rfl, ha, ha, by rw [List.length_map]; exact sz (by omega), fun q hq => ?_⟩
  rw [← List.map_append]
  have s1 := Same.upd (o := .lst ((t ++ t).map sg)) hq
  have hq1 := upd_same (H := H) (a := q) (o := .lst ((t ++ t).map sg))
  generalize L2.upd H q (.lst ((t ++ t).map sg)) = H1 at s1 hq1 ⊢
  refine ⟨_, h1, q, a, t ++ t, t, rfl, hq1, s1 _ _ ha, fun c hc => (List.mem_append.mp hc).elim (lt c) (lt c), lt, by rw [List.length_append]; omega, by omega, t1, fun r H2 hr0 hr2 s2 => ?_⟩
  have s12 := s1.trans s2
  have ll : (liesIn (t ++ t) t).length ≤ 101 := by
    unfold liesIn
    have := filter_len (i := (t ++ t).length + 1 - t.length) fun p => decide (((t ++ t).drop p).take t.length = t)
    rw [List.length_append] at this ⊢
    omega
  refine ⟨r, rfl, ⟨_, SqL.of hr2⟩, fun D' hD cb => ?_⟩
  refine comp_list (K := K) (a := r) (xs := vInts (liesIn (t ++ t) t)) (fun i ys H3 => ys = vInts (((liesIn (t ++ t) t).take i).filter fun d => decide (d < t.length)) ∧ Same H2 H3 ∧ H3 D' = some (.lst ys)) (by rw [vInts_len]; exact small1000 (by omega)) ?_ ?_ ?_ ?_ ?_
  · exact ⟨rfl, Same.upd hD, upd_same⟩
  · rintro i ys H3 ⟨rfl, _⟩
    rw [vInts_len]
    exact Nat.le_trans (List.length_filter_le _ _) (by rw [List.length_take]; omega)
  · rintro i ys H3 _ ⟨_, s5, _⟩; exact SqL.of (s5 _ _ hr2)
  · rintro i x ys H3 hx ⟨rfl, s5, hD3⟩
    obtain ⟨o, ho, rfl⟩ := vInts_at4 hx
    have e12 : (σ ++ [some (V.int (o : Int))])[12]? = some (some (.int (o : Int))) := by rw [← hσ, List.getElem?_append_right (Nat.le_refl _)]; simp
    have e4 : (σ ++ [some (V.int (o : Int))])[4]? = some (some (.int (t.length : Int))) := by rw [List.getElem?_append_left (by omega)]; exact h4
    refine ⟨_, e12, _, e4, _, _, rfl, rfl, _, rfl, ?_⟩
    have stp : ((liesIn (t ++ t) t).take (i + 1)).filter (fun d => decide (d < t.length)) = ((liesIn (t ++ t) t).take i).filter (fun d => decide (d < t.length)) ++ (if o < t.length then [o] else []) := by
      rw [List.take_add_one, ho, List.filter_append]
      by_cases h : o < t.length <;> simp [h]
    by_cases h1 : o < t.length
    · rw [decide_eq_true (show ((o : Int) < (t.length : Int)) by omega)]
      refine iteT ⟨_, e12, hD3, ?_, fun e o' z => by rw [upd_ne (ne_of_none z hD)]; exact s5 _ _ z, upd_same⟩
      rw [stp, if_pos h1, vInts_snoc']
    · rw [decide_eq_false (show ¬ ((o : Int) < (t.length : Int)) by omega)]
      refine iteF ⟨?_, s5, hD3⟩
      rw [stp, if_neg h1, List.append_nil]
  · rintro ys H3 ⟨rfl, s5, hD3⟩
    rw [vInts_len, List.take_length] at hD3
    exact k D' H3 (s12.free hD) hD3 (s12.trans s5)
/-- least = min([one for one in told if size % one == 0]) -/
theorem set_least {rest : TS} {D : Ends} (hσ : σ.length = 12) (h3 : σ[3]? = some (some (.ref f2))) (h4 : σ[4]? = some (some (.int (t.length : Int)))) (tl : t.length ≤ 100) (t1 : 1 ≤ t.length) (hg : H f2 = some (.lst (vInts (pers t))))
    (k : ∀ (r : Nat) H', r ∈ pers t → r ∣ t.length → (∀ p ∈ pers t, p ∣ t.length → r ≤ p) → Same H H' → rest D (σ.set 11 (some (.int (r : Int)))) H') :
    tSeq (tAsg (tMinL (tComp (iList K (tVar 3)) (fun _ => tTest (tOp rEq (tOp (rI (fun _ j => 0 < j) fun i j => .int (i % j)) (tVar 4) (tVar 12)) (tC (.int 0)))) (fun _ => tVar 12))) (gName 11)) rest D σ H := by
  refine seq_asg ⟨_, h3, f2, rfl, ⟨_, SqL.of hg⟩, fun D' hD cb => ?_⟩
  have pl : (pers t).length ≤ 100 := by rw [pers_len]; have := ends_len t; omega
  refine comp_list (K := K) (a := f2) (xs := vInts (pers t)) (fun i ys H3 => ys = vInts (((pers t).take i).filter fun d => decide (t.length % d = 0)) ∧ Same H H3 ∧ H3 D' = some (.lst ys)) (by rw [vInts_len]; exact small1000 (by omega)) ?_ ?_ ?_ ?_ ?_
  · exact ⟨rfl, Same.upd hD, upd_same⟩
  · rintro i ys H3 ⟨rfl, _⟩
    rw [vInts_len]
    exact Nat.le_trans (List.length_filter_le _ _) (by rw [List.length_take]; omega)
  · rintro i ys H3 _ ⟨_, s5, _⟩; exact SqL.of (s5 _ _ hg)
  · rintro i x ys H3 hx ⟨rfl, s5, hD3⟩
    obtain ⟨o, ho, rfl⟩ := vInts_at4 hx
    obtain ⟨o1, o2, _⟩ := mem_pers04.mp (List.mem_of_getElem? ho)
    have e12 : (σ ++ [some (V.int (o : Int))])[12]? = some (some (.int (o : Int))) := by rw [← hσ, List.getElem?_append_right (Nat.le_refl _)]; simp
    have e4 : (σ ++ [some (V.int (o : Int))])[4]? = some (some (.int (t.length : Int))) := by rw [List.getElem?_append_left (by omega)]; exact h4
    refine ⟨_, e4, _, e12, _, _, rfl, rfl, (by show (0 : Int) < (o : Int); omega), rfl, _, rfl, ?_⟩
    have em : (t.length : Int) % (o : Int) = ((t.length % o : Nat) : Int) := (Int.natCast_emod _ _).symm
    have stp : ((pers t).take (i + 1)).filter (fun d => decide (t.length % d = 0)) = ((pers t).take i).filter (fun d => decide (t.length % d = 0)) ++ (if t.length % o = 0 then [o] else []) := by
      rw [List.take_add_one, ho, List.filter_append]
      by_cases h : t.length % o = 0 <;> simp [h]
    by_cases h1 : t.length % o = 0
    · refine iteC4 (show decide (V.int ((t.length : Int) % (o : Int)) = V.int 0) = true by rw [em, h1]; rfl) ⟨_, e12, hD3, ?_, fun e o' z => by rw [upd_ne (ne_of_none z hD)]; exact s5 _ _ z, upd_same⟩
      rw [stp, if_pos h1, vInts_snoc']
    · refine iteD4 (show decide (V.int ((t.length : Int) % (o : Int)) = V.int 0) = false by rw [em]; exact decide_eq_false fun z => h1 (by have := V.int.inj z; omega)) ⟨?_, s5, hD3⟩
      rw [stp, if_neg h1, List.append_nil]
  · rintro ys H3 ⟨rfl, s5, hD3⟩
    rw [vInts_len, List.take_length] at hD3
    have np : t.length ∈ pers t := mem_pers04.mpr ⟨t1, Nat.le_refl _, fun q hq => by omega⟩
    have nf : t.length ∈ (pers t).filter (fun d => decide (t.length % d = 0)) := List.mem_filter.mpr ⟨np, by simp⟩
    refine ⟨D', _, rfl, hD3, fun z => ?_, fun m hm hmin => ?_⟩
    · rw [List.map_eq_nil_iff] at z
      rw [z] at nf; cases nf
    · obtain ⟨r, hr, rfl⟩ := List.mem_map.mp hm
      obtain ⟨hr1, hr2⟩ := List.mem_filter.mp hr
      refine k r H3 hr1 (Nat.dvd_of_mod_eq_zero (of_decide_eq_true hr2)) (fun p hp hd => ?_) s5
      have := hmin (p : Int) (List.mem_map.mpr ⟨p, List.mem_filter.mpr ⟨hp, decide_eq_true (Nat.mod_eq_zero_of_dvd hd)⟩, rfl⟩)
      omega
end

end Ov

namespace Ov
open PySem L2
section
variable {P : Program} {w : World} {K : PySem.W.Frag} {mg : Str → Option Value} {base : Heap}
theorem scRight : FnScope ["hand", "text", "found", "told", "size", "one", "other", "names", "border", "places", "twice", "least"] ["hand", "text"] (defScope sRight) := ⟨rfl, rfl, rfl, by decide +kernel, rfl, by decide +kernel, by decide +kernel⟩
theorem ok_right (M : Md K mg) (B : Bl mg) (F : FF K "_law_right" sRight) (Fborders : Fn P w K mg base CX0 "borders" 3 ["text"] spEnds) (Fperiods : Fn P w K mg base CX0 "periods" 4 ["text"] spPeriods) (Flies_at : Fn P w K mg base CX0 "lies_at" 4 ["text", "word"] spLies) (F_law_common : Fn P w K mg base CX0 "_law_common" 1 ["one", "other"] spCommon) (F_law_renamed : Fn P w K mg base CX0 "_law_renamed" 2 ["hand"] spRen) : Fn P w K mg base CX0 "_law_right" 5 ["hand", "text"] spRight := by
  refine fn_ok M F scRight (fun _ _ _ _ _ _ => us2 fun _ _ => rfl) (fun vs H Q E h => ?_) (fun f cdv A outer s H vs Q E hr h => ?_)
  · obtain ⟨p, a, t, rfl, _⟩ := h; rfl
  · obtain ⟨p, a, t, rfl, hp, ha, lt, tl, k⟩ := h
    refine ⟨_, (pss_cons (ps_set (i := 2) scRight.nd rfl (by first | exact Or.inl rfl | exact Or.inr rfl) (pe_fn Fborders hr pass0 (pa_cons (pv 1) pa_nil)))
      (pss_cons (ps_set (i := 3) scRight.nd rfl (by first | exact Or.inl rfl | exact Or.inr rfl) (pe_fn Fperiods hr pass0 (pa_cons (pv 1) pa_nil)))
      (pss_cons (ps_set (i := 4) scRight.nd rfl (by first | exact Or.inl rfl | exact Or.inr rfl) (pe_lenL B.len (pv 1)))
      (pss_cons (ps_if (pt_cmpR (op_neLI (by exact hr)) (pv 3) (pe_comp ["hand", "text", "found", "told", "size", "one", "other", "names", "", "places", "twice", "least"] rfl (pi_list (pe_rev_slice (pv 2))) (fun _ => by exact pif_nil) (fun _ => by exact (pe_op op_sub (pv 4) (pv 12)))) (nomark _)) (pss_one (ps_ret pe_bl)) pss_nil)
      (pss_cons (ps_if (pt_cmpR (op_neLI (by exact hr)) (pe_op op_cat (pe_slice sl_list (pv 2) po_none (po_some pe_int)) (pe_slice sl_list (pv 3) (po_some (pe_un un_neg pe_int)) po_none)) (pe_slice sl_list (pe_lst (pa_cons pe_int (pa_cons (pv 4) pa_nil))) po_none (po_some (pe_op op_mul pe_int (pe_intB B.int (pe_cmpR op_gt (pv 4) pe_int (nomark _)))))) (nomark _)) (pss_one (ps_ret pe_bl)) pss_nil)
      (pss_cons (ps_if (PW.pt (pw_and (pt_cmpR op_gt (pv 4) pe_int (nomark _)) (pw_and (pt_cmpR op_gt (pe_ix ix_list (pv 2) (pe_un un_neg pe_int) (fun _ _ => rfl)) pe_int (nomark _)) (pw_and1 (pt_cmpR (op_neLI (by exact hr)) (pe_fn Fborders hr pass0 (pa_cons (pe_slice sl_list (pv 1) po_none (po_some (pe_ix ix_list (pv 2) (pe_un un_neg pe_int) (fun _ _ => rfl)))) pa_nil)) (pe_slice sl_list (pv 2) po_none (po_some (pe_un un_neg pe_int))) (nomark _)))))) (pss_one (ps_ret pe_bl)) pss_nil)
      (pss_cons (ps_for PassesOwn.never rfl (pi_list (pv 3)) (pg_name (i := 5) scRight.nd rfl (by first | exact Or.inl rfl | exact Or.inr rfl))
      (pss_one (ps_for PassesOwn.never rfl (pi_list (pv 3)) (pg_name (i := 6) scRight.nd rfl (by first | exact Or.inl rfl | exact Or.inr rfl))
      (pss_one (ps_if (PW.pt (pw_and (pt_cmpR op_le (pe_op op_add (pv 5) (pv 6)) (pv 4) (nomark _)) (pw_and1 (pt_cmpR op_notIn_seq (pe_fn F_law_common hr pass0 (pa_cons (pv 5) (pa_cons (pv 6) pa_nil))) (pv 3) (by with_unfolding_all rfl))))) (pss_one (ps_ret pe_bl)) pss_nil)))))
      (pss_cons (ps_set (i := 7) scRight.nd rfl (by first | exact Or.inl rfl | exact Or.inr rfl) (pe_fn F_law_renamed hr pass0 (pa_cons (pv 0) pa_nil)))
      (pss_cons (ps_if (PW.pt (pw_or (pt_cmpR (op_neLI (by exact hr)) (pe_fn Fborders hr pass0 (pa_cons (pe_rev_slice (pv 1)) pa_nil)) (pv 2) (nomark _)) (pw_or1 (pt_cmpR (op_neLI (by exact hr)) (pe_fn Fperiods hr pass0 (pa_cons (pe_comp ["hand", "text", "found", "told", "size", "one", "other", "names", "border", "places", "twice", "least"] rfl (pi_list (pv 1)) (fun _ => by exact pif_nil) (fun _ => by exact (pe_dget (by exact hu_of hr) (pv 7) (pv 12) (fun _ _ => rfl)))) pa_nil)) (pv 3) (nomark _))))) (pss_one (ps_ret pe_bl)) pss_nil)
      (pss_cons (ps_for PassesOwn.never rfl (pi_list (pe_slice sl_list (pv 2) (po_some pe_int) po_none)) (pg_name (i := 8) scRight.nd rfl (by first | exact Or.inl rfl | exact Or.inr rfl))
      (pss_cons (ps_set (i := 9) scRight.nd rfl (by first | exact Or.inl rfl | exact Or.inr rfl) (pe_fn Flies_at hr pass0 (pa_cons (pv 1) (pa_cons (pe_slice sl_list (pv 1) po_none (po_some (pv 8))) pa_nil))))
      (pss_cons (ps_if (PW.pt (pw_or (pt_cmpR op_ne (pe_ix ix_list (pv 9) pe_int (fun _ _ => rfl)) pe_int (nomark _)) (pw_or1 (pt_cmpR op_ne (pe_ix ix_list (pv 9) (pe_un un_neg pe_int) (fun _ _ => rfl)) (pe_op op_sub (pv 4) (pv 8)) (nomark _))))) (pss_one (ps_ret pe_bl)) pss_nil)
      (pss_one (ps_if (pt_cmpR op_notIn_seq (pe_op op_sub (pv 8) pe_int) (pe_fn Fborders hr pass0 (pa_cons (pe_slice sl_list (pv 1) po_none (po_some (pe_un un_neg pe_int))) pa_nil)) (by with_unfolding_all rfl)) (pss_one (ps_ret pe_bl)) pss_nil)))))
      (pss_cons (ps_if (pt_cmpR op_eq (pv 4) pe_int (nomark _)) (pss_one (ps_ret pe_bl)) pss_nil)
      (pss_cons (ps_setC (i := 10) ["hand", "text", "found", "told", "size", "one", "other", "names", "border", "places", "twice", "least"] rfl scRight.nd rfl (by first | exact Or.inl rfl | exact Or.inr rfl) (pi_list (pe_fn Flies_at hr pass0 (pa_cons (pe_op op_cat (pv 1) (pv 1)) (pa_cons (pv 1) pa_nil)))) (fun _ => by exact (pif_one (pt_cmpR op_lt (pv 12) (pv 4) (nomark _)))) (fun _ => by exact (pv 12)))
      (pss_cons (ps_set (i := 11) scRight.nd rfl (by first | exact Or.inl rfl | exact Or.inr rfl) (pe_minL rfl B.min (pe_comp ["hand", "text", "found", "told", "size", "", "other", "names", "border", "places", "twice", "least"] rfl (pi_list (pv 3)) (fun _ => by exact (pif_one (pt_cmpR op_eq (pe_op op_mod (pv 4) (pv 12)) pe_int (nomark _)))) (fun _ => by exact (pv 12)))))
      (pss_one (ps_ret (pe_and (pe_cmpR (op_eqLI (by exact hr)) (pe_fn Flies_at hr pass0 (pa_cons (pv 1) (pa_cons (pv 1) pa_nil))) (pe_lst (pa_cons pe_int pa_nil)) (nomark _)) (pe_one (pe_cmpR (op_eqLI (by exact hr)) (pv 10) (pe_listR3 rfl B.list B.range (pa_cons pe_int (pa_cons (pv 4) (pa_cons (pv 11) pa_nil)))) (nomark _))))))))))))))))))), ?_⟩
    have nap := hand_ne hp ha
    refine ⟨_, rfl, a, t, rfl, ha, lt, by omega, fun f1 H1 hf0 hf1 s1 => ?_⟩
    refine ⟨_, rfl, a, t, rfl, s1 _ _ ha, lt, by omega, fun f2 H2 hg0 hg2 s2 => ?_⟩
    have hf2 := s2 _ _ hf1
    have s12 := s1.trans s2
    have ha2 := s12 _ _ ha
    have hp2 := hp.same s12
    have nf1 : f1 ≠ p := (hp.ne hf0).symm
    have nf2 : f2 ≠ p := ((hp.same s1).ne hg0).symm
    refine ⟨_, rfl, a, _, rfl, SqL.of ha2, ?_⟩
    refine nm_int (j := (t.length : Int)) (congrArg V.int (by rw [List.length_map])) ?_
    refine seq_if (told_test (t := t) rfl rfl rfl rfl tl hf2 hg2 fun H3 s3 => iteF ?_)
    refine seq_if (heads_test (t := t) rfl rfl rfl tl (s3 _ _ hf2) (s3 _ _ hg2) fun H4 s4 => iteF ?_)
    have s34 := s3.trans s4
    refine seq_if (longest_test (t := t) rfl rfl rfl tl lt (s34 _ _ ha2) (s34 _ _ hf2) fun H5 s5 => iteF ?_)
    have s25 := s34.trans s5
    have hf5 := s25 _ _ hf2
    have hg5 := s25 _ _ hg2
    have ha5 := s25 _ _ ha2
    have hp5 := hp2.same s25
    unfold tNext
    dsimp only
    refine seq_for ?_
    refine ⟨_, rfl, f2, rfl, ⟨_, SqL.of hg5⟩, for_listA (K := K) (a := f2) (xs := vInts (pers t)) (fun i σ H6 => H6 = H5 ∧ ∃ v5 v6, σ = [some (.ref p), some (.ref a), some (.ref f1), some (.ref f2), some (.int (t.length : Int)), v5, v6, none, none, none, none, none]) ⟨rfl, _, _, rfl⟩ (fun i σ H6 _ h => by rw [h.1]; exact SqL.of hg5) ?_ ?_⟩
    · rintro D1 i x σ H6 nx1 hx ⟨rfl, v5, v6, rfl⟩
      obtain ⟨o, ho, rfl⟩ := vInts_at4 hx
      have ho' := List.mem_of_getElem? ho
      refine ⟨_, rfl, f2, rfl, ⟨_, SqL.of hg5⟩, for_listA (K := K) (a := f2) (xs := vInts (pers t)) (fun i σ H7 => H7 = H6 ∧ ∃ v6, σ = [some (.ref p), some (.ref a), some (.ref f1), some (.ref f2), some (.int (t.length : Int)), some (.int (o : Int)), v6, none, none, none, none, none]) ⟨rfl, _, rfl⟩ (fun i σ H7 _ h => by rw [h.1]; exact SqL.of hg5) ?_ ?_⟩
      · rintro D2 j x σ H7 nx2 hx2 ⟨rfl, v6, rfl⟩
        obtain ⟨o2, ho2, rfl⟩ := vInts_at4 hx2
        have ho2' := List.mem_of_getElem? ho2
        refine ⟨_, rfl, _, rfl, _, _, rfl, rfl, _, rfl, _, _, rfl, rfl, _, rfl, ?_⟩
        by_cases hs : o + o2 ≤ t.length
        · refine iteC4 (show decide ((o : Int) + (o2 : Int) ≤ (t.length : Int)) = true from decide_eq_true (by omega)) ⟨_, rfl, _, rfl, o, o2, rfl, _, rfl, f2, _, rfl, .inl (SqL.of hg5), rfl, flat_ints _, false, ?_, iteF (nx2 _ _ ⟨rfl, _, rfl⟩)⟩
          show V.bl (!inV (.int (Nat.gcd o o2 : Nat)) (vInts (pers t))) = _
          rw [inV_nat (gcd_pers ho' ho2' hs)]; rfl
        · exact iteD4 (show decide ((o : Int) + (o2 : Int) ≤ (t.length : Int)) = false from decide_eq_false (by omega)) (iteF (nx2 _ _ ⟨rfl, _, rfl⟩))
      · rintro σ H7 ⟨rfl, v6, rfl⟩
        exact nx1 _ _ ⟨rfl, _, _, rfl⟩
    · rintro σ H6 ⟨rfl, v5, v6, rfl⟩
      dsimp only
      refine seq_asg ?_
      refine ⟨_, rfl, p, rfl, hp5, fun fn d H7 hd0 hd7 fl fi hp7 k7 => ?_⟩
      have hf7 := k7 _ _ hf5 nf1
      have hg7 := k7 _ _ hg5 nf2
      have ha7 := k7 _ _ ha5 nap
      have k27 : Keep p H H7 := fun c o h e => k7 _ _ (s25 _ _ (s12 _ _ h)) e
      refine seq_if (names_test (t := t) (d := d) (f := fn) rfl rfl rfl rfl rfl tl lt ha7 hf7 hg7 hd7 fl fi fun H8 s8 => iteF ?_)
      have hf8 := s8 _ _ hf7
      have hg8 := s8 _ _ hg7
      have ha8 := s8 _ _ ha7
      have hp8 := hp7.same s8
      have k28 : Keep p H H8 := fun c o h e => s8 _ _ (k27 _ _ h e)
      dsimp only
      refine seq_for ?_
      refine ⟨_, rfl, 1, rfl, f1, _, rfl, SqL.of hf8, fun q hq => ?_⟩
      have ecut : cutV (vInts (ends t)) (some 1) none = vInts ((ends t).drop 1) := by
        rw [cutV_cutL, cutL_lo _ _ (by decide)]
        unfold vInts
        rw [← List.map_drop, ← List.map_drop]; rfl
      rw [ecut]
      have s9 := Same.upd (o := .lst (vInts ((ends t).drop 1))) hq
      have hq9 := upd_same (H := H8) (a := q) (o := .lst (vInts ((ends t).drop 1)))
      generalize L2.upd H8 q (.lst (vInts ((ends t).drop 1))) = H9 at s9 hq9 ⊢
      refine ⟨q, rfl, ⟨_, SqL.of hq9⟩, for_listA (K := K) (a := q) (xs := vInts ((ends t).drop 1)) (fun i σ H10 => Same H9 H10 ∧ ∃ v5 v6 v8 v9, σ = [some (.ref p), some (.ref a), some (.ref f1), some (.ref f2), some (.int (t.length : Int)), v5, v6, some (.ref d), v8, v9, none, none]) ⟨Same.refl _, _, _, _, _, rfl⟩ (fun i σ H10 _ h => SqL.of (h.1 _ _ hq9)) ?_ ?_⟩
      · rintro D1 i x σ H10 nx1 hx ⟨s10, v5, v6, v8, v9, rfl⟩
        obtain ⟨b, hb, rfl⟩ := vInts_at4 hx
        rw [List.getElem?_drop] at hb
        have hbm := List.mem_of_getElem? hb
        have bl := ends_lt hbm
        have b1 : 1 ≤ b := by
          have h0 : (ends t)[0]? = some 0 := by
            obtain ⟨r, hr⟩ := ends_zero4 (t := t) (by omega)
            rw [hr]; rfl
          apply Nat.pos_of_ne_zero
          intro z
          subst z
          have := (List.getElem?_inj (by have := (List.getElem?_eq_some_iff.mp h0).1; exact this) ((ends_sorted t).imp (fun h => Nat.ne_of_lt h))).mp (h0.trans hb.symm)
          omega
        have s810 := s9.trans s10
        have ha10 := s810 _ _ ha8
        refine ⟨_, rfl, _, rfl, _, rfl, (b : Int), rfl, a, _, rfl, SqL.of ha10, fun q1 hq1 => ?_⟩
        rw [cut_hi4 (Int.natCast_nonneg b), Int.toNat_natCast]
        have s11 := Same.upd (o := .lst ((t.take b).map sg)) hq1
        have hq11 := upd_same (H := H10) (a := q1) (o := .lst ((t.take b).map sg))
        generalize L2.upd H10 q1 (.lst ((t.take b).map sg)) = H11 at s11 hq11 ⊢
        have btl : (t.take b).length = b := by rw [List.length_take]; omega
        refine ⟨a, q1, t, t.take b, rfl, s11 _ _ ha10, hq11, lt, lt.take _, by omega, by omega, by omega, fun r H12 hr0 hr12 s12' => ?_⟩
        obtain ⟨lr, hlr⟩ := lies_first hbm
        obtain ⟨ll, hll⟩ := lies_end hbm
        have at0 : atI (vInts (liesIn t (t.take b))) 0 = some (.int 0) := by
          rw [hlr]
          obtain ⟨v, hv, _, e⟩ := atI_ex (vInts (0 :: lr)) 0 (by decide) (by rw [vInts_len, List.length_cons]; omega)
          have : v = .int 0 := (Option.some.inj hv).symm
          rw [e, this]
        have at1 : atI (vInts (liesIn t (t.take b))) (-1) = some (.int ((t.length - b : Nat) : Int)) := by rw [hll, vInts_snoc', atI_last]
        refine ⟨_, rfl, r, _, _, _, rfl, rfl, SqL.of hr12, at0, rfl, false, by simp, iteF ?_⟩
        refine ⟨_, rfl, 1, rfl, r, _, -1, _, rfl, rfl, SqL.of hr12, at1, _, rfl, _, rfl, _, _, rfl, rfl, rfl, false, ?_, iteF ?_⟩
        · show V.bl (!decide (V.int ((t.length - b : Nat) : Int) = V.int ((t.length : Int) - (b : Int)))) = _
          rw [Int.ofNat_sub (Nat.le_of_lt bl), decide_eq_true rfl]; rfl
        have s912 := (s10.trans s11).trans s12'
        have ha12 := (s9.trans s912) _ _ ha8
        refine ⟨_, rfl, _, _, rfl, rfl, _, rfl, 1, rfl, -1, rfl, a, _, rfl, SqL.of ha12, fun q2 hq2 => ?_⟩
        have ec : cutV (t.map sg) none (some (-1)) = (t.take (t.length - 1)).map sg := by rw [cut_but, List.length_map, List.map_take]
        rw [ec]
        have s13 := Same.upd (o := .lst ((t.take (t.length - 1)).map sg)) hq2
        refine ⟨q2, t.take (t.length - 1), rfl, upd_same, lt.take _, by rw [List.length_take]; omega, fun r2 H14 hr20 hr214 s14 => ?_⟩
        refine ⟨r2, _, rfl, .inl (SqL.of hr214), rfl, flat_ints _, false, ?_, iteF (nx1 _ _ ⟨(s912.trans s13).trans s14, _, _, _, _, rfl⟩)⟩
        show V.bl (!inV (.int ((b : Int) - 1)) (vInts (ends (t.take (t.length - 1))))) = _
        rw [show (b : Int) - 1 = ((b - 1 : Nat) : Int) by omega, inV_nat (ends_cut hbm b1)]; rfl
      · rintro σ H10 ⟨s10, v5, v6, v8, v9, rfl⟩
        dsimp only
        have s810 := s9.trans s10
        have ha10 := s810 _ _ ha8
        have hg10 := s810 _ _ hg8
        have done : ∀ H', Same H10 H' → Q (.bl true) H' := fun H' s' => k H' (hp8.same (s810.trans s')) fun c o h e => (s810.trans s') _ _ (k28 _ _ h e)
        refine seq_if ?_
        refine ⟨_, rfl, rfl, _, rfl, ?_⟩
        by_cases h0 : t.length = 0
        · exact iteC4 (show decide (V.int (t.length : Int) = V.int 0) = true by rw [h0]; rfl) (done H10 (Same.refl _))
        · refine iteD4 (show decide (V.int (t.length : Int) = V.int 0) = false from decide_eq_false fun z => h0 (by have := V.int.inj z; omega)) ?_
          dsimp only
          have t1 : 1 ≤ t.length := by omega
          refine set_twice (t := t) rfl rfl rfl tl t1 lt ha10 fun q2 H11 hq20 hq211 s11 => ?_
          refine set_least (t := t) rfl rfl rfl tl t1 (s11 _ _ hg10) fun r H12 hr1 hr2 hr3 s12' => ?_
          have s1012 := s11.trans s12'
          have ha12 := s1012 _ _ ha10
          refine ⟨_, rfl, _, rfl, a, a, t, t, rfl, ha12, ha12, lt, lt, by omega, by omega, t1, fun r0 H13 hr00 hr013 s13 => ?_⟩
          rw [self_lies t t1] at hr013
          refine ⟨by show 1 ≤ sizeLine; decide, fun l0 hl0 => ?_⟩
          have s14 := Same.upd (o := .lst [V.int 0]) hl0
          refine ⟨r0, l0, [0], [0], rfl, rfl, SqL.of (s14 _ _ hr013), SqL.of upd_same, true, by simp, iteT ?_⟩
          have hq214 := ((s12'.trans s13).trans s14) _ _ hq211
          have s1014 := (s1012.trans s13).trans s14
          generalize L2.upd H13 l0 (.lst [V.int 0]) = H14 at s14 hq214 s1014 ⊢
          obtain ⟨rr1, rr2, _⟩ := mem_pers04.mp hr1
          refine ⟨_, rfl, _, rfl, _, rfl, t.length, r, t.length / r, rfl, rr1, by omega, by omega, ?_, fun l1 hl1 => ?_⟩
          · obtain ⟨m, hm⟩ := hr2
            rw [hm, Nat.mul_div_cancel_left _ rr1, show r * m + r - 1 = r - 1 + r * m by omega, Nat.add_mul_div_left _ _ rr1, Nat.div_eq_of_lt (by omega), Nat.zero_add]
          · have e : (List.range (t.length / r)).map (fun q => V.int ((q * r : Nat) : Int)) = vInts ((List.range (t.length / r)).map fun q => q * r) := by
              unfold vInts
              rw [List.map_map, List.map_map]; rfl
            rw [e]
            rw [twice_eq t1 hr1 hr2 hr3] at hq214
            have s15 := Same.upd (o := .lst (vInts ((List.range (t.length / r)).map fun q => q * r))) hl1
            refine ⟨q2, l1, _, _, rfl, rfl, SqL.of (s15 _ _ hq214), SqL.of upd_same, ?_⟩
            have := done _ (s1014.trans s15)
            simpa using this
end

end Ov

namespace Ov
open PySem L2
abbrev sLaw : Stmt := top 23
def spLaw (K : PySem.W.Frag) : Sp := fun vs H Q _ => ∃ (a : Addr) (ns : List Int), vs = [.ref a] ∧ SqL K H a (ns.map V.int) ∧ ns.length ≤ 63 ∧ ∀ H', Q (.bl true) H'
section
variable {P : Program} {w : World} {K : PySem.W.Frag} {mg : Str → Option Value} {base : Heap}
theorem int_item {xs : List Int} {i : Nat} {x : V} (h : (xs.map V.int)[i]? = some x) : ∃ z : Int, x = .int z := by
  rw [List.getElem?_map] at h
  cases e : xs[i]? with
  | none => rw [e] at h; cases h
  | some z => rw [e] at h; exact ⟨z, (Option.some.inj h).symm⟩
theorem scLaw : FnScope ["script", "cell", "hand"] ["script"] (defScope sLaw) := ⟨rfl, rfl, rfl, by decide +kernel, rfl, by decide +kernel, by decide +kernel⟩
theorem ok_law (M : Md K mg) (B : Bl mg) (F : FF K "law" sLaw) (F_law_hand : Fn P w K mg base CX0 "_law_hand" 1 ["cell"] spHand) (F_law_letters : Fn P w K mg base CX0 "_law_letters" 2 ["hand"] spLetters)
    (F_law_text : Fn P w K mg base CX0 "_law_text" 3 ["hand", "letters"] spText) (F_law_right : Fn P w K mg base CX0 "_law_right" 5 ["hand", "text"] spRight) : Fn P w K mg base CX0 "law" 6 ["script"] (spLaw K) := by
  refine fn_ok M F scLaw (fun _ _ _ _ _ _ => us1 fun _ => rfl) (fun vs H Q E h => ?_) (fun f cdv A outer s H vs Q E hr h => ?_)
  · obtain ⟨a, ns, rfl, _⟩ := h; rfl
  · obtain ⟨a, ns, rfl, hS, hlen, k⟩ := h
    refine ⟨_, (pss_cons (ps_for PassesOwn.never rfl (pi_list (pe_op op_cat (pe_lst (pa_cons (pe_op op_pow pe_int pe_int) pa_nil)) (pe_slice sl_list (pv 0) po_none (po_some pe_int)))) (pg_name (i := 1) scLaw.nd rfl (by first | exact Or.inl rfl | exact Or.inr rfl))
      (pss_cons (ps_set (i := 2) scLaw.nd rfl (by first | exact Or.inl rfl | exact Or.inr rfl) (pe_fn F_law_hand hr pass0 (pa_cons (pv 1) pa_nil)))
      (pss_one (ps_if (pt_not (pt_val (pe_fn F_law_right hr pass0 (pa_cons (pv 2) (pa_cons (pe_slice sl_list (pe_fn F_law_text hr pass0 (pa_cons (pv 2) (pa_cons (pe_fn F_law_letters hr pass0 (pa_cons (pv 2) pa_nil)) pa_nil))) po_none (po_some pe_int)) pa_nil))))) (pss_one (ps_ret pe_bl)) pss_nil))))
      (pss_one (ps_ret pe_bl))), ?_⟩
    refine ⟨_, _, rfl, rfl, ⟨by decide, by decide, by decide⟩, by show 1 ≤ sizeLine; decide, fun l0 hl0 => ?_⟩
    refine ⟨_, rfl, _, rfl, a, _, rfl, (Same.upd hl0).seq hS, fun l1 hl1 => ?_⟩
    have e1 : cutV (ns.map V.int) none (some 8) = (ns.take 8).map V.int := by rw [cutV_cutL, cutL_map, cutL_hi _ _ (by decide)]; rfl
    rw [e1] at *
    refine ⟨l0, l1, _, _, rfl, rfl, (Same.upd hl1) _ _ upd_same, upd_same, by simp only [List.length_cons, List.length_nil, List.length_map, List.length_take]; exact sz (by omega), fun b hb => ?_⟩
    have ex : [V.int (10 ^ Int.toNat 18)] ++ (ns.take 8).map V.int = ((10 ^ Int.toNat 18) :: ns.take 8).map V.int := rfl
    refine ⟨b, rfl, ⟨_, SqL.of upd_same⟩, for_list (K := K) (a := b) (xs := ((10 ^ Int.toNat 18) :: ns.take 8).map V.int) (fun i σ H2 => H2 b = some (.lst (((10 ^ Int.toNat 18) :: ns.take 8).map V.int)) ∧ ∃ v1 v2, σ = [some (.ref a), v1, v2]) ⟨upd_same, none, none, rfl⟩ (fun i σ H2 _ h2 => SqL.of h2.1) ?_ ?_⟩
    · rintro i x σ H2 hx ⟨hb2, v1, v2, rfl⟩
      obtain ⟨c, rfl⟩ := int_item hx
      refine ⟨_, rfl, c, rfl, fun p H3 hp0 hp3 s3 => ?_⟩
      have hb3 := s3 _ _ hb2
      have nb : b ≠ p := ne_of_none hb2 hp0
      refine ⟨_, rfl, _, rfl, _, rfl, p, rfl, hp3, fun z H4 hz hp4 k4 => ?_⟩
      have hb4 := k4 _ _ hb3 nb
      refine ⟨p, z, rfl, hp4, hz.alph, fun t r H5 hr0 hr5 lt tl hp5 k5 => ?_⟩
      have hb5 := k5 _ _ hb4 nb
      refine ⟨100, rfl, r, _, rfl, SqL.of hr5, fun q hq => ?_⟩
      rw [cut_hi4 (show (0 : Int) ≤ 100 by decide)]
      have s6 := Same.upd (o := .lst ((t.take (Int.toNat 100)).map sg)) hq
      have hq6 := upd_same (H := H5) (a := q) (o := .lst ((t.take (Int.toNat 100)).map sg))
      have hb6 := s6 _ _ hb5
      have hp6 := hp5.same s6
      generalize L2.upd H5 q (.lst ((t.take (Int.toNat 100)).map sg)) = H6 at s6 hq6 hb6 hp6 ⊢
      refine ⟨p, q, _, rfl, hp6, hq6, lt.take _, by rw [List.length_take]; exact Nat.min_le_left _ _, fun H7 hp7 k7 => ⟨true, rfl, iteF ⟨k7 _ _ hb6 nb, _, _, rfl⟩⟩⟩
    · rintro σ H2 ⟨hb2, v1, v2, rfl⟩
      exact k H2
end

end Ov

namespace Ov
open PySem L2
theorem all_mk {P : Program} {w : World} {K : PySem.W.Frag} {h : Heap} {mg : Str → Option Value} {fa : Addr} (X : K.In h) (G : h.Ns mainGlobals mg) (hfa : mg "law" = some (.ref fa))
    (f1 : FF K "_law_hand" sHand) (f2 : FF K "_law_take" sTake) (f3 : FF K "_law_letters" sLetters) (f4 : FF K "_law_signs" sSigns) (f5 : FF K "_law_ends" sEnds) (f6 : FF K "_law_laid" sLaid) (f7 : FF K "_law_text" sText) (f8 : FF K "is_sign" sIsSign) (f9 : FF K "check_signs" sCheck) (f10 : FF K "check_word" sCheckWord)
    (f11 : FF K "borders" sBorders) (f12 : FF K "periods" sPeriods) (f13 : FF K "lies_at" sLiesAt) (f14 : FF K "_law_renamed" sRenamed) (f15 : FF K "_law_common" sCommon) (f16 : FF K "_law_right" sRight) (f17 : FF K "law" sLaw) (na : PySem.W.nsIn K mainGlobals "dict" = some none) (b : Md K mg → Bl mg) :
    ∃ fd : FuncData, (∀ (s : Shared) (v : Value), BindsTo s fd ⟨[v], []⟩ [("script", v)]) ∧ ∀ base : Heap, K.In base → base.Ns mainGlobals mg → FnOk P w K mg base CX0 6 fa fd ["script"] (spLaw K) := by
  have M := md_of X G
  have Bl := b M
  refine law_of M f17 hfa (fun _ _ _ _ _ _ s v => .of_eq rfl) fun base => ?_
  have ndict : mg "dict" = none := M.ns _ _ na
  have g2 := ok_take (P := P) (w := w) (base := base) M f2
  have g1 := ok_hand (P := P) (w := w) (base := base) M Bl f1
  have g3 := ok_letters M Bl f3 g2
  have g4 := ok_signs M Bl f4 g2
  have g5 := ok_ends (P := P) (w := w) (base := base) M Bl f5
  have g6 := ok_laid M Bl f6 g2 g5
  have g7 := ok_text M Bl f7 g2 g4 g6
  have g8 := ok_is_sign (P := P) (w := w) (base := base) M Bl f8
  have g9 := ok_check M Bl f9 g8
  have g10 := ok_check_word M Bl f10 g9
  have g11 := ok_borders M Bl f11 g9
  have g12 := ok_periods M Bl f12 g11
  have g13 := ok_lies_at M Bl f13 g9 g10
  have g14 := ok_renamed M Bl ndict f14 g2
  have g15 := ok_common (P := P) (w := w) (base := base) M Bl f15
  have g16 := ok_right M Bl f16 g11 g12 g13 g15 g14
  exact ok_law M Bl f17 g1 g3 g7 g16

end Ov

namespace Ov
open PySem L2
theorem walk {l : PySem.W.OpenLaw} {q : Program} {loose : List Str} {XP : (Str → Option Value) → Heap → Prop} {YP : World → Heap → Prop} {d : DefRec} {K : Params → PySem.W.Frag} (hn : l.most = some 63) (hdf : d.params.defaults = [])
    (hY : ∀ (w : World) (h : Heap), YP w h → (K w.params).In h)
    (F : ∀ (w : World) (mg : Str → Option Value) (fa : Addr) (h : Heap), (K w.params).In h → h.Ns mainGlobals mg → mg d.name = some (.ref fa) →
      ∃ fd : FuncData, (∀ (s : Shared) (u : Value), BindsTo s fd ⟨[u], []⟩ [("script", u)]) ∧ ∀ base : Heap, (K w.params).In base → base.Ns mainGlobals mg → FnOk l.prog w (K w.params) mg base CX0 6 fa fd ["script"] (spLaw (K w.params))) :
    PySem.W.WalkO q loose XP YP l.row.toRowW d [] (fun f vs => PySem.call f vs) :=
  L2.walk_of (n := 63) (k := 6) (x := "script") (CX := fun _ => CX0) (sp := fun w => spLaw (K w.params)) hn (by decide) hdf ⟨rfl, by decide, by decide⟩ hY F (fun _ _ a ns hl _ hS => ⟨a, ns, rfl, hS, hl, fun _ => rfl⟩) fun _ _ _ _ _ z => z

end Ov


open PySem PySem.W PyProof.Rows
set_option maxRecDepth 100000 in
set_option maxHeartbeats 0 in
theorem PySem.Challenge.cw_overlaid_k04_whole_borders_holds : PySem.Challenge.rw_overlaid_k04_whole_borders.Holds := by
  w_on; o_law; k_head; (case hw => w_witness2)
  k_fill
  refine Ov.walk (l := PySem.Challenge.rw_overlaid_k04_whole_borders) rfl rfl (fun w h Y => PySem.W.kIn_of Y) ?F
  case F =>
    intro w mg fa h KX G hmg
    refine' Ov.all_mk KX G hmg ?f1 ?f2 ?f3 ?f4 ?f5 ?f6 ?f7 ?f8 ?f9 ?f10 ?f11 ?f12 ?f13 ?f14 ?f15 ?f16 ?f17 ?Ndict ?B
    (case f1 => (refine' L2.ff_mk ?a ?l ?c ?k; (case a => k_is); (case l => k_is); (case c => k_is); (case k => k_is)))
    (case f2 => (refine' L2.ff_mk ?a ?l ?c ?k; (case a => k_is); (case l => k_is); (case c => k_is); (case k => k_is)))
    (case f3 => (refine' L2.ff_mk ?a ?l ?c ?k; (case a => k_is); (case l => k_is); (case c => k_is); (case k => k_is)))
    (case f4 => (refine' L2.ff_mk ?a ?l ?c ?k; (case a => k_is); (case l => k_is); (case c => k_is); (case k => k_is)))
    (case f5 => (refine' L2.ff_mk ?a ?l ?c ?k; (case a => k_is); (case l => k_is); (case c => k_is); (case k => k_is)))
    (case f6 => (refine' L2.ff_mk ?a ?l ?c ?k; (case a => k_is); (case l => k_is); (case c => k_is); (case k => k_is)))
    (case f7 => (refine' L2.ff_mk ?a ?l ?c ?k; (case a => k_is); (case l => k_is); (case c => k_is); (case k => k_is)))
    (case f8 => (refine' L2.ff_mk ?a ?l ?c ?k; (case a => k_is); (case l => k_is); (case c => k_is); (case k => k_is)))
    (case f9 => (refine' L2.ff_mk ?a ?l ?c ?k; (case a => k_is); (case l => k_is); (case c => k_is); (case k => k_is)))
    (case f10 => (refine' L2.ff_mk ?a ?l ?c ?k; (case a => k_is); (case l => k_is); (case c => k_is); (case k => k_is)))
    (case f11 => (refine' L2.ff_mk ?a ?l ?c ?k; (case a => k_is); (case l => k_is); (case c => k_is); (case k => k_is)))
    (case f12 => (refine' L2.ff_mk ?a ?l ?c ?k; (case a => k_is); (case l => k_is); (case c => k_is); (case k => k_is)))
    (case f13 => (refine' L2.ff_mk ?a ?l ?c ?k; (case a => k_is); (case l => k_is); (case c => k_is); (case k => k_is)))
    (case f14 => (refine' L2.ff_mk ?a ?l ?c ?k; (case a => k_is); (case l => k_is); (case c => k_is); (case k => k_is)))
    (case f15 => (refine' L2.ff_mk ?a ?l ?c ?k; (case a => k_is); (case l => k_is); (case c => k_is); (case k => k_is)))
    (case f16 => (refine' L2.ff_mk ?a ?l ?c ?k; (case a => k_is); (case l => k_is); (case c => k_is); (case k => k_is)))
    (case f17 => (refine' L2.ff_mk ?a ?l ?c ?k; (case a => k_is); (case l => k_is); (case c => k_is); (case k => k_is)))
    (case Ndict => k_is)
    (case B => (intro M; refine' L2.bl_of M ?b1 ?b2 ?b3 ?b4 ?b5 ?b6 ?b7 ?b8 ?b9 ?b10 ?b11 ?b12 ?b13 ?b14 ?b15; (case b1 => k_is); (case b2 => k_is); (case b3 => k_is); (case b4 => k_is); (case b5 => k_is); (case b6 => k_is); (case b7 => k_is); (case b8 => k_is); (case b9 => k_is); (case b10 => k_is); (case b11 => k_is); (case b12 => k_is); (case b13 => k_is); (case b14 => k_is); (case b15 => k_is)))
