import PyProof.Rows.All
import Wide.All
import OpenK.AllK
import Wide.FinOn
import Lean
import PyProof.EqAt
import PyProof.EqKinds
import PyProof.TupleCall
import PySem.Challenge.RW_overlaid_k39_lengths_of_so_many
set_option Elab.async false
set_option linter.all false
set_option maxRecDepth 100000
/-! THE HAND LAYER, for ints, bools, texts, own classes, LISTS and tuples (index, slices, in, append, pop ..), calls, loops. Paste it whole ahead of your own text; what your proof does not reach may be deleted. -/
namespace L2
open PySem PySem.Spec PyProof.Rows

/-- a key: an int or a str -/
abbrev Key := Sum Int Str
def keyIs : Key → Value → Bool
  | .inl k, v => Value.isInt k v
  | .inr x, v => Value.isStrOf x v
def keyH (w : World) : Key → Int
  | .inl k => hashInt k
  | .inr x => hashStr w x
theorem keyIs_shape : ∀ {k : Key} {v : Value}, keyIs k v = true → (∃ i t, k = Sum.inl i ∧ v = Value.int i t) ∨ (∃ x t, k = Sum.inr x ∧ v = Value.str x t)
  | .inl i, v, h => by
    obtain ⟨t, e⟩ := Value.isInt_shape (k := i) (v := v) h
    exact .inl ⟨i, t, rfl, e⟩
  | .inr x, v, h => by
    obtain ⟨t, e⟩ := Value.isStrOf_shape (x := x) (v := v) h
    exact .inr ⟨x, t, rfl, e⟩
theorem keyIs_int (i : Int) (t : Tok) : keyIs (.inl i) (.int i t) = true := by simp [keyIs, Value.isInt]
theorem keyIs_str (x : Str) (t : Tok) : keyIs (.inr x) (.str x t) = true := by simp [keyIs, Value.isStrOf]
theorem key_ll (a b : Int) : decide ((Sum.inl a : Key) = Sum.inl b) = (a == b) := by
  by_cases e : a = b
  · subst e; simp
  · have h : ¬ (Sum.inl a : Key) = Sum.inl b := fun q => e (Sum.inl.inj q)
    rw [decide_eq_false h]
    exact (beq_eq_false_iff_ne.mpr e).symm
theorem key_rr (a b : Str) : decide ((Sum.inr a : Key) = Sum.inr b) = decide (a = b) := by
  by_cases e : a = b
  · subst e; simp
  · have h : ¬ (Sum.inr a : Key) = Sum.inr b := fun q => e (Sum.inr.inj q)
    rw [decide_eq_false h, decide_eq_false e]
theorem key_lr (a : Int) (b : Str) : decide ((Sum.inl a : Key) = Sum.inr b) = false := decide_eq_false (fun q => nomatch q)
theorem key_rl (a : Str) (b : Int) : decide ((Sum.inr a : Key) = Sum.inl b) = false := decide_eq_false (fun q => nomatch q)

def mixKind (prog : Program) (w : World) : PySem.KeyKind prog w Key where
  is := keyIs
  hash := keyH w
  inj := fun v a b ha hb => by
    rcases keyIs_shape ha with ⟨i, t, rfl, rfl⟩ | ⟨x, t, rfl, rfl⟩
    · rcases keyIs_shape hb with ⟨j, u, rfl, e⟩ | ⟨y, u, rfl, e⟩
      · injection e with e1 _; rw [e1]
      · exact nomatch e
    · rcases keyIs_shape hb with ⟨j, u, rfl, e⟩ | ⟨y, u, rfl, e⟩
      · exact nomatch e
      · injection e with e1 _; rw [e1]
  byValue := fun k v h => by
    rcases keyIs_shape h with ⟨i, t, rfl, rfl⟩ | ⟨x, t, rfl, rfl⟩ <;> rfl
  pyHash := fun hv h => by
    rcases keyIs_shape hv with ⟨i, t, rfl, rfl⟩ | ⟨x, t, rfl, rfl⟩
    · exact wpAny_pyHash_int h
    · exact wpAny_pyHash_str h
  eqBool := fun hu hv h => by
    rcases keyIs_shape hu with ⟨i, t, rfl, rfl⟩ | ⟨x, t, rfl, rfl⟩
    · rcases keyIs_shape hv with ⟨j, u, rfl, rfl⟩ | ⟨y, u, rfl, rfl⟩
      · rw [key_ll] at h; exact wpAny_eqBool_int h
      · rw [key_lr] at h; exact SeqAt.EqAt.int_str i t y u _ _ _ _ h
    · rcases keyIs_shape hv with ⟨j, u, rfl, rfl⟩ | ⟨y, u, rfl, rfl⟩
      · rw [key_rl] at h; exact SeqAt.EqAt.str_int x t j u _ _ _ _ h
      · rw [key_rr] at h; exact wpAny_eqBool_str h
  «strs» := fun k x t v h => by
    rcases keyIs_shape h with ⟨i, u, rfl, e⟩ | ⟨y, u, rfl, e⟩
    · exact nomatch e
    · injection e with e1 _
      subst e1
      cases v <;> rfl

theorem mixKind_int (prog : Program) (w : World) (i : Int) (t : Tok) : (mixKind prog w).is (.inl i) (.int i t) = true := keyIs_int i t
theorem mixKind_str (prog : Program) (w : World) (x : Str) (t : Tok) : (mixKind prog w).is (.inr x) (.str x t) = true := keyIs_str x t
end L2

namespace L2
open PySem PySem.Spec PyProof.Rows

/-- a value, without the heap -/
inductive V where
  | non | bl (b : Bool) | int (i : Int) | str (x : Str) | byt (b : Array UInt8) | flt (b : UInt64) | ref (a : Addr) | ty (n : String)
  deriving DecidableEq

def RelV : V → Value → Prop
  | .non, u => u = Value.none
  | .bl b, u => u = Value.bool b
  | .int i, u => ∃ t, u = Value.int i t
  | .str x, u => ∃ t, u = Value.str x t
  | .byt b, u => ∃ t, u = Value.bytes b t
  | .flt b, u => ∃ t, u = Value.float b t
  | .ref a, u => u = Value.ref a
  | .ty n, u => u = Value.type n

abbrev Vals : List V → List Value → Prop := Paired RelV
theorem Vals.length {xs : List V} {us : List Value} (r : Vals xs us) : xs.length = us.length := Paired.length r
theorem Vals.get : ∀ {xs : List V} {us : List Value} {i : Nat} {x : V}, Vals xs us → xs[i]? = some x → ∃ u, us[i]? = some u ∧ RelV x u
  | _, _, _, _, .nil, e => by simp at e
  | _, _, 0, _, .cons r _, e => by simp at e; subst e; exact ⟨_, rfl, r⟩
  | _, _, i + 1, x, .cons _ t, e => by
    obtain ⟨u, h1, h2⟩ := Vals.get (i := i) (x := x) t (by simpa using e)
    exact ⟨u, by simpa using h1, h2⟩
theorem Vals.set {x : V} {u : Value} (r : RelV x u) : ∀ {xs : List V} {us : List Value} (i : Nat), Vals xs us → Vals (xs.set i x) (us.set i u)
  | _, _, _, .nil => .nil
  | _, _, 0, .cons _ t => .cons r t
  | _, _, i + 1, .cons q t => .cons q (Vals.set r i t)
theorem Vals.append : ∀ {xs ys : List V} {us ws : List Value}, Vals xs us → Vals ys ws → Vals (xs ++ ys) (us ++ ws)
  | _, _, _, _, .nil, s => s
  | _, _, _, _, .cons r t, s => .cons r (Vals.append t s)
theorem Vals.take : ∀ {xs : List V} {us : List Value} (n : Nat), Vals xs us → Vals (xs.take n) (us.take n)
  | _, _, 0, _ => .nil
  | _, _, _ + 1, .nil => .nil
  | _, _, n + 1, .cons r t => .cons r (Vals.take n t)
theorem Vals.drop : ∀ {xs : List V} {us : List Value} (n : Nat), Vals xs us → Vals (xs.drop n) (us.drop n)
  | _, _, 0, r => r
  | _, _, _ + 1, .nil => .nil
  | _, _, n + 1, .cons _ t => Vals.drop n t

def RelO : Option V → Option Value → Prop
  | some v, some u => RelV v u
  | none, none => True
  | _, _ => False
def KV {κ : Type} : List (κ × V) → List (κ × Value) → Prop := Paired fun (p : κ × V) (q : κ × Value) => p.1 = q.1 ∧ RelV p.2 q.2

/-- a key of a dict (00_mix): an int or a text -/
def kV : Key → V
  | .inl i => .int i
  | .inr x => .str x

/-- what stands at a tracked address -/
inductive HO where
  /-- a list -/
  | lst (xs : List V)
  /-- a tuple (never changes) -/
  | tup (xs : List V)
  /-- a dict whose keys are ints and texts; one whose keys are tuples of ints and texts (the empty one is both) -/
  | dK (kvs : List (Key × V)) | dT (kvs : List (List Key × V))
  /-- a set of ints: its members, its size -/
  | set (S : Int → Bool) (n : Nat)
  /-- an instance of the class at C, its dict at dx, its attributes -/
  | ins (C dx : Addr) (fs : List (Str × V))
  /-- the dict of the instance at x -/
  | own (x : Addr)
  /-- the dict of an exception -/
  | xd (fs : List (Str × V))
  /-- a bound method, f of x -/
  | met (f x : Addr)
  /-- a range object lo, lo + 1, .. below hi -/
  | rng (lo hi : Int)
  /-- a thing that is known to the object (the script; a dict while a loop walks it): read, never written while it is so -/
  | frz (o : Obj) (u : HO)
  /-- a code object's table -/
  | tbl (ps : Array Value)
  /-- any other thing, by what is true of its one object (a def of one's own: SetO a S n := HO.ext fun h => ..) -/
  | ext (φ : Heap → Prop)

abbrev Hp := Addr → Option HO
def upd (H : Hp) (a : Addr) (o : HO) : Hp := fun b => if b = a then some o else H b
theorem upd_same {H : Hp} {a : Addr} {o : HO} : upd H a o a = some o := by unfold upd; rw [if_pos rfl]
theorem upd_ne {H : Hp} {a b : Addr} {o : HO} (h : b ≠ a) : upd H a o b = H b := by unfold upd; rw [if_neg h]
/-- two objects of different content stand apart -/
theorem ne_of {H : Hp} {a b : Addr} {o u : HO} (h : H a = some o) (h' : H b = some u) (d : o ≠ u) : a ≠ b := by
  intro e; subst e; rw [h] at h'; exact d (Option.some.inj h')
theorem ne_of_none {H : Hp} {a b : Addr} {o : HO} (h : H a = some o) (h' : H b = none) : a ≠ b := by
  intro e; subst e; rw [h] at h'; cases h'

section
variable (P : Program) (w : World)
def ObjOk (H : Hp) (h : Heap) (a : Addr) : HO → Prop
  | .lst xs => xs.length ≤ sizeLine ∧ ∃ (its : List Value) (n : Nat), Vals xs its ∧ h.get? a = some { cls := .type "list", data := .seq its.toArray n }
  | .tup xs => xs.length ≤ sizeLine ∧ ∃ its : List Value, Vals xs its ∧ IsTup h a its.toArray
  | .dK kvs => kvs.length ≤ sizeLine ∧ (a == sysModules) = false ∧ ∃ vs, KV kvs vs ∧ h.DictOf (mixKind P w) a vs
  | .dT kvs => kvs.length ≤ sizeLine ∧ (a == sysModules) = false ∧ ∃ xs : List (List Key × Addr × Value),
      Paired (fun (p : List Key × V) (q : List Key × Addr × Value) => p.1 = q.1 ∧ H q.2.1 = some (.tup (p.1.map kV)) ∧ RelV p.2 q.2.2) kvs xs ∧
      ∃ o es ep, h.get? a = some o ∧ o.ExactDict ∧ o.data = .dict es ep ∧ es.toList = xs.map (entryOfKey (tupleKind (mixKind P w))) ∧ (xs.map (·.1)).Nodup
  | .set S n => h.SetOf (intKind P w) a S n
  | .ins C dx fs => H dx = some (.own a) ∧ fs.length ≤ 1000 ∧ dx ≠ a ∧ h.get? a = some (PySem.W.instObj C dx) ∧
      ∃ mA, h.Ns1 dx mA ∧ (∀ f, RelO (fs.lookup f) (mA f)) ∧ PySem.Within mA (fs.map (·.1))
  | .own _ => ∃ o, h.get? a = some o
  | .xd fs => ∃ mA, h.Ns1 a mA ∧ ∀ f, RelO (fs.lookup f) (mA f)
  | .rng lo hi => ∃ t u v, h.get? a = some { cls := .type "range", data := .fields #[.int lo t, .int hi u, .int 1 v] }
  | .frz o u => h.get? a = some o ∧ ObjOk H h a u
  | .tbl ps => h.get? a = some { cls := .none, data := .fields ps }
  | .met f x => h.get? a = some (PySem.W.methodObj (.ref f) (.ref x))
  | .ext φ => φ h ∧ (∃ o, h.get? a = some o) ∧ ∀ h1 h2 : Heap, φ h1 → (∀ o, h1.get? a = some o → h2.get? a = some o) → φ h2
/-- the abstract heap is held -/
def HOk (H : Hp) (h : Heap) : Prop := ∀ a o, H a = some o → ObjOk P w H h a o
end

section
variable {P : Program} {w : World} {H H' : Hp} {h h' : Heap} {a : Addr} {o : HO}
theorem ObjOk.lt (x : ObjOk P w H h a o) : a < h.objs.size := by
  cases o with
  | lst xs => obtain ⟨_, _, _, _, e⟩ := x; exact Heap.lt_size e
  | tup xs => obtain ⟨_, _, _, p⟩ := x; exact p.lt
  | dK kvs => obtain ⟨_, _, _, _, o, _, _, e, _⟩ := x; exact Heap.lt_size e
  | dT kvs => obtain ⟨_, _, _, _, o, _, _, e, _⟩ := x; exact Heap.lt_size e
  | set S n => obtain ⟨o, _, _, _, e, _⟩ := x; exact Heap.lt_size e
  | ins C dx fs => obtain ⟨_, _, _, e, _⟩ := x; exact Heap.lt_size e
  | own y => obtain ⟨_, e⟩ := x; exact Heap.lt_size e
  | xd fs => obtain ⟨_, ⟨_, _, _, e, _⟩, _⟩ := x; exact Heap.lt_size e
  | rng lo hi => obtain ⟨_, _, _, e⟩ := x; exact Heap.lt_size e
  | frz ob u => obtain ⟨e, _⟩ := x; exact Heap.lt_size e
  | tbl ps => exact Heap.lt_size (show h.get? a = some _ from x)
  | met f y => exact Heap.lt_size (show h.get? a = some _ from x)
  | ext φ => obtain ⟨_, ⟨_, e⟩, _⟩ := x; exact Heap.lt_size e
theorem Paired.mapP {α β : Type} {F G : α → β → Prop} : ∀ {l₁ : List α} {l₂ : List β}, Paired F l₁ l₂ → (∀ a b, F a b → G a b) → Paired G l₁ l₂
  | _, _, .nil, _ => .nil
  | _, _, .cons r t, f => .cons (f _ _ r) (Paired.mapP t f)
/-- what an object's description leans on: its own object, its own dict, the tuples -/
theorem ObjOk.stay (x : ObjOk P w H h a o) (k : ∀ b u, (b = a ∨ H b = some (.own a)) → h.get? b = some u → h'.get? b = some u)
    (ho : ∀ b, H b = some (.own a) → H' b = some (.own a)) (ht : ∀ b xs, H b = some (.tup xs) → H' b = some (.tup xs)) : ObjOk P w H' h' a o := by
  induction o with
  | lst xs => obtain ⟨z, its, n, r, e⟩ := x; exact ⟨z, its, n, r, k _ _ (.inl rfl) e⟩
  | tup xs => obtain ⟨z, its, r, ob, e, c⟩ := x; exact ⟨z, its, r, ob, k _ _ (.inl rfl) e, c⟩
  | dK kvs => obtain ⟨z, y, vs, r, ob, es, ep, e, c⟩ := x; exact ⟨z, y, vs, r, ob, es, ep, k _ _ (.inl rfl) e, c⟩
  | dT kvs =>
    obtain ⟨z, y, xs, r, ob, es, ep, e, c⟩ := x
    exact ⟨z, y, xs, Paired.mapP r fun p q z => ⟨z.1, ht _ _ z.2.1, z.2.2⟩, ob, es, ep, k _ _ (.inl rfl) e, c⟩
  | set S n => obtain ⟨ob, es, ep, t, e, c⟩ := x; exact ⟨ob, es, ep, t, k _ _ (.inl rfl) e, c⟩
  | ins C dx fs =>
    obtain ⟨d, z, ne, e, mA, ⟨od, es, ep, e2, c⟩, r⟩ := x
    exact ⟨ho _ d, z, ne, k _ _ (.inl rfl) e, mA, ⟨od, es, ep, k _ _ (.inr d) e2, c⟩, r⟩
  | own y => obtain ⟨ob, e⟩ := x; exact ⟨ob, k _ _ (.inl rfl) e⟩
  | xd fs => obtain ⟨mA, ⟨od, es, ep, e, c⟩, r⟩ := x; exact ⟨mA, ⟨od, es, ep, k _ _ (.inl rfl) e, c⟩, r⟩
  | rng lo hi => obtain ⟨t, u, v, e⟩ := x; exact ⟨t, u, v, k _ _ (.inl rfl) e⟩
  | frz ob u ih => obtain ⟨e, q⟩ := x; exact ⟨k _ _ (.inl rfl) e, ih q⟩
  | tbl ps =>
    have e : h.get? a = some { cls := .none, data := .fields ps } := x
    show h'.get? a = some { cls := .none, data := .fields ps }
    exact k a _ (.inl rfl) e
  | met f y =>
    have e : h.get? a = some (PySem.W.methodObj (.ref f) (.ref y)) := x
    show h'.get? a = some (PySem.W.methodObj (.ref f) (.ref y))
    exact k a _ (.inl rfl) e
  | ext φ => obtain ⟨p, ⟨o, e⟩, st⟩ := x; exact ⟨st _ _ p fun o q => k _ _ (.inl rfl) q, ⟨o, k _ _ (.inl rfl) e⟩, st⟩
theorem HOk.lt (x : HOk P w H h) (e : H a = some o) : a < h.objs.size := (x a o e).lt
theorem HOk.fresh (x : HOk P w H h) (e : h.objs.size ≤ a) : H a = none := by
  cases q : H a with
  | none => rfl
  | some u => exact absurd (Nat.lt_of_lt_of_le (x.lt q) e) (Nat.lt_irrefl _)
/-- every object of the heap is kept -/
theorem HOk.kept (x : HOk P w H h) (k : ∀ b u, h.get? b = some u → h'.get? b = some u) : HOk P w H h' := fun a o e =>
  (x a o e).stay (fun b u _ q => k b u q) (fun _ q => q) fun _ _ q => q
/-- a new object is laid and tracked -/
theorem HOk.laid (x : HOk P w H h) (k : ∀ b u, h.get? b = some u → h'.get? b = some u) (hp : h.objs.size ≤ a) (new : ObjOk P w (upd H a o) h' a o) : HOk P w (upd H a o) h' := fun b u e => by
  have hn := x.fresh hp
  by_cases hb : b = a
  · subst hb; rw [upd_same] at e; cases e; exact new
  · rw [upd_ne hb] at e
    exact (x b u e).stay (fun c v _ q => k c v q) (fun c q => by rw [upd_ne (ne_of_none q hn)]; exact q) fun c xs q => by rw [upd_ne (ne_of_none q hn)]; exact q
end

/-- what may be read as u: it is u, or a known u -/
def Rd (H : Hp) (a : Addr) (u : HO) : Prop := H a = some u ∨ ∃ o, H a = some (.frz o u)
theorem Rd.ok {P : Program} {w : World} {H : Hp} {h : Heap} {a : Addr} {u : HO} (r : Rd H a u) (x : HOk P w H h) : ObjOk P w H h a u := by
  rcases r with r | ⟨o, r⟩
  · exact x a u r
  · obtain ⟨_, q⟩ := x a _ r
    exact q
/-- what may be written -/
def Mut : Option HO → Prop
  | some (.lst _) => True
  | some (.dK _) => True
  | some (.dT _) => True
  | some (.set _ _) => True
  | some (.ins _ _ _) => True
  | some (.ext _) => True
  | _ => False
section
variable {P : Program} {w : World} {H : Hp} {h h' : Heap} {x e : Addr} {o' : HO}
/-- the object at e is changed: x itself, or the dict of the instance x -/
theorem HOk.write (ok : HOk P w H h) (mu : Mut (H x)) (he : e = x ∨ H e = some (.own x)) (k : ∀ b u, b ≠ e → h.get? b = some u → h'.get? b = some u) (heo : ∃ u, h'.get? e = some u)
    (new : ObjOk P w (upd H x o') h' x o') : HOk P w (upd H x o') h' := fun b u q => by
  have nown : ∀ c y, H c = some (.own y) → c ≠ x := fun c y r z => by subst z; rw [r] at mu; exact mu
  have ntup : ∀ c xs, H c = some (.tup xs) → c ≠ x := fun c xs r z => by subst z; rw [r] at mu; exact mu
  by_cases hb : b = x
  · subst hb; rw [upd_same] at q; cases q; exact new
  · rw [upd_ne hb] at q
    by_cases hbe : b = e
    · have q' : H b = some (.own x) := by
        rcases he with z | z
        · exact absurd (hbe.trans z) hb
        · rw [hbe]; exact z
      rw [q] at q'; cases q'
      obtain ⟨v, hv⟩ := heo
      exact ⟨v, by rw [hbe]; exact hv⟩
    · refine (ok b u q).stay (fun c v hc r => k c v ?_ r) (fun c r => by rw [upd_ne (nown c b r)]; exact r) fun c xs r => by rw [upd_ne (ntup c xs r)]; exact r
      rcases hc with rfl | hc
      · exact hbe
      · rintro rfl
        rcases he with z | z
        · exact nown c b hc z
        · rw [hc] at z; cases z; exact hb rfl
end

/-! ### kept unless tracked; of the frames at fs (the callers') the slots may change (an exception that passes writes there); of the records at ex (iterators) nothing is said -/
structure Un (fs ex : List Addr) (H H' : Hp) (h h' : Heap) : Prop where
  keep : ∀ b o, h.get? b = some o → H b = none → b ∉ fs → b ∉ ex → h'.get? b = some o
  slot : ∀ b o, h.get? b = some o → H b = none → b ∈ fs → b ∉ ex → ∃ sl, h'.get? b = some { o with slots := sl }
  free : ∀ b o, h.get? b = some o → H b = none → b ∉ ex → H' b = none
  there : ∀ b o, h.get? b = some o → b ∉ ex → ∃ o', h'.get? b = some o'
  tups : ∀ b xs, H b = some (.tup xs) → H' b = some (.tup xs)
  frzs : ∀ b o u, H b = some (.frz o u) → H' b = some (.frz o u)
  tbls : ∀ b ps, H b = some (.tbl ps) → ∃ more, H' b = some (.tbl (ps ++ more))
section
variable {fs fs' ex ex' : List Addr} {H H1 H2 : Hp} {h h1 h2 h' : Heap} {a x e : Addr} {o : HO}
theorem Un.any (u : Un fs ex H H1 h h1) {b : Addr} {ob : Obj} (q : h.get? b = some ob) (n : H b = none) (hx : b ∉ ex) : ∃ sl, h1.get? b = some { ob with slots := sl } := by
  by_cases hb : b ∈ fs
  · exact u.slot b ob q n hb hx
  · exact ⟨ob.slots, u.keep b ob q n hb hx⟩
theorem Un.kept (k : ∀ b u, h.get? b = some u → h'.get? b = some u) : Un fs ex H H h h' :=
  ⟨fun b ob q _ _ _ => k b ob q, fun b ob q _ _ _ => ⟨ob.slots, k b ob q⟩, fun _ _ _ n _ => n, fun b ob q _ => ⟨ob, k b ob q⟩, fun _ _ q => q, fun _ _ _ q => q, fun _ ps q => ⟨#[], by rw [q]; simp⟩⟩
theorem Un.refl : Un fs ex H H h h := Un.kept fun _ _ q => q
theorem Un.laid (k : ∀ b u, h.get? b = some u → h'.get? b = some u) (hp : h.objs.size ≤ a) (hn : H a = none) : Un fs ex H (upd H a o) h h' where
  keep := fun b u q _ _ _ => k b u q
  slot := fun b u q _ _ _ => ⟨u.slots, k b u q⟩
  free := fun b u q n _ => by rw [upd_ne (Nat.ne_of_lt (Nat.lt_of_lt_of_le (Heap.lt_size q) hp))]; exact n
  there := fun b u q _ => ⟨u, k b u q⟩
  tups := fun b xs q => by rw [upd_ne (ne_of_none q hn)]; exact q
  frzs := fun b u xs q => by rw [upd_ne (ne_of_none q hn)]; exact q
  tbls := fun b ps q => ⟨#[], by rw [upd_ne (ne_of_none q hn), q]; simp⟩
theorem Un.write (mu : Mut (H x)) (he : e = x ∨ H e = some (.own x)) (k : ∀ b u, b ≠ e → h.get? b = some u → h'.get? b = some u) (heo : ∃ u, h'.get? e = some u) : Un fs ex H (upd H x o) h h' := by
  have hx : ∀ b, H b = none → b ≠ x := fun b n z => by subst z; rw [n] at mu; exact mu
  have hb : ∀ b, H b = none → b ≠ e := fun b n z => by
    subst z
    rcases he with r | r
    · exact hx b n r
    · rw [n] at r; cases r
  have hm : ∀ b u, H b = some u → ¬ Mut (some u) → b ≠ x := fun b u q nm z => by subst z; rw [q] at mu; exact nm mu
  refine ⟨fun b u q n _ _ => k b u (hb b n) q, fun b u q n _ _ => ⟨u.slots, k b u (hb b n) q⟩, fun b u q n _ => by rw [upd_ne (hx b n)]; exact n, fun b u q _ => ?_,
    fun b xs q => by rw [upd_ne (hm b _ q fun z => z)]; exact q, fun b u xs q => by rw [upd_ne (hm b _ q fun z => z)]; exact q, fun b ps q => ⟨#[], by rw [upd_ne (hm b _ q fun z => z), q]; simp⟩⟩
  by_cases hbe : b = e
  · subst hbe; exact heo
  · exact ⟨u, k b u hbe q⟩
end

/-! ### the heap without what is tracked -/
def trk (h : Heap) (H : Hp) : List Addr := (List.range h.objs.size).filter fun a => (H a).isSome
def hidT (h : Heap) (H : Hp) : Heap := PySem.W.hideAll h (trk h H)
theorem hidT_size (h : Heap) (H : Hp) : (hidT h H).objs.size = h.objs.size := PySem.W.hideAll_size _ _
theorem hidT_get {h : Heap} {H : Hp} {b : Addr} {o : Obj} (e : h.get? b = some o) (n : H b = none) : (hidT h H).get? b = some o :=
  PySem.W.hideAll_get _ e fun hm => by
    have q : (H b).isSome = true := (List.mem_filter.mp hm).2
    rw [n] at q; simp at q
theorem of_hidT {h : Heap} {H : Hp} {b : Addr} {o : Obj} (e : (hidT h H).get? b = some o) : h.get? b = some o ∧ H b = none := by
  have e' : h.get? b = some o := PySem.W.of_hideAll (trk h H) e
  refine ⟨e', ?_⟩
  cases q : H b with
  | none => rfl
  | some x =>
    have hm : b ∈ trk h H := List.mem_filter.mpr ⟨List.mem_range.mpr (Heap.lt_size e'), by simp [q]⟩
    have z : (hidT h H).get? b = none := PySem.W.hideAll_none (trk h H) hm
    rw [z] at e; cases e

/-! ### OpenK's ledger, filled with every new object but one -/
def allNews (g h : Heap) (L : Addr) : List (Addr × Obj) := (List.range h.objs.size).filterMap fun a => if a = L ∨ (g.get? a).isSome = true then none else (h.get? a).map fun o => (a, o)
def rest (g h : Heap) (L d : Addr) : List (Addr × Obj) := (allNews g h L).filter fun p => decide (p.1 ≠ d)
end L2

namespace L2
open PySem PySem.Spec PyProof.Rows

/-- the module's facts, over the base: the heap at the law's entry without what is tracked there -/
structure Mod (K : PySem.W.Frag) (mg : Str → Option Value) (base : Heap) : Prop where
  kin : K.In base
  glob : base.Ns mainGlobals mg
  blt : ∃ mb, base.Ns builtinsNs mb ∧ ∀ x : Str, x ≠ "__name__" → mb x = bootBuiltins x
  nolimit : base.NoLimit

/-- the context: a def's body (or a comprehension's block) running. base: fixed through the whole law; s₀, H₀: the entry; outer: the frames whose slots others may change (a def's callers); stack: all frames that run;
   ex: iterators that were made ahead of the entry and are walked here (a comprehension's); fn: the names whose cells were made at the entry (a def: all; a comprehension's block: its own); calm: not within an except suite; pn: pins that every state bears; xe: what is wanted of an exception that leaves the code -/
structure Cx where
  prog : Program
  w : World
  K : PySem.W.Frag
  mg : Str → Option Value
  base : Heap
  A : Around
  N : List Str
  s₀ : Shared
  H₀ : Hp
  env : Env
  outer : List Env
  stack : List Env
  ex : List Addr
  fn : Str → Bool
  calm : Bool
  pn : List (Addr × Obj)
  xe : Value → Shared → Prop
/-- the callers' frames -/
def frs (l : List Env) : List Addr := l.filterMap (·.frame)
abbrev Cx.fs (X : Cx) : List Addr := frs X.outer

def Vis (sc : Scope) (x : Str) : Prop := sc.names.lookup x = some .local ∨ sc.names.lookup x = some .cell ∨ sc.names.lookup x = some .free
def Loc (sc : Scope) (x : Str) : Prop := sc.names.lookup x = some .local ∨ sc.names.lookup x = some .cell
def Look (env : Env) (h : Heap) (m : Str → Option Value) (x : Str) (u : Value) : Prop :=
  (env.kindOf x = some .local ∧ m x = some u) ∨ ((env.kindOf x = some .cell ∨ env.kindOf x = some .free) ∧ ∃ c, env.cells.lookup x = some c ∧ h.IsCell c (some u))

structure Cx.Ok (X : Cx) : Prop where
  mod : Mod X.K X.mg X.base
  kind : X.env.scope.kind = .function
  glob : X.env.globals = mainGlobals
  blt : X.env.builtins = builtinsNs
  above : X.s₀.heap.objs.size ≤ X.env.locals
  inj : ∀ x y c, X.env.cells.lookup x = some c → X.env.cells.lookup y = some c → x = y
  has : ∀ x, (X.env.kindOf x = some .cell ∨ X.env.kindOf x = some .free) → ∃ c, X.env.cells.lookup x = some c
  cab : ∀ x c, X.fn x = true → X.env.cells.lookup x = some c → X.s₀.heap.objs.size ≤ c
  hd : X.calm = true → X.A.handled = none
  frames : X.A.frames = some X.stack
  stk : X.stack = X.outer ∨ (X.stack = X.env :: X.outer ∧ X.env.frame = some X.env.locals)
  exf : ∀ b ∈ X.ex, b ≠ X.env.locals ∧ ∀ x c, X.env.cells.lookup x = some c → c ≠ b
  bs : ∀ b o, X.base.get? b = some o → X.s₀.heap.get? b = some o ∧ X.H₀ b = none
  bsz : X.base.objs.size ≤ X.s₀.heap.objs.size
  noex : ∀ b o, X.base.get? b = some o → b ∉ X.ex
  exfs : ∀ b ∈ X.ex, b ∉ X.fs
  funs : X.s₀.heap.FunFrames X.base X.outer
  frf : ∀ b ∈ X.fs, X.H₀ b = none

structure Inv (X : Cx) (pins : List (Addr × Obj)) (σ : List (Option V)) (H : Hp) (s : Shared) : Prop where
  ok : X.Ok
  os : s.os = X.s₀.os
  bare : AllBare s.gens
  base : Un X.fs X.ex X.H₀ H X.s₀.heap s.heap
  loc : ∃ m, s.heap.Ns X.env.locals m ∧ ∀ (i : Nat) (x : Str) (v : V), X.N[i]? = some x → σ[i]? = some (some v) → Vis X.env.scope x → ∃ u, RelV v u ∧ Look X.env s.heap m x u
  cell : ∀ x c, X.env.cells.lookup x = some c → ∃ v, s.heap.IsCell c v
  free : H X.env.locals = none
  freeC : ∀ x c, X.env.cells.lookup x = some c → H c = none
  pin : ∀ p ∈ X.pn ++ pins, s.heap.get? p.1 = some p.2 ∧ H p.1 = none ∧ p.1 ≠ X.env.locals ∧ p.1 ∉ X.fs ∧ ∀ v, p.2.data ≠ .cell v
  hok : HOk X.prog X.w H s.heap
  len : σ.length = X.N.length

section
variable {X : Cx} {pins : List (Addr × Obj)} {σ : List (Option V)} {H H' : Hp} {s : Shared} {h' : Heap}

theorem Cx.Ok.nofr (ok : X.Ok) {b : Addr} {o : Obj} (e : X.base.get? b = some o) : b ∉ X.fs := fun hb => by
  have := (ok.funs.mem hb).1
  rw [e] at this; cases this
theorem Inv.bs (I : Inv X pins σ H s) : ∀ b o, X.base.get? b = some o → s.heap.get? b = some o ∧ H b = none := fun b o e =>
  ⟨I.base.keep b o (I.ok.bs b o e).1 (I.ok.bs b o e).2 (I.ok.nofr e) (I.ok.noex b o e), I.base.free b o (I.ok.bs b o e).1 (I.ok.bs b o e).2 (I.ok.noex b o e)⟩
theorem Inv.bk (I : Inv X pins σ H s) : ∀ b o, X.base.get? b = some o → s.heap.get? b = some o := fun b o e => (I.bs b o e).1
theorem Inv.mod (I : Inv X pins σ H s) : Mod X.K X.mg X.base := I.ok.mod
theorem Inv.kIn (I : Inv X pins σ H s) : X.K.In s.heap := I.ok.mod.kin.keeps I.bk
theorem Inv.nolimit (I : Inv X pins σ H s) : s.heap.NoLimit := I.ok.mod.nolimit.keeps I.bk
theorem Inv.lt (I : Inv X pins σ H s) : X.env.locals < s.heap.objs.size := let ⟨_, hn, _⟩ := I.loc; hn.lt
theorem Inv.sz (I : Inv X pins σ H s) : X.s₀.heap.objs.size ≤ s.heap.objs.size := Nat.le_trans I.ok.above (Nat.le_of_lt I.lt)
theorem Inv.nofs (I : Inv X pins σ H s) {a : Addr} (h : s.heap.objs.size ≤ a) : a ∉ X.fs := fun hb => by
  obtain ⟨_, o, ho, _⟩ := I.ok.funs.mem hb
  exact absurd (Nat.lt_of_lt_of_le (Heap.lt_size ho) (Nat.le_trans I.sz h)) (Nat.lt_irrefl _)
theorem Inv.cne (I : Inv X pins σ H s) : ∀ x c, X.env.cells.lookup x = some c → c ≠ X.env.locals := fun x c e z => by
  obtain ⟨v, o, ho, hd⟩ := I.cell x c e
  obtain ⟨m, ⟨o', es, ep, ho', hd', _⟩, _⟩ := I.loc
  rw [z, ho'] at ho; cases ho; rw [hd'] at hd; cases hd
theorem Inv.funs (I : Inv X pins σ H s) : s.heap.FunFrames X.base X.outer := by
  have all : ∀ (l : List Env), (∀ b ∈ frs l, b ∈ X.fs) → X.s₀.heap.FunFrames X.base l → s.heap.FunFrames X.base l := by
    intro l
    induction l with
    | nil => intro _ _; trivial
    | cons env r ih =>
      intro hs hl
      obtain ⟨hk, ⟨L, o, hf, hn, ho, hd⟩, hr⟩ := hl
      have hL : L ∈ X.fs := hs L (by unfold frs; rw [List.filterMap_cons, hf]; exact List.mem_cons_self)
      obtain ⟨sl, e⟩ := I.base.slot L o ho (I.ok.frf L hL) hL fun z => I.ok.exfs L z hL
      exact ⟨hk, ⟨L, _, hf, hn, e, hd⟩, ih (fun b hb => hs b (by unfold frs; rw [List.filterMap_cons, hf]; exact List.mem_cons_of_mem _ hb)) hr⟩
  exact all X.outer (fun _ hb => hb) I.ok.funs

/-- the frames that run, for a call -/
theorem Inv.stack (I : Inv X pins σ H s) : s.heap.FunFrames X.base X.stack := by
  rcases I.ok.stk with e | ⟨e, hf⟩
  · rw [e]; exact I.funs
  · rw [e]
    obtain ⟨m, hn, _⟩ := I.loc
    refine .cons (by rw [I.ok.kind]; decide) hf hn ?_ I.funs
    exact Heap.get?_none_of_le (Nat.le_trans I.ok.bsz I.ok.above)
theorem Inv.stkSub (I : Inv X pins σ H s) : ∀ b ∈ frs X.stack, b ∈ X.env.locals :: X.fs := fun b hb => by
  rcases I.ok.stk with e | ⟨e, hf⟩
  · rw [e] at hb; exact List.mem_cons_of_mem _ hb
  · rw [e] at hb
    unfold frs at hb
    rw [List.filterMap_cons, hf] at hb
    exact hb
theorem Inv.stkFree (I : Inv X pins σ H s) : ∀ b ∈ frs X.stack, H b = none := fun b hb => by
  rcases List.mem_cons.mp (I.stkSub b hb) with e | hb
  · rw [e]; exact I.free
  · obtain ⟨_, o, ho, _⟩ := I.ok.funs.mem hb
    exact I.base.free b o ho (I.ok.frf b hb) fun z => I.ok.exfs b z hb

/-- THE STEP: the untracked objects but the frame and the records at ch are kept (the callers' frames up to slots), the frame's map is kept, the new abstract heap is held -/
theorem Inv.step {g' : Array GenState} {t' : Nat} {d' : Drawn} {ch : List Addr} (I : Inv X pins σ H s)
    (hch : ∀ b ∈ ch, (b ∈ X.ex ∨ X.s₀.heap.objs.size ≤ b) ∧ b ≠ X.env.locals ∧ (∀ x c, X.env.cells.lookup x = some c → c ≠ b) ∧ ∀ p ∈ X.pn ++ pins, p.1 ≠ b)
    (keep : ∀ b o, b ≠ X.env.locals → b ∉ X.fs → b ∉ ch → s.heap.get? b = some o → H b = none → h'.get? b = some o)
    (slot : ∀ b o, b ≠ X.env.locals → b ∈ X.fs → b ∉ ch → s.heap.get? b = some o → H b = none → ∃ sl, h'.get? b = some { o with slots := sl }) (free : ∀ b o, b ∉ ch → s.heap.get? b = some o → H b = none → H' b = none)
    (there : ∀ b o, b ∉ ch → s.heap.get? b = some o → ∃ o', h'.get? b = some o')
    (tups : ∀ b xs, H b = some (.tup xs) → H' b = some (.tup xs)) (frzs : ∀ b o u, H b = some (.frz o u) → H' b = some (.frz o u)) (tbls : ∀ b ps, H b = some (.tbl ps) → ∃ more, H' b = some (.tbl (ps ++ more)))
    (ns : ∀ m, s.heap.Ns X.env.locals m → h'.Ns X.env.locals m) (hok : HOk X.prog X.w H' h') (hg : AllBare g') :
    Inv X pins σ H' { s with heap := h', gens := g', drawn := d', toks := t' } := by
  have neL : ∀ b o, X.s₀.heap.get? b = some o → b ≠ X.env.locals := fun b o e => Nat.ne_of_lt (Nat.lt_of_lt_of_le (Heap.lt_size e) I.ok.above)
  have neC : ∀ b o, X.s₀.heap.get? b = some o → b ∉ X.ex → b ∉ ch := fun b o e hx hb => by
    rcases (hch b hb).1 with z | z
    · exact hx z
    · exact absurd (Nat.lt_of_lt_of_le (Heap.lt_size e) z) (Nat.lt_irrefl _)
  have cellK : ∀ x c, X.env.cells.lookup x = some c → ∀ v, s.heap.IsCell c v → h'.IsCell c v := fun x c e v ⟨o, ho, hd⟩ => by
    have nch : c ∉ ch := fun z => (hch c z).2.2.1 x c e rfl
    by_cases hc : c ∈ X.fs
    · obtain ⟨sl, q⟩ := slot c o (I.cne x c e) hc nch ho (I.freeC x c e)
      exact ⟨_, q, hd⟩
    · exact ⟨o, keep c o (I.cne x c e) hc nch ho (I.freeC x c e), hd⟩
  refine ⟨I.ok, I.os, hg, ⟨fun b o e n hb hx => ?_, fun b o e n hb hx => ?_, fun b o e n hx => ?_, fun b o e hx => ?_, fun b xs e => tups b xs (I.base.tups b xs e), fun b o xs e => frzs b o xs (I.base.frzs b o xs e), fun b ps e => ?_⟩, ?_, fun x c e => ?_, ?_, fun x c e => ?_, fun p hp => ?_, hok, I.len⟩
  · exact keep b o (neL b o e) hb (neC b o e hx) (I.base.keep b o e n hb hx) (I.base.free b o e n hx)
  · obtain ⟨sl, e1⟩ := I.base.slot b o e n hb hx
    obtain ⟨sl', e2⟩ := slot b _ (neL b o e) hb (neC b o e hx) e1 (I.base.free b o e n hx)
    exact ⟨sl', e2⟩
  · obtain ⟨o', e1⟩ := I.base.there b o e hx
    exact free b o' (neC b o e hx) e1 (I.base.free b o e n hx)
  · obtain ⟨o', e1⟩ := I.base.there b o e hx
    exact there b o' (neC b o e hx) e1
  · obtain ⟨m1, e1⟩ := I.base.tbls b ps e
    obtain ⟨m2, e2⟩ := tbls b _ e1
    exact ⟨m1 ++ m2, by rw [e2, Array.append_assoc]⟩
  · obtain ⟨m, hn, hl⟩ := I.loc
    refine ⟨m, ns m hn, fun i x v e1 e2 e3 => ?_⟩
    obtain ⟨u, r, l⟩ := hl i x v e1 e2 e3
    refine ⟨u, r, ?_⟩
    rcases l with l | ⟨k, c, e, z⟩
    · exact .inl l
    · exact .inr ⟨k, c, e, cellK x c e _ z⟩
  · obtain ⟨v, z⟩ := I.cell x c e
    exact ⟨v, cellK x c e v z⟩
  · obtain ⟨m, ⟨o, _, _, ho, _⟩, _⟩ := I.loc
    exact free _ o (fun z => (hch _ z).2.1 rfl) ho I.free
  · obtain ⟨v, o, ho, hd⟩ := I.cell x c e
    exact free c o (fun z => (hch c z).2.2.1 x c e rfl) ho (I.freeC x c e)
  · obtain ⟨e, n, ne, nf, d⟩ := I.pin p hp
    have nch : p.1 ∉ ch := fun z => (hch p.1 z).2.2.2 p hp rfl
    exact ⟨keep p.1 p.2 ne nf nch e n, free p.1 p.2 nch e n, ne, nf, d⟩
/-- .. where the frame's own object is kept too -/
theorem Inv.un {t' : Nat} (I : Inv X pins σ H s) (u : Un X.fs [] H H' s.heap h') (hok : HOk X.prog X.w H' h') : Inv X pins σ H' { s with heap := h', toks := t' } := by
  obtain ⟨m, ⟨o, es, ep, ho, r⟩, _⟩ := id I.loc
  obtain ⟨sl, hL⟩ := u.any ho I.free (by simp)
  exact I.step (g' := s.gens) (d' := s.drawn) (ch := []) (fun _ z => nomatch z) (fun b o _ hb _ e n => u.keep b o e n hb (by simp)) (fun b o _ hb _ e n => u.slot b o e n hb (by simp)) (fun b o _ e n => u.free b o e n (by simp)) (fun b o _ e => u.there b o e (by simp)) u.tups u.frzs u.tbls (fun m' hm => by
    obtain ⟨o', es', ep', ho', r'⟩ := hm
    rw [ho] at ho'; cases ho'
    exact ⟨_, es', ep', hL, r'⟩) hok I.bare
/-- behind a call (or a comprehension's block): the slots of this frame may have changed too, the records at ch may have turned -/
theorem Inv.call {g' : Array GenState} {t' : Nat} {d' : Drawn} {ch : List Addr} (I : Inv X pins σ H s) (u : Un (frs X.stack) ch H H' s.heap h') (hok : HOk X.prog X.w H' h') (hg : AllBare g')
    (hch : ∀ b ∈ ch, (b ∈ X.ex ∨ X.s₀.heap.objs.size ≤ b) ∧ b ≠ X.env.locals ∧ (∀ x c, X.env.cells.lookup x = some c → c ≠ b) ∧ ∀ p ∈ X.pn ++ pins, p.1 ≠ b) :
    Inv X pins σ H' { s with heap := h', gens := g', drawn := d', toks := t' } := by
  obtain ⟨m, ⟨o, es, ep, ho, r⟩, _⟩ := id I.loc
  obtain ⟨sl, hL⟩ := u.any ho I.free fun z => (hch _ z).2.1 rfl
  exact I.step (ch := ch) hch (fun b o hL hb hc e n => u.keep b o e n (fun z => (List.mem_cons.mp (I.stkSub b z)).elim hL hb) hc) (fun b o _ _ hc e n => u.any e n hc) (fun b o hc e n => u.free b o e n hc) (fun b o hc e => u.there b o e hc) u.tups u.frzs u.tbls (fun m' hm => by
    obtain ⟨o', es', ep', ho', r'⟩ := hm
    rw [ho] at ho'; cases ho'
    exact ⟨_, es', ep', hL, r'⟩) hok hg
/-- an untracked record of ours (an iterator) has turned -/
theorem Inv.turned {t' : Nat} {it : Addr} (I : Inv X pins σ H s) (k : ∀ b o, b ≠ it → s.heap.get? b = some o → h'.get? b = some o) (hn : H it = none) (hL : it ≠ X.env.locals)
    (h1 : it ∈ X.ex ∨ X.s₀.heap.objs.size ≤ it) (h2 : ∀ x c, X.env.cells.lookup x = some c → c ≠ it) (h3 : ∀ p ∈ X.pn ++ pins, p.1 ≠ it) : Inv X pins σ H { s with heap := h', toks := t' } := by
  have nit : ∀ b u, H b = some u → b ≠ it := fun b u e z => by rw [z, hn] at e; cases e
  refine I.step (g' := s.gens) (d' := s.drawn) (ch := [it]) (fun b hb => ?_) (fun b o _ _ hc e _ => k b o (fun z => hc (by simp [z])) e) (fun b o _ _ hc e _ => ⟨o.slots, k b o (fun z => hc (by simp [z])) e⟩) (fun _ _ _ _ n => n)
    (fun b o hc e => ⟨o, k b o (fun z => hc (by simp [z])) e⟩) (fun _ _ e => e) (fun _ _ _ e => e) (fun b ps e => ⟨#[], by rw [e]; simp⟩) (fun m hm => ?_) (fun b u e => ?_) I.bare
  · have e : b = it := by simpa using hb
    subst e
    exact ⟨h1, hL, h2, h3⟩
  · obtain ⟨o, es, ep, ho, r⟩ := hm
    exact ⟨o, es, ep, k _ o (Ne.symm hL) ho, r⟩
  · refine (I.hok b u e).stay (fun c v hc q => k c v ?_ q) (fun _ q => q) fun _ _ q => q
    rcases hc with z | z
    · rw [z]; exact nit b u e
    · exact nit c _ z
theorem Inv.tok (I : Inv X pins σ H s) (t : Nat) : Inv X pins σ H { s with toks := t } := I.un (h' := s.heap) (t' := t) Un.refl I.hok
/-- all objects kept -/
theorem Inv.kept {t' : Nat} (I : Inv X pins σ H s) (k : ∀ b u, s.heap.get? b = some u → h'.get? b = some u) : Inv X pins σ H { s with heap := h', toks := t' } := I.un (Un.kept k) (I.hok.kept k)
/-- a new object laid and tracked -/
theorem Inv.laid {a : Addr} {o : HO} {t' : Nat} (I : Inv X pins σ H s) (k : ∀ b u, s.heap.get? b = some u → h'.get? b = some u) (hp : s.heap.objs.size ≤ a) (new : ObjOk X.prog X.w (upd H a o) h' a o) :
    Inv X pins σ (upd H a o) { s with heap := h', toks := t' } := I.un (Un.laid k hp (I.hok.fresh hp)) (I.hok.laid k hp new)
/-- an object written -/
theorem Inv.write {x e : Addr} {o : HO} {t' : Nat} (I : Inv X pins σ H s) (mu : Mut (H x)) (he : e = x ∨ H e = some (.own x)) (k : ∀ b u, b ≠ e → s.heap.get? b = some u → h'.get? b = some u) (heo : ∃ u, h'.get? e = some u)
    (new : ObjOk X.prog X.w (upd H x o) h' x o) : Inv X pins σ (upd H x o) { s with heap := h', toks := t' } := I.un (Un.write mu he k heo) (I.hok.write mu he k heo new)
/-- forgetting slots, pins -/
theorem Inv.weak {σ' : List (Option V)} (I : Inv X pins σ H s) (hl : σ'.length = σ.length) (w : ∀ (i : Nat) v, σ'[i]? = some (some v) → σ[i]? = some (some v)) : Inv X pins σ' H s :=
  ⟨I.ok, I.os, I.bare, I.base, let ⟨m, hn, hl'⟩ := I.loc; ⟨m, hn, fun i x v e1 e2 e3 => hl' i x v e1 (w i v e2) e3⟩, I.cell, I.free, I.freeC, I.pin, I.hok, hl.trans I.len⟩
theorem Inv.pins_of {pins' : List (Addr × Obj)} (I : Inv X pins σ H s) (h : ∀ p ∈ pins', s.heap.get? p.1 = some p.2 ∧ H p.1 = none ∧ p.1 ≠ X.env.locals ∧ p.1 ∉ X.fs ∧ ∀ v, p.2.data ≠ .cell v) : Inv X pins' σ H s :=
  ⟨I.ok, I.os, I.bare, I.base, I.loc, I.cell, I.free, I.freeC, fun p hp => (List.mem_append.mp hp).elim (fun z => I.pin p (List.mem_append_left _ z)) (h p), I.hok, I.len⟩

theorem nodup_ix {N : List Str} (hN : N.Nodup) {i j : Nat} {x : Str} (a : N[i]? = some x) (b : N[j]? = some x) : i = j := by
  obtain ⟨h1, e1⟩ := List.getElem?_eq_some_iff.mp a
  obtain ⟨h2, e2⟩ := List.getElem?_eq_some_iff.mp b
  exact (List.getElem_inj hN).mp (e1.trans e2.symm)

/-- a name is stored; what changed -/
theorem store_ok2 {M : Model} {A : Around} {E : Value → Shared → Prop} {i : Nat} {x : Str} {v : V} {u : Value} {Q : Unit → Shared → Prop} (I : Inv X pins σ H s) (hN : X.N.Nodup) (hi : X.N[i]? = some x) (hx : Loc X.env.scope x) (r : RelV v u)
    (h : ∀ s', Inv X pins (σ.set i (some v)) H s' → (∃ a, Heap.SameBut a s.heap s'.heap ∧ (a = X.env.locals ∨ X.env.cells.lookup x = some a)) → Q () s') (hf : X.fn x = true ∨ X.env.scope.names.lookup x = some .local := by first | exact .inl rfl | exact .inr rfl | assumption) : wpAny M A (storeName X.env x u) Q E s := by
  obtain ⟨m, hn, hl⟩ := id I.loc
  have hcls : (X.env.scope.kind == .class || (X.env.scope.kind == .module && X.env.locals != X.env.globals)) = false := by rw [I.ok.kind]; rfl
  have hiσ : i < σ.length := by rw [I.len]; exact (List.getElem?_eq_some_iff.mp hi).1
  have cne := I.cne
  have tracked : ∀ {a : Addr} {h' : Heap}, (∃ o, s.heap.get? a = some o ∧ H a = none) → Heap.SameBut a s.heap h' → HOk X.prog X.w H h' := fun {a h'} ha hs b ob e => by
    obtain ⟨_, _, hfree⟩ := ha
    refine (I.hok b ob e).stay (fun c w' hc q => (hs.2 c ?_).trans q) (fun _ q => q) fun _ _ q => q
    rintro rfl
    rcases hc with rfl | hc
    · rw [hfree] at e; cases e
    · rw [hfree] at hc; cases hc
  rcases hx with hk | hk
  · refine wpAny_storeName_local hk hn (fun h' hn' hs => ?_) hcls
    obtain ⟨oL, _, _, hoL, _⟩ := id hn
    refine h _ ⟨I.ok, I.os, I.bare, ⟨fun b o e n hb hx => ?_, fun b o e n hb hx => ?_, I.base.free, fun b o e hx => ?_, I.base.tups, I.base.frzs, I.base.tbls⟩, ⟨_, hn', fun j y v' e1 e2 e3 => ?_⟩, fun y c e => ?_, I.free, I.freeC, fun p hp => ?_, tracked ⟨oL, hoL, I.free⟩ hs, by simpa using I.len⟩ ⟨_, hs, .inl rfl⟩
    · exact (hs.2 b (Nat.ne_of_lt (Nat.lt_of_lt_of_le (Heap.lt_size e) I.ok.above))).trans (I.base.keep b o e n hb hx)
    · obtain ⟨sl, e1⟩ := I.base.slot b o e n hb hx
      exact ⟨sl, (hs.2 b (Nat.ne_of_lt (Nat.lt_of_lt_of_le (Heap.lt_size e) I.ok.above))).trans e1⟩
    · obtain ⟨o', e1⟩ := I.base.there b o e hx
      exact ⟨o', (hs.2 b (Nat.ne_of_lt (Nat.lt_of_lt_of_le (Heap.lt_size e) I.ok.above))).trans e1⟩
    · by_cases hj : j = i
      · subst hj
        rw [hi] at e1; cases e1
        rw [List.getElem?_set_self hiσ] at e2
        cases e2
        exact ⟨u, r, .inl ⟨hk, by simp⟩⟩
      · rw [List.getElem?_set_ne (Ne.symm hj)] at e2
        obtain ⟨u', r', q⟩ := hl j y v' e1 e2 e3
        refine ⟨u', r', ?_⟩
        rcases q with ⟨k, e⟩ | ⟨k, c, e, z⟩
        · refine .inl ⟨k, ?_⟩
          have : y ≠ x := fun e => hj (nodup_ix hN e1 (e ▸ hi))
          simp [this, e]
        · exact .inr ⟨k, c, e, z.sameBut hs (cne y c e)⟩
    · obtain ⟨w', z⟩ := I.cell y c e
      exact ⟨w', z.sameBut hs (cne y c e)⟩
    · obtain ⟨e, n, ne, nf, d⟩ := I.pin p hp
      exact ⟨(hs.2 p.1 ne).trans e, n, ne, nf, d⟩
  · have hfn : X.fn x = true := by
      rcases hf with z | z
      · exact z
      · rw [z] at hk; cases hk
    obtain ⟨c, hc⟩ := I.ok.has x (.inl hk)
    obtain ⟨w', z⟩ := I.cell x c hc
    refine wpAny_storeName_cell I.ok.kind hk hc z (fun h' hc' hs => ?_)
    obtain ⟨oc, hoc, hocd⟩ := id z
    refine h { s with heap := h' } ⟨I.ok, I.os, I.bare, ⟨fun b o e n hb hx => ?_, fun b o e n hb hx => ?_, I.base.free, fun b o e hx => ?_, I.base.tups, I.base.frzs, I.base.tbls⟩, ⟨m, hn.sameBut hs (Ne.symm (cne x c hc)), fun j y v' e1 e2 e3 => ?_⟩, fun y c' e => ?_, I.free, I.freeC, fun p hp => ?_, tracked ⟨oc, hoc, I.freeC x c hc⟩ hs, by simpa using I.len⟩ ⟨c, hs, .inr hc⟩
    · exact (hs.2 b (Nat.ne_of_lt (Nat.lt_of_lt_of_le (Heap.lt_size e) (I.ok.cab x c hfn hc)))).trans (I.base.keep b o e n hb hx)
    · obtain ⟨sl, e1⟩ := I.base.slot b o e n hb hx
      exact ⟨sl, (hs.2 b (Nat.ne_of_lt (Nat.lt_of_lt_of_le (Heap.lt_size e) (I.ok.cab x c hfn hc)))).trans e1⟩
    · obtain ⟨o', e1⟩ := I.base.there b o e hx
      exact ⟨o', (hs.2 b (Nat.ne_of_lt (Nat.lt_of_lt_of_le (Heap.lt_size e) (I.ok.cab x c hfn hc)))).trans e1⟩
    · by_cases hj : j = i
      · subst hj
        rw [hi] at e1; cases e1
        rw [List.getElem?_set_self hiσ] at e2
        cases e2
        exact ⟨u, r, .inr ⟨.inl hk, c, hc, hc'⟩⟩
      · rw [List.getElem?_set_ne (Ne.symm hj)] at e2
        obtain ⟨u', r', q⟩ := hl j y v' e1 e2 e3
        refine ⟨u', r', ?_⟩
        rcases q with q | ⟨k, c', e, z'⟩
        · exact .inl q
        · refine .inr ⟨k, c', e, z'.sameBut hs ?_⟩
          rintro rfl
          exact hj (nodup_ix hN e1 (I.ok.inj _ _ _ e hc ▸ hi))
    · by_cases hcc : c' = c
      · subst hcc; exact ⟨_, hc'⟩
      · obtain ⟨w2, z2⟩ := I.cell y c' e
        exact ⟨w2, z2.sameBut hs hcc⟩
    · obtain ⟨e, n, ne, nf, d⟩ := I.pin p hp
      refine ⟨(hs.2 p.1 ?_).trans e, n, ne, nf, d⟩
      intro q
      rw [q, hoc] at e
      have q' : oc = p.2 := Option.some.inj e
      exact d w' (by rw [← q']; exact hocd)
theorem store_ok {M : Model} {A : Around} {E : Value → Shared → Prop} {i : Nat} {x : Str} {v : V} {u : Value} {Q : Unit → Shared → Prop} (I : Inv X pins σ H s) (hN : X.N.Nodup) (hi : X.N[i]? = some x) (hx : Loc X.env.scope x) (r : RelV v u)
    (h : ∀ s', Inv X pins (σ.set i (some v)) H s' → Q () s') (hf : X.fn x = true ∨ X.env.scope.names.lookup x = some .local := by first | exact .inl rfl | exact .inr rfl | assumption) : wpAny M A (storeName X.env x u) Q E s :=
  store_ok2 I hN hi hx r (fun s' I' _ => h s' I') hf
/-- behind a call or a block, the state as it is -/
theorem Inv.call' {s' : Shared} {ch : List Addr} (I : Inv X pins σ H s) (ho : s'.os = s.os) (u : Un (frs X.stack) ch H H' s.heap s'.heap) (hok : HOk X.prog X.w H' s'.heap) (hg : AllBare s'.gens)
    (hch : ∀ b ∈ ch, (b ∈ X.ex ∨ X.s₀.heap.objs.size ≤ b) ∧ b ≠ X.env.locals ∧ (∀ x c, X.env.cells.lookup x = some c → c ≠ b) ∧ ∀ p ∈ X.pn ++ pins, p.1 ≠ b) : Inv X pins σ H' s' := by
  obtain ⟨h', g', d', t', o'⟩ := s'
  have e : o' = s.os := ho
  subst e
  exact I.call (g' := g') (t' := t') (d' := d') u hok hg hch
end

/-! ### the judgements -/
/-- an exception: its class, its own dict's address (where it has one), the abstract heap behind it -/
abbrev XK := Value → Option Addr → Hp → Prop
abbrev St := List (Option V)
abbrev VK := V → Hp → Prop
/-- an expression's reading; a test's; an argument list's -/
abbrev TE := St → Hp → VK → Prop
abbrev TT := St → Hp → (Bool → Hp → Prop) → Prop
abbrev TA := St → Hp → (List V → Hp → Prop) → Prop
/-- what is wanted behind a statement -/
structure Ends where
  nx : St → Hp → Prop
  rt : VK
  bk : St → Hp → Prop := fun _ _ => False
  ct : St → Hp → Prop := fun _ _ => False
abbrev TS := Ends → St → Hp → Prop

def EP (X : Cx) (pins : List (Addr × Obj)) (σ : St) (Q : VK) (u : Value) (s' : Shared) : Prop := ∃ v H', Inv X pins σ H' s' ∧ RelV v u ∧ Q v H'
def TP (X : Cx) (pins : List (Addr × Obj)) (σ : St) (Q : Bool → Hp → Prop) (b : Bool) (s' : Shared) : Prop := ∃ H', Inv X pins σ H' s' ∧ Q b H'
def AP (X : Cx) (pins : List (Addr × Obj)) (σ : St) (Q : List V → Hp → Prop) (us : List Value) (s' : Shared) : Prop := ∃ vs H', Inv X pins σ H' s' ∧ Vals vs us ∧ Q vs H'
def SP (X : Cx) (pins : List (Addr × Obj)) (D : Ends) (f : Flow) (s' : Shared) : Prop :=
  match f with
  | .next => ∃ σ' H', Inv X pins σ' H' s' ∧ D.nx σ' H'
  | .brk => ∃ σ' H', Inv X pins σ' H' s' ∧ D.bk σ' H'
  | .cont => ∃ σ' H', Inv X pins σ' H' s' ∧ D.ct σ' H'
  | .ret u => ∃ v σ' H', Inv X pins σ' H' s' ∧ RelV v u ∧ D.rt v H'

def PE (X : Cx) (e : Expr) (t : TE) : Prop :=
  ∀ (pins : List (Addr × Obj)) (s : Shared) (σ : St) (H : Hp) (Q : VK), Inv X pins σ H s → t σ H Q → wpAny (model X.prog X.w) X.A (eval e X.env) (EP X pins σ Q) X.xe s
def PT (X : Cx) (e : Expr) (t : TT) : Prop :=
  ∀ (pins : List (Addr × Obj)) (s : Shared) (σ : St) (H : Hp) (Q : Bool → Hp → Prop), Inv X pins σ H s → t σ H Q → wpAny (model X.prog X.w) X.A (isTrue e X.env (eval e X.env)) (TP X pins σ Q) X.xe s
/-- a test whatever its 'whole' is (and, or) -/
def PW (X : Cx) (e : Expr) (t : TT) : Prop :=
  ∀ (whole : Sem Value) (pins : List (Addr × Obj)) (s : Shared) (σ : St) (H : Hp) (Q : Bool → Hp → Prop), Inv X pins σ H s → t σ H Q → wpAny (model X.prog X.w) X.A (isTrue e X.env whole) (TP X pins σ Q) X.xe s
theorem PW.pt {X : Cx} {e : Expr} {t : TT} (h : PW X e t) : PT X e t := h _
/-- an argument list (no star), from the left -/
def PA (X : Cx) (es : List Expr) (t : TA) : Prop :=
  ∀ (pos : Pos) (pins : List (Addr × Obj)) (s : Shared) (σ : St) (H : Hp) (Q : List V → Hp → Prop), Inv X pins σ H s → t σ H Q → wpAny (model X.prog X.w) X.A (spliced (backTo pos (starEach es X.env))) (AP X pins σ Q) X.xe s
def PS (X : Cx) (st : Stmt) (t : TS) : Prop :=
  ∀ (pins : List (Addr × Obj)) (s : Shared) (σ : St) (H : Hp) (D : Ends), Inv X pins σ H s → t D σ H → wpAny (model X.prog X.w) X.A (exec st X.env) (SP X pins D) X.xe s
def PSs (X : Cx) (st : List Stmt) (t : TS) : Prop :=
  ∀ (pins : List (Addr × Obj)) (s : Shared) (σ : St) (H : Hp) (D : Ends), Inv X pins σ H s → t D σ H → wpAny (model X.prog X.w) X.A (execs st X.env) (SP X pins D) X.xe s
/-- weaken the end -/
theorem thn {α : Type} {t : Sem α} {Q Q' : α → Shared → Prop} {M : Model} {A : Around} {E : Value → Shared → Prop} {s : Shared} (h : wpAny M A t Q E s) (hQ : ∀ a s, Q a s → Q' a s) : wpAny M A t Q' E s := wpAny_mono h hQ fun _ _ x => x
end L2

namespace L2
open PySem PySem.Spec PyProof.Rows
section
variable {X : Cx}


/-! ### names and constants -/
def tVar (i : Nat) : TE := fun σ H Q => ∃ v, σ[i]? = some (some v) ∧ Q v H
def tC (v : V) : TE := fun _ H Q => Q v H
theorem pe_var {i : Nat} {x : Str} {pos : Pos} (hN : X.N[i]? = some x) (hv : Vis X.env.scope x) (hd : (x == ("__debug__" : Str)) = false := by decide) (hcd : (x == ("__classdict__" : Str)) = false := by decide) : PE X (.Name x pos) (tVar i) := by
  intro pins s σ H Q I h
  obtain ⟨v, e, h⟩ := h
  obtain ⟨m, hn, hl⟩ := I.loc
  obtain ⟨u, r, l⟩ := hl i x v hN e hv
  have fin : EP X pins σ Q u s := ⟨v, H, I, r, h⟩
  rcases l with ⟨hk, hm⟩ | ⟨hk, c, hc, hcell⟩
  · exact wpAny_Name (wpAny_loadName_local I.ok.kind hk hn hm fin) hd
  · rcases hk with hk | hk
    · exact wpAny_Name (wpAny_loadName_cell I.ok.kind hk hc hcell fin) hd
    · exact wpAny_Name (wpAny_loadName_free I.ok.kind hk hc hcell fin hcd) hd
theorem pe_int {i j pos} : PE X (.Constant (.int i) j pos) (tC (.int i)) := fun _ _ _ H _ I h => wpAny_Constant_int ⟨.int i, H, I.tok _, ⟨_, rfl⟩, h⟩
theorem pe_bl {b j pos} : PE X (.Constant (.bool b) j pos) (tC (.bl b)) := fun _ _ _ H _ I h => Constant_bool ⟨.bl b, H, I, rfl, h⟩
theorem pe_non {j pos} : PE X (.Constant .none j pos) (tC .non) := fun _ _ _ H _ I h => Constant_none ⟨.non, H, I, rfl, h⟩
theorem pe_str {x j pos} : PE X (.Constant (.str x) j pos) (tC (.str x)) := fun _ _ _ H _ I h => Calls.Constant_str ⟨.str x, H, I.tok _, ⟨_, rfl⟩, h⟩

/-- a global name of the def -/
def Gl (X : Cx) (x : Str) : Prop := X.env.kindOf x = some .globalImplicit
theorem ld_glob {E : Value → Shared → Prop} {pins : List (Addr × Obj)} {s : Shared} {σ : St} {H : Hp} {x : Str} {u : Value} {pos : Pos} {Q : Value → Shared → Prop} (I : Inv X pins σ H s) (hg : Gl X x) (hm : X.mg x = some u) (h : Q u s)
    (hd : (x == ("__debug__" : Str)) = false := by decide) : wpAny (model X.prog X.w) X.A (eval (.Name x pos) X.env) Q E s :=
  Calls.Name_function_global I.ok.kind hg (Calls.loadGlobal_global (by rw [I.ok.glob]; exact I.mod.glob.keeps I.bk) hm h) hd
theorem ld_blt {E : Value → Shared → Prop} {pins : List (Addr × Obj)} {s : Shared} {σ : St} {H : Hp} {x : Str} {u : Value} {pos : Pos} {Q : Value → Shared → Prop} (I : Inv X pins σ H s) (hg : Gl X x) (hm : X.mg x = none) (hv : bootBuiltins x = some u) (h : Q u s)
    (hn : x ≠ "__name__" := by decide) (hd : (x == ("__debug__" : Str)) = false := by decide) : wpAny (model X.prog X.w) X.A (eval (.Name x pos) X.env) Q E s := by
  obtain ⟨mb, h1, h2⟩ := I.mod.blt
  exact Calls.Name_function_global I.ok.kind hg (Calls.loadGlobal_builtin (by rw [I.ok.glob]; exact I.mod.glob.keeps I.bk) hm (by rw [I.ok.blt]; exact h1.keeps I.bk) ((h2 x hn).trans hv) h) hd
/-- a module's constant, a class, a function, as a value -/
theorem pe_glob {x : Str} {v : V} {u : Value} {pos : Pos} (hg : Gl X x) (hm : X.mg x = some u) (r : RelV v u) (hd : (x == ("__debug__" : Str)) = false := by decide) : PE X (.Name x pos) (tC v) :=
  fun _ _ _ H _ I h => ld_glob I hg hm ⟨v, H, I, r, h⟩ hd
theorem pe_bltn {x : Str} {v : V} {u : Value} {pos : Pos} (hg : Gl X x) (hm : X.mg x = none) (hv : bootBuiltins x = some u) (r : RelV v u) (hn : x ≠ "__name__" := by decide) (hd : (x == ("__debug__" : Str)) = false := by decide) : PE X (.Name x pos) (tC v) :=
  fun _ _ _ H _ I h => ld_blt I hg hm hv ⟨v, H, I, r, h⟩ hn hd

/-! ### arithmetic -/
variable {a b : Expr} {ta tb : TE} {pos : Pos}

/-! ### comparisons -/
/-- a comparison as a value, as a test -/
def tB (t : TE) : TT := fun σ H Q => t σ H fun x H1 => ∃ c, x = .bl c ∧ Q c H1
/-- an expression whose value is a bool, as a test -/
theorem pt_val {e : Expr} {t : TE} (h : PE X e t) (he : ∀ whole, isTrue e X.env whole = (do let v ← whole; standAt e.pos; holding [v] (truthy v)) := by intro _; rfl) : PT X e (tB t) := by
  intro pins s σ H Q I hw
  refine isTrue_plain (thn (h pins s σ H _ I hw) fun v s1 ⟨x, H1, I1, r1, q1⟩ => ?_) (he _)
  obtain ⟨d, rfl, q⟩ := q1
  cases r1
  exact wpAny_truthy_bool ⟨H1, I1, q⟩

/-! ### and, or, not -/
variable {tA tB' : TT} {rest : List Expr}
def tAnd (t u : TT) : TT := fun σ H Q => t σ H fun c H1 => if c = true then u σ H1 Q else Q false H1
def tOr (t u : TT) : TT := fun σ H Q => t σ H fun c H1 => if c = true then Q true H1 else u σ H1 Q
def tNot (t : TT) : TT := fun σ H Q => t σ H fun c H1 => Q (!c) H1
theorem pw_and1 (ha : PT X a tA) : PW X (.BoolOp .And [a] pos) tA := by
  intro wh pins s σ H Q I h
  refine isTrue_and (thn (ha pins s σ H Q I h) fun c s1 e => ?_)
  cases c with
  | true => exact isTrue_and_nil e
  | false => exact e
theorem pw_or1 (ha : PT X a tA) : PW X (.BoolOp .Or [a] pos) tA := by
  intro wh pins s σ H Q I h
  refine isTrue_or (thn (ha pins s σ H Q I h) fun c s1 e => ?_)
  cases c with
  | false => exact isTrue_or_nil e
  | true => exact e
theorem pw_and (ha : PT X a tA) (hb : PW X (.BoolOp .And (b :: rest) pos) tB') : PW X (.BoolOp .And (a :: b :: rest) pos) (tAnd tA tB') := by
  intro wh pins s σ H Q I h
  refine isTrue_and (thn (ha pins s σ H _ I h) fun c s1 ⟨H1, I1, q1⟩ => ?_)
  cases c with
  | true => exact hb wh pins s1 σ H1 Q I1 q1
  | false => exact ⟨H1, I1, q1⟩
theorem pw_or (ha : PT X a tA) (hb : PW X (.BoolOp .Or (b :: rest) pos) tB') : PW X (.BoolOp .Or (a :: b :: rest) pos) (tOr tA tB') := by
  intro wh pins s σ H Q I h
  refine isTrue_or (thn (ha pins s σ H _ I h) fun c s1 ⟨H1, I1, q1⟩ => ?_)
  cases c with
  | true => exact ⟨H1, I1, q1⟩
  | false => exact hb wh pins s1 σ H1 Q I1 q1
theorem pt_not (ha : PT X a tA) : PT X (.UnaryOp .Not a pos) (tNot tA) := by
  intro pins s σ H Q I h
  exact isTrue_not (ha pins s σ H (fun c H1 => Q (!c) H1) I h)
/-- .. as values (bools) -/
def tAndV (ta tb : TE) : TE := fun σ H Q => ta σ H fun x H1 => ∃ c, x = .bl c ∧ if c = true then tb σ H1 Q else Q (.bl false) H1
theorem pe_one {op} {t : TE} (h : PE X a t) : PE X (.BoolOp op [a] pos) t := fun pins s σ H Q I hw => BoolOp_one (h pins s σ H Q I hw)
theorem pe_and (ha : PE X a ta) (hb : PE X (.BoolOp .And (b :: rest) pos) tb) : PE X (.BoolOp .And (a :: b :: rest) pos) (tAndV ta tb) := by
  intro pins s σ H Q I h
  refine BoolOp_and (thn (ha pins s σ H _ I h) fun v s1 ⟨x, H1, I1, r1, q1⟩ => ?_)
  obtain ⟨c, rfl, q1⟩ := q1
  cases r1
  refine wpAny_truthy_bool ?_
  cases c with
  | true => exact hb pins s1 σ H1 Q I1 q1
  | false => exact ⟨.bl false, H1, I1, rfl, q1⟩
end
end L2

namespace L2
open PySem PySem.Spec PyProof.Rows

/-! ### a list, a tuple that is read: tracked, frozen, or an object of the module -/
def SqL (K : PySem.W.Frag) (H : Hp) (a : Addr) (xs : List V) : Prop :=
  Rd H a (.lst xs) ∨
    ∃ (o : Obj) (its : Array Value) (n : Nat), K.lookup a = some o ∧ o.cls = .type "list" ∧ o.dict = none ∧ o.data = .seq its n ∧ its.size ≤ sizeLine ∧ Vals xs its.toList
def SqT (K : PySem.W.Frag) (H : Hp) (a : Addr) (xs : List V) : Prop :=
  Rd H a (.tup xs) ∨
    ∃ (o : Obj) (its : Array Value) (n : Nat), K.lookup a = some o ∧ o.cls = .type "tuple" ∧ o.data = .seq its n ∧ its.size ≤ sizeLine ∧ Vals xs its.toList
def absV : Value → Option V
  | .none => some .non
  | .bool b => some (.bl b)
  | .int i _ => some (.int i)
  | .str x _ => some (.str x)
  | .bytes b _ => some (.byt b)
  | .float b _ => some (.flt b)
  | .ref a => some (.ref a)
  | .type n => some (.ty n)
  | _ => none
theorem RelV.abs {x : V} {u : Value} (r : RelV x u) : absV u = some x := by
  cases x with
  | non => cases r; rfl
  | bl _ => cases r; rfl
  | int _ => obtain ⟨t, rfl⟩ := r; rfl
  | str _ => obtain ⟨t, rfl⟩ := r; rfl
  | byt _ => obtain ⟨t, rfl⟩ := r; rfl
  | flt _ => obtain ⟨t, rfl⟩ := r; rfl
  | ref _ => cases r; rfl
  | ty _ => cases r; rfl
theorem RelV.inj {x y : V} {u : Value} (r : RelV x u) (q : RelV y u) : x = y := Option.some.inj (r.abs.symm.trans q.abs)
theorem Vals.inj : ∀ {xs ys : List V} {us : List Value}, Vals xs us → Vals ys us → xs = ys
  | _, _, _, .nil, .nil => rfl
  | _, _, _, .cons r t, .cons r' t' => by rw [r.inj r', Vals.inj t t']
section
variable {X : Cx} {pins : List (Addr × Obj)} {σ : St} {H : Hp} {s : Shared} {a : Addr} {xs ys : List V}
theorem SqL.of {K : PySem.W.Frag} (h : H a = some (.lst xs)) : SqL K H a xs := .inl (.inl h)
theorem SqT.of {K : PySem.W.Frag} (h : H a = some (.tup xs)) : SqT K H a xs := .inl (.inl h)
theorem Inv.list (I : Inv X pins σ H s) (h : SqL X.K H a xs) : ∃ its : List Value, Vals xs its ∧ PlainL s.heap a its.toArray ∧ xs.length ≤ sizeLine := by
  rcases h with h | ⟨o, its, n, hk, hc, hd, hs, hz, r⟩
  · obtain ⟨z, its, n, r, e⟩ := h.ok I.hok
    exact ⟨its, r, ⟨_, n, e, rfl, rfl, rfl⟩, z⟩
  · refine ⟨its.toList, r, ⟨o, n, I.kIn a o hk, hc, hd, by simpa using hs⟩, ?_⟩
    have e := r.length
    simp only [Array.length_toList] at e
    lia
theorem Inv.tuple (I : Inv X pins σ H s) (h : SqT X.K H a xs) : ∃ its : List Value, Vals xs its ∧ IsTup s.heap a its.toArray ∧ xs.length ≤ sizeLine := by
  rcases h with h | ⟨o, its, n, hk, hc, hs, hz, r⟩
  · obtain ⟨z, its, r, p⟩ := h.ok I.hok
    exact ⟨its, r, p, z⟩
  · refine ⟨its.toList, r, ⟨o, I.kIn a o hk, hc, n, by simpa using hs⟩, ?_⟩
    have e := r.length
    simp only [Array.length_toList] at e
    lia
theorem Inv.list_inj (I : Inv X pins σ H s) (h : SqL X.K H a xs) (h' : SqL X.K H a ys) : xs = ys := by
  obtain ⟨its, r, ⟨o, n, e, _, _, d⟩, _⟩ := I.list h
  obtain ⟨its', r', ⟨o', n', e', _, _, d'⟩, _⟩ := I.list h'
  rw [e] at e'; cases e'
  rw [d] at d'
  injection d' with d1 _
  have : its = its' := by simpa using congrArg Array.toList d1
  subst this
  exact r.inj r'
end

/-! ### another wish about exceptions -/
abbrev Cx.wish (X : Cx) (E : Value → Shared → Prop) : Cx := { X with xe := E }
/-- no exception leaves -/
abbrev Cx.nox (X : Cx) : Cx := X.wish fun _ _ => False
theorem Cx.Ok.wish {X : Cx} (ok : X.Ok) (E : Value → Shared → Prop) : (X.wish E).Ok :=
  ⟨ok.mod, ok.kind, ok.glob, ok.blt, ok.above, ok.inj, ok.has, ok.cab, ok.hd, ok.frames, ok.stk, ok.exf, ok.bs, ok.bsz, ok.noex, ok.exfs, ok.funs, ok.frf⟩
theorem Cx.Ok.unwish {X : Cx} {E : Value → Shared → Prop} (ok : (X.wish E).Ok) : X.Ok :=
  ⟨ok.mod, ok.kind, ok.glob, ok.blt, ok.above, ok.inj, ok.has, ok.cab, ok.hd, ok.frames, ok.stk, ok.exf, ok.bs, ok.bsz, ok.noex, ok.exfs, ok.funs, ok.frf⟩
section
variable {X : Cx} {pins : List (Addr × Obj)} {σ : St} {H : Hp} {s : Shared} {E : Value → Shared → Prop}
theorem Inv.wish (I : Inv X pins σ H s) (E : Value → Shared → Prop) : Inv (X.wish E) pins σ H s := ⟨I.ok.wish E, I.os, I.bare, I.base, I.loc, I.cell, I.free, I.freeC, I.pin, I.hok, I.len⟩
theorem Inv.unwish (I : Inv (X.wish E) pins σ H s) : Inv X pins σ H s := ⟨I.ok.unwish, I.os, I.bare, I.base, I.loc, I.cell, I.free, I.freeC, I.pin, I.hok, I.len⟩
theorem SP.unwish {D : Ends} {f : Flow} {s' : Shared} (h : SP (X.wish E) pins D f s') : SP X pins D f s' := by
  cases f with
  | next => obtain ⟨σ', H', I, q⟩ := h; exact ⟨σ', H', I.unwish, q⟩
  | brk => obtain ⟨σ', H', I, q⟩ := h; exact ⟨σ', H', I.unwish, q⟩
  | cont => obtain ⟨σ', H', I, q⟩ := h; exact ⟨σ', H', I.unwish, q⟩
  | ret u => obtain ⟨v, σ', H', I, r, q⟩ := h; exact ⟨v, σ', H', I.unwish, r, q⟩
theorem PSs.nox {st : List Stmt} {t : TS} (h : PSs X.nox st t) : PSs X st t := fun pins s σ H D I hw =>
  wpAny_mono (h pins s σ H D (I.wish _) hw) (fun _ _ q => q.unwish) fun _ _ z => False.elim z
end

/-! ### blocks and small statements -/
section
variable {X : Cx} {st : Stmt} {rest : List Stmt} {t u : TS} {e : Expr} {te : TE} {pos : Pos}
def tNext : TS := fun D σ H => D.nx σ H
def tSeq (t u : TS) : TS := fun D σ H => t { D with nx := u D } σ H
theorem pss_nil : PSs X [] tNext := fun _ _ σ H _ I h => wpAny_execs_nil ⟨σ, H, I, h⟩
theorem pss_cons (h1 : PS X st t) (h2 : PSs X rest u) : PSs X (st :: rest) (tSeq t u) := by
  intro pins s σ H D I h
  refine wpAny_execs_cons (thn (h1 pins s σ H { D with nx := u D } I h) fun f s1 q => ?_)
  cases f with
  | next =>
    obtain ⟨σ', H', I', q⟩ := q
    exact h2 pins s1 σ' H' D I' q
  | ret v => exact q
  | brk => exact q
  | cont => exact q
theorem pss_one (h1 : PS X st t) : PSs X [st] t := by
  intro pins s σ H D I h
  refine wpAny_execs_cons (thn (h1 pins s σ H D I h) fun f s1 q => ?_)
  cases f with
  | next => exact wpAny_execs_nil q
  | ret v => exact q
  | brk => exact q
  | cont => exact q
/-- in a def's body nothing is shown -/
theorem Inv.quiet {pins : List (Addr × Obj)} {σ : St} {H : Hp} {s : Shared} (I : Inv X pins σ H s) : interactive X.env = false := by simp [interactive, I.ok.kind]
/-- an expression whose value is dropped -/
def tDrop (te : TE) : TS := fun D σ H => te σ H fun _ H1 => D.nx σ H1
theorem ps_expr (he : PE X e te) (hs : swapsWith e none pos.line X.env = pure false := by rfl) : PS X (.Expr e pos) (tDrop te) := by
  intro pins s σ H D I h
  exact wpAny_Expr_any (thn (he pins s σ H _ I h) fun v s1 ⟨x, H1, I1, r1, q1⟩ => ⟨σ, H1, I1, q1⟩) I.quiet hs
def tRet (te : TE) : TS := fun D σ H => te σ H D.rt
theorem ps_ret (he : PE X e te) : PS X (.Return (some e) pos) (tRet te) := by
  intro pins s σ H D I h
  exact wpAny_Return_some (thn (he pins s σ H _ I h) fun v s1 ⟨x, H1, I1, r1, q1⟩ => ⟨x, σ, H1, I1, r1, q1⟩)
def tIfS (c : TT) (t u : TS) : TS := fun D σ H => c σ H fun b H1 => if b = true then t D σ H1 else u D σ H1
theorem ps_if {c : Expr} {a b : List Stmt} {tc : TT} (hc : PT X c tc) (ha : PSs X a t) (hb : PSs X b u) : PS X (.If c a b pos) (tIfS tc t u) := by
  intro pins s σ H D I h
  refine wpAny_If (thn (hc pins s σ H _ I h) fun d s1 ⟨H1, I1, q1⟩ => ?_)
  cases d with
  | true => exact ha pins s1 σ H1 D I1 q1
  | false => exact hb pins s1 σ H1 D I1 q1
/-- code that the proof never comes to -/
def tNever : TS := fun _ _ _ => False
theorem ps_never : PS X st tNever := fun _ _ _ _ _ _ h => h.elim
end

/-! ### targets -/
abbrev TG := V → St → Hp → (St → Hp → Prop) → Prop
abbrev TGs := List V → St → Hp → (St → Hp → Prop) → Prop
def PG (X : Cx) (target : Expr) (t : TG) : Prop :=
  ∀ (pins : List (Addr × Obj)) (s : Shared) (σ : St) (H : Hp) (v : V) (u : Value) (Q : St → Hp → Prop), Inv X pins σ H s → RelV v u → t v σ H Q →
    wpAny (model X.prog X.w) X.A (assign target X.env u) (fun _ s' => ∃ σ' H', Inv X pins σ' H' s' ∧ Q σ' H') X.xe s
/-- several targets, one after another -/
def PGs (X : Cx) (ts : List Expr) (t : TGs) : Prop :=
  ∀ (pins : List (Addr × Obj)) (s : Shared) (σ : St) (H : Hp) (vs : List V) (us : List Value) (Q : St → Hp → Prop), Inv X pins σ H s → Vals vs us → t vs σ H Q →
    wpAny (model X.prog X.w) X.A (assignInOrder ((assignEach ts X.env).map (·.2)) us) (fun _ s' => ∃ σ' H', Inv X pins σ' H' s' ∧ Q σ' H') X.xe s
/-- o[i] = v, by values -/
abbrev TSet := V → V → V → Hp → (Hp → Prop) → Prop
def PSet (X : Cx) (t : TSet) : Prop :=
  ∀ (pins : List (Addr × Obj)) (s : Shared) (σ : St) (H : Hp) (o i v : V) (ov iv u : Value) (Q : Hp → Prop), Inv X pins σ H s → RelV o ov → RelV i iv → RelV v u → t o i v H Q →
    wpAny (model X.prog X.w) X.A (setItem ov iv u) (fun _ s' => ∃ H', Inv X pins σ H' s' ∧ Q H') X.xe s
section
variable {X : Cx} {pos : Pos}
def gName (i : Nat) : TG := fun v σ H Q => Q (σ.set i (some v)) H
theorem pg_name {i : Nat} {x : Str} (hN : X.N.Nodup) (hi : X.N[i]? = some x) (hx : Loc X.env.scope x) (hf : X.fn x = true ∨ X.env.scope.names.lookup x = some .local := by first | exact .inl rfl | exact .inr rfl | assumption) : PG X (.Name x pos) (gName i) := by
  intro pins s σ H v u Q I r h
  exact wpAny_assign_Name (store_ok I hN hi hx r (fun s' I' => ⟨_, H, I', h⟩) hf)
def gNil : TGs := fun vs σ H Q => vs = [] ∧ Q σ H
def gCons (t : TG) (u : TGs) : TGs := fun vs σ H Q => ∃ v r, vs = v :: r ∧ t v σ H fun σ' H' => u r σ' H' Q
theorem pgs_nil : PGs X [] gNil := by
  intro pins s σ H vs us Q I r h
  obtain ⟨e, h⟩ := h
  subst e
  cases r
  exact assignInOrder_nil ⟨σ, H, I, h⟩
theorem pgs_cons {e : Expr} {es : List Expr} {t : TG} {u : TGs} (h1 : PG X e t) (h2 : PGs X es u)
    (hs : (assignEach (e :: es) X.env).map (·.2) = assign e X.env :: (assignEach es X.env).map (·.2) := by rfl) : PGs X (e :: es) (gCons t u) := by
  intro pins s σ H vs us Q I r h
  obtain ⟨v, vr, e1, h⟩ := h
  subst e1
  cases r with
  | cons r rr =>
    rw [hs]
    refine assignInOrder_cons (thn (h1 pins s σ H _ _ _ I r h) fun _ s1 ⟨σ1, H1, I1, q1⟩ => ?_)
    exact h2 pins s1 σ1 H1 _ _ Q I1 rr q1
/-- (a, b, ..) = a tuple of that length -/
def gTup (K : PySem.W.Frag) (n : Nat) (t : TGs) : TG := fun v σ H Q => ∃ a xs, v = .ref a ∧ SqT K H a xs ∧ xs.length = n ∧ t xs σ H Q
theorem pg_tup {es : List Expr} {k : Nat} {t : TGs} {n : Nat} (hc : X.calm = true) (h : PGs X es t)
    (hn : (assignEach es X.env).length = n := by rfl) (hst : (assignEach es X.env).findIdx? (·.1) = none := by rfl) : PG X (.Tuple es k pos) (gTup X.K n t) := by
  intro pins s σ H v u Q I r hw
  obtain ⟨a, xs, e1, hq, hl, hw⟩ := hw
  subst e1
  cases r
  obtain ⟨its, rv, ht, hz⟩ := I.tuple hq
  refine assign_Tuple_tuple (I.ok.hd hc) ht (by simp [hn, ← hl, rv.length]) hst fun h' hx => ?_
  have I1 : Inv X pins σ H { s with heap := h' } := I.kept (t' := s.toks) fun b o e => hx b o (Nat.ne_of_lt (Heap.lt_size e)) e
  exact h pins _ σ H xs _ Q I1 (by simpa using rv) hw
/-- o[i] = .. -/
def gSub (to ti : TE) (t : TSet) : TG := fun v σ H Q => to σ H fun o H1 => ti σ H1 fun i H2 => t o i v H2 fun H3 => Q σ H3
theorem pg_sub {o i : Expr} {to ti : TE} {t : TSet} (ho : PE X o to) (hi : PE X i ti) (hs : PSet X t)
    (ha : ∀ v, assign (.Subscript o i pos) X.env v = (do
      let ov ← holding [v] (eval o X.env)
      let iv ← holding [v, ov] (eval i X.env)
      standAt pos
      holding [v, ov, iv] (setItem ov iv v)
      release [v, ov, iv] []) := by intro _; rfl) : PG X (.Subscript o i pos) (gSub to ti t) := by
  intro pins s σ H v u Q I r h
  rw [ha]
  refine wpAny_bind (wpAny_holding (thn (ho pins s σ H _ I h) fun ov s1 ⟨x, H1, I1, r1, q1⟩ => ?_))
  refine wpAny_bind (wpAny_holding (thn (hi pins s1 σ H1 _ I1 q1) fun iv s2 ⟨y, H2, I2, r2, q2⟩ => ?_))
  refine wpAny_bind (wpAny_standAt (wpAny_bind (wpAny_holding (thn (hs pins s2 σ H2 x y v ov iv u _ I2 r1 r2 r q2) fun _ s3 ⟨H3, I3, q3⟩ => ?_))))
  exact wpAny_release ⟨σ, H3, I3, q3⟩
/-- target = value -/
def tAsg (te : TE) (g : TG) : TS := fun D σ H => te σ H fun x H1 => g x σ H1 D.nx
theorem ps_asg {tg e : Expr} {te : TE} {g : TG} (he : PE X e te) (hg : PG X tg g) (hs : swapsWithSole [tg] e pos.line X.env = pure false := by rfl) (hw : swappedStores [tg] e X.env = pure none := by rfl)
    (h1 : (assignEach [tg] X.env).map (·.2) = [assign tg X.env] := by rfl) : PS X (.Assign [tg] e pos) (tAsg te g) := by
  intro pins s σ H D I h
  refine wpAny_Assign_stores (thn (he pins s σ H _ I h) fun v s1 ⟨x, H1, I1, r1, q1⟩ => ?_) hs hw
  rw [h1]
  exact thn (hg pins s1 σ H1 x v _ I1 r1 q1) fun _ s2 q => q
/-- name = value -/
theorem ps_set {i : Nat} {x : Str} {e : Expr} {te : TE} {pos' : Pos} (hN : X.N.Nodup) (hi : X.N[i]? = some x) (hx : Loc X.env.scope x) (he : PE X e te) (hs : swapsWith e (some (.Name x pos')) pos.line X.env = pure false := by rfl) (hf : X.fn x = true ∨ X.env.scope.names.lookup x = some .local := by first | exact .inl rfl | exact .inr rfl | assumption) :
    PS X (.Assign [.Name x pos'] e pos) (tAsg te (gName i)) := by
  intro pins s σ H D I h
  refine wpAny_Assign_Name (thn (he pins s σ H _ I h) fun v s1 ⟨y, H1, I1, r1, q1⟩ => ?_) hs
  exact store_ok I1 hN hi hx r1 (fun s2 I2 => ⟨_, H1, I2, q1⟩) hf
end

/-! ### while -/
section
variable {X : Cx} {pos : Pos}
/-- the invariant W with its measure -/
def tWhile (c : TT) (tb : TS) : TS := fun D σ H => ∃ W : Nat → St → Hp → Prop, (∃ m, W m σ H) ∧ ∀ m σ H, W m σ H →
  c σ H fun b H1 => if b = true then ∃ N : St → Hp → Prop, (∀ σ' H', N σ' H' → ∃ m', m' < m ∧ W m' σ' H') ∧ tb { D with nx := N, ct := N, bk := D.nx } σ H1 else D.nx σ H1
theorem ps_while {c : Expr} {body : List Stmt} {tc : TT} {tb : TS} (hp : PassesOwn (model X.prog X.w) X.A X.env X.xe) (hc : PT X c tc) (hb : PSs X body tb) : PS X (.While c body [] pos) (tWhile tc tb) := by
  intro pins s σ H D I h
  obtain ⟨W, ⟨m0, w0⟩, turn⟩ := h
  refine wpAny_While (codeAny_whileLoop (fun n s' => ∃ σ' H', Inv X pins σ' H' s' ∧ W n σ' H') ?_ m0 ⟨σ, H, I, w0⟩)
  rintro n s1 ⟨σ1, H1, I1, w1⟩
  refine wpAny_passesOwn hp (thn (hc pins s1 σ1 H1 _ I1 (turn n σ1 H1 w1)) fun b s2 ⟨H2, I2, q2⟩ => ?_)
  cases b with
  | true =>
    obtain ⟨N, hN, q2⟩ := q2
    rw [if_pos rfl]
    refine wpAny_passesOwn hp (thn (hb pins s2 σ1 H2 _ I2 q2) fun f s3 q3 => ?_)
    cases f with
    | next =>
      obtain ⟨σ3, H3, I3, n3⟩ := q3
      obtain ⟨m', hm, w3⟩ := hN σ3 H3 n3
      exact ⟨m', hm, σ3, H3, I3, w3⟩
    | cont =>
      obtain ⟨σ3, H3, I3, n3⟩ := q3
      obtain ⟨m', hm, w3⟩ := hN σ3 H3 n3
      exact ⟨m', hm, σ3, H3, I3, w3⟩
    | brk => exact q3
    | ret v => exact q3
  | false =>
    rw [if_neg Bool.false_ne_true]
    exact wpAny_execs_nil ⟨σ1, H2, I2, q2⟩
end

/-! ### what a loop or a comprehension walks -/
/-- at turn i: it yields x (the heap may grow), or it stops -/
structure It where
  go : Nat → Hp → Prop
  yld : Nat → Hp → V → Hp → Prop
  stop : Nat → Hp → Prop
/-- the iterator's own objects may turn: they are not the frame's, not pinned, younger than the entry (or a comprehension's own) -/
def FpOk (X : Cx) (pins : List (Addr × Obj)) (H : Hp) (b : Addr) : Prop :=
  H b = none ∧ b ≠ X.env.locals ∧ b ∉ X.fs ∧ (b ∈ X.ex ∨ X.s₀.heap.objs.size ≤ b) ∧ (∀ x c, X.env.cells.lookup x = some c → c ≠ b) ∧ ∀ p ∈ X.pn ++ pins, p.1 ≠ b
theorem Inv.fpOk {X : Cx} {pins : List (Addr × Obj)} {σ : St} {H H' : Hp} {s : Shared} {b : Addr} (I : Inv X pins σ H s) (hb : s.heap.objs.size ≤ b) (hn : H' b = none) : FpOk X pins H' b := by
  refine ⟨hn, Nat.ne_of_gt (Nat.lt_of_lt_of_le I.lt hb), I.nofs hb, .inr (Nat.le_trans I.sz hb), fun x c e z => ?_, fun p hp z => ?_⟩
  · obtain ⟨v, q⟩ := I.cell x c e
    exact absurd (Nat.lt_of_lt_of_le q.lt (by rw [z]; exact hb)) (Nat.lt_irrefl _)
  · exact absurd (Nat.lt_of_lt_of_le (Heap.lt_size (I.pin p hp).1) (by rw [z]; exact hb)) (Nat.lt_irrefl _)
structure Turn (P : Program) (w : World) (K : PySem.W.Frag) (tg : Expr) (J : It) (fp : List Addr) (it : Addr) (tn : Nat → Heap → Prop) : Prop where
  mem : it ∈ fp
  obj : ∀ i h, tn i h → ∀ b ∈ fp, ∃ o, h.get? b = some o ∧ ∀ v, o.data ≠ .cell v
  keep : ∀ i h h', tn i h → (∀ b ∈ fp, ∀ o, h.get? b = some o → h'.get? b = some o) → tn i h'
  item : ∀ (X : Cx), X.prog = P → X.w = w → X.K = K → X.calm = true → ∀ (i : Nat) (pins : List (Addr × Obj)) (s : Shared) (σ : St) (H : Hp) (E : Value → Shared → Prop), Inv X pins σ H s → (∀ b ∈ fp, FpOk X pins H b) → tn i s.heap → J.go i H →
    wpAny (model P w) X.A (pyNext (.ref it)) (fun r s1 => ∃ u, r = some u ∧
      wpAny (model P w) X.A (letOwnedTupleGo tg (.ref it) u) (fun _ s2 => ∃ x H', Inv X pins σ H' s2 ∧ RelV x u ∧ J.yld i H x H' ∧ tn (i + 1) s2.heap ∧ ∀ b ∈ fp, H' b = none) E s1) E s
  done : ∀ (X : Cx), X.prog = P → X.w = w → X.K = K → X.calm = true → ∀ (i : Nat) (pins : List (Addr × Obj)) (s : Shared) (σ : St) (H : Hp) (E : Value → Shared → Prop), Inv X pins σ H s → (∀ b ∈ fp, FpOk X pins H b) → tn i s.heap → J.stop i H →
    wpAny (model P w) X.A (pyNext (.ref it)) (fun r s1 => r = none ∧ Inv X pins σ H s1) E s
  self : ∀ (A : Around) (i : Nat) (s : Shared) (Q : Value → Shared → Prop) (E : Value → Shared → Prop), tn i s.heap → Q (.ref it) s → wpAny (model P w) A (pyIter (.ref it)) Q E s
abbrev TI := St → Hp → (It → Hp → Prop) → Prop
/-- an iterator has come -/
def PIE (X : Cx) (pins : List (Addr × Obj)) (σ : St) (tg : Expr) (R : It → Hp → Prop) (itv : Value) (s2 : Shared) : Prop :=
  ∃ (it : Addr) (fp : List Addr) (tn : Nat → Heap → Prop) (J : It) (H' : Hp), itv = .ref it ∧ Inv X pins σ H' s2 ∧ Turn X.prog X.w X.K tg J fp it tn ∧ tn 0 s2.heap ∧ (∀ b ∈ fp, FpOk X pins H' b) ∧ R J H'
def PI (X : Cx) (tg iter : Expr) (wi : TI) : Prop :=
  ∀ (pins : List (Addr × Obj)) (s : Shared) (σ : St) (H : Hp) (R : It → Hp → Prop), Inv X pins σ H s → wi σ H R →
    wpAny (model X.prog X.w) X.A (eval iter X.env) (fun v s1 => wpAny (model X.prog X.w) X.A (pyIter v) (PIE X pins σ tg R) X.xe s1) X.xe s

/-- the step ahead of the store is nothing for an iterator that keeps no tuple -/
theorem go_of {M : Model} {A : Around} {E : Value → Shared → Prop} {s : Shared} {tg : Expr} {it : Addr} {u : Value} {o : Obj} {n : String} {vs : Array Value} {Q : Unit → Shared → Prop} (ho : s.heap.get? it = some o) (hc : o.cls = .type n) (hd : o.data = .fields vs)
    (hn : ["enumerate", "zip", "dict_itemiterator", "dict_reverseitemiterator", "odict_iterator", "itertools.zip_longest", "itertools.pairwise"].contains n = false) (hQ : Q () s) : wpAny M A (letOwnedTupleGo tg (.ref it) u) Q E s := by
  unfold letOwnedTupleGo
  cases tg <;> first
    | exact wpAny_pure hQ
    | (cases u <;> first
        | exact wpAny_pure hQ
        | (refine wpAny_bind (wpAny_load ho ?_)
           rw [hc, hd]
           show wpAny M A (if (["enumerate", "zip", "dict_itemiterator", "dict_reverseitemiterator", "odict_iterator", "itertools.zip_longest", "itertools.pairwise"].contains n && vs[0]? == some (rawInt _)) = true then _ else _) Q E s
           rw [if_neg (by intro h; rw [hn, Bool.false_and] at h; cases h)]
           exact wpAny_pure hQ))

/-- the list at a, as it stands at each turn (a loop may append to it) -/
def Itl (K : PySem.W.Frag) (a : Addr) : It :=
  ⟨fun i H => ∃ xs x, SqL K H a xs ∧ xs[i]? = some x, fun i H x H' => H' = H ∧ ∀ xs, SqL K H a xs → xs[i]? = some x, fun i H => ∃ xs, SqL K H a xs ∧ xs.length ≤ i⟩
/-- lo, lo + 1, .. (n of them) -/
def Itr (lo : Int) (n : Nat) : It := ⟨fun i _ => i < n, fun i H x H' => H' = H ∧ x = .int (lo + i), fun i _ => n ≤ i⟩
theorem turn_list {P : Program} {w : World} {K : PySem.W.Frag} {tg : Expr} (a it : Addr) : Turn P w K tg (Itl K a) [it] it (fun i h => h.IsListIter it a i) where
  mem := by simp
  obj := fun i h st b hb => by
    have e : b = it := by simpa using hb
    subst e
    obtain ⟨o, e, c, d⟩ := st
    exact ⟨o, e, fun v z => by rw [d] at z; cases z⟩
  keep := fun i h h' st k => st.at fun o e => k it (by simp) o e
  item := by
    intro X hP hw hK hc i pins s σ H E I hf st hg
    subst hP hw hK
    obtain ⟨xs, x, hq, hx⟩ := hg
    obtain ⟨its, rv, p, hz⟩ := I.list hq
    obtain ⟨u, hu, ru⟩ := rv.get hx
    obtain ⟨f0, f1, f2, f3, f4, f5⟩ := hf it (by simp)
    refine wpAny_pyNext_list_item st p.isList (x := u) (by simpa using hu) fun h' st' sb => ?_
    have I1 : Inv X pins σ H { s with heap := h' } := I.turned (t' := s.toks) (fun b o hb e => (sb.2 b hb).trans e) f0 f1 f3 f4 f5
    obtain ⟨o, e, c, d⟩ := id st'
    exact ⟨u, rfl, go_of (s := { s with heap := h' }) e c d (by decide) ⟨x, H, I1, ru, ⟨rfl, fun ys hy => by rw [I.list_inj hy hq]; exact hx⟩, st', fun b hb => (hf b hb).1⟩⟩
  done := by
    intro X hP hw hK hc i pins s σ H E I hf st hg
    subst hP hw hK
    obtain ⟨xs, hq, hx⟩ := hg
    obtain ⟨its, rv, p, hz⟩ := I.list hq
    obtain ⟨f0, f1, f2, f3, f4, f5⟩ := hf it (by simp)
    have hl := rv.length
    exact wpAny_pyNext_list_end (I.ok.hd hc) st p.isList (by simp; lia) fun h' eb => ⟨rfl, I.turned (t' := s.toks) (fun b o hb e => eb b o hb e) f0 f1 f3 f4 f5⟩
  self := fun _ _ _ _ _ st h => wpAny_pyIter_listiter st h
theorem turn_range {P : Program} {w : World} {K : PySem.W.Frag} {tg : Expr} (it : Addr) (lo : Int) (n : Nat) : Turn P w K tg (Itr lo n) [it] it (fun i h => IsRangeIter h it (lo + (i : Nat) * 1) ((n : Int) - (i : Nat)) 1) where
  mem := by simp
  obj := fun i h st b hb => by
    have e : b = it := by simpa using hb
    subst e
    exact ⟨_, st, fun v z => by
      have z' : Data.fields _ = Data.cell v := z
      cases z'⟩
  keep := fun i h h' st k => k it (by simp) _ st
  item := by
    intro X hP hw hK hc i pins s σ H E I hf st hg
    subst hP hw hK
    obtain ⟨f0, f1, f2, f3, f4, f5⟩ := hf it (by simp)
    have W := Walks.range (prog := X.prog) (w := X.w) (I.ok.hd hc) it lo 1 n
    refine W.item i s _ _ hg st fun v h' tk hv st' kk => ?_
    obtain ⟨t, rfl⟩ := hv
    have I1 : Inv X pins σ H { s with heap := h', toks := tk } := I.turned (fun b o hb e => kk b o (by simpa using hb) e) f0 f1 f3 f4 f5
    refine ⟨_, rfl, go_of (s := { s with heap := h', toks := tk }) (n := "range_iterator") st' rfl rfl (by decide) ⟨.int (lo + i), H, I1, ⟨t, ?_⟩, ⟨rfl, rfl⟩, st', fun b hb => (hf b hb).1⟩⟩
    rw [Int.mul_one]
  done := by
    intro X hP hw hK hc i pins s σ H E I hf st hg
    subst hP hw hK
    obtain ⟨f0, f1, f2, f3, f4, f5⟩ := hf it (by simp)
    exact wpAny_pyNext_range_end (I.ok.hd hc) st (by have : n ≤ i := hg; lia) fun h' eb => ⟨rfl, I.turned (t' := s.toks) (fun b o hb e => eb b o hb e) f0 f1 f3 f4 f5⟩
  self := fun _ _ _ _ _ st h => wpAny_pyIter_rangeiter st h
end L2

namespace L2
open PySem PySem.Spec PyProof.Rows
section
variable {X : Cx} {tg : Expr}
def iList (K : PySem.W.Frag) (tl : TE) : TI := fun σ H R => tl σ H fun x H1 => ∃ a, x = .ref a ∧ (∃ xs, SqL K H1 a xs) ∧ R (Itl K a) H1
theorem pi_list {l : Expr} {tl : TE} (hl : PE X l tl) : PI X tg l (iList X.K tl) := by
  intro pins s σ H R I h
  refine thn (hl pins s σ H _ I h) fun v s1 ⟨x, H1, I1, r1, q1⟩ => ?_
  obtain ⟨a, e, ⟨xs, hq⟩, q⟩ := q1
  subst e
  cases r1
  obtain ⟨its, rv, p, hz⟩ := I1.list hq
  refine wpAny_pyIter_list p.isList ?_
  refine ⟨s1.heap.objs.size, [s1.heap.objs.size], _, _, H1, rfl, I1.kept (t' := s1.toks) fun b o e => Heap.get?_push_of_some _ e, turn_list a _, ⟨_, Heap.get?_push_size _ rfl, rfl, rfl⟩, fun b hb => ?_, q⟩
  have e : b = s1.heap.objs.size := by simpa using hb
  subst e
  exact I1.fpOk (Nat.le_refl _) (I1.hok.fresh (Nat.le_refl _))
/-- a range object just made, walked -/
theorem range_it {pins : List (Addr × Obj)} {σ : St} {H : Hp} {s : Shared} {R : It → Hp → Prop} {E : Value → Shared → Prop} {lo hi : Int} {t u v : Tok} {tk : Nat} (I : Inv X pins σ H s) (h1 : -(2 ^ 62) ≤ lo) (h2 : lo < 2 ^ 62) (h3 : -(2 ^ 62) ≤ hi) (h4 : hi < 2 ^ 62)
    (q : R (Itr lo (hi - lo).toNat) H) : wpAny (model X.prog X.w) X.A (pyIter (.ref s.heap.objs.size)) (PIE X pins σ tg R) E { s with heap := s.heap.push { cls := .type "range", data := .fields #[.int lo t, .int hi u, .int 1 v] }, toks := tk } := by
  refine wpAny_pyIter_range (IsRange.new ..) (small_one h1 h2 h3 h4) ?_
  have I1 : Inv X pins σ H { s with heap := s.heap.push { cls := .type "range", data := .fields #[.int lo t, .int hi u, .int 1 v] }, toks := tk } := I.kept fun b o e => Heap.get?_push_of_some _ e
  refine ⟨(s.heap.push { cls := .type "range", data := .fields #[.int lo t, .int hi u, .int 1 v] }).objs.size, [(s.heap.push { cls := .type "range", data := .fields #[.int lo t, .int hi u, .int 1 v] }).objs.size], _, _, H, rfl,
    I1.kept (t' := tk) fun b o e => Heap.get?_push_of_some _ e, turn_range _ lo (hi - lo).toNat, ?_, fun b hb => ?_, q⟩
  · have e1 : lo + ((0 : Nat) : Int) * 1 = lo := by simp
    have e2 : (((hi - lo).toNat : Nat) : Int) - ((0 : Nat) : Int) = Builtin.Range.rangeSize lo hi 1 := by rw [rangeSize_one]; split <;> lia
    show IsRangeIter _ _ (lo + ((0 : Nat) : Int) * 1) ((((hi - lo).toNat : Nat) : Int) - ((0 : Nat) : Int)) 1
    rw [e1, e2]
    exact Heap.get?_push_size _ rfl
  · have e : b = (s.heap.push { cls := .type "range", data := .fields #[.int lo t, .int hi u, .int 1 v] }).objs.size := by simpa using hb
    subst e
    exact I1.fpOk (Nat.le_refl _) (I1.hok.fresh (Nat.le_refl _))
def iRng1 (ta : TA) : TI := fun σ H R => ta σ H fun vs H1 => ∃ j : Int, vs = [.int j] ∧ -(2 ^ 62) ≤ j ∧ j < 2 ^ 62 ∧ R (Itr 0 j.toNat) H1
def iRng2 (ta : TA) : TI := fun σ H R => ta σ H fun vs H1 => ∃ i j : Int, vs = [.int i, .int j] ∧ (-(2 ^ 62) ≤ i ∧ i < 2 ^ 62 ∧ -(2 ^ 62) ≤ j ∧ j < 2 ^ 62) ∧ R (Itr i (j - i).toNat) H1
theorem pi_range1 {a : Expr} {ta : TA} {p pos : Pos} (hg : Gl X "range") (hm : X.mg "range" = none) (ha : PA X [a] ta) (hs : starEach [a] X.env = [(false, eval a X.env)] := by rfl) : PI X tg (.Call (.Name "range" p) [a] [] pos) (iRng1 ta) := by
  intro pins s σ H R I h
  refine Call_ (ld_blt I hg hm boot_range (PyProof.Rows.callWith_type1 (thn (ha pos pins s σ H _ I h) fun us s1 ⟨vs, H1, I1, r1, q1⟩ => ?_) hs rfl))
  obtain ⟨j, e, q1, q2, q⟩ := q1
  subst e
  cases r1 with
  | cons r rr =>
    cases rr
    obtain ⟨t, rfl⟩ := r
    exact call_range_1 (range_it I1 (by lia) (by lia) q1 q2 (by simpa using q))
theorem pi_range2 {a b : Expr} {ta : TA} {p pos : Pos} (hg : Gl X "range") (hm : X.mg "range" = none) (ha : PA X [a, b] ta) (hs : starEach [a, b] X.env = [(false, eval a X.env), (false, eval b X.env)] := by rfl) (hs2 : starEach [b] X.env = [(false, eval b X.env)] := by rfl) :
    PI X tg (.Call (.Name "range" p) [a, b] [] pos) (iRng2 ta) := by
  intro pins s σ H R I h
  refine Call_ (ld_blt I hg hm boot_range (PyProof.Rows.callWith_type1 (thn (ha pos pins s σ H _ I h) fun us s1 ⟨vs, H1, I1, r1, q1⟩ => ?_) (by rw [hs, hs2]) (by rw [hs2]; rfl)))
  obtain ⟨i, j, e, ⟨q1, q2, q3, q4⟩, q⟩ := q1
  subst e
  cases r1 with
  | cons r rr =>
    cases rr with
    | cons r' rr =>
      cases rr
      obtain ⟨t, rfl⟩ := r
      obtain ⟨t', rfl⟩ := r'
      exact call_range_2 (range_it I1 q1 q2 q3 q4 q)

/-! ### for -/
/-- W: the invariant by the turn and a measure; N: what the body is to reach -/
def tFor (wi : TI) (g : TG) (tb : TS) : TS := fun D σ H => wi σ H fun J H1 => ∃ W : Nat → Nat → St → Hp → Prop, (∃ m, W 0 m σ H1) ∧ ∀ i m σ H, W i m σ H →
  (J.stop i H ∧ D.nx σ H) ∨ (J.go i H ∧ ∃ N : St → Hp → Prop, (∀ σ' H', N σ' H' → ∃ m', m' < m ∧ W (i + 1) m' σ' H') ∧ ∀ x H', J.yld i H x H' → g x σ H' fun σ2 H2 => tb { D with nx := N, ct := N, bk := D.nx } σ2 H2)
/-- the records at fp as they stand -/
def pinsAt (fp : List Addr) (h : Heap) : List (Addr × Obj) := fp.filterMap fun b => (h.get? b).map fun o => (b, o)
theorem mem_pinsAt {fp : List Addr} {h : Heap} {b : Addr} {o : Obj} (hb : b ∈ fp) (e : h.get? b = some o) : (b, o) ∈ pinsAt fp h := List.mem_filterMap.mpr ⟨b, hb, by rw [e]; rfl⟩
theorem of_pinsAt {fp : List Addr} {h : Heap} {p : Addr × Obj} (hp : p ∈ pinsAt fp h) : p.1 ∈ fp ∧ h.get? p.1 = some p.2 := by
  obtain ⟨b, hb, e⟩ := List.mem_filterMap.mp hp
  cases q : h.get? b with
  | none => rw [q] at e; cases e
  | some o =>
    rw [q] at e
    have e' : (b, o) = p := Option.some.inj e
    subst e'
    exact ⟨hb, q⟩
theorem Inv.pinned {pins : List (Addr × Obj)} {σ : St} {H : Hp} {s : Shared} {fp : List Addr} (I : Inv X pins σ H s) (hf : ∀ b ∈ fp, FpOk X pins H b) (ho : ∀ b ∈ fp, ∃ o, s.heap.get? b = some o ∧ ∀ v, o.data ≠ .cell v) : Inv X (pins ++ pinsAt fp s.heap) σ H s :=
  I.pins_of fun p hp => (List.mem_append.mp hp).elim (fun z => I.pin p (List.mem_append_right _ z)) fun z => by
    obtain ⟨hb, e⟩ := of_pinsAt z
    obtain ⟨f0, f1, f2, _⟩ := hf p.1 hb
    obtain ⟨o, e', d⟩ := ho p.1 hb
    rw [e] at e'; cases e'
    exact ⟨e, f0, f1, f2, d⟩
theorem Inv.unpinned {pins pl : List (Addr × Obj)} {σ : St} {H : Hp} {s : Shared} (I : Inv X (pins ++ pl) σ H s) : Inv X pins σ H s := I.pins_of fun p hp => I.pin p (List.mem_append_right _ (List.mem_append_left _ hp))
theorem ps_for {iter : Expr} {body : List Stmt} {wi : TI} {g : TG} {tb : TS} {pos : Pos} (hp : PassesOwn (model X.prog X.w) X.A X.env X.xe) (hc : X.calm = true) (hi : PI X tg iter wi) (hg : PG X tg g) (hb : PSs X body tb)
    (hs : ∀ x, foldedSetIterable iter X.env x = pure x := by intro _; rfl) : PS X (.For tg iter body [] pos) (tFor wi g tb) := by
  intro pins s σ H D I h
  refine wpAny_For (thn (hi pins s σ H _ I h) fun v s1 h1 => thn h1 fun itv s2 h2 => ?_) hs
  obtain ⟨it, fp, tn, J, H2, e, I2, T, st2, f2, W, ⟨m0, w0⟩, turn⟩ := h2
  subst e
  -- what stays true of the iterator's objects through the loop
  have stat : ∀ {H' : Hp}, (∀ b ∈ fp, H' b = none) → ∀ b ∈ fp, FpOk X pins H' b := fun hn b hb => ⟨hn b hb, (f2 b hb).2⟩
  refine codeAny_forLoop_any (fun n s' => ∃ i σ' H', Inv X pins σ' H' s' ∧ tn i s'.heap ∧ (∀ b ∈ fp, H' b = none) ∧ W i n σ' H') ?_ m0 ⟨0, σ, H2, I2, st2, fun b hb => (f2 b hb).1, w0⟩
  rintro n s3 ⟨i, σ3, H3, I3, st3, fr3, w3⟩
  rcases turn i n σ3 H3 w3 with ⟨stop, qn⟩ | ⟨go, N, hN, step⟩
  · refine wpAny_passesOwn hp (thn (T.done X rfl rfl rfl hc i pins s3 σ3 H3 X.xe I3 (stat fr3) st3 stop) fun r s4 ⟨hr, I4⟩ => ?_)
    subst hr
    exact wpAny_execs_nil ⟨σ3, H3, I4, qn⟩
  · refine wpAny_passesOwn hp (thn (T.item X rfl rfl rfl hc i pins s3 σ3 H3 X.xe I3 (stat fr3) st3 go) fun r s4 ⟨u, hr, h4⟩ => ?_)
    subst hr
    refine wpAny_passesOwn hp (thn h4 fun _ s5 ⟨x, H5, I5, r5, y5, st5, fr5⟩ => ?_)
    have I5' := I5.pinned (stat fr5) (T.obj _ _ st5)
    refine wpAny_passesOwn hp (thn (hg _ s5 σ3 H5 x u _ I5' r5 (step x H5 y5)) fun _ s6 ⟨σ6, H6, I6, q6⟩ => ?_)
    refine wpAny_passesOwn hp (thn (hb _ s6 σ6 H6 _ I6 q6) fun f s7 q7 => ?_)
    have again : ∀ {σ7 : St} {H7 : Hp}, Inv X (pins ++ pinsAt fp s5.heap) σ7 H7 s7 → N σ7 H7 → ∃ m, m < n ∧ ∃ i σ' H', Inv X pins σ' H' s7 ∧ tn i s7.heap ∧ (∀ b ∈ fp, H' b = none) ∧ W i m σ' H' := fun {σ7 H7} I7 n7 => by
      obtain ⟨m', hm, w7⟩ := hN σ7 H7 n7
      refine ⟨m', hm, i + 1, σ7, H7, I7.unpinned, T.keep _ _ _ st5 fun b hb o e => (I7.pin (b, o) (List.mem_append_right _ (List.mem_append_right _ (mem_pinsAt hb e)))).1, fun b hb => ?_, w7⟩
      obtain ⟨o, e, d⟩ := T.obj _ _ st5 b hb
      exact (I7.pin (b, o) (List.mem_append_right _ (List.mem_append_right _ (mem_pinsAt hb e)))).2.1
    cases f with
    | next => obtain ⟨σ7, H7, I7, n7⟩ := q7; exact again I7 n7
    | cont => obtain ⟨σ7, H7, I7, n7⟩ := q7; exact again I7 n7
    | brk => obtain ⟨σ7, H7, I7, q7⟩ := q7; exact ⟨σ7, H7, I7.unpinned, q7⟩
    | ret v => obtain ⟨x7, σ7, H7, I7, r7, q7⟩ := q7; exact ⟨x7, σ7, H7, I7.unpinned, r7, q7⟩
end

/-! ### the forms one uses -/
/-- over a list that the body leaves as it is -/
theorem for_list {K : PySem.W.Frag} {a : Addr} {xs : List V} {g : TG} {tb : TS} {D : Ends} {σ : St} {H : Hp} (Pv : Nat → St → Hp → Prop) (h0 : Pv 0 σ H) (hl : ∀ i σ H, i ≤ xs.length → Pv i σ H → SqL K H a xs)
    (hs : ∀ i x σ H, xs[i]? = some x → Pv i σ H → g x σ H fun σ2 H2 => tb { D with nx := Pv (i + 1), ct := Pv (i + 1), bk := D.nx } σ2 H2) (hd : ∀ σ H, Pv xs.length σ H → D.nx σ H) :
    ∃ W : Nat → Nat → St → Hp → Prop, (∃ m, W 0 m σ H) ∧ ∀ i m σ H, W i m σ H →
      ((Itl K a).stop i H ∧ D.nx σ H) ∨ ((Itl K a).go i H ∧ ∃ N : St → Hp → Prop, (∀ σ' H', N σ' H' → ∃ m', m' < m ∧ W (i + 1) m' σ' H') ∧ ∀ x H', (Itl K a).yld i H x H' → g x σ H' fun σ2 H2 => tb { D with nx := N, ct := N, bk := D.nx } σ2 H2) := by
  refine ⟨fun i m σ H => m = xs.length - i ∧ i ≤ xs.length ∧ Pv i σ H, ⟨xs.length, by simp, Nat.zero_le _, h0⟩, ?_⟩
  rintro i m σ H ⟨rfl, hi, p⟩
  have q := hl i σ H hi p
  by_cases hlt : i < xs.length
  · refine .inr ⟨⟨xs, xs[i], q, by simp [hlt]⟩, Pv (i + 1), fun σ' H' p' => ⟨xs.length - (i + 1), by lia, rfl, hlt, p'⟩, fun x H' y => ?_⟩
    obtain ⟨e, y⟩ := y
    subst e
    exact hs i x σ _ (y xs q) p
  · have e : i = xs.length := by lia
    subst e
    exact .inl ⟨⟨xs, q, Nat.le_refl _⟩, hd σ H p⟩
theorem for_range {lo : Int} {n : Nat} {g : TG} {tb : TS} {D : Ends} {σ : St} {H : Hp} (Pv : Nat → St → Hp → Prop) (h0 : Pv 0 σ H)
    (hs : ∀ i σ H, i < n → Pv i σ H → g (.int (lo + i)) σ H fun σ2 H2 => tb { D with nx := Pv (i + 1), ct := Pv (i + 1), bk := D.nx } σ2 H2) (hd : ∀ σ H, Pv n σ H → D.nx σ H) :
    ∃ W : Nat → Nat → St → Hp → Prop, (∃ m, W 0 m σ H) ∧ ∀ i m σ H, W i m σ H →
      ((Itr lo n).stop i H ∧ D.nx σ H) ∨ ((Itr lo n).go i H ∧ ∃ N : St → Hp → Prop, (∀ σ' H', N σ' H' → ∃ m', m' < m ∧ W (i + 1) m' σ' H') ∧ ∀ x H', (Itr lo n).yld i H x H' → g x σ H' fun σ2 H2 => tb { D with nx := N, ct := N, bk := D.nx } σ2 H2) := by
  refine ⟨fun i m σ H => m = n - i ∧ i ≤ n ∧ Pv i σ H, ⟨n, by simp, Nat.zero_le _, h0⟩, ?_⟩
  rintro i m σ H ⟨rfl, hi, p⟩
  by_cases hlt : i < n
  · refine .inr ⟨hlt, Pv (i + 1), fun σ' H' p' => ⟨n - (i + 1), by lia, rfl, hlt, p'⟩, fun x H' y => ?_⟩
    obtain ⟨e, y⟩ := y
    subst e y
    exact hs i σ _ hlt p
  · have e : i = n := by lia
    subst e
    exact .inl ⟨Nat.le_refl _, hd σ H p⟩
end L2

namespace L2
open PySem PySem.Spec PyProof.Rows

abbrev R2 := V → V → Hp → VK → Prop
/-- a two-place operation on values: f is binaryOp op, inplaceOp op or compareOp op -/
def OpR (X : Cx) (f : Value → Value → Sem Value) (r : R2) : Prop :=
  ∀ (pins : List (Addr × Obj)) (s : Shared) (σ : St) (H : Hp) (x y : V) (v u : Value) (Q : VK), Inv X pins σ H s → RelV x v → RelV y u → r x y H Q →
    wpAny (model X.prog X.w) X.A (f v u) (EP X pins σ Q) X.xe s
/-- a call of a value that is known (a builtin, a type) with values -/
def CallR (X : Cx) (f : Value) (r : List V → Hp → VK → Prop) : Prop :=
  ∀ (pins : List (Addr × Obj)) (s : Shared) (σ : St) (H : Hp) (xs : List V) (us : List Value) (Q : VK), Inv X pins σ H s → Vals xs us → r xs H Q →
    wpAny (model X.prog X.w) X.A (call f us) (EP X pins σ Q) X.xe s

def tOp (r : R2) (ta tb : TE) : TE := fun σ H Q => ta σ H fun x H1 => tb σ H1 fun y H2 => r x y H2 Q
/-- ints in, under C, and a value out -/
def rI (C : Int → Int → Prop) (g : Int → Int → V) : R2 := fun x y H Q => ∃ i j, x = .int i ∧ y = .int j ∧ C i j ∧ Q (g i j) H
def rI0 (g : Int → Int → V) : R2 := fun x y H Q => ∃ i j, x = .int i ∧ y = .int j ∧ Q (g i j) H

section
variable {X : Cx} {a b c : Expr} {ta tb tc : TE} {pos : Pos}

theorem binT (ha : PE X a ta) (hb : PE X b tb) {pins : List (Addr × Obj)} {s : Shared} {σ : St} {H : Hp} {R : V → V → Hp → Prop} (I : Inv X pins σ H s)
    (h : ta σ H fun x H1 => tb σ H1 fun y H2 => R x y H2) {Q : Value → Shared → Prop} {f : Value → Value → Sem Value}
    (hf : ∀ v u s2 x y H2, Inv X pins σ H2 s2 → RelV x v → RelV y u → R x y H2 → wpAny (model X.prog X.w) X.A (f v u) Q X.xe s2) :
    wpAny (model X.prog X.w) X.A (eval a X.env) (fun v s₁ => wpAny (model X.prog X.w) X.A (eval b X.env) (fun u s₂ => wpAny (model X.prog X.w) X.A (f v u) Q X.xe s₂) X.xe s₁) X.xe s := by
  refine thn (ha pins s σ H _ I h) fun v s1 ⟨x, H1, I1, r1, q1⟩ => ?_
  refine thn (hb pins s1 σ H1 _ I1 q1) fun u s2 ⟨y, H2, I2, r2, q2⟩ => ?_
  exact hf v u s2 x y H2 I2 r1 r2 q2

theorem pe_op {op : Operator} {r : R2} (ho : OpR X (binaryOp op) r) (ha : PE X a ta) (hb : PE X b tb) : PE X (.BinOp a op b pos) (tOp r ta tb) := by
  intro pins s σ H Q I h
  exact wpAny_BinOp (binT ha hb I h fun v u s2 x y H2 I2 rx ry q => ho pins s2 σ H2 x y v u Q I2 rx ry q)

/-! ### ints -/
theorem opI {f : Value → Value → Sem Value} {C : Int → Int → Prop} {g : Int → Int → Int}
    (rule : ∀ (i j : Int) (t u : Tok) (s : Shared) (Q : Value → Shared → Prop) (E : Value → Shared → Prop), C i j → Q (.int (g i j) s.toks) { s with toks := s.toks + 1 } → wpAny (model X.prog X.w) X.A (f (.int i t) (.int j u)) Q E s) :
    OpR X f (rI C fun i j => .int (g i j)) := by
  intro pins s σ H x y v u Q I rx ry h
  obtain ⟨i, j, rfl, rfl, hc, q⟩ := h
  obtain ⟨t, rfl⟩ := rx
  obtain ⟨t', rfl⟩ := ry
  exact rule i j t t' s _ _ hc ⟨.int (g i j), H, I.tok _, ⟨_, rfl⟩, q⟩
theorem opI0 {f : Value → Value → Sem Value} {g : Int → Int → Int}
    (rule : ∀ (i j : Int) (t u : Tok) (s : Shared) (Q : Value → Shared → Prop) (E : Value → Shared → Prop), Q (.int (g i j) s.toks) { s with toks := s.toks + 1 } → wpAny (model X.prog X.w) X.A (f (.int i t) (.int j u)) Q E s) :
    OpR X f (rI0 fun i j => .int (g i j)) := by
  intro pins s σ H x y v u Q I rx ry h
  obtain ⟨i, j, rfl, rfl, q⟩ := h
  obtain ⟨t, rfl⟩ := rx
  obtain ⟨t', rfl⟩ := ry
  exact rule i j t t' s _ _ ⟨.int (g i j), H, I.tok _, ⟨_, rfl⟩, q⟩
theorem opB0 {f : Value → Value → Sem Value} {g : Int → Int → Bool}
    (rule : ∀ (i j : Int) (t u : Tok) (s : Shared) (Q : Value → Shared → Prop) (E : Value → Shared → Prop), Q (.bool (g i j)) s → wpAny (model X.prog X.w) X.A (f (.int i t) (.int j u)) Q E s) :
    OpR X f (rI0 fun i j => .bl (g i j)) := by
  intro pins s σ H x y v u Q I rx ry h
  obtain ⟨i, j, rfl, rfl, q⟩ := h
  obtain ⟨t, rfl⟩ := rx
  obtain ⟨t', rfl⟩ := ry
  exact rule i j t t' s _ _ ⟨.bl (g i j), H, I, rfl, q⟩

def CPow (i j : Int) : Prop := 0 ≤ j ∧ j ≤ 1000000 ∧ i.natAbs < 2 ^ 64
def CMul (i j : Int) : Prop := (-(2 ^ 64) < i ∧ i < 2 ^ 64) ∨ (-(2 ^ 64) < j ∧ j < 2 ^ 64)
theorem CMul.ok {i j : Int} (h : CMul i j) : IntMulOk i j := by
  rcases h with ⟨h1, h2⟩ | ⟨h1, h2⟩
  · exact .of_left (intBits_le_64 h1 h2)
  · exact .of_right (intBits_le_64 h1 h2)

theorem op_add : OpR X (binaryOp .Add) (rI0 fun i j => .int (i + j)) := opI0 fun _ _ _ _ _ _ _ q => add_int q
theorem op_sub : OpR X (binaryOp .Sub) (rI0 fun i j => .int (i - j)) := opI0 fun _ _ _ _ _ _ _ q => sub_int q
theorem op_mul : OpR X (binaryOp .Mult) (rI CMul fun i j => .int (i * j)) := opI fun _ _ _ _ _ _ _ hc q => mul_int q hc.ok
/-- % by a positive divisor of any size -/
theorem op_mod : OpR X (binaryOp .Mod) (rI (fun _ j => 0 < j) fun i j => .int (i % j)) := opI fun i j _ _ _ _ _ hc q => by
  have h1 : (0 : Int) < j := hc
  exact mod_int' (by lia) (by rw [Int.fmod_eq_emod_of_nonneg i (by lia)]; exact q)
theorem op_pow : OpR X (binaryOp .Pow) (rI CPow fun i j => .int (i ^ j.toNat)) := opI fun _ _ _ _ _ _ _ hc q => pow_int_small hc.1 hc.2.1 hc.2.2 q



/-! ### bools among ints: n += (a < b) -/
end

/-! ### comparisons -/
/-- the scalars that == tells apart as data does -/
def scal : V → V → Bool
  | .non, .non => true | .non, .int _ => true | .int _, .non => true | .non, .bl _ => true | .bl _, .non => true | .non, .str _ => true | .str _, .non => true
  | .int _, .int _ => true | .bl _, .bl _ => true | .str _, .str _ => true | .byt _, .byt _ => true
  | .int _, .str _ => true | .str _, .int _ => true | .bl _, .str _ => true | .str _, .bl _ => true
  | _, _ => false
def rEq : R2 := fun x y H Q => scal x y = true ∧ Q (.bl (decide (x = y))) H
def rNe : R2 := fun x y H Q => scal x y = true ∧ Q (.bl (!decide (x = y))) H

theorem dec_int {i j : Int} : decide (V.int i = V.int j) = (i == j) := by
  rw [Bool.eq_iff_iff]
  simp
theorem dec_bl {i j : Bool} : decide (V.bl i = V.bl j) = (i == j) := by
  rw [Bool.eq_iff_iff]
  simp
theorem dec_str {i j : Str} : decide (V.str i = V.str j) = (i == j) := by
  rw [Bool.eq_iff_iff]
  simp
theorem dec_byt {i j : Array UInt8} : decide (V.byt i = V.byt j) = (i.toList == j.toList) := by
  rw [Bool.eq_iff_iff]
  cases i
  cases j
  simp

section
variable {X : Cx} {a b c : Expr} {ta tb tc : TE} {pos : Pos}
theorem fin_bl {pins : List (Addr × Obj)} {σ : St} {H : Hp} {s : Shared} {Q : VK} {k k' : Bool} (I : Inv X pins σ H s) (q : Q (.bl k) H) (e : k = k') : EP X pins σ Q (.bool k') s := by
  subst e
  exact ⟨.bl k, H, I, rfl, q⟩
theorem op_eq : OpR X (compareOp .Eq) rEq := by
  intro pins s σ H x y v u Q I rx ry h
  obtain ⟨hs, q⟩ := h
  cases x with
  | non =>
    cases rx
    cases y with
    | non => cases ry; exact PySem.EqNone.eq_none_none (fin_bl I q (by simp))
    | bl j => cases ry; exact PySem.EqNone.eq_none_bool (fin_bl I q (by simp))
    | int j => obtain ⟨t', rfl⟩ := ry; exact PySem.EqNone.eq_none_int (fin_bl I q (by simp))
    | str j => obtain ⟨t', rfl⟩ := ry; exact PySem.EqNone.eq_none_str (fin_bl I q (by simp))
    | _ => exact absurd (show false = true from hs) Bool.false_ne_true
  | bl i =>
    cases rx
    cases y with
    | non => cases ry; exact PySem.EqNone.eq_bool_none (fin_bl I q (by simp))
    | bl j => cases ry; exact eq_bool (fin_bl I q dec_bl)
    | str j => obtain ⟨t', rfl⟩ := ry; exact PySem.EqMixed.eq_bool_str (fin_bl I q (by simp))
    | _ => exact absurd (show false = true from hs) Bool.false_ne_true
  | int i =>
    obtain ⟨t, rfl⟩ := rx
    cases y with
    | non => cases ry; exact PySem.EqNone.eq_int_none (fin_bl I q (by simp))
    | int j => obtain ⟨t', rfl⟩ := ry; exact eq_int (fin_bl I q dec_int)
    | str j => obtain ⟨t', rfl⟩ := ry; exact PySem.EqMixed.eq_int_str (fin_bl I q (by simp))
    | _ => exact absurd (show false = true from hs) Bool.false_ne_true
  | str i =>
    obtain ⟨t, rfl⟩ := rx
    cases y with
    | non => cases ry; exact PySem.EqNone.eq_str_none (fin_bl I q (by simp))
    | bl j => cases ry; exact PySem.EqMixed.eq_str_bool (fin_bl I q (by simp))
    | int j => obtain ⟨t', rfl⟩ := ry; exact PySem.EqMixed.eq_str_int (fin_bl I q (by simp))
    | str j => obtain ⟨t', rfl⟩ := ry; exact eq_str (fin_bl I q dec_str)
    | _ => exact absurd (show false = true from hs) Bool.false_ne_true
  | byt i =>
    obtain ⟨t, rfl⟩ := rx
    cases y with
    | byt j => obtain ⟨t', rfl⟩ := ry; exact PySem.W.eq_bytes (fin_bl I q dec_byt)
    | _ => exact absurd (show false = true from hs) Bool.false_ne_true
  | _ => cases y <;> exact absurd (show false = true from hs) Bool.false_ne_true
theorem op_ne : OpR X (compareOp .NotEq) rNe := by
  intro pins s σ H x y v u Q I rx ry h
  obtain ⟨hs, q⟩ := h
  cases x with
  | non =>
    cases rx
    cases y with
    | non => cases ry; exact PySem.EqNone.ne_none_none (fin_bl I q (by simp))
    | bl j => cases ry; exact PySem.EqNone.ne_none_bool (fin_bl I q (by simp))
    | int j => obtain ⟨t', rfl⟩ := ry; exact PySem.EqNone.ne_none_int (fin_bl I q (by simp))
    | str j => obtain ⟨t', rfl⟩ := ry; exact PySem.EqNone.ne_none_str (fin_bl I q (by simp))
    | _ => exact absurd (show false = true from hs) Bool.false_ne_true
  | bl i =>
    cases rx
    cases y with
    | non => cases ry; exact PySem.EqNone.ne_bool_none (fin_bl I q (by simp))
    | bl j => cases ry; exact ne_bool (fin_bl I q (congrArg not dec_bl))
    | str j => obtain ⟨t', rfl⟩ := ry; exact PySem.EqMixed.ne_bool_str (fin_bl I q (by simp))
    | _ => exact absurd (show false = true from hs) Bool.false_ne_true
  | int i =>
    obtain ⟨t, rfl⟩ := rx
    cases y with
    | non => cases ry; exact PySem.EqNone.ne_int_none (fin_bl I q (by simp))
    | int j => obtain ⟨t', rfl⟩ := ry; exact ne_int (fin_bl I q (congrArg not dec_int))
    | str j => obtain ⟨t', rfl⟩ := ry; exact PySem.EqMixed.ne_int_str (fin_bl I q (by simp))
    | _ => exact absurd (show false = true from hs) Bool.false_ne_true
  | str i =>
    obtain ⟨t, rfl⟩ := rx
    cases y with
    | non => cases ry; exact PySem.EqNone.ne_str_none (fin_bl I q (by simp))
    | bl j => cases ry; exact PySem.EqMixed.ne_str_bool (fin_bl I q (by simp))
    | int j => obtain ⟨t', rfl⟩ := ry; exact PySem.EqMixed.ne_str_int (fin_bl I q (by simp))
    | str j => obtain ⟨t', rfl⟩ := ry; exact ne_str (fin_bl I q (congrArg not dec_str))
    | _ => exact absurd (show false = true from hs) Bool.false_ne_true
  | byt i =>
    obtain ⟨t, rfl⟩ := rx
    cases y with
    | byt j => obtain ⟨t', rfl⟩ := ry; exact PySem.W.ne_bytes (fin_bl I q (congrArg not dec_byt))
    | _ => exact absurd (show false = true from hs) Bool.false_ne_true
  | _ => cases y <;> exact absurd (show false = true from hs) Bool.false_ne_true

theorem op_lt : OpR X (compareOp .Lt) (rI0 fun i j => .bl (decide (i < j))) := opB0 fun _ _ _ _ _ _ _ q => lt_int q
theorem op_le : OpR X (compareOp .LtE) (rI0 fun i j => .bl (decide (i ≤ j))) := opB0 fun _ _ _ _ _ _ _ q => le_int q
theorem op_gt : OpR X (compareOp .Gt) (rI0 fun i j => .bl (decide (j < i))) := opB0 fun _ _ _ _ _ _ _ q => gt_int q
theorem op_ge : OpR X (compareOp .GtE) (rI0 fun i j => .bl (decide (j ≤ i))) := opB0 fun _ _ _ _ _ _ _ q => ge_int q

theorem op_notN : OpR X (compareOp .IsNot) (fun x y H Q => y = .non ∧ Q (.bl (!decide (x = .non))) H) := by
  intro pins s σ H x y v u Q I rx ry h
  obtain ⟨rfl, q⟩ := h
  cases ry
  refine isnot_none_gen (fin_bl I q ?_)
  cases x <;> first
    | (cases rx; rfl)
    | (obtain ⟨t, rfl⟩ := rx; rfl)



theorem nomark (b : Expr) {op : CmpOp} (h : op ≠ .In := by decide) (h2 : op ≠ .NotIn := by decide) : behindInMarks op b = false := by
  have e1 : (op == CmpOp.In) = false := by cases op <;> first | rfl | exact absurd rfl h
  have e2 : (op == CmpOp.NotIn) = false := by cases op <;> first | rfl | exact absurd rfl h2
  cases b <;> simp [behindInMarks, e1, e2]
/-- a comparison as a value; hm: nomark b, or (for in, not in) by with_unfolding_all rfl -/
theorem pe_cmpR {op : CmpOp} {r : R2} (ho : OpR X (compareOp op) r) (ha : PE X a ta) (hb : PE X b tb) (hm : behindInMarks op b = false) : PE X (.Compare a [op] [b] pos) (tOp r ta tb) := by
  intro pins s σ H Q I h
  exact wpAny_Compare1 (binT ha hb I h fun v u s2 x y H2 I2 rx ry q => ho pins s2 σ H2 x y v u Q I2 rx ry q) hm
/-- a reading of a value as a test -/
def tTest (t : TE) : TT := fun σ H Q => t σ H fun x H' => ∃ k, x = .bl k ∧ Q k H'
theorem pt_cmpR {op : CmpOp} {r : R2} (ho : OpR X (compareOp op) r) (ha : PE X a ta) (hb : PE X b tb) (hm : behindInMarks op b = false) : PT X (.Compare a [op] [b] pos) (tTest (tOp r ta tb)) := by
  intro pins s σ H Q I h
  refine wpAny_isTrue_Compare1 (thn (ha pins s σ H _ I h) fun v s1 ⟨x, H1, I1, r1, q1⟩ => thn (hb pins s1 σ H1 _ I1 q1) fun u s2 ⟨y, H2, I2, r2, q2⟩ =>
    thn (ho pins s2 σ H2 x y v u _ I2 r1 r2 q2) fun c s3 ⟨z, H3, I3, r3, k, e, q3⟩ => ?_) hm
  subst e
  cases r3
  exact wpAny_truthy_bool ⟨H3, I3, q3⟩
/-- a op1 b op2 c -/
def tChain (r r' : R2) (ta tb tc : TE) : TE := fun σ H Q => ta σ H fun x H1 => tb σ H1 fun y H2 => r x y H2 fun z H3 => ∃ k, z = .bl k ∧
  (if k = true then tc σ H3 fun w' H4 => r' y w' H4 Q else Q (.bl false) H3)
theorem pe_chain {op op' : CmpOp} {r r' : R2} (ho : OpR X (compareOp op) r) (ho' : OpR X (compareOp op') r') (ha : PE X a ta) (hb : PE X b tb) (hc : PE X c tc)
    (hm : lastMarks [op, op'] [b, c] = false := by with_unfolding_all rfl) : PE X (.Compare a [op, op'] [b, c] pos) (tChain r r' ta tb tc) := by
  intro pins s σ H Q I h
  refine Compare_chain (thn (ha pins s σ H _ I h) fun v s1 ⟨x, H1, I1, r1, q1⟩ => chain_link (thn (hb pins s1 σ H1 _ I1 q1) fun u s2 ⟨y, H2, I2, r2, q2⟩ =>
    thn (ho pins s2 σ H2 x y v u _ I2 r1 r2 q2) fun d s3 ⟨z, H3, I3, r3, k, e, q3⟩ => ?_)) hm
  subst e
  cases r3
  refine wpAny_truthy_bool ?_
  cases k with
  | false => exact ite_ff ⟨.bl false, H3, I3, rfl, q3⟩
  | true => exact ite_tt (chain_last (thn (hc pins s3 σ H3 _ I3 q3) fun w' s4 ⟨z', H4, I4, r4, q4⟩ => ho' pins s4 σ H4 y z' u w' Q I4 r2 r4 q4))

/-! ### truth -/
theorem line63 : (sizeLine : Nat) < 2 ^ 63 := by rw [sizeLine_eq]; decide

/-! ### strs and bytes -/


/-! ### scalar builtins, by CallR -/
theorem vals1 {x : V} {us : List Value} (r : Vals [x] us) : ∃ u, us = [u] ∧ RelV x u := by
  cases r with
  | cons r1 r2 => cases r2; exact ⟨_, rfl, r1⟩
theorem vals2 {x y : V} {us : List Value} (r : Vals [x, y] us) : ∃ u w', us = [u, w'] ∧ RelV x u ∧ RelV y w' := by
  cases r with
  | cons r1 r2 =>
    cases r2 with
    | cons r3 r4 => cases r4; exact ⟨_, _, rfl, r1, r3⟩
theorem call_max2 (hc : X.calm = true) : CallR X (.builtin "max") (fun xs H Q => ∃ i j, xs = [.int i, .int j] ∧ Q (.int (if j > i then j else i)) H) := by
  intro pins s σ H xs us Q I r h
  obtain ⟨i, j, rfl, q⟩ := h
  obtain ⟨u, w', rfl, ⟨t, rfl⟩, ⟨t', rfl⟩⟩ := vals2 r
  refine max_two_ints (I.ok.hd hc) fun h' tk k => ⟨_, H, I.kept k, ?_, q⟩
  by_cases hj : j > i
  · rw [if_pos hj, if_pos hj]; exact ⟨_, rfl⟩
  · rw [if_neg hj, if_neg hj]; exact ⟨_, rfl⟩
theorem call_min2 (hc : X.calm = true) : CallR X (.builtin "min") (fun xs H Q => ∃ i j, xs = [.int i, .int j] ∧ Q (.int (if j < i then j else i)) H) := by
  intro pins s σ H xs us Q I r h
  obtain ⟨i, j, rfl, q⟩ := h
  obtain ⟨u, w', rfl, ⟨t, rfl⟩, ⟨t', rfl⟩⟩ := vals2 r
  refine min_two_ints (I.ok.hd hc) fun h' tk k => ⟨_, H, I.kept k, ?_, q⟩
  by_cases hj : j < i
  · rw [if_pos hj, if_pos hj]; exact ⟨_, rfl⟩
  · rw [if_neg hj, if_neg hj]; exact ⟨_, rfl⟩
theorem call_int1 : CallR X (.type "int") (fun xs H Q => (∃ i, xs = [.int i] ∧ Q (.int i) H) ∨ ∃ k, xs = [.bl k] ∧ Q (.int (if k then 1 else 0)) H) := by
  intro pins s σ H xs us Q I r h
  rcases h with ⟨i, rfl, q⟩ | ⟨k, rfl, q⟩
  · obtain ⟨u, rfl, t, rfl⟩ := vals1 r
    exact call_int_int ⟨.int i, H, I, ⟨_, rfl⟩, q⟩
  · obtain ⟨u, rfl, r1⟩ := vals1 r
    cases r1
    exact call_int_bool ⟨.int (if k then 1 else 0), H, I.tok _, ⟨_, rfl⟩, q⟩
end
end L2

namespace L2
open PySem PySem.Spec PyProof.Rows

/-! ### an instance, its attributes a map -/
structure ObjM (h : Heap) (x dx C : Addr) (mA : Str → Option Value) : Prop where
  obj : h.get? x = some (PySem.W.instObj C dx)
  ns : h.Ns1 dx mA
  ne : dx ≠ x

theorem lookIn_ns {h : Heap} {dx : Addr} {mA : Str → Option Value} (n : h.Ns1 dx mA) : ∃ od, h.get? dx = some od ∧ ∀ name, PySem.W.lookIn name od = some (mA name) := by
  obtain ⟨o, es, ep, ho, hd, hk, _, hm⟩ := n
  refine ⟨o, ho, fun name => ?_⟩
  have e := hm name
  unfold nsFind findBy at e
  rw [← Array.find?_toList] at e
  unfold PySem.W.lookIn
  rw [hd]
  dsimp only
  split
  · rename_i y q
    rw [q] at e
    exact congrArg some e
  · rename_i q
    rw [q] at e
    have a : es.toList.any (·.refKey) = false := by
      rw [List.any_eq_false]
      intro y hy
      obtain ⟨z, t, hkey⟩ := hk y (Array.mem_toList_iff.mp hy)
      simp [DictEntry.refKey, hkey]
    have a' : ¬ es.toList.any (·.refKey) = true := by rw [a]; exact Bool.false_ne_true
    rw [if_neg a']
    exact congrArg some e

theorem ObjM.look {h : Heap} {x dx C : Addr} {mA : Str → Option Value} (I : ObjM h x dx C mA) : ∃ od, PySem.W.InstAt h x (PySem.W.instObj C dx) C (some od) ∧ ∀ name, PySem.W.lookIn name od = some (mA name) :=
  let ⟨od, ho, hl⟩ := lookIn_ns I.ns
  ⟨od, ⟨I.obj, rfl, rfl, ho⟩, hl⟩

section
variable {prog : Program} {w : World} {A : Around} {E : Value → Shared → Prop} {s : Shared} {K : PySem.W.Frag} {x dx C f : Addr} {mA : Str → Option Value} {name : Str} {v : Value}





end

/-! ### the attributes as a list of pairs -/

theorem RelO.some_of {v : V} {o : Option Value} (r : RelO (some v) o) : ∃ u, o = some u ∧ RelV v u := by
  cases o with
  | none => exact (show False from r).elim
  | some u => exact ⟨u, rfl, r⟩

section
variable {P : Program} {w : World} {H H' : Hp} {h h' : Heap} {a C dx : Addr} {fs fs' : List (Str × V)}
theorem ins_get (hok : HOk P w H h) (e : H a = some (.ins C dx fs)) : ∃ mA, ObjM h a dx C mA ∧ (∀ f, RelO (fs.lookup f) (mA f)) ∧ PySem.Within mA (fs.map (·.1)) ∧ fs.length ≤ 1000 ∧ H dx = some (.own a) := by
  obtain ⟨d, z, ne, ob, mA, n, r, q⟩ := (show ObjOk P w H h a (.ins C dx fs) from hok a _ e)
  exact ⟨mA, ⟨ob, n, ne⟩, r, q, z, d⟩
end

/-! ### what of the text a class must have -/
structure Cls (K : PySem.W.Frag) (C : Addr) : Prop where
  pg : PySem.W.plainGet K C Str.empty = true
  hd : PySem.W.hasDictIn K C = true
  po : PySem.W.plainOver K C = true
  sa : PySem.W.findIn K (.ref C) "__setattr__" = some (some (.builtin "object.__setattr__"))
theorem Cls.get {K : PySem.W.Frag} {C : Addr} (c : Cls K C) (f : Str) : PySem.W.plainGet K C f = true := c.pg
/-- a constant of the class -/
structure Con (K : PySem.W.Frag) (C : Addr) (f : Str) (v : V) (u : Value) : Prop where
  at_ : PySem.W.findIn K (.ref C) f = some (some u)
  rel : RelV v u
  get : PySem.W.specialIn K u "__get__" = some none
  cp : PySem.W.copiedNames.contains f = false
/-- a method: a plain def of the class or of one above it -/
structure Meth (K : PySem.W.Frag) (C : Addr) (m : Str) (f : Addr) : Prop where
  at_ : PySem.W.findIn K (.ref C) m = some (some (.ref f))
  fn : PySem.W.isFn K (.ref f) = true
  kp : PySem.W.keepIn K (.ref f) = true

section
variable {X : Cx} {pins : List (Addr × Obj)} {σ : St} {H : Hp} {s : Shared} {a C dx : Addr} {fs : List (Str × V)} {f : Str} {v : V} {A : Around} {E : Value → Shared → Prop}






end

/-! ### readings and rules -/

section
variable {X : Cx} {o e value : Expr} {f : Str} {pos pos' tpos : Pos} {ta tv : TE}

end

/-! ### isinstance -/
section
variable {X : Cx} {pins : List (Addr × Obj)} {σ : St} {H : Hp} {s : Shared} {A : Around} {E : Value → Shared → Prop} {Q : Value → Shared → Prop} {c : Value} {b : Bool}
/-- the type of a value, as the fragment's deciders take it; for an instance its class -/
inductive TyOf (K : PySem.W.Frag) (H : Hp) : V → Value → Prop where
  | non : TyOf K H .non (.type "NoneType")
  | bl (x : Bool) : TyOf K H (.bl x) (.type "bool")
  | int (i : Int) : TyOf K H (.int i) (.type "int")
  | str (x : Str) : TyOf K H (.str x) (.type "str")
  | flt (x : UInt64) : TyOf K H (.flt x) (.type "float")
  | lst {a : Addr} {xs : List V} (e : H a = some (.lst xs)) : TyOf K H (.ref a) (.type "list")
  | frz {a : Addr} {o : Obj} {xs : List V} (e : H a = some (.frz o (.lst xs))) : TyOf K H (.ref a) (.type "list")
  | tup {a : Addr} {xs : List V} (e : H a = some (.tup xs)) : TyOf K H (.ref a) (.type "tuple")
  | dK {a : Addr} {kvs : List (Key × V)} (e : H a = some (.dK kvs)) : TyOf K H (.ref a) (.type "dict")
  | dT {a : Addr} {kvs : List (List Key × V)} (e : H a = some (.dT kvs)) : TyOf K H (.ref a) (.type "dict")
  | ins {a C dx : Addr} {fs : List (Str × V)} (e : H a = some (.ins C dx fs)) (cl : Cls K C) (ha : PySem.W.findIn K (.ref C) "__class__" = some (some (.builtin "object.__class__")))
      (hn : PySem.W.specialIn K (.builtin "object.__class__") "__get__" = some (some (.builtin "getset_descriptor.__get__"))) (htk : PySem.W.takesIn K (.builtin "object.__class__") = some true)
      (hm : PySem.W.mroIn K C (.type "object") = some true) : TyOf K H (.ref a) (.ref C)
/-- isinstance(x, c) for one class c, a built-in or an own one: kitOne's answer -/
theorem isinst_ok {x : V} {u t : Value} (I : Inv X pins σ H s) (rx : RelV x u) (ty : TyOf X.K H x t) (e : PySem.W.kitOne X.K t c = some b) (h : ∀ tk, Q (.bool b) { s with toks := tk }) :
    wpAny (model X.prog X.w) A (call (.builtin "isinstance") [u, c]) Q E s := by
  cases ty with
  | non => cases (show u = Value.none from rx); exact PySem.W.kia_one PySem.W.kitx_none I.kIn True.intro e (fun z => nomatch z) h
  | bl y => cases (show u = Value.bool y from rx); exact PySem.W.kia_one PySem.W.kitx_bool I.kIn True.intro e (fun z => nomatch z) h
  | int i => obtain ⟨t, q⟩ := (show ∃ t, u = Value.int i t from rx); cases q; exact PySem.W.kia_one PySem.W.kitx_int I.kIn True.intro e (fun z => nomatch z) h
  | str y => obtain ⟨t, q⟩ := (show ∃ t, u = Value.str y t from rx); cases q; exact PySem.W.kia_one PySem.W.kitx_str I.kIn True.intro e (fun z => nomatch z) h
  | flt y => obtain ⟨t, q⟩ := (show ∃ t, u = Value.float y t from rx); cases q; exact PySem.W.kia_one PySem.W.kitx_float I.kIn True.intro e (fun z => nomatch z) h
  | @lst a xs ea =>
    cases (show u = Value.ref a from rx)
    obtain ⟨_, _, n, _, h1⟩ := (show ObjOk X.prog X.w H s.heap a (.lst xs) from I.hok a _ ea)
    exact PySem.W.kia_one PySem.W.kitx_list I.kIn ⟨_, h1, rfl⟩ e (fun z => nomatch z) h
  | @frz a ob xs ea =>
    cases (show u = Value.ref a from rx)
    obtain ⟨_, _, _, n, _, h1⟩ := (show ObjOk X.prog X.w H s.heap a (.frz ob (.lst xs)) from I.hok a _ ea)
    exact PySem.W.kia_one PySem.W.kitx_list I.kIn ⟨_, h1, rfl⟩ e (fun z => nomatch z) h
  | @tup a xs ea =>
    cases (show u = Value.ref a from rx)
    obtain ⟨_, _, _, p⟩ := (show ObjOk X.prog X.w H s.heap a (.tup xs) from I.hok a _ ea)
    obtain ⟨o, h1, h2, _⟩ := p
    exact PySem.W.kia_one PySem.W.kitx_tuple I.kIn ⟨o, h1, h2⟩ e (fun z => nomatch z) h
  | @dK a kvs ea =>
    cases (show u = Value.ref a from rx)
    obtain ⟨_, _, vs, _, p⟩ := (show ObjOk X.prog X.w H s.heap a (.dK kvs) from I.hok a _ ea)
    obtain ⟨o, es, ep, h1, h2, _⟩ := p
    exact PySem.W.kia_one PySem.W.kitx_dict I.kIn ⟨o, h1, h2.1⟩ e (fun z => nomatch z) h
  | @dT a kvs ea =>
    cases (show u = Value.ref a from rx)
    obtain ⟨_, _, xs, _, o, es, ep, h1, h2, _⟩ := (show ObjOk X.prog X.w H s.heap a (.dT kvs) from I.hok a _ ea)
    exact PySem.W.kia_one PySem.W.kitx_dict I.kIn ⟨o, h1, h2.1⟩ e (fun z => nomatch z) h
  | @ins a C dx fs ea cl ha hn htk hm =>
    cases (show u = Value.ref a from rx)
    obtain ⟨mA, O, _⟩ := ins_get I.hok ea
    obtain ⟨od, J, _⟩ := O.look
    exact PySem.W.kia_one (PySem.W.kitx_own (cl.get _) cl.hd ha hn htk hm) I.kIn J e (fun z => nomatch z) h
end
end L2

namespace L2
open PySem PySem.Spec PyProof.Rows

/-! ### room -/
structure Room (k : Nat) (A : Around) : Prop where
  hd : A.handled = none
  dp : A.depth + 3 * k + 5 < recursionLimit
  un : A.units + 16 * k + 200 < cLine
theorem Room.mono {j k : Nat} {A : Around} (r : Room k A) (h : j ≤ k) : Room j A := ⟨r.hd, by have := r.dp; lia, by have := r.un; lia⟩
theorem Room.deeper {k : Nat} {A : Around} (r : Room (k + 1) A) (env : Env) : Room k (A.deeper env) :=
  ⟨r.hd, by have := r.dp; show A.depth + 1 + 3 * k + 5 < _; lia, by have := r.un; show A.units + 3 + 16 * k + 200 < _; lia⟩
theorem Room.in1 {k : Nat} {A : Around} (r : Room (k + 1) A) : Room k A.in1 :=
  ⟨r.hd, by have := r.dp; show A.depth + 3 * k + 5 < _; lia, by have := r.un; show A.units + 1 + 16 * k + 200 < _; lia⟩
theorem Room.depth {k : Nat} {A : Around} (r : Room k A) : A.depth < recursionLimit := by have := r.dp; lia
theorem Room.units {k : Nat} {A : Around} (r : Room k A) : A.units + 64 < cLine := by have := r.un; lia
theorem Room.units0 {k : Nat} {A : Around} (r : Room k A) : A.units < cLine := by have := r.un; lia

/-! ### argument lists and displays -/
def tNil : TA := fun _ H Q => Q [] H
def tCons (ta : TE) (tr : TA) : TA := fun σ H Q => ta σ H fun x H1 => tr σ H1 fun xs H2 => Q (x :: xs) H2
section
variable {X : Cx} {e : Expr} {es : List Expr} {te : TE} {t : TA} {pos : Pos}
theorem pa_nil : PA X [] tNil := fun _ _ _ _ H Q I h => Calls.spliced_nil ⟨[], H, I, .nil, h⟩
theorem pa_cons (ha : PE X e te) (hr : PA X es t) (hs : starEach (e :: es) X.env = (false, eval e X.env) :: starEach es X.env := by rfl) : PA X (e :: es) (tCons te t) := by
  intro pos pins s σ H Q I h
  rw [hs]
  show wpAny _ _ (spliced ((false, eval e X.env) :: backTo pos (starEach es X.env))) _ _ s
  refine Calls.spliced_cons (thn (ha pins s σ H _ I h) fun u s1 ⟨x, H1, I1, r1, q1⟩ => ?_)
  exact thn (hr pos pins s1 σ H1 _ I1 q1) fun us s2 ⟨xs, H2, I2, r2, q2⟩ => ⟨x :: xs, H2, I2, .cons r1 r2, q2⟩

/-- a tuple, a list of written items -/
def tTup (t : TA) : TE := fun σ H Q => t σ H fun xs H1 => xs.length ≤ sizeLine ∧ ∀ p, H1 p = none → Q (.ref p) (upd H1 p (.tup xs))
def tLst (t : TA) : TE := fun σ H Q => t σ H fun xs H1 => xs.length ≤ sizeLine ∧ ∀ p, H1 p = none → Q (.ref p) (upd H1 p (.lst xs))
theorem pe_tup {x1} (h : PA X es t) : PE X (.Tuple es x1 pos) (tTup t) := by
  intro pins s σ H Q I hq
  refine wpAny_Tuple_spliced (thn (h pos pins s σ H _ I hq) fun us s1 ⟨xs, H1, I1, r, z, q⟩ => ⟨by rw [← r.length]; exact z, ?_⟩)
  have hf : H1 s1.heap.objs.size = none := I1.hok.fresh (Nat.le_refl _)
  refine ⟨.ref s1.heap.objs.size, upd H1 s1.heap.objs.size (.tup xs), I1.laid (t' := s1.toks) (fun b u e => Heap.get?_push_of_some _ e) (Nat.le_refl _) ?_, rfl, q _ hf⟩
  exact ⟨z, us, r, ⟨_, Heap.get?_push_size _ rfl, rfl, _, rfl⟩⟩
theorem pe_lst (h : PA X es t) : PE X (.List es pos) (tLst t) := by
  intro pins s σ H Q I hq
  refine wpAny_List_spliced (thn (h pos pins s σ H _ I hq) fun us s1 ⟨xs, H1, I1, r, z, q⟩ => ⟨by rw [← r.length]; exact z, ?_⟩)
  have hf : H1 s1.heap.objs.size = none := I1.hok.fresh (Nat.le_refl _)
  refine ⟨.ref s1.heap.objs.size, upd H1 s1.heap.objs.size (.lst xs), I1.laid (t' := s1.toks) (fun b u e => Heap.get?_push_of_some _ e) (Nat.le_refl _) ?_, rfl, q _ hf⟩
  exact ⟨z, us, 0, r, Heap.get?_push_size _ rfl⟩
end

/-! ### what a def promises -/
/-- a def's promise: the bound arguments in the parameters' order, the heap, the wanted end, the wanted exception -/
abbrev Sp := List V → Hp → VK → XK → Prop
/-- how an exception lies behind a call (file 08 gives it): the callers' frames, abstract heap and state ahead of the call, the wish, the exception, the state -/
abbrev CXT := List Env → Hp → Shared → XK → Value → Shared → Prop

/-- the state at a call -/
structure Env0 (P : Program) (w : World) (K : PySem.W.Frag) (mg : Str → Option Value) (base : Heap) (A : Around) (outer : List Env) (s : Shared) (H : Hp) : Prop where
  frames : A.frames = some outer
  mod : Mod K mg base
  bs : ∀ b o, base.get? b = some o → s.heap.get? b = some o ∧ H b = none
  bsz : base.objs.size ≤ s.heap.objs.size
  funs : s.heap.FunFrames base outer
  frf : ∀ b ∈ frs outer, H b = none
  hok : HOk P w H s.heap
  bare : AllBare s.gens
/-- a call's end -/
def CE (outer : List Env) (P : Program) (w : World) (H : Hp) (s : Shared) (Q : VK) (u : Value) (s' : Shared) : Prop :=
  ∃ v H', s'.os = s.os ∧ AllBare s'.gens ∧ Un (frs outer) [] H H' s.heap s'.heap ∧ HOk P w H' s'.heap ∧ RelV v u ∧ Q v H'
def CR (CX : CXT) (outer : List Env) (P : Program) (w : World) (H : Hp) (s : Shared) (Q : VK) (E : XK) (r : Result) (s' : Shared) : Prop :=
  match r with
  | .ok (.ret u) => CE outer P w H s Q u s'
  | .ok _ => False
  | .error e => CX outer H s E e s'
structure FnOk (P : Program) (w : World) (K : PySem.W.Frag) (mg : Str → Option Value) (base : Heap) (CX : CXT) (k : Nat) (f : Addr) (fd : FuncData) (ps : List Str) (sp : Sp) : Prop where
  len : ∀ vs H Q E, sp vs H Q E → vs.length = ps.length
  run : ∀ (A : Around) (outer : List Env) (s : Shared) (H : Hp) (args : Args) (us : List Value) (vs : List V) (Q : VK) (E : XK), Room k A → Env0 P w K mg base A outer s H → BindsTo s fd args (ps.zip us) → Vals vs us → sp vs H Q E →
    codeAny (model P w) A (.call (.ref f) args) (CR CX outer P w H s Q E) s

theorem Env0.in1 {P : Program} {w : World} {K : PySem.W.Frag} {mg : Str → Option Value} {base : Heap} {A : Around} {outer : List Env} {s : Shared} {H : Hp} (e : Env0 P w K mg base A outer s H) :
    Env0 P w K mg base A.in1 outer s H := ⟨e.frames, e.mod, e.bs, e.bsz, e.funs, e.frf, e.hok, e.bare⟩

section
variable {X : Cx} {pins : List (Addr × Obj)} {σ : St} {H : Hp} {s s' : Shared}
/-- from a body: what a callee wants -/
theorem Inv.env0 (I : Inv X pins σ H s) : Env0 X.prog X.w X.K X.mg X.base X.A X.stack s H :=
  ⟨I.ok.frames, I.ok.mod, I.bs, Nat.le_trans I.ok.bsz I.sz, I.stack, I.stkFree, I.hok, I.bare⟩
/-- behind a call -/
theorem Inv.after {Q : VK} {u : Value} (I : Inv X pins σ H s) (h : CE X.stack X.prog X.w H s Q u s') : EP X pins σ Q u s' := by
  obtain ⟨v, H', os, bare, un, hok, r, q⟩ := h
  obtain ⟨hh, g, d, t, os'⟩ := s'
  obtain rfl : os' = s.os := os
  exact ⟨v, H', I.call (h' := hh) (g' := g) (d' := d) (t' := t) (ch := []) un hok bare (fun b z => absurd z (by simp)), r, q⟩
end

/-! ### calls -/
/-- f(..): the written arguments, then the defaults dvs; E: what is wanted of an exception -/
def tCall (sp : Sp) (dvs : List V) (E : XK) (t : TA) : TE := fun σ H Q => t σ H fun vs H1 => sp (vs ++ dvs) H1 Q E

/-- how the parameters are bound: us the positional arguments, kw the keywords' values by name, ds the defaults that fill up -/
def Binds (K : PySem.W.Frag) (fd : FuncData) (ps : List Str) (ds : List Value) : Prop :=
  ∀ (s : Shared) (us : List Value), K.In s.heap → (us ++ ds).length = ps.length → BindsTo s fd ⟨us, []⟩ (ps.zip (us ++ ds))
/-- every parameter is given -/
theorem Binds.all {K : PySem.W.Frag} {fd : FuncData} {ps : List Str} (h : ∀ us : List Value, us.length = ps.length → bindArgs fd ⟨us, []⟩ = pure (ps.zip us)) : Binds K fd ps [] := fun s us _ hl => by
  rw [List.append_nil] at hl ⊢
  exact .of_eq (h us hl)

/-- an exception of a callee reaches what this body wants of exceptions -/
def Passes (CX : CXT) (X : Cx) (E : XK) : Prop := ∀ (pins : List (Addr × Obj)) (σ : St) (H : Hp) (s : Shared) (e : Value) (s' : Shared), Inv X pins σ H s → CX X.stack H s E e s' → X.xe e s'

section
variable {X : Cx} {CX : CXT} {k : Nat} {f C : Addr} {fd : FuncData} {ps : List Str} {sp : Sp} {dvs : List V} {ds : List Value} {E : XK} {x m : Str} {p pos apos : Pos} {e o : Expr} {es : List Expr} {ta : TE} {t : TA}

/-- the callee runs -/
theorem run_fn {pins : List (Addr × Obj)} {σ : St} {H : Hp} {s : Shared} {Q : VK} {us : List Value} {vs : List V} (F : FnOk X.prog X.w X.K X.mg X.base CX k f fd ps sp) (hr : Room k X.A) (hb : Binds X.K fd ps ds) (hd : Vals dvs ds) (hx : Passes CX X E)
    (I : Inv X pins σ H s) (r : Vals vs us) (h : sp (vs ++ dvs) H Q E) : wpAny (model X.prog X.w) X.A (call (.ref f) us) (EP X pins σ Q) X.xe s := by
  have r2 : Vals (vs ++ dvs) (us ++ ds) := r.append hd
  have hl : (us ++ ds).length = ps.length := by rw [← r2.length]; exact F.len _ _ _ _ h
  refine wpAny_call (codeAny_mono (F.run X.A X.stack s H ⟨us, []⟩ (us ++ ds) (vs ++ dvs) Q E hr I.env0 (hb s us I.kIn hl) r2 h) fun r s' hq => ?_)
  cases r with
  | error e => exact hx pins σ H s e s' I hq
  | ok fl =>
    cases fl with
    | ret u => exact I.after hq
    | next => exact False.elim hq
    | brk => exact False.elim hq
    | cont => exact False.elim hq

theorem pe_call (F : FnOk X.prog X.w X.K X.mg X.base CX k f fd ps sp) (hr : Room k X.A) (hg : Gl X x) (hm : X.mg x = some (.ref f)) (hk : PySem.W.keepIn X.K (.ref f) = true) (hb : Binds X.K fd ps ds) (hd : Vals dvs ds) (hx : Passes CX X E)
    (ha : PA X (e :: es) t) (hdb : (x == ("__debug__" : Str)) = false := by decide) (he : starEach (e :: es) X.env = (false, eval e X.env) :: starEach es X.env := by rfl) (hpl : (backTo pos (starEach es X.env)).any (·.1) = false := by rfl) :
    PE X (.Call (.Name x p) (e :: es) [] pos) (tCall sp dvs E t) := by
  intro pins s σ H Q I h
  refine wpAny_Call_Name_kw (ld_glob I hg hm ?_ hdb)
  refine PySem.W.callWith_K (h₀ := X.base) I.ok.mod.kin hk (thn (ha pos pins s σ H _ I h) fun us s1 ⟨vs, H1, I1, r, q⟩ => ⟨I1.kIn, ?_⟩) he hpl
  exact run_fn F hr hb hd hx I1 r q


/-- what a class must have to be made -/
structure Mk (K : PySem.W.Frag) (C f : Addr) : Prop where
  makes : PySem.W.makesIn K C = true
  init : PySem.W.findIn K (.ref C) "__init__" = some (some (.ref f))
  fn : PySem.W.isFn K (.ref f) = true
  kp : PySem.W.keepIn K (.ref C) = true

end

/-! ### keywords -/
section
variable {X : Cx} {CX : CXT} {k : Nat} {f C : Addr} {fd : FuncData} {ps ks : List Str} {sp : Sp} {E : XK} {x m : Str} {p pos apos kpos : Pos} {e o : Expr} {es : List Expr} {kws : List Keyword} {te ta : TE} {t tk : TA} {nm : Option Str}

/-- how a call with keywords binds: g puts the positional values us and the keywords' values ws (names ks) in the parameters' order, defaults among them -/
structure KBinds (K : PySem.W.Frag) (fd : FuncData) (ps ks : List Str) (g : List Value → List Value → List Value) (gV : List V → List V → List V) : Prop where
  to : ∀ (s : Shared) (us ws : List Value), K.In s.heap → (g us ws).length = ps.length → BindsTo s fd ⟨us, ks.zip ws⟩ (ps.zip (g us ws))
  rel : ∀ {vs : List V} {us : List Value} {zs : List V} {ws : List Value}, Vals vs us → Vals zs ws → Vals (gV vs zs) (g us ws)
variable {g : List Value → List Value → List Value} {gV : List V → List V → List V}
end

/-! ### a def's body keeps its promise -/
/-- names: the parameters first -/
structure FnScope (N P : List Str) (sc : Scope) : Prop where
  kind : sc.kind = .function
  co : sc.isCoroutine = false
  gen : sc.isGenerator = false
  nd : N.Nodup
  pre : N.take P.length = P
  par : ∀ x ∈ P, sc.names.lookup x = some .local ∨ sc.names.lookup x = some .cell
  nofree : ∀ y ∈ sc.names, y.2 ≠ .free

theorem bindL_out {kindOf : Str → Option NameKind} {x : Str} : ∀ {binds : List (Str × Value)} {m : Str → Option Value}, (∀ v, (x, v) ∉ binds) → bindL kindOf binds m x = m x
  | [], _, _ => rfl
  | (n, v) :: r, m, h => by
    unfold bindL
    rw [bindL_out fun w hw => h w (List.mem_cons_of_mem _ hw)]
    split
    · have : x ≠ n := by rintro rfl; exact h v List.mem_cons_self
      simp [this]
    · rfl
theorem bindC_out {kindOf : Str → Option NameKind} {x : Str} : ∀ {binds : List (Str × Value)} {m : Str → Option Value}, (∀ v, (x, v) ∉ binds) → bindC kindOf binds m x = m x
  | [], _, _ => rfl
  | (n, v) :: r, m, h => by
    unfold bindC
    rw [bindC_out fun w hw => h w (List.mem_cons_of_mem _ hw)]
    split
    · rfl
    · have : x ≠ n := by rintro rfl; exact h v List.mem_cons_self
      simp [this]
theorem bindL_get {kindOf : Str → Option NameKind} {x : Str} {v : Value} : ∀ {P : List Str} {vs : List Value} {i : Nat} {m : Str → Option Value}, P.Nodup → P[i]? = some x → vs[i]? = some v → kindOf x = some .local →
    bindL kindOf (P.zip vs) m x = some v
  | [], _, _, _, _, h, _, _ => by simp at h
  | _ :: _, [], _, _, _, _, h, _ => by simp at h
  | p :: P, w :: vs, 0, m, nd, h1, h2, hk => by
    simp at h1 h2; subst h1; subst h2
    show bindL kindOf ((p, w) :: P.zip vs) m p = _
    unfold bindL
    rw [bindL_out fun v hv => (List.nodup_cons.mp nd).1 (List.of_mem_zip hv).1, if_pos hk]
    simp
  | p :: P, w :: vs, i + 1, m, nd, h1, h2, hk => by
    show bindL kindOf ((p, w) :: P.zip vs) m x = _
    unfold bindL
    exact bindL_get (i := i) (List.nodup_cons.mp nd).2 (by simpa using h1) (by simpa using h2) hk
theorem bindC_get {kindOf : Str → Option NameKind} {x : Str} {v : Value} : ∀ {P : List Str} {vs : List Value} {i : Nat} {m : Str → Option Value}, P.Nodup → P[i]? = some x → vs[i]? = some v → kindOf x ≠ some .local →
    bindC kindOf (P.zip vs) m x = some v
  | [], _, _, _, _, h, _, _ => by simp at h
  | _ :: _, [], _, _, _, _, h, _ => by simp at h
  | p :: P, w :: vs, 0, m, nd, h1, h2, hk => by
    simp at h1 h2; subst h1; subst h2
    show bindC kindOf ((p, w) :: P.zip vs) m p = _
    unfold bindC
    rw [bindC_out fun v hv => (List.nodup_cons.mp nd).1 (List.of_mem_zip hv).1, if_neg hk]
    simp
  | p :: P, w :: vs, i + 1, m, nd, h1, h2, hk => by
    show bindC kindOf ((p, w) :: P.zip vs) m x = _
    unfold bindC
    exact bindC_get (i := i) (List.nodup_cons.mp nd).2 (by simpa using h1) (by simpa using h2) hk

/-- the names' values at the entry -/
def start (N : List Str) (vs : List V) : St := vs.map some ++ List.replicate (N.length - vs.length) none

/-- the context of a def's body, at its entry; an exception leaves the frame, then lies as CX says -/
def cxOf (CX : CXT) (P : Program) (w : World) (K : PySem.W.Frag) (mg : Str → Option Value) (base : Heap) (N : List Str) (qual : Str) (scope : Scope) (f : Addr) (cd : Value) (A : Around) (outer : List Env) (s : Shared) (H : Hp) (E : XK) : Cx where
  prog := P
  w := w
  K := K
  mg := mg
  base := base
  A := A.deeper (envOfC qual scope s.heap.objs.size f cd)
  N := N
  s₀ := s
  H₀ := H
  env := envOfC qual scope s.heap.objs.size f cd
  outer := outer
  stack := envOfC qual scope s.heap.objs.size f cd :: outer
  ex := []
  calm := true
  fn := fun _ => true
  pn := []
  xe := fun e s' => wpAny (model P w) (A.deeper (envOfC qual scope s.heap.objs.size f cd)) (leaving (envOfC qual scope s.heap.objs.size f cd) e) (fun _ s'' => CX outer H s E e s'') (fun e' s'' => CX outer H s E e' s'') s'

theorem cell_has {sc : Scope} {n : Nat} {x : Str} (h : sc.names.lookup x = some .cell) : ∃ c, (cellsFrom n sc.names []).lookup x = some c := by
  have q := PySem.W.cellsFrom_some sc.names n [] (.inl h)
  exact Option.isSome_iff_exists.mp q

theorem inv_start {CX : CXT} {P : Program} {w : World} {K : PySem.W.Frag} {mg : Str → Option Value} {base : Heap} {N ps : List Str} {qual : Str} {scope : Scope} {f : Addr} {cd : Value} {A : Around} {outer : List Env} {s s1 : Shared} {H : Hp} {E : XK} {us : List Value} {vs : List V}
    (S : FnScope N ps scope) (hd : A.handled = none) (e0 : Env0 P w K mg base A outer s H) (hl : vs.length = ps.length) (r : Vals vs us)
    (x : InCallC s s.heap.objs.size (bindL (envOfC qual scope s.heap.objs.size f cd).kindOf (ps.zip us) fun _ => none) (cellsFrom (s.heap.objs.size + 1) scope.names []) (bindC (envOfC qual scope s.heap.objs.size f cd).kindOf (ps.zip us) fun _ => none) s1) :
    Inv (cxOf CX P w K mg base N qual scope f cd A outer s H E) [] (start N vs) H s1 := by
  have hpl : ps.length ≤ N.length := by have := congrArg List.length S.pre; rw [List.length_take] at this; lia
  obtain ⟨h1, tk, rfl, hk⟩ := x.done
  have noA : ∀ b : Addr, b ∉ (cxOf CX P w K mg base N qual scope f cd A outer s H E).ex := fun b z => absurd (show b ∈ ([] : List Addr) from z) (by simp)
  refine ⟨⟨e0.mod, S.kind, rfl, rfl, Nat.le_refl _, fun y z c h1 h2 => ?_, fun y hy => ?_, fun y c _ h => ?_, fun _ => hd, Around.frames_deeper e0.frames, .inr ⟨rfl, rfl⟩, fun b z => absurd z (noA b), e0.bs, e0.bsz, fun b _ _ => noA b, fun b z => absurd z (noA b), e0.funs, e0.frf⟩,
    rfl, e0.bare, Un.kept hk, ⟨_, x.toInCall.ns, fun i y v h1 h2 h3 => ?_⟩, fun y c h => ⟨_, x.cell y c h⟩, e0.hok.fresh (Nat.le_refl _), fun y c h => ?_, fun p hp => absurd (show p ∈ ([] : List (Addr × Obj)) from hp) (by simp), e0.hok.kept hk, ?_⟩
  · exact name_of_addr x.apart (PySem.mem_of_lookup h1) (PySem.mem_of_lookup h2)
  · have hy : scope.names.lookup y = some .cell ∨ scope.names.lookup y = some .free := hy
    rcases hy with hy | hy
    · exact cell_has hy
    · exact absurd rfl (S.nofree _ (PySem.mem_of_lookup hy))
  · exact Nat.le_of_lt (x.above y c (PySem.mem_of_lookup h))
  · have hi : i < vs.length := by
      unfold start at h2
      by_cases hi : i < vs.length
      · exact hi
      · rw [List.getElem?_append_right (by simpa using hi)] at h2
        rw [List.getElem?_replicate] at h2
        split at h2 <;> cases h2
    have ha : vs[i]? = some v := by
      unfold start at h2
      rw [List.getElem?_append_left (by simpa using hi), List.getElem?_map] at h2
      cases e : vs[i]? with
      | none => rw [e] at h2; cases h2
      | some a => rw [e] at h2; cases h2; rfl
    obtain ⟨u, hu, rv⟩ := r.get ha
    have hp : ps[i]? = some y := by
      rw [← S.pre, List.getElem?_take_of_lt (by lia)]; exact h1
    have ndP : ps.Nodup := by rw [← S.pre]; exact S.nd.sublist (List.take_sublist _ _)
    refine ⟨u, rv, ?_⟩
    rcases S.par y (List.mem_of_getElem? hp) with k | k
    · exact .inl ⟨k, bindL_get ndP hp hu k⟩
    · obtain ⟨c, e⟩ := cell_has (n := s.heap.objs.size + 1) k
      refine .inr ⟨.inl k, c, e, ?_⟩
      have q := x.cell y c e
      rw [bindC_get ndP hp hu (by show scope.names.lookup y ≠ _; rw [k]; decide)] at q
      exact q
  · exact e0.hok.fresh (Nat.le_of_lt (x.above y c (PySem.mem_of_lookup h)))
  · unfold start
    show _ = N.length
    rw [List.length_append, List.length_map, List.length_replicate]
    lia

/-- THE RULE: a def (or a method) of the text, by its body. The body's reading t is chosen for each entry; it is run at the parameters' values -/
theorem fn_of {CX : CXT} {P : Program} {w : World} {K : PySem.W.Frag} {mg : Str → Option Value} {base : Heap} {k : Nat} {f : Addr} {name qual : Str} {params : Arguments} {body : List Stmt} {scope : Scope} {dV kV doc pm cdv ct oc : Value} {an od : Option Addr}
    {osl : Array (Option Value)} {N ps : List Str} {sp : Sp} (lk : K.lookup f = some ⟨oc, od, .func (PySem.W.fnOf name qual params body scope dV kV doc pm an cdv ct), osl⟩) (hcd : PySem.W.codeIn K cdv qual = true) (S : FnScope N ps scope)
    (len : ∀ vs H Q E, sp vs H Q E → vs.length = ps.length)
    (hbody : ∀ (A : Around) (outer : List Env) (s : Shared) (H : Hp) (vs : List V) (Q : VK) (E : XK), Room k (A.deeper (envOfC qual scope s.heap.objs.size f cdv)) → sp vs H Q E →
      ∃ t, PSs (cxOf CX P w K mg base N qual scope f cdv A outer s H E) body t ∧ t { nx := fun _ H' => Q .non H', rt := Q } (start N vs) H) :
    FnOk P w K mg base CX (k + 1) f (PySem.W.fnOf name qual params body scope dV kV doc pm an cdv ct) ps sp := by
  refine ⟨len, fun A outer s H args us vs Q E hr e0 hb r hsp => ?_⟩
  have hl := len _ _ _ _ hsp
  have KX : K.In s.heap := e0.mod.kin.keeps fun b o e => (e0.bs b o e).1
  have lim : s.heap.NoLimit := e0.mod.nolimit.keeps fun b o e => (e0.bs b o e).1
  have hkind : ∀ y ∈ ps.zip us, scope.names.lookup y.1 = some .local ∨ (scope.names.lookup y.1 = some .cell ∧ ((cellsFrom (s.heap.objs.size + 1) scope.names []).lookup y.1).isSome = true) := fun ⟨n, v⟩ hy => by
    rcases S.par n (List.of_mem_zip hy).1 with q | q
    · exact .inl q
    · exact .inr ⟨q, PySem.W.cellsFrom_some _ _ _ (.inl q)⟩
  refine codeAny_call_function hr.depth (KX _ _ lk) rfl S.co S.gen rfl (PySem.W.codeRec_of KX hcd) (hb _ _ _ _ ?_)
  refine wpAny_newFunctionEnv_cells S.kind hkind fun env he s1 x => ?_
  subst he
  refine ⟨lim.keeps x.toInCall.keep, codeAny_func ?_⟩
  obtain ⟨t, ht, hq⟩ := hbody A outer s H vs Q E (hr.deeper _) hsp
  have I : Inv (cxOf CX P w K mg base N qual scope f cdv A outer s H E) [] (start N vs) H s1 := inv_start S hr.hd e0 hl r x
  refine wpAny_mono (ht [] s1 (start N vs) H _ I hq) (fun fl s' hs => ?_) fun e s' hs => hs
  have fin : ∀ {σ' : St} {H' : Hp} {v : V} {u : Value}, Inv (cxOf CX P w K mg base N qual scope f cdv A outer s H E) [] σ' H' s' → RelV v u → Q v H' → CE outer P w H s Q u s' :=
    fun {σ' H' v u} J rv q => ⟨v, H', J.os, J.bare, J.base, J.hok, rv, q⟩
  cases fl with
  | ret u =>
    obtain ⟨v, σ', H', J, rv, q⟩ := hs
    exact fin J rv q
  | next =>
    obtain ⟨σ', H', J, q⟩ := hs
    exact fin (v := V.non) (u := Value.none) J rfl q
  | brk =>
    obtain ⟨_, _, _, q⟩ := hs
    exact False.elim q
  | cont =>
    obtain ⟨_, _, _, q⟩ := hs
    exact False.elim q
end L2

namespace L2
open PySem PySem.Spec PyProof.Rows
section
variable {X : Cx} {x : Str} {p pos : Pos} {e : Expr} {es : List Expr} {t : TA} {id T : String} {r : List V → Hp → VK → Prop}

def tCB (r : List V → Hp → VK → Prop) (t : TA) : TE := fun σ H Q => t σ H fun vs H1 => r vs H1 Q
/-- f(e, ..), f a built-in function -/
theorem pe_callB (hc : CallR X (.builtin id) r) (hg : Gl X x) (hm : X.mg x = none) (hv : bootBuiltins x = some (.builtin id)) (ha : PA X (e :: es) t) (hn : x ≠ "__name__" := by decide) (hdb : (x == ("__debug__" : Str)) = false := by decide)
    (he : starEach (e :: es) X.env = (false, eval e X.env) :: starEach es X.env := by rfl) (hpl : (backTo pos (starEach es X.env)).any (·.1) = false := by rfl) : PE X (.Call (.Name x p) (e :: es) [] pos) (tCB r t) := by
  intro pins s σ H Q I h
  refine wpAny_Call_Name_kw (ld_blt I hg hm hv ?_ hn hdb)
  exact PyProof.Rows.callWith_builtin1 (thn (ha pos pins s σ H _ I h) fun us s1 ⟨vs, H1, I1, r1, q1⟩ => hc pins s1 σ H1 vs us Q I1 r1 q1) he hpl
/-- T(e, ..), T a built-in type -/
theorem pe_callTy (hc : CallR X (.type T) r) (hg : Gl X x) (hm : X.mg x = none) (hv : bootBuiltins x = some (.type T)) (ha : PA X (e :: es) t) (hn : x ≠ "__name__" := by decide) (hdb : (x == ("__debug__" : Str)) = false := by decide)
    (he : starEach (e :: es) X.env = (false, eval e X.env) :: starEach es X.env := by rfl) (hpl : (backTo pos (starEach es X.env)).any (·.1) = false := by rfl) : PE X (.Call (.Name x p) (e :: es) [] pos) (tCB r t) := by
  intro pins s σ H Q I h
  refine wpAny_Call_Name_kw (ld_blt I hg hm hv ?_ hn hdb)
  exact PyProof.Rows.callWith_type1 (thn (ha pos pins s σ H _ I h) fun us s1 ⟨vs, H1, I1, r1, q1⟩ => hc pins s1 σ H1 vs us Q I1 r1 q1) he hpl
end
end L2

namespace HT
open PySem PyProof.Rows



section
open PySem.SeqAt
open PySem.AutoSeq1 (wpAny_loadPart')
open PySem.MeetsSeq PySem.MeetsSeq2 PySem.MeetsSeq3

end

section
variable {prog : Program} {w : World} {A : Around} {E : Value → Shared → Prop} {s : Shared}



/-! ### t[a:b], not the whole -/
/-- a slice's bound as a place among n (d where it is left out) -/
def sIx (n d : Nat) : Option Int → Nat
  | none => d
  | some v => if v < 0 then (v + (n : Int)).toNat else min v.toNat n
theorem sIx_none (n d : Nat) : sIx n d none = d := rfl

end
end HT

namespace L2
open PySem PySem.Spec PyProof.Rows

/-! ### the parts of a slice -/
abbrev TO := St → Hp → (Option Int → Hp → Prop) → Prop
/-- a slice's part (left out, or an int) -/
def PO (X : Cx) (e : Option Expr) (t : TO) : Prop :=
  ∀ (pins : List (Addr × Obj)) (s : Shared) (σ : St) (H : Hp) (Q : Option Int → Hp → Prop), Inv X pins σ H s → t σ H Q →
    wpAny (model X.prog X.w) X.A (evalPart e X.env) (fun u s' => ∃ o H', Inv X pins σ H' s' ∧ IsPart u o ∧ Q o H') X.xe s
def tNoPart : TO := fun _ H Q => Q none H
def tPart (t : TE) : TO := fun σ H Q => t σ H fun x H1 => ∃ i, x = .int i ∧ Q (some i) H1


section
variable {X : Cx} {e : Expr} {te : TE} {lo hi : Option Expr} {tl th : TO} {pos p2 : Pos}

theorem po_none : PO X none tNoPart := by
  intro pins s σ H Q I h
  rw [evalPart_none]
  exact wpAny_pure ⟨none, H, I, .none, h⟩
theorem po_some (h : PE X e te) : PO X (some e) (tPart te) := by
  intro pins s σ H Q I hw
  rw [evalPart_some]
  refine thn (h pins s σ H _ I hw) fun u s1 ⟨x, H1, I1, r1, q1⟩ => ?_
  obtain ⟨i, rfl, q⟩ := q1
  obtain ⟨t, rfl⟩ := r1
  exact ⟨some i, H1, I1, .int i t, q⟩

/-- what a slice of a value is, by values: the slice object stands at sl -/
def SlR (X : Cx) (r : V → Option Int → Option Int → Hp → VK → Prop) : Prop :=
  ∀ (pins : List (Addr × Obj)) (s : Shared) (σ : St) (H : Hp) (x : V) (v vl vu : Value) (lo hi : Option Int) (sl : Addr) (Q : VK), Inv X pins σ H s → RelV x v → s.heap.IsSliceOf sl vl vu .none → IsPart vl lo → IsPart vu hi → r x lo hi H Q →
    ∃ T id, typeLookup (.type T) "__getitem__" = pure (some (.builtin id)) ∧ s.TypeIs v T ∧ wpAny (model X.prog X.w) X.A (getItem v (.ref sl)) (EP X pins σ Q) X.xe s
def tSl (r : V → Option Int → Option Int → Hp → VK → Prop) (te : TE) (tl th : TO) : TE := fun σ H Q => te σ H fun x H1 => tl σ H1 fun l H2 => th σ H2 fun u H3 => r x l u H3 Q
/-- a[lo:hi], any a -/
theorem pe_slice {r : V → Option Int → Option Int → Hp → VK → Prop} (hr : SlR X r) (he : PE X e te) (hl : PO X lo tl) (hu : PO X hi th) : PE X (.Subscript e (.Slice lo hi none p2) pos) (tSl r te tl th) := by
  intro pins s σ H Q I h
  refine Subscript_ (thn (he pins s σ H _ I h) fun v s1 ⟨x, H1, I1, r1, q1⟩ => ?_)
  refine wpAny_Slice (thn (hl pins s1 σ H1 _ I1 q1) fun vl s2 ⟨l, H2, I2, pl, q2⟩ => thn (hu pins s2 σ H2 _ I2 q2) fun vu s3 ⟨u, H3, I3, pu, q3⟩ => ?_)
  rw [evalPart_none]
  refine wpAny_pure ?_
  have I4 : Inv X pins σ H3 { s3 with heap := s3.heap.push { cls := .type "slice", data := .fields #[vl, vu, .none] } } := I3.kept (t' := s3.toks) fun b ob q => Heap.get?_push_of_some _ q
  obtain ⟨T, id, hT, ht, hg⟩ := hr pins { s3 with heap := s3.heap.push { cls := .type "slice", data := .fields #[vl, vu, .none] } } σ H3 x v vl vu l u s3.heap.objs.size Q I4 r1 (Heap.IsSliceOf.new ..) pl pu q3
  show wpAny (model X.prog X.w) X.A (subscriptTail e (.Slice lo hi none p2) v (.ref s3.heap.objs.size)) (EP X pins σ Q) X.xe { s3 with heap := s3.heap.push { cls := .type "slice", data := .fields #[vl, vu, .none] } }
  exact tail_any (ops := [.ref s3.heap.objs.size, v]) ht hT hg (by with_unfolding_all rfl)

/-- the items of xs[lo:hi] -/
def cutV (xs : List V) (lo hi : Option Int) : List V := (xs.drop (HT.sIx xs.length 0 lo)).take (HT.sIx xs.length xs.length hi - HT.sIx xs.length 0 lo)
theorem cutV_length (xs : List V) (lo hi : Option Int) : (cutV xs lo hi).length ≤ xs.length := by
  unfold cutV
  rw [List.length_take, List.length_drop]
  lia

/-! ### t < u, t + u -/
end
end L2

namespace L2
open PySem PySem.Spec PyProof.Rows

/-! ### places -/
/-- the place that an index of any sign means -/
def ixN (n : Nat) (i : Int) : Option Nat := if 0 ≤ i then (if i < n then some i.toNat else none) else if -(n : Int) ≤ i then some (i + n).toNat else none
def atI {α : Type} (xs : List α) (i : Int) : Option α := (ixN xs.length i).bind fun j => xs[j]?
theorem ixN_seq {n : Nat} {i : Int} {j : Nat} (h : ixN n i = some j) : seqIndex? i n = some j ∧ j < n ∧ -(n : Int) ≤ i ∧ i < n := by
  unfold ixN at h
  by_cases h0 : 0 ≤ i
  · rw [if_pos h0] at h
    by_cases h1 : i < n
    · rw [if_pos h1] at h
      have e : i.toNat = j := Option.some.inj h
      exact ⟨by rw [seqIndex_of h0 h1, e], by lia, by lia, h1⟩
    · rw [if_neg h1] at h; cases h
  · rw [if_neg h0] at h
    by_cases h1 : -(n : Int) ≤ i
    · rw [if_pos h1] at h
      have e : (i + n).toNat = j := Option.some.inj h
      exact ⟨by rw [seqIndex_neg (by lia) h1, e], by lia, h1, by lia⟩
    · rw [if_neg h1] at h; cases h
theorem atI_get {α : Type} {xs : List α} {i : Int} {v : α} (h : atI xs i = some v) : ∃ j, seqIndex? i xs.length = some j ∧ xs[j]? = some v ∧ j < xs.length ∧ -(xs.length : Int) ≤ i ∧ i < xs.length := by
  unfold atI at h
  cases e : ixN xs.length i with
  | none => rw [e] at h; cases h
  | some j =>
    rw [e] at h
    obtain ⟨h1, h2, h3, h4⟩ := ixN_seq e
    exact ⟨j, h1, h, h2, h3, h4⟩
theorem atI_nat {α : Type} {xs : List α} {j : Nat} {v : α} (h : xs[j]? = some v) : atI xs (j : Int) = some v := by
  have hj : j < xs.length := (List.getElem?_eq_some_iff.mp h).1
  have e : ixN xs.length (j : Int) = some j := by
    unfold ixN
    rw [if_pos (by lia), if_pos (by lia)]; simp
  unfold atI; rw [e]; exact h

/-! ### what may be subscripted -/
/-- what stands as an index of a plain subscript -/
def PlainIx (b : Expr) : Prop := ∀ o i, subscripted b false o i = operate [o, i] (getItem o i)
/-- a subscript by values -/
def IxR (X : Cx) (r : R2) : Prop :=
  ∀ (value slice : Expr) (pins : List (Addr × Obj)) (s : Shared) (σ : St) (H : Hp) (x y : V) (v u : Value) (Q : VK), Inv X pins σ H s → RelV x v → RelV y u → r x y H Q →
    subscripted slice false v u = operate [v, u] (getItem v u) → wpAny (model X.prog X.w) X.A (subscriptTail value slice v u) (EP X pins σ Q) X.xe s
/-- a call of a builtin's method by values: the receiver, the arguments -/
def MtR (X : Cx) (id : String) (r : V → List V → Hp → VK → Prop) : Prop :=
  ∀ (pins : List (Addr × Obj)) (s : Shared) (σ : St) (H : Hp) (x : V) (xs : List V) (v : Value) (us : List Value) (Q : VK), Inv X pins σ H s → RelV x v → Vals xs us → r x xs H Q →
    wpAny (model X.prog X.w) X.A (call (.builtin id) (v :: us)) (EP X pins σ Q) X.xe s
section
variable {X : Cx} {a b : Expr} {ta tb : TE} {pos : Pos}
/-- a[b] -/
theorem pe_ix {r : R2} (hr : IxR X r) (ha : PE X a ta) (hb : PE X b tb) (hs : PlainIx b) : PE X (.Subscript a b pos) (tOp r ta tb) := by
  intro pins s σ H Q I h
  exact Subscript_ (binT ha hb I h fun v u s2 x y H2 I2 rx ry q => hr a b pins s2 σ H2 x y v u Q I2 rx ry q (hs _ _))

def rIxL (K : PySem.W.Frag) : R2 := fun x y H Q => ∃ p xs i v, x = .ref p ∧ y = .int i ∧ SqL K H p xs ∧ atI xs i = some v ∧ Q v H
def rIxT (K : PySem.W.Frag) : R2 := fun x y H Q => ∃ p xs i v, x = .ref p ∧ y = .int i ∧ SqT K H p xs ∧ atI xs i = some v ∧ Q v H
theorem ix_list : IxR X (rIxL X.K) := by
  intro value slice pins s σ H x y v u Q I rx ry h hs
  obtain ⟨p, xs, i, z, rfl, rfl, hq, he, q⟩ := h
  cases rx
  obtain ⟨t, rfl⟩ := ry
  obtain ⟨its, r, pl, hz⟩ := I.list hq
  obtain ⟨j, h1, h2, h3, h4, h5⟩ := atI_get he
  obtain ⟨w, ew, rw'⟩ := r.get h2
  have hl := r.length
  have hn := line63
  have fin : EP X pins σ Q w s := ⟨z, H, I, rw', q⟩
  by_cases h0 : 0 ≤ i
  · have hj : i.toNat = j := by
      rw [seqIndex_of h0 h5] at h1
      exact Option.some.inj h1
    exact item_listR pl.isList h0 (by lia) (by rw [hj]; simpa using ew) fin hs
  · have hj : (i + (its.toArray.size : Int)).toNat = j := by
      rw [seqIndex_neg (by lia) h4] at h1
      rw [List.size_toArray, ← hl]
      exact Option.some.inj h1
    exact subscriptTail_builtinR (x := w) pl.isList.typeIs slot_list_getitem.lookup
      (wpAny_getItem_list_neg (Q := fun r s' => r = w ∧ EP X pins σ Q r s') pl.isList (by lia) (by rw [List.size_toArray] <;> lia) (by lia) (by rw [hj]; simpa using ew) ⟨rfl, fin⟩) hs
theorem ix_tup : IxR X (rIxT X.K) := by
  intro value slice pins s σ H x y v u Q I rx ry h hs
  obtain ⟨p, xs, i, z, rfl, rfl, hq, he, q⟩ := h
  cases rx
  obtain ⟨t, rfl⟩ := ry
  obtain ⟨its, r, pl, hz⟩ := I.tuple hq
  obtain ⟨j, h1, h2, h3, h4, h5⟩ := atI_get he
  obtain ⟨w, ew, rw'⟩ := r.get h2
  have hl := r.length
  have hn := line63
  have fin : EP X pins σ Q w s := ⟨z, H, I, rw', q⟩
  exact subscriptTail_builtinR (x := w) pl.typeIs slot_tuple_getitem.lookup
    (getItem_tuple (j := j) (Q := fun r s' => r = w ∧ EP X pins σ Q r s') pl (by lia) (by lia) (by rw [List.size_toArray, ← hl]; exact h1) (by simpa using ew) ⟨rfl, fin⟩) hs

/-! ### xs[i] = v, any sign -/
/-- the list's object behind a store -/
theorem mapSeq_set (its : List Value) (n j : Nat) (u : Value) : Obj.mapSeq (·.setIfInBounds j u) { cls := .type "list", data := .seq its.toArray n } = { cls := .type "list", data := .seq (its.set j u).toArray n } := by
  simp [Obj.mapSeq]
theorem Inv.lst {pins : List (Addr × Obj)} {σ : St} {H : Hp} {s : Shared} {p : Addr} {xs : List V} (I : Inv X pins σ H s) (h : H p = some (.lst xs)) :
    ∃ (its : List Value) (n : Nat), Vals xs its ∧ s.heap.get? p = some { cls := .type "list", data := .seq its.toArray n } ∧ xs.length ≤ sizeLine := by
  obtain ⟨z, its, n, r, e⟩ := I.hok p _ h
  exact ⟨its, n, r, e, z⟩
/-- the list at p is written by an update of its object -/
theorem Inv.lstUpd {pins : List (Addr × Obj)} {σ : St} {H : Hp} {s : Shared} {p : Addr} {xs ys : List V} {its its' : List Value} {n n' : Nat} {f : Obj → Obj} (I : Inv X pins σ H s) (h : H p = some (.lst xs))
    (ho : s.heap.get? p = some { cls := .type "list", data := .seq its.toArray n }) (hf : f { cls := .type "list", data := .seq its.toArray n } = { cls := .type "list", data := .seq its'.toArray n' }) (r : Vals ys its') (hz : ys.length ≤ sizeLine) (t : Nat) :
    Inv X pins σ (upd H p (.lst ys)) { s with heap := s.heap.update p f, toks := t } := by
  have e : (s.heap.update p f).get? p = some { cls := .type "list", data := .seq its'.toArray n' } := by
    rw [Heap.get?_update_self f ho (by rw [hf] <;> rfl), hf]
  refine I.write (x := p) (e := p) (by rw [h]; trivial) (.inl rfl) (fun b u hb q => (Heap.get?_update_other _ _ (Ne.symm hb)).trans q) ⟨_, e⟩ ?_
  exact ⟨hz, its', n', r, e⟩
def rSetL : V → V → V → Hp → (Hp → Prop) → Prop := fun o i v H Q => ∃ p xs k j, o = .ref p ∧ i = .int k ∧ H p = some (.lst xs) ∧ ixN xs.length k = some j ∧ Q (upd H p (.lst (xs.set j v)))
theorem set_list : PSet X rSetL := by
  intro pins s σ H o i v ov iv u Q I ro ri rv h
  obtain ⟨p, xs, k, j, rfl, rfl, hp, hj, q⟩ := h
  cases ro
  obtain ⟨t, rfl⟩ := ri
  obtain ⟨its, n, r, ho, hz⟩ := I.lst hp
  obtain ⟨h1, h2, h3, h4⟩ := ixN_seq hj
  have hl := r.length
  have hn := line63
  have I' : Inv X pins σ (upd H p (.lst (xs.set j v))) { s with heap := s.heap.update p (Obj.mapSeq (·.setIfInBounds j u)) } :=
    I.lstUpd hp ho (mapSeq_set its n j u) (r.set rv j) (by rw [List.length_set]; exact hz) s.toks
  by_cases h0 : 0 ≤ k
  · have hk : k.toNat = j := by
      rw [seqIndex_of h0 h4] at h1
      exact Option.some.inj h1
    exact PySem.W.ki_setAt ho h0 (by lia) (by rw [List.size_toArray, ← hl]; exact h4) (by rw [hk]; exact ⟨_, I', q⟩)
  · have hk : (k + (its.toArray.size : Int)).toNat = j := by
      rw [seqIndex_neg (by lia) h3] at h1
      rw [List.size_toArray, ← hl]
      exact Option.some.inj h1
    exact PySem.W.ki_setBack ho (by lia) (by rw [List.size_toArray, ← hl]; exact h3) (by lia) (by rw [hk]; exact ⟨_, I', q⟩)

/-! ### slices -/
theorem slice_bounds (lo hi : Option Int) (n : Nat) : (sliceBounds lo hi none n).1 = ((HT.sIx n 0 lo : Nat) : Int) ∧ (sliceBounds lo hi none n).2.1 = ((HT.sIx n n hi : Nat) : Int) ∧ (sliceBounds lo hi none n).2.2 = 1 := by
  refine ⟨?_, ?_, rfl⟩
  · cases lo with
    | none => simp [sliceBounds, HT.sIx]
    | some i =>
      simp only [sliceBounds, HT.sIx, Option.getD_none, show (1 : Int) > 0 by decide, if_true]
      by_cases h : i < 0
      · simp only [h, if_true] <;> lia
      · simp only [h, if_false] <;> lia
  · cases hi with
    | none => simp [sliceBounds, HT.sIx]
    | some i =>
      simp only [sliceBounds, HT.sIx, Option.getD_none, show (1 : Int) > 0 by decide, if_true]
      by_cases h : i < 0
      · simp only [h, if_true] <;> lia
      · simp only [h, if_false] <;> lia
theorem slicePick_cut (its : List Value) (lo hi : Option Int) : slicePick its.toArray lo hi none = ((its.drop (HT.sIx its.length 0 lo)).take (HT.sIx its.length its.length hi - HT.sIx its.length 0 lo)).toArray := by
  obtain ⟨h1, h2, h3⟩ := slice_bounds lo hi its.toArray.size
  unfold slicePick
  rw [h1, h2, h3]
  simp only [sliceRange_one, pick_run, List.size_toArray] <;> rfl
/-- xs[lo:hi] of a list: a new list -/
def rSlL (K : PySem.W.Frag) : V → Option Int → Option Int → Hp → VK → Prop := fun x lo hi H Q => ∃ a xs, x = .ref a ∧ SqL K H a xs ∧ ∀ p, H p = none → Q (.ref p) (upd H p (.lst (cutV xs lo hi)))
theorem sl_list : SlR X (rSlL X.K) := by
  intro pins s σ H x v vl vu lo hi sl Q I rx hs pl pu h
  obtain ⟨a, xs, rfl, hx, q⟩ := h
  cases rx
  obtain ⟨its, r, ht, hz⟩ := I.list hx
  have hlen := r.length
  refine ⟨"list", _, slot_list_getitem.lookup, ht.isList.typeIs, ?_⟩
  refine wpAny_getItem_list_slice ht.isList hs pl pu .none (by simp) ?_ (by rw [List.size_toArray] <;> lia)
  rw [slicePick_cut, ← hlen]
  refine ⟨.ref s.heap.objs.size, _, I.laid (t' := s.toks) (o := .lst (cutV xs lo hi)) (fun b ob q => Heap.get?_push_of_some _ q) (Nat.le_refl _) ?_, rfl, q _ (I.hok.fresh (Nat.le_refl _))⟩
  exact ⟨Nat.le_trans (cutV_length xs lo hi) hz, _, 0, (r.drop (HT.sIx xs.length 0 lo)).take (HT.sIx xs.length xs.length hi - HT.sIx xs.length 0 lo), Heap.get?_push_size _ rfl⟩

/-! ### in, not in: flat items -/
def flatV : V → Bool
  | .non => true
  | .bl _ => true
  | .int _ => true
  | .str _ => true
  | _ => false
/-- == of flat values -/
def eqV : V → V → Bool
  | .non, .non => true
  | .bl a, .bl b => a == b
  | .bl a, .int b => (if a then 1 else 0) == b
  | .int a, .bl b => a == (if b then 1 else 0)
  | .int a, .int b => a == b
  | .str a, .str b => a == b
  | _, _ => false
theorem eqAt_V {A : Around} {s : Shared} {y x : V} {u v : Value} (ry : RelV y u) (rx : RelV x v) (fy : flatV y = true) (fx : flatV x = true) : SeqAt.EqAt A s u v (eqV y x) := by
  cases y with
  | non =>
    cases ry
    cases x with
    | non => cases rx; exact SeqAt.EqAt.same _
    | bl b => cases rx; exact SeqAt.EqAt.none_bool b
    | int b => obtain ⟨t, rfl⟩ := rx; exact SeqAt.EqAt.none_int b t
    | str b => obtain ⟨t, rfl⟩ := rx; exact SeqAt.EqAt.none_str b t
    | _ => exact absurd (show false = true from fx) Bool.false_ne_true
  | bl a =>
    cases ry
    cases x with
    | non => cases rx; exact SeqAt.EqAt.bool_none a
    | bl b => cases rx; exact SeqAt.EqAt.bool_bool a b
    | int b => obtain ⟨t, rfl⟩ := rx; exact SeqAt.EqAt.bool_int a b t
    | str b => obtain ⟨t, rfl⟩ := rx; exact SeqAt.EqAt.bool_str a b t
    | _ => exact absurd (show false = true from fx) Bool.false_ne_true
  | int a =>
    obtain ⟨t', rfl⟩ := ry
    cases x with
    | non => cases rx; exact SeqAt.EqAt.int_none a t'
    | bl b => cases rx; exact SeqAt.EqAt.int_bool a t' b
    | int b => obtain ⟨t, rfl⟩ := rx; exact SeqAt.EqAt.int_int a t' b t
    | str b => obtain ⟨t, rfl⟩ := rx; exact SeqAt.EqAt.int_str a t' b t
    | _ => exact absurd (show false = true from fx) Bool.false_ne_true
  | str a =>
    obtain ⟨t', rfl⟩ := ry
    cases x with
    | non => cases rx; exact SeqAt.EqAt.str_none a t'
    | bl b => cases rx; exact SeqAt.EqAt.str_bool a t' b
    | int b => obtain ⟨t, rfl⟩ := rx; exact SeqAt.EqAt.str_int a t' b t
    | str b => obtain ⟨t, rfl⟩ := rx; exact SeqAt.EqAt.str_str a t' b t
    | _ => exact absurd (show false = true from fx) Bool.false_ne_true
  | _ => exact absurd (show false = true from fy) Bool.false_ne_true

/-! ### len, list(x), tuple(x) of any list or tuple that is read -/
theorem call_len_seq : CallR X (.builtin "len") (fun xs H Q => ∃ p ys, xs = [.ref p] ∧ (SqL X.K H p ys ∨ SqT X.K H p ys) ∧ Q (.int ys.length) H) := by
  intro pins s σ H xs us Q I r h
  obtain ⟨p, ys, rfl, hq, q⟩ := h
  obtain ⟨u, rfl, rx⟩ := vals1 r
  cases rx
  have hn := line63
  rcases hq with hq | hq
  · obtain ⟨its, r', pl, hz⟩ := I.list hq
    have hlen := r'.length
    exact Calls.call_len_list pl.isList (by simp only [List.size_toArray] <;> lia) ⟨.int ys.length, H, I.tok _, ⟨s.toks + 1, by rw [List.size_toArray, hlen]⟩, q⟩
  · obtain ⟨its, r', pl, hz⟩ := I.tuple hq
    have hlen := r'.length
    exact len_tuple pl (by simp only [List.size_toArray] <;> lia) ⟨.int ys.length, H, I.tok _, ⟨s.toks + 1, by rw [List.size_toArray, hlen]⟩, q⟩
theorem call_len_str : CallR X (.builtin "len") (fun xs H Q => ∃ z, xs = [.str z] ∧ z.length ≤ sizeLine ∧ Q (.int z.length) H) := by
  intro pins s σ H xs us Q I r h
  obtain ⟨z, rfl, hz, q⟩ := h
  obtain ⟨u, rfl, t, rfl⟩ := vals1 r
  have hn := line63
  exact len_str (by lia) ⟨.int z.length, H, I.tok _, ⟨_, rfl⟩, q⟩
theorem call_list_of : CallR X (.type "list") (fun xs H Q => ∃ p ys, xs = [.ref p] ∧ (SqL X.K H p ys ∨ SqT X.K H p ys) ∧ ∀ l, H l = none → Q (.ref l) (upd H l (.lst ys))) := by
  intro pins s σ H xs us Q I r h
  obtain ⟨p, ys, rfl, hq, q⟩ := h
  obtain ⟨u, rfl, rx⟩ := vals1 r
  cases rx
  have fin : ∀ (its : List Value), Vals ys its → ys.length ≤ sizeLine → ∀ (h' : Heap) (c' : Nat), (∀ b o', s.heap.get? b = some o' → h'.get? b = some o') →
      h'.get? s.heap.objs.size = some { cls := .type "list", dict := none, data := .seq its.toArray c', slots := #[] } → EP X pins σ Q (.ref s.heap.objs.size) { s with heap := h' } := fun its r' hz h' c' kp e =>
    ⟨.ref s.heap.objs.size, _, I.laid (t' := s.toks) kp (Nat.le_refl _) (show ObjOk X.prog X.w _ h' _ (.lst ys) from ⟨hz, its, c', r', e⟩), rfl, q _ (I.hok.fresh (Nat.le_refl _))⟩
  rcases hq with hq | hq
  · obtain ⟨its, r', pl, hz⟩ := I.list hq
    have hlen := r'.length
    obtain ⟨o, ho, hc, n, hd⟩ := pl.isList
    exact call_list_seq p (.inl rfl) ho hc hd (fun h' c' kp e => fin its r' hz h' c' kp e) (by simp only [List.size_toArray] <;> lia)
  · obtain ⟨its, r', pl, hz⟩ := I.tuple hq
    have hlen := r'.length
    obtain ⟨o, ho, hc, n, hd⟩ := pl
    exact call_list_seq p (.inr rfl) ho hc hd (fun h' c' kp e => fin its r' hz h' c' kp e) (by simp only [List.size_toArray] <;> lia)

/-! ### the call of a builtin's method: o.m(..) -/
/-- the value is of that builtin type -/
def tyV (K : PySem.W.Frag) (T : String) (x : V) (H : Hp) : Prop := match x with
  | .str _ => T = "str"
  | .int _ => T = "int"
  | .ref p => (T = "list" ∧ ∃ xs, SqL K H p xs) ∨ (T = "tuple" ∧ ∃ o, K.lookup p = some o ∧ o.cls = .type "tuple" ∧ o.dict = none) ∨
      (T = "dict" ∧ ((∃ kvs, H p = some (.dK kvs)) ∨ ∃ kvs, H p = some (.dT kvs))) ∨ (T = "set" ∧ ∃ S n, H p = some (.set S n))
  | _ => False
theorem tyV_is {pins : List (Addr × Obj)} {σ : St} {H : Hp} {s : Shared} {T : String} {x : V} {v : Value} (I : Inv X pins σ H s) (r : RelV x v) (ty : tyV X.K T x H) :
    s.TypeIs v T ∧ ∀ a, v = .ref a → ∃ ob, s.heap.get? a = some ob ∧ ob.dict = none := by
  cases x with
  | str z =>
    obtain ⟨t, rfl⟩ := r
    cases (show T = "str" from ty)
    exact ⟨typeIs_str s z t, fun _ e => nomatch e⟩
  | int i =>
    obtain ⟨t, rfl⟩ := r
    cases (show T = "int" from ty)
    exact ⟨typeIs_int s i t, fun _ e => nomatch e⟩
  | ref p =>
    cases r
    rcases ty with ⟨rfl, xs, hq⟩ | ⟨rfl, o, hk, hc, hd⟩ | ⟨rfl, hk⟩ | ⟨rfl, S, n, hk⟩
    · obtain ⟨its, _, pl, _⟩ := I.list hq
      refine ⟨pl.isList.typeIs, fun a e => ?_⟩
      cases e
      obtain ⟨o, n, e, c, hd, _⟩ := pl
      exact ⟨o, e, hd⟩
    · refine ⟨⟨o, I.kIn p o hk, hc⟩, fun a e => ?_⟩
      cases e
      exact ⟨o, I.kIn _ o hk, hd⟩
    · have z : ∃ o, s.heap.get? p = some o ∧ o.ExactDict := by
        rcases hk with ⟨kvs, hk⟩ | ⟨kvs, hk⟩
        · obtain ⟨_, _, _, _, o, _, _, e, ex, _⟩ := I.hok p _ hk
          exact ⟨o, e, ex⟩
        · obtain ⟨_, _, _, _, o, _, _, e, ex, _⟩ := I.hok p _ hk
          exact ⟨o, e, ex⟩
      obtain ⟨o, e, ex⟩ := z
      refine ⟨⟨o, e, ex.1⟩, fun a e2 => ?_⟩
      cases e2
      exact ⟨o, e, ex.2.1⟩
    · obtain ⟨o, _, _, _, e, ex, _⟩ := I.hok p _ hk
      refine ⟨⟨o, e, ex.1⟩, fun a e2 => ?_⟩
      cases e2
      exact ⟨o, e, ex.2.1⟩
  | _ => exact False.elim ty
def tBM0 (K : PySem.W.Frag) (T : String) (r : V → List V → Hp → VK → Prop) (to : TE) : TE := fun σ H Q => to σ H fun x H1 => tyV K T x H1 ∧ r x [] H1 Q
def tBM (K : PySem.W.Frag) (T : String) (r : V → List V → Hp → VK → Prop) (to : TE) (t : TA) : TE := fun σ H Q => to σ H fun x H1 => tyV K T x H1 ∧ t σ H1 fun xs H2 => r x xs H2 Q
variable {o e : Expr} {es : List Expr} {to : TE} {t : TA} {name : Str} {apos cpos : Pos} {T id : String} {r : V → List V → Hp → VK → Prop}
theorem pe_bm0 (pa : PlainAttrs T) (slot : Slot T name id) (hty : typeOf (.builtin id) = pure (.type "method_descriptor")) (hm : MtR X id r) (ho : PE X o to)
    (hbase : attributeBase o name X.env (eval o X.env) = eval o X.env := by rfl) (hline : (apos.endLine == cpos.line) = true := by rfl) : PE X (.Call (.Attribute o name apos) [] [] cpos) (tBM0 X.K T r to) := by
  intro pins s σ H Q I h
  refine wpAny_Call_method0_late hbase hline (thn (ho pins s σ H _ I h) fun v s1 ⟨x, H1, I1, r1, ty, q1⟩ => ?_)
  obtain ⟨h1, h2⟩ := tyV_is I1 r1 ty
  exact ⟨T, id, pa, slot, hty, h1, h2, Calls.callWith_builtin rfl (PySem.evalArgs_none (hm pins s1 σ H1 x [] v [] Q I1 r1 .nil q1))⟩
theorem pe_bm (pa : PlainAttrs T) (slot : Slot T name id) (hty : typeOf (.builtin id) = pure (.type "method_descriptor")) (hm : MtR X id r) (ho : PE X o to) (ha : PA X (e :: es) t)
    (hbase : attributeBase o name X.env (eval o X.env) = eval o X.env := by rfl)
    (hfew : ((backTo cpos (starEach (e :: es) X.env)).all (fun x => !x.1) && (backToKw cpos (keywordEach [] X.env)).all (fun x => x.1.isSome)
      && decide ((e :: es).length + ([] : List Keyword).length + (if ([] : List Keyword).isEmpty then 0 else 1) < 30)) = true := by rfl)
    (hline : (apos.endLine == cpos.line) = true := by rfl) (hs : starEach (e :: es) X.env = (false, eval e X.env) :: starEach es X.env := by rfl) (hplain : (backTo cpos (starEach es X.env)).any (·.1) = false := by rfl) :
    PE X (.Call (.Attribute o name apos) (e :: es) [] cpos) (tBM X.K T r to t) := by
  intro pins s σ H Q I h
  refine wpAny_Call_method_late hbase hfew hline rfl (thn (ho pins s σ H _ I h) fun v s1 ⟨x, H1, I1, r1, ty, q1⟩ => ?_)
  obtain ⟨h1, h2⟩ := tyV_is I1 r1 ty
  refine ⟨T, id, pa, slot, hty, h1, h2, ?_⟩
  have hA := ha cpos pins s1 σ H1 _ I1 q1
  rw [hs] at hA ⊢
  refine Calls.callWith_builtin (by show (false || (backTo cpos (starEach es X.env)).any (·.1)) = false; rw [hplain] <;> rfl) (Calls.evalArgs_plain ?_)
  exact thn hA fun us s2 ⟨vs, H2, I2, r2, q2⟩ => hm pins s2 σ H2 x vs v us Q I2 r1 r2 q2
/- xs.append(e), list.index on a module's tuple .. are MtR facts of 06m -/
end
end L2

namespace L2
open PySem PySem.Spec PyProof.Rows

def MtM (X : Cx) (id : String) (r : V → List V → Hp → VK → Prop) : Prop :=
  ∀ (pins : List (Addr × Obj)) (s : Shared) (σ : St) (H : Hp) (x : V) (xs : List V) (v : Value) (us : List Value) (Q : VK), Inv X pins σ H s → RelV x v → Vals xs us → r x xs H Q →
    wpAny (model X.prog X.w) X.A (call (.builtin id) (v :: us)) (EP X pins σ Q) X.xe s

/-! ### lists of values -/
theorem Vals.one : ∀ {x : V} {us : List Value}, Vals [x] us → ∃ u, us = [u] ∧ RelV x u
  | _, _, .cons r .nil => ⟨_, rfl, r⟩
theorem Vals.two : ∀ {x y : V} {us : List Value}, Vals [x, y] us → ∃ u v, us = [u, v] ∧ RelV x u ∧ RelV y v
  | _, _, _, .cons r (.cons q .nil) => ⟨_, _, rfl, r, q⟩
theorem Vals.zero : ∀ {us : List Value}, Vals [] us → us = []
  | _, .nil => rfl
theorem Vals.dropLast {xs : List V} {us : List Value} (h : Vals xs us) : Vals xs.dropLast us.dropLast := by
  induction h with
  | nil => exact .nil
  | cons r t ih =>
    cases t with
    | nil => exact .nil
    | cons q t' => exact .cons r ih
theorem Vals.eraseIdx : ∀ {xs : List V} {us : List Value} (i : Nat), Vals xs us → Vals (xs.eraseIdx i) (us.eraseIdx i)
  | _, _, _, .nil => .nil
  | _, _, 0, .cons _ t => t
  | _, _, i + 1, .cons r t => .cons r (Vals.eraseIdx i t)
theorem Vals.rep {xs : List V} {us : List Value} (h : Vals xs us) : ∀ k : Nat, Vals (List.replicate k xs).flatten (List.replicate k us).flatten
  | 0 => .nil
  | k + 1 => by
    rw [List.replicate_succ, List.replicate_succ, List.flatten_cons, List.flatten_cons]
    exact Vals.append h (Vals.rep h k)
theorem erase_last {α : Type} (l : List α) : l.eraseIdx (l.length - 1) = l.dropLast := by
  induction l with
  | nil => rfl
  | cons a r ih =>
    cases r with
    | nil => rfl
    | cons b r =>
      have e : (a :: b :: r).length - 1 = ((b :: r).length - 1) + 1 := by
        have h1 : (a :: b :: r).length = r.length + 2 := rfl
        have h2 : (b :: r).length = r.length + 1 := rfl
        lia
      rw [e, List.eraseIdx_cons_succ, ih]
      all_goals rfl
theorem len_erase {α : Type} : ∀ (l : List α) (i : Nat), (l.eraseIdx i).length ≤ l.length
  | [], _ => Nat.le_refl _
  | _ :: _, 0 => Nat.le_succ _
  | _ :: r, i + 1 => Nat.succ_le_succ (len_erase r i)
theorem foldl_rep (its : List Value) : ∀ (k : Nat) (acc : List Value),
    List.foldl (fun x1 x2 => x1 ++ x2) acc.toArray (List.replicate k its.toArray) = (acc ++ (List.replicate k its).flatten).toArray
  | 0, acc => by simp
  | k + 1, acc => by
    have e : acc.toArray ++ its.toArray = (acc ++ its).toArray := by simp
    have e2 : (acc ++ its) ++ (List.replicate k its).flatten = acc ++ (List.replicate (k + 1) its).flatten := by
      rw [List.replicate_succ, List.flatten_cons, List.append_assoc]
    rw [← e2, ← foldl_rep its k (acc ++ its), ← e, List.replicate_succ, List.foldl_cons]

section
variable {X : Cx} {pins : List (Addr × Obj)} {σ : St} {H : Hp} {s : Shared} {l b : Addr} {xs ys zs : List V}

/-! ### the two steps: a tracked list is rewritten, a new list is laid -/
theorem Inv.lset {its its' : List Value} {n : Nat} {f : Array Value → Array Value} {t' : Nat} (I : Inv X pins σ H s) (hH : H l = some (.lst xs))
    (e : s.heap.get? l = some { cls := .type "list", data := .seq its.toArray n }) (hf : f its.toArray = its'.toArray) (hv : Vals ys its') (hz : ys.length ≤ sizeLine) :
    Inv X pins σ (upd H l (.lst ys)) { s with heap := s.heap.update l (Obj.mapSeq f), toks := t' } := by
  have q := PySem.IsL.update e f
  rw [hf] at q
  refine I.write (x := l) (e := l) (by rw [hH]; exact trivial) (.inl rfl) (fun b' u hb hu => (Heap.get?_update_other s.heap (Obj.mapSeq f) (Ne.symm hb)).trans hu) ⟨_, q⟩ ?_
  exact ⟨hz, its', _, hv, q⟩
theorem Inv.lnew {its : List Value} {t' : Nat} (I : Inv X pins σ H s) (hv : Vals ys its) (hz : ys.length ≤ sizeLine) :
    Inv X pins σ (upd H s.heap.objs.size (.lst ys)) { s with heap := s.heap.push { cls := .type "list", data := .seq its.toArray }, toks := t' } :=
  I.laid (fun _ _ q => Heap.get?_push_of_some _ q) (Nat.le_refl _) ⟨hz, its, 0, hv, Heap.get?_push_size _ rfl⟩
theorem Inv.fresh (I : Inv X pins σ H s) : H s.heap.objs.size = none := I.hok.fresh (Nat.le_refl _)
theorem Inv.lstM (I : Inv X pins σ H s) (hH : H l = some (.lst xs)) : xs.length ≤ sizeLine ∧ ∃ (its : List Value) (n : Nat), Vals xs its ∧ xs.length = its.length ∧ s.heap.get? l = some { cls := .type "list", data := .seq its.toArray n } := by
  obtain ⟨z, its, n, r, e⟩ := I.hok l _ hH
  exact ⟨z, its, n, r, r.length, e⟩

theorem notLongL {n : Nat} (h : n ≤ sizeLine) : Builtin.List.listTooLong n = false := by
  unfold Builtin.List.listTooLong
  exact decide_eq_false (by lia)
end

section
variable {X : Cx}

/-! ### methods -/
def rAppend : V → List V → Hp → VK → Prop := fun x vs H Q => ∃ l xs y, x = .ref l ∧ vs = [y] ∧ H l = some (.lst xs) ∧ xs.length < sizeLine ∧ Q .non (upd H l (.lst (xs ++ [y])))
theorem mt_append : MtM X "list.append" rAppend := by
  intro pins s σ H x vs v us Q I rx rv h
  obtain ⟨l, xs, y, rfl, rfl, hH, hz, q⟩ := h
  cases rx
  obtain ⟨u, rfl, ru⟩ := rv.one
  obtain ⟨z, its, n, r, hl, e⟩ := I.lstM hH
  refine call_meets F.slot_list_append ⟨_, e, rfl⟩ F.entry_list_append (F.args_list_append_2 _ _) (PySem.list_append l its.toArray n u (by rw [List.size_toArray]; lia)) ⟨e, ?_⟩
  refine ⟨.non, _, I.lset (its' := its ++ [u]) hH e (by simp) (r.append (.cons ru .nil)) ?_, rfl, q⟩
  rw [List.length_append, List.length_singleton]
  lia


def rPop : V → List V → Hp → VK → Prop := fun x vs H Q => ∃ l xs y, x = .ref l ∧ vs = [] ∧ H l = some (.lst xs) ∧ xs[xs.length - 1]? = some y ∧ Q y (upd H l (.lst xs.dropLast))
theorem mt_pop : MtM X "list.pop" rPop := by
  intro pins s σ H x vs v us Q I rx rv h
  obtain ⟨l, xs, y, rfl, rfl, hH, hy, q⟩ := h
  cases rx
  have hus := rv.zero
  subst hus
  obtain ⟨z, its, n, r, hl, e⟩ := I.lstM hH
  obtain ⟨u, hu, ru⟩ := r.get hy
  have hy' : its.toArray[its.toArray.size - 1]? = some u := by
    show its.toArray[its.length - 1]? = some u
    rw [← Array.getElem?_toList, ← hl]
    exact hu
  refine call_meets F.slot_list_pop ⟨_, e, rfl⟩ F.entry_list_pop (F.args_list_pop_1 _) (MeetsSeq.list_pop_last l its.toArray n u hy' (by rw [List.size_toArray]; lia)) ⟨e, ?_⟩
  refine ⟨y, _, I.lset (its' := its.dropLast) hH e ?_ r.dropLast ?_, ru, q⟩
  · show its.toArray.eraseIdxIfInBounds (its.toArray.size - 1) = its.dropLast.toArray
    rw [List.size_toArray, List.eraseIdxIfInBounds_toArray, erase_last]
  · rw [List.length_dropLast]
    lia

def rPopAt : V → List V → Hp → VK → Prop := fun x vs H Q => ∃ l xs i k y, x = .ref l ∧ vs = [.int i] ∧ H l = some (.lst xs) ∧ -(2 ^ 63) ≤ i ∧ i < 2 ^ 63 ∧ seqIndex? i xs.length = some k ∧ xs[k]? = some y ∧ Q y (upd H l (.lst (xs.eraseIdx k)))
theorem mt_popAt : MtM X "list.pop" rPopAt := by
  intro pins s σ H x vs v us Q I rx rv h
  obtain ⟨l, xs, i, k, y, rfl, rfl, hH, h1, h2, hk, hy, q⟩ := h
  cases rx
  obtain ⟨u, rfl, ru⟩ := rv.one
  obtain ⟨t, rfl⟩ := ru
  obtain ⟨z, its, n, r, hl, e⟩ := I.lstM hH
  obtain ⟨w, hw, rw'⟩ := r.get hy
  refine call_meets F.slot_list_pop ⟨_, e, rfl⟩ F.entry_list_pop (F.args_list_pop_2 _ _)
    (MeetsSeq.list_pop_at l its.toArray n i t k w (fitsIndex_both h1 h2) (by rw [List.size_toArray, ← hl]; exact hk) (by rw [← Array.getElem?_toList]; exact hw) (by rw [List.size_toArray]; lia)) ⟨e, ?_⟩
  refine ⟨y, _, I.lset (its' := its.eraseIdx k) hH e ?_ (r.eraseIdx k) ?_, rw', q⟩
  · show its.toArray.eraseIdxIfInBounds k = (its.eraseIdx k).toArray
    rw [List.eraseIdxIfInBounds_toArray]
  · have := len_erase xs k
    lia



/-! ### list + list, list += list, list * int -/
def rCat : R2 := fun x y H Q => ∃ l b xs zs, x = .ref l ∧ y = .ref b ∧ H l = some (.lst xs) ∧ H b = some (.lst zs) ∧ xs.length + zs.length ≤ sizeLine ∧ ∀ p, H p = none → Q (.ref p) (upd H p (.lst (xs ++ zs)))
theorem op_cat : OpR X (binaryOp .Add) rCat := by
  intro pins s σ H x y v u Q I rx ry h
  obtain ⟨l, b, xs, zs, rfl, rfl, hH, hB, hz, q⟩ := h
  cases rx
  cases ry
  obtain ⟨z, its, n, r, hl, e⟩ := I.lstM hH
  obtain ⟨z2, its2, n2, r2, hl2, e2⟩ := I.lstM hB
  refine PySem.P.add_list e e2 ?_ (by rw [List.size_toArray, List.size_toArray]; lia)
  have ea : its.toArray ++ its2.toArray = (its ++ its2).toArray := by simp
  rw [ea]
  exact ⟨.ref _, _, I.lnew (t' := s.toks) (r.append r2) (by rw [List.length_append]; lia), rfl, q _ I.fresh⟩
/-- a list times an int (a negative one is nothing) -/
def rRep : R2 := fun x y H Q => ∃ l k xs, x = .ref l ∧ y = .int k ∧ H l = some (.lst xs) ∧ -(2 ^ 63) ≤ k ∧ k < 2 ^ 63 ∧ xs.length * k.toNat ≤ sizeLine ∧
  ∀ p, H p = none → Q (.ref p) (upd H p (.lst (List.replicate k.toNat xs).flatten))
theorem len_rep {α : Type} (xs : List α) (k : Nat) : (List.replicate k xs).flatten.length = k * xs.length := by
  induction k with
  | zero => simp
  | succ k ih => rw [List.replicate_succ, List.flatten_cons, List.length_append, ih, Nat.succ_mul, Nat.add_comm]
theorem op_rep : OpR X (binaryOp .Mult) rRep := by
  intro pins s σ H x y v u Q I rx ry h
  obtain ⟨l, k, xs, rfl, rfl, hH, h1, h2, hz, q⟩ := h
  cases rx
  obtain ⟨t, rfl⟩ := ry
  obtain ⟨z, its, n, r, hl, e⟩ := I.lstM hH
  have hlen : its.toArray.size * k.toNat ≤ sizeLine := by rw [List.size_toArray, ← hl]; exact hz
  have hcap : ¬ its.toArray.size * k.toNat > (2 ^ 63 - 1) / 8 := by
    have : (sizeLine : Nat) ≤ (2 ^ 63 - 1) / 8 := by decide
    lia
  have hfit : ¬ (!Builtin.List.listFitsIndex k) = true := by
    rw [fitsIndex_both h1 h2]
    exact Bool.false_ne_true
  have hlong : ¬ Builtin.List.listTooLong (its.toArray.size * k.toNat) = true := by
    rw [notLongL hlen]
    exact Bool.false_ne_true
  have hnew : List.foldl (fun x1 x2 => x1 ++ x2) #[] (List.replicate (if its.toArray.isEmpty = true then 0 else k.toNat) its.toArray) = (List.replicate k.toNat its).flatten.toArray := by
    have f0 : ∀ m : Nat, List.foldl (fun x1 x2 => x1 ++ x2) #[] (List.replicate m its.toArray) = (List.replicate m its).flatten.toArray := fun m => by
      have := foldl_rep its m []
      rw [List.nil_append] at this
      exact this
    rw [f0]
    cases its with
    | nil => simp
    | cons a r' => rw [if_neg (by simp)]
  refine wpAny_binaryOp_repeat_ref (T := "list") (U := "int") (by decide) ⟨_, e, rfl⟩ (fun s' => typeIs_int s' k t) noFill_list_mul F.fills_int_mul F.slot_int_rmul repeat_list F.slot_int_index.lookup
    (call_meets F.slot_int_rmul (typeIs_int s k t) F.entry_int_rmul (F.args_int_rmul_2 _ _) (int___rmul___int_list k t l its.toArray n)
      ⟨e, rfl, ⟨_, e, rfl⟩, call_meets F.slot_list_mul ⟨_, e, rfl⟩ F.entry_list_mul (F.args_list_mul_2 _ _) (AutoListH.list___mul___list_int_3 l its.toArray n k t hfit hcap hlong) ⟨e, ?_⟩⟩)
  rw [hnew]
  exact ⟨.ref _, _, I.lnew (t' := s.toks) (r.rep k.toNat) (by rw [len_rep, Nat.mul_comm]; exact hz), rfl, q _ I.fresh⟩

/-! ### del xs[i] -/
end

/-! ### xs[a:b] = ys -/
section
variable {prog : Program} {w : World} {A : Around} {E : Value → Shared → Prop} {s : Shared}
set_option maxRecDepth 100000 in
end

section
variable {X : Cx}
end
end L2

namespace Att
open PySem PySem.W PySem.Calls PyProof.Rows

/-! ### the script -/
theorem ints_of_wellAll {P : Params} {h : Heap} : ∀ (ns : List Int) (vs : List Value), WellAll P h vs (ns.map WData.int) → IntsAre vs ns := by
  intro ns
  induction ns with
  | nil =>
    intro vs w
    rw [List.map_nil] at w
    cases w
    exact .nil
  | cons n ns ih =>
    intro vs w
    rw [List.map_cons] at w
    cases w with
    | cons a b =>
      cases a
      exact .cons _ _ (ih _ b)

theorem script_of {l : OpenLaw} {n : Nat} (hn : l.most = some n) {P : Params} {h : Heap} {args : List WData} {vals : List Value}
    (hpre : l.row.toRowW.claim.pre args = true) (hwl : WellAll P h vals args) :
    ∃ a vs ns, vals = [Value.ref a] ∧ args = [WData.list (ns.map WData.int)] ∧ h.get? a = some { cls := .type "list", data := .seq vs.toArray } ∧ IntsAre vs ns ∧ ns.length ≤ n := by
  have hsh : WShape.hasAll [] args [.list .int] = true := (pre_splitW hpre).1
  have hc : l.pre.holds [] { args := args } = true := (pre_splitW hpre).2
  obtain ⟨d, r, rfl, h1, h2⟩ := hasAllW_cons hsh
  obtain rfl := hasAllW_nil h2
  obtain ⟨xs, rfl, h3⟩ := hasW_list h1
  obtain ⟨ns, rfl⟩ := items_int h3
  have hlen : ns.length ≤ n := by
    unfold OpenLaw.pre at hc
    have h4 : (WTm.not (.lt (.lit (.int (n : Int))) (.len (.arg 0)))).holds [] { args := [.list (ns.map .int)] } = true := by
      have h4 := (holds_andW hc).1
      rw [hn] at h4
      exact h4
    have h5 := condW_of h4 (w_not (w_lt w_lit (w_len_list (w_arg rfl))))
    rw [List.length_map] at h5
    refine Nat.le_of_not_lt fun q => ?_
    have q' : (n : Int) < ((ns.length : Nat) : Int) := by lia
    first
      | (rw [decide_eq_true q'] at h5; exact absurd h5 (by decide))
      | (simp at h5; lia)
  cases hwl with
  | cons w1 w2 =>
    cases w2
    cases w1 with
    | list ho hall => exact ⟨_, _, ns, rfl, rfl, ho, ints_of_wellAll ns _ hall, hlen⟩

theorem post_true (l : OpenLaw) (args : List WData) : l.row.toRowW.claim.post args (.bool true) args = true :=
  postW_of (r := l.row.toRowW) (X := (true == true))
    (show WShape.has [] (.bool true) .bool = true by first | rfl | decide | simp [WShape.has, WShape.arms, WShape.armsAll])
    (show (WTm.eq .res (.lit (.bool true))).value [] { args := args, res := some (.bool true), after := args } = some (.bool (true == true)) from w_eq_bool (w_res rfl) w_lit) rfl

/-! ### the attachment: holds_open's last premise (the goal 'hc' behind k_head) from a wpAny of the law's body -/

/-- the same from a codeAny of the CALL (for a layer whose function contracts speak of calls) -/
theorem attach_call {l : OpenLaw} {n : Nat} {q : Program} {loose : List Str} {XP : (Str → Option Value) → Heap → Prop} {YP : World → Heap → Prop} {d : DefRec}
    (hn : l.most = some n) (hdf : d.params.defaults = [])
    (call : ∀ (w : World) (s₀ s₁ : Shared) (mg mb : Str → Option Value) (fa : Addr) (o : Obj) (pm cd doc : Value) (a : Addr) (vs : List Value) (ns : List Int),
      Ground q loose [] XP w s₀ mg mb s₁.heap → YP w s₁.heap →
      s₁.heap.get? fa = some o → o.data = .func (docDef d.name d.params d.body d.scope pm cd doc) → s₁.heap.CodeRec cd d.name → mg d.name = some (.ref fa) →
      s₁.heap.get? a = some { cls := .type "list", data := .seq vs.toArray } → IntsAre vs ns → ns.length ≤ n → s₁.gens = #[] →
      codeAny (model l.prog w) callerA (.call (.ref fa) ⟨[.ref a], []⟩) (fun r s' => r = .ok (.ret (.bool true)) ∧ OldK s₁.heap s'.heap ∧ s'.os = s₁.os ∧ AllBare s'.gens) s₁) :
    WalkO q loose XP YP l.row.toRowW d [] (fun f vs => PySem.call f vs) := by
  intro w s₀ s₁ mg mb G Y fa o pm cd doc dV kV ho hd hcd hD hmg hg args vals as hpre hlay hrd hwl hlo
  obtain rfl : dV = .none := Dflts.none hD hdf
  obtain rfl : kV = .none := Dflts.noKw hD
  obtain ⟨a, vs, ns, rfl, rfl, hobj, hints, hlen⟩ := script_of hn hpre hwl
  refine enter_call (codeAny_mono (call w s₀ s₁ mg mb fa o pm cd doc a vs ns G Y ho (fd_plain hd) hcd hmg hobj hints hlen hg) fun r s' hq => ?_)
  obtain ⟨rfl, h2, h3, h4⟩ := hq
  exact ⟨.inl ⟨.bool true, .bool true, [], rfl, fun _ => rfl, .bool true, post_true l _, fun _ => ⟨List.Pairwise.nil, fun _ hm => (nomatch hm)⟩⟩, h2, h3, h4⟩


/-! ### rules over ANY heap (no ledger) from facts about the written part K: the library's own take a ledger (News) for what they write -/
section
variable {prog : Program} {w : World} {A : Around} {E : Value → Shared → Prop} {s : Shared} {K : Frag}





/-! the whole heap as the ledger: makes every rule that writes through a ledger a rule over any heap -/
def ledger (h : Heap) (L d : Addr) : List (Addr × Obj) := (List.range h.objs.size).filterMap fun a => if a = L ∨ a = d then none else (h.get? a).map fun o => (a, o)

end
end Att

namespace L2
open PySem PySem.Spec PyProof.Rows

theorem vals_ints : ∀ {vs : List Value} {ns : List Int}, IntsAre vs ns → Vals (ns.map V.int) vs
  | _, _, .nil => .nil
  | _, _, .cons n t h => .cons ⟨t, rfl⟩ (vals_ints h)


end L2

namespace L2
open PySem PySem.Spec PyProof.Rows

abbrev KOf {K : PySem.W.Frag} {h : Heap} (_ : K.In h) : PySem.W.Frag := K

end L2

/- THE LAST THEOREM (shape; LID, My.* are yours):
   My.Adr: a structure of the addresses that your layer names (classes, functions); My.Txt K t: a structure (Prop) of the equations over K;
   My.txt_mk : {K} {implicit addresses ..} (e1 : nsIn K mainGlobals "law" = some (some (.ref f))) (e2 : K.lookup f = some ⟨oc, od, .func (fnOf "law" "law" params body scope dV kV doc pm an cdv ct), sl⟩) (e3 : codeIn K cdv "law" = true) .. : ∃ t, My.Txt K t

set_option maxRecDepth 100000 in
set_option maxHeartbeats 0 in
theorem PySem.Challenge.cw_LID_holds : PySem.Challenge.rw_LID.Holds := by
  w_on; o_law; k_head; (case hw => w_witness2)
  k_fill
  refine L2.walk_of (l := PySem.Challenge.rw_LID) (n := 63) (k := 40) (x := "script") (CX := fun w => ..) (sp := fun _ => My.sp_law) rfl (by decide) rfl ⟨rfl, by decide, by decide⟩ (fun w h Y => PySem.W.kIn_of Y) ?F ?S ?C
  case F =>
    intro w mg fa h KX G hmg
    have T : ∃ t, My.Txt (L2.KOf KX) t := by
      dsimp only [L2.KOf]                          -- K must stand as «<heap const> w.params» for k_is
      refine' My.txt_mk ?e1 ?e2 ?e3 ..
      (case e1 => PySem.W.k_is)                    -- in the order: a name -> its address -> its object -> its parts
      (case e2 => PySem.W.k_is)
      ..
    obtain ⟨t, T⟩ := T
    have e0 := hmg.symm.trans (PySem.W.mg_of KX G T.law)
    cases e0                                       -- fa is the law's own address
    exact ⟨_, fun s u => .of_eq rfl, fun base kb nb => My.law_fn T kb nb⟩     -- if «.of_eq rfl» comes too early: refine' ⟨_, ?b, fun base kb nb => My.law_fn T kb nb⟩; exact fun s u => .of_eq rfl
  case S => exact fun w H a ns hl hO hS => ..
  case C => exact ..
(the tactic k_is has no namespace: write k_is) -/

/-! SHORT WORDS over the layer: a def of the text, its body, what a loop and a test want. -/
namespace L2
open PySem PySem.Spec PyProof.Rows

/-! ### the text by places -/
def defArgs (s : Stmt) : Arguments := match s with
  | .FunctionDef _ a _ _ _ _ _ _ _ _ => a
  | _ => { posonlyargs := [], args := [], vararg := none, kwonlyargs := [], kw_defaults := [], kwarg := none, defaults := [] }
def defBody (s : Stmt) : List Stmt := match s with
  | .FunctionDef _ _ b _ _ _ _ _ _ _ => b
  | _ => []
def defScope (s : Stmt) : Scope := match s with
  | .FunctionDef _ _ _ _ _ _ sc _ _ _ => sc
  | _ => { kind := .function, names := [], isGenerator := false, isCoroutine := false }

/-! ### no exception leaves a def -/
abbrev CX0 : CXT := fun _ _ _ _ _ _ => False
abbrev E0 : XK := fun _ _ _ => False
theorem pass0 {X : Cx} : Passes CX0 X E0 := fun _ _ _ _ _ _ _ h => h.elim

/-! ### a def (or method) of the text as it stands behind the top -/
structure Fun (K : PySem.W.Frag) (x qual : Str) (st : Stmt) (f : Addr) (fd : FuncData) : Prop where
  ex : ∃ (oc : Value) (od : Option Addr) (kV doc pm : Value) (an : Option Addr) (cdv ct : Value) (osl : Array (Option Value)),
    fd = PySem.W.fnOf x qual (defArgs st) (defBody st) (defScope st) .none kV doc pm an cdv ct ∧ K.lookup f = some ⟨oc, od, .func fd, osl⟩ ∧ PySem.W.codeIn K cdv qual = true
  kp : PySem.W.keepIn K (.ref f) = true
section
variable {P : Program} {w : World} {K : PySem.W.Frag} {mg : Str → Option Value} {base : Heap}
/-- THE RULE for a def: its body as a term of rules, and the reading of that term -/
theorem Fun.ok {x qual : Str} {st : Stmt} {f : Addr} {fd : FuncData} {N ps : List Str} {k : Nat} {sp : Sp} (F : Fun K x qual st f fd) (S : FnScope N ps (defScope st)) (len : ∀ vs H Q E, sp vs H Q E → vs.length = ps.length)
    (hbody : ∀ (cdv : Value) (A : Around) (outer : List Env) (s : Shared) (H : Hp) (vs : List V) (Q : VK) (E : XK), Room k (A.deeper (envOfC qual (defScope st) s.heap.objs.size f cdv)) → sp vs H Q E →
      ∃ t, PSs (cxOf CX0 P w K mg base N qual (defScope st) f cdv A outer s H E).nox (defBody st) t ∧ t { nx := fun _ H' => Q .non H', rt := Q } (start N vs) H) : FnOk P w K mg base CX0 (k + 1) f fd ps sp := by
  obtain ⟨oc, od, kV, doc, pm, an, cdv, ct, osl, rfl, lk, hcd⟩ := F.ex
  refine fn_of lk hcd S len fun A outer s H vs Q E hr hsp => ?_
  obtain ⟨t, h, q⟩ := hbody cdv A outer s H vs Q E hr hsp
  exact ⟨t, h.nox, q⟩
/-- how its arguments bind (no defaults): h is «fun _ _ _ _ _ _ us hl => match us, hl with | [_, _], _ => rfl», one _ a parameter -/
theorem Fun.binds {x qual : Str} {st : Stmt} {f : Addr} {fd : FuncData} {ps : List Str} (F : Fun K x qual st f fd)
    (h : ∀ (kV doc pm : Value) (an : Option Addr) (cdv ct : Value) (us : List Value), us.length = ps.length → bindArgs (PySem.W.fnOf x qual (defArgs st) (defBody st) (defScope st) .none kV doc pm an cdv ct) ⟨us, []⟩ = pure (ps.zip us)) : Binds K fd ps [] := by
  obtain ⟨oc, od, kV, doc, pm, an, cdv, ct, osl, rfl, lk, hcd⟩ := F.ex
  exact .all (h kV doc pm an cdv ct)
theorem fun_mk {x qual : Str} {st : Stmt} {f : Addr} {oc : Value} {od an : Option Addr} {osl : Array (Option Value)} {kV doc pm cdv ct : Value} (l : K.lookup f = some ⟨oc, od, .func (PySem.W.fnOf x qual (defArgs st) (defBody st) (defScope st) .none kV doc pm an cdv ct), osl⟩)
    (c : PySem.W.codeIn K cdv qual = true) (k : PySem.W.keepIn K (.ref f) = true) : Fun K x qual st f (PySem.W.fnOf x qual (defArgs st) (defBody st) (defScope st) .none kV doc pm an cdv ct) := ⟨⟨oc, od, kV, doc, pm, an, cdv, ct, osl, rfl, l, c⟩, k⟩
end
theorem hu_of {A : Around} {k : Nat} (hr : Room k A) : A.units + 1 < cLine := Nat.lt_of_le_of_lt (Nat.add_le_add_left (by decide : 1 ≤ 64) _) hr.units
theorem small1000 {n : Nat} (h : n ≤ 1000) : n < sizeLine := Nat.lt_of_le_of_lt h (by decide)

/-! ### expressions in short: the name that stands in the i-th slot -/
section
variable {X : Cx}
theorem pv (i : Nat) {x : Str} {pos : Pos} (hN : X.N[i]? = some x := by rfl) (hv : Vis X.env.scope x := by first | exact Or.inl rfl | exact Or.inr (Or.inl rfl) | exact Or.inr (Or.inr rfl)) (hd : (x == ("__debug__" : Str)) = false := by decide)
    (hcd : (x == ("__classdict__" : Str)) = false := by decide) : PE X (.Name x pos) (tVar i) := pe_var hN hv hd hcd
end

/-! ### tests -/
theorem iteF {A B : Prop} (h : B) : if false = true then A else B := by
  rw [if_neg Bool.false_ne_true]
  exact h
theorem iteT {A B : Prop} (h : A) : if true = true then A else B := by
  rw [if_pos rfl]
  exact h
theorem ite2 {c A B : Prop} [Decidable c] (h1 : c → A) (h2 : ¬ c → B) : if c then A else B := by
  by_cases h : c
  · rw [if_pos h]
    exact h1 h
  · rw [if_neg h]
    exact h2 h

/-! ### heaps -/
/-- all that was tracked is as it was -/
def Same (H H' : Hp) : Prop := ∀ b o, H b = some o → H' b = some o
theorem Same.refl (H : Hp) : Same H H := fun _ _ h => h
theorem Same.trans {H H1 H2 : Hp} (a : Same H H1) (b : Same H1 H2) : Same H H2 := fun c o h => b c o (a c o h)
theorem Same.free {H H' : Hp} (e : Same H H') {l : Addr} (h : H' l = Option.none) : H l = Option.none := by
  cases q : H l with
  | none => rfl
  | some o =>
    rw [e l o q] at h
    cases h
theorem Same.seq {K : PySem.W.Frag} {H H' : Hp} {a : Addr} {xs : List V} (e : Same H H') (h : SqL K H a xs) : SqL K H' a xs := by
  rcases h with (h | ⟨o, h⟩) | h
  · exact .inl (.inl (e _ _ h))
  · exact .inl (.inr ⟨o, e _ _ h⟩)
  · exact .inr h

end L2

set_option maxHeartbeats 4000000
namespace L2
open PySem PySem.Spec PyProof.Rows

/-! ### comprehensions -/
/-- what is asked of a comprehension's block: sc its names, outer the names around it, M the outer names that it may see (others hidden), x its own -/
def compOK (outer sc : Scope) (x : Str) (M N : List Str) : Bool :=
  decide (sc.kind = .function) && sc.names.all (fun y => decide (y.2 ≠ .cell)) && sc.names.all (fun y => decide (y.2 = .local → sc.names.lookup y.1 = some .local)) && decide (sc.names.lookup x = some .local) &&
  sc.names.all (fun y => decide (y.2 = .free → (outer.names.lookup y.1 = some .cell ∨ outer.names.lookup y.1 = some .free))) &&
  decide ((M ++ [x]).Nodup) && decide (M.length = N.length) && (M.zip N).all (fun p => decide (p.1 = p.2 ∨ sc.names.lookup p.1 = none)) && M.all (fun y => decide (sc.names.lookup y ≠ some .local))

theorem lookup_relabel {env : Env} : ∀ {names : List (Str × NameKind)} {x : Str} {k' : NameKind},
    (names.map fun (n, k) => if (k == NameKind.free && env.scope.kind == .function && env.kindOf n == some .cell) then (n, NameKind.cell) else (n, k)).lookup x = some k' →
    ∃ k, names.lookup x = some k ∧ (k' = k ∨ (k = .free ∧ k' = .cell))
  | [], _, _, h => by simp at h
  | (n, k) :: r, x, k', h => by
    have ih := @lookup_relabel env r x k'
    have h' : List.lookup x ((if (k == NameKind.free && env.scope.kind == .function && env.kindOf n == some .cell) = true then (n, NameKind.cell) else (n, k)) :: _) = some k' := h
    cases hx : x == n with
    | true =>
      by_cases hc : ((k == NameKind.free && env.scope.kind == .function && env.kindOf n == some .cell)) = true
      · rw [if_pos hc] at h'
        simp only [List.lookup_cons, hx] at h'
        refine ⟨k, by simp [List.lookup_cons, hx], .inr ⟨?_, (Option.some.inj h').symm⟩⟩
        simp only [Bool.and_eq_true, beq_iff_eq] at hc
        exact hc.1.1
      · rw [if_neg hc] at h'
        simp only [List.lookup_cons, hx] at h'
        exact ⟨k, by simp [List.lookup_cons, hx], .inl (Option.some.inj h').symm⟩
    | false =>
      have h'' : List.lookup x (r.map fun (n, k) => if (k == NameKind.free && env.scope.kind == .function && env.kindOf n == some .cell) then (n, NameKind.cell) else (n, k)) = some k' := by
        by_cases hc : ((k == NameKind.free && env.scope.kind == .function && env.kindOf n == some .cell)) = true
        · rw [if_pos hc] at h'; simp only [List.lookup_cons, hx] at h'; exact h'
        · rw [if_neg hc] at h'; simp only [List.lookup_cons, hx] at h'; exact h'
      obtain ⟨k0, a, b⟩ := ih h''
      exact ⟨k0, by simp only [List.lookup_cons, hx]; exact a, b⟩

theorem closure_go {env : Env} : ∀ (names : List (Str × NameKind)) (cs : List (Str × Addr)), (∀ y ∈ names, y.2 = .free → ∃ c, env.cells.lookup y.1 = some c) → (∀ y c, cs.lookup y = some c → env.cells.lookup y = some c) →
    ∃ cl, (forIn names cs fun (x : Str × NameKind) (r : List (Str × Addr)) => (if (x.2 == NameKind.free) = true then (do let a ← cellOf env x.1; pure (ForInStep.yield ((x.1, a) :: r))) else pure (ForInStep.yield r) : Sem _)) = pure cl ∧
      (∀ y c, cl.lookup y = some c → env.cells.lookup y = some c) ∧ (∀ y, ((∃ c, cs.lookup y = some c) ∨ (y, NameKind.free) ∈ names) → ∃ c, cl.lookup y = some c)
  | [], cs, _, hc => ⟨cs, rfl, hc, fun y h => by
      rcases h with h | h
      · exact h
      · cases h⟩
  | (n, k) :: r, cs, hf, hc => by
    by_cases hk : k = .free
    · subst hk
      obtain ⟨a, ha⟩ := hf (n, .free) List.mem_cons_self rfl
      have hc' : ∀ y c, List.lookup y ((n, a) :: cs) = some c → env.cells.lookup y = some c := fun y c e => by
        simp only [List.lookup_cons] at e
        split at e
        · rename_i q
          have q' : y = n := by simpa using q
          subst q'
          exact ha.trans e
        · exact hc y c e
      obtain ⟨cl, h1, h2, h3⟩ := closure_go r ((n, a) :: cs) (fun y hy => hf y (List.mem_cons_of_mem _ hy)) hc'
      refine ⟨cl, ?_, h2, fun y h => ?_⟩
      · rw [List.forIn_cons]
        show ((if (NameKind.free == NameKind.free) = true then (do let a ← cellOf env n; pure (ForInStep.yield ((n, a) :: cs))) else pure (ForInStep.yield cs) : Sem _) >>= _) = _
        rw [if_pos (by decide)]
        have e : cellOf env n = pure a := by unfold cellOf; rw [ha]
        rw [e]
        exact h1
      · refine h3 y ?_
        rcases h with ⟨c, h⟩ | h
        · left
          simp only [List.lookup_cons]
          split
          · exact ⟨_, rfl⟩
          · exact ⟨c, h⟩
        · rcases List.mem_cons.mp h with q | q
          · left
            cases q
            exact ⟨a, by simp [List.lookup_cons]⟩
          · exact .inr q
    · obtain ⟨cl, h1, h2, h3⟩ := closure_go r cs (fun y hy => hf y (List.mem_cons_of_mem _ hy)) hc
      refine ⟨cl, ?_, h2, fun y h => ?_⟩
      · rw [List.forIn_cons]
        show ((if (k == NameKind.free) = true then (do let a ← cellOf env n; pure (ForInStep.yield ((n, a) :: cs))) else pure (ForInStep.yield cs) : Sem _) >>= _) = _
        rw [if_neg (by simpa using hk)]
        exact h1
      · refine h3 y ?_
        rcases h with h | h
        · exact .inl h
        · rcases List.mem_cons.mp h with q | q
          · cases q; exact absurd rfl hk
          · exact .inr q

theorem closure_ok {env : Env} {scope : Scope} (hf : ∀ y ∈ scope.names, y.2 = .free → ∃ c, env.cells.lookup y.1 = some c) :
    ∃ cl, closureFor scope env = pure cl ∧ (∀ y c, cl.lookup y = some c → env.cells.lookup y = some c) ∧ (∀ y, (y, NameKind.free) ∈ scope.names → ∃ c, cl.lookup y = some c) := by
  obtain ⟨cl, h1, h2, h3⟩ := closure_go scope.names [] hf (fun y c e => by simp at e)
  refine ⟨cl, ?_, h2, fun y h => h3 y (.inr h)⟩
  unfold closureFor
  rw [← bind_pure (x := (pure cl : Sem _)), ← h1]

/-- a block's own: its cells, its frame, the state and the heap ahead of it, the iterator's records -/
structure CB where
  cl : List (Str × Addr)
  C : Addr
  s2 : Shared
  H2 : Hp
  fp : List Addr
/-- the block's context -/
def Cx.comp (X : Cx) (N' : List Str) (scope : Scope) (b : CB) : Cx where
  prog := X.prog
  w := X.w
  K := X.K
  mg := X.mg
  base := X.base
  A := X.A
  N := N'
  s₀ := b.s2
  H₀ := b.H2
  env := compEnvC scope b.cl b.C X.env
  outer := X.stack
  stack := X.stack
  ex := b.fp
  fn := fun _ => false
  calm := X.calm
  pn := []
  xe := fun _ _ => False

structure CompOK (outer sc : Scope) (x : Str) (M N : List Str) : Prop where
  kind : sc.kind = .function
  nocell : ∀ y ∈ sc.names, y.2 ≠ .cell
  loc : ∀ y ∈ sc.names, y.2 = .local → sc.names.lookup y.1 = some .local
  own : sc.names.lookup x = some .local
  free : ∀ y ∈ sc.names, y.2 = .free → (outer.names.lookup y.1 = some .cell ∨ outer.names.lookup y.1 = some .free)
  nd : (M ++ [x]).Nodup
  len : M.length = N.length
  same : ∀ p ∈ M.zip N, p.1 = p.2 ∨ sc.names.lookup p.1 = none
  noloc : ∀ y ∈ M, sc.names.lookup y ≠ some .local
theorem compOK_of {outer sc : Scope} {x : Str} {M N : List Str} (h : compOK outer sc x M N = true) : CompOK outer sc x M N := by
  unfold compOK at h
  simp only [Bool.and_eq_true, decide_eq_true_eq, List.all_eq_true] at h
  obtain ⟨⟨⟨⟨⟨⟨⟨⟨h1, h2⟩, h3⟩, h4⟩, h5⟩, h6⟩, h7⟩, h8⟩, h9⟩ := h
  exact ⟨h1, h2, h3, h4, h5, h6, h7, h8, h9⟩

section
variable {X : Cx} {pins : List (Addr × Obj)} {σ : St} {H2 : Hp} {s2 : Shared} {scope : Scope} {x : Str} {M : List Str} {cl : List (Str × Addr)} {fp : List Addr} {h1 : Heap} {t' : Nat}

/-- the block's entry -/
theorem Inv.comp (I : Inv X pins σ H2 s2) (K : CompOK X.env.scope scope x M X.N) (hcl : ∀ y c, cl.lookup y = some c → X.env.cells.lookup y = some c) (hcf : ∀ y, (y, NameKind.free) ∈ scope.names → ∃ c, cl.lookup y = some c)
    (hfp : ∀ b ∈ fp, FpOk X pins H2 b) (hlt : ∀ b ∈ fp, b < s2.heap.objs.size) (kp : ∀ b o, s2.heap.get? b = some o → h1.get? b = some o) (hD : h1.get? s2.heap.objs.size = some { cls := .type "list", dict := none, data := .seq ([] : List Value).toArray })
    (hC : h1.Ns (s2.heap.objs.size + 1) (fun _ => none)) :
    Inv (X.comp (M ++ [x]) scope ⟨cl, s2.heap.objs.size + 1, s2, H2, fp⟩) [] (σ ++ [none]) (upd H2 s2.heap.objs.size (.lst [])) { s2 with heap := h1, toks := t' } := by
  have cellLt : ∀ y c, cl.lookup y = some c → c < s2.heap.objs.size := fun y c e => by
    obtain ⟨v, z⟩ := I.cell y c (hcl y c e)
    exact z.lt
  have kindEq : ∀ y k', (compEnvC scope cl (s2.heap.objs.size + 1) X.env).kindOf y = some k' → ∃ k, scope.names.lookup y = some k ∧ (k' = k ∨ (k = .free ∧ k' = .cell)) := fun y k' e => lookup_relabel e
  have freeOf : ∀ y k', (compEnvC scope cl (s2.heap.objs.size + 1) X.env).kindOf y = some k' → (k' = .cell ∨ k' = .free) → (y, NameKind.free) ∈ scope.names := fun y k' e hk => by
    obtain ⟨k, e1, e2⟩ := kindEq y k' e
    have mem := PySem.mem_of_lookup e1
    have : k = .free := by
      rcases e2 with rfl | ⟨rfl, _⟩
      · rcases hk with rfl | rfl
        · exact absurd rfl (K.nocell _ mem)
        · rfl
      · rfl
    subst this
    exact mem
  have hDn : H2 s2.heap.objs.size = none := I.hok.fresh (Nat.le_refl _)
  refine ⟨⟨I.ok.mod, K.kind, I.ok.glob, I.ok.blt, Nat.le_succ _, fun y z c e1 e2 => I.ok.inj y z c (hcl y c e1) (hcl z c e2), fun y hy => ?_, fun y c hf _ => ?_, I.ok.hd, I.ok.frames, .inl rfl, fun b hb => ⟨Nat.ne_of_lt (Nat.lt_succ_of_lt (hlt b hb)), fun y c e => (hfp b hb).2.2.2.2.1 y c (hcl y c e)⟩,
    fun b o e => I.bs b o e, Nat.le_trans I.ok.bsz I.sz, fun b o e hb => ?_, fun b hb hf => ?_, I.stack, I.stkFree⟩, rfl, I.bare, Un.laid kp (Nat.le_refl _) hDn, ⟨_, hC, fun i y v e1 e2 e3 => ?_⟩, fun y c e => ?_, ?_, fun y c e => ?_, fun p hp => absurd (show p ∈ ([] : List (Addr × Obj)) from hp) (by simp), I.hok.laid kp (Nat.le_refl _) ?_, ?_⟩
  · rcases hy with hy | hy
    · exact hcf y (freeOf y _ hy (.inl rfl))
    · exact hcf y (freeOf y _ hy (.inr rfl))
  · exact absurd (show false = true from hf) Bool.false_ne_true
  · obtain ⟨f0, f1, f2, f3, f4, f5⟩ := hfp b hb
    rcases f3 with z | z
    · exact I.ok.noex b o e z
    · exact absurd (Nat.lt_of_lt_of_le (Heap.lt_size (I.ok.bs b o e).1) z) (Nat.lt_irrefl _)
  · obtain ⟨f0, f1, f2, f3, f4, f5⟩ := hfp b hb
    rcases List.mem_cons.mp (I.stkSub b hf) with z | z
    · exact f1 z
    · exact f2 z
  · -- names
    have hi : i < σ.length := by
      by_cases hi : i < σ.length
      · exact hi
      · have hz : (σ ++ [none])[i]? = some (some v) := e2
        rw [List.getElem?_append_right (by lia)] at hz
        by_cases hq : i - σ.length = 0
        · rw [hq] at hz; cases hz
        · rw [List.getElem?_eq_none (by simp; lia)] at hz; cases hz
    have e2' : σ[i]? = some (some v) := by
      have hz : (σ ++ [none])[i]? = some (some v) := e2
      rw [List.getElem?_append_left hi] at hz
      exact hz
    have hiM : i < M.length := by rw [K.len, ← I.len]; exact hi
    have e1' : M[i]? = some y := by
      have hz : (M ++ [x])[i]? = some y := e1
      rw [List.getElem?_append_left hiM] at hz
      exact hz
    have hyM : y ∈ M := List.mem_of_getElem? e1'
    have e3' : ∃ k', (compEnvC scope cl (s2.heap.objs.size + 1) X.env).kindOf y = some k' ∧ (k' = .cell ∨ k' = .free) := by
      rcases e3 with z | z | z
      · obtain ⟨k, a, b⟩ := kindEq y _ z
        rcases b with b | ⟨_, b⟩
        · subst b; exact absurd a (K.noloc y hyM)
        · cases b
      · exact ⟨_, z, .inl rfl⟩
      · exact ⟨_, z, .inr rfl⟩
    obtain ⟨k', ek, hk⟩ := e3'
    have mem := freeOf y k' ek hk
    obtain ⟨k0, a0, _⟩ := kindEq y k' ek
    have hiN : i < X.N.length := by rw [← K.len]; exact hiM
    have eN : X.N[i]? = some y := by
      have hz : (M[i], X.N[i]) ∈ M.zip X.N := by
        rw [List.mem_iff_getElem?]
        exact ⟨i, List.getElem?_zip_eq_some.mpr ⟨List.getElem?_eq_getElem hiM, List.getElem?_eq_getElem hiN⟩⟩
      have eM : M[i] = y := by
        rw [List.getElem?_eq_getElem hiM] at e1'
        exact Option.some.inj e1'
      rcases K.same _ hz with q | q
      · rw [List.getElem?_eq_getElem hiN]
        have q' : M[i] = X.N[i] := q
        rw [← q', eM]
      · have q' : scope.names.lookup M[i] = none := q
        rw [eM, a0] at q'
        cases q'
    have hv := K.free _ mem rfl
    obtain ⟨m, hn, hl⟩ := I.loc
    obtain ⟨u, r, l⟩ := hl i y v eN e2' (hv.elim (fun z => .inr (.inl z)) (fun z => .inr (.inr z)))
    refine ⟨u, r, .inr ⟨?_, ?_⟩⟩
    · rcases hk with rfl | rfl
      · exact .inl ek
      · exact .inr ek
    · obtain ⟨c, ec⟩ := hcf y mem
      refine ⟨c, ec, ?_⟩
      rcases l with ⟨z, _⟩ | ⟨_, c', ec', cc⟩
      · have z' : X.env.scope.names.lookup y = some .local := z
        rcases hv with q | q <;> (rw [z'] at q; cases q)
      · have := (hcl y c ec).symm.trans ec'
        cases this
        obtain ⟨o, ho, hd⟩ := cc
        exact ⟨o, kp _ o ho, hd⟩
  · obtain ⟨v, o, ho, hd⟩ := I.cell y c (hcl y c e)
    exact ⟨v, o, kp _ o ho, hd⟩
  · show upd H2 s2.heap.objs.size (.lst []) (s2.heap.objs.size + 1) = none
    rw [upd_ne (Nat.succ_ne_self _)]
    exact I.hok.fresh (Nat.le_succ _)
  · rw [upd_ne (Nat.ne_of_lt (cellLt y c e))]
    exact I.freeC y c (hcl y c e)
  · exact ⟨Nat.zero_le _, [], _, .nil, hD⟩
  · show (σ ++ [none]).length = (M ++ [x]).length
    simp [I.len, K.len]
end
end L2

namespace L2
open PySem PySem.Spec PyProof.Rows

/-- the loop of a list comprehension of one clause -/
theorem comp_loop {prog : Program} {w : World} {A : Around} {R : Result → Shared → Prop} {s : Shared} {elt target iter : Expr} {ifs : List Expr} {scope : Scope} {pos : Pos} {it acc : Value} {env : Env} (I : Nat → Shared → Prop)
    (onward : ∀ n s, I n s → wpAny (model prog w) A (pyNext it) (fun r za => match r with
      | none => R (.ok .next) za
      | some v => wpAny (model prog w) A (letOwnedTupleGo target it v) (fun _ zb => wpAny (model prog w) A (assign target env v) (fun _ zc =>
          wpAny (model prog w) A (forIn ifs true fun c r => if r = true then do let ok ← isTrue c env (eval c env); pure (ForInStep.yield ok) else pure (ForInStep.yield r)) (fun ok zd =>
            if ok = true then wpAny (model prog w) A (eval elt env) (fun x ze =>
              wpAny (model prog w) A (call (.builtin "list.append") [acc, x]) (fun _ zf => ∃ m, m < n ∧ I m zf) (fun _ _ => False) ze) (fun _ _ => False) zd
            else ∃ m, m < n ∧ I m zd) (fun _ _ => False) zc) (fun _ _ => False) zb) (fun _ _ => False) za) (fun _ _ => False) s)
    (n : Nat) (h : I n s) :
    codeAny (model prog w) A (.compLoop (.ListComp elt [⟨target, iter, ifs, 0⟩] scope pos) 0 it acc env) R s :=
  by
  refine codeAny_loop rfl I (fun n s hJ => ?_) n h
  show wpAny _ A ((compTurn (.ListComp elt [⟨target, iter, ifs, 0⟩] scope pos) 0 it acc env).onRaise (fun ex =>  do noteFrame ex env; theTreesLotGoes ex)) _ _ s
  refine wpAny_noted (wpAny_mono (E := fun _ _ => False) ?_ (fun _ _ q => q) fun _ _ z => z.elim)
  rw [compTurn_list]
  refine wpAny_bind (wpAny_standAt (wpAny_bind (wpAny_mono (onward n s hJ) (fun r za ya => ?_) fun _ _ u => u)))
  cases r with
  | none => exact wpAny_pure ya
  | some v =>
    refine wpAny_bind (wpAny_mono ya (fun _ zb yb => ?_) fun _ _ u => u)
    refine wpAny_bind (wpAny_mono yb (fun _ zc yc => wpAny_bind (wpAny_mono yc (fun ok zd yd => ?_) fun _ _ u => u)) fun _ _ u => u)
    cases ok with
    | false => exact wpAny_pure ⟨rfl, yd⟩
    | true =>
      exact wpAny_bind (wpAny_bind (wpAny_mono yd (fun x ze ye => wpAny_bind (wpAny_mono ye (fun _ zf yf => wpAny_pure (wpAny_pure ⟨rfl, yf⟩)) fun _ _ u => u)) fun _ _ u => u))

/-- the tests of a clause -/
def PIfs (X : Cx) (ifs : List Expr) (t : TT) : Prop :=
  ∀ (pins : List (Addr × Obj)) (s : Shared) (σ : St) (H : Hp) (Q : Bool → Hp → Prop), Inv X pins σ H s → t σ H Q →
    wpAny (model X.prog X.w) X.A (forIn ifs true fun c r => if r = true then do let ok ← isTrue c X.env (eval c X.env); pure (ForInStep.yield ok) else pure (ForInStep.yield r)) (TP X pins σ Q) X.xe s
def tNoIf : TT := fun _ H Q => Q true H
theorem pif_nil {X : Cx} : PIfs X [] tNoIf := fun pins s σ H Q I h => wpAny_tests_nil ⟨H, I, h⟩
theorem pif_one {X : Cx} {c : Expr} {t : TT} (h : PT X c t) : PIfs X [c] t := fun pins s σ H Q I q => wpAny_tests_one (h pins s σ H Q I q)

/-- [elt for x in iter if ..]: D is the list that is made -/
def tComp (wi : TI) (tc : CB → TT) (te : CB → TE) : TE := fun σ H Q => wi σ H fun J H1 => ∀ D, H1 D = none → ∀ b : CB, ∃ W : Nat → Nat → List V → Hp → Prop, (∃ m, W 0 m [] (upd H1 D (.lst []))) ∧
  ∀ i m ys H, W i m ys H → (J.stop i H ∧ Q (.ref D) H) ∨ (J.go i H ∧ ys.length < sizeLine ∧ ∃ N : List V → Hp → Prop, (∀ ys' H', N ys' H' → ∃ m', m' < m ∧ W (i + 1) m' ys' H') ∧ ∀ x H', J.yld i H x H' → tc b (σ ++ [some x]) H' fun ok H2 =>
    if ok = true then te b (σ ++ [some x]) H2 fun v H3 => H3 D = some (.lst ys) ∧ N (ys ++ [v]) (upd H3 D (.lst (ys ++ [v]))) else N ys H2)

theorem append_call {X : Cx} {pins : List (Addr × Obj)} {σ : St} {H : Hp} {s : Shared} {D : Addr} {ys : List V} {v : V} {u : Value} {E : Value → Shared → Prop} (I : Inv X pins σ H s) (hD : H D = some (.lst ys)) (hz : ys.length < sizeLine) (r : RelV v u) :
    wpAny (model X.prog X.w) X.A (call (.builtin "list.append") [.ref D, u]) (fun _ s' => Inv X pins σ (upd H D (.lst (ys ++ [v]))) s') E s := by
  obtain ⟨z, its, n, rv, hl, e⟩ := I.lstM hD
  refine call_meets F.slot_list_append ⟨_, e, rfl⟩ F.entry_list_append (F.args_list_append_2 _ _) (PySem.list_append D its.toArray n u (by rw [List.size_toArray]; lia)) ⟨e, ?_⟩
  refine I.lset (its' := its ++ [u]) hD e (by simp) (rv.append (.cons r .nil)) ?_
  rw [List.length_append, List.length_singleton]
  lia

theorem SameBut.unC {H H' : Hp} {fs ex : List Addr} {h h1 h2 : Heap} {C : Addr} (u : Un fs ex H H' h h1) (sb : Heap.SameBut C h1 h2) (hC : h.objs.size ≤ C) : Un fs ex H H' h h2 := by
  have ne : ∀ b o, h.get? b = some o → b ≠ C := fun b o e z => by subst z; exact absurd (Nat.lt_of_lt_of_le (Heap.lt_size e) hC) (Nat.lt_irrefl _)
  refine ⟨fun b o e n hb hx => (sb.2 b (ne b o e)).trans (u.keep b o e n hb hx), fun b o e n hb hx => ?_, u.free, fun b o e hx => ?_, u.tups, u.frzs, u.tbls⟩
  · obtain ⟨sl, q⟩ := u.slot b o e n hb hx
    exact ⟨sl, (sb.2 b (ne b o e)).trans q⟩
  · obtain ⟨o', q⟩ := u.there b o e hx
    exact ⟨o', (sb.2 b (ne b o e)).trans q⟩
theorem SameBut.hokC {P : Program} {w : World} {H : Hp} {h1 h2 : Heap} {C : Addr} (ok : HOk P w H h1) (sb : Heap.SameBut C h1 h2) (hn : H C = none) : HOk P w H h2 := fun b ob e => by
  refine (ok b ob e).stay (fun c w' hc q => (sb.2 c ?_).trans q) (fun _ q => q) fun _ _ q => q
  rintro rfl
  rcases hc with rfl | hc
  · rw [hn] at e; cases e
  · rw [hn] at hc; cases hc

theorem comp_core {X : Cx} {iter elt : Expr} {ifs : List Expr} {x : Str} {px pos pos0 : Pos} {scope : Scope} (M : List Str) {wi : TI} {tc : CB → TT} {te : CB → TE} {use : Option (Value → Sem Unit)} {R : Value → Shared → Prop}
    {pins : List (Addr × Obj)} {s : Shared} {σ : St} {H : Hp} {Q : VK} (I : Inv X pins σ H s) (h : tComp wi tc te σ H Q)
    (hfin : ∀ (D C : Addr) (m : Str → Option Value) (s' : Shared) (H' : Hp), s'.heap.Ns C m → FpOk X pins H' C → (∀ h', Heap.SameBut C s'.heap h' → Inv X pins σ H' { s' with heap := h' }) → Q (.ref D) H' → compPost (model X.prog X.w) X.A X.xe use R (.ref D) C (.ok .next) s')
    (hc : X.calm = true) (hi : PI X (.Name x px) iter wi)
    (hif : ∀ b : CB, PIfs (X.comp (M ++ [x]) scope b) ifs (tc b)) (he : ∀ b : CB, PE (X.comp (M ++ [x]) scope b) elt (te b))
    (ok : compOK X.env.scope scope x M X.N = true := by kernel_rfl)
    (hs : ∀ x, foldedSetIterable iter X.env x = pure x := by intro _; rfl) :
    wpAny (model X.prog X.w) X.A (comprehension (.ListComp elt [⟨.Name x px, iter, ifs, 0⟩] scope pos) scope X.env pos0 (newList []) false (eval iter X.env) use) R X.xe s := by
  have K := compOK_of ok
  obtain ⟨cl, hclos, hcl, hcf⟩ := closure_ok (env := X.env) (scope := scope) fun y hy hk => I.ok.has y.1 (K.free y hy hk)
  refine wpAny_comprehension_free (use := use) rfl hs hclos K.kind K.loc ?_
  refine thn (hi pins s σ H _ I h) fun v s1 h1 => thn h1 fun itv s2 h2 => ?_
  obtain ⟨it, fp, tn, J, H2, rfl, I2, T, st2, f2, hq⟩ := h2
  refine wpAny_newObj_type (wpAny_newFunctionEnv K.nocell (by intro y hy; simp at hy) (fun h₁ hns₁ hsb₁ => ?_) K.kind)
  dsimp only at hns₁ hsb₁ ⊢
  have hsize : (s2.heap.push { cls := .type "list", dict := none, data := .seq ([] : List Value).toArray }).objs.size = s2.heap.objs.size + 1 := Heap.size_push ..
  rw [hsize] at hns₁ hsb₁
  have ltD : s2.heap.objs.size ≠ s2.heap.objs.size + 1 := Nat.ne_of_lt (Nat.lt_succ_self _)
  have kp : ∀ b o, s2.heap.get? b = some o → h₁.get? b = some o := fun b o e => hsb₁.extBut b o (Nat.ne_of_lt (Nat.lt_succ_of_lt (Heap.lt_size e))) (Heap.get?_push_of_some _ (Heap.get?_push_of_some _ e))
  have hD : h₁.get? s2.heap.objs.size = some { cls := .type "list", dict := none, data := .seq ([] : List Value).toArray } := hsb₁.extBut _ _ ltD (Heap.get?_push_of_some _ (Heap.get?_push_size _ rfl))
  have hlt : ∀ b ∈ fp, b < s2.heap.objs.size := fun b hb => let ⟨o, e, _⟩ := T.obj _ _ st2 b hb; Heap.lt_size e
  have I3 := I2.comp (t' := s2.toks + ([] : List (Str × Value)).length) K hcl hcf f2 hlt kp hD hns₁
  obtain ⟨W, ⟨m0, w0⟩, step⟩ := hq s2.heap.objs.size (I2.hok.fresh (Nat.le_refl _)) ⟨cl, s2.heap.objs.size + 1, s2, H2, fp⟩
  have st3 : tn 0 h₁ := T.keep _ _ _ st2 fun b _ o e => kp b o e
  have fr3 : ∀ b ∈ fp, (upd H2 s2.heap.objs.size (.lst [])) b = none := fun b hb => by rw [upd_ne (Nat.ne_of_lt (hlt b hb))]; exact (f2 b hb).1
  -- what the block's end gives
  have fin : ∀ (s' : Shared) (σ' : St) (H' : Hp), Inv (X.comp (M ++ [x]) scope ⟨cl, s2.heap.objs.size + 1, s2, H2, fp⟩) [] σ' H' s' → Q (.ref s2.heap.objs.size) H' →
      compPost (model X.prog X.w) X.A X.xe use R (.ref s2.heap.objs.size) (s2.heap.objs.size + 1) (.ok .next) s' := fun s' σ' H' J' q => by
    obtain ⟨m, hn, _⟩ := id J'.loc
    have hC : H' (s2.heap.objs.size + 1) = none := J'.free
    refine hfin _ _ m s' H' hn (I2.fpOk (Nat.le_succ _) hC) (fun h' sb => ?_) q
    exact I2.call' (ch := fp) (show s'.os = s2.os from J'.os) (SameBut.unC J'.base sb (Nat.le_succ _)) (SameBut.hokC J'.hok sb hC) J'.bare fun b hb => by
      obtain ⟨f0, f1, f2', f3, f4, f5⟩ := f2 b hb
      exact ⟨f3, f1, f4, f5⟩
  have stat : ∀ {H' : Hp}, (∀ b ∈ fp, H' b = none) → ∀ b ∈ fp, FpOk (X.comp (M ++ [x]) scope ⟨cl, s2.heap.objs.size + 1, s2, H2, fp⟩) [] H' b := fun hn b hb => by
    obtain ⟨f0, f1, f2', f3, f4, f5⟩ := f2 b hb
    refine ⟨hn b hb, Nat.ne_of_lt (Nat.lt_succ_of_lt (hlt b hb)), fun z => ?_, .inl hb, fun y c e => f4 y c (hcl y c e), fun p hp => absurd (show p ∈ ([] : List (Addr × Obj)) from hp) (by simp)⟩
    rcases List.mem_cons.mp (I2.stkSub b z) with z | z
    · exact f1 z
    · exact f2' z
  have len3 : σ.length = M.length := by rw [I.len, K.len]
  have loop : codeAny (model X.prog X.w) X.A (.compLoop (.ListComp elt [⟨.Name x px, iter, ifs, 0⟩] scope pos) 0 (.ref it) (.ref s2.heap.objs.size) (compEnvC scope cl (s2.heap.objs.size + 1) X.env))
      (compPost (model X.prog X.w) X.A X.xe use R (.ref s2.heap.objs.size) (s2.heap.objs.size + 1)) { s2 with heap := h₁, toks := s2.toks + ([] : List (Str × Value)).length } := by
    refine comp_loop (fun n s' => ∃ i ys H', Inv (X.comp (M ++ [x]) scope ⟨cl, s2.heap.objs.size + 1, s2, H2, fp⟩) [] (σ ++ [none]) H' s' ∧ tn i s'.heap ∧ (∀ b ∈ fp, H' b = none) ∧ W i n ys H') ?_ m0 ⟨0, [], _, I3, st3, fr3, w0⟩
    rintro n s4 ⟨i, ys, H4, I4, st4, fr4, w4⟩
    rcases step i n ys H4 w4 with ⟨stop, q⟩ | ⟨go, hz, N, hN, st⟩
    · refine wpAny_mono (T.done (X.comp (M ++ [x]) scope ⟨cl, s2.heap.objs.size + 1, s2, H2, fp⟩) rfl rfl rfl hc i [] s4 _ H4 (fun _ _ => False) I4 (stat fr4) st4 stop) (fun r s5 ⟨hr, I5⟩ => ?_) fun _ _ z => z
      subst hr
      exact fin s5 _ H4 I5 q
    · refine wpAny_mono (T.item (X.comp (M ++ [x]) scope ⟨cl, s2.heap.objs.size + 1, s2, H2, fp⟩) rfl rfl rfl hc i [] s4 _ H4 (fun _ _ => False) I4 (stat fr4) st4 go) (fun r s5 ⟨u, hr, h5⟩ => ?_) fun _ _ z => z
      subst hr
      refine wpAny_mono h5 (fun _ s6 ⟨xv, H6, I6, r6, y6, st6, fr6⟩ => ?_) fun _ _ z => z
      have I6' := I6.pinned (stat fr6) (T.obj _ _ st6)
      have hset : (σ ++ [none]).set σ.length (some xv) = σ ++ [some xv] := by simp
      have hNx : (X.comp (M ++ [x]) scope ⟨cl, s2.heap.objs.size + 1, s2, H2, fp⟩).N[σ.length]? = some x := by
        show (M ++ [x])[σ.length]? = some x
        rw [len3]; simp
      have hlx : (X.comp (M ++ [x]) scope ⟨cl, s2.heap.objs.size + 1, s2, H2, fp⟩).env.scope.names.lookup x = some .local := lookup_relabel_local K.own
      have PGx : PG (X.comp (M ++ [x]) scope ⟨cl, s2.heap.objs.size + 1, s2, H2, fp⟩) (.Name x px) (gName σ.length) := pg_name K.nd hNx (.inl hlx) (.inr hlx)
      refine wpAny_mono (PGx _ s6 _ H6 xv u (fun σ' H' => σ' = σ ++ [some xv] ∧ H' = H6) I6' r6 ⟨hset, rfl⟩) (fun _ s7 ⟨σ7, H7, I7, e7, e7'⟩ => ?_) fun _ _ z => z
      subst e7 e7'
      have again : ∀ {ys' : List V} {H8 : Hp} {s8 : Shared} {m : Nat}, Inv (X.comp (M ++ [x]) scope ⟨cl, s2.heap.objs.size + 1, s2, H2, fp⟩) ([] ++ pinsAt fp s6.heap) (σ ++ [some xv]) H8 s8 → m < n → W (i + 1) m ys' H8 →
          ∃ m, m < n ∧ ∃ i ys H', Inv (X.comp (M ++ [x]) scope ⟨cl, s2.heap.objs.size + 1, s2, H2, fp⟩) [] (σ ++ [none]) H' s8 ∧ tn i s8.heap ∧ (∀ b ∈ fp, H' b = none) ∧ W i m ys H' := fun {ys' H8 s8 m} I8 hm w8 => by
        refine ⟨m, hm, i + 1, ys', H8, (I8.unpinned).weak (by simp) (fun j v e => ?_), T.keep _ _ _ st6 fun b hb o e => (I8.pin (b, o) (List.mem_append_right _ (List.mem_append_right _ (mem_pinsAt hb e)))).1, fun b hb => ?_, w8⟩
        · by_cases hj : j < σ.length
          · rw [List.getElem?_append_left hj] at e ⊢; exact e
          · rw [List.getElem?_append_right (by lia)] at e
            by_cases hq : j - σ.length = 0
            · rw [hq] at e; cases e
            · rw [List.getElem?_eq_none (by simp; lia)] at e; cases e
        · obtain ⟨o, e, d⟩ := T.obj _ _ st6 b hb
          exact (I8.pin (b, o) (List.mem_append_right _ (List.mem_append_right _ (mem_pinsAt hb e)))).2.1
      refine wpAny_mono (hif ⟨cl, s2.heap.objs.size + 1, s2, H2, fp⟩ _ s7 _ _ _ I7 (st xv _ y6)) (fun ok s8 ⟨H8, I8, q8⟩ => ?_) fun _ _ z => z
      cases ok with
      | false =>
        rw [if_neg Bool.false_ne_true] at q8
        obtain ⟨m, hm, w8⟩ := hN _ _ q8
        exact again I8 hm w8
      | true =>
        rw [if_pos rfl] at q8
        refine wpAny_mono (he ⟨cl, s2.heap.objs.size + 1, s2, H2, fp⟩ _ s8 _ H8 _ I8 q8) (fun xu s9 ⟨v9, H9, I9, r9, hD9, n9⟩ => ?_) fun _ _ z => z
        obtain ⟨m, hm, w9⟩ := hN _ _ n9
        exact wpAny_mono (append_call (X := X.comp (M ++ [x]) scope ⟨cl, s2.heap.objs.size + 1, s2, H2, fp⟩) I9 hD9 hz r9) (fun _ s10 I10 => again I10 hm w9) fun _ _ z => z
  rw [hsize]
  exact codeAny_compStart_list loop (T.self X.A 0 _ _ _ st3 loop)


theorem pe_comp {X : Cx} {iter elt : Expr} {ifs : List Expr} {x : Str} {px pos : Pos} {scope : Scope} (M : List Str) {wi : TI} {tc : CB → TT} {te : CB → TE}
    (hc : X.calm = true) (hi : PI X (.Name x px) iter wi)
    (hif : ∀ b : CB, PIfs (X.comp (M ++ [x]) scope b) ifs (tc b)) (he : ∀ b : CB, PE (X.comp (M ++ [x]) scope b) elt (te b))
    (ok : compOK X.env.scope scope x M X.N = true := by kernel_rfl)
    (hs : ∀ x, foldedSetIterable iter X.env x = pure x := by intro _; rfl) :
    PE X (.ListComp elt [⟨.Name x px, iter, ifs, 0⟩] scope pos) (tComp wi tc te) := by
  intro pins s σ H Q I h
  rw [eval_ListComp]
  exact comp_core M (use := none) (R := EP X pins σ Q) I h (fun D C m s' H' hn _ hI q => ⟨m, hn, fun h' sb => ⟨.ref D, H', hI h' sb, rfl, q⟩⟩) hc hi hif he ok hs
/-- the frame of a block may still change -/
theorem Inv.butC {X : Cx} {pins : List (Addr × Obj)} {σ : St} {H : Hp} {s : Shared} {C : Addr} {h' : Heap} (I : Inv X pins σ H s) (f : FpOk X pins H C) (sb : Heap.SameBut C s.heap h') : Inv X pins σ H { s with heap := h' } := by
  obtain ⟨f0, f1, f2, f3, f4, f5⟩ := f
  refine I.call' (ch := [C]) rfl ⟨fun b o e n _ hx => ?_, fun b o e n _ hx => ?_, fun b o e n _ => n, fun b o e hx => ?_, fun _ _ z => z, fun _ _ _ z => z, fun _ ps z => ⟨#[], by simpa using z⟩⟩ (SameBut.hokC I.hok sb f0) I.bare fun b hb => ?_
  · exact (sb.2 b (by simpa using hx)).trans e
  · exact ⟨o.slots, (sb.2 b (by simpa using hx)).trans e⟩
  · exact ⟨o, (sb.2 b (by simpa using hx)).trans e⟩
  · have : b = C := by simpa using hb
    subst this
    exact ⟨f3, f1, f4, f5⟩
/-- name = [comprehension] -/
theorem ps_setC {X : Cx} {iter elt : Expr} {ifs : List Expr} {x y : Str} {px py pos spos : Pos} {scope : Scope} (M : List Str) {i : Nat} {wi : TI} {tc : CB → TT} {te : CB → TE}
    (hc : X.calm = true) (hN : X.N.Nodup) (hiy : X.N[i]? = some y) (hy : Loc X.env.scope y) (hi : PI X (.Name x px) iter wi)
    (hif : ∀ b : CB, PIfs (X.comp (M ++ [x]) scope b) ifs (tc b)) (he : ∀ b : CB, PE (X.comp (M ++ [x]) scope b) elt (te b))
    (hsw : swapsWith (.ListComp elt [⟨.Name x px, iter, ifs, 0⟩] scope pos) (some (.Name y py)) spos.line X.env = pure true := by rfl)
    (ok : compOK X.env.scope scope x M X.N = true := by kernel_rfl)
    (hs : ∀ x, foldedSetIterable iter X.env x = pure x := by intro _; rfl)
    (hf : X.fn y = true ∨ X.env.scope.names.lookup y = some .local := by first | exact .inl rfl | exact .inr rfl | assumption) :
    PS X (.Assign [.Name y py] (.ListComp elt [⟨.Name x px, iter, ifs, 0⟩] scope pos) spos) (tAsg (tComp wi tc te) (gName i)) := by
  intro pins s σ H D I h
  rw [exec_Assign_Name_used _ _ _ _ hsw]; refine wpAny_bind (wpAny_standAt (wpAny_bind ?_))
  show wpAny _ X.A (do let _ ← comprehension (.ListComp elt [⟨.Name x px, iter, ifs, 0⟩] scope pos) scope X.env _ (newList []) false (eval iter X.env) (some (assign (.Name y py) X.env))) _ _ s
  refine wpAny_bind (wpAny_mono (comp_core M (use := some (assign (.Name y py) X.env)) (R := fun _ s' => _) I h (fun D' C m s' H' hn f hI q => ?_) hc hi hif he ok hs) (fun _ s' hq => wpAny_pure (wpAny_pure hq)) fun _ _ e => e)
  have I' : Inv X pins σ H' s' := hI s'.heap ⟨rfl, fun _ _ => rfl⟩
  show wpAny _ X.A (assign (.Name y py) X.env (.ref D')) _ _ _
  refine wpAny_assign_Name (store_ok2 (v := .ref D') I' hN hiy hy rfl (fun s2 I2 ⟨a, sb, ha⟩ => ?_) hf)
  have hCa : C ≠ a := by
    obtain ⟨f0, f1, f2, f3, f4, f5⟩ := f
    rintro rfl
    rcases ha with z | z
    · exact f1 z
    · exact f4 _ _ z rfl
  exact ⟨m, hn.sameBut sb hCa, fun h' sb' => ⟨_, H', I2.butC f sb', q⟩⟩
end L2

namespace L2
open PySem PySem.Spec PyProof.Rows

/-! ### comprehensions in the forms one uses -/
theorem comp_range {lo : Int} {n : Nat} {tc : TT} {te : TE} {σ : St} {H1 : Hp} {Q : Hp → Prop} {D : Addr} (Pv : Nat → List V → Hp → Prop) (hn : n < sizeLine) (h0 : Pv 0 [] (upd H1 D (.lst [])))
    (hl : ∀ i ys H, Pv i ys H → ys.length ≤ i)
    (hs : ∀ i ys H, i < n → Pv i ys H → tc (σ ++ [some (.int (lo + i))]) H fun b H2 => if b = true then te (σ ++ [some (.int (lo + i))]) H2 fun v H3 => H3 D = some (.lst ys) ∧ Pv (i + 1) (ys ++ [v]) (upd H3 D (.lst (ys ++ [v]))) else Pv (i + 1) ys H2)
    (hd : ∀ ys H, Pv n ys H → Q H) :
    ∃ W : Nat → Nat → List V → Hp → Prop, (∃ m, W 0 m [] (upd H1 D (.lst []))) ∧
      ∀ i m ys H, W i m ys H → ((Itr lo n).stop i H ∧ Q H) ∨ ((Itr lo n).go i H ∧ ys.length < sizeLine ∧ ∃ N : List V → Hp → Prop, (∀ ys' H', N ys' H' → ∃ m', m' < m ∧ W (i + 1) m' ys' H') ∧ ∀ x H', (Itr lo n).yld i H x H' → tc (σ ++ [some x]) H' fun b H2 =>
        if b = true then te (σ ++ [some x]) H2 fun v H3 => H3 D = some (.lst ys) ∧ N (ys ++ [v]) (upd H3 D (.lst (ys ++ [v]))) else N ys H2) := by
  refine ⟨fun i m ys H => m = n - i ∧ i ≤ n ∧ Pv i ys H, ⟨n, by simp, Nat.zero_le _, h0⟩, ?_⟩
  rintro i m ys H ⟨rfl, hi, p⟩
  by_cases hlt : i < n
  · refine .inr ⟨hlt, Nat.lt_of_le_of_lt (hl i ys H p) (Nat.lt_trans hlt hn), Pv (i + 1), fun ys' H' p' => ⟨n - (i + 1), by lia, rfl, hlt, p'⟩, fun x H' y => ?_⟩
    obtain ⟨e, y⟩ := y
    subst e y
    exact hs i ys _ hlt p
  · have e : i = n := by lia
    subst e
    exact .inl ⟨Nat.le_refl _, hd ys H p⟩
theorem comp_list {K : PySem.W.Frag} {a : Addr} {xs : List V} {tc : TT} {te : TE} {σ : St} {H1 : Hp} {Q : Hp → Prop} {D : Addr} (Pv : Nat → List V → Hp → Prop) (hn : xs.length < sizeLine) (h0 : Pv 0 [] (upd H1 D (.lst [])))
    (hl : ∀ i ys H, Pv i ys H → ys.length ≤ i) (hq : ∀ i ys H, i ≤ xs.length → Pv i ys H → SqL K H a xs)
    (hs : ∀ i x ys H, xs[i]? = some x → Pv i ys H → tc (σ ++ [some x]) H fun b H2 => if b = true then te (σ ++ [some x]) H2 fun v H3 => H3 D = some (.lst ys) ∧ Pv (i + 1) (ys ++ [v]) (upd H3 D (.lst (ys ++ [v]))) else Pv (i + 1) ys H2)
    (hd : ∀ ys H, Pv xs.length ys H → Q H) :
    ∃ W : Nat → Nat → List V → Hp → Prop, (∃ m, W 0 m [] (upd H1 D (.lst []))) ∧
      ∀ i m ys H, W i m ys H → ((Itl K a).stop i H ∧ Q H) ∨ ((Itl K a).go i H ∧ ys.length < sizeLine ∧ ∃ N : List V → Hp → Prop, (∀ ys' H', N ys' H' → ∃ m', m' < m ∧ W (i + 1) m' ys' H') ∧ ∀ x H', (Itl K a).yld i H x H' → tc (σ ++ [some x]) H' fun b H2 =>
        if b = true then te (σ ++ [some x]) H2 fun v H3 => H3 D = some (.lst ys) ∧ N (ys ++ [v]) (upd H3 D (.lst (ys ++ [v]))) else N ys H2) := by
  refine ⟨fun i m ys H => m = xs.length - i ∧ i ≤ xs.length ∧ Pv i ys H, ⟨xs.length, by simp, Nat.zero_le _, h0⟩, ?_⟩
  rintro i m ys H ⟨rfl, hi, p⟩
  have q := hq i ys H hi p
  by_cases hlt : i < xs.length
  · refine .inr ⟨⟨xs, xs[i], q, by simp [hlt]⟩, Nat.lt_of_le_of_lt (hl i ys H p) (Nat.lt_trans hlt hn), Pv (i + 1), fun ys' H' p' => ⟨xs.length - (i + 1), by lia, rfl, hlt, p'⟩, fun x H' y => ?_⟩
    obtain ⟨e, y⟩ := y
    subst e
    exact hs i x ys _ (y xs q) p
  · have e : i = xs.length := by lia
    subst e
    exact .inl ⟨⟨xs, q, Nat.le_refl _⟩, hd ys H p⟩

/-! ### data, and == of data -/
mutual
def DatV (K : PySem.W.Frag) (H : Hp) : PyData → V → Prop
  | .none, v => v = .non
  | .bool b, v => v = .bl b
  | .int i, v => v = .int i
  | .str x, v => v = .str x ∧ PyData.strOk x = true
  | .list ds, v => ∃ a xs, v = .ref a ∧ SqL K H a xs ∧ DatVs K H ds xs
  | .tuple ds, v => ∃ a xs, v = .ref a ∧ SqT K H a xs ∧ DatVs K H ds xs
  | .dict _, _ => False
def DatVs (K : PySem.W.Frag) (H : Hp) : List PyData → List V → Prop
  | [], xs => xs = []
  | d :: ds, xs => ∃ x r, xs = x :: r ∧ DatV K H d x ∧ DatVs K H ds r
end
section
variable {X : Cx} {pins : List (Addr × Obj)} {σ : St} {H : Hp} {s : Shared}
mutual
theorem DatV.reads (I : Inv X pins σ H s) : ∀ (d : PyData) (v : V) (u : Value), DatV X.K H d v → RelV v u → (∃ as, Reads s.heap u d as) ∧ d.canLay0 = true
  | .none, v, u, h, r => by
    rw [DatV] at h; subst h; cases r; exact ⟨⟨_, .none⟩, by simp [PyData.canLay0]⟩
  | .bool b, v, u, h, r => by
    rw [DatV] at h; subst h; cases r; exact ⟨⟨_, .bool b⟩, by simp [PyData.canLay0]⟩
  | .int i, v, u, h, r => by
    rw [DatV] at h; subst h; obtain ⟨t, rfl⟩ := r; exact ⟨⟨_, .int i t⟩, by simp [PyData.canLay0]⟩
  | .str x, v, u, h, r => by
    rw [DatV] at h; obtain ⟨h, hx⟩ := h; subst h; obtain ⟨t, rfl⟩ := r; exact ⟨⟨_, .str x t⟩, by simp [PyData.canLay0, hx]⟩
  | .list ds, v, u, h, r => by
    rw [DatV] at h; obtain ⟨a, xs, rfl, hq, hd⟩ := h
    cases r
    obtain ⟨its, rv, p, hz⟩ := I.list hq
    obtain ⟨⟨as, ra⟩, cl⟩ := DatVs.reads I ds xs its hd rv
    obtain ⟨o, ho, hc, n, hdt⟩ := p.isList
    exact ⟨⟨_, .list ho hc hdt (by simpa using ra)⟩, by rw [PyData.canLay0]; exact cl⟩
  | .tuple ds, v, u, h, r => by
    rw [DatV] at h; obtain ⟨a, xs, rfl, hq, hd⟩ := h
    cases r
    obtain ⟨its, rv, p, hz⟩ := I.tuple hq
    obtain ⟨⟨as, ra⟩, cl⟩ := DatVs.reads I ds xs its hd rv
    obtain ⟨o, ho, hc, n, hdt⟩ := p
    exact ⟨⟨_, .tuple ho hc hdt (by simpa using ra)⟩, by rw [PyData.canLay0]; exact cl⟩
  | .dict _, v, u, h, r => by rw [DatV] at h; exact h.elim
theorem DatVs.reads (I : Inv X pins σ H s) : ∀ (ds : List PyData) (vs : List V) (us : List Value), DatVs X.K H ds vs → Vals vs us → (∃ as, ReadsAll s.heap us ds as) ∧ PyData.canLayAll0 ds = true
  | [], vs, us, h, r => by
    rw [DatVs] at h; subst h; cases r; exact ⟨⟨_, .nil⟩, by simp [PyData.canLayAll0]⟩
  | d :: ds, vs, us, h, r => by
    rw [DatVs] at h; obtain ⟨x, rr, rfl, h1, h2⟩ := h
    cases r with
    | cons r1 r2 =>
      obtain ⟨⟨as, ra⟩, ca⟩ := DatV.reads I d x _ h1 r1
      obtain ⟨⟨bs, rb⟩, cb⟩ := DatVs.reads I ds rr _ h2 r2
      exact ⟨⟨_, .cons ra rb⟩, by rw [PyData.canLayAll0, ca, cb]; rfl⟩
end
def rEqD (K : PySem.W.Frag) (neg : Bool) : R2 := fun x y H Q => ∃ da db, DatV K H da x ∧ DatV K H db y ∧ min da.depth db.depth ≤ 64 ∧ Q (.bl (if neg then !PyData.eqv da db else PyData.eqv da db)) H
theorem op_eqD {k : Nat} (hr : Room k X.A) : OpR X (compareOp .Eq) (rEqD X.K false) := by
  intro pins s σ H x y v u Q I rx ry h
  obtain ⟨da, db, h1, h2, hd, q⟩ := h
  obtain ⟨⟨as, ra⟩, ca⟩ := DatV.reads I da x v h1 rx
  obtain ⟨⟨bs, rb⟩, cb⟩ := DatV.reads I db y u h2 ry
  exact SeqAt.compareEq_reads ra rb ca cb (by have := hr.units; lia) ⟨.bl _, H, I, rfl, q⟩
theorem op_neD {k : Nat} (hr : Room k X.A) : OpR X (compareOp .NotEq) (rEqD X.K true) := by
  intro pins s σ H x y v u Q I rx ry h
  obtain ⟨da, db, h1, h2, hd, q⟩ := h
  obtain ⟨⟨as, ra⟩, ca⟩ := DatV.reads I da x v h1 rx
  obtain ⟨⟨bs, rb⟩, cb⟩ := DatV.reads I db y u h2 ry
  exact SeqAt.compareNe_reads ra rb ca cb (by have := hr.units; lia) ⟨.bl _, H, I, rfl, q⟩
end

/-! ### lists of ints, of signs -/
theorem datVs_ints {K : PySem.W.Frag} {H : Hp} : ∀ ns : List Int, DatVs K H (ns.map PyData.int) (ns.map V.int)
  | [] => by simp [DatVs]
  | n :: ns => by
    rw [List.map_cons, List.map_cons, DatVs]
    exact ⟨_, _, rfl, by rw [DatV], datVs_ints ns⟩
theorem datV_ints {K : PySem.W.Frag} {H : Hp} {a : Addr} {ns : List Int} (h : SqL K H a (ns.map V.int)) : DatV K H (.list (ns.map PyData.int)) (.ref a) := by
  rw [DatV]; exact ⟨a, _, rfl, h, datVs_ints ns⟩
/-- a sign: a text of one code -/
abbrev sgS (c : Nat) : Str := ⟨#[c]⟩
abbrev sg (c : Nat) : V := .str (sgS c)
theorem datVs_sgs {K : PySem.W.Frag} {H : Hp} : ∀ cs : List Nat, (∀ c ∈ cs, c < 0x110000) → DatVs K H (cs.map fun c => PyData.str (sgS c)) (cs.map sg)
  | [], _ => by simp [DatVs]
  | c :: cs, h => by
    rw [List.map_cons, List.map_cons, DatVs]
    refine ⟨_, _, rfl, ?_, datVs_sgs cs fun c hc => h c (List.mem_cons_of_mem _ hc)⟩
    rw [DatV]
    exact ⟨rfl, by simp [PyData.strOk, h c List.mem_cons_self]⟩
theorem datV_sgs {K : PySem.W.Frag} {H : Hp} {a : Addr} {cs : List Nat} (h : SqL K H a (cs.map sg)) (hc : ∀ c ∈ cs, c < 0x110000) : DatV K H (.list (cs.map fun c => PyData.str (sgS c))) (.ref a) := by
  rw [DatV]; exact ⟨a, _, rfl, h, datVs_sgs cs hc⟩
theorem depthAll_ints : ∀ ns : List Int, PyData.depthAll (ns.map PyData.int) ≤ 1
  | [] => by simp [PyData.depthAll]
  | n :: ns => by
    have := depthAll_ints ns
    rw [List.map_cons, PyData.depthAll]
    simp only [PyData.depth]
    lia
theorem depthAll_sgs : ∀ cs : List Nat, PyData.depthAll (cs.map fun c => PyData.str (sgS c)) ≤ 1
  | [] => by simp [PyData.depthAll]
  | c :: cs => by
    have := depthAll_sgs cs
    rw [List.map_cons, PyData.depthAll]
    simp only [PyData.depth]
    lia
theorem depth_ints (ns : List Int) : (PyData.list (ns.map PyData.int)).depth ≤ 2 := by
  have := depthAll_ints ns
  rw [PyData.depth]; lia
theorem depth_sgs (cs : List Nat) : (PyData.list (cs.map fun c => PyData.str (sgS c))).depth ≤ 2 := by
  have := depthAll_sgs cs
  rw [PyData.depth]; lia
theorem eqvAll_ints : ∀ ns ms : List Int, PyData.eqvAll (ns.map PyData.int) (ms.map PyData.int) = decide (ns = ms)
  | [], [] => by simp [PyData.eqvAll]
  | [], _ :: _ => by simp [PyData.eqvAll]
  | _ :: _, [] => by simp [PyData.eqvAll]
  | n :: ns, m :: ms => by
    rw [List.map_cons, List.map_cons, PyData.eqvAll, eqvAll_ints ns ms]
    rw [PyData.eqv, Bool.beq_eq_decide_eq]
    simp
theorem sgS_inj {a b : Nat} : (sgS a == sgS b) = decide (a = b) := by
  by_cases h : a = b
  · subst h; simp
  · have : sgS a ≠ sgS b := fun e => h (by simpa [sgS] using e)
    simp [h, this]
theorem eqvAll_sgs : ∀ cs ds : List Nat, PyData.eqvAll (cs.map fun c => PyData.str (sgS c)) (ds.map fun c => PyData.str (sgS c)) = decide (cs = ds)
  | [], [] => by simp [PyData.eqvAll]
  | [], _ :: _ => by simp [PyData.eqvAll]
  | _ :: _, [] => by simp [PyData.eqvAll]
  | c :: cs, d :: ds => by
    rw [List.map_cons, List.map_cons, PyData.eqvAll, eqvAll_sgs cs ds, PyData.eqv, sgS_inj]
    simp
theorem eqv_ints (ns ms : List Int) : PyData.eqv (.list (ns.map PyData.int)) (.list (ms.map PyData.int)) = decide (ns = ms) := by rw [PyData.eqv, eqvAll_ints]
theorem eqv_sgs (cs ds : List Nat) : PyData.eqv (.list (cs.map fun c => PyData.str (sgS c))) (.list (ds.map fun c => PyData.str (sgS c))) = decide (cs = ds) := by rw [PyData.eqv, eqvAll_sgs]

/-- == of two lists of ints; of two lists of signs -/
def rEqI (K : PySem.W.Frag) (neg : Bool) : R2 := fun x y H Q => ∃ (a b : Addr) (ns ms : List Int), x = .ref a ∧ y = .ref b ∧ SqL K H a (ns.map V.int) ∧ SqL K H b (ms.map V.int) ∧ Q (.bl (if neg then !decide (ns = ms) else decide (ns = ms))) H
def rEqS (K : PySem.W.Frag) (neg : Bool) : R2 := fun x y H Q => ∃ (a b : Addr) (cs ds : List Nat), x = .ref a ∧ y = .ref b ∧ SqL K H a (cs.map sg) ∧ SqL K H b (ds.map sg) ∧ (∀ c ∈ cs, c < 0x110000) ∧ (∀ c ∈ ds, c < 0x110000) ∧ Q (.bl (if neg then !decide (cs = ds) else decide (cs = ds))) H
section
variable {X : Cx} {k : Nat}
theorem OpR.imp {f : Value → Value → Sem Value} {r r' : R2} (h : OpR X f r) (i : ∀ x y H Q, r' x y H Q → r x y H Q) : OpR X f r' := fun pins s σ H x y v u Q I rx ry q => h pins s σ H x y v u Q I rx ry (i _ _ _ _ q)
theorem rEqI.toD {K : PySem.W.Frag} {neg : Bool} : ∀ x y H Q, rEqI K neg x y H Q → rEqD K neg x y H Q := by
  rintro x y H Q ⟨a, b, ns, ms, rfl, rfl, h1, h2, q⟩
  refine ⟨_, _, datV_ints h1, datV_ints h2, Nat.le_trans (Nat.min_le_left _ _) (Nat.le_trans (depth_ints ns) (by decide)), ?_⟩
  rw [eqv_ints]
  exact q
theorem rEqS.toD {K : PySem.W.Frag} {neg : Bool} : ∀ x y H Q, rEqS K neg x y H Q → rEqD K neg x y H Q := by
  rintro x y H Q ⟨a, b, ns, ms, rfl, rfl, h1, h2, c1, c2, q⟩
  refine ⟨_, _, datV_sgs h1 c1, datV_sgs h2 c2, Nat.le_trans (Nat.min_le_left _ _) (Nat.le_trans (depth_sgs ns) (by decide)), ?_⟩
  rw [eqv_sgs]
  exact q
theorem op_eqLI (hr : Room k X.A) : OpR X (compareOp .Eq) (rEqI X.K false) := (op_eqD hr).imp rEqI.toD
theorem op_eqLS (hr : Room k X.A) : OpR X (compareOp .Eq) (rEqS X.K false) := (op_eqD hr).imp rEqS.toD
theorem op_neLS (hr : Room k X.A) : OpR X (compareOp .NotEq) (rEqS X.K true) := (op_neD hr).imp rEqS.toD
theorem op_le_str : OpR X (compareOp .LtE) (fun x y H Q => ∃ i j, x = .str i ∧ y = .str j ∧ Q (.bl (!decide (j.cps.toList < i.cps.toList))) H) := by
  intro pins s σ H x y v u Q I rx ry h
  obtain ⟨i, j, rfl, rfl, q⟩ := h
  obtain ⟨t, rfl⟩ := rx
  obtain ⟨t', rfl⟩ := ry
  exact PySem.P.le_str ⟨.bl _, H, I, rfl, q⟩
/-- isinstance of a value whose type is known, a built-in type -/
theorem call_isinst : CallR X (.builtin "isinstance") (fun xs H Q => ∃ x t c b, xs = [x, .ty c] ∧ TyOf X.K H x t ∧ PySem.W.kitOne X.K t (.type c) = some b ∧ Q (.bl b) H) := by
  intro pins s σ H xs us Q I r h
  obtain ⟨x, t, c, b, rfl, ty, e, q⟩ := h
  obtain ⟨u, u', rfl, rx, rc⟩ := vals2 r
  cases rc
  exact isinst_ok I rx ty e fun tk => ⟨.bl b, H, I.tok tk, rfl, q⟩
end
end L2

namespace L2
open PySem PySem.Spec PyProof.Rows
/-! ### a def of the text, by its name -/
structure Fn (P : Program) (w : World) (K : PySem.W.Frag) (mg : Str → Option Value) (base : Heap) (CX : CXT) (x : Str) (k : Nat) (ps : List Str) (sp : Sp) : Prop where
  ex : ∃ f fd, FnOk P w K mg base CX k f fd ps sp ∧ mg x = some (.ref f) ∧ PySem.W.keepIn K (.ref f) = true ∧ Binds K fd ps [] ∧ ∃ oc od osl, K.lookup f = some ⟨oc, od, .func fd, osl⟩
theorem pe_fn {X : Cx} {CX : CXT} {k j : Nat} {ps : List Str} {sp : Sp} {E : XK} {x : Str} {p pos : Pos} {e : Expr} {es : List Expr} {t : TA} (F : Fn X.prog X.w X.K X.mg X.base CX x k ps sp) (hr : Room j X.A) (hx : Passes CX X E) (ha : PA X (e :: es) t) (hg : Gl X x := by rfl) (hj : k ≤ j := by decide)
    (hdb : (x == ("__debug__" : Str)) = false := by decide) (he : starEach (e :: es) X.env = (false, eval e X.env) :: starEach es X.env := by rfl) (hpl : (backTo pos (starEach es X.env)).any (·.1) = false := by rfl) :
    PE X (.Call (.Name x p) (e :: es) [] pos) (tCall sp [] E t) := by
  obtain ⟨f, fd, F, hm, hk, hb, _⟩ := F.ex
  exact pe_call F (hr.mono hj) hg hm hk hb .nil hx ha hdb he hpl
/-- what the top has written of a def -/
structure FF (K : PySem.W.Frag) (x : Str) (st : Stmt) : Prop where
  ex : ∃ (f : Addr) (oc : Value) (od an : Option Addr) (osl : Array (Option Value)) (kV doc pm cdv ct : Value), PySem.W.nsIn K mainGlobals x = some (some (.ref f)) ∧
    K.lookup f = some ⟨oc, od, .func (PySem.W.fnOf x x (defArgs st) (defBody st) (defScope st) .none kV doc pm an cdv ct), osl⟩ ∧ PySem.W.codeIn K cdv x = true ∧ PySem.W.keepIn K (.ref f) = true
theorem ff_mk {K : PySem.W.Frag} {x : Str} {st : Stmt} {f : Addr} {oc : Value} {od an : Option Addr} {osl : Array (Option Value)} {kV doc pm cdv ct : Value} (a : PySem.W.nsIn K mainGlobals x = some (some (.ref f)))
    (l : K.lookup f = some ⟨oc, od, .func (PySem.W.fnOf x x (defArgs st) (defBody st) (defScope st) .none kV doc pm an cdv ct), osl⟩) (c : PySem.W.codeIn K cdv x = true) (k : PySem.W.keepIn K (.ref f) = true) : FF K x st := ⟨f, oc, od, an, osl, kV, doc, pm, cdv, ct, a, l, c, k⟩
/-- the facts of the module that a def wants -/
structure Md (K : PySem.W.Frag) (mg : Str → Option Value) : Prop where
  ns : ∀ x v, PySem.W.nsIn K mainGlobals x = some v → mg x = v
theorem md_of {K : PySem.W.Frag} {h : Heap} {mg : Str → Option Value} (X : K.In h) (G : h.Ns mainGlobals mg) : Md K mg := ⟨fun x v e => by
  cases v with
  | none => exact PySem.W.mg_none_of X G e
  | some u => exact PySem.W.mg_of X G e⟩
/-- THE RULE for a def of the text: no exception leaves it -/
theorem fn_ok {P : Program} {w : World} {K : PySem.W.Frag} {mg : Str → Option Value} {base : Heap} {x : Str} {st : Stmt} {N ps : List Str} {k : Nat} {sp : Sp} (M : Md K mg) (F : FF K x st) (S : FnScope N ps (defScope st))
    (hbind : ∀ (kV doc pm : Value) (an : Option Addr) (cdv ct : Value) (us : List Value), us.length = ps.length → bindArgs (PySem.W.fnOf x x (defArgs st) (defBody st) (defScope st) .none kV doc pm an cdv ct) ⟨us, []⟩ = pure (ps.zip us))
    (len : ∀ vs H Q E, sp vs H Q E → vs.length = ps.length)
    (hbody : ∀ (f : Addr) (cdv : Value) (A : Around) (outer : List Env) (s : Shared) (H : Hp) (vs : List V) (Q : VK) (E : XK), Room k (A.deeper (envOfC x (defScope st) s.heap.objs.size f cdv)) → sp vs H Q E →
      ∃ t, PSs (cxOf CX0 P w K mg base N x (defScope st) f cdv A outer s H E).nox (defBody st) t ∧ t { nx := fun _ H' => Q .non H', rt := Q } (start N vs) H) : Fn P w K mg base CX0 x (k + 1) ps sp := by
  obtain ⟨f, oc, od, an, osl, kV, doc, pm, cdv, ct, a, l, c, kk⟩ := F.ex
  have F1 := fun_mk (st := st) l c kk
  exact ⟨f, _, F1.ok S len (fun cdv A outer s H vs Q E hr h => hbody f cdv A outer s H vs Q E hr h), M.ns _ _ a, kk, F1.binds hbind, oc, od, osl, l⟩
/-- the built-in names that the text does not bind -/
structure Bl (mg : Str → Option Value) : Prop where
  max : mg "max" = none
  int : mg "int" = none
  len : mg "len" = none
  range : mg "range" = none
  list : mg "list" = none
  isinst : mg "isinstance" = none
  bool : mg "bool" = none
  str : mg "str" = none
  tuple : mg "tuple" = none
  rev : mg "reversed" = none
  zip : mg "zip" = none
  min : mg "min" = none
  sum : mg "sum" = none
  enumerate : mg "enumerate" = none
  dict : mg "dict" = none
theorem bl_of {K : PySem.W.Frag} {mg : Str → Option Value} (M : Md K mg) (b1 : PySem.W.nsIn K mainGlobals "max" = some none) (b2 : PySem.W.nsIn K mainGlobals "int" = some none) (b3 : PySem.W.nsIn K mainGlobals "len" = some none) (b4 : PySem.W.nsIn K mainGlobals "range" = some none) (b5 : PySem.W.nsIn K mainGlobals "list" = some none) (b6 : PySem.W.nsIn K mainGlobals "isinstance" = some none) (b7 : PySem.W.nsIn K mainGlobals "bool" = some none) (b8 : PySem.W.nsIn K mainGlobals "str" = some none) (b9 : PySem.W.nsIn K mainGlobals "tuple" = some none) (b10 : PySem.W.nsIn K mainGlobals "reversed" = some none) (b11 : PySem.W.nsIn K mainGlobals "zip" = some none) (b12 : PySem.W.nsIn K mainGlobals "min" = some none) (b13 : PySem.W.nsIn K mainGlobals "sum" = some none) (b14 : PySem.W.nsIn K mainGlobals "enumerate" = some none) (b15 : PySem.W.nsIn K mainGlobals "dict" = some none) : Bl mg :=
  ⟨M.ns _ _ b1, M.ns _ _ b2, M.ns _ _ b3, M.ns _ _ b4, M.ns _ _ b5, M.ns _ _ b6, M.ns _ _ b7, M.ns _ _ b8, M.ns _ _ b9, M.ns _ _ b10, M.ns _ _ b11, M.ns _ _ b12, M.ns _ _ b13, M.ns _ _ b14, M.ns _ _ b15⟩
/-- everything tracked but p is as it was -/
def Keep (p : Addr) (H H' : Hp) : Prop := ∀ b o, H b = some o → b ≠ p → H' b = some o
theorem Keep.trans {p : Addr} {H H1 H2 : Hp} (a : Keep p H H1) (b : Keep p H1 H2) : Keep p H H2 := fun c o h n => b c o (a c o h n) n
theorem Same.keep {p : Addr} {H H' : Hp} (a : Same H H') : Keep p H H' := fun c o h _ => a c o h
theorem Keep.upd {p : Addr} {H : Hp} {o : HO} : Keep p H (upd H p o) := fun c u h n => by rw [upd_ne n]; exact h
theorem Same.upd {H : Hp} {p : Addr} {o : HO} (h : H p = none) : Same H (upd H p o) := fun c u e => by rw [upd_ne (ne_of_none e h)]; exact e
theorem Keep.free {p : Addr} {H H' : Hp} (a : Keep p H H') {o : HO} (hp : H' p = some o) {l : Addr} (h : H' l = none) : H l = none := by
  cases q : H l with
  | none => rfl
  | some u =>
    have : l ≠ p := fun z => by subst z; rw [hp] at h; cases h
    rw [a l u q this] at h; cases h

/-! ### built-in calls in short -/
theorem bt_max : bootBuiltins "max" = some (.builtin "max") := by decide +kernel
theorem bt_min : bootBuiltins "min" = some (.builtin "min") := by decide +kernel
theorem bt_sum : bootBuiltins "sum" = some (.builtin "sum") := by decide +kernel
theorem bt_len : bootBuiltins "len" = some (.builtin "len") := by decide +kernel
theorem bt_isinst : bootBuiltins "isinstance" = some (.builtin "isinstance") := by decide +kernel
theorem bt_int : bootBuiltins "int" = some (.type "int") := by decide +kernel
theorem bt_bool : bootBuiltins "bool" = some (.type "bool") := by decide +kernel
theorem bt_str : bootBuiltins "str" = some (.type "str") := by decide +kernel
theorem bt_list : bootBuiltins "list" = some (.type "list") := by decide +kernel
theorem bt_rev : bootBuiltins "reversed" = some (.type "reversed") := by decide +kernel
section
variable {X : Cx} {e e2 : Expr} {te te2 : TE} {p p2 pos : Pos}
theorem PE.imp {t t' : TE} (h : PE X e t) (i : ∀ σ H Q, t' σ H Q → t σ H Q) : PE X e t' := fun pins s σ H Q I q => h pins s σ H Q I (i σ H Q q)
def tLenL (K : PySem.W.Frag) (te : TE) : TE := fun σ H Q => te σ H fun x H1 => ∃ a ys, x = .ref a ∧ SqL K H1 a ys ∧ Q (.int ys.length) H1
def tLenS (te : TE) : TE := fun σ H Q => te σ H fun x H1 => ∃ z, x = .str z ∧ z.length ≤ sizeLine ∧ Q (.int z.length) H1
def tMax (te te2 : TE) : TE := fun σ H Q => te σ H fun x H1 => te2 σ H1 fun y H2 => ∃ i j, x = .int i ∧ y = .int j ∧ Q (.int (if j > i then j else i)) H2
def tIntB (te : TE) : TE := fun σ H Q => te σ H fun x H1 => ∃ k, x = .bl k ∧ Q (.int (if k then 1 else 0)) H1
def tListOf (K : PySem.W.Frag) (te : TE) : TE := fun σ H Q => te σ H fun x H1 => ∃ a ys, x = .ref a ∧ SqL K H1 a ys ∧ ∀ l, H1 l = none → Q (.ref l) (upd H1 l (.lst ys))
def tIsi (K : PySem.W.Frag) (c : String) (te : TE) : TE := fun σ H Q => te σ H fun x H1 => ∃ t b, TyOf K H1 x t ∧ PySem.W.kitOne K t (.type c) = some b ∧ Q (.bl b) H1


def r1 (r : V → Hp → VK → Prop) : List V → Hp → VK → Prop := fun xs H Q => match xs with | [x] => r x H Q | _ => False
def r2' (r : V → V → Hp → VK → Prop) : List V → Hp → VK → Prop := fun xs H Q => match xs with | [x, y] => r x y H Q | _ => False
theorem callR1 {f : Value} {r : V → Hp → VK → Prop} (h : ∀ pins s σ H x us Q, Inv X pins σ H s → Vals [x] us → r x H Q → wpAny (model X.prog X.w) X.A (call f us) (EP X pins σ Q) X.xe s) : CallR X f (r1 r) := by
  intro pins s σ H xs us Q I rv q
  match xs, q with
  | [x], q => exact h pins s σ H x us Q I rv q
theorem callR2 {f : Value} {r : V → V → Hp → VK → Prop} (h : ∀ pins s σ H x y us Q, Inv X pins σ H s → Vals [x, y] us → r x y H Q → wpAny (model X.prog X.w) X.A (call f us) (EP X pins σ Q) X.xe s) : CallR X f (r2' r) := by
  intro pins s σ H xs us Q I rv q
  match xs, q with
  | [x, y], q => exact h pins s σ H x y us Q I rv q
theorem pe_lenL (hm : X.mg "len" = none) (ha : PE X e te) (hg : Gl X "len" := by rfl) (he : starEach [e] X.env = [(false, eval e X.env)] := by rfl) : PE X (.Call (.Name "len" p) [e] [] pos) (tLenL X.K te) :=
  pe_callB (r := r1 fun x H Q => ∃ a ys, x = .ref a ∧ SqL X.K H a ys ∧ Q (.int ys.length) H) (callR1 fun pins s σ H x us Q I rv ⟨a, ys, ex, h, q⟩ => call_len_seq pins s σ H _ us Q I rv ⟨a, ys, by rw [ex], .inl h, q⟩) hg hm bt_len (pa_cons ha pa_nil (by exact he)) (he := by exact he)
theorem pe_lenS (hm : X.mg "len" = none) (ha : PE X e te) (hg : Gl X "len" := by rfl) (he : starEach [e] X.env = [(false, eval e X.env)] := by rfl) : PE X (.Call (.Name "len" p) [e] [] pos) (tLenS te) :=
  pe_callB (r := r1 fun x H Q => ∃ z, x = .str z ∧ z.length ≤ sizeLine ∧ Q (.int z.length) H) (callR1 fun pins s σ H x us Q I rv ⟨z, ex, h, q⟩ => call_len_str pins s σ H _ us Q I rv ⟨z, by rw [ex], h, q⟩) hg hm bt_len (pa_cons ha pa_nil (by exact he)) (he := by exact he)
theorem pe_max (hc : X.calm = true) (hm : X.mg "max" = none) (ha : PE X e te) (hb : PE X e2 te2) (hg : Gl X "max" := by rfl) (he : starEach [e, e2] X.env = [(false, eval e X.env), (false, eval e2 X.env)] := by rfl) (he2 : starEach [e2] X.env = [(false, eval e2 X.env)] := by rfl) : PE X (.Call (.Name "max" p) [e, e2] [] pos) (tMax te te2) :=
  pe_callB (r := r2' fun x y H Q => ∃ i j, x = .int i ∧ y = .int j ∧ Q (.int (if j > i then j else i)) H) (callR2 fun pins s σ H x y us Q I rv ⟨i, j, ex, ey, q⟩ => call_max2 hc pins s σ H _ us Q I rv ⟨i, j, by rw [ex, ey], q⟩) hg hm bt_max (pa_cons ha (pa_cons hb pa_nil (by exact he2)) (by rw [he, he2])) (he := by rw [he, he2]) (hpl := by rw [he2]; rfl)
theorem pe_intB (hm : X.mg "int" = none) (ha : PE X e te) (hg : Gl X "int" := by rfl) (he : starEach [e] X.env = [(false, eval e X.env)] := by rfl) : PE X (.Call (.Name "int" p) [e] [] pos) (tIntB te) :=
  pe_callTy (r := r1 fun x H Q => ∃ k, x = .bl k ∧ Q (.int (if k then 1 else 0)) H) (callR1 fun pins s σ H x us Q I rv ⟨z, ex, q⟩ => call_int1 pins s σ H _ us Q I rv (.inr ⟨z, by rw [ex], q⟩)) hg hm bt_int (pa_cons ha pa_nil (by exact he)) (he := by exact he)
theorem pe_listOf (hm : X.mg "list" = none) (ha : PE X e te) (hg : Gl X "list" := by rfl) (he : starEach [e] X.env = [(false, eval e X.env)] := by rfl) : PE X (.Call (.Name "list" p) [e] [] pos) (tListOf X.K te) :=
  pe_callTy (r := r1 fun x H Q => ∃ a ys, x = .ref a ∧ SqL X.K H a ys ∧ ∀ l, H l = none → Q (.ref l) (upd H l (.lst ys))) (callR1 fun pins s σ H x us Q I rv ⟨a, ys, ex, h, q⟩ => call_list_of pins s σ H _ us Q I rv ⟨a, ys, by rw [ex], .inl h, q⟩) hg hm bt_list (pa_cons ha pa_nil (by exact he)) (he := by exact he)
theorem pe_isi {T : Str} {c : String} (hm : X.mg "isinstance" = none) (hT : X.mg T = none) (hb : bootBuiltins T = some (.type c)) (ha : PE X e te) (hg : Gl X "isinstance" := by rfl) (hgT : Gl X T := by rfl) (he : starEach [e, .Name T p2] X.env = [(false, eval e X.env), (false, eval (.Name T p2) X.env)] := by rfl)
    (hn : T ≠ "__name__" := by decide) (hd : (T == ("__debug__" : Str)) = false := by decide) : PE X (.Call (.Name "isinstance" p) [e, .Name T p2] [] pos) (tIsi X.K c te) :=
  pe_callB (r := r2' fun x y H Q => ∃ t b, y = .ty c ∧ TyOf X.K H x t ∧ PySem.W.kitOne X.K t (.type c) = some b ∧ Q (.bl b) H)
    (callR2 fun pins s σ H x y us Q I rv ⟨t, b, ey, ty, ek, q⟩ => call_isinst pins s σ H _ us Q I rv ⟨x, t, c, b, by rw [ey], ty, ek, q⟩) hg hm bt_isinst
    (pa_cons ha (pa_cons (pe_bltn (v := .ty c) hgT hT hb rfl hn hd) pa_nil) (by exact he)) (he := by exact he) |>.imp fun σ H Q h => by
      show te σ H fun x H1 => ∃ t b, V.ty c = .ty c ∧ _
      simp only [true_and]
      exact h
end
end L2

namespace L2
open PySem PySem.Spec PyProof.Rows
theorem sIx_pos (n d : Nat) (i : Int) (h : 0 ≤ i) : HT.sIx n d (some i) = min i.toNat n := by
  show (if i < 0 then (i + (n : Int)).toNat else min i.toNat n) = min i.toNat n
  rw [if_neg (by lia)]
theorem take_min {α : Type} (xs : List α) (k : Nat) : xs.take (min k xs.length) = xs.take k := by
  rcases Nat.le_total k xs.length with h | h
  · rw [Nat.min_eq_left h]
  · rw [Nat.min_eq_right h, List.take_length, List.take_of_length_le h]
theorem drop_min {α : Type} (xs : List α) (k : Nat) : xs.drop (min k xs.length) = xs.drop k := by
  rcases Nat.le_total k xs.length with h | h
  · rw [Nat.min_eq_left h]
  · rw [Nat.min_eq_right h, List.drop_length, List.drop_of_length_le h]
/-- a slice of a list, its bounds from 0 on -/
def cutL {α : Type} (xs : List α) (lo hi : Option Int) : List α := (xs.drop (HT.sIx xs.length 0 lo)).take (HT.sIx xs.length xs.length hi - HT.sIx xs.length 0 lo)
theorem cutL_hi {α : Type} (xs : List α) (k : Int) (h : 0 ≤ k) : cutL xs none (some k) = xs.take k.toNat := by
  unfold cutL
  rw [sIx_pos _ _ _ h, HT.sIx_none, List.drop_zero, Nat.sub_zero, take_min]
theorem cutL_lo {α : Type} (xs : List α) (k : Int) (h : 0 ≤ k) : cutL xs (some k) none = xs.drop k.toNat := by
  unfold cutL
  rw [sIx_pos _ _ _ h, HT.sIx_none, drop_min]
  exact List.take_of_length_le (by rw [List.length_drop]; lia)
theorem cutL_both {α : Type} (xs : List α) (i j : Int) (hi : 0 ≤ i) (hj : i ≤ j) : cutL xs (some i) (some j) = (xs.drop i.toNat).take (j.toNat - i.toNat) := by
  unfold cutL
  rw [sIx_pos _ _ _ hi, sIx_pos _ _ _ (Int.le_trans hi hj), drop_min]
  rcases Nat.le_total j.toNat xs.length with h | h
  · rw [Nat.min_eq_left h, Nat.min_eq_left (by lia)]
  · rw [Nat.min_eq_right h]
    rcases Nat.le_total i.toNat xs.length with h' | h'
    · rw [Nat.min_eq_left h', List.take_of_length_le (by rw [List.length_drop]; lia), List.take_of_length_le (by rw [List.length_drop]; lia)]
    · rw [List.drop_of_length_le h']; simp
theorem cutL_map {α β : Type} (f : α → β) (xs : List α) (lo hi : Option Int) : cutL (xs.map f) lo hi = (cutL xs lo hi).map f := by
  unfold cutL
  rw [List.length_map, List.map_take, List.map_drop]
theorem cutV_cutL (xs : List V) (lo hi : Option Int) : cutV xs lo hi = cutL xs lo hi := rfl
theorem atI_ex {α : Type} (xs : List α) (r : Int) (h0 : 0 ≤ r) (h1 : r < xs.length) : ∃ v, xs[r.toNat]? = some v ∧ v ∈ xs ∧ atI xs r = some v := by
  have hl : r.toNat < xs.length := by lia
  refine ⟨xs[r.toNat], by simp [hl], List.getElem_mem hl, ?_⟩
  have e : ((r.toNat : Nat) : Int) = r := by lia
  have q : atI xs ((r.toNat : Nat) : Int) = some xs[r.toNat] := atI_nat (by simp [hl])
  rw [e] at q
  exact q
theorem ixN_pos (n : Nat) (i : Int) (h0 : 0 ≤ i) (h1 : i < n) : ixN n i = some i.toNat := by
  unfold ixN
  rw [if_pos h0, if_pos h1]
theorem str_len (cs : List Nat) : (Str.length ⟨cs.toArray⟩) = cs.length := by simp [Str.length]
end L2

namespace L2
open PySem PySem.Spec PyProof.Rows
/-- reversed(list), walked -/
def Itv (K : PySem.W.Frag) (a : Addr) (xs : List V) : It :=
  ⟨fun i H => SqL K H a xs ∧ i < xs.length, fun i H x H' => H' = H ∧ xs[xs.length - 1 - i]? = some x, fun i _ => xs.length ≤ i⟩
theorem turn_rev {P : Program} {w : World} {K : PySem.W.Frag} {tg : Expr} (a it : Addr) (xs : List V) : Turn P w K tg (Itv K a xs) [it] it (fun i h => i ≤ xs.length ∧ h.IsRevIter it a ((xs.length : Int) - 1 - (i : Int))) where
  mem := by simp
  obj := fun i h st b hb => by
    have e : b = it := by simpa using hb
    subst e
    obtain ⟨o, e, c, d⟩ := st.2
    exact ⟨o, e, fun v z => by rw [d] at z; cases z⟩
  keep := fun i h h' st k => ⟨st.1, st.2.at fun o e => k it (by simp) o e⟩
  item := by
    intro X hP hw hK hc i pins s σ H E I hf st hg
    subst hP hw hK
    obtain ⟨hq, hx⟩ := hg
    obtain ⟨its, rv, p, hz⟩ := I.list hq
    have hlt : xs.length - 1 - i < xs.length := by lia
    obtain ⟨u, hu, ru⟩ := rv.get (show xs[xs.length - 1 - i]? = some xs[xs.length - 1 - i] by simp [hlt])
    obtain ⟨f0, f1, f2, f3, f4, f5⟩ := hf it (by simp)
    have e1 : (xs.length : Int) - 1 - (i : Int) = ((xs.length - 1 - i : Nat) : Int) := by lia
    have hit := st.2
    rw [e1] at hit
    refine wpAny_pyNext_rev_item hit p.isList (x := u) (by simpa using hu) fun h' st' sb => ?_
    have e2 : ((xs.length - 1 - i : Nat) : Int) - 1 = (xs.length : Int) - 1 - ((i + 1 : Nat) : Int) := by lia
    rw [e2] at st'
    have I1 : Inv X pins σ H { s with heap := h' } := I.turned (t' := s.toks) (fun b o hb e => (sb.2 b hb).trans e) f0 f1 f3 f4 f5
    obtain ⟨o, e, c, d⟩ := id st'
    exact ⟨u, rfl, go_of (s := { s with heap := h' }) e c d (by decide) ⟨_, H, I1, ru, ⟨rfl, by simp [hlt]⟩, ⟨hx, st'⟩, fun b hb => (hf b hb).1⟩⟩
  done := by
    intro X hP hw hK hc i pins s σ H E I hf st hg
    subst hP hw hK
    obtain ⟨f0, f1, f2, f3, f4, f5⟩ := hf it (by simp)
    have hg' : xs.length ≤ i := hg
    have e1 : (xs.length : Int) - 1 - (i : Int) = -1 := by have := st.1; lia
    have hit := st.2
    rw [e1] at hit
    exact wpAny_pyNext_rev_end (I.ok.hd hc) hit fun h' eb => ⟨rfl, I.turned (t' := s.toks) (fun b o hb e => eb b o hb e) f0 f1 f3 f4 f5⟩
  self := fun _ _ _ _ _ st h => wpAny_pyIter_revIter st.2 h
def iRev (K : PySem.W.Frag) (tl : TE) : TI := fun σ H R => tl σ H fun x H1 => ∃ a xs, x = .ref a ∧ SqL K H1 a xs ∧ R (Itv K a xs) H1
theorem pi_rev {X : Cx} {tg e : Expr} {te : TE} {p pos : Pos} (hm : X.mg "reversed" = none) (he : PE X e te) (hg : Gl X "reversed" := by rfl) (hs : starEach [e] X.env = [(false, eval e X.env)] := by rfl) : PI X tg (.Call (.Name "reversed" p) [e] [] pos) (iRev X.K te) := by
  intro pins s σ H R I h
  refine Call_ (ld_blt I hg hm bt_rev (PyProof.Rows.callWith_type1 (thn ((pa_cons he pa_nil (by exact hs)) pos pins s σ H (fun vs H1 => ∃ x, vs = [x] ∧ ∃ a xs, x = .ref a ∧ SqL X.K H1 a xs ∧ R (Itv X.K a xs) H1) I ?_) fun us s1 ⟨vs, H1, I1, r1, q1⟩ => ?_) hs rfl))
  · show te σ H fun x H1 => ∃ x', [x] = [x'] ∧ ∃ a xs, x' = .ref a ∧ SqL X.K H1 a xs ∧ R (Itv X.K a xs) H1
    have e : (fun (x : V) (H1 : Hp) => ∃ x', [x] = [x'] ∧ ∃ a xs, x' = V.ref a ∧ SqL X.K H1 a xs ∧ R (Itv X.K a xs) H1) = fun x H1 => ∃ a xs, x = .ref a ∧ SqL X.K H1 a xs ∧ R (Itv X.K a xs) H1 := by
      funext x H1
      apply propext
      constructor
      · rintro ⟨x', e, r⟩
        cases e
        exact r
      · intro r
        exact ⟨x, rfl, r⟩
    rw [e]
    exact h
  · obtain ⟨x, rfl, a, xs, rfl, hq, q⟩ := q1
    obtain ⟨u, rfl, ru⟩ := vals1 r1
    cases ru
    obtain ⟨its, rv, pl, hz⟩ := I1.list hq
    refine call_reversed_list pl.isList ?_
    have I2 : Inv X pins σ H1 { s1 with heap := s1.heap.push (revObj a ((its.toArray.size : Int) - 1)) } := I1.kept (t' := s1.toks) fun b o e => Heap.get?_push_of_some _ e
    have hl := rv.length
    have st : ({ s1 with heap := s1.heap.push (revObj a ((its.toArray.size : Int) - 1)) } : Shared).heap.IsRevIter s1.heap.objs.size a ((xs.length : Int) - 1 - ((0 : Nat) : Int)) := by
      refine ⟨_, Heap.get?_push_size _ rfl, rfl, ?_⟩
      have : (its.toArray.size : Int) - 1 = (xs.length : Int) - 1 - ((0 : Nat) : Int) := by simp; lia
      rw [← this]; rfl
    refine wpAny_pyIter_revIter st ?_
    refine ⟨s1.heap.objs.size, [s1.heap.objs.size], _, _, H1, rfl, I2, turn_rev a _ xs, ⟨Nat.zero_le _, st⟩, fun b hb => ?_, q⟩
    have e : b = s1.heap.objs.size := by simpa using hb
    subst e
    exact I1.fpOk (Nat.le_refl _) (I1.hok.fresh (Nat.le_refl _))
/-- a comprehension over reversed(list) -/
theorem comp_rev {K : PySem.W.Frag} {a : Addr} {xs : List V} {tc : TT} {te : TE} {σ : St} {H1 : Hp} {Q : Hp → Prop} {D : Addr} (Pv : Nat → List V → Hp → Prop) (hn : xs.length < sizeLine) (h0 : Pv 0 [] (upd H1 D (.lst [])))
    (hl : ∀ i ys H, Pv i ys H → ys.length ≤ i) (hq : ∀ i ys H, i ≤ xs.length → Pv i ys H → SqL K H a xs)
    (hs : ∀ i x ys H, xs[xs.length - 1 - i]? = some x → i < xs.length → Pv i ys H → tc (σ ++ [some x]) H fun b H2 => if b = true then te (σ ++ [some x]) H2 fun v H3 => H3 D = some (.lst ys) ∧ Pv (i + 1) (ys ++ [v]) (upd H3 D (.lst (ys ++ [v]))) else Pv (i + 1) ys H2)
    (hd : ∀ ys H, Pv xs.length ys H → Q H) :
    ∃ W : Nat → Nat → List V → Hp → Prop, (∃ m, W 0 m [] (upd H1 D (.lst []))) ∧
      ∀ i m ys H, W i m ys H → ((Itv K a xs).stop i H ∧ Q H) ∨ ((Itv K a xs).go i H ∧ ys.length < sizeLine ∧ ∃ N : List V → Hp → Prop, (∀ ys' H', N ys' H' → ∃ m', m' < m ∧ W (i + 1) m' ys' H') ∧ ∀ x H', (Itv K a xs).yld i H x H' → tc (σ ++ [some x]) H' fun b H2 =>
        if b = true then te (σ ++ [some x]) H2 fun v H3 => H3 D = some (.lst ys) ∧ N (ys ++ [v]) (upd H3 D (.lst (ys ++ [v]))) else N ys H2) := by
  refine ⟨fun i m ys H => m = xs.length - i ∧ i ≤ xs.length ∧ Pv i ys H, ⟨xs.length, by simp, Nat.zero_le _, h0⟩, ?_⟩
  rintro i m ys H ⟨rfl, hi, p⟩
  have q := hq i ys H hi p
  by_cases hlt : i < xs.length
  · refine .inr ⟨⟨q, hlt⟩, Nat.lt_of_le_of_lt (hl i ys H p) (Nat.lt_trans hlt hn), Pv (i + 1), fun ys' H' p' => ⟨xs.length - (i + 1), by lia, rfl, hlt, p'⟩, fun x H' y => ?_⟩
    obtain ⟨e, y⟩ := y
    subst e
    exact hs i x ys _ y hlt p
  · have e : i = xs.length := by lia
    subst e
    exact .inl ⟨Nat.le_refl _, hd ys H p⟩
theorem tNoIf_go {σ : St} {H : Hp} {A B : Hp → Prop} (h : A H) : tNoIf σ H fun b H2 => if b = true then A H2 else B H2 := by
  show if true = true then A H else B H
  rw [if_pos rfl]
  exact h
end L2

namespace L2
open PySem PySem.Spec PyProof.Rows
section
variable {X : Cx} {a b e : Expr} {rest : List Expr} {ta tb te : TE} {p pos : Pos}
end
/-! ### to go on at the first statement -/
def FW (J : It) (g : TG) (tb : TS) (D : Ends) (σ : St) (H1 : Hp) : Prop := ∃ W : Nat → Nat → St → Hp → Prop, (∃ m, W 0 m σ H1) ∧ ∀ i m σ H, W i m σ H →
  (J.stop i H ∧ D.nx σ H) ∨ (J.go i H ∧ ∃ N : St → Hp → Prop, (∀ σ' H', N σ' H' → ∃ m', m' < m ∧ W (i + 1) m' σ' H') ∧ ∀ x H', J.yld i H x H' → g x σ H' fun σ2 H2 => tb { D with nx := N, ct := N, bk := D.nx } σ2 H2)
theorem seq_for {wi : TI} {g : TG} {tb rest : TS} {D : Ends} {σ : St} {H : Hp} (h : wi σ H fun J H1 => FW J g tb { D with nx := rest D } σ H1) : tSeq (tFor wi g tb) rest D σ H := h
end L2

namespace L2
open PySem PySem.Spec PyProof.Rows
/-! ### // by a divisor of up to sixty figures -/
def CDivL (i j : Int) : Prop := 0 < j ∧ j < 1000000000000000000000000000000000000000000000000000000000000
theorem op_fdivL {X : Cx} : OpR X (binaryOp .FloorDiv) (rI CDivL fun i j => .int (i / j)) := opI fun i j _ _ _ _ _ hc q => by
  have hn : j.natAbs.log2 < 9000 := by
    have h0 : j.natAbs ≠ 0 := by have := hc.1; lia
    rw [Nat.log2_lt h0]
    have h1 : j.natAbs < 1000000000000000000000000000000000000000000000000000000000000 := by have := hc.1; have := hc.2; lia
    exact Nat.lt_of_lt_of_le h1 (Nat.le_trans (show 1000000000000000000000000000000000000000000000000000000000000 ≤ 2 ^ 200 by decide) (Nat.pow_le_pow_right (by decide) (by decide)))
  refine floordiv_int (by have := hc.1; lia) ?_ (.inl (PyProof.noPylong_of_log2 hn))
  rw [Int.fdiv_eq_ediv_of_nonneg _ (by have := hc.1; lia)]
  exact q
/-! ### records turned, and a new object -/
theorem Inv.turnLaid {X : Cx} {pins : List (Addr × Obj)} {σ : St} {H : Hp} {s : Shared} {h' : Heap} {t' : Nat} {ch : List Addr} {a : Addr} {o : HO} (I : Inv X pins σ H s) (hch : ∀ b ∈ ch, FpOk X pins H b)
    (k : ∀ b u, b ∉ ch → s.heap.get? b = some u → h'.get? b = some u) (hp : s.heap.objs.size ≤ a) (new : ObjOk X.prog X.w (upd H a o) h' a o) : Inv X pins σ (upd H a o) { s with heap := h', toks := t' } := by
  have hn := I.hok.fresh hp
  have nch : ∀ b u, H b = some u → b ∉ ch := fun b u e hb => by rw [(hch b hb).1] at e; cases e
  refine I.step (g' := s.gens) (d' := s.drawn) (ch := ch) (fun b hb => ?_) (fun b o _ _ hc e _ => k b o hc e) (fun b o _ _ hc e _ => ⟨o.slots, k b o hc e⟩) (fun b o hc e n => ?_) (fun b o hc e => ⟨o, k b o hc e⟩) (fun b xs e => ?_) (fun b o u e => ?_) (fun b ps e => ⟨#[], ?_⟩) (fun m hm => ?_) (fun b u e => ?_) I.bare
  · obtain ⟨f0, f1, f2, f3, f4, f5⟩ := hch b hb
    exact ⟨f3, f1, f4, f5⟩
  · rw [upd_ne (Nat.ne_of_lt (Nat.lt_of_lt_of_le (Heap.lt_size e) hp))]; exact n
  · rw [upd_ne (ne_of_none e hn)]; exact e
  · rw [upd_ne (ne_of_none e hn)]; exact e
  · rw [upd_ne (ne_of_none e hn), e]; simp
  · obtain ⟨o, es, ep, ho, r⟩ := hm
    exact ⟨o, es, ep, k _ o (fun hb => (hch _ hb).2.1 rfl) ho, r⟩
  · by_cases hb : b = a
    · subst hb; rw [upd_same] at e; cases e; exact new
    · rw [upd_ne hb] at e
      refine (I.hok b u e).stay (fun c v hc q => k c v ?_ q) (fun c q => by rw [upd_ne (ne_of_none q hn)]; exact q) fun c xs q => by rw [upd_ne (ne_of_none q hn)]; exact q
      rcases hc with z | z
      · rw [z]; exact nch b u e
      · exact nch c _ z
theorem Inv.turnMany {X : Cx} {pins : List (Addr × Obj)} {σ : St} {H : Hp} {s : Shared} {h' : Heap} {t' : Nat} {ch : List Addr} (I : Inv X pins σ H s) (hch : ∀ b ∈ ch, FpOk X pins H b)
    (k : ∀ b u, b ∉ ch → s.heap.get? b = some u → h'.get? b = some u) : Inv X pins σ H { s with heap := h', toks := t' } := by
  have nch : ∀ b u, H b = some u → b ∉ ch := fun b u e hb => by rw [(hch b hb).1] at e; cases e
  refine I.step (g' := s.gens) (d' := s.drawn) (ch := ch) (fun b hb => ?_) (fun b o _ _ hc e _ => k b o hc e) (fun b o _ _ hc e _ => ⟨o.slots, k b o hc e⟩) (fun b o hc e n => n) (fun b o hc e => ⟨o, k b o hc e⟩) (fun b xs e => e) (fun b o u e => e) (fun b ps e => ⟨#[], by rw [e]; simp⟩) (fun m hm => ?_) (fun b u e => ?_) I.bare
  · obtain ⟨f0, f1, f2, f3, f4, f5⟩ := hch b hb
    exact ⟨f3, f1, f4, f5⟩
  · obtain ⟨o, es, ep, ho, r⟩ := hm
    exact ⟨o, es, ep, k _ o (fun hb => (hch _ hb).2.1 rfl) ho, r⟩
  · refine (I.hok b u e).stay (fun c v hc q => k c v ?_ q) (fun _ q => q) fun _ _ q => q
    rcases hc with z | z
    · rw [z]; exact nch b u e
    · exact nch c _ z
/-! ### zip of two lists -/
/-! ### xs[::-1] -/
end L2

namespace L2
open PySem PySem.Spec PyProof.Rows
theorem small5000 {n : Nat} (h : n ≤ 5000) : n < sizeLine := Nat.lt_of_le_of_lt h (by decide)
section
variable {X : Cx} {e e2 : Expr} {te te2 : TE} {p p2 pos : Pos}
def tMin2 (te te2 : TE) : TE := fun σ H Q => te σ H fun x H1 => te2 σ H1 fun y H2 => ∃ i j, x = .int i ∧ y = .int j ∧ Q (.int (if j < i then j else i)) H2
theorem pe_min (hc : X.calm = true) (hm : X.mg "min" = none) (ha : PE X e te) (hb : PE X e2 te2) (hg : Gl X "min" := by rfl) (he : starEach [e, e2] X.env = [(false, eval e X.env), (false, eval e2 X.env)] := by rfl) (he2 : starEach [e2] X.env = [(false, eval e2 X.env)] := by rfl) : PE X (.Call (.Name "min" p) [e, e2] [] pos) (tMin2 te te2) :=
  pe_callB (r := r2' fun x y H Q => ∃ i j, x = .int i ∧ y = .int j ∧ Q (.int (if j < i then j else i)) H) (callR2 fun pins s σ H x y us Q I rv ⟨i, j, ex, ey, q⟩ => call_min2 hc pins s σ H _ us Q I rv ⟨i, j, by rw [ex, ey], q⟩) hg hm bt_min (pa_cons ha (pa_cons hb pa_nil (by exact he2)) (by rw [he, he2])) (he := by rw [he, he2]) (hpl := by rw [he2]; rfl)
end
end L2
namespace L2
open PySem PySem.Spec PyProof.Rows
/-! ### a row of written whole numbers -/
end L2

namespace L2
open PySem PySem.Spec PyProof.Rows
/-! ### enumerate of a list -/
def Iten (a : Addr) : It :=
  ⟨fun i H => ∃ xs, H a = some (.lst xs) ∧ i < xs.length,
   fun i H x H' => ∃ xs v p, H a = some (.lst xs) ∧ xs[i]? = some v ∧ H p = none ∧ H' = upd H p (.tup [.int (i : Int), v]) ∧ x = .ref p,
   fun i H => ∃ xs, H a = some (.lst xs) ∧ xs.length ≤ i⟩
theorem turn_enum {P : Program} {w : World} {K : PySem.W.Frag} {es : List Expr} {kk : Nat} {tp : Pos} (a e it : Addr) (hei : e ≠ it) (hae : a ≠ e) (hai : a ≠ it) :
    Turn P w K (.Tuple es kk tp) (Iten a) [e, it] e (fun i h => (∃ old, IsEnum h e it i old) ∧ h.IsListIter it a i) where
  mem := by simp
  obj := fun i h st c hc => by
    obtain ⟨⟨old, h1⟩, h2⟩ := st
    simp only [List.mem_cons, List.not_mem_nil, or_false] at hc
    rcases hc with rfl | rfl
    · exact ⟨_, h1, fun v q => by have q' : Data.fields _ = Data.cell v := q; cases q'⟩
    · obtain ⟨o, e, c, d⟩ := h2
      exact ⟨o, e, fun v q => by rw [d] at q; cases q⟩
  keep := fun i h h' st k => by
    obtain ⟨⟨old, h1⟩, h2⟩ := st
    exact ⟨⟨old, k e (by simp) _ h1⟩, h2.at fun o q => k it (by simp) o q⟩
  item := by
    intro X hP hw hK hc i pins s σ H E I hf st hg
    subst hP hw hK
    obtain ⟨⟨old, h1⟩, h2⟩ := st
    obtain ⟨xs, ha, hi⟩ := hg
    obtain ⟨_, its, n, rv, hl, e1⟩ := I.lstM ha
    obtain ⟨u, hu, ru⟩ := rv.get (show xs[i]? = some xs[i] by simp [hi])
    refine wpAny_pyNext_enum_item h1 h2 ⟨_, e1, rfl, n, rfl⟩ (x := u) (by simpa using hu) hei fun h' z1 z2 z3 z4 z5 => ⟨_, rfl, ?_⟩
    refine wpAny_letOwnedTupleGo_enum (s := { s with heap := h', toks := s.toks + 1 }) z1 fun h'' y1 sb => ?_
    have elt : e < s.heap.objs.size := Heap.lt_size h1
    have ne : s.heap.objs.size ≠ e := Nat.ne_of_gt elt
    have hnew : h''.get? s.heap.objs.size = some { cls := .type "tuple", data := .seq #[.int i s.toks, u] } := (sb.2 _ ne).trans z3
    have kk : ∀ c o, c ∉ [e, it] → s.heap.get? c = some o → h''.get? c = some o := fun c o hc q => by
      simp only [List.mem_cons, List.not_mem_nil, or_false, not_or] at hc
      exact (sb.2 c hc.1).trans (z5 c o hc.1 hc.2 q)
    have I1 : Inv X pins σ (upd H s.heap.objs.size (.tup [.int (i : Int), xs[i]])) { s with heap := h'', toks := s.toks + 1 } := I.turnLaid (t' := s.toks + 1) hf kk (Nat.le_refl _) ⟨by show 2 ≤ sizeLine; decide, [.int i s.toks, u], .cons ⟨_, rfl⟩ (.cons ru .nil), ⟨_, hnew, rfl, _, rfl⟩⟩
    refine ⟨.ref s.heap.objs.size, _, I1, rfl, ⟨xs, xs[i], s.heap.objs.size, ha, by simp [hi], I.hok.fresh (Nat.le_refl _), rfl, rfl⟩, ⟨⟨u, by simpa using y1⟩, z2.at fun o q => (sb.2 it hei.symm).trans q⟩, fun c hc => ?_⟩
    rw [upd_ne]
    · exact (hf c hc).1
    · intro q
      subst q
      obtain ⟨o, e', _⟩ : ∃ o, s.heap.get? s.heap.objs.size = some o ∧ True := by
        simp only [List.mem_cons, List.not_mem_nil, or_false] at hc
        rcases hc with q | q
        · exact absurd q ne
        · obtain ⟨o, e', _⟩ := h2; exact ⟨o, q ▸ e', trivial⟩
      exact absurd (Heap.lt_size e') (Nat.lt_irrefl _)
  done := by
    intro X hP hw hK hc i pins s σ H E I hf st hg
    subst hP hw hK
    obtain ⟨⟨old, h1⟩, h2⟩ := st
    obtain ⟨xs, ha, hend⟩ := hg
    obtain ⟨_, its, n, rv, hl, e1⟩ := I.lstM ha
    refine wpAny_pyNext_enum_end (I.ok.hd hc) h1 h2 ⟨_, e1, rfl, n, rfl⟩ ?_ fun h' k => ⟨rfl, I.turnMany (t' := s.toks) hf fun c o hc q => ?_⟩
    · rw [Array.getElem?_eq_none]; simp; lia
    · simp only [List.mem_cons, List.not_mem_nil, or_false, not_or] at hc
      exact k c o hc.2 q
  self := fun _ _ _ _ _ st h => wpAny_pyIter_enum st.1.choose_spec h
theorem bt_enum : bootBuiltins "enumerate" = some (.type "enumerate") := by decide +kernel
def iEnum (te : TE) : TI := fun σ H R => te σ H fun x H1 => ∃ a xs, x = .ref a ∧ H1 a = some (.lst xs) ∧ R (Iten a) H1
theorem pi_enum {X : Cx} {es : List Expr} {kk : Nat} {tp : Pos} {e : Expr} {te : TE} {p pos : Pos} (hm : X.mg "enumerate" = none) (he : PE X e te) (hg : Gl X "enumerate" := by rfl)
    (hs : starEach [e] X.env = [(false, eval e X.env)] := by rfl) : PI X (.Tuple es kk tp) (.Call (.Name "enumerate" p) [e] [] pos) (iEnum te) := by
  intro pins s σ H R I h
  refine Call_ (ld_blt I hg hm bt_enum (PyProof.Rows.callWith_type1 (thn ((pa_cons he pa_nil (by exact hs)) pos pins s σ H (fun vs H2 => match vs with | [x] => ∃ a xs, x = .ref a ∧ H2 a = some (.lst xs) ∧ R (Iten a) H2 | _ => False) I h) fun us s1 ⟨vs, H1, I1, r1, q1⟩ => ?_) (by rw [hs]; rfl) (by rfl)))
  match vs, q1 with
  | [x], q1 =>
    obtain ⟨a, xs, rfl, ha, q⟩ := q1
    obtain ⟨u, rfl, ru⟩ := r1.one
    cases ru
    obtain ⟨_, its, n, rv, hl, e1⟩ := I1.lstM ha
    refine call_enumerate_list ⟨_, e1, rfl, n, rfl⟩ fun h' z1 z2 z3 z4 => ?_
    have I2 : Inv X pins σ H1 { s1 with heap := h' } := I1.kept (t' := s1.toks) z4
    refine wpAny_pyIter_enum (s := { s1 with heap := h' }) z1 ?_
    have alt : a < s1.heap.objs.size := Heap.lt_size e1
    refine ⟨_, _, _, Iten a, H1, rfl, I2, turn_enum a _ _ (Nat.ne_of_gt (Nat.lt_succ_self _)) (Nat.ne_of_lt (Nat.lt_succ_of_lt alt)) (Nat.ne_of_lt alt), ⟨⟨_, z1⟩, z2⟩, fun c hc => ?_, q⟩
    have hge : s1.heap.objs.size ≤ c := by
      simp only [List.mem_cons, List.not_mem_nil, or_false] at hc
      rcases hc with q | q <;> (subst q; first | exact Nat.le_add_right _ _ | exact Nat.le_refl _)
    exact I1.fpOk hge (I1.hok.fresh hge)
theorem for_enum {a : Addr} {xs : List V} {g : TG} {tb : TS} {D : Ends} {σ : St} {H : Hp} (Pv : Nat → St → Hp → Prop) (h0 : Pv 0 σ H) (hl : ∀ i σ H, i ≤ xs.length → Pv i σ H → H a = some (.lst xs))
    (hs : ∀ i v p σ H, xs[i]? = some v → H p = none → Pv i σ H → g (.ref p) σ (upd H p (.tup [.int (i : Int), v])) fun σ2 H2 => tb { D with nx := Pv (i + 1), ct := Pv (i + 1), bk := D.nx } σ2 H2) (hd : ∀ σ H, Pv xs.length σ H → D.nx σ H) :
    ∃ W : Nat → Nat → St → Hp → Prop, (∃ m, W 0 m σ H) ∧ ∀ i m σ H, W i m σ H →
      ((Iten a).stop i H ∧ D.nx σ H) ∨ ((Iten a).go i H ∧ ∃ N : St → Hp → Prop, (∀ σ' H', N σ' H' → ∃ m', m' < m ∧ W (i + 1) m' σ' H') ∧ ∀ x H', (Iten a).yld i H x H' → g x σ H' fun σ2 H2 => tb { D with nx := N, ct := N, bk := D.nx } σ2 H2) := by
  refine ⟨fun i m σ H => m = xs.length - i ∧ i ≤ xs.length ∧ Pv i σ H, ⟨xs.length, by simp, Nat.zero_le _, h0⟩, ?_⟩
  rintro i m σ H ⟨rfl, hi, p⟩
  have qa := hl i σ H hi p
  by_cases hlt : i < xs.length
  · refine .inr ⟨⟨xs, qa, hlt⟩, Pv (i + 1), fun σ' H' p' => ⟨xs.length - (i + 1), by lia, rfl, hlt, p'⟩, fun x H' y => ?_⟩
    obtain ⟨xs', v, q, ea, ev, hq, e1, e2⟩ := y
    rw [qa] at ea
    have e3 : xs = xs' := HO.lst.inj (Option.some.inj ea)
    subst e3 e1 e2
    exact hs i v q σ H ev hq p
  · have e : i = xs.length := by lia
    subst e
    exact .inl ⟨⟨xs, qa, Nat.le_refl _⟩, hd σ H p⟩
end L2

namespace L2
open PySem PySem.Spec PyProof.Rows
/-! ### sum of a list of small numbers -/
theorem preSum_take {ns : List Int} : ∀ j, j ≤ ns.length → preSum (fun i => ns.getD i 0) j = (ns.take j).sum
  | 0, _ => by simp [preSum]
  | j + 1, h => by
    rw [show preSum (fun i => ns.getD i 0) (j + 1) = preSum (fun i => ns.getD i 0) j + ns.getD j 0 from rfl, preSum_take j (by lia), List.take_succ]
    have : ns[j]? = some (ns.getD j 0) := by
      rw [List.getD_eq_getElem?_getD]
      cases q : ns[j]? with
      | none => rw [List.getElem?_eq_none_iff] at q; lia
      | some v => rfl
    rw [this, List.sum_append]; simp
section
variable {X : Cx}
variable {e : Expr} {te : TE} {p pos : Pos}
end
end L2

namespace L2
open PySem PySem.Spec PyProof.Rows
/-! ### list of a text -/
theorem vals_of_get : ∀ {xs : List V} {us : List Value}, xs.length = us.length → (∀ (i : Nat) (x : V) (u : Value), xs[i]? = some x → us[i]? = some u → RelV x u) → Vals xs us
  | [], [], _, _ => .nil
  | [], _ :: _, h, _ => by simp at h
  | _ :: _, [], h, _ => by simp at h
  | x :: xs, u :: us, h, g => .cons (g 0 x u rfl rfl) (vals_of_get (by simpa using h) fun i x' u' a b => g (i + 1) x' u' (by simpa using a) (by simpa using b))
section
variable {X : Cx} {e : Expr} {te : TE} {p pos : Pos}
theorem call_listS (hc : X.calm = true) : CallR X (.type "list") (fun xs H Q => ∃ z : Str, xs = [.str z] ∧ z.length ≤ sizeLine ∧ ∀ l, H l = none → Q (.ref l) (upd H l (.lst (z.cps.toList.map sg)))) := by
  intro pins s σ H xs us Q I r h
  obtain ⟨z, rfl, hz, q⟩ := h
  obtain ⟨u, rfl, rx⟩ := vals1 r
  obtain ⟨t, rfl⟩ := rx
  refine call_list_str (hn := hz) (I.ok.hd hc) z t fun h' tk acc c k hl hit => ?_
  refine ⟨.ref _, _, I.laid (t' := tk) (o := .lst (z.cps.toList.map sg)) k (Nat.le_refl _) ?_, rfl, q _ (I.hok.fresh (Nat.le_refl _))⟩
  obtain ⟨hsz, hat⟩ := hit
  refine ⟨by rw [List.length_map]; simpa [Str.length] using hz, acc.toList, c, ?_, by simpa using hl⟩
  refine vals_of_get (by rw [List.length_map]; simp [hsz]) fun i x u hx hu => ?_
  have hu' : acc[i]? = some u := by simpa using hu
  obtain ⟨c', t', h1, rfl⟩ := hat i u hu'
  rw [List.getElem?_map] at hx
  have : z.cps.toList[i]? = some c' := by simpa using h1
  rw [this] at hx
  have e : sg c' = x := Option.some.inj hx
  subst e
  exact ⟨t', rfl⟩
def tListS (te : TE) : TE := fun σ H Q => te σ H fun x H1 => ∃ z : Str, x = .str z ∧ z.length ≤ sizeLine ∧ ∀ l, H1 l = none → Q (.ref l) (upd H1 l (.lst (z.cps.toList.map sg)))
theorem pe_listS (hc : X.calm = true) (hm : X.mg "list" = none) (ha : PE X e te) (hg : Gl X "list" := by rfl) (he : starEach [e] X.env = [(false, eval e X.env)] := by rfl) : PE X (.Call (.Name "list" p) [e] [] pos) (tListS te) :=
  pe_callTy (r := r1 fun x H Q => ∃ z : Str, x = .str z ∧ z.length ≤ sizeLine ∧ ∀ l, H l = none → Q (.ref l) (upd H l (.lst (z.cps.toList.map sg)))) (callR1 fun pins s σ H x us Q I rv ⟨z, ex, h, q⟩ => call_listS hc pins s σ H _ us Q I rv ⟨z, by rw [ex], h, q⟩) hg hm bt_list (pa_cons ha pa_nil (by exact he)) (he := by exact he)
end
end L2

namespace L2
open PySem PySem.Spec PyProof.Rows
/-! ### a comprehension with several names -/
/-- what is asked of a comprehension's block: sc its names, outer the names around it, M the outer names that it may see (others hidden), x its own -/
def compOK2 (outer sc : Scope) (xs : List Str) (M N : List Str) : Bool :=
  decide (sc.kind = .function) && sc.names.all (fun y => decide (y.2 ≠ .cell)) && sc.names.all (fun y => decide (y.2 = .local → sc.names.lookup y.1 = some .local)) && xs.all (fun x => decide (sc.names.lookup x = some .local)) &&
  sc.names.all (fun y => decide (y.2 = .free → (outer.names.lookup y.1 = some .cell ∨ outer.names.lookup y.1 = some .free))) &&
  decide ((M ++ xs).Nodup) && decide (M.length = N.length) && (M.zip N).all (fun p => decide (p.1 = p.2 ∨ sc.names.lookup p.1 = none)) && M.all (fun y => decide (sc.names.lookup y ≠ some .local))

structure CompOK2 (outer sc : Scope) (xs : List Str) (M N : List Str) : Prop where
  kind : sc.kind = .function
  nocell : ∀ y ∈ sc.names, y.2 ≠ .cell
  loc : ∀ y ∈ sc.names, y.2 = .local → sc.names.lookup y.1 = some .local
  own : ∀ x ∈ xs, sc.names.lookup x = some .local
  free : ∀ y ∈ sc.names, y.2 = .free → (outer.names.lookup y.1 = some .cell ∨ outer.names.lookup y.1 = some .free)
  nd : (M ++ xs).Nodup
  len : M.length = N.length
  same : ∀ p ∈ M.zip N, p.1 = p.2 ∨ sc.names.lookup p.1 = none
  noloc : ∀ y ∈ M, sc.names.lookup y ≠ some .local
theorem compOK2_of {outer sc : Scope} {xs M N : List Str} (h : compOK2 outer sc xs M N = true) : CompOK2 outer sc xs M N := by
  unfold compOK2 at h
  simp only [Bool.and_eq_true, decide_eq_true_eq, List.all_eq_true] at h
  obtain ⟨⟨⟨⟨⟨⟨⟨⟨h1, h2⟩, h3⟩, h4⟩, h5⟩, h6⟩, h7⟩, h8⟩, h9⟩ := h
  exact ⟨h1, h2, h3, h4, h5, h6, h7, h8, h9⟩

section
variable {X : Cx} {pins : List (Addr × Obj)} {σ : St} {H2 : Hp} {s2 : Shared} {scope : Scope} {xs M : List Str} {cl : List (Str × Addr)} {fp : List Addr} {h1 : Heap} {t' : Nat}

/-- the block's entry -/
theorem Inv.comp2 (I : Inv X pins σ H2 s2) (K : CompOK2 X.env.scope scope xs M X.N) (hcl : ∀ y c, cl.lookup y = some c → X.env.cells.lookup y = some c) (hcf : ∀ y, (y, NameKind.free) ∈ scope.names → ∃ c, cl.lookup y = some c)
    (hfp : ∀ b ∈ fp, FpOk X pins H2 b) (hlt : ∀ b ∈ fp, b < s2.heap.objs.size) (kp : ∀ b o, s2.heap.get? b = some o → h1.get? b = some o) (hD : h1.get? s2.heap.objs.size = some { cls := .type "list", dict := none, data := .seq ([] : List Value).toArray })
    (hC : h1.Ns (s2.heap.objs.size + 1) (fun _ => none)) :
    Inv (X.comp (M ++ xs) scope ⟨cl, s2.heap.objs.size + 1, s2, H2, fp⟩) [] (σ ++ List.replicate xs.length none) (upd H2 s2.heap.objs.size (.lst [])) { s2 with heap := h1, toks := t' } := by
  have cellLt : ∀ y c, cl.lookup y = some c → c < s2.heap.objs.size := fun y c e => by
    obtain ⟨v, z⟩ := I.cell y c (hcl y c e)
    exact z.lt
  have kindEq : ∀ y k', (compEnvC scope cl (s2.heap.objs.size + 1) X.env).kindOf y = some k' → ∃ k, scope.names.lookup y = some k ∧ (k' = k ∨ (k = .free ∧ k' = .cell)) := fun y k' e => lookup_relabel e
  have freeOf : ∀ y k', (compEnvC scope cl (s2.heap.objs.size + 1) X.env).kindOf y = some k' → (k' = .cell ∨ k' = .free) → (y, NameKind.free) ∈ scope.names := fun y k' e hk => by
    obtain ⟨k, e1, e2⟩ := kindEq y k' e
    have mem := PySem.mem_of_lookup e1
    have : k = .free := by
      rcases e2 with rfl | ⟨rfl, _⟩
      · rcases hk with rfl | rfl
        · exact absurd rfl (K.nocell _ mem)
        · rfl
      · rfl
    subst this
    exact mem
  have hDn : H2 s2.heap.objs.size = none := I.hok.fresh (Nat.le_refl _)
  refine ⟨⟨I.ok.mod, K.kind, I.ok.glob, I.ok.blt, Nat.le_succ _, fun y z c e1 e2 => I.ok.inj y z c (hcl y c e1) (hcl z c e2), fun y hy => ?_, fun y c hf _ => ?_, I.ok.hd, I.ok.frames, .inl rfl, fun b hb => ⟨Nat.ne_of_lt (Nat.lt_succ_of_lt (hlt b hb)), fun y c e => (hfp b hb).2.2.2.2.1 y c (hcl y c e)⟩,
    fun b o e => I.bs b o e, Nat.le_trans I.ok.bsz I.sz, fun b o e hb => ?_, fun b hb hf => ?_, I.stack, I.stkFree⟩, rfl, I.bare, Un.laid kp (Nat.le_refl _) hDn, ⟨_, hC, fun i y v e1 e2 e3 => ?_⟩, fun y c e => ?_, ?_, fun y c e => ?_, fun p hp => absurd (show p ∈ ([] : List (Addr × Obj)) from hp) (by simp), I.hok.laid kp (Nat.le_refl _) ?_, ?_⟩
  · rcases hy with hy | hy
    · exact hcf y (freeOf y _ hy (.inl rfl))
    · exact hcf y (freeOf y _ hy (.inr rfl))
  · exact absurd (show false = true from hf) Bool.false_ne_true
  · obtain ⟨f0, f1, f2, f3, f4, f5⟩ := hfp b hb
    rcases f3 with z | z
    · exact I.ok.noex b o e z
    · exact absurd (Nat.lt_of_lt_of_le (Heap.lt_size (I.ok.bs b o e).1) z) (Nat.lt_irrefl _)
  · obtain ⟨f0, f1, f2, f3, f4, f5⟩ := hfp b hb
    rcases List.mem_cons.mp (I.stkSub b hf) with z | z
    · exact f1 z
    · exact f2 z
  · -- names
    have hi : i < σ.length := by
      by_cases hi : i < σ.length
      · exact hi
      · have hz : (σ ++ List.replicate xs.length none)[i]? = some (some v) := e2
        rw [List.getElem?_append_right (by lia)] at hz
        rw [List.getElem?_replicate] at hz
        split at hz <;> cases hz
    have e2' : σ[i]? = some (some v) := by
      have hz : (σ ++ List.replicate xs.length none)[i]? = some (some v) := e2
      rw [List.getElem?_append_left hi] at hz
      exact hz
    have hiM : i < M.length := by rw [K.len, ← I.len]; exact hi
    have e1' : M[i]? = some y := by
      have hz : (M ++ xs)[i]? = some y := e1
      rw [List.getElem?_append_left hiM] at hz
      exact hz
    have hyM : y ∈ M := List.mem_of_getElem? e1'
    have e3' : ∃ k', (compEnvC scope cl (s2.heap.objs.size + 1) X.env).kindOf y = some k' ∧ (k' = .cell ∨ k' = .free) := by
      rcases e3 with z | z | z
      · obtain ⟨k, a, b⟩ := kindEq y _ z
        rcases b with b | ⟨_, b⟩
        · subst b; exact absurd a (K.noloc y hyM)
        · cases b
      · exact ⟨_, z, .inl rfl⟩
      · exact ⟨_, z, .inr rfl⟩
    obtain ⟨k', ek, hk⟩ := e3'
    have mem := freeOf y k' ek hk
    obtain ⟨k0, a0, _⟩ := kindEq y k' ek
    have hiN : i < X.N.length := by rw [← K.len]; exact hiM
    have eN : X.N[i]? = some y := by
      have hz : (M[i], X.N[i]) ∈ M.zip X.N := by
        rw [List.mem_iff_getElem?]
        exact ⟨i, List.getElem?_zip_eq_some.mpr ⟨List.getElem?_eq_getElem hiM, List.getElem?_eq_getElem hiN⟩⟩
      have eM : M[i] = y := by
        rw [List.getElem?_eq_getElem hiM] at e1'
        exact Option.some.inj e1'
      rcases K.same _ hz with q | q
      · rw [List.getElem?_eq_getElem hiN]
        have q' : M[i] = X.N[i] := q
        rw [← q', eM]
      · have q' : scope.names.lookup M[i] = none := q
        rw [eM, a0] at q'
        cases q'
    have hv := K.free _ mem rfl
    obtain ⟨m, hn, hl⟩ := I.loc
    obtain ⟨u, r, l⟩ := hl i y v eN e2' (hv.elim (fun z => .inr (.inl z)) (fun z => .inr (.inr z)))
    refine ⟨u, r, .inr ⟨?_, ?_⟩⟩
    · rcases hk with rfl | rfl
      · exact .inl ek
      · exact .inr ek
    · obtain ⟨c, ec⟩ := hcf y mem
      refine ⟨c, ec, ?_⟩
      rcases l with ⟨z, _⟩ | ⟨_, c', ec', cc⟩
      · have z' : X.env.scope.names.lookup y = some .local := z
        rcases hv with q | q <;> (rw [z'] at q; cases q)
      · have := (hcl y c ec).symm.trans ec'
        cases this
        obtain ⟨o, ho, hd⟩ := cc
        exact ⟨o, kp _ o ho, hd⟩
  · obtain ⟨v, o, ho, hd⟩ := I.cell y c (hcl y c e)
    exact ⟨v, o, kp _ o ho, hd⟩
  · show upd H2 s2.heap.objs.size (.lst []) (s2.heap.objs.size + 1) = none
    rw [upd_ne (Nat.succ_ne_self _)]
    exact I.hok.fresh (Nat.le_succ _)
  · rw [upd_ne (Nat.ne_of_lt (cellLt y c e))]
    exact I.freeC y c (hcl y c e)
  · exact ⟨Nat.zero_le _, [], _, .nil, hD⟩
  · show (σ ++ List.replicate xs.length none).length = (M ++ xs).length
    simp [I.len, K.len]
end
/-- [elt for (x, y) in iter if ..] -/
def tComp2 (k : Nat) (wi : TI) (g : CB → TG) (tc : CB → TT) (te : CB → TE) : TE := fun σ H Q => wi σ H fun J H1 => ∀ D, H1 D = none → ∀ b : CB, ∃ W : Nat → Nat → List V → Hp → Prop, (∃ m, W 0 m [] (upd H1 D (.lst []))) ∧
  ∀ i m ys H, W i m ys H → (J.stop i H ∧ Q (.ref D) H) ∨ (J.go i H ∧ ys.length < sizeLine ∧ ∃ N : List V → Hp → Prop, (∀ ys' H', N ys' H' → ∃ m', m' < m ∧ W (i + 1) m' ys' H') ∧ ∀ x H', J.yld i H x H' → g b x (σ ++ List.replicate k none) H' fun σ2 H2 => (∀ j, j < σ.length → σ2[j]? = σ[j]?) ∧ tc b σ2 H2 fun ok H3 =>
    if ok = true then te b σ2 H3 fun v H4 => H4 D = some (.lst ys) ∧ N (ys ++ [v]) (upd H4 D (.lst (ys ++ [v]))) else N ys H3)
theorem comp_core2 {X : Cx} {iter elt tg : Expr} {ifs : List Expr} (xs : List Str) {pos pos0 : Pos} {scope : Scope} (M : List Str) {wi : TI} {tc : CB → TT} {te : CB → TE} {g : CB → TG} {use : Option (Value → Sem Unit)} {R : Value → Shared → Prop}
    {pins : List (Addr × Obj)} {s : Shared} {σ : St} {H : Hp} {Q : VK} (I : Inv X pins σ H s) (h : tComp2 xs.length wi g tc te σ H Q)
    (hfin : ∀ (D C : Addr) (m : Str → Option Value) (s' : Shared) (H' : Hp), s'.heap.Ns C m → FpOk X pins H' C → (∀ h', Heap.SameBut C s'.heap h' → Inv X pins σ H' { s' with heap := h' }) → Q (.ref D) H' → compPost (model X.prog X.w) X.A X.xe use R (.ref D) C (.ok .next) s')
    (hc : X.calm = true) (hi : PI X tg iter wi) (hg : ∀ b : CB, PG (X.comp (M ++ xs) scope b) tg (g b))
    (hif : ∀ b : CB, PIfs (X.comp (M ++ xs) scope b) ifs (tc b)) (he : ∀ b : CB, PE (X.comp (M ++ xs) scope b) elt (te b))
    (ok : compOK2 X.env.scope scope xs M X.N = true := by kernel_rfl)
    (hs : ∀ x, foldedSetIterable iter X.env x = pure x := by intro _; rfl) :
    wpAny (model X.prog X.w) X.A (comprehension (.ListComp elt [⟨tg, iter, ifs, 0⟩] scope pos) scope X.env pos0 (newList []) false (eval iter X.env) use) R X.xe s := by
  have K := compOK2_of ok
  obtain ⟨cl, hclos, hcl, hcf⟩ := closure_ok (env := X.env) (scope := scope) fun y hy hk => I.ok.has y.1 (K.free y hy hk)
  refine wpAny_comprehension_free (use := use) rfl hs hclos K.kind K.loc ?_
  refine thn (hi pins s σ H _ I h) fun v s1 h1 => thn h1 fun itv s2 h2 => ?_
  obtain ⟨it, fp, tn, J, H2, rfl, I2, T, st2, f2, hq⟩ := h2
  refine wpAny_newObj_type (wpAny_newFunctionEnv K.nocell (by intro y hy; simp at hy) (fun h₁ hns₁ hsb₁ => ?_) K.kind)
  dsimp only at hns₁ hsb₁ ⊢
  have hsize : (s2.heap.push { cls := .type "list", dict := none, data := .seq ([] : List Value).toArray }).objs.size = s2.heap.objs.size + 1 := Heap.size_push ..
  rw [hsize] at hns₁ hsb₁
  have ltD : s2.heap.objs.size ≠ s2.heap.objs.size + 1 := Nat.ne_of_lt (Nat.lt_succ_self _)
  have kp : ∀ b o, s2.heap.get? b = some o → h₁.get? b = some o := fun b o e => hsb₁.extBut b o (Nat.ne_of_lt (Nat.lt_succ_of_lt (Heap.lt_size e))) (Heap.get?_push_of_some _ (Heap.get?_push_of_some _ e))
  have hD : h₁.get? s2.heap.objs.size = some { cls := .type "list", dict := none, data := .seq ([] : List Value).toArray } := hsb₁.extBut _ _ ltD (Heap.get?_push_of_some _ (Heap.get?_push_size _ rfl))
  have hlt : ∀ b ∈ fp, b < s2.heap.objs.size := fun b hb => let ⟨o, e, _⟩ := T.obj _ _ st2 b hb; Heap.lt_size e
  have I3 := I2.comp2 (t' := s2.toks + ([] : List (Str × Value)).length) K hcl hcf f2 hlt kp hD hns₁
  obtain ⟨W, ⟨m0, w0⟩, step⟩ := hq s2.heap.objs.size (I2.hok.fresh (Nat.le_refl _)) ⟨cl, s2.heap.objs.size + 1, s2, H2, fp⟩
  have st3 : tn 0 h₁ := T.keep _ _ _ st2 fun b _ o e => kp b o e
  have fr3 : ∀ b ∈ fp, (upd H2 s2.heap.objs.size (.lst [])) b = none := fun b hb => by rw [upd_ne (Nat.ne_of_lt (hlt b hb))]; exact (f2 b hb).1
  -- what the block's end gives
  have fin : ∀ (s' : Shared) (σ' : St) (H' : Hp), Inv (X.comp (M ++ xs) scope ⟨cl, s2.heap.objs.size + 1, s2, H2, fp⟩) [] σ' H' s' → Q (.ref s2.heap.objs.size) H' →
      compPost (model X.prog X.w) X.A X.xe use R (.ref s2.heap.objs.size) (s2.heap.objs.size + 1) (.ok .next) s' := fun s' σ' H' J' q => by
    obtain ⟨m, hn, _⟩ := id J'.loc
    have hC : H' (s2.heap.objs.size + 1) = none := J'.free
    refine hfin _ _ m s' H' hn (I2.fpOk (Nat.le_succ _) hC) (fun h' sb => ?_) q
    exact I2.call' (ch := fp) (show s'.os = s2.os from J'.os) (SameBut.unC J'.base sb (Nat.le_succ _)) (SameBut.hokC J'.hok sb hC) J'.bare fun b hb => by
      obtain ⟨f0, f1, f2', f3, f4, f5⟩ := f2 b hb
      exact ⟨f3, f1, f4, f5⟩
  have stat : ∀ {H' : Hp}, (∀ b ∈ fp, H' b = none) → ∀ b ∈ fp, FpOk (X.comp (M ++ xs) scope ⟨cl, s2.heap.objs.size + 1, s2, H2, fp⟩) [] H' b := fun hn b hb => by
    obtain ⟨f0, f1, f2', f3, f4, f5⟩ := f2 b hb
    refine ⟨hn b hb, Nat.ne_of_lt (Nat.lt_succ_of_lt (hlt b hb)), fun z => ?_, .inl hb, fun y c e => f4 y c (hcl y c e), fun p hp => absurd (show p ∈ ([] : List (Addr × Obj)) from hp) (by simp)⟩
    rcases List.mem_cons.mp (I2.stkSub b z) with z | z
    · exact f1 z
    · exact f2' z
  have len3 : σ.length = M.length := by rw [I.len, K.len]
  have loop : codeAny (model X.prog X.w) X.A (.compLoop (.ListComp elt [⟨tg, iter, ifs, 0⟩] scope pos) 0 (.ref it) (.ref s2.heap.objs.size) (compEnvC scope cl (s2.heap.objs.size + 1) X.env))
      (compPost (model X.prog X.w) X.A X.xe use R (.ref s2.heap.objs.size) (s2.heap.objs.size + 1)) { s2 with heap := h₁, toks := s2.toks + ([] : List (Str × Value)).length } := by
    refine comp_loop (fun n s' => ∃ i ys H', Inv (X.comp (M ++ xs) scope ⟨cl, s2.heap.objs.size + 1, s2, H2, fp⟩) [] (σ ++ List.replicate xs.length none) H' s' ∧ tn i s'.heap ∧ (∀ b ∈ fp, H' b = none) ∧ W i n ys H') ?_ m0 ⟨0, [], _, I3, st3, fr3, w0⟩
    rintro n s4 ⟨i, ys, H4, I4, st4, fr4, w4⟩
    rcases step i n ys H4 w4 with ⟨stop, q⟩ | ⟨go, hz, N, hN, st⟩
    · refine wpAny_mono (T.done (X.comp (M ++ xs) scope ⟨cl, s2.heap.objs.size + 1, s2, H2, fp⟩) rfl rfl rfl hc i [] s4 _ H4 (fun _ _ => False) I4 (stat fr4) st4 stop) (fun r s5 ⟨hr, I5⟩ => ?_) fun _ _ z => z
      subst hr
      exact fin s5 _ H4 I5 q
    · refine wpAny_mono (T.item (X.comp (M ++ xs) scope ⟨cl, s2.heap.objs.size + 1, s2, H2, fp⟩) rfl rfl rfl hc i [] s4 _ H4 (fun _ _ => False) I4 (stat fr4) st4 go) (fun r s5 ⟨u, hr, h5⟩ => ?_) fun _ _ z => z
      subst hr
      refine wpAny_mono h5 (fun _ s6 ⟨xv, H6, I6, r6, y6, st6, fr6⟩ => ?_) fun _ _ z => z
      have I6' := I6.pinned (stat fr6) (T.obj _ _ st6)
      refine wpAny_mono (hg ⟨cl, s2.heap.objs.size + 1, s2, H2, fp⟩ _ s6 _ H6 xv u _ I6' r6 (st xv _ y6)) (fun _ s7 ⟨σ7, H7, I7, ag, q7⟩ => ?_) fun _ _ z => z
      have again : ∀ {ys' : List V} {H8 : Hp} {s8 : Shared} {m : Nat}, Inv (X.comp (M ++ xs) scope ⟨cl, s2.heap.objs.size + 1, s2, H2, fp⟩) ([] ++ pinsAt fp s6.heap) σ7 H8 s8 → m < n → W (i + 1) m ys' H8 →
          ∃ m, m < n ∧ ∃ i ys H', Inv (X.comp (M ++ xs) scope ⟨cl, s2.heap.objs.size + 1, s2, H2, fp⟩) [] (σ ++ List.replicate xs.length none) H' s8 ∧ tn i s8.heap ∧ (∀ b ∈ fp, H' b = none) ∧ W i m ys H' := fun {ys' H8 s8 m} I8 hm w8 => by
        refine ⟨m, hm, i + 1, ys', H8, (I8.unpinned).weak (by rw [List.length_append, List.length_replicate, I8.len]; show _ = (M ++ xs).length; rw [List.length_append, len3]) (fun j v e => ?_), T.keep _ _ _ st6 fun b hb o e => (I8.pin (b, o) (List.mem_append_right _ (List.mem_append_right _ (mem_pinsAt hb e)))).1, fun b hb => ?_, w8⟩
        · by_cases hj : j < σ.length
          · rw [List.getElem?_append_left hj] at e
            rw [ag j hj]; exact e
          · rw [List.getElem?_append_right (by lia), List.getElem?_replicate] at e
            split at e <;> cases e
        · obtain ⟨o, e, d⟩ := T.obj _ _ st6 b hb
          exact (I8.pin (b, o) (List.mem_append_right _ (List.mem_append_right _ (mem_pinsAt hb e)))).2.1
      refine wpAny_mono (hif ⟨cl, s2.heap.objs.size + 1, s2, H2, fp⟩ _ s7 _ _ _ I7 q7) (fun ok s8 ⟨H8, I8, q8⟩ => ?_) fun _ _ z => z
      cases ok with
      | false =>
        rw [if_neg Bool.false_ne_true] at q8
        obtain ⟨m, hm, w8⟩ := hN _ _ q8
        exact again I8 hm w8
      | true =>
        rw [if_pos rfl] at q8
        refine wpAny_mono (he ⟨cl, s2.heap.objs.size + 1, s2, H2, fp⟩ _ s8 _ H8 _ I8 q8) (fun xu s9 ⟨v9, H9, I9, r9, hD9, n9⟩ => ?_) fun _ _ z => z
        obtain ⟨m, hm, w9⟩ := hN _ _ n9
        exact wpAny_mono (append_call (X := X.comp (M ++ xs) scope ⟨cl, s2.heap.objs.size + 1, s2, H2, fp⟩) I9 hD9 hz r9) (fun _ s10 I10 => again I10 hm w9) fun _ _ z => z
  rw [hsize]
  exact codeAny_compStart_list loop (T.self X.A 0 _ _ _ st3 loop)


theorem pe_comp2 {X : Cx} {iter elt tg : Expr} {ifs : List Expr} (xs : List Str) {pos : Pos} {scope : Scope} (M : List Str) {wi : TI} {tc : CB → TT} {te : CB → TE} {g : CB → TG}
    (hc : X.calm = true) (hi : PI X tg iter wi) (hg : ∀ b : CB, PG (X.comp (M ++ xs) scope b) tg (g b))
    (hif : ∀ b : CB, PIfs (X.comp (M ++ xs) scope b) ifs (tc b)) (he : ∀ b : CB, PE (X.comp (M ++ xs) scope b) elt (te b))
    (ok : compOK2 X.env.scope scope xs M X.N = true := by kernel_rfl)
    (hs : ∀ x, foldedSetIterable iter X.env x = pure x := by intro _; rfl) :
    PE X (.ListComp elt [⟨tg, iter, ifs, 0⟩] scope pos) (tComp2 xs.length wi g tc te) := by
  intro pins s σ H Q I h
  rw [eval_ListComp]
  exact comp_core2 xs M (use := none) (R := EP X pins σ Q) I h (fun D C m s' H' hn _ hI q => ⟨m, hn, fun h' sb => ⟨.ref D, H', hI h' sb, rfl, q⟩⟩) hc hi hg hif he ok hs
/-! ### isinstance with a row of built-in classes -/
inductive TyB (H : Hp) : V → Value → Prop where
  | non : TyB H .non (.type "NoneType")
  | bl (x : Bool) : TyB H (.bl x) (.type "bool")
  | int (i : Int) : TyB H (.int i) (.type "int")
  | str (x : Str) : TyB H (.str x) (.type "str")
  | lst {a : Addr} {xs : List V} (e : H a = some (.lst xs)) : TyB H (.ref a) (.type "list")
  | tup {a : Addr} {xs : List V} (e : H a = some (.tup xs)) : TyB H (.ref a) (.type "tuple")
section
variable {X : Cx} {e : Expr} {te : TE} {p pos : Pos}
end
/-! ### the walk of a comprehension over zip -/
end L2

namespace L2
open PySem PySem.Spec PyProof.Rows
/-! ### exceptions: how one lies behind a call -/
section
variable {X : Cx} {pins : List (Addr × Obj)} {σ : St} {H1 : Hp} {s1 : Shared}
end
/-! ### own classes under ValueError, raised -/
abbrev mroV : List Value := [.type "ValueError", .type "Exception", .type "BaseException", .type "object"]
/-- what the top has written of such a class -/
structure Exc (K : PySem.W.Frag) (mg : Str → Option Value) (x : Str) (C : Addr) : Prop where
  bound : mg x = some (.ref C)
  isIn : PySem.W.excIn K C mroV "ValueError.__new__" = true
end L2

namespace L2
open PySem PySem.Spec PyProof.Rows
/-! ### try .. except C as n: the tried body, what is caught, the suite -/
section
variable {X : Cx} {pins : List (Addr × Obj)} {σ σ0 : St} {H H1 : Hp} {s s1 : Shared} {E0 : XK}
end
/-- what is wanted behind the suite, where the name goes -/
def Ends.drop (D : Ends) (i : Nat) : Ends := ⟨fun σ H => D.nx (σ.set i none) H, D.rt, fun σ H => D.bk (σ.set i none) H, fun σ H => D.ct (σ.set i none) H⟩
end L2

namespace PySem.W
open PySem PySem.Spec PySem.Calls PyProof.Rows Builtin Builtin.ObjectAttr Builtin.Getset_descriptor
section
variable {prog : Program} {w : World} {A : Around} {E : Value → Shared → Prop} {K : Frag} {h : Heap} {g : Array GenState} {d : Drawn} {t : Nat} {os : OsState} {a D : Addr} {o : Obj} {R : Result → Shared → Prop}
/-- what the top must say of an own class of exceptions, for isinstance -/
def excKit (K : Frag) (D : Addr) : Bool := (clsIn K D).isSome && mroIn K D (.type "object") == some true && mroIn K D (.type "BaseException") == some true && findIn K (.ref D) "__getattribute__" == some (some (.builtin "BaseException.__getattribute__"))
  && findIn K (.ref D) "__getattr__" == some none && findIn K (.ref D) "__class__" == some (some (.builtin "object.__class__"))
end
end PySem.W

namespace L2
open PySem PySem.Spec PyProof.Rows
/-! ### isinstance of a caught thing; count and index of truths; lists of texts as data -/
section
variable {X : Cx} {e e2 : Expr} {te te2 : TE} {p p2 pos : Pos}
end
/-! ### all own classes of exceptions of a text -/
structure ExF (K : PySem.W.Frag) (CE D : Addr) (Cs : List Addr) : Prop where
  exm : PySem.W.exmOne K (.ref D) (.ref CE) = some true
  kit : PySem.W.excKit K D = true
  isIn : PySem.W.excIn K D mroV "ValueError.__new__" = true
  val : PySem.W.kitOne K (.ref D) (.type "ValueError") = some true
  one : ∀ C ∈ Cs, PySem.W.kitOne K (.ref D) (.ref C) = some (D == C)
/-! ### count and index of truths -/
section
variable {X : Cx}
end
/-! ### lists of texts as data -/
end L2
namespace L2
open PySem PySem.Spec PyProof.Rows
section
variable {X : Cx}
end
end L2

namespace PySem.W
open PySem PySem.Spec PySem.Calls PyProof.Rows
/-! ### enumerate(xs, start=1) -/
section
variable {prog : Program} {w : World} {A : Around} {E : Value → Shared → Prop} {s : Shared}
end
end PySem.W
namespace L2
open PySem PySem.Spec PyProof.Rows
/-! ### max of a list, index of a number -/
section
variable {X : Cx} {e : Expr} {te : TE} {p pos : Pos}
theorem ints_are : ∀ {ns : List Int} {its : List Value}, Vals (ns.map V.int) its → IntsAre its ns
  | [], _, h => by cases h; exact .nil
  | n :: ns, _, h => by
    cases h with
    | cons r t => obtain ⟨u, rfl⟩ := r; exact .cons n u (ints_are t)
def tMaxL (te : TE) : TE := fun σ H Q => te σ H fun x H1 => ∃ (l : Addr) (ns : List Int), x = .ref l ∧ H1 l = some (.lst (ns.map V.int)) ∧ ns ≠ [] ∧ ∀ m, m ∈ ns → (∀ a, a ∈ ns → a ≤ m) → Q (.int m) H1
theorem pe_maxL (hc : X.calm = true) (hm : X.mg "max" = none) (ha : PE X e te) (hg : Gl X "max" := by rfl) (he : starEach [e] X.env = [(false, eval e X.env)] := by rfl) : PE X (.Call (.Name "max" p) [e] [] pos) (tMaxL te) :=
  pe_callB (r := r1 fun x H Q => ∃ (l : Addr) (ns : List Int), x = .ref l ∧ H l = some (.lst (ns.map V.int)) ∧ ns ≠ [] ∧ ∀ m, m ∈ ns → (∀ a, a ∈ ns → a ≤ m) → Q (.int m) H)
    (callR1 fun pins s σ H x us Q I rv ⟨l, ns, ex, hH, hne, q⟩ => by
      subst ex
      obtain ⟨u, rfl, ru⟩ := rv.one
      cases ru
      obtain ⟨z, its, n, r, hl, e1⟩ := I.lstM hH
      have hi := ints_are r
      have hL : s.heap.IsList l its.toArray := ⟨_, e1, rfl, n, rfl⟩
      obtain ⟨xs, ex⟩ := hi.allInts.items
      have hns : ns = xs.toList.map (·.1) := by rw [← hi.numsOf, ← nums_intItems, ← ex]
      have hsz : 0 < xs.size := by
        cases ns with
        | nil => exact absurd rfl hne
        | cons _ _ =>
          have := congrArg List.length hns
          simp at this; lia
      rw [ex] at hL
      refine max_intList (I.ok.hd hc) hL hsz fun v h' tk hv hk => ?_
      obtain ⟨t, rfl⟩ := intItems_at hv
      obtain ⟨h1, h2⟩ := argBest_gt (numAt xs) (xs.size - 1)
      refine ⟨.int _, H, I.kept (t' := tk) hk, ⟨_, rfl⟩, q _ ?_ fun a ha => ?_⟩
      · rw [hns, numAt_eq]; exact getD_mem (by rw [List.length_map, Array.length_toList]; lia)
      · rw [hns] at ha
        obtain ⟨j, hj, rfl⟩ := mem_getD ha
        rw [List.length_map, Array.length_toList] at hj
        rw [← numAt_eq]; exact h2 j (by lia)) hg hm bt_max (pa_cons ha pa_nil (by exact he)) (he := by exact he)
end
end L2

namespace L2
open PySem PySem.Spec PyProof.Rows
/-! ### products of large numbers; any of a list of truths -/
section
variable {X : Cx} {e : Expr} {te : TE} {p pos : Pos}
end
end L2

namespace L2
open PySem PySem.Spec PyProof.Rows

/-! ### lists of pairs as tables -/
section
variable {κ : Type} [DecidableEq κ]
def valV (kvs : List (κ × V)) (k : κ) : Option V := (kvs.find? fun kv => decide (kv.1 = k)).map (·.2)
/-- in its place, or at the end -/
def putK (kvs : List (κ × V)) (k : κ) (v : V) : List (κ × V) :=
  if (kvs.any fun kv => decide (kv.1 = k)) = true then kvs.map (fun kv => if kv.1 = k then (kv.1, v) else kv) else kvs ++ [(k, v)]

theorem valV_pos {p : κ × V} {r : List (κ × V)} {k : κ} (e : p.1 = k) : valV (p :: r) k = some p.2 := by simp [valV, List.find?_cons, e]
theorem valV_neg {p : κ × V} {r : List (κ × V)} {k : κ} (e : ¬ p.1 = k) : valV (p :: r) k = valV r k := by simp [valV, List.find?_cons, e]
theorem valV_any (k : κ) : ∀ kvs : List (κ × V), (kvs.any fun kv => decide (kv.1 = k)) = (valV kvs k).isSome
  | [] => rfl
  | p :: r => by
    rw [List.any_cons]
    by_cases e : p.1 = k
    · simp only [valV_pos e, decide_eq_true e, Bool.true_or, Option.isSome_some]
    · rw [valV_neg e, decide_eq_false e, Bool.false_or]; exact valV_any k r
theorem length_putK (kvs : List (κ × V)) (k : κ) (v : V) : (putK kvs k v).length ≤ kvs.length + 1 := by
  unfold putK
  split
  · rw [List.length_map]; lia
  · rw [List.length_append, List.length_cons, List.length_nil]; lia

theorem RelO.isSome_eq {o : Option V} {u : Option Value} (r : RelO o u) : o.isSome = u.isSome := by
  cases o with
  | none => cases u with
    | none => rfl
    | some _ => exact (show False from r).elim
  | some _ => cases u with
    | none => exact (show False from r).elim
    | some _ => rfl

/-- raw tables of the same keys -/
theorem KV.val {kvs : List (κ × V)} {vs : List (κ × Value)} (r : KV kvs vs) (k : κ) : RelO (valV kvs k) (valueAt vs k) := by
  unfold KV at r
  induction r with
  | nil => exact True.intro
  | @cons p q ps qs h t ih =>
    obtain ⟨h1, h2⟩ := h
    by_cases e : p.1 = k
    · have e' : q.1 = k := h1.symm.trans e
      have b : valueAt (q :: qs) k = some q.2 := by simp [valueAt, List.find?_cons, e']
      rw [valV_pos e, b]; exact h2
    · have e' : ¬ q.1 = k := fun z => e (h1.trans z)
      have b : valueAt (q :: qs) k = valueAt qs k := by simp [valueAt, List.find?_cons, e']
      rw [valV_neg e, b]; exact ih
theorem KV.any {kvs : List (κ × V)} {vs : List (κ × Value)} (r : KV kvs vs) (k : κ) : (kvs.any fun kv => decide (kv.1 = k)) = vs.any fun kv => decide (kv.1 = k) := by
  unfold KV at r
  induction r with
  | nil => rfl
  | cons h t ih => rw [List.any_cons, List.any_cons, ih, h.1]
theorem KV.repl {kvs : List (κ × V)} {vs : List (κ × Value)} (r : KV kvs vs) (k : κ) {y : V} {u : Value} (ry : RelV y u) :
    KV (kvs.map fun kv => if kv.1 = k then (kv.1, y) else kv) (vs.map fun kv => if kv.1 = k then (kv.1, u) else kv) := by
  unfold KV at r ⊢
  induction r with
  | nil => exact .nil
  | @cons p q ps qs h t ih =>
    rw [List.map_cons, List.map_cons]
    refine .cons ?_ ih
    obtain ⟨h1, h2⟩ := h
    by_cases e : p.1 = k
    · rw [if_pos e, if_pos (h1.symm.trans e)]; exact ⟨h1, ry⟩
    · rw [if_neg e, if_neg (fun z => e (h1.trans z))]; exact ⟨h1, h2⟩
theorem KV.put {kvs : List (κ × V)} {vs : List (κ × Value)} (r : KV kvs vs) (k : κ) {y : V} {u : Value} (ry : RelV y u) : KV (putK kvs k y) (stored vs k u) := by
  unfold putK stored
  rw [r.any k]
  by_cases e : (vs.any fun kv => decide (kv.1 = k)) = true
  · rw [if_pos e, if_pos e]; exact r.repl k ry
  · rw [if_neg e, if_neg e]; exact Paired.snoc r ⟨rfl, ry⟩
theorem KV.length {kvs : List (κ × V)} {vs : List (κ × Value)} (r : KV kvs vs) : kvs.length = vs.length := Paired.length r
end


/-! ### a tracked dict, its keys ints and texts or tuples of these -/
theorem kV_is {P : Program} {w : World} {k : Key} {u : Value} (r : RelV (kV k) u) : (mixKind P w).is k u = true := by
  cases k with
  | inl i => obtain ⟨t, e⟩ := (show ∃ t, u = Value.int i t from r); subst e; exact mixKind_int P w i t
  | inr x => obtain ⟨t, e⟩ := (show ∃ t, u = Value.str x t from r); subst e; exact mixKind_str P w x t
theorem items_are {P : Program} {w : World} : ∀ {ks : List Key} {us : List Value}, Vals (ks.map kV) us → ItemsAre (mixKind P w) ks us
  | [], _, r => by rw [List.map_nil] at r; cases r; exact .nil
  | k :: ks, _, r => by
    rw [List.map_cons] at r
    cases r with
    | cons h t => exact .cons (kV_is h) (items_are t)

/-- raw entries of a dict with tuple keys -/
abbrev KT (H : Hp) : List (List Key × V) → List (List Key × Addr × Value) → Prop := Paired fun p q => p.1 = q.1 ∧ H q.2.1 = some (.tup (p.1.map kV)) ∧ RelV p.2 q.2.2
theorem KT.val {H : Hp} {kvs : List (List Key × V)} {xs : List (List Key × Addr × Value)} (r : KT H kvs xs) (k : List Key) : RelO (valV kvs k) ((atKey xs k).map (·.2)) := by
  induction r with
  | nil => exact True.intro
  | @cons p q ps qs h t ih =>
    obtain ⟨h1, _, h2⟩ := h
    by_cases e : p.1 = k
    · have e' : q.1 = k := h1.symm.trans e
      have b : atKey (q :: qs) k = some q.2 := by simp [atKey, List.find?_cons, e']
      rw [valV_pos e, b]; exact h2
    · have e' : ¬ q.1 = k := fun z => e (h1.trans z)
      have b : atKey (q :: qs) k = atKey qs k := by simp [atKey, List.find?_cons, e']
      rw [valV_neg e, b]; exact ih
theorem KT.repl {H : Hp} {kvs : List (List Key × V)} {xs : List (List Key × Addr × Value)} (r : KT H kvs xs) (k : List Key) {y : V} {u : Value} (ry : RelV y u) :
    KT H (kvs.map fun kv => if kv.1 = k then (kv.1, y) else kv) (xs.map (putAt k u)) := by
  induction r with
  | nil => exact .nil
  | @cons p q ps qs h t ih =>
    rw [List.map_cons, List.map_cons]
    refine .cons ?_ ih
    obtain ⟨h1, h2, h3⟩ := h
    unfold putAt
    by_cases e : p.1 = k
    · rw [if_pos e, if_pos (h1.symm.trans e)]; exact ⟨h1, h2, ry⟩
    · rw [if_neg e, if_neg (fun z => e (h1.trans z))]; exact ⟨h1, h2, h3⟩
theorem KT.put {H : Hp} {kvs : List (List Key × V)} {xs : List (List Key × Addr × Value)} (r : KT H kvs xs) (k : List Key) {b : Addr} {y : V} {u : Value} (hb : H b = some (.tup (k.map kV))) (ry : RelV y u) :
    KT H (putK kvs k y) (storedH xs k b u) := by
  have e : (kvs.any fun kv => decide (kv.1 = k)) = (atKey xs k).isSome := by
    rw [valV_any, (r.val k).isSome_eq, Option.isSome_map]
  unfold putK storedH
  rw [e]
  by_cases q : (atKey xs k).isSome = true
  · rw [if_pos q, if_pos q]; exact r.repl k ry
  · rw [if_neg q, if_neg q]; exact Paired.snoc r ⟨rfl, hb, ry⟩
theorem KT.keeps {H H' : Hp} {kvs : List (List Key × V)} {xs : List (List Key × Addr × Value)} (r : KT H kvs xs) (ht : ∀ b ys, H b = some (.tup ys) → H' b = some (.tup ys)) : KT H' kvs xs :=
  Paired.mapP r fun _ _ z => ⟨z.1, ht _ _ z.2.1, z.2.2⟩

section
variable {P : Program} {w : World} {H : Hp} {h : Heap} {a : Addr}
theorem rd_of {u : HO} (ok : HOk P w H h) (e : Rd H a u) : ObjOk P w H h a u := e.ok ok
theorem dk_rd {kvs : List (Key × V)} (ok : HOk P w H h) (e : Rd H a (.dK kvs)) : kvs.length ≤ sizeLine ∧ (a == sysModules) = false ∧ ∃ vs, KV kvs vs ∧ h.DictOf (mixKind P w) a vs :=
  show ObjOk P w H h a (.dK kvs) from rd_of ok e
theorem dk_of {kvs : List (Key × V)} (ok : HOk P w H h) (e : H a = some (.dK kvs)) : kvs.length ≤ sizeLine ∧ (a == sysModules) = false ∧ ∃ vs, KV kvs vs ∧ h.DictOf (mixKind P w) a vs := dk_rd ok (.inl e)
/-- a tracked tuple of ints and texts is a key -/
theorem key_of {ks : List Key} (ok : HOk P w H h) (e : H a = some (.tup (ks.map kV))) : (tupleKind (mixKind P w)).is h ks a := by
  obtain ⟨_, its, r, o, h1, h2, n, h3⟩ := (show ObjOk P w H h a (.tup (ks.map kV)) from ok a _ e)
  exact ⟨o, its.toArray, n, h1, h2, h3, by simpa using items_are r⟩
theorem dt_rd {kvs : List (List Key × V)} (ok : HOk P w H h) (e : Rd H a (.dT kvs)) : kvs.length ≤ sizeLine ∧ (a == sysModules) = false ∧
    ∃ xs, KT H kvs xs ∧ h.DictOfH (tupleKind (mixKind P w)) a xs := by
  obtain ⟨z, y, xs, r, o, es, ep, h1, h2, h3, h4, h5⟩ := (show ObjOk P w H h a (.dT kvs) from rd_of ok e)
  refine ⟨z, y, xs, r, o, es, ep, h1, h2, h3, h4, fun x hx => ?_, h5⟩
  have all : ∀ {l : List (List Key × V)} {m : List (List Key × Addr × Value)}, KT H l m → ∀ x ∈ m, (tupleKind (mixKind P w)).is h x.1 x.2.1 := by
    intro l m q
    induction q with
    | nil => intro x hx; exact nomatch hx
    | @cons p q ps qs hq t ih =>
      intro x hx
      rcases List.mem_cons.mp hx with e | hx
      · subst e
        exact key_of ok (by rw [← hq.1]; exact hq.2.1)
      · exact ih x hx
  exact all r x hx
theorem dt_of {kvs : List (List Key × V)} (ok : HOk P w H h) (e : H a = some (.dT kvs)) : kvs.length ≤ sizeLine ∧ (a == sysModules) = false ∧
    ∃ xs, KT H kvs xs ∧ h.DictOfH (tupleKind (mixKind P w)) a xs := dt_rd ok (.inl e)
end

/-- what the dict at a holds at the key y -/
def DGet (H : Hp) (a : Addr) (y : V) (r : Option V) : Prop :=
  (∃ kvs k, Rd H a (.dK kvs) ∧ y = kV k ∧ r = valV kvs k) ∨ ∃ kvs k b, Rd H a (.dT kvs) ∧ y = .ref b ∧ H b = some (.tup (k.map kV)) ∧ r = valV kvs k
/-- the heap behind a[y] = v -/
def DPut (H : Hp) (a : Addr) (y v : V) (H' : Hp) : Prop :=
  (∃ kvs k, H a = some (.dK kvs) ∧ y = kV k ∧ kvs.length < sizeLine ∧ H' = upd H a (.dK (putK kvs k v))) ∨
  ∃ kvs k b, H a = some (.dT kvs) ∧ y = .ref b ∧ H b = some (.tup (k.map kV)) ∧ kvs.length < sizeLine ∧ H' = upd H a (.dT (putK kvs k v))
theorem DGet.t {H : Hp} {a b : Addr} {kvs : List (List Key × V)} {k : List Key} (e : H a = some (.dT kvs)) (eb : H b = some (.tup (k.map kV))) : DGet H a (.ref b) (valV kvs k) := .inr ⟨kvs, k, b, .inl e, rfl, eb, rfl⟩
theorem DPut.t {H : Hp} {a b : Addr} {kvs : List (List Key × V)} {k : List Key} {v : V} (e : H a = some (.dT kvs)) (eb : H b = some (.tup (k.map kV))) (hl : kvs.length < sizeLine) :
    DPut H a (.ref b) v (upd H a (.dT (putK kvs k v))) := .inr ⟨kvs, k, b, e, rfl, eb, hl, rfl⟩


section
variable {X : Cx} {pins : List (Addr × Obj)} {σ : St} {H : Hp} {s : Shared} {a : Addr} {y v : V} {u r : Value} {o : Option V} {A : Around} {E : Value → Shared → Prop}

theorem Inv.big (I : Inv X pins σ H s) : sysModules < s.heap.objs.size := by
  have h : mainGlobals < s.heap.objs.size := (I.mod.glob.keeps I.bk).lt
  exact Nat.lt_trans (by decide) h

/-- d[y], there -/
theorem d_getItem {Q : Value → Shared → Prop} (hu : A.units + 1 < cLine) (I : Inv X pins σ H s) (g : DGet H a y (some v)) (ry : RelV y u) (h : ∀ w' s', Inv X pins σ H s' → RelV v w' → Q w' s') :
    wpAny (model X.prog X.w) A (getItem (.ref a) u) Q E s := by
  rcases g with ⟨kvs, k, e, ey, l⟩ | ⟨kvs, k, b, e, ey, eb, l⟩
  · subst ey
    obtain ⟨z, hd, vs, rel, dd⟩ := dk_rd I.hok e
    obtain ⟨w', hw, rw'⟩ := RelO.some_of (v := v) (o := valueAt vs k) (by rw [l]; exact rel.val k)
    exact wpAny_getItem_of (kV_is ry) dd.mapOf hw (h w' _ (I.tok _) rw')
  · subst ey
    cases (show u = Value.ref b from ry)
    obtain ⟨z, hd, xs, rel, dd⟩ := dt_rd I.hok e
    obtain ⟨w', hw, rw'⟩ := RelO.some_of (v := v) (o := (atKey xs k).map (·.2)) (by rw [l]; exact rel.val k)
    obtain ⟨p, hp, hp2⟩ := Option.map_eq_some_iff.mp hw
    refine wpAny_getItem_heap (tupleKind_room_in1 hu) (key_of I.hok eb) dd hp ?_
    rw [hp2]
    exact h w' _ (I.tok _) rw'
theorem d_notIn {Q : Value → Shared → Prop} (hu : A.units + 1 < cLine) (I : Inv X pins σ H s) (g : DGet H a y o) (ry : RelV y u) (h : ∀ s', Inv X pins σ H s' → Q (.bool (!o.isSome)) s') :
    wpAny (model X.prog X.w) A (compareOp .NotIn u (.ref a)) Q E s := by
  rcases g with ⟨kvs, k, e, ey, l⟩ | ⟨kvs, k, b, e, ey, eb, l⟩
  · subst ey
    obtain ⟨z, hd, vs, rel, dd⟩ := dk_rd I.hok e
    refine wpAny_notIn_of (kV_is ry) hd dd.mapOf ?_
    rw [← (rel.val k).isSome_eq, ← l]
    exact h _ (I.tok _)
  · subst ey
    cases (show u = Value.ref b from ry)
    obtain ⟨z, hd, xs, rel, dd⟩ := dt_rd I.hok e
    refine wpAny_notIn_heap (tupleKind_room_in1 hu) (key_of I.hok eb) hd dd ?_
    have q := (rel.val k).isSome_eq
    rw [Option.isSome_map] at q
    rw [← q, ← l]
    exact h _ (I.tok _)
/-- a dict's object is replaced -/
theorem d_write {h' : Heap} {t' : Nat} {ob : HO} (I : Inv X pins σ H s) (mu : Mut (H a)) (hs : Heap.SameBut a s.heap h') (he : ∃ q, h'.get? a = some q) (new : ObjOk X.prog X.w (upd H a ob) h' a ob) :
    Inv X pins σ (upd H a ob) { s with heap := h', toks := t' } :=
  I.write (x := a) (e := a) mu (.inl rfl) (fun b q hb z => (hs.2 b hb).trans z) he new
theorem dk_new {P : Program} {w : World} {H' : Hp} {h' : Heap} {kvs : List (Key × V)} {vs : List (Key × Value)} (z : kvs.length ≤ sizeLine) (hd : (a == sysModules) = false) (rel : KV kvs vs) (dd : h'.DictOf (mixKind P w) a vs) :
    ObjOk P w H' h' a (.dK kvs) := ⟨z, hd, vs, rel, dd⟩
/-- d[y] = v -/
theorem d_setItem {H' : Hp} {Q : Unit → Shared → Prop} (hu : A.units + 1 < cLine) (I : Inv X pins σ H s) (g : DPut H a y v H') (ry : RelV y u) (rv : RelV v r) (h : ∀ s', Inv X pins σ H' s' → Q () s') :
    wpAny (model X.prog X.w) A (setItem (.ref a) u r) Q E s := by
  rcases g with ⟨kvs, k, e, ey, l, eH⟩ | ⟨kvs, k, b, e, ey, eb, l, eH⟩
  · subst ey eH
    obtain ⟨z, hd, vs, rel, dd⟩ := dk_of I.hok e
    have hz : vs.length ≤ sizeLine := by rw [← rel.length]; exact z
    have hl : (putK kvs k v).length ≤ sizeLine := by have := length_putK kvs k v; lia
    refine wpAny_setItem_pairs (hsz := hz) (kV_is ry) dd fun h' dd' hs => h _ ?_
    have he : ∃ q, h'.get? a = some q := let ⟨q, _, _, hq, _⟩ := dd'; ⟨q, hq⟩
    exact d_write I (by rw [e]; exact True.intro) hs he (dk_new hl hd (rel.put k rv) dd')
  · subst ey eH
    cases (show u = Value.ref b from ry)
    obtain ⟨z, hd, xs, rel, dd⟩ := dt_of I.hok e
    have hz : xs.length ≤ sizeLine := by rw [← Paired.length rel]; exact z
    have hl : (putK kvs k v).length ≤ sizeLine := by have := length_putK kvs k v; lia
    refine wpAny_setItem_heap (hsz := hz) (tupleKind_room_in1 hu) (key_of I.hok eb) dd fun h' dd' hs => h _ ?_
    obtain ⟨q, es, ep, hq, h2, h3, h4, _, h5⟩ := dd'
    refine d_write I (by rw [e]; exact True.intro) hs ⟨q, hq⟩ ⟨hl, hd, _, (rel.put k eb rv).keeps fun c ys ec => ?_, q, es, ep, hq, h2, h3, h4, h5⟩
    rw [upd_ne (ne_of ec e (fun z => nomatch z))]
    exact ec
end

section
variable {X : Cx} {pins : List (Addr × Obj)} {σ : St} {H : Hp} {s : Shared} {a : Addr} {kvs : List (Key × V)} {k : Key} {u : Value} {A : Around} {E : Value → Shared → Prop}
end


/-! ### readings and rules -/
/-- the element of a subscription, not a slice -/
def NoSl (i : Expr) : Prop := ∀ ov iv, subscripted i false ov iv = operate [ov, iv] (getItem ov iv)
theorem subD_of {prog : Program} {w : World} {A : Around} {E : Value → Shared → Prop} {s : Shared} {env : Env} {value slice : Expr} {pos : Pos} {T id : String} {Q : Value → Shared → Prop}
    (hl : typeLookup (.type T) "__getitem__" = pure (some (.builtin id))) (hs : NoSl slice)
    (h : wpAny (model prog w) A (eval value env) (fun o s₁ => wpAny (model prog w) A (eval slice env) (fun i s₂ => s₂.TypeIs o T ∧ wpAny (model prog w) A (getItem o i) Q E s₂) E s₁) E s) :
    wpAny (model prog w) A (eval (.Subscript value slice pos) env) Q E s := by
  refine Subscript_ (wpAny_mono h (fun o s₁ h₁ => wpAny_mono h₁ (fun i s₂ h₂ => ?_) fun _ _ x => x) fun _ _ x => x)
  obtain ⟨hT, h₂⟩ := h₂
  unfold subscriptTail
  refine wpAny_bind ?_
  rw [getitemInPython_of_ne hT.not_modules]
  refine wpAny_bind (wpAny_specialOf hT hl ?_)
  have fin : wpAny (model prog w) A (subscripted slice false o i) (fun r s₃ => wpAny (model prog w) A (letTemporaryGo value o r >>= fun _ => pure r) Q E s₃) E s₂ := by
    rw [hs o i]
    exact wpAny_operating (wpAny_mono h₂ (fun r s₃ h₃ => wpAny_bind (wpAny_letTemporaryGo (wpAny_pure h₃))) fun _ _ x => x)
  first
    | exact wpAny_pure (wpAny_bind fin)
    | exact wpAny_bind (wpAny_pure (wpAny_bind fin))
    | exact wpAny_bind fin

theorem dict_typeIs {X : Cx} {pins : List (Addr × Obj)} {σ : St} {H : Hp} {s : Shared} {a : Addr} {y : V} {o : Option V} (I : Inv X pins σ H s) (g : DGet H a y o) : s.TypeIs (.ref a) "dict" := by
  rcases g with ⟨kvs, k, e, _, _⟩ | ⟨kvs, k, b, e, _, _, _⟩
  · obtain ⟨_, _, vs, _, dd⟩ := dk_rd I.hok e
    exact dd.typeIs
  · obtain ⟨_, _, xs, _, dd⟩ := dt_rd I.hok e
    exact dd.typeIs

/-- d[y] -/
def tDGet (td ty : TE) : TE := fun σ H Q => td σ H fun x H1 => ty σ H1 fun y H2 => ∃ a v, x = .ref a ∧ DGet H2 a y (some v) ∧ Q v H2
/-- d[y] = v -/
def sDPut (td ty tv : TE) : TS := fun D σ H => tv σ H fun v H1 => td σ H1 fun x H2 => ty σ H2 fun y H3 => ∃ a H4, x = .ref a ∧ DPut H3 a y v H4 ∧ D.nx σ H4

section
variable {X : Cx} {o i e value : Expr} {pos pos' tpos : Pos} {td ty tv : TE}
theorem pe_dget (hu : X.A.units + 1 < cLine) (ho : PE X o td) (hi : PE X i ty) (hs : NoSl i) : PE X (.Subscript o i pos) (tDGet td ty) := by
  intro pins s σ H Q I h
  refine subD_of PySem.F.slot_dict_getitem.lookup hs (thn (ho pins s σ H _ I h) fun u s1 ⟨x, H1, I1, rx, q1⟩ => thn (hi pins s1 σ H1 _ I1 q1) fun iv s2 ⟨y, H2, I2, ry, a, v, ex, g, q2⟩ => ?_)
  subst ex
  obtain rfl : u = Value.ref a := rx
  exact ⟨dict_typeIs I2 g, d_getItem hu I2 g ry fun w' s3 I3 rw' => ⟨v, H2, I3, rw', q2⟩⟩
theorem ps_dput (hu : X.A.units + 1 < cLine) (ho : PE X o td) (hi : PE X i ty) (hv : PE X value tv) (hs : swapsWith value (some (.Subscript o i pos')) pos.line X.env = pure false) :
    PS X (.Assign [.Subscript o i pos'] value pos) (sDPut td ty tv) := by
  intro pins s σ H D I h
  refine wpAny_Assign_Subscript (thn (hv pins s σ H _ I h) fun r s1 ⟨v, H1, I1, rv, q1⟩ => thn (ho pins s1 σ H1 _ I1 q1) fun u s2 ⟨x, H2, I2, rx, q2⟩ => thn (hi pins s2 σ H2 _ I2 q2) fun iv s3 ⟨y, H3, I3, ry, a, H4, ex, g, q3⟩ => ?_) hs
  subst ex
  obtain rfl : u = Value.ref a := rx
  exact d_setItem hu I3 g ry rv fun s4 I4 => ⟨σ, H4, I4, q3⟩
end


/-! ### displays -/
theorem dt_empty {P : Program} {w : World} {H : Hp} (h : Heap) (hb : sysModules < h.objs.size) : ObjOk P w H (h.push { cls := .type "dict", data := .dict #[] }) h.objs.size (.dT []) :=
  ⟨Nat.zero_le _, beq_eq_false_iff_ne.mpr (Ne.symm (Nat.ne_of_lt hb)), [], .nil, _, #[], 0, Heap.get?_push_size _ rfl, ⟨rfl, rfl, rfl⟩, rfl, rfl, List.nodup_nil⟩
def tDNewT : TE := fun _ H Q => ∀ p, H p = none → Q (.ref p) (upd H p (.dT []))
section
variable {X : Cx} {pos : Pos}
theorem pe_dnewT : PE X (.Dict [] [] pos) tDNewT := fun pins s σ H Q I h =>
  wpAny_Dict_empty ⟨.ref s.heap.objs.size, _, I.laid (a := s.heap.objs.size) (o := .dT []) (t' := s.toks) (fun _ _ q => Heap.get?_push_of_some _ q) (Nat.le_refl _) (dt_empty s.heap I.big), rfl, h _ (I.hok.fresh (Nat.le_refl _))⟩
end




/-! ### methods -/
/-- a method call o.m(e) of a built-in, with one argument: what must be seen of the text -/
structure M1 (X : Cx) (o : Expr) (m : Str) (apos : Pos) (e : Expr) (cpos : Pos) : Prop where
  base : attributeBase o m X.env (eval o X.env) = eval o X.env
  few : ((backTo cpos (starEach [e] X.env)).all (fun x => !x.1) && (backToKw cpos (keywordEach [] X.env)).all (fun x => x.1.isSome)
    && decide (([e] : List Expr).length + ([] : List Keyword).length + (if ([] : List Keyword).isEmpty then 0 else 1) < 30)) = true
  line : (apos.endLine == cpos.line) = true
  trees : backTo cpos (starEach [e] X.env) = [(false, eval e X.env)]
structure M2 (X : Cx) (o : Expr) (m : Str) (apos : Pos) (e f : Expr) (cpos : Pos) : Prop where
  base : attributeBase o m X.env (eval o X.env) = eval o X.env
  few : ((backTo cpos (starEach [e, f] X.env)).all (fun x => !x.1) && (backToKw cpos (keywordEach [] X.env)).all (fun x => x.1.isSome)
    && decide (([e, f] : List Expr).length + ([] : List Keyword).length + (if ([] : List Keyword).isEmpty then 0 else 1) < 30)) = true
  line : (apos.endLine == cpos.line) = true
  trees : backTo cpos (starEach [e, f] X.env) = [(false, eval e X.env), (false, eval f X.env)]


section
variable {X : Cx} {pins : List (Addr × Obj)} {σ : St} {H : Hp} {s : Shared} {a : Addr} {y d : V} {u r : Value} {o : Option V} {A : Around} {E : Value → Shared → Prop}
end

section
variable {X : Cx} {o e f : Expr} {apos cpos : Pos} {td ty tx : TE}
end

/-! ### dict(d): a copy -/
section
variable {X : Cx} {pins : List (Addr × Obj)} {σ : St} {H : Hp} {s : Shared} {a : Addr} {kvs : List (Key × V)} {A : Around} {E : Value → Shared → Prop}
end


section
variable {X : Cx} {pins : List (Addr × Obj)} {σ : St} {H : Hp} {s : Shared} {a : Addr} {y : V} {u : Value} {A : Around} {E : Value → Shared → Prop}
end
end L2


namespace L2
open PySem PySem.Spec PyProof.Rows
/-! ### sum of a list of numbers of any size -/
section
variable {X : Cx}
theorem call_sumG (hc : X.calm = true) : CallR X (.builtin "sum") (fun xs H Q => ∃ (p : Addr) (ns : List Int), xs = [.ref p] ∧ H p = some (.lst (ns.map V.int)) ∧ Q (.int ns.sum) H) := by
  intro pins s σ H xs us Q I r h
  obtain ⟨p, ns, rfl, hp, q⟩ := h
  obtain ⟨u, rfl, rx⟩ := vals1 r
  cases rx
  obtain ⟨_, its, n, rv, hlen, e1⟩ := I.lstM hp
  have isl : s.heap.IsList p its.toArray := ⟨_, e1, rfl, n, rfl⟩
  have below : p < s.heap.objs.size := Heap.lt_size e1
  have hil : its.length = ns.length := by rw [← hlen, List.length_map]
  refine call_sum_walkG (wpAny_pyIter_list isl ?_)
  refine ⟨s.heap.objs.size, [s.heap.objs.size, p], [s.heap.objs.size], _, _, _, fun i => ns.getD i 0, rfl, Walks.list (by first | exact I.ok.hd hc | (show X.A.in1.handled = none; exact I.ok.hd hc)) s.heap.objs.size p (Nat.ne_of_lt below) its.toArray, ⟨⟨_, Heap.get?_push_size _ rfl, rfl, rfl⟩, isl.at fun o q => Heap.get?_push_of_some _ q⟩, ?_, ?_, ?_⟩
  · intro b hb
    rw [Heap.size_push]
    simp only [List.mem_cons, List.not_mem_nil, or_false] at hb
    rcases hb with rfl | rfl
    · exact Nat.lt_succ_self _
    · exact Nat.lt_succ_of_lt below
  · intro i v hv
    have hi : i < ns.length := by
      have := (Array.getElem?_eq_some_iff.mp hv).1
      simp at this; lia
    obtain ⟨u, hu, ru⟩ := rv.get (show (ns.map V.int)[i]? = some (.int ns[i]) by simp [hi])
    have : its[i]? = some v := by simpa using hv
    rw [hu] at this
    cases this
    obtain ⟨t, rfl⟩ := ru
    exact ⟨t, by simp [hi]⟩
  · intro h' tk t' hk
    refine ⟨.int ns.sum, H, ?_, ⟨t', ?_⟩, q⟩
    · exact I.kept (h' := h') (t' := tk) fun b o e => hk b o (by simp; exact Nat.ne_of_lt (Heap.lt_size e)) (Heap.get?_push_of_some _ e)
    · rw [show its.toArray.size = ns.length by simp [hil], preSum_take _ (Nat.le_refl _), List.take_length]
variable {e : Expr} {te : TE} {p pos : Pos}
def tSumG (te : TE) : TE := fun σ H Q => te σ H fun x H1 => ∃ (a : Addr) (ns : List Int), x = .ref a ∧ H1 a = some (.lst (ns.map V.int)) ∧ Q (.int ns.sum) H1
theorem pe_sumG (hc : X.calm = true) (hm : X.mg "sum" = none) (ha : PE X e te) (hg : Gl X "sum" := by rfl) (he : starEach [e] X.env = [(false, eval e X.env)] := by rfl) : PE X (.Call (.Name "sum" p) [e] [] pos) (tSumG te) :=
  pe_callB (r := r1 fun x H Q => ∃ (a : Addr) (ns : List Int), x = .ref a ∧ H a = some (.lst (ns.map V.int)) ∧ Q (.int ns.sum) H) (callR1 fun pins s σ H x us Q I rv ⟨a, ns, ex, h1, q⟩ => call_sumG hc pins s σ H _ us Q I rv ⟨a, ns, by rw [ex], h1, q⟩) hg hm bt_sum (pa_cons ha pa_nil (by exact he)) (he := by exact he)
end
/-! ### the walk of a comprehension over enumerate -/
/-! ### a dict of numbers by numbers -/
/-! ### name = [comprehension with several names] -/
/-! ### for over reversed(list) -/
end L2

namespace L2
open PySem PySem.Spec PyProof.Rows
/-! ### d.setdefault(k, x), keys that are tuples -/
section
variable {prog : Program} {w : World} {κ : Type} [DecidableEq κ] {knd : HeapKind prog w κ} {A : Around} {E : Value → Shared → Prop} {s : Shared}
end
section
variable {X : Cx} {pins : List (Addr × Obj)} {σ : St} {H : Hp} {s : Shared} {a c : Addr} {kvs : List (List Key × V)} {k : List Key} {v : V} {r : Value} {A : Around} {E : Value → Shared → Prop}
end
/-! ### tuple(list) -/
section
variable {X : Cx} {e : Expr} {te : TE} {p pos : Pos}
end
/-! ### a dict is held still -/
theorem Inv.still {X : Cx} {pins : List (Addr × Obj)} {σ : St} {H : Hp} {s : Shared} {a : Addr} {kvs : List (List Key × V)} (I : Inv X pins σ H s) (e : H a = some (.dT kvs)) :
    ∃ o, s.heap.get? a = some o ∧ Inv X pins σ (upd H a (.frz o (.dT kvs))) s := by
  obtain ⟨z, hd, xs, rel, o, es, ep, h1, h2, h3, h4, h5⟩ := (show ObjOk X.prog X.w H s.heap a (.dT kvs) from I.hok a _ e)
  refine ⟨o, h1, d_write (h' := s.heap) (t' := s.toks) I (by rw [e]; exact True.intro) ⟨rfl, fun _ _ => rfl⟩ ⟨o, h1⟩ ⟨h1, z, hd, xs, KT.keeps rel fun b ys eb => ?_, o, es, ep, h1, h2, h3, h4, h5⟩⟩
  rw [upd_ne (ne_of eb e (fun z => nomatch z))]
  exact eb
/-! ### for x in d.values() -/
section
variable {prog : Program} {w : World} {A : Around} {E : Value → Shared → Prop} {s : Shared} {it d : Addr} {i n ep : Nat} {od : Obj} {es : Array DictEntry}
end
theorem paired_get {α β : Type} {F : α → β → Prop} : ∀ {l₁ : List α} {l₂ : List β} {i : Nat} {x : α}, Paired F l₁ l₂ → l₁[i]? = some x → ∃ y, l₂[i]? = some y ∧ F x y
  | _, _, 0, _, .cons r _, h => ⟨_, rfl, by cases h; exact r⟩
  | _, _, i + 1, _, .cons _ t, h => by
    obtain ⟨y, e, r⟩ := paired_get (i := i) t (by simpa using h)
    exact ⟨y, by simpa using e, r⟩
/-! ### in, not in a list of data -/
/-! ### a comprehension over a tuple -/
end L2

namespace L2
open PySem PySem.Spec PyProof.Rows
/-! ### f-strings of written texts and numbers -/
section
variable {X : Cx}
end
end L2

namespace L2
open PySem PySem.Spec PyProof.Rows
/-! ### for k, x in d.items() -/
section
variable {prog : Program} {w : World} {A : Around} {E : Value → Shared → Prop} {s : Shared} {it d : Addr} {i n ep : Nat} {od : Obj} {es : Array DictEntry}
end
end L2

namespace L2
open PySem PySem.Spec PyProof.Rows
/-! ### min(xs, key=len, default=d) of a list of lists -/
section
variable {s : Shared} {prog : Program} {w : World} {A : Around} {E : Value → Shared → Prop}
end
end L2

namespace L2
open PySem PySem.Spec PyProof.Rows
/-! ### < of lists of numbers, and of pairs of a number and such a list -/
def ltL : List Int → List Int → Bool
  | [], [] => false
  | [], _ :: _ => true
  | _ :: _, [] => false
  | x :: xs, y :: ys => if x = y then ltL xs ys else decide (x < y)
theorem ltL_nil_left : ∀ ys : List Int, ltL [] ys = decide (0 < ys.length)
  | [] => rfl
  | _ :: _ => by simp [ltL]
theorem ltL_nil_right : ∀ xs : List Int, ltL xs [] = false
  | [] => rfl
  | _ :: _ => rfl
section
open SeqAt MeetsSeq MeetsSeq2 MeetsSeq3 SeqRoads2
open AutoSeq1 (wpAny_loadPart')
def LtAt (A : Around) (s : Shared) (y x : Value) (b : Bool) : Prop := ∀ (prog : Program) (w : World) (E : Value → Shared → Prop) (Q : Value → Shared → Prop), Q (.bool b) s → wpAny (model prog w) A (richCompare .Lt y x) Q E s
/-- items that are these numbers -/
def Nums (xs : List Int) (items : Array Value) : Prop := items.size = xs.length ∧ ∀ (j : Nat) (h : j < items.size), ∃ (x : Int) (t : Tok), xs[j]? = some x ∧ items[j] = .int x t
/-- a pair of a number and a list of numbers, ahead of another one -/
def ltP (a b : Int) (xs ys : List Int) : Bool := if a = b then ltL xs ys else decide (a < b)
theorem ltL_self : ∀ xs : List Int, ltL xs xs = false
  | [] => rfl
  | x :: xs => by simp only [ltL, if_true]; exact ltL_self xs
end
end L2

namespace L2
open PySem PySem.Spec PyProof.Rows
/-! ### short forms, so that the terms stay small -/
theorem us1 {C : List Value → Prop} (h : ∀ a, C [a]) : ∀ us : List Value, us.length = 1 → C us
  | [a], _ => h a
theorem us2 {C : List Value → Prop} (h : ∀ a b, C [a, b]) : ∀ us : List Value, us.length = 2 → C us
  | [a, b], _ => h a b
theorem us3 {C : List Value → Prop} (h : ∀ a b c, C [a, b, c]) : ∀ us : List Value, us.length = 3 → C us
  | [a, b, c], _ => h a b c
theorem us4 {C : List Value → Prop} (h : ∀ a b c d, C [a, b, c, d]) : ∀ us : List Value, us.length = 4 → C us
  | [a, b, c, d], _ => h a b c d
theorem for_listA {K : PySem.W.Frag} {a : Addr} {xs : List V} {g : TG} {tb : TS} {D : Ends} {σ : St} {H : Hp} (Pv : Nat → St → Hp → Prop) (h0 : Pv 0 σ H) (hl : ∀ i σ H, i ≤ xs.length → Pv i σ H → SqL K H a xs)
    (hs : ∀ (D2 : Ends) i x σ H, (∀ σ' H', Pv (i + 1) σ' H' → D2.nx σ' H') → xs[i]? = some x → Pv i σ H → g x σ H fun σ2 H2 => tb D2 σ2 H2) (hd : ∀ σ H, Pv xs.length σ H → D.nx σ H) : FW (Itl K a) g tb D σ H :=
  for_list Pv h0 hl (fun i x σ H hx p => hs _ i x σ H (fun _ _ h => h) hx p) hd
theorem for_rangeA {lo : Int} {n : Nat} {g : TG} {tb : TS} {D : Ends} {σ : St} {H : Hp} (Pv : Nat → St → Hp → Prop) (h0 : Pv 0 σ H)
    (hs : ∀ (D2 : Ends) i σ H, (∀ σ' H', Pv (i + 1) σ' H' → D2.nx σ' H') → i < n → Pv i σ H → g (.int (lo + i)) σ H fun σ2 H2 => tb D2 σ2 H2) (hd : ∀ σ H, Pv n σ H → D.nx σ H) : FW (Itr lo n) g tb D σ H :=
  for_range Pv h0 (fun i σ H hx p => hs _ i σ H (fun _ _ h => h) hx p) hd
end L2

namespace L2
open PySem PySem.Spec PyProof.Rows
/-! ### walking a text; list(range(0, b, c)) -/
section
variable {X : Cx} {tg : Expr}
end
section
variable {X : Cx} {a b c : Expr} {ta : TA} {p p2 pos pos2 : Pos}
end
end L2

namespace L2
open PySem PySem.Spec PyProof.Rows
/-! ### min of a list of triples (number, number, number or list of numbers) -/
theorem ltL_trans : ∀ {xs ys zs : List Int}, ltL xs ys = true → ltL ys zs = true → ltL xs zs = true
  | [], [], _, h, _ => by simp [ltL] at h
  | [], _ :: _, [], _, h => by simp [ltL] at h
  | [], _ :: _, _ :: _, _, _ => (rfl : true = true)
  | _ :: _, [], _, h, _ => by simp [ltL] at h
  | _ :: _, _ :: _, [], _, h => by simp [ltL] at h
  | x :: xs, y :: ys, z :: zs, h1, h2 => by
    simp only [ltL] at h1 h2 ⊢
    by_cases e1 : x = y
    · rw [if_pos e1] at h1
      by_cases e2 : y = z
      · rw [if_pos e2] at h2
        rw [if_pos (e1.trans e2)]
        exact ltL_trans h1 h2
      · rw [if_neg e2] at h2
        rw [if_neg (by rw [e1]; exact e2), e1]
        exact h2
    · rw [if_neg e1] at h1
      have l1 := of_decide_eq_true h1
      by_cases e2 : y = z
      · rw [if_neg (by rw [← e2]; exact e1), ← e2]
        exact h1
      · rw [if_neg e2] at h2
        have l2 := of_decide_eq_true h2
        rw [if_neg (by lia)]
        exact decide_eq_true (Int.lt_trans l1 l2)
abbrev K3 := Int × Int × List Int
section
variable {s : Shared} {prog : Program} {w : World} {A : Around} {E : Value → Shared → Prop}
end
section
open SeqAt MeetsSeq MeetsSeq2 MeetsSeq3 SeqRoads2
open AutoSeq1 (wpAny_loadPart')
end
/-- a triple that stands at an address, its last part a number or a list of numbers -/
def Trip (isL : Bool) (H : Hp) (c : Addr) (k : K3) : Prop := match isL with
  | false => ∃ d : Int, k.2.2 = [d] ∧ H c = some (.tup [.int k.1, .int k.2.1, .int d])
  | true => ∃ g : Addr, H c = some (.tup [.int k.1, .int k.2.1, .ref g]) ∧ H g = some (.lst (k.2.2.map V.int))
/-- triples in a list, by their keys -/
structure Trips (isL : Bool) (H : Hp) (cs : List Addr) (ks : List K3) : Prop where
  len : cs.length = ks.length
  at_ : ∀ (i : Nat) (c : Addr) (k : K3), cs[i]? = some c → ks[i]? = some k → Trip isL H c k
section
variable {X : Cx} {e d : Expr} {te td : TE} {p pos kp : Pos} {k : Nat}
end
end L2

namespace L2
open PySem PySem.Spec PyProof.Rows
/-! ### for x in reversed(range(n)) -/
section
variable {prog : Program} {w : World} {A : Around} {E : Value → Shared → Prop} {s : Shared}
end
section
variable {X : Cx} {tg a : Expr} {ta : TA} {p p2 pos pos2 : Pos}
end
end L2

namespace L2
open PySem PySem.Spec PyProof.Rows
/-! ### in and not in a dict, as operators -/
theorem op_notInX {X : Cx} {k : Nat} (hr : Room k X.A) : OpR X (compareOp .NotIn) (fun y x H Q => ∃ a o, x = .ref a ∧ DGet H a y o ∧ Q (.bl (!o.isSome)) H) := by
  intro pins s σ H y x v u Q I ry rx h
  obtain ⟨a, o, e, g, q⟩ := h
  subst e
  obtain rfl : u = Value.ref a := rx
  exact d_notIn (hu_of hr) I g ry fun s3 I3 => ⟨.bl (!o.isSome), H, I3, rfl, q⟩
/-! ### zip of two tuples -/
section
variable {prog : Program} {w : World} {A : Around} {E : Value → Shared → Prop} {s : Shared}
end
section
variable {prog : Program} {w : World} {A : Around} {E : Value → Shared → Prop} {s : Shared}
end
end L2

namespace L2
open PySem PySem.Spec PyProof.Rows
/-! ### a def of the text called while an exception is handled -/
structure RoomH (k : Nat) (A : Around) : Prop where
  dp : A.depth + 3 * k + 5 < recursionLimit
  un : A.units + 16 * k + 200 < cLine
structure FnHOk (P : Program) (w : World) (K : PySem.W.Frag) (mg : Str → Option Value) (base : Heap) (k : Nat) (f : Addr) (fd : FuncData) (ps : List Str) (sp : Sp) : Prop where
  len : ∀ vs H Q E, sp vs H Q E → vs.length = ps.length
  run : ∀ (A : Around) (outer : List Env) (s : Shared) (H : Hp) (args : Args) (us : List Value) (vs : List V) (Q : VK), RoomH k A → Env0 P w K mg base A outer s H → BindsTo s fd args (ps.zip us) → Vals vs us → sp vs H Q E0 →
    codeAny (model P w) A (.call (.ref f) args) (CR CX0 outer P w H s Q E0) s
structure FnH (P : Program) (w : World) (K : PySem.W.Frag) (mg : Str → Option Value) (base : Heap) (x : Str) (k : Nat) (ps : List Str) (sp : Sp) : Prop where
  ex : ∃ f fd, FnHOk P w K mg base k f fd ps sp ∧ mg x = some (.ref f) ∧ PySem.W.keepIn K (.ref f) = true ∧ Binds K fd ps []
end L2

namespace L2
open PySem PySem.Spec PyProof.Rows
/-! ### all of a list of truths -/
section
variable {X : Cx} {e : Expr} {te : TE} {p pos : Pos}
end
/-! ### how often a text stands in a list of texts -/
section
variable {X : Cx}
end
/-! ### list(range(a, b)), list(range(a, b, c)) -/
section
variable {X : Cx} {a b c : Expr} {ta : TA} {p p2 pos pos2 : Pos}
end
/-! ### try .. except C, without a name -/
end L2

namespace L2
open PySem PySem.Spec PyProof.Rows
/-! ### dict of a list of pairs -/
section
variable {prog : Program} {w : World} {A : Around} {E : Value → Shared → Prop} {s : Shared}
theorem list_no_keys : typeLookup (.type "list") "keys" = pure none := am_miss_of_fast (by decide +kernel)
theorem keys_miss {a : Addr} {xs : Array Value} {n : Nat} {sl : Array (Option Value)} {Q : Option Value → Shared → Prop} (hx : s.heap.get? a = some { cls := .type "list", dict := none, data := .seq xs n, slots := sl }) (hA : A.handled = none)
    (h : ∀ h' tk, (∀ b o, s.heap.get? b = some o → h'.get? b = some o) → Q none { s with heap := h', toks := tk }) : wpAny (model prog w) A (getAttr? (.ref a) "keys") Q E s := by
  obtain ⟨hp, g, dr, tk0, os⟩ := s
  have ty : ∀ tk, (⟨hp, g, dr, tk, os⟩ : Shared).TypeIs (.ref a) "list" := fun _ => ⟨_, hx, rfl⟩
  have q1 := sub_AttributeError
  have q2 := F.slot_list_getattribute.lookup
  have q3 := F.slot_list_getattribute.bind (.ref a)
  have q4 := am_list_getattr_none
  unfold getAttr? getAttrBy? getAttrBy
  repeat (any_goals (first | assumption | exact ty _ | ((with_reducible show wpAny _ _ (call (Value.builtin "list.__getattribute__") _ _) _ _ _); refine call_meets F.slot_list_getattribute (ty _) am_entry_list_getattribute (F.args_list_getattribute_2 _ _) (meets_getattribute_miss_list a xs n sl "keys" _ list_no_keys (by decide +kernel)) ⟨hx, hA, fun h' tk' e made => ?_⟩) | wp_step))
  obtain ⟨t', u', he⟩ := made.there
  show wpAny _ _ (getattributeRaised _ _ _ _ _ _ _) _ _ _
  unfold getattributeRaised
  repeat (any_goals (first | assumption | wp_step))
  exact h _ _ made.keeps
end
section
variable {prog : Program} {w : World} {κ : Type} [DecidableEq κ] {knd : KeyKind prog w κ} {A : Around} {E : Value → Shared → Prop} {s : Shared}
theorem plain_updLoop : plainId "dict.update.loop" = true := by decide +kernel
theorem entry_updLoop : entryFor table "dict.update.loop" = some Builtin.«dict.update.loop» := entryFor_of_fast (by kernel_rfl)
end
section
variable {X : Cx} {pins : List (Addr × Obj)} {σ : St} {H : Hp} {s : Shared}
end
theorem refs_its : ∀ {ps : List Addr} {its : List Value}, Vals (ps.map V.ref) its → its = ps.map Value.ref
  | [], _, h => by cases h; rfl
  | p :: ps, _, h => by
    cases h with
    | cons r t =>
      obtain rfl := refs_its t
      rw [show _ = Value.ref p from r]; rfl
theorem bt_dict : bootBuiltins "dict" = some (.type "dict") := by decide +kernel
section
variable {X : Cx} {e : Expr} {te : TE} {p pos : Pos}
end
/-! ### min of a list of numbers -/
section
variable {X : Cx} {e : Expr} {te : TE} {p pos : Pos}
end
end L2

namespace L2
open PySem PySem.Spec PyProof.Rows
/-! ### sorted of what is sorted already, of any length -/
section
variable {prog : Program} {w : World} {A : Around} {E : Value → Shared → Prop} {s : Shared} {a₀ : Array Keyed}
theorem out_pairs (vs : List Value) : (pairsOf vs).map (·.2) = vs.toArray := by
  apply Array.toList_inj.mp
  rw [Array.toList_map, pairsOf_toList, List.map_snd_zip (Nat.le_refl _)]
end
section
variable {prog : Program} {w : World} {κ : Type} [DecidableEq κ] {knd : KeyKind prog w κ} {A : Around} {E : Value → Shared → Prop} {s : Shared}
end
theorem bt_sorted : bootBuiltins "sorted" = some (.builtin "sorted") := by decide +kernel
section
variable {X : Cx} {e : Expr} {te : TE} {p pos : Pos}
end
end L2

namespace L2
open PySem PySem.Spec PyProof.Rows
/-! ### names told by a list, < of lists of signs, min of pairs of a number and such a list -/
section
variable {prog : Program} {w : World} {A : Around} {E : Value → Shared → Prop} {s : Shared}
end
section
open SeqAt MeetsSeq MeetsSeq2 MeetsSeq3 SeqRoads2
open AutoSeq1 (wpAny_loadPart')
/-- the codes of signs, as numbers -/
def codes (t : List Nat) : List Int := t.map fun (c : Nat) => (c : Int)
/-- items that are these signs -/
def Sgns (xs : List Nat) (items : Array Value) : Prop := items.size = xs.length ∧ ∀ (j : Nat) (h : j < items.size), ∃ (x : Nat) (t : Tok), xs[j]? = some x ∧ items[j] = .str (sgS x) t
theorem LtAt.signs {A : Around} {s : Shared} {c d : Nat} {t u : Tok} : LtAt A s (.str (sgS c) t) (.str (sgS d) u) (decide ((c : Int) < (d : Int))) := fun prog w E Q h => by
  have e : decide ((sgS c).cps.toList < (sgS d).cps.toList) = decide ((c : Int) < (d : Int)) := by
    apply decide_eq_decide.mpr
    show [c] < [d] ↔ _
    rw [List.cons_lt_cons_iff]
    simp
  rw [← e] at h
  exact richCompare_gives (op := .Lt) (typeIs_str s _ t) (typeIs_str s _ u) F.slot_str_lt F.entry_str_lt (F.args_str_lt_2 _ _) (gives_str_lt _ _ t u) (fun x => nomatch x) h
theorem eqSg {A : Around} {s : Shared} {c d : Nat} {t u : Tok} : EqAt A s (.str (sgS c) t) (.str (sgS d) u) (decide ((c : Int) = (d : Int))) := by
  have := eqAt_V (A := A) (s := s) (y := sg c) (x := sg d) (u := .str (sgS c) t) (v := .str (sgS d) u) ⟨t, rfl⟩ ⟨u, rfl⟩ rfl rfl
  have e : eqV (sg c) (sg d) = decide ((c : Int) = (d : Int)) := by
    show (sgS c == sgS d) = _
    by_cases h : c = d
    · subst h; simp
    · rw [decide_eq_false (by lia)]
      refine beq_eq_false_iff_ne.mpr fun q => h ?_
      have := congrArg (fun z : Str => z.cps) q
      simpa using this
  rw [e] at this
  exact this
theorem lt_loopS {l b : Addr} {items items2 : Array Value} {n n2 : Nat} {dd dd2 : Option Addr} {sl sl2 : Array (Option Value)} {xs ys : List Nat} (N1 : Sgns xs items) (N2 : Sgns ys items2) (k : Nat) :
    ∀ i : Nat, items.size - i = k → i ≤ items.size → i ≤ items2.size → Meets (Builtin.«list.__eq__.loop» ⟨[.ref l, .ref b, rawInt i, rawInt 0], []⟩)
      (fun A R s => s.heap.get? l = some { cls := .type "list", dict := dd, data := .seq items n, slots := sl } ∧ s.heap.get? b = some { cls := .type "list", dict := dd2, data := .seq items2 n2, slots := sl2 } ∧ R (.ok (.ret (.bool (ltL ((codes xs).drop i) ((codes ys).drop i))))) s) := by
  have L1 : (codes xs).length = xs.length := List.length_map ..
  have L2 : (codes ys).length = ys.length := List.length_map ..
  have gt : ∀ (zs : List Nat) (i x : Nat), zs[i]? = some x → (codes zs)[i]? = some (x : Int) := fun zs i x h => by unfold codes; rw [List.getElem?_map, h]; rfl
  induction k with
  | zero =>
    intro i hk hle hle2 prog w A R s h
    obtain ⟨hp, g, d, tk, os⟩ := s; obtain ⟨hl, hb, h⟩ := h
    wp_walk using wpAny_loadPart' hl, wpAny_loadPart' hb
    have none1 : items[((i : Nat) : Int).toNat]? = none := by simp; lia
    have e1 : (codes xs).drop i = [] := List.drop_eq_nil_of_le (by rw [L1, ← N1.1]; lia)
    rw [e1, ltL_nil_left, List.length_drop, L2, ← N2.1] at h
    rw [none1]
    wp_walk using wpAny_loadPart' hl, wpAny_loadPart' hb
    have e2 : decide (items.size < items2.size) = decide (0 < items2.size - i) := decide_eq_decide.mpr (by lia)
    show R (.ok (.ret (.bool (decide (items.size < items2.size))))) _
    rw [e2]
    exact h
  | succ k ih =>
    intro i hk hle hle2 prog w A R s h
    obtain ⟨hp, g, d, tk, os⟩ := s; obtain ⟨hl, hb, h⟩ := h
    have lt1 : i < items.size := by lia
    by_cases lt2 : i < items2.size
    · obtain ⟨x, t, hx', ex⟩ := N1.2 i lt1
      obtain ⟨y, u, hy', ey⟩ := N2.2 i lt2
      have hx := gt _ _ _ hx'
      have hy := gt _ _ _ hy'
      have dx : (codes xs).drop i = (x : Int) :: (codes xs).drop (i + 1) := by
        obtain ⟨q1, q2⟩ := List.getElem?_eq_some_iff.mp hx
        rw [List.drop_eq_getElem_cons q1, q2]
      have dy : (codes ys).drop i = (y : Int) :: (codes ys).drop (i + 1) := by
        obtain ⟨q1, q2⟩ := List.getElem?_eq_some_iff.mp hy
        rw [List.drop_eq_getElem_cons q1, q2]
      wp_walk using wpAny_loadPart' hl, wpAny_loadPart' hb
      have at1 : items[((i : Nat) : Int).toNat]? = some (.str (sgS x) t) := by simp [lt1, ex]
      have at2 : items2[((i : Nat) : Int).toNat]? = some (.str (sgS y) u) := by simp [lt2, ey]
      have hc : ((i : Int) + 1) = ((i + 1 : Nat) : Int) := by push_cast; rfl
      rw [dx, dy] at h
      simp only [ltL] at h
      rw [at1, at2]
      refine wpAny_bind (eqSg prog w _ _ ?_)
      by_cases exy : (x : Int) = y
      · rw [if_pos exy] at h
        rw [decide_eq_true exy]
        wp_walk
        rw [hc]
        exact ⟨plainId_quiet plain_eq_loop _, codeAny_builtin entry_eq_loop (by
          rw [Around.under_plainId plain_eq_loop _]
          exact ih (i + 1) (by lia) (by lia) (by lia) prog w A R _ ⟨hl, hb, h⟩)⟩
      · rw [if_neg exy] at h
        rw [decide_eq_false exy]
        wp_walk using wpAny_loadPart' hl, wpAny_loadPart' hb
        rw [at1, at2]
        refine wpAny_bind (LtAt.signs prog w _ _ ?_)
        wp_walk
        exact h
    · wp_walk using wpAny_loadPart' hl, wpAny_loadPart' hb
      obtain ⟨x, t, hx, ex⟩ := N1.2 i lt1
      have at1 : items[((i : Nat) : Int).toNat]? = some (.str (sgS x) t) := by simp [lt1, ex]
      have none2 : items2[((i : Nat) : Int).toNat]? = none := by simp; lia
      have e1 : (codes ys).drop i = [] := List.drop_eq_nil_of_le (by rw [L2, ← N2.1]; lia)
      rw [e1, ltL_nil_right] at h
      rw [at1, none2]
      wp_walk using wpAny_loadPart' hl, wpAny_loadPart' hb
      have e2 : decide (items.size < items2.size) = false := decide_eq_false (by lia)
      show R (.ok (.ret (.bool (decide (items.size < items2.size))))) _
      rw [e2]
      exact h
theorem list_ltS {l b : Addr} {items items2 : Array Value} {n n2 : Nat} {dd dd2 : Option Addr} {sl sl2 : Array (Option Value)} {xs ys : List Nat} (N1 : Sgns xs items) (N2 : Sgns ys items2) : Meets (Builtin.«list.__lt__» ⟨[.ref l, .ref b], []⟩)
    (fun A R s => s.heap.get? l = some { cls := .type "list", dict := dd, data := .seq items n, slots := sl } ∧ s.heap.get? b = some { cls := .type "list", dict := dd2, data := .seq items2 n2, slots := sl2 } ∧ R (.ok (.ret (.bool (ltL (codes xs) (codes ys))))) s) := by
  intro prog w A R s h
  obtain ⟨hp, g, d, tk, os⟩ := s; obtain ⟨hl, hb, h⟩ := h
  have sub := AutoSeq1.sub_list_list
  wp_walk using wpAny_loadPart' hl, wpAny_loadPart' hb
  exact ⟨plainId_quiet plain_eq_loop _, codeAny_builtin entry_eq_loop (by
    rw [Around.under_plainId plain_eq_loop _]
    exact lt_loopS N1 N2 _ 0 rfl (Nat.zero_le _) (Nat.zero_le _) prog w A R _ ⟨hl, hb, by simpa using h⟩)⟩
theorem sgns_of {xs : List Nat} {its : List Value} (r : Vals (xs.map sg) its) : Sgns xs its.toArray := by
  have hl := r.length
  rw [List.length_map] at hl
  refine ⟨by rw [List.size_toArray]; lia, fun j h => ?_⟩
  have hj : j < xs.length := by rw [List.size_toArray] at h; lia
  obtain ⟨u, hu, ru⟩ := r.get (show (xs.map sg)[j]? = some (sg xs[j]) by simp [hj])
  obtain ⟨t, rfl⟩ := ru
  refine ⟨xs[j], t, List.getElem?_eq_getElem hj, ?_⟩
  have h2 := (List.getElem?_eq_some_iff.mp hu).2
  simpa using h2
end
abbrev K2 := Int × List Nat
def lt2 (x y : K2) : Bool := ltP x.1 y.1 (codes x.2) (codes y.2)
/-- a pair of a number and a list of signs that stands at an address -/
def Pair2 (H : Hp) (c : Addr) (k : K2) : Prop := (∀ x ∈ k.2, x < 0x110000) ∧ ∃ g : Addr, H c = some (.tup [.int k.1, .ref g]) ∧ H g = some (.lst (k.2.map sg))
structure Pairs2 (H : Hp) (cs : List Addr) (ks : List K2) : Prop where
  len : cs.length = ks.length
  at_ : ∀ (i : Nat) (c : Addr) (k : K2), cs[i]? = some c → ks[i]? = some k → Pair2 H c k
section
variable {X : Cx} {e d : Expr} {te td : TE} {p pos kp : Pos} {k : Nat}
end
/-! ### for x in range(n, 0, -1) -/
section
variable {X : Cx} {tg a b c : Expr} {ta : TA} {p pos : Pos}
end
/-! ### list(range(n)) -/
section
variable {X : Cx} {a : Expr} {ta : TA} {p p2 pos pos2 : Pos}
end
end L2

namespace L2
open PySem PySem.Spec PyProof.Rows PySem.W
/-! ### sorted of pairs of numbers that are sorted already, of any length -/
section
variable {prog : Program} {w : World} {A : Around} {E : Value → Shared → Prop} {s : Shared}
end
section
variable {X : Cx} {e : Expr} {te : TE} {p pos : Pos}
end
end L2

namespace L2
open PySem PySem.Spec PyProof.Rows
/-! ### at which place a letter stands among all -/
theorem occ_az : ∀ k : Fin 26, Builtin.Str.occurrences "abcdefghijklmnopqrstuvwxyz" ⟨#[97 + k.val]⟩ 0 26 1 = [k.val] := by decide +kernel
def rIndexA : V → List V → Hp → VK → Prop := fun x vs H Q => ∃ c : Nat, x = .str "abcdefghijklmnopqrstuvwxyz" ∧ vs = [sg c] ∧ 97 ≤ c ∧ c ≤ 122 ∧ Q (.int ((c - 97 : Nat) : Int)) H
theorem mt_indexA {X : Cx} : MtR X "str.index" rIndexA := by
  intro pins s σ H x vs v us Q I rx rv h
  obtain ⟨c, rfl, rfl, h1, h2, q⟩ := h
  obtain ⟨t, rfl⟩ := rx
  obtain ⟨u, rfl, ru⟩ := rv.one
  obtain ⟨t', rfl⟩ := ru
  have e := occ_az ⟨c - 97, by lia⟩
  rw [show 97 + (⟨c - 97, by lia⟩ : Fin 26).val = c by show 97 + (c - 97) = c; lia] at e
  exact call_gives F.slot_str_index (typeIs_str s _ t) F.entry_str_index (F.args_str_index_2 _ _) (gives_str_index _ _ t t' (c - 97) [] e) ⟨.int ((c - 97 : Nat) : Int), H, I.kept (h' := s.heap) (t' := s.toks + 1) (fun b o e => e), ⟨_, rfl⟩, q⟩
end L2

namespace L2
open PySem PySem.Spec PyProof.Rows
/-! ### sorting, of any length and by any order: the runs -/
structure Ordr (κ : Type) where
  lt : κ → κ → Bool
  irr : ∀ a, lt a a = false
  tr : ∀ a b c, lt a b = true → lt b c = true → lt a c = true
  neg : ∀ a b c, lt a c = true → lt a b = true ∨ lt b c = true
namespace Ordr
variable {κ : Type} (O : Ordr κ)
def le (a b : κ) : Prop := O.lt b a = false
variable {O}
theorem le_refl (a : κ) : O.le a a := O.irr a
theorem le_of_lt {a b : κ} (h : O.lt a b = true) : O.le a b := by
  cases z : O.lt b a with
  | false => exact z
  | true => have := O.tr _ _ _ h z; rw [O.irr] at this; cases this
theorem le_trans {a b c : κ} (h1 : O.le a b) (h2 : O.le b c) : O.le a c := by
  cases z : O.lt c a with
  | false => exact z
  | true =>
    rcases O.neg _ b _ z with y | y
    · rw [show O.lt c b = false from h2] at y; cases y
    · rw [show O.lt b a = false from h1] at y; cases y
theorem lt_le {a b c : κ} (h1 : O.lt a b = true) (h2 : O.le b c) : O.lt a c = true := by
  rcases O.neg _ c _ h1 with y | y
  · exact y
  · rw [show O.lt c b = false from h2] at y; cases y
theorem le_lt {a b c : κ} (h1 : O.le a b) (h2 : O.lt b c = true) : O.lt a c = true := by
  rcases O.neg _ a _ h2 with y | y
  · rw [show O.lt b a = false from h1] at y; cases y
  · exact y
theorem le_not {a b : κ} (h : ¬ O.lt a b = true) : O.le b a := by
  cases z : O.lt a b with
  | false => exact z
  | true => exact absurd z h
end Ordr
section
variable {κ : Type} (O : Ordr κ) (key : Keyed → κ)
def kk (a : Array Keyed) (i : Nat) : κ := key ((a[i]?).getD (.none, .none))
theorem kk_congr {a b : Array Keyed} {i j : Nat} (h : a[i]? = b[j]?) : kk key a i = kk key b j := by unfold kk; rw [h]
/-- a stretch that rises -/
def Rise (a : Array Keyed) (lo hi : Nat) : Prop := ∀ i j, lo ≤ i → i ≤ j → j < hi → O.le (kk key a i) (kk key a j)
/-- nothing changed but from lo to hi -/
def OnlyA (a b : Array Keyed) (lo hi : Nat) : Prop := ∀ i, i < lo ∨ hi ≤ i → b[i]? = a[i]?
/-- what a step leaves as it was -/
structure Bas (a₀ : Array Keyed) (kd : SortKind) (st : SortSt) : Prop where
  perm : (arrOf st).Perm a₀
  kind : kindOf st = kd
  failed : failedOf st = none
theorem OnlyA.refl (a : Array Keyed) (lo hi : Nat) : OnlyA a a lo hi := fun _ _ => rfl
theorem OnlyA.trans {a b c : Array Keyed} {lo hi : Nat} (h : OnlyA a b lo hi) (g : OnlyA b c lo hi) : OnlyA a c lo hi := fun i hi => (g i hi).trans (h i hi)
theorem OnlyA.wide {a b : Array Keyed} {lo hi lo' hi' : Nat} (h : OnlyA a b lo hi) (h1 : lo' ≤ lo) (h2 : hi ≤ hi') : OnlyA a b lo' hi' := fun i z => h i (by lia)
theorem Rise.keep {O : Ordr κ} {key : Keyed → κ} {a b : Array Keyed} {lo hi l r : Nat} (h : Rise O key a l r) (g : OnlyA a b lo hi) (d : r ≤ lo ∨ hi ≤ l) : Rise O key b l r := fun i j h1 h2 h3 => by
  rw [kk_congr key (g i (by lia)), kk_congr key (g j (by lia))]
  exact h i j h1 h2 h3
/-- a stretch that rises step by step -/
theorem rise_of {O : Ordr κ} {key : Keyed → κ} {a : Array Keyed} {lo hi : Nat} (h : ∀ i, lo ≤ i → i + 1 < hi → O.le (kk key a i) (kk key a (i + 1))) : Rise O key a lo hi := by
  intro i j h1 h2 h3
  induction j with
  | zero => have : i = 0 := by lia
            subst this; exact Ordr.le_refl _
  | succ j ih =>
    by_cases e : i = j + 1
    · subst e; exact Ordr.le_refl _
    · exact Ordr.le_trans (ih (by lia) (by lia)) (h j (by lia) (by lia))
variable {prog : Program} {w : World} {A : Around} {E : Value → Shared → Prop} {s : Shared} {a₀ : Array Keyed} {kd : SortKind}
/-- elements are compared as their keys are -/
def Cmp (prog : Program) (w : World) (A : Around) (E : Value → Shared → Prop) (s : Shared) (a₀ : Array Keyed) (kd : SortKind) : Prop := ∀ x y, x ∈ a₀ → y ∈ a₀ → ∀ (st : SortSt) (Q : Option Bool → SortSt → Prop), kindOf st = kd → Q (some (O.lt (key x) (key y))) st → wpS (model prog w) A E s (lt' x y) Q st
variable {O key}
theorem Bas.size {st : SortSt} (h : Bas a₀ kd st) : (arrOf st).size = a₀.size := h.perm.size_eq
theorem Bas.at {st : SortSt} (h : Bas a₀ kd st) {i : Nat} (hi : i < a₀.size) : ∃ x, (arrOf st)[i]? = some x ∧ x ∈ a₀ := by
  have hl : i < (arrOf st).size := by rw [h.size]; exact hi
  refine ⟨(arrOf st)[i], by simp [hl], ?_⟩
  exact h.perm.mem_iff.mp (Array.getElem_mem hl)
theorem Bas.set {st : SortSt} (h : Bas a₀ kd st) {xs : Array Keyed} (hp : xs.Perm (arrOf st)) : Bas a₀ kd (setArr st xs) := ⟨hp.trans h.perm, h.kind, h.failed⟩
theorem t_ltAt (C : Cmp O key prog w A E s a₀ kd) {st : SortSt} {i j : Nat} {Q : Option Bool → SortSt → Prop} (hB : Bas a₀ kd st) (hi : i < a₀.size) (hj : j < a₀.size) (h : Q (some (O.lt (kk key (arrOf st) i) (kk key (arrOf st) j))) st) : wpS (model prog w) A E s (ltAt' i j) Q st := by
  obtain ⟨x, e1, m1⟩ := hB.at hi
  obtain ⟨y, e2, m2⟩ := hB.at hj
  rw [ltAt'_eq]
  refine wpS_bind (wpS_get ?_)
  show wpS _ _ _ _ (do let x ← elem' (arrOf st) i; let y ← elem' (arrOf st) j; lt' x y) Q st
  rw [elem'_eq, elem'_eq, e1, e2]
  refine wpS_bind (wpS_pure (wpS_bind (wpS_pure (C x y m1 m2 st Q hB.kind ?_))))
  unfold kk at h
  rw [e1, e2] at h
  exact h
/-! ### insertion by halving -/
theorem t_binary (C : Cmp O key prog w A E s a₀ kd) {st : SortSt} {lo n ok : Nat} {Q : Bool → SortSt → Prop} (hB : Bas a₀ kd st) (hn : lo + n ≤ a₀.size) (hok : ok ≤ n) (hs : Rise O key (arrOf st) lo (lo + ok))
    (h : ∀ st', Bas a₀ kd st' → pendingOf st' = pendingOf st → OnlyA (arrOf st) (arrOf st') lo (lo + n) → Rise O key (arrOf st') lo (lo + n) → Q true st') : wpS (model prog w) A E s (binarySort' lo n ok) Q st := by
  rw [binarySort'_eq]
  refine wpS_bind (wpS_mono (wpS_forRange (I := fun k c st' => c = (none, ()) ∧ Bas a₀ kd st' ∧ pendingOf st' = pendingOf st ∧ OnlyA (arrOf st) (arrOf st') lo (lo + n) ∧ Rise O key (arrOf st') lo (lo + k)) (Q := fun c st' => c = (none, ()) ∧ Bas a₀ kd st' ∧ pendingOf st' = pendingOf st ∧ OnlyA (arrOf st) (arrOf st') lo (lo + n) ∧ Rise O key (arrOf st') lo (lo + max (max ok 1) n)) ?one ?last ?init) ?behind)
  case init =>
    refine ⟨rfl, hB, rfl, OnlyA.refl _ _ _, fun i j h1 h2 h3 => ?_⟩
    by_cases e : ok = 0
    · have : i = j := by lia
      subst this; exact Ordr.le_refl _
    · exact hs i j h1 h2 (by lia)
  case last => exact fun c st' z => z
  case behind =>
    rintro c st' ⟨rfl, hB', hp, ho, hr⟩
    refine wpS_pure (h st' hB' hp ho fun i j h1 h2 h3 => hr i j h1 h2 (by lia))
  case one =>
    rintro k c st' hk1 hk2 ⟨rfl, hB', hp, ho, hr⟩
    dsimp only
    refine wpS_bind (wpS_mono (wpS_forRange (I := fun x c z => z = st' ∧ ∃ l r, c = (none, l, r) ∧ l ≤ r ∧ r ≤ k ∧ (r - l) + x ≤ k ∧ (∀ i, i < l → O.le (kk key (arrOf st') (lo + i)) (kk key (arrOf st') (lo + k))) ∧ (∀ i, r ≤ i → i < k → O.lt (kk key (arrOf st') (lo + k)) (kk key (arrOf st') (lo + i)) = true)) (Q := fun c z => z = st' ∧ ∃ l, c = (none, l, l) ∧ l ≤ k ∧ (∀ i, i < l → O.le (kk key (arrOf st') (lo + i)) (kk key (arrOf st') (lo + k))) ∧ (∀ i, l ≤ i → i < k → O.lt (kk key (arrOf st') (lo + k)) (kk key (arrOf st') (lo + i)) = true)) ?in1 ?in2 ?in3) ?in4)
    case in3 => exact ⟨rfl, 0, k, rfl, by lia, by lia, by lia, fun i hi => by lia, fun i h1 h2 => by lia⟩
    case in2 =>
      rintro c z ⟨rfl, l, r, rfl, h1, h2, h3, h4, h5⟩
      have : l = r := by lia
      subst this
      exact ⟨rfl, l, rfl, h2, h4, h5⟩
    case in1 =>
      rintro x c z _ hx ⟨rfl, l, r, rfl, h1, h2, h3, h4, h5⟩
      dsimp only
      by_cases hlr : l ≥ r
      · rw [if_pos hlr]
        have : l = r := by lia
        subst this
        exact wpS_pure ⟨rfl, l, rfl, h2, h4, h5⟩
      · rw [if_neg hlr]
        refine wpS_bind (t_ltAt C hB' (by lia) (by lia) ?_)
        dsimp only
        have hm1 : l ≤ (l + r) / 2 := by lia
        have hm2 : (l + r) / 2 < r := by lia
        by_cases hc : O.lt (kk key (arrOf z) (lo + k)) (kk key (arrOf z) (lo + (l + r) / 2)) = true
        · rw [if_pos hc]
          refine wpS_pure ⟨rfl, l, (l + r) / 2, rfl, by lia, by lia, by lia, h4, fun i h6 h7 => ?_⟩
          exact Ordr.lt_le hc (hr _ _ (by lia) (by lia) (by lia))
        · rw [if_neg hc]
          refine wpS_pure ⟨rfl, (l + r) / 2 + 1, r, rfl, by lia, by lia, by lia, fun i h6 => ?_, h5⟩
          exact Ordr.le_trans (hr _ _ (by lia) (by lia) (by lia)) (Ordr.le_not hc)
    case in4 =>
      rintro c z ⟨rfl, l, rfl, h2, h4, h5⟩
      dsimp only
      rw [moveDown'_eq]
      refine wpS_bind (wpS_modify (wpS_pure ⟨rfl, hB'.set (bubble_perm _ _ _), hp, ?_, ?_⟩))
      · intro i hi
        show (bubble (arrOf z) (lo + k) (lo + k - (lo + l)))[i]? = _
        rw [getElem?_bubble (by rw [hB'.size]; lia) _ (by lia), if_neg (by lia), if_neg (by lia)]
        exact ho i hi
      · have g : ∀ i, kk key (bubble (arrOf z) (lo + k) (lo + k - (lo + l))) i = if i = lo + l then kk key (arrOf z) (lo + k) else if lo + l < i ∧ i ≤ lo + k then kk key (arrOf z) (i - 1) else kk key (arrOf z) i := fun i => by
          have := getElem?_bubble (xs := arrOf z) (src := lo + k) (by rw [hB'.size]; lia) (lo + k - (lo + l)) (by lia) i
          rw [show lo + k - (lo + k - (lo + l)) = lo + l by lia] at this
          by_cases c1 : i = lo + l
          · rw [if_pos c1] at this ⊢; exact kk_congr key this
          · rw [if_neg c1] at this ⊢
            by_cases c2 : lo + l < i ∧ i ≤ lo + k
            · rw [if_pos c2] at this ⊢; exact kk_congr key this
            · rw [if_neg c2] at this ⊢; exact kk_congr key this
        refine rise_of fun i h6 h7 => ?_
        show O.le (kk key (bubble (arrOf z) (lo + k) (lo + k - (lo + l))) i) (kk key (bubble (arrOf z) (lo + k) (lo + k - (lo + l))) (i + 1))
        rw [g, g]
        by_cases c1 : i = lo + l
        · rw [if_pos c1, if_neg (by lia), if_pos (by lia)]
          refine Ordr.le_of_lt ?_
          have := h5 (i - lo) (by lia) (by lia)
          rw [show lo + (i - lo) = i + 1 - 1 by lia] at this
          exact this
        · rw [if_neg c1]
          by_cases c2 : i + 1 = lo + l
          · rw [if_neg (by lia), if_pos c2]
            have := h4 (i - lo) (by lia)
            rw [show lo + (i - lo) = i by lia] at this
            exact this
          · rw [if_neg c2]
            by_cases c3 : lo + l < i ∧ i ≤ lo + k
            · rw [if_pos c3, if_pos (by lia)]
              exact hr _ _ (by lia) (by lia) (by lia)
            · rw [if_neg c3, if_neg (by lia)]
              exact hr _ _ (by lia) (by lia) (by lia)
end
end L2

namespace L2
open PySem PySem.Spec PyProof.Rows
/-! ### the next run -/
section
variable {κ : Type} {O : Ordr κ} {key : Keyed → κ} {prog : Program} {w : World} {A : Around} {E : Value → Shared → Prop} {s : Shared} {a₀ : Array Keyed} {kd : SortKind}
def Fall (O : Ordr κ) (key : Keyed → κ) (a : Array Keyed) (lo hi : Nat) : Prop := ∀ i j, lo ≤ i → i ≤ j → j < hi → O.le (kk key a j) (kk key a i)
/-- all alike -/
def Even (O : Ordr κ) (key : Keyed → κ) (a : Array Keyed) (lo hi : Nat) : Prop := ∀ i j, lo ≤ i → i < hi → lo ≤ j → j < hi → O.le (kk key a i) (kk key a j)
theorem kk_mirror {a : Array Keyed} {p q : Nat} (hq : q ≤ a.size) (i : Nat) : kk key (mirror a p q ((q - p) / 2)) i = if p ≤ i ∧ i < q then kk key a (p + q - 1 - i) else kk key a i := by
  have e := getElem?_mirror_all (xs := a) (i := p) hq i
  by_cases c : p ≤ i ∧ i < q
  · rw [if_pos c] at e ⊢; exact kk_congr key e
  · rw [if_neg c] at e ⊢; exact kk_congr key e
theorem mirror_only {a : Array Keyed} {p q lo hi : Nat} (hq : q ≤ a.size) (h1 : lo ≤ p) (h2 : q ≤ hi) : OnlyA a (mirror a p q ((q - p) / 2)) lo hi := fun i z => by
  rw [getElem?_mirror_all hq, if_neg (by lia)]
theorem fall_rev {a : Array Keyed} {lo hi p q : Nat} (h : Fall O key a lo hi) (hq : q ≤ a.size) (h1 : lo ≤ p) (h2 : q ≤ hi) (ev : Even O key a p q) : Fall O key (mirror a p q ((q - p) / 2)) lo hi := fun i j z1 z2 z3 => by
  rw [kk_mirror hq, kk_mirror hq]
  by_cases ci : p ≤ i ∧ i < q <;> by_cases cj : p ≤ j ∧ j < q
  · rw [if_pos ci, if_pos cj]; exact ev _ _ (by lia) (by lia) (by lia) (by lia)
  · rw [if_pos ci, if_neg cj]; exact h _ _ (by lia) (by lia) (by lia)
  · rw [if_neg ci, if_pos cj]; exact h _ _ (by lia) (by lia) (by lia)
  · rw [if_neg ci, if_neg cj]; exact h _ _ z1 z2 z3
theorem fall_turn {a : Array Keyed} {lo hi : Nat} (h : Fall O key a lo hi) (hq : hi ≤ a.size) : Rise O key (mirror a lo hi ((hi - lo) / 2)) lo hi := fun i j z1 z2 z3 => by
  rw [kk_mirror hq, kk_mirror hq, if_pos (by lia), if_pos (by lia)]
  exact h _ _ (by lia) (by lia) (by lia)
/-- what is known when a run has gone down -/
structure Down (O : Ordr κ) (key : Keyed → κ) (a₀ : Array Keyed) (kd : SortKind) (st z : SortSt) (lo nrem n q : Nat) : Prop where
  bas : Bas a₀ kd z
  pend : pendingOf z = pendingOf st
  only : OnlyA (arrOf st) (arrOf z) lo (lo + nrem)
  q1 : q < n
  fall : Fall O key (arrOf z) lo (lo + n)
  even : Even O key (arrOf z) (lo + n - (q + 1)) (lo + n)
theorem Down.turn {st z : SortSt} {lo nrem n q : Nat} (h : Down O key a₀ kd st z lo nrem n q) (hn : n ≤ nrem) (hs : lo + nrem ≤ a₀.size) : Down O key a₀ kd st (setArr z (mirror (arrOf z) (lo + n - (q + 1)) (lo + n) ((lo + n - (lo + n - (q + 1))) / 2))) lo nrem n 0 := by
  have q1 := h.q1
  have hz : lo + n ≤ (arrOf z).size := by rw [h.bas.size]; lia
  refine ⟨h.bas.set (mirror_perm _ _ _ _), h.pend, h.only.trans (mirror_only hz (by lia) (by lia)), by lia, fall_rev h.fall hz (by lia) (Nat.le_refl _) h.even, fun i j h1 h2 h3 h4 => ?_⟩
  have : i = j := by lia
  subst this; exact Ordr.le_refl _
theorem t_count (C : Cmp O key prog w A E s a₀ kd) {st : SortSt} {lo nrem : Nat} {Q : Option Nat → SortSt → Prop} (hB : Bas a₀ kd st) (hn : lo + nrem ≤ a₀.size) (h1 : 1 ≤ nrem)
    (h : ∀ st' n, Bas a₀ kd st' → pendingOf st' = pendingOf st → OnlyA (arrOf st) (arrOf st') lo (lo + nrem) → 1 ≤ n → n ≤ nrem → Rise O key (arrOf st') lo (lo + n) → Q (some n) st') : wpS (model prog w) A E s (countRun' lo nrem) Q st := by
  rw [countRun'_eq]
  -- up from a place on
  have up : ∀ (z : SortSt) (m : Nat), Bas a₀ kd z → 1 ≤ m → m ≤ nrem → Rise O key (arrOf z) lo (lo + m) → ∀ (Q' : Option (Option Nat) × Nat → SortSt → Prop), (∀ n, m ≤ n → n ≤ nrem → Rise O key (arrOf z) lo (lo + n) → (n < nrem → O.lt (kk key (arrOf z) (lo + n)) (kk key (arrOf z) (lo + n - 1)) = true) → Q' (none, n) z) →
      wpS (model prog w) A E s (forIn [m:nrem] ((none, m) : Option (Option Nat) × Nat) fun _ r => do
        let x ← ltAt' (lo + r.2) (lo + r.2 - 1)
        match x with
        | some smaller => if smaller = true then pure (ForInStep.done (none, r.2)) else pure (ForInStep.yield (none, r.2 + 1))
        | _ => pure (ForInStep.done (some none, r.2))) Q' z := by
    intro z m hBz m1 m2 hr Q' hQ
    refine wpS_forRange (I := fun x c z' => z' = z ∧ c = (none, x) ∧ m ≤ x ∧ x ≤ nrem ∧ Rise O key (arrOf z) lo (lo + x)) ?_ ?_ ⟨rfl, rfl, Nat.le_refl _, m2, hr⟩
    · rintro x c z' hx1 hx2 ⟨rfl, rfl, g1, g2, g3⟩
      dsimp only
      refine wpS_bind (t_ltAt C hBz (by lia) (by lia) ?_)
      dsimp only
      by_cases hc : O.lt (kk key (arrOf z') (lo + x)) (kk key (arrOf z') (lo + x - 1)) = true
      · rw [if_pos hc]
        exact wpS_pure (hQ x g1 g2 g3 fun _ => hc)
      · rw [if_neg hc]
        refine wpS_pure ⟨rfl, rfl, by lia, by lia, rise_of fun i z1 z2 => ?_⟩
        by_cases e : i + 1 = lo + x
        · rw [e, show i = lo + x - 1 by lia]
          exact Ordr.le_not hc
        · exact g3 _ _ z1 (by lia) (by lia)
    · rintro c z' ⟨rfl, rfl, g1, g2, g3⟩
      rw [Nat.max_eq_right m2] at g1 g2 g3 ⊢
      exact hQ nrem g1 g2 g3 fun z => absurd z (Nat.lt_irrefl _)
  have hsz : lo + nrem ≤ (arrOf st).size := by rw [hB.size]; exact hn
  have r1 : Rise O key (arrOf st) lo (lo + 1) := fun i j z1 z2 z3 => by
    have : i = j := by lia
    subst this; exact Ordr.le_refl _
  -- down from a place on
  have down : ∀ (z : SortSt) (m : Nat), Down O key a₀ kd st z lo nrem m 0 → m ≤ nrem → ∀ (Q' : Option (Option Nat) × Nat × Nat → SortSt → Prop), (∀ z' n q, Down O key a₀ kd st z' lo nrem n q → n ≤ nrem → Q' (none, n, q) z') →
      wpS (model prog w) A E s (forIn [m:nrem] ((none, m, 0) : Option (Option Nat) × Nat × Nat) fun _ r => do
        let x ← ltAt' (lo + r.2.1) (lo + r.2.1 - 1)
        match x with
        | some smaller =>
          if smaller = true then
            if r.2.2 > 0 then do
              reverseSlice' (lo + r.2.1 - (r.2.2 + 1)) (lo + r.2.1)
              pure (ForInStep.yield (none, r.2.1 + 1, 0))
            else pure (ForInStep.yield (none, r.2.1 + 1, 0))
          else do
            let x ← ltAt' (lo + r.2.1 - 1) (lo + r.2.1)
            match x with
            | some larger => if larger = true then pure (ForInStep.done (none, r.2.1, r.2.2)) else pure (ForInStep.yield (none, r.2.1 + 1, r.2.2 + 1))
            | _ => pure (ForInStep.done (some none, r.2.1, r.2.2))
        | _ => pure (ForInStep.done (some none, r.2.1, r.2.2))) Q' z := by
    intro z m hD m2 Q' hQ
    refine wpS_forRange (I := fun x c z' => ∃ q, c = (none, x, q) ∧ x ≤ nrem ∧ Down O key a₀ kd st z' lo nrem x q) ?_ ?_ ⟨0, rfl, m2, hD⟩
    · rintro x c z' hx1 hx2 ⟨q, rfl, g2, g3⟩
      dsimp only
      have q1 := g3.q1
      refine wpS_bind (t_ltAt C g3.bas (by lia) (by lia) ?_)
      dsimp only
      by_cases hc : O.lt (kk key (arrOf z') (lo + x)) (kk key (arrOf z') (lo + x - 1)) = true
      · rw [if_pos hc]
        have more : ∀ z'' : SortSt, Down O key a₀ kd st z'' lo nrem x 0 → O.lt (kk key (arrOf z'') (lo + x)) (kk key (arrOf z'') (lo + x - 1)) = true → Down O key a₀ kd st z'' lo nrem (x + 1) 0 := fun z'' D hlt => by
          refine ⟨D.bas, D.pend, D.only, by lia, fun i j z1 z2 z3 => ?_, fun i j z1 z2 z3 z4 => ?_⟩
          · by_cases ej : j = lo + x
            · subst ej
              by_cases ei : i = lo + x
              · subst ei; exact Ordr.le_refl _
              · exact Ordr.le_trans (Ordr.le_of_lt hlt) (D.fall _ _ z1 (by lia) (by lia))
            · exact D.fall _ _ z1 z2 (by lia)
          · have : i = j := by lia
            subst this; exact Ordr.le_refl _
        by_cases hq : q > 0
        · rw [if_pos hq, reverseSlice'_eq]
          refine wpS_bind (wpS_modify (wpS_pure ⟨0, rfl, by lia, more _ (g3.turn g2 hn) ?_⟩))
          have hz : lo + x ≤ (arrOf z').size := by rw [g3.bas.size]; lia
          show O.lt (kk key (mirror (arrOf z') _ _ _) _) (kk key (mirror (arrOf z') _ _ _) _) = true
          rw [kk_mirror hz, kk_mirror hz, if_neg (by lia), if_pos (by lia)]
          exact Ordr.lt_le hc (g3.even _ _ (by lia) (by lia) (by lia) (by lia))
        · rw [if_neg hq]
          have : q = 0 := by lia
          subst this
          exact wpS_pure ⟨0, rfl, by lia, more _ g3 hc⟩
      · rw [if_neg hc]
        refine wpS_bind (t_ltAt C g3.bas (by lia) (by lia) ?_)
        dsimp only
        by_cases hl : O.lt (kk key (arrOf z') (lo + x - 1)) (kk key (arrOf z') (lo + x)) = true
        · rw [if_pos hl]
          exact wpS_pure (hQ _ _ _ g3 g2)
        · rw [if_neg hl]
          have le1 := Ordr.le_not hc
          have le2 := Ordr.le_not hl
          refine wpS_pure ⟨q + 1, rfl, by lia, g3.bas, g3.pend, g3.only, by lia, fun i j z1 z2 z3 => ?_, fun i j z1 z2 z3 z4 => ?_⟩
          · by_cases ej : j = lo + x
            · subst ej
              by_cases ei : i = lo + x
              · subst ei; exact Ordr.le_refl _
              · exact Ordr.le_trans le2 (g3.fall _ _ z1 (by lia) (by lia))
            · exact g3.fall _ _ z1 z2 (by lia)
          · by_cases ei : i = lo + x <;> by_cases ej : j = lo + x
            · subst ei ej; exact Ordr.le_refl _
            · subst ei; exact Ordr.le_trans le2 (g3.even _ _ (by lia) (by lia) (by lia) (by lia))
            · subst ej; exact Ordr.le_trans (g3.even _ _ (by lia) (by lia) (by lia) (by lia)) le1
            · exact g3.even _ _ (by lia) (by lia) (by lia) (by lia)
    · rintro c z' ⟨q, rfl, g2, g3⟩
      rw [Nat.max_eq_right m2] at g2 g3 ⊢
      exact hQ _ _ _ g3 g2
  refine wpS_bind (up st 1 hB (Nat.le_refl _) h1 r1 _ fun n n1 n2 hr hlt => ?_)
  dsimp only
  by_cases en : n = nrem
  · rw [if_pos (by rw [en]; exact beq_self_eq_true _)]
    exact wpS_pure (h st n hB rfl (OnlyA.refl _ _ _) n1 n2 hr)
  · rw [if_neg (by simpa using en)]
    have hl := hlt (by lia)
    have dn : ∀ z : SortSt, Bas a₀ kd z → pendingOf z = pendingOf st → OnlyA (arrOf st) (arrOf z) lo (lo + nrem) → Even O key (arrOf z) lo (lo + n) → O.lt (kk key (arrOf z) (lo + n)) (kk key (arrOf z) (lo + n - 1)) = true → Down O key a₀ kd st z lo nrem (n + 1) 0 := fun z b1 b2 b3 ev hz => by
      refine ⟨b1, b2, b3, by lia, fun i j z1 z2 z3 => ?_, fun i j z1 z2 z3 z4 => ?_⟩
      · by_cases ej : j = lo + n
        · subst ej
          by_cases ei : i = lo + n
          · subst ei; exact Ordr.le_refl _
          · exact Ordr.le_trans (Ordr.le_of_lt hz) (ev _ _ (by lia) (by lia) (by lia) (by lia))
        · exact ev _ _ (by lia) (by lia) (by lia) (by lia)
      · have : i = j := by lia
        subst this; exact Ordr.le_refl _
    by_cases hn1 : n > 1
    · rw [if_pos hn1]
      refine wpS_bind (t_ltAt C hB (by lia) (by lia) ?_)
      dsimp only
      by_cases hc : O.lt (kk key (arrOf st) lo) (kk key (arrOf st) (lo + n - 1)) = true
      · rw [if_pos hc]
        exact wpS_pure (h st n hB rfl (OnlyA.refl _ _ _) n1 n2 hr)
      · rw [if_neg hc, reverseSlice'_eq]
        have hz : lo + n ≤ (arrOf st).size := by lia
        have le1 := Ordr.le_not hc
        have ev : Even O key (arrOf st) lo (lo + n) := fun i j z1 z2 z3 z4 => Ordr.le_trans (hr i (lo + n - 1) z1 (by lia) (by lia)) (Ordr.le_trans le1 (hr lo j (by lia) z3 (by lia)))
        refine wpS_bind (wpS_modify ?_)
        have D0 := dn (setArr st (mirror (arrOf st) lo (lo + n) ((lo + n - lo) / 2))) (hB.set (mirror_perm _ _ _ _)) rfl (mirror_only hz (Nat.le_refl _) (by lia)) (fun i j z1 z2 z3 z4 => by
          show O.le (kk key (mirror (arrOf st) _ _ _) _) (kk key (mirror (arrOf st) _ _ _) _)
          rw [kk_mirror hz, kk_mirror hz, if_pos (by lia), if_pos (by lia)]
          exact ev _ _ (by lia) (by lia) (by lia) (by lia)) (by
          show O.lt (kk key (mirror (arrOf st) _ _ _) _) (kk key (mirror (arrOf st) _ _ _) _) = true
          rw [kk_mirror hz, kk_mirror hz, if_neg (by lia), if_pos (by lia)]
          exact Ordr.lt_le hl (ev _ _ (by lia) (by lia) (by lia) (by lia)))
        refine wpS_bind (wpS_lift (wpAny_rule ⟨rfl, ?_⟩))
        refine wpS_bind (down _ (n + 1) D0 (by lia) _ fun z' m q D1 hm => ?_)
        dsimp only
        by_cases hq : q > 0
        · rw [if_pos hq]
          refine wpS_bind ?_
          rw [reverseSlice'_eq]
          refine wpS_modify ?_
          have D2 := D1.turn hm hn
          rw [reverseSlice'_eq]
          refine wpS_bind (wpS_modify ?_)
          exact wpS_bind (up _ m (D2.bas.set (mirror_perm _ _ _ _)) (by have := D2.q1; lia) hm (fall_turn D2.fall (by rw [D2.bas.size]; lia)) _ fun n' g1 g2 g3 _ => wpS_pure (h _ n' (D2.bas.set (mirror_perm _ _ _ _)) D2.pend (D2.only.trans (mirror_only (by rw [D2.bas.size]; lia) (Nat.le_refl _) (by lia))) (by have := D2.q1; lia) g2 g3))
        · rw [if_neg hq]
          have e0 : q = 0 := by lia
          subst e0
          rw [reverseSlice'_eq]
          refine wpS_bind (wpS_modify ?_)
          exact wpS_bind (up _ m (D1.bas.set (mirror_perm _ _ _ _)) (by have := D1.q1; lia) hm (fall_turn D1.fall (by rw [D1.bas.size]; lia)) _ fun n' g1 g2 g3 _ => wpS_pure (h _ n' (D1.bas.set (mirror_perm _ _ _ _)) D1.pend (D1.only.trans (mirror_only (by rw [D1.bas.size]; lia) (Nat.le_refl _) (by lia))) (by have := D1.q1; lia) g2 g3))
    · rw [if_neg hn1]
      have : n = 1 := by lia
      subst this
      have D0 := dn st hB rfl (OnlyA.refl _ _ _) (fun i j z1 z2 z3 z4 => by
        have e0 : i = j := by lia
        subst e0; exact Ordr.le_refl _) hl
      refine wpS_bind (wpS_lift (wpAny_rule ⟨rfl, ?_⟩))
      refine wpS_bind (down _ (1 + 1) D0 (by lia) _ fun z' m q D1 hm => ?_)
      dsimp only
      by_cases hq : q > 0
      · rw [if_pos hq]
        refine wpS_bind ?_
        rw [reverseSlice'_eq]
        refine wpS_modify ?_
        have D2 := D1.turn hm hn
        rw [reverseSlice'_eq]
        refine wpS_bind (wpS_modify ?_)
        exact wpS_bind (up _ m (D2.bas.set (mirror_perm _ _ _ _)) (by have := D2.q1; lia) hm (fall_turn D2.fall (by rw [D2.bas.size]; lia)) _ fun n' g1 g2 g3 _ => wpS_pure (h _ n' (D2.bas.set (mirror_perm _ _ _ _)) D2.pend (D2.only.trans (mirror_only (by rw [D2.bas.size]; lia) (Nat.le_refl _) (by lia))) (by have := D2.q1; lia) g2 g3))
      · rw [if_neg hq]
        have e0 : q = 0 := by lia
        subst e0
        rw [reverseSlice'_eq]
        refine wpS_bind (wpS_modify ?_)
        exact wpS_bind (up _ m (D1.bas.set (mirror_perm _ _ _ _)) (by have := D1.q1; lia) hm (fall_turn D1.fall (by rw [D1.bas.size]; lia)) _ fun n' g1 g2 g3 _ => wpS_pure (h _ n' (D1.bas.set (mirror_perm _ _ _ _)) D1.pend (D1.only.trans (mirror_only (by rw [D1.bas.size]; lia) (Nat.le_refl _) (by lia))) (by have := D1.q1; lia) g2 g3))
end
end L2

namespace L2
open PySem PySem.Spec PyProof.Rows
/-! ### how far a key goes into a run -/
def gal : Bool → Keyed → Array Keyed → Nat → Nat → Nat → StateT SortSt Sem (Option Nat) := sortPriv% PySem.Builtin.gallop
theorem gal_eq (lf : Bool) (ky : Keyed) (xs : Array Keyed) (b0 n hint : Nat) : gal lf ky xs b0 n hint = (do
  let past (i : Nat) : StateT SortSt Sem (Option Bool) := do
    let x ← elem' xs (b0 + i)
    if lf then lt' x ky else return (← lt' ky x).map (!·)
  let mut p1 := 0
  let mut p2 := 1
  let mut lo := 0
  let mut hi := 0
  let some rt ← past hint | return none
  if rt then
    let mo := n - hint
    for _ in [0:n] do
      if p2 ≥ mo then break
      let some yet ← past (hint + p2) | return none
      if !yet then break
      p1 := p2
      p2 := 2 * p2 + 1
    lo := hint + p1 + 1
    hi := hint + min p2 mo
  else
    let mo := hint + 1
    for _ in [0:n] do
      if p2 ≥ mo then break
      let some yet ← past (hint - p2) | return none
      if yet then break
      p1 := p2
      p2 := 2 * p2 + 1
    lo := hint + 1 - min p2 mo
    hi := hint - p1
  for _ in [0:n] do
    if lo ≥ hi then break
    let m := lo + (hi - lo) / 2
    let some yet ← past m | return none
    if yet then lo := m + 1 else hi := m
  return some hi) := rfl
section
variable {κ : Type} {O : Ordr κ} {key : Keyed → κ} {prog : Program} {w : World} {A : Around} {E : Value → Shared → Prop} {s : Shared} {a₀ : Array Keyed} {kd : SortKind}
/-- yes to a place, no from it on -/
structure Edge (P : Nat → Bool) (n k : Nat) : Prop where
  le : k ≤ n
  yes : ∀ i, i < k → P i = true
  no : ∀ i, k ≤ i → i < n → P i = false
def pastP (O : Ordr κ) (key : Keyed → κ) (lf : Bool) (ky : Keyed) (xs : Array Keyed) (b0 i : Nat) : Bool := if lf = true then O.lt (kk key xs (b0 + i)) (key ky) else !O.lt (key ky) (kk key xs (b0 + i))
theorem t_gal (C : Cmp O key prog w A E s a₀ kd) {st : SortSt} {lf : Bool} {ky : Keyed} {xs : Array Keyed} {b0 n hint : Nat} {Q : Option Nat → SortSt → Prop} (hk : kindOf st = kd) (mk : ky ∈ a₀) (mx : ∀ i, i < n → ∃ x, xs[b0 + i]? = some x ∧ x ∈ a₀) (hr : Rise O key xs b0 (b0 + n)) (hh : hint < n)
    (h : ∀ k, Edge (pastP O key lf ky xs b0) n k → Q (some k) st) : wpS (model prog w) A E s (gal lf ky xs b0 n hint) Q st := by
  rw [gal_eq]
  generalize hP : pastP O key lf ky xs b0 = P at h
  have mono : ∀ i j, i ≤ j → j < n → P j = true → P i = true := by
    intro i j h1 h2 h3
    rw [← hP] at h3 ⊢
    unfold pastP at h3 ⊢
    have hle := hr (b0 + i) (b0 + j) (by lia) (by lia) (by lia)
    cases lf with
    | true =>
      rw [if_pos rfl] at h3 ⊢
      exact Ordr.le_lt hle h3
    | false =>
      rw [if_neg Bool.false_ne_true] at h3 ⊢
      cases z : O.lt (key ky) (kk key xs (b0 + i)) with
      | false => rfl
      | true => rw [Ordr.lt_le z hle] at h3; cases h3
  have monoF : ∀ i j, i ≤ j → j < n → P i = false → P j = false := fun i j h1 h2 h3 => by
    cases z : P j with
    | false => rfl
    | true => rw [mono i j h1 h2 z] at h3; cases h3
  have past : ∀ i, i < n → ∀ Q' : Option Bool → SortSt → Prop, Q' (some (P i)) st → wpS (model prog w) A E s (do
      let x ← elem' xs (b0 + i)
      if lf = true then lt' x ky else do
        let y ← lt' ky x
        pure (y.map (!·))) Q' st := by
    intro i hi Q' q
    obtain ⟨x, ex, mx⟩ := mx i hi
    rw [elem'_eq, ex]
    refine wpS_bind (wpS_pure ?_)
    have ek : kk key xs (b0 + i) = key x := by unfold kk; rw [ex]; rfl
    rw [← hP] at q
    unfold pastP at q
    rw [ek] at q
    cases lf with
    | true =>
      rw [if_pos rfl] at q ⊢
      exact C x ky mx mk st _ hk q
    | false =>
      rw [if_neg Bool.false_ne_true] at q ⊢
      exact wpS_bind (C ky x mk mx st _ hk (wpS_pure q))
  -- by halves
  have halves : ∀ lo hi, lo ≤ hi → hi ≤ n → (∀ i, i < lo → P i = true) → (∀ i, hi ≤ i → i < n → P i = false) → ∀ Q' : Option (Option Nat) × Nat × Nat → SortSt → Prop, (∀ k, Edge P n k → Q' (none, k, k) st) →
      wpS (model prog w) A E s (forIn [0:n] ((none, lo, hi) : Option (Option Nat) × Nat × Nat) fun _ r =>
        if r.2.1 ≥ r.2.2 then pure (ForInStep.done (none, r.2.1, r.2.2)) else do
          let y ← (do
            let x ← elem' xs (b0 + (r.2.1 + (r.2.2 - r.2.1) / 2))
            if lf = true then lt' x ky else do
              let y ← lt' ky x
              pure (y.map (!·)))
          match y with
          | some yet => if yet = true then pure (ForInStep.yield (none, r.2.1 + (r.2.2 - r.2.1) / 2 + 1, r.2.2)) else pure (ForInStep.yield (none, r.2.1, r.2.1 + (r.2.2 - r.2.1) / 2))
          | _ => pure (ForInStep.done (some none, r.2.1, r.2.2))) Q' st := by
    intro lo hi h1 h2 h3 h4 Q' hQ
    refine wpS_forRange (I := fun x c z => z = st ∧ ∃ l r, c = (none, l, r) ∧ l ≤ r ∧ r ≤ n ∧ (r - l) + x ≤ n ∧ (∀ i, i < l → P i = true) ∧ (∀ i, r ≤ i → i < n → P i = false)) ?_ ?_ ⟨rfl, lo, hi, rfl, h1, h2, by lia, h3, h4⟩
    · rintro x c z _ hx ⟨rfl, l, r, rfl, g1, g2, g3, g4, g5⟩
      dsimp only
      by_cases hlr : l ≥ r
      · rw [if_pos hlr]
        have e : l = r := by lia
        subst e
        exact wpS_pure (hQ l ⟨g2, g4, g5⟩)
      · rw [if_neg hlr]
        refine wpS_bind (past _ (by lia) _ ?_)
        dsimp only
        by_cases hc : P (l + (r - l) / 2) = true
        · rw [if_pos hc]
          exact wpS_pure ⟨rfl, _, r, rfl, by lia, g2, by lia, fun i hi => mono _ _ (by lia) (by lia) hc, g5⟩
        · rw [if_neg hc]
          have hf : P (l + (r - l) / 2) = false := by simpa using hc
          exact wpS_pure ⟨rfl, l, _, rfl, by lia, by lia, by lia, g4, fun i hi hn => monoF _ _ hi hn hf⟩
    · rintro c z ⟨rfl, l, r, rfl, g1, g2, g3, g4, g5⟩
      have e : l = r := by lia
      subst e
      exact hQ l ⟨g2, g4, g5⟩
  dsimp only
  refine wpS_bind (past hint hh _ ?_)
  dsimp only
  by_cases hc : P hint = true
  · rw [if_pos hc]
    refine wpS_bind (wpS_mono (wpS_forRange (I := fun x c z => z = st ∧ ∃ q1 q2, c = (none, q1, q2) ∧ q1 < q2 ∧ x + 1 ≤ q2 ∧ hint + q1 < n ∧ P (hint + q1) = true) (Q := fun c z => z = st ∧ ∃ q1 q2, c = (none, q1, q2) ∧ q1 < q2 ∧ hint + q1 < n ∧ P (hint + q1) = true ∧ (q2 < n - hint → P (hint + q2) = false)) ?_ ?_ ⟨rfl, 0, 1, rfl, by lia, by lia, by lia, hc⟩) ?_)
    · rintro x c z _ hx ⟨rfl, q1, q2, rfl, g1, g2, g3, g4⟩
      dsimp only
      by_cases hm : q2 ≥ n - hint
      · rw [if_pos hm]
        exact wpS_pure ⟨rfl, q1, q2, rfl, g1, g3, g4, fun z => by lia⟩
      · rw [if_neg hm]
        refine wpS_bind (past _ (by lia) _ ?_)
        dsimp only
        cases hy : P (hint + q2) with
        | false =>
          rw [if_pos (by decide)]
          exact wpS_pure ⟨rfl, q1, q2, rfl, g1, g3, g4, fun _ => hy⟩
        | true =>
          rw [if_neg (by decide)]
          exact wpS_pure ⟨rfl, q2, 2 * q2 + 1, rfl, by lia, by lia, by lia, hy⟩
    · rintro c z ⟨rfl, q1, q2, rfl, g1, g2, g3, g4⟩
      exact ⟨rfl, q1, q2, rfl, g1, g3, g4, fun z => by lia⟩
    · rintro c z ⟨rfl, q1, q2, rfl, g1, g3, g4, g5⟩
      dsimp only
      refine wpS_bind (halves _ _ (by lia) (by lia) (fun i hi => mono _ _ (by lia) g3 g4) (fun i h1 h2 => ?_) _ fun k e => ?_)
      · exact monoF _ _ (show hint + q2 ≤ i by lia) h2 (g5 (by lia))
      · exact wpS_pure (h k e)
  · rw [if_neg hc]
    have hf : P hint = false := by simpa using hc
    refine wpS_bind (wpS_mono (wpS_forRange (I := fun x c z => z = st ∧ ∃ q1 q2, c = (none, q1, q2) ∧ q1 < q2 ∧ x + 1 ≤ q2 ∧ q1 ≤ hint ∧ P (hint - q1) = false) (Q := fun c z => z = st ∧ ∃ q1 q2, c = (none, q1, q2) ∧ q1 < q2 ∧ q1 ≤ hint ∧ P (hint - q1) = false ∧ (q2 < hint + 1 → P (hint - q2) = true)) ?_ ?_ ⟨rfl, 0, 1, rfl, by lia, by lia, by lia, hf⟩) ?_)
    · rintro x c z _ hx ⟨rfl, q1, q2, rfl, g1, g2, g3, g4⟩
      dsimp only
      by_cases hm : q2 ≥ hint + 1
      · rw [if_pos hm]
        exact wpS_pure ⟨rfl, q1, q2, rfl, g1, g3, g4, fun z => by lia⟩
      · rw [if_neg hm]
        refine wpS_bind (past _ (by lia) _ ?_)
        dsimp only
        cases hy : P (hint - q2) with
        | true =>
          rw [if_pos rfl]
          exact wpS_pure ⟨rfl, q1, q2, rfl, g1, g3, g4, fun _ => hy⟩
        | false =>
          rw [if_neg Bool.false_ne_true]
          exact wpS_pure ⟨rfl, q2, 2 * q2 + 1, rfl, by lia, by lia, by lia, hy⟩
    · rintro c z ⟨rfl, q1, q2, rfl, g1, g2, g3, g4⟩
      exact ⟨rfl, q1, q2, rfl, g1, g3, g4, fun z => by lia⟩
    · rintro c z ⟨rfl, q1, q2, rfl, g1, g3, g4, g5⟩
      dsimp only
      refine wpS_bind (halves _ _ (by lia) (by lia) (fun i hi => ?_) (fun i h1 h2 => monoF _ _ h1 h2 g4) _ fun k e => ?_)
      · exact mono _ _ (show i ≤ hint - q2 by lia) (by lia) (g5 (by lia))
      · exact wpS_pure (h k e)
end
end L2

namespace L2
open PySem PySem.Spec PyProof.Rows
/-! ### two runs made one -/
section
variable {κ : Type} {O : Ordr κ} {key : Keyed → κ}
def LeL (O : Ordr κ) (key : Keyed → κ) (xs ys : List Keyed) : Prop := ∀ x ∈ xs, ∀ y ∈ ys, O.le (key x) (key y)
def Up (O : Ordr κ) (key : Keyed → κ) (xs : List Keyed) : Prop := xs.Pairwise fun x y => O.le (key x) (key y)
/-- taken from the front, what is left of both behind it -/
structure Mg (O : Ordr κ) (key : Keyed → κ) (T out xs ys : List Keyed) : Prop where
  perm : (out ++ (xs ++ ys)).Perm T
  up : Up O key out
  lx : LeL O key out xs
  ly : LeL O key out ys
  ux : Up O key xs
  uy : Up O key ys
theorem Up.app {xs ys : List Keyed} (h1 : Up O key xs) (h2 : Up O key ys) (h3 : LeL O key xs ys) : Up O key (xs ++ ys) := List.pairwise_append.mpr ⟨h1, h2, h3⟩
theorem Mg.mvX {T out x1 x2 ys : List Keyed} (h : Mg O key T out (x1 ++ x2) ys) (g : LeL O key x1 ys) : Mg O key T (out ++ x1) x2 ys := by
  have ux := List.pairwise_append.mp h.ux
  refine ⟨by have := h.perm; simpa using this, Up.app h.up ux.1 fun x hx y hy => h.lx x hx y (List.mem_append_left _ hy), fun x hx y hy => ?_, fun x hx y hy => ?_, ux.2.1, h.uy⟩
  · rcases List.mem_append.mp hx with z | z
    · exact h.lx x z y (List.mem_append_right _ hy)
    · exact ux.2.2 x z y hy
  · rcases List.mem_append.mp hx with z | z
    · exact h.ly x z y hy
    · exact g x z y hy
theorem Mg.mvY {T out xs y1 y2 : List Keyed} (h : Mg O key T out xs (y1 ++ y2)) (g : LeL O key y1 xs) : Mg O key T (out ++ y1) xs y2 := by
  have uy := List.pairwise_append.mp h.uy
  refine ⟨?_, Up.app h.up uy.1 fun x hx y hy => h.ly x hx y (List.mem_append_left _ hy), fun x hx y hy => ?_, fun x hx y hy => ?_, h.ux, uy.2.1⟩
  · refine List.Perm.trans ?_ h.perm
    rw [List.append_assoc]
    refine List.Perm.append_left _ ?_
    rw [← List.append_assoc, ← List.append_assoc]
    exact List.Perm.append_right _ List.perm_append_comm
  · rcases List.mem_append.mp hx with z | z
    · exact h.lx x z y hy
    · exact g x z y hy
  · rcases List.mem_append.mp hx with z | z
    · exact h.ly x z y (List.mem_append_right _ hy)
    · exact uy.2.2 x z y hy
/-- what is told at the end -/
def Made (O : Ordr κ) (key : Keyed → κ) (T : List Keyed) (r : List Keyed) : Prop := r.Perm T ∧ Up O key r
theorem Mg.endY {T out xs : List Keyed} (h : Mg O key T out xs []) : Made O key T (out ++ xs) := ⟨by have := h.perm; simpa using this, Up.app h.up h.ux h.lx⟩
theorem Mg.endX {T out xs ys : List Keyed} (h : Mg O key T out xs ys) (g : LeL O key ys xs) : Made O key T (out ++ ys ++ xs) := by
  refine ⟨?_, Up.app (Up.app h.up h.uy h.ly) h.ux fun x hx y hy => ?_⟩
  · refine List.Perm.trans ?_ h.perm
    rw [List.append_assoc]
    exact List.Perm.append_left _ List.perm_append_comm
  · rcases List.mem_append.mp hx with z | z
    · exact h.lx x z y hy
    · exact g x z y hy
theorem up_drop {xs : List Keyed} {n : Nat} (h : Up O key xs) : Up O key (xs.drop n) := h.sublist (List.drop_sublist _ _)
theorem up_head {x y : Keyed} {xs : List Keyed} (h : Up O key (x :: xs)) (hy : y ∈ x :: xs) : O.le (key x) (key y) := by
  rcases List.mem_cons.mp hy with rfl | z
  · exact Ordr.le_refl _
  · exact (List.pairwise_cons.mp h).1 y z
end
/-! ### from the front -/
def mgLo : Array Keyed → Array Keyed → StateT SortSt Sem (Array Keyed) := sortPriv% PySem.Builtin.mergeLo
def setG (g : Nat) : StateT SortSt Sem Unit := modify fun s => SortSt.mk' (kindOf s) (arrOf s) (pendingOf s) g (failedOf s)
theorem mgLo_eq (xa xb : Array Keyed) : mgLo xa xb = (do
  rule "list.sort.merge-lo"
  let tot := xa.size + xb.size
  let fin (o : Array Keyed) (i j : Nat) := o ++ xa.extract i xa.size ++ xb.extract j xb.size
  let oneA (o : Array Keyed) (i j : Nat) := o ++ xb.extract j xb.size ++ xa.extract i xa.size
  let mut o : Array Keyed := #[← elem' xb 0]
  let mut i := 0
  let mut j := 1
  if j == xb.size then return fin o i j
  if i + 1 == xa.size then return oneA o i j
  let mut mg := gallopOf (← get)
  for _ in [0:tot] do
    let mut ca := 0
    let mut cb := 0
    for _ in [0:tot] do
      let some won ← lt' (← elem' xb j) (← elem' xa i) | return fin o i j
      if won then
        o := o.push (← elem' xb j); j := j + 1; cb := cb + 1; ca := 0
        if j == xb.size then return fin o i j
        if cb ≥ mg then break
      else
        o := o.push (← elem' xa i); i := i + 1; ca := ca + 1; cb := 0
        if i + 1 == xa.size then return oneA o i j
        if ca ≥ mg then break
    rule "list.sort.gallop"
    mg := mg + 1
    for _ in [0:tot] do
      if mg > 1 then mg := mg - 1
      setG mg
      let some k ← gal false (← elem' xb j) xa i (xa.size - i) 0 | return fin o i j
      ca := k
      if k > 0 then
        o := o ++ xa.extract i (i + k); i := i + k
        if i + 1 == xa.size then return oneA o i j
        if i == xa.size then return fin o i j
      o := o.push (← elem' xb j); j := j + 1
      if j == xb.size then return fin o i j
      let some k ← gal true (← elem' xa i) xb j (xb.size - j) 0 | return fin o i j
      cb := k
      if k > 0 then
        o := o ++ xb.extract j (j + k); j := j + k
        if j == xb.size then return fin o i j
      o := o.push (← elem' xa i); i := i + 1
      if i + 1 == xa.size then return oneA o i j
      if ca < 7 && cb < 7 then break
    mg := mg + 1
    setG mg
  unsupported "internal:list.sort.merge-bound") := rfl
end L2

namespace L2
open PySem PySem.Spec PyProof.Rows
section
variable {κ : Type} {O : Ordr κ} {key : Keyed → κ} {prog : Program} {w : World} {A : Around} {E : Value → Shared → Prop} {s : Shared} {a₀ : Array Keyed} {kd : SortKind}
/-- alike but for the number that the gallop begins with -/
structure SamS (st z : SortSt) : Prop where
  arr : arrOf z = arrOf st
  kind : kindOf z = kindOf st
  pend : pendingOf z = pendingOf st
  failed : failedOf z = failedOf st
theorem SamS.refl (st : SortSt) : SamS st st := ⟨rfl, rfl, rfl, rfl⟩
theorem t_setG {M : Model} {z : SortSt} {g : Nat} {Q : PUnit → SortSt → Prop} (h : Q ⟨⟩ (SortSt.mk' (kindOf z) (arrOf z) (pendingOf z) g (failedOf z))) : wpS M A E s (setG g) Q z := wpS_modify h
theorem SamS.setG {st z : SortSt} (h : SamS st z) (g : Nat) : SamS st (SortSt.mk' (kindOf z) (arrOf z) (pendingOf z) g (failedOf z)) := ⟨h.arr, h.kind, h.pend, h.failed⟩
theorem t_elem {M : Model} {z : SortSt} {xs : Array Keyed} {i : Nat} {x : Keyed} {Q : Keyed → SortSt → Prop} (e : xs[i]? = some x) (h : Q x z) : wpS M A E s (elem' xs i) Q z := by
  rw [elem'_eq, e]
  exact wpS_pure h
theorem kk_at {xs : Array Keyed} {i : Nat} {x : Keyed} (e : xs[i]? = some x) : kk key xs i = key x := by unfold kk; rw [e]; rfl
theorem drop_at {xs : Array Keyed} {i : Nat} {x : Keyed} (e : xs[i]? = some x) : xs.toList.drop i = x :: xs.toList.drop (i + 1) := by
  rw [← Array.getElem?_toList] at e
  obtain ⟨h1, h2⟩ := List.getElem?_eq_some_iff.mp e
  rw [List.drop_eq_getElem_cons h1, h2]
theorem up_rise {xs : Array Keyed} (h : Up O key xs.toList) (lo hi : Nat) (hh : hi ≤ xs.size) : Rise O key xs lo hi := fun i j h1 h2 h3 => by
  have l1 : i < xs.size := by lia
  have l2 : j < xs.size := by lia
  rw [kk_at (x := xs[i]) (by simp [l1]), kk_at (x := xs[j]) (by simp [l2])]
  rcases Nat.lt_or_eq_of_le h2 with z | z
  · have := List.pairwise_iff_getElem.mp h i j (by simpa using l1) (by simpa using l2) z
    simpa using this
  · subst z; exact Ordr.le_refl _
theorem rest_toList (xs : Array Keyed) (i : Nat) : (xs.extract i xs.size).toList = xs.toList.drop i := by
  rw [Array.toList_extract, List.extract_eq_drop_take]
  exact List.take_of_length_le (by rw [List.length_drop]; simp)
theorem part_toList (xs : Array Keyed) (i k : Nat) : (xs.extract i (i + k)).toList = (xs.toList.drop i).take k := by
  rw [Array.toList_extract, List.extract_eq_drop_take, Nat.add_sub_cancel_left]
/-- on the way from the front -/
structure JLo (O : Ordr κ) (key : Keyed → κ) (xa xb : Array Keyed) (T : List Keyed) (o : Array Keyed) (i j : Nat) : Prop where
  mg : Mg O key T o.toList (xa.toList.drop i) (xb.toList.drop j)
  i1 : i + 1 < xa.size
  j1 : j < xb.size
  sz : o.size = i + j
/-- what both have to be -/
structure Two (O : Ordr κ) (key : Keyed → κ) (a₀ xa xb : Array Keyed) : Prop where
  ma : ∀ (i : Nat) (x : Keyed), xa[i]? = some x → x ∈ a₀
  mb : ∀ (i : Nat) (x : Keyed), xb[i]? = some x → x ∈ a₀
  ua : Up O key xa.toList
  ub : Up O key xb.toList
  na : 1 ≤ xa.size
  nb : 1 ≤ xb.size
  first : ∀ x y : Keyed, xa[0]? = some x → xb[0]? = some y → O.lt (key y) (key x) = true
  last : ∀ (x y : Keyed) (j : Nat), xa[xa.size - 1]? = some x → xb[j]? = some y → O.lt (key y) (key x) = true
variable {xa xb : Array Keyed} {T : List Keyed} {o : Array Keyed} {i j : Nat}
theorem lo_fin (h : Mg O key T o.toList (xa.toList.drop i) (xb.toList.drop j)) (e : j = xb.size) : Made O key T (o ++ xa.extract i xa.size ++ xb.extract j xb.size).toList := by
  rw [Array.toList_append, Array.toList_append, rest_toList, rest_toList]
  have e0 : xb.toList.drop j = [] := List.drop_eq_nil_of_le (by rw [e]; simp)
  rw [e0] at h ⊢
  rw [List.append_nil]
  exact h.endY
theorem lo_one (W : Two O key a₀ xa xb) (h : Mg O key T o.toList (xa.toList.drop i) (xb.toList.drop j)) (e : i + 1 = xa.size) : Made O key T (o ++ xb.extract j xb.size ++ xa.extract i xa.size).toList := by
  rw [Array.toList_append, Array.toList_append, rest_toList, rest_toList]
  refine h.endX fun y hy x hx => ?_
  have l1 : i < xa.size := by lia
  have ex : xa[i]? = some xa[i] := by simp [l1]
  rw [drop_at ex, List.drop_eq_nil_of_le (by simp; lia)] at hx
  rw [List.mem_singleton.mp hx]
  obtain ⟨q, hq⟩ := List.mem_iff_getElem?.mp hy
  rw [List.getElem?_drop, Array.getElem?_toList] at hq
  exact Ordr.le_of_lt (W.last _ y _ (by rw [show xa.size - 1 = i by lia]; exact ex) hq)
theorem le_drop {xs : Array Keyed} {k : Nat} {y z : Keyed} (hu : Up O key xs.toList) (e : xs[k]? = some y) (h : O.le (key z) (key y)) : LeL O key [z] (xs.toList.drop k) := fun u hu' v hv => by
  rw [List.mem_singleton.mp hu']
  rw [drop_at e] at hv
  have := up_drop (n := k) hu
  rw [drop_at e] at this
  exact Ordr.le_trans h (up_head this hv)
theorem lo_B (W : Two O key a₀ xa xb) (h : Mg O key T o.toList (xa.toList.drop i) (xb.toList.drop j)) {x y : Keyed} (ex : xa[i]? = some x) (ey : xb[j]? = some y) (hc : O.le (key y) (key x)) : Mg O key T (o.push y).toList (xa.toList.drop i) (xb.toList.drop (j + 1)) := by
  rw [drop_at ey] at h
  have := h.mvY (y1 := [y]) (le_drop W.ua ex hc)
  rw [Array.toList_push]
  exact this
theorem lo_A (W : Two O key a₀ xa xb) (h : Mg O key T o.toList (xa.toList.drop i) (xb.toList.drop j)) {x y : Keyed} (ex : xa[i]? = some x) (ey : xb[j]? = some y) (hc : O.le (key x) (key y)) : Mg O key T (o.push x).toList (xa.toList.drop (i + 1)) (xb.toList.drop j) := by
  rw [drop_at ex] at h
  have := h.mvX (x1 := [x]) (le_drop W.ub ey hc)
  rw [Array.toList_push]
  exact this
theorem edgeA (W : Two O key a₀ xa xb) {k : Nat} {y : Keyed} (ey : xb[j]? = some y) (hi : i < xa.size) (g : Edge (pastP O key false y xa i) (xa.size - i) k) : i + k < xa.size ∧ ∀ x, xa[i + k]? = some x → O.lt (key y) (key x) = true := by
  have lt : i + k < xa.size := by
    by_cases z : i + k < xa.size
    · exact z
    · have hk : k = xa.size - i := by have := g.le; lia
      have l1 : xa.size - 1 < xa.size := by lia
      have ex : xa[xa.size - 1]? = some xa[xa.size - 1] := by simp [l1]
      have h1 := g.yes (xa.size - 1 - i) (by lia)
      unfold pastP at h1
      rw [if_neg Bool.false_ne_true, show i + (xa.size - 1 - i) = xa.size - 1 by lia, kk_at ex, W.last _ y _ ex ey] at h1
      cases h1
  refine ⟨lt, fun x ex => ?_⟩
  have h1 := g.no k (Nat.le_refl _) (by lia)
  unfold pastP at h1
  rw [if_neg Bool.false_ne_true, kk_at ex] at h1
  cases z : O.lt (key y) (key x) with
  | true => rfl
  | false => rw [z] at h1; cases h1
theorem lo_GA (W : Two O key a₀ xa xb) (h : Mg O key T o.toList (xa.toList.drop i) (xb.toList.drop j)) {k : Nat} {y : Keyed} (ey : xb[j]? = some y) (g : Edge (pastP O key false y xa i) (xa.size - i) k) : Mg O key T (o ++ xa.extract i (i + k)).toList (xa.toList.drop (i + k)) (xb.toList.drop j) := by
  rw [Array.toList_append, part_toList, ← List.drop_drop]
  rw [← List.take_append_drop k (xa.toList.drop i)] at h
  refine h.mvX fun x hx v hv => ?_
  obtain ⟨q, hq⟩ := List.mem_iff_getElem?.mp hx
  have hqk : q < k := by
    have := (List.getElem?_eq_some_iff.mp hq).1
    rw [List.length_take] at this; lia
  rw [List.getElem?_take_of_lt hqk, List.getElem?_drop, Array.getElem?_toList] at hq
  have h1 := g.yes q hqk
  unfold pastP at h1
  rw [if_neg Bool.false_ne_true, kk_at hq] at h1
  have h2 : O.le (key x) (key y) := by
    show O.lt (key y) (key x) = false
    cases z : O.lt (key y) (key x) with
    | false => rfl
    | true => rw [z] at h1; cases h1
  exact le_drop W.ub ey h2 x (List.mem_singleton.mpr rfl) v hv
theorem lo_GB (W : Two O key a₀ xa xb) (h : Mg O key T o.toList (xa.toList.drop i) (xb.toList.drop j)) {k : Nat} {x : Keyed} (ex : xa[i]? = some x) (g : Edge (pastP O key true x xb j) (xb.size - j) k) : Mg O key T (o ++ xb.extract j (j + k)).toList (xa.toList.drop i) (xb.toList.drop (j + k)) ∧ ∀ y, j + k < xb.size → xb[j + k]? = some y → O.le (key x) (key y) := by
  constructor
  · rw [Array.toList_append, part_toList, ← List.drop_drop]
    rw [← List.take_append_drop k (xb.toList.drop j)] at h
    refine h.mvY fun y hy v hv => ?_
    obtain ⟨q, hq⟩ := List.mem_iff_getElem?.mp hy
    have hqk : q < k := by
      have := (List.getElem?_eq_some_iff.mp hq).1
      rw [List.length_take] at this; lia
    rw [List.getElem?_take_of_lt hqk, List.getElem?_drop, Array.getElem?_toList] at hq
    have h1 := g.yes q hqk
    unfold pastP at h1
    rw [if_pos rfl, kk_at hq] at h1
    exact le_drop W.ua ex (Ordr.le_of_lt h1) y (List.mem_singleton.mpr rfl) v hv
  · intro y hl ey
    have h1 := g.no k (Nat.le_refl _) (by lia)
    unfold pastP at h1
    rw [if_pos rfl, kk_at ey] at h1
    exact h1
theorem at_lt {xs : Array Keyed} {i : Nat} (h : i < xs.size) : xs[i]? = some xs[i] := by simp [h]
theorem sz_part (xs o : Array Keyed) (i k : Nat) (h : i + k ≤ xs.size) : (o ++ xs.extract i (i + k)).size = o.size + k := by
  rw [Array.size_append, Array.size_extract]; lia
/-- two ways that meet again -/
theorem jp1 {M : Model} {α : Type} {Q : α → SortSt → Prop} {z : SortSt} {c : Nat → Prop} {dc : ∀ g, Decidable (c g)} {x F : Nat → StateT SortSt Sem α} (hx : ∀ g, x g = F (g - 1)) (h : ∀ g, wpS M A E s (F g) Q z) : ∀ g, wpS M A E s (@ite _ (c g) (dc g) (x g) (F g)) Q z := fun g => by
  rw [hx]
  split
  · exact h _
  · exact h _
theorem jp2 {M : Model} {α : Type} {Q : α → SortSt → Prop} {z : SortSt} {c : Nat → Prop} {dc : ∀ i, Decidable (c i)} {x F : Array Keyed → Nat → StateT SortSt Sem α} {o : Array Keyed} {i : Nat} (P : Array Keyed → Nat → Prop) (h : ∀ o i, P o i → wpS M A E s (F o i) Q z) (h1 : c i → (∀ o i, P o i → wpS M A E s (F o i) Q z) → wpS M A E s (x o i) Q z) (h2 : ¬ c i → P o i) : ∀ o', o = o' → ∀ i', i = i' → wpS M A E s (@ite _ (c i') (dc i') (x o' i') (F o' i')) Q z := by
  rintro _ rfl _ rfl
  split
  · exact h1 ‹_› h
  · exact h _ _ (h2 ‹_›)
theorem t_mgLo (C : Cmp O key prog w A E s a₀ kd) {st : SortSt} {Q : Array Keyed → SortSt → Prop} (hk : kindOf st = kd) (W : Two O key a₀ xa xb)
    (h : ∀ r z, SamS st z → Made O key (xa.toList ++ xb.toList) r.toList → Q r z) : wpS (model prog w) A E s (mgLo xa xb) Q st := by
  obtain ⟨T, hT⟩ : ∃ T, T = xa.toList ++ xb.toList := ⟨_, rfl⟩
  rw [← hT] at h
  have na := W.na
  have nb := W.nb
  rw [mgLo_eq]
  refine wpS_bind (wpS_lift (wpAny_rule ⟨rfl, ?_⟩))
  dsimp only
  have ey0 := at_lt (xs := xb) (i := 0) (by lia)
  have ex0 := at_lt (xs := xa) (i := 0) (by lia)
  have M0 : Mg O key T #[xb[0]].toList (xa.toList.drop 0) (xb.toList.drop 1) := by
    have h0 : Mg O key T [] (xa.toList.drop 0) (xb.toList.drop 0) := ⟨by rw [hT]; simp, List.Pairwise.nil, (fun x hx => by cases hx), (fun x hx => by cases hx), by simpa using W.ua, by simpa using W.ub⟩
    exact lo_B (o := #[]) W h0 ex0 ey0 (Ordr.le_of_lt (W.first _ _ ex0 ey0))
  refine wpS_bind (t_elem ey0 ?_)
  by_cases e1 : 1 = xb.size
  · rw [if_pos (by rw [← e1]; rfl)]
    exact wpS_pure (h _ st (SamS.refl _) (lo_fin M0 e1))
  rw [if_neg (by simpa using e1)]
  by_cases e2 : 0 + 1 = xa.size
  · rw [if_pos (by rw [← e2]; rfl)]
    exact wpS_pure (h _ st (SamS.refl _) (lo_one W M0 e2))
  rw [if_neg (by simpa using e2)]
  refine wpS_bind (wpS_get ?_)
  have J0 : JLo O key xa xb T #[xb[0]] 0 1 := ⟨M0, by lia, by lia, rfl⟩
  refine wpS_bind (wpS_mono (wpS_forRange (I := fun x c z => SamS st z ∧ ∃ o i j g, c = (none, o, i, j, g) ∧ JLo O key xa xb T o i j ∧ x + 1 ≤ o.size) (Q := fun c z => SamS st z ∧ ∃ r, c.1 = some r ∧ Made O key T r.toList) ?out1 ?out2 ⟨SamS.refl _, _, _, _, _, rfl, J0, by simp⟩) ?out3)
  case out3 =>
    rintro ⟨c1, c2⟩ z ⟨SS, r, e, M⟩
    dsimp only at e
    subst e
    exact wpS_pure (h r z SS M)
  case out2 =>
    rintro c z ⟨SS, o, i, j, g, rfl, J, hx⟩
    have := J.sz; have := J.i1; have := J.j1
    lia
  case out1 =>
    rintro x0 c z _ hx0 ⟨SS, o, i, j, g, rfl, J, hx⟩
    dsimp only
    have hkz : kindOf z = kd := SS.kind.trans hk
    -- one by one
    refine wpS_bind (wpS_mono (wpS_forRange (I := fun x c z' => z' = z ∧ ∃ o' i j ca cb, c = (none, o', i, j, ca, cb) ∧ JLo O key xa xb T o' i j ∧ o.size + min x 1 ≤ o'.size) (Q := fun c z' => z' = z ∧ ((∃ o' i j ca cb, c = (none, o', i, j, ca, cb) ∧ JLo O key xa xb T o' i j ∧ o.size + 1 ≤ o'.size) ∨ ∃ r, c.1 = some r ∧ Made O key T r.toList)) ?in1 ?in2 ⟨rfl, o, i, j, 0, 0, rfl, J, by lia⟩) ?in3)
    case in2 =>
      rintro c z' ⟨rfl, o', i, j, ca, cb, rfl, J, hp⟩
      refine ⟨rfl, .inl ⟨o', i, j, ca, cb, rfl, J, ?_⟩⟩
      have : min (max 0 (xa.size + xb.size)) 1 = 1 := by lia
      lia
    case in1 =>
      rintro x c z' _ hx ⟨rfl, o', i, j, ca, cb, rfl, J, hp⟩
      dsimp only
      have ex := at_lt (xs := xa) (i := i) (by have := J.i1; lia)
      have ey := at_lt (xs := xb) (i := j) J.j1
      have i1 := J.i1
      have j1 := J.j1
      refine wpS_bind (t_elem ey (wpS_bind (t_elem ex (wpS_bind (C _ _ (W.mb _ _ ey) (W.ma _ _ ex) z' _ hkz ?_)))))
      dsimp only
      by_cases hc : O.lt (key xb[j]) (key xa[i]) = true
      · rw [if_pos hc]
        refine wpS_bind (t_elem ey ?_)
        have M1 := lo_B W J.mg ex ey (Ordr.le_of_lt hc)
        by_cases e : j + 1 = xb.size
        · rw [if_pos (by simpa using e)]
          exact wpS_pure ⟨rfl, .inr ⟨_, rfl, lo_fin M1 e⟩⟩
        · rw [if_neg (by simpa using e)]
          have J1 : JLo O key xa xb T (o'.push xb[j]) i (j + 1) := ⟨M1, i1, by lia, by rw [Array.size_push, J.sz]; lia⟩
          have sz1 : o.size + 1 ≤ (o'.push xb[j]).size := by rw [Array.size_push]; lia
          split
          · exact wpS_pure ⟨rfl, .inl ⟨_, _, _, _, _, rfl, J1, sz1⟩⟩
          · exact wpS_pure ⟨rfl, _, _, _, _, _, rfl, J1, by lia⟩
      · rw [if_neg hc]
        refine wpS_bind (t_elem ex ?_)
        have M1 := lo_A W J.mg ex ey (Ordr.le_not hc)
        by_cases e : i + 1 + 1 = xa.size
        · rw [if_pos (by simpa using e)]
          exact wpS_pure ⟨rfl, .inr ⟨_, rfl, lo_one W M1 e⟩⟩
        · rw [if_neg (by simpa using e)]
          have J1 : JLo O key xa xb T (o'.push xa[i]) (i + 1) j := ⟨M1, by lia, j1, by rw [Array.size_push, J.sz]; lia⟩
          have sz1 : o.size + 1 ≤ (o'.push xa[i]).size := by rw [Array.size_push]; lia
          split
          · exact wpS_pure ⟨rfl, .inl ⟨_, _, _, _, _, rfl, J1, sz1⟩⟩
          · exact wpS_pure ⟨rfl, _, _, _, _, _, rfl, J1, by lia⟩
    case in3 =>
      rintro c z' ⟨rfl, ⟨o1, i, j, ca, cb, rfl, J1, hp⟩ | ⟨r, e, M⟩⟩
      · dsimp only
        refine wpS_bind (wpS_lift (wpAny_rule ⟨rfl, ?_⟩))
        refine wpS_bind (wpS_mono (wpS_forRange (I := fun x c z => SamS st z ∧ ∃ o' i j g ca cb, c = (none, o', i, j, g, ca, cb) ∧ JLo O key xa xb T o' i j ∧ o.size + 1 ≤ o'.size) (Q := fun c z => SamS st z ∧ ((∃ o' i j g ca cb, c = (none, o', i, j, g, ca, cb) ∧ JLo O key xa xb T o' i j ∧ o.size + 1 ≤ o'.size) ∨ ∃ r, c.1 = some r ∧ Made O key T r.toList)) ?gl1 ?gl2 ⟨SS, o1, i, j, _, _, _, rfl, J1, hp⟩) ?gl3)
        case gl2 =>
          rintro c z ⟨SS, h⟩
          exact ⟨SS, .inl h⟩
        case gl3 =>
          rintro c z ⟨SS, ⟨o', i, j, g, ca, cb, rfl, J, hp⟩ | ⟨r, e, M⟩⟩
          · dsimp only
            exact wpS_bind (t_setG (wpS_pure ⟨SS.setG _, _, _, _, _, rfl, J, by lia⟩))
          · obtain ⟨c1, c2⟩ := c
            dsimp only at e
            subst e
            exact wpS_pure ⟨SS, r, rfl, M⟩
        case gl1 =>
          rintro x c z _ hx ⟨SS, o2, i, j, g, ca, cb, rfl, J, hp⟩
          dsimp only
          revert g
          refine jp1 (fun g => rfl) fun g => ?_
          refine wpS_bind (t_setG ?_)
          have SS1 := SS.setG g
          have i1 := J.i1
          have j1 := J.j1
          have jsz := J.sz
          have ey := at_lt (xs := xb) (i := j) j1
          refine wpS_bind (t_elem ey (wpS_bind (t_gal C (SS1.kind.trans hk) (W.mb _ _ ey) (fun q hq => ⟨_, at_lt (by lia), W.ma _ _ (at_lt (by lia))⟩) (up_rise W.ua _ _ (by lia)) (by lia) fun k eg => ?_)))
          dsimp only
          have M1 := lo_GA W J.mg ey eg
          obtain ⟨lk, ltk⟩ := edgeA W ey (by lia) eg
          obtain ⟨ax, ex⟩ : ∃ ax, xa[i + k]? = some ax := ⟨_, at_lt lk⟩
          have hlt := ltk _ ex
          have sz1 := sz_part xa o2 i k (by lia)
          generalize hgi : i = i'
          revert i'
          generalize hgo : o2 = o'
          revert o'
          refine jp2 (o := o2) (i := i) (fun o3 i3 => i3 + 1 < xa.size ∧ Mg O key T o3.toList (xa.toList.drop i3) (xb.toList.drop j) ∧ o3.size = i3 + j ∧ o.size + 1 ≤ o3.size ∧ xa[i3]? = some ax) ?b1 (fun hk0 hF => ?w1) (fun hk0 => ?w2)
          case w1 =>
            by_cases ea : i + k + 1 = xa.size
            · rw [if_pos (by simpa using ea)]
              exact wpS_pure ⟨SS1, .inr ⟨_, rfl, lo_one W M1 ea⟩⟩
            · rw [if_neg (by simpa using ea), if_neg (by simp; lia)]
              exact hF _ _ ⟨by lia, M1, by lia, by lia, ex⟩
          case w2 =>
            have e5 : k = 0 := by lia
            subst e5
            exact ⟨i1, J.mg, jsz, hp, ex⟩
          case b1 =>
            rintro o3 i3 ⟨hi3, M3, z3, p3, x3⟩
            refine wpS_bind (t_elem ey ?_)
            have M4 := lo_B W M3 x3 ey (Ordr.le_of_lt hlt)
            by_cases eb : j + 1 = xb.size
            · rw [if_pos (by simpa using eb)]
              exact wpS_pure ⟨SS1, .inr ⟨_, rfl, lo_fin M4 eb⟩⟩
            · rw [if_neg (by simpa using eb)]
              refine wpS_bind (t_elem x3 (wpS_bind (t_gal C (SS1.kind.trans hk) (W.ma _ _ x3) (fun q hq => ⟨_, at_lt (by lia), W.mb _ _ (at_lt (by lia))⟩) (up_rise W.ub _ _ (by lia)) (by lia) fun k2 eg2 => ?_)))
              dsimp only
              obtain ⟨M5, le5⟩ := lo_GB W M4 x3 eg2
              have hk2 := eg2.le
              obtain ⟨o4, e4⟩ : ∃ o4, o4 = o3.push xb[j] := ⟨_, rfl⟩
              obtain ⟨j4, e8⟩ : ∃ j4, j4 = j + 1 := ⟨_, rfl⟩
              have sz4 : o4.size = o3.size + 1 := by rw [e4, Array.size_push]
              rw [← e4] at M4 M5 ⊢
              rw [← e8] at M4 M5 le5 hk2 eb ⊢
              have sz5 := sz_part xb o4 j4 k2 (by lia)
              generalize hgi : j4 = j'
              revert j'
              generalize hgo : o4 = o'
              revert o'
              refine jp2 (o := o4) (i := j4) (fun o5 j5 => j5 < xb.size ∧ Mg O key T (o5.push ax).toList (xa.toList.drop (i3 + 1)) (xb.toList.drop j5) ∧ o5.size = i3 + j5 ∧ o.size + 1 ≤ o5.size) ?b2 (fun hk0 hF => ?w3) (fun hk0 => ?w4)
              case w3 =>
                by_cases ec : j4 + k2 = xb.size
                · rw [if_pos (by simpa using ec)]
                  exact wpS_pure ⟨SS1, .inr ⟨_, rfl, lo_fin M5 ec⟩⟩
                · rw [if_neg (by simpa using ec)]
                  have ey5 := at_lt (xs := xb) (i := j4 + k2) (by lia)
                  exact hF _ _ ⟨by lia, lo_A W M5 x3 ey5 (le5 _ (by lia) ey5), by lia, by lia⟩
              case w4 =>
                have e5 : k2 = 0 := by lia
                subst e5
                have ey5 := at_lt (xs := xb) (i := j4) (by lia)
                exact ⟨by lia, lo_A W M4 x3 ey5 (le5 _ (by lia) ey5), by lia, by lia⟩
              case b2 =>
                rintro o5 j5 ⟨hj5, M6, z5, p5⟩
                refine wpS_bind (t_elem x3 ?_)
                by_cases ed : i3 + 1 + 1 = xa.size
                · rw [if_pos (by simpa using ed)]
                  exact wpS_pure ⟨SS1, .inr ⟨_, rfl, lo_one W M6 ed⟩⟩
                · rw [if_neg (by simpa using ed)]
                  have J6 : JLo O key xa xb T (o5.push ax) (i3 + 1) j5 := ⟨M6, by lia, by lia, by rw [Array.size_push]; lia⟩
                  have p6 := J6.sz
                  split
                  · exact wpS_pure ⟨SS1, .inl ⟨_, _, _, _, _, _, rfl, J6, by rw [p6]; lia⟩⟩
                  · exact wpS_pure ⟨SS1, _, _, _, _, _, _, rfl, J6, by rw [p6]; lia⟩
      · obtain ⟨c1, c2⟩ := c
        dsimp only at e
        subst e
        exact wpS_pure ⟨SS, r, rfl, M⟩
end
end L2

namespace L2
open PySem PySem.Spec PyProof.Rows
/-! ### from the end: the same, turned about -/
def Ordr.flip {κ : Type} (O : Ordr κ) : Ordr κ := ⟨fun a b => O.lt b a, O.irr, fun _ _ _ h1 h2 => O.tr _ _ _ h2 h1, fun _ b _ h => (O.neg _ b _ h).symm⟩
def mgHi : Array Keyed → Array Keyed → StateT SortSt Sem (Array Keyed) := sortPriv% PySem.Builtin.mergeHi
theorem mgHi_eq (xa xb : Array Keyed) : mgHi xa xb = (do
  rule "list.sort.merge-hi"
  let tot := xa.size + xb.size
  let fin (o : Array Keyed) (i j : Nat) := xa.extract 0 i ++ xb.extract 0 j ++ o.reverse
  let oneB (o : Array Keyed) (i j : Nat) := xb.extract 0 j ++ xa.extract 0 i ++ o.reverse
  let mut i := xa.size - 1
  let mut j := xb.size
  let mut o : Array Keyed := #[← elem' xa i]
  if i == 0 then return fin o i j
  if j == 1 then return oneB o i j
  let mut mg := gallopOf (← get)
  for _ in [0:tot] do
    let mut ca := 0
    let mut cb := 0
    for _ in [0:tot] do
      let some won ← lt' (← elem' xb (j - 1)) (← elem' xa (i - 1)) | return fin o i j
      if won then
        i := i - 1; o := o.push (← elem' xa i); ca := ca + 1; cb := 0
        if i == 0 then return fin o i j
        if ca ≥ mg then break
      else
        j := j - 1; o := o.push (← elem' xb j); cb := cb + 1; ca := 0
        if j == 1 then return oneB o i j
        if cb ≥ mg then break
    rule "list.sort.gallop"
    mg := mg + 1
    for _ in [0:tot] do
      if mg > 1 then mg := mg - 1
      setG mg
      let some p ← gal false (← elem' xb (j - 1)) xa 0 i (i - 1) | return fin o i j
      let k := i - p
      ca := k
      if k > 0 then
        o := o ++ (xa.extract p i).reverse; i := p
        if i == 0 then return fin o i j
      j := j - 1; o := o.push (← elem' xb j)
      if j == 1 then return oneB o i j
      let some p ← gal true (← elem' xa (i - 1)) xb 0 j (j - 1) | return fin o i j
      let k := j - p
      cb := k
      if k > 0 then
        o := o ++ (xb.extract p j).reverse; j := p
        if j == 1 then return oneB o i j
        if j == 0 then return fin o i j
      i := i - 1; o := o.push (← elem' xa i)
      if i == 0 then return fin o i j
      if ca < 7 && cb < 7 then break
    mg := mg + 1
    setG mg
  unsupported "internal:list.sort.merge-bound") := rfl
section
variable {κ : Type} {O : Ordr κ} {key : Keyed → κ} {prog : Program} {w : World} {A : Around} {E : Value → Shared → Prop} {s : Shared} {a₀ : Array Keyed} {kd : SortKind}
theorem rev_at {xs : Array Keyed} {n q : Nat} (hn : n ≤ xs.size) (hq : q < n) : xs.reverse[xs.size - n + q]? = xs[n - 1 - q]? := by
  rw [Array.getElem?_reverse (by lia)]
  congr 1
  lia
theorem kk_rev {xs : Array Keyed} {n q : Nat} (hn : n ≤ xs.size) (hq : q < n) : kk key xs.reverse (xs.size - n + q) = kk key xs (n - 1 - q) := kk_congr key (rev_at hn hq)
theorem ext_rev (xs : Array Keyed) {p n : Nat} (hp : p ≤ n) (hn : n ≤ xs.size) : (xs.extract p n).reverse = xs.reverse.extract (xs.size - n) (xs.size - n + (n - p)) := by
  apply Array.ext
  · simp; lia
  · intro i h1 h2
    simp only [Array.getElem_reverse, Array.getElem_extract]
    simp at h1
    congr 1
    simp
    lia
theorem Up.flip {xs : List Keyed} (h : Up O key xs) : Up O.flip key xs.reverse := List.pairwise_reverse.mpr h
theorem Made.flip {T T' r : List Keyed} (h : Made O.flip key T r) (p : T.Perm T') : Made O key T' r.reverse := ⟨(List.reverse_perm _).trans (h.1.trans p), List.pairwise_reverse.mpr h.2⟩
theorem Two.flip {xa xb : Array Keyed} (W : Two O key a₀ xa xb) : Two O.flip key a₀ xb.reverse xa.reverse := by
  have na := W.na
  have nb := W.nb
  have gb : ∀ (i : Nat) (x : Keyed), xb.reverse[i]? = some x → ∃ j : Nat, xb[j]? = some x ∧ i < xb.size ∧ j = xb.size - 1 - i := fun i x e => by
    have hi : i < xb.size := by
      have := (Array.getElem?_eq_some_iff.mp e).1
      simpa using this
    rw [Array.getElem?_reverse hi] at e
    exact ⟨_, e, hi, rfl⟩
  have ga : ∀ (i : Nat) (x : Keyed), xa.reverse[i]? = some x → ∃ j : Nat, xa[j]? = some x ∧ i < xa.size ∧ j = xa.size - 1 - i := fun i x e => by
    have hi : i < xa.size := by
      have := (Array.getElem?_eq_some_iff.mp e).1
      simpa using this
    rw [Array.getElem?_reverse hi] at e
    exact ⟨_, e, hi, rfl⟩
  refine ⟨fun i x e => ?_, fun i x e => ?_, by rw [Array.toList_reverse]; exact W.ub.flip, by rw [Array.toList_reverse]; exact W.ua.flip, by simpa using nb, by simpa using na, fun x y ex ey => ?_, fun x y j ex ey => ?_⟩
  · obtain ⟨j, e', _⟩ := gb i x e
    exact W.mb j x e'
  · obtain ⟨j, e', _⟩ := ga i x e
    exact W.ma j x e'
  · obtain ⟨j, e1, _, h1⟩ := gb 0 x ex
    obtain ⟨k, e2, _, h2⟩ := ga 0 y ey
    subst h2
    exact W.last y x j e2 e1
  · obtain ⟨k, e1, _, h1⟩ := gb _ x ex
    obtain ⟨m, e2, _, h2⟩ := ga _ y ey
    rw [Array.size_reverse] at h1
    have hk : k = 0 := by lia
    subst hk
    have ea0 := at_lt (xs := xa) (i := 0) (by lia)
    have lt0 := W.first _ x ea0 e1
    have hr := up_rise W.ua 0 xa.size (Nat.le_refl _) 0 m (Nat.le_refl _) (Nat.zero_le _) (by lia)
    rw [kk_at ea0, kk_at e2] at hr
    have := Ordr.lt_le (O := O) lt0 hr
    exact this
theorem edgeH1 {xs : Array Keyed} {n p : Nat} {y : Keyed} (hn : n ≤ xs.size) (g : Edge (pastP O key false y xs 0) n p) : Edge (pastP O.flip key true y xs.reverse (xs.size - n)) (xs.reverse.size - (xs.size - n)) (n - p) := by
  have hp := g.le
  refine ⟨by rw [Array.size_reverse]; lia, fun q hq => ?_, fun q h1 h2 => ?_⟩
  · have := g.no (n - 1 - q) (by lia) (by lia)
    unfold pastP at this ⊢
    rw [if_neg Bool.false_ne_true, Nat.zero_add] at this
    rw [if_pos rfl, kk_rev hn (by lia)]
    show O.lt (key y) _ = true
    cases z : O.lt (key y) (kk key xs (n - 1 - q)) with
    | true => rfl
    | false => rw [z] at this; cases this
  · rw [Array.size_reverse] at h2
    have := g.yes (n - 1 - q) (by lia)
    unfold pastP at this ⊢
    rw [if_neg Bool.false_ne_true, Nat.zero_add] at this
    rw [if_pos rfl, kk_rev hn (by lia)]
    show O.lt (key y) _ = false
    cases z : O.lt (key y) (kk key xs (n - 1 - q)) with
    | false => rfl
    | true => rw [z] at this; cases this
theorem edgeH2 {xs : Array Keyed} {n p : Nat} {y : Keyed} (hn : n ≤ xs.size) (g : Edge (pastP O key true y xs 0) n p) : Edge (pastP O.flip key false y xs.reverse (xs.size - n)) (xs.reverse.size - (xs.size - n)) (n - p) := by
  have hp := g.le
  refine ⟨by rw [Array.size_reverse]; lia, fun q hq => ?_, fun q h1 h2 => ?_⟩
  · have := g.no (n - 1 - q) (by lia) (by lia)
    unfold pastP at this ⊢
    rw [if_pos rfl, Nat.zero_add] at this
    rw [if_neg Bool.false_ne_true, kk_rev hn (by lia)]
    show (!O.lt _ (key y)) = true
    rw [this]; rfl
  · rw [Array.size_reverse] at h2
    have := g.yes (n - 1 - q) (by lia)
    unfold pastP at this ⊢
    rw [if_pos rfl, Nat.zero_add] at this
    rw [if_neg Bool.false_ne_true, kk_rev hn (by lia)]
    show (!O.lt _ (key y)) = false
    rw [this]; rfl
variable {xa xb : Array Keyed} {T : List Keyed} {o : Array Keyed} {i j : Nat}
theorem rest_rev (xs : Array Keyed) {n : Nat} (hn : n ≤ xs.size) : (xs.reverse.toList.drop (xs.size - n)).reverse = (xs.extract 0 n).toList := by
  rw [Array.toList_reverse, List.drop_reverse, List.reverse_reverse, Array.toList_extract, List.extract_eq_drop_take, Array.length_toList, List.drop_zero]
  congr 1
  lia
theorem hi_fin {na nb : Nat} (ha : na ≤ xa.size) (hb : nb ≤ xb.size) (h : Mg O.flip key (xb.reverse.toList ++ xa.reverse.toList) o.toList (xb.reverse.toList.drop (xb.size - nb)) (xa.reverse.toList.drop (xa.size - na))) (e : na = 0) : Made O key (xa.toList ++ xb.toList) (xa.extract 0 na ++ xb.extract 0 nb ++ o.reverse).toList := by
  have := lo_fin h (by rw [Array.size_reverse]; lia)
  have m := this.flip (T' := xa.toList ++ xb.toList) (by
    rw [Array.toList_reverse, Array.toList_reverse]
    exact ((List.reverse_perm _).append (List.reverse_perm _)).trans List.perm_append_comm)
  rw [Array.toList_append, Array.toList_append, rest_toList, rest_toList, List.reverse_append, List.reverse_append, rest_rev xa ha, rest_rev xb hb] at m
  rw [Array.toList_append, Array.toList_append, Array.toList_reverse, List.append_assoc]
  exact m
theorem hi_one {na nb : Nat} (ha : na ≤ xa.size) (hb : nb ≤ xb.size) (W : Two O.flip key a₀ xb.reverse xa.reverse) (h : Mg O.flip key (xb.reverse.toList ++ xa.reverse.toList) o.toList (xb.reverse.toList.drop (xb.size - nb)) (xa.reverse.toList.drop (xa.size - na))) (e : nb = 1) : Made O key (xa.toList ++ xb.toList) (xb.extract 0 nb ++ xa.extract 0 na ++ o.reverse).toList := by
  have := lo_one W h (by rw [Array.size_reverse]; lia)
  have m := this.flip (T' := xa.toList ++ xb.toList) (by
    rw [Array.toList_reverse, Array.toList_reverse]
    exact ((List.reverse_perm _).append (List.reverse_perm _)).trans List.perm_append_comm)
  rw [Array.toList_append, Array.toList_append, rest_toList, rest_toList, List.reverse_append, List.reverse_append, rest_rev xa ha, rest_rev xb hb] at m
  rw [Array.toList_append, Array.toList_append, Array.toList_reverse, List.append_assoc]
  exact m
/-- on the way from the end -/
structure JHi (O : Ordr κ) (key : Keyed → κ) (xa xb : Array Keyed) (T : List Keyed) (o : Array Keyed) (i j : Nat) : Prop where
  mg : Mg O.flip key T o.toList (xb.reverse.toList.drop (xb.size - j)) (xa.reverse.toList.drop (xa.size - i))
  i1 : 1 ≤ i
  i2 : i ≤ xa.size
  j1 : 2 ≤ j
  j2 : j ≤ xb.size
  sz : o.size = (xa.size - i) + (xb.size - j)
theorem sz_rev (o xs : Array Keyed) {p n : Nat} (hn : n ≤ xs.size) : (o ++ (xs.extract p n).reverse).size = o.size + (n - p) := by
  rw [Array.size_append, Array.size_reverse, Array.size_extract]; lia
theorem t_mgHi (C : Cmp O key prog w A E s a₀ kd) {st : SortSt} {Q : Array Keyed → SortSt → Prop} (hk : kindOf st = kd) (V : Two O key a₀ xa xb)
    (h : ∀ r z, SamS st z → Made O key (xa.toList ++ xb.toList) r.toList → Q r z) : wpS (model prog w) A E s (mgHi xa xb) Q st := by
  have W := V.flip
  have na := V.na
  have nb := V.nb
  obtain ⟨T, hT⟩ : ∃ T, T = xb.reverse.toList ++ xa.reverse.toList := ⟨_, rfl⟩
  have fin : ∀ {o : Array Keyed} {i j : Nat}, i ≤ xa.size → j ≤ xb.size → Mg O.flip key T o.toList (xb.reverse.toList.drop (xb.size - j)) (xa.reverse.toList.drop (xa.size - i)) → i = 0 → Made O key (xa.toList ++ xb.toList) (xa.extract 0 i ++ xb.extract 0 j ++ o.reverse).toList := fun h1 h2 m e => by
    rw [hT] at m
    exact hi_fin h1 h2 m e
  have oneB : ∀ {o : Array Keyed} {i j : Nat}, i ≤ xa.size → j ≤ xb.size → Mg O.flip key T o.toList (xb.reverse.toList.drop (xb.size - j)) (xa.reverse.toList.drop (xa.size - i)) → j = 1 → Made O key (xa.toList ++ xb.toList) (xb.extract 0 j ++ xa.extract 0 i ++ o.reverse).toList := fun h1 h2 m e => by
    rw [hT] at m
    exact hi_one h1 h2 W m e
  generalize xa.toList ++ xb.toList = TT at h fin oneB
  -- the places, turned about
  have sa : xa.reverse.size = xa.size := Array.size_reverse
  have sb : xb.reverse.size = xb.size := Array.size_reverse
  have atA : ∀ {i : Nat} {x : Keyed}, 1 ≤ i → i ≤ xa.size → xa[i - 1]? = some x → xa.reverse[xa.size - i]? = some x := fun {i x} h1 h2 e => by
    have := rev_at (xs := xa) (n := i) (q := 0) h2 (by lia)
    rw [Nat.add_zero, Nat.sub_zero] at this
    rw [this]; exact e
  have atB : ∀ {i : Nat} {x : Keyed}, 1 ≤ i → i ≤ xb.size → xb[i - 1]? = some x → xb.reverse[xb.size - i]? = some x := fun {i x} h1 h2 e => by
    have := rev_at (xs := xb) (n := i) (q := 0) h2 (by lia)
    rw [Nat.add_zero, Nat.sub_zero] at this
    rw [this]; exact e
  -- one of a, one of b
  have pushA : ∀ {o : Array Keyed} {i j : Nat} {x y : Keyed}, 1 ≤ i → i ≤ xa.size → 1 ≤ j → j ≤ xb.size → xb[j - 1]? = some x → xa[i - 1]? = some y → O.lt (key x) (key y) = true → Mg O.flip key T o.toList (xb.reverse.toList.drop (xb.size - j)) (xa.reverse.toList.drop (xa.size - i)) → Mg O.flip key T (o.push y).toList (xb.reverse.toList.drop (xb.size - j)) (xa.reverse.toList.drop (xa.size - (i - 1))) := fun {o i j x y} h1 h2 h3 h4 ex ey hc m => by
    have := lo_B W m (atB h3 h4 ex) (atA h1 h2 ey) (Ordr.le_of_lt (O := O.flip) hc)
    rw [show xa.size - (i - 1) = xa.size - i + 1 by lia]
    exact this
  have pushB : ∀ {o : Array Keyed} {i j : Nat} {x y : Keyed}, 1 ≤ i → i ≤ xa.size → 1 ≤ j → j ≤ xb.size → xb[j - 1]? = some x → xa[i - 1]? = some y → O.le (key y) (key x) → Mg O.flip key T o.toList (xb.reverse.toList.drop (xb.size - j)) (xa.reverse.toList.drop (xa.size - i)) → Mg O.flip key T (o.push x).toList (xb.reverse.toList.drop (xb.size - (j - 1))) (xa.reverse.toList.drop (xa.size - i)) := fun {o i j x y} h1 h2 h3 h4 ex ey hc m => by
    have := lo_A W m (atB h3 h4 ex) (atA h1 h2 ey) (show O.flip.le (key x) (key y) from hc)
    rw [show xb.size - (j - 1) = xb.size - j + 1 by lia]
    exact this
  -- many of a, many of b
  have galA : ∀ {o : Array Keyed} {i j p : Nat} {x : Keyed}, 1 ≤ i → i ≤ xa.size → 1 ≤ j → j ≤ xb.size → xb[j - 1]? = some x → Edge (pastP O key false x xa 0) i p → Mg O.flip key T o.toList (xb.reverse.toList.drop (xb.size - j)) (xa.reverse.toList.drop (xa.size - i)) → Mg O.flip key T (o ++ (xa.extract p i).reverse).toList (xb.reverse.toList.drop (xb.size - j)) (xa.reverse.toList.drop (xa.size - p)) ∧ ∀ y, 1 ≤ p → xa[p - 1]? = some y → O.le (key y) (key x) := fun {o i j p x} h1 h2 h3 h4 ex g m => by
    have gl := g.le
    obtain ⟨m1, m2⟩ := lo_GB W m (atB h3 h4 ex) (edgeH1 h2 g)
    rw [← ext_rev xa gl h2, show xa.size - i + (i - p) = xa.size - p by lia] at m1
    refine ⟨m1, fun y hp ey => ?_⟩
    have := m2 y (by rw [sa]; lia) (by rw [show xa.size - i + (i - p) = xa.size - p by lia]; exact atA hp (by lia) ey)
    exact this
  have galB : ∀ {o : Array Keyed} {i j p : Nat} {y : Keyed}, 1 ≤ i → i ≤ xa.size → 1 ≤ j → j ≤ xb.size → xa[i - 1]? = some y → Edge (pastP O key true y xb 0) j p → Mg O.flip key T o.toList (xb.reverse.toList.drop (xb.size - j)) (xa.reverse.toList.drop (xa.size - i)) → Mg O.flip key T (o ++ (xb.extract p j).reverse).toList (xb.reverse.toList.drop (xb.size - p)) (xa.reverse.toList.drop (xa.size - i)) ∧ 1 ≤ p ∧ ∀ x, xb[p - 1]? = some x → O.lt (key x) (key y) = true := fun {o i j p y} h1 h2 h3 h4 ey g m => by
    have gl := g.le
    have m1 := lo_GA W m (atA h1 h2 ey) (edgeH2 h4 g)
    obtain ⟨l1, l2⟩ := edgeA W (atA h1 h2 ey) (i := xb.size - j) (by rw [sb]; lia) (edgeH2 h4 g)
    rw [sb] at l1
    rw [← ext_rev xb gl h4, show xb.size - j + (j - p) = xb.size - p by lia] at m1
    refine ⟨m1, by lia, fun x ex => ?_⟩
    have := l2 x (by rw [show xb.size - j + (j - p) = xb.size - p by lia]; exact atB (by lia) (by lia) ex)
    exact this
  rw [mgHi_eq]
  refine wpS_bind (wpS_lift (wpAny_rule ⟨rfl, ?_⟩))
  dsimp only
  have ea0 := at_lt (xs := xa) (i := xa.size - 1) (by lia)
  have eb0 := at_lt (xs := xb) (i := xb.size - 1) (by lia)
  have M0 : Mg O.flip key T #[xa[xa.size - 1]].toList (xb.reverse.toList.drop (xb.size - xb.size)) (xa.reverse.toList.drop (xa.size - (xa.size - 1))) := by
    have h0 : Mg O.flip key T (#[] : Array Keyed).toList (xb.reverse.toList.drop (xb.size - xb.size)) (xa.reverse.toList.drop (xa.size - xa.size)) := ⟨by rw [hT]; simp, List.Pairwise.nil, (fun x hx => by cases hx), (fun x hx => by cases hx), by simpa using W.ua, by simpa using W.ub⟩
    exact pushA (i := xa.size) (j := xb.size) na (Nat.le_refl _) nb (Nat.le_refl _) eb0 ea0 (V.last _ _ _ ea0 eb0) h0
  refine wpS_bind (t_elem ea0 ?_)
  by_cases e1 : xa.size - 1 = 0
  · rw [if_pos (by simpa using e1)]
    exact wpS_pure (h _ st (SamS.refl _) (fin (by lia) (Nat.le_refl _) M0 e1))
  rw [if_neg (by simpa using e1)]
  by_cases e2 : xb.size = 1
  · rw [if_pos (by simpa using e2)]
    exact wpS_pure (h _ st (SamS.refl _) (oneB (by lia) (Nat.le_refl _) M0 e2))
  rw [if_neg (by simpa using e2)]
  refine wpS_bind (wpS_get ?_)
  have J0 : JHi O key xa xb T #[xa[xa.size - 1]] (xa.size - 1) xb.size := ⟨M0, by lia, by lia, by lia, Nat.le_refl _, by simp; lia⟩
  refine wpS_bind (wpS_mono (wpS_forRange (I := fun x c z => SamS st z ∧ ∃ o i j g, c = (none, i, j, o, g) ∧ JHi O key xa xb T o i j ∧ x + 1 ≤ o.size) (Q := fun c z => SamS st z ∧ ∃ r, c.1 = some r ∧ Made O key TT r.toList) ?out1 ?out2 ⟨SamS.refl _, _, _, _, _, rfl, J0, by simp⟩) ?out3)
  case out3 =>
    rintro ⟨c1, c2⟩ z ⟨SS, r, e, M⟩
    dsimp only at e
    subst e
    exact wpS_pure (h r z SS M)
  case out2 =>
    rintro c z ⟨SS, o, i, j, g, rfl, J, hx⟩
    have := J.sz; have := J.i1; have := J.j1
    lia
  case out1 =>
    rintro x0 c z _ hx0 ⟨SS, o, i, j, g, rfl, J, hx⟩
    dsimp only
    have hkz : kindOf z = kd := SS.kind.trans hk
    refine wpS_bind (wpS_mono (wpS_forRange (I := fun x c z' => z' = z ∧ ∃ o' i j ca cb, c = (none, i, j, o', ca, cb) ∧ JHi O key xa xb T o' i j ∧ o.size + min x 1 ≤ o'.size) (Q := fun c z' => z' = z ∧ ((∃ o' i j ca cb, c = (none, i, j, o', ca, cb) ∧ JHi O key xa xb T o' i j ∧ o.size + 1 ≤ o'.size) ∨ ∃ r, c.1 = some r ∧ Made O key TT r.toList)) ?in1 ?in2 ⟨rfl, o, i, j, 0, 0, rfl, J, by lia⟩) ?in3)
    case in2 =>
      rintro c z' ⟨rfl, o', i, j, ca, cb, rfl, J, hp⟩
      refine ⟨rfl, .inl ⟨o', i, j, ca, cb, rfl, J, ?_⟩⟩
      have : min (max 0 (xa.size + xb.size)) 1 = 1 := by lia
      lia
    case in1 =>
      rintro x c z' _ hx ⟨rfl, o', i, j, ca, cb, rfl, J, hp⟩
      dsimp only
      have i1 := J.i1
      have i2 := J.i2
      have j1 := J.j1
      have j2 := J.j2
      have sz := J.sz
      have ey := at_lt (xs := xa) (i := i - 1) (by lia)
      have ex := at_lt (xs := xb) (i := j - 1) (by lia)
      refine wpS_bind (t_elem ex (wpS_bind (t_elem ey (wpS_bind (C _ _ (V.mb _ _ ex) (V.ma _ _ ey) z' _ hkz ?_)))))
      dsimp only
      by_cases hc : O.lt (key xb[j - 1]) (key xa[i - 1]) = true
      · rw [if_pos hc]
        refine wpS_bind (t_elem ey ?_)
        have M1 := pushA i1 i2 (by lia) j2 ex ey hc J.mg
        by_cases e : i - 1 = 0
        · rw [if_pos (by simpa using e)]
          exact wpS_pure ⟨rfl, .inr ⟨_, rfl, fin (by lia) j2 M1 e⟩⟩
        · rw [if_neg (by simpa using e)]
          have J1 : JHi O key xa xb T (o'.push xa[i - 1]) (i - 1) j := ⟨M1, by lia, by lia, j1, j2, by rw [Array.size_push]; lia⟩
          have sz1 : o.size + 1 ≤ (o'.push xa[i - 1]).size := by rw [Array.size_push]; lia
          split
          · exact wpS_pure ⟨rfl, .inl ⟨_, _, _, _, _, rfl, J1, sz1⟩⟩
          · exact wpS_pure ⟨rfl, _, _, _, _, _, rfl, J1, by lia⟩
      · rw [if_neg hc]
        refine wpS_bind (t_elem ex ?_)
        have M1 := pushB i1 i2 (by lia) j2 ex ey (Ordr.le_not hc) J.mg
        by_cases e : j - 1 = 1
        · rw [if_pos (by simpa using e)]
          exact wpS_pure ⟨rfl, .inr ⟨_, rfl, oneB i2 (by lia) M1 e⟩⟩
        · rw [if_neg (by simpa using e)]
          have J1 : JHi O key xa xb T (o'.push xb[j - 1]) i (j - 1) := ⟨M1, i1, i2, by lia, by lia, by rw [Array.size_push]; lia⟩
          have sz1 : o.size + 1 ≤ (o'.push xb[j - 1]).size := by rw [Array.size_push]; lia
          split
          · exact wpS_pure ⟨rfl, .inl ⟨_, _, _, _, _, rfl, J1, sz1⟩⟩
          · exact wpS_pure ⟨rfl, _, _, _, _, _, rfl, J1, by lia⟩
    case in3 =>
      rintro c z' ⟨rfl, ⟨o1, i, j, ca, cb, rfl, J1, hp⟩ | ⟨r, e, M⟩⟩
      · dsimp only
        refine wpS_bind (wpS_lift (wpAny_rule ⟨rfl, ?_⟩))
        refine wpS_bind (wpS_mono (wpS_forRange (I := fun x c z => SamS st z ∧ ∃ o' i j g ca cb, c = (none, i, j, o', g, ca, cb) ∧ JHi O key xa xb T o' i j ∧ o.size + 1 ≤ o'.size) (Q := fun c z => SamS st z ∧ ((∃ o' i j g ca cb, c = (none, i, j, o', g, ca, cb) ∧ JHi O key xa xb T o' i j ∧ o.size + 1 ≤ o'.size) ∨ ∃ r, c.1 = some r ∧ Made O key TT r.toList)) ?gl1 ?gl2 ⟨SS, o1, i, j, _, _, _, rfl, J1, hp⟩) ?gl3)
        case gl2 =>
          rintro c z ⟨SS, h⟩
          exact ⟨SS, .inl h⟩
        case gl3 =>
          rintro c z ⟨SS, ⟨o', i, j, g, ca, cb, rfl, J, hp⟩ | ⟨r, e, M⟩⟩
          · dsimp only
            exact wpS_bind (t_setG (wpS_pure ⟨SS.setG _, _, _, _, _, rfl, J, by lia⟩))
          · obtain ⟨c1, c2⟩ := c
            dsimp only at e
            subst e
            exact wpS_pure ⟨SS, r, rfl, M⟩
        case gl1 =>
          rintro x c z _ hx ⟨SS, o2, i, j, g, ca, cb, rfl, J, hp⟩
          dsimp only
          revert g
          refine jp1 (fun g => rfl) fun g => ?_
          refine wpS_bind (t_setG ?_)
          have SS1 := SS.setG g
          have i1 := J.i1
          have i2 := J.i2
          have j1 := J.j1
          have j2 := J.j2
          have sz := J.sz
          obtain ⟨bx, ex⟩ : ∃ bx, xb[j - 1]? = some bx := ⟨_, at_lt (by lia)⟩
          refine wpS_bind (t_elem ex (wpS_bind (t_gal C (SS1.kind.trans hk) (V.mb _ _ ex) (fun q hq => ⟨_, at_lt (by lia), V.ma _ _ (at_lt (by lia))⟩) (up_rise V.ua _ _ (by lia)) (by lia) fun p eg => ?_)))
          dsimp only
          obtain ⟨M1, le1⟩ := galA i1 i2 (by lia) j2 ex eg J.mg
          have pl := eg.le
          have sz1 := sz_rev o2 xa (p := p) i2
          generalize hkk : i - p = k1
          generalize hgi : i = i'
          revert i'
          generalize hgo : o2 = o'
          revert o'
          refine jp2 (o := o2) (i := i) (fun o3 i3 => (1 ≤ i3 ∧ i3 ≤ xa.size) ∧ Mg O.flip key T o3.toList (xb.reverse.toList.drop (xb.size - j)) (xa.reverse.toList.drop (xa.size - i3)) ∧ o3.size = (xa.size - i3) + (xb.size - j) ∧ o.size + 1 ≤ o3.size ∧ ∃ ay, xa[i3 - 1]? = some ay ∧ O.le (key ay) (key bx)) ?b1 (fun hk0 hF => ?w1) (fun hk0 => ?w2)
          case w1 =>
            by_cases ea : p = 0
            · rw [if_pos (by simpa using ea)]
              exact wpS_pure ⟨SS1, .inr ⟨_, rfl, fin (by lia) j2 M1 ea⟩⟩
            · rw [if_neg (by simpa using ea)]
              obtain ⟨ay, ey⟩ : ∃ ay, xa[p - 1]? = some ay := ⟨_, at_lt (by lia)⟩
              exact hF (o2 ++ (xa.extract p i).reverse) p ⟨by lia, M1, by lia, by lia, ay, ey, le1 _ (by lia) ey⟩
          case w2 =>
            have e5 : p = i := by lia
            subst e5
            obtain ⟨ay, ey⟩ : ∃ ay, xa[p - 1]? = some ay := ⟨_, at_lt (by lia)⟩
            exact ⟨⟨i1, i2⟩, J.mg, sz, hp, ay, ey, le1 _ (by lia) ey⟩
          case b1 =>
            rintro o3 i3 ⟨hi3, M3, z3, p3, ay, y3, le3⟩
            refine wpS_bind (t_elem ex ?_)
            have M4 := pushB hi3.1 hi3.2 (by lia) j2 ex y3 le3 M3
            by_cases eb : j - 1 = 1
            · rw [if_pos (by simpa using eb)]
              exact wpS_pure ⟨SS1, .inr ⟨_, rfl, oneB hi3.2 (by lia) M4 eb⟩⟩
            · rw [if_neg (by simpa using eb)]
              clear M1 le1 pl sz1 eg
              obtain ⟨o4, e4⟩ : ∃ o4, o4 = o3.push bx := ⟨_, rfl⟩
              obtain ⟨j4, e8⟩ : ∃ j4, j4 = j - 1 := ⟨_, rfl⟩
              have sz4 : o4.size = o3.size + 1 := by rw [e4, Array.size_push]
              rw [← e4] at M4 ⊢
              rw [← e8] at M4 eb ⊢
              have j41 : 2 ≤ j4 := by lia
              have j42 : j4 ≤ xb.size := by lia
              have z4 : o4.size = (xa.size - i3) + (xb.size - j4) := by lia
              have p4 : o.size + 1 ≤ o4.size := by lia
              clear z3 p3 M3 e4 e8 ex sz4 eb j1 j2 sz
              refine wpS_bind (t_elem y3 (wpS_bind (t_gal C (SS1.kind.trans hk) (V.ma _ _ y3) (fun q hq => ⟨_, at_lt (by lia), V.mb _ _ (at_lt (by lia))⟩) (up_rise V.ub _ _ (by lia)) (by lia) fun p2 eg2 => ?_)))
              dsimp only
              obtain ⟨M5, p21, lt5⟩ := galB hi3.1 hi3.2 (by lia) (by lia) y3 eg2 M4
              have hk2 := eg2.le
              have sz5 := sz_rev o4 xb (p := p2) (n := j4) (by lia)
              generalize hkk2 : j4 - p2 = k2
              generalize hgi : j4 = j'
              revert j'
              generalize hgo : o4 = o'
              revert o'
              refine jp2 (o := o4) (i := j4) (fun o5 j5 => (2 ≤ j5 ∧ j5 ≤ xb.size) ∧ Mg O.flip key T (o5.push ay).toList (xb.reverse.toList.drop (xb.size - j5)) (xa.reverse.toList.drop (xa.size - (i3 - 1))) ∧ o5.size = (xa.size - i3) + (xb.size - j5) ∧ o.size + 1 ≤ o5.size) ?b2 (fun hk0 hF => ?w3) (fun hk0 => ?w4)
              case w3 =>
                by_cases ec : p2 = 1
                · rw [if_pos (by simpa using ec)]
                  exact wpS_pure ⟨SS1, .inr ⟨_, rfl, oneB hi3.2 (by lia) M5 ec⟩⟩
                · rw [if_neg (by simpa using ec), if_neg (by simp; lia)]
                  obtain ⟨bx5, ex5⟩ : ∃ bx5, xb[p2 - 1]? = some bx5 := ⟨_, at_lt (by lia)⟩
                  exact hF (o4 ++ (xb.extract p2 j4).reverse) p2 ⟨by lia, pushA hi3.1 hi3.2 p21 (by lia) ex5 y3 (lt5 _ ex5) M5, by lia, by lia⟩
              case w4 =>
                have e9 : p2 = j4 := by lia
                subst e9
                obtain ⟨bx5, ex5⟩ : ∃ bx5, xb[p2 - 1]? = some bx5 := ⟨_, at_lt (by lia)⟩
                exact ⟨by lia, pushA hi3.1 hi3.2 p21 j42 ex5 y3 (lt5 _ ex5) M4, z4, p4⟩
              case b2 =>
                rintro o5 j5 ⟨hj5, M6, z5, p5⟩
                clear M5 lt5 hk2 sz5 eg2 M4 z4 p4
                refine wpS_bind (t_elem y3 ?_)
                by_cases ed : i3 - 1 = 0
                · rw [if_pos (by simpa using ed)]
                  exact wpS_pure ⟨SS1, .inr ⟨_, rfl, fin (by lia) (by lia) M6 ed⟩⟩
                · rw [if_neg (by simpa using ed)]
                  have J6 : JHi O key xa xb T (o5.push ay) (i3 - 1) j5 := ⟨M6, by lia, by lia, by lia, by lia, by rw [Array.size_push]; lia⟩
                  have p6 := J6.sz
                  split
                  · exact wpS_pure ⟨SS1, .inl ⟨_, _, _, _, _, _, rfl, J6, by rw [p6]; lia⟩⟩
                  · exact wpS_pure ⟨SS1, _, _, _, _, _, _, rfl, J6, by rw [p6]; lia⟩
      · obtain ⟨c1, c2⟩ := c
        dsimp only at e
        subst e
        exact wpS_pure ⟨SS, r, rfl, M⟩
end
end L2

namespace L2
open PySem PySem.Spec PyProof.Rows
/-! ### two runs made one -/
section
variable {κ : Type} {O : Ordr κ} {key : Keyed → κ} {prog : Program} {w : World} {A : Around} {E : Value → Shared → Prop} {s : Shared} {a₀ : Array Keyed} {kd : SortKind}
def putIn (a : Array Keyed) (lo : Nat) (r : List (Keyed × Nat)) : Array Keyed := r.foldl (fun b q => b.setIfInBounds (lo + q.2) q.1) a
theorem put_list (lo : Nat) : ∀ (r : List Keyed) (n : Nat) (a : Array Keyed), lo + n + r.length ≤ a.size → (putIn a lo (r.zipIdx n)).toList = a.toList.take (lo + n) ++ r ++ a.toList.drop (lo + n + r.length)
  | [], n, a, h => by simp [putIn]
  | x :: r, n, a, h => by
    have hl : lo + n < a.toList.length := by rw [Array.length_toList]; simp at h; lia
    have ih := put_list lo r (n + 1) (a.setIfInBounds (lo + n) x) (by rw [Array.size_setIfInBounds]; simp at h; lia)
    have e0 : putIn a lo ((x :: r).zipIdx n) = putIn (a.setIfInBounds (lo + n) x) lo (r.zipIdx (n + 1)) := rfl
    rw [e0, ih, Array.toList_setIfInBounds, List.set_eq_take_append_cons_drop, if_pos hl]
    have tl : (a.toList.take (lo + n)).length = lo + n := by rw [List.length_take]; lia
    have e1 : (a.toList.take (lo + n) ++ x :: a.toList.drop (lo + n + 1)).take (lo + (n + 1)) = a.toList.take (lo + n) ++ [x] := by
      rw [List.take_append, tl, List.take_of_length_le (by rw [tl]; lia), show lo + (n + 1) - (lo + n) = 1 by lia]; rfl
    have e2 : (a.toList.take (lo + n) ++ x :: a.toList.drop (lo + n + 1)).drop (lo + (n + 1) + r.length) = a.toList.drop (lo + n + (x :: r).length) := by
      rw [List.drop_append, tl, List.drop_eq_nil_of_le (by rw [tl]; lia), List.nil_append, show lo + (n + 1) + r.length - (lo + n) = r.length + 1 by lia, List.drop_succ_cons, List.drop_drop, List.length_cons]
      congr 1
      lia
    rw [e1, e2]
    simp
theorem mid_list (a : Array Keyed) {lo sb hi : Nat} (h1 : lo ≤ sb) (h2 : sb ≤ hi) : (a.extract lo sb).toList ++ (a.extract sb hi).toList = (a.toList.drop lo).take (hi - lo) := by
  rw [Array.toList_extract, Array.toList_extract, List.extract_eq_drop_take, List.extract_eq_drop_take]
  have e1 : (a.toList.drop lo).take (hi - lo) = (a.toList.drop lo).take (sb - lo) ++ ((a.toList.drop lo).drop (sb - lo)).take (hi - sb) := by
    rw [show hi - lo = (sb - lo) + (hi - sb) by lia, List.take_add]
  rw [e1, List.drop_drop, show lo + (sb - lo) = sb by lia]
theorem merge_rise {a a' : Array Keyed} {sa lo sb hi en : Nat} {r : List Keyed} (h1 : sa ≤ lo) (h2 : lo < sb) (h3 : sb ≤ hi) (h4 : hi ≤ en) (h5 : en ≤ a.size) (h6 : sb < en) (Ra : Rise O key a sa sb) (Rb : Rise O key a sb en)
    (pre : ∀ p, sa ≤ p → p < lo → O.le (kk key a p) (kk key a sb)) (suf : ∀ q, hi ≤ q → q < en → O.le (kk key a (sb - 1)) (kk key a q)) (M : Made O key ((a.extract lo sb).toList ++ (a.extract sb hi).toList) r)
    (e : a'.toList = a.toList.take lo ++ r ++ a.toList.drop hi) : Rise O key a' sa en ∧ a'.toList.Perm a.toList ∧ OnlyA a a' lo hi := by
  obtain ⟨pm, up⟩ := M
  rw [mid_list a (by lia) h3] at pm
  have rl : r.length = hi - lo := by rw [pm.length_eq, List.length_take, List.length_drop, Array.length_toList]; lia
  have tl : (a.toList.take lo).length = lo := by rw [List.length_take, Array.length_toList]; lia
  have g1 : ∀ p, p < lo → a'[p]? = a[p]? := fun p hp => by
    rw [← Array.getElem?_toList, e, List.append_assoc, List.getElem?_append_left (by lia), List.getElem?_take_of_lt hp, Array.getElem?_toList]
  have g3 : ∀ p, hi ≤ p → a'[p]? = a[p]? := fun p hp => by
    rw [← Array.getElem?_toList, e, List.getElem?_append_right (by rw [List.length_append, tl, rl]; lia), List.length_append, tl, rl, List.getElem?_drop, Array.getElem?_toList]
    congr 1
    lia
  have g2 : ∀ p, lo ≤ p → p < hi → a'[p]? = r[p - lo]? := fun p hp hq => by
    rw [← Array.getElem?_toList, e, List.getElem?_append_left (by rw [List.length_append, tl, rl]; lia), List.getElem?_append_right (by lia), tl]
  have mem : ∀ m ∈ r, ∃ p, lo ≤ p ∧ p < hi ∧ a[p]? = some m := fun m hm => by
    obtain ⟨q, hq⟩ := List.mem_iff_getElem?.mp (pm.mem_iff.mp hm)
    have ql : q < hi - lo := by
      have := (List.getElem?_eq_some_iff.mp hq).1
      rw [List.length_take] at this; lia
    rw [List.getElem?_take_of_lt ql, List.getElem?_drop, Array.getElem?_toList] at hq
    exact ⟨lo + q, by lia, by lia, hq⟩
  have k2 : ∀ p, lo ≤ p → p < hi → ∃ p', lo ≤ p' ∧ p' < hi ∧ kk key a' p = kk key a p' := fun p hp hq => by
    have hr : r[p - lo]? = some (r[p - lo]'(by lia)) := List.getElem?_eq_getElem (by lia)
    obtain ⟨p', q1, q2, q3⟩ := mem _ (List.mem_of_getElem? hr)
    exact ⟨p', q1, q2, kk_congr key ((g2 p hp hq).trans (hr.trans q3.symm))⟩
  have lowM : ∀ p p', sa ≤ p → p < lo → lo ≤ p' → p' < hi → O.le (kk key a p) (kk key a p') := fun p p' q1 q2 q3 q4 => by
    rcases Nat.lt_or_ge p' sb with z | z
    · exact Ra p p' q1 (by lia) z
    · exact Ordr.le_trans (pre p q1 q2) (Rb sb p' (Nat.le_refl _) z (by lia))
  have midH : ∀ p' q, lo ≤ p' → p' < hi → hi ≤ q → q < en → O.le (kk key a p') (kk key a q) := fun p' q q1 q2 q3 q4 => by
    rcases Nat.lt_or_ge p' sb with z | z
    · exact Ordr.le_trans (Ra p' (sb - 1) (by lia) (by lia) (by lia)) (suf q q3 q4)
    · exact Rb p' q z (by lia) q4
  refine ⟨fun p q q1 q2 q3 => ?_, ?_, fun p hp => ?_⟩
  · rcases Nat.lt_or_ge p lo with z1 | z1
    · rw [kk_congr key (g1 p z1)]
      rcases Nat.lt_or_ge q lo with z2 | z2
      · rw [kk_congr key (g1 q z2)]; exact Ra p q q1 q2 (by lia)
      · rcases Nat.lt_or_ge q hi with z3 | z3
        · obtain ⟨q', r1, r2, r3⟩ := k2 q z2 z3
          rw [r3]; exact lowM p q' q1 z1 r1 r2
        · rw [kk_congr key (g3 q z3)]
          exact Ordr.le_trans (Ra p (sb - 1) q1 (by lia) (by lia)) (suf q z3 q3)
    · rcases Nat.lt_or_ge p hi with z4 | z4
      · rcases Nat.lt_or_ge q hi with z3 | z3
        · rcases Nat.lt_or_eq_of_le q2 with z5 | z5
          · have hr1 : r[p - lo]? = some (r[p - lo]'(by lia)) := List.getElem?_eq_getElem (by lia)
            have hr2 : r[q - lo]? = some (r[q - lo]'(by lia)) := List.getElem?_eq_getElem (by lia)
            rw [kk_at ((g2 p z1 z4).trans hr1), kk_at ((g2 q (by lia) z3).trans hr2)]
            exact List.pairwise_iff_getElem.mp up (p - lo) (q - lo) (by lia) (by lia) (by lia)
          · rw [z5]; exact Ordr.le_refl _
        · obtain ⟨p', r1, r2, r3⟩ := k2 p z1 z4
          rw [r3, kk_congr key (g3 q z3)]
          exact midH p' q r1 r2 z3 q3
      · rw [kk_congr key (g3 p z4), kk_congr key (g3 q (by lia))]
        exact Rb p q (by lia) q2 q3
  · rw [e]
    have e1 : a.toList = a.toList.take lo ++ ((a.toList.drop lo).take (hi - lo) ++ a.toList.drop hi) := by
      have : (a.toList.drop lo).take (hi - lo) ++ a.toList.drop hi = a.toList.drop lo := by
        conv => rhs; rw [← List.take_append_drop (hi - lo) (a.toList.drop lo)]
        rw [List.drop_drop, show lo + (hi - lo) = hi by lia]
      rw [this, List.take_append_drop]
    conv => rhs; rw [e1]
    rw [List.append_assoc]
    exact (pm.append_right _).append_left _
  · rcases hp with hp | hp
    · exact g1 p hp
    · exact g3 p hp
end
end L2

namespace L2
open PySem PySem.Spec PyProof.Rows
def mgAt : Nat → StateT SortSt Sem Bool := sortPriv% PySem.Builtin.mergeAt
theorem mgAt_eq (i : Nat) : mgAt i = (do
  let z ← get
  let (some (la, ca, pw), some (lb, cb, _)) := ((pendingOf z)[i]?, (pendingOf z)[i + 1]?) | unsupported "internal:list.sort.pending"
  set (SortSt.mk' (kindOf z) (arrOf z) (((pendingOf z).setIfInBounds i (la, ca + cb, pw)).eraseIdxIfInBounds (i + 1)) (gallopOf z) (failedOf z))
  let some k ← gal false (← elem' (arrOf z) lb) (arrOf z) la ca 0 | return false
  let (la, ca) := (la + k, ca - k)
  if ca == 0 then return true
  let some cb ← gal true (← elem' (arrOf z) (la + ca - 1)) (arrOf z) lb cb (cb - 1) | return false
  if cb == 0 then return true
  let xx := (arrOf z).extract la lb
  let yy := (arrOf z).extract lb (lb + cb)
  let m ← if ca ≤ cb then mgLo xx yy else mgHi xx yy
  modify fun q => SortSt.mk' (kindOf q) (m.toList.zipIdx.foldl (fun a (p, j) => a.setIfInBounds (la + j) p) (arrOf q)) (pendingOf q) (gallopOf q) (failedOf q)
  return (failedOf (← get)).isNone) := rfl
section
variable {κ : Type} {O : Ordr κ} {key : Keyed → κ} {prog : Program} {w : World} {A : Around} {E : Value → Shared → Prop} {s : Shared} {a₀ : Array Keyed} {kd : SortKind}
theorem t_set {M : Model} {st z : SortSt} {Q : PUnit → SortSt → Prop} (h : Q ⟨⟩ z) : wpS M A E s (set z : StateT SortSt Sem PUnit) Q st := by
  unfold wpS
  rw [StateT.run_set]
  exact wpAny_pure ⟨rfl, h⟩
theorem join_rise {a : Array Keyed} {sa sb en : Nat} (h : sb < en) (Ra : Rise O key a sa sb) (Rb : Rise O key a sb en) (m : ∀ p, sa ≤ p → p < sb → O.le (kk key a p) (kk key a sb)) : Rise O key a sa en := fun p q q1 q2 q3 => by
  rcases Nat.lt_or_ge p sb with z | z
  · rcases Nat.lt_or_ge q sb with y | y
    · exact Ra p q q1 q2 y
    · exact Ordr.le_trans (m p q1 z) (Rb sb q (Nat.le_refl _) y q3)
  · exact Rb p q z q2 q3
theorem ext_at {a : Array Keyed} {lo hi i : Nat} {x : Keyed} (h : hi ≤ a.size) (e : (a.extract lo hi)[i]? = some x) : lo + i < hi ∧ a[lo + i]? = some x := by
  rw [Array.getElem?_extract] at e
  split at e
  · exact ⟨by lia, e⟩
  · cases e
theorem up_ext {a : Array Keyed} {lo hi : Nat} (h : hi ≤ a.size) (R : Rise O key a lo hi) : Up O key (a.extract lo hi).toList := by
  refine List.pairwise_iff_getElem.mpr fun i j h1 h2 h3 => ?_
  rw [Array.length_toList] at h1 h2
  have e1 : (a.extract lo hi)[i]? = some ((a.extract lo hi).toList[i]) := by rw [← Array.getElem?_toList]; exact List.getElem?_eq_getElem _
  have e2 : (a.extract lo hi)[j]? = some ((a.extract lo hi).toList[j]) := by rw [← Array.getElem?_toList]; exact List.getElem?_eq_getElem _
  obtain ⟨l1, g1⟩ := ext_at h e1
  obtain ⟨l2, g2⟩ := ext_at h e2
  have := R (lo + i) (lo + j) (by lia) (by lia) l2
  rw [kk_at g1, kk_at g2] at this
  exact this
theorem t_mgAt (C : Cmp O key prog w A E s a₀ kd) {st : SortSt} {i la ca pa lb cb pb : Nat} {Q : Bool → SortSt → Prop} (hB : Bas a₀ kd st) (e1 : (pendingOf st)[i]? = some (la, ca, pa)) (e2 : (pendingOf st)[i + 1]? = some (lb, cb, pb)) (el : lb = la + ca) (c1 : 1 ≤ ca) (c2 : 1 ≤ cb) (hz : lb + cb ≤ a₀.size)
    (Ra : Rise O key (arrOf st) la lb) (Rb : Rise O key (arrOf st) lb (lb + cb))
    (h : ∀ z, Bas a₀ kd z → pendingOf z = ((pendingOf st).setIfInBounds i (la, ca + cb, pa)).eraseIdxIfInBounds (i + 1) → OnlyA (arrOf st) (arrOf z) la (lb + cb) → Rise O key (arrOf z) la (lb + cb) → Q true z) : wpS (model prog w) A E s (mgAt i) Q st := by
  rw [mgAt_eq]
  refine wpS_bind (wpS_get ?_)
  dsimp only
  rw [e1, e2]
  dsimp only
  refine wpS_bind (t_set ?_)
  obtain ⟨P, hP⟩ : ∃ P, P = ((pendingOf st).setIfInBounds i (la, ca + cb, pa)).eraseIdxIfInBounds (i + 1) := ⟨_, rfl⟩
  rw [← hP] at h ⊢
  have hsz := hB.size
  have BZ : Bas a₀ kd (SortSt.mk' (kindOf st) (arrOf st) P (gallopOf st) (failedOf st)) := ⟨hB.perm, hB.kind, hB.failed⟩
  obtain ⟨y0, ey0, my0⟩ := hB.at (i := lb) (by lia)
  have mem : ∀ {q : Nat} {x : Keyed}, (arrOf st)[q]? = some x → x ∈ a₀ := fun {q x} e => by
    have hq : q < a₀.size := by
      have := (Array.getElem?_eq_some_iff.mp e).1
      lia
    obtain ⟨x', e', m'⟩ := hB.at hq
    rw [e] at e'
    rw [Option.some.inj e']; exact m'
  refine wpS_bind (t_elem ey0 (wpS_bind (t_gal C BZ.kind my0 (fun q hq => ?m1) (by rw [← el]; exact Ra) (by lia) fun k eg => ?_)))
  case m1 =>
    obtain ⟨x, ex, mx⟩ := hB.at (i := la + q) (by lia)
    exact ⟨x, ex, mx⟩
  dsimp only
  have kl := eg.le
  have lowB : ∀ p, la ≤ p → p < la + k → O.le (kk key (arrOf st) p) (kk key (arrOf st) lb) := fun p h1 h2 => by
    have := eg.yes (p - la) (by lia)
    unfold pastP at this
    rw [if_neg Bool.false_ne_true, show la + (p - la) = p by lia] at this
    rw [kk_at ey0]
    show O.lt (key y0) (kk key (arrOf st) p) = false
    cases z : O.lt (key y0) (kk key (arrOf st) p) with
    | false => rfl
    | true => rw [z] at this; cases this
  by_cases z0 : ca - k = 0
  · rw [if_pos (by simpa using z0)]
    exact wpS_pure (h _ BZ rfl (OnlyA.refl _ _ _) (join_rise (by lia) Ra Rb fun p h1 h2 => lowB p h1 (by lia)))
  rw [if_neg (by simpa using z0), show la + k + (ca - k) - 1 = lb - 1 by lia]
  obtain ⟨xl, exl, mxl⟩ := hB.at (i := lb - 1) (by lia)
  refine wpS_bind (t_elem exl (wpS_bind (t_gal C BZ.kind mxl (fun q hq => ?m2) Rb (by lia) fun k2 eg2 => ?_)))
  case m2 =>
    obtain ⟨x, ex, mx⟩ := hB.at (i := lb + q) (by lia)
    exact ⟨x, ex, mx⟩
  dsimp only
  have kl2 := eg2.le
  have hiL : ∀ q, lb + k2 ≤ q → q < lb + cb → O.le (kk key (arrOf st) (lb - 1)) (kk key (arrOf st) q) := fun q h1 h2 => by
    have := eg2.no (q - lb) (by lia) (by lia)
    unfold pastP at this
    rw [if_pos rfl, show lb + (q - lb) = q by lia] at this
    rw [kk_at exl]
    exact this
  by_cases z1 : k2 = 0
  · rw [if_pos (by simpa using z1)]
    exact wpS_pure (h _ BZ rfl (OnlyA.refl _ _ _) (join_rise (by lia) Ra Rb fun p h1 h2 => Ordr.le_trans (Ra p (lb - 1) h1 (by lia) (by lia)) (hiL lb (by lia) (by lia))))
  rw [if_neg (by simpa using z1)]
  have W : Two O key a₀ ((arrOf st).extract (la + k) lb) ((arrOf st).extract lb (lb + k2)) := by
    refine ⟨fun q x e => mem (ext_at (by lia) e).2, fun q x e => mem (ext_at (by lia) e).2, up_ext (by lia) fun p q h1 h2 h3 => Ra p q (by lia) h2 h3, up_ext (by lia) fun p q h1 h2 h3 => Rb p q h1 h2 (by lia), by rw [Array.size_extract]; lia, by rw [Array.size_extract]; lia, fun x y ex ey => ?_, fun x y j ex ey => ?_⟩
    · obtain ⟨_, g1⟩ := ext_at (by lia) ex
      obtain ⟨_, g2⟩ := ext_at (by lia) ey
      rw [Nat.add_zero] at g1
      have := eg.no k (Nat.le_refl _) (by lia)
      unfold pastP at this
      rw [if_neg Bool.false_ne_true, kk_at g1] at this
      rw [show lb + 0 = lb by lia, ey0] at g2
      rw [← Option.some.inj g2]
      cases z : O.lt (key y0) (key x) with
      | true => rfl
      | false => rw [z] at this; cases this
    · rw [Array.size_extract] at ex
      obtain ⟨_, g1⟩ := ext_at (by lia) ex
      obtain ⟨l2, g2⟩ := ext_at (by lia) ey
      rw [show la + k + (min lb (arrOf st).size - (la + k) - 1) = lb - 1 by lia, exl] at g1
      have := eg2.yes j (by lia)
      unfold pastP at this
      rw [if_pos rfl, kk_at g2, Option.some.inj g1] at this
      exact this
  have cont : ∀ (r : Array Keyed) (z : SortSt), SamS (SortSt.mk' (kindOf st) (arrOf st) P (gallopOf st) (failedOf st)) z → Made O key (((arrOf st).extract (la + k) lb).toList ++ ((arrOf st).extract lb (lb + k2)).toList) r.toList → Q true (SortSt.mk' (kindOf z) (putIn (arrOf z) (la + k) r.toList.zipIdx) (pendingOf z) (gallopOf z) (failedOf z)) := fun r z SS M => by
    have ea : arrOf z = arrOf st := SS.arr
    have rl : r.toList.length = lb + k2 - (la + k) := by
      rw [M.1.length_eq, mid_list _ (by lia) (by lia), List.length_take, List.length_drop, Array.length_toList]; lia
    have pe := put_list (la + k) r.toList 0 (arrOf z) (by rw [ea, rl]; lia)
    rw [Nat.add_zero, rl, ea, show la + k + (lb + k2 - (la + k)) = lb + k2 by lia] at pe
    obtain ⟨R1, R2, R3⟩ := merge_rise (a' := putIn (arrOf st) (la + k) r.toList.zipIdx) (sa := la) (en := lb + cb) (by lia) (by lia) (by lia) (by lia) (by lia) (by lia) Ra Rb (fun p h1 h2 => lowB p h1 h2) hiL M pe
    rw [ea]
    exact h _ ⟨(Array.perm_iff_toList_perm.mpr R2).trans hB.perm, SS.kind.trans hB.kind, SS.failed.trans hB.failed⟩ SS.pend (R3.wide (by lia) (by lia)) R1
  have fz : ∀ (z : SortSt), SamS (SortSt.mk' (kindOf st) (arrOf st) P (gallopOf st) (failedOf st)) z → (failedOf z).isNone = true := fun z SS => by rw [SS.failed, show failedOf (SortSt.mk' (kindOf st) (arrOf st) P (gallopOf st) (failedOf st)) = none from hB.failed]; rfl
  split
  · refine wpS_bind (t_mgLo C BZ.kind W fun r z SS M => wpS_bind (wpS_modify (wpS_bind (wpS_get (wpS_pure ?_)))))
    rw [show (failedOf (SortSt.mk' (kindOf z) _ (pendingOf z) (gallopOf z) (failedOf z))).isNone = true from fz z SS]
    exact cont r z SS M
  · refine wpS_bind (t_mgHi C BZ.kind W fun r z SS M => wpS_bind (wpS_modify (wpS_bind (wpS_get (wpS_pure ?_)))))
    rw [show (failedOf (SortSt.mk' (kindOf z) _ (pendingOf z) (gallopOf z) (failedOf z))).isNone = true from fz z SS]
    exact cont r z SS M
end
end L2

namespace L2
open PySem PySem.Spec PyProof.Rows
/-! ### the stack of runs -/
section
variable {κ : Type} {O : Ordr κ} {key : Keyed → κ} {prog : Program} {w : World} {A : Around} {E : Value → Shared → Prop} {s : Shared} {a₀ : Array Keyed} {kd : SortKind}
inductive Stk (O : Ordr κ) (key : Keyed → κ) (x : Array Keyed) : List (Nat × Nat × Nat) → Nat → Nat → Prop
  | nil (a : Nat) : Stk O key x [] a a
  | cons {a n p b : Nat} {r : List (Nat × Nat × Nat)} : 1 ≤ n → Rise O key x a (a + n) → Stk O key x r (a + n) b → Stk O key x ((a, n, p) :: r) a b
theorem Stk.len {x : Array Keyed} {l : List (Nat × Nat × Nat)} {a b : Nat} (h : Stk O key x l a b) : a + l.length ≤ b := by
  induction h with
  | nil => simp
  | cons h1 _ _ ih => rw [List.length_cons]; lia
theorem Stk.snoc {x : Array Keyed} {l : List (Nat × Nat × Nat)} {a b n p : Nat} (h : Stk O key x l a b) (h1 : 1 ≤ n) (R : Rise O key x b (b + n)) : Stk O key x (l ++ [(b, n, p)]) a (b + n) := by
  induction h with
  | nil => exact .cons h1 R (.nil _)
  | cons g1 g2 _ ih => exact .cons g1 g2 (ih R)
theorem Stk.keep {x y : Array Keyed} {l : List (Nat × Nat × Nat)} {a b lo hi : Nat} (h : Stk O key x l a b) (g : OnlyA x y lo hi) (d : b ≤ lo ∨ hi ≤ a) : Stk O key y l a b := by
  induction h with
  | nil => exact .nil _
  | cons g1 g2 g3 ih =>
    have := g3.len
    exact .cons g1 (g2.keep g (by lia)) (ih (by lia))
theorem Stk.at {x : Array Keyed} {l : List (Nat × Nat × Nat)} {a b : Nat} (h : Stk O key x l a b) : ∀ {i u n p : Nat}, l[i]? = some (u, n, p) → 1 ≤ n ∧ a ≤ u ∧ u + n ≤ b ∧ Rise O key x u (u + n) := by
  induction h with
  | nil => intro i u n p e; simp at e
  | cons g1 g2 g3 ih =>
    intro i u n p e
    cases i with
    | zero =>
      have e := Option.some.inj e
      injection e with e1 e2
      injection e2 with e2 e3
      subst e1 e2
      exact ⟨g1, Nat.le_refl _, (by have := g3.len; lia), g2⟩
    | succ i =>
      obtain ⟨k1, k2, k3, k4⟩ := ih e
      exact ⟨k1, by lia, k3, k4⟩
theorem Stk.merge {x y : Array Keyed} {l : List (Nat × Nat × Nat)} {a b : Nat} (h : Stk O key x l a b) : ∀ {i u n p v m q : Nat}, l[i]? = some (u, n, p) → l[i + 1]? = some (v, m, q) → v = u + n ∧ (OnlyA x y u (v + m) → Rise O key y u (v + m) → Stk O key y ((l.set i (u, n + m, p)).eraseIdx (i + 1)) a b) := by
  induction h with
  | nil => intro i u n p v m q e; simp at e
  | @cons a n0 p0 b r g1 g2 g3 ih =>
    intro i u n p v m q e1 e2
    cases i with
    | zero =>
      have e := Option.some.inj e1
      injection e with e1 e3
      injection e3 with e3 e4
      subst e1 e3 e4
      cases g3 with
      | nil => simp at e2
      | @cons _ n1 p1 _ r1 k1 k2 k3 =>
        have e := Option.some.inj e2
        injection e with f1 f3
        injection f3 with f3 f4
        subst f3
        refine ⟨f1.symm, fun On R => ?_⟩
        subst f1
        have := k3.len
        show Stk O key y ((a, n0 + n1, p0) :: r1) a b
        refine .cons (by lia) (by rw [← Nat.add_assoc]; exact R) ?_
        rw [← Nat.add_assoc]
        exact k3.keep On (by lia)
    | succ i =>
      obtain ⟨j1, j2⟩ := ih e1 e2
      obtain ⟨_, k2, _, _⟩ := g3.at e1
      exact ⟨j1, fun On R => .cons g1 (g2.keep On (by lia)) (j2 On R)⟩
theorem Stk.pow {x : Array Keyed} {l : List (Nat × Nat × Nat)} {a b pw : Nat} (h : Stk O key x l a b) : ∀ i, Stk O key x (l.modify i fun q => (q.1, q.2.1, pw)) a b := by
  induction h with
  | nil => intro i; cases i <;> exact .nil _
  | cons g1 g2 g3 ih =>
    intro i
    cases i with
    | zero => exact .cons g1 g2 g3
    | succ i => exact .cons g1 g2 (ih i)
theorem t_merge (C : Cmp O key prog w A E s a₀ kd) {z : SortSt} {i lo : Nat} {Q : Bool → SortSt → Prop} (hB : Bas a₀ kd z) (S : Stk O key (arrOf z) (pendingOf z).toList 0 lo) (hl : lo ≤ a₀.size) (hi : i + 1 < (pendingOf z).size)
    (h : ∀ z', Bas a₀ kd z' → Stk O key (arrOf z') (pendingOf z').toList 0 lo → (pendingOf z').size + 1 = (pendingOf z).size → OnlyA (arrOf z) (arrOf z') 0 lo → Q true z') : wpS (model prog w) A E s (mergeAt' i) Q z := by
  have e1 : (pendingOf z)[i]? = some ((pendingOf z)[i]) := Array.getElem?_eq_getElem _
  have e2 : (pendingOf z)[i + 1]? = some ((pendingOf z)[i + 1]) := Array.getElem?_eq_getElem _
  obtain ⟨⟨u, n, p⟩, hu⟩ : ∃ q, q = (pendingOf z)[i] := ⟨_, rfl⟩
  obtain ⟨⟨v, m, q⟩, hv⟩ : ∃ q, q = (pendingOf z)[i + 1] := ⟨_, rfl⟩
  rw [← hu] at e1
  rw [← hv] at e2
  have f1 : (pendingOf z).toList[i]? = some (u, n, p) := by rw [Array.getElem?_toList]; exact e1
  have f2 : (pendingOf z).toList[i + 1]? = some (v, m, q) := by rw [Array.getElem?_toList]; exact e2
  obtain ⟨a1, a2, a3, a4⟩ := S.at f1
  obtain ⟨b1, b2, b3, b4⟩ := S.at f2
  have ev := (S.merge (y := arrOf z) f1 f2).1
  refine t_mgAt C hB e1 e2 ev a1 b1 (by lia) (by rw [ev]; exact a4) b4 fun z' B' P' On R => ?_
  have st := (S.merge (y := arrOf z') f1 f2).2 On R
  have sz : (pendingOf z').size + 1 = (pendingOf z).size := by
    rw [P']
    unfold Array.eraseIdxIfInBounds
    rw [dif_pos (by rw [Array.size_setIfInBounds]; exact hi), Array.size_eraseIdx, Array.size_setIfInBounds]; lia
  refine h z' B' ?_ sz (On.wide (by lia) (by lia))
  rw [P']
  unfold Array.eraseIdxIfInBounds
  rw [dif_pos (by rw [Array.size_setIfInBounds]; exact hi), Array.toList_eraseIdx, Array.toList_setIfInBounds]
  exact st
theorem t_runs (C : Cmp O key prog w A E s a₀ kd) {st : SortSt} {Q : Unit → SortSt → Prop} (hB : Bas a₀ kd st) (hp : pendingOf st = #[]) (h1 : 1 ≤ a₀.size)
    (h : ∀ z, Bas a₀ kd z → Rise O key (arrOf z) 0 a₀.size → Q () z) : wpS (model prog w) A E s sortRuns' Q st := by
  rw [sortRuns'_eq]
  refine wpS_bind (wpS_get ?_)
  dsimp only
  simp only [hB.size]
  generalize minRun' a₀.size a₀.size 0 = mr
  have S0 : Stk O key (arrOf st) (pendingOf st).toList 0 0 := by rw [hp]; exact .nil _
  refine wpS_bind (wpS_mono (wpS_forRange (I := fun x c z => ∃ lo, c = (none, lo) ∧ Bas a₀ kd z ∧ Stk O key (arrOf z) (pendingOf z).toList 0 lo ∧ lo ≤ a₀.size ∧ x ≤ lo) (Q := fun c z => c = (none, a₀.size) ∧ Bas a₀ kd z ∧ Stk O key (arrOf z) (pendingOf z).toList 0 a₀.size) ?one ?last ⟨0, rfl, hB, S0, Nat.zero_le _, Nat.le_refl _⟩) ?behind)
  case last =>
    rintro c z ⟨lo, rfl, B, S, l1, l2⟩
    have e : lo = a₀.size := by lia
    subst e
    exact ⟨rfl, B, S⟩
  case one =>
    rintro x c z _ hx ⟨lo, rfl, B, S, l1, l2⟩
    dsimp only
    by_cases hlo : lo ≥ a₀.size
    · rw [if_pos hlo]
      have e : lo = a₀.size := by lia
      subst e
      exact wpS_pure ⟨rfl, B, S⟩
    · rw [if_neg hlo]
      refine wpS_bind (t_count C B (by lia) (by lia) fun z1 n B1 P1 On1 n1 n2 R1 => ?_)
      dsimp only
      have S1 : Stk O key (arrOf z1) (pendingOf z1).toList 0 lo := by rw [P1]; exact S.keep On1 (.inl (Nat.le_refl _))
      by_cases hmr : n < mr
      · rw [if_pos hmr]
        refine wpS_bind (wpS_lift (wpAny_rule ⟨rfl, ?_⟩))
        refine wpS_bind (t_binary C B1 (by lia) (by lia) R1 fun z2 B2 P2 On2 R2 => ?_)
        rw [if_neg (by simp)]
        have S2 : Stk O key (arrOf z2) (pendingOf z2).toList 0 lo := by rw [P2]; exact S1.keep On2 (.inl (Nat.le_refl _))
        have m1 : 1 ≤ min (a₀.size - lo) mr := by lia
        have m2 : lo + min (a₀.size - lo) mr ≤ a₀.size := by lia
        generalize min (a₀.size - lo) mr = N at R2 m1 m2 ⊢
        refine wpS_bind (wpS_get ?_)
        cases hb : (pendingOf z2).back? with
        | none =>
          dsimp only
          refine wpS_bind (wpS_modify (wpS_pure ⟨lo + N, rfl, ⟨B2.perm, B2.kind, B2.failed⟩, ?_, m2, by lia⟩))
          show Stk O key (arrOf z2) ((pendingOf z2).push (lo, N, 0)).toList 0 (lo + N)
          rw [Array.toList_push]
          exact S2.snoc m1 R2
        | some t =>
          obtain ⟨s1, k1, q1⟩ := t
          dsimp only
          refine wpS_bind (wpS_mono (wpS_forRange (I := fun _ c z => c = (none, ()) ∧ Bas a₀ kd z ∧ Stk O key (arrOf z) (pendingOf z).toList 0 lo ∧ Rise O key (arrOf z) lo (lo + N)) (Q := fun c z => c = (none, ()) ∧ Bas a₀ kd z ∧ Stk O key (arrOf z) (pendingOf z).toList 0 lo ∧ Rise O key (arrOf z) lo (lo + N)) ?st (fun c z q => q) ⟨rfl, B2, S2, R2⟩) ?en)
          case st =>
            rintro y c z _ _ ⟨rfl, Bz, Sz, Rz⟩
            refine wpS_bind (wpS_get ?_)
            by_cases h2 : (pendingOf z).size > 1
            · rw [if_pos h2]
              cases he : (pendingOf z)[(pendingOf z).size - 2]? with
              | none => exact wpS_pure ⟨rfl, Bz, Sz, Rz⟩
              | some t =>
                obtain ⟨t1, t2, t3⟩ := t
                dsimp only
                split
                · exact wpS_pure ⟨rfl, Bz, Sz, Rz⟩
                · refine wpS_bind (t_merge C Bz Sz l1 (by lia) fun z' B' S' _ On' => ?_)
                  rw [if_neg (by simp)]
                  exact wpS_pure ⟨rfl, B', S', Rz.keep On' (.inr (Nat.le_refl _))⟩
            · rw [if_neg h2]
              exact wpS_pure ⟨rfl, Bz, Sz, Rz⟩
          case en =>
            rintro c z ⟨rfl, Bz, Sz, Rz⟩
            dsimp only
            refine wpS_bind (wpS_modify (wpS_bind (wpS_modify (wpS_pure ⟨lo + N, rfl, ⟨Bz.perm, Bz.kind, Bz.failed⟩, ?_, m2, by lia⟩))))
            show Stk O key (arrOf z) (((pendingOf z).modify _ _).push (lo, N, 0)).toList 0 (lo + N)
            rw [Array.toList_push, Array.toList_modify]
            exact (Sz.pow _).snoc m1 Rz
      · rw [if_neg hmr]
        have m2 : lo + n ≤ a₀.size := by lia
        refine wpS_bind (wpS_get ?_)
        cases hb : (pendingOf z1).back? with
        | none =>
          dsimp only
          refine wpS_bind (wpS_modify (wpS_pure ⟨lo + n, rfl, ⟨B1.perm, B1.kind, B1.failed⟩, ?_, m2, by lia⟩))
          show Stk O key (arrOf z1) ((pendingOf z1).push (lo, n, 0)).toList 0 (lo + n)
          rw [Array.toList_push]
          exact S1.snoc n1 R1
        | some t =>
          obtain ⟨s1, k1, q1⟩ := t
          dsimp only
          refine wpS_bind (wpS_mono (wpS_forRange (I := fun _ c z => c = (none, ()) ∧ Bas a₀ kd z ∧ Stk O key (arrOf z) (pendingOf z).toList 0 lo ∧ Rise O key (arrOf z) lo (lo + n)) (Q := fun c z => c = (none, ()) ∧ Bas a₀ kd z ∧ Stk O key (arrOf z) (pendingOf z).toList 0 lo ∧ Rise O key (arrOf z) lo (lo + n)) ?st (fun c z q => q) ⟨rfl, B1, S1, R1⟩) ?en)
          case st =>
            rintro y c z _ _ ⟨rfl, Bz, Sz, Rz⟩
            refine wpS_bind (wpS_get ?_)
            by_cases h2 : (pendingOf z).size > 1
            · rw [if_pos h2]
              cases he : (pendingOf z)[(pendingOf z).size - 2]? with
              | none => exact wpS_pure ⟨rfl, Bz, Sz, Rz⟩
              | some t =>
                obtain ⟨t1, t2, t3⟩ := t
                dsimp only
                split
                · exact wpS_pure ⟨rfl, Bz, Sz, Rz⟩
                · refine wpS_bind (t_merge C Bz Sz l1 (by lia) fun z' B' S' _ On' => ?_)
                  rw [if_neg (by simp)]
                  exact wpS_pure ⟨rfl, B', S', Rz.keep On' (.inr (Nat.le_refl _))⟩
            · rw [if_neg h2]
              exact wpS_pure ⟨rfl, Bz, Sz, Rz⟩
          case en =>
            rintro c z ⟨rfl, Bz, Sz, Rz⟩
            dsimp only
            refine wpS_bind (wpS_modify (wpS_bind (wpS_modify (wpS_pure ⟨lo + n, rfl, ⟨Bz.perm, Bz.kind, Bz.failed⟩, ?_, m2, by lia⟩))))
            show Stk O key (arrOf z) (((pendingOf z).modify _ _).push (lo, n, 0)).toList 0 (lo + n)
            rw [Array.toList_push, Array.toList_modify]
            exact (Sz.pow _).snoc n1 Rz
  case behind =>
    rintro c z ⟨rfl, B, S⟩
    dsimp only
    refine wpS_bind (wpS_mono (wpS_forRange (I := fun x c z => c = (none, ()) ∧ Bas a₀ kd z ∧ Stk O key (arrOf z) (pendingOf z).toList 0 a₀.size ∧ ((pendingOf z).size ≤ 1 ∨ (pendingOf z).size + x ≤ a₀.size)) (Q := fun c z => c = (none, ()) ∧ Bas a₀ kd z ∧ Stk O key (arrOf z) (pendingOf z).toList 0 a₀.size ∧ (pendingOf z).size ≤ 1) ?go ?stop ⟨rfl, B, S, .inr (by have := S.len; rw [Array.length_toList] at this; lia)⟩) ?fin)
    case stop =>
      rintro c z ⟨rfl, B, S, o⟩
      exact ⟨rfl, B, S, by lia⟩
    case go =>
      rintro x c z _ hx ⟨rfl, B, S, o⟩
      refine wpS_bind (wpS_get ?_)
      by_cases h2 : (pendingOf z).size ≤ 1
      · rw [if_pos h2]
        exact wpS_pure ⟨rfl, B, S, h2⟩
      · rw [if_neg h2]
        have hi : ∀ b : Bool, (if b = true then (pendingOf z).size - 2 - 1 else (pendingOf z).size - 2) + 1 < (pendingOf z).size := fun b => by
          cases b
          · rw [if_neg Bool.false_ne_true]; lia
          · rw [if_pos rfl]; lia
        refine wpS_bind (t_merge C B S (Nat.le_refl _) (hi _) fun z' B' S' sz' _ => ?_)
        rw [if_neg (by simp)]
        exact wpS_pure ⟨rfl, B', S', by lia⟩
    case fin =>
      rintro c z ⟨rfl, B, S, o⟩
      refine wpS_pure (h z B ?_)
      rw [← Array.length_toList] at o
      cases hl : (pendingOf z).toList with
      | nil =>
        rw [hl] at S
        generalize e : a₀.size = m at S h1
        cases S
        lia
      | cons q r =>
        rw [hl] at S o
        have hr : r = [] := by
          cases r with
          | nil => rfl
          | cons _ _ => simp at o
        subst hr
        obtain ⟨u, n, p⟩ := q
        generalize e : a₀.size = m at S ⊢
        cases S with
        | cons g1 g2 g3 =>
          cases g3
          exact g2
end
end L2

namespace L2
open PySem PySem.Spec PyProof.Rows
/-! ### sorted of numbers, in any order, of any length -/
def ordI : Ordr Int := ⟨fun a b => decide (a < b), fun a => decide_eq_false (Int.lt_irrefl a), fun a b c h1 h2 => decide_eq_true (Int.lt_trans (of_decide_eq_true h1) (of_decide_eq_true h2)), fun a b c h => by
  have := of_decide_eq_true h
  by_cases z : a < b
  · exact .inl (decide_eq_true z)
  · exact .inr (decide_eq_true (by lia))⟩
section
variable {prog : Program} {w : World} {A : Around} {E : Value → Shared → Prop} {s : Shared}
end
section
variable {X : Cx} {e : Expr} {te : TE} {p pos : Pos}
end
end L2

namespace L2
open PySem PySem.Spec PyProof.Rows
/-! ### sum(a list of lists, []) -/
section
variable {prog : Program} {w : World} {A : Around} {R : Result → Shared → Prop} {I S ax : Addr} {items : Array Value} {L : Nat → List Value}
end
section
variable {X : Cx} {e e2 : Expr} {te te2 : TE} {p pos : Pos}
end
end L2

namespace L2
open PySem PySem.Spec PyProof.Rows
/-! ### a law whose defs make lambdas: the tables of their code objects are tracked -/
def tabφ (P : Addr) (ps : Array Value) : Heap → Prop := fun h => h.get? P = some (PySem.W.tabObj ps)
def codφ (c : Addr) (qual : Str) : Heap → Prop := fun h => h.CodeRec (.ref c) qual
/-- the module of the built-in names -/
def Bmn (mg : Str → Option Value) (h : Heap) : Prop := ∃ bm ob, mg "__builtins__" = some (.ref bm) ∧ bm ≠ builtinsNs ∧ h.get? bm = some ob ∧ ob.cls = .type "module" ∧ ob.dict = some builtinsNs ∧ ob.data = .plain
def tabE (P : Addr) (ps : Array Value) : HO := .ext (tabφ P ps)
theorem tab_ok {prog : Program} {w : World} {H : Hp} {h : Heap} {P : Addr} {ps : Array Value} (e : h.get? P = some (PySem.W.tabObj ps)) : ObjOk prog w H h P (tabE P ps) := ⟨e, ⟨_, e⟩, fun _ _ z k => k _ z⟩
section
variable {Pr : Program} {w : World} {K : PySem.W.Frag} {mg mb : Str → Option Value} {CX : CXT} {k : Nat} {fa a P : Addr} {fd : FuncData} {x : Str} {sp : Sp} {s₁ : Shared} {vs : List Value} {ns : List Int}
/-- the heap at the law's begin: the script, and one table -/
structure Beg (K : PySem.W.Frag) (a P : Addr) (H : Hp) : Prop where
  tab : H P = some (tabE P #[])
  only : ∀ b u, H b = some u → (b = P ∧ u = tabE P #[]) ∨ (b = a ∧ K.lookup a = none ∧ ∃ o xs, u = .frz o (.lst xs))
theorem law_tab (KX : K.In s₁.heap) (hns : s₁.heap.Ns mainGlobals mg) (hb : s₁.heap.Ns builtinsNs mb) (hbb : ∀ x : Str, x ≠ "__name__" → mb x = bootBuiltins x) (hbm : Bmn mg s₁.heap) (hlim : s₁.heap.NoLimit) (hg : s₁.gens = #[])
    (ha : s₁.heap.get? a = some { cls := .type "list", data := .seq vs.toArray }) (hi : IntsAre vs ns) (hl : ns.length ≤ sizeLine) (hr : Room k callerA)
    (hP : s₁.heap.get? P = some (PySem.W.tabObj #[])) (hKP : K.lookup P = none) (hcT : isCodeTable s₁.heap P)
    (F : ∀ base : Heap, K.In base → base.Ns mainGlobals mg → Bmn mg base → FnOk Pr w K mg base CX k fa fd [x] sp) (hbind : ∀ (s : Shared) (u : Value), BindsTo s fd ⟨[u], []⟩ [(x, u)])
    (hsp : ∀ H : Hp, Beg K a P H → SqL K H a (ns.map V.int) → sp [.ref a] H (fun v H' => v = .bl true ∧ ∃ ps, H' P = some (tabE P ps)) fun _ _ _ => False)
    (hCX : ∀ H e s', CX [] H s₁ (fun _ _ _ => False) e s' → False) :
    codeAny (model Pr w) callerA (.call (.ref fa) ⟨[.ref a], []⟩) (fun r s' => r = .ok (.ret (.bool true)) ∧ OldK s₁.heap s'.heap ∧ s'.os = s₁.os ∧ AllBare s'.gens) s₁ := by
  have rv := vals_ints hi
  have nPa : P ≠ a := fun z => by rw [z, ha] at hP; cases hP
  have go : ∀ H : Hp, Beg K a P H → SqL K H a (ns.map V.int) → HOk Pr w H s₁.heap → codeAny (model Pr w) callerA (.call (.ref fa) ⟨[.ref a], []⟩) (fun r s' => r = .ok (.ret (.bool true)) ∧ OldK s₁.heap s'.heap ∧ s'.os = s₁.os ∧ AllBare s'.gens) s₁ := by
    intro H B hS hok
    -- what is no list and no table is not tracked
    have fr : ∀ {b : Addr} {o : Obj}, s₁.heap.get? b = some o → (∀ xs n, o.data ≠ .seq xs n) → (∀ f, o.data ≠ .fields f) → H b = none := fun {b o} e n1 n2 => by
      cases q : H b with
      | none => rfl
      | some u =>
        rcases B.only b u q with ⟨z, _⟩ | ⟨z, _⟩
        · rw [z, hP] at e; cases e; exact absurd rfl (n2 _)
        · rw [z, ha] at e; cases e; exact absurd rfl (n1 _ _)
    have up : ∀ {b : Addr} {m : Str → Option Value}, s₁.heap.Ns b m → (hidT s₁.heap H).Ns b m := fun {b m} ⟨o, es, ep, e, d, r⟩ => ⟨o, es, ep, hidT_get e (fr e (fun _ _ z => by rw [d] at z; cases z) fun _ z => by rw [d] at z; cases z), d, r⟩
    have hKb : K.In (hidT s₁.heap H) := fun b o e => hidT_get (KX b o e) (by
      cases q : H b with
      | none => rfl
      | some u =>
        rcases B.only b u q with ⟨z, _⟩ | ⟨z, z2, _⟩
        · rw [z, hKP] at e; cases e
        · rw [z, z2] at e; cases e)
    have hMb : Bmn mg (hidT s₁.heap H) := by
      obtain ⟨bm, ob, h1, h2, h3, h4, h5, h6⟩ := hbm
      exact ⟨bm, ob, h1, h2, hidT_get h3 (fr h3 (fun _ _ z => by rw [h6] at z; cases z) fun _ z => by rw [h6] at z; cases z), h4, h5, h6⟩
    have hM : Mod K mg (hidT s₁.heap H) := ⟨hKb, up hns, ⟨mb, up hb, hbb⟩, let ⟨mc, h1, h2⟩ := hlim; ⟨mc, up h1, h2⟩⟩
    have e0 : Env0 Pr w K mg (hidT s₁.heap H) callerA [] s₁ H := ⟨rfl, hM, fun b o e => of_hidT e, Nat.le_of_eq (hidT_size _ _), trivial, (fun b hb => nomatch hb), hok, .of_eq hg⟩
    refine codeAny_mono ((F _ hKb (up hns) hMb).run callerA [] s₁ H ⟨[.ref a], []⟩ [.ref a] [.ref a] _ _ hr e0 (hbind s₁ (.ref a)) (.cons rfl .nil) (hsp H B hS)) fun r s' h => ?_
    match r, h with
    | .error e, h => exact (hCX H e s' h).elim
    | .ok (.ret u), h =>
      obtain ⟨v, H', os, bare, un, hok', r', rfl, ps, hps⟩ := h
      obtain rfl : u = Value.bool true := r'
      obtain ⟨gP, _⟩ := hok' P _ hps
      have cases3 : ∀ b o, s₁.heap.get? b = some o → s'.heap.get? b = some o ∨ b = P := fun b o e => by
        cases q : H b with
        | none => exact .inl (un.keep b o e q (fun z => nomatch z) (fun z => nomatch z))
        | some u =>
          rcases B.only b u q with ⟨z, _⟩ | ⟨z, _, ob, xs, z2⟩
          · exact .inr z
          · subst z2
            obtain ⟨e1, _⟩ := hok b _ q
            obtain ⟨e2, _⟩ := hok' b _ (un.frzs b ob _ q)
            rw [e] at e1; cases e1
            exact .inl e2
      refine ⟨rfl, ⟨fun b o e => ?_, fun b o e => ?_⟩, os, bare⟩
      · rcases cases3 b o e with z | z
        · exact .inl z
        · subst z
          rw [hP] at e; cases e
          exact .inr (.inl ⟨hcT, rfl, #[], ps, rfl, by rw [Array.empty_append]; exact gP⟩)
      · rcases cases3 b o e with z | z
        · exact ⟨o, z⟩
        · subst z; exact ⟨_, gP⟩
  cases hk : K.lookup a with
  | some o =>
    have e := KX a o hk
    rw [ha] at e
    cases e
    refine go (fun b => if b = P then some (tabE P #[]) else none) ⟨if_pos rfl, fun b u q => ?_⟩ (.inr ⟨_, vs.toArray, _, hk, rfl, rfl, rfl, by rw [List.size_toArray, hi.length]; exact hl, by simpa using rv⟩) fun b u q => ?_
    · try dsimp only at q
      by_cases z : b = P
      · rw [if_pos z] at q; cases q; exact .inl ⟨z, rfl⟩
      · rw [if_neg z] at q; cases q
    · try dsimp only at q
      by_cases z : b = P
      · rw [if_pos z] at q; cases q; subst z; exact tab_ok hP
      · rw [if_neg z] at q; cases q
  | none =>
    refine go (fun b => if b = P then some (tabE P #[]) else if b = a then some (.frz { cls := .type "list", data := .seq vs.toArray } (.lst (ns.map V.int))) else none) ⟨if_pos rfl, fun b u q => ?_⟩ (.inl (.inr ⟨{ cls := .type "list", data := .seq vs.toArray }, by show (if a = P then _ else if a = a then _ else _) = _; rw [if_neg (Ne.symm nPa), if_pos rfl]⟩)) fun b u q => ?_
    · try dsimp only at q
      by_cases z : b = P
      · rw [if_pos z] at q; cases q; exact .inl ⟨z, rfl⟩
      · rw [if_neg z] at q
        by_cases z2 : b = a
        · rw [if_pos z2] at q; cases q; exact .inr ⟨z2, hk, _, _, rfl⟩
        · rw [if_neg z2] at q; cases q
    · try dsimp only at q
      by_cases z : b = P
      · rw [if_pos z] at q; cases q; subst z; exact tab_ok hP
      · rw [if_neg z] at q
        by_cases z2 : b = a
        · rw [if_pos z2] at q; cases q; subst z2
          exact ⟨ha, by rw [List.length_map]; exact hl, vs, _, rv, ha⟩
        · rw [if_neg z2] at q; cases q
end
/-- the goal that the head leaves, for such a law -/
theorem walk_tab {l : PySem.W.OpenLaw} {n k : Nat} {q : Program} {loose : List Str} {XP : (Str → Option Value) → Heap → Prop} {YP : World → Heap → Prop} {d : DefRec} {K : Params → PySem.W.Frag} {CX : World → CXT} {sp : World → Sp} {x : Str} {c P : Addr}
    (hn : l.most = some n) (hn2 : n ≤ sizeLine) (hdf : d.params.defaults = []) (hr : Room k callerA)
    (hY : ∀ (w : World) (h : Heap), YP w h → (K w.params).In h) (hT : ∀ (w : World) (h : Heap), YP w h → h.get? P = some (PySem.W.tabObj #[])) (hC : ∀ w : World, PySem.W.codeHdIn (K w.params) c P = true) (hKP : ∀ w : World, (K w.params).lookup P = none)
    (F : ∀ (w : World) (mg : Str → Option Value) (fa : Addr) (h : Heap), (K w.params).In h → h.Ns mainGlobals mg → mg d.name = some (.ref fa) →
      ∃ fd : FuncData, (∀ (s : Shared) (u : Value), BindsTo s fd ⟨[u], []⟩ [(x, u)]) ∧
        ∀ base : Heap, (K w.params).In base → base.Ns mainGlobals mg → Bmn mg base → FnOk l.prog w (K w.params) mg base (CX w) k fa fd [x] (sp w))
    (hsp : ∀ (w : World) (H : Hp) (a : Addr) (ns : List Int), ns.length ≤ n → Beg (K w.params) a P H → SqL (K w.params) H a (ns.map V.int) → sp w [.ref a] H (fun v H' => v = .bl true ∧ ∃ ps, H' P = some (tabE P ps)) fun _ _ _ => False)
    (hCX : ∀ (w : World) (H : Hp) (s : Shared) (e : Value) (s' : Shared), CX w [] H s (fun _ _ _ => False) e s' → False) :
    PySem.W.WalkO q loose XP YP l.row.toRowW d [] (fun f vs => PySem.call f vs) := by
  refine Att.attach_call hn hdf fun w s₀ s₁ mg mb fa o pm cd doc a vs ns G Y ho hd hcd hmg hobj hints hlen hg => ?_
  have KX := hY w _ Y
  obtain ⟨fd, hb, hF⟩ := F w mg fa _ KX G.T.g hmg
  have hc := PySem.W.codeHd_of_K KX (hC w)
  have hP := hT w _ Y
  exact law_tab KX G.T.g G.T.b G.T.builtins G.T.bmain G.T.nolimit hg hobj hints (Nat.le_trans hlen hn2) hr hP (hKP w) (hc.tab hP).isCodeTable hF hb (fun H B hS => hsp w H a ns hlen B hS) fun H e s' => hCX w H s₁ e s'
end L2

namespace L2
open PySem PySem.Spec PyProof.Rows
/-! ### a lambda of one name, with one name of the def around it, called -/
abbrev lamEnv (qual : Str) (scope : Scope) (L f c : Addr) (fv : Str) (cw : Addr) : Env := PySem.W.envX qual scope L f (.ref c) [(fv, cw)]
abbrev lamCx (X : Cx) (A : Around) (N : List Str) (env : Env) (s : Shared) (H : Hp) : Cx :=
  { X with A := A.deeper env, N := N, s₀ := s, H₀ := H, env := env, outer := X.stack, stack := env :: X.stack, ex := [], fn := fun _ => false, calm := true, pn := [], xe := fun _ _ => False }
/-- what is to be read off the text -/
structure LamSc (fv y : Str) (scope : Scope) : Prop where
  kind : scope.kind = .function
  co : scope.isCoroutine = false
  gen : scope.isGenerator = false
  nocell : ∀ x ∈ scope.names, x.2 ≠ .cell
  yl : scope.names.lookup y = some .local
  ff : scope.names.lookup fv = some .free
  one : ∀ x ∈ scope.names, x.2 = .free → x.1 = fv
theorem lookup_one {fv x : Str} {cw c : Addr} (e : ([(fv, cw)] : List (Str × Addr)).lookup x = some c) : x = fv ∧ c = cw := by
  rw [List.lookup_cons] at e
  cases h : x == fv with
  | true => rw [h] at e; exact ⟨eq_of_beq h, (Option.some.inj e).symm⟩
  | false => rw [h] at e; cases e
theorem lookup_own {fv : Str} {cw : Addr} : ([(fv, cw)] : List (Str × Addr)).lookup fv = some cw := by rw [List.lookup_cons, beq_self_eq_true]
theorem lam_call {X : Cx} {pins : List (Addr × Obj)} {σ : St} {H : Hp} {s : Shared} {A : Around} {f c cw : Addr} {name qual fv y : Str} {params : Arguments} {body : Expr} {scope : Scope} {pm ctv u uw : Value} {v vw : V} {tb : TE} {Q : VK} {R : Result → Shared → Prop} (I : Inv X pins σ H s)
    (hA : A.frames = some X.stack) (hh : A.handled = none) (hd : A.depth < recursionLimit) (S : LamSc fv y scope) (hny : fv ≠ y)
    (ho : s.heap.get? f = some (PySem.W.kla_obj name qual params body scope [(fv, cw)] pm c ctv)) (hcd : s.heap.CodeRec (.ref c) qual) (hcw : s.heap.IsCell cw (some uw)) (hHc : H cw = none) (rw' : RelV vw uw) (ru : RelV v u)
    (hbind : bindArgs (PySem.W.kla_fn name qual params body scope [(fv, cw)] pm (.ref c) ctv) ⟨[u], []⟩ = pure [(y, u)])
    (hb : PE (lamCx X A [fv, y] (lamEnv qual scope s.heap.objs.size f c fv cw) s H) body tb) (q : tb [some vw, some v] H Q)
    (k : ∀ v' u' H' s', Inv X pins σ H' s' → Un (frs X.stack) [] H H' s.heap s'.heap → RelV v' u' → Q v' H' → R (.ok (.ret u')) s') : codeAny (model X.prog X.w) A (.call (.ref f) ⟨[u], []⟩) R s := by
  refine PySem.W.kla_callFunE hd ho rfl S.co S.gen rfl hcd ?_
  rw [hbind]
  refine wpAny_pure (wpAny_newFunctionEnv S.nocell (fun x hx => by rw [List.mem_singleton.mp hx]; exact S.yl) (fun h1 hns hsb => ?_) S.kind)
  have kp : ∀ b o, s.heap.get? b = some o → h1.get? b = some o := fun b o e => hsb.extBut b o (Nat.ne_of_lt (Heap.lt_size e)) (Heap.get?_push_of_some _ e)
  refine ⟨I.nolimit.keeps kp, ?_⟩
  show codeAny _ _ (.expr body (lamEnv qual scope s.heap.objs.size f c fv cw)) _ _
  have e0 := I.env0
  have kf : (lamEnv qual scope s.heap.objs.size f c fv cw).kindOf fv = some .free := S.ff
  have J : Inv (lamCx X A [fv, y] (lamEnv qual scope s.heap.objs.size f c fv cw) s H) [] [some vw, some v] H { s with heap := h1, toks := s.toks + [(y, u)].length } := by
    refine ⟨⟨I.ok.mod, S.kind, rfl, rfl, Nat.le_refl _, fun x z c' h1 h2 => ?_, fun x hx => ?_, fun x c' h => (by cases h), fun _ => hh, Around.frames_deeper hA, .inr ⟨rfl, rfl⟩, fun b z => (nomatch z), e0.bs, e0.bsz, fun b _ _ z => (nomatch z), fun b z => (nomatch z), e0.funs, e0.frf⟩,
      rfl, I.bare, Un.kept kp, ⟨_, hns, fun i x z h1' h2' h3' => ?_⟩, fun x c' e => ?_, I.fresh, fun x c' e => ?_, fun p hp => (nomatch hp), I.hok.kept kp, rfl⟩
    · exact (lookup_one h1).1.trans (lookup_one h2).1.symm
    · rcases hx with hx | hx
      · exact absurd rfl (S.nocell _ (PySem.mem_of_lookup hx))
      · have := S.one _ (PySem.mem_of_lookup hx) rfl
        exact ⟨cw, by rw [show x = fv from this]; exact lookup_own⟩
    · match i, h1', h2' with
      | 0, h1', h2' =>
        obtain rfl : fv = x := Option.some.inj h1'
        cases h2'
        obtain ⟨o, e1, e2⟩ := hcw
        exact ⟨uw, rw', .inr ⟨.inr kf, cw, lookup_own, o, kp _ _ e1, e2⟩⟩
      | 1, h1', h2' =>
        obtain rfl : y = x := Option.some.inj h1'
        cases h2'
        refine ⟨u, ru, .inl ⟨S.yl, ?_⟩⟩
        show ([(y, u)] : List (Str × Value)).reverse.lookup y = some u
        rw [List.reverse_singleton, List.lookup_cons, beq_self_eq_true]
      | i + 2, h1', _ => cases h1'
    · obtain ⟨_, rfl⟩ := lookup_one e
      obtain ⟨o, e1, e2⟩ := hcw
      exact ⟨_, o, kp _ _ e1, e2⟩
    · obtain ⟨_, rfl⟩ := lookup_one e
      exact hHc
  refine PySem.W.kla_codeExpr (wpAny_mono (hb [] _ _ H Q J q) (fun u' s' ⟨v', H', J', r', q'⟩ => ?_) fun _ _ z => z.elim)
  exact k v' u' H' s' (I.call' J'.os J'.base J'.hok J'.bare (fun b z => (nomatch z))) J'.base r' q'
/-! ### a lambda made -/
/-- the table of the def around it, for the lambda at pos -/
def Tab1 (H : Hp) (P : Addr) (pos : Pos) (qual : Str) (c : Addr) : Prop := H P = some (tabE P #[rawInt pos.line, rawInt pos.col, .ref c]) ∧ H c = some (.ext (codφ c qual))
def Tab (H : Hp) (P : Addr) (pos : Pos) (qual : Str) : Prop := H P = some (tabE P #[]) ∨ ∃ c, Tab1 H P pos qual c
theorem Tab.same {H H' : Hp} {P : Addr} {pos : Pos} {qual : Str} (h : Tab H P pos qual) (s : Same H H') : Tab H' P pos qual := by
  rcases h with h | ⟨c, h1, h2⟩
  · exact .inl (s _ _ h)
  · exact .inr ⟨c, s _ _ h1, s _ _ h2⟩
theorem cod_ok {prog : Program} {w : World} {H : Hp} {h : Heap} {c : Addr} {qual : Str} (e : h.CodeRec (.ref c) qual) : ObjOk prog w H h c (.ext (codφ c qual)) := by
  obtain ⟨c', oc, vs, t, e1, e2, e3, e4⟩ := id e
  cases e1
  refine ⟨e, ⟨_, e2⟩, fun h1 h2 z k => ?_⟩
  obtain ⟨c', oc', vs', t', f1, f2, f3, f4⟩ := z
  cases f1
  exact ⟨c, oc', vs', t', rfl, k _ f2, f3, f4⟩
theorem Inv.trackE {X : Cx} {pins : List (Addr × Obj)} {σ : St} {H : Hp} {s : Shared} {e : Addr} {u : HO} (I : Inv X pins σ H s) (hn : H e = none) (h0 : X.s₀.heap.get? e = none) (hl : e ≠ X.env.locals) (hc : ∀ x c, X.env.cells.lookup x = some c → c ≠ e) (hp : ∀ p ∈ X.pn ++ pins, p.1 ≠ e)
    (hx : ObjOk X.prog X.w (upd H e u) s.heap e u) : Inv X pins σ (upd H e u) s := by
  have ne : ∀ {b : Addr} {o : HO}, H b = some o → (upd H e u) b = some o := fun {b o} q => by rw [upd_ne (fun z => by rw [z, hn] at q; cases q)]; exact q
  have nn : ∀ {b : Addr}, b ≠ e → H b = none → (upd H e u) b = none := fun {b} z q => by rw [upd_ne z]; exact q
  refine ⟨I.ok, I.os, I.bare, ⟨I.base.keep, I.base.slot, fun b o q n hx => nn (fun z => by rw [z, h0] at q; cases q) (I.base.free b o q n hx), I.base.there, fun b xs q => ne (I.base.tups b xs q), fun b o u q => ne (I.base.frzs b o u q), fun b ps q => ?_⟩, I.loc, I.cell, nn (Ne.symm hl) I.free, fun x c q => nn (hc x c q) (I.freeC x c q), fun p q => ?_, fun b o q => ?_, I.len⟩
  · obtain ⟨m, q'⟩ := I.base.tbls b ps q
    exact ⟨m, ne q'⟩
  · obtain ⟨a1, a2, a3, a4, a5⟩ := I.pin p q
    exact ⟨a1, nn (hp p q) a2, a3, a4, a5⟩
  · by_cases z : b = e
    · subst z
      rw [upd_same] at q
      cases q
      exact hx
    · rw [upd_ne z] at q
      exact (I.hok b o q).stay (fun c v _ q' => q') (fun c q' => ne q') fun c xs q' => ne q'
theorem lam_make {X : Cx} {pins : List (Addr × Obj)} {σ : St} {H : Hp} {s : Shared} {M : Model} {A : Around} {E : Value → Shared → Prop} {Q : Value → Shared → Prop} {cc P cw : Addr} {fv : Str} {params : Arguments} {body : Expr} {scope : Scope} {lp : Pos} (I : Inv X pins σ H s)
    (hcode : X.env.code = .ref cc) (C : PySem.W.CodeHd X.base cc P) (hBm : Bmn X.mg X.base) (T : Tab H P lp (X.env.qual ++ "<lambda>")) (hcl : closureFor scope X.env = pure [(fv, cw)]) (hdef : defaultsOf params X.env = ([], []))
    (h : ∀ f c pm ctv H' s', Inv X pins σ H' s' → Tab1 H' P lp (X.env.qual ++ "<lambda>") c → Keep P H H' → s'.heap.get? f = some (PySem.W.kla_obj "<lambda>" (X.env.qual ++ "<lambda>") params body scope [(fv, cw)] pm c ctv) → H' f = none → s.heap.objs.size ≤ f → (∀ b, s'.heap.objs.size ≤ b → s.heap.objs.size ≤ b) → Q (.ref f) s') :
    wpAny M A (eval (.Lambda params body scope lp) X.env) Q E s := by
  refine PySem.W.kla_eval hdef ?_
  have hg := I.mod.glob.keeps I.bk
  have Cs := C.keeps I.bk
  have tab : ∀ ps, H P = some (tabE P ps) → s.heap.get? P = some (PySem.W.tabObj ps) := fun ps e => (I.hok P _ e).1
  have hgP : mainGlobals ≠ P := fun z => by
    obtain ⟨o, es, ep, e, d, _⟩ := I.mod.glob
    have := (I.bs _ _ e).2
    rw [z] at this
    rcases T with t | ⟨c, t, _⟩ <;> (rw [this] at t; cases t)
  have hB : s.heap.BuiltinsAt X.mg P := by
    obtain ⟨bm, ob, b1, b2, b3, b4, b5, b6⟩ := hBm
    refine ⟨bm, ob, b1, b2, fun z => ?_, fun z => ?_, I.bk _ _ b3, b4, b5, b6⟩
    · obtain ⟨o, es, ep, e, d, _⟩ := I.mod.glob
      rw [z, e] at b3; cases b3; rw [d] at b6; cases b6
    · have := (I.bs _ _ b3).2
      rw [z] at this
      rcases T with t | ⟨c, t, _⟩ <;> (rw [this] at t; cases t)
  rcases T with t | ⟨c, t, tc⟩
  · refine PySem.W.kla_makeFunction (mg := X.mg) hcl I.ok.glob hg hcode Cs (tab _ t) (by first | trivial | exact rfl | decide) rfl hgP hB fun c ctv h' tk hx hge hlt hrec htb => ?_
    rw [Array.empty_append] at htb
    have I1 := I.write (x := P) (e := P) (o := tabE P #[rawInt lp.line, rawInt lp.col, .ref c]) (t' := tk) (by rw [t]; exact trivial) (.inl rfl) (fun b u hb e => hx b u hb e) ⟨_, htb⟩ (tab_ok htb)
    have nP : c ≠ P := fun z => by have := Heap.lt_size (tab _ t); rw [← z] at this; exact absurd (Nat.lt_of_lt_of_le this hge) (Nat.lt_irrefl _)
    have ltc : ∀ {b : Addr} {o : Obj}, s.heap.get? b = some o → b ≠ c := fun e => Nat.ne_of_lt (Nat.lt_of_lt_of_le (Heap.lt_size e) hge)
    have hc0 : H c = none := I.hok.fresh hge
    have I2 := I1.trackE (e := c) (u := .ext (codφ c (X.env.qual ++ "<lambda>"))) (by rw [upd_ne nP]; exact hc0) (Heap.get?_none_of_le (Nat.le_trans I.sz hge)) (Nat.ne_of_gt (Nat.lt_of_lt_of_le I.lt hge)) (fun x c' e => by obtain ⟨v, o, e1, _⟩ := I.cell x c' e; exact ltc e1) (fun p hp => ltc (I.pin p hp).1) (cod_ok hrec)
    have I3 := I2.kept (h' := h'.push (PySem.W.kla_obj "<lambda>" (X.env.qual ++ "<lambda>") params body scope [(fv, cw)] ((X.mg "__name__").getD .none) c ctv)) (t' := tk) fun b o e => Heap.get?_push_of_some _ e
    have hf : s.heap.objs.size ≤ h'.objs.size := Nat.le_trans hge (Nat.le_of_lt hlt)
    refine h h'.objs.size c _ ctv _ _ I3 ⟨by rw [upd_ne nP.symm, upd_same], upd_same⟩ (fun b o e n => ?_) (Heap.get?_push_size _ rfl) ?_ hf (fun b hb => ?_)
    · rw [upd_ne (fun z => by rw [z, hc0] at e; cases e), upd_ne n]; exact e
    · rw [upd_ne (Nat.ne_of_gt hlt), upd_ne (fun z => by have := Heap.lt_size htb; rw [← z] at this; exact absurd this (Nat.lt_irrefl _))]
      exact I.hok.fresh hf
    · rw [Heap.size_push] at hb; exact Nat.le_trans hf (Nat.le_of_lt hb)
  · have hrec : s.heap.CodeRec (.ref c) (X.env.qual ++ "<lambda>") := (I.hok c _ tc).1
    refine PySem.W.kla_makeFunctionHit (mg := X.mg) (cv := .ref c) hcl I.ok.glob hg hcode Cs (tab _ t) (by first | trivial | exact ⟨_, _, rfl⟩ | decide) ?_ hB fun ctv h' tk hk hsz => ?_
    · exact codeAmong_snoc [] trivial rfl
    · have I3 := I.kept (h' := h'.push (PySem.W.kla_obj "<lambda>" (X.env.qual ++ "<lambda>") params body scope [(fv, cw)] ((X.mg "__name__").getD .none) c ctv)) (t' := tk) fun b o e => Heap.get?_push_of_some _ (hk b o e)
      refine h h'.objs.size c _ ctv _ _ I3 ⟨t, tc⟩ (fun b o e _ => e) (Heap.get?_push_size _ rfl) (I.hok.fresh hsz) hsz (fun b hb => ?_)
      rw [Heap.size_push] at hb; exact Nat.le_trans hsz (Nat.le_of_lt hb)
end L2

namespace L2
open PySem PySem.Spec PyProof.Rows
/-! ### lists of signs in order -/
theorem ltL_tot : ∀ (xs ys : List Int), ltL xs ys = true ∨ xs = ys ∨ ltL ys xs = true
  | [], [] => .inr (.inl rfl)
  | [], _ :: _ => .inl rfl
  | _ :: _, [] => .inr (.inr rfl)
  | x :: xs, y :: ys => by
    simp only [ltL]
    by_cases e : x = y
    · subst e
      rw [if_pos rfl]
      rcases ltL_tot xs ys with h | h | h
      · exact .inl h
      · exact .inr (.inl (by rw [h]))
      · exact .inr (.inr (by rw [if_pos rfl]; exact h))
    · rw [if_neg e, if_neg (fun z => e z.symm)]
      by_cases h : x < y
      · exact .inl (decide_eq_true h)
      · exact .inr (.inr (decide_eq_true (by lia)))
def ordL : Ordr (List Int) := ⟨ltL, fun a => ltL_self a, fun a b c h1 h2 => ltL_trans h1 h2, fun a b c h => by
  rcases ltL_tot a b with z | z | z
  · exact .inl z
  · subst z; exact .inr h
  · exact .inr (ltL_trans z h)⟩
section
variable {prog : Program} {w : World} {A : Around} {E : Value → Shared → Prop} {s : Shared}
theorem oneLt_lists {l b : Addr} {items items2 : Array Value} {xs ys : List Nat} {Q : Bool → Shared → Prop} (hu : A.units < cLine) (hl : s.heap.IsList l items) (hb : s.heap.IsList b items2) (N1 : Sgns xs items) (N2 : Sgns ys items2) (h : Q (ltL (codes xs) (codes ys)) s) : wpAny (model prog w) A (oneLt' true (.ref l) (.ref b)) Q E s := by
  obtain ⟨⟨cls, dd, data, sl⟩, ho, hc, n, hd⟩ := id hl
  obtain ⟨⟨cls2, dd2, data2, sl2⟩, ho2, hc2, n2, hd2⟩ := id hb
  simp only at hc hd hc2 hd2; subst hc hd hc2 hd2
  rw [oneLt'_eq, if_pos rfl]
  refine wpAny_bind (wpAny_cRoomFor hu (wpAny_bind (wpAny_callSpecialIfBound?_slot (T := "list") ⟨_, ho, rfl⟩ F.slot_list_lt (call_meets F.slot_list_lt ⟨_, ho, rfl⟩ F.entry_list_lt (F.args_list_lt_2 _ _) (list_ltS N1 N2) ⟨ho, ho2, ?_⟩))))
  exact wpAny_truthy_bool h
/-- the keys' lists, and what they are -/
def LstAt (s : Shared) (k : Addr) (xs : List Nat) : Prop := ∃ items : Array Value, s.heap.IsList k items ∧ Sgns xs items
def keyL (cz : Addr → List Nat) (p : Keyed) : List Int := match p.1 with | .ref k => codes (cz k) | _ => []
theorem cmpL {a₀ : Array Keyed} {cz : Addr → List Nat} (hu : A.units < cLine) (h0 : ∀ x ∈ a₀, ∃ k, x.1 = .ref k ∧ LstAt s k (cz k)) : Cmp ordL (keyL cz) prog w A E s a₀ oneType' := by
  intro x y hx hy st Q hk q
  obtain ⟨a, ex, i1, l1, n1⟩ := h0 x hx
  obtain ⟨b, ey, i2, l2, n2⟩ := h0 y hy
  obtain ⟨x1, x2⟩ := x
  obtain ⟨y1, y2⟩ := y
  dsimp only at ex ey
  subst ex ey
  rw [lt'_eq]
  refine wpS_bind (wpS_get ?_)
  rw [hk, keyLt'_oneType]
  exact wpS_bind (wpS_lift (wpAny_attempt (oneLt_lists hu l1 l2 n1 n2 ⟨rfl, wpS_pure q⟩)))
end
/-- an address that was free at some state of this frame -/
structure NewAd (X : Cx) (pins : List (Addr × Obj)) (b : Addr) : Prop where
  s0 : X.s₀.heap.objs.size ≤ b
  loc : b ≠ X.env.locals
  cell : ∀ x c, X.env.cells.lookup x = some c → c ≠ b
  pin : ∀ p ∈ X.pn ++ pins, p.1 ≠ b
  stk : b ∉ frs X.stack
theorem Inv.newAd {X : Cx} {pins : List (Addr × Obj)} {σ : St} {H : Hp} {s : Shared} {b : Addr} (I : Inv X pins σ H s) (hb : s.heap.objs.size ≤ b) : NewAd X pins b := by
  have lt : ∀ {a : Addr} {o : Obj}, s.heap.get? a = some o → a ≠ b := fun e => Nat.ne_of_lt (Nat.lt_of_lt_of_le (Heap.lt_size e) hb)
  refine ⟨Nat.le_trans I.sz hb, Nat.ne_of_gt (Nat.lt_of_lt_of_le I.lt hb), fun x c e => ?_, fun p hp => lt (I.pin p hp).1, fun z => ?_⟩
  · obtain ⟨v, o, e1, _⟩ := I.cell x c e
    exact lt e1
  · rcases List.mem_cons.mp (I.stkSub b z) with z' | z'
    · exact absurd z' (Nat.ne_of_gt (Nat.lt_of_lt_of_le I.lt hb))
    · exact I.nofs hb z'
theorem Inv.own {X : Cx} {pins : List (Addr × Obj)} {σ : St} {H : Hp} {s : Shared} {b : Addr} {h' : Heap} {t' : Nat} (I : Inv X pins σ H s) (n : NewAd X pins b) (hb : H b = none) (hs : Heap.SameBut b s.heap h') : Inv X pins σ H { s with heap := h', toks := t' } :=
  I.turned (fun c o hc e => (hs.2 c hc).trans e) hb n.loc (.inr n.s0) n.cell n.pin
section
variable {X : Cx} {pins : List (Addr × Obj)} {σ : St} {H : Hp} {s : Shared} {f l : Addr} {ns : List Int} {kf : Int → List Nat} {fo : Obj}
/-- on the way through the keys -/
structure KeyW (X : Cx) (pins : List (Addr × Obj)) (σ : St) (H : Hp) (f : Addr) (fo : Obj) (D kS : Addr) (e1 : Nat) (ns : List Int) (kf : Int → List Nat) (i : Nat) (s' : Shared) : Prop where
  ex : ∃ (H' : Hp) (ks : List Addr) (e : Nat), Inv X pins σ H' s' ∧ Same H H' ∧ s'.heap.get? f = some fo ∧ H' f = none ∧ s'.heap.get? D = some (seqObj "list" #[] e1) ∧ H' D = none ∧ s'.heap.get? kS = some (seqObj "list" (ks.map Value.ref).toArray e) ∧ H' kS = none ∧ ks.length = i ∧ ∀ (j : Nat) (k : Addr) (n : Int), ks[j]? = some k → ns[j]? = some n → H' k = some (.lst ((kf n).map sg))
/-- what one call of the key does -/
def Turns (X : Cx) (pins : List (Addr × Obj)) (σ : St) (H : Hp) (f : Addr) (fo : Obj) (ns : List Int) (kf : Int → List Nat) : Prop :=
  ∀ n ∈ ns, ∀ (H' : Hp) (s' : Shared) (u : Value), Inv X pins σ H' s' → Same H H' → s'.heap.get? f = some fo → H' f = none → RelV (.int n) u →
    wpAny (model X.prog X.w) X.A.in1.in1 (call (.ref f) [u]) (fun u' s'' => ∃ (k : Addr) (H'' : Hp), u' = .ref k ∧ Inv X pins σ H'' s'' ∧ H'' k = some (.lst ((kf n).map sg)) ∧ Same H' H'' ∧ Un (frs X.stack) [] H' H'' s'.heap s''.heap) (fun _ _ => False) s'
theorem key_loop {D kS : Addr} {e1 : Nat} {vs : List Value} {E : Value → Shared → Prop} {P : PUnit → Shared → Prop} {body : Value → PUnit → Sem (ForInStep PUnit)} (nD : NewAd X pins D) (nk : NewAd X pins kS) (nf : NewAd X pins f) (hDk : D ≠ kS) (hfk : f ≠ kS) (hv : Vals (ns.map V.int) vs) (hle : ns.length ≤ 1000) (T : Turns X pins σ H f fo ns kf)
    (hbody : ∀ x, body x ⟨⟩ = (do
      match ← (call (.ref f) [x]).attempt with
      | .ok k => Builtin.List.listUpdate (.ref kS) (·.push k); pure (ForInStep.yield PUnit.unit)
      | .error e => rule "list.sort.key-raised"; let made ← Builtin.List.listItems (.ref kS); Builtin.List.listUpdate (.ref kS) fun _ => #[]; letGo made.toList.reverse [e]; Builtin.List.listUpdate (.ref D) fun _ => vs.toArray; throw e)) :
    ∀ (r : List Value) (i : Nat) (s' : Shared), vs.drop i = r → i ≤ vs.length → KeyW X pins σ H f fo D kS e1 ns kf i s' → (∀ s'', KeyW X pins σ H f fo D kS e1 ns kf vs.length s'' → P ⟨⟩ s'') → wpAny (model X.prog X.w) X.A.in1.in1 (forIn r PUnit.unit body) P E s'
  | [], i, s', hr, hi2, W, done => by
    rw [List.forIn_nil]
    have hi : vs.length ≤ i := List.drop_eq_nil_iff.mp hr
    exact wpAny_pure (done s' (by rw [show vs.length = i by lia]; exact W))
  | x :: r, i, s', hr, hi2, W, done => by
    rw [List.forIn_cons, hbody]
    obtain ⟨H', ks, e, I', sm, hf', Hf', hD', HD', hk', Hk', hl, hks⟩ := W.ex
    have hi : i < vs.length := by
      refine Nat.lt_of_not_le fun z => ?_
      rw [List.drop_eq_nil_of_le z] at hr; cases hr
    have hx : vs[i]? = some x := by
      have := List.getElem?_drop (xs := vs) (i := i) (j := 0)
      rw [hr] at this
      simpa using this.symm
    have hil : i < ns.length := by have := hv.length; rw [List.length_map] at this; lia
    obtain ⟨u, hu, ru⟩ := hv.get (show (ns.map V.int)[i]? = some (.int ns[i]) by simp [hil])
    obtain rfl : x = u := by rw [hx] at hu; exact Option.some.inj hu
    refine wpAny_bind (wpAny_bind (wpAny_attempt (wpAny_mono (T ns[i] (List.getElem_mem hil) H' s' x I' sm hf' Hf' ru) (fun u' s'' h => ?_) fun _ _ z => z.elim)))
    obtain ⟨k, H'', rfl, I2, hk2, sm2, un⟩ := h
    have kp : ∀ {b : Addr} {o : Obj}, NewAd X pins b → H' b = none → s'.heap.get? b = some o → s''.heap.get? b = some o ∧ H'' b = none := fun {b o} n q e => ⟨un.keep b o e q n.stk (fun z => nomatch z), un.free b o e q (fun z => nomatch z)⟩
    obtain ⟨hf2, Hf2⟩ := kp nf Hf' hf'
    obtain ⟨hD2, HD2⟩ := kp nD HD' hD'
    obtain ⟨hS2, HS2⟩ := kp nk Hk' hk'
    dsimp only
    have sb := Heap.SameBut.update s''.heap kS (Obj.mapSeq (·.push (.ref k)))
    obtain ⟨c2, hc2⟩ : ∃ c2, (s''.heap.update kS (Obj.mapSeq (·.push (.ref k)))).get? kS = some (seqObj "list" ((ks.map Value.ref).toArray.push (.ref k)) c2) := ⟨_, get?_update_seq hS2 (·.push (.ref k))⟩
    have szk : (ks.map Value.ref).toArray.size ≤ 1000 := by simp; lia
    refine wpAny_bind (listUpdate_at hS2 rfl (wpAny_pure ?_) (Nat.le_trans szk (by decide)) (by rw [Array.size_push]; exact Nat.le_trans (Nat.succ_le_succ szk) (by decide)))
    show wpAny _ _ (forIn r PUnit.unit body) P E _
    refine key_loop nD nk nf hDk hfk hv hle T hbody r (i + 1) _ (by rw [← List.drop_drop, hr]; rfl) hi ⟨H'', ks ++ [k], c2, I2.own nk HS2 sb, sm.trans sm2, (sb.2 f hfk).trans hf2, Hf2, (sb.2 D hDk).trans hD2, HD2, ?_, HS2, by simp [hl], fun j k' n hj hn => ?_⟩ done
    · rw [hc2]; congr 1; simp [seqObj]
    · by_cases z : j < ks.length
      · rw [List.getElem?_append_left z] at hj
        exact sm2 _ _ (hks j k' n hj hn)
      · rw [List.getElem?_append_right (by lia)] at hj
        have z0 : j - ks.length = 0 := by have := (List.getElem?_eq_some_iff.mp hj).1; simp at this; lia
        rw [z0] at hj
        obtain rfl : k = k' := by simpa using hj
        have : j = i := by lia
        subst this
        rw [List.getElem?_eq_getElem hil] at hn
        cases hn
        exact hk2
/-- the list sorted, put back -/
theorem key_tail {D kS : Addr} {e1 e : Nat} {vs : List Value} {ks : List Addr} {cz : Addr → List Nat} {st : SortSt} {E : Value → Shared → Prop} {P : PySem.Fin → Shared → Prop} {H' : Hp} (I : Inv X pins σ H' s) (nD : NewAd X pins D) (nk : NewAd X pins kS) (hDk : D ≠ kS) (hD : s.heap.get? D = some (seqObj "list" #[] e1)) (HD : H' D = none) (hS : s.heap.get? kS = some (seqObj "list" (ks.map Value.ref).toArray e)) (HS : H' kS = none)
    (hv : Vals (ns.map V.int) vs) (hle : ns.length ≤ 1000) (hkl : ks.length = ns.length) (hcz : ∀ (j : Nat) (k : Addr) (n : Int), ks[j]? = some k → ns[j]? = some n → cz k = kf n)
    (hp : (arrOf st).Perm ((ks.map Value.ref).toArray.zip vs.toArray)) (hfl : failedOf st = none) (R : Rise ordL (keyL cz) (arrOf st) 0 ((ks.map Value.ref).toArray.zip vs.toArray).size)
    (done : ∀ (s' : Shared) (ms : List Int) (ws : List Value) (c : Nat), Inv X pins σ H' s' → s'.heap.get? D = some (seqObj "list" ws.toArray c) → Vals (ms.map V.int) ws → ms.Perm ns → ms.Pairwise (fun a b => ltL (codes (kf b)) (codes (kf a)) = false) → P (.done (.ret .none)) s') :
    wpAny (model X.prog X.w) X.A.in1.in1 (ksk_tail D false e1 (.ref kS) st) P E s := by
  have hvl : ns.length = vs.length := by have := hv.length; rw [List.length_map] at this; exact this
  have hz : ((ks.map Value.ref).toArray.zip vs.toArray).toList = (ks.map Value.ref).zip vs := by simp
  have hzl : ((ks.map Value.ref).toArray.zip vs.toArray).size = vs.length := by simp; lia
  have hsz : (arrOf st).size = vs.length := by rw [hp.size_eq, hzl]
  have hpl : (arrOf st).toList.Perm ((ks.map Value.ref).zip vs) := by rw [← hz]; exact Array.perm_iff_toList_perm.mp hp
  -- what one pair is
  have pr : ∀ p ∈ (arrOf st).toList, ∃ (j : Nat) (k : Addr) (n : Int) (t : Tok), ks[j]? = some k ∧ ns[j]? = some n ∧ p = (.ref k, .int n t) := fun p hp' => by
    obtain ⟨j, hj⟩ := List.mem_iff_getElem?.mp (hpl.mem_iff.mp hp')
    obtain ⟨p1, p2⟩ := p
    rw [List.getElem?_zip_eq_some] at hj
    obtain ⟨h1, h2⟩ := hj
    dsimp only at h1 h2
    have jl : j < ns.length := by have := (List.getElem?_eq_some_iff.mp h2).1; lia
    obtain ⟨u, hu, ru⟩ := hv.get (show (ns.map V.int)[j]? = some (.int ns[j]) by simp [jl])
    rw [h2] at hu
    cases hu
    obtain ⟨t, rfl⟩ := ru
    have kl : j < ks.length := by lia
    rw [List.getElem?_map, List.getElem?_eq_getElem kl] at h1
    cases h1
    exact ⟨j, ks[j], ns[j], t, List.getElem?_eq_getElem kl, List.getElem?_eq_getElem jl, rfl⟩
  have hvn : vs.map numOf = ns := by
    apply List.ext_getElem?
    intro j
    by_cases jl : j < ns.length
    · obtain ⟨u, hu, ru⟩ := hv.get (show (ns.map V.int)[j]? = some (.int ns[j]) by simp [jl])
      obtain ⟨t, rfl⟩ := ru
      rw [List.getElem?_map, hu, List.getElem?_eq_getElem jl]; rfl
    · rw [List.getElem?_eq_none (by rw [List.length_map]; lia), List.getElem?_eq_none (by lia)]
  have sb1 := Heap.SameBut.update s.heap kS (Obj.mapSeq fun _ => (#[] : Array Value))
  have hD1 := (sb1.2 D hDk).trans hD
  obtain ⟨c2, hc2⟩ : ∃ c2, ((s.heap.update kS (Obj.mapSeq fun _ => (#[] : Array Value))).update D (Obj.mapSeq fun _ => (arrOf st).map (·.2))).get? D = some (seqObj "list" ((arrOf st).map (·.2)) c2) := ⟨_, get?_update_seq hD1 fun _ => (arrOf st).map (·.2)⟩
  have sb2 := Heap.SameBut.update (s.heap.update kS (Obj.mapSeq fun _ => (#[] : Array Value))) D (Obj.mapSeq fun _ => (arrOf st).map (·.2))
  unfold ksk_tail
  refine wpAny_bind (listUpdate_at hS rfl (wpAny_bind (wpAny_letGo (wpAny_bind (seqEpoch_at hD1 rfl (wpAny_bind (listUpdate_at hD1 rfl ?_ (Nat.zero_le _) ?_)))))) ?_ (Nat.zero_le _))
  · rw [hfl]
    simp only [bne_self_eq_false, Bool.false_eq_true, if_false]
    refine wpAny_pure (done _ ((arrOf st).toList.map fun p => numOf p.2) ((arrOf st).toList.map (·.2)) c2 ((I.own (t' := s.toks) nk HS sb1).own (t' := s.toks) nD HD sb2) ?_ ?_ ?_ ?_)
    · show Heap.get? _ D = _
      rw [hc2, ← Array.toList_map, Array.toArray_toList]
    · rw [List.map_map]
      refine vals_of_get (by simp) fun j x u hx hu => ?_
      rw [List.getElem?_map] at hx hu
      cases q : (arrOf st).toList[j]? with
      | none => rw [q] at hx; cases hx
      | some p =>
        rw [q] at hx hu
        obtain ⟨_, k, n, t, _, _, rfl⟩ := pr p (List.mem_of_getElem? q)
        cases hx
        cases hu
        exact ⟨t, rfl⟩
    · have h1 := hpl.map fun p => numOf p.2
      have h2 : ((ks.map Value.ref).zip vs).map (fun p => numOf p.2) = ns := by
        rw [show (fun p : Value × Value => numOf p.2) = numOf ∘ Prod.snd from rfl, ← List.map_map, List.map_snd_zip (by rw [List.length_map]; lia), hvn]
      rw [h2] at h1
      exact h1
    · refine List.pairwise_map.mpr (List.pairwise_iff_getElem.mpr fun i j h1 h3 h4 => ?_)
      rw [Array.length_toList] at h1 h3
      have r := R i j (Nat.zero_le _) (by lia) (by rw [hzl]; lia)
      rw [kk_at (at_lt h1), kk_at (at_lt h3)] at r
      obtain ⟨j1, k1, n1, t1, a1, b1, c1⟩ := pr (arrOf st)[i] (by simp)
      obtain ⟨j2, k2, n2, t2, a2, b2, c2⟩ := pr (arrOf st)[j] (by simp)
      rw [c1, c2] at r
      have r' : ltL (codes (cz k2)) (codes (cz k1)) = false := r
      rw [hcz _ _ _ a1 b1, hcz _ _ _ a2 b2] at r'
      simp only [Array.getElem_toList]
      rw [c1, c2]
      exact r'
  · rw [if_neg Bool.false_ne_true, Array.size_map, hsz]; exact Nat.le_trans (show vs.length ≤ 1000 by lia) (by decide)
  · simp; exact Nat.le_trans (show ks.length ≤ 1000 by lia) (by decide)
end
end L2

namespace L2
open PySem PySem.Spec PyProof.Rows
section
variable {X : Cx} {pins : List (Addr × Obj)} {σ : St} {H : Hp} {s : Shared} {f l : Addr} {ns : List Int} {kf : Int → List Nat} {fo : Obj}
theorem le_line {n : Nat} (h : n ≤ 1000) : n ≤ sizeLine := Nat.le_of_lt (small1000 h)
theorem key_end {D kS : Addr} {e1 e : Nat} {vs : List Value} {ks : List Addr} {E : Value → Shared → Prop} {P : PySem.Fin → Shared → Prop} {H' : Hp} (hu : (X.A.in1.in1).units < cLine) (I : Inv X pins σ H' s) (nD : NewAd X pins D) (nk : NewAd X pins kS) (hDk : D ≠ kS) (hD : s.heap.get? D = some (seqObj "list" #[] e1)) (HD : H' D = none) (hS : s.heap.get? kS = some (seqObj "list" (ks.map Value.ref).toArray e)) (HS : H' kS = none)
    (hv : Vals (ns.map V.int) vs) (hle : ns.length ≤ 1000) (hkl : ks.length = ns.length) (hks : ∀ (j : Nat) (k : Addr) (n : Int), ks[j]? = some k → ns[j]? = some n → H' k = some (.lst ((kf n).map sg)))
    (done : ∀ (s' : Shared) (ms : List Int) (ws : List Value) (c : Nat), Inv X pins σ H' s' → s'.heap.get? D = some (seqObj "list" ws.toArray c) → Vals (ms.map V.int) ws → ms.Perm ns → ms.Pairwise (fun a b => ltL (codes (kf b)) (codes (kf a)) = false) → P (.done (.ret .none)) s') :
    wpAny (model X.prog X.w) X.A.in1.in1 (ksk_end D false vs.toArray e1 (.ref kS) (ks.map Value.ref).toArray) P E s := by
  have hvl : ns.length = vs.length := by have := hv.length; rw [List.length_map] at this; exact this
  have hzl : ((ks.map Value.ref).toArray.zip vs.toArray).size = vs.length := by simp; lia
  -- the keys, told by their addresses
  have hex : ∀ k : Addr, ∃ xs : List Nat, ∀ (j : Nat) (n : Int), ks[j]? = some k → ns[j]? = some n → xs = kf n := fun k => by
    by_cases hk : k ∈ ks
    · obtain ⟨j0, hj0⟩ := List.mem_iff_getElem?.mp hk
      have jl : j0 < ns.length := by have := (List.getElem?_eq_some_iff.mp hj0).1; lia
      refine ⟨kf ns[j0], fun j n h1 h2 => ?_⟩
      have a1 := hks j0 k ns[j0] hj0 (List.getElem?_eq_getElem jl)
      have a2 := hks j k n h1 h2
      rw [a1] at a2
      have a3 : (kf ns[j0]).map sg = (kf n).map sg := by injection a2 with a2; injection a2
      refine List.map_inj_right (f := sg) (fun x y h => ?_) |>.mp a3
      have : sgS x = sgS y := V.str.inj h
      simpa [sgS] using this
    · exact ⟨[], fun j n h1 _ => absurd (List.mem_of_getElem? h1) hk⟩
  obtain ⟨cz, hcz⟩ := Classical.axiomOfChoice hex
  have lat : ∀ k ∈ ks, LstAt s k (cz k) := fun k hk => by
    obtain ⟨j0, hj0⟩ := List.mem_iff_getElem?.mp hk
    have jl : j0 < ns.length := by have := (List.getElem?_eq_some_iff.mp hj0).1; lia
    have e0 := List.getElem?_eq_getElem jl
    rw [hcz k j0 _ hj0 e0]
    obtain ⟨_, its, m, r, _, g⟩ := I.lstM (hks j0 k _ hj0 e0)
    exact ⟨its.toArray, ⟨_, g, rfl, m, rfl⟩, sgns_of r⟩
  have at0 : ∀ p ∈ (ks.map Value.ref).toArray.zip vs.toArray, ∃ k, p.1 = .ref k ∧ k ∈ ks := fun p hp => by
    have : p ∈ (ks.map Value.ref).zip vs := by simpa using Array.mem_toList_iff.mpr hp
    obtain ⟨p1, p2⟩ := p
    obtain ⟨k, hk, e⟩ := List.mem_map.mp (List.of_mem_zip this).1
    exact ⟨k, e.symm, hk⟩
  unfold ksk_end
  dsimp only
  rw [if_neg Bool.false_ne_true, if_neg Bool.false_ne_true]
  by_cases h2 : vs.toArray.size < 2
  · rw [if_pos h2, if_pos h2]
    refine wpAny_bind (wpAny_pure ?_)
    rw [StateT.run_pure]
    refine wpAny_bind (wpAny_pure ?_)
    refine key_tail (cz := cz) (st := SortSt.mk' general' ((ks.map Value.ref).toArray.zip vs.toArray) #[] 7 none) I nD nk hDk hD HD hS HS hv hle hkl (fun j k n h1 h2 => hcz k j n h1 h2) (Array.Perm.refl _) rfl ?_ done
    intro i j h1 h3 h4
    rw [hzl] at h4
    rw [List.size_toArray] at h2
    have : i = j := by lia
    subst this
    exact Ordr.le_refl _
  · rw [if_neg h2, if_neg h2]
    rw [List.size_toArray] at h2
    refine wpAny_bind (PySem.W.kas_kind (T := .type "list") (by rw [List.length_map]; lia) (fun v hv => ?_) rfl rfl ?_)
    · obtain ⟨k, hk, rfl⟩ := List.mem_map.mp hv
      obtain ⟨items, ⟨o, ho, hoc, _⟩, _⟩ := lat k hk
      rw [← hoc]
      exact (PySem.W.Looks.ld ho).andThen .now
    · refine wpAny_bind (wpAny_mono (t_runs (cmpL (cz := cz) (a₀ := (ks.map Value.ref).toArray.zip vs.toArray) hu fun p hp => by obtain ⟨k, e, hk⟩ := at0 p hp; exact ⟨k, e, lat k hk⟩) (a₀ := (ks.map Value.ref).toArray.zip vs.toArray) (kd := oneType') (st := SortSt.mk' oneType' ((ks.map Value.ref).toArray.zip vs.toArray) #[] 7 none) (Q := fun _ z => (arrOf z).Perm ((ks.map Value.ref).toArray.zip vs.toArray) ∧ failedOf z = none ∧ Rise ordL (keyL cz) (arrOf z) 0 ((ks.map Value.ref).toArray.zip vs.toArray).size) ⟨Array.Perm.refl _, rfl, rfl⟩ rfl (by rw [hzl]; lia) fun z B R => ⟨B.perm, B.failed, R⟩) ?_ fun _ _ e => e)
      rintro ⟨⟨⟩, z⟩ s' ⟨rfl, pm, hf, R⟩
      exact key_tail (cz := cz) I nD nk hDk hD HD hS HS hv hle hkl (fun j k n h1 h2 => hcz k j n h1 h2) pm hf R done
theorem key_sort {D : Addr} {n0 : Nat} {vs : List Value} {E : Value → Shared → Prop} {P : PySem.Fin → Shared → Prop} (hu : (X.A.in1.in1).units < cLine) (I : Inv X pins σ H s) (nD : NewAd X pins D) (hD : s.heap.get? D = some (seqObj "list" vs.toArray n0)) (HD : H D = none) (nf : NewAd X pins f) (hf : s.heap.get? f = some fo) (Hf : H f = none) (hDf : D ≠ f)
    (hv : Vals (ns.map V.int) vs) (hle : ns.length ≤ 1000) (T : Turns X pins σ H f fo ns kf)
    (done : ∀ (H' : Hp) (s' : Shared) (ms : List Int) (ws : List Value) (c : Nat), Inv X pins σ H' s' → Same H H' → s'.heap.get? D = some (seqObj "list" ws.toArray c) → H' D = none → Vals (ms.map V.int) ws → ms.Perm ns → ms.Pairwise (fun a b => ltL (codes (kf b)) (codes (kf a)) = false) → P (.done (.ret .none)) s') :
    wpAny (model X.prog X.w) X.A.in1.in1 (ksk_tree D (.ref f) false) P E s := by
  have hvl : ns.length = vs.length := by have := hv.length; rw [List.length_map] at this; exact this
  have sb := Heap.SameBut.update s.heap D (Obj.mapSeq fun _ => (#[] : Array Value))
  obtain ⟨e1, hD1⟩ : ∃ e1, (s.heap.update D (Obj.mapSeq fun _ => (#[] : Array Value))).get? D = some (seqObj "list" #[] e1) := ⟨_, get?_update_seq hD fun _ => #[]⟩
  have I1 := I.own (t' := s.toks) nD HD sb
  have hf1 := (sb.2 f hDf.symm).trans hf
  have ltD : D < s.heap.objs.size := Heap.lt_size hD
  have ltf : f < s.heap.objs.size := Heap.lt_size hf
  generalize eg : s.heap.update D (Obj.mapSeq fun _ => (#[] : Array Value)) = g at hD1 I1 hf1
  have hg : g.objs.size = s.heap.objs.size := by rw [← eg, Heap.size_update]
  unfold ksk_tree
  refine wpAny_bind (listItems_at hD rfl (wpAny_bind (listUpdate_at hD rfl ?_ (by rw [List.size_toArray]; exact le_line (by lia)) (Nat.zero_le _))))
  show wpAny _ _ _ _ _ { s with heap := s.heap.update D (Obj.mapSeq fun _ => (#[] : Array Value)) }
  rw [eg]
  refine wpAny_bind (seqEpoch_at hD1 rfl (wpAny_bind (wpAny_newTuple (wpAny_bind (wpAny_newList (wpAny_holding ?_) (Nat.zero_le _))) (le_line (by simp; lia)))))
  dsimp only
  have hk1 : (g.push (seqObj "tuple" vs.toArray 0)).objs.size = s.heap.objs.size + 1 := by rw [Heap.size_push, hg]
  have keep : ∀ b o, g.get? b = some o → ((g.push (seqObj "tuple" vs.toArray 0)).push (seqObj "list" #[] 0)).get? b = some o := fun b o e => Heap.get?_push_of_some _ (Heap.get?_push_of_some _ e)
  have I2 := I1.kept (h' := (g.push (seqObj "tuple" vs.toArray 0)).push (seqObj "list" #[] 0)) (t' := s.toks) keep
  have nk : NewAd X pins (g.push (seqObj "tuple" vs.toArray 0)).objs.size := I.newAd (by rw [hk1]; exact Nat.le_succ _)
  have hDk : D ≠ (g.push (seqObj "tuple" vs.toArray 0)).objs.size := by rw [hk1]; exact Nat.ne_of_lt (Nat.lt_succ_of_lt ltD)
  have hfk : f ≠ (g.push (seqObj "tuple" vs.toArray 0)).objs.size := by rw [hk1]; exact Nat.ne_of_lt (Nat.lt_succ_of_lt ltf)
  have HS : H (g.push (seqObj "tuple" vs.toArray 0)).objs.size = none := I.hok.fresh (by rw [hk1]; exact Nat.le_succ _)
  have hS : ((g.push (seqObj "tuple" vs.toArray 0)).push (seqObj "list" #[] 0)).get? (g.push (seqObj "tuple" vs.toArray 0)).objs.size = some (seqObj "list" #[] 0) := Heap.get?_push_size _ rfl
  show wpAny _ _ (ksk_rest D (.ref f) false vs.toArray e1 (.ref (g.push (seqObj "tuple" vs.toArray 0)).objs.size)) _ _ { s with heap := (g.push (seqObj "tuple" vs.toArray 0)).push (seqObj "list" #[] 0) }
  generalize (g.push (seqObj "tuple" vs.toArray 0)).objs.size = kS at *
  unfold ksk_rest
  refine wpAny_bind (wpAny_rule (wpAny_bind ?_))
  rw [List.forIn_toArray]
  refine key_loop (e1 := e1) (vs := vs) nD nk nf hDk hfk hv hle T (fun x => rfl) vs 0 _ rfl (Nat.zero_le _) ⟨H, [], 0, I2, Same.refl _, keep _ _ hf1, Hf, keep _ _ hD1, HD, hS, HS, rfl, fun j k n h => by simp at h⟩ fun s3 W => ?_
  obtain ⟨H3, ks, e, I3, sm, _, _, hD3, HD3, hS3, HS3, hl3, hks⟩ := W.ex
  refine wpAny_bind (listItems_at hS3 rfl ?_)
  exact key_end hu I3 nD nk hDk hD3 HD3 hS3 HS3 hv hle (by lia) hks fun s' ms ws c I' g' v' p' o' => done H3 s' ms ws c I' sm g' HD3 v' p' o'
end
end L2

namespace L2
open PySem PySem.Spec PyProof.Rows
/-! ### sorted(a list of numbers, key=a lambda that tells a list of signs) -/
def tSortLam (P : Addr) (lp : Pos) (q : Str) (iw : Nat) (te tb : TE) : TE := fun σ H Q => te σ H fun x H1 => ∃ (l : Addr) (ns : List Int) (vw : V) (kf : Int → List Nat), x = .ref l ∧ H1 l = some (.lst (ns.map V.int)) ∧ ns.length ≤ 1000 ∧ σ[iw]? = some (some vw) ∧ Tab H1 P lp q ∧
  (∀ n ∈ ns, ∀ H', Keep P H1 H' → tb [some vw, some (.int n)] H' fun v H'' => ∃ k, v = .ref k ∧ H'' k = some (.lst ((kf n).map sg)) ∧ Same H' H'') ∧
  ∀ (r : Addr) (ms : List Int) (H' : Hp), ms.Perm ns → ms.Pairwise (fun a b => ltL (codes (kf b)) (codes (kf a)) = false) → Keep P H1 H' → (∃ c, Tab1 H' P lp q c) → H1 r = none → H' r = some (.lst (ms.map V.int)) → Q (.ref r) H'
theorem pe_sortLam {X : Cx} {e body : Expr} {te tb : TE} {p pos kp lp : Pos} {params : Arguments} {scope : Scope} {fv y : Str} {cc P : Addr} {iw k : Nat} (hc : X.calm = true) (hm : X.mg "sorted" = none) (hr : Room (k + 2) X.A) (hcode : X.env.code = .ref cc) (C : PySem.W.CodeHd X.base cc P) (hB : Bmn X.mg X.base) (S : LamSc fv y scope) (hny : fv ≠ y)
    (hN : X.N[iw]? = some fv) (hkc : X.env.kindOf fv = some .cell) (hcl : ∀ cw, X.env.cells.lookup fv = some cw → closureFor scope X.env = pure [(fv, cw)]) (hdef : defaultsOf params X.env = ([], []))
    (hbind : ∀ (q : Str) (cw c : Addr) (pm ctv u : Value), bindArgs (PySem.W.kla_fn "<lambda>" q params body scope [(fv, cw)] pm (.ref c) ctv) ⟨[u], []⟩ = pure [(y, u)])
    (ha : PE X e te) (hb : ∀ (A : Around) (s : Shared) (H : Hp) (L f c cw : Addr), PE (lamCx X A [fv, y] (lamEnv (X.env.qual ++ "<lambda>") scope L f c fv cw) s H) body tb) (hg : Gl X "sorted" := by rfl) (he : starEach [e] X.env = [(false, eval e X.env)] := by rfl) :
    PE X (.Call (.Name "sorted" p) [e] [⟨some "key", .Lambda params body scope lp, kp⟩] pos) (tSortLam P lp (X.env.qual ++ "<lambda>") iw te tb) := by
  intro pins s σ H Q I h
  refine wpAny_Call_Name_kw (ld_blt I hg hm bt_sorted ?_)
  have hbk : backTo pos (starEach [e] X.env) = (false, eval e X.env) :: backTo pos (starEach [] X.env) := by rw [he]; rfl
  refine PyProof.Rows.callWith_kw ?_ hbk (by rw [he]; rfl) (by rfl) (by rfl)
  refine thn ((pa_cons ha pa_nil (by exact he)) pos pins s σ H (fun vs H1 => match vs with | [x] => tSortLam P lp (X.env.qual ++ "<lambda>") iw (fun _ H Q => Q x H) tb σ H1 Q | _ => False) I h) fun us s1 ⟨vs, H1, I1, r1, q1⟩ => ?_
  match vs, q1 with
  | [x], q1 =>
    obtain ⟨u, rfl, ru⟩ := r1.one
    obtain ⟨l, ns, vw, kf, rfl, hl, hle, hvw, T, turn, k1⟩ := q1
    cases ru
    -- the cell
    have cellAt : ∀ {H' : Hp} {s' : Shared}, Inv X pins σ H' s' → ∃ cw uw, X.env.cells.lookup fv = some cw ∧ s'.heap.IsCell cw (some uw) ∧ RelV vw uw ∧ H' cw = none := fun {H' s'} I' => by
      obtain ⟨m, _, hloc⟩ := I'.loc
      obtain ⟨uw, rw', lk⟩ := hloc iw fv vw hN hvw (.inr (.inl hkc))
      rcases lk with ⟨z, _⟩ | ⟨_, cw, e1, e2⟩
      · rw [hkc] at z; cases z
      · exact ⟨cw, uw, e1, e2, rw', I'.freeC fv cw e1⟩
    obtain ⟨cw, _, hcw, _⟩ := cellAt I1
    refine PyProof.Rows.kws_cons (lam_make I1 hcode C hB T (hcl cw hcw) hdef fun f c pm ctv H2 s2 I2 T2 k2 hf2 Hf2 hfs _ => PyProof.Rows.kws_nil ?_)
    have hl2 : H2 l = some (.lst (ns.map V.int)) := k2 _ _ hl (fun z => by
      rw [z] at hl
      rcases T with t | ⟨c', t, _⟩ <;> (rw [hl] at t; cases t))
    obtain ⟨_, its, n, rv, hz, e1⟩ := I2.lstM hl2
    have hnl : ns.length = its.length := by rw [← hz, List.length_map]
    have hL : s2.heap.IsList l its.toArray := ⟨_, e1, rfl, n, rfl⟩
    have hr2 : Room k X.A.in1.in1 := hr.in1.in1
    have nf : NewAd X pins f := I1.newAd hfs
    -- one call of the key
    have TT : Turns X pins σ H2 f (PySem.W.kla_obj "<lambda>" (X.env.qual ++ "<lambda>") params body scope [(fv, cw)] pm c ctv) ns kf := by
      intro n0 hn0 H' s' u I' sm hf' _ ru
      obtain ⟨cw', uw, e2, e3, e4, e5⟩ := cellAt I'
      rw [hcw] at e2
      cases e2
      have e0 := I'.env0.in1.in1
      have hcd : s'.heap.CodeRec (.ref c) (X.env.qual ++ "<lambda>") := (I'.hok c _ (sm _ _ T2.2)).1
      refine wpAny_call (lam_call I' e0.frames hr2.hd hr2.depth S hny hf' hcd e3 e5 e4 ru (hbind _ _ _ _ _ _) (hb _ _ _ _ _ _ _) (turn n0 hn0 H' fun b o e n => sm _ _ (k2 _ _ e n)) fun v' u' H'' s'' J un rv' q' => ?_)
      obtain ⟨k0, rfl, hk0, sm2⟩ := q'
      cases rv'
      exact ⟨k0, H'', rfl, J, hk0, sm2, un⟩
    -- sorted
    refine PyProof.Rows.call_function_entry_kw kind_sorted plain_sorted entry_sorted (ksk_s1 _ _) ?_
    unfold Builtin.«sorted»
    refine wpAny_bind (m := checkCount "sorted" 1 1 _) (wpAny_pure (wpAny_bind (collect_list hL (wpAny_bind (wpAny_newList ?_ (le_line (by lia)))) (le_line (by lia)))))
    have sz1 : ((s2.heap.push (seqObj "list" #[] 0)).update s2.heap.objs.size (Obj.mapSeq (· ++ its.toArray))).objs.size = s2.heap.objs.size + 1 := by rw [Heap.size_update, size_push']
    have keep : ∀ b o, s2.heap.get? b = some o → (((s2.heap.push (seqObj "list" #[] 0)).update s2.heap.objs.size (Obj.mapSeq (· ++ its.toArray))).push (seqObj "list" its.toArray 0)).get? b = some o := fun b o q => by
      have hlt : b < s2.heap.objs.size := Heap.lt_size q
      refine Heap.get?_push_of_some _ ((Heap.get?_update_other _ _ (Nat.ne_of_gt hlt)).trans (Heap.get?_push_of_some _ q))
    have at1 : (((s2.heap.push (seqObj "list" #[] 0)).update s2.heap.objs.size (Obj.mapSeq (· ++ its.toArray))).push (seqObj "list" its.toArray 0)).get? (s2.heap.objs.size + 1) = some (seqObj "list" its.toArray 0) := by
      rw [← sz1]; exact Heap.get?_push_size _ rfl
    have I3 := I2.kept (h' := ((s2.heap.push (seqObj "list" #[] 0)).update s2.heap.objs.size (Obj.mapSeq (· ++ its.toArray))).push (seqObj "list" its.toArray 0)) (t' := s2.toks) keep
    have hf3 := keep _ _ hf2
    show wpAny _ _ _ _ _ { s2 with heap := ((s2.heap.push (seqObj "list" #[] 0)).update s2.heap.objs.size (Obj.mapSeq (· ++ its.toArray))).push (seqObj "list" its.toArray 0) }
    rw [sz1]
    generalize ((s2.heap.push (seqObj "list" #[] 0)).update s2.heap.objs.size (Obj.mapSeq (· ++ its.toArray))).push (seqObj "list" its.toArray 0) = g at *
    have nD : NewAd X pins (s2.heap.objs.size + 1) := I2.newAd (Nat.le_succ _)
    have HD2 : H2 (s2.heap.objs.size + 1) = none := I2.hok.fresh (Nat.le_succ _)
    have hDf : s2.heap.objs.size + 1 ≠ f := Nat.ne_of_gt (Nat.lt_succ_of_lt (Heap.lt_size hf2))
    refine wpAny_bind (wpAny_holding (wpAny_call_entry_kw slot_list_sort ⟨_, at1, rfl⟩ entry_list_sort ?_ (ksk_l1 _ _)))
    show wpAny (model X.prog X.w) X.A.in1.in1 (Builtin.«list.sort» ⟨[.ref (s2.heap.objs.size + 1)], [(Str.ofString "key", .ref f)]⟩) _ _ _
    rw [ksk_t1]
    refine key_sort hr2.units0 I3 nD at1 HD2 nf hf3 Hf2 hDf rv hle TT fun H4 s4 ms ws c4 I4 sm4 g4 HD4 v4 p4 o4 => ⟨_, rfl, wpAny_pure ⟨_, rfl, ?_⟩⟩
    have hwl : (ms.map V.int).length ≤ sizeLine := by rw [List.length_map, p4.length_eq]; exact le_line hle
    have I5 := I4.trackE (e := s2.heap.objs.size + 1) (u := .lst (ms.map V.int)) HD4 (Heap.get?_none_of_le nD.s0) nD.loc nD.cell nD.pin ⟨hwl, ws, c4, v4, g4⟩
    have sm5 : Same H2 (upd H4 (s2.heap.objs.size + 1) (.lst (ms.map V.int))) := sm4.trans (Same.upd HD4)
    have kk : Keep P H1 (upd H4 (s2.heap.objs.size + 1) (.lst (ms.map V.int))) := fun b o e n => sm5 _ _ (k2 _ _ e n)
    have HD1 : H1 (s2.heap.objs.size + 1) = none := by
      cases q : H1 (s2.heap.objs.size + 1) with
      | none => rfl
      | some o =>
        by_cases z : s2.heap.objs.size + 1 = P
        · have := T2.1; rw [← z, HD2] at this; cases this
        · have := k2 _ _ q z; rw [HD2] at this; cases this
    exact ⟨.ref (s2.heap.objs.size + 1), _, I5, rfl, k1 _ ms _ p4 o4 kk ⟨c, sm5 _ _ T2.1, sm5 _ _ T2.2⟩ HD1 upd_same⟩
end L2

namespace L2
open PySem PySem.Spec PyProof.Rows
/-! ### the order in which a set is walked is drawn: any order -/
theorem choose_any {M : Model} {A : Around} {E : Value → Shared → Prop} {s : Shared} {src : Source} {n : Nat} {Q : Nat → Shared → Prop} (hn : n ≠ 0) (h : ∀ i d, i < n → Q i { s with drawn := d }) : wpAny M A (choose src n) Q E s := fun Γ p _ => by
  unfold choose
  rw [Sem.wp_choose]
  exact ⟨hn, h _ _ (Nat.mod_lt _ (by lia))⟩
theorem erase_perm {α : Type} {l : List α} {i : Nat} (h : i < l.length) : (l[i] :: l.eraseIdx i).Perm l := by
  have e : l.take i ++ l[i] :: l.drop (i + 1) = l := by rw [← List.drop_eq_getElem_cons h, List.take_append_drop]
  rw [List.eraseIdx_eq_take_drop_succ]
  conv => rhs; rw [← e]
  exact List.perm_middle.symm
theorem draw_any {M : Model} {A : Around} {E : Value → Shared → Prop} {α : Type} : ∀ (n : Nat) (xs : List α) (s : Shared) (Q : List α → Shared → Prop), xs.length ≤ n → (∀ ys d, ys.Perm xs → Q ys { s with drawn := d }) → wpAny M A (drawOrder n xs) Q E s
  | 0, xs, s, Q, hl, h => by
    obtain rfl : xs = [] := List.length_eq_zero_iff.mp (by lia)
    exact wpAny_pure (h [] s.drawn (List.Perm.refl _))
  | n + 1, [], s, Q, hl, h => wpAny_pure (h [] s.drawn (List.Perm.refl _))
  | n + 1, x :: xs, s, Q, hl, h => by
    unfold drawOrder
    refine wpAny_bind (choose_any (by simp) fun i d hi => ?_)
    have hi' : (x :: xs)[i]? = some (x :: xs)[i] := by simp [hi]
    rw [hi']
    refine wpAny_bind (draw_any n ((x :: xs).eraseIdx i) _ _ (by rw [List.length_eraseIdx]; simp only [List.length_cons] at hl hi ⊢; split <;> lia) fun ys d2 p => wpAny_pure (h _ d2 ?_))
    exact (p.cons _).trans (erase_perm hi)
end L2

namespace L2
open PySem PySem.Spec PyProof.Rows
/-! ### for k in d, where the keys are tuples -/
section
variable {prog : Program} {w : World} {A : Around} {E : Value → Shared → Prop} {s : Shared} {it d : Addr} {i n ep : Nat} {od : Obj} {es : Array DictEntry}
theorem keys_next {en : DictEntry} {Q : Option Value → Shared → Prop} (hit : s.heap.IsKeyIter it d i n ep) (e1 : s.heap.get? d = some od) (e2 : od.data = .dict es ep) (e3 : es.size = n) (e4 : es[i]? = some en)
    (q : ∀ h', h'.IsKeyIter it d (i + 1) n ep → Heap.SameBut it s.heap h' → Q (some en.key) { s with heap := h' }) : wpAny (model prog w) A (pyNext (.ref it)) Q E s := by
  obtain ⟨io, i1, i2, i3⟩ := id hit
  obtain ⟨lt, eg⟩ := Array.getElem?_eq_some_iff.mp e4
  unfold pyNext; refine wpAny_bind (wpAny_attempt (wpAny_callSpecial?_slot (name := Str.ofString "__next__") hit.typeIs F.slot_dict_keyiterator_next (wpAny_call_entry F.slot_dict_keyiterator_next hit.typeIs F.entry_dict_keyiterator_next ?_ (F.args_dict_keyiterator_next_1 _))))
  refine wpAny_bind (wpAny_pure (wpAny_bind (wpAny_bind ?_)))
  first | refine wpAny_bind (wpAny_typeNameOfWhole_keyiter hit.typeIs (wpAny_pure (wpAny_bind (wpAny_fieldsOf i1 i3 ?_)))) | refine wpAny_bind (wpAny_typeNameOf_keyiter hit.typeIs (wpAny_pure (wpAny_bind (wpAny_fieldsOf i1 i3 ?_))))
  simp only [show Builtin.Dict_items.ownsTuple "dict_keyiterator" = false by decide, Bool.false_eq_true, if_false]
  show wpAny _ _ (if (Value.ref d == Value.none) = true then _ else _) _ _ s; rw [if_neg (show ¬ ((Value.ref d == Value.none) = true) by exact Bool.false_ne_true)]
  refine wpAny_bind (wpAny_pure (wpAny_bind (wpAny_dictEntries e1 e2 ?_)))
  rw [if_neg (by rw [e3]; simp)]; refine wpAny_bind (wpAny_pure (wpAny_bind (wpAny_dictEpoch e1 e2 ?_)))
  rw [if_neg (by simp)]; refine wpAny_pure ?_
  simp only [show ¬ ((i : Int) < 0) by lia, if_false, Int.toNat_natCast, e4]
  refine wpAny_bind ?_
  first | refine wpAny_bind (wpAny_typeNameOfWhole_keyiter hit.typeIs (wpAny_pure (wpAny_bind (wpAny_isOneOf_keyiter hit.typeIs ?_)))) | refine wpAny_bind (wpAny_typeNameOf_keyiter hit.typeIs (wpAny_pure (wpAny_bind (wpAny_isOneOf_keyiter hit.typeIs ?_))))
  show wpAny _ _ (setField (.ref it) 1 (rawInt ((i : Int) + 1)) >>= _) _ _ s; refine wpAny_bind (wpAny_setField i1 i3 (by simp) ?_)
  have on : (s.heap.update it (Obj.mapFields (·.setIfInBounds 1 (rawInt ((i : Int) + 1))))).IsKeyIter it d (i + 1) n ep := ⟨_, Heap.get?_update_self _ i1 (Obj.isFreed_of_fields (Obj.data_mapFields i3 _)), (Obj.cls_mapFields ..).trans i2, by rw [Obj.data_mapFields i3]; simp [rawInt]⟩
  generalize hh : s.heap.update it (Obj.mapFields (·.setIfInBounds 1 (rawInt ((i : Int) + 1)))) = h1 at on ⊢
  have sb : Heap.SameBut it s.heap h1 := by rw [← hh]; exact Heap.SameBut.update ..
  refine wpAny_bind (wpAny_holding (wpAny_bind (wpAny_isOneOf_keyiter (s := { s with heap := h1 }) on.typeIs ?_)))
  show wpAny _ _ (pure en.key) _ _ _
  exact wpAny_pure (wpAny_pure ⟨_, rfl, wpAny_pure (q h1 on sb)⟩)
theorem keys_end {Q : Option Value → Shared → Prop} (calm : A.handled = none) (hit : s.heap.IsKeyIter it d i n ep) (e1 : s.heap.get? d = some od) (e2 : od.data = .dict es ep) (e3 : es.size = n) (e4 : n ≤ i)
    (q : ∀ h', Heap.ExtBut it s.heap h' → Q none { s with heap := h' }) : wpAny (model prog w) A (pyNext (.ref it)) Q E s := by
  obtain ⟨io, i1, i2, i3⟩ := id hit
  unfold pyNext; refine wpAny_bind (wpAny_attempt (wpAny_callSpecial?_slot (name := Str.ofString "__next__") hit.typeIs F.slot_dict_keyiterator_next (wpAny_call_entry F.slot_dict_keyiterator_next hit.typeIs F.entry_dict_keyiterator_next ?_ (F.args_dict_keyiterator_next_1 _))))
  refine wpAny_bind (wpAny_pure (wpAny_bind (wpAny_bind ?_)))
  first | refine wpAny_bind (wpAny_typeNameOfWhole_keyiter hit.typeIs (wpAny_pure (wpAny_bind (wpAny_fieldsOf i1 i3 ?_)))) | refine wpAny_bind (wpAny_typeNameOf_keyiter hit.typeIs (wpAny_pure (wpAny_bind (wpAny_fieldsOf i1 i3 ?_))))
  simp only [show Builtin.Dict_items.ownsTuple "dict_keyiterator" = false by decide, Bool.false_eq_true, if_false]
  show wpAny _ _ (if (Value.ref d == Value.none) = true then _ else _) _ _ s; rw [if_neg (show ¬ ((Value.ref d == Value.none) = true) by exact Bool.false_ne_true)]
  refine wpAny_bind (wpAny_pure (wpAny_bind (wpAny_dictEntries e1 e2 ?_)))
  rw [if_neg (by rw [e3]; simp)]; refine wpAny_bind (wpAny_pure (wpAny_bind (wpAny_dictEpoch e1 e2 ?_)))
  rw [if_neg (by simp)]; refine wpAny_pure ?_
  simp only [show ¬ ((i : Int) < 0) by lia, if_false, Int.toNat_natCast, Array.getElem?_eq_none (show es.size ≤ i by lia)]
  refine wpAny_bind ?_
  first | refine wpAny_bind (wpAny_typeNameOfWhole_keyiter hit.typeIs (wpAny_pure ?_)) | skip
  show wpAny _ _ (setField (.ref it) 0 .none >>= _) _ _ s; refine wpAny_bind (wpAny_setField i1 i3 (by simp) ?_)
  show wpAny _ _ (newExc (.type "StopIteration") [] >>= _) _ _ _; refine wpAny_bind ?_
  simp only [newExc, newTuple]; refine wpAny_bind (wpAny_newObj_type ?_ (by size_fits))
  refine wpAny_bind (m := firstArgMember _ _) (wpAny_of_eq (a := Value.none) (by first | (simp only [firstArgMember]; rfl) | rfl) ?_)
  refine wpAny_newObj_type ?_ (by size_fits); simp only [raiseNew]
  refine wpAny_bind (wpAny_handled ?_); rw [show A.in1.handled = none from calm]
  refine wpAny_bind (wpAny_pure (wpAny_throw ?_)); refine wpAny_bind (wpAny_isInstance (T := "StopIteration") (b := true) ⟨_, Heap.get?_push_size _ rfl, rfl⟩ isSubtype_stop (wpAny_pure ?_))
  exact q _ (((Heap.SameBut.update ..).extBut.push _).push _)
theorem keys_iter {Q : Value → Shared → Prop} (hT : s.TypeIs (.ref d) "dict") (hd : (d == sysModules) = false) (e1 : s.heap.get? d = some od) (e2 : od.data = .dict es ep) (e3 : es.size = n)
    (q : Q (.ref s.heap.objs.size) { s with heap := s.heap.push { cls := .type "dict_keyiterator", data := .fields #[.ref d, .int 0 0, .int n 0, .int ep 0] } }) : wpAny (model prog w) A (pyIter (.ref d)) Q E s := by
  refine wpAny_pyIter_slot hT F.slot_dict_iter (wpAny_call_entry F.slot_dict_iter hT F.entry_dict_iter ?_ (F.args_dict_iter_1 _)); unfold Builtin.«dict.__iter__» Builtin.Dict.dictSlotNone
  refine wpAny_bind (wpAny_bind (wpAny_notOrdered_dict hT ?_)); show wpAny _ _ (pure (Value.ref d)) _ _ s
  refine wpAny_pure ?_; show wpAny _ _ (Builtin.Dict.showsAll d >>= _) _ _ s
  unfold Builtin.Dict.showsAll; rw [if_neg (by rw [hd]; decide)]
  refine wpAny_bind (wpAny_pure (wpAny_bind (wpAny_dictEntries e1 e2 (wpAny_bind (wpAny_dictEpoch e1 e2 (wpAny_bind ?_))))))
  refine wpAny_newObj_type (wpAny_pure ⟨_, rfl, "dict_keyiterator", _, ⟨_, Heap.get?_push_size _ rfl, rfl⟩, F.slot_dict_keyiterator_next.lookup, ?_⟩); simpa [rawInt, e3] using q
end
/-- the keys of a dict that is held still -/
def Itkeys (d : Addr) (o : Obj) (kvs : List (List Key × V)) : It :=
  ⟨fun i H => H d = some (.frz o (.dT kvs)) ∧ i < kvs.length, fun i H x H' => H' = H ∧ ∃ k v b, kvs[i]? = some (k, v) ∧ x = .ref b ∧ H b = some (.tup (k.map kV)), fun i H => H d = some (.frz o (.dT kvs)) ∧ kvs.length ≤ i⟩
theorem still_keys {X : Cx} {pins : List (Addr × Obj)} {σ : St} {H : Hp} {s : Shared} {d : Addr} {o : Obj} {kvs : List (List Key × V)} (I : Inv X pins σ H s) (e : H d = some (.frz o (.dT kvs))) {es : Array DictEntry} {ep : Nat} (eo : o.data = .dict es ep) :
    s.heap.get? d = some o ∧ es.size = kvs.length ∧ ∀ (i : Nat) (k : List Key) (x : V), kvs[i]? = some (k, x) → ∃ (en : DictEntry) (b : Addr), es[i]? = some en ∧ en.key = .ref b ∧ H b = some (.tup (k.map kV)) := by
  obtain ⟨e1, z, hd, xs, rel, o', es', ep', h1, h2, h3, h4, h5⟩ := (show ObjOk X.prog X.w H s.heap d (.frz o (.dT kvs)) from I.hok d _ e)
  rw [e1] at h1
  cases h1
  rw [eo] at h3
  cases h3
  refine ⟨e1, by rw [size_of_entries h4, Paired.length rel], fun i k x hx => ?_⟩
  obtain ⟨y, hy, ry⟩ := paired_get rel hx
  exact ⟨_, y.2.1, by rw [entry_at h4 i, hy]; rfl, rfl, ry.2.1⟩
theorem turn_keys {P : Program} {w : World} {K : PySem.W.Frag} {tg : Expr} (d it : Addr) (o : Obj) (kvs : List (List Key × V)) {es : Array DictEntry} {ep : Nat} (eo : o.data = .dict es ep) :
    Turn P w K tg (Itkeys d o kvs) [it] it (fun i h => h.IsKeyIter it d i kvs.length ep) where
  mem := by simp
  obj := fun i h st b hb => by
    have eb : b = it := by simpa using hb
    obtain ⟨ob, e, c, dd⟩ := st
    exact ⟨ob, eb ▸ e, fun v z => by rw [dd] at z; cases z⟩
  keep := fun i h h' st k => by
    obtain ⟨ob, e, r⟩ := st
    exact ⟨ob, k it (by simp) ob e, r⟩
  item := by
    intro X hP hw hK hc i pins s σ H E I hf st hg
    subst hP hw hK
    obtain ⟨he, hi⟩ := hg
    obtain ⟨e1, e3, at_⟩ := still_keys I he eo
    obtain ⟨en, kb, e4, ek, ry⟩ := at_ i kvs[i].1 kvs[i].2 (List.getElem?_eq_getElem hi)
    obtain ⟨f0, f1, f2, f3, f4, f5⟩ := hf it (by simp)
    refine keys_next st e1 eo e3 e4 fun h' st' sb => ?_
    have I1 : Inv X pins σ H { s with heap := h' } := I.turned (t' := s.toks) (fun b ob hb e => (sb.2 b hb).trans e) f0 f1 f3 f4 f5
    obtain ⟨ob, e, c, dd⟩ := id st'
    exact ⟨en.key, rfl, go_of (s := { s with heap := h' }) e c dd (by decide) ⟨.ref kb, H, I1, ek, ⟨rfl, kvs[i].1, kvs[i].2, kb, List.getElem?_eq_getElem hi, rfl, ry⟩, st', fun b hb => (hf b hb).1⟩⟩
  done := by
    intro X hP hw hK hc i pins s σ H E I hf st hg
    subst hP hw hK
    obtain ⟨he, hi⟩ := hg
    obtain ⟨e1, e3, _⟩ := still_keys I he eo
    obtain ⟨f0, f1, f2, f3, f4, f5⟩ := hf it (by simp)
    exact keys_end (I.ok.hd hc) st e1 eo e3 hi fun h' eb => ⟨rfl, I.turned (t' := s.toks) (fun b ob hb e => eb b ob hb e) f0 f1 f3 f4 f5⟩
  self := fun _ _ _ _ _ st h => wpAny_pyIter_keyiter st h
/-- a dict by its keys; behind it the dict is held still, and it may be held before -/
def iKeys (te : TE) : TI := fun σ H R => te σ H fun x H1 => ∃ a kvs, x = .ref a ∧ ((H1 a = some (.dT kvs) ∧ ∀ o, R (Itkeys a o kvs) (upd H1 a (.frz o (.dT kvs)))) ∨ ∃ o, H1 a = some (.frz o (.dT kvs)) ∧ R (Itkeys a o kvs) H1)
theorem pi_keys {X : Cx} {tg e : Expr} {te : TE} (he : PE X e te) : PI X tg e (iKeys te) := by
  intro pins s σ H R I h
  refine thn (he pins s σ H _ I h) fun v s1 ⟨x, H1, I1, rx, a, kvs, ex, q⟩ => ?_
  subst ex
  obtain rfl : v = Value.ref a := rx
  have ok : ObjOk X.prog X.w H1 s1.heap a (.dT kvs) := by
    rcases q with ⟨ha, _⟩ | ⟨o, ha, _⟩
    · exact I1.hok a _ ha
    · exact (show ObjOk X.prog X.w H1 s1.heap a (.frz o (.dT kvs)) from I1.hok a _ ha).2
  obtain ⟨z, hd, xs, rel, ob, es, ep, h1, h2, h3, h4, h5⟩ := ok
  obtain ⟨H2, I2, q⟩ : ∃ H2, Inv X pins σ H2 s1 ∧ R (Itkeys a ob kvs) H2 := by
    rcases q with ⟨ha, q⟩ | ⟨o, ha, q⟩
    · obtain ⟨ob', h1', I2⟩ := I1.still ha
      rw [h1] at h1'
      cases h1'
      exact ⟨_, I2, q ob⟩
    · have h1' := (show ObjOk X.prog X.w H1 s1.heap a (.frz o (.dT kvs)) from I1.hok a _ ha).1
      rw [h1] at h1'
      cases h1'
      exact ⟨_, I1, q⟩
  refine keys_iter (d := a) (n := kvs.length) ⟨ob, h1, h2.1⟩ hd h1 h3 (by rw [size_of_entries h4, Paired.length rel]) ?_
  refine ⟨_, [_], _, Itkeys a ob kvs, _, rfl, I2.kept (t' := s1.toks) fun b o e => Heap.get?_push_of_some _ e, turn_keys a _ ob kvs h3, ⟨_, Heap.get?_push_size _ rfl, rfl, rfl⟩, fun b hb => ?_, q⟩
  have eb := List.mem_singleton.mp hb
  subst eb
  exact I2.fpOk (Nat.le_refl _) (I2.hok.fresh (Nat.le_refl _))
theorem for_keys {a : Addr} {o : Obj} {kvs : List (List Key × V)} {g : TG} {tb : TS} {D : Ends} {σ : St} {H : Hp} (Pv : Nat → St → Hp → Prop) (h0 : Pv 0 σ H) (hl : ∀ i σ H, i ≤ kvs.length → Pv i σ H → H a = some (.frz o (.dT kvs)))
    (hs : ∀ i k v b σ H, kvs[i]? = some (k, v) → H b = some (.tup (k.map kV)) → Pv i σ H → g (.ref b) σ H fun σ2 H2 => tb { D with nx := Pv (i + 1), ct := Pv (i + 1), bk := D.nx } σ2 H2) (hd : ∀ σ H, Pv kvs.length σ H → D.nx σ H) :
    ∃ W : Nat → Nat → St → Hp → Prop, (∃ m, W 0 m σ H) ∧ ∀ i m σ H, W i m σ H →
      ((Itkeys a o kvs).stop i H ∧ D.nx σ H) ∨ ((Itkeys a o kvs).go i H ∧ ∃ N : St → Hp → Prop, (∀ σ' H', N σ' H' → ∃ m', m' < m ∧ W (i + 1) m' σ' H') ∧ ∀ x H', (Itkeys a o kvs).yld i H x H' → g x σ H' fun σ2 H2 => tb { D with nx := N, ct := N, bk := D.nx } σ2 H2) := by
  refine ⟨fun i m σ H => m = kvs.length - i ∧ i ≤ kvs.length ∧ Pv i σ H, ⟨kvs.length, by simp, Nat.zero_le _, h0⟩, ?_⟩
  rintro i m σ H ⟨rfl, hi, p⟩
  have q := hl i σ H hi p
  by_cases hlt : i < kvs.length
  · refine .inr ⟨⟨q, hlt⟩, Pv (i + 1), fun σ' H' p' => ⟨kvs.length - (i + 1), by lia, rfl, hlt, p'⟩, fun x H' y => ?_⟩
    obtain ⟨e, k, v, b, y, ex, hb⟩ := y
    subst e ex
    exact hs i k v b σ _ y hb p
  · have e : i = kvs.length := by lia
    subst e
    exact .inl ⟨⟨q, Nat.le_refl _⟩, hd σ H p⟩
theorem comp_keys {a : Addr} {o : Obj} {kvs : List (List Key × V)} {tc : TT} {te : TE} {σ : St} {H1 : Hp} {Q : Hp → Prop} {D : Addr} (Pv : Nat → List V → Hp → Prop) (hn : kvs.length < sizeLine) (h0 : Pv 0 [] (upd H1 D (.lst [])))
    (hl : ∀ i ys H, Pv i ys H → ys.length ≤ i) (hq : ∀ i ys H, i ≤ kvs.length → Pv i ys H → H a = some (.frz o (.dT kvs)))
    (hs : ∀ i k w b ys H, kvs[i]? = some (k, w) → H b = some (.tup (k.map kV)) → Pv i ys H → tc (σ ++ [some (.ref b)]) H fun c H2 => if c = true then te (σ ++ [some (.ref b)]) H2 fun v H3 => H3 D = some (.lst ys) ∧ Pv (i + 1) (ys ++ [v]) (upd H3 D (.lst (ys ++ [v]))) else Pv (i + 1) ys H2)
    (hd : ∀ ys H, Pv kvs.length ys H → Q H) :
    ∃ W : Nat → Nat → List V → Hp → Prop, (∃ m, W 0 m [] (upd H1 D (.lst []))) ∧
      ∀ i m ys H, W i m ys H → ((Itkeys a o kvs).stop i H ∧ Q H) ∨ ((Itkeys a o kvs).go i H ∧ ys.length < sizeLine ∧ ∃ N : List V → Hp → Prop, (∀ ys' H', N ys' H' → ∃ m', m' < m ∧ W (i + 1) m' ys' H') ∧ ∀ x H', (Itkeys a o kvs).yld i H x H' → tc (σ ++ [some x]) H' fun b H2 =>
        if b = true then te (σ ++ [some x]) H2 fun v H3 => H3 D = some (.lst ys) ∧ N (ys ++ [v]) (upd H3 D (.lst (ys ++ [v]))) else N ys H2) := by
  refine ⟨fun i m ys H => m = kvs.length - i ∧ i ≤ kvs.length ∧ Pv i ys H, ⟨kvs.length, by simp, Nat.zero_le _, h0⟩, ?_⟩
  rintro i m ys H ⟨rfl, hi, p⟩
  have q := hq i ys H hi p
  by_cases hlt : i < kvs.length
  · refine .inr ⟨⟨q, hlt⟩, Nat.lt_of_le_of_lt (hl i ys H p) (Nat.lt_trans hlt hn), Pv (i + 1), fun ys' H' p' => ⟨kvs.length - (i + 1), by lia, rfl, hlt, p'⟩, fun x H' y => ?_⟩
    obtain ⟨e, k, w, b, y, ex, hb⟩ := y
    subst e ex
    exact hs i k w b ys _ y hb p
  · have e : i = kvs.length := by lia
    subst e
    exact .inl ⟨⟨q, Nat.le_refl _⟩, hd ys H p⟩
end L2

namespace L2
open PySem PySem.Spec PyProof.Rows
/-! ### dict of a list of pairs whose first parts are tuples, all different -/
section
variable {prog : Program} {w : World} {A : Around} {E : Value → Shared → Prop} {s : Shared}
abbrev tk (prog : Program) (w : World) : HeapKind prog w (List Key) := tupleKind (mixKind prog w)
theorem dictH_keep {h h' : Heap} {d : Addr} {xs : List (List Key × Addr × Value)} (hd : h.DictOfH (tk prog w) d xs) (k1 : ∀ o, h.get? d = some o → h'.get? d = some o) (k2 : ∀ x ∈ xs, ∀ o, h.get? x.2.1 = some o → h'.get? x.2.1 = some o) : h'.DictOfH (tk prog w) d xs := by
  obtain ⟨o, es, ep, ho, hc, hdd, he, his, hn⟩ := hd
  refine ⟨o, es, ep, k1 o ho, hc, hdd, he, fun x hx => ?_, hn⟩
  obtain ⟨ob, items, m, e1, e2⟩ := his x hx
  exact ⟨ob, items, m, k2 x hx ob e1, e2⟩
theorem key_keep {h h' : Heap} {k : List Key} {b : Addr} (e : (tk prog w).is h k b) (k2 : ∀ o, h.get? b = some o → h'.get? b = some o) : (tk prog w).is h' k b := by
  obtain ⟨ob, items, m, e1, e2⟩ := e
  exact ⟨ob, items, m, k2 ob e1, e2⟩
theorem updH_loop {d I l : Addr} {its : Array Value} {prs : List (List Key × Addr × Value)} {h₀ : Heap} {R : Result → Shared → Prop} (hh : A.in1.handled = none) (room : A.in1.units < cLine) (hI : l ≠ I) (hdI : d ≠ I) (hdl : d ≠ l) (hn : prs.length = its.size) (hn2 : prs.length ≤ 100000) (hnd : (prs.map (·.1)).Nodup)
    (hit : ∀ (i : Nat) (v : Value), its[i]? = some v → ∃ (p : Addr) (k : List Key) (b : Addr) (val : Value), v = .ref p ∧ p ≠ d ∧ p ≠ I ∧ b ≠ d ∧ b ≠ I ∧ prs[i]? = some (k, b, val) ∧ (tk prog w).is h₀ k b ∧ h₀.IsTuple p #[.ref b, val]) :
    ∀ (m i : Nat) (s : Shared) (t : Tok), i + m = its.size → (s.heap.IsListIter I l i ∧ s.heap.IsList l its) → s.heap.DictOfH (tk prog w) d (prs.take i) → (∀ b o, b ≠ I → b ≠ d → h₀.get? b = some o → s.heap.get? b = some o) →
    (∀ h' tk', h'.DictOfH (tk prog w) d prs → (∀ b o, b ≠ I → b ≠ d → h₀.get? b = some o → h'.get? b = some o) → R (.ok (.ret .none)) { s with heap := h', toks := tk' }) →
    codeAny (model prog w) A (.builtin "dict.update.loop" ⟨[.ref d, .ref I, .int (i : Int) t, .none], []⟩) R s := by
  have W := Walks.list (prog := prog) (w := w) hh I l hI its
  -- no key is at the iterator
  have far : ∀ i, ∀ x ∈ prs.take i, x.2.1 ≠ I ∧ x.2.1 ≠ d := fun i x hx => by
    obtain ⟨j, hj⟩ := List.mem_iff_getElem?.mp (List.mem_of_mem_take hx)
    have jl : j < its.size := by have := (List.getElem?_eq_some_iff.mp hj).1; lia
    obtain ⟨p, k, b, val, _, _, _, bd, bI, e, _⟩ := hit j _ (Array.getElem?_eq_getElem jl)
    rw [hj] at e; cases e
    exact ⟨bI, bd⟩
  intro m
  induction m with
  | zero =>
    intro i s t hm st hd hk hR
    obtain rfl : i = its.size := by lia
    refine codeAny_builtin entry_updLoop ?_; rw [Around.under_plainId plain_updLoop _]
    refine wpAny_bind (W.done s _ _ st fun h' tk' keep => ?_)
    rw [List.take_of_length_le (by lia)] at hd
    have fr := far prs.length
    rw [List.take_length] at fr
    exact wpAny_bind (wpAny_pure (wpAny_pure (hR h' tk' (dictH_keep hd (fun o => keep d o (by simpa using hdI)) fun x hx o => keep _ o (by simpa using (fr x hx).1)) fun b o h1 h2 e => keep b o (by simpa using h1) (hk b o h1 h2 e))))
  | succ m ih =>
    intro i s t hm st hd hk hR
    have hlt : i < its.size := by lia
    refine codeAny_builtin entry_updLoop ?_; rw [Around.under_plainId plain_updLoop _]
    refine wpAny_bind (W.item i s _ _ hlt st fun v h' tk' hv st' keep => ?_)
    obtain ⟨p, k, b, val, rfl, pd, pI, bd, bI, hpr, hkey, hp⟩ := hit i v hv
    obtain ⟨ob, hob, hcl, n', hda⟩ := hp
    have hp' := keep p _ (by simpa using pI) (hk p _ pI pd hob)
    have hT : ({ s with heap := h', toks := tk' } : Shared).TypeIs (.ref p) "tuple" := ⟨_, hp', hcl⟩
    refine wpAny_bind (wpAny_holding (wpAny_bind (wpAny_tryCatch ?_))); unfold Builtin.Dict.pairItems
    refine wpAny_bind (wpAny_typeOf hT ?_); rw [if_pos (by decide)]
    refine wpAny_bind (wpAny_seqItems hp' hda (wpAny_pure ?_))
    show wpAny _ A.in1 (holding [.ref b, val] (dictSet d (.ref b) val)) _ _ _
    have hd' : h'.DictOfH (tk prog w) d (prs.take i) := dictH_keep hd (fun o => keep d o (by simpa using hdI)) fun x hx o => keep _ o (by simpa using (far i x hx).1)
    have hkey' : (tk prog w).is h' k b := key_keep hkey fun o e => keep b o (by simpa using bI) (hk b o bI bd e)
    have hnew : atKey (prs.take i) k = none := atKey_none_of_get fun j q e => by
      have jl : j < i := by have := (List.getElem?_eq_some_iff.mp e).1; rw [List.length_take] at this; lia
      rw [List.getElem?_take_of_lt jl] at e
      have e1 : (prs.map (·.1))[j]? = some k := by rw [List.getElem?_map, e]; rfl
      have e2 : (prs.map (·.1))[i]? = some k := by rw [List.getElem?_map, hpr]; rfl
      obtain ⟨l1, q1⟩ := List.getElem?_eq_some_iff.mp e1
      obtain ⟨l2, q2⟩ := List.getElem?_eq_some_iff.mp e2
      exact List.pairwise_iff_getElem.mp hnd j i l1 l2 jl (q1.trans q2.symm)
    refine wpAny_holding (wpAny_dictSet_heap (hsz := Nat.le_trans (by rw [List.length_take]; lia : (prs.take i).length ≤ 100000) (by decide)) room hkey' hd' fun h2 hd2 hs2 => ?_)
    rw [storedH_new hnew] at hd2
    refine wpAny_pure ⟨plainId_quiet plain_updLoop _, ?_⟩
    refine ih (i + 1) _ 0 (by lia) ⟨st'.1.at fun o e => (hs2.2 I (Ne.symm hdI)).trans e, st'.2.at fun o e => (hs2.2 l (Ne.symm hdl)).trans e⟩ ?_ (fun b' o h1 h2' e => (hs2.2 b' h2').trans (keep b' o (by simpa using h1) (hk b' o h1 h2' e))) fun h3 tk3 a c => hR h3 tk3 a c
    have e3 : prs.take (i + 1) = prs.take i ++ [(k, b, val)] := by rw [List.take_add_one, hpr]; rfl
    rw [e3]; exact hd2
theorem call_dictH_prs {l : Addr} {its : Array Value} {prs : List (List Key × Addr × Value)} {Q : Value → Shared → Prop} (hA : A.handled = none) (room : A.in1.in1.units < cLine) (hnd : (prs.map (·.1)).Nodup) (hn : prs.length = its.size) (hn2 : prs.length ≤ 100000) (n : Nat) (hl : s.heap.get? l = some (seqObj "list" its n))
    (hit : ∀ (i : Nat) (v : Value), its[i]? = some v → ∃ (p : Addr) (k : List Key) (kb : Addr) (val : Value), v = .ref p ∧ prs[i]? = some (k, kb, val) ∧ (tk prog w).is s.heap k kb ∧ s.heap.IsTuple p #[.ref kb, val])
    (h : ∀ h' tk', h'.DictOfH (tk prog w) s.heap.objs.size prs → (∀ b o, s.heap.get? b = some o → h'.get? b = some o) → Q (.ref s.heap.objs.size) { s with heap := h', toks := tk' }) :
    wpAny (model prog w) A (call (.type "dict") [.ref l]) Q E s := by
  refine callType_codes (Q₁ := fun x s₁ => x = .ref s.heap.objs.size ∧ s₁ = { s with heap := s.heap.push { cls := .type "dict", data := .dict #[] } }) F.kt_called_dict (F.kt_typeCall_dict_1 _) F.entry_dict_init (kt_code_dict_new _ ⟨rfl, rfl⟩) ?_
  rintro x s₁ ⟨rfl, rfl⟩
  have d0 : (s.heap.push { cls := .type "dict", data := .dict #[] }).DictOfH (tk prog w) s.heap.objs.size [] := Heap.DictOfH.new s.heap
  refine ⟨d0.typeIs, F.args_dict_init_2 _ _, ?_⟩
  unfold Builtin.«dict.__init__» Builtin.Dict.selfAndRest
  refine wpAny_bind (wpAny_bind (wpAny_notOrdered_dict d0.typeIs (wpAny_pure ?_)))
  have hl' : (s.heap.push { cls := .type "dict", data := .dict #[] }).get? l = some (seqObj "list" its n) := Heap.get?_push_of_some _ hl
  show wpAny _ _ (Builtin.Dict.updateFrom "dict.__init__" s.heap.objs.size (.ref l) [] .none) _ _ _
  unfold Builtin.Dict.updateFrom
  have hT : ({ s with heap := s.heap.push { cls := .type "dict", data := .dict #[] } } : Shared).TypeIs (.ref l) "list" := ⟨_, hl', rfl⟩
  refine wpAny_bind (wpAny_typeOf hT ?_)
  rw [if_pos (by decide)]
  refine wpAny_bind (keys_miss hl' hA fun h1 tk1 keep1 => ?_)
  have hl1 := keep1 _ _ hl'
  have hL1 : h1.IsList l its := ⟨_, hl1, rfl, n, rfl⟩
  show wpAny _ _ (rule _ >>= _) _ _ _
  refine wpAny_bind (wpAny_rule (wpAny_bind (wpAny_pyIter_list hL1 (wpAny_pure ⟨plainId_quiet plain_updLoop _, ?_⟩))))
  have hlt : l < s.heap.objs.size := Heap.lt_size hl
  have dlt : s.heap.objs.size < h1.objs.size := by
    obtain ⟨o, es, ep, ho, _⟩ := d0
    exact Heap.lt_size (keep1 _ _ ho)
  refine updH_loop (A := A.in1) (h₀ := s.heap) (d := s.heap.objs.size) (I := h1.objs.size) (l := l) (its := its) (prs := prs) (show A.in1.in1.handled = none from hA) room (Nat.ne_of_lt (Nat.lt_trans hlt dlt)) (Nat.ne_of_lt dlt) (Nat.ne_of_lt hlt).symm hn hn2 hnd (fun i v hv => ?_) its.size 0 _ _ (Nat.zero_add _) ?_ ?_ ?_ ?_
  · obtain ⟨p, k, kb, val, rfl, a, b, c⟩ := hit i v hv
    have : p < s.heap.objs.size := by
      obtain ⟨_, hob, _⟩ := c
      exact Heap.lt_size hob
    have kl : kb < s.heap.objs.size := let ⟨_, _, _, e, _⟩ := b; Heap.lt_size e
    exact ⟨p, k, kb, val, rfl, Nat.ne_of_lt this, Nat.ne_of_lt (Nat.lt_trans this dlt), Nat.ne_of_lt kl, Nat.ne_of_lt (Nat.lt_trans kl dlt), a, b, c⟩
  · exact ⟨⟨_, Heap.get?_push_size _ rfl, rfl, rfl⟩, hL1.push _⟩
  · exact dictH_keep d0 (fun o ho => Heap.get?_push_of_some _ (keep1 _ _ ho)) fun x hx => by cases hx
  · exact fun b o _ _ e => Heap.get?_push_of_some _ (keep1 _ _ (Heap.get?_push_of_some _ e))
  · intro h' tk hd hk
    exact ⟨rfl, h h' tk hd fun b o e => hk b o (Nat.ne_of_lt (Nat.lt_trans (Heap.lt_size e) dlt)) (Nat.ne_of_lt (Heap.lt_size e)) e⟩
end
section
variable {X : Cx} {pins : List (Addr × Obj)} {σ : St} {H : Hp} {s : Shared}
/-- a pair of a tuple and a value -/
def PairT (H : Hp) (p : Addr) (kv : List Key × V) : Prop := ∃ b, H p = some (.tup [.ref b, kv.2]) ∧ H b = some (.tup (kv.1.map kV))
theorem pairsT_at (I : Inv X pins σ H s) : ∀ (ps : List Addr) (prs : List (List Key × V)), ps.length = prs.length → (∀ (i : Nat) (p : Addr) (kv : List Key × V), ps[i]? = some p → prs[i]? = some kv → PairT H p kv) →
    ∃ vs : List (List Key × Addr × Value), KT H prs vs ∧ vs.map (·.1) = prs.map (·.1) ∧ ∀ (i : Nat) (p : Addr), ps[i]? = some p → ∃ (k : List Key) (b : Addr) (val : Value), vs[i]? = some (k, b, val) ∧ (tk X.prog X.w).is s.heap k b ∧ s.heap.IsTuple p #[.ref b, val]
  | [], [], _, _ => ⟨[], .nil, rfl, fun i p h => by simp at h⟩
  | p :: ps, kv :: prs, hl, h => by
    obtain ⟨vs, r, em, hv⟩ := pairsT_at I ps prs (by simpa using hl) fun i p' kv' h1 h2 => h (i + 1) p' kv' (by simpa using h1) (by simpa using h2)
    obtain ⟨b, hp, hb⟩ := h 0 p kv rfl rfl
    obtain ⟨z, its, rr, e⟩ := I.hok p _ hp
    obtain ⟨u1, u2, rfl, r1, r2⟩ := rr.two
    obtain rfl : u1 = Value.ref b := r1
    refine ⟨(kv.1, b, u2) :: vs, .cons ⟨rfl, hb, r2⟩ r, by rw [List.map_cons, List.map_cons, em], fun i p' hi => ?_⟩
    cases i with
    | zero =>
      obtain rfl : p = p' := by simpa using hi
      exact ⟨kv.1, b, u2, rfl, key_of I.hok hb, e⟩
    | succ i => exact hv i p' (by simpa using hi)
  | [], _ :: _, hl, _ => by simp at hl
  | _ :: _, [], hl, _ => by simp at hl
end
section
variable {X : Cx} {e : Expr} {te : TE} {p pos : Pos}
def rDictT : V → Hp → VK → Prop := fun x H1 Q => ∃ (l : Addr) (ps : List Addr) (prs : List (List Key × V)), x = .ref l ∧ H1 l = some (.lst (ps.map V.ref)) ∧ ps.length = prs.length ∧ (∀ (i : Nat) (p : Addr) (kv : List Key × V), ps[i]? = some p → prs[i]? = some kv → PairT H1 p kv) ∧ (prs.map (·.1)).Nodup ∧ prs.length ≤ 100000 ∧ ∀ d, H1 d = none → Q (.ref d) (upd H1 d (.dT prs))
def tDictT (te : TE) : TE := fun σ H Q => te σ H fun x H1 => rDictT x H1 Q
theorem pe_dictT {k : Nat} (hr : Room k X.A) (hc : X.calm = true) (hm : X.mg "dict" = none) (ha : PE X e te) (hg : Gl X "dict" := by rfl) (he : starEach [e] X.env = [(false, eval e X.env)] := by rfl) : PE X (.Call (.Name "dict" p) [e] [] pos) (tDictT te) :=
  pe_callTy (r := r1 rDictT)
    (callR1 fun pins s σ H x us Q I rv ⟨l, ps, prs, ex, hl, hlen, hps, hnd, hn, q⟩ => by
      subst ex
      obtain ⟨u, rfl, ru⟩ := rv.one
      cases ru
      obtain ⟨z, its, n, r, hle, e1⟩ := I.lstM hl
      obtain rfl := refs_its r
      obtain ⟨vs, rk, em, hv⟩ := pairsT_at I ps prs hlen hps
      have hvl := Paired.length rk
      have hu := hr.units
      refine call_dictH_prs (prs := vs) (its := (ps.map Value.ref).toArray) (by first | exact I.ok.hd hc | (show X.A.in1.handled = none; exact I.ok.hd hc)) (by first | (show X.A.units + 1 + 1 + 1 < cLine; lia) | (show X.A.units + 1 + 1 < cLine; lia)) (by rw [em]; exact hnd) (by simp; lia) (by lia) n e1 (fun i v hi => ?_) fun h' tk' hd keep => ?_
      · have hi' : (ps.map Value.ref)[i]? = some v := by simpa using hi
        rw [List.getElem?_map] at hi'
        cases ep : ps[i]? with
        | none => rw [ep] at hi'; cases hi'
        | some p =>
          rw [ep] at hi'
          obtain rfl : Value.ref p = v := Option.some.inj hi'
          obtain ⟨k, b, val, c1, c2, c3⟩ := hv i p ep
          exact ⟨p, k, b, val, rfl, c1, c2, c3⟩
      · obtain ⟨o, es, ep, hq, h2, h3, h4, _, h5⟩ := hd
        have fr : H s.heap.objs.size = none := I.fresh
        exact ⟨.ref s.heap.objs.size, _, I.laid (a := s.heap.objs.size) (o := .dT prs) (t' := tk') keep (Nat.le_refl _) ⟨Nat.le_trans hn (by decide), beq_eq_false_iff_ne.mpr (Ne.symm (Nat.ne_of_lt I.big)), vs, rk.keeps fun b ys eb => by rw [upd_ne (ne_of_none eb fr)]; exact eb, o, es, ep, hq, h2, h3, h4, h5⟩, rfl, q _ fr⟩)
    hg hm bt_dict (pa_cons ha pa_nil (by exact he)) (he := by exact he)
end
end L2

namespace L2
open PySem PySem.Spec PyProof.Rows
/-! ### a set's table keeps its marks -/
theorem orStandIn_marks (t : SetTable) (n : Nat) : (t.orStandIn n).led = t.led ∧ (t.plain = false → (t.orStandIn n).plain = false) := by
  unfold SetTable.orStandIn SetTable.standIn
  split
  · exact ⟨rfl, fun z => z⟩
  · exact ⟨rfl, fun z => by first | rfl | exact z⟩
theorem layNew_marks (t : SetTable) (es : Array (Int × Value)) (h : Int) (x : Value) : (layNew t es h x).2.1.led = t.led ∧ (t.plain = false → (layNew t es h x).2.1.plain = false) := by
  unfold layNew
  split
  · rename_i slot wd _
    exact orStandIn_marks (t.put slot).1 _
  · exact ⟨rfl, fun z => by first | rfl | exact z⟩
theorem relayAll_marks (t : SetTable) (es : Array (Int × Value)) (n : Nat) : (relayAll t es n).2.1.led = t.led ∧ (t.plain = false → (relayAll t es n).2.1.plain = false) := by
  unfold relayAll
  split
  · rename_i t' order e
    dsimp only
    split
    · unfold SetTable.relaid SetTable.laid at e
      cases q : SetTable.layClean (SetTable.sizeAbove n - 1) (es.map (·.1)) with
      | none => rw [q] at e; cases e
      | some owner =>
        rw [q] at e
        cases e
        exact ⟨rfl, fun z => z⟩
    · exact ⟨rfl, fun z => by first | rfl | exact z⟩
  · exact ⟨rfl, fun z => by first | rfl | exact z⟩
end L2

namespace L2
open PySem PySem.Spec PyProof.Rows
/-! ### a set of texts: its entries, and its table's marks -/
section
variable {prog : Program} {w : World} {A : Around} {E : Value → Shared → Prop} {s : Shared}
/-- the text that a value is -/
def txOf : Value → Str | .str x _ => x | _ => ⟨#[]⟩
def IsTx (w : World) (e : Int × Value) : Prop := ∃ k t, e = (hashStr w k, .str k t)
/-- an object that is a set of the texts ws, each once; led is its maker's mark; where a text is in, its table is not plain -/
structure TxSet (w : World) (led : Bool) (ws : List Str) (o : Obj) : Prop where
  ex : o.ExactSet
  got : ∃ es ep t, o.data = .set es ep t ∧ (∀ e ∈ es.toList, IsTx w e) ∧ (es.toList.map fun e => txOf e.2).Perm ws ∧ t.fits es.size = true ∧ t.led = led ∧ (ws ≠ [] → t.plain = false)
theorem isTx_el {l : List (Int × Value)} (h : ∀ e ∈ l, IsTx w e) : ElemsOf (strKind prog w) l := fun e m => by
  obtain ⟨k, t, rfl⟩ := h e m
  exact ⟨⟨k, by show Value.isStrOf k (.str k t) = true; simp [Value.isStrOf], rfl⟩, rfl⟩
/-- what changes nothing -/
theorem wp_still {α : Type} {m : Sem α} {Q : α → Shared → Prop} (h : wpAny (model prog w) A m (fun _ s' => s' = s) E s) (k : ∀ v, Q v s) : wpAny (model prog w) A m Q E s := wpAny_mono h (fun v s' e => e ▸ k v) fun _ _ z => z
theorem ifB {α : Type} {c : Bool} {m : Sem Bool} {r : Bool → Sem α} {Q : α → Shared → Prop} (hm : wpAny (model prog w) A m (fun b s' => b = false ∧ s' = s) E s) (h : ∀ b, b = false ∨ c = false → wpAny (model prog w) A (r b) Q E s) : wpAny (model prog w) A (if c = true then m >>= r else pure true >>= r) Q E s := by
  cases c with
  | false => exact wpAny_bind (wpAny_pure (h true (.inr rfl)))
  | true => exact wpAny_bind (wpAny_mono hm (fun b s' z => z.2 ▸ h b (.inl z.1)) fun _ _ z => z)
/-- the texts behind an add -/
def addT (k : Str) (ws : List Str) : List Str := if k ∈ ws then ws else ws ++ [k]
/-- laid anew: other entries in its data -/
theorem TxSet.lay {o : Obj} {led : Bool} {ws : List Str} {es es' : Array (Int × Value)} {ep : Nat} {t t' : SetTable} (ex : o.ExactSet) (hd : o.data = .set es ep t) (h1 : ∀ e ∈ es'.toList, IsTx w e) (h2 : (es'.toList.map fun e => txOf e.2).Perm ws) (h3 : t'.fits es'.size = true) (h4 : t'.led = led) (h5 : t'.plain = false) :
    TxSet w led ws (Obj.putSet es' t' o) ∧ ∃ ep', (Obj.putSet es' t' o).data = .set es' ep' t' := by
  rw [putSet_of es' t' hd]
  exact ⟨⟨ex, es', ep + 1, t', rfl, h1, h2, h3, h4, fun _ => h5⟩, ep + 1, rfl⟩
theorem scan_none {es : List (Int × Value)} {k : Str} (h : ∀ e ∈ es, IsTx w e) : (es.findIdx? fun e => (strKind prog w).is k e.2) = none ↔ k ∉ es.map fun e => txOf e.2 := by
  rw [List.findIdx?_eq_none_iff]
  constructor
  · intro q z
    obtain ⟨e, m, rfl⟩ := List.mem_map.mp z
    obtain ⟨u, t, rfl⟩ := h e m
    exact absurd (q _ m) (by show ¬ Value.isStrOf u (.str u t) = false; simp [Value.isStrOf])
  · intro q e m
    obtain ⟨u, t, rfl⟩ := h e m
    show Value.isStrOf k (.str u t) = false
    have : u ≠ k := fun z => q (List.mem_map.mpr ⟨_, m, z⟩)
    simp [Value.isStrOf, this, Ne.symm this]
/-- an add to a set of texts -/
theorem addTx {a : Addr} {o : Obj} {led : Bool} {ws : List Str} {k : Str} {tg : Tok} {Q : Bool → Shared → Prop} (ho : s.heap.get? a = some o) (hS : TxSet w led ws o) (room : ws.length + 1 < scanBound)
    (h : ∀ h' o' b, Heap.SameBut a s.heap h' → h'.get? a = some o' → TxSet w led (addT k ws) o' → Q b { s with heap := h' }) : wpAny (model prog w) A (setAddHashed a (.str k tg) (hashStr w k)) Q E s := by
  obtain ⟨ex, es, ep, t, hd, hT, hP, hf, hl, hp⟩ := hS
  have len : es.size = ws.length := by have := hP.length_eq; simpa using this
  have small : es.size < scanBound := by lia
  have key : (strKind prog w).is k (.str k tg) = true := by show Value.isStrOf k (.str k tg) = true; simp [Value.isStrOf]
  have seen : byScan (.str k tg) es = true := byScan_of (knd := strKind prog w) rfl small (isTx_el hT)
  refine wpAny_holding ?_
  show wpAny _ _ (setState a >>= _) _ _ _
  refine wpAny_bind (wpAny_setState_of (hf := hf) ho hd ?_)
  simp only [seen, if_true]
  refine wpAny_bind (wpAny_bind (wpAny_rule (wpAny_bind (wpAny_setScan_of (knd := strKind prog w) key ho hd hf (isTx_el hT) ?_))))
  by_cases inn : k ∈ ws
  · have : (es.toList.findIdx? fun e => (strKind prog w).is k e.2) ≠ none := fun z => (scan_none (prog := prog) hT).mp z (hP.mem_iff.mpr inn)
    obtain ⟨j, ej⟩ := Option.ne_none_iff_exists'.mp this
    rw [ej]
    refine wpAny_pure (wpAny_pure (?_ : Q false s))
    have := h s.heap o false (Heap.SameBut.refl a _) ho (by rw [addT, if_pos inn]; exact ⟨ex, es, ep, t, hd, hT, hP, hf, hl, hp⟩)
    cases s; exact this
  · rw [(scan_none (prog := prog) hT).mpr fun z => inn (hP.mem_iff.mp z)]
    have pm := layNew_perm t es (hashStr w k) (.str k tg)
    have ft := layNew_fits t es (hashStr w k) (.str k tg)
    have mk := (layNew_marks t es (hashStr w k) (.str k tg)).1
    have eh : (strKind prog w).hash k = hashStr w k := rfl
    generalize layNew t es (hashStr w k) (.str k tg) = X at pm ft mk ⊢
    obtain ⟨e1, t1, wd, gv⟩ := X
    dsimp only at pm ft mk ⊢
    have hT1 : ∀ e ∈ e1.toList, IsTx w e := fun e m => by
      rcases List.mem_append.mp (Array.toList_push ▸ pm.mem_iff.mp m) with m | m
      · exact hT e m
      · exact List.mem_singleton.mp m ▸ ⟨k, tg, rfl⟩
    have hP1 : (e1.toList.map fun e => txOf e.2).Perm (addT k ws) := by
      rw [addT, if_neg inn]
      refine (pm.map _).trans ?_
      rw [Array.toList_push, List.map_append]
      exact hP.append_right _
    have n1 : e1.size = ws.length + 1 := by have := hP1.length_eq; rw [addT, if_neg inn] at this; simpa using this
    refine wpAny_bind (wp_still (by cases gv; exact wpAny_pure rfl; exact wpAny_rule rfl) fun _ => ?_)
    refine ifB ?_ fun b hb => ?_
    · rw [hashByValue_scannable 8 rfl]; exact wpAny_pure ⟨rfl, rfl⟩
    have lk : ∀ e2 t2, (∀ e ∈ e2.toList, IsTx w e) → (e2.toList.map fun e => txOf e.2).Perm (addT k ws) → t2.fits e2.size = true → t2.led = led → t2.plain = false → ∀ (s' : Shared) o', s'.heap.get? a = some o' → o'.ExactSet → (∃ e0 p0 t0, o'.data = .set e0 p0 t0) → ∀ R : Unit → Shared → Prop, (∀ o2, (s'.heap.update a (Obj.putSet e2 t2)).get? a = some o2 → TxSet w led (addT k ws) o2 → R () { s' with heap := s'.heap.update a (Obj.putSet e2 t2) }) → wpAny (model prog w) A (storeSet a e2 t2) R E s' := by
      intro e2 t2 c1 c2 c3 c4 c5 s' o' ho' ex' hd' R hR
      obtain ⟨e0, p0, t0, hd'⟩ := hd'
      have n2 : e2.size = ws.length + 1 := by have := c2.length_eq; rw [addT, if_neg inn] at this; simpa using this
      refine wpAny_storeSet_of ho' hd' (hR _ (Heap.get?_update_self _ ho' ?_) (TxSet.lay ex' hd' c1 c2 c3 c4 c5).1) (fits_of_scanBound (by lia))
      rw [putSet_of _ _ hd']; rfl
    generalize e2 : (if b = true then t1 else { t1 with plain := false }) = t2
    have m2 : t2.fits e1.size = true ∧ t2.led = led ∧ t2.plain = false := by
      subst e2
      cases b with
      | false => exact ⟨SetTable.fits_plain_off ft, mk.trans hl, rfl⟩
      | true => exact ⟨ft, mk.trans hl, hb.resolve_left (by decide)⟩
    refine wpAny_bind (lk e1 t2 hT1 hP1 m2.1 m2.2.1 m2.2.2 s o ho ex ⟨_, _, _, hd⟩ _ fun o2 g2 S2 => ?_)
    have sb := Heap.SameBut.update s.heap a (Obj.putSet e1 t2)
    split
    · have pr := relayAll_perm t2 e1 (SetTable.grown e1.size)
      have fr := relayAll_fits t2 e1 (SetTable.grown e1.size)
      have mr := relayAll_marks t2 e1 (SetTable.grown e1.size)
      generalize relayAll t2 e1 (SetTable.grown e1.size) = Y at pr fr mr ⊢
      obtain ⟨e3, t3, gv3⟩ := Y
      dsimp only at pr fr mr ⊢
      refine wpAny_bind (wp_still (by cases gv3; exact wpAny_pure rfl; exact wpAny_rule rfl) fun _ => wpAny_bind ?_)
      obtain ⟨ex2, e0, p0, t0, hd2, _⟩ := S2
      exact lk e3 t3 (fun e m => hT1 e (pr.mem_iff.mp m)) ((pr.map _).trans hP1) fr (mr.1.trans m2.2.1) (mr.2 m2.2.2) _ o2 g2 ex2 ⟨e0, p0, t0, hd2⟩ _ fun o3 g3 S3 => wpAny_pure (wpAny_pure (h _ o3 true (sb.trans (Heap.SameBut.update _ a _)) g3 S3))
    · exact wpAny_pure (wpAny_pure (h _ o2 true sb g2 S2))
end
/-! ### set(a list of texts) -/
section
variable {prog : Program} {w : World} {A : Around} {n : Nat} {P : Nat → Value → Prop} {St : Nat → Shared → Prop} {I : Addr} {fp wr : List Addr} {G : Array GenState → Array GenState → Prop} {R : Result → Shared → Prop}
/-- the different texts of a list, each where it is first -/
def dstT : List Str → List Str := fun l => l.foldl (fun ws k => addT k ws) []
theorem txs_loop {led : Bool} (W : WalksS prog w A.in1 I fp wr G n P St) {a : Addr} (ha : a ∉ fp) (ky : Nat → Str) (hky : ∀ i v, P i v → ∃ t, v = .str (ky i) t) (few : n + 1 < scanBound) (ws : Nat → List Str) (hw : ∀ i, ws (i + 1) = addT (ky i) (ws i)) (hn : ∀ i, (ws i).length ≤ i) :
    ∀ (d i : Nat) (s : Shared), i + d = n → St i s → (∃ o, s.heap.get? a = some o ∧ TxSet w led (ws i) o) → (∀ s', Moved (a :: wr) G s s' → (∃ o, s'.heap.get? a = some o ∧ TxSet w led (ws n) o) → R (.ok (.ret .none)) s') →
      codeAny (model prog w) A (.builtin "set.update.loop" ⟨[.ref a, .ref I], []⟩) R s := by
  have haw : a ∉ wr := fun h => ha (W.sub _ h)
  have up : ∀ b ∈ wr, b ∈ a :: wr := fun b hb => List.mem_cons_of_mem _ hb
  intro d
  induction d with
  | zero =>
    intro i s e hst ⟨o, ho, hS⟩ k; obtain rfl : i = n := by lia
    refine codeAny_builtin F.entry_set_update_loop ?_; rw [Around.under_plainId F.plain_set_update_loop _]
    refine wpAny_bind (W.done s _ _ hst fun s' hm => ?_); show wpAny _ A.in1 (ret Value.none) _ _ s'
    exact wpAny_pure (k s' (hm.mono up) ⟨o, hm.heap a _ haw ho, hS⟩)
  | succ d ih =>
    intro i s e hst ⟨o, ho, hS⟩ k
    refine codeAny_builtin F.entry_set_update_loop ?_; rw [Around.under_plainId F.plain_set_update_loop _]
    refine wpAny_bind (W.item i s _ _ (by lia) hst fun v s' hP hst' hm => ?_)
    obtain ⟨tg, rfl⟩ := hky i v hP
    have ho' := hm.heap a _ haw ho
    refine wpAny_bind (wpAny_holding ?_); unfold setAdd
    refine wpAny_holding (wpAny_bind (wpAny_pyHash_str ?_))
    refine addTx (s := { s' with toks := s'.toks + 1 }) ho' hS (by have := hn i; lia) fun h' o2 _ hsb g2 S2 => ?_
    have ne : ∀ b, b ≠ a → h'.get? b = s'.heap.get? b := fun b hb => hsb.2 b hb
    refine wpAny_pure ⟨plainId_quiet F.plain_set_update_loop _, ih (i + 1) _ (by lia) (W.frame _ s' _ _ hst' (Nat.le_succ _) fun b hb o e' => ?_) ⟨o2, g2, hw i ▸ S2⟩ fun s'' hm2 hS4 => ?_⟩
    · rw [ne b fun z => ha (z ▸ hb)]; exact e'
    · refine k s'' (Moved.trans W.gtrans ((hm.mono up).then_heap (Nat.le_succ _) fun b o hb e' => ?_) hm2) hS4
      rw [ne b fun z => hb (z ▸ List.mem_cons_self)]; exact e'
end
/-- a new set -/
abbrev nSet (led : Bool) : Obj := { cls := .type "set", dict := none, data := .set #[] 0 (.fresh 0 0 led) }
section
variable {prog : Program} {w : World} {A : Around} {E : Value → Shared → Prop} {s : Shared}
/-- the mark of this world's sets -/
abbrev ledW (w : World) : Bool := !w.params.followText "set-order"
theorem newSet_led {Q : Value → Shared → Prop} (h : Q (.ref s.heap.objs.size) { s with heap := s.heap.push (nSet (ledW w)) }) : wpAny (model prog w) A (newSet (.type "set")) Q E s :=
  wpAny_bind (wpAny_bind (wpAny_askSetting (wpAny_pure (wpAny_bind (wpAny_alloc (wpAny_pure h))))))
theorem set_new_led (x : Value) {Q₁ : Value → Shared → Prop} (h : Q₁ (.ref s.heap.objs.size) { s with heap := s.heap.push (nSet (ledW w)) }) : codeAny (model prog w) A (.call (.builtin "set.__new__") ⟨[.type "set", x], []⟩) (wants Q₁ E) s := by
  have own := sub_set_self
  refine codeAny_of_tree (wpAny_bind (wpAny_of_eq (PySem.F.newCall_set_1 x) (wpAny_pure ⟨plainId_quiet PySem.F.plain_set_new _, codeAny_builtin PySem.F.entry_set_new ?_⟩)))
  rw [Around.under_plainId PySem.F.plain_set_new _]; unfold Builtin.«set.__new__» Builtin.Frozenset.newClass
  generalize hN : newSet = N
  wp_walk
  subst hN
  exact newSet_led (wpAny_pure h)
/-- what is left of the old heap, and the set -/
def TxMade (w : World) (s : Shared) (ws : List Str) (s' : Shared) : Prop := ∃ h' tk, s' = { s with heap := h', toks := tk } ∧ (∃ o, h'.get? s.heap.objs.size = some o ∧ TxSet w (ledW w) ws o) ∧ ∀ b o, b < s.heap.objs.size → s.heap.get? b = some o → h'.get? b = some o
theorem addT_len (k : Str) (ws : List Str) : (addT k ws).length ≤ ws.length + 1 := by unfold addT; split <;> simp
theorem dst_rec (us : List Str) : ∃ ws : Nat → List Str, (∀ i, ws (i + 1) = addT (us.getD i ⟨#[]⟩) (ws i)) ∧ (∀ i, (ws i).length ≤ i) ∧ ws us.length = dstT us ∧ ws 0 = [] := by
  let ws : Nat → List Str := fun i => Nat.rec [] (fun i r => addT (us.getD i ⟨#[]⟩) r) i
  have hw : ∀ i, ws (i + 1) = addT (us.getD i ⟨#[]⟩) (ws i) := fun i => rfl
  refine ⟨ws, hw, fun i => ?_, ?_, rfl⟩
  · induction i with
    | zero => exact Nat.le_refl _
    | succ i ih => rw [hw]; exact Nat.le_trans (addT_len _ _) (Nat.succ_le_succ ih)
  · have : ∀ j, j ≤ us.length → ws j = dstT (us.take j) := fun j => by
      induction j with
      | zero => intro _; rfl
      | succ j ih => intro q; rw [hw, ih (by lia), List.take_add_one, dstT, dstT, List.foldl_append, List.getElem?_eq_getElem (by lia)]; simp [List.getD_eq_getElem?_getD, List.getElem?_eq_getElem (show j < us.length by lia)]
    rw [this _ (Nat.le_refl _), List.take_length]
theorem set_texts {l : Addr} {items : Array Value} {us : List Str} {Q : Value → Shared → Prop} (hh : A.handled = none) (hl : s.heap.IsList l items) (hu : ∀ (i : Nat) (v : Value), items[i]? = some v → ∃ t, v = .str (us.getD i ⟨#[]⟩) t) (hz : items.size = us.length) (few : us.length + 1 < scanBound)
    (h : ∀ s', TxMade w s (dstT us) s' → Q (.ref s.heap.objs.size) s') : wpAny (model prog w) A (call (.type "set") [.ref l]) Q E s := by
  obtain ⟨ws, hw, hn, he, w0⟩ := dst_rec us
  have cs := PySem.F.called_set
  obtain ⟨c, tl, hmro⟩ := cs.mro
  have hmade := cs.made; have hsub := cs.sub; have h1 := cs.notType; have h2 := cs.canCreate; have hct := PySem.F.typeCall_set_1 (.ref l)
  refine wpAny_call (codeAny_of_tree ?_); show wpAny _ _ (callAny (.type "set") _) _ _ _
  refine wpAny_pure ⟨Code.quiet_builtin _ (by decide +kernel), codeAny_builtin PySem.F.entry_type_call ?_⟩
  rw [Around.under_plain (weight_type_call_type "set" [.ref l] []) rfl]; repeat (any_goals (first | assumption | wp_step))
  generalize eL : ledW w = led at *
  refine codeAny_mono (set_new_led (.ref l) (E := E) (Q₁ := fun obj s₁ => obj = .ref s.heap.objs.size ∧ s₁ = { s with heap := s.heap.push (nSet led) }) ⟨rfl, by rw [eL]⟩) fun r s₁ hr => ?_
  match r, hr with
  | .error e, hr => exact hr
  | .ok (.ret obj), hr =>
    obtain ⟨rfl, rfl⟩ := hr
    have hS : (s.heap.push (nSet led)).get? s.heap.objs.size = some (nSet led) := Heap.get?_push_size _ rfl
    have hT : Shared.TypeIs { s with heap := s.heap.push (nSet led) } (.ref s.heap.objs.size) "set" := ⟨_, hS, rfl⟩
    have hli := cs.init.lookup; have hbi := cs.init.bind (.ref s.heap.objs.size); repeat (any_goals (first | assumption | wp_step))
    refine codeAny_mono (codeAny_call_builtin (R := wants (fun r s₂ => r = .none ∧ TxMade w s (dstT us) s₂) E) cs.init.plain PySem.F.entry_set_init (check_set_init_1 hT ?_)) fun r₂ s₂ hr₂ => ?_
    · obtain ⟨⟨ocls, odict, odata, oslots⟩, hol, hcl, nl, hdl⟩ := hl
      simp only at hcl hdl
      subst hcl hdl
      have hol' : (s.heap.push (nSet led)).get? l = some { cls := .type "list", dict := odict, data := .seq items nl, slots := oslots } := Heap.get?_push_of_some _ hol
      have hsls := PySem.F.sub_list_set; have hslf := PySem.F.sub_list_frozenset
      have notD : (Value.type "list" == Value.type "dict") = false := by decide
      have hl1 : (s.heap.push (nSet led)).IsList l items := ⟨_, hol', rfl, nl, rfl⟩
      unfold Builtin.«set.__init__» noKeywords Builtin.Frozenset.updateFrom; generalize hPI : pyIter = PI; wp_walk; subst hPI
      refine wpAny_pyIter_list hl1 (wpAny_bind (wpAny_runValue ?_))
      have sz : (s.heap.push (nSet led)).objs.size = s.heap.objs.size + 1 := Heap.size_push _ _
      have old : l < s.heap.objs.size := Heap.lt_size hol
      refine txs_loop (led := led) ((Walks.list (by simp [hh]) _ l (by rw [sz]; exact Nat.ne_of_lt (Nat.lt_succ_of_lt old)) items).toS) (by rw [sz]; exact fun z => (List.mem_cons.mp z).elim (fun e => absurd e (Nat.ne_of_lt (Nat.lt_succ_self _))) fun z => absurd (List.mem_singleton.mp z) (Nat.ne_of_gt old)) (fun i => us.getD i ⟨#[]⟩) hu (by lia) ws hw hn items.size 0 _ (by lia) ⟨⟨_, Heap.get?_push_size _ rfl, rfl, rfl⟩, hl1.push _⟩ ?_ ?_
      · exact ⟨_, Heap.get?_push_of_some _ hS, ⟨rfl, rfl, rfl⟩, #[], 0, _, rfl, fun e m => (nomatch m), w0 ▸ .refl _, rfl, rfl, fun z => absurd w0 z⟩
      · intro s' hm hS'
        obtain ⟨h', g', d', tk', os'⟩ := s'; obtain rfl : g' = s.gens := hm.gens; obtain rfl : d' = s.drawn := hm.drawn; obtain rfl : os' = s.os := hm.os
        refine wpAny_pure (show wpAny _ _ (ret Value.none) _ _ _ from wpAny_pure ⟨rfl, h', tk', rfl, by rw [hz, he] at hS'; rw [eL]; exact hS', fun b o hb e => ?_⟩)
        exact hm.heap b o (fun z => (List.mem_cons.mp z).elim (fun e => absurd e (Nat.ne_of_lt hb)) fun z => absurd (List.mem_singleton.mp z) (by rw [sz]; exact Nat.ne_of_lt (Nat.lt_succ_of_lt hb))) (Heap.get?_push_of_some _ (Heap.get?_push_of_some _ e))
    · match r₂, hr₂ with
      | .error e, hr₂ => exact hr₂
      | .ok (.ret r), hr₂ =>
        obtain ⟨rfl, hq⟩ := hr₂
        have hq' := h _ hq; repeat (any_goals (first | assumption | wp_step))
end
end L2

namespace L2
open PySem PySem.Spec PyProof.Rows
/-! ### the walk of a set of texts -/
section
variable {prog : Program} {w : World} {A : Around} {E : Value → Shared → Prop} {s : Shared}
theorem entry_setIter : entryFor table "set.__iter__" = some Builtin.«frozenset.__iter__» := entryFor_alias (id' := "frozenset.__iter__") (by rw [fastTable_eq_tree]; kernel_rfl) (by first | rfl | decide +kernel) (by decide +kernel) (by rw [fastTable_eq_tree]; kernel_rfl)
theorem slot_setItNext : Slot "set_iterator" "__next__" "set_iterator.__next__" :=
  .of (n := "__next__") (owner := "set_iterator") (by rw [typeLookup_type, builtinLookup_eq_fast]; kernel_rfl) (by decide +kernel) (by decide +kernel) (by decide +kernel) (by first | exact .inl (by decide +kernel) | exact .inr (by decide +kernel)) (by rw [isSubtype_type]; kernel_rfl)
theorem entry_setItNext : entryFor table "set_iterator.__next__" = some Builtin.«set_iterator.__next__» := entryFor_of_tree (by kernel_rfl)
theorem args_setItNext (x : Value) : argsOk "set_iterator.__next__" ⟨[x], []⟩ := by
  unfold argsOk; rw [signature?_of (rows := Manifest.sig_set_iterator) (id := "set_iterator.__next__") (n := ['_', '_', 't', 'x', 'e', 'n', '_', '_']) (o := "set_iterator".toList.reverse) (by kernel_rfl) (by kernel_rfl)]; kernel_rfl
theorem slot_setItIter : Slot "set_iterator" "__iter__" "set_iterator.__iter__" :=
  .of (n := "__iter__") (owner := "set_iterator") (by rw [typeLookup_type, builtinLookup_eq_fast]; kernel_rfl) (by decide +kernel) (by decide +kernel) (by decide +kernel) (by first | exact .inl (by decide +kernel) | exact .inr (by decide +kernel)) (by rw [isSubtype_type]; kernel_rfl)
theorem entry_setItIter : entryFor table "set_iterator.__iter__" = some Builtin.«dict_keyiterator.__iter__» := entryFor_alias (id' := "dict_keyiterator.__iter__") (by rw [fastTable_eq_tree]; kernel_rfl) (by first | rfl | decide +kernel) (by decide +kernel) (by rw [fastTable_eq_tree]; kernel_rfl)
theorem args_setItIter (x : Value) : argsOk "set_iterator.__iter__" ⟨[x], []⟩ := by
  unfold argsOk; rw [signature?_of (rows := Manifest.sig_set_iterator) (id := "set_iterator.__iter__") (n := ['_', '_', 'r', 'e', 't', 'i', '_', '_']) (o := "set_iterator".toList.reverse) (by kernel_rfl) (by kernel_rfl)]; kernel_rfl
/-- a walk of the set a that has told i of its n things -/
def SIt (h : Heap) (it : Addr) (first : Value) (i : Nat) (a : Addr) (n ep : Nat) : Prop := ∃ o, h.get? it = some o ∧ o.cls = .type "set_iterator" ∧ o.data = .fields #[first, .int i 0, .ref a, .int n 0, .int ep 0]
theorem SIt.typeIs {it a : Addr} {first : Value} {i n ep : Nat} (h : SIt s.heap it first i a n ep) : Shared.TypeIs s (.ref it) "set_iterator" := let ⟨o, h1, h2, _⟩ := h; ⟨o, h1, h2⟩
theorem SIt.set {it a : Addr} {first x : Value} {i j n ep : Nat} {h : Heap} (hi : SIt h it first i a n ep) : SIt (h.update it (Obj.mapFields (·.setIfInBounds 0 x))) it x i a n ep ∧ SIt (h.update it (Obj.mapFields (·.setIfInBounds 1 (rawInt (j : Nat))))) it first j a n ep := by
  obtain ⟨o, h1, h2, h3⟩ := hi
  refine ⟨⟨_, Heap.get?_update_self _ h1 (Obj.isFreed_of_fields (Obj.data_mapFields h3 _)), (Obj.cls_mapFields ..).trans h2, ?_⟩, ⟨_, Heap.get?_update_self _ h1 (Obj.isFreed_of_fields (Obj.data_mapFields h3 _)), (Obj.cls_mapFields ..).trans h2, ?_⟩⟩
  · rw [Obj.data_mapFields h3]; simp
  · rw [Obj.data_mapFields h3]; simp [rawInt]
theorem sit_self {it a : Addr} {first : Value} {i n ep : Nat} {Q : Value → Shared → Prop} (hi : SIt s.heap it first i a n ep) (q : Q (.ref it) s) : wpAny (model prog w) A (pyIter (.ref it)) Q E s := by
  refine wpAny_pyIter_slot hi.typeIs slot_setItIter (wpAny_call_entry slot_setItIter hi.typeIs entry_setItIter ?_ (args_setItIter _))
  exact wpAny_bind (wpAny_pure (wpAny_pure ⟨_, rfl, "set_iterator", _, hi.typeIs, slot_setItNext.lookup, q⟩))
theorem wp_then {α : Type} {m : Sem α} {Q : α → Shared → Prop} {v : α} (h : wpAny (model prog w) A m (fun r s' => r = v ∧ s' = s) (fun _ _ => False) s) (k : Q v s) : wpAny (model prog w) A m Q E s := wpAny_mono h (fun r s' e => by obtain ⟨rfl, rfl⟩ := e; exact k) fun _ _ z => z.elim
/-- the exception that ends a walk -/
theorem stop_throw {α : Type} {Q : α → Shared → Prop} {E : Value → Shared → Prop} {s : Shared} (calm : A.handled = none) (q : ∀ (v : Value) (h' : Heap), Shared.TypeIs { s with heap := h' } v "StopIteration" → (∀ b o, s.heap.get? b = some o → h'.get? b = some o) → E v { s with heap := h' }) : wpAny (model prog w) A (newExc (.type "StopIteration") [] >>= fun e => (raiseNew e : Sem α)) Q E s := by
  refine wpAny_bind ?_
  simp only [newExc, newTuple]; refine wpAny_bind (wpAny_newObj_type ?_ (by size_fits))
  refine wpAny_bind (m := firstArgMember _ _) (wpAny_of_eq (a := Value.none) (by first | (simp only [firstArgMember]; rfl) | rfl) ?_)
  refine wpAny_newObj_type ?_ (by size_fits); simp only [raiseNew]
  refine wpAny_bind (wpAny_handled ?_); rw [calm]
  exact wpAny_bind (wpAny_pure (wpAny_throw (q _ _ (by exact ⟨_, Heap.get?_push_size _ rfl, rfl⟩) fun b o e => Heap.get?_push_of_some _ (Heap.get?_push_of_some _ e))))
/-- the walk's next: by the place of its table, or by text -/
theorem sit_nextI {it a : Addr} {o : Obj} {es : Array (Int × Value)} {ep : Nat} {t : SetTable} {slot i n nx : Nat} {x : Value} {Q : Option Value → Shared → Prop} (hi : SIt s.heap it (.int slot 0) i a n ep) (ho : s.heap.get? a = some o) (hd : o.data = .set es ep t) (hf : t.fits es.size = true) (hn : es.size = n)
    (hN : wpAny (model prog w) A.in1 (setNext a slot i ep) (fun r s' => r = some (x, nx) ∧ s' = s) (fun _ _ => False) s) (q : ∀ h', SIt h' it (.int nx 0) (i + 1) a n ep → Heap.SameBut it s.heap h' → Q (some x) { s with heap := h' }) : wpAny (model prog w) A (pyNext (.ref it)) Q E s := by
  obtain ⟨io, i1, i2, i3⟩ := id hi
  unfold pyNext; refine wpAny_bind (wpAny_attempt (wpAny_callSpecial?_slot (name := Str.ofString "__next__") hi.typeIs slot_setItNext (wpAny_call_entry slot_setItNext hi.typeIs entry_setItNext ?_ (args_setItNext _))))
  refine wpAny_bind (wpAny_pure (wpAny_bind (wpAny_fieldsOf i1 i3 ?_)))
  show wpAny _ _ (setEntries a >>= _) _ _ _
  refine wpAny_bind (wpAny_setEntries_of ho hd hf ?_)
  rw [if_neg (by rw [hn]; simp)]
  refine wpAny_bind (wp_then hN ?_)
  show wpAny _ _ (setField (.ref it) 0 (rawInt nx) >>= _) _ _ _
  refine wpAny_bind (wpAny_setField i1 i3 (by simp) ?_)
  have S1 := (hi.set (x := rawInt nx) (j := 0)).1
  have b1 := Heap.SameBut.update s.heap it (Obj.mapFields (·.setIfInBounds 0 (rawInt nx)))
  generalize s.heap.update it (Obj.mapFields (·.setIfInBounds 0 (rawInt nx))) = h1 at S1 b1 ⊢
  have S2 := (S1.set (x := .none) (j := i + 1)).2
  obtain ⟨o1, j1, j2, j3⟩ := S1
  show wpAny _ _ (setField (.ref it) 1 (rawInt ((i : Int) + 1)) >>= _) _ _ _
  exact wpAny_bind (wpAny_setField j1 j3 (by simp) (wpAny_pure ⟨_, rfl, wpAny_pure (q _ S2 (b1.trans (Heap.SameBut.update ..)))⟩))
theorem sit_endI {it a : Addr} {o : Obj} {es : Array (Int × Value)} {ep : Nat} {t : SetTable} {slot i n : Nat} {Q : Option Value → Shared → Prop} (calm : A.handled = none) (hi : SIt s.heap it (.int slot 0) i a n ep) (ho : s.heap.get? a = some o) (hd : o.data = .set es ep t) (hf : t.fits es.size = true) (hn : es.size = n)
    (hN : wpAny (model prog w) A.in1 (setNext a slot i ep) (fun r s' => r = none ∧ s' = s) (fun _ _ => False) s) (q : ∀ h', Heap.ExtBut it s.heap h' → Q none { s with heap := h' }) : wpAny (model prog w) A (pyNext (.ref it)) Q E s := by
  obtain ⟨io, i1, i2, i3⟩ := id hi
  unfold pyNext; refine wpAny_bind (wpAny_attempt (wpAny_callSpecial?_slot (name := Str.ofString "__next__") hi.typeIs slot_setItNext (wpAny_call_entry slot_setItNext hi.typeIs entry_setItNext ?_ (args_setItNext _))))
  refine wpAny_bind (wpAny_pure (wpAny_bind (wpAny_fieldsOf i1 i3 ?_)))
  show wpAny _ _ (setEntries a >>= _) _ _ _
  refine wpAny_bind (wpAny_setEntries_of ho hd hf ?_)
  rw [if_neg (by rw [hn]; simp)]
  refine wpAny_bind (wp_then hN ?_)
  show wpAny _ _ (setField (.ref it) 2 .none >>= _) _ _ _
  refine wpAny_bind (wpAny_setField i1 i3 (by simp) (stop_throw calm fun v h' ty kp => ?_))
  exact wpAny_bind (wpAny_isInstance (T := "StopIteration") (b := true) ty isSubtype_stop (wpAny_pure (q h' fun b o hb e => kp b o ((Heap.SameBut.update ..).extBut b o hb e))))
/-- the walk's next: by places that were drawn -/
theorem sit_nextD {it a tp : Addr} {o ot : Obj} {es : Array (Int × Value)} {ps : Array Value} {ep np : Nat} {t : SetTable} {i n p : Nat} {hx : Int} {x : Value} {Q : Option Value → Shared → Prop} (hi : SIt s.heap it (.ref tp) i a n ep) (ho : s.heap.get? a = some o) (hd : o.data = .set es ep t) (hf : t.fits es.size = true) (hn : es.size = n)
    (ht : s.heap.get? tp = some ot) (hs : ot.data = .seq ps np) (hp : ps[i]? = some (rawInt (p : Nat))) (he : es[p]? = some (hx, x)) (q : ∀ h', SIt h' it (.ref tp) (i + 1) a n ep → Heap.SameBut it s.heap h' → Q (some x) { s with heap := h' }) : wpAny (model prog w) A (pyNext (.ref it)) Q E s := by
  obtain ⟨io, i1, i2, i3⟩ := id hi
  unfold pyNext; refine wpAny_bind (wpAny_attempt (wpAny_callSpecial?_slot (name := Str.ofString "__next__") hi.typeIs slot_setItNext (wpAny_call_entry slot_setItNext hi.typeIs entry_setItNext ?_ (args_setItNext _))))
  refine wpAny_bind (wpAny_pure (wpAny_bind (wpAny_fieldsOf i1 i3 ?_)))
  show wpAny _ _ (setEntries a >>= _) _ _ _
  refine wpAny_bind (wpAny_setEntries_of ho hd hf ?_)
  rw [if_neg (by rw [hn]; simp)]
  show wpAny _ _ (seqItems? (.ref tp) >>= _) _ _ _
  refine wpAny_bind (wpAny_seqItems ht hs ?_)
  simp only [Int.toNat_natCast, hp, rawInt]
  refine wpAny_bind ?_
  unfold setNextDrawn
  refine wpAny_bind (wpAny_setState_of (hf := hf) ho hd ?_)
  simp only [bne_self_eq_false, Bool.false_eq_true, if_false, he]
  refine wpAny_pure ?_
  have S2 := (hi.set (x := .none) (j := i + 1)).2
  show wpAny _ _ (setField (.ref it) 1 (rawInt ((i : Int) + 1)) >>= _) _ _ _
  exact wpAny_bind (wpAny_setField i1 i3 (by simp) (wpAny_pure ⟨_, rfl, wpAny_pure (q _ S2 (Heap.SameBut.update ..))⟩))
theorem sit_endD {it a tp : Addr} {o ot : Obj} {es : Array (Int × Value)} {ps : Array Value} {ep np : Nat} {t : SetTable} {i n : Nat} {Q : Option Value → Shared → Prop} (calm : A.handled = none) (hi : SIt s.heap it (.ref tp) i a n ep) (ho : s.heap.get? a = some o) (hd : o.data = .set es ep t) (hf : t.fits es.size = true) (hn : es.size = n)
    (ht : s.heap.get? tp = some ot) (hs : ot.data = .seq ps np) (hp : ps[i]? = none) (q : ∀ h', Heap.ExtBut it s.heap h' → Q none { s with heap := h' }) : wpAny (model prog w) A (pyNext (.ref it)) Q E s := by
  obtain ⟨io, i1, i2, i3⟩ := id hi
  unfold pyNext; refine wpAny_bind (wpAny_attempt (wpAny_callSpecial?_slot (name := Str.ofString "__next__") hi.typeIs slot_setItNext (wpAny_call_entry slot_setItNext hi.typeIs entry_setItNext ?_ (args_setItNext _))))
  refine wpAny_bind (wpAny_pure (wpAny_bind (wpAny_fieldsOf i1 i3 ?_)))
  show wpAny _ _ (setEntries a >>= _) _ _ _
  refine wpAny_bind (wpAny_setEntries_of ho hd hf ?_)
  rw [if_neg (by rw [hn]; simp)]
  show wpAny _ _ (seqItems? (.ref tp) >>= _) _ _ _
  refine wpAny_bind (wpAny_seqItems ht hs ?_)
  simp only [Int.toNat_natCast, hp]
  show wpAny _ _ (setField (.ref it) 0 (rawInt 0) >>= _) _ _ _
  refine wpAny_bind (wpAny_setField i1 i3 (by simp) ?_)
  have S1 := (hi.set (x := rawInt 0) (j := 0)).1
  have b1 := Heap.SameBut.update s.heap it (Obj.mapFields (·.setIfInBounds 0 (rawInt 0)))
  generalize s.heap.update it (Obj.mapFields (·.setIfInBounds 0 (rawInt 0))) = h1 at S1 b1 ⊢
  obtain ⟨o1, j1, j2, j3⟩ := S1
  show wpAny _ _ (setField (.ref it) 2 .none >>= _) _ _ _
  refine wpAny_bind (wpAny_setField j1 j3 (by simp) (stop_throw calm fun v h' ty kp => ?_))
  exact wpAny_bind (wpAny_isInstance (T := "StopIteration") (b := true) ty isSubtype_stop (wpAny_pure (q h' fun b o hb e => kp b o ((Heap.SameBut.update ..).extBut b o hb (b1.extBut b o hb e)))))
end
end L2

namespace L2
open PySem PySem.Spec PyProof.Rows
/-! ### the order of a walk: any permutation -/
theorem pick_go {α : Type} (f : Nat → Nat) : ∀ (fuel k : Nat) (left : List α) (out : Array α), left.length ≤ fuel → (pickOrder.go f fuel k left out).toList.Perm (out.toList ++ left)
  | 0, k, left, out, h => by
    obtain rfl : left = [] := List.length_eq_zero_iff.mp (by lia)
    simp [pickOrder.go]
  | fuel + 1, k, [], out, h => by simp [pickOrder.go]
  | fuel + 1, k, x :: xs, out, h => by
    have lt : f k % (x :: xs).length < (x :: xs).length := Nat.mod_lt _ (by simp)
    unfold pickOrder.go
    rw [List.getElem?_eq_getElem lt]
    refine (pick_go f fuel (k + 1) _ _ (by rw [List.length_eraseIdx_of_lt lt]; simp only [List.length_cons] at h ⊢; lia)).trans ?_
    rw [Array.toList_push, List.append_assoc]
    exact (erase_perm lt).append_left _
theorem pick_perm {α : Type} (f : Nat → Nat) (xs : Array α) : (pickOrder f xs).toList.Perm xs.toList := by
  have := pick_go f xs.size 0 xs.toList #[] (by simp)
  simpa [pickOrder] using this
section
variable {prog : Program} {w : World} {A : Around} {E : Value → Shared → Prop} {s : Shared}
theorem byText_wp {Q : Bool → Shared → Prop} (h : Q (w.params.followText "set-order") s) : wpAny (model prog w) A setsByText Q E s := wpAny_bind (wpAny_askSetting (wpAny_pure h))
theorem next_text {a : Addr} {o : Obj} {es : Array (Int × Value)} {ep : Nat} {t : SetTable} {slot i : Nat} {Q : Option (Value × Nat) → Shared → Prop} (hb : w.params.followText "set-order" = true) (ho : s.heap.get? a = some o) (hd : o.data = .set es ep t) (hf : t.fits es.size = true)
    (q : Q (((pickOrder (w.params.setOrder a ep) es)[i]?).map fun e => (e.2, slot)) s) : wpAny (model prog w) A (setNext a slot i ep) Q E s := by
  unfold setNext
  refine wpAny_bind (wpAny_setState_of ho hd hf (wpAny_bind (byText_wp ?_)))
  simp only [hb, if_true, bne_self_eq_false, Bool.false_eq_true, if_false]
  refine wpAny_bind ?_
  unfold setWalk
  refine wpAny_bind (wpAny_setState_of ho hd hf (wpAny_bind (byText_wp ?_)))
  simp only [hb, if_true]
  exact wpAny_bind (wpAny_askSetting (wpAny_pure (wpAny_pure q)))
theorem below_one (p j : Nat) : SetTable.below #[p] j = if p < j then 1 else 0 := by
  by_cases h : p < j <;> simp [SetTable.below, SetTable.below.go, h]
theorem next_one {a : Addr} {o : Obj} {e : Int × Value} {ep : Nat} {t : SetTable} {p slot i : Nat} {Q : Option (Value × Nat) → Shared → Prop} (hb : w.params.followText "set-order" = false) (hl : t.led = true) (hp : t.place = #[p]) (ho : s.heap.get? a = some o) (hd : o.data = .set #[e] ep t) (hf : t.fits 1 = true)
    (q : Q (if p < slot then none else some (e.2, p + 1)) s) : wpAny (model prog w) A (setNext a slot i ep) Q E s := by
  unfold setNext
  refine wpAny_bind (wpAny_setState_of ho hd hf (wpAny_bind (byText_wp ?_)))
  simp only [hb, if_false, Bool.false_eq_true]
  rw [if_neg (by show ¬ (!t.plain && decide ((#[e] : Array (Int × Value)).size > 1)) = true; simp)]
  refine wpAny_bind (wp_still ?_ fun _ => ?_)
  · show wpAny _ _ (if (!t.led && !(#[e] : Array (Int × Value)).isEmpty) = true then _ else _) _ _ _
    rw [hl]; exact wpAny_pure rfl
  · rw [hp, below_one]
    refine wpAny_pure ?_
    by_cases z : p < slot <;> simpa [z] using q
end
section
variable {prog : Program} {w : World} {A : Around} {E : Value → Shared → Prop} {s : Shared}
/-- the thing at place i is the text ys[i] -/
def Tells (ys : List Str) (i : Nat) (v : Value) : Prop := ∃ t, ∃ h : i < ys.length, v = .str ys[i] t
theorem samB {it : Addr} {h h' : Heap} (sb : Heap.SameBut it h h') : ∀ b o, b ∉ [it] → h.get? b = some o → h'.get? b = some o := fun b o hb e => (sb.2 b fun z => hb (z ▸ List.mem_singleton_self _)).trans e
theorem extB {it : Addr} {h h' : Heap} (sb : Heap.ExtBut it h h') : ∀ b o, b ∉ [it] → h.get? b = some o → h'.get? b = some o := fun b o hb e => sb b o (fun z => hb (z ▸ List.mem_singleton_self _)) e
theorem sIt_keep {it a : Addr} {first : Value} {i n ep : Nat} {h h' : Heap} (x : SIt h it first i a n ep) (k : ∀ o, h.get? it = some o → h'.get? it = some o) : SIt h' it first i a n ep := let ⟨o, h1, h2, h3⟩ := x; ⟨o, k o h1, h2, h3⟩
theorem isTx_at {es : Array (Int × Value)} (hT : ∀ e ∈ es.toList, IsTx w e) {p : Nat} (hp : p < es.size) : ∃ t, es[p].2 = .str (txOf es[p].2) t := by
  obtain ⟨k, t, e⟩ := hT es[p] (by rw [← Array.getElem_toList]; exact List.getElem_mem _)
  exact ⟨t, by rw [e]; rfl⟩
/-- a walk by text -/
theorem walk_text {a it : Addr} {o : Obj} {es : Array (Int × Value)} {ep : Nat} {t : SetTable} (calm : A.handled = none) (hne : it ≠ a) (hb : w.params.followText "set-order" = true) (hd : o.data = .set es ep t) (hf : t.fits es.size = true) (hT : ∀ e ∈ es.toList, IsTx w e) :
    ∃ ys : List Str, ys.Perm (es.toList.map fun e => txOf e.2) ∧ Walks prog w A it [it, a] [it] es.size (Tells ys) (fun i h => SIt h it (.int 0 0) i a es.size ep ∧ h.get? a = some o) := by
  have pm := pick_perm (w.params.setOrder a ep) es
  have sz : (pickOrder (w.params.setOrder a ep) es).size = es.size := by simpa using pm.length_eq
  refine ⟨(pickOrder (w.params.setOrder a ep) es).toList.map fun e => txOf e.2, pm.map _, fun b hb => by simp at hb; simp [hb], fun i h h' x k => ⟨sIt_keep x.1 fun o e => k it (by simp) o e, k a (by simp) o x.2⟩, fun i s Q E hi x q => ?_, fun s Q E x q => ?_, fun i s Q E x q => sit_self x.1 q⟩
  · have hi' : i < (pickOrder (w.params.setOrder a ep) es).size := by lia
    obtain ⟨tg, ev⟩ := isTx_at (w := w) (es := pickOrder (w.params.setOrder a ep) es) (fun e m => hT e (pm.mem_iff.mp m)) hi'
    refine sit_nextI (slot := 0) (nx := 0) (x := ((pickOrder (w.params.setOrder a ep) es)[i]).2) x.1 x.2 hd hf rfl (next_text hb x.2 hd hf ⟨by rw [Array.getElem?_eq_getElem hi']; rfl, rfl⟩) fun h' S sb => ?_
    exact q _ h' s.toks ⟨tg, by simpa using hi', by simpa using ev⟩ ⟨S, (sb.2 a hne.symm).trans x.2⟩ (samB sb)
  · exact sit_endI (slot := 0) calm x.1 x.2 hd hf rfl (next_text hb x.2 hd hf ⟨by rw [Array.getElem?_eq_none (by lia)]; rfl, rfl⟩) fun h' sb => q h' s.toks (extB sb)
/-- a walk by places that were drawn -/
theorem walk_drawn {a it tp : Addr} {o ot : Obj} {es : Array (Int × Value)} {ep np : Nat} {t : SetTable} {ps : List Nat} (calm : A.handled = none) (hne : it ≠ a) (hnt : it ≠ tp) (hd : o.data = .set es ep t) (hf : t.fits es.size = true) (hT : ∀ e ∈ es.toList, IsTx w e) (ht : ot.data = .seq (ps.map fun i : Nat => rawInt i).toArray np) (pp : ps.Perm (List.range es.size)) :
    ∃ ys : List Str, ys.Perm (es.toList.map fun e => txOf e.2) ∧ Walks prog w A it [it, a, tp] [it] es.size (Tells ys) (fun i h => SIt h it (.ref tp) i a es.size ep ∧ h.get? a = some o ∧ h.get? tp = some ot) := by
  have sz : ps.length = es.size := by simpa using pp.length_eq
  have inb : ∀ p ∈ ps, p < es.size := fun p m => List.mem_range.mp (pp.mem_iff.mp m)
  refine ⟨ps.map fun p => txOf (es.getD p (0, .none)).2, ?_, fun b hb => by simp at hb; simp [hb], fun i h h' x k => ⟨sIt_keep x.1 fun o e => k it (by simp) o e, k a (by simp) o x.2.1, k tp (by simp) ot x.2.2⟩, fun i s Q E hi x q => ?_, fun s Q E x q => ?_, fun i s Q E x q => sit_self x.1 q⟩
  · refine (pp.map _).trans (List.Perm.of_eq (List.ext_getElem (by simp) fun i h1 h2 => ?_))
    have : i < es.size := by simpa using h1
    simp [Array.getD, this]
  · have hi' : i < ps.length := by lia
    have hp := inb ps[i] (List.getElem_mem _)
    obtain ⟨tg, ev⟩ := isTx_at hT hp
    refine sit_nextD (p := ps[i]) (hx := es[ps[i]].1) (x := es[ps[i]].2) x.1 x.2.1 hd hf rfl x.2.2 ht (by simp [hi']) (by rw [Array.getElem?_eq_getElem hp]) fun h' S sb => ?_
    refine q _ h' s.toks ⟨tg, by simpa using hi', ?_⟩ ⟨S, (sb.2 a hne.symm).trans x.2.1, (sb.2 tp hnt.symm).trans x.2.2⟩ (samB sb)
    rw [List.getElem_map, Array.getD, dif_pos hp]
    exact ev
  · exact sit_endD calm x.1 x.2.1 hd hf rfl x.2.2 ht (by simp; lia) fun h' sb => q h' s.toks (extB sb)
/-- a walk of one thing, by its place -/
theorem walk_one {a it : Addr} {o : Obj} {e : Int × Value} {ep p : Nat} {t : SetTable} (calm : A.handled = none) (hne : it ≠ a) (hb : w.params.followText "set-order" = false) (hl : t.led = true) (hp : t.place = #[p]) (hd : o.data = .set #[e] ep t) (hf : t.fits 1 = true) (hT : IsTx w e) :
    Walks prog w A it [it, a] [it] 1 (Tells [txOf e.2]) (fun i h => SIt h it (.int (if i = 0 then 0 else p + 1 : Nat) 0) i a 1 ep ∧ h.get? a = some o) := by
  refine ⟨fun b hb => by simp at hb; simp [hb], fun i h h' x k => ⟨sIt_keep x.1 fun o e => k it (by simp) o e, k a (by simp) o x.2⟩, fun i s Q E hi x q => ?_, fun s Q E x q => ?_, fun i s Q E x q => sit_self x.1 q⟩
  · obtain rfl : i = 0 := by lia
    obtain ⟨k, tg, rfl⟩ := hT
    refine sit_nextI (slot := 0) (nx := p + 1) (x := .str k tg) x.1 x.2 hd hf rfl (next_one hb hl hp x.2 hd hf ⟨by simp, rfl⟩) fun h' S sb => ?_
    exact q _ h' s.toks ⟨tg, by simp, rfl⟩ ⟨S, (sb.2 a hne.symm).trans x.2⟩ (samB sb)
  · exact sit_endI (slot := p + 1) calm x.1 x.2 hd hf rfl (next_one hb hl hp x.2 hd hf ⟨by simp, rfl⟩) fun h' sb => q h' s.toks (extB sb)
end
end L2

namespace L2
open PySem PySem.Spec PyProof.Rows
/-! ### the things of a set of texts, collected in any order -/
section
variable {prog : Program} {w : World} {A : Around} {E : Value → Shared → Prop} {s : Shared}
theorem set_iter {A' : Around} {a : Addr} {o : Obj} {ws : List Str} {Q : Value → Shared → Prop} (calm : A'.handled = none) (ho : s.heap.get? a = some o) (hS : TxSet w (ledW w) ws o) (hw : ws ≠ []) (few : ws.length ≤ sizeLine)
    (q : ∀ (h' : Heap) (dr : Drawn) (it : Addr) (ys : List Str) (fp : List Addr) (St : Nat → Heap → Prop), (∀ b u, s.heap.get? b = some u → h'.get? b = some u) → s.heap.objs.size ≤ it → (∀ b ∈ fp, b = a ∨ s.heap.objs.size ≤ b) → ys.Perm ws → Walks prog w A' it fp [it] ws.length (Tells ys) St → St 0 h' → Q (.ref it) { s with heap := h', drawn := dr }) : wpAny (model prog w) A (pyIter (.ref a)) Q E s := by
  obtain ⟨ex, es, ep, t, hd, hT, hP, hf, hl, hp⟩ := hS
  have hTy : Shared.TypeIs s (.ref a) "set" := ⟨o, ho, ex.1⟩
  have len : es.size = ws.length := by simpa using hP.length_eq
  have old := Heap.lt_size ho
  rw [← len] at q
  refine wpAny_pyIter_slot hTy PySem.F.slot_set_iter (wpAny_call_entry PySem.F.slot_set_iter hTy entry_setIter ?_ (PySem.F.args_set_iter_1 _))
  unfold Builtin.«frozenset.__iter__»
  refine wpAny_bind (wpAny_bind (wpAny_pure (wpAny_pure (wpAny_bind (wpAny_bind (wpAny_setEntries_of ho hd hf (wpAny_pure (wpAny_bind ?_))))))))
  unfold setDrawn
  refine wpAny_bind (wpAny_setState_of ho hd hf (wpAny_bind (byText_wp (wpAny_pure ?_))))
  show wpAny _ _ (if (!w.params.followText "set-order" && (!t.plain && decide (es.size > 1))) = true then _ else _) _ _ _
  rw [hp hw]
  -- the last step: the walk's own object
  have last : ∀ (h : Heap) (dr : Drawn) (first : Value), (∀ b u, s.heap.get? b = some u → h.get? b = some u) → (∀ h', (∀ b u, h.get? b = some u → h'.get? b = some u) → SIt h' h.objs.size first 0 a es.size ep → h'.get? a = some o → Q (.ref h.objs.size) { s with heap := h', drawn := dr }) →
      wpAny (model prog w) A.in1 (setEpoch a >>= fun e => newFields "set_iterator" [first, rawInt 0, .ref a, rawInt es.size, rawInt e] >>= fun v => ret v) (fun fin s' => ∃ v, fin = Fin.done (Flow.ret v) ∧ ∃ T' r, s'.TypeIs v T' ∧ typeLookup (Value.type T') (Str.ofString "__next__") = pure (some r) ∧ Q v s') E { s with heap := h, drawn := dr } := fun h dr first k z =>
    wpAny_bind (wpAny_setEpoch_of (s := { s with heap := h, drawn := dr }) (k a o ho) hd hf (wpAny_bind (wpAny_newObj_type (wpAny_pure ⟨_, rfl, "set_iterator", _, ⟨_, Heap.get?_push_size _ rfl, rfl⟩, slot_setItNext.lookup, z _ (fun b u e => Heap.get?_push_of_some _ e) ⟨_, Heap.get?_push_size _ rfl, rfl, rfl⟩ (Heap.get?_push_of_some _ (k a o ho))⟩))))
  have s0 : s = { s with heap := s.heap, drawn := s.drawn } := by cases s; rfl
  by_cases hb : w.params.followText "set-order" = true
  · rw [hb]
    simp only [Bool.not_true, Bool.false_and, Bool.false_eq_true, if_false]
    refine wpAny_bind (wpAny_pure ?_); have := last s.heap s.drawn (rawInt 0) (fun _ _ e => e) fun h' k S ha => by
      obtain ⟨ys, py, W⟩ := walk_text (prog := prog) (A := A') (it := s.heap.objs.size) calm (Nat.ne_of_gt old) hb hd hf hT
      exact q h' s.drawn _ ys _ _ k (Nat.le_refl _) (fun b m => by simp at m; rcases m with rfl | rfl; exact .inr (Nat.le_refl _); exact .inl rfl) (py.trans hP) W ⟨S, ha⟩
    rw [s0]; exact this
  · have hb : w.params.followText "set-order" = false := by simpa using hb
    rw [hb]
    by_cases two : es.size > 1
    · rw [decide_eq_true two]
      simp only [Bool.not_false, Bool.true_and, if_true]
      refine wpAny_bind (draw_any _ _ s _ (by simp) fun ps dr pp => wpAny_bind (wpAny_newTuple ?_ (by have := pp.length_eq; simp at this ⊢; lia)))
      refine last _ dr (.ref s.heap.objs.size) (fun b u e => Heap.get?_push_of_some _ e) fun h' k S ha => ?_
      have sz : (s.heap.push { cls := .type "tuple", data := .seq (ps.map fun i : Nat => rawInt i).toArray }).objs.size = s.heap.objs.size + 1 := Heap.size_push _ _
      have tt := k s.heap.objs.size _ (Heap.get?_push_size _ rfl)
      rw [sz] at S ⊢
      obtain ⟨ys, py, W⟩ := walk_drawn (prog := prog) (A := A') (it := s.heap.objs.size + 1) (tp := s.heap.objs.size) (ot := { cls := .type "tuple", data := .seq (ps.map fun i : Nat => rawInt i).toArray }) calm (Nat.ne_of_gt (Nat.lt_succ_of_lt old)) (Nat.succ_ne_self _) hd hf hT rfl pp
      exact q h' dr _ ys _ _ (fun b u e => k b u (Heap.get?_push_of_some _ e)) (Nat.le_succ _) (fun b m => by simp at m; rcases m with rfl | rfl | rfl; exact .inr (Nat.le_succ _); exact .inl rfl; exact .inr (Nat.le_refl _)) (py.trans hP) W ⟨S, ha, tt⟩
    · rw [decide_eq_false two]
      simp only [Bool.not_false, Bool.and_false, Bool.false_eq_true, if_false]
      refine wpAny_bind (wpAny_pure ?_); have one : es.size = 1 := by
        have : ws.length ≠ 0 := fun z => hw (List.length_eq_zero_iff.mp z)
        lia
      obtain ⟨e, rfl⟩ : ∃ e, es = #[e] := Array.size_eq_one_iff.mp one
      obtain ⟨p, ep'⟩ : ∃ p, t.place = #[p] := Array.size_eq_one_iff.mp (by unfold SetTable.fits at hf; simp at hf; exact hf.1)
      have W := walk_one (prog := prog) (A := A') (it := s.heap.objs.size) calm (Nat.ne_of_gt old) hb (by rw [hl, ledW, hb]; rfl) ep' hd hf (hT e (by simp))
      have := last s.heap s.drawn (rawInt 0) (fun _ _ e => e) fun h' k S ha => by
        exact q h' s.drawn _ _ _ _ k (Nat.le_refl _) (fun b m => by simp at m; rcases m with rfl | rfl; exact .inr (Nat.le_refl _); exact .inl rfl) hP W ⟨S, ha⟩
      rw [s0]; exact this
theorem set_hint {r : Addr} {Q : Bool → Shared → Prop} (hT : s.TypeIs (.ref r) "set") (h : Q false s) : wpAny (model prog w) A (Builtin.List.listLengthHint (.ref r)) Q E s := by
  have sp : splitId "set.__len__" = some ("set", "__len__") := by decide +kernel
  unfold Builtin.List.listLengthHint; refine wpAny_bind (wpAny_specialOf hT PySem.F.slot_set_len.lookup ?_)
  generalize hid : ("set.__len__" : String) = id0 at sp
  wp_delta
  rw [sp]
  subst hid
  refine wpAny_bind (wpAny_isInstance (T := "set") (b := true) hT sub_set_self ?_)
  refine wpAny_ite_split (fun z => absurd z (by decide)) fun _ => wpAny_ite_split (fun _ => wpAny_bind (wpAny_typeOf hT (wpAny_pure h))) fun z => absurd (by decide +kernel) z
/-- the things of a set, into a list -/
theorem set_extend {R : Result → Shared → Prop} {a l : Addr} {o : Obj} {ws : List Str} {c : Nat} (res : Value) (calm : A.handled = none) (ho : s.heap.get? a = some o) (hS : TxSet w (ledW w) ws o) (hw : ws ≠ []) (few : ws.length ≤ sizeLine) (hla : l ≠ a) (hl : s.heap.get? l = some { cls := .type "list", data := .seq #[] c })
    (q : ∀ (h' : Heap) (dr : Drawn) (tk : Nat) (ys : List Str) (acc : Array Value) (c' : Nat), (∀ b u, b ≠ l → s.heap.get? b = some u → h'.get? b = some u) → h'.get? l = some { cls := .type "list", data := .seq acc c' } → ys.Perm ws → ItemsOf (Tells ys) acc ws.length → R (.ok (.ret res)) { s with heap := h', drawn := dr, toks := tk }) :
    wpAny (model prog w) A.in1 (Builtin.List.listExtendWith (.ref l) (.ref a) res) (fun fin s' => match fin with | .done f => R (.ok f) s' | .again c' => c'.quiet = true ∧ codeAny (model prog w) A c' R s') (fun e s' => R (.error e) s') s := by
  have hT : s.TypeIs (.ref a) "set" := ⟨o, ho, hS.ex.1⟩
  unfold Builtin.List.listExtendWith; refine wpAny_bind (wpAny_typeOf hT ?_)
  rw [if_neg (by simp [Builtin.List.listSameRef, hla])]
  refine wpAny_bind (set_iter (A' := A.in1) calm ho hS hw few fun h1 dr it ys fp St k1 hit hfp py W st => ?_)
  have lf : l ∉ fp := fun m => (hfp l m).elim hla fun z => absurd (Heap.lt_size hl) (Nat.not_lt.mpr z)
  refine wpAny_bind (wpAny_holding (set_hint ⟨o, k1 a o ho, hS.ex.1⟩ ?_))
  have g1 := k1 l _ hl
  have go : ∀ (h2 : Heap) (c2 : Nat), (∀ b u, b ≠ l → h1.get? b = some u → h2.get? b = some u) → h2.get? l = some { cls := .type "list", data := .seq #[] c2 } → codeAny (model prog w) A (.builtin "list.extend.loop" ⟨[.ref l, .ref it, res], []⟩) R { s with heap := h2, drawn := dr } := fun h2 c2 k2 g2 => by
    refine codeAny_extend_loopS W.toS few l lf res ws.length 0 { s with heap := h2, drawn := dr } #[] c2 rfl (Nat.zero_le _) (W.frame 0 h1 h2 st fun b m u e => k2 b u (fun z => lf (z ▸ m)) e) g2 (ItemsOf.nil _) fun s' acc c' hm hS' hacc => ?_
    rw [Moved.eq_with hm]
    refine q s'.heap dr s'.toks ys acc c' (fun b u hb e => hm.heap b u (fun m => ?_) (k2 b u hb (k1 b u e))) hS' py hacc
    rcases List.mem_cons.mp m with z | m
    · exact hb z
    · exact absurd (Heap.lt_size e) (by rw [List.mem_singleton.mp m]; exact Nat.not_lt.mpr hit)
  refine wpAny_ite_split (fun _ => wpAny_bind (wpAny_rule (wpAny_bind ?_))) fun _ => wpAny_pure ⟨plainId_quiet PySem.F.plain_extend_loop _, go h1 c (fun _ _ _ e => e) g1⟩
  refine wpAny_bind (m := updateSeq l (·.push .none)) (f := fun _ => updateSeq l (·.pop)) (wpAny_updateSeq g1 rfl ?_)
  have g2 := Heap.get?_update_self (Obj.mapSeq (·.push Value.none)) g1 rfl
  refine wpAny_updateSeq (hz := by seq_fits) g2 rfl (wpAny_pure ⟨plainId_quiet PySem.F.plain_extend_loop _, go _ _ (fun b u hb e => ?_) (Heap.get?_update_self (Obj.mapSeq (·.pop)) g2 rfl)⟩)
  rw [Heap.get?_update_other _ _ (Ne.symm hb), Heap.get?_update_other _ _ (Ne.symm hb)]
  exact e
end
end L2

namespace L2
open PySem PySem.Spec PyProof.Rows
/-! ### sorted(set(a list of signs)) -/
section
variable {prog : Program} {w : World} {A : Around} {E : Value → Shared → Prop} {s : Shared}
theorem set_collect {a : Addr} {o : Obj} {ws : List Str} {R : List Value → Shared → Prop} (calm : A.handled = none) (ho : s.heap.get? a = some o) (hS : TxSet w (ledW w) ws o) (hw : ws ≠ []) (few : ws.length ≤ sizeLine)
    (q : ∀ (h' : Heap) (dr : Drawn) (tk : Nat) (ys : List Str) (acc : Array Value), (∀ b u, s.heap.get? b = some u → h'.get? b = some u) → ys.Perm ws → ItemsOf (Tells ys) acc ws.length → R acc.toList { s with heap := h', drawn := dr, toks := tk }) : wpAny (model prog w) A (collect (.ref a)) R E s := by
  have old := Heap.lt_size ho
  refine wpAny_bind (wpAny_runValue (codeAny_builtin entry_proto_collect' (?_ : wpAny _ (A.under _) _ _ _ s))); rw [Around.under_plainId PySem.F.plain_proto_collect _]
  refine wpAny_bind (m := newList []) (f := fun l => again (.builtin "list.__iadd__" ⟨[l, .ref a], []⟩)) (wpAny_newObj_type (wpAny_pure ⟨plainId_quiet PySem.F.plain_list_iadd _, codeAny_builtin entry_list_iadd' ?_⟩))
  rw [Around.under_plainId PySem.F.plain_list_iadd _]; have hl : (s.heap.push { cls := .type "list", data := .seq ([] : List Value).toArray }).get? s.heap.objs.size = some { cls := .type "list", data := .seq #[] } := Heap.get?_push_size _ rfl
  show wpAny _ A.in1 (Builtin.List.listExtendWith (.ref s.heap.objs.size) (.ref a) (.ref s.heap.objs.size)) _ _ _
  have go := set_extend (prog := prog) (A := A) (R := fun (r : Result) (s' : Shared) => ∃ (h' : Heap) (dr : Drawn) (tk : Nat) (ys : List Str) (acc : Array Value) (c' : Nat), r = .ok (.ret (.ref s.heap.objs.size)) ∧ s' = { s with heap := h', drawn := dr, toks := tk } ∧ (∀ b u, s.heap.get? b = some u → h'.get? b = some u) ∧ h'.get? s.heap.objs.size = some { cls := .type "list", data := .seq acc c' } ∧ ys.Perm ws ∧ ItemsOf (Tells ys) acc ws.length)
    (s := { s with heap := s.heap.push { cls := .type "list", data := .seq ([] : List Value).toArray } }) (.ref s.heap.objs.size) calm (Heap.get?_push_of_some _ ho) hS hw few (Nat.ne_of_gt old) hl
    fun h' dr tk ys acc c' k g py it => ⟨h', dr, tk, ys, acc, c', rfl, rfl, fun b u e => k b u (Nat.ne_of_lt (Heap.lt_size e)) (Heap.get?_push_of_some _ e), g, py, it⟩
  have out : ∀ {r : Result} {s' : Shared}, (∃ (h' : Heap) (dr : Drawn) (tk : Nat) (ys : List Str) (acc : Array Value) (c' : Nat), r = .ok (.ret (.ref s.heap.objs.size)) ∧ s' = { s with heap := h', drawn := dr, toks := tk } ∧ (∀ b u, s.heap.get? b = some u → h'.get? b = some u) ∧ h'.get? s.heap.objs.size = some { cls := .type "list", data := .seq acc c' } ∧ ys.Perm ws ∧ ItemsOf (Tells ys) acc ws.length) → r = .ok (.ret (.ref s.heap.objs.size)) ∧ wpAny (model prog w) A (match (Value.ref s.heap.objs.size) with | .ref a => (load a >>= fun o => match o.data with | .seq xs _ => pure xs.toList | _ => unsupported "internal:collect") | _ => unsupported "internal:collect") R E s' := by
    rintro r s' ⟨h', dr, tk, ys, acc, c', rfl, rfl, k, g, py, it⟩
    exact ⟨rfl, wpAny_bind (wpAny_load g (wpAny_pure (q h' dr tk ys acc k py it)))⟩
  refine wpAny_mono go (fun fin s' x => ?_) fun e s' x => ?_
  · cases fin with
    | done f =>
      obtain ⟨e, y⟩ := out x
      cases e
      exact y
    | again c₁ =>
      refine ⟨x.1, codeAny_mono x.2 fun r s₂ y => ?_⟩
      obtain ⟨e, z⟩ := out y
      subst e
      exact z
  · have := (out x).1
    cases this
end
/-- each of them is a text -/
def AllTx (vs : List Value) : Prop := ∀ v ∈ vs, ∃ x t, v = .str x t
theorem mapM_all {α β : Type} {f : α → Sem β} {g : α → β} : ∀ {l : List α}, (∀ x ∈ l, f x = pure (g x)) → l.mapM f = pure (l.map g)
  | [], _ => by simp
  | x :: l, h => by rw [List.mapM_cons, h x (by simp), mapM_all (l := l) fun y m => h y (by simp [m])]; simp
theorem kind_texts {v : Value} {vs : List Value} (h : AllTx (v :: vs)) : keyKind' (v :: vs).toArray = pure oneType' := by
  have e1 : (v :: vs).mapM firstOfTuple' = pure ((v :: vs).map fun _ => none) := mapM_all fun x m => by obtain ⟨y, t, rfl⟩ := h x m; rfl
  have e2 : (v :: vs).mapM typeOf = pure ((v :: vs).map fun _ => Value.type "str") := mapM_all fun x m => by obtain ⟨y, t, rfl⟩ := h x m; rfl
  have a : ((v :: vs).map fun _ => Value.type "str").toArray.all (fun x => x == Value.type "str") = true := by simp
  have n : (((v :: vs).map fun _ => (none : Option Value)).toArray.all fun x => x.isSome) = false := by simp
  have z : ((v :: vs).map fun _ => Value.type "str").toArray[0]? = some (Value.type "str") := by simp
  rw [keyKind'_eq, oneTypeOnly'_eq, List.mapM_toArray, List.mapM_toArray, e1, e2]
  simp only [map_pure, pure_bind, n, z, a, Bool.false_eq_true, if_false, if_true, Option.isSome_some]
  simp
/-- the order of signs: by their codes -/
def keyS (k : Keyed) : Int := match k.1 with | .str x _ => ((x.cps.toList.headD 0 : Nat) : Int) | _ => 0
section
variable {prog : Program} {w : World} {A : Around} {E : Value → Shared → Prop} {s : Shared}
theorem oneLt_sg {c d : Nat} {t u : Tok} {Q : Bool → Shared → Prop} (h : Q (decide ((c : Int) < (d : Int))) s) : wpAny (model prog w) A (oneLt' true (.str (sgS c) t) (.str (sgS d) u)) Q E s := by
  have e : decide ((sgS c).cps.toList < (sgS d).cps.toList) = decide ((c : Int) < (d : Int)) := decide_eq_decide.mpr (by show [c] < [d] ↔ _; rw [List.cons_lt_cons_iff]; simp)
  rw [oneLt'_eq, if_pos rfl]
  refine wpAny_bind (wpAny_cRoomFor_byValue rfl (wpAny_bind (wpAny_callSpecialIfBound?_slot (typeIs_str s _ t) PySem.F.slot_str_lt (wpAny_call_entry PySem.F.slot_str_lt (typeIs_str s _ t) PySem.F.entry_str_lt ?_ (PySem.F.args_str_lt_2 _ _)))))
  show wpAny _ _ (ret (.bool (decide ((sgS c).cps.toList < (sgS d).cps.toList)))) _ _ s
  rw [e]
  exact wpAny_pure ⟨_, rfl, wpAny_truthy_bool h⟩
theorem cmpS {a₀ : Array Keyed} (h0 : ∀ x ∈ a₀, ∃ c t, x.1 = .str (sgS c) t) : Cmp ordI keyS prog w A E s a₀ oneType' := by
  intro x y hx hy st Q hk q
  obtain ⟨a, t, ex⟩ := h0 x hx
  obtain ⟨b, u, ey⟩ := h0 y hy
  obtain ⟨x1, x2⟩ := x
  obtain ⟨y1, y2⟩ := y
  dsimp only at ex ey
  subst ex ey
  rw [lt'_eq]
  refine wpS_bind (wpS_get ?_)
  rw [hk, keyLt'_oneType]
  exact wpS_bind (wpS_lift (wpAny_attempt (oneLt_sg ⟨rfl, wpS_pure q⟩)))
/-- these values are signs -/
def AllSg (vs : List Value) : Prop := ∀ v ∈ vs, ∃ c t, v = .str (sgS c) t
theorem sg_sort {a : Addr} {vs : List Value} {n : Nat} {P : Fin → Shared → Prop} (ho : s.heap.get? a = some (seqObj "list" vs.toArray n)) (hI : AllSg vs) (hle : vs.length ≤ 1000)
    (h : ∀ ws : List Value, ws.Perm vs → P (.done (.ret .none)) { s with heap := sortedHeap s.heap a vs ws.toArray }) : wpAny (model prog w) A (Builtin.«list.sort» ⟨[.ref a], []⟩) P E s := by
  have big : vs.length ≤ sizeLine := Nat.le_trans hle (by decide)
  generalize hh : s.heap.update a (Obj.mapSeq fun _ => #[]) = h0
  have g0 : ∃ e0, h0.get? a = some (seqObj "list" #[] e0) := ⟨_, hh ▸ get?_update_seq ho (fun _ => #[])⟩
  obtain ⟨e0, g0⟩ := g0
  have g2 : ((h0.push (seqObj "tuple" vs.toArray 0)).push (seqObj "list" #[] 0)).get? a = some (seqObj "list" #[] e0) := Heap.get?_push_of_some _ (Heap.get?_push_of_some _ g0)
  rw [list_sort_plain]
  refine wpAny_bind (listItems_at ho rfl (wpAny_bind (listUpdate_at ho rfl ?_)))
  simp only [hh]
  refine wpAny_bind (seqEpoch_at g0 rfl (wpAny_bind (wpAny_newTuple (wpAny_bind (wpAny_newList (wpAny_holding (?_ : wpAny (model prog w) A _ P E { s with heap := (h0.push (seqObj "tuple" vs.toArray 0)).push (seqObj "list" #[] 0) })))))))
  -- what is laid back at the end
  have lay : ∀ ws : List Value, P (.done (.ret .none)) { s with heap := sortedHeap s.heap a vs ws.toArray } → P (.done (.ret .none)) { s with heap := ((h0.push (seqObj "tuple" vs.toArray 0)).push (seqObj "list" #[] 0)).update a (Obj.mapSeq fun _ => ws.toArray) } := fun ws x => by
    rw [← hh]; exact x
  -- a state whose pairs are those that were laid
  have fin : ∀ z : SortSt, (arrOf z).Perm (pairsOf vs) → ((arrOf z).map (·.2)).size ≤ sizeLine ∧ P (.done (.ret .none)) { s with heap := ((h0.push (seqObj "tuple" vs.toArray 0)).push (seqObj "list" #[] 0)).update a (Obj.mapSeq fun _ => (arrOf z).map (·.2)) } := fun z pm => by
    have p2 := (Array.perm_iff_toList_perm.mp pm).map (·.2)
    rw [← Array.toList_map, ← Array.toList_map, out_pairs] at p2
    exact ⟨by rw [← Array.length_toList, p2.length_eq]; exact big, lay _ (h _ p2)⟩
  by_cases few : vs.toArray.size < 2
  · simp only [if_pos few]
    obtain ⟨f1, f2⟩ := fin (SortSt.mk' general' (vs.toArray.zip vs.toArray) #[] 7 none) (Array.Perm.refl _)
    refine wpAny_bind (wpAny_pure (wpAny_bind (wpAny_pure (wpAny_bind (seqEpoch_at g2 rfl (wpAny_bind (listUpdate_at g2 rfl ?_ (hsz2 := Nat.le_succ_of_le f1))))))))
    exact wpAny_ite_split (fun z => absurd z (by simp)) fun _ => wpAny_pure f2
  · simp only [if_neg few]
    obtain ⟨v, rest, rfl⟩ : ∃ v rest, vs = v :: rest := by
      cases vs with
      | nil => exact absurd (by decide) few
      | cons v rest => exact ⟨v, rest, rfl⟩
    have sgk : ∀ x ∈ pairsOf (v :: rest), ∃ c t, x.1 = .str (sgS c) t := fun x m => by
      have m' := Array.mem_toList_iff.mpr m
      rw [pairsOf_toList] at m'
      exact hI x.1 (List.of_mem_zip m').1
    rw [kind_texts fun x m => by obtain ⟨c, t, e⟩ := hI x m; exact ⟨_, t, e⟩]
    refine wpAny_bind (wpAny_pure (wpAny_bind (wpAny_mono (t_runs (cmpS sgk) (kd := oneType') (st := SortSt.mk' oneType' ((v :: rest).toArray.zip (v :: rest).toArray) #[] 7 none) (Q := fun _ z => (arrOf z).Perm (pairsOf (v :: rest)) ∧ failedOf z = none) ⟨Array.Perm.refl _, rfl, rfl⟩ rfl (by rw [pairsOf_size]; simp) fun z B R => ⟨B.perm, B.failed⟩) ?_ fun _ _ e => e)))
    rintro ⟨⟨⟩, z⟩ s' ⟨rfl, pm, hf⟩
    obtain ⟨f1, f2⟩ := fin z pm
    refine wpAny_bind (seqEpoch_at g2 rfl (wpAny_bind (listUpdate_at g2 rfl ?_ (hsz2 := Nat.le_succ_of_le f1))))
    rw [hf]
    exact wpAny_ite_split (fun z => absurd z (by simp)) fun _ => wpAny_pure f2
end
end L2

namespace L2
open PySem PySem.Spec PyProof.Rows
/-! ### the rules: set(a list of signs), sorted of such a set -/
/-- the different signs of a list -/
def addN (c : Nat) (ls : List Nat) : List Nat := if c ∈ ls then ls else ls ++ [c]
def dstN (u : List Nat) : List Nat := u.foldl (fun ls c => addN c ls) []
theorem sgS_eq {c d : Nat} (h : sgS c = sgS d) : c = d := by
  have := congrArg (fun z : Str => z.cps) h
  simpa using this
theorem addN_map (c : Nat) (ls : List Nat) : (addN c ls).map sgS = addT (sgS c) (ls.map sgS) := by
  unfold addN addT
  by_cases h : c ∈ ls
  · rw [if_pos h, if_pos (List.mem_map.mpr ⟨c, h, rfl⟩)]
  · rw [if_neg h, if_neg fun z => by obtain ⟨d, m, e⟩ := List.mem_map.mp z; exact h (sgS_eq e ▸ m), List.map_append]; rfl
theorem dstN_map (u : List Nat) : (dstN u).map sgS = dstT (u.map sgS) := by
  have : ∀ (u ls : List Nat), (u.foldl (fun ls c => addN c ls) ls).map sgS = (u.map sgS).foldl (fun ws k => addT k ws) (ls.map sgS) := by
    intro u
    induction u with
    | nil => intro ls; rfl
    | cons c u ih => intro ls; rw [List.foldl_cons, ih, List.map_cons, List.foldl_cons, addN_map]
  exact this u []
theorem dstN_facts (u : List Nat) : (dstN u).Nodup ∧ (∀ c, c ∈ dstN u ↔ c ∈ u) ∧ (dstN u).length ≤ u.length := by
  have : ∀ (u ls : List Nat), ls.Nodup → (u.foldl (fun ls c => addN c ls) ls).Nodup ∧ (∀ c, c ∈ u.foldl (fun ls c => addN c ls) ls ↔ c ∈ ls ∨ c ∈ u) ∧ (u.foldl (fun ls c => addN c ls) ls).length ≤ ls.length + u.length := by
    intro u
    induction u with
    | nil => intro ls h; exact ⟨h, fun c => by simp, Nat.le_refl _⟩
    | cons d u ih =>
      intro ls h
      have n : (addN d ls).Nodup ∧ (∀ c, c ∈ addN d ls ↔ c ∈ ls ∨ c = d) ∧ (addN d ls).length ≤ ls.length + 1 := by
        unfold addN
        by_cases z : d ∈ ls
        · rw [if_pos z]; exact ⟨h, fun c => ⟨.inl, fun y => y.elim id fun e => e ▸ z⟩, Nat.le_succ _⟩
        · rw [if_neg z]; exact ⟨List.nodup_append.mpr ⟨h, by simp, fun a m b q e => z (by simp at q; rw [← q, ← e]; exact m)⟩, fun c => by simp, by simp⟩
      obtain ⟨i1, i2, i3⟩ := ih (addN d ls) n.1
      refine ⟨i1, fun c => ?_, ?_⟩
      · rw [List.foldl_cons, i2, n.2.1, List.mem_cons, or_assoc]
      · rw [List.foldl_cons]; have := n.2.2; simp only [List.length_cons]; lia
  have t := this u [] .nil
  exact ⟨t.1, fun c => (t.2.1 c).trans (by simp), Nat.le_trans t.2.2 (by simp)⟩
/-- the set of these signs, at a -/
def SetS (w : World) (a : Addr) (ls : List Nat) : HO := .ext fun h => ∃ o, h.get? a = some o ∧ TxSet w (ledW w) (ls.map sgS) o
theorem vals_sg : ∀ {ws : List Value}, AllSg ws → Vals ((ws.map fun v => (txOf v).cps.toList.headD 0).map sg) ws
  | [], _ => .nil
  | v :: ws, h => by
    obtain ⟨c, t, rfl⟩ := h v (by simp)
    exact .cons ⟨t, rfl⟩ (vals_sg fun x m => h x (by simp [m]))
theorem bt_set : bootBuiltins "set" = some (.type "set") := by decide +kernel
section
variable {prog : Program} {w : World} {A : Around} {E : Value → Shared → Prop} {s : Shared}
theorem set_sorted {a : Addr} {o : Obj} {ls : List Nat} {Q : Value → Shared → Prop} (calm : A.handled = none) (ho : s.heap.get? a = some o) (hS : TxSet w (ledW w) (ls.map sgS) o) (hw : ls ≠ []) (few : ls.length ≤ 1000)
    (h : ∀ (h1 h' : Heap) (dr : Drawn) (tk : Nat) (ms : List Nat) (vs : List Value) (c : Nat), (∀ b u, s.heap.get? b = some u → h1.get? b = some u) → (∀ b u, h1.get? b = some u → h'.get? b = some u) → ms.Perm ls → Vals (ms.map sg) vs → h'.get? h1.objs.size = some (seqObj "list" vs.toArray c) → Q (.ref h1.objs.size) { s with heap := h', drawn := dr, toks := tk }) :
    wpAny (model prog w) A (call (.builtin "sorted") [.ref a]) Q E s := by
  have f2 : (ls.map sgS).length ≤ sizeLine := by rw [List.length_map]; exact Nat.le_trans few (by decide)
  refine Calls.call_function_entry kind_sorted plain_sorted entry_sorted (args_sorted1 _) ?_
  unfold Builtin.«sorted»
  refine wpAny_bind (m := checkCount "sorted" 1 1 _) (wpAny_pure ?_)
  refine wpAny_bind (set_collect (A := A.in1) calm ho hS (by simpa using hw) f2 fun h1 dr tk ys acc keep py hacc => ?_)
  have hlen : acc.toList.length = ls.length := by rw [Array.length_toList, hacc.1, List.length_map]
  have yl : ys.length = ls.length := by simpa using py.length_eq
  have ay : acc.toList.map txOf = ys := by
    refine List.ext_getElem (by rw [List.length_map]; lia) fun i h1 h2 => ?_
    have hi : i < acc.size := by simpa using h1
    obtain ⟨t, q1, q2⟩ := hacc.2 i acc[i] (Array.getElem?_eq_getElem hi)
    rw [List.getElem_map, Array.getElem_toList, q2]; rfl
  have hI : AllSg acc.toList := fun v m => by
    obtain ⟨i, hi⟩ := List.mem_iff_getElem?.mp m
    obtain ⟨t, q1, q2⟩ := hacc.2 i v (by rw [← Array.getElem?_toList]; exact hi)
    obtain ⟨c, _, e⟩ := List.mem_map.mp (py.mem_iff.mp (List.getElem_mem q1))
    exact ⟨c, t, by rw [q2, e]⟩
  refine wpAny_bind (wpAny_newList ?_ (by rw [hlen]; exact Nat.le_trans few (by decide)))
  have hoL : (h1.push (seqObj "list" acc.toList.toArray 0)).get? h1.objs.size = some (seqObj "list" acc.toList.toArray 0) := Heap.get?_push_size _ rfl
  refine wpAny_bind (wpAny_holding (wpAny_call_entry slot_list_sort ⟨_, hoL, rfl⟩ entry_list_sort (sg_sort hoL hI (by lia) fun vs pv => ⟨_, rfl, ?_⟩) (args_list_sort _)))
  refine wpAny_pure ⟨_, rfl, ?_⟩; obtain ⟨c1, o1⟩ : ∃ c1, ((h1.push (seqObj "list" acc.toList.toArray 0)).update h1.objs.size (Obj.mapSeq fun _ => #[])).get? h1.objs.size = some (seqObj "list" #[] c1) := ⟨_, get?_update_seq hoL (fun _ => #[])⟩
  have o2 := Heap.get?_push_of_some (seqObj "list" #[] 0) (Heap.get?_push_of_some (seqObj "tuple" acc.toList.toArray 0) o1)
  refine h h1 _ dr tk (vs.map fun v => (txOf v).cps.toList.headD 0) vs _ keep (fun b u e1 => ?_) ?_ (vals_sg fun v m => hI v (pv.mem_iff.mp m)) (get?_update_seq o2 (fun _ => vs.toArray))
  · have nb : h1.objs.size ≠ b := (Nat.ne_of_lt (Heap.lt_size e1)).symm
    show (sortedHeap _ _ _ _).get? b = some u
    unfold sortedHeap
    rw [Heap.get?_update_other _ _ nb]
    refine Heap.get?_push_of_some _ (Heap.get?_push_of_some _ ?_)
    rw [Heap.get?_update_other _ _ nb]
    exact Heap.get?_push_of_some _ e1
  · have p1 : (vs.map txOf).Perm (ls.map sgS) := ((pv.map txOf).trans (List.Perm.of_eq ay)).trans py
    have p2 := p1.map fun z : Str => z.cps.toList.headD 0
    rw [List.map_map, List.map_map] at p2
    exact p2.trans (List.Perm.of_eq ((List.map_congr_left fun _ _ => rfl).trans (List.map_id ls)))
end
theorem Inv.drawnTo {X : Cx} {pins : List (Addr × Obj)} {σ : St} {H : Hp} {s : Shared} {d : Drawn} (I : Inv X pins σ H s) : Inv X pins σ H { s with drawn := d } := ⟨I.ok, I.os, I.bare, I.base, I.loc, I.cell, I.free, I.freeC, I.pin, I.hok, I.len⟩
section
variable {X : Cx} {e : Expr} {te : TE} {p pos : Pos}
/-- set(a list of signs) -/
def rSetS (w : World) : V → Hp → VK → Prop := fun x H1 Q => ∃ (l : Addr) (u : List Nat), x = .ref l ∧ H1 l = some (.lst (u.map sg)) ∧ u.length ≤ 1000 ∧ ∀ a, H1 a = none → Q (.ref a) (upd H1 a (SetS w a (dstN u)))
def tSetS (w : World) (te : TE) : TE := fun σ H Q => te σ H fun x H1 => rSetS w x H1 Q
theorem pe_setS (hc : X.calm = true) (hm : X.mg "set" = none) (ha : PE X e te) (hg : Gl X "set" := by rfl) (he : starEach [e] X.env = [(false, eval e X.env)] := by rfl) : PE X (.Call (.Name "set" p) [e] [] pos) (tSetS X.w te) :=
  pe_callTy (r := r1 (rSetS X.w))
    (callR1 fun pins s σ H x us Q I rv ⟨l, u, ex, hl, hn, q⟩ => by
      subst ex
      obtain ⟨v, rfl, ru⟩ := rv.one
      cases ru
      obtain ⟨z, its, n, r, hle, e1⟩ := I.lstM hl
      have rl := r.length
      refine set_texts (us := u.map sgS) (items := its.toArray) (by first | exact I.ok.hd hc | (show X.A.in1.handled = none; exact I.ok.hd hc)) ⟨_, e1, rfl, n, rfl⟩ (fun i v hi => ?_) (by simpa using rl.symm) (by rw [List.length_map]; unfold scanBound; lia) fun s' ⟨h', tk, es, ⟨o, g, S⟩, keep⟩ => ?_
      · have hi' : its[i]? = some v := by simpa using hi
        have lt : i < u.length := by have := (List.getElem?_eq_some_iff.mp hi').1; simp only [List.length_map] at rl; lia
        obtain ⟨y, ey, t, e⟩ := paired_get (i := i) (x := sg u[i]) r (by simp [lt])
        rw [ey] at hi'
        obtain rfl := Option.some.inj hi'
        exact ⟨t, by rw [e, List.getD_eq_getElem?_getD, List.getElem?_map, List.getElem?_eq_getElem lt]; rfl⟩
      · subst es
        have fr : H s.heap.objs.size = none := I.fresh
        have k : ∀ b o, s.heap.get? b = some o → h'.get? b = some o := fun b o e => keep b o (Heap.lt_size e) e
        rw [← dstN_map] at S
        exact ⟨.ref s.heap.objs.size, _, I.laid (a := s.heap.objs.size) (o := SetS X.w s.heap.objs.size (dstN u)) (t' := tk) k (Nat.le_refl _) ⟨⟨o, g, S⟩, ⟨o, g⟩, fun h1 h2 ⟨o, g, S⟩ kk => ⟨o, kk o g, S⟩⟩, rfl, q _ fr⟩)
    hg hm bt_set (pa_cons ha pa_nil (by exact he)) (he := by exact he)
/-- sorted(a set of signs): each of them once -/
def rSortS (w : World) : V → Hp → VK → Prop := fun x H1 Q => ∃ (a : Addr) (ls : List Nat), x = .ref a ∧ H1 a = some (SetS w a ls) ∧ ls ≠ [] ∧ ls.length ≤ 1000 ∧ ∀ (r : Addr) (ms : List Nat), ms.Perm ls → H1 r = none → Q (.ref r) (upd H1 r (.lst (ms.map sg)))
def tSortS (w : World) (te : TE) : TE := fun σ H Q => te σ H fun x H1 => rSortS w x H1 Q
theorem pe_sortS (hc : X.calm = true) (hm : X.mg "sorted" = none) (ha : PE X e te) (hg : Gl X "sorted" := by rfl) (he : starEach [e] X.env = [(false, eval e X.env)] := by rfl) : PE X (.Call (.Name "sorted" p) [e] [] pos) (tSortS X.w te) :=
  pe_callB (r := r1 (rSortS X.w))
    (callR1 fun pins s σ H x us Q I rv ⟨a, ls, ex, hH, hw, hn, q⟩ => by
      subst ex
      obtain ⟨v, rfl, ru⟩ := rv.one
      cases ru
      obtain ⟨⟨o, g, S⟩, _⟩ := I.hok a _ hH
      refine set_sorted (by first | exact I.ok.hd hc | (show X.A.in1.handled = none; exact I.ok.hd hc)) g S hw hn fun h1 h' dr tk ms vs c k1 k2 pm rv at2 => ?_
      have I1 : Inv X pins σ H { s with heap := h1, drawn := dr, toks := tk } := (I.kept (h' := h1) (t' := tk) k1).drawnTo
      exact ⟨.ref h1.objs.size, _, I1.laid (a := h1.objs.size) (o := .lst (ms.map sg)) (t' := tk) k2 (Nat.le_refl _) ⟨by rw [List.length_map, pm.length_eq]; exact Nat.le_trans hn (by decide), vs, c, rv, at2⟩, rfl, q _ ms pm (I1.hok.fresh (Nat.le_refl _))⟩)
    hg hm bt_sorted (pa_cons ha pa_nil (by exact he)) (he := by exact he)
end
end L2

namespace L2
open PySem PySem.Spec PyProof.Rows
/-! ### a comprehension with several names over a list -/
theorem comp_list2 {K : PySem.W.Frag} {a : Addr} {xs : List V} {k : Nat} {g : TG} {tc : TT} {te : TE} {σ : St} {H1 : Hp} {Q : Hp → Prop} {D : Addr} (Pv : Nat → List V → Hp → Prop) (hn : xs.length < sizeLine) (h0 : Pv 0 [] (upd H1 D (.lst [])))
    (hl : ∀ i ys H, Pv i ys H → ys.length ≤ i) (hq : ∀ i ys H, i ≤ xs.length → Pv i ys H → SqL K H a xs)
    (hs : ∀ i x ys H, xs[i]? = some x → Pv i ys H → g x (σ ++ List.replicate k none) H fun σ2 H2 => (∀ j, j < σ.length → σ2[j]? = σ[j]?) ∧ tc σ2 H2 fun ok H3 => if ok = true then te σ2 H3 fun v H4 => H4 D = some (.lst ys) ∧ Pv (i + 1) (ys ++ [v]) (upd H4 D (.lst (ys ++ [v]))) else Pv (i + 1) ys H3)
    (hd : ∀ ys H, Pv xs.length ys H → Q H) :
    ∃ W : Nat → Nat → List V → Hp → Prop, (∃ m, W 0 m [] (upd H1 D (.lst []))) ∧
      ∀ i m ys H, W i m ys H → ((Itl K a).stop i H ∧ Q H) ∨ ((Itl K a).go i H ∧ ys.length < sizeLine ∧ ∃ N : List V → Hp → Prop, (∀ ys' H', N ys' H' → ∃ m', m' < m ∧ W (i + 1) m' ys' H') ∧ ∀ x H', (Itl K a).yld i H x H' → g x (σ ++ List.replicate k none) H' fun σ2 H2 => (∀ j, j < σ.length → σ2[j]? = σ[j]?) ∧ tc σ2 H2 fun ok H3 =>
        if ok = true then te σ2 H3 fun v H4 => H4 D = some (.lst ys) ∧ N (ys ++ [v]) (upd H4 D (.lst (ys ++ [v]))) else N ys H3) := by
  refine ⟨fun i m ys H => m = xs.length - i ∧ i ≤ xs.length ∧ Pv i ys H, ⟨xs.length, by simp, Nat.zero_le _, h0⟩, ?_⟩
  rintro i m ys H ⟨rfl, hi, p⟩
  have q := hq i ys H hi p
  by_cases hlt : i < xs.length
  · refine .inr ⟨⟨xs, xs[i], q, by simp [hlt]⟩, Nat.lt_of_le_of_lt (hl i ys H p) (Nat.lt_trans hlt hn), Pv (i + 1), fun ys' H' p' => ⟨xs.length - (i + 1), by lia, rfl, hlt, p'⟩, fun x H' y => ?_⟩
    obtain ⟨e, y⟩ := y
    subst e
    exact hs i x ys _ (y xs q) p
  · have e : i = xs.length := by lia
    subst e
    exact .inl ⟨⟨xs, q, Nat.le_refl _⟩, hd ys H p⟩
end L2

namespace Ov
open PySem L2
def top (i : Nat) : Stmt := PySem.Challenge.pw_overlaid_k39_lengths_of_so_many.main.body.getD i (.Pass ⟨0, 0, 0, 0⟩)
abbrev sPot : Stmt := top 21
abbrev sTake : Stmt := top 22
/-- the drawing deck -/
def Hand (H : Hp) (p : Addr) : Prop := ∃ a b n : Int, H p = some (.lst [.int a, .int b, .int n])
def spPot : Sp := fun vs H Q _ => ∃ c : Int, vs = [.int c] ∧ ∀ p H', H p = none → Hand H' p → Same H H' → Q (.ref p) H'
def spTake : Sp := fun vs H Q _ => ∃ (p : Addr) (many : Int), vs = [.ref p, .int many] ∧ Hand H p ∧ 1 ≤ many ∧ many < 1000000000000000000000000000000000000000000000000000000000000 ∧
  ∀ (r : Int) (H' : Hp), 0 ≤ r → r < many → Hand H' p → Keep p H H' → Q (.int r) H'
section
variable {P : Program} {w : World} {K : PySem.W.Frag} {mg : Str → Option Value} {base : Heap}
theorem scPot : FnScope ["cell"] ["cell"] (defScope sPot) := ⟨rfl, rfl, rfl, by decide +kernel, rfl, by decide +kernel, by decide +kernel⟩
theorem ok_pot (M : Md K mg) (B : Bl mg) (F : FF K "_law_pot" sPot) : Fn P w K mg base CX0 "_law_pot" 1 ["cell"] spPot := by
  refine fn_ok M F scPot (fun _ _ _ _ _ _ => us1 fun _ => rfl) (fun vs H Q E h => ?_) (fun f cdv A outer s H vs Q E hr h => ?_)
  · obtain ⟨c, rfl, _⟩ := h; rfl
  · obtain ⟨c, rfl, k⟩ := h
    refine ⟨_, (pss_one (ps_ret (pe_lst (pa_cons (pe_max rfl B.max pe_int (pe_op op_sub (pv 0) (pe_op op_pow pe_int pe_int))) (pa_cons (pe_op op_mod (pv 0) pe_int) (pa_cons pe_int pa_nil)))))), ?_⟩
    refine ⟨_, rfl, _, _, rfl, rfl, ⟨by decide, by decide, by decide⟩, _, _, rfl, rfl, _, _, rfl, rfl, ?_⟩
    refine ⟨_, rfl, _, _, rfl, rfl, (by show (0 : Int) < 99999999977; decide), by show 3 ≤ sizeLine; decide, fun l hl => k l _ hl ⟨_, _, _, upd_same⟩ (Same.upd hl)⟩
theorem scTake : FnScope ["pot", "many", "found", "number"] ["pot", "many"] (defScope sTake) := ⟨rfl, rfl, rfl, by decide +kernel, rfl, by decide +kernel, by decide +kernel⟩
theorem ok_take (M : Md K mg) (F : FF K "_law_take" sTake) : Fn P w K mg base CX0 "_law_take" 1 ["pot", "many"] spTake := by
  refine fn_ok M F scTake (fun _ _ _ _ _ _ => us2 fun _ _ => rfl) (fun vs H Q E h => ?_) (fun f cdv A outer s H vs Q E hr h => ?_)
  · obtain ⟨p, many, rfl, _⟩ := h; rfl
  · obtain ⟨p, many, rfl, ⟨a, b, n, hp⟩, h1, h2, k⟩ := h
    refine ⟨_, (pss_cons (ps_if (pt_cmpR op_gt (pe_ix ix_list (pv 0) pe_int (fun _ _ => rfl)) pe_int (nomark _)) (pss_cons (ps_set (i := 2) scTake.nd rfl (.inl rfl) (pe_op op_mod (pe_ix ix_list (pv 0) pe_int (fun _ _ => rfl)) (pv 1)))
      (pss_cons (ps_asg (pe_op op_fdivL (pe_ix ix_list (pv 0) pe_int (fun _ _ => rfl)) (pv 1)) (pg_sub (pv 0) pe_int set_list))
      (pss_one (ps_ret (pv 2))))) pss_nil)
      (pss_cons (ps_asg (pe_op op_add (pe_ix ix_list (pv 0) pe_int (fun _ _ => rfl)) pe_int) (pg_sub (pv 0) pe_int set_list))
      (pss_cons (ps_set (i := 3) scTake.nd rfl (.inl rfl) (pe_op op_mod (pe_op op_add (pe_ix ix_list (pv 0) pe_int (fun _ _ => rfl)) (pe_op op_mul pe_int (pe_ix ix_list (pv 0) pe_int (fun _ _ => rfl)))) pe_int))
      (pss_cons (ps_set (i := 3) scTake.nd rfl (.inl rfl) (pe_op op_mod (pe_op op_mul (pv 3) (pv 3)) pe_int))
      (pss_cons (ps_set (i := 3) scTake.nd rfl (.inl rfl) (pe_op op_mod (pe_op op_mul (pv 3) (pe_op op_add (pv 3) pe_int)) pe_int))
      (pss_one (ps_ret (pe_op op_mod (pe_op op_fdivL (pv 3) pe_int) (pv 1))))))))), ?_⟩
    refine ⟨_, rfl, p, _, _, _, rfl, rfl, SqL.of hp, atI_nat (j := 0) rfl, _, _, rfl, rfl, _, rfl, ?_⟩
    refine ite2 (fun hc => ?_) (fun hc => ?_)
    · refine ⟨_, rfl, p, _, _, _, rfl, rfl, SqL.of hp, atI_nat (j := 0) rfl, _, rfl, _, _, rfl, rfl, (by show 0 < many; lia), ?_⟩
      refine ⟨_, rfl, p, _, _, _, rfl, rfl, SqL.of hp, atI_nat (j := 0) rfl, _, rfl, _, _, rfl, rfl, ⟨by lia, by lia⟩, ?_⟩
      refine ⟨_, rfl, p, _, 0, 0, rfl, rfl, hp, rfl, _, rfl, ?_⟩
      exact k _ _ (Int.emod_nonneg _ (by lia)) (Int.emod_lt_of_pos _ (by lia)) ⟨_, _, _, upd_same⟩ Keep.upd
    · refine ⟨_, rfl, p, _, _, _, rfl, rfl, SqL.of hp, atI_nat (j := 2) rfl, _, _, rfl, rfl, _, rfl, p, _, 2, 2, rfl, rfl, hp, rfl, ?_⟩
      have k1 : Keep p H (L2.upd H p (.lst ([V.int a, V.int b, V.int n].set 2 (.int (n + 1))))) := Keep.upd
      have hp1 : (L2.upd H p (.lst ([V.int a, V.int b, V.int n].set 2 (.int (n + 1))))) p = some (.lst [.int a, .int b, .int (n + 1)]) := upd_same
      generalize L2.upd H p (.lst ([V.int a, V.int b, V.int n].set 2 (.int (n + 1)))) = H1 at k1 hp1
      refine ⟨_, rfl, p, _, _, _, rfl, rfl, SqL.of hp1, atI_nat (j := 1) rfl, _, rfl, p, _, _, _, rfl, rfl, SqL.of hp1, atI_nat (j := 2) rfl, _, _, rfl, rfl, .inl ⟨by decide, by decide⟩, _, _, rfl, rfl, _, _, rfl, rfl, (by show (0 : Int) < 99999999947; decide), ?_⟩
      have m1 := Int.emod_nonneg (b + 700001 * (n + 1)) (show (99999999947 : Int) ≠ 0 by decide)
      have m2 := Int.emod_lt_of_pos (b + 700001 * (n + 1)) (show (0 : Int) < 99999999947 by decide)
      generalize (b + 700001 * (n + 1)) % 99999999947 = x at m1 m2
      refine ⟨_, rfl, _, rfl, _, _, rfl, rfl, .inl ⟨by lia, by lia⟩, _, _, rfl, rfl, (by show (0 : Int) < 99999999821; decide), ?_⟩
      have m3 := Int.emod_nonneg (x * x) (show (99999999821 : Int) ≠ 0 by decide)
      have m4 := Int.emod_lt_of_pos (x * x) (show (0 : Int) < 99999999821 by decide)
      generalize x * x % 99999999821 = y at m3 m4
      refine ⟨_, rfl, _, rfl, _, _, rfl, rfl, _, _, rfl, rfl, .inl ⟨by lia, by lia⟩, _, _, rfl, rfl, (by show (0 : Int) < 9999999967; decide), ?_⟩
      refine ⟨_, rfl, _, _, rfl, rfl, ⟨by decide, by decide⟩, _, rfl, _, _, rfl, rfl, (by show 0 < many; lia), ?_⟩
      exact k _ _ (Int.emod_nonneg _ (by lia)) (Int.emod_lt_of_pos _ (by lia)) ⟨_, _, _, hp1⟩ k1
end

end Ov

namespace Ov
open PySem L2
abbrev sSigns : Stmt := top 24
abbrev sLetters : Stmt := top 23
def az : List Nat := (List.range 26).map (97 + ·)
theorem az_mem {c : Nat} (h : c ∈ az) : 97 ≤ c ∧ c ≤ 122 := by
  simp [az] at h
  lia
/-- small letters -/
def Low (t : List Nat) : Prop := ∀ c ∈ t, 97 ≤ c ∧ c ≤ 122
theorem Low.cp {t : List Nat} (h : Low t) : ∀ c ∈ t, c < 0x110000 := fun c hc => by have := h c hc; lia
theorem Low.take {t : List Nat} (h : Low t) (n : Nat) : Low (t.take n) := fun c hc => h c (List.mem_of_mem_take hc)
theorem Low.drop {t : List Nat} (h : Low t) (n : Nat) : Low (t.drop n) := fun c hc => h c (List.mem_of_mem_drop hc)
theorem Low.app {t u : List Nat} (h : Low t) (g : Low u) : Low (t ++ u) := fun c hc => (List.mem_append.mp hc).elim (h c) (g c)
theorem Low.nil : Low [] := fun c hc => by cases hc
theorem Hand.ne {H : Hp} {p l : Addr} (h : Hand H p) (hl : H l = none) : p ≠ l := by
  obtain ⟨a, b, n, e⟩ := h
  exact ne_of_none e hl
theorem Hand.upd {H : Hp} {p l : Addr} {o : HO} (h : Hand H p) (hl : p ≠ l) : Hand (L2.upd H l o) p := by
  obtain ⟨a, b, n, e⟩ := h
  exact ⟨a, b, n, by rw [upd_ne hl]; exact e⟩
theorem Hand.same {H H' : Hp} {p : Addr} (h : Hand H p) (k : Same H H') : Hand H' p := by
  obtain ⟨a, b, n, e⟩ := h
  exact ⟨a, b, n, k _ _ e⟩
theorem hand_ne {H : Hp} {p a : Addr} {t : List Nat} (h : Hand H p) (ha : H a = some (.lst (t.map sg))) : a ≠ p := by
  obtain ⟨x, y, n, e⟩ := h
  refine ne_of ha e fun z => ?_
  have z' : t.map sg = [.int x, .int y, .int n] := HO.lst.inj z
  cases t with
  | nil => cases z'
  | cons c t => cases z'
theorem nd0 {p : Prop} [Decidable p] (h : ¬ decide p = true) : ¬ p := fun z => h (decide_eq_true z)
theorem sz {n : Nat} (h : n ≤ 1000) : n ≤ sizeLine := Nat.le_of_lt (small1000 h)
theorem sz5 {n : Nat} (h : n ≤ 5000) : n ≤ sizeLine := Nat.le_of_lt (small5000 h)
def vInts (ks : List Nat) : List V := (ks.map fun (k : Nat) => (k : Int)).map V.int
theorem vInts_snoc (ks : List Nat) (i : Nat) : vInts (ks ++ [i]) = vInts ks ++ [V.int (0 + (i : Int))] := by
  simp [vInts]
theorem vInts_len (ks : List Nat) : (vInts ks).length = ks.length := by simp [vInts]
theorem filter_len {i : Nat} (p : Nat → Bool) : ((List.range i).filter p).length ≤ i := by
  have := List.length_filter_le p (List.range i)
  simpa using this
theorem sg_at {t : List Nat} {r : Int} (lt : Low t) (r0 : 0 ≤ r) (r1 : r < t.length) : ∃ c, t[r.toNat]? = some c ∧ 97 ≤ c ∧ c ≤ 122 ∧ atI (t.map sg) r = some (sg c) := by
  obtain ⟨v, hv, hm, e⟩ := atI_ex (t.map sg) r r0 (by rw [List.length_map]; exact r1)
  rw [List.getElem?_map] at hv
  cases q : t[r.toNat]? with
  | none => rw [q] at hv; cases hv
  | some c =>
    rw [q] at hv
    have : sg c = v := Option.some.inj hv
    subst this
    exact ⟨c, rfl, (lt c (List.mem_of_getElem? q)).1, (lt c (List.mem_of_getElem? q)).2, e⟩
/-- two lists of signs laid behind one another -/
theorem cat_sg {H : Hp} {l0 l1 : Addr} {t u : List Nat} {Q : VK} (h0 : H l0 = some (.lst (t.map sg))) (h1 : H l1 = some (.lst (u.map sg))) (hz : t.length + u.length ≤ 5000)
    (k : ∀ b, H b = none → Q (.ref b) (L2.upd H b (.lst ((t ++ u).map sg)))) : rCat (.ref l0) (.ref l1) H Q :=
  ⟨l0, l1, _, _, rfl, rfl, h0, h1, by rw [List.length_map, List.length_map]; exact sz5 hz, fun b hb => by have := k b hb; rw [List.map_append] at this; exact this⟩
theorem cut_hi {t : List Nat} {n : Int} (h : 0 ≤ n) : cutV (t.map sg) none (some n) = (t.take n.toNat).map sg := by rw [cutV_cutL, cutL_map, cutL_hi _ _ h]
theorem cut_lo {t : List Nat} {n : Int} (h : 0 ≤ n) : cutV (t.map sg) (some n) none = (t.drop n.toNat).map sg := by rw [cutV_cutL, cutL_map, cutL_lo _ _ h]
def spLetters : Sp := fun vs H Q _ => ∃ p : Addr, vs = [.ref p] ∧ Hand H p ∧ ∀ (z : List Nat) (r : Addr) (H' : Hp), H r = none → H' r = some (.lst (z.map sg)) → Low z → z.Nodup → 1 ≤ z.length → z.length ≤ 26 → Hand H' p → Keep p H H' → Q (.ref r) H'
def spSigns : Sp := fun vs H Q _ => ∃ (p b : Addr) (z : List Nat) (n : Int), vs = [.ref p, .ref b, .int n] ∧ Hand H p ∧ H b = some (.lst (z.map sg)) ∧ Low z ∧ 1 ≤ z.length ∧ z.length ≤ 900 ∧ 0 ≤ n ∧ n ≤ 1000 ∧
  ∀ (t : List Nat) (r : Addr) (H' : Hp), H r = none → H' r = some (.lst (t.map sg)) → Low t → t.length = n.toNat → Hand H' p → Keep p H H' → Q (.ref r) H'
section
variable {P : Program} {w : World} {K : PySem.W.Frag} {mg : Str → Option Value} {base : Heap}
theorem scLetters : FnScope ["pot", "left", "many"] ["pot"] (defScope sLetters) := ⟨rfl, rfl, rfl, by decide +kernel, rfl, by decide +kernel, by decide +kernel⟩
theorem ok_letters (M : Md K mg) (B : Bl mg) (F : FF K "_law_letters" sLetters) (F_law_take : Fn P w K mg base CX0 "_law_take" 1 ["pot", "many"] spTake) : Fn P w K mg base CX0 "_law_letters" 2 ["pot"] spLetters := by
  refine fn_ok M F scLetters (fun _ _ _ _ _ _ => us1 fun _ => rfl) (fun vs H Q E h => ?_) (fun f cdv A outer s H vs Q E hr h => ?_)
  · obtain ⟨p, rfl, _⟩ := h; rfl
  · obtain ⟨p, rfl, hp, k⟩ := h
    refine ⟨_, (pss_cons (ps_set (i := 1) scLetters.nd rfl (.inr rfl) (pe_listS rfl B.list pe_str))
      (pss_cons (ps_set (i := 2) scLetters.nd rfl (.inl rfl) (pe_fn F_law_take hr pass0 (pa_cons (pv 0) (pa_cons pe_int pa_nil))))
      (pss_cons (ps_if (pt_cmpR op_eq (pv 2) pe_int (nomark _)) (pss_one (ps_ret (pv 1))) pss_nil)
      (pss_one (ps_ret (pe_comp ["pot", "left", "many"] rfl (pi_range1 (by rfl) B.range (pa_cons (pv 2) pa_nil)) (fun _ => by exact pif_nil) (fun _ => by exact (pe_bm PySem.F.plainAttrs_list PySem.F.slot_list_pop PySem.F.type_list_pop mt_popAt (pv 1) (pa_cons (pe_fn F_law_take hr pass0 (pa_cons (pv 0) (pa_cons (pe_lenL B.len (pv 1)) pa_nil))) pa_nil))))))))), ?_⟩
    have laz : Low az := fun c hc => az_mem hc
    have naz : az.Nodup := by decide +kernel
    refine ⟨⟨az.toArray⟩, rfl, by rw [str_len]; exact sz (by simp [az]), fun l hl => ?_⟩
    have s1 := Same.upd (o := .lst (az.map sg)) hl
    have hl1 : (L2.upd H l (.lst (az.map sg))) l = some (.lst (az.map sg)) := upd_same
    have hp1 := hp.same s1
    refine ⟨_, rfl, p, 5, rfl, hp1, by decide, by decide, fun m H2 m0 m1 hp2 k2 => ?_⟩
    have nlp : l ≠ p := (hp.ne hl).symm
    have hl2 := k2 _ _ hl1 nlp
    have k02 := s1.keep.trans k2
    refine ⟨_, rfl, rfl, _, rfl, ?_⟩
    refine ite2 (fun hc => ?_) (fun hc => ?_)
    · exact ⟨_, rfl, k az l H2 hl hl2 laz naz (by simp [az]) (by simp [az]) hp2 k02⟩
    · have hm : m ≠ 0 := fun q => nd0 hc (by rw [q])
      refine ⟨_, rfl, m, rfl, by lia, by lia, fun D hD cb => ?_⟩
      have nD : D ≠ p := (hp2.ne hD).symm
      have nlD : l ≠ D := ne_of_none hl2 hD
      have hDn : H D = none := by obtain ⟨x, y, z, e'⟩ := hp2; exact k02.free e' hD
      refine comp_range (lo := 0) (n := m.toNat) (fun i ys H3 => ∃ t left : List Nat, ys = t.map sg ∧ (t ++ left).Perm az ∧ t.length = i ∧ H3 l = some (.lst (left.map sg)) ∧ Hand H3 p ∧ (∀ b o, H b = some o → b ≠ p → H3 b = some o) ∧ H3 D = some (.lst ys)) (small1000 (by lia)) ?_ ?_ ?_ ?_
      · refine ⟨[], az, rfl, List.Perm.refl _, rfl, by rw [upd_ne nlD]; exact hl2, hp2.upd (hp2.ne hD), fun b o e n => ?_, upd_same⟩
        have h1 := k02 b o e n
        rw [upd_ne (ne_of_none h1 hD)]; exact h1
      · rintro i ys H3 ⟨t, left, rfl, _, rfl, _⟩
        simp
      · rintro i ys H3 hi ⟨t, left, rfl, hper, rfl, hl3, hp3, k3, hD3⟩
        have hlen : t.length + left.length = 26 := by have := hper.length_eq; simpa [az] using this
        have hl1' : 1 ≤ left.length := by lia
        refine tNoIf_go ?_
        refine ⟨_, rfl, .inl ⟨rfl, _, SqL.of hl3⟩, _, rfl, _, rfl, l, _, rfl, SqL.of hl3, p, _, rfl, hp3, by rw [List.length_map]; lia, by rw [List.length_map]; lia, fun r H4 r0 r1 hp4 k4 => ?_⟩
        rw [List.length_map] at r1
        have hl4 := k4 _ _ hl3 nlp
        have hD4 := k4 _ _ hD3 nD
        have hr : r.toNat < left.length := by lia
        have hc' : left[r.toNat]? = some left[r.toNat] := by simp [hr]
        refine ⟨l, _, r, r.toNat, sg left[r.toNat], rfl, rfl, hl4, by lia, by lia, ?_, by rw [List.getElem?_map, hc']; rfl, ?_⟩
        · rw [List.length_map]
          exact (ixN_seq (ixN_pos _ _ r0 r1)).1
        · have ee : (left.map sg).eraseIdx r.toNat = (left.eraseIdx r.toNat).map sg := by
            apply List.ext_getElem?
            intro q
            rw [List.getElem?_map, List.getElem?_eraseIdx, List.getElem?_eraseIdx]
            split <;> rw [List.getElem?_map]
          rw [ee]
          refine ⟨by rw [upd_ne nlD.symm]; exact hD4, t ++ [left[r.toNat]], left.eraseIdx r.toNat, by simp, ?_, by simp, by rw [upd_ne nlD, upd_same], ?_, fun b o e n => ?_, upd_same⟩
          · have h1 : (left[r.toNat] :: left.eraseIdx r.toNat).Perm left := by
              rw [List.eraseIdx_eq_take_drop_succ]
              have q := List.perm_middle (a := left[r.toNat]) (l₁ := left.take r.toNat) (l₂ := left.drop (r.toNat + 1))
              rw [← List.drop_eq_getElem_cons hr, List.take_append_drop] at q
              exact q.symm
            have h2 : ((t ++ [left[r.toNat]]) ++ left.eraseIdx r.toNat).Perm (t ++ left) := by
              rw [List.append_assoc]
              exact List.Perm.append_left t h1
            exact h2.trans hper
          · exact (hp4.upd nlp.symm).upd nD.symm
          · rw [upd_ne (ne_of_none e hDn), upd_ne (ne_of_none e hl)]
            exact k4 _ _ (k3 b o e n) n
      · rintro ys H3 ⟨t, left, rfl, hper, hl3, hl4, hp3, k3, hD3⟩
        refine k t D H3 hDn hD3 (fun c hc => az_mem (hper.mem_iff.mp (List.mem_append_left _ hc))) ?_ (by lia) (by lia) hp3 (fun b o e n => k3 b o e n)
        exact (List.nodup_append.mp (hper.nodup_iff.mpr naz)).1
theorem scSigns : FnScope ["pot", "letters", "many"] ["pot", "letters", "many"] (defScope sSigns) := ⟨rfl, rfl, rfl, by decide +kernel, rfl, by decide +kernel, by decide +kernel⟩
theorem ok_signs (M : Md K mg) (B : Bl mg) (F : FF K "_law_signs" sSigns) (F_law_take : Fn P w K mg base CX0 "_law_take" 1 ["pot", "many"] spTake) : Fn P w K mg base CX0 "_law_signs" 2 ["pot", "letters", "many"] spSigns := by
  refine fn_ok M F scSigns (fun _ _ _ _ _ _ => us3 fun _ _ _ => rfl) (fun vs H Q E h => ?_) (fun f cdv A outer s H vs Q E hr h => ?_)
  · obtain ⟨p, b, z, n, rfl, _⟩ := h; rfl
  · obtain ⟨p, b, z, n, rfl, hp, hb, lz, z1, z2, n0, n1, k⟩ := h
    refine ⟨_, (pss_one (ps_ret (pe_comp ["pot", "letters", "many"] rfl (pi_range1 (by rfl) B.range (pa_cons (pv 2) pa_nil)) (fun _ => by exact pif_nil) (fun _ => by exact (pe_ix ix_list (pv 1) (pe_fn F_law_take hr pass0 (pa_cons (pv 0) (pa_cons (pe_lenL B.len (pv 1)) pa_nil))) (fun _ _ => rfl)))))), ?_⟩
    have nbp := hand_ne hp hb
    refine ⟨_, rfl, n, rfl, by lia, by lia, fun D hD cb => ?_⟩
    have nD : D ≠ p := (hp.ne hD).symm
    refine comp_range (lo := 0) (n := n.toNat) (fun i ys H2 => ∃ t : List Nat, ys = t.map sg ∧ Low t ∧ t.length = i ∧ Hand H2 p ∧ Keep p H H2 ∧ H2 D = some (.lst ys)) (small1000 (by lia)) ?_ ?_ ?_ ?_
    · exact ⟨[], rfl, Low.nil, rfl, hp.upd (hp.ne hD), (Same.upd hD).keep, upd_same⟩
    · rintro i ys H2 ⟨t, rfl, _, rfl, _⟩
      simp
    · rintro i ys H2 hi ⟨t, rfl, lt, rfl, hp2, k2, hD2⟩
      refine tNoIf_go ?_
      have hb2 := k2 _ _ hb nbp
      refine ⟨_, rfl, _, rfl, _, rfl, b, _, rfl, SqL.of hb2, p, _, rfl, hp2, by rw [List.length_map]; lia, by rw [List.length_map]; lia, fun r H3 r0 r1 hp3 k3 => ?_⟩
      rw [List.length_map] at r1
      obtain ⟨c, _, c1, c2, ec⟩ := sg_at lz r0 r1
      refine ⟨b, _, r, _, rfl, rfl, SqL.of (k3 _ _ hb2 nbp), ec, k3 _ _ hD2 nD, t ++ [c], by simp, ?_, by simp, hp3.upd nD.symm, ?_, upd_same⟩
      · exact lt.app fun d hd => by rw [List.mem_singleton.mp hd]; exact ⟨c1, c2⟩
      · intro b o e nb
        rw [upd_ne (ne_of_none e hD)]
        exact k3 _ _ (k2 b o e nb) nb
    · rintro ys H2 ⟨t, rfl, lt, hl, hp2, k2, hD2⟩
      exact k t D H2 hD hD2 lt hl hp2 k2
end

end Ov

namespace Ov
open PySem L2
abbrev sWord : Stmt := top 25
def spWord : Sp := fun vs H Q _ => ∃ (p b : Addr) (z : List Nat) (m : Int), vs = [.ref p, .ref b, .int m] ∧ Hand H p ∧ H b = some (.lst (z.map sg)) ∧ Low z ∧ 1 ≤ z.length ∧ z.length ≤ 900 ∧ 1 ≤ m ∧ m ≤ 300 ∧
  ∀ (t : List Nat) (r : Addr) (H' : Hp), H r = none → H' r = some (.lst (t.map sg)) → Low t → 1 ≤ t.length → (t.length : Int) ≤ m → Hand H' p → Keep p H H' → Q (.ref r) H'
theorem rep_sg (n : Nat) (t : List Nat) : (List.replicate n (t.map sg)).flatten = ((List.replicate n t).flatten).map sg := by
  induction n with
  | zero => rfl
  | succ n ih => rw [List.replicate_succ, List.flatten_cons, ih, List.replicate_succ, List.flatten_cons, List.map_append]
theorem Low.rep {t : List Nat} (h : Low t) (n : Nat) : Low (List.replicate n t).flatten := fun c hc => by
  obtain ⟨l, hl, hc⟩ := List.mem_flatten.mp hc
  rw [(List.mem_replicate.mp hl).2] at hc
  exact h c hc
theorem rep_len (n : Nat) (t : List Nat) : (List.replicate n t).flatten.length = n * t.length := by
  induction n with
  | zero => simp
  | succ n ih => rw [List.replicate_succ, List.flatten_cons, List.length_append, ih, Nat.succ_mul, Nat.add_comm]
/-- a list of signs so many times -/
theorem rep_op {H : Hp} {l : Addr} {t : List Nat} {n : Int} {Q : VK} (h : H l = some (.lst (t.map sg))) (n0 : 0 ≤ n) (n1 : n ≤ 1000) (hz : t.length * n.toNat ≤ 20000) (k : ∀ b, H b = none → Q (.ref b) (L2.upd H b (.lst ((List.replicate n.toNat t).flatten.map sg)))) : rRep (.ref l) (.int n) H Q :=
  ⟨l, n, _, rfl, rfl, h, by lia, by lia, by rw [List.length_map]; exact Nat.le_trans hz (by decide), fun b hb => by rw [rep_sg]; exact k b hb⟩
section
variable {P : Program} {w : World} {K : PySem.W.Frag} {mg : Str → Option Value} {base : Heap}
theorem scWord : FnScope ["pot", "letters", "most", "size", "kind", "piece", "amid", "once"] ["pot", "letters", "most"] (defScope sWord) := ⟨rfl, rfl, rfl, by decide +kernel, rfl, by decide +kernel, by decide +kernel⟩
theorem pick3 {a b c r : Int} (r0 : 0 ≤ r) (r1 : r < 3) : ∃ v : Int, (v = a ∨ v = b ∨ v = c) ∧ atI [V.int a, V.int b, V.int c] r = some (.int v) := by
  obtain ⟨v, hv, hmem, e⟩ := atI_ex [V.int a, V.int b, V.int c] r r0 (by simpa using r1)
  simp at hmem
  rcases hmem with rfl | rfl | rfl
  · exact ⟨a, .inl rfl, e⟩
  · exact ⟨b, .inr (.inl rfl), e⟩
  · exact ⟨c, .inr (.inr rfl), e⟩
theorem ok_word (M : Md K mg) (B : Bl mg) (F : FF K "_law_word" sWord) (F_law_take : Fn P w K mg base CX0 "_law_take" 1 ["pot", "many"] spTake) (F_law_signs : Fn P w K mg base CX0 "_law_signs" 2 ["pot", "letters", "many"] spSigns) : Fn P w K mg base CX0 "_law_word" 3 ["pot", "letters", "most"] spWord := by
  refine fn_ok M F scWord (fun _ _ _ _ _ _ => us3 fun _ _ _ => rfl) (fun vs H Q E h => ?_) (fun f cdv A outer s H vs Q E hr h => ?_)
  · obtain ⟨p, b, z, m, rfl, _⟩ := h; rfl
  · obtain ⟨p, b, z, m, rfl, hp, hb, lz, z1, z2, m1, m2, k⟩ := h
    refine ⟨_, (pss_cons (ps_set (i := 3) scWord.nd rfl (.inl rfl) (pe_op op_add pe_int (pe_fn F_law_take hr pass0 (pa_cons (pv 0) (pa_cons (pe_ix ix_list (pe_lst (pa_cons (pe_min rfl B.min pe_int (pv 2)) (pa_cons (pe_min rfl B.min pe_int (pv 2)) (pa_cons (pv 2) pa_nil)))) (pe_fn F_law_take hr pass0 (pa_cons (pv 0) (pa_cons pe_int pa_nil))) (fun _ _ => rfl)) pa_nil)))))
      (pss_cons (ps_set (i := 4) scWord.nd rfl (.inl rfl) (pe_fn F_law_take hr pass0 (pa_cons (pv 0) (pa_cons pe_int pa_nil))))
      (pss_cons (ps_set (i := 5) scWord.nd rfl (.inl rfl) (pe_fn F_law_signs hr pass0 (pa_cons (pv 0) (pa_cons (pv 1) (pa_cons (pe_op op_add pe_int (pe_fn F_law_take hr pass0 (pa_cons (pv 0) (pa_cons (pe_min rfl B.min (pv 3) pe_int) pa_nil)))) pa_nil)))))
      (pss_cons (ps_if (pt_cmpR op_eq (pv 4) pe_int (nomark _)) (pss_one (ps_ret (pe_slice sl_list (pe_op op_rep (pv 5) (pv 3)) po_none (po_some (pv 3))))) pss_nil)
      (pss_cons (ps_if (pt_cmpR op_eq (pv 4) pe_int (nomark _)) (pss_cons (ps_set (i := 6) scWord.nd rfl (.inl rfl) (pe_fn F_law_signs hr pass0 (pa_cons (pv 0) (pa_cons (pv 1) (pa_cons (pe_fn F_law_take hr pass0 (pa_cons (pv 0) (pa_cons pe_int pa_nil))) pa_nil)))))
      (pss_one (ps_ret (pe_slice sl_list (pe_op op_cat (pe_op op_cat (pv 5) (pv 6)) (pv 5)) po_none (po_some (pe_max rfl B.max pe_int (pv 2))))))) pss_nil)
      (pss_cons (ps_if (pt_cmpR op_eq (pv 4) pe_int (nomark _)) (pss_cons (ps_set (i := 7) scWord.nd rfl (.inl rfl) (pe_op op_rep (pe_op op_cat (pv 5) (pe_slice sl_list (pv 5) po_none (po_some (pe_fn F_law_take hr pass0 (pa_cons (pv 0) (pa_cons (pe_op op_add (pe_lenL B.len (pv 5)) pe_int) pa_nil)))))) pe_int))
      (pss_one (ps_ret (pe_slice sl_list (pe_op op_rep (pv 7) (pv 3)) po_none (po_some (pv 3)))))) pss_nil)
      (pss_cons (ps_if (pt_cmpR op_eq (pv 4) pe_int (nomark _)) (pss_one (ps_ret (pe_op op_rep (pe_slice sl_list (pv 1) po_none (po_some pe_int)) (pv 3)))) pss_nil)
      (pss_one (ps_ret (pe_fn F_law_signs hr pass0 (pa_cons (pv 0) (pa_cons (pv 1) (pa_cons (pv 3) pa_nil))))))))))))), ?_⟩
    have nbp := hand_ne hp hb
    refine ⟨_, rfl, _, rfl, _, _, rfl, rfl, _, rfl, _, _, rfl, rfl, _, rfl, by show 3 ≤ sizeLine; decide, fun l0 hl0 => ?_⟩
    have s1 := Same.upd (o := .lst [V.int (if m < 5 then m else 5), V.int (if m < 20 then m else 20), V.int m]) hl0
    have hp1 := hp.same s1
    refine ⟨_, rfl, p, 3, rfl, hp1, by decide, by decide, fun r H2 r0 r1 hp2 k2 => ?_⟩
    have hl2 := k2 _ _ upd_same (fun q => hp.ne hl0 q.symm)
    obtain ⟨v, hv, ev⟩ := pick3 (a := if m < 5 then m else 5) (b := if m < 20 then m else 20) (c := m) r0 r1
    have hv' : 1 ≤ v ∧ v ≤ m := by
      rcases hv with rfl | rfl | rfl
      · split <;> lia
      · split <;> lia
      · lia
    refine ⟨l0, _, r, _, rfl, rfl, SqL.of hl2, ev, p, v, rfl, hp2, hv'.1, by lia, fun n H3 n0 n1 hp3 k3 => ?_⟩
    have k03 := (s1.keep.trans k2).trans k3
    refine ⟨_, _, rfl, rfl, ?_⟩
    have sz1 : 1 ≤ 1 + n ∧ 1 + n ≤ m := by lia
    refine ⟨_, rfl, p, 5, rfl, hp3, by decide, by decide, fun kind H4 i0 i1 hp4 k4 => ?_⟩
    have k04 := k03.trans k4
    have hb4 := k04 _ _ hb nbp
    refine ⟨_, rfl, _, rfl, _, rfl, _, rfl, _, _, rfl, rfl, p, _, rfl, hp4, by split <;> lia, by split <;> lia, fun c H5 c0 c1 hp5 k5 => ?_⟩
    have c8 : c < 8 := by split at c1 <;> lia
    have k05 := k04.trans k5
    have hb5 := k05 _ _ hb nbp
    refine ⟨_, _, rfl, rfl, p, b, z, 1 + c, rfl, hp5, hb5, lz, z1, z2, by lia, by lia, fun t q H6 hq0 hq6 lt tl hp6 k6 => ?_⟩
    have k06 := k05.trans k6
    have hb6 := k06 _ _ hb nbp
    have tl' : 1 ≤ t.length ∧ t.length ≤ 8 := by lia
    have mul : ∀ a b : Nat, a ≤ 40 → b ≤ 300 → a * b ≤ 20000 := fun a b h1 h2 => Nat.le_trans (Nat.mul_le_mul h1 h2) (by decide)
    have long : ∀ x : List Nat, 1 ≤ x.length → (1 + n).toNat ≤ (List.replicate (1 + n).toNat x).flatten.length := fun x hx => by
      rw [rep_len]
      exact Nat.le_mul_of_pos_right _ hx
    refine ⟨_, rfl, rfl, _, rfl, ?_⟩
    refine ite2 (fun hc => ?_) (fun hc => ?_)
    · refine ⟨_, rfl, _, rfl, rep_op hq6 (by lia) (by lia) (mul _ _ (by lia) (by lia)) fun l hl => ?_⟩
      have s7 := Same.upd (o := .lst ((List.replicate (1 + n).toNat t).flatten.map sg)) hl
      refine ⟨_, rfl, (1 + n), rfl, l, _, rfl, SqL.of upd_same, fun l2 hl2' => ?_⟩
      rw [cut_hi (by lia)]
      have s8 := s7.trans (Same.upd (o := .lst (((List.replicate (1 + n).toNat t).flatten.take (1 + n).toNat).map sg)) hl2')
      have hll := long t tl'.1
      exact k _ l2 _ (by obtain ⟨x, y, w', e'⟩ := hp6; exact k06.free e' (s7.free hl2')) upd_same ((lt.rep _).take _) (by rw [List.length_take]; lia) (by rw [List.length_take]; lia) (hp6.same s8) (k06.trans s8.keep)
    · refine ⟨_, rfl, rfl, _, rfl, ?_⟩
      refine ite2 (fun hc2 => ?_) (fun hc2 => ?_)
      · refine ⟨_, rfl, _, rfl, _, rfl, p, 4, rfl, hp6, by decide, by decide, fun d H7 d0 d1 hp7 k7 => ?_⟩
        have hb7 := k7 _ _ hb6 (hand_ne hp6 hb6)
        have hq7 := k7 _ _ hq6 (hand_ne hp6 hq6)
        refine ⟨p, b, z, d, rfl, hp7, hb7, lz, z1, z2, d0, by lia, fun v' y H8 hy0 hy8 lv vl hp8 k8 => ?_⟩
        have hq8 := k8 _ _ hq7 (hand_ne hp7 hq7)
        refine ⟨_, rfl, _, rfl, cat_sg hq8 hy8 (by lia) fun l hl => ?_⟩
        have s9 := Same.upd (o := .lst ((t ++ v').map sg)) hl
        refine ⟨_, rfl, cat_sg upd_same (s9 _ _ hq8) (by rw [List.length_append]; lia) fun l2 hl2' => ?_⟩
        have s10 := s9.trans (Same.upd (o := .lst ((t ++ v' ++ t).map sg)) hl2')
        have hx10 := upd_same (H := L2.upd H8 l (.lst ((t ++ v').map sg))) (a := l2) (o := .lst ((t ++ v' ++ t).map sg))
        generalize L2.upd (L2.upd H8 l (.lst ((t ++ v').map sg))) l2 (.lst ((t ++ v' ++ t).map sg)) = H10 at *
        refine ⟨_, rfl, _, _, rfl, rfl, _, rfl, l2, _, rfl, SqL.of hx10, fun l3 hl3 => ?_⟩
        have em : (if m > 1 then m else 1) = m := by split <;> lia
        rw [em, cut_hi (by lia)]
        have s11 := s10.trans (Same.upd (o := .lst (((t ++ v' ++ t).take m.toNat).map sg)) hl3)
        have k08 := (k06.trans k7).trans k8
        exact k _ l3 _ (by obtain ⟨x, y, w', e'⟩ := hp8; exact k08.free e' (s10.free hl3)) upd_same (((lt.app lv).app lt).take _) (by rw [List.length_take, List.length_append]; lia) (by rw [List.length_take]; lia) (hp8.same s11) (k08.trans s11.keep)
      · refine ⟨_, rfl, rfl, _, rfl, ?_⟩
        refine ite2 (fun hc3 => ?_) (fun hc3 => ?_)
        · refine ⟨_, rfl, _, rfl, _, rfl, _, rfl, q, _, rfl, SqL.of hq6, _, _, rfl, rfl, p, _, rfl, hp6, by rw [List.length_map]; lia, by rw [List.length_map]; lia, fun d H7 d0 d1 hp7 k7 => ?_⟩
          have hq7 := k7 _ _ hq6 (hand_ne hp6 hq6)
          refine ⟨d, rfl, q, _, rfl, SqL.of hq7, fun l hl => ?_⟩
          rw [cut_hi d0]
          have s8 := Same.upd (o := .lst ((t.take d.toNat).map sg)) hl
          refine cat_sg (s8 _ _ hq7) upd_same (by rw [List.length_take]; lia) fun l2 hl2' => ?_
          have s9 := s8.trans (Same.upd (o := .lst ((t ++ t.take d.toNat).map sg)) hl2')
          have hx9 := upd_same (H := L2.upd H7 l (.lst ((t.take d.toNat).map sg))) (a := l2) (o := .lst ((t ++ t.take d.toNat).map sg))
          generalize L2.upd (L2.upd H7 l (.lst ((t.take d.toNat).map sg))) l2 (.lst ((t ++ t.take d.toNat).map sg)) = H9 at *
          have ol : (t ++ t.take d.toNat).length ≤ 16 ∧ 1 ≤ (t ++ t.take d.toNat).length := by rw [List.length_append, List.length_take]; lia
          dsimp only [tC]
          refine rep_op (n := 2) hx9 (by decide) (by decide) (mul _ _ (by lia) (by decide)) fun l3 hl3 => ?_
          have s10 := s9.trans (Same.upd (o := .lst ((List.replicate (2 : Int).toNat (t ++ t.take d.toNat)).flatten.map sg)) hl3)
          have hx10 := upd_same (H := H9) (a := l3) (o := .lst ((List.replicate (2 : Int).toNat (t ++ t.take d.toNat)).flatten.map sg))
          have o2 : (List.replicate (2 : Int).toNat (t ++ t.take d.toNat)).flatten.length = 2 * (t ++ t.take d.toNat).length := rep_len 2 _
          have lo2 : Low (List.replicate (2 : Int).toNat (t ++ t.take d.toNat)).flatten := (lt.app (lt.take _)).rep _
          generalize (List.replicate (2 : Int).toNat (t ++ t.take d.toNat)).flatten = once at *
          generalize L2.upd H9 l3 (.lst (once.map sg)) = H10 at *
          refine ⟨_, rfl, _, rfl, rep_op hx10 (by lia) (by lia) (mul _ _ (by lia) (by lia)) fun l4 hl4 => ?_⟩
          have s11 := s10.trans (Same.upd (o := .lst ((List.replicate (1 + n).toNat once).flatten.map sg)) hl4)
          have hx11 := upd_same (H := H10) (a := l4) (o := .lst ((List.replicate (1 + n).toNat once).flatten.map sg))
          generalize L2.upd H10 l4 (.lst ((List.replicate (1 + n).toNat once).flatten.map sg)) = H11 at *
          refine ⟨_, rfl, (1 + n), rfl, l4, _, rfl, SqL.of hx11, fun l5 hl5 => ?_⟩
          rw [cut_hi (by lia)]
          have s12 := s11.trans (Same.upd (o := .lst (((List.replicate (1 + n).toNat once).flatten.take (1 + n).toNat).map sg)) hl5)
          have hll := long once (by lia)
          have k07 := k06.trans k7
          exact k _ l5 _ (by obtain ⟨x, y, w', e'⟩ := hp7; exact k07.free e' (s11.free hl5)) upd_same ((lo2.rep _).take _) (by rw [List.length_take]; lia) (by rw [List.length_take]; lia) (hp7.same s12) (k07.trans s12.keep)
        · refine ⟨_, rfl, rfl, _, rfl, ?_⟩
          refine ite2 (fun hc4 => ?_) (fun hc4 => ?_)
          · refine ⟨_, rfl, 1, rfl, b, _, rfl, SqL.of hb6, fun l hl => ?_⟩
            rw [cut_hi (by decide)]
            have s7 := Same.upd (o := .lst ((z.take (1 : Int).toNat).map sg)) hl
            have zl : (z.take (1 : Int).toNat).length = 1 := by rw [List.length_take, show (1 : Int).toNat = 1 from rfl]; lia
            refine ⟨_, rfl, rep_op upd_same (by lia) (by lia) (mul _ _ (by lia) (by lia)) fun l2 hl2' => ?_⟩
            have s8 := s7.trans (Same.upd (o := .lst ((List.replicate (1 + n).toNat (z.take (1 : Int).toNat)).flatten.map sg)) hl2')
            have hrl := rep_len (1 + n).toNat (z.take (1 : Int).toNat)
            rw [zl, Nat.mul_one] at hrl
            exact k _ l2 _ (by obtain ⟨x, y, w', e'⟩ := hp6; exact k06.free e' (s7.free hl2')) upd_same ((lz.take _).rep _) (by rw [hrl]; lia) (by rw [hrl]; lia) (hp6.same s8) (k06.trans s8.keep)
          · refine ⟨_, rfl, _, rfl, _, rfl, p, b, z, (1 + n), rfl, hp6, hb6, lz, z1, z2, by lia, by lia, fun t' y H7 hy0 hy7 lt' tl7 hp7 k7 => ?_⟩
            exact k t' y H7 (by obtain ⟨x, w1, w', e'⟩ := hp6; exact k06.free e' hy0) hy7 lt' (by lia) (by lia) hp7 (k06.trans k7)
end

end Ov

namespace Ov
open PySem L2
/-- the shifts of a word, rising -/
def shiftsOf (u : List Nat) : List Nat := ((List.range u.length).map (· + 1)).filter fun d => decide (u.drop d = u.take (u.length - d))
theorem shifts_len (u : List Nat) : (shiftsOf u).length ≤ u.length := by
  unfold shiftsOf
  have := List.length_filter_le (fun d => decide (u.drop d = u.take (u.length - d))) ((List.range u.length).map (· + 1))
  simpa using this
def spShifts : Sp := fun vs H Q _ => ∃ (a : Addr) (u : List Nat), vs = [.ref a] ∧ H a = some (.lst (u.map sg)) ∧ Low u ∧ 1 ≤ u.length ∧ u.length ≤ 900 ∧
  ∀ (r : Addr) (H' : Hp), H r = none → H' r = some (.lst (vInts (shiftsOf u))) → Same H H' → Q (.ref r) H'
theorem vInts_snoc' (ks : List Nat) (i : Nat) : vInts (ks ++ [i]) = vInts ks ++ [V.int (i : Int)] := by simp [vInts]
theorem sg_inj {a b : Nat} : (sg a = sg b) ↔ a = b := by
  constructor
  · intro h
    have : sgS a = sgS b := V.str.inj h
    simpa [sgS] using this
  · intro h; rw [h]

end Ov

namespace Ov
open PySem L2
abbrev sIsSign : Stmt := top 6
abbrev sCheck : Stmt := top 7
def spIsSign : Sp := fun vs H Q _ => ∃ c : Nat, vs = [sg c] ∧ 97 ≤ c ∧ c ≤ 122 ∧ Q (.bl true) H
def spCheck : Sp := fun vs H Q _ => ∃ (a : Addr) (t : List Nat), vs = [.ref a] ∧ H a = some (.lst (t.map sg)) ∧ Low t ∧ Q .non H
theorem sg_ge {c : Nat} (h : 97 ≤ c) : (!decide ((sgS c).cps.toList < (Str.ofString "a").cps.toList)) = true := by
  have e : (Str.ofString "a").cps.toList = [97] := by decide +kernel
  rw [e]
  have : ¬ ([c] < [97]) := fun q => by
    cases q with
    | rel r => lia
    | cons r => cases r
  simp [this]
theorem sg_le {c : Nat} (h : c ≤ 122) : (!decide ((Str.ofString "z").cps.toList < (sgS c).cps.toList)) = true := by
  have e : (Str.ofString "z").cps.toList = [122] := by decide +kernel
  rw [e]
  have : ¬ ([122] < [c]) := fun q => by
    cases q with
    | rel r => lia
    | cons r => cases r
  simp [this]
section
variable {P : Program} {w : World} {K : PySem.W.Frag} {mg : Str → Option Value} {base : Heap}
theorem scIsSign : FnScope ["sign"] ["sign"] (defScope sIsSign) := ⟨rfl, rfl, rfl, by decide +kernel, rfl, by decide +kernel, by decide +kernel⟩
theorem ok_is_sign (M : Md K mg) (B : Bl mg) (F : FF K "is_sign" sIsSign) : Fn P w K mg base CX0 "is_sign" 1 ["sign"] spIsSign := by
  refine fn_ok M F scIsSign (fun _ _ _ _ _ _ => us1 fun _ => rfl) (fun vs H Q E h => ?_) (fun f cdv A outer s H vs Q E hr h => ?_)
  · obtain ⟨c, rfl, _⟩ := h; rfl
  · obtain ⟨c, rfl, c1, c2, k⟩ := h
    refine ⟨_, (pss_one (ps_ret (pe_and (pe_isi B.isinst B.str bt_str (pv 0)) (pe_and (pe_cmpR op_eq (pe_lenS B.len (pv 0)) pe_int (nomark _)) (pe_one (pe_chain op_le_str op_le_str pe_str (pv 0) pe_str)))))), ?_⟩
    refine ⟨_, rfl, _, true, TyOf.str _, rfl, _, rfl, iteT ?_⟩
    refine ⟨_, rfl, _, rfl, sz (by show 1 ≤ 1000; decide), rfl, true, rfl, iteT ?_⟩
    refine ⟨_, rfl, _, _, rfl, rfl, _, rfl, ?_⟩
    rw [sg_ge c1]
    refine iteT ⟨_, _, rfl, rfl, ?_⟩
    rw [sg_le c2]
    exact k
theorem scCheck : FnScope ["text", "sign"] ["text"] (defScope sCheck) := ⟨rfl, rfl, rfl, by decide +kernel, rfl, by decide +kernel, by decide +kernel⟩
theorem ok_check (M : Md K mg) (B : Bl mg) (F : FF K "check_signs" sCheck) (Fis_sign : Fn P w K mg base CX0 "is_sign" 1 ["sign"] spIsSign) : Fn P w K mg base CX0 "check_signs" 2 ["text"] spCheck := by
  refine fn_ok M F scCheck (fun _ _ _ _ _ _ => us1 fun _ => rfl) (fun vs H Q E h => ?_) (fun f cdv A outer s H vs Q E hr h => ?_)
  · obtain ⟨a, t, rfl, _⟩ := h; rfl
  · obtain ⟨a, t, rfl, ha, lt, k⟩ := h
    refine ⟨_, (pss_one (ps_for PassesOwn.never rfl (pi_list (pv 0)) (pg_name (i := 1) scCheck.nd rfl (.inl rfl))
      (pss_one (ps_if (pt_not (pt_val (pe_fn Fis_sign hr pass0 (pa_cons (pv 1) pa_nil)))) (pss_one ps_never) pss_nil)))), ?_⟩
    refine ⟨_, rfl, a, rfl, ⟨_, SqL.of ha⟩, for_list (K := K) (a := a) (xs := t.map sg) (fun i σ H2 => H2 = H ∧ ∃ v, σ = [some (.ref a), v]) ⟨rfl, none, rfl⟩ (fun i σ H2 _ h2 => by rw [h2.1]; exact SqL.of ha) ?_ ?_⟩
    · rintro i x σ H2 hx ⟨rfl, v, rfl⟩
      rw [List.getElem?_map] at hx
      cases e : t[i]? with
      | none => rw [e] at hx; cases hx
      | some c =>
        rw [e] at hx
        have : sg c = x := Option.some.inj hx
        subst this
        have hc := lt c (List.mem_of_getElem? e)
        exact ⟨_, rfl, c, rfl, hc.1, hc.2, true, rfl, iteF ⟨rfl, _, rfl⟩⟩
    · rintro σ H2 ⟨rfl, _⟩
      exact k
end

end Ov

namespace Ov
open PySem L2
def ends (t : List Nat) : List Nat := (List.range t.length).filter fun k => decide (t.take k = t.drop (t.length - k))
def spEnds : Sp := fun vs H Q _ => ∃ (a : Addr) (t : List Nat), vs = [.ref a] ∧ H a = some (.lst (t.map sg)) ∧ Low t ∧ t.length ≤ 1000 ∧
  ∀ (r : Addr) (H' : Hp), H r = none → H' r = some (.lst (vInts (ends t))) → Same H H' → Q (.ref r) H'
theorem ends_lt {t : List Nat} {k : Nat} (h : k ∈ ends t) : k < t.length := by
  simp [ends] at h; exact h.1
theorem ends_len (t : List Nat) : (ends t).length ≤ t.length := filter_len _
theorem ends_step {t : List Nat} {i : Nat} : ((List.range (i + 1)).filter fun k => decide (t.take k = t.drop (t.length - k))) = ((List.range i).filter fun k => decide (t.take k = t.drop (t.length - k))) ++ (if t.take i = t.drop (t.length - i) then [i] else []) := by
  rw [List.range_succ, List.filter_append]
  congr 1
  by_cases h : t.take i = t.drop (t.length - i) <;> simp [h]

end Ov

namespace Ov
open PySem L2
abbrev sBorders : Stmt := top 10
section
variable {P : Program} {w : World} {K : PySem.W.Frag} {mg : Str → Option Value} {base : Heap}
theorem scBorders : FnScope ["text", "length"] ["text"] (defScope sBorders) := ⟨rfl, rfl, rfl, by decide +kernel, rfl, by decide +kernel, by decide +kernel⟩
theorem ok_borders (M : Md K mg) (B : Bl mg) (F : FF K "borders" sBorders) (Fcheck_signs : Fn P w K mg base CX0 "check_signs" 2 ["text"] spCheck) : Fn P w K mg base CX0 "borders" 3 ["text"] spEnds := by
  refine fn_ok M F scBorders (fun _ _ _ _ _ _ => us1 fun _ => rfl) (fun vs H Q E h => ?_) (fun f cdv A outer s H vs Q E hr h => ?_)
  · obtain ⟨a, t, rfl, _⟩ := h; rfl
  · obtain ⟨a, t, rfl, ha, lt, hl, k⟩ := h
    refine ⟨_, (pss_cons (ps_expr (pe_fn Fcheck_signs hr pass0 (pa_cons (pv 0) pa_nil)))
      (pss_cons (ps_set (i := 1) scBorders.nd rfl (.inr rfl) (pe_lenL B.len (pv 0)))
      (pss_one (ps_ret (pe_comp ["text", "length"] rfl (pi_range1 (by rfl) B.range (pa_cons (pv 1) pa_nil)) (fun _ => by exact (pif_one (pt_cmpR (op_eqLS (by exact hr)) (pe_slice sl_list (pv 0) po_none (po_some (pv 2))) (pe_slice sl_list (pv 0) (po_some (pe_op op_sub (pv 1) (pv 2))) po_none) (nomark _)))) (fun _ => by exact (pv 2))))))), ?_⟩
    refine ⟨_, rfl, a, t, rfl, ha, lt, ?_⟩
    refine ⟨_, rfl, a, _, rfl, SqL.of ha, ?_⟩
    refine ⟨_, rfl, _, rfl, by rw [List.length_map]; lia, by rw [List.length_map]; lia, fun D hD b => ?_⟩
    rw [List.length_map, Int.toNat_natCast]
    refine comp_range (lo := 0) (n := t.length) (fun i ys H2 => ys = vInts ((List.range i).filter fun k => decide (t.take k = t.drop (t.length - k))) ∧ Same H H2 ∧ H2 D = some (.lst ys)) (small1000 hl) ?_ ?_ ?_ ?_
    · exact ⟨rfl, Same.upd hD, upd_same⟩
    · rintro i ys H2 ⟨rfl, _⟩
      rw [vInts_len]; exact filter_len _
    · rintro i ys H2 hi ⟨rfl, s2, hD2⟩
      refine ⟨_, rfl, _, rfl, _, rfl, a, _, rfl, SqL.of (s2 _ _ ha), fun p1 hp1 => ?_⟩
      have s3 := s2.trans (Same.upd (o := .lst (cutV (t.map sg) none (some (0 + (i : Int))))) hp1)
      refine ⟨_, rfl, _, rfl, _, rfl, _, _, rfl, rfl, _, rfl, a, _, rfl, SqL.of (s3 _ _ ha), fun p2 hp2 => ?_⟩
      have n12 : p1 ≠ p2 := ne_of_none upd_same hp2
      refine ⟨p1, p2, t.take i, t.drop (t.length - i), rfl, rfl, SqL.of ?_, SqL.of ?_, (lt.take _).cp, (lt.drop _).cp, _, rfl, ?_⟩
      · rw [upd_ne n12, upd_same, cutV_cutL, cutL_map, cutL_hi _ _ (by lia), show (0 + (i : Int)).toNat = i by lia]
      · rw [upd_same, cutV_cutL, cutL_map, cutL_lo _ _ (by lia), show ((t.length : Int) - (0 + (i : Int))).toNat = t.length - i by lia]
      · have s4 := s3.trans (Same.upd (o := .lst (cutV (t.map sg) (some ((t.length : Int) - (0 + (i : Int)))) none)) hp2)
        have hD4 := (Same.upd (H := L2.upd H2 p1 _) (o := .lst (cutV (t.map sg) (some ((t.length : Int) - (0 + (i : Int)))) none)) hp2) _ _ ((Same.upd (o := .lst (cutV (t.map sg) none (some (0 + (i : Int))))) hp1) _ _ hD2)
        refine ite2 (fun hc => ?_) (fun hc => ?_)
        · have hc' : t.take i = t.drop (t.length - i) := by simpa using hc
          refine ⟨_, rfl, hD4, ?_, ?_, upd_same⟩
          · rw [ends_step, if_pos hc', vInts_snoc]
          · intro b o e
            rw [upd_ne (ne_of_none e hD)]
            exact s4 b o e
        · have hc' : ¬ t.take i = t.drop (t.length - i) := by simpa using hc
          refine ⟨?_, s4, hD4⟩
          rw [ends_step, if_neg hc', List.append_nil]
    · rintro ys H2 ⟨rfl, s2, hD2⟩
      exact k D H2 hD hD2 s2
end

end Ov

namespace Ov
open PySem L2
abbrev sPeriods : Stmt := top 11
def pers (t : List Nat) : List Nat := (ends t).reverse.map (t.length - ·)
def spPeriods : Sp := fun vs H Q _ => ∃ (a : Addr) (t : List Nat), vs = [.ref a] ∧ H a = some (.lst (t.map sg)) ∧ Low t ∧ t.length ≤ 1000 ∧
  ∀ (r : Addr) (H' : Hp), H r = none → H' r = some (.lst (vInts (pers t))) → Same H H' → Q (.ref r) H'
theorem take_rev {α : Type} (xs : List α) (i : Nat) (x : α) (h : xs[xs.length - 1 - i]? = some x) (hi : i < xs.length) : xs.reverse.take (i + 1) = xs.reverse.take i ++ [x] := by
  rw [List.take_add_one, List.getElem?_reverse hi, h]
  rfl
section
variable {P : Program} {w : World} {K : PySem.W.Frag} {mg : Str → Option Value} {base : Heap}
theorem scPeriods : FnScope ["text"] ["text"] (defScope sPeriods) := ⟨rfl, rfl, rfl, by decide +kernel, rfl, by decide +kernel, by decide +kernel⟩
theorem ok_periods (M : Md K mg) (B : Bl mg) (F : FF K "periods" sPeriods) (Fborders : Fn P w K mg base CX0 "borders" 3 ["text"] spEnds) : Fn P w K mg base CX0 "periods" 4 ["text"] spPeriods := by
  refine fn_ok M F scPeriods (fun _ _ _ _ _ _ => us1 fun _ => rfl) (fun vs H Q E h => ?_) (fun f cdv A outer s H vs Q E hr h => ?_)
  · obtain ⟨a, t, rfl, _⟩ := h; rfl
  · obtain ⟨a, t, rfl, ha, lt, hl, k⟩ := h
    refine ⟨_, (pss_one (ps_ret (pe_comp ["text"] rfl (pi_rev B.rev (pe_fn Fborders hr pass0 (pa_cons (pv 0) pa_nil))) (fun _ => by exact pif_nil) (fun _ => by exact (pe_op op_sub (pe_lenL B.len (pv 0)) (pv 1)))))), ?_⟩
    refine ⟨_, rfl, a, t, rfl, ha, lt, hl, fun r H1 hr0 hr1 s1 => ?_⟩
    refine ⟨r, _, rfl, SqL.of hr1, fun D hD b => ?_⟩
    have el := ends_len t
    refine comp_rev (K := K) (a := r) (xs := vInts (ends t)) (fun i ys H2 => ys = vInts (((ends t).reverse.take i).map (t.length - ·)) ∧ Same H1 H2 ∧ H2 D = some (.lst ys)) (by rw [vInts_len]; exact small1000 (by lia)) ?_ ?_ ?_ ?_ ?_
    · exact ⟨by simp [vInts], Same.upd hD, upd_same⟩
    · rintro i ys H2 ⟨rfl, _⟩
      rw [vInts_len, List.length_map, List.length_take]; lia
    · rintro i ys H2 _ ⟨rfl, s2, _⟩; exact SqL.of (s2 _ _ hr1)
    · rintro i x ys H2 hx hi ⟨rfl, s2, hD2⟩
      refine tNoIf_go ?_
      rw [vInts_len] at hx hi
      obtain ⟨k, hk, rfl⟩ : ∃ k, (ends t)[(ends t).length - 1 - i]? = some k ∧ x = V.int (k : Int) := by
        unfold vInts at hx
        rw [List.map_map, List.getElem?_map] at hx
        cases q : (ends t)[(ends t).length - 1 - i]? with
        | none => rw [q] at hx; cases hx
        | some k =>
          rw [q] at hx
          exact ⟨k, rfl, (Option.some.inj hx).symm⟩
      have hk' := ends_lt (List.mem_of_getElem? hk)
      refine ⟨_, rfl, a, _, rfl, SqL.of (s2 _ _ (s1 _ _ ha)), _, rfl, _, _, rfl, rfl, hD2, ?_, ?_, upd_same⟩
      · rw [take_rev _ _ _ hk hi, List.map_append, List.length_map]
        show vInts _ ++ [V.int ((t.length : Int) - (k : Int))] = vInts (_ ++ [t.length - k])
        rw [vInts_snoc, Int.zero_add, Int.ofNat_sub (Nat.le_of_lt hk')]
      · intro b o e
        rw [upd_ne (ne_of_none e hD)]
        exact s2 b o e
    · rintro ys H2 ⟨rfl, s2, hD2⟩
      refine k D H2 (s1.free hD) ?_ (s1.trans s2)
      rw [hD2, vInts_len, List.take_of_length_le (by simp)]
      rfl
end

end Ov

namespace Ov
open PySem L2
/-- the places at which u lies in t -/
def liesIn (t u : List Nat) : List Nat := (List.range (t.length + 1 - u.length)).filter fun p => decide ((t.drop p).take u.length = u)
/-- the places at which the word's signs are others, up to the j-th -/
def parts (t u : List Nat) (p j : Nat) : List Nat := (List.range j).filter fun q => !decide (t[p + q]? = u[q]?)
theorem lies_step (t u : List Nat) (i : Nat) : ((List.range (i + 1)).filter fun p => decide ((t.drop p).take u.length = u)) = ((List.range i).filter fun p => decide ((t.drop p).take u.length = u)) ++ (if (t.drop i).take u.length = u then [i] else []) := by
  rw [List.range_succ, List.filter_append]
  congr 1
  by_cases h : (t.drop i).take u.length = u <;> simp [h]
def spLies : Sp := fun vs H Q _ => ∃ (a b : Addr) (t u : List Nat), vs = [.ref a, .ref b] ∧ H a = some (.lst (t.map sg)) ∧ H b = some (.lst (u.map sg)) ∧ Low t ∧ Low u ∧ t.length ≤ 900 ∧ u.length ≤ 900 ∧ 1 ≤ u.length ∧
  ∀ (r : Addr) (H' : Hp), H r = none → H' r = some (.lst (vInts (liesIn t u))) → Same H H' → Q (.ref r) H'

end Ov

namespace Ov
open PySem L2
abbrev sCheckWord : Stmt := top 8
abbrev sLiesAt : Stmt := top 12
def spCheckWord : Sp := fun vs H Q _ => ∃ (a : Addr) (t : List Nat), vs = [.ref a] ∧ H a = some (.lst (t.map sg)) ∧ Low t ∧ 1 ≤ t.length ∧ Q .non H
section
variable {P : Program} {w : World} {K : PySem.W.Frag} {mg : Str → Option Value} {base : Heap}
theorem scCheckWord : FnScope ["word"] ["word"] (defScope sCheckWord) := ⟨rfl, rfl, rfl, by decide +kernel, rfl, by decide +kernel, by decide +kernel⟩
theorem ok_check_word (M : Md K mg) (B : Bl mg) (F : FF K "check_word" sCheckWord) (Fcheck_signs : Fn P w K mg base CX0 "check_signs" 2 ["text"] spCheck) : Fn P w K mg base CX0 "check_word" 3 ["word"] spCheckWord := by
  refine fn_ok M F scCheckWord (fun _ _ _ _ _ _ => us1 fun _ => rfl) (fun vs H Q E h => ?_) (fun f cdv A outer s H vs Q E hr h => ?_)
  · obtain ⟨a, t, rfl, _⟩ := h; rfl
  · obtain ⟨a, t, rfl, ha, lt, t1, k⟩ := h
    refine ⟨_, (pss_cons (ps_if (pt_cmpR op_eq (pe_lenL B.len (pv 0)) pe_int (nomark _)) (pss_one ps_never) pss_nil)
      (pss_one (ps_expr (pe_fn Fcheck_signs hr pass0 (pa_cons (pv 0) pa_nil))))), ?_⟩
    refine ⟨_, rfl, a, _, rfl, SqL.of ha, rfl, _, rfl, ?_⟩
    rw [decide_eq_false (fun q => by have := V.int.inj q; rw [List.length_map] at this; lia)]
    exact iteF ⟨_, rfl, a, t, rfl, ha, lt, k⟩
theorem scLiesAt : FnScope ["text", "word", "many"] ["text", "word"] (defScope sLiesAt) := ⟨rfl, rfl, rfl, by decide +kernel, rfl, by decide +kernel, by decide +kernel⟩
theorem ok_lies_at (M : Md K mg) (B : Bl mg) (F : FF K "lies_at" sLiesAt) (Fcheck_signs : Fn P w K mg base CX0 "check_signs" 2 ["text"] spCheck) (Fcheck_word : Fn P w K mg base CX0 "check_word" 3 ["word"] spCheckWord) : Fn P w K mg base CX0 "lies_at" 4 ["text", "word"] spLies := by
  refine fn_ok M F scLiesAt (fun _ _ _ _ _ _ => us2 fun _ _ => rfl) (fun vs H Q E h => ?_) (fun f cdv A outer s H vs Q E hr h => ?_)
  · obtain ⟨a, b, t, u, rfl, _⟩ := h; rfl
  · obtain ⟨a, b, t, u, rfl, ha, hb, lt, lu, tl, ul, u1, k⟩ := h
    refine ⟨_, (pss_cons (ps_expr (pe_fn Fcheck_word hr pass0 (pa_cons (pv 1) pa_nil)))
      (pss_cons (ps_expr (pe_fn Fcheck_signs hr pass0 (pa_cons (pv 0) pa_nil)))
      (pss_cons (ps_set (i := 2) scLiesAt.nd rfl (.inr rfl) (pe_lenL B.len (pv 1)))
      (pss_one (ps_ret (pe_comp ["text", "word", "many"] rfl (pi_range1 (by rfl) B.range (pa_cons (pe_op op_add (pe_op op_sub (pe_lenL B.len (pv 0)) (pv 2)) pe_int) pa_nil)) (fun _ => by exact (pif_one (pt_cmpR (op_eqLS (by exact hr)) (pe_slice sl_list (pv 0) (po_some (pv 3)) (po_some (pe_op op_add (pv 3) (pv 2)))) (pv 1) (nomark _)))) (fun _ => by exact (pv 3)))))))), ?_⟩
    refine ⟨_, rfl, b, u, rfl, hb, lu, u1, ?_⟩
    refine ⟨_, rfl, a, t, rfl, ha, lt, ?_⟩
    refine ⟨_, rfl, b, _, rfl, SqL.of hb, ?_⟩
    refine ⟨_, rfl, a, _, rfl, SqL.of ha, _, rfl, _, _, rfl, rfl, _, _, rfl, rfl, _, rfl, by rw [List.length_map, List.length_map]; lia, by rw [List.length_map, List.length_map]; lia, fun D hD cb => ?_⟩
    rw [List.length_map, List.length_map, show ((t.length : Int) - (u.length : Int) + 1).toNat = t.length + 1 - u.length by lia]
    refine comp_range (lo := 0) (n := t.length + 1 - u.length) (fun i ys H2 => ys = vInts ((List.range i).filter fun p => decide ((t.drop p).take u.length = u)) ∧ Same H H2 ∧ H2 D = some (.lst ys)) (small1000 (by lia)) ?_ ?_ ?_ ?_
    · exact ⟨rfl, Same.upd hD, upd_same⟩
    · rintro i ys H2 ⟨rfl, _⟩
      rw [vInts_len]; exact filter_len _
    · rintro i ys H2 hi ⟨rfl, s2, hD2⟩
      refine ⟨_, rfl, _, rfl, _, rfl, _, rfl, _, rfl, _, _, rfl, rfl, _, rfl, a, _, rfl, SqL.of (s2 _ _ ha), fun p1 hp1 => ?_⟩
      have s3 := s2.trans (Same.upd (o := .lst (cutV (t.map sg) (some (0 + (i : Int))) (some (0 + (i : Int) + (u.length : Int))))) hp1)
      refine ⟨_, rfl, p1, b, (t.drop i).take u.length, u, rfl, rfl, SqL.of ?_, SqL.of (s3 _ _ hb), ((lt.drop _).take _).cp, lu.cp, _, rfl, ?_⟩
      · rw [upd_same, cutV_cutL, cutL_map, cutL_both _ _ _ (by lia) (by lia), show (0 + (i : Int)).toNat = i by lia, show (0 + (i : Int) + (u.length : Int)).toNat - i = u.length by lia]
      · have hD3 := (Same.upd (o := .lst (cutV (t.map sg) (some (0 + (i : Int))) (some (0 + (i : Int) + (u.length : Int))))) hp1) _ _ hD2
        refine ite2 (fun hc => ?_) (fun hc => ?_)
        · have hc' : (t.drop i).take u.length = u := by simpa using hc
          refine ⟨_, rfl, hD3, ?_, ?_, upd_same⟩
          · rw [lies_step, if_pos hc', vInts_snoc]
          · intro b o e
            rw [upd_ne (ne_of_none e hD)]
            exact s3 b o e
        · have hc' : ¬ (t.drop i).take u.length = u := by simpa using hc
          refine ⟨?_, s3, hD3⟩
          rw [lies_step, if_neg hc', List.append_nil]
    · rintro ys H2 ⟨rfl, s2, hD2⟩
      exact k D H2 hD hD2 s2
end

end Ov

namespace Ov
open PySem L2
theorem lies_sorted (t u : List Nat) : (liesIn t u).Pairwise (· < ·) := by
  unfold liesIn
  exact List.Pairwise.filter _ List.pairwise_lt_range

end Ov

namespace Ov
open PySem L2
theorem vInts_get {ks : List Nat} {i : Nat} {x : V} (h : (vInts ks)[i]? = some x) : ∃ k, ks[i]? = some k ∧ x = V.int (k : Int) := by
  unfold vInts at h
  rw [List.map_map, List.getElem?_map] at h
  cases q : ks[i]? with
  | none => rw [q] at h; cases h
  | some k => rw [q] at h; exact ⟨k, rfl, (Option.some.inj h).symm⟩

end Ov

namespace Ov
open PySem L2
abbrev sShifts : Stmt := top 14
theorem rev_range (n : Nat) : (List.range n).reverse.map (n - ·) = (List.range n).map (· + 1) := by
  apply List.ext_getElem
  · simp
  · intro i h1 h2
    simp at h1 h2 ⊢
    lia
theorem pers_shifts (t : List Nat) : pers t = shiftsOf t := by
  unfold pers ends shiftsOf
  rw [← List.filter_reverse, ← rev_range, List.filter_map]
  congr 1
  apply List.filter_congr
  intro k hk
  have hk' : k < t.length := by simpa using hk
  show decide _ = decide _
  have e : t.length - (t.length - k) = k := by lia
  rw [e]
  exact decide_eq_decide.mpr ⟨fun h => h.symm, fun h => h.symm⟩
section
variable {P : Program} {w : World} {K : PySem.W.Frag} {mg : Str → Option Value} {base : Heap}
theorem scShifts : FnScope ["word"] ["word"] (defScope sShifts) := ⟨rfl, rfl, rfl, by decide +kernel, rfl, by decide +kernel, by decide +kernel⟩
theorem ok_shifts (M : Md K mg) (B : Bl mg) (F : FF K "shifts" sShifts) (Fcheck_word : Fn P w K mg base CX0 "check_word" 3 ["word"] spCheckWord) (Fperiods : Fn P w K mg base CX0 "periods" 4 ["text"] spPeriods) : Fn P w K mg base CX0 "shifts" 5 ["word"] spShifts := by
  refine fn_ok M F scShifts (fun _ _ _ _ _ _ => us1 fun _ => rfl) (fun vs H Q E h => ?_) (fun f cdv A outer s H vs Q E hr h => ?_)
  · obtain ⟨a, t, rfl, _⟩ := h; rfl
  · obtain ⟨a, t, rfl, ha, lt, t1, tl, k⟩ := h
    refine ⟨_, (pss_cons (ps_expr (pe_fn Fcheck_word hr pass0 (pa_cons (pv 0) pa_nil)))
      (pss_one (ps_ret (pe_fn Fperiods hr pass0 (pa_cons (pv 0) pa_nil))))), ?_⟩
    refine ⟨_, rfl, a, t, rfl, ha, lt, t1, ?_⟩
    refine ⟨_, rfl, a, t, rfl, ha, lt, by lia, fun r H1 hr0 hr1 s1 => k r H1 hr0 ?_ s1⟩
    rw [hr1, pers_shifts]
end

end Ov

namespace Ov
open PySem L2
/-! ### texts as steps -/
/-- w lies in t behind p signs -/
def Oc (w t : List Nat) (p : Nat) : Prop := ∃ a b, t = a ++ (w ++ b) ∧ a.length = p
def kyd (w : List Nat) (d : Nat) : List Nat := w.drop (w.length - d)
def PerW (w : List Nat) (d : Nat) : Prop := 1 ≤ d ∧ d ≤ w.length ∧ w.drop d = w.take (w.length - d)
def Sg (w : List Nat) (d : Nat) : Prop := PerW w d ∧ ∀ j, 0 < j → j < d → ¬ Oc w (w.take d ++ w) j
theorem Oc.le {w t : List Nat} {p : Nat} (h : Oc w t p) : p + w.length ≤ t.length := by
  obtain ⟨a, b, rfl, rfl⟩ := h
  simp only [List.length_append]; lia
theorem oc_iff {w t : List Nat} {p : Nat} : Oc w t p ↔ p + w.length ≤ t.length ∧ (t.drop p).take w.length = w := by
  constructor
  · intro h
    refine ⟨h.le, ?_⟩
    obtain ⟨a, b, rfl, rfl⟩ := h
    rw [List.drop_left, List.take_left]
  · rintro ⟨h1, h2⟩
    refine ⟨t.take p, (t.drop p).drop w.length, ?_, by rw [List.length_take]; lia⟩
    have := List.take_append_drop w.length (t.drop p)
    rw [h2] at this
    rw [this, List.take_append_drop]
theorem oc_app {w a t : List Nat} {p : Nat} : Oc w (a ++ t) (a.length + p) ↔ Oc w t p := by
  constructor
  · rintro ⟨x, b, e, l⟩
    have hx : a <+: x := by
      have : a <+: x ++ (w ++ b) := by rw [← e]; exact List.prefix_append _ _
      exact List.prefix_of_prefix_length_le this (List.prefix_append _ _) (by lia)
    obtain ⟨y, rfl⟩ := hx
    rw [List.append_assoc] at e
    refine ⟨y, b, List.append_cancel_left e, ?_⟩
    rw [List.length_append] at l; lia
  · rintro ⟨x, b, rfl, rfl⟩
    exact ⟨a ++ x, b, by rw [List.append_assoc], by rw [List.length_append]⟩
theorem Oc.more {w t : List Nat} {p : Nat} (h : Oc w t p) (z : List Nat) : Oc w (t ++ z) p := by
  obtain ⟨a, b, rfl, rfl⟩ := h
  exact ⟨a, b ++ z, by simp only [List.append_assoc], rfl⟩
theorem Oc.cut {w t z : List Nat} {p : Nat} (h : Oc w (t ++ z) p) (hl : p + w.length ≤ t.length) : Oc w t p := by
  rw [oc_iff] at h ⊢
  refine ⟨hl, ?_⟩
  have e := h.2
  rw [List.drop_append_of_le_length (by lia), List.take_append_of_le_length (by rw [List.length_drop]; lia)] at e
  exact e
theorem per_text {w : List Nat} {d : Nat} (h : PerW w d) : w.take d ++ w = w ++ kyd w d := by
  obtain ⟨_, _, h⟩ := h
  have e1 : w = w.take d ++ w.take (w.length - d) := by rw [← h, List.take_append_drop]
  have e2 : w.take (w.length - d) ++ kyd w d = w := List.take_append_drop _ _
  calc w.take d ++ w = w.take d ++ (w.take (w.length - d) ++ kyd w d) := by rw [e2]
    _ = (w.take d ++ w.take (w.length - d)) ++ kyd w d := by rw [List.append_assoc]
    _ = w ++ kyd w d := by rw [← e1]
theorem kyd_len {w : List Nat} {d : Nat} (h : d ≤ w.length) : (kyd w d).length = d := by unfold kyd; rw [List.length_drop]; lia
/-- the text of the steps -/
def tx (w : List Nat) : List Nat → List Nat
  | [] => w
  | d :: ds => w.take d ++ tx w ds
/-- the places -/
def pls (p : Nat) : List Nat → List Nat
  | [] => [p]
  | d :: ds => p :: pls (p + d) ds
theorem tx_pre {w : List Nat} : ∀ {ds : List Nat}, (∀ d ∈ ds, PerW w d) → ∃ z, tx w ds = w ++ z
  | [], _ => ⟨[], by simp [tx]⟩
  | d :: ds, h => by
    obtain ⟨z, hz⟩ := tx_pre fun x hx => h x (List.mem_cons_of_mem d hx)
    refine ⟨kyd w d ++ z, ?_⟩
    rw [tx, hz, ← List.append_assoc, per_text (h d List.mem_cons_self), List.append_assoc]
theorem pls_ge : ∀ {ds : List Nat} {p x : Nat}, x ∈ pls p ds → p ≤ x
  | [], p, x, h => by rw [List.mem_singleton.mp h]; exact Nat.le_refl _
  | d :: ds, p, x, h => by
    rcases List.mem_cons.mp h with e | e
    · lia
    · have := pls_ge e; lia
theorem pls_sorted : ∀ {ds : List Nat} {p : Nat}, (∀ d ∈ ds, 1 ≤ d) → (pls p ds).Pairwise (· < ·)
  | [], p, _ => by simp [pls]
  | d :: ds, p, h => by
    rw [pls, List.pairwise_cons]
    refine ⟨fun x hx => ?_, pls_sorted fun x hx => h x (List.mem_cons_of_mem _ hx)⟩
    have := pls_ge hx
    have := h d List.mem_cons_self
    lia
theorem pls_shift : ∀ {ds : List Nat} {p x : Nat}, x ∈ pls p ds ↔ p ≤ x ∧ x - p ∈ pls 0 ds
  | [], p, x => by simp only [pls, List.mem_singleton]; lia
  | d :: ds, p, x => by
    simp only [pls, List.mem_cons]
    rw [pls_shift (p := p + d) (x := x), pls_shift (p := 0 + d) (x := x - p)]
    constructor
    · rintro (h | ⟨h1, h2⟩)
      · exact ⟨by lia, .inl (by lia)⟩
      · exact ⟨by lia, .inr ⟨by lia, by rw [show x - p - (0 + d) = x - (p + d) by lia]; exact h2⟩⟩
    · rintro ⟨h1, h | ⟨h2, h3⟩⟩
      · exact .inl (by lia)
      · exact .inr ⟨by lia, by rw [show x - (p + d) = x - p - (0 + d) by lia]; exact h3⟩
/-- in the text of single steps the word lies at the places alone -/
theorem tx_oc {w : List Nat} : ∀ {ds : List Nat}, (∀ d ∈ ds, Sg w d) → ∀ p, Oc w (tx w ds) p ↔ p ∈ pls 0 ds
  | [], _, p => by
    simp only [tx, pls, List.mem_singleton]
    constructor
    · intro h; have := h.le; lia
    · rintro rfl; exact ⟨[], [], by simp, rfl⟩
  | d :: ds, h, p => by
    have hd := h d List.mem_cons_self
    obtain ⟨⟨d1, d2, d3⟩, d4⟩ := hd
    have ih := tx_oc fun x hx => h x (List.mem_cons_of_mem d hx)
    have hl : (w.take d).length = d := by rw [List.length_take]; lia
    obtain ⟨z, hz⟩ := tx_pre (w := w) (ds := ds) fun x hx => (h x (List.mem_cons_of_mem d hx)).1
    rw [tx, pls, List.mem_cons, pls_shift (p := 0 + d)]
    by_cases hp : d ≤ p
    · have : Oc w (w.take d ++ tx w ds) p ↔ Oc w (tx w ds) (p - d) := by
        have := oc_app (w := w) (a := w.take d) (t := tx w ds) (p := p - d)
        rw [hl, show d + (p - d) = p by lia] at this
        exact this
      rw [this, ih, Nat.zero_add]
      constructor
      · intro q; exact .inr ⟨hp, q⟩
      · rintro (q | q)
        · lia
        · exact q.2
    · constructor
      · intro q
        by_cases p0 : p = 0
        · exact .inl p0
        · exfalso
          rw [hz, ← List.append_assoc] at q
          exact d4 p (by lia) (by lia) (q.cut (by rw [List.length_append, hl]; lia))
      · rintro (q | q)
        · subst q
          rw [hz, ← List.append_assoc, per_text ⟨d1, d2, d3⟩]
          exact ⟨[], kyd w d ++ z, by simp, rfl⟩
        · lia
/-! ### counts and numbers -/
/-- the counts of the program -/
def cl (S : List Nat) (L : Nat) : Nat → List Nat
  | 0 => List.replicate L 0 ++ [1]
  | k + 1 => cl S L k ++ [(S.map fun d => (cl S L k).getD ((cl S L k).length - d) 0).sum]
theorem cl_len (S : List Nat) (L : Nat) : ∀ k, (cl S L k).length = L + 1 + k
  | 0 => by simp [cl]
  | k + 1 => by rw [cl, List.length_append, cl_len S L k]; rfl
def cn (S : List Nat) (L n : Nat) : Nat := (cl S L n).getD n 0
theorem cl_more {S : List Nat} {L k n : Nat} (h : n < L + 1 + k) : ∀ j, (cl S L (k + j)).getD n 0 = (cl S L k).getD n 0
  | 0 => rfl
  | j + 1 => by
    rw [← Nat.add_assoc, cl, List.getD_eq_getElem?_getD, List.getElem?_append_left (by rw [cl_len]; lia), ← List.getD_eq_getElem?_getD]
    exact cl_more h j
theorem cl_cn {S : List Nat} {L k n : Nat} (h : n < L + 1 + k) : (cl S L k).getD n 0 = cn S L n := by
  unfold cn
  rcases Nat.le_total k n with z | z
  · have := cl_more (S := S) h (n - k)
    rw [show k + (n - k) = n by lia] at this
    exact this.symm
  · have := cl_more (S := S) (L := L) (k := n) (n := n) (by lia) (k - n)
    rw [show n + (k - n) = k by lia] at this
    exact this
theorem cn_low {S : List Nat} {L n : Nat} (h : n < L) : cn S L n = 0 := by
  rw [← cl_cn (k := 0) (by lia), cl, List.getD_eq_getElem?_getD, List.getElem?_append_left (by rw [List.length_replicate]; lia), List.getElem?_replicate, if_pos h]
  rfl
theorem cn_one {S : List Nat} {L : Nat} : cn S L L = 1 := by
  rw [← cl_cn (k := 0) (by lia), cl]
  simp [List.getD_eq_getElem?_getD]
theorem sumc {l : List Nat} {g h : Nat → Nat} (e : ∀ c ∈ l, g c = h c) : (l.map g).sum = (l.map h).sum := by rw [List.map_congr_left e]
theorem cn_step {S : List Nat} {L n : Nat} (hS : ∀ d ∈ S, 1 ≤ d) (h : L < n) : cn S L n = (S.map fun d => cn S L (n - d)).sum := by
  obtain ⟨k, rfl⟩ : ∃ k, n = L + 1 + k := ⟨n - L - 1, by lia⟩
  rw [← cl_cn (k := k + 1) (by lia), cl, List.getD_eq_getElem?_getD, List.getElem?_append_right (by rw [cl_len]; lia), cl_len, Nat.sub_self]
  show (S.map fun d => (cl S L k).getD (L + 1 + k - d) 0).sum = _
  exact sumc fun d hd => cl_cn (by have := hS d hd; lia)
/-- the same steps in another order -/
theorem cn_perm {S T : List Nat} {L : Nat} (hS : ∀ d ∈ S, 1 ≤ d) (p : S.Perm T) : ∀ n, cn S L n = cn T L n := by
  intro n
  induction n using Nat.strongRecOn with
  | ind n ih =>
    have hT : ∀ d ∈ T, 1 ≤ d := fun d hd => hS d (p.mem_iff.mpr hd)
    rcases Nat.lt_trichotomy n L with z | z | z
    · rw [cn_low z, cn_low z]
    · subst z; rw [cn_one, cn_one]
    · rw [cn_step hS z, cn_step hT z, sumc (l := S) (g := fun d => cn S L (n - d)) (h := fun d => cn T L (n - d)) fun d hd => ih (n - d) (by have := hS d hd; lia)]
      exact (p.map _).sum_nat
/-- the steps ahead of one -/
def pre (S : List Nat) (d : Nat) : List Nat := S.takeWhile (· ≠ d)
/-- the number of the text of these steps -/
def rk (S : List Nat) (L : Nat) : List Nat → Nat
  | [] => 0
  | d :: ds => ((pre S d).map fun s => cn S L (L + (d + ds.sum) - s)).sum + rk S L ds
section
variable {S : List Nat} {L : Nat}
end
/-! ### the order of the texts -/
section
variable {w S : List Nat}
/-- sorted by what they add -/
def ByKey (w S : List Nat) : Prop := S.Pairwise fun a b => ltL (codes (kyd w b)) (codes (kyd w a)) = false
end
/-! ### lengths to which shifts lead -/
/-! ### covered, laid, places -/
theorem lies_oc {t u : List Nat} {p : Nat} : p ∈ liesIn t u ↔ Oc u t p := by
  rw [oc_iff]
  unfold liesIn
  rw [List.mem_filter]
  simp only [List.mem_range, decide_eq_true_eq]
  constructor
  · rintro ⟨h1, h2⟩; exact ⟨by lia, h2⟩
  · rintro ⟨h1, h2⟩; exact ⟨by lia, h2⟩
theorem sort_ext : ∀ {a b : List Nat}, a.Pairwise (· < ·) → b.Pairwise (· < ·) → (∀ x, x ∈ a ↔ x ∈ b) → a = b
  | [], [], _, _, _ => rfl
  | [], y :: b, _, _, h => by have := (h y).mpr List.mem_cons_self; cases this
  | x :: a, [], _, _, h => by have := (h x).mp List.mem_cons_self; cases this
  | x :: a, y :: b, ha, hb, h => by
    have ha' := List.pairwise_cons.mp ha
    have hb' := List.pairwise_cons.mp hb
    have e : x = y := by
      rcases List.mem_cons.mp ((h x).mp List.mem_cons_self) with q | q
      · exact q
      · rcases List.mem_cons.mp ((h y).mpr List.mem_cons_self) with r | r
        · exact r.symm
        · have := ha'.1 y r; have := hb'.1 x q; lia
    subst e
    congr 1
    refine sort_ext ha'.2 hb'.2 fun z => ?_
    have hz := h z
    rw [List.mem_cons, List.mem_cons] at hz
    constructor
    · intro q
      rcases hz.mp (.inr q) with r | r
      · subst r; exact absurd (ha'.1 z q) (Nat.lt_irrefl _)
      · exact r
    · intro q
      rcases hz.mpr (.inr q) with r | r
      · subst r; exact absurd (hb'.1 z q) (Nat.lt_irrefl _)
      · exact r
theorem lies_tx {u ds : List Nat} (h : ∀ d ∈ ds, Sg u d) : liesIn (tx u ds) u = pls 0 ds :=
  sort_ext (lies_sorted _ _) (pls_sorted fun d hd => (h d hd).1.1) fun x => by rw [lies_oc, tx_oc h]
theorem mem_shifts {u : List Nat} {d : Nat} : d ∈ shiftsOf u ↔ PerW u d := by
  unfold shiftsOf PerW
  rw [List.mem_filter, List.mem_map, decide_eq_true_eq]
  constructor
  · rintro ⟨⟨q, hq, rfl⟩, h⟩
    rw [List.mem_range] at hq
    exact ⟨by lia, by lia, h⟩
  · rintro ⟨h1, h2, h3⟩
    exact ⟨⟨d - 1, by rw [List.mem_range]; lia, by lia⟩, h3⟩
/-- the test of the program -/
theorem sg_test {u : List Nat} {d : Nat} (h : PerW u d) : liesIn (u.take d ++ u) u = [0, d] ↔ Sg u d := by
  have dl : (u.take d).length = d := by rw [List.length_take]; have := h.2.1; lia
  constructor
  · intro e
    refine ⟨h, fun j j1 j2 hj => ?_⟩
    have := lies_oc.mpr hj
    rw [e] at this
    simp at this; lia
  · intro hs
    have := lies_tx (u := u) (ds := [d]) fun x hx => by rw [List.mem_singleton.mp hx]; exact hs
    rw [show tx u [d] = u.take d ++ u from rfl] at this
    rw [this]; simp [pls]
def singles (u : List Nat) : List Nat := (shiftsOf u).filter fun d => decide (liesIn (u.take d ++ u) u = [0, d])
theorem mem_singles {u : List Nat} {d : Nat} : d ∈ singles u ↔ Sg u d := by
  unfold singles
  rw [List.mem_filter, mem_shifts, decide_eq_true_eq]
  constructor
  · rintro ⟨h1, h2⟩; exact (sg_test h1).mp h2
  · intro h; exact ⟨h.1, (sg_test h.1).mpr h⟩
theorem singles_nodup (u : List Nat) : (singles u).Nodup := by
  unfold singles shiftsOf
  refine List.Pairwise.filter _ (List.Pairwise.filter _ ?_)
  rw [List.pairwise_map]
  exact List.Pairwise.imp (fun h => by lia) List.nodup_range
/-- what holds of the program's steps -/
structure Stp (u S : List Nat) : Prop where
  perm : S.Perm (singles u)
  key : ByKey u S
theorem Stp.mem {u S : List Nat} (h : Stp u S) {d : Nat} : d ∈ S ↔ Sg u d := h.perm.mem_iff.trans mem_singles
theorem Stp.one {u S : List Nat} (h : Stp u S) : ∀ d ∈ S, 1 ≤ d := fun d hd => (h.mem.mp hd).1.1
theorem Stp.len {u S : List Nat} (h : Stp u S) : S.length ≤ u.length := by
  rw [h.perm.length_eq]
  refine Nat.le_trans (List.length_filter_le _ _) ?_
  refine Nat.le_trans (List.length_filter_le _ _) ?_
  simp
/-- the number of texts -/
def cnt (u : List Nat) (n : Nat) : Nat := cn (singles u) u.length n
theorem Stp.cn {u S : List Nat} (h : Stp u S) (n : Nat) : cn S u.length n = cnt u n := cn_perm h.one h.perm n

end Ov

namespace Ov
open PySem L2
theorem take_at {α : Type} {l : List α} {j : Nat} {x : α} (h : l[j]? = some x) : l.take (j + 1) = l.take j ++ [x] := by
  rw [List.take_add_one, h]; rfl
theorem nm_int {k : Nat} {v : V} {j : Int} {σ : St} {H : Hp} {R : St → Hp → Prop} (e : v = .int j) (h : gName k (.int j) σ H R) : gName k v σ H R := by rw [e]; exact h
theorem fseq_set {te : TE} {i : Nat} {rest : TS} {D : Ends} {σ : St} {H : Hp} (h : te σ H fun x H1 => rest D (σ.set i (some x)) H1) : tSeq (tAsg te (gName i)) rest D σ H := h
theorem filter_at {l : List Nat} {f : Nat → Bool} {i o : Nat} (h : l[i]? = some o) : (l.take (i + 1)).filter f = (l.take i).filter f ++ (if f o = true then [o] else []) := by
  rw [take_at h, List.filter_append]
  congr 1
  by_cases hf : f o = true <;> simp [hf]

end Ov

namespace Ov
open PySem L2
open PySem.Spec PyProof.Rows
/-! ### a def whose code is known -/
structure FFC (K : PySem.W.Frag) (x : Str) (st : Stmt) (cc : Addr) : Prop where
  ex : ∃ (f : Addr) (oc : Value) (od an : Option Addr) (osl : Array (Option Value)) (kV doc pm ct : Value), PySem.W.nsIn K mainGlobals x = some (some (.ref f)) ∧
    K.lookup f = some ⟨oc, od, .func (PySem.W.fnOf x x (defArgs st) (defBody st) (defScope st) .none kV doc pm an (.ref cc) ct), osl⟩ ∧ PySem.W.codeIn K (.ref cc) x = true ∧ PySem.W.keepIn K (.ref f) = true
theorem ffc_mk {K : PySem.W.Frag} {x : Str} {st : Stmt} {f cc : Addr} {oc : Value} {od an : Option Addr} {osl : Array (Option Value)} {kV doc pm ct : Value} (a : PySem.W.nsIn K mainGlobals x = some (some (.ref f)))
    (l : K.lookup f = some ⟨oc, od, .func (PySem.W.fnOf x x (defArgs st) (defBody st) (defScope st) .none kV doc pm an (.ref cc) ct), osl⟩) (c : PySem.W.codeIn K (.ref cc) x = true) (k : PySem.W.keepIn K (.ref f) = true) : FFC K x st cc := ⟨f, oc, od, an, osl, kV, doc, pm, ct, a, l, c, k⟩
theorem fn_okC {P : Program} {w : World} {K : PySem.W.Frag} {mg : Str → Option Value} {base : Heap} {x : Str} {st : Stmt} {N ps : List Str} {k : Nat} {sp : Sp} {cc : Addr} (M : Md K mg) (F : FFC K x st cc) (S : FnScope N ps (defScope st))
    (hbind : ∀ (kV doc pm : Value) (an : Option Addr) (cdv ct : Value) (us : List Value), us.length = ps.length → bindArgs (PySem.W.fnOf x x (defArgs st) (defBody st) (defScope st) .none kV doc pm an cdv ct) ⟨us, []⟩ = pure (ps.zip us))
    (len : ∀ vs H Q E, sp vs H Q E → vs.length = ps.length)
    (hbody : ∀ (f : Addr) (A : Around) (outer : List Env) (s : Shared) (H : Hp) (vs : List V) (Q : VK) (E : XK), Room k (A.deeper (envOfC x (defScope st) s.heap.objs.size f (.ref cc))) → sp vs H Q E →
      ∃ t, PSs (cxOf CX0 P w K mg base N x (defScope st) f (.ref cc) A outer s H E).nox (defBody st) t ∧ t { nx := fun _ H' => Q .non H', rt := Q } (start N vs) H) : Fn P w K mg base CX0 x (k + 1) ps sp := by
  obtain ⟨f, oc, od, an, osl, kV, doc, pm, ct, a, l, c, kk⟩ := F.ex
  have F1 := fun_mk (st := st) l c kk
  refine ⟨f, _, fn_of l c S len (fun A outer s H vs Q E hr h => ?_), M.ns _ _ a, kk, F1.binds hbind, oc, od, osl, l⟩
  obtain ⟨t, h1, q⟩ := hbody f A outer s H vs Q E hr h
  exact ⟨t, h1.nox, q⟩
abbrev sSingle : Stmt := top 17
def lamP : Pos := ⟨41, 29, 41, 65⟩
abbrev lamQ : Str := (envOfC "single_steps" (defScope sSingle) 0 0 .none).qual ++ "<lambda>"
abbrev lamS : Scope := { kind := .function, names := [(PySem.Str.ofString "step", .local), (PySem.Str.ofString "word", .free), (PySem.Str.ofString "len", .globalImplicit)], isGenerator := false, isCoroutine := false, more := [] }
theorem scLam : LamSc "word" "step" lamS := ⟨rfl, rfl, rfl, by decide +kernel, by decide +kernel, by decide +kernel, by decide +kernel⟩
abbrev lamT (K : PySem.W.Frag) : TE := tSl (rSlL K) (tVar 0) (tPart (tOp (rI0 fun i j => .int (i - j)) (tLenL K (tVar 0)) (tVar 1))) tNoPart
/-- the table of lambdas -/
abbrev TB (H : Hp) (pt : Addr) : Prop := Tab H pt lamP lamQ
theorem TB.ne {H : Hp} {pt a : Addr} {xs : List V} (h : TB H pt) (ha : H a = some (.lst xs)) : a ≠ pt := fun z => by
  rw [z] at ha
  rcases h with t | ⟨c, t, _⟩ <;> (rw [ha] at t; cases t)
def spSingle (pt : Addr) : Sp := fun vs H Q _ => ∃ (a : Addr) (u : List Nat), vs = [.ref a] ∧ H a = some (.lst (u.map sg)) ∧ Low u ∧ 1 ≤ u.length ∧ u.length ≤ 400 ∧ TB H pt ∧
  ∀ (r : Addr) (S : List Nat) (H' : Hp), H r = none → H' r = some (.lst (vInts S)) → Stp u S → Keep pt H H' → TB H' pt → Q (.ref r) H'
theorem back_nat {S0 : List Nat} {ms : List Int} (h : ms.Perm (S0.map fun (k : Nat) => (k : Int))) : ∃ S : List Nat, S.Perm S0 ∧ ms = S.map fun (k : Nat) => (k : Int) := by
  refine ⟨ms.map Int.toNat, ?_, ?_⟩
  · have := h.map Int.toNat
    rw [List.map_map] at this
    have e : S0.map (Int.toNat ∘ fun (k : Nat) => (k : Int)) = S0 := by
      conv => rhs; rw [← List.map_id S0]
      exact List.map_congr_left fun x _ => by simp
    rw [e] at this
    exact this
  · rw [List.map_map]
    conv => lhs; rw [← List.map_id ms]
    refine List.map_congr_left fun x hx => ?_
    obtain ⟨k, _, rfl⟩ := List.mem_map.mp (h.mem_iff.mp hx)
    simp
theorem cast_inj {a b : List Nat} (h : (a.map fun (k : Nat) => (k : Int)) = b.map fun (k : Nat) => (k : Int)) : a = b := by
  have := congrArg (List.map Int.toNat) h
  rw [List.map_map, List.map_map] at this
  have e : ∀ l : List Nat, l.map (Int.toNat ∘ fun (k : Nat) => (k : Int)) = l := fun l => by
    conv => rhs; rw [← List.map_id l]
    exact List.map_congr_left fun x _ => by simp
  rw [e, e] at this
  exact this
section
variable {P : Program} {w : World} {K : PySem.W.Frag} {mg : Str → Option Value} {base : Heap}
theorem scSingle : FnScope ["word", "steps"] ["word"] (defScope sSingle) := ⟨rfl, rfl, rfl, by decide +kernel, rfl, by decide +kernel, by decide +kernel⟩
theorem ok_single {cc pt : Addr} (M : Md K mg) (B : Bl mg) (nsorted : mg "sorted" = none) (C : PySem.W.CodeHd base cc pt) (hB : Bmn mg base) (F : FFC K "single_steps" sSingle cc) (Fshifts : Fn P w K mg base CX0 "shifts" 5 ["word"] spShifts) (Flies_at : Fn P w K mg base CX0 "lies_at" 4 ["text", "word"] spLies) : Fn P w K mg base CX0 "single_steps" 6 ["word"] (spSingle pt) := by
  refine fn_okC M F scSingle (fun _ _ _ _ _ _ => us1 fun _ => rfl) (fun vs H Q E h => ?_) (fun f A outer s H vs Q E hr h => ?_)
  · obtain ⟨a, u, rfl, _⟩ := h; rfl
  · obtain ⟨a, u, rfl, ha, lu, u1, ul, T, k⟩ := h
    have hcl : ∀ cw, (cxOf CX0 P w K mg base ["word", "steps"] "single_steps" (defScope sSingle) f (.ref cc) A outer s H E).nox.env.cells.lookup ("word" : Str) = some cw → closureFor lamS (cxOf CX0 P w K mg base ["word", "steps"] "single_steps" (defScope sSingle) f (.ref cc) A outer s H E).nox.env = pure [(("word" : Str), cw)] := by
      intro cw e
      have e' : some (s.heap.objs.size + 1) = some cw := e
      cases e'
      rfl
    refine ⟨_, (pss_cons (ps_setC (i := 1) ["word", "steps"] rfl scSingle.nd rfl (.inl rfl) (pi_list (pe_fn Fshifts hr pass0 (pa_cons (pv 0) pa_nil))) (fun _ => by exact (pif_one (pt_cmpR (op_eqLI (by exact hr)) (pe_fn Flies_at hr pass0 (pa_cons (pe_op op_cat (pe_slice sl_list (pv 0) po_none (po_some (pv 2))) (pv 0)) (pa_cons (pv 0) pa_nil))) (pe_lst (pa_cons pe_int (pa_cons (pv 2) pa_nil))) (nomark _)))) (fun _ => by exact (pv 2)))
      (pss_one (ps_ret (pe_sortLam (iw := 0) (tb := lamT K) rfl nsorted hr rfl C hB scLam (by decide) rfl rfl hcl rfl (fun _ _ _ _ _ _ => rfl) (pv 1) (fun _ _ _ _ _ _ _ => (pe_slice sl_list (pv 0) (po_some (pe_op op_sub (pe_lenL B.len (pv 0)) (pv 1))) po_none)))))), ?_⟩
    have nap := T.ne ha
    refine ⟨_, rfl, a, u, rfl, ha, lu, u1, by lia, fun st H1 hst0 hst1 s1 => ?_⟩
    refine ⟨st, rfl, ⟨_, SqL.of hst1⟩, fun D hD cb => ?_⟩
    have sl := shifts_len u
    refine comp_list (K := K) (a := st) (xs := vInts (shiftsOf u)) (fun i ys H2 => ys = vInts (((shiftsOf u).take i).filter fun d => decide (liesIn (u.take d ++ u) u = [0, d])) ∧ Same H1 H2 ∧ H2 D = some (.lst ys)) (by rw [vInts_len]; exact small1000 (by lia)) ?_ ?_ ?_ ?_ ?_
    · exact ⟨rfl, Same.upd hD, upd_same⟩
    · rintro i ys H2 ⟨rfl, _⟩
      rw [vInts_len]
      exact Nat.le_trans (List.length_filter_le _ _) (by rw [List.length_take]; lia)
    · rintro i ys H2 _ ⟨_, s2, _⟩; exact SqL.of (s2 _ _ hst1)
    · rintro i x ys H2 hx ⟨rfl, s2, hD2⟩
      obtain ⟨d, hd, rfl⟩ := vInts_get hx
      obtain ⟨d1, d2, d3⟩ := mem_shifts.mp (List.mem_of_getElem? hd)
      have ha2 := s2 _ _ (s1 _ _ ha)
      refine ⟨_, rfl, _, rfl, _, rfl, a, _, rfl, SqL.of ha2, fun q1 hq1 => ?_⟩
      have e1 : cutV (u.map sg) none (some (d : Int)) = (u.take d).map sg := by
        rw [cutV_cutL, cutL_map, cutL_hi _ _ (by lia), show ((d : Nat) : Int).toNat = d by lia]
      rw [e1]
      have s3 := Same.upd (o := .lst ((u.take d).map sg)) hq1
      have hq3 := upd_same (H := H2) (a := q1) (o := .lst ((u.take d).map sg))
      generalize L2.upd H2 q1 (.lst ((u.take d).map sg)) = H3 at s3 hq3 ⊢
      refine ⟨_, rfl, cat_sg hq3 (s3 _ _ ha2) (by rw [List.length_take]; lia) fun q2 hq2 => ?_⟩
      have s4 := Same.upd (o := .lst ((u.take d ++ u).map sg)) hq2
      have hq4 := upd_same (H := H3) (a := q2) (o := .lst ((u.take d ++ u).map sg))
      generalize L2.upd H3 q2 (.lst ((u.take d ++ u).map sg)) = H4 at s4 hq4 ⊢
      have s24 := s3.trans s4
      refine ⟨_, rfl, q2, a, u.take d ++ u, u, rfl, hq4, s24 _ _ ha2, (lu.take _).app lu, lu, by rw [List.length_append, List.length_take]; lia, by lia, u1, fun r5 H5 hr50 hr51 s5 => ?_⟩
      refine ⟨_, rfl, (by show 2 ≤ sizeLine; decide), fun e0 he0 => ?_⟩
      have s6 := Same.upd (o := .lst [V.int 0, V.int (d : Int)]) he0
      have he6 := upd_same (H := H5) (a := e0) (o := .lst [V.int 0, V.int (d : Int)])
      generalize L2.upd H5 e0 (.lst [V.int 0, V.int (d : Int)]) = H6 at s6 he6 ⊢
      have s26 := s24.trans (s5.trans s6)
      refine ⟨r5, e0, (liesIn (u.take d ++ u) u).map (fun (k : Nat) => (k : Int)), [0, (d : Int)], rfl, rfl, SqL.of (s6 _ _ hr51), SqL.of he6, _, rfl, ?_⟩
      have stp := filter_at (f := fun d => decide (liesIn (u.take d ++ u) u = [0, d])) hd
      have hD6 := s26 _ _ hD2
      by_cases h1 : liesIn (u.take d ++ u) u = [0, d]
      · have h1' : ((liesIn (u.take d ++ u) u).map (fun (k : Nat) => (k : Int)) = [0, (d : Int)]) := by rw [h1]; rfl
        rw [if_neg (by decide), decide_eq_true h1']
        refine iteT ⟨_, rfl, hD6, ?_, fun e o' z => by rw [upd_ne (ne_of_none z hD)]; exact s26 _ _ (s2 _ _ z), upd_same⟩
        rw [stp, if_pos (by simpa using h1), vInts_snoc']
      · have h1' : ¬ ((liesIn (u.take d ++ u) u).map (fun (k : Nat) => (k : Int)) = [0, (d : Int)]) := fun z => h1 (cast_inj z)
        rw [if_neg (by decide), decide_eq_false h1']
        refine iteF ⟨?_, s2.trans s26, hD6⟩
        rw [stp, if_neg (by simpa using h1), List.append_nil]
    · rintro ys H2 ⟨rfl, s2, hD2⟩
      rw [vInts_len, List.take_length] at hD2
      have nD : H D = none := s1.free hD
      have T2 : TB H2 pt := Tab.same (Tab.same T s1) s2
      refine ⟨_, rfl, D, (singles u).map fun (k : Nat) => (k : Int), .ref a, fun n => kyd u n.toNat, rfl, ?_, ?_, rfl, T2, fun n hn H3 k3 => ?_, fun r ms H3 pm pw k3 tb hr0 hr1 => ?_⟩
      · exact hD2
      · rw [List.length_map]; exact Nat.le_trans (List.length_filter_le _ _) (by lia)
      · obtain ⟨d, hd, rfl⟩ := List.mem_map.mp hn
        have hdl := (mem_singles.mp hd).1.2.1
        have ha2 := s2 _ _ (s1 _ _ ha)
        have ha3 := k3 _ _ ha2 nap
        refine ⟨_, rfl, _, rfl, a, _, rfl, SqL.of ha3, _, rfl, _, _, rfl, rfl, _, rfl, a, _, rfl, SqL.of ha3, fun q1 hq1 => ?_⟩
        have e1 : cutV (u.map sg) (some (((u.map sg).length : Nat) - (d : Int))) none = (kyd u d).map sg := by
          rw [List.length_map, show ((u.length : Int) - (d : Int)) = ((u.length - d : Nat) : Int) by lia, cut_lo (by lia)]; rfl
        rw [e1]
        exact ⟨q1, rfl, upd_same, Same.upd hq1⟩
      · obtain ⟨S, pS, rfl⟩ := back_nat pm
        refine k r S H3 ((s1.trans s2).free hr0) hr1 ⟨pS, ?_⟩ (fun c o h n => k3 _ _ (s2 _ _ (s1 _ _ h)) n) (.inr tb)
        unfold ByKey
        rw [List.pairwise_map] at pw
        exact pw
end

end Ov

namespace Ov
open PySem L2
abbrev sCounts : Stmt := top 18
def spCounts : Sp := fun vs H Q _ => ∃ (a b : Addr) (u S : List Nat) (n : Nat), vs = [.ref a, .ref b, .int (n : Int)] ∧ H a = some (.lst (u.map sg)) ∧ H b = some (.lst (vInts S)) ∧ 1 ≤ u.length ∧ u.length ≤ 400 ∧ S.length ≤ 400 ∧ n ≤ 300 ∧ (∀ d ∈ S, 1 ≤ d ∧ d ≤ u.length) ∧
  ∀ (r : Addr) (k : Nat) (H' : Hp), H r = none → H' r = some (.lst (vInts (cl S u.length k))) → n < u.length + 1 + k → Same H H' → Q (.ref r) H'
theorem atI_vI {l : List Nat} {j : Nat} (h : j < l.length) : atI (vInts l) (j : Int) = some (.int ((l.getD j 0 : Nat) : Int)) := by
  refine atI_nat ?_
  unfold vInts
  rw [List.map_map, List.getElem?_map, List.getD_eq_getElem?_getD]
  simp [h]
theorem sum_cast (l : List Nat) : (l.map fun (k : Nat) => (k : Int)).sum = ((l.sum : Nat) : Int) := by
  induction l with
  | nil => rfl
  | cons x r ih => rw [List.map_cons, List.sum_cons, ih, List.sum_cons]; lia
theorem map_at {l : List Nat} {f : Nat → Nat} {i o : Nat} (h : l[i]? = some o) : (l.take (i + 1)).map f = (l.take i).map f ++ [f o] := by
  rw [take_at h, List.map_append]; rfl
section
variable {P : Program} {w : World} {K : PySem.W.Frag} {mg : Str → Option Value} {base : Heap}
theorem scCounts : FnScope ["word", "steps", "length", "counts"] ["word", "steps", "length"] (defScope sCounts) := ⟨rfl, rfl, rfl, by decide +kernel, rfl, by decide +kernel, by decide +kernel⟩
theorem ok_counts (M : Md K mg) (B : Bl mg) (F : FF K "counts_by_length" sCounts) : Fn P w K mg base CX0 "counts_by_length" 1 ["word", "steps", "length"] spCounts := by
  refine fn_ok M F scCounts (fun _ _ _ _ _ _ => us3 fun _ _ _ => rfl) (fun vs H Q E h => ?_) (fun f cdv A outer s H vs Q E hr h => ?_)
  · obtain ⟨a, b, u, S, n, rfl, _⟩ := h; rfl
  · obtain ⟨a, b, u, S, n, rfl, ha, hb, u1, ul, sl, nl, hS, k⟩ := h
    refine ⟨_, (pss_cons (ps_set (i := 3) scCounts.nd rfl (.inr rfl) (pe_op op_cat (pe_comp ["word", "steps", "length", "counts"] rfl (pi_list (pv 0)) (fun _ => by exact pif_nil) (fun _ => by exact pe_int)) (pe_lst (pa_cons pe_int pa_nil))))
      (pss_cons (ps_while PassesOwn.never (pt_cmpR op_le (pe_lenL B.len (pv 3)) (pv 2) (nomark _)) (pss_one (ps_expr (pe_bm PySem.F.plainAttrs_list PySem.F.slot_list_append PySem.F.type_list_append mt_append (pv 3) (pa_cons (pe_sumG rfl B.sum (pe_comp ["word", "steps", "length", "counts"] rfl (pi_list (pv 1)) (fun _ => by exact pif_nil) (fun _ => by exact (pe_ix ix_list (pv 3) (pe_op op_sub (pe_lenL B.len (pv 3)) (pv 4)) (fun _ _ => rfl))))) pa_nil)))))
      (pss_one (ps_ret (pv 3))))), ?_⟩
    refine ⟨_, rfl, a, rfl, ⟨_, SqL.of ha⟩, fun D hD cb => ?_⟩
    refine comp_list (K := K) (a := a) (xs := u.map sg) (fun i ys H2 => ys = vInts (List.replicate i 0) ∧ Same H H2 ∧ H2 D = some (.lst ys)) (by rw [List.length_map]; exact small1000 (by lia)) ?_ ?_ ?_ ?_ ?_
    · exact ⟨rfl, Same.upd hD, upd_same⟩
    · rintro i ys H2 ⟨rfl, _⟩
      rw [vInts_len, List.length_replicate]; exact Nat.le_refl _
    · rintro i ys H2 _ ⟨_, s2, _⟩; exact SqL.of (s2 _ _ ha)
    · rintro i x ys H2 hx ⟨rfl, s2, hD2⟩
      refine tNoIf_go ⟨hD2, ?_, fun e o' z => by rw [upd_ne (ne_of_none z hD)]; exact s2 _ _ z, upd_same⟩
      rw [List.replicate_succ', vInts_snoc']; rfl
    · rintro ys H2 ⟨rfl, s2, hD2⟩
      rw [List.length_map] at hD2
      refine ⟨(by show 1 ≤ sizeLine; decide), fun e0 he0 => ?_⟩
      have s3 := Same.upd (o := .lst [V.int 1]) he0
      have he3 := upd_same (H := H2) (a := e0) (o := .lst [V.int 1])
      generalize L2.upd H2 e0 (.lst [V.int 1]) = H3 at s3 he3 ⊢
      refine ⟨D, e0, _, _, rfl, rfl, s3 _ _ hD2, he3, by rw [vInts_len, List.length_replicate]; exact Nat.le_of_lt (small1000 (by show u.length + 1 ≤ 1000; lia)), fun c hc => ?_⟩
      have e4 : vInts (List.replicate u.length 0) ++ [V.int 1] = vInts (cl S u.length 0) := by rw [cl, vInts_snoc']; rfl
      rw [e4]
      have s4 := Same.upd (o := .lst (vInts (cl S u.length 0))) hc
      have hc4 := upd_same (H := H3) (a := c) (o := .lst (vInts (cl S u.length 0)))
      have cn : H c = none := (s2.trans s3).free hc
      generalize L2.upd H3 c (.lst (vInts (cl S u.length 0))) = H4 at s4 hc4 ⊢
      have s04 := s2.trans (s3.trans s4)
      refine ⟨fun m σ H5 => ∃ k : Nat, m + k = n + 1 ∧ σ = [some (.ref a), some (.ref b), some (.int (n : Int)), some (.ref c)] ∧ H5 c = some (.lst (vInts (cl S u.length k))) ∧ Same H H5, ⟨n + 1, 0, rfl, rfl, hc4, s04⟩, ?_⟩
      rintro m σ H5 ⟨k0, mk, rfl, hc5, s5⟩
      refine ⟨_, rfl, c, _, rfl, SqL.of hc5, _, rfl, _, _, rfl, rfl, _, rfl, ?_⟩
      rw [vInts_len, cl_len]
      refine ite2 (fun hcd => ?_) (fun hcd => ?_)
      · have hcd' : u.length + 1 + k0 ≤ n := by have := of_decide_eq_true hcd; lia
        have cll := cl_len S u.length k0
        refine ⟨fun σ' H' => ∃ m', m' < m ∧ ∃ k : Nat, m' + k = n + 1 ∧ σ' = [some (.ref a), some (.ref b), some (.int (n : Int)), some (.ref c)] ∧ H' c = some (.lst (vInts (cl S u.length k))) ∧ Same H H', fun _ _ h => h, ?_⟩
        have hb5 := s5 _ _ hb
        refine ⟨_, rfl, .inl ⟨rfl, _, SqL.of hc5⟩, _, rfl, b, rfl, ⟨_, SqL.of hb5⟩, fun G hG cb2 => ?_⟩
        refine comp_list (K := K) (a := b) (xs := vInts S) (fun i ys H6 => ys = vInts ((S.take i).map fun d => (cl S u.length k0).getD ((cl S u.length k0).length - d) 0) ∧ Same H5 H6 ∧ H6 G = some (.lst ys)) (by rw [vInts_len]; exact small1000 (by lia)) ?_ ?_ ?_ ?_ ?_
        · exact ⟨rfl, Same.upd hG, upd_same⟩
        · rintro i ys H6 ⟨rfl, _⟩
          rw [vInts_len, List.length_map, List.length_take]; lia
        · rintro i ys H6 _ ⟨_, s6, _⟩; exact SqL.of (s6 _ _ hb5)
        · rintro i x ys H6 hx ⟨rfl, s6, hG6⟩
          obtain ⟨d, hd, rfl⟩ := vInts_get hx
          obtain ⟨d1, d2⟩ := hS d (List.mem_of_getElem? hd)
          have hc6 := s6 _ _ hc5
          have hat : atI (vInts (cl S u.length k0)) (((vInts (cl S u.length k0)).length : Int) - (d : Int)) = some (.int (((cl S u.length k0).getD ((cl S u.length k0).length - d) 0 : Nat) : Int)) := by
            rw [vInts_len, show (((cl S u.length k0).length : Int) - (d : Int)) = (((cl S u.length k0).length - d : Nat) : Int) by lia]
            exact atI_vI (by lia)
          refine tNoIf_go ⟨_, rfl, _, rfl, c, _, rfl, SqL.of hc6, _, rfl, _, _, rfl, rfl, c, _, _, _, rfl, rfl, SqL.of hc6, hat, hG6, ?_, fun e o' z => by rw [upd_ne (ne_of_none z hG)]; exact s6 _ _ z, upd_same⟩
          rw [map_at hd, vInts_snoc']
        · rintro ys H6 ⟨rfl, s6, hG6⟩
          rw [vInts_len, List.take_length] at hG6
          refine ⟨G, _, rfl, hG6, c, _, _, rfl, rfl, s6 _ _ hc5, by rw [vInts_len, cll]; exact small1000 (by lia), m - 1, by lia, k0 + 1, by lia, rfl, ?_, ?_⟩
          · rw [upd_same, sum_cast, cl, vInts_snoc']
          · intro e o' z
            rw [upd_ne (ne_of_none z cn)]
            exact s6 _ _ (s5 _ _ z)
      · have hcd' : ¬ (((u.length + 1 + k0 : Nat) : Int) ≤ (n : Int)) := fun z => hcd (decide_eq_true z)
        exact ⟨_, rfl, k c k0 H5 cn hc5 (by lia) s5⟩
end

end Ov

namespace Ov
open PySem L2
theorem Stp.le {u S : List Nat} (h : Stp u S) : ∀ d ∈ S, 1 ≤ d ∧ d ≤ u.length := fun d hd => ⟨(h.mem.mp hd).1.1, (h.mem.mp hd).1.2.1⟩

end Ov

namespace Ov
open PySem L2
abbrev sLenOf : Stmt := top 19
/-- the least length of so many texts -/
def LeastLen (u : List Nat) (many : Int) (v : V) : Prop := (∃ n : Nat, v = .int (n : Int) ∧ n ≤ 200 ∧ many ≤ ((cnt u n : Nat) : Int) ∧ ∀ m, m < n → ((cnt u m : Nat) : Int) < many) ∨ (v = .non ∧ ∀ m, m ≤ 200 → ((cnt u m : Nat) : Int) < many)
def spLenOf (pt : Addr) : Sp := fun vs H Q _ => ∃ (b : Addr) (u : List Nat) (many : Int), vs = [.ref b, .int many] ∧ H b = some (.lst (u.map sg)) ∧ Low u ∧ 1 ≤ u.length ∧ u.length ≤ 400 ∧ 1 ≤ many ∧ TB H pt ∧
  ∀ (v : V) (H' : Hp), LeastLen u many v → Keep pt H H' → TB H' pt → Q v H'
theorem cutI_hi {l : List Nat} {n : Nat} : cutV (vInts l) none (some (n : Int)) = vInts (l.take n) := by
  unfold vInts
  rw [cutV_cutL, cutL_map, cutL_map, cutL_hi _ _ (by lia), Int.toNat_natCast]
section
variable {P : Program} {w : World} {K : PySem.W.Frag} {mg : Str → Option Value} {base : Heap}
theorem scLenOf : FnScope ["word", "many", "counts", "length", "count"] ["word", "many"] (defScope sLenOf) := ⟨rfl, rfl, rfl, by decide +kernel, rfl, by decide +kernel, by decide +kernel⟩
theorem ok_len_of {pt : Addr} (M : Md K mg) (B : Bl mg) {uM : Value} (gMOST_LENGTH : mg "MOST_LENGTH" = some uM) (rMOST_LENGTH : RelV (.int 200) uM) (F : FF K "length_of" sLenOf) (Fcheck_word : Fn P w K mg base CX0 "check_word" 3 ["word"] spCheckWord) (Fsingle_steps : Fn P w K mg base CX0 "single_steps" 6 ["word"] (spSingle pt)) (Fcounts_by_length : Fn P w K mg base CX0 "counts_by_length" 1 ["word", "steps", "length"] spCounts) : Fn P w K mg base CX0 "length_of" 7 ["word", "many"] (spLenOf pt) := by
  refine fn_ok M F scLenOf (fun _ _ _ _ _ _ => us2 fun _ _ => rfl) (fun vs H Q E h => ?_) (fun f cdv A outer s H vs Q E hr h => ?_)
  · obtain ⟨b, u, many, rfl, _⟩ := h; rfl
  · obtain ⟨b, u, many, rfl, hb, lu, u1, ul, m1, T, k⟩ := h
    refine ⟨_, (pss_cons (ps_expr (pe_fn Fcheck_word hr pass0 (pa_cons (pv 0) pa_nil)))
      (pss_cons (ps_if (pt_cmpR op_lt (pv 1) pe_int (nomark _)) (pss_one ps_never) pss_nil)
      (pss_cons (ps_set (i := 2) scLenOf.nd rfl (.inl rfl) (pe_fn Fcounts_by_length hr pass0 (pa_cons (pv 0) (pa_cons (pe_fn Fsingle_steps hr pass0 (pa_cons (pv 0) pa_nil)) (pa_cons (pe_glob (v := .int 200) (by rfl) gMOST_LENGTH rMOST_LENGTH) pa_nil)))))
      (pss_cons (ps_for PassesOwn.never rfl (pi_enum B.enumerate (pe_slice sl_list (pv 2) po_none (po_some (pe_op op_add (pe_glob (v := .int 200) (by rfl) gMOST_LENGTH rMOST_LENGTH) pe_int)))) (pg_tup rfl (pgs_cons (pg_name (i := 3) scLenOf.nd rfl (.inl rfl)) (pgs_cons (pg_name (i := 4) scLenOf.nd rfl (.inl rfl)) pgs_nil)))
      (pss_one (ps_if (pt_cmpR op_ge (pv 4) (pv 1) (nomark _)) (pss_one (ps_ret (pv 3))) pss_nil)))
      (pss_one (ps_ret pe_non)))))), ?_⟩
    have nbp := T.ne hb
    refine ⟨_, rfl, b, u, rfl, hb, lu, u1, ?_⟩
    refine ⟨_, rfl, _, _, rfl, rfl, _, rfl, ?_⟩
    rw [decide_eq_false (by lia)]
    refine iteF ?_
    refine ⟨_, rfl, _, rfl, b, u, rfl, hb, lu, u1, ul, T, fun r S H1 hr0 hr1 st k1 T1 => ?_⟩
    refine ⟨b, r, u, S, 200, rfl, k1 _ _ hb nbp, hr1, u1, ul, by have := st.len; lia, by lia, st.le, fun c kk H2 hc0 hc2 hn s2 => ?_⟩
    have k2 : Keep pt H H2 := fun e o h n => s2 _ _ (k1 _ _ h n)
    have T2 := T1.same s2
    refine ⟨_, rfl, _, _, rfl, rfl, _, rfl, c, _, rfl, SqL.of hc2, fun q hq => ?_⟩
    have e1 : cutV (vInts (cl S u.length kk)) none (some ((200 : Int) + 1)) = vInts ((cl S u.length kk).take 201) := cutI_hi (n := 201)
    rw [e1]
    have s3 := Same.upd (o := .lst (vInts ((cl S u.length kk).take 201))) hq
    have hq3 := upd_same (H := H2) (a := q) (o := .lst (vInts ((cl S u.length kk).take 201)))
    generalize L2.upd H2 q (.lst (vInts ((cl S u.length kk).take 201))) = H3 at s3 hq3 ⊢
    have cll : ((cl S u.length kk).take 201).length = 201 := by rw [List.length_take, cl_len]; lia
    refine ⟨q, _, rfl, hq3, ?_⟩
    refine for_enum (a := q) (xs := vInts ((cl S u.length kk).take 201)) (fun i σ H4 => (∀ j, j < i → ((cnt u j : Nat) : Int) < many) ∧ Same H2 H4 ∧ H4 q = some (.lst (vInts ((cl S u.length kk).take 201))) ∧ ∃ v3 v4, σ = [some (.ref b), some (.int many), some (.ref c), v3, v4]) ?_ ?_ ?_ ?_
    · exact ⟨fun j hj => absurd hj (Nat.not_lt_zero _), s3, hq3, _, _, rfl⟩
    · rintro i σ H4 _ ⟨_, _, h4, _⟩
      exact h4
    · rintro i v p σ H4 hv hp ⟨hbf, s4, hq4, v3, v4, rfl⟩
      obtain ⟨x, hx', rfl⟩ := vInts_get hv
      have hi : i < 201 := by have := (List.getElem?_eq_some_iff.mp hx').1; lia
      have ex : x = cnt u i := by
        rw [List.getElem?_take_of_lt hi] at hx'
        rw [← st.cn, ← cl_cn (k := kk) (by lia), List.getD_eq_getElem?_getD, hx']; rfl
      have s5 := Same.upd (o := .tup [V.int (i : Int), V.int (x : Int)]) hp
      have hp5 := upd_same (H := H4) (a := p) (o := .tup [V.int (i : Int), V.int (x : Int)])
      generalize L2.upd H4 p (.tup [V.int (i : Int), V.int (x : Int)]) = H5 at s5 hp5 ⊢
      refine ⟨p, _, rfl, SqT.of hp5, rfl, _, _, rfl, _, _, rfl, rfl, ?_⟩
      refine ⟨_, rfl, _, rfl, _, _, rfl, rfl, _, rfl, ?_⟩
      have s25 := s4.trans s5
      refine ite2 (fun hcd => ?_) (fun hcd => ?_)
      · have hge := of_decide_eq_true hcd
        exact ⟨_, rfl, k _ H5 (.inl ⟨i, rfl, by lia, by rw [← ex]; exact hge, hbf⟩) (fun e o h n => s25 _ _ (k2 _ _ h n)) (T2.same s25)⟩
      · have hlt : ¬ ((x : Int) ≥ many) := fun z => hcd (decide_eq_true z)
        refine ⟨fun j hj => ?_, s25, s5 _ _ hq4, _, _, rfl⟩
        by_cases z : j = i
        · subst z; rw [← ex]; lia
        · exact hbf j (by lia)
    · rintro σ H4 ⟨hbf, s4, hq4, v3, v4, rfl⟩
      rw [vInts_len, cll] at hbf
      exact k _ H4 (.inr ⟨rfl, fun m hm => hbf m (by lia)⟩) (fun e o h n => s4 _ _ (k2 _ _ h n)) (T2.same s4)
end

end Ov

namespace Ov
open PySem L2
/-- the most first signs of w, up to j, that are the last ones of p -/
def mxTo (w p : List Nat) : Nat → Nat
  | 0 => 0
  | j + 1 => if w.take (j + 1) <:+ p then j + 1 else mxTo w p j
def mx (w p : List Nat) : Nat := mxTo w p w.length
theorem mxTo_spec (w p : List Nat) : ∀ n, mxTo w p n ≤ n ∧ w.take (mxTo w p n) <:+ p ∧ ∀ i, i ≤ n → w.take i <:+ p → i ≤ mxTo w p n
  | 0 => ⟨Nat.le_refl _, by simp [mxTo], fun i hi _ => by simpa [mxTo] using hi⟩
  | n + 1 => by
    obtain ⟨h1, h2, h3⟩ := mxTo_spec w p n
    unfold mxTo
    by_cases h : w.take (n + 1) <:+ p
    · rw [if_pos h]
      exact ⟨Nat.le_refl _, h, fun i hi _ => hi⟩
    · rw [if_neg h]
      refine ⟨by lia, h2, fun i hi hs => ?_⟩
      by_cases e : i = n + 1
      · subst e; exact absurd hs h
      · exact h3 i (by lia) hs
theorem mx_le (w p : List Nat) : mx w p ≤ w.length := (mxTo_spec w p _).1
theorem mx_suf (w p : List Nat) : w.take (mx w p) <:+ p := (mxTo_spec w p _).2.1
theorem mx_ge {w p : List Nat} {i : Nat} (hi : i ≤ w.length) (h : w.take i <:+ p) : i ≤ mx w p := (mxTo_spec w p _).2.2 i hi h
theorem mx_eq {w p : List Nat} {j : Nat} (hj : j ≤ w.length) (h : w.take j <:+ p) (hm : ∀ i, i ≤ w.length → w.take i <:+ p → i ≤ j) : mx w p = j :=
  Nat.le_antisymm (hm _ (mx_le w p) (mx_suf w p)) (mx_ge hj h)
theorem mx_full {w p : List Nat} : mx w p = w.length ↔ w <:+ p := by
  constructor
  · intro h
    have := mx_suf w p
    rwa [h, List.take_length] at this
  · intro h
    exact Nat.le_antisymm (mx_le w p) (mx_ge (Nat.le_refl _) (by rw [List.take_length]; exact h))
theorem take_len {w : List Nat} {i : Nat} (h : i ≤ w.length) : (w.take i).length = i := by rw [List.length_take]; lia
/-- of two ends of one text the shorter one is the longer one's end -/
theorem suf_suf {a b p : List Nat} (h1 : a <:+ p) (h2 : b <:+ p) (hl : a.length ≤ b.length) : a <:+ b := List.suffix_of_suffix_length_le h1 h2 hl
theorem suf_snoc {u p : List Nat} {c : Nat} : u <:+ p ++ [c] ↔ u = [] ∨ ∃ v, u = v ++ [c] ∧ v <:+ p := by
  rw [List.suffix_concat_iff]
theorem mx_step (w p : List Nat) (c : Nat) : mx w (p ++ [c]) = mx w (w.take (mx w p) ++ [c]) := by
  have key : ∀ i, i ≤ w.length → (w.take i <:+ p ++ [c] ↔ w.take i <:+ w.take (mx w p) ++ [c]) := by
    intro i hi
    rw [suf_snoc, suf_snoc]
    constructor
    · rintro (h | ⟨v, h1, h2⟩)
      · exact .inl h
      · refine .inr ⟨v, h1, ?_⟩
        have hl : (w.take i).length = v.length + 1 := by rw [h1]; simp
        rw [take_len hi] at hl
        have hv : v = w.take (i - 1) := by
          have := congrArg (List.take (i - 1)) h1
          rw [List.take_take, Nat.min_eq_left (by lia)] at this
          rw [this, List.take_left' (by lia)]
        rw [hv] at h2 ⊢
        have := mx_ge (w := w) (p := p) (i := i - 1) (by lia) h2
        refine suf_suf h2 (mx_suf w p) ?_
        rw [take_len (by lia), take_len (mx_le w p)]
        exact this
    · rintro (h | ⟨v, h1, h2⟩)
      · exact .inl h
      · exact .inr ⟨v, h1, h2.trans (mx_suf w p)⟩
  refine (mx_eq (mx_le w _) ((key _ (mx_le w _)).mpr (mx_suf w _)) fun i hi h => ?_)
  exact mx_ge hi ((key i hi).mp h)
/-- a state and a sign -/
def nx (w : List Nat) (st : Nat × Nat) (c : Nat) : Option (Nat × Nat) :=
  let s := mx w (w.take st.1 ++ [c])
  let b := if s = w.length then 0 else st.2 + 1
  if b > s then none else some (s, b)
/-- how many ways lead to a covered end -/
def fw (w A : List Nat) : Nat → Nat × Nat → Nat
  | 0, st => if st = (w.length, 0) then 1 else 0
  | k + 1, st => (A.map fun c => match nx w st c with | none => 0 | some st' => fw w A k st').sum
theorem fw_zero (w A : List Nat) (st : Nat × Nat) : fw w A 0 st = if st = (w.length, 0) then 1 else 0 := rfl
theorem fw_succ (w A : List Nat) (k : Nat) (st : Nat × Nat) : fw w A (k + 1) st = (A.map fun c => match nx w st c with | none => 0 | some st' => fw w A k st').sum := rfl
theorem sum_zero {l : List Nat} {g : Nat → Nat} (h : ∀ c ∈ l, g c = 0) : (l.map g).sum = 0 := by
  induction l with
  | nil => rfl
  | cons x r ih => rw [List.map_cons, List.sum_cons, h x List.mem_cons_self, ih fun c hc => h c (List.mem_cons_of_mem _ hc)]
theorem sum_cong {l : List Nat} {g h : Nat → Nat} (e : ∀ c ∈ l, g c = h c) : (l.map g).sum = (l.map h).sum := by rw [List.map_congr_left e]
theorem sum_one {l : List Nat} {a : Nat} {g : Nat → Nat} (hn : l.Nodup) (ha : a ∈ l) (h : ∀ c ∈ l, c ≠ a → g c = 0) : (l.map g).sum = g a := by
  induction l with
  | nil => cases ha
  | cons x r ih =>
    rw [List.map_cons, List.sum_cons]; have hn' := List.nodup_cons.mp hn
    rcases List.mem_cons.mp ha with e | e
    · subst e
      rw [sum_zero fun c hc => h c (List.mem_cons_of_mem _ hc) fun z => hn'.1 (z ▸ hc), Nat.add_zero]
    · rw [h x List.mem_cons_self fun z => hn'.1 (z ▸ e), ih hn'.2 e fun c hc => h c (List.mem_cons_of_mem _ hc), Nat.zero_add]
theorem sum_add {l : List Nat} {g h : Nat → Nat} : (l.map fun c => g c + h c).sum = (l.map g).sum + (l.map h).sum := by
  induction l with
  | nil => rfl
  | cons x r ih => rw [List.map_cons, List.sum_cons, List.map_cons, List.sum_cons, List.map_cons, List.sum_cons, ih]; lia
theorem sum_comm {A S : List Nat} {g : Nat → Nat → Nat} : (A.map fun c => (S.map fun d => g c d).sum).sum = (S.map fun d => (A.map fun c => g c d).sum).sum := by
  induction A with
  | nil => symm; exact sum_zero fun _ _ => rfl
  | cons x r ih => rw [List.map_cons, List.sum_cons, ih, ← sum_add]; exact sum_cong fun d _ => by rw [List.map_cons, List.sum_cons]
/-- the steps that are single -/
def Single (w : List Nat) (d : Nat) : Prop := 1 ≤ d ∧ d ≤ w.length ∧ w.drop d = w.take (w.length - d) ∧ ∀ j, 0 < j → j < d → ¬ w <:+ w ++ (w.drop (w.length - d)).take j
theorem step_text {w : List Nat} {d : Nat} (hd : d ≤ w.length) (h : w.drop d = w.take (w.length - d)) : w.take d ++ w = w ++ w.drop (w.length - d) := by
  have e1 : w = w.take d ++ w.take (w.length - d) := by rw [← h, List.take_append_drop]
  have e2 : w.take (w.length - d) ++ w.drop (w.length - d) = w := List.take_append_drop _ _
  calc w.take d ++ w = w.take d ++ (w.take (w.length - d) ++ w.drop (w.length - d)) := by rw [e2]
    _ = (w.take d ++ w.take (w.length - d)) ++ w.drop (w.length - d) := by rw [List.append_assoc]
    _ = w ++ w.drop (w.length - d) := by rw [← e1]
theorem drop_len {w : List Nat} {d : Nat} (hd : d ≤ w.length) : (w.drop (w.length - d)).length = d := by rw [List.length_drop]; lia
/-- alive: what came behind the word is not covered yet, and may be -/
def Al (w x : List Nat) : Prop := x.length ≤ mx w (w ++ x) ∧ ∀ j, 1 ≤ j → j ≤ x.length → ¬ w <:+ w ++ x.take j
theorem suf_of_full {w y : List Nat} (hy : y.length ≤ w.length) (h : w <:+ w ++ y) : w.drop y.length = w.take (w.length - y.length) ∧ y = w.drop (w.length - y.length) := by
  obtain ⟨v, hv⟩ := h
  have hl : v.length = y.length := by have := congrArg List.length hv; simp at this; lia
  have ev : v = w.take y.length := by
    have := congrArg (List.take y.length) hv
    rw [← hl, List.take_left, hl, List.take_append_of_le_length hy] at this
    exact this
  have e : w.take y.length ++ w = w ++ y := by rw [← ev]; exact hv
  constructor
  · have := congrArg (fun l => (l.drop y.length).take (w.length - y.length)) e
    rw [List.drop_left' (take_len hy), List.drop_append_of_le_length hy, List.take_left' (by rw [List.length_drop])] at this
    exact this.symm
  · have := congrArg (List.drop w.length) e
    rw [List.drop_left] at this
    rw [List.drop_append, List.drop_eq_nil_of_le (by rw [take_len hy]; exact hy), List.nil_append, take_len hy] at this
    exact this.symm
section
variable {w A S : List Nat}
/-- the heart: from what is alive on, by single steps -/
theorem fw_main (w1 : 1 ≤ w.length) (hA : A.Nodup) (hwA : ∀ c ∈ w, c ∈ A) (hSn : S.Nodup) (hS : ∀ d, d ∈ S ↔ Single w d) : ∀ (m : Nat) (x : List Nat), Al w x →
    fw w A m (mx w (w ++ x), x.length) = (if x = [] ∧ m = 0 then 1 else 0) + (S.map fun d => if x.length < d ∧ x <+: w.drop (w.length - d) ∧ d - x.length ≤ m then fw w A (m - (d - x.length)) (w.length, 0) else 0).sum
  | 0, x, hx => by
    have z : (S.map fun d => if x.length < d ∧ x <+: w.drop (w.length - d) ∧ d - x.length ≤ 0 then fw w A (0 - (d - x.length)) (w.length, 0) else 0).sum = 0 := sum_zero fun d _ => by rw [if_neg (by lia)]
    rw [z, Nat.add_zero, fw_zero]
    by_cases e : x = []
    · subst e
      rw [if_pos (by simp; exact mx_full.mpr (by simp)), if_pos ⟨rfl, rfl⟩]
    · have : x.length ≠ 0 := fun z => e (List.length_eq_zero_iff.mp z)
      rw [if_neg (fun z => this (Prod.mk.inj z).2), if_neg (fun z => e z.1)]
  | m + 1, x, hx => by
    rw [if_neg (by lia), Nat.zero_add, fw_succ]
    have one : ∀ c, (match nx w (mx w (w ++ x), x.length) c with | none => 0 | some st' => fw w A m st') = (S.map fun d => if x.length < d ∧ (x ++ [c]) <+: w.drop (w.length - d) ∧ d - x.length ≤ m + 1 then fw w A (m + 1 - (d - x.length)) (w.length, 0) else 0).sum := by
      intro c
      have es : mx w (w.take (mx w (w ++ x)) ++ [c]) = mx w (w ++ (x ++ [c])) := by rw [← mx_step, List.append_assoc]
      have yl : (x ++ [c]).length = x.length + 1 := by simp
      have hx1 : x.length + 1 ≤ w.length := by
        have h1 := hx.1
        have h2 := mx_le w (w ++ x)
        by_cases e : x = []
        · subst e; simpa using w1
        · have : x.length ≠ 0 := fun z => e (List.length_eq_zero_iff.mp z)
          have h3 := hx.2 x.length (by lia) (Nat.le_refl _)
          rw [List.take_length] at h3
          have : mx w (w ++ x) ≠ w.length := fun z => h3 (mx_full.mp z)
          lia
      have nof : ∀ j, 1 ≤ j → j ≤ x.length → ¬ w <:+ w ++ (x ++ [c]).take j := fun j h1 h2 => by
        rw [List.take_append_of_le_length h2]; exact hx.2 j h1 h2
      show (match (if (if mx w (w.take (mx w (w ++ x)) ++ [c]) = w.length then 0 else x.length + 1) > mx w (w.take (mx w (w ++ x)) ++ [c]) then none else some (mx w (w.take (mx w (w ++ x)) ++ [c]), if mx w (w.take (mx w (w ++ x)) ++ [c]) = w.length then 0 else x.length + 1)) with | none => 0 | some st' => fw w A m st') = _
      rw [es]
      by_cases hf : mx w (w ++ (x ++ [c])) = w.length
      · -- covered
        rw [if_pos hf, if_neg (by lia)]
        show fw w A m (mx w (w ++ (x ++ [c])), 0) = _
        rw [hf]
        have hfull := mx_full.mp hf
        obtain ⟨q1, q2⟩ := suf_of_full (by lia) hfull
        rw [yl] at q1 q2
        have hd : x.length + 1 ∈ S := (hS _).mpr ⟨by lia, hx1, q1, fun j j1 j2 => by rw [← q2]; exact nof j j1 (by lia)⟩
        rw [sum_one hSn hd fun d hdS hne => ?_]
        · rw [if_pos ⟨by lia, by rw [← q2]; exact List.prefix_refl _, by lia⟩, show m + 1 - (x.length + 1 - x.length) = m by lia]
        · rw [if_neg]
          rintro ⟨h1, h2, _⟩
          obtain ⟨_, d2, _, d4⟩ := (hS d).mp hdS
          have hp := h2.length_le
          rw [drop_len d2, yl] at hp
          refine d4 (x.length + 1) (by lia) (by lia) ?_
          have : (w.drop (w.length - d)).take (x.length + 1) = x ++ [c] := by rw [← yl]; exact (List.prefix_iff_eq_take.mp h2).symm
          rw [this]; exact hfull
      · rw [if_neg hf]
        have hnf : ¬ w <:+ w ++ (x ++ [c]) := fun z => hf (mx_full.mpr z)
        have longer : ∀ d, d ∈ S → x.length < d → (x ++ [c]) <+: w.drop (w.length - d) → x.length + 1 < d ∧ x.length + 1 ≤ mx w (w ++ (x ++ [c])) := by
          intro d hdS h1 h2
          obtain ⟨d1, d2, d3, d4⟩ := (hS d).mp hdS
          have hp := h2.length_le
          rw [drop_len d2, yl] at hp
          have hne : d ≠ x.length + 1 := fun z => by
            apply hnf
            have : x ++ [c] = w.drop (w.length - d) := h2.eq_of_length (by rw [drop_len d2, yl]; exact z.symm)
            rw [this, ← step_text d2 d3]
            exact List.suffix_append _ _
          refine ⟨by lia, ?_⟩
          have hi : w.length + (x.length + 1) - d ≤ w.length := by lia
          have : w.take (w.length + (x.length + 1) - d) <:+ w ++ (x ++ [c]) := by
            have e : w ++ (x ++ [c]) = w.take d ++ w.take (w.length + (x.length + 1) - d) := by
              have e1 := congrArg (List.take (w.length + (x.length + 1))) (step_text d2 d3)
              rw [List.take_append, List.take_append, take_len d2, List.take_of_length_le (by rw [take_len d2]; lia), List.take_of_length_le (show w.length ≤ w.length + (x.length + 1) by lia), show w.length + (x.length + 1) - w.length = x.length + 1 by lia] at e1
              rw [e1]
              congr 1
              rw [← yl]; exact List.prefix_iff_eq_take.mp h2
            rw [e]
            exact List.suffix_append _ _
          have := mx_ge hi this
          lia
        by_cases hdead : x.length + 1 > mx w (w ++ (x ++ [c]))
        · rw [if_pos hdead]
          symm
          refine sum_zero fun d hdS => if_neg ?_
          rintro ⟨h1, h2, _⟩
          have := (longer d hdS h1 h2).2
          lia
        · rw [if_neg hdead]
          show fw w A m (mx w (w ++ (x ++ [c])), x.length + 1) = _
          have hy : Al w (x ++ [c]) := ⟨by rw [yl]; lia, fun j j1 j2 => by
            by_cases e : j = x.length + 1
            · rw [List.take_of_length_le (by rw [yl]; lia)]; exact hnf
            · exact nof j j1 (by rw [yl] at j2; lia)⟩
          have ih := fw_main w1 hA hwA hSn hS m (x ++ [c]) hy
          rw [yl] at ih
          rw [ih, if_neg (by simp), Nat.zero_add]
          refine sum_cong fun d hdS => ?_
          by_cases hc : x.length < d ∧ (x ++ [c]) <+: w.drop (w.length - d)
          · have hl := (longer d hdS hc.1 hc.2).1
            by_cases hm : d - x.length ≤ m + 1
            · rw [if_pos ⟨hl, hc.2, by lia⟩, if_pos ⟨hc.1, hc.2, hm⟩, show m - (d - (x.length + 1)) = m + 1 - (d - x.length) by lia]
            · rw [if_neg (by lia), if_neg (by lia)]
          · rw [if_neg (fun z => hc ⟨by lia, z.2.1⟩), if_neg (fun z => hc ⟨z.1, z.2.1⟩)]
    rw [sum_cong fun c _ => one c, sum_comm]
    refine sum_cong fun d hdS => ?_
    obtain ⟨d1, d2, d3, d4⟩ := (hS d).mp hdS
    by_cases hc : x.length < d ∧ x <+: w.drop (w.length - d) ∧ d - x.length ≤ m + 1
    · rw [if_pos hc]
      have hlt : x.length < (w.drop (w.length - d)).length := by rw [drop_len d2]; exact hc.1
      have hmem : (w.drop (w.length - d))[x.length] ∈ A := hwA _ (List.mem_of_mem_drop (List.getElem_mem hlt))
      have hpre : ∀ c, (x ++ [c]) <+: w.drop (w.length - d) ↔ c = (w.drop (w.length - d))[x.length] := fun c => by
        have ex := List.prefix_iff_eq_take.mp hc.2.1
        constructor
        · intro h
          have := List.prefix_iff_eq_take.mp h
          rw [show (x ++ [c]).length = x.length + 1 by simp, List.take_succ_eq_append_getElem hlt] at this
          have := (List.append_inj this (by rw [List.length_take]; lia)).2
          simpa using this
        · rintro rfl
          rw [List.prefix_iff_eq_take, show (x ++ [(w.drop (w.length - d))[x.length]]).length = x.length + 1 by simp, List.take_succ_eq_append_getElem hlt, ← ex]
      rw [sum_one hA hmem fun c _ hne => if_neg fun z => hne ((hpre c).mp z.2.1)]
      rw [if_pos ⟨hc.1, (hpre _).mpr rfl, hc.2.2⟩]
    · rw [if_neg hc]
      exact sum_zero fun c _ => if_neg fun z => hc ⟨z.1, (List.prefix_append _ _).trans z.2.1, z.2.2⟩
theorem fw_steps (w1 : 1 ≤ w.length) (hA : A.Nodup) (hwA : ∀ c ∈ w, c ∈ A) (hSn : S.Nodup) (hS : ∀ d, d ∈ S ↔ Single w d) (m : Nat) :
    fw w A m (w.length, 0) = (if m = 0 then 1 else 0) + (S.map fun d => if d ≤ m then fw w A (m - d) (w.length, 0) else 0).sum := by
  have hf : mx w (w ++ []) = w.length := mx_full.mpr (by simp)
  have h := fw_main w1 hA hwA hSn hS m [] ⟨by simp, fun j h1 h2 => by simp at h2; lia⟩
  rw [hf] at h
  have e : ([] : List Nat).length = 0 := rfl
  rw [e] at h
  rw [h]
  congr 1
  · by_cases z : m = 0 <;> simp [z]
  · refine sum_cong fun d hdS => ?_
    have d1 := ((hS d).mp hdS).1
    by_cases z : d ≤ m
    · rw [if_pos ⟨by lia, by simp, by lia⟩, if_pos z]; rfl
    · rw [if_neg (by lia), if_neg z]
/-- from the begin on: the word itself first -/
theorem fw_begin (w1 : 1 ≤ w.length) (hA : A.Nodup) (hwA : ∀ c ∈ w, c ∈ A) : ∀ (n i : Nat), i < w.length → fw w A n (i, i) = if w.length - i ≤ n then fw w A (n - (w.length - i)) (w.length, 0) else 0
  | 0, i, hi => by
    rw [fw_zero, if_neg (by simp; lia), if_neg (by lia)]
  | n + 1, i, hi => by
    rw [fw_succ]
    have hmem : w[i] ∈ A := hwA _ (List.getElem_mem hi)
    have et : w.take i ++ [w[i]] = w.take (i + 1) := (List.take_succ_eq_append_getElem hi).symm
    rw [sum_one hA hmem fun c _ hne => ?_]
    · have em : mx w (w.take i ++ [w[i]]) = i + 1 := by
        rw [et]
        refine mx_eq (by lia) (List.suffix_refl _) fun j hj h => ?_
        have := h.length_le
        rw [take_len hj, take_len (by lia)] at this
        exact this
      show (match (if (if mx w (w.take i ++ [w[i]]) = w.length then 0 else i + 1) > mx w (w.take i ++ [w[i]]) then none else some (mx w (w.take i ++ [w[i]]), if mx w (w.take i ++ [w[i]]) = w.length then 0 else i + 1)) with | none => 0 | some st' => fw w A n st') = _
      rw [em]
      by_cases e : i + 1 = w.length
      · rw [if_pos e, if_neg (by lia)]
        show fw w A n (i + 1, 0) = _
        rw [if_pos (by lia), e, show n + 1 - (w.length - i) = n by lia]
      · rw [if_neg e, if_neg (by lia)]
        show fw w A n (i + 1, i + 1) = _
        rw [fw_begin w1 hA hwA n (i + 1) (by lia)]
        by_cases z : w.length - (i + 1) ≤ n
        · rw [if_pos z, if_pos (by lia), show n - (w.length - (i + 1)) = n + 1 - (w.length - i) by lia]
        · rw [if_neg z, if_neg (by lia)]
    · have hm : mx w (w.take i ++ [c]) ≤ i := by
        have h1 := (mx_suf w (w.take i ++ [c]))
        have h2 := h1.length_le
        rw [take_len (mx_le w _)] at h2
        have h3 : (w.take i ++ [c]).length = i + 1 := by rw [List.length_append, take_len (by lia)]; rfl
        rw [h3] at h2
        by_cases z : mx w (w.take i ++ [c]) = i + 1
        · exfalso
          rw [z] at h1
          have e : w.take (i + 1) = w.take i ++ [c] := h1.eq_of_length (by rw [take_len (by lia), h3])
          rw [← et] at e
          exact hne (by simpa using (List.append_cancel_left e).symm)
        · lia
      show (match (if (if mx w (w.take i ++ [c]) = w.length then 0 else i + 1) > mx w (w.take i ++ [c]) then none else some (mx w (w.take i ++ [c]), if mx w (w.take i ++ [c]) = w.length then 0 else i + 1)) with | none => 0 | some st' => fw w A n st') = _
      rw [if_neg (show ¬ mx w (w.take i ++ [c]) = w.length by lia), if_pos (by lia)]
theorem cl_count (w1 : 1 ≤ w.length) (hA : A.Nodup) (hwA : ∀ c ∈ w, c ∈ A) (hSn : S.Nodup) (hS : ∀ d, d ∈ S ↔ Single w d) : ∀ (k n : Nat), n < w.length + 1 + k → (cl S w.length k).getD n 0 = fw w A n (0, 0)
  | 0, n, hn => by
    rw [fw_begin w1 hA hwA n 0 (by lia), cl, Nat.sub_zero]
    by_cases e : n = w.length
    · subst e
      rw [if_pos (Nat.le_refl _), Nat.sub_self, fw_steps w1 hA hwA hSn hS 0, if_pos rfl, sum_zero fun d hdS => if_neg (by have := ((hS d).mp hdS).1; lia)]
      simp [List.getD_eq_getElem?_getD]
    · rw [if_neg (by lia), List.getD_eq_getElem?_getD, List.getElem?_append_left (by rw [List.length_replicate]; lia), List.getElem?_replicate, if_pos (by lia)]
      rfl
  | k + 1, n, hn => by
    have hl := cl_len S w.length k
    by_cases e : n < w.length + 1 + k
    · rw [cl, List.getD_eq_getElem?_getD, List.getElem?_append_left (by lia), ← List.getD_eq_getElem?_getD]
      exact cl_count w1 hA hwA hSn hS k n e
    · have en : n = w.length + 1 + k := by lia
      rw [cl, List.getD_eq_getElem?_getD, List.getElem?_append_right (by lia), hl, show n - (w.length + 1 + k) = 0 by lia]
      show (S.map fun d => (cl S w.length k).getD (w.length + 1 + k - d) 0).sum = _
      rw [fw_begin w1 hA hwA n 0 (by lia), Nat.sub_zero, if_pos (by lia), fw_steps w1 hA hwA hSn hS, if_neg (by lia), Nat.zero_add]
      refine sum_cong fun d hdS => ?_
      have d1 := ((hS d).mp hdS).1
      have d2 := ((hS d).mp hdS).2.1
      rw [cl_count w1 hA hwA hSn hS k _ (by lia), fw_begin w1 hA hwA _ 0 (by lia), Nat.sub_zero]
      by_cases z : d ≤ n - w.length
      · rw [if_pos (by lia), if_pos z, show w.length + 1 + k - d - w.length = n - w.length - d by lia]
      · rw [if_neg (by lia), if_neg z]
end

end Ov

namespace Ov
open PySem L2
/-! ### how the automaton goes on -/
/-- the most, up to m, of first signs that are the last ones of the first s -/
def flTo (w : List Nat) (s : Nat) : Nat → Nat
  | 0 => 0
  | m + 1 => if w.take (m + 1) = (w.drop (s - (m + 1))).take (m + 1) then m + 1 else flTo w s m
def fl (w : List Nat) (s : Nat) : Nat := flTo w s (s - 1)
theorem take_suf {w : List Nat} {j s : Nat} (hj : j ≤ s) (hs : s ≤ w.length) : w.take j <:+ w.take s ↔ w.take j = (w.drop (s - j)).take j := by
  have e : (w.drop (s - j)).take j = (w.take s).drop (s - j) := by
    rw [List.drop_take]
    congr 1
    lia
  rw [e]
  constructor
  · intro h
    have := List.suffix_iff_eq_drop.mp h
    rw [List.length_take, List.length_take, Nat.min_eq_left hs, Nat.min_eq_left (by lia)] at this
    exact this
  · intro h
    rw [h]; exact List.drop_suffix _ _
theorem flTo_spec {w : List Nat} {s : Nat} (hs : s ≤ w.length) : ∀ m, m ≤ s → flTo w s m ≤ m ∧ w.take (flTo w s m) <:+ w.take s ∧ ∀ j, j ≤ m → w.take j <:+ w.take s → j ≤ flTo w s m
  | 0, _ => ⟨Nat.le_refl _, by simp [flTo], fun j hj _ => by simpa [flTo] using hj⟩
  | m + 1, hm => by
    obtain ⟨h1, h2, h3⟩ := flTo_spec hs m (by lia)
    unfold flTo
    by_cases h : w.take (m + 1) = (w.drop (s - (m + 1))).take (m + 1)
    · rw [if_pos h]
      exact ⟨Nat.le_refl _, (take_suf hm hs).mpr h, fun j hj _ => hj⟩
    · rw [if_neg h]
      refine ⟨by lia, h2, fun j hj q => ?_⟩
      by_cases e : j = m + 1
      · subst e; exact absurd ((take_suf hm hs).mp q) h
      · exact h3 j (by lia) q
/-- what the loop keeps -/
def Kmp (w : List Nat) (s c z : Nat) : Prop := z ≤ s ∧ w.take z <:+ w.take s ∧ ∀ j, j + 1 ≤ w.length → w.take (j + 1) <:+ w.take s ++ [c] → j ≤ z
theorem kmp_cand {w : List Nat} {s c j : Nat} (hj : j + 1 ≤ w.length) (h : w.take (j + 1) <:+ w.take s ++ [c]) : w.take j <:+ w.take s ∧ w[j]? = some c := by
  have e : w.take (j + 1) = w.take j ++ [w[j]] := List.take_succ_eq_append_getElem (by lia)
  rw [e] at h
  rcases (suf_snoc).mp h with q | ⟨v, q1, q2⟩
  · rw [← e] at q
    have := congrArg List.length q
    rw [List.length_take, List.length_nil] at this
    lia
  · have := List.append_inj q1 (by
      have := congrArg List.length q1
      simp at this; simp; lia)
    refine ⟨this.1 ▸ q2, ?_⟩
    rw [List.getElem?_eq_getElem (by lia)]
    have := this.2
    simp at this
    rw [this]
theorem kmp_start {w : List Nat} {s c : Nat} (hs : s ≤ w.length) : Kmp w s c s := ⟨Nat.le_refl _, List.suffix_refl _, fun j hj h => by
  have := (kmp_cand hj h).1.length_le
  rw [List.length_take, List.length_take] at this
  lia⟩
theorem kmp_step {w : List Nat} {s c z : Nat} (hs : s ≤ w.length) (h : Kmp w s c z) (z0 : 0 < z) (hz : z = w.length ∨ w[z]? ≠ some c) : Kmp w s c (fl w z) := by
  obtain ⟨h1, h2, h3⟩ := h
  obtain ⟨f1, f2, f3⟩ := flTo_spec (w := w) (s := z) (by lia) (z - 1) (by lia)
  refine ⟨by unfold fl; lia, f2.trans h2, fun j hj q => ?_⟩
  obtain ⟨q1, q2⟩ := kmp_cand hj q
  have hjz := h3 j hj q
  have hne : j ≠ z := fun e => by
    subst e
    rcases hz with e | e
    · lia
    · exact e q2
  refine f3 j (by lia) (suf_suf q1 h2 ?_)
  rw [List.length_take, List.length_take]; lia
theorem fl_lt {w : List Nat} {z : Nat} (hz : z ≤ w.length) (z0 : 0 < z) : fl w z < z := by
  have := (flTo_spec (w := w) (s := z) hz (z - 1) (by lia)).1
  unfold fl; lia
theorem kmp_hit {w : List Nat} {s c z : Nat} (hs : s ≤ w.length) (h : Kmp w s c z) (hz : w[z]? = some c) : mx w (w.take s ++ [c]) = z + 1 := by
  obtain ⟨h1, h2, h3⟩ := h
  have hl : z < w.length := (List.getElem?_eq_some_iff.mp hz).1
  refine mx_eq (by lia) ?_ fun i hi q => ?_
  · have e : w.take (z + 1) = w.take z ++ [c] := by rw [List.take_add_one, hz]; rfl
    rw [e, suf_snoc]
    exact .inr ⟨_, rfl, h2⟩
  · cases i with
    | zero => lia
    | succ j => have := h3 j hi q; lia
theorem kmp_miss {w : List Nat} {s c : Nat} (h : Kmp w s c 0) (hz : w[0]? ≠ some c) : mx w (w.take s ++ [c]) = 0 := by
  refine mx_eq (Nat.zero_le _) (by simp) fun i hi q => ?_
  cases i with
  | zero => exact Nat.le_refl _
  | succ j =>
    have hj := h.2.2 j hi q
    have := (kmp_cand hi q).2
    rw [show j = 0 by lia] at this
    exact absurd this hz

end Ov

namespace Ov
open PySem L2
abbrev sFails : Stmt := top 26
def spFails : Sp := fun vs H Q _ => ∃ (b : Addr) (u : List Nat), vs = [.ref b] ∧ H b = some (.lst (u.map sg)) ∧ Low u ∧ 1 ≤ u.length ∧ u.length ≤ 400 ∧
  ∀ (r : Addr) (H' : Hp), H r = none → H' r = some (.lst (vInts ((List.range (u.length + 1)).map (fl u)))) → Same H H' → Q (.ref r) H'
section
variable {P : Program} {w : World} {K : PySem.W.Frag} {mg : Str → Option Value} {base : Heap}
theorem scFails : FnScope ["word", "found", "size", "most"] ["word"] (defScope sFails) := ⟨rfl, rfl, rfl, by decide +kernel, rfl, by decide +kernel, by decide +kernel⟩
theorem ok_fails (M : Md K mg) (B : Bl mg) (F : FF K "_law_fails" sFails) : Fn P w K mg base CX0 "_law_fails" 1 ["word"] spFails := by
  refine fn_ok M F scFails (fun _ _ _ _ _ _ => us1 fun _ => rfl) (fun vs H Q E h => ?_) (fun f cdv A outer s H vs Q E hr h => ?_)
  · obtain ⟨b, u, rfl, _⟩ := h; rfl
  · obtain ⟨b, u, rfl, hb, lu, u1, ul, k⟩ := h
    refine ⟨_, (pss_cons (ps_set (i := 1) scFails.nd rfl (.inl rfl) (pe_lst (pa_cons pe_int (pa_cons pe_int pa_nil))))
      (pss_cons (ps_for PassesOwn.never rfl (pi_range2 (by rfl) B.range (pa_cons pe_int (pa_cons (pe_op op_add (pe_lenL B.len (pv 0)) pe_int) pa_nil))) (pg_name (i := 2) scFails.nd rfl (.inl rfl))
      (pss_cons (ps_set (i := 3) scFails.nd rfl (.inl rfl) (pe_op op_sub (pv 2) pe_int))
      (pss_cons (ps_while PassesOwn.never (pt_cmpR (op_neLS (by exact hr)) (pe_slice sl_list (pv 0) po_none (po_some (pv 3))) (pe_slice sl_list (pv 0) (po_some (pe_op op_sub (pv 2) (pv 3))) (po_some (pv 2))) (nomark _)) (pss_one (ps_set (i := 3) scFails.nd rfl (.inl rfl) (pe_op op_sub (pv 3) pe_int))))
      (pss_one (ps_expr (pe_bm PySem.F.plainAttrs_list PySem.F.slot_list_append PySem.F.type_list_append mt_append (pv 1) (pa_cons (pv 3) pa_nil)))))))
      (pss_one (ps_ret (pv 1))))), ?_⟩
    refine ⟨(by show 2 ≤ sizeLine; decide), fun r hr0 => ?_⟩
    have s1 := Same.upd (o := .lst [V.int 0, V.int 0]) hr0
    have hr1 := upd_same (H := H) (a := r) (o := .lst [V.int 0, V.int 0])
    generalize L2.upd H r (.lst [V.int 0, V.int 0]) = H1 at s1 hr1 ⊢
    refine ⟨_, rfl, b, _, rfl, SqL.of (s1 _ _ hb), _, _, rfl, rfl, 2, _, rfl, ⟨by decide, by decide, by rw [List.length_map]; lia, by rw [List.length_map]; lia⟩, ?_⟩
    rw [List.length_map, show ((u.length : Int) + 1 - 2).toNat = u.length - 1 by lia]
    refine for_range (lo := 2) (n := u.length - 1) (fun i σ H2 => ∃ v2 v3, σ = [some (.ref b), some (.ref r), v2, v3] ∧ Same H H2 ∧ H2 r = some (.lst (vInts ((List.range (i + 2)).map (fl u))))) ?_ ?_ ?_
    · exact ⟨none, none, rfl, s1, hr1⟩
    · rintro i σ H2 hi ⟨v2, v3, rfl, s2, hr2⟩
      have hb2 := s2 _ _ hb
      refine ⟨_, rfl, _, _, rfl, rfl, ?_⟩
      refine nm_int (j := ((i + 1 : Nat) : Int)) (congrArg V.int (by lia)) ?_
      refine ⟨fun m σ H5 => σ = [some (.ref b), some (.ref r), some (.int (2 + (i : Int))), some (.int (m : Int))] ∧ m ≤ i + 1 ∧ flTo u (i + 2) m = fl u (i + 2) ∧ Same H2 H5, ⟨i + 1, rfl, Nat.le_refl _, rfl, fun _ _ h => h⟩, ?_⟩
      rintro m σ H5 ⟨rfl, mi, hm, s5⟩
      have hb5 := s5 _ _ hb2
      refine ⟨_, rfl, _, rfl, _, rfl, b, _, rfl, SqL.of hb5, fun p1 hp1 => ?_⟩
      have e1 : cutV (u.map sg) none (some (m : Int)) = (u.take m).map sg := by rw [cutV_cutL, cutL_map, cutL_hi _ _ (by lia), Int.toNat_natCast]
      rw [e1]
      have s6 := Same.upd (o := .lst ((u.take m).map sg)) hp1
      have hp6 := upd_same (H := H5) (a := p1) (o := .lst ((u.take m).map sg))
      generalize L2.upd H5 p1 (.lst ((u.take m).map sg)) = H6 at s6 hp6 ⊢
      refine ⟨_, rfl, _, rfl, _, rfl, _, _, rfl, rfl, _, rfl, _, rfl, _, rfl, b, _, rfl, SqL.of (s6 _ _ hb5), fun p2 hp2 => ?_⟩
      have e2 : cutV (u.map sg) (some (2 + (i : Int) - (m : Int))) (some (2 + (i : Int))) = ((u.drop (i + 2 - m)).take m).map sg := by
        rw [cutV_cutL, cutL_map, cutL_both _ _ _ (by lia) (by lia), show (2 + (i : Int) - (m : Int)).toNat = i + 2 - m by lia, show (2 + (i : Int)).toNat - (i + 2 - m) = m by lia]
      rw [e2]
      have s7 := Same.upd (o := .lst (((u.drop (i + 2 - m)).take m).map sg)) hp2
      have hp7 := upd_same (H := H6) (a := p2) (o := .lst (((u.drop (i + 2 - m)).take m).map sg))
      generalize L2.upd H6 p2 (.lst (((u.drop (i + 2 - m)).take m).map sg)) = H7 at s7 hp7 ⊢
      have s27 := s5.trans (s6.trans s7)
      refine ⟨p1, p2, u.take m, (u.drop (i + 2 - m)).take m, rfl, rfl, SqL.of (s7 _ _ hp6), SqL.of hp7, (lu.take _).cp, ((lu.drop _).take _).cp, _, rfl, ?_⟩
      rw [if_pos rfl]
      by_cases hq : u.take m = (u.drop (i + 2 - m)).take m
      · rw [decide_eq_true hq]
        have hf : fl u (i + 2) = m := by
          rw [← hm]
          cases m with
          | zero => rfl
          | succ m => unfold flTo; rw [if_pos hq]
        refine iteF ⟨_, rfl, .inl ⟨rfl, _, SqL.of (s27 _ _ hr2)⟩, _, rfl, r, _, _, rfl, rfl, s27 _ _ hr2, by rw [vInts_len, List.length_map, List.length_range]; exact small1000 (by lia), _, _, rfl, ?_, ?_⟩
        · intro e o z
          rw [upd_ne (ne_of_none z hr0)]
          exact s27 _ _ (s2 _ _ z)
        · have e : (List.range (i + 1 + 2)).map (fl u) = (List.range (i + 2)).map (fl u) ++ [m] := by
            rw [show i + 1 + 2 = (i + 2) + 1 by lia, List.range_succ (n := i + 2), List.map_append, List.map_singleton, hf]
          rw [upd_same, e, vInts_snoc']
      · rw [decide_eq_false hq]
        have m1 : 1 ≤ m := by
          cases m with
          | zero => exact absurd (by simp) hq
          | succ m => lia
        refine iteT ⟨fun σ' H' => ∃ m', m' < m ∧ σ' = [some (.ref b), some (.ref r), some (.int (2 + (i : Int))), some (.int (m' : Int))] ∧ m' ≤ i + 1 ∧ flTo u (i + 2) m' = fl u (i + 2) ∧ Same H2 H', fun _ _ h => h, ?_⟩
        refine ⟨_, rfl, _, _, rfl, rfl, ?_⟩
        refine nm_int (j := ((m - 1 : Nat) : Int)) (congrArg V.int (by lia)) ?_
        refine ⟨m - 1, by lia, rfl, by lia, ?_, s27⟩
        rw [← hm]
        obtain ⟨m', rfl⟩ : ∃ m', m = m' + 1 := ⟨m - 1, by lia⟩
        conv => rhs; unfold flTo
        rw [if_neg hq]
        rfl
    · rintro σ H2 ⟨v2, v3, rfl, s2, hr2⟩
      rw [show u.length - 1 + 2 = u.length + 1 by lia] at hr2
      exact ⟨_, rfl, k r H2 hr0 hr2 s2⟩
end

end Ov

namespace Ov
open PySem L2
abbrev sNextL : Stmt := top 27
/-- a state and a sign, as told -/
def nxV : Option (Nat × Nat) → V → Hp → Prop
  | none, v, _ => v = .non
  | some (s, b), v, H => ∃ r : Addr, v = .ref r ∧ H r = some (.tup [.int (s : Int), .int (b : Int)])
def spNextL : Sp := fun vs H Q _ => ∃ (b g t : Addr) (u : List Nat) (s n c : Nat), vs = [.ref b, .ref g, .ref t, sg c] ∧ H b = some (.lst (u.map sg)) ∧ Low u ∧ 97 ≤ c ∧ c ≤ 122 ∧ 1 ≤ u.length ∧ u.length ≤ 400 ∧ s ≤ u.length ∧ H g = some (.lst (vInts ((List.range (u.length + 1)).map (fl u)))) ∧ H t = some (.tup [.int (s : Int), .int (n : Int)]) ∧
  ∀ (v : V) (H' : Hp), nxV (nx u (s, n) c) v H' → (∀ r, v = .ref r → H r = none) → Same H H' → Q v H'
theorem meet_b {c : TT} {σ : St} {H : Hp} {Q : Bool → Hp → Prop} (b : Bool) (h : ∀ R : Bool → Hp → Prop, R b H → c σ H R) (q : Q b H) : c σ H Q := h Q q
theorem meet_if2 {c : TT} {t u rest : TS} {D : Ends} {σ : St} {H : Hp} (T : St → Hp → Prop) (hr : ∀ σ' H', T σ' H' → rest D σ' H') (h : ∀ R : St → Hp → Prop, (∀ σ' H', T σ' H' → R σ' H') → c σ H fun b H1 => if b = true then t { D with nx := R } σ H1 else u { D with nx := R } σ H1) : tSeq (tIfS c t u) rest D σ H := h (rest D) hr
section
variable {P : Program} {w : World} {K : PySem.W.Frag} {mg : Str → Option Value} {base : Heap}
theorem scNextL : FnScope ["word", "fails", "state", "sign", "size", "bare"] ["word", "fails", "state", "sign"] (defScope sNextL) := ⟨rfl, rfl, rfl, by decide +kernel, rfl, by decide +kernel, by decide +kernel⟩
theorem ok_nextL (M : Md K mg) (B : Bl mg) (F : FF K "_law_next" sNextL) : Fn P w K mg base CX0 "_law_next" 1 ["word", "fails", "state", "sign"] spNextL := by
  refine fn_ok M F scNextL (fun _ _ _ _ _ _ => us4 fun _ _ _ _ => rfl) (fun vs H Q E h => ?_) (fun f cdv A outer s H vs Q E hr h => ?_)
  · obtain ⟨b, g, t, u, s, n, c, rfl, _⟩ := h; rfl
  · obtain ⟨b, g, t, u, s0, n, c, rfl, hb, lu, c1, c2, u1, ul, sl, hg, ht, k⟩ := h
    refine ⟨_, (pss_cons (ps_asg (pv 2) (pg_tup rfl (pgs_cons (pg_name (i := 4) scNextL.nd rfl (.inl rfl)) (pgs_cons (pg_name (i := 5) scNextL.nd rfl (.inl rfl)) pgs_nil))))
      (pss_cons (ps_while PassesOwn.never (PW.pt (pw_and (pt_cmpR op_gt (pv 4) pe_int (nomark _)) (pw_and1 (PW.pt (pw_or (pt_cmpR op_eq (pv 4) (pe_lenL B.len (pv 0)) (nomark _)) (pw_or1 (pt_cmpR op_ne (pe_ix ix_list (pv 0) (pv 4) (fun _ _ => rfl)) (pv 3) (nomark _)))))))) (pss_one (ps_set (i := 4) scNextL.nd rfl (.inl rfl) (pe_ix ix_list (pv 1) (pv 4) (fun _ _ => rfl)))))
      (pss_cons (ps_set (i := 4) scNextL.nd rfl (.inl rfl) (pe_op op_add (pv 4) (pe_intB B.int (pe_cmpR op_eq (pe_ix ix_list (pv 0) (pv 4) (fun _ _ => rfl)) (pv 3) (nomark _)))))
      (pss_cons (ps_set (i := 5) scNextL.nd rfl (.inl rfl) (pe_op op_add (pv 5) pe_int))
      (pss_cons (ps_if (pt_cmpR op_eq (pv 4) (pe_lenL B.len (pv 0)) (nomark _)) (pss_one (ps_set (i := 5) scNextL.nd rfl (.inl rfl) pe_int)) pss_nil)
      (pss_cons (ps_if (pt_cmpR op_gt (pv 5) (pv 4) (nomark _)) (pss_one (ps_ret pe_non)) pss_nil)
      (pss_one (ps_ret (pe_tup (pa_cons (pv 4) (pa_cons (pv 5) pa_nil))))))))))), ?_⟩
    refine ⟨_, rfl, t, _, rfl, SqT.of ht, rfl, _, _, rfl, _, _, rfl, rfl, ?_⟩
    refine ⟨fun z σ H5 => σ = [some (.ref b), some (.ref g), some (.ref t), some (sg c), some (.int (z : Int)), some (.int (n : Int))] ∧ Kmp u s0 c z ∧ H5 = H, ⟨s0, rfl, kmp_start sl, rfl⟩, ?_⟩
    rintro z σ H5 ⟨rfl, hK, rfl⟩
    have zl : z ≤ u.length := Nat.le_trans hK.1 sl
    refine meet_b (decide (0 < z ∧ (z = u.length ∨ u[z]? ≠ some c))) (fun R hR => ?_) ?_
    · refine ⟨_, rfl, _, _, rfl, rfl, _, rfl, ?_⟩
      by_cases z0 : 0 < z
      · rw [decide_eq_true (show (0 : Int) < (z : Int) by lia)]
        refine iteT ⟨_, rfl, _, rfl, b, _, rfl, SqL.of hb, rfl, _, rfl, ?_⟩
        rw [List.length_map]
        by_cases zL : z = u.length
        · rw [decide_eq_true (show V.int (z : Int) = V.int (u.length : Int) by rw [zL])]
          rw [decide_eq_true ⟨z0, .inl zL⟩] at hR
          exact iteT hR
        · rw [decide_eq_false (fun q => zL (by have := V.int.inj q; lia))]
          obtain ⟨d, hd, _, _, ed⟩ := sg_at (t := u) (r := (z : Int)) lu (by lia) (by lia)
          rw [Int.toNat_natCast] at hd
          refine iteF ⟨_, rfl, _, rfl, b, _, _, _, rfl, rfl, SqL.of hb, ed, _, rfl, rfl, _, rfl, ?_⟩
          by_cases dc : d = c
          · rw [decide_eq_true (sg_inj.mpr dc)]
            rw [decide_eq_false (fun q => q.2.elim zL fun q => q (by rw [hd, dc]))] at hR
            exact hR
          · rw [decide_eq_false (fun q => dc (sg_inj.mp q))]
            rw [decide_eq_true ⟨z0, .inr (by rw [hd]; exact fun q => dc (Option.some.inj q))⟩] at hR
            exact hR
      · rw [decide_eq_false (show ¬ (0 : Int) < (z : Int) by lia)]
        rw [decide_eq_false (fun q => z0 q.1)] at hR
        exact iteF hR
    · refine ite2 (fun hc => ?_) (fun hc => ?_)
      · have hc' := of_decide_eq_true hc
        have fz := fl_lt zl hc'.1
        have hat : atI (vInts ((List.range (u.length + 1)).map (fl u))) (z : Int) = some (.int ((fl u z : Nat) : Int)) := by
          rw [atI_vI (by rw [List.length_map, List.length_range]; lia), List.getD_eq_getElem?_getD, List.getElem?_map, List.getElem?_range (by lia)]; rfl
        refine ⟨fun σ' H' => ∃ m', m' < z ∧ σ' = [some (.ref b), some (.ref g), some (.ref t), some (sg c), some (.int (m' : Int)), some (.int (n : Int))] ∧ Kmp u s0 c m' ∧ H' = H5, fun _ _ h => h, ?_⟩
        exact ⟨_, rfl, _, rfl, g, _, _, _, rfl, rfl, SqL.of hg, hat, fl u z, fz, rfl, kmp_step sl hK hc'.1 hc'.2, rfl⟩
      · have hc' : ¬ (0 < z ∧ (z = u.length ∨ u[z]? ≠ some c)) := fun q => hc (decide_eq_true q)
        have zL : z < u.length := by
          by_cases z0 : 0 < z
          · have : ¬ z = u.length := fun q => hc' ⟨z0, .inl q⟩
            lia
          · lia
        obtain ⟨d, hd, _, _, ed⟩ := sg_at (t := u) (r := (z : Int)) lu (by lia) (by lia)
        rw [Int.toNat_natCast] at hd
        have hm : mx u (u.take s0 ++ [c]) = z + (if d = c then 1 else 0) := by
          by_cases dc : d = c
          · rw [if_pos dc]; exact kmp_hit sl hK (by rw [hd, dc])
          · rw [if_neg dc]
            have z0 : z = 0 := by
              by_cases z0 : 0 < z
              · exact absurd ⟨z0, .inr (by rw [hd]; exact fun q => dc (Option.some.inj q))⟩ hc'
              · lia
            subst z0
            exact kmp_miss hK (by rw [hd]; exact fun q => dc (Option.some.inj q))
        refine ⟨_, rfl, _, rfl, _, rfl, b, _, _, _, rfl, rfl, SqL.of hb, ed, _, rfl, rfl, _, rfl, _, _, rfl, rfl, ?_⟩
        refine nm_int (j := ((mx u (u.take s0 ++ [c]) : Nat) : Int)) (congrArg V.int (by
          rw [hm]
          by_cases dc : d = c
          · rw [decide_eq_true (sg_inj.mpr dc), if_pos dc]; simp
          · rw [decide_eq_false (fun q => dc (sg_inj.mp q)), if_neg dc]; simp)) ?_
        refine ⟨_, rfl, _, _, rfl, rfl, ?_⟩
        refine nm_int (j := ((n + 1 : Nat) : Int)) (congrArg V.int (by lia)) ?_
        unfold gName
        dsimp only
        have nxe : nx u (s0, n) c = if (if mx u (u.take s0 ++ [c]) = u.length then 0 else n + 1) > mx u (u.take s0 ++ [c]) then none else some (mx u (u.take s0 ++ [c]), if mx u (u.take s0 ++ [c]) = u.length then 0 else n + 1) := rfl
        generalize hmx : mx u (u.take s0 ++ [c]) = q at nxe ⊢
        refine meet_if2 (fun σ' H' => σ' = [some (.ref b), some (.ref g), some (.ref t), some (sg c), some (.int (q : Int)), some (.int ((if q = u.length then 0 else n + 1 : Nat) : Int))] ∧ H' = H5) ?_ fun R hR => ?_
        · rintro σ' H' ⟨rfl, rfl⟩
          generalize (if q = u.length then 0 else n + 1 : Nat) = e at nxe ⊢
          refine ⟨_, rfl, _, rfl, _, _, rfl, rfl, _, rfl, ?_⟩
          refine ite2 (fun hd' => ?_) (fun hd' => ?_)
          · have : q < e := by have := of_decide_eq_true hd'; lia
            rw [if_pos this] at nxe
            exact k _ _ (by rw [nxe]; rfl) (fun r z => nomatch z) (fun _ _ h => h)
          · have : ¬ q < e := fun z => hd' (decide_eq_true (by lia))
            rw [if_neg this] at nxe
            refine ⟨_, rfl, _, rfl, (by show 2 ≤ sizeLine; decide), fun r hr0 => ?_⟩
            exact k _ _ (by rw [nxe]; exact ⟨r, rfl, upd_same⟩) (fun r' z => by cases z; exact hr0) (Same.upd hr0)
        · refine ⟨_, rfl, _, rfl, b, _, rfl, SqL.of hb, rfl, _, rfl, ?_⟩
          rw [List.length_map]
          by_cases hq : q = u.length
          · rw [decide_eq_true (show V.int (q : Int) = V.int (u.length : Int) by rw [hq])]
            refine iteT (hR _ _ ⟨?_, rfl⟩)
            rw [if_pos hq]; rfl
          · rw [decide_eq_false (fun z => hq (by have := V.int.inj z; lia))]
            refine iteF (hR _ _ ⟨?_, rfl⟩)
            rw [if_neg hq]; rfl
end

end Ov

namespace Ov
open PySem L2
/-! ### both ways of counting -/
theorem oc_take {w x : List Nat} {j : Nat} (hj : j ≤ x.length) : Oc w (w ++ x) j ↔ w <:+ w ++ x.take j := by
  have e : w ++ x = (w ++ x.take j) ++ x.drop j := by rw [List.append_assoc, List.take_append_drop]
  constructor
  · intro h
    rw [e] at h
    have h' := h.cut (by rw [List.length_append, List.length_take]; lia)
    obtain ⟨a, b, q, l⟩ := h'
    have : b = [] := by
      apply List.length_eq_zero_iff.mp
      have := congrArg List.length q
      simp only [List.length_append, List.length_take] at this
      lia
    subst this
    exact ⟨a, by rw [q]; simp⟩
  · rintro ⟨a, q⟩
    rw [e, ← q]
    refine Oc.more ⟨a, [], by simp, ?_⟩ _
    have := congrArg List.length q
    simp only [List.length_append, List.length_take] at this
    lia
theorem single_iff {w : List Nat} {d : Nat} : Single w d ↔ Sg w d := by
  constructor
  · rintro ⟨h1, h2, h3, h4⟩
    refine ⟨⟨h1, h2, h3⟩, fun j j1 j2 q => ?_⟩
    rw [per_text ⟨h1, h2, h3⟩, oc_take (by rw [kyd_len h2]; lia)] at q
    exact h4 j j1 j2 q
  · rintro ⟨⟨h1, h2, h3⟩, h4⟩
    refine ⟨h1, h2, h3, fun j j1 j2 q => h4 j j1 j2 ?_⟩
    rw [per_text ⟨h1, h2, h3⟩, oc_take (by rw [kyd_len h2]; lia)]
    exact q
theorem cnt_fw {w A : List Nat} (w1 : 1 ≤ w.length) (hA : A.Nodup) (hwA : ∀ c ∈ w, c ∈ A) (n : Nat) : cnt w n = fw w A n (0, 0) :=
  cl_count w1 hA hwA (singles_nodup w) (fun d => mem_singles.trans single_iff.symm) n n (by lia)

end Ov

namespace Ov
open PySem L2
/-! ### the states found -/
/-- a state as a key -/
def keyP (st : Nat × Nat) : List Key := [.inl (st.1 : Int), .inl (st.2 : Int)]
theorem keyP_inj {a b : Nat × Nat} (h : keyP a = keyP b) : a = b := by
  unfold keyP at h
  obtain ⟨a1, a2⟩ := a
  obtain ⟨b1, b2⟩ := b
  simp only [List.cons.injEq, Sum.inl.injEq, and_true] at h
  obtain ⟨h1, h2⟩ := h
  have e1 : a1 = b1 := by lia
  have e2 : a2 = b2 := by lia
  rw [e1, e2]
/-- the steps out of a state -/
def outs (u A : List Nat) (st : Nat × Nat) : List (Nat × (Nat × Nat)) := A.filterMap fun c => (nx u st c).map fun t => (c, t)
theorem outs_nil (u : List Nat) (st : Nat × Nat) : outs u [] st = [] := rfl
theorem outs_snoc (u B : List Nat) (c : Nat) (st : Nat × Nat) : outs u (B ++ [c]) st = outs u B st ++ (match nx u st c with | none => [] | some t => [(c, t)]) := by
  unfold outs
  rw [List.filterMap_append]
  cases h : nx u st c <;> simp [h]
theorem outs_len (u A : List Nat) (st : Nat × Nat) : (outs u A st).length ≤ A.length := List.length_filterMap_le _ _
theorem mem_outs {u A : List Nat} {st t : Nat × Nat} {c : Nat} (h : (c, t) ∈ outs u A st) : c ∈ A ∧ nx u st c = some t := by
  unfold outs at h
  obtain ⟨d, hd, e⟩ := List.mem_filterMap.mp h
  cases q : nx u st d with
  | none => rw [q] at e; cases e
  | some z =>
    rw [q] at e
    have := Option.some.inj e
    cases this
    exact ⟨hd, q⟩
theorem fw_outs (u A : List Nat) (k : Nat) (st : Nat × Nat) : fw u A (k + 1) st = ((outs u A st).map fun o => fw u A k o.2).sum := by
  rw [fw_succ]
  suffices h : ∀ B : List Nat, (B.map fun c => match nx u st c with | none => 0 | some st' => fw u A k st').sum = ((outs u B st).map fun o => fw u A k o.2).sum from h A
  intro B
  induction B with
  | nil => rfl
  | cons c B ih =>
    rw [List.map_cons, List.sum_cons, ih]
    unfold outs
    rw [List.filterMap_cons]
    cases h : nx u st c <;> simp [h]
theorem nx_bd {u : List Nat} {st t : Nat × Nat} {c : Nat} (h : nx u st c = some t) : t.1 ≤ u.length ∧ t.2 ≤ t.1 := by
  have e : nx u st c = if (if mx u (u.take st.1 ++ [c]) = u.length then 0 else st.2 + 1) > mx u (u.take st.1 ++ [c]) then none else some (mx u (u.take st.1 ++ [c]), if mx u (u.take st.1 ++ [c]) = u.length then 0 else st.2 + 1) := rfl
  have m := mx_le u (u.take st.1 ++ [c])
  rw [e] at h
  generalize (if mx u (u.take st.1 ++ [c]) = u.length then 0 else st.2 + 1) = b at h
  by_cases z : b > mx u (u.take st.1 ++ [c])
  · rw [if_pos z] at h; cases h
  · rw [if_neg z] at h
    have := Option.some.inj h
    subst this
    exact ⟨m, Nat.not_lt.mp z⟩
/-- the states and the pile, as they are at some time -/
structure Fnd (u A : List Nat) (ks ps : List (Nat × Nat)) : Prop where
  nd : ks.Nodup
  bk : ∀ st ∈ ks, st.1 ≤ u.length ∧ st.2 ≤ st.1
  bp : ∀ st ∈ ps, st.1 ≤ u.length ∧ st.2 ≤ st.1
  cl : ∀ st ∈ ks, ∀ c ∈ A, ∀ t, nx u st c = some t → t ∈ ks ∨ t ∈ ps
  z : (0, 0) ∈ ks ∨ (0, 0) ∈ ps
  ln : ps.length ≤ 26 * ks.length + 1
theorem nodup_lt {n : Nat} {l : List Nat} (h : l.Nodup) (b : ∀ x ∈ l, x < n) : l.length ≤ n := by
  have p : l.Perm ((List.range n).filter fun x => decide (x ∈ l)) := (List.perm_ext_iff_of_nodup h (List.nodup_range.filter _)).mpr fun x => by
    rw [List.mem_filter, List.mem_range, decide_eq_true_eq]
    exact ⟨fun m => ⟨b x m, m⟩, fun m => m.2⟩
  have := p.length_eq
  have q := List.length_filter_le (fun x => decide (x ∈ l)) (List.range n)
  rw [List.length_range] at q
  lia
theorem states_len {L : Nat} {ks : List (Nat × Nat)} (h : ks.Nodup) (b : ∀ st ∈ ks, st.1 ≤ L ∧ st.2 ≤ st.1) : ks.length ≤ (L + 1) * (L + 1) := by
  have := nodup_lt (n := (L + 1) * (L + 1)) (l := ks.map fun st => st.1 * (L + 1) + st.2) ?_ ?_
  · rwa [List.length_map] at this
  · refine List.pairwise_map.mpr (h.imp_of_mem fun {x y} hx hy ne e => ne ?_)
    have bx := b x hx
    have bY := b y hy
    have e1 : x.1 = y.1 := by
      have : (x.1 * (L + 1) + x.2) / (L + 1) = (y.1 * (L + 1) + y.2) / (L + 1) := by rw [e]
      rw [Nat.add_comm, Nat.add_mul_div_right _ _ (by lia), Nat.div_eq_of_lt (by lia), Nat.add_comm (y.1 * (L + 1)), Nat.add_mul_div_right _ _ (by lia), Nat.div_eq_of_lt (by lia)] at this
      lia
    have e2 : x.2 = y.2 := by rw [e1] at e; lia
    exact Prod.ext e1 e2
  · intro v hv
    obtain ⟨st, hs, rfl⟩ := List.mem_map.mp hv
    have bs := b st hs
    have : st.1 * (L + 1) ≤ L * (L + 1) := Nat.mul_le_mul_right _ bs.1
    have e : (L + 1) * (L + 1) = L * (L + 1) + (L + 1) := by rw [Nat.add_mul, Nat.one_mul]
    lia
theorem Fnd.start (u A : List Nat) : Fnd u A [] [(0, 0)] := ⟨.nil, fun _ h => (nomatch h), fun st h => by obtain rfl := List.mem_singleton.mp h; exact ⟨Nat.zero_le _, Nat.le_refl _⟩, fun _ h => (nomatch h), .inr (by simp), by simp⟩
/-- a state that is there already is taken from the pile -/
theorem Fnd.old {u A : List Nat} {ks ps : List (Nat × Nat)} {st : Nat × Nat} (F : Fnd u A ks (ps ++ [st])) (h : st ∈ ks) : Fnd u A ks ps := by
  refine ⟨F.nd, F.bk, fun t m => F.bp t (by simp [m]), fun a ha c hc t e => ?_, ?_, by have := F.ln; simp at this; lia⟩
  · rcases F.cl a ha c hc t e with q | q
    · exact .inl q
    · rcases (List.mem_append (s := ps)).mp q with q | q
      · exact .inr q
      · exact .inl (List.mem_singleton.mp q ▸ h)
  · rcases F.z with q | q
    · exact .inl q
    · rcases (List.mem_append (s := ps)).mp q with q | q
      · exact .inr q
      · exact .inl (List.mem_singleton.mp q ▸ h)
/-- a new one, with its steps on the pile -/
theorem Fnd.new {u A : List Nat} {ks ps : List (Nat × Nat)} {st : Nat × Nat} (F : Fnd u A ks (ps ++ [st])) (h : st ∉ ks) (hA : A.length ≤ 26) : Fnd u A (ks ++ [st]) (ps ++ (outs u A st).map (·.2)) := by
  have bs := F.bp st (by simp)
  have up : ∀ t, t ∈ ks ∨ t ∈ ps ++ [st] → t ∈ ks ++ [st] ∨ t ∈ ps ++ (outs u A st).map (·.2) := fun t q => by
    rcases q with q | q
    · exact .inl (by simp [q])
    · rcases (List.mem_append (s := ps)).mp q with q | q
      · exact .inr (by simp [q])
      · exact .inl (by simp [List.mem_singleton.mp q])
  refine ⟨List.nodup_append.mpr ⟨F.nd, by simp, fun a ha b hb e => h (by rw [← List.mem_singleton.mp hb, ← e]; exact ha)⟩, fun t m => ?_, fun t m => ?_, fun a ha c hc t e => ?_, up _ F.z, ?_⟩
  · rcases List.mem_append.mp m with m | m
    · exact F.bk t m
    · rw [List.mem_singleton.mp m]; exact bs
  · rcases List.mem_append.mp m with m | m
    · exact F.bp t (by simp [m])
    · obtain ⟨⟨c, z⟩, hz, rfl⟩ := List.mem_map.mp m
      exact nx_bd (mem_outs hz).2
  · rcases (List.mem_append (s := ks)).mp ha with ha | ha
    · exact up t (F.cl a ha c hc t e)
    · rw [List.mem_singleton.mp ha] at e
      refine .inr (List.mem_append.mpr (.inr (List.mem_map.mpr ⟨(c, t), ?_, rfl⟩)))
      unfold outs
      exact List.mem_filterMap.mpr ⟨c, hc, by rw [e]; rfl⟩
  · have := F.ln
    have := outs_len u A st
    simp only [List.length_append, List.length_map, List.length_singleton] at *
    lia
/-! ### as they lie in the heap -/
/-- a state lies there -/
abbrev StP (H : Hp) (a : Addr) (st : Nat × Nat) : Prop := H a = some (.tup [.int (st.1 : Int), .int (st.2 : Int)])
theorem stP_key (st : Nat × Nat) : (keyP st).map kV = [.int (st.1 : Int), .int (st.2 : Int)] := rfl
/-- tuples stay -/
def TK (H H' : Hp) : Prop := ∀ a xs, H a = some (.tup xs) → H' a = some (.tup xs)
theorem TK.trans {H H1 H2 : Hp} (a : TK H H1) (b : TK H1 H2) : TK H H2 := fun x xs h => b x xs (a x xs h)
theorem Same.tk {H H' : Hp} (s : Same H H') : TK H H' := fun a xs h => s a _ h
theorem TK.upd {H : Hp} {p : Addr} {o o' : HO} (e : H p = some o') (n : ∀ xs, o' ≠ .tup xs) : TK H (L2.upd H p o) := fun a xs h => by
  rw [upd_ne fun z => by subst z; rw [e] at h; exact n xs (Option.some.inj h)]
  exact h
/-- a row of steps lies there -/
def OneP (H : Hp) (p : Addr) (o : Nat × (Nat × Nat)) : Prop := ∃ t, H p = some (.tup [sg o.1, .ref t]) ∧ StP H t o.2
def RowP (H : Hp) (l : Addr) (os : List (Nat × (Nat × Nat))) : Prop := ∃ ps : List Addr, H l = some (.lst (ps.map V.ref)) ∧ Paired (OneP H) ps os
theorem OneP.keep {H H' : Hp} {p : Addr} {o : Nat × (Nat × Nat)} (h : OneP H p o) (k : TK H H') : OneP H' p o := let ⟨t, h1, h2⟩ := h; ⟨t, k _ _ h1, k _ _ h2⟩
theorem RowP.keep {H H' : Hp} {l : Addr} {os : List (Nat × (Nat × Nat))} (h : RowP H l os) (k : TK H H') (e : ∀ xs, H l = some (.lst xs) → H' l = some (.lst xs)) : RowP H' l os := let ⟨ps, h1, h2⟩ := h; ⟨ps, e _ h1, Paired.mapP h2 fun _ _ x => x.keep k⟩
theorem Paired.snoc {α β : Type} {F : α → β → Prop} : ∀ {l₁ : List α} {l₂ : List β} {x : α} {y : β}, Paired F l₁ l₂ → F x y → Paired F (l₁ ++ [x]) (l₂ ++ [y])
  | _, _, _, _, .nil, h => .cons h .nil
  | _, _, _, _, .cons r t, h => .cons r (Paired.snoc t h)
/-- the dict of the states -/
def KvS (es : List ((Nat × Nat) × Addr)) : List (List Key × V) := es.map fun e => (keyP e.1, V.ref e.2)
theorem val_row {α : Type} {f : α → V} {g : α → Nat × Nat} {es : List α} {st : Nat × Nat} : valV (es.map fun e => (keyP (g e), f e)) (keyP st) = (es.find? fun e => decide (g e = st)).map f := by
  unfold valV
  rw [List.find?_map, Option.map_map]
  congr 1
  apply congrArg (fun q => List.find? q es)
  funext e
  simp only [Function.comp]
  apply decide_eq_decide.mpr
  exact ⟨keyP_inj, fun q => by rw [q]⟩
theorem find_row {α : Type} {g : α → Nat × Nat} {es : List α} (nd : (es.map g).Nodup) {e : α} (h : e ∈ es) : (es.find? fun x => decide (g x = g e)) = some e := by
  induction es with
  | nil => cases h
  | cons x r ih =>
    rw [List.find?_cons]
    rw [List.map_cons, List.nodup_cons] at nd
    rcases List.mem_cons.mp h with rfl | h
    · rw [decide_eq_true rfl]
    · have : g x ≠ g e := fun q => nd.1 (List.mem_map.mpr ⟨e, h, q.symm⟩)
      rw [decide_eq_false this]
      exact ih nd.2 h
theorem find_no {α : Type} {g : α → Nat × Nat} {es : List α} {st : Nat × Nat} (h : st ∉ es.map g) : (es.find? fun x => decide (g x = st)) = none :=
  List.find?_eq_none.mpr fun x hx q => h (List.mem_map.mpr ⟨x, hx, of_decide_eq_true q⟩)
theorem put_new {α : Type} {f : α → V} {g : α → Nat × Nat} {es : List α} {st : Nat × Nat} {v : V} (h : st ∉ es.map g) : putK (es.map fun e => (keyP (g e), f e)) (keyP st) v = es.map (fun e => (keyP (g e), f e)) ++ [(keyP st, v)] := by
  unfold putK
  rw [if_neg]
  intro q
  obtain ⟨x, hx, e⟩ := List.any_eq_true.mp q
  obtain ⟨y, hy, rfl⟩ := List.mem_map.mp hx; exact h (List.mem_map.mpr ⟨y, hy, keyP_inj (of_decide_eq_true e)⟩)

end Ov

namespace Ov
open PySem L2
/-! ### the states, found -/
abbrev sSteps : Stmt := top 28
/-- all the states, with their rows -/
structure Stps (u A : List Nat) (H : Hp) (es : List ((Nat × Nat) × Addr)) : Prop where
  nd : (es.map (·.1)).Nodup
  bk : ∀ st ∈ es.map (·.1), st.1 ≤ u.length ∧ st.2 ≤ st.1
  cl : ∀ st ∈ es.map (·.1), ∀ c ∈ A, ∀ t, nx u st c = some t → t ∈ es.map (·.1)
  z : (0, 0) ∈ es.map (·.1)
  row : ∀ e ∈ es, RowP H e.2 (outs u A e.1)
def spSteps : Sp := fun vs H Q _ => ∃ (b : Addr) (u : List Nat), vs = [.ref b] ∧ H b = some (.lst (u.map sg)) ∧ Low u ∧ 1 ≤ u.length ∧ u.length ≤ 400 ∧
  ∀ (f : Addr) (A : List Nat) (es : List ((Nat × Nat) × Addr)) (H' : Hp), A.Nodup → (∀ c, c ∈ A ↔ c ∈ u) → H f = none → H' f = some (.dT (KvS es)) → Stps u A H' es → Same H H' → Q (.ref f) H'
/-- on the way: the dict, the pile, the rows -/
structure Iv (u A : List Nat) (H0 : Hp) (f pl : Addr) (es : List ((Nat × Nat) × Addr)) (ps : List (Nat × Nat)) (H : Hp) : Prop where
  same : Same H0 H
  hf : H f = some (.dT (KvS es))
  hp : ∃ ts : List Addr, H pl = some (.lst (ts.map V.ref)) ∧ Paired (StP H) ts ps
  rows : ∀ e ∈ es, e.2 ≠ pl ∧ H0 e.2 = none ∧ RowP H e.2 (outs u A e.1)
/-- and one row more that is being made -/
structure Jv (u A : List Nat) (H0 : Hp) (f pl l : Addr) (es : List ((Nat × Nat) × Addr)) (st : Nat × Nat) (os : List (Nat × (Nat × Nat))) (ps : List (Nat × Nat)) (H : Hp) : Prop where
  same : Same H0 H
  hf : H f = some (.dT (KvS (es ++ [(st, l)])))
  hp : ∃ ts : List Addr, H pl = some (.lst (ts.map V.ref)) ∧ Paired (StP H) ts ps
  rows : ∀ e ∈ es, e.2 ≠ l ∧ e.2 ≠ pl ∧ H0 e.2 = none ∧ RowP H e.2 (outs u A e.1)
  row : RowP H l os
section
variable {u A : List Nat} {H0 H H' : Hp} {f pl l : Addr} {es : List ((Nat × Nat) × Addr)} {st : Nat × Nat} {os : List (Nat × (Nat × Nat))} {ps : List (Nat × Nat)}
theorem Jv.keep (J : Jv u A H0 f pl l es st os ps H) (s : Same H H') : Jv u A H0 f pl l es st os ps H' := by
  obtain ⟨ts, h1, h2⟩ := J.hp
  exact ⟨J.same.trans s, s _ _ J.hf, ⟨ts, s _ _ h1, Paired.mapP h2 fun _ _ x => s _ _ x⟩, fun e he => ⟨(J.rows e he).1, (J.rows e he).2.1, (J.rows e he).2.2.1, (J.rows e he).2.2.2.keep (Same.tk s) fun xs x => s _ _ x⟩, J.row.keep (Same.tk s) fun xs x => s _ _ x⟩
/-- a step laid behind the row, and its end on the pile -/
theorem Jv.app (J : Jv u A H0 f pl l es st os ps H) (lp : l ≠ pl) (l0 : H0 l = none) (p0 : H0 pl = none) {p r : Addr} {c : Nat} {t : Nat × Nat} (hp : H p = some (.tup [sg c, .ref r])) (hr : StP H r t) {xs ys : List V} (hl : H l = some (.lst xs)) (hq : H pl = some (.lst ys)) :
    Jv u A H0 f pl l es st (os ++ [(c, t)]) (ps ++ [t]) (L2.upd (L2.upd H l (.lst (xs ++ [.ref p]))) pl (.lst (ys ++ [.ref r]))) := by
  obtain ⟨ts, h1, h2⟩ := J.hp
  obtain ⟨qs, g1, g2⟩ := J.row
  have nx1 : ∀ zs : List V, (HO.lst zs) ≠ .tup zs := fun zs z => nomatch z
  have k1 : TK H (L2.upd H l (.lst (xs ++ [.ref p]))) := TK.upd hl fun zs z => nomatch z
  have hq1 : (L2.upd H l (.lst (xs ++ [.ref p]))) pl = some (.lst ys) := by rw [upd_ne lp.symm]; exact hq
  have k2 := k1.trans (TK.upd (o := .lst (ys ++ [.ref r])) hq1 fun zs z => nomatch z)
  rw [hq] at h1
  have e1 : ys = ts.map V.ref := by cases h1; rfl
  rw [hl] at g1
  have e2 : xs = qs.map V.ref := by cases g1; rfl
  refine ⟨fun a o e => ?_, ?_, ⟨ts ++ [r], ?_, ?_⟩, fun e he => ⟨(J.rows e he).1, (J.rows e he).2.1, (J.rows e he).2.2.1, ?_⟩, ⟨qs ++ [p], ?_, ?_⟩⟩
  · rw [upd_ne (ne_of_none e p0), upd_ne (ne_of_none e l0)]; exact J.same _ _ e
  · rw [upd_ne (ne_of J.hf hq fun z => nomatch z), upd_ne (ne_of J.hf hl fun z => nomatch z)]; exact J.hf
  · rw [upd_same, e1, List.map_append]; rfl
  · exact Paired.snoc (Paired.mapP h2 fun _ _ x => k2 _ _ x) (k2 _ _ hr)
  · refine (J.rows e he).2.2.2.keep k2 fun zs x => ?_
    rw [upd_ne (J.rows e he).2.1, upd_ne (J.rows e he).1]; exact x
  · rw [upd_ne lp, upd_same, e2, List.map_append]; rfl
  · exact Paired.snoc (Paired.mapP g2 fun _ _ x => x.keep k2) ⟨r, k2 _ _ hp, k2 _ _ hr⟩
theorem paired_last {α β : Type} {F : α → β → Prop} : ∀ {l₂ : List β} {l₁ : List α} {y : β}, Paired F l₁ (l₂ ++ [y]) → ∃ l x, l₁ = l ++ [x] ∧ Paired F l l₂ ∧ F x y
  | [], _, y, .cons h .nil => ⟨[], _, rfl, .nil, h⟩
  | z :: l₂, _, y, .cons h t => by
    obtain ⟨l, x, e, p, q⟩ := paired_last t
    exact ⟨_ :: l, x, by rw [e]; rfl, .cons h p, q⟩
def stD (st : Nat × Nat) : PyData := .tuple [.int (st.1 : Int), .int (st.2 : Int)]
theorem datPile {K : PySem.W.Frag} : ∀ {ts : List Addr} {ps : List (Nat × Nat)}, Paired (StP H) ts ps → DatVs K H (ps.map stD) (ts.map V.ref)
  | _, _, .nil => by rw [List.map_nil, List.map_nil, DatVs]
  | _, _, .cons (a := a) (b := st) h t => by
    rw [List.map_cons, List.map_cons, DatVs]
    refine ⟨_, _, rfl, ?_, datPile t⟩
    rw [stD, DatV]
    refine ⟨a, _, rfl, SqT.of h, ?_⟩
    rw [DatVs]
    refine ⟨_, _, rfl, by rw [DatV], ?_⟩
    rw [DatVs]
    exact ⟨_, _, rfl, by rw [DatV], by rw [DatVs]⟩
theorem eqv_pile (ps : List (Nat × Nat)) : (!PyData.eqv (.list (ps.map stD)) (.list [])) = decide (ps ≠ []) := by
  cases ps with
  | nil => rfl
  | cons x r => rw [decide_eq_true (List.cons_ne_nil _ _)]; rfl
end
theorem letters_len {u A : List Nat} (hA : A.Nodup) (h : ∀ c ∈ A, c ∈ u) (lu : Low u) : A.length ≤ 26 := by
  have := nodup_lt (n := 26) (l := A.map fun c => c - 97) ?_ ?_
  · rwa [List.length_map] at this
  · refine List.pairwise_map.mpr (hA.imp_of_mem fun {x y} hx hy ne e => ne ?_)
    have b1 := lu x (h x hx)
    have b2 := lu y (h y hy)
    lia
  · intro v hv
    obtain ⟨c, hc, rfl⟩ := List.mem_map.mp hv
    have := lu c (h c hc)
    lia

end Ov

namespace Ov
open PySem L2
section
variable {P : Program} {w : World} {K : PySem.W.Frag} {mg : Str → Option Value} {base : Heap}
theorem scSteps : FnScope ["word", "fails", "some", "found", "pile", "state", "sign", "behind"] ["word"] (defScope sSteps) := ⟨rfl, rfl, rfl, by decide +kernel, rfl, by decide +kernel, by decide +kernel⟩
theorem ok_steps (M : Md K mg) (B : Bl mg) (nsorted : mg "sorted" = none) (nset : mg "set" = none) (F : FF K "_law_steps" sSteps) (F_law_fails : Fn P w K mg base CX0 "_law_fails" 1 ["word"] spFails) (F_law_next : Fn P w K mg base CX0 "_law_next" 1 ["word", "fails", "state", "sign"] spNextL) : Fn P w K mg base CX0 "_law_steps" 2 ["word"] spSteps := by
  refine fn_ok M F scSteps (fun _ _ _ _ _ _ => us1 fun _ => rfl) (fun vs H Q E h => ?_) (fun f cdv A outer s H vs Q E hr h => ?_)
  · obtain ⟨b, u, rfl, _⟩ := h; rfl
  · obtain ⟨b, u, rfl, hb, lu, u1, ul, k⟩ := h
    refine ⟨_, (pss_cons (ps_set (i := 1) scSteps.nd rfl (.inl rfl) (pe_fn F_law_fails hr pass0 (pa_cons (pv 0) pa_nil)))
      (pss_cons (ps_set (i := 2) scSteps.nd rfl (.inl rfl) (pe_sortS rfl nsorted (pe_setS rfl nset (pv 0))))
      (pss_cons (ps_set (i := 3) scSteps.nd rfl (.inl rfl) pe_dnewT)
      (pss_cons (ps_set (i := 4) scSteps.nd rfl (.inl rfl) (pe_lst (pa_cons (pe_tup (pa_cons pe_int (pa_cons pe_int pa_nil))) pa_nil)))
      (pss_cons (ps_while PassesOwn.never (pt_cmpR (op_neD (by exact hr)) (pv 4) (pe_lst pa_nil) (nomark _)) (pss_cons (ps_set (i := 5) scSteps.nd rfl (.inl rfl) (pe_bm0 PySem.F.plainAttrs_list PySem.F.slot_list_pop PySem.F.type_list_pop mt_pop (pv 4)))
      (pss_one (ps_if (pt_cmpR (op_notInX (by exact hr)) (pv 5) (pv 3) (by with_unfolding_all rfl)) (pss_cons (ps_dput (by exact hu_of hr) (pv 3) (pv 5) (pe_lst pa_nil) rfl)
      (pss_one (ps_for PassesOwn.never rfl (pi_list (pv 2)) (pg_name (i := 6) scSteps.nd rfl (.inl rfl))
      (pss_cons (ps_set (i := 7) scSteps.nd rfl (.inl rfl) (pe_fn F_law_next hr pass0 (pa_cons (pv 0) (pa_cons (pv 1) (pa_cons (pv 5) (pa_cons (pv 6) pa_nil))))))
      (pss_one (ps_if (pt_cmpR op_notN (pv 7) pe_non (nomark _)) (pss_cons (ps_expr (pe_bm PySem.F.plainAttrs_list PySem.F.slot_list_append PySem.F.type_list_append mt_append (pe_dget (by exact hu_of hr) (pv 3) (pv 5) (fun _ _ => rfl)) (pa_cons (pe_tup (pa_cons (pv 6) (pa_cons (pv 7) pa_nil))) pa_nil)))
      (pss_one (ps_expr (pe_bm PySem.F.plainAttrs_list PySem.F.slot_list_append PySem.F.type_list_append mt_append (pv 4) (pa_cons (pv 7) pa_nil))))) pss_nil)))))) pss_nil))))
      (pss_one (ps_ret (pv 3)))))))), ?_⟩
    refine ⟨_, rfl, b, u, rfl, hb, lu, u1, ul, fun g H1 g0 hg s1 => ?_⟩
    have dn := dstN_facts u
    refine ⟨_, rfl, b, u, rfl, s1 _ _ hb, by lia, fun a ha => ⟨a, dstN u, rfl, upd_same, fun z => ?_, by lia, fun so Al pm so0 => ?_⟩⟩
    · have : u.length = 0 := by
        cases u with
        | nil => rfl
        | cons c r => have := (dn.2.1 c).mpr (by simp); rw [z] at this; cases this
      lia
    have And := pm.nodup_iff.mpr dn.1
    have Au : ∀ c, c ∈ Al ↔ c ∈ u := fun c => pm.mem_iff.trans (dn.2.1 c)
    have Al26 := letters_len And (fun c hc => (Au c).mp hc) lu
    generalize SetS _ a (dstN u) = oS at so0 ⊢
    have s2 := s1.trans ((Same.upd (o := oS) ha).trans (Same.upd (o := .lst (Al.map sg)) so0))
    have hso := upd_same (H := L2.upd H1 a oS) (a := so) (o := .lst (Al.map sg))
    have hg2 : (L2.upd (L2.upd H1 a oS) so (.lst (Al.map sg))) g = _ := (Same.upd (o := .lst (Al.map sg)) so0) _ _ ((Same.upd (o := oS) ha) _ _ hg)
    generalize L2.upd (L2.upd H1 a oS) so (.lst (Al.map sg)) = H2 at s2 hso hg2 ⊢
    have hb2 := s2 _ _ hb
    intro fd hfd
    refine ⟨(by show 2 ≤ sizeLine; decide), fun t0 ht0 => ⟨(by show 1 ≤ sizeLine; decide), fun pl hpl => ?_⟩⟩
    have fd0 : H2 fd = none := hfd
    have t00 : H2 t0 = none := (Same.upd (o := .dT []) hfd).free ht0
    have pl0 : H2 pl = none := (Same.upd (o := .dT []) hfd).free ((Same.upd (o := .tup [.int 0, .int 0]) ht0).free hpl)
    have I0 : Iv u Al H2 fd pl [] [(0, 0)] (L2.upd (L2.upd (L2.upd H2 fd (.dT [])) t0 (.tup [.int 0, .int 0])) pl (.lst [.ref t0])) := by
      have hf3 := upd_same (H := H2) (a := fd) (o := .dT [])
      have ht3 := upd_same (H := L2.upd H2 fd (.dT [])) (a := t0) (o := .tup [.int 0, .int 0])
      refine ⟨(Same.upd hfd).trans ((Same.upd ht0).trans (Same.upd hpl)), (Same.upd hpl) _ _ ((Same.upd ht0) _ _ hf3), ⟨[t0], upd_same, .cons ((Same.upd hpl) _ _ ht3) .nil⟩, fun e he => (nomatch he)⟩
    generalize L2.upd (L2.upd (L2.upd H2 fd (.dT [])) t0 (.tup [.int 0, .int 0])) pl (.lst [.ref t0]) = H3 at I0 ⊢
    have NN : (u.length + 1) * (u.length + 1) ≤ 160801 := Nat.le_trans (Nat.mul_le_mul (by lia) (by lia)) (show 401 * 401 ≤ 160801 by decide)
    generalize eN : (u.length + 1) * (u.length + 1) = N at NN
    refine ⟨fun m σ H5 => ∃ es ps v5 v6 v7, σ = [some (.ref b), some (.ref g), some (.ref so), some (.ref fd), some (.ref pl), v5, v6, v7] ∧ Iv u Al H2 fd pl es ps H5 ∧ Fnd u Al (es.map (·.1)) ps ∧ m = 27 * (N - es.length) + ps.length, ⟨_, [], [(0, 0)], none, none, none, rfl, I0, Fnd.start u Al, rfl⟩, ?_⟩
    rintro m σ H5 ⟨es, ps, v5, v6, v7, rfl, I, Fd, rfl⟩
    have esN : es.length ≤ N := by have := states_len Fd.nd Fd.bk; rw [List.length_map, eN] at this; exact this
    obtain ⟨ts, hpl5, hts⟩ := I.hp
    refine ⟨_, rfl, Nat.zero_le _, fun q hq => ?_⟩
    have s6 := Same.upd (o := .lst []) hq
    have hq6 := upd_same (H := H5) (a := q) (o := .lst [])
    have I6 : Iv u Al H2 fd pl es ps (L2.upd H5 q (.lst [])) := ⟨I.same.trans s6, s6 _ _ I.hf, ⟨ts, s6 _ _ hpl5, Paired.mapP hts fun _ _ x => s6 _ _ x⟩, fun e he => ⟨(I.rows e he).1, (I.rows e he).2.1, (I.rows e he).2.2.keep (Same.tk s6) fun xs x => s6 _ _ x⟩⟩
    generalize L2.upd H5 q (.lst []) = H6 at s6 hq6 I6 ⊢
    obtain ⟨ts, hpl6, hts⟩ := I6.hp
    refine ⟨.list (ps.map stD), .list [], ?_, ?_, Nat.le_trans (Nat.min_le_right _ _) (by decide), _, rfl, ?_⟩
    · rw [DatV]; exact ⟨pl, _, rfl, SqL.of hpl6, datPile hts⟩
    · rw [DatV]; exact ⟨q, [], rfl, SqL.of hq6, by rw [DatVs]⟩
    rw [if_pos rfl, eqv_pile]
    refine ite2 (fun hne => ?_) (fun hne => ?_)
    · have ne := of_decide_eq_true hne
      obtain ⟨ps, st, rfl⟩ : ∃ ps' st, ps = ps' ++ [st] := ⟨ps.dropLast, ps.getLast ne, (List.dropLast_concat_getLast ne).symm⟩
      obtain ⟨ts, tt, rfl, hts, htt⟩ := paired_last hts
      refine ⟨fun σ' H' => ∃ m', m' < 27 * (N - es.length) + (ps ++ [st]).length ∧ ∃ es ps v5 v6 v7, σ' = [some (.ref b), some (.ref g), some (.ref so), some (.ref fd), some (.ref pl), v5, v6, v7] ∧ Iv u Al H2 fd pl es ps H' ∧ Fnd u Al (es.map (·.1)) ps ∧ m' = 27 * (N - es.length) + ps.length, fun _ _ h => h, ?_⟩
      refine ⟨_, rfl, .inl ⟨rfl, _, SqL.of hpl6⟩, pl, _, .ref tt, rfl, rfl, hpl6, by rw [List.map_append, List.length_append, List.getElem?_append_right (by simp)]; simp, ?_⟩
      have e7 : ((ts ++ [tt]).map V.ref).dropLast = ts.map V.ref := by rw [List.map_append]; exact List.dropLast_concat
      rw [e7]
      have tk7 : TK H6 (L2.upd H6 pl (.lst (ts.map V.ref))) := TK.upd hpl6 fun xs z => nomatch z
      have I7 : Iv u Al H2 fd pl es ps (L2.upd H6 pl (.lst (ts.map V.ref))) := by
        refine ⟨fun a o e => ?_, ?_, ⟨ts, upd_same, Paired.mapP hts fun _ _ x => tk7 _ _ x⟩, fun e he => ⟨(I6.rows e he).1, (I6.rows e he).2.1, (I6.rows e he).2.2.keep tk7 fun xs x => ?_⟩⟩
        · rw [upd_ne (ne_of_none e pl0)]; exact I6.same _ _ e
        · rw [upd_ne (ne_of I6.hf hpl6 fun z => nomatch z)]; exact I6.hf
        · rw [upd_ne (I6.rows e he).1]; exact x
      have htt7 := tk7 _ _ htt
      generalize L2.upd H6 pl (.lst (ts.map V.ref)) = H7 at tk7 I7 htt7 ⊢
      have bst := Fd.bp st (by simp)
      refine ⟨_, rfl, _, rfl, fd, _, rfl, DGet.t (k := keyP st) I7.hf htt7, _, rfl, ?_⟩
      have vr : valV (KvS es) (keyP st) = (es.find? fun e => decide (e.1 = st)).map fun e => V.ref e.2 := val_row (es := es) (f := fun e : (Nat × Nat) × Addr => V.ref e.2) (g := fun e : (Nat × Nat) × Addr => e.1)
      by_cases old : st ∈ es.map (·.1)
      · obtain ⟨e, he, ee⟩ := List.mem_map.mp old
        have fr := find_row (g := fun e : (Nat × Nat) × Addr => e.1) Fd.nd he
        rw [ee] at fr
        rw [vr, fr]
        refine iteF ⟨_, ?_, es, ps, _, _, _, rfl, I7, Fd.old old, rfl⟩
        rw [List.length_append]; show _ < _ + (_ + 1); lia
      · rw [vr, find_no old]
        refine iteT ⟨Nat.zero_le _, fun l hl => ?_⟩
        have s8 := Same.upd (o := .lst []) hl
        have pn : putK (KvS es) (keyP st) (.ref l) = KvS (es ++ [(st, l)]) := by
          unfold KvS
          rw [put_new (es := es) (f := fun e : (Nat × Nat) × Addr => V.ref e.2) (g := fun e : (Nat × Nat) × Addr => e.1) old, List.map_append]; rfl
        refine ⟨_, rfl, _, rfl, fd, _, rfl, DPut.t (k := keyP st) (s8 _ _ I7.hf) (s8 _ _ htt7) (by unfold KvS; rw [List.length_map, sizeLine_eq]; lia), ?_⟩
        rw [pn]
        have hf8 := s8 _ _ I7.hf
        have hl8 := upd_same (H := H7) (a := l) (o := .lst [])
        have l0 : H2 l = none := I7.same.free hl
        obtain ⟨ts, hpl7, hts7⟩ := I7.hp
        have lpl : l ≠ pl := (ne_of_none hpl7 hl).symm
        have tk9 : TK H7 (L2.upd (L2.upd H7 l (.lst [])) fd (.dT (KvS (es ++ [(st, l)])))) := (Same.tk s8).trans (TK.upd hf8 fun xs z => nomatch z)
        have J9 : Jv u Al H2 fd pl l es st (outs u (Al.take 0) st) (ps ++ (outs u (Al.take 0) st).map (·.2)) (L2.upd (L2.upd H7 l (.lst [])) fd (.dT (KvS (es ++ [(st, l)])))) := by
          refine ⟨fun a o e => ?_, upd_same, ⟨ts, ?_, ?_⟩, fun e he => ⟨?_, (I7.rows e he).1, (I7.rows e he).2.1, (I7.rows e he).2.2.keep tk9 fun xs x => ?_⟩, ⟨[], ?_, .nil⟩⟩
          · rw [upd_ne (ne_of_none e fd0)]; exact s8 _ _ (I7.same _ _ e)
          · rw [upd_ne (ne_of hpl7 I7.hf fun z => nomatch z)]; exact s8 _ _ hpl7
          · rw [List.take_zero, outs_nil, List.map_nil, List.append_nil]; exact Paired.mapP hts7 fun _ _ x => tk9 _ _ x
          · obtain ⟨qs, g1, _⟩ := (I7.rows e he).2.2
            exact ne_of_none g1 hl
          · rw [upd_ne (ne_of x I7.hf fun z => nomatch z)]; exact s8 _ _ x
          · rw [upd_ne (ne_of hl8 hf8 fun z => nomatch z)]; exact hl8
        have htt9 := tk9 _ _ htt7
        generalize L2.upd (L2.upd H7 l (.lst [])) fd (.dT (KvS (es ++ [(st, l)]))) = H9 at tk9 J9 htt9 ⊢
        refine ⟨_, rfl, so, rfl, ⟨_, SqL.of (J9.same _ _ hso)⟩, for_list (xs := Al.map sg) (fun j σ H10 => ∃ v6 v7, σ = [some (.ref b), some (.ref g), some (.ref so), some (.ref fd), some (.ref pl), some (.ref tt), v6, v7] ∧ StP H10 tt st ∧ Jv u Al H2 fd pl l es st (outs u (Al.take j) st) (ps ++ (outs u (Al.take j) st).map (·.2)) H10) ?_ ?_ ?_ ?_⟩
        · exact ⟨_, _, rfl, htt9, J9⟩
        · rintro j σ H10 _ ⟨_, _, _, _, J⟩
          exact SqL.of (J.same _ _ hso)
        · rintro j x σ H10 hx ⟨v6, v7, rfl, ht, J⟩
          obtain ⟨jl, ej⟩ := List.getElem?_eq_some_iff.mp hx
          rw [List.length_map] at jl
          rw [List.getElem_map] at ej
          subst ej
          have cA := lu _ ((Au _).mp (List.getElem_mem jl))
          refine ⟨_, rfl, _, rfl, _, rfl, _, rfl, b, g, tt, u, st.1, st.2, Al[j], rfl, J.same _ _ hb2, lu, cA.1, cA.2, u1, ul, bst.1, J.same _ _ hg2, ht, fun v H11 nv fr s11 => ?_⟩
          have J11 := J.keep s11
          have ht11 := s11 _ _ ht
          have ot : outs u (Al.take (j + 1)) st = outs u (Al.take j) st ++ (match nx u st Al[j] with | none => [] | some t => [(Al[j], t)]) := by
            rw [List.take_succ_eq_append_getElem jl, outs_snoc] <;> (cases nx u st Al[j] <;> rfl)
          cases hn : nx u st Al[j] with
          | none =>
            have hn' : nx u (st.1, st.2) Al[j] = none := hn
            rw [hn'] at nv
            rw [hn] at ot
            obtain rfl : v = .non := nv
            refine ⟨_, rfl, rfl, _, rfl, iteF ⟨_, _, rfl, ht11, ?_⟩⟩
            rw [ot, List.append_nil]
            exact J11
          | some t =>
            have hn' : nx u (st.1, st.2) Al[j] = some (t.1, t.2) := hn
            rw [hn'] at nv
            rw [hn] at ot
            obtain ⟨r, rfl, hr11⟩ := nv
            obtain ⟨qs, hl11, hqs⟩ := J11.row
            have vv : valV (KvS (es ++ [(st, l)])) (keyP st) = some (V.ref l) := by
              have := val_row (es := es ++ [(st, l)]) (f := fun e : (Nat × Nat) × Addr => V.ref e.2) (g := fun e : (Nat × Nat) × Addr => e.1) (st := st)
              unfold KvS
              rw [this, List.find?_append, find_no old]
              simp
            have gl : (qs.map V.ref).length ≤ 26 := by
              rw [List.length_map, hqs.length]
              exact Nat.le_trans (outs_len _ _ _) (by rw [List.length_take]; lia)
            refine ⟨_, rfl, rfl, _, rfl, iteT ⟨_, rfl, _, rfl, fd, .ref l, rfl, (by rw [← vv]; exact DGet.t (k := keyP st) J11.hf ht11), .inl ⟨rfl, _, SqL.of hl11⟩, _, rfl, _, rfl, (by show 2 ≤ sizeLine; decide), fun p hp => ?_⟩⟩
            have s12 := Same.upd (o := .tup [sg Al[j], .ref r]) hp
            have hp12 := upd_same (H := H11) (a := p) (o := .tup [sg Al[j], .ref r])
            have J12 := J11.keep s12
            have hr12 := s12 _ _ hr11
            have hl12 := s12 _ _ hl11
            have ht12 := s12 _ _ ht11
            generalize L2.upd H11 p (.tup [sg Al[j], .ref r]) = H12 at s12 hp12 J12 hr12 hl12 ht12 ⊢
            obtain ⟨ts2, hpl12, hts12⟩ := J12.hp
            have pl26 : (ts2.map V.ref).length ≤ 26 * N + 27 := by
              rw [List.length_map, hts12.length, List.length_append, List.length_map]
              have := Fd.ln
              have := outs_len u (Al.take j) st
              rw [List.length_take] at this
              simp only [List.length_append, List.length_map, List.length_singleton] at *
              lia
            refine ⟨l, _, _, rfl, rfl, hl12, by rw [sizeLine_eq]; lia, ?_⟩
            have hpl13 : (L2.upd H12 l (.lst (qs.map V.ref ++ [.ref p]))) pl = some (.lst (ts2.map V.ref)) := by rw [upd_ne lpl.symm]; exact hpl12
            refine ⟨_, rfl, .inl ⟨rfl, _, SqL.of hpl13⟩, _, rfl, pl, _, _, rfl, rfl, hpl13, by rw [sizeLine_eq]; lia, ?_⟩
            have J14 := J12.app lpl l0 pl0 hp12 hr12 hl12 hpl12
            refine ⟨_, _, rfl, ?_, ?_⟩
            · show (L2.upd (L2.upd H12 l _) pl _) tt = some _
              rw [upd_ne (ne_of ht12 hpl12 fun z => nomatch z), upd_ne (ne_of ht12 hl12 fun z => nomatch z)]; exact ht12
            · rw [ot, List.map_append, ← List.append_assoc]; exact J14
        · rintro σ H10 ⟨v6, v7, rfl, ht, J⟩
          rw [List.length_map, List.take_length] at J
          have Fn := Fd.new old Al26
          have len1 : (es ++ [(st, l)]).length ≤ N := by
            have := states_len Fn.nd Fn.bk
            rw [eN] at this
            simpa using this
          refine ⟨_, ?_, es ++ [(st, l)], ps ++ (outs u Al st).map (·.2), _, _, _, rfl, ⟨J.same, J.hf, J.hp, fun e he => ?_⟩, by rw [List.map_append]; exact Fn, rfl⟩
          · have := outs_len u Al st
            simp only [List.length_append, List.length_map, List.length_singleton] at *
            lia
          · rcases (List.mem_append (s := es)).mp he with he | he
            · exact (J.rows e he).2
            · rw [List.mem_singleton.mp he]; exact ⟨lpl, l0, J.row⟩
    · have pn : ps = [] := Classical.byContradiction fun z => hne (decide_eq_true z)
      subst pn
      have cl : ∀ st ∈ es.map (·.1), ∀ c ∈ Al, ∀ t, nx u st c = some t → t ∈ es.map (·.1) := fun st hs c hc t e => (Fd.cl st hs c hc t e).resolve_right fun z => nomatch z
      exact ⟨_, rfl, k fd Al es H6 And Au (s2.free fd0) I6.hf ⟨Fd.nd, Fd.bk, cl, Fd.z.resolve_right (fun z => (nomatch z)), fun e he => (I6.rows e he).2.2⟩ (s2.trans I6.same)⟩
end

end Ov

namespace Ov
open PySem L2
/-! ### the counts by the states -/
abbrev sCts : Stmt := top 29
/-- the counts of the states, k signs ahead of the end -/
def RowD (u A : List Nat) (es : List ((Nat × Nat) × Addr)) (k : Nat) : List (List Key × V) := es.map fun e => (keyP e.1, .int ((fw u A k e.1 : Nat) : Int))
theorem rowD_val {u A : List Nat} {es : List ((Nat × Nat) × Addr)} {k : Nat} {st : Nat × Nat} (nd : (es.map (·.1)).Nodup) (h : st ∈ es.map (·.1)) : valV (RowD u A es k) (keyP st) = some (.int ((fw u A k st : Nat) : Int)) := by
  obtain ⟨e, he, rfl⟩ := List.mem_map.mp h
  have := val_row (es := es) (f := fun e : (Nat × Nat) × Addr => V.int ((fw u A k e.1 : Nat) : Int)) (g := fun e : (Nat × Nat) × Addr => e.1) (st := e.1)
  unfold RowD
  rw [this, find_row (g := fun e : (Nat × Nat) × Addr => e.1) nd he]
  rfl
theorem DGet.f {H : Hp} {a b : Addr} {o : Obj} {kvs : List (List Key × V)} {k : List Key} (e : H a = some (.frz o (.dT kvs))) (eb : H b = some (.tup (k.map kV))) : DGet H a (.ref b) (valV kvs k) := .inr ⟨kvs, k, b, .inr ⟨o, e⟩, rfl, eb, rfl⟩
def spCts : Sp := fun vs H Q _ => ∃ (b : Addr) (u : List Nat) (m : Nat), vs = [.ref b, .int (m : Int)] ∧ H b = some (.lst (u.map sg)) ∧ Low u ∧ 1 ≤ u.length ∧ u.length ≤ 200 ∧ m ≤ 400 ∧
  ∀ (r f l : Addr) (ds : List Addr) (H' : Hp), H r = none → H' r = some (.tup [.ref f, .ref l]) → H' l = some (.lst (ds.map V.ref)) → (∀ k, k ≤ m → ∃ d prs, ds[k]? = some d ∧ H' d = some (.dT prs) ∧ valV prs (keyP (0, 0)) = some (.int ((cnt u k : Nat) : Int))) → Same H H' → Q (.ref r) H'
theorem meet_v {te : TE} {σ : St} {H : Hp} {Q : VK} (v : V) (h : ∀ R : VK, R v H → te σ H R) (q : Q v H) : te σ H Q := h Q q
theorem fw_end {u A : List Nat} {st : Nat × Nat} : ((fw u A 0 st : Nat) : Int) = if st.2 = 0 ∧ st.1 = u.length then 1 else 0 := by
  rw [fw_zero]
  by_cases h : st = (u.length, 0)
  · rw [if_pos h, if_pos ⟨by rw [h], by rw [h]⟩]; rfl
  · rw [if_neg h, if_neg fun z => h (Prod.ext z.2 z.1)]; rfl
section
variable {P : Program} {w : World} {K : PySem.W.Frag} {mg : Str → Option Value} {base : Heap}
theorem scCts : FnScope ["word", "most", "steps", "row", "found", "more", "later", "state"] ["word", "most"] (defScope sCts) := ⟨rfl, rfl, rfl, by decide +kernel, rfl, by decide +kernel, by decide +kernel⟩
theorem ok_cts (M : Md K mg) (B : Bl mg) (ndict : mg "dict" = none) (F : FF K "_law_counts" sCts) (F_law_steps : Fn P w K mg base CX0 "_law_steps" 2 ["word"] spSteps) : Fn P w K mg base CX0 "_law_counts" 3 ["word", "most"] spCts := by
  refine fn_ok M F scCts (fun _ _ _ _ _ _ => us2 fun _ _ => rfl) (fun vs H Q E h => ?_) (fun f cdv A outer s H vs Q E hr h => ?_)
  · obtain ⟨b, u, m, rfl, _⟩ := h; rfl
  · obtain ⟨b, u, m, rfl, hb, lu, u1, ul, ml, k⟩ := h
    refine ⟨_, (pss_cons (ps_set (i := 2) scCts.nd rfl (.inl rfl) (pe_fn F_law_steps hr pass0 (pa_cons (pv 0) pa_nil)))
      (pss_cons (ps_set (i := 3) scCts.nd rfl (.inr rfl) (pe_dictT hr rfl ndict (pe_comp ["word", "most", "steps", "row", "found", "more", "later", ""] rfl (pi_keys (pv 2)) (fun _ => by exact pif_nil) (fun _ => by exact (pe_tup (pa_cons (pv 8) (pa_cons (pe_intB B.int (pe_and (pe_cmpR op_eq (pe_ix ix_tup (pv 8) pe_int (fun _ _ => rfl)) pe_int (nomark _)) (pe_one (pe_cmpR op_eq (pe_ix ix_tup (pv 8) pe_int (fun _ _ => rfl)) (pe_lenL B.len (pv 0)) (nomark _))))) pa_nil)))))))
      (pss_cons (ps_set (i := 4) scCts.nd rfl (.inl rfl) (pe_lst (pa_cons (pv 3) pa_nil)))
      (pss_cons (ps_for PassesOwn.never rfl (pi_range1 (by rfl) B.range (pa_cons (pv 1) pa_nil)) (pg_name (i := 5) scCts.nd rfl (.inl rfl))
      (pss_cons (ps_set (i := 6) scCts.nd rfl (.inl rfl) pe_dnewT)
      (pss_cons (ps_for PassesOwn.never rfl (pi_keys (pv 2)) (pg_name (i := 7) scCts.nd rfl (.inl rfl))
      (pss_one (ps_dput (by exact hu_of hr) (pv 6) (pv 7) (pe_sumG rfl B.sum (pe_comp2 ["sign", "behind"] ["word", "most", "steps", "row", "found", "more", "later", "state"] rfl (pi_list (pe_dget (by exact hu_of hr) (pv 2) (pv 7) (fun _ _ => rfl))) (fun _ => by exact (pg_tup rfl (pgs_cons (pg_name (i := 8) (show ((["word", "most", "steps", "row", "found", "more", "later", "state"] : List Str) ++ (["sign", "behind"] : List Str)).Nodup by decide +kernel) rfl (.inl rfl)) (pgs_cons (pg_name (i := 9) (show ((["word", "most", "steps", "row", "found", "more", "later", "state"] : List Str) ++ (["sign", "behind"] : List Str)).Nodup by decide +kernel) rfl (.inl rfl)) pgs_nil)))) (fun _ => by exact pif_nil) (fun _ => by exact (pe_dget (by exact hu_of hr) (pv 3) (pv 9) (fun _ _ => rfl))))) rfl)))
      (pss_cons (ps_set (i := 3) scCts.nd rfl (.inr rfl) (pv 6))
      (pss_one (ps_expr (pe_bm PySem.F.plainAttrs_list PySem.F.slot_list_append PySem.F.type_list_append mt_append (pv 4) (pa_cons (pv 3) pa_nil))))))))
      (pss_one (ps_ret (pe_tup (pa_cons (pv 2) (pa_cons (pv 4) pa_nil))))))))), ?_⟩
    refine ⟨_, rfl, b, u, rfl, hb, lu, u1, by lia, fun f Al es H1 And Au f0 hf St s1 => ?_⟩
    have esN : es.length ≤ 40401 := by
      have := states_len St.nd St.bk
      rw [List.length_map] at this
      exact Nat.le_trans this (Nat.le_trans (Nat.mul_le_mul (Nat.succ_le_succ ul) (Nat.succ_le_succ ul)) (by decide))
    have kvl : (KvS es).length = es.length := by unfold KvS; rw [List.length_map]
    have kv_at : ∀ (i : Nat) (k : List Key) (v : V), (KvS es)[i]? = some (k, v) → ∃ e : (Nat × Nat) × Addr, es[i]? = some e ∧ k = keyP e.1 ∧ v = V.ref e.2 := fun i k v h => by
      unfold KvS at h
      rw [List.getElem?_map] at h
      cases q : es[i]? with
      | none => rw [q] at h; cases h
      | some e => rw [q] at h; cases h; exact ⟨e, rfl, rfl, rfl⟩
    refine ⟨_, rfl, f, KvS es, rfl, .inl ⟨hf, fun o D hD cb => ?_⟩⟩
    have s2 : Same H (L2.upd H1 f (.frz o (.dT (KvS es)))) := fun a x e => by rw [upd_ne (ne_of_none e f0)]; exact s1 _ _ e
    have tk2 : TK H1 (L2.upd H1 f (.frz o (.dT (KvS es)))) := TK.upd hf fun xs z => nomatch z
    have hf2 := upd_same (H := H1) (a := f) (o := .frz o (.dT (KvS es)))
    have rows2 : ∀ e ∈ es, RowP (L2.upd H1 f (.frz o (.dT (KvS es)))) e.2 (outs u Al e.1) := fun e he => (St.row e he).keep tk2 fun xs x => by rw [upd_ne (ne_of x hf fun z => nomatch z)]; exact x
    generalize L2.upd H1 f (.frz o (.dT (KvS es))) = H2 at s2 tk2 hf2 rows2 hD ⊢
    have hb2 := s2 _ _ hb
    refine comp_keys (a := f) (o := o) (kvs := KvS es) (fun i ys H3 => ∃ ps : List Addr, ys = ps.map V.ref ∧ ps.length = i ∧ (∀ (j : Nat) (p : Addr) (e : (Nat × Nat) × Addr), ps[j]? = some p → es[j]? = some e → PairT H3 p (keyP e.1, .int ((fw u Al 0 e.1 : Nat) : Int))) ∧ Same H2 H3 ∧ H3 D = some (.lst ys)) (by rw [kvl, sizeLine_eq]; lia) ?_ ?_ ?_ ?_ ?_
    · exact ⟨[], rfl, rfl, fun j p e h => (nomatch h), Same.upd hD, upd_same⟩
    · rintro i ys H3 ⟨ps, rfl, rfl, _⟩
      rw [List.length_map]; exact Nat.le_refl _
    · rintro i ys H3 _ ⟨ps, _, _, _, s3, _⟩
      exact s3 _ _ hf2
    · rintro i kk v t ys H3 hx ht ⟨ps, rfl, rfl, pr, s3, hD3⟩
      obtain ⟨e, he, rfl, rfl⟩ := kv_at _ _ _ hx
      rw [stP_key] at ht
      have hb3 := s3 _ _ hb2
      refine tNoIf_go ⟨_, rfl, ?_⟩
      refine meet_v (te := tIntB _) (.int ((fw u Al 0 e.1 : Nat) : Int)) (fun R hR => ?_) ?_
      · rw [fw_end] at hR
        refine ⟨_, rfl, t, _, _, _, rfl, rfl, SqT.of ht, rfl, rfl, _, rfl, ?_⟩
        by_cases z2 : e.1.2 = 0
        · rw [decide_eq_true (show V.int (e.1.2 : Int) = V.int 0 by rw [z2]; rfl)]
          refine iteT ⟨_, rfl, t, _, _, _, rfl, rfl, SqT.of ht, rfl, _, rfl, b, _, rfl, SqL.of hb3, rfl, _, rfl, ?_⟩
          rw [List.length_map]
          by_cases z1 : e.1.1 = u.length
          · rw [decide_eq_true (show V.int (e.1.1 : Int) = V.int (u.length : Int) by rw [z1])]
            rw [if_pos ⟨z2, z1⟩] at hR
            exact hR
          · rw [decide_eq_false (fun q => z1 (by have := V.int.inj q; lia))]
            rw [if_neg fun z => z1 z.2] at hR
            exact hR
        · rw [decide_eq_false (fun q => z2 (by have := V.int.inj q; lia))]
          rw [if_neg fun z => z2 z.1] at hR
          exact iteF ⟨_, rfl, hR⟩
      refine ⟨(by show 2 ≤ sizeLine; decide), fun p hp => ?_⟩
      have s4 := Same.upd (o := .tup [.ref t, .int ((fw u Al 0 e.1 : Nat) : Int)]) hp
      have hp4 := upd_same (H := H3) (a := p) (o := .tup [.ref t, .int ((fw u Al 0 e.1 : Nat) : Int)])
      have hD4 := s4 _ _ hD3
      have ht4 := s4 _ _ ht
      generalize L2.upd H3 p (.tup [.ref t, .int ((fw u Al 0 e.1 : Nat) : Int)]) = H4 at s4 hp4 hD4 ht4 ⊢
      have k4 : TK H4 (L2.upd H4 D (.lst (ps.map V.ref ++ [.ref p]))) := TK.upd hD4 fun xs z => nomatch z
      refine ⟨hD4, ps ++ [p], by rw [List.map_append]; rfl, by simp, fun j q e' hq he' => ?_, fun a o' x => ?_, upd_same⟩
      · by_cases jl : j < ps.length
        · rw [List.getElem?_append_left jl] at hq
          obtain ⟨tb, g1, g2⟩ := pr j q e' hq he'
          exact ⟨tb, k4 _ _ (s4 _ _ g1), k4 _ _ (s4 _ _ g2)⟩
        · have jlt := (List.getElem?_eq_some_iff.mp hq).1
          have ej : j = ps.length := by simp at jlt; lia
          subst ej
          rw [he] at he'
          obtain rfl := Option.some.inj he'
          have : p = q := by simpa using hq
          subst this
          exact ⟨t, k4 _ _ hp4, k4 _ _ ht4⟩
      · rw [upd_ne (ne_of_none x hD)]; exact s4 _ _ (s3 _ _ x)
    · rintro ys H3 ⟨ps, rfl, psl, pr, s3, hD3⟩
      rw [kvl] at psl
      refine ⟨D, ps, RowD u Al es 0, rfl, hD3, by unfold RowD; rw [psl, List.length_map], fun i p kv hp hkv => ?_, ?_, by unfold RowD; rw [List.length_map]; lia, fun d hd => ?_⟩
      · unfold RowD at hkv
        rw [List.getElem?_map] at hkv
        cases q : es[i]? with
        | none => rw [q] at hkv; cases hkv
        | some e => rw [q] at hkv; cases hkv; exact pr i p e hp q
      · unfold RowD
        rw [List.map_map]
        have : (es.map (·.1)).map keyP = es.map ((fun x => x.1) ∘ fun e : (Nat × Nat) × Addr => (keyP e.1, V.int ((fw u Al 0 e.1 : Nat) : Int))) := by rw [List.map_map]; rfl
        rw [← this]
        exact List.pairwise_map.mpr (St.nd.imp fun ne q => ne (keyP_inj q))
      have s4 := Same.upd (o := .dT (RowD u Al es 0)) hd
      have hd4 := upd_same (H := H3) (a := d) (o := .dT (RowD u Al es 0))
      have s24 := s3.trans s4
      generalize L2.upd H3 d (.dT (RowD u Al es 0)) = H4 at s4 hd4 s24 ⊢
      refine ⟨_, rfl, (by show 1 ≤ sizeLine; decide), fun l hl => ?_⟩
      have s5 := Same.upd (o := .lst [.ref d]) hl
      have hl5 := upd_same (H := H4) (a := l) (o := .lst [.ref d])
      have l0 : H2 l = none := s24.free hl
      have s25 := s24.trans s5
      have hd5 := s5 _ _ hd4
      generalize L2.upd H4 l (.lst [.ref d]) = H5 at s5 hl5 s25 hd5 ⊢
      refine ⟨_, rfl, _, rfl, by lia, by lia, ?_⟩
      rw [Int.toNat_natCast]
      refine for_range (lo := 0) (n := m) (fun k σ H6 => ∃ (ds : List Addr) (d : Addr) (v5 v6 v7 : Option V), σ = [some (.ref b), some (.int (m : Int)), some (.ref f), some (.ref d), some (.ref l), v5, v6, v7] ∧ Same H2 H6 ∧ H6 l = some (.lst (ds.map V.ref)) ∧ ds.length = k + 1 ∧ ds[k]? = some d ∧ ∀ (j : Nat) (d' : Addr), ds[j]? = some d' → H6 d' = some (.dT (RowD u Al es j))) ?_ ?_ ?_
      · refine ⟨[d], d, none, none, none, rfl, s25, hl5, rfl, rfl, fun j d' h => ?_⟩
        match j, h with
        | 0, h => cases h; exact hd5
      · rintro k σ H6 hk ⟨ds, d, v5, v6, v7, rfl, s6, hl6, dsl, hdk, hds⟩
        intro ld hld
        have s7 := Same.upd (o := .dT []) hld
        have hld7 := upd_same (H := H6) (a := ld) (o := .dT [])
        generalize L2.upd H6 ld (.dT []) = H7 at s7 hld7 ⊢
        have hf7 := s7 _ _ (s6 _ _ hf2)
        refine ⟨_, rfl, f, KvS es, rfl, .inr ⟨o, hf7, ?_⟩⟩
        refine for_keys (a := f) (o := o) (kvs := KvS es) (fun i σ H8 => ∃ v7, σ = [some (.ref b), some (.int (m : Int)), some (.ref f), some (.ref d), some (.ref l), some (.int (0 + (k : Int))), some (.ref ld), v7] ∧ Same H6 H8 ∧ H8 ld = some (.dT (RowD u Al (es.take i) (k + 1)))) ?_ ?_ ?_ ?_
        · exact ⟨_, rfl, s7, hld7⟩
        · rintro i σ H8 _ ⟨_, _, s8, _⟩
          exact s8 _ _ (s6 _ _ hf2)
        · rintro i kk v t σ H8 hx ht ⟨v7', rfl, s8, hld8⟩
          obtain ⟨e, he, rfl, rfl⟩ := kv_at _ _ _ hx
          have hf8 := s8 _ _ (s6 _ _ hf2)
          have em := List.mem_of_getElem? he
          have vv : valV (KvS es) (keyP e.1) = some (V.ref e.2) := by
            have := val_row (es := es) (f := fun e : (Nat × Nat) × Addr => V.ref e.2) (g := fun e : (Nat × Nat) × Addr => e.1) (st := e.1)
            unfold KvS
            rw [this, find_row (g := fun e : (Nat × Nat) × Addr => e.1) St.nd em]; rfl
          obtain ⟨qs, hq2, hqs⟩ := rows2 e em
          have hq8 := s8 _ _ (s6 _ _ hq2)
          have hd8 := s8 _ _ (hds k d hdk)
          refine ⟨_, rfl, _, rfl, f, .ref e.2, rfl, (by rw [← vv]; exact DGet.f (k := keyP e.1) hf8 ht), e.2, rfl, ⟨_, SqL.of hq8⟩, fun D2 hD2 cb => ?_⟩
          have ql : qs.length = (outs u Al e.1).length := hqs.length
          refine comp_list2 (K := K) (k := 2) (a := e.2) (xs := qs.map V.ref) (fun i ys H9 => ys = vInts (((outs u Al e.1).take i).map fun o => fw u Al k o.2) ∧ Same H8 H9 ∧ H9 D2 = some (.lst ys)) ?_ ?_ ?_ ?_ ?_ ?_
          · rw [List.length_map, ql, sizeLine_eq]
            have := outs_len u Al e.1
            have := letters_len And (fun c hc => (Au c).mp hc) lu
            lia
          · exact ⟨rfl, Same.upd hD2, upd_same⟩
          · rintro i ys H9 ⟨rfl, _⟩
            rw [vInts_len, List.length_map, List.length_take]; lia
          · rintro i ys H9 _ ⟨_, s9, _⟩
            exact SqL.of (s9 _ _ hq8)
          · rintro i2 x ys H9 hx9 ⟨rfl, s9, hD9⟩
            rw [List.getElem?_map] at hx9
            cases q : qs[i2]? with
            | none => rw [q] at hx9; cases hx9
            | some p =>
              rw [q] at hx9
              obtain rfl := Option.some.inj hx9
              obtain ⟨oo, ho, tb, g1, g2⟩ := paired_get hqs q
              have G1 := s9 _ _ (s8 _ _ (s6 _ _ g1))
              have G2 := s9 _ _ (s8 _ _ (s6 _ _ g2))
              have tin : oo.2 ∈ es.map (·.1) := by
                have := mem_outs (List.mem_of_getElem? ho)
                exact St.cl e.1 (List.mem_map.mpr ⟨e, em, rfl⟩) oo.1 this.1 oo.2 this.2
              refine ⟨p, _, rfl, SqT.of G1, rfl, _, _, rfl, _, _, rfl, rfl, ?_, ?_⟩
              · intro j hj
                match j, hj with
                | 0, _ => rfl
                | 1, _ => rfl
                | 2, _ => rfl
                | 3, _ => rfl
                | 4, _ => rfl
                | 5, _ => rfl
                | 6, _ => rfl
                | 7, _ => rfl
              · refine tNoIf_go ⟨_, rfl, _, rfl, d, .int ((fw u Al k oo.2 : Nat) : Int), rfl, (by rw [← rowD_val (k := k) St.nd tin]; exact DGet.t (k := keyP oo.2) (s9 _ _ hd8) G2), hD9, ?_, fun a o' x => by rw [upd_ne (ne_of_none x hD2)]; exact s9 _ _ x, upd_same⟩
                rw [List.take_add_one, ho, Option.toList_some, List.map_append, List.map_cons, List.map_nil, vInts_snoc']
          · rintro ys H9 ⟨rfl, s9, hD9⟩
            rw [List.length_map, ql, List.take_length] at hD9
            refine ⟨D2, _, rfl, hD9, ?_⟩
            rw [sum_cast, ← fw_outs]
            have hld9 := s9 _ _ hld8
            have ni : e.1 ∉ (es.take i).map (·.1) := fun z => by
              obtain ⟨e', he', q⟩ := List.mem_map.mp z
              obtain ⟨j, hj⟩ := List.mem_iff_getElem?.mp he'
              rw [List.getElem?_take] at hj
              split at hj
              · rename_i jl
                have hj' := hj
                have nd := List.pairwise_map.mp St.nd
                obtain ⟨a1, a2⟩ := List.getElem?_eq_some_iff.mp hj
                obtain ⟨b1, b2⟩ := List.getElem?_eq_some_iff.mp he
                have := List.pairwise_iff_getElem.mp nd j i a1 b1 jl
                rw [a2, b2] at this
                exact this q
              · cases hj
            refine ⟨_, rfl, _, rfl, ld, _, rfl, DPut.t (k := keyP e.1) hld9 (s9 _ _ ht) (by unfold RowD; rw [List.length_map, List.length_take, sizeLine_eq]; lia), ?_⟩
            refine ⟨_, rfl, fun a o' x => by rw [upd_ne (ne_of_none x hld)]; exact s9 _ _ (s8 _ _ x), ?_⟩
            rw [upd_same]
            unfold RowD
            rw [put_new (es := es.take i) (f := fun e : (Nat × Nat) × Addr => V.int ((fw u Al (k + 1) e.1 : Nat) : Int)) (g := fun e : (Nat × Nat) × Addr => e.1) ni, List.take_add_one, he, Option.toList_some, List.map_append]
            rfl
        · rintro σ H8 ⟨v7', rfl, s8, hld8⟩
          rw [kvl, List.take_length] at hld8
          have hl8 := s8 _ _ hl6
          refine ⟨_, rfl, _, rfl, .inl ⟨rfl, _, SqL.of hl8⟩, _, rfl, l, _, _, rfl, rfl, hl8, by rw [List.length_map, dsl, sizeLine_eq]; lia, ?_⟩
          refine ⟨ds ++ [ld], ld, _, _, _, rfl, fun a o' x => by rw [upd_ne (ne_of_none x l0)]; exact s8 _ _ (s6 _ _ x), by rw [upd_same, List.map_append]; rfl, by simp [dsl], by rw [List.getElem?_append_right (by lia), dsl]; simp, fun j d' hj => ?_⟩
          by_cases jl : j < ds.length
          · rw [List.getElem?_append_left jl] at hj
            have := s8 _ _ (hds j d' hj)
            rw [upd_ne (ne_of this hl8 fun z => nomatch z)]
            exact this
          · have jlt := (List.getElem?_eq_some_iff.mp hj).1
            have ej : j = k + 1 := by simp at jlt; lia
            subst ej
            have : ld = d' := by rw [List.getElem?_append_right (by lia), dsl] at hj; simpa using hj
            subst this
            rw [upd_ne (ne_of hld8 hl8 fun z => nomatch z)]
            exact hld8
      · rintro σ H6 ⟨ds, d, v5, v6, v7, rfl, s6, hl6, dsl, hdk, hds⟩
        refine ⟨_, rfl, _, rfl, (by show 2 ≤ sizeLine; decide), fun r hr0 => ?_⟩
        have s7 := Same.upd (o := .tup [.ref f, .ref l]) hr0
        refine k r f l ds _ ((s2.trans s6).free hr0) upd_same (s7 _ _ hl6) (fun j jm => ?_) ((s2.trans s6).trans s7)
        have jl : j < ds.length := by lia
        refine ⟨ds[j], RowD u Al es j, List.getElem?_eq_getElem jl, s7 _ _ (hds j _ (List.getElem?_eq_getElem jl)), ?_⟩
        rw [rowD_val St.nd St.z, cnt_fw u1 And fun c hc => (Au c).mpr hc]
end

end Ov

namespace Ov
open PySem L2
abbrev sLaw : Stmt := top 30
def spLaw (K : PySem.W.Frag) (pt : Addr) : Sp := fun vs H Q _ => ∃ (a : Addr) (ns : List Int), vs = [.ref a] ∧ SqL K H a (ns.map V.int) ∧ ns.length ≤ 63 ∧ TB H pt ∧ ∀ H', TB H' pt → Q (.bl true) H'
theorem int_item {xs : List Int} {i : Nat} {x : V} (h : (xs.map V.int)[i]? = some x) : ∃ z : Int, x = .int z := by
  rw [List.getElem?_map] at h
  cases e : xs[i]? with
  | none => rw [e] at h; cases h
  | some z => rw [e] at h; exact ⟨z, (Option.some.inj h).symm⟩
/-- [0] + script[:n] -/
theorem zcat {K : PySem.W.Frag} {σ : St} {H : Hp} {a : Addr} {ns : List Int} {n : Int} {Q : VK} (hi : σ[0]? = some (some (.ref a))) (hS : SqL K H a (ns.map V.int)) (hn : 0 ≤ n) (hn2 : n ≤ 100)
    (k : ∀ (b : Addr) (xs : List Int) (H' : Hp), H' b = some (.lst (xs.map V.int)) → Same H H' → Q (.ref b) H') :
    tOp rCat (tLst (tCons (tC (.int 0)) tNil)) (tSl (rSlL K) (tVar 0) tNoPart (tPart (tC (.int n)))) σ H Q := by
  refine ⟨by show 1 ≤ sizeLine; decide, fun l0 hl0 => ?_⟩
  refine ⟨_, hi, n, rfl, a, _, rfl, (Same.upd hl0).seq hS, fun l1 hl1 => ?_⟩
  have e1 : cutV (ns.map V.int) none (some n) = (ns.take n.toNat).map V.int := by rw [cutV_cutL, cutL_map, cutL_hi _ _ hn]
  rw [e1] at *
  refine ⟨l0, l1, _, _, rfl, rfl, (Same.upd hl1) _ _ upd_same, upd_same, by simp only [List.length_cons, List.length_nil, List.length_map, List.length_take]; exact sz (by lia), fun b hb => ?_⟩
  refine k b (0 :: ns.take n.toNat) _ ?_ ((Same.upd hl0).trans ((Same.upd hl1).trans (Same.upd hb)))
  rw [upd_same]
  rfl
theorem TB.hand {H H' : Hp} {p pt : Addr} (h : TB H pt) (hp : Hand H p) (k : Keep p H H') : TB H' pt := by
  obtain ⟨x, y, z, hp⟩ := hp
  have np := h.ne hp
  rcases h with t | ⟨c, t1, t2⟩
  · exact .inl (k _ _ t (Ne.symm np))
  · refine .inr ⟨c, k _ _ t1 (Ne.symm np), k _ _ t2 fun e => ?_⟩
    rw [e, hp] at t2; cases t2
theorem seq_ifF {c : TT} {t rest : TS} {D : Ends} {σ : St} {H : Hp} (h : ∀ R : Bool → Hp → Prop, (∀ H', Same H H' → R false H') → c σ H R) (q : ∀ H', Same H H' → rest D σ H') : tSeq (tIfS c t tNext) rest D σ H := h (fun b H1 => if b = true then _ else _) fun H' s' => iteF (q H' s')
theorem one_ifF {c : TT} {t : TS} {D : Ends} {σ : St} {H : Hp} (h : ∀ R : Bool → Hp → Prop, (∀ H', Same H H' → R false H') → c σ H R) (q : ∀ H', Same H H' → D.nx σ H') : tIfS c t tNext D σ H := h (fun b H1 => if b = true then _ else _) fun H' s' => iteF (q H' s')
theorem or_F {c d : TT} {σ : St} {H : Hp} {R : Bool → Hp → Prop} (h : ∀ Q : Bool → Hp → Prop, (∀ H', Same H H' → Q false H') → c σ H Q) (g : ∀ H', Same H H' → d σ H' R) : tOr c d σ H R := h (fun b H1 => if b = true then _ else _) fun H' s' => iteF (g H' s')
theorem one_forL {wi : TI} {g : TG} {tb : TS} {D : Ends} {σ : St} {H : Hp} (h : wi σ H fun J H1 => FW J g tb D σ H1) : tFor wi g tb D σ H := h
theorem cnt_zero {u : List Nat} (u1 : 1 ≤ u.length) : cnt u 0 = 0 := by
  unfold cnt
  exact cn_low (by lia)
theorem LeastLen.uniq {u : List Nat} {many : Int} {v v' : V} (h : LeastLen u many v) (g : LeastLen u many v') : v = v' := by
  rcases h with ⟨n, rfl, n2, n3, n4⟩ | ⟨rfl, n4⟩ <;> rcases g with ⟨m, rfl, m2, m3, m4⟩ | ⟨rfl, m4⟩
  · have : n = m := by
      rcases Nat.lt_trichotomy n m with z | z | z
      · have := m4 n z; lia
      · exact z
      · have := n4 m z; lia
    rw [this]
  · have := m4 n n2; lia
  · have := n4 m m2; lia
  · rfl
def lens (u : List Nat) (many : Int) (k : Nat) : List Nat := ((List.range k).map (· + 1)).filter fun n => decide (many ≤ ((cnt u n : Nat) : Int))
theorem lens_succ (u : List Nat) (many : Int) (i : Nat) : lens u many (i + 1) = lens u many i ++ (if many ≤ ((cnt u (i + 1) : Nat) : Int) then [i + 1] else []) := by
  unfold lens
  rw [List.range_succ, List.map_append, List.filter_append]
  congr 1
  by_cases h : many ≤ ((cnt u (i + 1) : Nat) : Int) <;> simp [h]
theorem lens_len (u : List Nat) (many : Int) (i : Nat) : (lens u many i).length ≤ i := by
  have := List.length_filter_le (fun n => decide (many ≤ ((cnt u n : Nat) : Int))) ((List.range i).map (· + 1))
  unfold lens
  simpa using this
theorem mem_lens {u : List Nat} {many : Int} {k n : Nat} : n ∈ lens u many k ↔ (1 ≤ n ∧ n ≤ k) ∧ many ≤ ((cnt u n : Nat) : Int) := by
  unfold lens
  rw [List.mem_filter, List.mem_map, decide_eq_true_eq]
  constructor
  · rintro ⟨⟨j, hj, rfl⟩, h⟩
    have := List.mem_range.mp hj
    exact ⟨⟨by lia, by lia⟩, h⟩
  · rintro ⟨⟨h1, h2⟩, h⟩
    exact ⟨⟨n - 1, List.mem_range.mpr (by lia), by lia⟩, h⟩
theorem lens_up (u : List Nat) (many : Int) (k : Nat) : (lens u many k).Pairwise (· < ·) := List.Pairwise.filter _ (List.pairwise_map.mpr (List.pairwise_lt_range.imp fun q => by lia))
theorem lens_first {u : List Nat} {many : Int} (u1 : 1 ≤ u.length) (m1 : 1 ≤ many) : ∃ v, LeastLen u many v ∧ (vInts (lens u many 200) ++ [V.non])[0]? = some v := by
  have c0 := cnt_zero u1
  cases h : lens u many 200 with
  | nil =>
    refine ⟨.non, .inr ⟨rfl, fun m hm => ?_⟩, rfl⟩
    by_cases z : m = 0
    · rw [z, c0]; lia
    · by_cases y : many ≤ ((cnt u m : Nat) : Int)
      · have : m ∈ lens u many 200 := mem_lens.mpr ⟨⟨by lia, hm⟩, y⟩
        rw [h] at this; cases this
      · lia
  | cons n r =>
    have hn : n ∈ lens u many 200 := by rw [h]; exact List.mem_cons_self
    obtain ⟨⟨n1, n2⟩, n3⟩ := mem_lens.mp hn
    refine ⟨.int (n : Int), .inl ⟨n, rfl, n2, n3, fun m hm => ?_⟩, rfl⟩
    by_cases z : m = 0
    · rw [z, c0]; lia
    · by_cases y : many ≤ ((cnt u m : Nat) : Int)
      · have hm' : m ∈ lens u many 200 := mem_lens.mpr ⟨⟨by lia, by lia⟩, y⟩
        have up := lens_up u many 200
        rw [h] at hm' up
        rcases List.mem_cons.mp hm' with e | e
        · lia
        · have := (List.pairwise_cons.mp up).1 m e; lia
      · lia
/-- what stays while numbers are drawn -/
structure LawJ (b q ca hd p pt : Addr) (cs : List Int) (u : List Nat) (H : Hp) : Prop where
  hb : H b = some (.lst (cs.map V.int))
  hq : H q = some (.lst (u.map sg))
  hc : H ca = some (.lst (vInts ((List.range 201).map (cnt u))))
  hh : H hd = some (.lst (u.map sg))
  hp : Hand H p
  tb : TB H pt
  nb : b ≠ p
  nc : ca ≠ p
section
variable {b q ca hd p pt : Addr} {cs : List Int} {u : List Nat} {H H' : Hp}
theorem LawJ.same (L : LawJ b q ca hd p pt cs u H) (s : Same H H') : LawJ b q ca hd p pt cs u H' := ⟨s _ _ L.hb, s _ _ L.hq, s _ _ L.hc, s _ _ L.hh, L.hp.same s, L.tb.same s, L.nb, L.nc⟩
theorem LawJ.kp (L : LawJ b q ca hd p pt cs u H) (k : Keep p H H') (h : Hand H' p) : LawJ b q ca hd p pt cs u H' := ⟨k _ _ L.hb L.nb, k _ _ L.hq (hand_ne L.hp L.hq), k _ _ L.hc L.nc, k _ _ L.hh (hand_ne L.hp L.hh), h, TB.hand L.tb L.hp k, L.nb, L.nc⟩
theorem LawJ.wr (L : LawJ b q ca hd p pt cs u H) {D : Addr} {ys zs : List V} (h : H D = some (.lst ys)) (n1 : b ≠ D) (n2 : q ≠ D) (n3 : ca ≠ D) (n4 : hd ≠ D) (n5 : p ≠ D) : LawJ b q ca hd p pt cs u (L2.upd H D (.lst zs)) := by
  have np := TB.ne L.tb h
  refine ⟨by rw [upd_ne n1]; exact L.hb, by rw [upd_ne n2]; exact L.hq, by rw [upd_ne n3]; exact L.hc, by rw [upd_ne n4]; exact L.hh, L.hp.upd n5, ?_, L.nb, L.nc⟩
  rcases L.tb with t | ⟨c, t1, t2⟩
  · exact .inl (by rw [upd_ne (Ne.symm np)]; exact t)
  · exact .inr ⟨c, by rw [upd_ne (Ne.symm np)]; exact t1, by rw [upd_ne (ne_of t2 h fun z => nomatch z)]; exact t2⟩
theorem LawJ.kt (L : LawJ b q ca hd p pt cs u H) (k : Keep pt H H') (t : TB H' pt) : LawJ b q ca hd p pt cs u H' := by
  obtain ⟨x, y, z, hp⟩ := id L.hp
  exact ⟨k _ _ L.hb (TB.ne L.tb L.hb), k _ _ L.hq (TB.ne L.tb L.hq), k _ _ L.hc (TB.ne L.tb L.hc), k _ _ L.hh (TB.ne L.tb L.hh), ⟨x, y, z, k _ _ hp (TB.ne L.tb hp)⟩, t, L.nb, L.nc⟩
theorem LawJ.at (L : LawJ b q ca hd p pt cs u H) {r : Int} (r0 : 0 ≤ r) (r1 : r < 201) : atI (vInts ((List.range 201).map (cnt u))) r = some (.int ((cnt u r.toNat : Nat) : Int)) := by
  obtain ⟨n, rfl⟩ : ∃ n : Nat, r = (n : Int) := ⟨r.toNat, by lia⟩
  rw [Int.toNat_natCast]
  have nl : n < 201 := by lia
  exact atI_nat (by simp [vInts, nl])
end
/-- only numbers -/
def Nums (xs : List V) : Prop := ∀ x ∈ xs, ∃ z : Int, x = .int z
theorem Nums.map (ns : List Int) : Nums (ns.map V.int) := fun x hx => by
  obtain ⟨z, _, rfl⟩ := List.mem_map.mp hx
  exact ⟨z, rfl⟩
theorem Nums.app {x y : List V} (h : Nums x) (g : Nums y) : Nums (x ++ y) := fun z hz => (List.mem_append.mp hz).elim (h z) (g z)
section
variable {P : Program} {w : World} {K : PySem.W.Frag} {mg : Str → Option Value} {base : Heap}
theorem scLaw : FnScope ["script", "cell", "pot", "letters", "word", "rows", "counts", "handed", "some", "far", "numbers", "many", "lengths", "due", "again", "found"] ["script"] (defScope sLaw) := ⟨rfl, rfl, rfl, by decide +kernel, rfl, by decide +kernel, by decide +kernel⟩
theorem ok_law {pt : Addr} (M : Md K mg) (B : Bl mg) (F : FF K "law" sLaw) (F_law_pot : Fn P w K mg base CX0 "_law_pot" 1 ["cell"] spPot) (F_law_take : Fn P w K mg base CX0 "_law_take" 1 ["pot", "many"] spTake) (F_law_letters : Fn P w K mg base CX0 "_law_letters" 2 ["pot"] spLetters) (F_law_word : Fn P w K mg base CX0 "_law_word" 3 ["pot", "letters", "most"] spWord)
    (F_law_counts : Fn P w K mg base CX0 "_law_counts" 3 ["word", "most"] spCts) (Flength_of : Fn P w K mg base CX0 "length_of" 7 ["word", "many"] (spLenOf pt)) : Fn P w K mg base CX0 "law" 8 ["script"] (spLaw K pt) := by
  refine fn_ok M F scLaw (fun _ _ _ _ _ _ => us1 fun _ => rfl) (fun vs H Q E h => ?_) (fun f cdv A outer s H vs Q E hr h => ?_)
  · obtain ⟨a, ns, rfl, _⟩ := h; rfl
  · obtain ⟨a, ns, rfl, hS, hlen, T, k⟩ := h
    refine ⟨_, (pss_cons (ps_for PassesOwn.never rfl (pi_list (pe_op op_cat (pe_lst (pa_cons pe_int pa_nil)) (pe_slice sl_list (pv 0) po_none (po_some pe_int)))) (pg_name (i := 1) scLaw.nd rfl (.inl rfl))
      (pss_cons (ps_set (i := 2) scLaw.nd rfl (.inr rfl) (pe_fn F_law_pot hr pass0 (pa_cons (pv 1) pa_nil)))
      (pss_cons (ps_set (i := 3) scLaw.nd rfl (.inl rfl) (pe_fn F_law_letters hr pass0 (pa_cons (pv 2) pa_nil)))
      (pss_cons (ps_set (i := 4) scLaw.nd rfl (.inl rfl) (pe_fn F_law_word hr pass0 (pa_cons (pv 2) (pa_cons (pv 3) (pa_cons (pe_ix ix_list (pe_lst (pa_cons pe_int (pa_cons pe_int (pa_cons pe_int (pa_cons pe_int pa_nil))))) (pe_fn F_law_take hr pass0 (pa_cons (pv 2) (pa_cons pe_int pa_nil))) (fun _ _ => rfl)) pa_nil)))))
      (pss_cons (ps_set (i := 5) scLaw.nd rfl (.inr rfl) (pe_ix ix_tup (pe_fn F_law_counts hr pass0 (pa_cons (pv 4) (pa_cons pe_int pa_nil))) pe_int (fun _ _ => rfl)))
      (pss_cons (ps_set (i := 6) scLaw.nd rfl (.inr rfl) (pe_comp ["script", "cell", "pot", "letters", "word", "rows", "counts", "handed", "some", "far", "numbers", "many", "lengths", "due", "again", "found"] rfl (pi_range1 (by rfl) B.range (pa_cons pe_int pa_nil)) (fun _ => by exact pif_nil) (fun _ => by exact (pe_dget (by exact hu_of hr) (pe_ix ix_list (pv 5) (pv 16) (fun _ _ => rfl)) (pe_tup (pa_cons pe_int (pa_cons pe_int pa_nil))) (fun _ _ => rfl)))))
      (pss_cons (ps_set (i := 7) scLaw.nd rfl (.inl rfl) (pe_listOf B.list (pv 4)))
      (pss_cons (ps_setC (i := 8) ["script", "cell", "pot", "letters", "word", "rows", "counts", "handed", "some", "far", "numbers", "many", "lengths", "due", "", "found"] rfl scLaw.nd rfl (.inl rfl) (pi_range1 (by rfl) B.range (pa_cons pe_int pa_nil)) (fun _ => by exact pif_nil) (fun _ => by exact (pe_ix ix_list (pv 6) (pe_fn F_law_take hr pass0 (pa_cons (pv 2) (pa_cons pe_int pa_nil))) (fun _ _ => rfl))))
      (pss_cons (ps_set (i := 9) scLaw.nd rfl (.inl rfl) (pe_op op_add pe_int (pe_fn F_law_take hr pass0 (pa_cons (pv 2) (pa_cons (pe_ix ix_list (pe_lst (pa_cons pe_int (pa_cons (pe_op op_pow pe_int pe_int) (pa_cons (pe_op op_pow pe_int pe_int) (pa_cons (pe_op op_pow pe_int pe_int) pa_nil))))) (pe_fn F_law_take hr pass0 (pa_cons (pv 2) (pa_cons pe_int pa_nil))) (fun _ _ => rfl)) pa_nil)))))
      (pss_cons (ps_set (i := 10) scLaw.nd rfl (.inl rfl) (pe_lst (pa_cons pe_int (pa_cons pe_int (pa_cons pe_int (pa_cons (pe_maxL rfl B.max (pv 6)) (pa_cons (pe_op op_add (pe_maxL rfl B.max (pv 6)) pe_int) (pa_cons (pv 9) pa_nil))))))))
      (pss_cons (ps_set (i := 10) scLaw.nd rfl (.inl rfl) (pe_op op_cat (pe_op op_cat (pv 10) (pv 8)) (pe_comp ["script", "cell", "pot", "letters", "word", "rows", "counts", "handed", "some", "far", "numbers", "many", "lengths", "due", "again", "found"] rfl (pi_list (pv 8)) (fun _ => by exact pif_nil) (fun _ => by exact (pe_op op_add (pv 16) pe_int)))))
      (pss_one (ps_for PassesOwn.never rfl (pi_list (pe_op op_cat (pv 10) (pe_comp ["script", "cell", "pot", "letters", "word", "rows", "counts", "handed", "some", "far", "numbers", "many", "lengths", "due", "again", "found"] rfl (pi_list (pv 8)) (fun _ => by exact pif_nil) (fun _ => by exact (pe_op op_sub (pv 16) pe_int))))) (pg_name (i := 11) scLaw.nd rfl (.inr rfl))
      (pss_one (ps_if (pt_cmpR op_gt (pv 11) pe_int (nomark _)) (pss_cons (ps_setC (i := 12) ["script", "cell", "pot", "letters", "word", "rows", "counts", "handed", "some", "far", "numbers", "many", "lengths", "due", "again", "found"] rfl scLaw.nd rfl (.inl rfl) (pi_range2 (by rfl) B.range (pa_cons pe_int (pa_cons pe_int pa_nil))) (fun _ => by exact (pif_one (pt_cmpR op_ge (pe_ix ix_list (pv 6) (pv 16) (fun _ _ => rfl)) (pv 11) (nomark _)))) (fun _ => by exact (pv 16)))
      (pss_cons (ps_set (i := 13) scLaw.nd rfl (.inl rfl) (pe_ix ix_list (pe_op op_cat (pv 12) (pe_lst (pa_cons pe_non pa_nil))) pe_int (fun _ _ => rfl)))
      (pss_one (ps_for PassesOwn.never rfl (pi_range1 (by rfl) B.range (pa_cons pe_int pa_nil)) (pg_name (i := 14) scLaw.nd rfl (.inl rfl))
      (pss_cons (ps_set (i := 15) scLaw.nd rfl (.inl rfl) (pe_fn Flength_of hr pass0 (pa_cons (pv 7) (pa_cons (pv 11) pa_nil))))
      (pss_cons (ps_if (PW.pt (pw_or (pt_cmpR op_ne (pv 15) (pv 13) (nomark _)) (pw_or (pt_val (pe_isi B.isinst B.bool bt_bool (pv 15))) (pw_or1 (pt_cmpR (op_neLS (by exact hr)) (pv 7) (pv 4) (nomark _)))))) (pss_one (ps_ret pe_bl)) pss_nil)
      (pss_one (ps_if (PW.pt (pw_and (pt_cmpR op_notN (pv 13) pe_non (nomark _)) (pw_and1 (pt_not (pt_val (pe_isi B.isinst B.int bt_int (pv 15))))))) (pss_one (ps_ret pe_bl)) pss_nil)))))))) pss_nil)))))))))))))))
      (pss_one (ps_ret pe_bl))), ?_⟩
    refine seq_for (zcat (K := K) (n := 5) rfl hS (by decide) (by decide) fun b cs H1 hb1 sm1 => ⟨b, rfl, ⟨_, SqL.of hb1⟩, ?_⟩)
    have T1 := T.same sm1
    refine for_listA (K := K) (a := b) (xs := cs.map V.int) (fun i σ H2 => H2 b = some (.lst (cs.map V.int)) ∧ TB H2 pt ∧ ∃ v1 v2 v3 v4 v5 v6 v7 v8 v9 v10 v11 v12 v13 v14 v15, σ = [some (.ref a), v1, v2, v3, v4, v5, v6, v7, v8, v9, v10, v11, v12, v13, v14, v15]) ⟨hb1, T1, _, _, _, _, _, _, _, _, _, _, _, _, _, _, _, rfl⟩ (fun i σ H2 _ h2 => SqL.of h2.1) ?_ ?_
    · rintro D1 i x σ H2 nx1 hx ⟨hb2, T2, v1, v2, v3, v4, v5, v6, v7, v8, v9, v10, v11, v12, v13, v14, v15, rfl⟩
      obtain ⟨c, rfl⟩ := int_item hx
      refine fseq_set ⟨_, rfl, c, rfl, fun p H3 hp0 hp3 s3 => ?_⟩
      have hb3 := s3 _ _ hb2
      have nb : b ≠ p := ne_of_none hb2 hp0
      have T3 := T2.same s3
      refine fseq_set ⟨_, rfl, p, rfl, hp3, fun z lr H4 hlr0 hlr4 lz nz z1 z2 hp4 k4 => ?_⟩
      have hb4 := k4 _ _ hb3 nb
      have nlr := hand_ne hp4 hlr4
      have T4 : TB H4 pt := TB.hand T3 hp3 k4
      refine fseq_set ⟨_, rfl, _, rfl, by show 4 ≤ sizeLine; decide, fun l0 hl0 => ?_⟩
      have s4 := Same.upd (o := .lst [V.int 8, .int 60, .int 8, .int 200]) hl0
      have hl1 := upd_same (H := H4) (a := l0) (o := .lst [V.int 8, .int 60, .int 8, .int 200])
      have nl0 : l0 ≠ p := (hp4.ne hl0).symm
      generalize L2.upd H4 l0 (.lst [V.int 8, .int 60, .int 8, .int 200]) = H5 at s4 hl1 ⊢
      have hp5 := hp4.same s4
      refine ⟨_, rfl, p, 4, rfl, hp5, by decide, by decide, fun r H6 r0 r1 hp6 k6 => ?_⟩
      obtain ⟨mm, hmm1, hmm2, hat2⟩ : ∃ mm : Int, 1 ≤ mm ∧ mm ≤ 200 ∧ atI [V.int 8, .int 60, .int 8, .int 200] r = some (.int mm) := by
        have : r = 0 ∨ r = 1 ∨ r = 2 ∨ r = 3 := by lia
        rcases this with h | h | h | h
        · subst h; exact ⟨8, by decide, by decide, rfl⟩
        · subst h; exact ⟨60, by decide, by decide, rfl⟩
        · subst h; exact ⟨8, by decide, by decide, rfl⟩
        · subst h; exact ⟨200, by decide, by decide, rfl⟩
      have T6 : TB H6 pt := TB.hand (T4.same s4) hp5 k6
      refine ⟨l0, _, _, _, rfl, rfl, SqL.of (k6 _ _ hl1 nl0), hat2, p, lr, z, mm, rfl, hp6, k6 _ _ (s4 _ _ hlr4) nlr, lz, z1, by lia, by lia, by lia, fun u q H8 hq0 hq8 lu u1 ul hp8 k8 => ?_⟩
      have T8 : TB H8 pt := TB.hand T6 hp6 k8
      have hb8 := k8 _ _ (k6 _ _ (s4 _ _ hb4) nb) nb
      refine fseq_set ⟨_, rfl, q, u, 200, rfl, hq8, lu, u1, by lia, by lia, fun rr fr l ds H9 rr0 hr9 hl9 hds s9 => ?_⟩
      refine ⟨rr, _, _, _, rfl, rfl, SqT.of hr9, atI_nat (j := 1) rfl, ?_⟩
      refine fseq_set ⟨201, rfl, by decide, by decide, fun ca hca cb => ?_⟩
      refine comp_range (lo := 0) (n := 201) (fun i ys H10 => ys = vInts ((List.range i).map (cnt u)) ∧ Same H9 H10 ∧ H10 ca = some (.lst ys)) (by decide) ?_ ?_ ?_ ?_
      · exact ⟨rfl, Same.upd hca, upd_same⟩
      · rintro i ys H10 ⟨rfl, _⟩; rw [vInts_len]; simp
      · rintro i ys H10 hi ⟨rfl, s10, hca10⟩
        obtain ⟨d, prs, h1, h2, h3⟩ := hds i (by lia)
        refine tNoIf_go ⟨_, rfl, _, rfl, l, _, _, .ref d, rfl, rfl, SqL.of (s10 _ _ hl9), ?_, (by show 2 ≤ sizeLine; decide), fun kt hkt => ?_⟩
        · rw [Int.zero_add]; exact atI_nat (j := i) (by rw [List.getElem?_map, h1]; rfl)
        · have s11 := Same.upd (o := .tup [V.int 0, .int 0]) hkt
          refine ⟨d, .int ((cnt u i : Nat) : Int), rfl, (by rw [← h3]; exact DGet.t (k := keyP (0, 0)) (s11 _ _ (s10 _ _ h2)) upd_same), s11 _ _ hca10, ?_, fun x o e => by rw [upd_ne (ne_of_none e hca)]; exact s11 _ _ (s10 _ _ e), upd_same⟩
          rw [List.range_succ, List.map_append, List.map_cons, List.map_nil, vInts_snoc']
      rintro ys H10 ⟨rfl, s10, hca10⟩
      have s810 := s9.trans s10
      have hp10 := hp8.same s810
      refine fseq_set ⟨_, rfl, q, _, rfl, SqL.of (s810 _ _ hq8), fun hd hhd => ?_⟩
      have s11 := Same.upd (o := .lst (u.map sg)) hhd
      have J11 : LawJ b q ca hd p pt cs u (L2.upd H10 hd (.lst (u.map sg))) := ⟨s11 _ _ (s810 _ _ hb8), s11 _ _ (s810 _ _ hq8), s11 _ _ hca10, upd_same, hp10.same s11, (T8.same s810).same s11, nb, ((hp8.same s9).ne hca).symm⟩
      generalize L2.upd H10 hd (.lst (u.map sg)) = H11 at s11 J11 ⊢
      clear s11 s810 hp10 hca10 s10 hds hl9 hr9 s9 hb8 T8 hq8
      refine fseq_set ⟨3, rfl, by decide, by decide, fun so hso cb => ?_⟩
      have nso : so ≠ p := (J11.hp.ne hso).symm
      refine comp_range (lo := 0) (n := 3) (fun i ys H12 => ∃ ms : List Int, ys = ms.map V.int ∧ ms.length = i ∧ LawJ b q ca hd p pt cs u H12 ∧ H12 so = some (.lst ys)) (by decide) ?_ ?_ ?_ ?_
      · exact ⟨[], rfl, rfl, J11.same (Same.upd hso), upd_same⟩
      · rintro i ys H12 ⟨ms, rfl, e, _⟩; rw [List.length_map]; exact Nat.le_of_eq e
      · rintro i ys H12 hi ⟨ms, rfl, e, J12, hso12⟩
        refine tNoIf_go ⟨_, rfl, _, rfl, p, 201, rfl, J12.hp, by decide, by decide, fun r2 H13 q0 q1 hp13 k13 => ?_⟩
        have J13 := J12.kp k13 hp13
        have hso13 := k13 _ _ hso12 nso
        refine ⟨ca, _, _, _, rfl, rfl, SqL.of J13.hc, J13.at q0 q1, hso13, ms ++ [((cnt u r2.toNat : Nat) : Int)], by simp, by simp [e], ?_, upd_same⟩
        exact J13.wr hso13 (ne_of_none J11.hb hso) (ne_of_none J11.hq hso) (ne_of_none J11.hc hso) (ne_of_none J11.hh hso) (Ne.symm nso)
      rintro ys H12 ⟨ms, rfl, msl, J12, hso12⟩
      refine fseq_set ⟨_, rfl, _, _, rfl, rfl, ⟨by decide, by decide, by decide⟩, _, _, rfl, rfl, ⟨by decide, by decide, by decide⟩, _, _, rfl, rfl, ⟨by decide, by decide, by decide⟩, by show 4 ≤ sizeLine; decide, fun l4 hl4 => ?_⟩
      have s13 := Same.upd (o := .lst [V.int 100, .int (10 ^ (9 : Int).toNat), .int (10 ^ (20 : Int).toNat), .int (10 ^ (59 : Int).toNat)]) hl4
      have hl413 := upd_same (H := H12) (a := l4) (o := .lst [V.int 100, .int (10 ^ (9 : Int).toNat), .int (10 ^ (20 : Int).toNat), .int (10 ^ (59 : Int).toNat)])
      have J13 := J12.same s13
      have hso13 := s13 _ _ hso12
      have nl4 : l4 ≠ p := (J12.hp.ne hl4).symm
      generalize L2.upd H12 l4 (.lst [V.int 100, .int (10 ^ (9 : Int).toNat), .int (10 ^ (20 : Int).toNat), .int (10 ^ (59 : Int).toNat)]) = H13 at s13 hl413 J13 hso13 ⊢
      refine ⟨_, rfl, p, 4, rfl, J13.hp, by decide, by decide, fun g3 H14 g30 g31 hp14 k14 => ?_⟩
      have J14 := J13.kp k14 hp14
      have hso14 := k14 _ _ hso13 nso
      obtain ⟨m3, m31, m32, hat4⟩ : ∃ m3 : Int, 1 ≤ m3 ∧ m3 < 1000000000000000000000000000000000000000000000000000000000000 ∧ atI [V.int 100, .int (10 ^ (9 : Int).toNat), .int (10 ^ (20 : Int).toNat), .int (10 ^ (59 : Int).toNat)] g3 = some (.int m3) := by
        have : g3 = 0 ∨ g3 = 1 ∨ g3 = 2 ∨ g3 = 3 := by lia
        rcases this with h | h | h | h
        · subst h; exact ⟨100, by decide, by decide, rfl⟩
        · subst h; exact ⟨10 ^ (9 : Int).toNat, by decide, by decide, rfl⟩
        · subst h; exact ⟨10 ^ (20 : Int).toNat, by decide, by decide, rfl⟩
        · subst h; exact ⟨10 ^ (59 : Int).toNat, by decide, by decide, rfl⟩
      refine ⟨l4, _, _, _, rfl, rfl, SqL.of (k14 _ _ hl413 nl4), hat4, p, m3, rfl, hp14, m31, m32, fun far H15 f0 f1 hp15 k15 => ⟨_, _, rfl, rfl, ?_⟩⟩
      have J15 := J14.kp k15 hp15
      have hso15 := k15 _ _ hso14 nso
      clear J13 J14 hso13 hso14 s13 hl413 k14 k15 hat4
      have cne : ((List.range 201).map (cnt u)).map (fun (k : Nat) => (k : Int)) ≠ [] := by simp
      refine fseq_set ⟨_, rfl, ca, _, rfl, J15.hc, cne, fun mx _ _ => ⟨_, rfl, ca, _, rfl, J15.hc, cne, fun mx2 _ _ => ⟨_, _, rfl, rfl, _, rfl, by show 6 ≤ sizeLine; decide, fun n1 hn1 => ?_⟩⟩⟩
      have N1 : Nums [V.int 1, .int 2, .int 3, .int mx, .int (mx2 + 1), .int (1 + far)] := fun x hx => by
        simp only [List.mem_cons, List.not_mem_nil, or_false] at hx
        rcases hx with rfl | rfl | rfl | rfl | rfl | rfl <;> exact ⟨_, rfl⟩
      have N1l : [V.int 1, .int 2, .int 3, .int mx, .int (mx2 + 1), .int (1 + far)].length = 6 := rfl
      generalize [V.int 1, .int 2, .int 3, .int mx, .int (mx2 + 1), .int (1 + far)] = ns1 at N1 N1l ⊢
      have s16 := Same.upd (o := .lst ns1) hn1
      have hn116 := upd_same (H := H15) (a := n1) (o := .lst ns1)
      have J16 := J15.same s16
      have hso16 := s16 _ _ hso15
      generalize L2.upd H15 n1 (.lst ns1) = H16 at s16 hn116 J16 hso16 ⊢
      refine fseq_set ⟨_, rfl, _, rfl, n1, so, _, _, rfl, rfl, hn116, hso16, by rw [N1l, List.length_map, msl]; decide, fun n2 hn2 => ?_⟩
      have s17 := Same.upd (o := .lst (ns1 ++ ms.map V.int)) hn2
      have hn217 := upd_same (H := H16) (a := n2) (o := .lst (ns1 ++ ms.map V.int))
      have J17 := J16.same s17
      have hso17 := s17 _ _ hso16
      generalize L2.upd H16 n2 (.lst (ns1 ++ ms.map V.int)) = H17 at s17 hn217 J17 hso17 ⊢
      refine ⟨_, rfl, so, rfl, ⟨_, SqL.of hso17⟩, fun D hD cb => ?_⟩
      refine comp_list (K := K) (a := so) (xs := ms.map V.int) (fun i ys H18 => ys.length = i ∧ Nums ys ∧ Same H17 H18 ∧ H18 D = some (.lst ys)) (by rw [List.length_map, msl]; decide) ?_ ?_ ?_ ?_ ?_
      · exact ⟨rfl, fun x hx => (nomatch hx), Same.upd hD, upd_same⟩
      · rintro i ys H18 ⟨e, _⟩; exact Nat.le_of_eq e
      · rintro i ys H18 _ ⟨_, _, s18, _⟩; exact SqL.of (s18 _ _ hso17)
      · rintro i x ys H18 hx18 ⟨e, nu, s18, hD18⟩
        obtain ⟨zz, rfl⟩ := int_item hx18
        exact tNoIf_go ⟨_, rfl, _, _, rfl, rfl, hD18, by simp [e], nu.app fun y hy => ⟨_, List.mem_singleton.mp hy⟩, fun x o q => by rw [upd_ne (ne_of_none q hD)]; exact s18 _ _ q, upd_same⟩
      rintro ys1 H18 ⟨y1l, nu1, s18, hD18⟩
      rw [List.length_map, msl] at y1l
      refine ⟨n2, D, _, _, rfl, rfl, s18 _ _ hn217, hD18, by rw [List.length_append, N1l, List.length_map, msl, y1l]; decide, fun n3 hn3 => ?_⟩
      have N3 : Nums (ns1 ++ ms.map V.int ++ ys1) := (N1.app (Nums.map ms)).app nu1
      have N3l : (ns1 ++ ms.map V.int ++ ys1).length = 12 := by rw [List.length_append, List.length_append, N1l, List.length_map, msl, y1l]
      generalize ns1 ++ ms.map V.int ++ ys1 = ns3 at N3 N3l ⊢
      have s19 := s18.trans (Same.upd (o := .lst ns3) hn3)
      have hn319 := upd_same (H := H18) (a := n3) (o := .lst ns3)
      have J19 := J17.same s19
      have hso19 := s19 _ _ hso17
      generalize L2.upd H18 n3 (.lst ns3) = H19 at s19 hn319 J19 hso19 ⊢
      clear J15 J16 J17 s16 s17 s18 hn116 hn217 hso15 hso16 hso17
      refine one_forL ⟨_, rfl, _, rfl, so, rfl, ⟨_, SqL.of hso19⟩, fun D2 hD2 cb => ?_⟩
      refine comp_list (K := K) (a := so) (xs := ms.map V.int) (fun i ys H20 => ys.length = i ∧ Nums ys ∧ Same H19 H20 ∧ H20 D2 = some (.lst ys)) (by rw [List.length_map, msl]; decide) ?_ ?_ ?_ ?_ ?_
      · exact ⟨rfl, fun x hx => (nomatch hx), Same.upd hD2, upd_same⟩
      · rintro i ys H20 ⟨e, _⟩; exact Nat.le_of_eq e
      · rintro i ys H20 _ ⟨_, _, s20, _⟩; exact SqL.of (s20 _ _ hso19)
      · rintro i x ys H20 hx20 ⟨e, nu, s20, hD20⟩
        obtain ⟨zz, rfl⟩ := int_item hx20
        exact tNoIf_go ⟨_, rfl, _, _, rfl, rfl, hD20, by simp [e], nu.app fun y hy => ⟨_, List.mem_singleton.mp hy⟩, fun x o q => by rw [upd_ne (ne_of_none q hD2)]; exact s20 _ _ q, upd_same⟩
      rintro ys2 H20 ⟨y2l, nu2, s20, hD20⟩
      rw [List.length_map, msl] at y2l
      refine ⟨n3, D2, _, _, rfl, rfl, s20 _ _ hn319, hD20, by rw [N3l, y2l]; decide, fun n4 hn4 => ?_⟩
      have N4 : Nums (ns3 ++ ys2) := N3.app nu2
      generalize ns3 ++ ys2 = ns4 at N4 ⊢
      have s21 := s20.trans (Same.upd (o := .lst ns4) hn4)
      have hn421 := upd_same (H := H20) (a := n4) (o := .lst ns4)
      have J21 := J19.same s21
      generalize L2.upd H20 n4 (.lst ns4) = H21 at s21 hn421 J21 ⊢
      clear J19 s20 s21 hn319 hso19 hD20
      refine ⟨n4, rfl, ⟨_, SqL.of hn421⟩, for_listA (K := K) (a := n4) (xs := ns4) (fun i2 σ H22 => LawJ b q ca hd p pt cs u H22 ∧ H22 n4 = some (.lst ns4) ∧ ∃ v11 v12 v13 v14 v15, σ = [some (.ref a), some (.int c), some (.ref p), some (.ref lr), some (.ref q), some (.ref l), some (.ref ca), some (.ref hd), some (.ref so), some (.int (1 + far)), some (.ref n3), v11, v12, v13, v14, v15]) ⟨J21, hn421, _, _, _, _, _, rfl⟩ (fun i2 σ H22 _ h => SqL.of h.2.1) ?_ ?_⟩
      · rintro D3 i2 x σ H22 nx2 hx22 ⟨J22, hn422, w11, w12, w13, w14, w15, rfl⟩
        obtain ⟨many, rfl⟩ := N4 x (List.mem_of_getElem? hx22)
        refine ⟨_, rfl, _, _, rfl, rfl, _, rfl, ?_⟩
        by_cases mp : many > 0
        · rw [decide_eq_true mp]
          refine iteT ?_
          refine fseq_set ⟨1, 201, rfl, ⟨by decide, by decide, by decide, by decide⟩, fun le hle cb => ?_⟩
          refine comp_range (lo := 1) (n := 200) (fun i ys H23 => ys = vInts (lens u many i) ∧ Same H22 H23 ∧ H23 le = some (.lst ys)) (by decide) ?_ ?_ ?_ ?_
          · exact ⟨rfl, Same.upd hle, upd_same⟩
          · rintro i ys H23 ⟨rfl, _⟩; rw [vInts_len]; exact lens_len _ _ _
          · rintro i ys H23 hi ⟨rfl, s23, hle23⟩
            have J23 := J22.same s23
            refine ⟨_, rfl, _, rfl, ca, _, _, _, rfl, rfl, SqL.of J23.hc, J23.at (by lia) (by lia), _, rfl, _, _, rfl, rfl, _, rfl, ?_⟩
            rw [show (1 + (i : Int)).toNat = i + 1 by lia]
            by_cases hge : many ≤ ((cnt u (i + 1) : Nat) : Int)
            · rw [decide_eq_true (show ((cnt u (i + 1) : Nat) : Int) ≥ many from hge)]
              refine iteT ⟨_, rfl, hle23, ?_, fun x o e => by rw [upd_ne (ne_of_none e hle)]; exact s23 _ _ e, upd_same⟩
              rw [lens_succ, if_pos hge, vInts_snoc', show 1 + (i : Int) = ((i + 1 : Nat) : Int) by lia]
            · rw [decide_eq_false (show ¬ ((cnt u (i + 1) : Nat) : Int) ≥ many from hge)]
              refine iteF ⟨?_, s23, hle23⟩
              rw [lens_succ, if_neg hge, List.append_nil]
          rintro ys H23 ⟨rfl, s23, hle23⟩
          obtain ⟨v, hv, hv0⟩ := lens_first (u := u) (many := many) u1 (by lia)
          refine fseq_set ⟨_, rfl, by show 1 ≤ sizeLine; decide, fun l1 hl1 => ?_⟩
          have s24 := s23.trans (Same.upd (o := .lst [V.non]) hl1)
          refine ⟨le, l1, _, _, rfl, rfl, (Same.upd hl1) _ _ hle23, upd_same, by rw [vInts_len, List.length_singleton]; exact sz (by have := lens_len u many 200; lia), fun l2 hl2 => ?_⟩
          have s25 := s24.trans (Same.upd (o := .lst (vInts (lens u many 200) ++ [V.non])) hl2)
          have hl225 := upd_same (H := L2.upd H23 l1 (.lst [V.non])) (a := l2) (o := .lst (vInts (lens u many 200) ++ [V.non]))
          have J25 := J22.same s25
          have hn425 := s25 _ _ hn422
          generalize L2.upd (L2.upd H23 l1 (.lst [V.non])) l2 (.lst (vInts (lens u many 200) ++ [V.non])) = H25 at s25 hl225 J25 hn425 ⊢
          refine ⟨l2, _, _, v, rfl, rfl, SqL.of hl225, atI_nat (j := 0) hv0, ?_⟩
          refine ⟨2, rfl, by decide, by decide, for_rangeA (lo := 0) (n := 2) (fun j σ H26 => LawJ b q ca hd p pt cs u H26 ∧ H26 n4 = some (.lst ns4) ∧ ∃ v14 v15, σ = [some (.ref a), some (.int c), some (.ref p), some (.ref lr), some (.ref q), some (.ref l), some (.ref ca), some (.ref hd), some (.ref so), some (.int (1 + far)), some (.ref n3), some (.int many), some (.ref le), some v, v14, v15]) ⟨J25, hn425, _, _, rfl⟩ ?_ ?_⟩
          · rintro D4 j σ H26 nx3 _ ⟨J26, hn426, u14, u15, rfl⟩
            refine fseq_set ⟨_, rfl, _, rfl, hd, u, many, rfl, J26.hh, lu, u1, by lia, by lia, J26.tb, fun v' H27 hv' k27 T27 => ?_⟩
            obtain rfl := hv.uniq hv'
            have J27 := J26.kt k27 T27
            have hn427 := k27 _ _ hn426 (TB.ne J26.tb hn426)
            refine seq_ifF (fun R hR => ?_) fun H28 s28 => ?_
            · refine or_F (fun R' hR' => ?_) fun H28 s28 => or_F (fun R' hR' => ?_) fun H29 s29 => ?_
              · rcases hv with ⟨nn, rfl, _⟩ | ⟨rfl, _⟩
                · refine ⟨_, rfl, _, rfl, rfl, _, rfl, ?_⟩
                  rw [decide_eq_true rfl]
                  exact hR' _ (Same.refl _)
                · exact ⟨_, rfl, _, rfl, rfl, _, rfl, hR' _ (Same.refl _)⟩
              · rcases hv with ⟨nn, rfl, _⟩ | ⟨rfl, _⟩
                · exact ⟨_, rfl, _, false, TyOf.int _, rfl, _, rfl, hR' _ (Same.refl _)⟩
                · exact ⟨_, rfl, _, false, TyOf.non, rfl, _, rfl, hR' _ (Same.refl _)⟩
              · have J29 := (J27.same s28).same s29
                refine ⟨_, rfl, _, rfl, hd, q, u, u, rfl, rfl, SqL.of J29.hh, SqL.of J29.hq, lu.cp, lu.cp, _, rfl, ?_⟩
                rw [if_pos rfl, decide_eq_true rfl]
                exact hR _ (s28.trans s29)
            · refine one_ifF (fun R hR => ?_) fun H29 s29 => nx3 _ _ ⟨(J27.same s28).same s29, s29 _ _ (s28 _ _ hn427), _, _, rfl⟩
              rcases hv with ⟨nn, rfl, _⟩ | ⟨rfl, _⟩
              · exact ⟨_, rfl, rfl, _, rfl, iteT ⟨_, rfl, _, true, TyOf.int _, rfl, _, rfl, hR _ (Same.refl _)⟩⟩
              · exact ⟨_, rfl, rfl, _, rfl, iteF (hR _ (Same.refl _))⟩
          · rintro σ H26 ⟨J26, hn426, u14, u15, rfl⟩
            exact nx2 _ _ ⟨J26, hn426, _, _, _, _, _, rfl⟩
        · rw [decide_eq_false mp]
          exact iteF (nx2 _ _ ⟨J22, hn422, _, _, _, _, _, rfl⟩)
      · rintro σ H22 ⟨J22, hn422, w11, w12, w13, w14, w15, rfl⟩
        exact nx1 _ _ ⟨J22.hb, J22.tb, _, _, _, _, _, _, _, _, _, _, _, _, _, _, _, rfl⟩
    · rintro σ H2 ⟨hb2, T2, v1, v2, v3, v4, v5, v6, v7, v8, v9, v10, v11, v12, v13, v14, v15, rfl⟩
      exact k H2 T2
end

end Ov

namespace Ov
open PySem L2
def isN (n : Int) : Option (Option Value) → Bool
  | some (some (.int i _)) => decide (i = n)
  | _ => false
theorem isN_ex {n : Int} {o : Option (Option Value)} (h : isN n o = true) : ∃ u, o = some (some u) ∧ RelV (.int n) u := by
  unfold isN at h
  split at h
  · rename_i i t
    have e : i = n := of_decide_eq_true h
    subst e
    exact ⟨_, rfl, t, rfl⟩
  · cases h
/-- the law's own def, where the base is known -/
theorem law_ofB {P : Program} {w : World} {K : PySem.W.Frag} {mg : Str → Option Value} {st : Stmt} {fa : Addr} {k : Nat} {sp : Sp} {CX : CXT} (M : Md K mg) (F : FF K "law" st) (hfa : mg "law" = some (.ref fa))
    (hb : ∀ (kV doc pm : Value) (an : Option Addr) (cdv ct : Value) (s : Shared) (v : Value), BindsTo s (PySem.W.fnOf "law" "law" (defArgs st) (defBody st) (defScope st) .none kV doc pm an cdv ct) ⟨[v], []⟩ [("script", v)])
    (h : ∀ base : Heap, K.In base → Bmn mg base → Fn P w K mg base CX "law" k ["script"] sp) :
    ∃ fd : FuncData, (∀ (s : Shared) (v : Value), BindsTo s fd ⟨[v], []⟩ [("script", v)]) ∧ ∀ base : Heap, K.In base → base.Ns mainGlobals mg → Bmn mg base → FnOk P w K mg base CX k fa fd ["script"] sp := by
  obtain ⟨f, oc, od, an, osl, kV, doc, pm, cdv, ct, a, l, c, kk⟩ := F.ex
  have e := hfa.symm.trans (M.ns _ _ a)
  cases e
  refine ⟨_, hb kV doc pm an cdv ct, fun base hK _ hB => ?_⟩
  obtain ⟨f', fd', F', hm', _, _, oc', od', osl', l'⟩ := (h base hK hB).ex
  have e := hm'.symm.trans (M.ns _ _ a)
  cases e
  rw [l] at l'
  cases l'
  exact F'
theorem all_mk {P : Program} {w : World} {K : PySem.W.Frag} {h : Heap} {mg : Str → Option Value} {fa cc pt : Addr} (X : K.In h) (G : h.Ns mainGlobals mg) (hfa : mg "law" = some (.ref fa)) (hC : PySem.W.codeHdIn K cc pt = true)
    (f1 : FF K "_law_pot" sPot) (f2 : FF K "_law_take" sTake) (f3 : FF K "_law_letters" sLetters) (f4 : FF K "_law_signs" sSigns) (f5 : FF K "_law_word" sWord) (f6 : FF K "is_sign" sIsSign) (f7 : FF K "check_signs" sCheck) (f8 : FF K "check_word" sCheckWord)
    (f9 : FF K "borders" sBorders) (f10 : FF K "periods" sPeriods) (f11 : FF K "lies_at" sLiesAt) (f12 : FF K "shifts" sShifts) (f13 : FF K "counts_by_length" sCounts) (f14 : FF K "length_of" sLenOf)
    (f15 : FF K "_law_fails" sFails) (f16 : FF K "_law_next" sNextL) (f17 : FF K "_law_steps" sSteps) (f18 : FF K "_law_counts" sCts) (f19 : FF K "law" sLaw)
    (fC : FFC K "single_steps" sSingle cc) (na : PySem.W.nsIn K mainGlobals "sorted" = some none) (ne : PySem.W.nsIn K mainGlobals "set" = some none) (nd : PySem.W.nsIn K mainGlobals "dict" = some none) (nm : isN 200 (PySem.W.nsIn K mainGlobals "MOST_LENGTH") = true) (b : Md K mg → Bl mg) :
    ∃ fd : FuncData, (∀ (s : Shared) (v : Value), BindsTo s fd ⟨[v], []⟩ [("script", v)]) ∧ ∀ base : Heap, K.In base → base.Ns mainGlobals mg → Bmn mg base → FnOk P w K mg base CX0 8 fa fd ["script"] (spLaw K pt) := by
  have M := md_of X G
  have Bl := b M
  obtain ⟨uM, nm1, nm2⟩ := isN_ex nm
  have nm3 := M.ns _ _ nm1
  have nsorted : mg "sorted" = none := M.ns _ _ na
  have nset : mg "set" = none := M.ns _ _ ne
  have ndict : mg "dict" = none := M.ns _ _ nd
  refine law_ofB M f19 hfa (fun _ _ _ _ _ _ s v => .of_eq rfl) fun base hK hB => ?_
  have C := PySem.W.codeHd_of_K hK hC
  have g1 := ok_pot (P := P) (w := w) (base := base) M Bl f1
  have g2 := ok_take (P := P) (w := w) (base := base) M f2
  have g3 := ok_letters M Bl f3 g2
  have g4 := ok_signs M Bl f4 g2
  have g5 := ok_word M Bl f5 g2 g4
  have g6 := ok_is_sign (P := P) (w := w) (base := base) M Bl f6
  have g7 := ok_check M Bl f7 g6
  have g8 := ok_check_word M Bl f8 g7
  have g9 := ok_borders M Bl f9 g7
  have g10 := ok_periods M Bl f10 g9
  have g11 := ok_lies_at M Bl f11 g7 g8
  have g12 := ok_shifts M Bl f12 g8 g10
  have gS := ok_single M Bl nsorted C hB fC g12 g11
  have g13 := ok_counts (P := P) (w := w) (base := base) M Bl f13
  have g14 := ok_len_of M Bl nm3 nm2 f14 g8 gS g13
  have g15 := ok_fails (P := P) (w := w) (base := base) M Bl f15
  have g16 := ok_nextL (P := P) (w := w) (base := base) M Bl f16
  have g17 := ok_steps M Bl nsorted nset f17 g15 g16
  have g18 := ok_cts M Bl ndict f18 g17
  exact ok_law M Bl f19 g1 g2 g3 g5 g18 g14

end Ov

namespace Ov
open PySem L2
theorem walk {l : PySem.W.OpenLaw} {q : Program} {loose : List Str} {XP : (Str → Option Value) → Heap → Prop} {YP : World → Heap → Prop} {d : DefRec} {K : Params → PySem.W.Frag} {c pt : Addr} (hn : l.most = some 63) (hdf : d.params.defaults = [])
    (hY : ∀ (w : World) (h : Heap), YP w h → (K w.params).In h) (hT : ∀ (w : World) (h : Heap), YP w h → h.get? pt = some (PySem.W.tabObj #[])) (hC : ∀ w : World, PySem.W.codeHdIn (K w.params) c pt = true) (hKP : ∀ w : World, (K w.params).lookup pt = none)
    (F : ∀ (w : World) (mg : Str → Option Value) (fa : Addr) (h : Heap), PySem.W.codeHdIn (K w.params) c pt = true → (K w.params).In h → h.Ns mainGlobals mg → mg d.name = some (.ref fa) →
      ∃ fd : FuncData, (∀ (s : Shared) (u : Value), BindsTo s fd ⟨[u], []⟩ [("script", u)]) ∧ ∀ base : Heap, (K w.params).In base → base.Ns mainGlobals mg → Bmn mg base → FnOk l.prog w (K w.params) mg base CX0 8 fa fd ["script"] (spLaw (K w.params) pt)) :
    PySem.W.WalkO q loose XP YP l.row.toRowW d [] (fun f vs => PySem.call f vs) := by
  refine L2.walk_tab (n := 63) (k := 8) (x := "script") (c := c) (P := pt) (CX := fun _ => CX0) (sp := fun w => spLaw (K w.params) pt) hn (by decide) hdf ⟨rfl, by decide, by decide⟩ hY hT hC hKP (fun w mg fa h => F w mg fa h (hC w)) (fun _ _ a ns hl B hS => ⟨a, ns, rfl, hS, hl, .inl B.tab, fun H' T => ⟨rfl, ?_⟩⟩) fun _ _ _ _ _ z => z
  rcases T with t | ⟨c, t, _⟩
  · exact ⟨_, t⟩
  · exact ⟨_, t⟩

end Ov

namespace PySem.W.Fast
theorem tw9308555903205154856:True:=trivial
theorem tw12428183097335998159:True:=trivial
theorem tw15300597506463044925:True:=trivial
theorem tw15284951908983469741:True:=trivial
theorem tw17515856998548803697:True:=trivial
theorem tw6996751689795503842:True:=trivial
theorem tw7035136411829544802:True:=trivial
theorem tw3839575660030811956:True:=trivial
theorem tw15754084185599706590:True:=trivial
theorem tw1913854535944778316:True:=trivial
theorem tw10383376411799134659:True:=trivial
theorem tw15902389082665310329:True:=trivial
theorem tw11515524306479270930:True:=trivial
theorem tw7840458615568415928:True:=trivial
theorem tw9236190688572063128:True:=trivial
theorem tw14061375802956970597:True:=trivial
theorem tw10456634273458109943:True:=trivial
theorem tw16263462489944880224:True:=trivial
theorem tw1246737363642643932:True:=trivial
theorem tw6284611172754923381:True:=trivial
theorem tw326162786449963179:True:=trivial
theorem tw15368705343059021978:True:=trivial
theorem tw15434788146121355099:True:=trivial
theorem tw9903076478916627126:True:=trivial
theorem tw16456227670008525434:True:=trivial
theorem tw11784510088730849685:True:=trivial
theorem tw3924644484800266425:True:=trivial
theorem tw1570586912387457903:True:=trivial
theorem tw2394230635584254868:True:=trivial
theorem tw15014381493729333841:True:=trivial
theorem tw17986580842546249078:True:=trivial
theorem tw9321614374156139487:True:=trivial
theorem tw6223646427731650688:True:=trivial
theorem tw10415787588034187525:True:=trivial
theorem tw5636226008444721395:True:=trivial
theorem tw6648879928831217608:True:=trivial
theorem tw7914999383290146197:True:=trivial
theorem tw13832833990093719441:True:=trivial
theorem tw14723811996936807249:True:=trivial
theorem tw5691669902031242872:True:=trivial
theorem tw18355550193036167358:True:=trivial
theorem tw14724225248089227878:True:=trivial
theorem tw7504910023226790859:True:=trivial
theorem tw16649835423792807562:True:=trivial
theorem tw16164925424125991499:True:=trivial
theorem tw1619757958882638650:True:=trivial
theorem tw16438217060508318796:True:=trivial
theorem tw12285355981427327718:True:=trivial
theorem tw8328952335910792600:True:=trivial
theorem tw2905265497743463109:True:=trivial
theorem tw11194000811759823974:True:=trivial
theorem tw6962947291090568316:True:=trivial
theorem tw12980342091915796628:True:=trivial
theorem tw10797093692258488661:True:=trivial
theorem tw11938300241298453400:True:=trivial
theorem tw8902276535242340263:True:=trivial
theorem tw7324908371591844053:True:=trivial
theorem tw7211589970983067861:True:=trivial
theorem tw14068674647247607036:True:=trivial
theorem tw6076883604055466304:True:=trivial
end PySem.W.Fast

open PySem PySem.W PyProof.Rows
set_option maxRecDepth 100000 in
set_option maxHeartbeats 0 in
theorem PySem.Challenge.cw_overlaid_k39_lengths_of_so_many_holds : PySem.Challenge.rw_overlaid_k39_lengths_of_so_many.Holds := by
  w_on; o_law; k_head; (case hw => w_witness2)
  k_fill
  refine' Ov.walk (l := PySem.Challenge.rw_overlaid_k39_lengths_of_so_many) rfl rfl (fun w h Y => PySem.W.km_in_of Y) (fun w h Y => PySem.W.km_tabs_of Y _ List.mem_cons_self) ?hC ?hKP ?F
  case F =>
    intro w mg fa h hc KX G hmg
    refine' Ov.all_mk KX G hmg hc ?f1 ?f2 ?f3 ?f4 ?f5 ?f6 ?f7 ?f8 ?f9 ?f10 ?f11 ?f12 ?f13 ?f14 ?f15 ?f16 ?f17 ?f18 ?f19 ?fC ?Nsorted ?Nset ?Ndict ?NMOST ?B
    (case fC => (refine' Ov.ffc_mk ?a ?l ?c ?k; (case a => k_is); (case l => k_is); (case c => k_is); (case k => k_is)))
    (case f1 => (refine' L2.ff_mk ?a ?l ?c ?k; (case a => k_is); (case l => k_is); (case c => k_is); (case k => k_is)))
    (case f2 => (refine' L2.ff_mk ?a ?l ?c ?k; (case a => k_is); (case l => k_is); (case c => k_is); (case k => k_is)))
    (case f3 => (refine' L2.ff_mk ?a ?l ?c ?k; (case a => k_is); (case l => k_is); (case c => k_is); (case k => k_is)))
    (case f4 => (refine' L2.ff_mk ?a ?l ?c ?k; (case a => k_is); (case l => k_is); (case c => k_is); (case k => k_is)))
    (case f5 => (refine' L2.ff_mk ?a ?l ?c ?k; (case a => k_is); (case l => k_is); (case c => k_is); (case k => k_is)))
    (case f6 => (refine' L2.ff_mk ?a ?l ?c ?k; (case a => k_is); (case l => k_is); (case c => k_is); (case k => k_is)))
    (case f7 => (refine' L2.ff_mk ?a ?l ?c ?k; (case a => k_is); (case l => k_is); (case c => k_is); (case k => k_is)))
    (case f8 => (refine' L2.ff_mk ?a ?l ?c ?k; (case a => k_is); (case l => k_is); (case c => k_is); (case k => k_is)))
    (case f9 => (refine' L2.ff_mk ?a ?l ?c ?k; (case a => k_is); (case l => k_is); (case c => k_is); (case k => k_is)))
    (case f10 => (refine' L2.ff_mk ?a ?l ?c ?k; (case a => k_is); (case l => k_is); (case c => k_is); (case k => k_is)))
    (case f11 => (refine' L2.ff_mk ?a ?l ?c ?k; (case a => k_is); (case l => k_is); (case c => k_is); (case k => k_is)))
    (case f12 => (refine' L2.ff_mk ?a ?l ?c ?k; (case a => k_is); (case l => k_is); (case c => k_is); (case k => k_is)))
    (case f13 => (refine' L2.ff_mk ?a ?l ?c ?k; (case a => k_is); (case l => k_is); (case c => k_is); (case k => k_is)))
    (case f14 => (refine' L2.ff_mk ?a ?l ?c ?k; (case a => k_is); (case l => k_is); (case c => k_is); (case k => k_is)))
    (case f15 => (refine' L2.ff_mk ?a ?l ?c ?k; (case a => k_is); (case l => k_is); (case c => k_is); (case k => k_is)))
    (case f16 => (refine' L2.ff_mk ?a ?l ?c ?k; (case a => k_is); (case l => k_is); (case c => k_is); (case k => k_is)))
    (case f17 => (refine' L2.ff_mk ?a ?l ?c ?k; (case a => k_is); (case l => k_is); (case c => k_is); (case k => k_is)))
    (case f18 => (refine' L2.ff_mk ?a ?l ?c ?k; (case a => k_is); (case l => k_is); (case c => k_is); (case k => k_is)))
    (case f19 => (refine' L2.ff_mk ?a ?l ?c ?k; (case a => k_is); (case l => k_is); (case c => k_is); (case k => k_is)))
    (case Nsorted => k_is)
    (case Nset => k_is)
    (case Ndict => k_is)
    (case NMOST => kernel_rfl)
    (case B => (intro M; refine' L2.bl_of M ?b1 ?b2 ?b3 ?b4 ?b5 ?b6 ?b7 ?b8 ?b9 ?b10 ?b11 ?b12 ?b13 ?b14 ?b15; (case b1 => k_is); (case b2 => k_is); (case b3 => k_is); (case b4 => k_is); (case b5 => k_is); (case b6 => k_is); (case b7 => k_is); (case b8 => k_is); (case b9 => k_is); (case b10 => k_is); (case b11 => k_is); (case b12 => k_is); (case b13 => k_is); (case b14 => k_is); (case b15 => k_is)))
  case hC => (intro w; kernel_rfl)
  case hKP => (intro w; kernel_rfl)
