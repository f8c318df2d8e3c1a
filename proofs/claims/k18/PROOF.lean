import PyProof.Rows.All
import Wide.All
import OpenK.AllK
import Wide.FinOn
import Lean
import PyProof.EqAt
import PyProof.EqKinds
import PyProof.TupleCall
import PySem.Challenge.RW_overlaid_k18_beginnings_and_ends_with_re
set_option Elab.async false
set_option linter.all false
set_option maxRecDepth 100000
/-! THE HAND LAYER, for ints, bools, texts, own classes, LISTS and tuples (index, slices, in, append, pop ..), calls, loops. Paste it whole ahead of your own text; what your proof does not reach may be deleted. -/
namespace L2
open PySem PySem.Spec PyProof.Rows

/-- a key: an int or a str -/
abbrev Key := Sum Int Str
def keyIs : Key → Value → Bool
  | .inl k, v => Value.isInt k v
  | .inr x, v => Value.isStrOf x v
def keyH (w : World) : Key → Int
  | .inl k => hashInt k
  | .inr x => hashStr w x
theorem keyIs_shape : ∀ {k : Key} {v : Value}, keyIs k v = true → (∃ i t, k = Sum.inl i ∧ v = Value.int i t) ∨ (∃ x t, k = Sum.inr x ∧ v = Value.str x t)
  | .inl i, v, h => by
    obtain ⟨t, e⟩ := Value.isInt_shape (k := i) (v := v) h
    exact .inl ⟨i, t, rfl, e⟩
  | .inr x, v, h => by
    obtain ⟨t, e⟩ := Value.isStrOf_shape (x := x) (v := v) h
    exact .inr ⟨x, t, rfl, e⟩
theorem key_ll (a b : Int) : decide ((Sum.inl a : Key) = Sum.inl b) = (a == b) := by
  by_cases e : a = b
  · subst e; simp
  · have h : ¬ (Sum.inl a : Key) = Sum.inl b := fun q => e (Sum.inl.inj q)
    rw [decide_eq_false h]
    exact (beq_eq_false_iff_ne.mpr e).symm
theorem key_rr (a b : Str) : decide ((Sum.inr a : Key) = Sum.inr b) = decide (a = b) := by
  by_cases e : a = b
  · subst e; simp
  · have h : ¬ (Sum.inr a : Key) = Sum.inr b := fun q => e (Sum.inr.inj q)
    rw [decide_eq_false h, decide_eq_false e]
theorem key_lr (a : Int) (b : Str) : decide ((Sum.inl a : Key) = Sum.inr b) = false := decide_eq_false (fun q => nomatch q)
theorem key_rl (a : Str) (b : Int) : decide ((Sum.inr a : Key) = Sum.inl b) = false := decide_eq_false (fun q => nomatch q)

def mixKind (prog : Program) (w : World) : PySem.KeyKind prog w Key where
  is := keyIs
  hash := keyH w
  inj := fun v a b ha hb => by
    rcases keyIs_shape ha with ⟨i, t, rfl, rfl⟩ | ⟨x, t, rfl, rfl⟩
    · rcases keyIs_shape hb with ⟨j, u, rfl, e⟩ | ⟨y, u, rfl, e⟩
      · injection e with e1 _; rw [e1]
      · exact nomatch e
    · rcases keyIs_shape hb with ⟨j, u, rfl, e⟩ | ⟨y, u, rfl, e⟩
      · exact nomatch e
      · injection e with e1 _; rw [e1]
  byValue := fun k v h => by
    rcases keyIs_shape h with ⟨i, t, rfl, rfl⟩ | ⟨x, t, rfl, rfl⟩ <;> rfl
  pyHash := fun hv h => by
    rcases keyIs_shape hv with ⟨i, t, rfl, rfl⟩ | ⟨x, t, rfl, rfl⟩
    · exact wpAny_pyHash_int h
    · exact wpAny_pyHash_str h
  eqBool := fun hu hv h => by
    rcases keyIs_shape hu with ⟨i, t, rfl, rfl⟩ | ⟨x, t, rfl, rfl⟩
    · rcases keyIs_shape hv with ⟨j, u, rfl, rfl⟩ | ⟨y, u, rfl, rfl⟩
      · rw [key_ll] at h; exact wpAny_eqBool_int h
      · rw [key_lr] at h; exact SeqAt.EqAt.int_str i t y u _ _ _ _ h
    · rcases keyIs_shape hv with ⟨j, u, rfl, rfl⟩ | ⟨y, u, rfl, rfl⟩
      · rw [key_rl] at h; exact SeqAt.EqAt.str_int x t j u _ _ _ _ h
      · rw [key_rr] at h; exact wpAny_eqBool_str h
  «strs» := fun k x t v h => by
    rcases keyIs_shape h with ⟨i, u, rfl, e⟩ | ⟨y, u, rfl, e⟩
    · exact nomatch e
    · injection e with e1 _
      subst e1
      cases v <;> rfl

end L2

namespace L2
open PySem PySem.Spec PyProof.Rows

/-- a value, without the heap -/
inductive V where
  | non | bl (b : Bool) | int (i : Int) | str (x : Str) | byt (b : Array UInt8) | flt (b : UInt64) | ref (a : Addr) | ty (n : String)
  deriving DecidableEq

def RelV : V → Value → Prop
  | .non, u => u = Value.none
  | .bl b, u => u = Value.bool b
  | .int i, u => ∃ t, u = Value.int i t
  | .str x, u => ∃ t, u = Value.str x t
  | .byt b, u => ∃ t, u = Value.bytes b t
  | .flt b, u => ∃ t, u = Value.float b t
  | .ref a, u => u = Value.ref a
  | .ty n, u => u = Value.type n

abbrev Vals : List V → List Value → Prop := Paired RelV
theorem Vals.length {xs : List V} {us : List Value} (r : Vals xs us) : xs.length = us.length := Paired.length r
theorem Vals.get : ∀ {xs : List V} {us : List Value} {i : Nat} {x : V}, Vals xs us → xs[i]? = some x → ∃ u, us[i]? = some u ∧ RelV x u
  | _, _, _, _, .nil, e => by simp at e
  | _, _, 0, _, .cons r _, e => by simp at e; subst e; exact ⟨_, rfl, r⟩
  | _, _, i + 1, x, .cons _ t, e => by
    obtain ⟨u, h1, h2⟩ := Vals.get (i := i) (x := x) t (by simpa using e)
    exact ⟨u, by simpa using h1, h2⟩
theorem Vals.set {x : V} {u : Value} (r : RelV x u) : ∀ {xs : List V} {us : List Value} (i : Nat), Vals xs us → Vals (xs.set i x) (us.set i u)
  | _, _, _, .nil => .nil
  | _, _, 0, .cons _ t => .cons r t
  | _, _, i + 1, .cons q t => .cons q (Vals.set r i t)
theorem Vals.append : ∀ {xs ys : List V} {us ws : List Value}, Vals xs us → Vals ys ws → Vals (xs ++ ys) (us ++ ws)
  | _, _, _, _, .nil, s => s
  | _, _, _, _, .cons r t, s => .cons r (Vals.append t s)
theorem Vals.take : ∀ {xs : List V} {us : List Value} (n : Nat), Vals xs us → Vals (xs.take n) (us.take n)
  | _, _, 0, _ => .nil
  | _, _, _ + 1, .nil => .nil
  | _, _, n + 1, .cons r t => .cons r (Vals.take n t)
theorem Vals.drop : ∀ {xs : List V} {us : List Value} (n : Nat), Vals xs us → Vals (xs.drop n) (us.drop n)
  | _, _, 0, r => r
  | _, _, _ + 1, .nil => .nil
  | _, _, n + 1, .cons _ t => Vals.drop n t

def RelO : Option V → Option Value → Prop
  | some v, some u => RelV v u
  | none, none => True
  | _, _ => False
def KV {κ : Type} : List (κ × V) → List (κ × Value) → Prop := Paired fun (p : κ × V) (q : κ × Value) => p.1 = q.1 ∧ RelV p.2 q.2

/-- a key of a dict (00_mix): an int or a text -/
def kV : Key → V
  | .inl i => .int i
  | .inr x => .str x

/-- what stands at a tracked address -/
inductive HO where
  /-- a list -/
  | lst (xs : List V)
  /-- a tuple (never changes) -/
  | tup (xs : List V)
  /-- a dict whose keys are ints and texts; one whose keys are tuples of ints and texts (the empty one is both) -/
  | dK (kvs : List (Key × V)) | dT (kvs : List (List Key × V))
  /-- a set of ints: its members, its size -/
  | set (S : Int → Bool) (n : Nat)
  /-- an instance of the class at C, its dict at dx, its attributes -/
  | ins (C dx : Addr) (fs : List (Str × V))
  /-- the dict of the instance at x -/
  | own (x : Addr)
  /-- the dict of an exception -/
  | xd (fs : List (Str × V))
  /-- a bound method, f of x -/
  | met (f x : Addr)
  /-- a range object lo, lo + 1, .. below hi -/
  | rng (lo hi : Int)
  /-- a thing that is known to the object (the script; a dict while a loop walks it): read, never written while it is so -/
  | frz (o : Obj) (u : HO)
  /-- a code object's table -/
  | tbl (ps : Array Value)
  /-- any other thing, by what is true of its one object (a def of one's own: SetO a S n := HO.ext fun h => ..) -/
  | ext (φ : Heap → Prop)

abbrev Hp := Addr → Option HO
def upd (H : Hp) (a : Addr) (o : HO) : Hp := fun b => if b = a then some o else H b
theorem upd_same {H : Hp} {a : Addr} {o : HO} : upd H a o a = some o := by unfold upd; rw [if_pos rfl]
theorem upd_ne {H : Hp} {a b : Addr} {o : HO} (h : b ≠ a) : upd H a o b = H b := by unfold upd; rw [if_neg h]
/-- two objects of different content stand apart -/
theorem ne_of {H : Hp} {a b : Addr} {o u : HO} (h : H a = some o) (h' : H b = some u) (d : o ≠ u) : a ≠ b := by
  intro e; subst e; rw [h] at h'; exact d (Option.some.inj h')
theorem ne_of_none {H : Hp} {a b : Addr} {o : HO} (h : H a = some o) (h' : H b = none) : a ≠ b := by
  intro e; subst e; rw [h] at h'; cases h'

section
variable (P : Program) (w : World)
def ObjOk (H : Hp) (h : Heap) (a : Addr) : HO → Prop
  | .lst xs => xs.length ≤ sizeLine ∧ ∃ (its : List Value) (n : Nat), Vals xs its ∧ h.get? a = some { cls := .type "list", data := .seq its.toArray n }
  | .tup xs => xs.length ≤ sizeLine ∧ ∃ its : List Value, Vals xs its ∧ IsTup h a its.toArray
  | .dK kvs => kvs.length ≤ sizeLine ∧ (a == sysModules) = false ∧ ∃ vs, KV kvs vs ∧ h.DictOf (mixKind P w) a vs
  | .dT kvs => kvs.length ≤ sizeLine ∧ (a == sysModules) = false ∧ ∃ xs : List (List Key × Addr × Value),
      Paired (fun (p : List Key × V) (q : List Key × Addr × Value) => p.1 = q.1 ∧ H q.2.1 = some (.tup (p.1.map kV)) ∧ RelV p.2 q.2.2) kvs xs ∧
      ∃ o es ep, h.get? a = some o ∧ o.ExactDict ∧ o.data = .dict es ep ∧ es.toList = xs.map (entryOfKey (tupleKind (mixKind P w))) ∧ (xs.map (·.1)).Nodup
  | .set S n => h.SetOf (intKind P w) a S n
  | .ins C dx fs => H dx = some (.own a) ∧ fs.length ≤ 1000 ∧ dx ≠ a ∧ h.get? a = some (PySem.W.instObj C dx) ∧
      ∃ mA, h.Ns1 dx mA ∧ (∀ f, RelO (fs.lookup f) (mA f)) ∧ PySem.Within mA (fs.map (·.1))
  | .own _ => ∃ o, h.get? a = some o
  | .xd fs => ∃ mA, h.Ns1 a mA ∧ ∀ f, RelO (fs.lookup f) (mA f)
  | .rng lo hi => ∃ t u v, h.get? a = some { cls := .type "range", data := .fields #[.int lo t, .int hi u, .int 1 v] }
  | .frz o u => h.get? a = some o ∧ ObjOk H h a u
  | .tbl ps => h.get? a = some { cls := .none, data := .fields ps }
  | .met f x => h.get? a = some (PySem.W.methodObj (.ref f) (.ref x))
  | .ext φ => φ h ∧ (∃ o, h.get? a = some o) ∧ ∀ h1 h2 : Heap, φ h1 → (∀ o, h1.get? a = some o → h2.get? a = some o) → φ h2
/-- the abstract heap is held -/
def HOk (H : Hp) (h : Heap) : Prop := ∀ a o, H a = some o → ObjOk P w H h a o
end

section
variable {P : Program} {w : World} {H H' : Hp} {h h' : Heap} {a : Addr} {o : HO}
theorem ObjOk.lt (x : ObjOk P w H h a o) : a < h.objs.size := by
  cases o with
  | lst xs => obtain ⟨_, _, _, _, e⟩ := x; exact Heap.lt_size e
  | tup xs => obtain ⟨_, _, _, p⟩ := x; exact p.lt
  | dK kvs => obtain ⟨_, _, _, _, o, _, _, e, _⟩ := x; exact Heap.lt_size e
  | dT kvs => obtain ⟨_, _, _, _, o, _, _, e, _⟩ := x; exact Heap.lt_size e
  | set S n => obtain ⟨o, _, _, _, e, _⟩ := x; exact Heap.lt_size e
  | ins C dx fs => obtain ⟨_, _, _, e, _⟩ := x; exact Heap.lt_size e
  | own y => obtain ⟨_, e⟩ := x; exact Heap.lt_size e
  | xd fs => obtain ⟨_, ⟨_, _, _, e, _⟩, _⟩ := x; exact Heap.lt_size e
  | rng lo hi => obtain ⟨_, _, _, e⟩ := x; exact Heap.lt_size e
  | frz ob u => obtain ⟨e, _⟩ := x; exact Heap.lt_size e
  | tbl ps => exact Heap.lt_size (show h.get? a = some _ from x)
  | met f y => exact Heap.lt_size (show h.get? a = some _ from x)
  | ext φ => obtain ⟨_, ⟨_, e⟩, _⟩ := x; exact Heap.lt_size e
theorem Paired.mapP {α β : Type} {F G : α → β → Prop} : ∀ {l₁ : List α} {l₂ : List β}, Paired F l₁ l₂ → (∀ a b, F a b → G a b) → Paired G l₁ l₂
  | _, _, .nil, _ => .nil
  | _, _, .cons r t, f => .cons (f _ _ r) (Paired.mapP t f)
/-- what an object's description leans on: its own object, its own dict, the tuples -/
theorem ObjOk.stay (x : ObjOk P w H h a o) (k : ∀ b u, (b = a ∨ H b = some (.own a)) → h.get? b = some u → h'.get? b = some u)
    (ho : ∀ b, H b = some (.own a) → H' b = some (.own a)) (ht : ∀ b xs, H b = some (.tup xs) → H' b = some (.tup xs)) : ObjOk P w H' h' a o := by
  induction o with
  | lst xs => obtain ⟨z, its, n, r, e⟩ := x; exact ⟨z, its, n, r, k _ _ (.inl rfl) e⟩
  | tup xs => obtain ⟨z, its, r, ob, e, c⟩ := x; exact ⟨z, its, r, ob, k _ _ (.inl rfl) e, c⟩
  | dK kvs => obtain ⟨z, y, vs, r, ob, es, ep, e, c⟩ := x; exact ⟨z, y, vs, r, ob, es, ep, k _ _ (.inl rfl) e, c⟩
  | dT kvs =>
    obtain ⟨z, y, xs, r, ob, es, ep, e, c⟩ := x
    exact ⟨z, y, xs, Paired.mapP r fun p q z => ⟨z.1, ht _ _ z.2.1, z.2.2⟩, ob, es, ep, k _ _ (.inl rfl) e, c⟩
  | set S n => obtain ⟨ob, es, ep, t, e, c⟩ := x; exact ⟨ob, es, ep, t, k _ _ (.inl rfl) e, c⟩
  | ins C dx fs =>
    obtain ⟨d, z, ne, e, mA, ⟨od, es, ep, e2, c⟩, r⟩ := x
    exact ⟨ho _ d, z, ne, k _ _ (.inl rfl) e, mA, ⟨od, es, ep, k _ _ (.inr d) e2, c⟩, r⟩
  | own y => obtain ⟨ob, e⟩ := x; exact ⟨ob, k _ _ (.inl rfl) e⟩
  | xd fs => obtain ⟨mA, ⟨od, es, ep, e, c⟩, r⟩ := x; exact ⟨mA, ⟨od, es, ep, k _ _ (.inl rfl) e, c⟩, r⟩
  | rng lo hi => obtain ⟨t, u, v, e⟩ := x; exact ⟨t, u, v, k _ _ (.inl rfl) e⟩
  | frz ob u ih => obtain ⟨e, q⟩ := x; exact ⟨k _ _ (.inl rfl) e, ih q⟩
  | tbl ps =>
    have e : h.get? a = some { cls := .none, data := .fields ps } := x
    show h'.get? a = some { cls := .none, data := .fields ps }
    exact k a _ (.inl rfl) e
  | met f y =>
    have e : h.get? a = some (PySem.W.methodObj (.ref f) (.ref y)) := x
    show h'.get? a = some (PySem.W.methodObj (.ref f) (.ref y))
    exact k a _ (.inl rfl) e
  | ext φ => obtain ⟨p, ⟨o, e⟩, st⟩ := x; exact ⟨st _ _ p fun o q => k _ _ (.inl rfl) q, ⟨o, k _ _ (.inl rfl) e⟩, st⟩
theorem HOk.lt (x : HOk P w H h) (e : H a = some o) : a < h.objs.size := (x a o e).lt
theorem HOk.fresh (x : HOk P w H h) (e : h.objs.size ≤ a) : H a = none := by
  cases q : H a with
  | none => rfl
  | some u => exact absurd (Nat.lt_of_lt_of_le (x.lt q) e) (Nat.lt_irrefl _)
/-- every object of the heap is kept -/
theorem HOk.kept (x : HOk P w H h) (k : ∀ b u, h.get? b = some u → h'.get? b = some u) : HOk P w H h' := fun a o e =>
  (x a o e).stay (fun b u _ q => k b u q) (fun _ q => q) fun _ _ q => q
/-- a new object is laid and tracked -/
theorem HOk.laid (x : HOk P w H h) (k : ∀ b u, h.get? b = some u → h'.get? b = some u) (hp : h.objs.size ≤ a) (new : ObjOk P w (upd H a o) h' a o) : HOk P w (upd H a o) h' := fun b u e => by
  have hn := x.fresh hp
  by_cases hb : b = a
  · subst hb; rw [upd_same] at e; cases e; exact new
  · rw [upd_ne hb] at e
    exact (x b u e).stay (fun c v _ q => k c v q) (fun c q => by rw [upd_ne (ne_of_none q hn)]; exact q) fun c xs q => by rw [upd_ne (ne_of_none q hn)]; exact q
end

/-- what may be read as u: it is u, or a known u -/
def Rd (H : Hp) (a : Addr) (u : HO) : Prop := H a = some u ∨ ∃ o, H a = some (.frz o u)
theorem Rd.of {H : Hp} {a : Addr} {u : HO} (h : H a = some u) : Rd H a u := .inl h
theorem Rd.ok {P : Program} {w : World} {H : Hp} {h : Heap} {a : Addr} {u : HO} (r : Rd H a u) (x : HOk P w H h) : ObjOk P w H h a u := by
  rcases r with r | ⟨o, r⟩
  · exact x a u r
  · obtain ⟨_, q⟩ := x a _ r
    exact q
/-- what may be written -/
def Mut : Option HO → Prop
  | some (.lst _) => True
  | some (.dK _) => True
  | some (.dT _) => True
  | some (.set _ _) => True
  | some (.ins _ _ _) => True
  | some (.ext _) => True
  | _ => False
section
variable {P : Program} {w : World} {H : Hp} {h h' : Heap} {x e : Addr} {o' : HO}
/-- the object at e is changed: x itself, or the dict of the instance x -/
theorem HOk.write (ok : HOk P w H h) (mu : Mut (H x)) (he : e = x ∨ H e = some (.own x)) (k : ∀ b u, b ≠ e → h.get? b = some u → h'.get? b = some u) (heo : ∃ u, h'.get? e = some u)
    (new : ObjOk P w (upd H x o') h' x o') : HOk P w (upd H x o') h' := fun b u q => by
  have nown : ∀ c y, H c = some (.own y) → c ≠ x := fun c y r z => by subst z; rw [r] at mu; exact mu
  have ntup : ∀ c xs, H c = some (.tup xs) → c ≠ x := fun c xs r z => by subst z; rw [r] at mu; exact mu
  by_cases hb : b = x
  · subst hb; rw [upd_same] at q; cases q; exact new
  · rw [upd_ne hb] at q
    by_cases hbe : b = e
    · have q' : H b = some (.own x) := by
        rcases he with z | z
        · exact absurd (hbe.trans z) hb
        · rw [hbe]; exact z
      rw [q] at q'; cases q'
      obtain ⟨v, hv⟩ := heo
      exact ⟨v, by rw [hbe]; exact hv⟩
    · refine (ok b u q).stay (fun c v hc r => k c v ?_ r) (fun c r => by rw [upd_ne (nown c b r)]; exact r) fun c xs r => by rw [upd_ne (ntup c xs r)]; exact r
      rcases hc with rfl | hc
      · exact hbe
      · rintro rfl
        rcases he with z | z
        · exact nown c b hc z
        · rw [hc] at z; cases z; exact hb rfl
end

/-! ### kept unless tracked; of the frames at fs (the callers') the slots may change (an exception that passes writes there); of the records at ex (iterators) nothing is said -/
structure Un (fs ex : List Addr) (H H' : Hp) (h h' : Heap) : Prop where
  keep : ∀ b o, h.get? b = some o → H b = none → b ∉ fs → b ∉ ex → h'.get? b = some o
  slot : ∀ b o, h.get? b = some o → H b = none → b ∈ fs → b ∉ ex → ∃ sl, h'.get? b = some { o with slots := sl }
  free : ∀ b o, h.get? b = some o → H b = none → b ∉ ex → H' b = none
  there : ∀ b o, h.get? b = some o → b ∉ ex → ∃ o', h'.get? b = some o'
  tups : ∀ b xs, H b = some (.tup xs) → H' b = some (.tup xs)
  frzs : ∀ b o u, H b = some (.frz o u) → H' b = some (.frz o u)
  tbls : ∀ b ps, H b = some (.tbl ps) → ∃ more, H' b = some (.tbl (ps ++ more))
section
variable {fs fs' ex ex' : List Addr} {H H1 H2 : Hp} {h h1 h2 h' : Heap} {a x e : Addr} {o : HO}
theorem Un.any (u : Un fs ex H H1 h h1) {b : Addr} {ob : Obj} (q : h.get? b = some ob) (n : H b = none) (hx : b ∉ ex) : ∃ sl, h1.get? b = some { ob with slots := sl } := by
  by_cases hb : b ∈ fs
  · exact u.slot b ob q n hb hx
  · exact ⟨ob.slots, u.keep b ob q n hb hx⟩
theorem Un.trans (a : Un fs ex H H1 h h1) (b : Un fs ex H1 H2 h1 h2) : Un fs ex H H2 h h2 where
  keep := fun c ob q n hc hx => b.keep c ob (a.keep c ob q n hc hx) (a.free c ob q n hx) hc hx
  slot := fun c ob q n hc hx => by
    obtain ⟨sl, e1⟩ := a.slot c ob q n hc hx
    obtain ⟨sl', e2⟩ := b.slot c _ e1 (a.free c ob q n hx) hc hx
    exact ⟨sl', e2⟩
  free := fun c ob q n hx => by
    obtain ⟨o', e1⟩ := a.there c ob q hx
    exact b.free c o' e1 (a.free c ob q n hx) hx
  there := fun c ob q hx => by
    obtain ⟨o', e1⟩ := a.there c ob q hx
    exact b.there c o' e1 hx
  tups := fun c xs q => b.tups c xs (a.tups c xs q)
  frzs := fun c ob xs q => b.frzs c ob xs (a.frzs c ob xs q)
  tbls := fun c ps q => by
    obtain ⟨m1, e1⟩ := a.tbls c ps q
    obtain ⟨m2, e2⟩ := b.tbls c _ e1
    exact ⟨m1 ++ m2, by rw [e2, Array.append_assoc]⟩
theorem Un.kept (k : ∀ b u, h.get? b = some u → h'.get? b = some u) : Un fs ex H H h h' :=
  ⟨fun b ob q _ _ _ => k b ob q, fun b ob q _ _ _ => ⟨ob.slots, k b ob q⟩, fun _ _ _ n _ => n, fun b ob q _ => ⟨ob, k b ob q⟩, fun _ _ q => q, fun _ _ _ q => q, fun _ ps q => ⟨#[], by rw [q]; simp⟩⟩
theorem Un.refl : Un fs ex H H h h := Un.kept fun _ _ q => q
theorem Un.laid (k : ∀ b u, h.get? b = some u → h'.get? b = some u) (hp : h.objs.size ≤ a) (hn : H a = none) : Un fs ex H (upd H a o) h h' where
  keep := fun b u q _ _ _ => k b u q
  slot := fun b u q _ _ _ => ⟨u.slots, k b u q⟩
  free := fun b u q n _ => by rw [upd_ne (Nat.ne_of_lt (Nat.lt_of_lt_of_le (Heap.lt_size q) hp))]; exact n
  there := fun b u q _ => ⟨u, k b u q⟩
  tups := fun b xs q => by rw [upd_ne (ne_of_none q hn)]; exact q
  frzs := fun b u xs q => by rw [upd_ne (ne_of_none q hn)]; exact q
  tbls := fun b ps q => ⟨#[], by rw [upd_ne (ne_of_none q hn), q]; simp⟩
theorem Un.write (mu : Mut (H x)) (he : e = x ∨ H e = some (.own x)) (k : ∀ b u, b ≠ e → h.get? b = some u → h'.get? b = some u) (heo : ∃ u, h'.get? e = some u) : Un fs ex H (upd H x o) h h' := by
  have hx : ∀ b, H b = none → b ≠ x := fun b n z => by subst z; rw [n] at mu; exact mu
  have hb : ∀ b, H b = none → b ≠ e := fun b n z => by
    subst z
    rcases he with r | r
    · exact hx b n r
    · rw [n] at r; cases r
  have hm : ∀ b u, H b = some u → ¬ Mut (some u) → b ≠ x := fun b u q nm z => by subst z; rw [q] at mu; exact nm mu
  refine ⟨fun b u q n _ _ => k b u (hb b n) q, fun b u q n _ _ => ⟨u.slots, k b u (hb b n) q⟩, fun b u q n _ => by rw [upd_ne (hx b n)]; exact n, fun b u q _ => ?_,
    fun b xs q => by rw [upd_ne (hm b _ q fun z => z)]; exact q, fun b u xs q => by rw [upd_ne (hm b _ q fun z => z)]; exact q, fun b ps q => ⟨#[], by rw [upd_ne (hm b _ q fun z => z), q]; simp⟩⟩
  by_cases hbe : b = e
  · subst hbe; exact heo
  · exact ⟨u, k b u hbe q⟩
theorem Un.mono (u : Un fs ex H H1 h h1) (hs : ∀ b ∈ fs, b ∈ fs') (hx : ∀ b ∈ ex, b ∈ ex') : Un fs' ex' H H1 h h1 :=
  ⟨fun b ob q n hb he => u.keep b ob q n (fun z => hb (hs b z)) fun z => he (hx b z), fun _ _ q n _ he => u.any q n fun z => he (hx _ z), fun b ob q n he => u.free b ob q n fun z => he (hx b z), fun b ob q he => u.there b ob q fun z => he (hx b z), u.tups, u.frzs, u.tbls⟩
end

/-! ### the heap without what is tracked -/
def trk (h : Heap) (H : Hp) : List Addr := (List.range h.objs.size).filter fun a => (H a).isSome
def hidT (h : Heap) (H : Hp) : Heap := PySem.W.hideAll h (trk h H)
theorem hidT_size (h : Heap) (H : Hp) : (hidT h H).objs.size = h.objs.size := PySem.W.hideAll_size _ _
theorem hidT_get {h : Heap} {H : Hp} {b : Addr} {o : Obj} (e : h.get? b = some o) (n : H b = none) : (hidT h H).get? b = some o :=
  PySem.W.hideAll_get _ e fun hm => by
    have q : (H b).isSome = true := (List.mem_filter.mp hm).2
    rw [n] at q; simp at q
theorem of_hidT {h : Heap} {H : Hp} {b : Addr} {o : Obj} (e : (hidT h H).get? b = some o) : h.get? b = some o ∧ H b = none := by
  have e' : h.get? b = some o := PySem.W.of_hideAll (trk h H) e
  refine ⟨e', ?_⟩
  cases q : H b with
  | none => rfl
  | some x =>
    have hm : b ∈ trk h H := List.mem_filter.mpr ⟨List.mem_range.mpr (Heap.lt_size e'), by simp [q]⟩
    have z : (hidT h H).get? b = none := PySem.W.hideAll_none (trk h H) hm
    rw [z] at e; cases e

/-! ### OpenK's ledger, filled with every new object but one -/
def allNews (g h : Heap) (L : Addr) : List (Addr × Obj) := (List.range h.objs.size).filterMap fun a => if a = L ∨ (g.get? a).isSome = true then none else (h.get? a).map fun o => (a, o)
def rest (g h : Heap) (L d : Addr) : List (Addr × Obj) := (allNews g h L).filter fun p => decide (p.1 ≠ d)
end L2

namespace L2
open PySem PySem.Spec PyProof.Rows

/-- the module's facts, over the base: the heap at the law's entry without what is tracked there -/
structure Mod (K : PySem.W.Frag) (mg : Str → Option Value) (base : Heap) : Prop where
  kin : K.In base
  glob : base.Ns mainGlobals mg
  blt : ∃ mb, base.Ns builtinsNs mb ∧ ∀ x : Str, x ≠ "__name__" → mb x = bootBuiltins x
  nolimit : base.NoLimit

/-- the context: a def's body (or a comprehension's block) running. base: fixed through the whole law; s₀, H₀: the entry; outer: the frames whose slots others may change (a def's callers); stack: all frames that run;
   ex: iterators that were made ahead of the entry and are walked here (a comprehension's); fn: the names whose cells were made at the entry (a def: all; a comprehension's block: its own); calm: not within an except suite; pn: pins that every state bears; xe: what is wanted of an exception that leaves the code -/
structure Cx where
  prog : Program
  w : World
  K : PySem.W.Frag
  mg : Str → Option Value
  base : Heap
  A : Around
  N : List Str
  s₀ : Shared
  H₀ : Hp
  env : Env
  outer : List Env
  stack : List Env
  ex : List Addr
  fn : Str → Bool
  calm : Bool
  pn : List (Addr × Obj)
  xe : Value → Shared → Prop
/-- the callers' frames -/
def frs (l : List Env) : List Addr := l.filterMap (·.frame)
abbrev Cx.fs (X : Cx) : List Addr := frs X.outer

def Vis (sc : Scope) (x : Str) : Prop := sc.names.lookup x = some .local ∨ sc.names.lookup x = some .cell ∨ sc.names.lookup x = some .free
def Loc (sc : Scope) (x : Str) : Prop := sc.names.lookup x = some .local ∨ sc.names.lookup x = some .cell
def Look (env : Env) (h : Heap) (m : Str → Option Value) (x : Str) (u : Value) : Prop :=
  (env.kindOf x = some .local ∧ m x = some u) ∨ ((env.kindOf x = some .cell ∨ env.kindOf x = some .free) ∧ ∃ c, env.cells.lookup x = some c ∧ h.IsCell c (some u))

structure Cx.Ok (X : Cx) : Prop where
  mod : Mod X.K X.mg X.base
  kind : X.env.scope.kind = .function
  glob : X.env.globals = mainGlobals
  blt : X.env.builtins = builtinsNs
  above : X.s₀.heap.objs.size ≤ X.env.locals
  inj : ∀ x y c, X.env.cells.lookup x = some c → X.env.cells.lookup y = some c → x = y
  has : ∀ x, (X.env.kindOf x = some .cell ∨ X.env.kindOf x = some .free) → ∃ c, X.env.cells.lookup x = some c
  cab : ∀ x c, X.fn x = true → X.env.cells.lookup x = some c → X.s₀.heap.objs.size ≤ c
  hd : X.calm = true → X.A.handled = none
  frames : X.A.frames = some X.stack
  stk : X.stack = X.outer ∨ (X.stack = X.env :: X.outer ∧ X.env.frame = some X.env.locals)
  exf : ∀ b ∈ X.ex, b ≠ X.env.locals ∧ ∀ x c, X.env.cells.lookup x = some c → c ≠ b
  bs : ∀ b o, X.base.get? b = some o → X.s₀.heap.get? b = some o ∧ X.H₀ b = none
  bsz : X.base.objs.size ≤ X.s₀.heap.objs.size
  noex : ∀ b o, X.base.get? b = some o → b ∉ X.ex
  exfs : ∀ b ∈ X.ex, b ∉ X.fs
  funs : X.s₀.heap.FunFrames X.base X.outer
  frf : ∀ b ∈ X.fs, X.H₀ b = none

structure Inv (X : Cx) (pins : List (Addr × Obj)) (σ : List (Option V)) (H : Hp) (s : Shared) : Prop where
  ok : X.Ok
  os : s.os = X.s₀.os
  bare : AllBare s.gens
  base : Un X.fs X.ex X.H₀ H X.s₀.heap s.heap
  loc : ∃ m, s.heap.Ns X.env.locals m ∧ ∀ (i : Nat) (x : Str) (v : V), X.N[i]? = some x → σ[i]? = some (some v) → Vis X.env.scope x → ∃ u, RelV v u ∧ Look X.env s.heap m x u
  cell : ∀ x c, X.env.cells.lookup x = some c → ∃ v, s.heap.IsCell c v
  free : H X.env.locals = none
  freeC : ∀ x c, X.env.cells.lookup x = some c → H c = none
  pin : ∀ p ∈ X.pn ++ pins, s.heap.get? p.1 = some p.2 ∧ H p.1 = none ∧ p.1 ≠ X.env.locals ∧ p.1 ∉ X.fs ∧ ∀ v, p.2.data ≠ .cell v
  hok : HOk X.prog X.w H s.heap
  len : σ.length = X.N.length

section
variable {X : Cx} {pins : List (Addr × Obj)} {σ : List (Option V)} {H H' : Hp} {s : Shared} {h' : Heap}

theorem Cx.Ok.nofr (ok : X.Ok) {b : Addr} {o : Obj} (e : X.base.get? b = some o) : b ∉ X.fs := fun hb => by
  have := (ok.funs.mem hb).1
  rw [e] at this; cases this
theorem Inv.bs (I : Inv X pins σ H s) : ∀ b o, X.base.get? b = some o → s.heap.get? b = some o ∧ H b = none := fun b o e =>
  ⟨I.base.keep b o (I.ok.bs b o e).1 (I.ok.bs b o e).2 (I.ok.nofr e) (I.ok.noex b o e), I.base.free b o (I.ok.bs b o e).1 (I.ok.bs b o e).2 (I.ok.noex b o e)⟩
theorem Inv.bk (I : Inv X pins σ H s) : ∀ b o, X.base.get? b = some o → s.heap.get? b = some o := fun b o e => (I.bs b o e).1
theorem Inv.mod (I : Inv X pins σ H s) : Mod X.K X.mg X.base := I.ok.mod
theorem Inv.kIn (I : Inv X pins σ H s) : X.K.In s.heap := I.ok.mod.kin.keeps I.bk
theorem Inv.nolimit (I : Inv X pins σ H s) : s.heap.NoLimit := I.ok.mod.nolimit.keeps I.bk
theorem Inv.lt (I : Inv X pins σ H s) : X.env.locals < s.heap.objs.size := let ⟨_, hn, _⟩ := I.loc; hn.lt
theorem Inv.sz (I : Inv X pins σ H s) : X.s₀.heap.objs.size ≤ s.heap.objs.size := Nat.le_trans I.ok.above (Nat.le_of_lt I.lt)
theorem Inv.nofs (I : Inv X pins σ H s) {a : Addr} (h : s.heap.objs.size ≤ a) : a ∉ X.fs := fun hb => by
  obtain ⟨_, o, ho, _⟩ := I.ok.funs.mem hb
  exact absurd (Nat.lt_of_lt_of_le (Heap.lt_size ho) (Nat.le_trans I.sz h)) (Nat.lt_irrefl _)
theorem Inv.cne (I : Inv X pins σ H s) : ∀ x c, X.env.cells.lookup x = some c → c ≠ X.env.locals := fun x c e z => by
  obtain ⟨v, o, ho, hd⟩ := I.cell x c e
  obtain ⟨m, ⟨o', es, ep, ho', hd', _⟩, _⟩ := I.loc
  rw [z, ho'] at ho; cases ho; rw [hd'] at hd; cases hd
theorem Inv.funs (I : Inv X pins σ H s) : s.heap.FunFrames X.base X.outer := by
  have all : ∀ (l : List Env), (∀ b ∈ frs l, b ∈ X.fs) → X.s₀.heap.FunFrames X.base l → s.heap.FunFrames X.base l := by
    intro l
    induction l with
    | nil => intro _ _; trivial
    | cons env r ih =>
      intro hs hl
      obtain ⟨hk, ⟨L, o, hf, hn, ho, hd⟩, hr⟩ := hl
      have hL : L ∈ X.fs := hs L (by unfold frs; rw [List.filterMap_cons, hf]; exact List.mem_cons_self)
      obtain ⟨sl, e⟩ := I.base.slot L o ho (I.ok.frf L hL) hL fun z => I.ok.exfs L z hL
      exact ⟨hk, ⟨L, _, hf, hn, e, hd⟩, ih (fun b hb => hs b (by unfold frs; rw [List.filterMap_cons, hf]; exact List.mem_cons_of_mem _ hb)) hr⟩
  exact all X.outer (fun _ hb => hb) I.ok.funs

/-- the frames that run, for a call -/
theorem Inv.stack (I : Inv X pins σ H s) : s.heap.FunFrames X.base X.stack := by
  rcases I.ok.stk with e | ⟨e, hf⟩
  · rw [e]; exact I.funs
  · rw [e]
    obtain ⟨m, hn, _⟩ := I.loc
    refine .cons (by rw [I.ok.kind]; decide) hf hn ?_ I.funs
    exact Heap.get?_none_of_le (Nat.le_trans I.ok.bsz I.ok.above)
theorem Inv.stkSub (I : Inv X pins σ H s) : ∀ b ∈ frs X.stack, b ∈ X.env.locals :: X.fs := fun b hb => by
  rcases I.ok.stk with e | ⟨e, hf⟩
  · rw [e] at hb; exact List.mem_cons_of_mem _ hb
  · rw [e] at hb
    unfold frs at hb
    rw [List.filterMap_cons, hf] at hb
    exact hb
theorem Inv.stkFree (I : Inv X pins σ H s) : ∀ b ∈ frs X.stack, H b = none := fun b hb => by
  rcases List.mem_cons.mp (I.stkSub b hb) with e | hb
  · rw [e]; exact I.free
  · obtain ⟨_, o, ho, _⟩ := I.ok.funs.mem hb
    exact I.base.free b o ho (I.ok.frf b hb) fun z => I.ok.exfs b z hb

/-- THE STEP: the untracked objects but the frame and the records at ch are kept (the callers' frames up to slots), the frame's map is kept, the new abstract heap is held -/
theorem Inv.step {g' : Array GenState} {t' : Nat} {d' : Drawn} {ch : List Addr} (I : Inv X pins σ H s)
    (hch : ∀ b ∈ ch, (b ∈ X.ex ∨ X.s₀.heap.objs.size ≤ b) ∧ b ≠ X.env.locals ∧ (∀ x c, X.env.cells.lookup x = some c → c ≠ b) ∧ ∀ p ∈ X.pn ++ pins, p.1 ≠ b)
    (keep : ∀ b o, b ≠ X.env.locals → b ∉ X.fs → b ∉ ch → s.heap.get? b = some o → H b = none → h'.get? b = some o)
    (slot : ∀ b o, b ≠ X.env.locals → b ∈ X.fs → b ∉ ch → s.heap.get? b = some o → H b = none → ∃ sl, h'.get? b = some { o with slots := sl }) (free : ∀ b o, b ∉ ch → s.heap.get? b = some o → H b = none → H' b = none)
    (there : ∀ b o, b ∉ ch → s.heap.get? b = some o → ∃ o', h'.get? b = some o')
    (tups : ∀ b xs, H b = some (.tup xs) → H' b = some (.tup xs)) (frzs : ∀ b o u, H b = some (.frz o u) → H' b = some (.frz o u)) (tbls : ∀ b ps, H b = some (.tbl ps) → ∃ more, H' b = some (.tbl (ps ++ more)))
    (ns : ∀ m, s.heap.Ns X.env.locals m → h'.Ns X.env.locals m) (hok : HOk X.prog X.w H' h') (hg : AllBare g') :
    Inv X pins σ H' { s with heap := h', gens := g', drawn := d', toks := t' } := by
  have neL : ∀ b o, X.s₀.heap.get? b = some o → b ≠ X.env.locals := fun b o e => Nat.ne_of_lt (Nat.lt_of_lt_of_le (Heap.lt_size e) I.ok.above)
  have neC : ∀ b o, X.s₀.heap.get? b = some o → b ∉ X.ex → b ∉ ch := fun b o e hx hb => by
    rcases (hch b hb).1 with z | z
    · exact hx z
    · exact absurd (Nat.lt_of_lt_of_le (Heap.lt_size e) z) (Nat.lt_irrefl _)
  have cellK : ∀ x c, X.env.cells.lookup x = some c → ∀ v, s.heap.IsCell c v → h'.IsCell c v := fun x c e v ⟨o, ho, hd⟩ => by
    have nch : c ∉ ch := fun z => (hch c z).2.2.1 x c e rfl
    by_cases hc : c ∈ X.fs
    · obtain ⟨sl, q⟩ := slot c o (I.cne x c e) hc nch ho (I.freeC x c e)
      exact ⟨_, q, hd⟩
    · exact ⟨o, keep c o (I.cne x c e) hc nch ho (I.freeC x c e), hd⟩
  refine ⟨I.ok, I.os, hg, ⟨fun b o e n hb hx => ?_, fun b o e n hb hx => ?_, fun b o e n hx => ?_, fun b o e hx => ?_, fun b xs e => tups b xs (I.base.tups b xs e), fun b o xs e => frzs b o xs (I.base.frzs b o xs e), fun b ps e => ?_⟩, ?_, fun x c e => ?_, ?_, fun x c e => ?_, fun p hp => ?_, hok, I.len⟩
  · exact keep b o (neL b o e) hb (neC b o e hx) (I.base.keep b o e n hb hx) (I.base.free b o e n hx)
  · obtain ⟨sl, e1⟩ := I.base.slot b o e n hb hx
    obtain ⟨sl', e2⟩ := slot b _ (neL b o e) hb (neC b o e hx) e1 (I.base.free b o e n hx)
    exact ⟨sl', e2⟩
  · obtain ⟨o', e1⟩ := I.base.there b o e hx
    exact free b o' (neC b o e hx) e1 (I.base.free b o e n hx)
  · obtain ⟨o', e1⟩ := I.base.there b o e hx
    exact there b o' (neC b o e hx) e1
  · obtain ⟨m1, e1⟩ := I.base.tbls b ps e
    obtain ⟨m2, e2⟩ := tbls b _ e1
    exact ⟨m1 ++ m2, by rw [e2, Array.append_assoc]⟩
  · obtain ⟨m, hn, hl⟩ := I.loc
    refine ⟨m, ns m hn, fun i x v e1 e2 e3 => ?_⟩
    obtain ⟨u, r, l⟩ := hl i x v e1 e2 e3
    refine ⟨u, r, ?_⟩
    rcases l with l | ⟨k, c, e, z⟩
    · exact .inl l
    · exact .inr ⟨k, c, e, cellK x c e _ z⟩
  · obtain ⟨v, z⟩ := I.cell x c e
    exact ⟨v, cellK x c e v z⟩
  · obtain ⟨m, ⟨o, _, _, ho, _⟩, _⟩ := I.loc
    exact free _ o (fun z => (hch _ z).2.1 rfl) ho I.free
  · obtain ⟨v, o, ho, hd⟩ := I.cell x c e
    exact free c o (fun z => (hch c z).2.2.1 x c e rfl) ho (I.freeC x c e)
  · obtain ⟨e, n, ne, nf, d⟩ := I.pin p hp
    have nch : p.1 ∉ ch := fun z => (hch p.1 z).2.2.2 p hp rfl
    exact ⟨keep p.1 p.2 ne nf nch e n, free p.1 p.2 nch e n, ne, nf, d⟩
/-- .. where the frame's own object is kept too -/
theorem Inv.un {t' : Nat} (I : Inv X pins σ H s) (u : Un X.fs [] H H' s.heap h') (hok : HOk X.prog X.w H' h') : Inv X pins σ H' { s with heap := h', toks := t' } := by
  obtain ⟨m, ⟨o, es, ep, ho, r⟩, _⟩ := id I.loc
  obtain ⟨sl, hL⟩ := u.any ho I.free (by simp)
  exact I.step (g' := s.gens) (d' := s.drawn) (ch := []) (fun _ z => nomatch z) (fun b o _ hb _ e n => u.keep b o e n hb (by simp)) (fun b o _ hb _ e n => u.slot b o e n hb (by simp)) (fun b o _ e n => u.free b o e n (by simp)) (fun b o _ e => u.there b o e (by simp)) u.tups u.frzs u.tbls (fun m' hm => by
    obtain ⟨o', es', ep', ho', r'⟩ := hm
    rw [ho] at ho'; cases ho'
    exact ⟨_, es', ep', hL, r'⟩) hok I.bare
/-- behind a call (or a comprehension's block): the slots of this frame may have changed too, the records at ch may have turned -/
theorem Inv.call {g' : Array GenState} {t' : Nat} {d' : Drawn} {ch : List Addr} (I : Inv X pins σ H s) (u : Un (frs X.stack) ch H H' s.heap h') (hok : HOk X.prog X.w H' h') (hg : AllBare g')
    (hch : ∀ b ∈ ch, (b ∈ X.ex ∨ X.s₀.heap.objs.size ≤ b) ∧ b ≠ X.env.locals ∧ (∀ x c, X.env.cells.lookup x = some c → c ≠ b) ∧ ∀ p ∈ X.pn ++ pins, p.1 ≠ b) :
    Inv X pins σ H' { s with heap := h', gens := g', drawn := d', toks := t' } := by
  obtain ⟨m, ⟨o, es, ep, ho, r⟩, _⟩ := id I.loc
  obtain ⟨sl, hL⟩ := u.any ho I.free fun z => (hch _ z).2.1 rfl
  exact I.step (ch := ch) hch (fun b o hL hb hc e n => u.keep b o e n (fun z => (List.mem_cons.mp (I.stkSub b z)).elim hL hb) hc) (fun b o _ _ hc e n => u.any e n hc) (fun b o hc e n => u.free b o e n hc) (fun b o hc e => u.there b o e hc) u.tups u.frzs u.tbls (fun m' hm => by
    obtain ⟨o', es', ep', ho', r'⟩ := hm
    rw [ho] at ho'; cases ho'
    exact ⟨_, es', ep', hL, r'⟩) hok hg
/-- an untracked record of ours (an iterator) has turned -/
theorem Inv.turned {t' : Nat} {it : Addr} (I : Inv X pins σ H s) (k : ∀ b o, b ≠ it → s.heap.get? b = some o → h'.get? b = some o) (hn : H it = none) (hL : it ≠ X.env.locals)
    (h1 : it ∈ X.ex ∨ X.s₀.heap.objs.size ≤ it) (h2 : ∀ x c, X.env.cells.lookup x = some c → c ≠ it) (h3 : ∀ p ∈ X.pn ++ pins, p.1 ≠ it) : Inv X pins σ H { s with heap := h', toks := t' } := by
  have nit : ∀ b u, H b = some u → b ≠ it := fun b u e z => by rw [z, hn] at e; cases e
  refine I.step (g' := s.gens) (d' := s.drawn) (ch := [it]) (fun b hb => ?_) (fun b o _ _ hc e _ => k b o (fun z => hc (by simp [z])) e) (fun b o _ _ hc e _ => ⟨o.slots, k b o (fun z => hc (by simp [z])) e⟩) (fun _ _ _ _ n => n)
    (fun b o hc e => ⟨o, k b o (fun z => hc (by simp [z])) e⟩) (fun _ _ e => e) (fun _ _ _ e => e) (fun b ps e => ⟨#[], by rw [e]; simp⟩) (fun m hm => ?_) (fun b u e => ?_) I.bare
  · have e : b = it := by simpa using hb
    subst e
    exact ⟨h1, hL, h2, h3⟩
  · obtain ⟨o, es, ep, ho, r⟩ := hm
    exact ⟨o, es, ep, k _ o (Ne.symm hL) ho, r⟩
  · refine (I.hok b u e).stay (fun c v hc q => k c v ?_ q) (fun _ q => q) fun _ _ q => q
    rcases hc with z | z
    · rw [z]; exact nit b u e
    · exact nit c _ z
theorem Inv.tok (I : Inv X pins σ H s) (t : Nat) : Inv X pins σ H { s with toks := t } := I.un (h' := s.heap) (t' := t) Un.refl I.hok
/-- all objects kept -/
theorem Inv.kept {t' : Nat} (I : Inv X pins σ H s) (k : ∀ b u, s.heap.get? b = some u → h'.get? b = some u) : Inv X pins σ H { s with heap := h', toks := t' } := I.un (Un.kept k) (I.hok.kept k)
/-- a new object laid and tracked -/
theorem Inv.laid {a : Addr} {o : HO} {t' : Nat} (I : Inv X pins σ H s) (k : ∀ b u, s.heap.get? b = some u → h'.get? b = some u) (hp : s.heap.objs.size ≤ a) (new : ObjOk X.prog X.w (upd H a o) h' a o) :
    Inv X pins σ (upd H a o) { s with heap := h', toks := t' } := I.un (Un.laid k hp (I.hok.fresh hp)) (I.hok.laid k hp new)
/-- an object written -/
theorem Inv.write {x e : Addr} {o : HO} {t' : Nat} (I : Inv X pins σ H s) (mu : Mut (H x)) (he : e = x ∨ H e = some (.own x)) (k : ∀ b u, b ≠ e → s.heap.get? b = some u → h'.get? b = some u) (heo : ∃ u, h'.get? e = some u)
    (new : ObjOk X.prog X.w (upd H x o) h' x o) : Inv X pins σ (upd H x o) { s with heap := h', toks := t' } := I.un (Un.write mu he k heo) (I.hok.write mu he k heo new)
/-- forgetting slots, pins -/
theorem Inv.weak {σ' : List (Option V)} (I : Inv X pins σ H s) (hl : σ'.length = σ.length) (w : ∀ (i : Nat) v, σ'[i]? = some (some v) → σ[i]? = some (some v)) : Inv X pins σ' H s :=
  ⟨I.ok, I.os, I.bare, I.base, let ⟨m, hn, hl'⟩ := I.loc; ⟨m, hn, fun i x v e1 e2 e3 => hl' i x v e1 (w i v e2) e3⟩, I.cell, I.free, I.freeC, I.pin, I.hok, hl.trans I.len⟩
theorem Inv.pins_of {pins' : List (Addr × Obj)} (I : Inv X pins σ H s) (h : ∀ p ∈ pins', s.heap.get? p.1 = some p.2 ∧ H p.1 = none ∧ p.1 ≠ X.env.locals ∧ p.1 ∉ X.fs ∧ ∀ v, p.2.data ≠ .cell v) : Inv X pins' σ H s :=
  ⟨I.ok, I.os, I.bare, I.base, I.loc, I.cell, I.free, I.freeC, fun p hp => (List.mem_append.mp hp).elim (fun z => I.pin p (List.mem_append_left _ z)) (h p), I.hok, I.len⟩

theorem nodup_ix {N : List Str} (hN : N.Nodup) {i j : Nat} {x : Str} (a : N[i]? = some x) (b : N[j]? = some x) : i = j := by
  obtain ⟨h1, e1⟩ := List.getElem?_eq_some_iff.mp a
  obtain ⟨h2, e2⟩ := List.getElem?_eq_some_iff.mp b
  exact (List.getElem_inj hN).mp (e1.trans e2.symm)

/-- a name is stored; what changed -/
theorem store_ok2 {M : Model} {A : Around} {E : Value → Shared → Prop} {i : Nat} {x : Str} {v : V} {u : Value} {Q : Unit → Shared → Prop} (I : Inv X pins σ H s) (hN : X.N.Nodup) (hi : X.N[i]? = some x) (hx : Loc X.env.scope x) (r : RelV v u)
    (h : ∀ s', Inv X pins (σ.set i (some v)) H s' → (∃ a, Heap.SameBut a s.heap s'.heap ∧ (a = X.env.locals ∨ X.env.cells.lookup x = some a)) → Q () s') (hf : X.fn x = true ∨ X.env.scope.names.lookup x = some .local := by first | exact .inl rfl | exact .inr rfl | assumption) : wpAny M A (storeName X.env x u) Q E s := by
  obtain ⟨m, hn, hl⟩ := id I.loc
  have hcls : (X.env.scope.kind == .class || (X.env.scope.kind == .module && X.env.locals != X.env.globals)) = false := by rw [I.ok.kind]; rfl
  have hiσ : i < σ.length := by rw [I.len]; exact (List.getElem?_eq_some_iff.mp hi).1
  have cne := I.cne
  have tracked : ∀ {a : Addr} {h' : Heap}, (∃ o, s.heap.get? a = some o ∧ H a = none) → Heap.SameBut a s.heap h' → HOk X.prog X.w H h' := fun {a h'} ha hs b ob e => by
    obtain ⟨_, _, hfree⟩ := ha
    refine (I.hok b ob e).stay (fun c w' hc q => (hs.2 c ?_).trans q) (fun _ q => q) fun _ _ q => q
    rintro rfl
    rcases hc with rfl | hc
    · rw [hfree] at e; cases e
    · rw [hfree] at hc; cases hc
  rcases hx with hk | hk
  · refine wpAny_storeName_local hk hn (fun h' hn' hs => ?_) hcls
    obtain ⟨oL, _, _, hoL, _⟩ := id hn
    refine h _ ⟨I.ok, I.os, I.bare, ⟨fun b o e n hb hx => ?_, fun b o e n hb hx => ?_, I.base.free, fun b o e hx => ?_, I.base.tups, I.base.frzs, I.base.tbls⟩, ⟨_, hn', fun j y v' e1 e2 e3 => ?_⟩, fun y c e => ?_, I.free, I.freeC, fun p hp => ?_, tracked ⟨oL, hoL, I.free⟩ hs, by simpa using I.len⟩ ⟨_, hs, .inl rfl⟩
    · exact (hs.2 b (Nat.ne_of_lt (Nat.lt_of_lt_of_le (Heap.lt_size e) I.ok.above))).trans (I.base.keep b o e n hb hx)
    · obtain ⟨sl, e1⟩ := I.base.slot b o e n hb hx
      exact ⟨sl, (hs.2 b (Nat.ne_of_lt (Nat.lt_of_lt_of_le (Heap.lt_size e) I.ok.above))).trans e1⟩
    · obtain ⟨o', e1⟩ := I.base.there b o e hx
      exact ⟨o', (hs.2 b (Nat.ne_of_lt (Nat.lt_of_lt_of_le (Heap.lt_size e) I.ok.above))).trans e1⟩
    · by_cases hj : j = i
      · subst hj
        rw [hi] at e1; cases e1
        rw [List.getElem?_set_self hiσ] at e2
        cases e2
        exact ⟨u, r, .inl ⟨hk, by simp⟩⟩
      · rw [List.getElem?_set_ne (Ne.symm hj)] at e2
        obtain ⟨u', r', q⟩ := hl j y v' e1 e2 e3
        refine ⟨u', r', ?_⟩
        rcases q with ⟨k, e⟩ | ⟨k, c, e, z⟩
        · refine .inl ⟨k, ?_⟩
          have : y ≠ x := fun e => hj (nodup_ix hN e1 (e ▸ hi))
          simp [this, e]
        · exact .inr ⟨k, c, e, z.sameBut hs (cne y c e)⟩
    · obtain ⟨w', z⟩ := I.cell y c e
      exact ⟨w', z.sameBut hs (cne y c e)⟩
    · obtain ⟨e, n, ne, nf, d⟩ := I.pin p hp
      exact ⟨(hs.2 p.1 ne).trans e, n, ne, nf, d⟩
  · have hfn : X.fn x = true := by
      rcases hf with z | z
      · exact z
      · rw [z] at hk; cases hk
    obtain ⟨c, hc⟩ := I.ok.has x (.inl hk)
    obtain ⟨w', z⟩ := I.cell x c hc
    refine wpAny_storeName_cell I.ok.kind hk hc z (fun h' hc' hs => ?_)
    obtain ⟨oc, hoc, hocd⟩ := id z
    refine h { s with heap := h' } ⟨I.ok, I.os, I.bare, ⟨fun b o e n hb hx => ?_, fun b o e n hb hx => ?_, I.base.free, fun b o e hx => ?_, I.base.tups, I.base.frzs, I.base.tbls⟩, ⟨m, hn.sameBut hs (Ne.symm (cne x c hc)), fun j y v' e1 e2 e3 => ?_⟩, fun y c' e => ?_, I.free, I.freeC, fun p hp => ?_, tracked ⟨oc, hoc, I.freeC x c hc⟩ hs, by simpa using I.len⟩ ⟨c, hs, .inr hc⟩
    · exact (hs.2 b (Nat.ne_of_lt (Nat.lt_of_lt_of_le (Heap.lt_size e) (I.ok.cab x c hfn hc)))).trans (I.base.keep b o e n hb hx)
    · obtain ⟨sl, e1⟩ := I.base.slot b o e n hb hx
      exact ⟨sl, (hs.2 b (Nat.ne_of_lt (Nat.lt_of_lt_of_le (Heap.lt_size e) (I.ok.cab x c hfn hc)))).trans e1⟩
    · obtain ⟨o', e1⟩ := I.base.there b o e hx
      exact ⟨o', (hs.2 b (Nat.ne_of_lt (Nat.lt_of_lt_of_le (Heap.lt_size e) (I.ok.cab x c hfn hc)))).trans e1⟩
    · by_cases hj : j = i
      · subst hj
        rw [hi] at e1; cases e1
        rw [List.getElem?_set_self hiσ] at e2
        cases e2
        exact ⟨u, r, .inr ⟨.inl hk, c, hc, hc'⟩⟩
      · rw [List.getElem?_set_ne (Ne.symm hj)] at e2
        obtain ⟨u', r', q⟩ := hl j y v' e1 e2 e3
        refine ⟨u', r', ?_⟩
        rcases q with q | ⟨k, c', e, z'⟩
        · exact .inl q
        · refine .inr ⟨k, c', e, z'.sameBut hs ?_⟩
          rintro rfl
          exact hj (nodup_ix hN e1 (I.ok.inj _ _ _ e hc ▸ hi))
    · by_cases hcc : c' = c
      · subst hcc; exact ⟨_, hc'⟩
      · obtain ⟨w2, z2⟩ := I.cell y c' e
        exact ⟨w2, z2.sameBut hs hcc⟩
    · obtain ⟨e, n, ne, nf, d⟩ := I.pin p hp
      refine ⟨(hs.2 p.1 ?_).trans e, n, ne, nf, d⟩
      intro q
      rw [q, hoc] at e
      have q' : oc = p.2 := Option.some.inj e
      exact d w' (by rw [← q']; exact hocd)
theorem store_ok {M : Model} {A : Around} {E : Value → Shared → Prop} {i : Nat} {x : Str} {v : V} {u : Value} {Q : Unit → Shared → Prop} (I : Inv X pins σ H s) (hN : X.N.Nodup) (hi : X.N[i]? = some x) (hx : Loc X.env.scope x) (r : RelV v u)
    (h : ∀ s', Inv X pins (σ.set i (some v)) H s' → Q () s') (hf : X.fn x = true ∨ X.env.scope.names.lookup x = some .local := by first | exact .inl rfl | exact .inr rfl | assumption) : wpAny M A (storeName X.env x u) Q E s :=
  store_ok2 I hN hi hx r (fun s' I' _ => h s' I') hf
/-- behind a call or a block, the state as it is -/
theorem Inv.call' {s' : Shared} {ch : List Addr} (I : Inv X pins σ H s) (ho : s'.os = s.os) (u : Un (frs X.stack) ch H H' s.heap s'.heap) (hok : HOk X.prog X.w H' s'.heap) (hg : AllBare s'.gens)
    (hch : ∀ b ∈ ch, (b ∈ X.ex ∨ X.s₀.heap.objs.size ≤ b) ∧ b ≠ X.env.locals ∧ (∀ x c, X.env.cells.lookup x = some c → c ≠ b) ∧ ∀ p ∈ X.pn ++ pins, p.1 ≠ b) : Inv X pins σ H' s' := by
  obtain ⟨h', g', d', t', o'⟩ := s'
  have e : o' = s.os := ho
  subst e
  exact I.call (g' := g') (t' := t') (d' := d') u hok hg hch
end

/-! ### the judgements -/
/-- an exception: its class, its own dict's address (where it has one), the abstract heap behind it -/
abbrev XK := Value → Option Addr → Hp → Prop
abbrev St := List (Option V)
abbrev VK := V → Hp → Prop
/-- an expression's reading; a test's; an argument list's -/
abbrev TE := St → Hp → VK → Prop
abbrev TT := St → Hp → (Bool → Hp → Prop) → Prop
abbrev TA := St → Hp → (List V → Hp → Prop) → Prop
/-- what is wanted behind a statement -/
structure Ends where
  nx : St → Hp → Prop
  rt : VK
  bk : St → Hp → Prop := fun _ _ => False
  ct : St → Hp → Prop := fun _ _ => False
abbrev TS := Ends → St → Hp → Prop

def EP (X : Cx) (pins : List (Addr × Obj)) (σ : St) (Q : VK) (u : Value) (s' : Shared) : Prop := ∃ v H', Inv X pins σ H' s' ∧ RelV v u ∧ Q v H'
def TP (X : Cx) (pins : List (Addr × Obj)) (σ : St) (Q : Bool → Hp → Prop) (b : Bool) (s' : Shared) : Prop := ∃ H', Inv X pins σ H' s' ∧ Q b H'
def AP (X : Cx) (pins : List (Addr × Obj)) (σ : St) (Q : List V → Hp → Prop) (us : List Value) (s' : Shared) : Prop := ∃ vs H', Inv X pins σ H' s' ∧ Vals vs us ∧ Q vs H'
def SP (X : Cx) (pins : List (Addr × Obj)) (D : Ends) (f : Flow) (s' : Shared) : Prop :=
  match f with
  | .next => ∃ σ' H', Inv X pins σ' H' s' ∧ D.nx σ' H'
  | .brk => ∃ σ' H', Inv X pins σ' H' s' ∧ D.bk σ' H'
  | .cont => ∃ σ' H', Inv X pins σ' H' s' ∧ D.ct σ' H'
  | .ret u => ∃ v σ' H', Inv X pins σ' H' s' ∧ RelV v u ∧ D.rt v H'

def PE (X : Cx) (e : Expr) (t : TE) : Prop :=
  ∀ (pins : List (Addr × Obj)) (s : Shared) (σ : St) (H : Hp) (Q : VK), Inv X pins σ H s → t σ H Q → wpAny (model X.prog X.w) X.A (eval e X.env) (EP X pins σ Q) X.xe s
def PT (X : Cx) (e : Expr) (t : TT) : Prop :=
  ∀ (pins : List (Addr × Obj)) (s : Shared) (σ : St) (H : Hp) (Q : Bool → Hp → Prop), Inv X pins σ H s → t σ H Q → wpAny (model X.prog X.w) X.A (isTrue e X.env (eval e X.env)) (TP X pins σ Q) X.xe s
/-- a test whatever its 'whole' is (and, or) -/
def PW (X : Cx) (e : Expr) (t : TT) : Prop :=
  ∀ (whole : Sem Value) (pins : List (Addr × Obj)) (s : Shared) (σ : St) (H : Hp) (Q : Bool → Hp → Prop), Inv X pins σ H s → t σ H Q → wpAny (model X.prog X.w) X.A (isTrue e X.env whole) (TP X pins σ Q) X.xe s
theorem PW.pt {X : Cx} {e : Expr} {t : TT} (h : PW X e t) : PT X e t := h _
/-- an argument list (no star), from the left -/
def PA (X : Cx) (es : List Expr) (t : TA) : Prop :=
  ∀ (pos : Pos) (pins : List (Addr × Obj)) (s : Shared) (σ : St) (H : Hp) (Q : List V → Hp → Prop), Inv X pins σ H s → t σ H Q → wpAny (model X.prog X.w) X.A (spliced (backTo pos (starEach es X.env))) (AP X pins σ Q) X.xe s
def PS (X : Cx) (st : Stmt) (t : TS) : Prop :=
  ∀ (pins : List (Addr × Obj)) (s : Shared) (σ : St) (H : Hp) (D : Ends), Inv X pins σ H s → t D σ H → wpAny (model X.prog X.w) X.A (exec st X.env) (SP X pins D) X.xe s
def PSs (X : Cx) (st : List Stmt) (t : TS) : Prop :=
  ∀ (pins : List (Addr × Obj)) (s : Shared) (σ : St) (H : Hp) (D : Ends), Inv X pins σ H s → t D σ H → wpAny (model X.prog X.w) X.A (execs st X.env) (SP X pins D) X.xe s
/-- weaken the end -/
theorem thn {α : Type} {t : Sem α} {Q Q' : α → Shared → Prop} {M : Model} {A : Around} {E : Value → Shared → Prop} {s : Shared} (h : wpAny M A t Q E s) (hQ : ∀ a s, Q a s → Q' a s) : wpAny M A t Q' E s := wpAny_mono h hQ fun _ _ x => x
end L2

namespace L2
open PySem PySem.Spec PyProof.Rows
section
variable {X : Cx}


/-! ### names and constants -/
def tVar (i : Nat) : TE := fun σ H Q => ∃ v, σ[i]? = some (some v) ∧ Q v H
def tC (v : V) : TE := fun _ H Q => Q v H
theorem pe_var {i : Nat} {x : Str} {pos : Pos} (hN : X.N[i]? = some x) (hv : Vis X.env.scope x) (hd : (x == ("__debug__" : Str)) = false := by decide) (hcd : (x == ("__classdict__" : Str)) = false := by decide) : PE X (.Name x pos) (tVar i) := by
  intro pins s σ H Q I h
  obtain ⟨v, e, h⟩ := h
  obtain ⟨m, hn, hl⟩ := I.loc
  obtain ⟨u, r, l⟩ := hl i x v hN e hv
  have fin : EP X pins σ Q u s := ⟨v, H, I, r, h⟩
  rcases l with ⟨hk, hm⟩ | ⟨hk, c, hc, hcell⟩
  · exact wpAny_Name (wpAny_loadName_local I.ok.kind hk hn hm fin) hd
  · rcases hk with hk | hk
    · exact wpAny_Name (wpAny_loadName_cell I.ok.kind hk hc hcell fin) hd
    · exact wpAny_Name (wpAny_loadName_free I.ok.kind hk hc hcell fin hcd) hd
theorem pe_int {i j pos} : PE X (.Constant (.int i) j pos) (tC (.int i)) := fun _ _ _ H _ I h => wpAny_Constant_int ⟨.int i, H, I.tok _, ⟨_, rfl⟩, h⟩
theorem pe_bl {b j pos} : PE X (.Constant (.bool b) j pos) (tC (.bl b)) := fun _ _ _ H _ I h => Constant_bool ⟨.bl b, H, I, rfl, h⟩
theorem pe_str {x j pos} : PE X (.Constant (.str x) j pos) (tC (.str x)) := fun _ _ _ H _ I h => Calls.Constant_str ⟨.str x, H, I.tok _, ⟨_, rfl⟩, h⟩

/-- a global name of the def -/
def Gl (X : Cx) (x : Str) : Prop := X.env.kindOf x = some .globalImplicit
theorem ld_glob {E : Value → Shared → Prop} {pins : List (Addr × Obj)} {s : Shared} {σ : St} {H : Hp} {x : Str} {u : Value} {pos : Pos} {Q : Value → Shared → Prop} (I : Inv X pins σ H s) (hg : Gl X x) (hm : X.mg x = some u) (h : Q u s)
    (hd : (x == ("__debug__" : Str)) = false := by decide) : wpAny (model X.prog X.w) X.A (eval (.Name x pos) X.env) Q E s :=
  Calls.Name_function_global I.ok.kind hg (Calls.loadGlobal_global (by rw [I.ok.glob]; exact I.mod.glob.keeps I.bk) hm h) hd
theorem ld_blt {E : Value → Shared → Prop} {pins : List (Addr × Obj)} {s : Shared} {σ : St} {H : Hp} {x : Str} {u : Value} {pos : Pos} {Q : Value → Shared → Prop} (I : Inv X pins σ H s) (hg : Gl X x) (hm : X.mg x = none) (hv : bootBuiltins x = some u) (h : Q u s)
    (hn : x ≠ "__name__" := by decide) (hd : (x == ("__debug__" : Str)) = false := by decide) : wpAny (model X.prog X.w) X.A (eval (.Name x pos) X.env) Q E s := by
  obtain ⟨mb, h1, h2⟩ := I.mod.blt
  exact Calls.Name_function_global I.ok.kind hg (Calls.loadGlobal_builtin (by rw [I.ok.glob]; exact I.mod.glob.keeps I.bk) hm (by rw [I.ok.blt]; exact h1.keeps I.bk) ((h2 x hn).trans hv) h) hd
theorem pe_bltn {x : Str} {v : V} {u : Value} {pos : Pos} (hg : Gl X x) (hm : X.mg x = none) (hv : bootBuiltins x = some u) (r : RelV v u) (hn : x ≠ "__name__" := by decide) (hd : (x == ("__debug__" : Str)) = false := by decide) : PE X (.Name x pos) (tC v) :=
  fun _ _ _ H _ I h => ld_blt I hg hm hv ⟨v, H, I, r, h⟩ hn hd

/-! ### arithmetic -/
variable {a b : Expr} {ta tb : TE} {pos : Pos}

/-! ### comparisons -/
/-- a comparison as a value, as a test -/
def tB (t : TE) : TT := fun σ H Q => t σ H fun x H1 => ∃ c, x = .bl c ∧ Q c H1
/-- an expression whose value is a bool, as a test -/
theorem pt_val {e : Expr} {t : TE} (h : PE X e t) (he : ∀ whole, isTrue e X.env whole = (do let v ← whole; standAt e.pos; holding [v] (truthy v)) := by intro _; rfl) : PT X e (tB t) := by
  intro pins s σ H Q I hw
  refine isTrue_plain (thn (h pins s σ H _ I hw) fun v s1 ⟨x, H1, I1, r1, q1⟩ => ?_) (he _)
  obtain ⟨d, rfl, q⟩ := q1
  cases r1
  exact wpAny_truthy_bool ⟨H1, I1, q⟩

/-! ### and, or, not -/
variable {tA tB' : TT} {rest : List Expr}
def tAnd (t u : TT) : TT := fun σ H Q => t σ H fun c H1 => if c = true then u σ H1 Q else Q false H1
def tOr (t u : TT) : TT := fun σ H Q => t σ H fun c H1 => if c = true then Q true H1 else u σ H1 Q
def tNot (t : TT) : TT := fun σ H Q => t σ H fun c H1 => Q (!c) H1
theorem pw_and1 (ha : PT X a tA) : PW X (.BoolOp .And [a] pos) tA := by
  intro wh pins s σ H Q I h
  refine isTrue_and (thn (ha pins s σ H Q I h) fun c s1 e => ?_)
  cases c with
  | true => exact isTrue_and_nil e
  | false => exact e
theorem pw_or1 (ha : PT X a tA) : PW X (.BoolOp .Or [a] pos) tA := by
  intro wh pins s σ H Q I h
  refine isTrue_or (thn (ha pins s σ H Q I h) fun c s1 e => ?_)
  cases c with
  | false => exact isTrue_or_nil e
  | true => exact e
theorem pw_and (ha : PT X a tA) (hb : PW X (.BoolOp .And (b :: rest) pos) tB') : PW X (.BoolOp .And (a :: b :: rest) pos) (tAnd tA tB') := by
  intro wh pins s σ H Q I h
  refine isTrue_and (thn (ha pins s σ H _ I h) fun c s1 ⟨H1, I1, q1⟩ => ?_)
  cases c with
  | true => exact hb wh pins s1 σ H1 Q I1 q1
  | false => exact ⟨H1, I1, q1⟩
theorem pw_or (ha : PT X a tA) (hb : PW X (.BoolOp .Or (b :: rest) pos) tB') : PW X (.BoolOp .Or (a :: b :: rest) pos) (tOr tA tB') := by
  intro wh pins s σ H Q I h
  refine isTrue_or (thn (ha pins s σ H _ I h) fun c s1 ⟨H1, I1, q1⟩ => ?_)
  cases c with
  | true => exact ⟨H1, I1, q1⟩
  | false => exact hb wh pins s1 σ H1 Q I1 q1
theorem pt_not (ha : PT X a tA) : PT X (.UnaryOp .Not a pos) (tNot tA) := by
  intro pins s σ H Q I h
  exact isTrue_not (ha pins s σ H (fun c H1 => Q (!c) H1) I h)
/-- .. as values (bools) -/
def tAndV (ta tb : TE) : TE := fun σ H Q => ta σ H fun x H1 => ∃ c, x = .bl c ∧ if c = true then tb σ H1 Q else Q (.bl false) H1
theorem pe_one {op} {t : TE} (h : PE X a t) : PE X (.BoolOp op [a] pos) t := fun pins s σ H Q I hw => BoolOp_one (h pins s σ H Q I hw)
theorem pe_and (ha : PE X a ta) (hb : PE X (.BoolOp .And (b :: rest) pos) tb) : PE X (.BoolOp .And (a :: b :: rest) pos) (tAndV ta tb) := by
  intro pins s σ H Q I h
  refine BoolOp_and (thn (ha pins s σ H _ I h) fun v s1 ⟨x, H1, I1, r1, q1⟩ => ?_)
  obtain ⟨c, rfl, q1⟩ := q1
  cases r1
  refine wpAny_truthy_bool ?_
  cases c with
  | true => exact hb pins s1 σ H1 Q I1 q1
  | false => exact ⟨.bl false, H1, I1, rfl, q1⟩
end
end L2

namespace L2
open PySem PySem.Spec PyProof.Rows

/-! ### a list, a tuple that is read: tracked, frozen, or an object of the module -/
def SqL (K : PySem.W.Frag) (H : Hp) (a : Addr) (xs : List V) : Prop :=
  Rd H a (.lst xs) ∨
    ∃ (o : Obj) (its : Array Value) (n : Nat), K.lookup a = some o ∧ o.cls = .type "list" ∧ o.dict = none ∧ o.data = .seq its n ∧ its.size ≤ sizeLine ∧ Vals xs its.toList
def SqT (K : PySem.W.Frag) (H : Hp) (a : Addr) (xs : List V) : Prop :=
  Rd H a (.tup xs) ∨
    ∃ (o : Obj) (its : Array Value) (n : Nat), K.lookup a = some o ∧ o.cls = .type "tuple" ∧ o.data = .seq its n ∧ its.size ≤ sizeLine ∧ Vals xs its.toList
def absV : Value → Option V
  | .none => some .non
  | .bool b => some (.bl b)
  | .int i _ => some (.int i)
  | .str x _ => some (.str x)
  | .bytes b _ => some (.byt b)
  | .float b _ => some (.flt b)
  | .ref a => some (.ref a)
  | .type n => some (.ty n)
  | _ => none
theorem RelV.abs {x : V} {u : Value} (r : RelV x u) : absV u = some x := by
  cases x with
  | non => cases r; rfl
  | bl _ => cases r; rfl
  | int _ => obtain ⟨t, rfl⟩ := r; rfl
  | str _ => obtain ⟨t, rfl⟩ := r; rfl
  | byt _ => obtain ⟨t, rfl⟩ := r; rfl
  | flt _ => obtain ⟨t, rfl⟩ := r; rfl
  | ref _ => cases r; rfl
  | ty _ => cases r; rfl
theorem RelV.inj {x y : V} {u : Value} (r : RelV x u) (q : RelV y u) : x = y := Option.some.inj (r.abs.symm.trans q.abs)
theorem Vals.inj : ∀ {xs ys : List V} {us : List Value}, Vals xs us → Vals ys us → xs = ys
  | _, _, _, .nil, .nil => rfl
  | _, _, _, .cons r t, .cons r' t' => by rw [r.inj r', Vals.inj t t']
section
variable {X : Cx} {pins : List (Addr × Obj)} {σ : St} {H : Hp} {s : Shared} {a : Addr} {xs ys : List V}
theorem SqL.of {K : PySem.W.Frag} (h : H a = some (.lst xs)) : SqL K H a xs := .inl (.inl h)
theorem SqT.of {K : PySem.W.Frag} (h : H a = some (.tup xs)) : SqT K H a xs := .inl (.inl h)
theorem Inv.list (I : Inv X pins σ H s) (h : SqL X.K H a xs) : ∃ its : List Value, Vals xs its ∧ PlainL s.heap a its.toArray ∧ xs.length ≤ sizeLine := by
  rcases h with h | ⟨o, its, n, hk, hc, hd, hs, hz, r⟩
  · obtain ⟨z, its, n, r, e⟩ := h.ok I.hok
    exact ⟨its, r, ⟨_, n, e, rfl, rfl, rfl⟩, z⟩
  · refine ⟨its.toList, r, ⟨o, n, I.kIn a o hk, hc, hd, by simpa using hs⟩, ?_⟩
    have e := r.length
    simp only [Array.length_toList] at e
    omega
theorem Inv.tuple (I : Inv X pins σ H s) (h : SqT X.K H a xs) : ∃ its : List Value, Vals xs its ∧ IsTup s.heap a its.toArray ∧ xs.length ≤ sizeLine := by
  rcases h with h | ⟨o, its, n, hk, hc, hs, hz, r⟩
  · obtain ⟨z, its, r, p⟩ := h.ok I.hok
    exact ⟨its, r, p, z⟩
  · refine ⟨its.toList, r, ⟨o, I.kIn a o hk, hc, n, by simpa using hs⟩, ?_⟩
    have e := r.length
    simp only [Array.length_toList] at e
    omega
theorem Inv.list_inj (I : Inv X pins σ H s) (h : SqL X.K H a xs) (h' : SqL X.K H a ys) : xs = ys := by
  obtain ⟨its, r, ⟨o, n, e, _, _, d⟩, _⟩ := I.list h
  obtain ⟨its', r', ⟨o', n', e', _, _, d'⟩, _⟩ := I.list h'
  rw [e] at e'; cases e'
  rw [d] at d'
  injection d' with d1 _
  have : its = its' := by simpa using congrArg Array.toList d1
  subst this
  exact r.inj r'
end

/-! ### another wish about exceptions -/
abbrev Cx.wish (X : Cx) (E : Value → Shared → Prop) : Cx := { X with xe := E }
/-- no exception leaves -/
abbrev Cx.nox (X : Cx) : Cx := X.wish fun _ _ => False
theorem Cx.Ok.wish {X : Cx} (ok : X.Ok) (E : Value → Shared → Prop) : (X.wish E).Ok :=
  ⟨ok.mod, ok.kind, ok.glob, ok.blt, ok.above, ok.inj, ok.has, ok.cab, ok.hd, ok.frames, ok.stk, ok.exf, ok.bs, ok.bsz, ok.noex, ok.exfs, ok.funs, ok.frf⟩
theorem Cx.Ok.unwish {X : Cx} {E : Value → Shared → Prop} (ok : (X.wish E).Ok) : X.Ok :=
  ⟨ok.mod, ok.kind, ok.glob, ok.blt, ok.above, ok.inj, ok.has, ok.cab, ok.hd, ok.frames, ok.stk, ok.exf, ok.bs, ok.bsz, ok.noex, ok.exfs, ok.funs, ok.frf⟩
section
variable {X : Cx} {pins : List (Addr × Obj)} {σ : St} {H : Hp} {s : Shared} {E : Value → Shared → Prop}
theorem Inv.wish (I : Inv X pins σ H s) (E : Value → Shared → Prop) : Inv (X.wish E) pins σ H s := ⟨I.ok.wish E, I.os, I.bare, I.base, I.loc, I.cell, I.free, I.freeC, I.pin, I.hok, I.len⟩
theorem Inv.unwish (I : Inv (X.wish E) pins σ H s) : Inv X pins σ H s := ⟨I.ok.unwish, I.os, I.bare, I.base, I.loc, I.cell, I.free, I.freeC, I.pin, I.hok, I.len⟩
theorem SP.unwish {D : Ends} {f : Flow} {s' : Shared} (h : SP (X.wish E) pins D f s') : SP X pins D f s' := by
  cases f with
  | next => obtain ⟨σ', H', I, q⟩ := h; exact ⟨σ', H', I.unwish, q⟩
  | brk => obtain ⟨σ', H', I, q⟩ := h; exact ⟨σ', H', I.unwish, q⟩
  | cont => obtain ⟨σ', H', I, q⟩ := h; exact ⟨σ', H', I.unwish, q⟩
  | ret u => obtain ⟨v, σ', H', I, r, q⟩ := h; exact ⟨v, σ', H', I.unwish, r, q⟩
theorem PE.nox {e : Expr} {t : TE} (h : PE X.nox e t) : PE X e t := fun pins s σ H Q I hw =>
  wpAny_mono (h pins s σ H Q (I.wish _) hw) (fun _ _ ⟨v, H', I', r, q⟩ => ⟨v, H', I'.unwish, r, q⟩) fun _ _ z => False.elim z
theorem PT.nox {e : Expr} {t : TT} (h : PT X.nox e t) : PT X e t := fun pins s σ H Q I hw =>
  wpAny_mono (h pins s σ H Q (I.wish _) hw) (fun _ _ ⟨H', I', q⟩ => ⟨H', I'.unwish, q⟩) fun _ _ z => False.elim z
theorem PSs.nox {st : List Stmt} {t : TS} (h : PSs X.nox st t) : PSs X st t := fun pins s σ H D I hw =>
  wpAny_mono (h pins s σ H D (I.wish _) hw) (fun _ _ q => q.unwish) fun _ _ z => False.elim z
end

/-! ### blocks and small statements -/
section
variable {X : Cx} {st : Stmt} {rest : List Stmt} {t u : TS} {e : Expr} {te : TE} {pos : Pos}
def tNext : TS := fun D σ H => D.nx σ H
def tSeq (t u : TS) : TS := fun D σ H => t { D with nx := u D } σ H
theorem pss_nil : PSs X [] tNext := fun _ _ σ H _ I h => wpAny_execs_nil ⟨σ, H, I, h⟩
theorem pss_cons (h1 : PS X st t) (h2 : PSs X rest u) : PSs X (st :: rest) (tSeq t u) := by
  intro pins s σ H D I h
  refine wpAny_execs_cons (thn (h1 pins s σ H { D with nx := u D } I h) fun f s1 q => ?_)
  cases f with
  | next =>
    obtain ⟨σ', H', I', q⟩ := q
    exact h2 pins s1 σ' H' D I' q
  | ret v => exact q
  | brk => exact q
  | cont => exact q
theorem pss_one (h1 : PS X st t) : PSs X [st] t := by
  intro pins s σ H D I h
  refine wpAny_execs_cons (thn (h1 pins s σ H D I h) fun f s1 q => ?_)
  cases f with
  | next => exact wpAny_execs_nil q
  | ret v => exact q
  | brk => exact q
  | cont => exact q
/-- in a def's body nothing is shown -/
theorem Inv.quiet {pins : List (Addr × Obj)} {σ : St} {H : Hp} {s : Shared} (I : Inv X pins σ H s) : interactive X.env = false := by simp [interactive, I.ok.kind]
/-- an expression whose value is dropped -/
def tDrop (te : TE) : TS := fun D σ H => te σ H fun _ H1 => D.nx σ H1
theorem ps_expr (he : PE X e te) (hs : swapsWith e none pos.line X.env = pure false := by rfl) : PS X (.Expr e pos) (tDrop te) := by
  intro pins s σ H D I h
  exact wpAny_Expr_any (thn (he pins s σ H _ I h) fun v s1 ⟨x, H1, I1, r1, q1⟩ => ⟨σ, H1, I1, q1⟩) I.quiet hs
def tRet (te : TE) : TS := fun D σ H => te σ H D.rt
theorem ps_ret (he : PE X e te) : PS X (.Return (some e) pos) (tRet te) := by
  intro pins s σ H D I h
  exact wpAny_Return_some (thn (he pins s σ H _ I h) fun v s1 ⟨x, H1, I1, r1, q1⟩ => ⟨x, σ, H1, I1, r1, q1⟩)
def tIfS (c : TT) (t u : TS) : TS := fun D σ H => c σ H fun b H1 => if b = true then t D σ H1 else u D σ H1
theorem ps_if {c : Expr} {a b : List Stmt} {tc : TT} (hc : PT X c tc) (ha : PSs X a t) (hb : PSs X b u) : PS X (.If c a b pos) (tIfS tc t u) := by
  intro pins s σ H D I h
  refine wpAny_If (thn (hc pins s σ H _ I h) fun d s1 ⟨H1, I1, q1⟩ => ?_)
  cases d with
  | true => exact ha pins s1 σ H1 D I1 q1
  | false => exact hb pins s1 σ H1 D I1 q1
/-- code that the proof never comes to -/
def tNever : TS := fun _ _ _ => False
theorem ps_never : PS X st tNever := fun _ _ _ _ _ _ h => h.elim
end

/-! ### targets -/
abbrev TG := V → St → Hp → (St → Hp → Prop) → Prop
abbrev TGs := List V → St → Hp → (St → Hp → Prop) → Prop
def PG (X : Cx) (target : Expr) (t : TG) : Prop :=
  ∀ (pins : List (Addr × Obj)) (s : Shared) (σ : St) (H : Hp) (v : V) (u : Value) (Q : St → Hp → Prop), Inv X pins σ H s → RelV v u → t v σ H Q →
    wpAny (model X.prog X.w) X.A (assign target X.env u) (fun _ s' => ∃ σ' H', Inv X pins σ' H' s' ∧ Q σ' H') X.xe s
/-- several targets, one after another -/
def PGs (X : Cx) (ts : List Expr) (t : TGs) : Prop :=
  ∀ (pins : List (Addr × Obj)) (s : Shared) (σ : St) (H : Hp) (vs : List V) (us : List Value) (Q : St → Hp → Prop), Inv X pins σ H s → Vals vs us → t vs σ H Q →
    wpAny (model X.prog X.w) X.A (assignInOrder ((assignEach ts X.env).map (·.2)) us) (fun _ s' => ∃ σ' H', Inv X pins σ' H' s' ∧ Q σ' H') X.xe s
/-- o[i] = v, by values -/
abbrev TSet := V → V → V → Hp → (Hp → Prop) → Prop
def PSet (X : Cx) (t : TSet) : Prop :=
  ∀ (pins : List (Addr × Obj)) (s : Shared) (σ : St) (H : Hp) (o i v : V) (ov iv u : Value) (Q : Hp → Prop), Inv X pins σ H s → RelV o ov → RelV i iv → RelV v u → t o i v H Q →
    wpAny (model X.prog X.w) X.A (setItem ov iv u) (fun _ s' => ∃ H', Inv X pins σ H' s' ∧ Q H') X.xe s
section
variable {X : Cx} {pos : Pos}
def gName (i : Nat) : TG := fun v σ H Q => Q (σ.set i (some v)) H
theorem pg_name {i : Nat} {x : Str} (hN : X.N.Nodup) (hi : X.N[i]? = some x) (hx : Loc X.env.scope x) (hf : X.fn x = true ∨ X.env.scope.names.lookup x = some .local := by first | exact .inl rfl | exact .inr rfl | assumption) : PG X (.Name x pos) (gName i) := by
  intro pins s σ H v u Q I r h
  exact wpAny_assign_Name (store_ok I hN hi hx r (fun s' I' => ⟨_, H, I', h⟩) hf)
def gNil : TGs := fun vs σ H Q => vs = [] ∧ Q σ H
def gCons (t : TG) (u : TGs) : TGs := fun vs σ H Q => ∃ v r, vs = v :: r ∧ t v σ H fun σ' H' => u r σ' H' Q
theorem pgs_nil : PGs X [] gNil := by
  intro pins s σ H vs us Q I r h
  obtain ⟨e, h⟩ := h
  subst e
  cases r
  exact assignInOrder_nil ⟨σ, H, I, h⟩
theorem pgs_cons {e : Expr} {es : List Expr} {t : TG} {u : TGs} (h1 : PG X e t) (h2 : PGs X es u)
    (hs : (assignEach (e :: es) X.env).map (·.2) = assign e X.env :: (assignEach es X.env).map (·.2) := by rfl) : PGs X (e :: es) (gCons t u) := by
  intro pins s σ H vs us Q I r h
  obtain ⟨v, vr, e1, h⟩ := h
  subst e1
  cases r with
  | cons r rr =>
    rw [hs]
    refine assignInOrder_cons (thn (h1 pins s σ H _ _ _ I r h) fun _ s1 ⟨σ1, H1, I1, q1⟩ => ?_)
    exact h2 pins s1 σ1 H1 _ _ Q I1 rr q1
/-- (a, b, ..) = a tuple of that length -/
def gTup (K : PySem.W.Frag) (n : Nat) (t : TGs) : TG := fun v σ H Q => ∃ a xs, v = .ref a ∧ SqT K H a xs ∧ xs.length = n ∧ t xs σ H Q
theorem pg_tup {es : List Expr} {k : Nat} {t : TGs} {n : Nat} (hc : X.calm = true) (h : PGs X es t)
    (hn : (assignEach es X.env).length = n := by rfl) (hst : (assignEach es X.env).findIdx? (·.1) = none := by rfl) : PG X (.Tuple es k pos) (gTup X.K n t) := by
  intro pins s σ H v u Q I r hw
  obtain ⟨a, xs, e1, hq, hl, hw⟩ := hw
  subst e1
  cases r
  obtain ⟨its, rv, ht, hz⟩ := I.tuple hq
  refine assign_Tuple_tuple (I.ok.hd hc) ht (by simp [hn, ← hl, rv.length]) hst fun h' hx => ?_
  have I1 : Inv X pins σ H { s with heap := h' } := I.kept (t' := s.toks) fun b o e => hx b o (Nat.ne_of_lt (Heap.lt_size e)) e
  exact h pins _ σ H xs _ Q I1 (by simpa using rv) hw
/-- o[i] = .. -/
def gSub (to ti : TE) (t : TSet) : TG := fun v σ H Q => to σ H fun o H1 => ti σ H1 fun i H2 => t o i v H2 fun H3 => Q σ H3
theorem pg_sub {o i : Expr} {to ti : TE} {t : TSet} (ho : PE X o to) (hi : PE X i ti) (hs : PSet X t)
    (ha : ∀ v, assign (.Subscript o i pos) X.env v = (do
      let ov ← holding [v] (eval o X.env)
      let iv ← holding [v, ov] (eval i X.env)
      standAt pos
      holding [v, ov, iv] (setItem ov iv v)
      release [v, ov, iv] []) := by intro _; rfl) : PG X (.Subscript o i pos) (gSub to ti t) := by
  intro pins s σ H v u Q I r h
  rw [ha]
  refine wpAny_bind (wpAny_holding (thn (ho pins s σ H _ I h) fun ov s1 ⟨x, H1, I1, r1, q1⟩ => ?_))
  refine wpAny_bind (wpAny_holding (thn (hi pins s1 σ H1 _ I1 q1) fun iv s2 ⟨y, H2, I2, r2, q2⟩ => ?_))
  refine wpAny_bind (wpAny_standAt (wpAny_bind (wpAny_holding (thn (hs pins s2 σ H2 x y v ov iv u _ I2 r1 r2 r q2) fun _ s3 ⟨H3, I3, q3⟩ => ?_))))
  exact wpAny_release ⟨σ, H3, I3, q3⟩
/-- target = value -/
def tAsg (te : TE) (g : TG) : TS := fun D σ H => te σ H fun x H1 => g x σ H1 D.nx
theorem ps_asg {tg e : Expr} {te : TE} {g : TG} (he : PE X e te) (hg : PG X tg g) (hs : swapsWithSole [tg] e pos.line X.env = pure false := by rfl) (hw : swappedStores [tg] e X.env = pure none := by rfl)
    (h1 : (assignEach [tg] X.env).map (·.2) = [assign tg X.env] := by rfl) : PS X (.Assign [tg] e pos) (tAsg te g) := by
  intro pins s σ H D I h
  refine wpAny_Assign_stores (thn (he pins s σ H _ I h) fun v s1 ⟨x, H1, I1, r1, q1⟩ => ?_) hs hw
  rw [h1]
  exact thn (hg pins s1 σ H1 x v _ I1 r1 q1) fun _ s2 q => q
/-- name = value -/
theorem ps_set {i : Nat} {x : Str} {e : Expr} {te : TE} {pos' : Pos} (hN : X.N.Nodup) (hi : X.N[i]? = some x) (hx : Loc X.env.scope x) (he : PE X e te) (hs : swapsWith e (some (.Name x pos')) pos.line X.env = pure false := by rfl) (hf : X.fn x = true ∨ X.env.scope.names.lookup x = some .local := by first | exact .inl rfl | exact .inr rfl | assumption) :
    PS X (.Assign [.Name x pos'] e pos) (tAsg te (gName i)) := by
  intro pins s σ H D I h
  refine wpAny_Assign_Name (thn (he pins s σ H _ I h) fun v s1 ⟨y, H1, I1, r1, q1⟩ => ?_) hs
  exact store_ok I1 hN hi hx r1 (fun s2 I2 => ⟨_, H1, I2, q1⟩) hf
end

/-! ### while -/
section
variable {X : Cx} {pos : Pos}
/-- the invariant W with its measure -/
def tWhile (c : TT) (tb : TS) : TS := fun D σ H => ∃ W : Nat → St → Hp → Prop, (∃ m, W m σ H) ∧ ∀ m σ H, W m σ H →
  c σ H fun b H1 => if b = true then ∃ N : St → Hp → Prop, (∀ σ' H', N σ' H' → ∃ m', m' < m ∧ W m' σ' H') ∧ tb { D with nx := N, ct := N, bk := D.nx } σ H1 else D.nx σ H1
theorem ps_while {c : Expr} {body : List Stmt} {tc : TT} {tb : TS} (hp : PassesOwn (model X.prog X.w) X.A X.env X.xe) (hc : PT X c tc) (hb : PSs X body tb) : PS X (.While c body [] pos) (tWhile tc tb) := by
  intro pins s σ H D I h
  obtain ⟨W, ⟨m0, w0⟩, turn⟩ := h
  refine wpAny_While (codeAny_whileLoop (fun n s' => ∃ σ' H', Inv X pins σ' H' s' ∧ W n σ' H') ?_ m0 ⟨σ, H, I, w0⟩)
  rintro n s1 ⟨σ1, H1, I1, w1⟩
  refine wpAny_passesOwn hp (thn (hc pins s1 σ1 H1 _ I1 (turn n σ1 H1 w1)) fun b s2 ⟨H2, I2, q2⟩ => ?_)
  cases b with
  | true =>
    obtain ⟨N, hN, q2⟩ := q2
    rw [if_pos rfl]
    refine wpAny_passesOwn hp (thn (hb pins s2 σ1 H2 _ I2 q2) fun f s3 q3 => ?_)
    cases f with
    | next =>
      obtain ⟨σ3, H3, I3, n3⟩ := q3
      obtain ⟨m', hm, w3⟩ := hN σ3 H3 n3
      exact ⟨m', hm, σ3, H3, I3, w3⟩
    | cont =>
      obtain ⟨σ3, H3, I3, n3⟩ := q3
      obtain ⟨m', hm, w3⟩ := hN σ3 H3 n3
      exact ⟨m', hm, σ3, H3, I3, w3⟩
    | brk => exact q3
    | ret v => exact q3
  | false =>
    rw [if_neg Bool.false_ne_true]
    exact wpAny_execs_nil ⟨σ1, H2, I2, q2⟩
end

/-! ### what a loop or a comprehension walks -/
/-- at turn i: it yields x (the heap may grow), or it stops -/
structure It where
  go : Nat → Hp → Prop
  yld : Nat → Hp → V → Hp → Prop
  stop : Nat → Hp → Prop
/-- the iterator's own objects may turn: they are not the frame's, not pinned, younger than the entry (or a comprehension's own) -/
def FpOk (X : Cx) (pins : List (Addr × Obj)) (H : Hp) (b : Addr) : Prop :=
  H b = none ∧ b ≠ X.env.locals ∧ b ∉ X.fs ∧ (b ∈ X.ex ∨ X.s₀.heap.objs.size ≤ b) ∧ (∀ x c, X.env.cells.lookup x = some c → c ≠ b) ∧ ∀ p ∈ X.pn ++ pins, p.1 ≠ b
theorem Inv.fpOk {X : Cx} {pins : List (Addr × Obj)} {σ : St} {H H' : Hp} {s : Shared} {b : Addr} (I : Inv X pins σ H s) (hb : s.heap.objs.size ≤ b) (hn : H' b = none) : FpOk X pins H' b := by
  refine ⟨hn, Nat.ne_of_gt (Nat.lt_of_lt_of_le I.lt hb), I.nofs hb, .inr (Nat.le_trans I.sz hb), fun x c e z => ?_, fun p hp z => ?_⟩
  · obtain ⟨v, q⟩ := I.cell x c e
    exact absurd (Nat.lt_of_lt_of_le q.lt (by rw [z]; exact hb)) (Nat.lt_irrefl _)
  · exact absurd (Nat.lt_of_lt_of_le (Heap.lt_size (I.pin p hp).1) (by rw [z]; exact hb)) (Nat.lt_irrefl _)
structure Turn (P : Program) (w : World) (K : PySem.W.Frag) (tg : Expr) (J : It) (fp : List Addr) (it : Addr) (tn : Nat → Heap → Prop) : Prop where
  mem : it ∈ fp
  obj : ∀ i h, tn i h → ∀ b ∈ fp, ∃ o, h.get? b = some o ∧ ∀ v, o.data ≠ .cell v
  keep : ∀ i h h', tn i h → (∀ b ∈ fp, ∀ o, h.get? b = some o → h'.get? b = some o) → tn i h'
  item : ∀ (X : Cx), X.prog = P → X.w = w → X.K = K → X.calm = true → ∀ (i : Nat) (pins : List (Addr × Obj)) (s : Shared) (σ : St) (H : Hp) (E : Value → Shared → Prop), Inv X pins σ H s → (∀ b ∈ fp, FpOk X pins H b) → tn i s.heap → J.go i H →
    wpAny (model P w) X.A (pyNext (.ref it)) (fun r s1 => ∃ u, r = some u ∧
      wpAny (model P w) X.A (letOwnedTupleGo tg (.ref it) u) (fun _ s2 => ∃ x H', Inv X pins σ H' s2 ∧ RelV x u ∧ J.yld i H x H' ∧ tn (i + 1) s2.heap ∧ ∀ b ∈ fp, H' b = none) E s1) E s
  done : ∀ (X : Cx), X.prog = P → X.w = w → X.K = K → X.calm = true → ∀ (i : Nat) (pins : List (Addr × Obj)) (s : Shared) (σ : St) (H : Hp) (E : Value → Shared → Prop), Inv X pins σ H s → (∀ b ∈ fp, FpOk X pins H b) → tn i s.heap → J.stop i H →
    wpAny (model P w) X.A (pyNext (.ref it)) (fun r s1 => r = none ∧ Inv X pins σ H s1) E s
  self : ∀ (A : Around) (i : Nat) (s : Shared) (Q : Value → Shared → Prop) (E : Value → Shared → Prop), tn i s.heap → Q (.ref it) s → wpAny (model P w) A (pyIter (.ref it)) Q E s
abbrev TI := St → Hp → (It → Hp → Prop) → Prop
/-- an iterator has come -/
def PIE (X : Cx) (pins : List (Addr × Obj)) (σ : St) (tg : Expr) (R : It → Hp → Prop) (itv : Value) (s2 : Shared) : Prop :=
  ∃ (it : Addr) (fp : List Addr) (tn : Nat → Heap → Prop) (J : It) (H' : Hp), itv = .ref it ∧ Inv X pins σ H' s2 ∧ Turn X.prog X.w X.K tg J fp it tn ∧ tn 0 s2.heap ∧ (∀ b ∈ fp, FpOk X pins H' b) ∧ R J H'
def PI (X : Cx) (tg iter : Expr) (wi : TI) : Prop :=
  ∀ (pins : List (Addr × Obj)) (s : Shared) (σ : St) (H : Hp) (R : It → Hp → Prop), Inv X pins σ H s → wi σ H R →
    wpAny (model X.prog X.w) X.A (eval iter X.env) (fun v s1 => wpAny (model X.prog X.w) X.A (pyIter v) (PIE X pins σ tg R) X.xe s1) X.xe s

/-- the step ahead of the store is nothing for an iterator that keeps no tuple -/
theorem go_of {M : Model} {A : Around} {E : Value → Shared → Prop} {s : Shared} {tg : Expr} {it : Addr} {u : Value} {o : Obj} {n : String} {vs : Array Value} {Q : Unit → Shared → Prop} (ho : s.heap.get? it = some o) (hc : o.cls = .type n) (hd : o.data = .fields vs)
    (hn : ["enumerate", "zip", "dict_itemiterator", "dict_reverseitemiterator", "odict_iterator", "itertools.zip_longest", "itertools.pairwise"].contains n = false) (hQ : Q () s) : wpAny M A (letOwnedTupleGo tg (.ref it) u) Q E s := by
  unfold letOwnedTupleGo
  cases tg <;> first
    | exact wpAny_pure hQ
    | (cases u <;> first
        | exact wpAny_pure hQ
        | (refine wpAny_bind (wpAny_load ho ?_)
           rw [hc, hd]
           show wpAny M A (if (["enumerate", "zip", "dict_itemiterator", "dict_reverseitemiterator", "odict_iterator", "itertools.zip_longest", "itertools.pairwise"].contains n && vs[0]? == some (rawInt _)) = true then _ else _) Q E s
           rw [if_neg (by intro h; rw [hn, Bool.false_and] at h; cases h)]
           exact wpAny_pure hQ))

/-- the list at a, as it stands at each turn (a loop may append to it) -/
def Itl (K : PySem.W.Frag) (a : Addr) : It :=
  ⟨fun i H => ∃ xs x, SqL K H a xs ∧ xs[i]? = some x, fun i H x H' => H' = H ∧ ∀ xs, SqL K H a xs → xs[i]? = some x, fun i H => ∃ xs, SqL K H a xs ∧ xs.length ≤ i⟩
/-- lo, lo + 1, .. (n of them) -/
def Itr (lo : Int) (n : Nat) : It := ⟨fun i _ => i < n, fun i H x H' => H' = H ∧ x = .int (lo + i), fun i _ => n ≤ i⟩
theorem turn_list {P : Program} {w : World} {K : PySem.W.Frag} {tg : Expr} (a it : Addr) : Turn P w K tg (Itl K a) [it] it (fun i h => h.IsListIter it a i) where
  mem := by simp
  obj := fun i h st b hb => by
    have e : b = it := by simpa using hb
    subst e
    obtain ⟨o, e, c, d⟩ := st
    exact ⟨o, e, fun v z => by rw [d] at z; cases z⟩
  keep := fun i h h' st k => st.at fun o e => k it (by simp) o e
  item := by
    intro X hP hw hK hc i pins s σ H E I hf st hg
    subst hP hw hK
    obtain ⟨xs, x, hq, hx⟩ := hg
    obtain ⟨its, rv, p, hz⟩ := I.list hq
    obtain ⟨u, hu, ru⟩ := rv.get hx
    obtain ⟨f0, f1, f2, f3, f4, f5⟩ := hf it (by simp)
    refine wpAny_pyNext_list_item st p.isList (x := u) (by simpa using hu) fun h' st' sb => ?_
    have I1 : Inv X pins σ H { s with heap := h' } := I.turned (t' := s.toks) (fun b o hb e => (sb.2 b hb).trans e) f0 f1 f3 f4 f5
    obtain ⟨o, e, c, d⟩ := id st'
    exact ⟨u, rfl, go_of (s := { s with heap := h' }) e c d (by decide) ⟨x, H, I1, ru, ⟨rfl, fun ys hy => by rw [I.list_inj hy hq]; exact hx⟩, st', fun b hb => (hf b hb).1⟩⟩
  done := by
    intro X hP hw hK hc i pins s σ H E I hf st hg
    subst hP hw hK
    obtain ⟨xs, hq, hx⟩ := hg
    obtain ⟨its, rv, p, hz⟩ := I.list hq
    obtain ⟨f0, f1, f2, f3, f4, f5⟩ := hf it (by simp)
    have hl := rv.length
    exact wpAny_pyNext_list_end (I.ok.hd hc) st p.isList (by simp; omega) fun h' eb => ⟨rfl, I.turned (t' := s.toks) (fun b o hb e => eb b o hb e) f0 f1 f3 f4 f5⟩
  self := fun _ _ _ _ _ st h => wpAny_pyIter_listiter st h
theorem turn_range {P : Program} {w : World} {K : PySem.W.Frag} {tg : Expr} (it : Addr) (lo : Int) (n : Nat) : Turn P w K tg (Itr lo n) [it] it (fun i h => IsRangeIter h it (lo + (i : Nat) * 1) ((n : Int) - (i : Nat)) 1) where
  mem := by simp
  obj := fun i h st b hb => by
    have e : b = it := by simpa using hb
    subst e
    exact ⟨_, st, fun v z => by
      have z' : Data.fields _ = Data.cell v := z
      cases z'⟩
  keep := fun i h h' st k => k it (by simp) _ st
  item := by
    intro X hP hw hK hc i pins s σ H E I hf st hg
    subst hP hw hK
    obtain ⟨f0, f1, f2, f3, f4, f5⟩ := hf it (by simp)
    have W := Walks.range (prog := X.prog) (w := X.w) (I.ok.hd hc) it lo 1 n
    refine W.item i s _ _ hg st fun v h' tk hv st' kk => ?_
    obtain ⟨t, rfl⟩ := hv
    have I1 : Inv X pins σ H { s with heap := h', toks := tk } := I.turned (fun b o hb e => kk b o (by simpa using hb) e) f0 f1 f3 f4 f5
    refine ⟨_, rfl, go_of (s := { s with heap := h', toks := tk }) (n := "range_iterator") st' rfl rfl (by decide) ⟨.int (lo + i), H, I1, ⟨t, ?_⟩, ⟨rfl, rfl⟩, st', fun b hb => (hf b hb).1⟩⟩
    rw [Int.mul_one]
  done := by
    intro X hP hw hK hc i pins s σ H E I hf st hg
    subst hP hw hK
    obtain ⟨f0, f1, f2, f3, f4, f5⟩ := hf it (by simp)
    exact wpAny_pyNext_range_end (I.ok.hd hc) st (by have : n ≤ i := hg; omega) fun h' eb => ⟨rfl, I.turned (t' := s.toks) (fun b o hb e => eb b o hb e) f0 f1 f3 f4 f5⟩
  self := fun _ _ _ _ _ st h => wpAny_pyIter_rangeiter st h
end L2

namespace L2
open PySem PySem.Spec PyProof.Rows
section
variable {X : Cx} {tg : Expr}
def iList (K : PySem.W.Frag) (tl : TE) : TI := fun σ H R => tl σ H fun x H1 => ∃ a, x = .ref a ∧ (∃ xs, SqL K H1 a xs) ∧ R (Itl K a) H1
theorem pi_list {l : Expr} {tl : TE} (hl : PE X l tl) : PI X tg l (iList X.K tl) := by
  intro pins s σ H R I h
  refine thn (hl pins s σ H _ I h) fun v s1 ⟨x, H1, I1, r1, q1⟩ => ?_
  obtain ⟨a, e, ⟨xs, hq⟩, q⟩ := q1
  subst e
  cases r1
  obtain ⟨its, rv, p, hz⟩ := I1.list hq
  refine wpAny_pyIter_list p.isList ?_
  refine ⟨s1.heap.objs.size, [s1.heap.objs.size], _, _, H1, rfl, I1.kept (t' := s1.toks) fun b o e => Heap.get?_push_of_some _ e, turn_list a _, ⟨_, Heap.get?_push_size _ rfl, rfl, rfl⟩, fun b hb => ?_, q⟩
  have e : b = s1.heap.objs.size := by simpa using hb
  subst e
  exact I1.fpOk (Nat.le_refl _) (I1.hok.fresh (Nat.le_refl _))
/-- a range object just made, walked -/
theorem range_it {pins : List (Addr × Obj)} {σ : St} {H : Hp} {s : Shared} {R : It → Hp → Prop} {E : Value → Shared → Prop} {lo hi : Int} {t u v : Tok} {tk : Nat} (I : Inv X pins σ H s) (h1 : -(2 ^ 62) ≤ lo) (h2 : lo < 2 ^ 62) (h3 : -(2 ^ 62) ≤ hi) (h4 : hi < 2 ^ 62)
    (q : R (Itr lo (hi - lo).toNat) H) : wpAny (model X.prog X.w) X.A (pyIter (.ref s.heap.objs.size)) (PIE X pins σ tg R) E { s with heap := s.heap.push { cls := .type "range", data := .fields #[.int lo t, .int hi u, .int 1 v] }, toks := tk } := by
  refine wpAny_pyIter_range (IsRange.new ..) (small_one h1 h2 h3 h4) ?_
  have I1 : Inv X pins σ H { s with heap := s.heap.push { cls := .type "range", data := .fields #[.int lo t, .int hi u, .int 1 v] }, toks := tk } := I.kept fun b o e => Heap.get?_push_of_some _ e
  refine ⟨(s.heap.push { cls := .type "range", data := .fields #[.int lo t, .int hi u, .int 1 v] }).objs.size, [(s.heap.push { cls := .type "range", data := .fields #[.int lo t, .int hi u, .int 1 v] }).objs.size], _, _, H, rfl,
    I1.kept (t' := tk) fun b o e => Heap.get?_push_of_some _ e, turn_range _ lo (hi - lo).toNat, ?_, fun b hb => ?_, q⟩
  · have e1 : lo + ((0 : Nat) : Int) * 1 = lo := by simp
    have e2 : (((hi - lo).toNat : Nat) : Int) - ((0 : Nat) : Int) = Builtin.Range.rangeSize lo hi 1 := by rw [rangeSize_one]; split <;> omega
    show IsRangeIter _ _ (lo + ((0 : Nat) : Int) * 1) ((((hi - lo).toNat : Nat) : Int) - ((0 : Nat) : Int)) 1
    rw [e1, e2]
    exact Heap.get?_push_size _ rfl
  · have e : b = (s.heap.push { cls := .type "range", data := .fields #[.int lo t, .int hi u, .int 1 v] }).objs.size := by simpa using hb
    subst e
    exact I1.fpOk (Nat.le_refl _) (I1.hok.fresh (Nat.le_refl _))
def iRng1 (ta : TA) : TI := fun σ H R => ta σ H fun vs H1 => ∃ j : Int, vs = [.int j] ∧ -(2 ^ 62) ≤ j ∧ j < 2 ^ 62 ∧ R (Itr 0 j.toNat) H1
def iRng2 (ta : TA) : TI := fun σ H R => ta σ H fun vs H1 => ∃ i j : Int, vs = [.int i, .int j] ∧ (-(2 ^ 62) ≤ i ∧ i < 2 ^ 62 ∧ -(2 ^ 62) ≤ j ∧ j < 2 ^ 62) ∧ R (Itr i (j - i).toNat) H1
theorem pi_range1 {a : Expr} {ta : TA} {p pos : Pos} (hg : Gl X "range") (hm : X.mg "range" = none) (ha : PA X [a] ta) (hs : starEach [a] X.env = [(false, eval a X.env)] := by rfl) : PI X tg (.Call (.Name "range" p) [a] [] pos) (iRng1 ta) := by
  intro pins s σ H R I h
  refine Call_ (ld_blt I hg hm boot_range (PyProof.Rows.callWith_type1 (thn (ha pos pins s σ H _ I h) fun us s1 ⟨vs, H1, I1, r1, q1⟩ => ?_) hs rfl))
  obtain ⟨j, e, q1, q2, q⟩ := q1
  subst e
  cases r1 with
  | cons r rr =>
    cases rr
    obtain ⟨t, rfl⟩ := r
    exact call_range_1 (range_it I1 (by omega) (by omega) q1 q2 (by simpa using q))
theorem pi_range2 {a b : Expr} {ta : TA} {p pos : Pos} (hg : Gl X "range") (hm : X.mg "range" = none) (ha : PA X [a, b] ta) (hs : starEach [a, b] X.env = [(false, eval a X.env), (false, eval b X.env)] := by rfl) (hs2 : starEach [b] X.env = [(false, eval b X.env)] := by rfl) :
    PI X tg (.Call (.Name "range" p) [a, b] [] pos) (iRng2 ta) := by
  intro pins s σ H R I h
  refine Call_ (ld_blt I hg hm boot_range (PyProof.Rows.callWith_type1 (thn (ha pos pins s σ H _ I h) fun us s1 ⟨vs, H1, I1, r1, q1⟩ => ?_) (by rw [hs, hs2]) (by rw [hs2]; rfl)))
  obtain ⟨i, j, e, ⟨q1, q2, q3, q4⟩, q⟩ := q1
  subst e
  cases r1 with
  | cons r rr =>
    cases rr with
    | cons r' rr =>
      cases rr
      obtain ⟨t, rfl⟩ := r
      obtain ⟨t', rfl⟩ := r'
      exact call_range_2 (range_it I1 q1 q2 q3 q4 q)

/-! ### for -/
/-- W: the invariant by the turn and a measure; N: what the body is to reach -/
def tFor (wi : TI) (g : TG) (tb : TS) : TS := fun D σ H => wi σ H fun J H1 => ∃ W : Nat → Nat → St → Hp → Prop, (∃ m, W 0 m σ H1) ∧ ∀ i m σ H, W i m σ H →
  (J.stop i H ∧ D.nx σ H) ∨ (J.go i H ∧ ∃ N : St → Hp → Prop, (∀ σ' H', N σ' H' → ∃ m', m' < m ∧ W (i + 1) m' σ' H') ∧ ∀ x H', J.yld i H x H' → g x σ H' fun σ2 H2 => tb { D with nx := N, ct := N, bk := D.nx } σ2 H2)
/-- the records at fp as they stand -/
def pinsAt (fp : List Addr) (h : Heap) : List (Addr × Obj) := fp.filterMap fun b => (h.get? b).map fun o => (b, o)
theorem mem_pinsAt {fp : List Addr} {h : Heap} {b : Addr} {o : Obj} (hb : b ∈ fp) (e : h.get? b = some o) : (b, o) ∈ pinsAt fp h := List.mem_filterMap.mpr ⟨b, hb, by rw [e]; rfl⟩
theorem of_pinsAt {fp : List Addr} {h : Heap} {p : Addr × Obj} (hp : p ∈ pinsAt fp h) : p.1 ∈ fp ∧ h.get? p.1 = some p.2 := by
  obtain ⟨b, hb, e⟩ := List.mem_filterMap.mp hp
  cases q : h.get? b with
  | none => rw [q] at e; cases e
  | some o =>
    rw [q] at e
    have e' : (b, o) = p := Option.some.inj e
    subst e'
    exact ⟨hb, q⟩
theorem Inv.pinned {pins : List (Addr × Obj)} {σ : St} {H : Hp} {s : Shared} {fp : List Addr} (I : Inv X pins σ H s) (hf : ∀ b ∈ fp, FpOk X pins H b) (ho : ∀ b ∈ fp, ∃ o, s.heap.get? b = some o ∧ ∀ v, o.data ≠ .cell v) : Inv X (pins ++ pinsAt fp s.heap) σ H s :=
  I.pins_of fun p hp => (List.mem_append.mp hp).elim (fun z => I.pin p (List.mem_append_right _ z)) fun z => by
    obtain ⟨hb, e⟩ := of_pinsAt z
    obtain ⟨f0, f1, f2, _⟩ := hf p.1 hb
    obtain ⟨o, e', d⟩ := ho p.1 hb
    rw [e] at e'; cases e'
    exact ⟨e, f0, f1, f2, d⟩
theorem Inv.unpinned {pins pl : List (Addr × Obj)} {σ : St} {H : Hp} {s : Shared} (I : Inv X (pins ++ pl) σ H s) : Inv X pins σ H s := I.pins_of fun p hp => I.pin p (List.mem_append_right _ (List.mem_append_left _ hp))
theorem ps_for {iter : Expr} {body : List Stmt} {wi : TI} {g : TG} {tb : TS} {pos : Pos} (hp : PassesOwn (model X.prog X.w) X.A X.env X.xe) (hc : X.calm = true) (hi : PI X tg iter wi) (hg : PG X tg g) (hb : PSs X body tb)
    (hs : ∀ x, foldedSetIterable iter X.env x = pure x := by intro _; rfl) : PS X (.For tg iter body [] pos) (tFor wi g tb) := by
  intro pins s σ H D I h
  refine wpAny_For (thn (hi pins s σ H _ I h) fun v s1 h1 => thn h1 fun itv s2 h2 => ?_) hs
  obtain ⟨it, fp, tn, J, H2, e, I2, T, st2, f2, W, ⟨m0, w0⟩, turn⟩ := h2
  subst e
  -- what stays true of the iterator's objects through the loop
  have stat : ∀ {H' : Hp}, (∀ b ∈ fp, H' b = none) → ∀ b ∈ fp, FpOk X pins H' b := fun hn b hb => ⟨hn b hb, (f2 b hb).2⟩
  refine codeAny_forLoop_any (fun n s' => ∃ i σ' H', Inv X pins σ' H' s' ∧ tn i s'.heap ∧ (∀ b ∈ fp, H' b = none) ∧ W i n σ' H') ?_ m0 ⟨0, σ, H2, I2, st2, fun b hb => (f2 b hb).1, w0⟩
  rintro n s3 ⟨i, σ3, H3, I3, st3, fr3, w3⟩
  rcases turn i n σ3 H3 w3 with ⟨stop, qn⟩ | ⟨go, N, hN, step⟩
  · refine wpAny_passesOwn hp (thn (T.done X rfl rfl rfl hc i pins s3 σ3 H3 X.xe I3 (stat fr3) st3 stop) fun r s4 ⟨hr, I4⟩ => ?_)
    subst hr
    exact wpAny_execs_nil ⟨σ3, H3, I4, qn⟩
  · refine wpAny_passesOwn hp (thn (T.item X rfl rfl rfl hc i pins s3 σ3 H3 X.xe I3 (stat fr3) st3 go) fun r s4 ⟨u, hr, h4⟩ => ?_)
    subst hr
    refine wpAny_passesOwn hp (thn h4 fun _ s5 ⟨x, H5, I5, r5, y5, st5, fr5⟩ => ?_)
    have I5' := I5.pinned (stat fr5) (T.obj _ _ st5)
    refine wpAny_passesOwn hp (thn (hg _ s5 σ3 H5 x u _ I5' r5 (step x H5 y5)) fun _ s6 ⟨σ6, H6, I6, q6⟩ => ?_)
    refine wpAny_passesOwn hp (thn (hb _ s6 σ6 H6 _ I6 q6) fun f s7 q7 => ?_)
    have again : ∀ {σ7 : St} {H7 : Hp}, Inv X (pins ++ pinsAt fp s5.heap) σ7 H7 s7 → N σ7 H7 → ∃ m, m < n ∧ ∃ i σ' H', Inv X pins σ' H' s7 ∧ tn i s7.heap ∧ (∀ b ∈ fp, H' b = none) ∧ W i m σ' H' := fun {σ7 H7} I7 n7 => by
      obtain ⟨m', hm, w7⟩ := hN σ7 H7 n7
      refine ⟨m', hm, i + 1, σ7, H7, I7.unpinned, T.keep _ _ _ st5 fun b hb o e => (I7.pin (b, o) (List.mem_append_right _ (List.mem_append_right _ (mem_pinsAt hb e)))).1, fun b hb => ?_, w7⟩
      obtain ⟨o, e, d⟩ := T.obj _ _ st5 b hb
      exact (I7.pin (b, o) (List.mem_append_right _ (List.mem_append_right _ (mem_pinsAt hb e)))).2.1
    cases f with
    | next => obtain ⟨σ7, H7, I7, n7⟩ := q7; exact again I7 n7
    | cont => obtain ⟨σ7, H7, I7, n7⟩ := q7; exact again I7 n7
    | brk => obtain ⟨σ7, H7, I7, q7⟩ := q7; exact ⟨σ7, H7, I7.unpinned, q7⟩
    | ret v => obtain ⟨x7, σ7, H7, I7, r7, q7⟩ := q7; exact ⟨x7, σ7, H7, I7.unpinned, r7, q7⟩
end

/-! ### the forms one uses -/
/-- over a list that the body leaves as it is -/
theorem for_list {K : PySem.W.Frag} {a : Addr} {xs : List V} {g : TG} {tb : TS} {D : Ends} {σ : St} {H : Hp} (Pv : Nat → St → Hp → Prop) (h0 : Pv 0 σ H) (hl : ∀ i σ H, i ≤ xs.length → Pv i σ H → SqL K H a xs)
    (hs : ∀ i x σ H, xs[i]? = some x → Pv i σ H → g x σ H fun σ2 H2 => tb { D with nx := Pv (i + 1), ct := Pv (i + 1), bk := D.nx } σ2 H2) (hd : ∀ σ H, Pv xs.length σ H → D.nx σ H) :
    ∃ W : Nat → Nat → St → Hp → Prop, (∃ m, W 0 m σ H) ∧ ∀ i m σ H, W i m σ H →
      ((Itl K a).stop i H ∧ D.nx σ H) ∨ ((Itl K a).go i H ∧ ∃ N : St → Hp → Prop, (∀ σ' H', N σ' H' → ∃ m', m' < m ∧ W (i + 1) m' σ' H') ∧ ∀ x H', (Itl K a).yld i H x H' → g x σ H' fun σ2 H2 => tb { D with nx := N, ct := N, bk := D.nx } σ2 H2) := by
  refine ⟨fun i m σ H => m = xs.length - i ∧ i ≤ xs.length ∧ Pv i σ H, ⟨xs.length, by simp, Nat.zero_le _, h0⟩, ?_⟩
  rintro i m σ H ⟨rfl, hi, p⟩
  have q := hl i σ H hi p
  by_cases hlt : i < xs.length
  · refine .inr ⟨⟨xs, xs[i], q, by simp [hlt]⟩, Pv (i + 1), fun σ' H' p' => ⟨xs.length - (i + 1), by omega, rfl, hlt, p'⟩, fun x H' y => ?_⟩
    obtain ⟨e, y⟩ := y
    subst e
    exact hs i x σ _ (y xs q) p
  · have e : i = xs.length := by omega
    subst e
    exact .inl ⟨⟨xs, q, Nat.le_refl _⟩, hd σ H p⟩
theorem for_range {lo : Int} {n : Nat} {g : TG} {tb : TS} {D : Ends} {σ : St} {H : Hp} (Pv : Nat → St → Hp → Prop) (h0 : Pv 0 σ H)
    (hs : ∀ i σ H, i < n → Pv i σ H → g (.int (lo + i)) σ H fun σ2 H2 => tb { D with nx := Pv (i + 1), ct := Pv (i + 1), bk := D.nx } σ2 H2) (hd : ∀ σ H, Pv n σ H → D.nx σ H) :
    ∃ W : Nat → Nat → St → Hp → Prop, (∃ m, W 0 m σ H) ∧ ∀ i m σ H, W i m σ H →
      ((Itr lo n).stop i H ∧ D.nx σ H) ∨ ((Itr lo n).go i H ∧ ∃ N : St → Hp → Prop, (∀ σ' H', N σ' H' → ∃ m', m' < m ∧ W (i + 1) m' σ' H') ∧ ∀ x H', (Itr lo n).yld i H x H' → g x σ H' fun σ2 H2 => tb { D with nx := N, ct := N, bk := D.nx } σ2 H2) := by
  refine ⟨fun i m σ H => m = n - i ∧ i ≤ n ∧ Pv i σ H, ⟨n, by simp, Nat.zero_le _, h0⟩, ?_⟩
  rintro i m σ H ⟨rfl, hi, p⟩
  by_cases hlt : i < n
  · refine .inr ⟨hlt, Pv (i + 1), fun σ' H' p' => ⟨n - (i + 1), by omega, rfl, hlt, p'⟩, fun x H' y => ?_⟩
    obtain ⟨e, y⟩ := y
    subst e y
    exact hs i σ _ hlt p
  · have e : i = n := by omega
    subst e
    exact .inl ⟨Nat.le_refl _, hd σ H p⟩
/-- while, by a word and a measure of the state -/
theorem while_by {c : TT} {tb : TS} {D : Ends} {σ : St} {H : Hp} (Pv : St → Hp → Prop) (μ : St → Hp → Nat) (h0 : Pv σ H)
    (hs : ∀ σ H, Pv σ H → c σ H fun b H1 => if b = true then tb { D with nx := fun σ' H' => Pv σ' H' ∧ μ σ' H' < μ σ H, ct := fun σ' H' => Pv σ' H' ∧ μ σ' H' < μ σ H, bk := D.nx } σ H1 else D.nx σ H1)
    (mono : ∀ σ H Q Q', (∀ b H1, Q b H1 → Q' b H1) → c σ H Q → c σ H Q') : tWhile c tb D σ H := by
  refine ⟨fun m σ H => m = μ σ H ∧ Pv σ H, ⟨_, rfl, h0⟩, ?_⟩
  rintro m σ H ⟨rfl, p⟩
  refine mono σ H _ _ (fun b H1 q => ?_) (hs σ H p)
  cases b with
  | true => exact ⟨_, fun σ' H' ⟨p', l⟩ => ⟨_, l, rfl, p'⟩, q⟩
  | false => exact q
end L2

namespace L2
open PySem PySem.Spec PyProof.Rows

abbrev R2 := V → V → Hp → VK → Prop
/-- a two-place operation on values: f is binaryOp op, inplaceOp op or compareOp op -/
def OpR (X : Cx) (f : Value → Value → Sem Value) (r : R2) : Prop :=
  ∀ (pins : List (Addr × Obj)) (s : Shared) (σ : St) (H : Hp) (x y : V) (v u : Value) (Q : VK), Inv X pins σ H s → RelV x v → RelV y u → r x y H Q →
    wpAny (model X.prog X.w) X.A (f v u) (EP X pins σ Q) X.xe s
/-- a call of a value that is known (a builtin, a type) with values -/
def CallR (X : Cx) (f : Value) (r : List V → Hp → VK → Prop) : Prop :=
  ∀ (pins : List (Addr × Obj)) (s : Shared) (σ : St) (H : Hp) (xs : List V) (us : List Value) (Q : VK), Inv X pins σ H s → Vals xs us → r xs H Q →
    wpAny (model X.prog X.w) X.A (call f us) (EP X pins σ Q) X.xe s
/-- a value's truth -/
def TruR (X : Cx) (r : V → Hp → (Bool → Hp → Prop) → Prop) : Prop :=
  ∀ (pins : List (Addr × Obj)) (s : Shared) (σ : St) (H : Hp) (x : V) (v : Value) (Q : Bool → Hp → Prop), Inv X pins σ H s → RelV x v → r x H Q →
    wpAny (model X.prog X.w) X.A (truthy v) (TP X pins σ Q) X.xe s

def tOp (r : R2) (ta tb : TE) : TE := fun σ H Q => ta σ H fun x H1 => tb σ H1 fun y H2 => r x y H2 Q
/-- ints in, under C, and a value out -/
def rI (C : Int → Int → Prop) (g : Int → Int → V) : R2 := fun x y H Q => ∃ i j, x = .int i ∧ y = .int j ∧ C i j ∧ Q (g i j) H
def rI0 (g : Int → Int → V) : R2 := fun x y H Q => ∃ i j, x = .int i ∧ y = .int j ∧ Q (g i j) H

section
variable {X : Cx} {a b c : Expr} {ta tb tc : TE} {pos : Pos}

theorem binT (ha : PE X a ta) (hb : PE X b tb) {pins : List (Addr × Obj)} {s : Shared} {σ : St} {H : Hp} {R : V → V → Hp → Prop} (I : Inv X pins σ H s)
    (h : ta σ H fun x H1 => tb σ H1 fun y H2 => R x y H2) {Q : Value → Shared → Prop} {f : Value → Value → Sem Value}
    (hf : ∀ v u s2 x y H2, Inv X pins σ H2 s2 → RelV x v → RelV y u → R x y H2 → wpAny (model X.prog X.w) X.A (f v u) Q X.xe s2) :
    wpAny (model X.prog X.w) X.A (eval a X.env) (fun v s₁ => wpAny (model X.prog X.w) X.A (eval b X.env) (fun u s₂ => wpAny (model X.prog X.w) X.A (f v u) Q X.xe s₂) X.xe s₁) X.xe s := by
  refine thn (ha pins s σ H _ I h) fun v s1 ⟨x, H1, I1, r1, q1⟩ => ?_
  refine thn (hb pins s1 σ H1 _ I1 q1) fun u s2 ⟨y, H2, I2, r2, q2⟩ => ?_
  exact hf v u s2 x y H2 I2 r1 r2 q2

theorem pe_op {op : Operator} {r : R2} (ho : OpR X (binaryOp op) r) (ha : PE X a ta) (hb : PE X b tb) : PE X (.BinOp a op b pos) (tOp r ta tb) := by
  intro pins s σ H Q I h
  exact wpAny_BinOp (binT ha hb I h fun v u s2 x y H2 I2 rx ry q => ho pins s2 σ H2 x y v u Q I2 rx ry q)

/-! ### ints -/
theorem opI {f : Value → Value → Sem Value} {C : Int → Int → Prop} {g : Int → Int → Int}
    (rule : ∀ (i j : Int) (t u : Tok) (s : Shared) (Q : Value → Shared → Prop) (E : Value → Shared → Prop), C i j → Q (.int (g i j) s.toks) { s with toks := s.toks + 1 } → wpAny (model X.prog X.w) X.A (f (.int i t) (.int j u)) Q E s) :
    OpR X f (rI C fun i j => .int (g i j)) := by
  intro pins s σ H x y v u Q I rx ry h
  obtain ⟨i, j, rfl, rfl, hc, q⟩ := h
  obtain ⟨t, rfl⟩ := rx
  obtain ⟨t', rfl⟩ := ry
  exact rule i j t t' s _ _ hc ⟨.int (g i j), H, I.tok _, ⟨_, rfl⟩, q⟩
theorem opI0 {f : Value → Value → Sem Value} {g : Int → Int → Int}
    (rule : ∀ (i j : Int) (t u : Tok) (s : Shared) (Q : Value → Shared → Prop) (E : Value → Shared → Prop), Q (.int (g i j) s.toks) { s with toks := s.toks + 1 } → wpAny (model X.prog X.w) X.A (f (.int i t) (.int j u)) Q E s) :
    OpR X f (rI0 fun i j => .int (g i j)) := by
  intro pins s σ H x y v u Q I rx ry h
  obtain ⟨i, j, rfl, rfl, q⟩ := h
  obtain ⟨t, rfl⟩ := rx
  obtain ⟨t', rfl⟩ := ry
  exact rule i j t t' s _ _ ⟨.int (g i j), H, I.tok _, ⟨_, rfl⟩, q⟩
theorem opB0 {f : Value → Value → Sem Value} {g : Int → Int → Bool}
    (rule : ∀ (i j : Int) (t u : Tok) (s : Shared) (Q : Value → Shared → Prop) (E : Value → Shared → Prop), Q (.bool (g i j)) s → wpAny (model X.prog X.w) X.A (f (.int i t) (.int j u)) Q E s) :
    OpR X f (rI0 fun i j => .bl (g i j)) := by
  intro pins s σ H x y v u Q I rx ry h
  obtain ⟨i, j, rfl, rfl, q⟩ := h
  obtain ⟨t, rfl⟩ := rx
  obtain ⟨t', rfl⟩ := ry
  exact rule i j t t' s _ _ ⟨.bl (g i j), H, I, rfl, q⟩

def CPow (i j : Int) : Prop := 0 ≤ j ∧ j ≤ 1000000 ∧ i.natAbs < 2 ^ 64
def CMul (i j : Int) : Prop := (-(2 ^ 64) < i ∧ i < 2 ^ 64) ∨ (-(2 ^ 64) < j ∧ j < 2 ^ 64)
theorem CMul.ok {i j : Int} (h : CMul i j) : IntMulOk i j := by
  rcases h with ⟨h1, h2⟩ | ⟨h1, h2⟩
  · exact .of_left (intBits_le_64 h1 h2)
  · exact .of_right (intBits_le_64 h1 h2)

theorem op_add : OpR X (binaryOp .Add) (rI0 fun i j => .int (i + j)) := opI0 fun _ _ _ _ _ _ _ q => add_int q
theorem op_sub : OpR X (binaryOp .Sub) (rI0 fun i j => .int (i - j)) := opI0 fun _ _ _ _ _ _ _ q => sub_int q
theorem op_mul : OpR X (binaryOp .Mult) (rI CMul fun i j => .int (i * j)) := opI fun _ _ _ _ _ _ _ hc q => mul_int q hc.ok
/-- % by a positive divisor of any size -/
theorem op_mod : OpR X (binaryOp .Mod) (rI (fun _ j => 0 < j) fun i j => .int (i % j)) := opI fun i j _ _ _ _ _ hc q => by
  have h1 : (0 : Int) < j := hc
  exact mod_int' (by omega) (by rw [Int.fmod_eq_emod_of_nonneg i (by omega)]; exact q)
theorem op_pow : OpR X (binaryOp .Pow) (rI CPow fun i j => .int (i ^ j.toNat)) := opI fun _ _ _ _ _ _ _ hc q => pow_int_small hc.1 hc.2.1 hc.2.2 q



/-! ### bools among ints: n += (a < b) -/
end

/-! ### comparisons -/
/-- the scalars that == tells apart as data does -/
def scal : V → V → Bool
  | .non, .non => true | .non, .int _ => true | .int _, .non => true | .non, .bl _ => true | .bl _, .non => true | .non, .str _ => true | .str _, .non => true
  | .int _, .int _ => true | .bl _, .bl _ => true | .str _, .str _ => true | .byt _, .byt _ => true
  | .int _, .str _ => true | .str _, .int _ => true | .bl _, .str _ => true | .str _, .bl _ => true
  | _, _ => false
def rEq : R2 := fun x y H Q => scal x y = true ∧ Q (.bl (decide (x = y))) H

theorem dec_int {i j : Int} : decide (V.int i = V.int j) = (i == j) := by
  rw [Bool.eq_iff_iff]
  simp
theorem dec_bl {i j : Bool} : decide (V.bl i = V.bl j) = (i == j) := by
  rw [Bool.eq_iff_iff]
  simp
theorem dec_str {i j : Str} : decide (V.str i = V.str j) = (i == j) := by
  rw [Bool.eq_iff_iff]
  simp
theorem dec_byt {i j : Array UInt8} : decide (V.byt i = V.byt j) = (i.toList == j.toList) := by
  rw [Bool.eq_iff_iff]
  cases i
  cases j
  simp

section
variable {X : Cx} {a b c : Expr} {ta tb tc : TE} {pos : Pos}
theorem fin_bl {pins : List (Addr × Obj)} {σ : St} {H : Hp} {s : Shared} {Q : VK} {k k' : Bool} (I : Inv X pins σ H s) (q : Q (.bl k) H) (e : k = k') : EP X pins σ Q (.bool k') s := by
  subst e
  exact ⟨.bl k, H, I, rfl, q⟩
theorem op_eq : OpR X (compareOp .Eq) rEq := by
  intro pins s σ H x y v u Q I rx ry h
  obtain ⟨hs, q⟩ := h
  cases x with
  | non =>
    cases rx
    cases y with
    | non => cases ry; exact PySem.EqNone.eq_none_none (fin_bl I q (by simp))
    | bl j => cases ry; exact PySem.EqNone.eq_none_bool (fin_bl I q (by simp))
    | int j => obtain ⟨t', rfl⟩ := ry; exact PySem.EqNone.eq_none_int (fin_bl I q (by simp))
    | str j => obtain ⟨t', rfl⟩ := ry; exact PySem.EqNone.eq_none_str (fin_bl I q (by simp))
    | _ => exact absurd (show false = true from hs) Bool.false_ne_true
  | bl i =>
    cases rx
    cases y with
    | non => cases ry; exact PySem.EqNone.eq_bool_none (fin_bl I q (by simp))
    | bl j => cases ry; exact eq_bool (fin_bl I q dec_bl)
    | str j => obtain ⟨t', rfl⟩ := ry; exact PySem.EqMixed.eq_bool_str (fin_bl I q (by simp))
    | _ => exact absurd (show false = true from hs) Bool.false_ne_true
  | int i =>
    obtain ⟨t, rfl⟩ := rx
    cases y with
    | non => cases ry; exact PySem.EqNone.eq_int_none (fin_bl I q (by simp))
    | int j => obtain ⟨t', rfl⟩ := ry; exact eq_int (fin_bl I q dec_int)
    | str j => obtain ⟨t', rfl⟩ := ry; exact PySem.EqMixed.eq_int_str (fin_bl I q (by simp))
    | _ => exact absurd (show false = true from hs) Bool.false_ne_true
  | str i =>
    obtain ⟨t, rfl⟩ := rx
    cases y with
    | non => cases ry; exact PySem.EqNone.eq_str_none (fin_bl I q (by simp))
    | bl j => cases ry; exact PySem.EqMixed.eq_str_bool (fin_bl I q (by simp))
    | int j => obtain ⟨t', rfl⟩ := ry; exact PySem.EqMixed.eq_str_int (fin_bl I q (by simp))
    | str j => obtain ⟨t', rfl⟩ := ry; exact eq_str (fin_bl I q dec_str)
    | _ => exact absurd (show false = true from hs) Bool.false_ne_true
  | byt i =>
    obtain ⟨t, rfl⟩ := rx
    cases y with
    | byt j => obtain ⟨t', rfl⟩ := ry; exact PySem.W.eq_bytes (fin_bl I q dec_byt)
    | _ => exact absurd (show false = true from hs) Bool.false_ne_true
  | _ => cases y <;> exact absurd (show false = true from hs) Bool.false_ne_true

theorem op_lt : OpR X (compareOp .Lt) (rI0 fun i j => .bl (decide (i < j))) := opB0 fun _ _ _ _ _ _ _ q => lt_int q
theorem op_le : OpR X (compareOp .LtE) (rI0 fun i j => .bl (decide (i ≤ j))) := opB0 fun _ _ _ _ _ _ _ q => le_int q
theorem op_gt : OpR X (compareOp .Gt) (rI0 fun i j => .bl (decide (j < i))) := opB0 fun _ _ _ _ _ _ _ q => gt_int q
theorem op_ge : OpR X (compareOp .GtE) (rI0 fun i j => .bl (decide (j ≤ i))) := opB0 fun _ _ _ _ _ _ _ q => ge_int q



/-- two rules for one operation: by cases -/
theorem OpR.or {f : Value → Value → Sem Value} {r r' : R2} (h : OpR X f r) (h' : OpR X f r') : OpR X f (fun x y H Q => r x y H Q ∨ r' x y H Q) := by
  intro pins s σ H x y v u Q I rx ry q
  rcases q with q | q
  · exact h pins s σ H x y v u Q I rx ry q
  · exact h' pins s σ H x y v u Q I rx ry q

theorem nomark (b : Expr) {op : CmpOp} (h : op ≠ .In := by decide) (h2 : op ≠ .NotIn := by decide) : behindInMarks op b = false := by
  have e1 : (op == CmpOp.In) = false := by cases op <;> first | rfl | exact absurd rfl h
  have e2 : (op == CmpOp.NotIn) = false := by cases op <;> first | rfl | exact absurd rfl h2
  cases b <;> simp [behindInMarks, e1, e2]
/-- a comparison as a value; hm: nomark b, or (for in, not in) by with_unfolding_all rfl -/
theorem pe_cmpR {op : CmpOp} {r : R2} (ho : OpR X (compareOp op) r) (ha : PE X a ta) (hb : PE X b tb) (hm : behindInMarks op b = false) : PE X (.Compare a [op] [b] pos) (tOp r ta tb) := by
  intro pins s σ H Q I h
  exact wpAny_Compare1 (binT ha hb I h fun v u s2 x y H2 I2 rx ry q => ho pins s2 σ H2 x y v u Q I2 rx ry q) hm
/-- a reading of a value as a test -/
def tTest (t : TE) : TT := fun σ H Q => t σ H fun x H' => ∃ k, x = .bl k ∧ Q k H'
theorem pt_cmpR {op : CmpOp} {r : R2} (ho : OpR X (compareOp op) r) (ha : PE X a ta) (hb : PE X b tb) (hm : behindInMarks op b = false) : PT X (.Compare a [op] [b] pos) (tTest (tOp r ta tb)) := by
  intro pins s σ H Q I h
  refine wpAny_isTrue_Compare1 (thn (ha pins s σ H _ I h) fun v s1 ⟨x, H1, I1, r1, q1⟩ => thn (hb pins s1 σ H1 _ I1 q1) fun u s2 ⟨y, H2, I2, r2, q2⟩ =>
    thn (ho pins s2 σ H2 x y v u _ I2 r1 r2 q2) fun c s3 ⟨z, H3, I3, r3, k, e, q3⟩ => ?_) hm
  subst e
  cases r3
  exact wpAny_truthy_bool ⟨H3, I3, q3⟩
/-- a op1 b op2 c -/
def tChain (r r' : R2) (ta tb tc : TE) : TE := fun σ H Q => ta σ H fun x H1 => tb σ H1 fun y H2 => r x y H2 fun z H3 => ∃ k, z = .bl k ∧
  (if k = true then tc σ H3 fun w' H4 => r' y w' H4 Q else Q (.bl false) H3)
theorem pe_chain {op op' : CmpOp} {r r' : R2} (ho : OpR X (compareOp op) r) (ho' : OpR X (compareOp op') r') (ha : PE X a ta) (hb : PE X b tb) (hc : PE X c tc)
    (hm : lastMarks [op, op'] [b, c] = false := by with_unfolding_all rfl) : PE X (.Compare a [op, op'] [b, c] pos) (tChain r r' ta tb tc) := by
  intro pins s σ H Q I h
  refine Compare_chain (thn (ha pins s σ H _ I h) fun v s1 ⟨x, H1, I1, r1, q1⟩ => chain_link (thn (hb pins s1 σ H1 _ I1 q1) fun u s2 ⟨y, H2, I2, r2, q2⟩ =>
    thn (ho pins s2 σ H2 x y v u _ I2 r1 r2 q2) fun d s3 ⟨z, H3, I3, r3, k, e, q3⟩ => ?_)) hm
  subst e
  cases r3
  refine wpAny_truthy_bool ?_
  cases k with
  | false => exact ite_ff ⟨.bl false, H3, I3, rfl, q3⟩
  | true => exact ite_tt (chain_last (thn (hc pins s3 σ H3 _ I3 q3) fun w' s4 ⟨z', H4, I4, r4, q4⟩ => ho' pins s4 σ H4 y z' u w' Q I4 r2 r4 q4))

/-! ### truth -/
/-- a value's truth by the abstract heap -/
def TruV (K : PySem.W.Frag) (x : V) (H : Hp) (k : Bool) : Prop :=
  match x with
  | .non => k = false
  | .bl b => k = b
  | .int i => k = (i != 0)
  | .str y => y.length ≤ sizeLine ∧ k = ((y.length : Int) != 0)
  | .byt y => y.size ≤ sizeLine ∧ k = ((y.size : Int) != 0)
  | .ref p => (∃ xs, SqL K H p xs ∧ k = !xs.isEmpty) ∨ (∃ xs, SqT K H p xs ∧ k = !xs.isEmpty) ∨ ∃ kvs, H p = some (.dK kvs) ∧ k = !kvs.isEmpty
  | _ => False
theorem isEmpty_kv {κ : Type} {kvs : List (κ × V)} {vs : List (κ × Value)} (r : KV kvs vs) : (!vs.isEmpty) = !kvs.isEmpty := by
  cases r <;> rfl
theorem isEmpty_of {xs : List V} {its : List Value} (r : Vals xs its) : (!its.toArray.isEmpty) = !xs.isEmpty := by
  cases r <;> simp
theorem line63 : (sizeLine : Nat) < 2 ^ 63 := by rw [sizeLine_eq]; decide
theorem tru_ok : TruR X (fun x H Q => ∃ k, TruV X.K x H k ∧ Q k H) := by
  intro pins s σ H x v Q I rx h
  obtain ⟨k, e, q⟩ := h
  have hl := line63
  have hs : sizeLine = 16777216 := sizeLine_eq
  cases x with
  | non =>
    cases rx
    have e' : k = false := e
    subst e'
    exact truthy_none ⟨H, I, q⟩
  | bl b =>
    cases rx
    have e' : k = b := e
    subst e'
    exact wpAny_truthy_bool ⟨H, I, q⟩
  | int i =>
    obtain ⟨t, rfl⟩ := rx
    have e' : k = (i != 0) := e
    subst e'
    exact PySem.P.truthy_int ⟨H, I, q⟩
  | str y =>
    obtain ⟨t, rfl⟩ := rx
    obtain ⟨hy, e'⟩ : y.length ≤ sizeLine ∧ k = ((y.length : Int) != 0) := e
    subst e'
    exact PySem.P.truthy_str (by omega) ⟨H, I.tok _, q⟩
  | byt y =>
    obtain ⟨t, rfl⟩ := rx
    obtain ⟨hy, e'⟩ : y.size ≤ sizeLine ∧ k = ((y.size : Int) != 0) := e
    subst e'
    exact PySem.W.truthy_bytes (by omega) ⟨H, I.tok _, q⟩
  | ref p =>
    cases rx
    have e' : (∃ xs, SqL X.K H p xs ∧ k = !xs.isEmpty) ∨ (∃ xs, SqT X.K H p xs ∧ k = !xs.isEmpty) ∨ ∃ kvs, H p = some (.dK kvs) ∧ k = !kvs.isEmpty := e
    rcases e' with ⟨xs, hx, e'⟩ | ⟨xs, hx, e'⟩ | ⟨kvs, hx, e'⟩
    · subst e'
      obtain ⟨its, r, pl, hz⟩ := I.list hx
      have hlen := r.length
      exact wpAny_truthy_list pl.isList (by simp only [List.size_toArray]; omega) ⟨H, I.tok _, by rw [isEmpty_of r]; exact q⟩
    · subst e'
      obtain ⟨its, r, pl, hz⟩ := I.tuple hx
      have hlen := r.length
      exact truthy_tuple pl (by simp only [List.size_toArray]; omega) ⟨H, I.tok _, by rw [isEmpty_of r]; exact q⟩
    · subst e'
      obtain ⟨hz, hS, vs, r, m⟩ : kvs.length ≤ sizeLine ∧ (p == sysModules) = false ∧ ∃ vs, KV kvs vs ∧ s.heap.DictOf (mixKind X.prog X.w) p vs := I.hok p _ hx
      have hlen : kvs.length = vs.length := Paired.length r
      exact wpAny_truthy_dict hS m (by omega) ⟨H, I.tok _, by rw [isEmpty_kv r]; exact q⟩
  | _ => exact (show False from e).elim

/-! ### strs and bytes -/


/-! ### scalar builtins, by CallR -/
theorem vals1 {x : V} {us : List Value} (r : Vals [x] us) : ∃ u, us = [u] ∧ RelV x u := by
  cases r with
  | cons r1 r2 => cases r2; exact ⟨_, rfl, r1⟩
theorem vals2 {x y : V} {us : List Value} (r : Vals [x, y] us) : ∃ u w', us = [u, w'] ∧ RelV x u ∧ RelV y w' := by
  cases r with
  | cons r1 r2 =>
    cases r2 with
    | cons r3 r4 => cases r4; exact ⟨_, _, rfl, r1, r3⟩
theorem call_max2 (hc : X.calm = true) : CallR X (.builtin "max") (fun xs H Q => ∃ i j, xs = [.int i, .int j] ∧ Q (.int (if j > i then j else i)) H) := by
  intro pins s σ H xs us Q I r h
  obtain ⟨i, j, rfl, q⟩ := h
  obtain ⟨u, w', rfl, ⟨t, rfl⟩, ⟨t', rfl⟩⟩ := vals2 r
  refine max_two_ints (I.ok.hd hc) fun h' tk k => ⟨_, H, I.kept k, ?_, q⟩
  by_cases hj : j > i
  · rw [if_pos hj, if_pos hj]; exact ⟨_, rfl⟩
  · rw [if_neg hj, if_neg hj]; exact ⟨_, rfl⟩
theorem call_min2 (hc : X.calm = true) : CallR X (.builtin "min") (fun xs H Q => ∃ i j, xs = [.int i, .int j] ∧ Q (.int (if j < i then j else i)) H) := by
  intro pins s σ H xs us Q I r h
  obtain ⟨i, j, rfl, q⟩ := h
  obtain ⟨u, w', rfl, ⟨t, rfl⟩, ⟨t', rfl⟩⟩ := vals2 r
  refine min_two_ints (I.ok.hd hc) fun h' tk k => ⟨_, H, I.kept k, ?_, q⟩
  by_cases hj : j < i
  · rw [if_pos hj, if_pos hj]; exact ⟨_, rfl⟩
  · rw [if_neg hj, if_neg hj]; exact ⟨_, rfl⟩
theorem call_int1 : CallR X (.type "int") (fun xs H Q => (∃ i, xs = [.int i] ∧ Q (.int i) H) ∨ ∃ k, xs = [.bl k] ∧ Q (.int (if k then 1 else 0)) H) := by
  intro pins s σ H xs us Q I r h
  rcases h with ⟨i, rfl, q⟩ | ⟨k, rfl, q⟩
  · obtain ⟨u, rfl, t, rfl⟩ := vals1 r
    exact call_int_int ⟨.int i, H, I, ⟨_, rfl⟩, q⟩
  · obtain ⟨u, rfl, r1⟩ := vals1 r
    cases r1
    exact call_int_bool ⟨.int (if k then 1 else 0), H, I.tok _, ⟨_, rfl⟩, q⟩
end
end L2

namespace L2
open PySem PySem.Spec PyProof.Rows

/-! ### an instance, its attributes a map -/
structure ObjM (h : Heap) (x dx C : Addr) (mA : Str → Option Value) : Prop where
  obj : h.get? x = some (PySem.W.instObj C dx)
  ns : h.Ns1 dx mA
  ne : dx ≠ x

theorem lookIn_ns {h : Heap} {dx : Addr} {mA : Str → Option Value} (n : h.Ns1 dx mA) : ∃ od, h.get? dx = some od ∧ ∀ name, PySem.W.lookIn name od = some (mA name) := by
  obtain ⟨o, es, ep, ho, hd, hk, _, hm⟩ := n
  refine ⟨o, ho, fun name => ?_⟩
  have e := hm name
  unfold nsFind findBy at e
  rw [← Array.find?_toList] at e
  unfold PySem.W.lookIn
  rw [hd]
  dsimp only
  split
  · rename_i y q
    rw [q] at e
    exact congrArg some e
  · rename_i q
    rw [q] at e
    have a : es.toList.any (·.refKey) = false := by
      rw [List.any_eq_false]
      intro y hy
      obtain ⟨z, t, hkey⟩ := hk y (Array.mem_toList_iff.mp hy)
      simp [DictEntry.refKey, hkey]
    have a' : ¬ es.toList.any (·.refKey) = true := by rw [a]; exact Bool.false_ne_true
    rw [if_neg a']
    exact congrArg some e

theorem ObjM.look {h : Heap} {x dx C : Addr} {mA : Str → Option Value} (I : ObjM h x dx C mA) : ∃ od, PySem.W.InstAt h x (PySem.W.instObj C dx) C (some od) ∧ ∀ name, PySem.W.lookIn name od = some (mA name) :=
  let ⟨od, ho, hl⟩ := lookIn_ns I.ns
  ⟨od, ⟨I.obj, rfl, rfl, ho⟩, hl⟩

section
variable {prog : Program} {w : World} {A : Around} {E : Value → Shared → Prop} {s : Shared} {K : PySem.W.Frag} {x dx C f : Addr} {mA : Str → Option Value} {name : Str} {v : Value}





end

/-! ### the attributes as a list of pairs -/


section
variable {P : Program} {w : World} {H H' : Hp} {h h' : Heap} {a C dx : Addr} {fs fs' : List (Str × V)}
theorem ins_get (hok : HOk P w H h) (e : H a = some (.ins C dx fs)) : ∃ mA, ObjM h a dx C mA ∧ (∀ f, RelO (fs.lookup f) (mA f)) ∧ PySem.Within mA (fs.map (·.1)) ∧ fs.length ≤ 1000 ∧ H dx = some (.own a) := by
  obtain ⟨d, z, ne, ob, mA, n, r, q⟩ := (show ObjOk P w H h a (.ins C dx fs) from hok a _ e)
  exact ⟨mA, ⟨ob, n, ne⟩, r, q, z, d⟩
end

/-! ### what of the text a class must have -/
structure Cls (K : PySem.W.Frag) (C : Addr) : Prop where
  pg : PySem.W.plainGet K C Str.empty = true
  hd : PySem.W.hasDictIn K C = true
  po : PySem.W.plainOver K C = true
  sa : PySem.W.findIn K (.ref C) "__setattr__" = some (some (.builtin "object.__setattr__"))
theorem Cls.get {K : PySem.W.Frag} {C : Addr} (c : Cls K C) (f : Str) : PySem.W.plainGet K C f = true := c.pg
/-- a constant of the class -/
structure Con (K : PySem.W.Frag) (C : Addr) (f : Str) (v : V) (u : Value) : Prop where
  at_ : PySem.W.findIn K (.ref C) f = some (some u)
  rel : RelV v u
  get : PySem.W.specialIn K u "__get__" = some none
  cp : PySem.W.copiedNames.contains f = false
/-- a method: a plain def of the class or of one above it -/
structure Meth (K : PySem.W.Frag) (C : Addr) (m : Str) (f : Addr) : Prop where
  at_ : PySem.W.findIn K (.ref C) m = some (some (.ref f))
  fn : PySem.W.isFn K (.ref f) = true
  kp : PySem.W.keepIn K (.ref f) = true

section
variable {X : Cx} {pins : List (Addr × Obj)} {σ : St} {H : Hp} {s : Shared} {a C dx : Addr} {fs : List (Str × V)} {f : Str} {v : V} {A : Around} {E : Value → Shared → Prop}





/-- a new instance, tracked, without attributes -/
theorem Inv.made (I : Inv X pins σ H s) : Inv X pins σ (upd (upd H s.heap.objs.size (.own (s.heap.objs.size + 1))) (s.heap.objs.size + 1) (.ins C s.heap.objs.size []))
    { s with heap := (s.heap.push PySem.W.emptyDict).push (PySem.W.instObj C s.heap.objs.size) } := by
  have e1 : (s.heap.push PySem.W.emptyDict).get? s.heap.objs.size = some PySem.W.emptyDict := Heap.get?_push_size s.heap rfl
  have e2 : ((s.heap.push PySem.W.emptyDict).push (PySem.W.instObj C s.heap.objs.size)).get? (s.heap.objs.size + 1) = some (PySem.W.instObj C s.heap.objs.size) := by
    have := Heap.get?_push_size (s.heap.push PySem.W.emptyDict) (o := PySem.W.instObj C s.heap.objs.size) rfl
    rwa [Heap.size_push] at this
  have e3 : (s.heap.push PySem.W.emptyDict).Ns s.heap.objs.size (fun _ => none) := ⟨PySem.W.emptyDict, #[], _, e1, rfl, (fun e he => absurd he (by simp)), fun _ => rfl⟩
  have I1 := I.laid (a := s.heap.objs.size) (o := .own (s.heap.objs.size + 1)) (h' := s.heap.push PySem.W.emptyDict) (t' := s.toks) (fun b u q => Heap.get?_push_of_some _ q) (Nat.le_refl _) ⟨_, e1⟩
  refine I1.laid (a := s.heap.objs.size + 1) (o := .ins C s.heap.objs.size []) (t' := s.toks) (fun b u q => Heap.get?_push_of_some _ q) (Nat.le_of_eq (Heap.size_push _ _)) ?_
  have ne : s.heap.objs.size ≠ s.heap.objs.size + 1 := Nat.ne_of_lt (Nat.lt_succ_self _)
  refine ⟨by rw [upd_ne ne, upd_same], Nat.zero_le _, ne, e2, fun _ => none, (Heap.Ns1.of_empty e3).at fun o q => Heap.get?_push_of_some _ q, fun _ => True.intro, fun y hy => absurd rfl hy⟩

end

/-! ### readings and rules -/

section
variable {X : Cx} {o e value : Expr} {f : Str} {pos pos' tpos : Pos} {ta tv : TE}

end

/-! ### isinstance -/
section
variable {X : Cx} {pins : List (Addr × Obj)} {σ : St} {H : Hp} {s : Shared} {A : Around} {E : Value → Shared → Prop} {Q : Value → Shared → Prop} {c : Value} {b : Bool}
/-- the type of a value, as the fragment's deciders take it; for an instance its class -/
inductive TyOf (K : PySem.W.Frag) (H : Hp) : V → Value → Prop where
  | non : TyOf K H .non (.type "NoneType")
  | bl (x : Bool) : TyOf K H (.bl x) (.type "bool")
  | int (i : Int) : TyOf K H (.int i) (.type "int")
  | str (x : Str) : TyOf K H (.str x) (.type "str")
  | flt (x : UInt64) : TyOf K H (.flt x) (.type "float")
  | lst {a : Addr} {xs : List V} (e : H a = some (.lst xs)) : TyOf K H (.ref a) (.type "list")
  | frz {a : Addr} {o : Obj} {xs : List V} (e : H a = some (.frz o (.lst xs))) : TyOf K H (.ref a) (.type "list")
  | tup {a : Addr} {xs : List V} (e : H a = some (.tup xs)) : TyOf K H (.ref a) (.type "tuple")
  | dK {a : Addr} {kvs : List (Key × V)} (e : H a = some (.dK kvs)) : TyOf K H (.ref a) (.type "dict")
  | dT {a : Addr} {kvs : List (List Key × V)} (e : H a = some (.dT kvs)) : TyOf K H (.ref a) (.type "dict")
  | ins {a C dx : Addr} {fs : List (Str × V)} (e : H a = some (.ins C dx fs)) (cl : Cls K C) (ha : PySem.W.findIn K (.ref C) "__class__" = some (some (.builtin "object.__class__")))
      (hn : PySem.W.specialIn K (.builtin "object.__class__") "__get__" = some (some (.builtin "getset_descriptor.__get__"))) (htk : PySem.W.takesIn K (.builtin "object.__class__") = some true)
      (hm : PySem.W.mroIn K C (.type "object") = some true) : TyOf K H (.ref a) (.ref C)
/-- isinstance(x, c) for one class c, a built-in or an own one: kitOne's answer -/
theorem isinst_ok {x : V} {u t : Value} (I : Inv X pins σ H s) (rx : RelV x u) (ty : TyOf X.K H x t) (e : PySem.W.kitOne X.K t c = some b) (h : ∀ tk, Q (.bool b) { s with toks := tk }) :
    wpAny (model X.prog X.w) A (call (.builtin "isinstance") [u, c]) Q E s := by
  cases ty with
  | non => cases (show u = Value.none from rx); exact PySem.W.kia_one PySem.W.kitx_none I.kIn True.intro e (fun z => nomatch z) h
  | bl y => cases (show u = Value.bool y from rx); exact PySem.W.kia_one PySem.W.kitx_bool I.kIn True.intro e (fun z => nomatch z) h
  | int i => obtain ⟨t, q⟩ := (show ∃ t, u = Value.int i t from rx); cases q; exact PySem.W.kia_one PySem.W.kitx_int I.kIn True.intro e (fun z => nomatch z) h
  | str y => obtain ⟨t, q⟩ := (show ∃ t, u = Value.str y t from rx); cases q; exact PySem.W.kia_one PySem.W.kitx_str I.kIn True.intro e (fun z => nomatch z) h
  | flt y => obtain ⟨t, q⟩ := (show ∃ t, u = Value.float y t from rx); cases q; exact PySem.W.kia_one PySem.W.kitx_float I.kIn True.intro e (fun z => nomatch z) h
  | @lst a xs ea =>
    cases (show u = Value.ref a from rx)
    obtain ⟨_, _, n, _, h1⟩ := (show ObjOk X.prog X.w H s.heap a (.lst xs) from I.hok a _ ea)
    exact PySem.W.kia_one PySem.W.kitx_list I.kIn ⟨_, h1, rfl⟩ e (fun z => nomatch z) h
  | @frz a ob xs ea =>
    cases (show u = Value.ref a from rx)
    obtain ⟨_, _, _, n, _, h1⟩ := (show ObjOk X.prog X.w H s.heap a (.frz ob (.lst xs)) from I.hok a _ ea)
    exact PySem.W.kia_one PySem.W.kitx_list I.kIn ⟨_, h1, rfl⟩ e (fun z => nomatch z) h
  | @tup a xs ea =>
    cases (show u = Value.ref a from rx)
    obtain ⟨_, _, _, p⟩ := (show ObjOk X.prog X.w H s.heap a (.tup xs) from I.hok a _ ea)
    obtain ⟨o, h1, h2, _⟩ := p
    exact PySem.W.kia_one PySem.W.kitx_tuple I.kIn ⟨o, h1, h2⟩ e (fun z => nomatch z) h
  | @dK a kvs ea =>
    cases (show u = Value.ref a from rx)
    obtain ⟨_, _, vs, _, p⟩ := (show ObjOk X.prog X.w H s.heap a (.dK kvs) from I.hok a _ ea)
    obtain ⟨o, es, ep, h1, h2, _⟩ := p
    exact PySem.W.kia_one PySem.W.kitx_dict I.kIn ⟨o, h1, h2.1⟩ e (fun z => nomatch z) h
  | @dT a kvs ea =>
    cases (show u = Value.ref a from rx)
    obtain ⟨_, _, xs, _, o, es, ep, h1, h2, _⟩ := (show ObjOk X.prog X.w H s.heap a (.dT kvs) from I.hok a _ ea)
    exact PySem.W.kia_one PySem.W.kitx_dict I.kIn ⟨o, h1, h2.1⟩ e (fun z => nomatch z) h
  | @ins a C dx fs ea cl ha hn htk hm =>
    cases (show u = Value.ref a from rx)
    obtain ⟨mA, O, _⟩ := ins_get I.hok ea
    obtain ⟨od, J, _⟩ := O.look
    exact PySem.W.kia_one (PySem.W.kitx_own (cl.get _) cl.hd ha hn htk hm) I.kIn J e (fun z => nomatch z) h
end
end L2

namespace L2
open PySem PySem.Spec PyProof.Rows

/-! ### room -/
structure Room (k : Nat) (A : Around) : Prop where
  hd : A.handled = none
  dp : A.depth + 3 * k + 5 < recursionLimit
  un : A.units + 16 * k + 200 < cLine
theorem Room.mono {j k : Nat} {A : Around} (r : Room k A) (h : j ≤ k) : Room j A := ⟨r.hd, by have := r.dp; omega, by have := r.un; omega⟩
theorem Room.deeper {k : Nat} {A : Around} (r : Room (k + 1) A) (env : Env) : Room k (A.deeper env) :=
  ⟨r.hd, by have := r.dp; show A.depth + 1 + 3 * k + 5 < _; omega, by have := r.un; show A.units + 3 + 16 * k + 200 < _; omega⟩
theorem Room.depth {k : Nat} {A : Around} (r : Room k A) : A.depth < recursionLimit := by have := r.dp; omega
theorem Room.units {k : Nat} {A : Around} (r : Room k A) : A.units + 64 < cLine := by have := r.un; omega

/-! ### argument lists and displays -/
def tNil : TA := fun _ H Q => Q [] H
def tCons (ta : TE) (tr : TA) : TA := fun σ H Q => ta σ H fun x H1 => tr σ H1 fun xs H2 => Q (x :: xs) H2
section
variable {X : Cx} {e : Expr} {es : List Expr} {te : TE} {t : TA} {pos : Pos}
theorem pa_nil : PA X [] tNil := fun _ _ _ _ H Q I h => Calls.spliced_nil ⟨[], H, I, .nil, h⟩
theorem pa_cons (ha : PE X e te) (hr : PA X es t) (hs : starEach (e :: es) X.env = (false, eval e X.env) :: starEach es X.env := by rfl) : PA X (e :: es) (tCons te t) := by
  intro pos pins s σ H Q I h
  rw [hs]
  show wpAny _ _ (spliced ((false, eval e X.env) :: backTo pos (starEach es X.env))) _ _ s
  refine Calls.spliced_cons (thn (ha pins s σ H _ I h) fun u s1 ⟨x, H1, I1, r1, q1⟩ => ?_)
  exact thn (hr pos pins s1 σ H1 _ I1 q1) fun us s2 ⟨xs, H2, I2, r2, q2⟩ => ⟨x :: xs, H2, I2, .cons r1 r2, q2⟩

/-- a tuple, a list of written items -/
def tTup (t : TA) : TE := fun σ H Q => t σ H fun xs H1 => xs.length ≤ sizeLine ∧ ∀ p, H1 p = none → Q (.ref p) (upd H1 p (.tup xs))
def tLst (t : TA) : TE := fun σ H Q => t σ H fun xs H1 => xs.length ≤ sizeLine ∧ ∀ p, H1 p = none → Q (.ref p) (upd H1 p (.lst xs))
theorem pe_tup {x1} (h : PA X es t) : PE X (.Tuple es x1 pos) (tTup t) := by
  intro pins s σ H Q I hq
  refine wpAny_Tuple_spliced (thn (h pos pins s σ H _ I hq) fun us s1 ⟨xs, H1, I1, r, z, q⟩ => ⟨by rw [← r.length]; exact z, ?_⟩)
  have hf : H1 s1.heap.objs.size = none := I1.hok.fresh (Nat.le_refl _)
  refine ⟨.ref s1.heap.objs.size, upd H1 s1.heap.objs.size (.tup xs), I1.laid (t' := s1.toks) (fun b u e => Heap.get?_push_of_some _ e) (Nat.le_refl _) ?_, rfl, q _ hf⟩
  exact ⟨z, us, r, ⟨_, Heap.get?_push_size _ rfl, rfl, _, rfl⟩⟩
theorem pe_lst (h : PA X es t) : PE X (.List es pos) (tLst t) := by
  intro pins s σ H Q I hq
  refine wpAny_List_spliced (thn (h pos pins s σ H _ I hq) fun us s1 ⟨xs, H1, I1, r, z, q⟩ => ⟨by rw [← r.length]; exact z, ?_⟩)
  have hf : H1 s1.heap.objs.size = none := I1.hok.fresh (Nat.le_refl _)
  refine ⟨.ref s1.heap.objs.size, upd H1 s1.heap.objs.size (.lst xs), I1.laid (t' := s1.toks) (fun b u e => Heap.get?_push_of_some _ e) (Nat.le_refl _) ?_, rfl, q _ hf⟩
  exact ⟨z, us, 0, r, Heap.get?_push_size _ rfl⟩
end

/-! ### what a def promises -/
/-- a def's promise: the bound arguments in the parameters' order, the heap, the wanted end, the wanted exception -/
abbrev Sp := List V → Hp → VK → XK → Prop
/-- how an exception lies behind a call (file 08 gives it): the callers' frames, abstract heap and state ahead of the call, the wish, the exception, the state -/
abbrev CXT := List Env → Hp → Shared → XK → Value → Shared → Prop

/-- the state at a call -/
structure Env0 (P : Program) (w : World) (K : PySem.W.Frag) (mg : Str → Option Value) (base : Heap) (A : Around) (outer : List Env) (s : Shared) (H : Hp) : Prop where
  frames : A.frames = some outer
  mod : Mod K mg base
  bs : ∀ b o, base.get? b = some o → s.heap.get? b = some o ∧ H b = none
  bsz : base.objs.size ≤ s.heap.objs.size
  funs : s.heap.FunFrames base outer
  frf : ∀ b ∈ frs outer, H b = none
  hok : HOk P w H s.heap
  bare : AllBare s.gens
/-- a call's end -/
def CE (outer : List Env) (P : Program) (w : World) (H : Hp) (s : Shared) (Q : VK) (u : Value) (s' : Shared) : Prop :=
  ∃ v H', s'.os = s.os ∧ AllBare s'.gens ∧ Un (frs outer) [] H H' s.heap s'.heap ∧ HOk P w H' s'.heap ∧ RelV v u ∧ Q v H'
def CR (CX : CXT) (outer : List Env) (P : Program) (w : World) (H : Hp) (s : Shared) (Q : VK) (E : XK) (r : Result) (s' : Shared) : Prop :=
  match r with
  | .ok (.ret u) => CE outer P w H s Q u s'
  | .ok _ => False
  | .error e => CX outer H s E e s'
structure FnOk (P : Program) (w : World) (K : PySem.W.Frag) (mg : Str → Option Value) (base : Heap) (CX : CXT) (k : Nat) (f : Addr) (fd : FuncData) (ps : List Str) (sp : Sp) : Prop where
  len : ∀ vs H Q E, sp vs H Q E → vs.length = ps.length
  run : ∀ (A : Around) (outer : List Env) (s : Shared) (H : Hp) (args : Args) (us : List Value) (vs : List V) (Q : VK) (E : XK), Room k A → Env0 P w K mg base A outer s H → BindsTo s fd args (ps.zip us) → Vals vs us → sp vs H Q E →
    codeAny (model P w) A (.call (.ref f) args) (CR CX outer P w H s Q E) s
theorem FnOk.mono {P : Program} {w : World} {K : PySem.W.Frag} {mg : Str → Option Value} {base : Heap} {CX : CXT} {j k : Nat} {f : Addr} {fd : FuncData} {ps : List Str} {sp : Sp} (F : FnOk P w K mg base CX j f fd ps sp) (h : j ≤ k) :
    FnOk P w K mg base CX k f fd ps sp := ⟨F.len, fun A outer s H args us vs Q E hr => F.run A outer s H args us vs Q E (hr.mono h)⟩
/-- a weaker promise -/
theorem FnOk.imp {P : Program} {w : World} {K : PySem.W.Frag} {mg : Str → Option Value} {base : Heap} {CX : CXT} {k : Nat} {f : Addr} {fd : FuncData} {ps : List Str} {sp sp' : Sp} (F : FnOk P w K mg base CX k f fd ps sp)
    (h : ∀ vs H Q E, sp' vs H Q E → sp vs H Q E) : FnOk P w K mg base CX k f fd ps sp' :=
  ⟨fun vs H Q E q => F.len vs H Q E (h _ _ _ _ q), fun A outer s H args us vs Q E hr he hb hv hs => F.run A outer s H args us vs Q E hr he hb hv (h _ _ _ _ hs)⟩


section
variable {X : Cx} {pins : List (Addr × Obj)} {σ : St} {H : Hp} {s s' : Shared}
/-- from a body: what a callee wants -/
theorem Inv.env0 (I : Inv X pins σ H s) : Env0 X.prog X.w X.K X.mg X.base X.A X.stack s H :=
  ⟨I.ok.frames, I.ok.mod, I.bs, Nat.le_trans I.ok.bsz I.sz, I.stack, I.stkFree, I.hok, I.bare⟩
/-- behind a call -/
theorem Inv.after {Q : VK} {u : Value} (I : Inv X pins σ H s) (h : CE X.stack X.prog X.w H s Q u s') : EP X pins σ Q u s' := by
  obtain ⟨v, H', os, bare, un, hok, r, q⟩ := h
  obtain ⟨hh, g, d, t, os'⟩ := s'
  obtain rfl : os' = s.os := os
  exact ⟨v, H', I.call (h' := hh) (g' := g) (d' := d) (t' := t) (ch := []) un hok bare (fun b z => absurd z (by simp)), r, q⟩
end

/-! ### calls -/
/-- f(..): the written arguments, then the defaults dvs; E: what is wanted of an exception -/
def tCall (sp : Sp) (dvs : List V) (E : XK) (t : TA) : TE := fun σ H Q => t σ H fun vs H1 => sp (vs ++ dvs) H1 Q E

/-- how the parameters are bound: us the positional arguments, kw the keywords' values by name, ds the defaults that fill up -/
def Binds (K : PySem.W.Frag) (fd : FuncData) (ps : List Str) (ds : List Value) : Prop :=
  ∀ (s : Shared) (us : List Value), K.In s.heap → (us ++ ds).length = ps.length → BindsTo s fd ⟨us, []⟩ (ps.zip (us ++ ds))
/-- every parameter is given -/
theorem Binds.all {K : PySem.W.Frag} {fd : FuncData} {ps : List Str} (h : ∀ us : List Value, us.length = ps.length → bindArgs fd ⟨us, []⟩ = pure (ps.zip us)) : Binds K fd ps [] := fun s us _ hl => by
  rw [List.append_nil] at hl ⊢
  exact .of_eq (h us hl)

/-- an exception of a callee reaches what this body wants of exceptions -/
def Passes (CX : CXT) (X : Cx) (E : XK) : Prop := ∀ (pins : List (Addr × Obj)) (σ : St) (H : Hp) (s : Shared) (e : Value) (s' : Shared), Inv X pins σ H s → CX X.stack H s E e s' → X.xe e s'

section
variable {X : Cx} {CX : CXT} {k : Nat} {f C : Addr} {fd : FuncData} {ps : List Str} {sp : Sp} {dvs : List V} {ds : List Value} {E : XK} {x m : Str} {p pos apos : Pos} {e o : Expr} {es : List Expr} {ta : TE} {t : TA}

/-- the callee runs -/
theorem run_fn {pins : List (Addr × Obj)} {σ : St} {H : Hp} {s : Shared} {Q : VK} {us : List Value} {vs : List V} (F : FnOk X.prog X.w X.K X.mg X.base CX k f fd ps sp) (hr : Room k X.A) (hb : Binds X.K fd ps ds) (hd : Vals dvs ds) (hx : Passes CX X E)
    (I : Inv X pins σ H s) (r : Vals vs us) (h : sp (vs ++ dvs) H Q E) : wpAny (model X.prog X.w) X.A (call (.ref f) us) (EP X pins σ Q) X.xe s := by
  have r2 : Vals (vs ++ dvs) (us ++ ds) := r.append hd
  have hl : (us ++ ds).length = ps.length := by rw [← r2.length]; exact F.len _ _ _ _ h
  refine wpAny_call (codeAny_mono (F.run X.A X.stack s H ⟨us, []⟩ (us ++ ds) (vs ++ dvs) Q E hr I.env0 (hb s us I.kIn hl) r2 h) fun r s' hq => ?_)
  cases r with
  | error e => exact hx pins σ H s e s' I hq
  | ok fl =>
    cases fl with
    | ret u => exact I.after hq
    | next => exact False.elim hq
    | brk => exact False.elim hq
    | cont => exact False.elim hq

theorem pe_call (F : FnOk X.prog X.w X.K X.mg X.base CX k f fd ps sp) (hr : Room k X.A) (hg : Gl X x) (hm : X.mg x = some (.ref f)) (hk : PySem.W.keepIn X.K (.ref f) = true) (hb : Binds X.K fd ps ds) (hd : Vals dvs ds) (hx : Passes CX X E)
    (ha : PA X (e :: es) t) (hdb : (x == ("__debug__" : Str)) = false := by decide) (he : starEach (e :: es) X.env = (false, eval e X.env) :: starEach es X.env := by rfl) (hpl : (backTo pos (starEach es X.env)).any (·.1) = false := by rfl) :
    PE X (.Call (.Name x p) (e :: es) [] pos) (tCall sp dvs E t) := by
  intro pins s σ H Q I h
  refine wpAny_Call_Name_kw (ld_glob I hg hm ?_ hdb)
  refine PySem.W.callWith_K (h₀ := X.base) I.ok.mod.kin hk (thn (ha pos pins s σ H _ I h) fun us s1 ⟨vs, H1, I1, r, q⟩ => ⟨I1.kIn, ?_⟩) he hpl
  exact run_fn F hr hb hd hx I1 r q


/-- what a class must have to be made -/
structure Mk (K : PySem.W.Frag) (C f : Addr) : Prop where
  makes : PySem.W.makesIn K C = true
  init : PySem.W.findIn K (.ref C) "__init__" = some (some (.ref f))
  fn : PySem.W.isFn K (.ref f) = true
  kp : PySem.W.keepIn K (.ref C) = true

end

/-! ### keywords -/
section
variable {X : Cx} {CX : CXT} {k : Nat} {f C : Addr} {fd : FuncData} {ps ks : List Str} {sp : Sp} {E : XK} {x m : Str} {p pos apos kpos : Pos} {e o : Expr} {es : List Expr} {kws : List Keyword} {te ta : TE} {t tk : TA} {nm : Option Str}

/-- how a call with keywords binds: g puts the positional values us and the keywords' values ws (names ks) in the parameters' order, defaults among them -/
structure KBinds (K : PySem.W.Frag) (fd : FuncData) (ps ks : List Str) (g : List Value → List Value → List Value) (gV : List V → List V → List V) : Prop where
  to : ∀ (s : Shared) (us ws : List Value), K.In s.heap → (g us ws).length = ps.length → BindsTo s fd ⟨us, ks.zip ws⟩ (ps.zip (g us ws))
  rel : ∀ {vs : List V} {us : List Value} {zs : List V} {ws : List Value}, Vals vs us → Vals zs ws → Vals (gV vs zs) (g us ws)
variable {g : List Value → List Value → List Value} {gV : List V → List V → List V}
end

/-! ### a def's body keeps its promise -/
/-- names: the parameters first -/
structure FnScope (N P : List Str) (sc : Scope) : Prop where
  kind : sc.kind = .function
  co : sc.isCoroutine = false
  gen : sc.isGenerator = false
  nd : N.Nodup
  pre : N.take P.length = P
  par : ∀ x ∈ P, sc.names.lookup x = some .local ∨ sc.names.lookup x = some .cell
  nofree : ∀ y ∈ sc.names, y.2 ≠ .free

theorem bindL_out {kindOf : Str → Option NameKind} {x : Str} : ∀ {binds : List (Str × Value)} {m : Str → Option Value}, (∀ v, (x, v) ∉ binds) → bindL kindOf binds m x = m x
  | [], _, _ => rfl
  | (n, v) :: r, m, h => by
    unfold bindL
    rw [bindL_out fun w hw => h w (List.mem_cons_of_mem _ hw)]
    split
    · have : x ≠ n := by rintro rfl; exact h v List.mem_cons_self
      simp [this]
    · rfl
theorem bindC_out {kindOf : Str → Option NameKind} {x : Str} : ∀ {binds : List (Str × Value)} {m : Str → Option Value}, (∀ v, (x, v) ∉ binds) → bindC kindOf binds m x = m x
  | [], _, _ => rfl
  | (n, v) :: r, m, h => by
    unfold bindC
    rw [bindC_out fun w hw => h w (List.mem_cons_of_mem _ hw)]
    split
    · rfl
    · have : x ≠ n := by rintro rfl; exact h v List.mem_cons_self
      simp [this]
theorem bindL_get {kindOf : Str → Option NameKind} {x : Str} {v : Value} : ∀ {P : List Str} {vs : List Value} {i : Nat} {m : Str → Option Value}, P.Nodup → P[i]? = some x → vs[i]? = some v → kindOf x = some .local →
    bindL kindOf (P.zip vs) m x = some v
  | [], _, _, _, _, h, _, _ => by simp at h
  | _ :: _, [], _, _, _, _, h, _ => by simp at h
  | p :: P, w :: vs, 0, m, nd, h1, h2, hk => by
    simp at h1 h2; subst h1; subst h2
    show bindL kindOf ((p, w) :: P.zip vs) m p = _
    unfold bindL
    rw [bindL_out fun v hv => (List.nodup_cons.mp nd).1 (List.of_mem_zip hv).1, if_pos hk]
    simp
  | p :: P, w :: vs, i + 1, m, nd, h1, h2, hk => by
    show bindL kindOf ((p, w) :: P.zip vs) m x = _
    unfold bindL
    exact bindL_get (i := i) (List.nodup_cons.mp nd).2 (by simpa using h1) (by simpa using h2) hk
theorem bindC_get {kindOf : Str → Option NameKind} {x : Str} {v : Value} : ∀ {P : List Str} {vs : List Value} {i : Nat} {m : Str → Option Value}, P.Nodup → P[i]? = some x → vs[i]? = some v → kindOf x ≠ some .local →
    bindC kindOf (P.zip vs) m x = some v
  | [], _, _, _, _, h, _, _ => by simp at h
  | _ :: _, [], _, _, _, _, h, _ => by simp at h
  | p :: P, w :: vs, 0, m, nd, h1, h2, hk => by
    simp at h1 h2; subst h1; subst h2
    show bindC kindOf ((p, w) :: P.zip vs) m p = _
    unfold bindC
    rw [bindC_out fun v hv => (List.nodup_cons.mp nd).1 (List.of_mem_zip hv).1, if_neg hk]
    simp
  | p :: P, w :: vs, i + 1, m, nd, h1, h2, hk => by
    show bindC kindOf ((p, w) :: P.zip vs) m x = _
    unfold bindC
    exact bindC_get (i := i) (List.nodup_cons.mp nd).2 (by simpa using h1) (by simpa using h2) hk

/-- the names' values at the entry -/
def start (N : List Str) (vs : List V) : St := vs.map some ++ List.replicate (N.length - vs.length) none

/-- the context of a def's body, at its entry; an exception leaves the frame, then lies as CX says -/
def cxOf (CX : CXT) (P : Program) (w : World) (K : PySem.W.Frag) (mg : Str → Option Value) (base : Heap) (N : List Str) (qual : Str) (scope : Scope) (f : Addr) (cd : Value) (A : Around) (outer : List Env) (s : Shared) (H : Hp) (E : XK) : Cx where
  prog := P
  w := w
  K := K
  mg := mg
  base := base
  A := A.deeper (envOfC qual scope s.heap.objs.size f cd)
  N := N
  s₀ := s
  H₀ := H
  env := envOfC qual scope s.heap.objs.size f cd
  outer := outer
  stack := envOfC qual scope s.heap.objs.size f cd :: outer
  ex := []
  calm := true
  fn := fun _ => true
  pn := []
  xe := fun e s' => wpAny (model P w) (A.deeper (envOfC qual scope s.heap.objs.size f cd)) (leaving (envOfC qual scope s.heap.objs.size f cd) e) (fun _ s'' => CX outer H s E e s'') (fun e' s'' => CX outer H s E e' s'') s'

theorem cell_has {sc : Scope} {n : Nat} {x : Str} (h : sc.names.lookup x = some .cell) : ∃ c, (cellsFrom n sc.names []).lookup x = some c := by
  have q := PySem.W.cellsFrom_some sc.names n [] (.inl h)
  exact Option.isSome_iff_exists.mp q

theorem inv_start {CX : CXT} {P : Program} {w : World} {K : PySem.W.Frag} {mg : Str → Option Value} {base : Heap} {N ps : List Str} {qual : Str} {scope : Scope} {f : Addr} {cd : Value} {A : Around} {outer : List Env} {s s1 : Shared} {H : Hp} {E : XK} {us : List Value} {vs : List V}
    (S : FnScope N ps scope) (hd : A.handled = none) (e0 : Env0 P w K mg base A outer s H) (hl : vs.length = ps.length) (r : Vals vs us)
    (x : InCallC s s.heap.objs.size (bindL (envOfC qual scope s.heap.objs.size f cd).kindOf (ps.zip us) fun _ => none) (cellsFrom (s.heap.objs.size + 1) scope.names []) (bindC (envOfC qual scope s.heap.objs.size f cd).kindOf (ps.zip us) fun _ => none) s1) :
    Inv (cxOf CX P w K mg base N qual scope f cd A outer s H E) [] (start N vs) H s1 := by
  have hpl : ps.length ≤ N.length := by have := congrArg List.length S.pre; rw [List.length_take] at this; omega
  obtain ⟨h1, tk, rfl, hk⟩ := x.done
  have noA : ∀ b : Addr, b ∉ (cxOf CX P w K mg base N qual scope f cd A outer s H E).ex := fun b z => absurd (show b ∈ ([] : List Addr) from z) (by simp)
  refine ⟨⟨e0.mod, S.kind, rfl, rfl, Nat.le_refl _, fun y z c h1 h2 => ?_, fun y hy => ?_, fun y c _ h => ?_, fun _ => hd, Around.frames_deeper e0.frames, .inr ⟨rfl, rfl⟩, fun b z => absurd z (noA b), e0.bs, e0.bsz, fun b _ _ => noA b, fun b z => absurd z (noA b), e0.funs, e0.frf⟩,
    rfl, e0.bare, Un.kept hk, ⟨_, x.toInCall.ns, fun i y v h1 h2 h3 => ?_⟩, fun y c h => ⟨_, x.cell y c h⟩, e0.hok.fresh (Nat.le_refl _), fun y c h => ?_, fun p hp => absurd (show p ∈ ([] : List (Addr × Obj)) from hp) (by simp), e0.hok.kept hk, ?_⟩
  · exact name_of_addr x.apart (PySem.mem_of_lookup h1) (PySem.mem_of_lookup h2)
  · have hy : scope.names.lookup y = some .cell ∨ scope.names.lookup y = some .free := hy
    rcases hy with hy | hy
    · exact cell_has hy
    · exact absurd rfl (S.nofree _ (PySem.mem_of_lookup hy))
  · exact Nat.le_of_lt (x.above y c (PySem.mem_of_lookup h))
  · have hi : i < vs.length := by
      unfold start at h2
      by_cases hi : i < vs.length
      · exact hi
      · rw [List.getElem?_append_right (by simpa using hi)] at h2
        rw [List.getElem?_replicate] at h2
        split at h2 <;> cases h2
    have ha : vs[i]? = some v := by
      unfold start at h2
      rw [List.getElem?_append_left (by simpa using hi), List.getElem?_map] at h2
      cases e : vs[i]? with
      | none => rw [e] at h2; cases h2
      | some a => rw [e] at h2; cases h2; rfl
    obtain ⟨u, hu, rv⟩ := r.get ha
    have hp : ps[i]? = some y := by
      rw [← S.pre, List.getElem?_take_of_lt (by omega)]; exact h1
    have ndP : ps.Nodup := by rw [← S.pre]; exact S.nd.sublist (List.take_sublist _ _)
    refine ⟨u, rv, ?_⟩
    rcases S.par y (List.mem_of_getElem? hp) with k | k
    · exact .inl ⟨k, bindL_get ndP hp hu k⟩
    · obtain ⟨c, e⟩ := cell_has (n := s.heap.objs.size + 1) k
      refine .inr ⟨.inl k, c, e, ?_⟩
      have q := x.cell y c e
      rw [bindC_get ndP hp hu (by show scope.names.lookup y ≠ _; rw [k]; decide)] at q
      exact q
  · exact e0.hok.fresh (Nat.le_of_lt (x.above y c (PySem.mem_of_lookup h)))
  · unfold start
    show _ = N.length
    rw [List.length_append, List.length_map, List.length_replicate]
    omega

/-- THE RULE: a def (or a method) of the text, by its body. The body's reading t is chosen for each entry; it is run at the parameters' values -/
theorem fn_of {CX : CXT} {P : Program} {w : World} {K : PySem.W.Frag} {mg : Str → Option Value} {base : Heap} {k : Nat} {f : Addr} {name qual : Str} {params : Arguments} {body : List Stmt} {scope : Scope} {dV kV doc pm cdv ct oc : Value} {an od : Option Addr}
    {osl : Array (Option Value)} {N ps : List Str} {sp : Sp} (lk : K.lookup f = some ⟨oc, od, .func (PySem.W.fnOf name qual params body scope dV kV doc pm an cdv ct), osl⟩) (hcd : PySem.W.codeIn K cdv qual = true) (S : FnScope N ps scope)
    (len : ∀ vs H Q E, sp vs H Q E → vs.length = ps.length)
    (hbody : ∀ (A : Around) (outer : List Env) (s : Shared) (H : Hp) (vs : List V) (Q : VK) (E : XK), Room k (A.deeper (envOfC qual scope s.heap.objs.size f cdv)) → sp vs H Q E →
      ∃ t, PSs (cxOf CX P w K mg base N qual scope f cdv A outer s H E) body t ∧ t { nx := fun _ H' => Q .non H', rt := Q } (start N vs) H) :
    FnOk P w K mg base CX (k + 1) f (PySem.W.fnOf name qual params body scope dV kV doc pm an cdv ct) ps sp := by
  refine ⟨len, fun A outer s H args us vs Q E hr e0 hb r hsp => ?_⟩
  have hl := len _ _ _ _ hsp
  have KX : K.In s.heap := e0.mod.kin.keeps fun b o e => (e0.bs b o e).1
  have lim : s.heap.NoLimit := e0.mod.nolimit.keeps fun b o e => (e0.bs b o e).1
  have hkind : ∀ y ∈ ps.zip us, scope.names.lookup y.1 = some .local ∨ (scope.names.lookup y.1 = some .cell ∧ ((cellsFrom (s.heap.objs.size + 1) scope.names []).lookup y.1).isSome = true) := fun ⟨n, v⟩ hy => by
    rcases S.par n (List.of_mem_zip hy).1 with q | q
    · exact .inl q
    · exact .inr ⟨q, PySem.W.cellsFrom_some _ _ _ (.inl q)⟩
  refine codeAny_call_function hr.depth (KX _ _ lk) rfl S.co S.gen rfl (PySem.W.codeRec_of KX hcd) (hb _ _ _ _ ?_)
  refine wpAny_newFunctionEnv_cells S.kind hkind fun env he s1 x => ?_
  subst he
  refine ⟨lim.keeps x.toInCall.keep, codeAny_func ?_⟩
  obtain ⟨t, ht, hq⟩ := hbody A outer s H vs Q E (hr.deeper _) hsp
  have I : Inv (cxOf CX P w K mg base N qual scope f cdv A outer s H E) [] (start N vs) H s1 := inv_start S hr.hd e0 hl r x
  refine wpAny_mono (ht [] s1 (start N vs) H _ I hq) (fun fl s' hs => ?_) fun e s' hs => hs
  have fin : ∀ {σ' : St} {H' : Hp} {v : V} {u : Value}, Inv (cxOf CX P w K mg base N qual scope f cdv A outer s H E) [] σ' H' s' → RelV v u → Q v H' → CE outer P w H s Q u s' :=
    fun {σ' H' v u} J rv q => ⟨v, H', J.os, J.bare, J.base, J.hok, rv, q⟩
  cases fl with
  | ret u =>
    obtain ⟨v, σ', H', J, rv, q⟩ := hs
    exact fin J rv q
  | next =>
    obtain ⟨σ', H', J, q⟩ := hs
    exact fin (v := V.non) (u := Value.none) J rfl q
  | brk =>
    obtain ⟨_, _, _, q⟩ := hs
    exact False.elim q
  | cont =>
    obtain ⟨_, _, _, q⟩ := hs
    exact False.elim q
end L2

namespace L2
open PySem PySem.Spec PyProof.Rows
section
variable {X : Cx} {x : Str} {p pos : Pos} {e : Expr} {es : List Expr} {t : TA} {id T : String} {r : List V → Hp → VK → Prop}

def tCB (r : List V → Hp → VK → Prop) (t : TA) : TE := fun σ H Q => t σ H fun vs H1 => r vs H1 Q
/-- f(e, ..), f a built-in function -/
theorem pe_callB (hc : CallR X (.builtin id) r) (hg : Gl X x) (hm : X.mg x = none) (hv : bootBuiltins x = some (.builtin id)) (ha : PA X (e :: es) t) (hn : x ≠ "__name__" := by decide) (hdb : (x == ("__debug__" : Str)) = false := by decide)
    (he : starEach (e :: es) X.env = (false, eval e X.env) :: starEach es X.env := by rfl) (hpl : (backTo pos (starEach es X.env)).any (·.1) = false := by rfl) : PE X (.Call (.Name x p) (e :: es) [] pos) (tCB r t) := by
  intro pins s σ H Q I h
  refine wpAny_Call_Name_kw (ld_blt I hg hm hv ?_ hn hdb)
  exact PyProof.Rows.callWith_builtin1 (thn (ha pos pins s σ H _ I h) fun us s1 ⟨vs, H1, I1, r1, q1⟩ => hc pins s1 σ H1 vs us Q I1 r1 q1) he hpl
/-- T(e, ..), T a built-in type -/
theorem pe_callTy (hc : CallR X (.type T) r) (hg : Gl X x) (hm : X.mg x = none) (hv : bootBuiltins x = some (.type T)) (ha : PA X (e :: es) t) (hn : x ≠ "__name__" := by decide) (hdb : (x == ("__debug__" : Str)) = false := by decide)
    (he : starEach (e :: es) X.env = (false, eval e X.env) :: starEach es X.env := by rfl) (hpl : (backTo pos (starEach es X.env)).any (·.1) = false := by rfl) : PE X (.Call (.Name x p) (e :: es) [] pos) (tCB r t) := by
  intro pins s σ H Q I h
  refine wpAny_Call_Name_kw (ld_blt I hg hm hv ?_ hn hdb)
  exact PyProof.Rows.callWith_type1 (thn (ha pos pins s σ H _ I h) fun us s1 ⟨vs, H1, I1, r1, q1⟩ => hc pins s1 σ H1 vs us Q I1 r1 q1) he hpl
end
end L2

namespace HT
open PySem PyProof.Rows



section
open PySem.SeqAt
open PySem.AutoSeq1 (wpAny_loadPart')
open PySem.MeetsSeq PySem.MeetsSeq2 PySem.MeetsSeq3

end

section
variable {prog : Program} {w : World} {A : Around} {E : Value → Shared → Prop} {s : Shared}



/-! ### t[a:b], not the whole -/
/-- a slice's bound as a place among n (d where it is left out) -/
def sIx (n d : Nat) : Option Int → Nat
  | none => d
  | some v => if v < 0 then (v + (n : Int)).toNat else min v.toNat n
theorem sIx_none (n d : Nat) : sIx n d none = d := rfl

end
end HT

namespace L2
open PySem PySem.Spec PyProof.Rows

/-! ### the parts of a slice -/
abbrev TO := St → Hp → (Option Int → Hp → Prop) → Prop
/-- a slice's part (left out, or an int) -/
def PO (X : Cx) (e : Option Expr) (t : TO) : Prop :=
  ∀ (pins : List (Addr × Obj)) (s : Shared) (σ : St) (H : Hp) (Q : Option Int → Hp → Prop), Inv X pins σ H s → t σ H Q →
    wpAny (model X.prog X.w) X.A (evalPart e X.env) (fun u s' => ∃ o H', Inv X pins σ H' s' ∧ IsPart u o ∧ Q o H') X.xe s
def tNoPart : TO := fun _ H Q => Q none H
def tPart (t : TE) : TO := fun σ H Q => t σ H fun x H1 => ∃ i, x = .int i ∧ Q (some i) H1


section
variable {X : Cx} {e : Expr} {te : TE} {lo hi : Option Expr} {tl th : TO} {pos p2 : Pos}

theorem po_none : PO X none tNoPart := by
  intro pins s σ H Q I h
  rw [evalPart_none]
  exact wpAny_pure ⟨none, H, I, .none, h⟩
theorem po_some (h : PE X e te) : PO X (some e) (tPart te) := by
  intro pins s σ H Q I hw
  rw [evalPart_some]
  refine thn (h pins s σ H _ I hw) fun u s1 ⟨x, H1, I1, r1, q1⟩ => ?_
  obtain ⟨i, rfl, q⟩ := q1
  obtain ⟨t, rfl⟩ := r1
  exact ⟨some i, H1, I1, .int i t, q⟩

/-- what a slice of a value is, by values: the slice object stands at sl -/
def SlR (X : Cx) (r : V → Option Int → Option Int → Hp → VK → Prop) : Prop :=
  ∀ (pins : List (Addr × Obj)) (s : Shared) (σ : St) (H : Hp) (x : V) (v vl vu : Value) (lo hi : Option Int) (sl : Addr) (Q : VK), Inv X pins σ H s → RelV x v → s.heap.IsSliceOf sl vl vu .none → IsPart vl lo → IsPart vu hi → r x lo hi H Q →
    ∃ T id, typeLookup (.type T) "__getitem__" = pure (some (.builtin id)) ∧ s.TypeIs v T ∧ wpAny (model X.prog X.w) X.A (getItem v (.ref sl)) (EP X pins σ Q) X.xe s
theorem SlR.or {r r' : V → Option Int → Option Int → Hp → VK → Prop} (h : SlR X r) (h' : SlR X r') : SlR X (fun x lo hi H Q => r x lo hi H Q ∨ r' x lo hi H Q) := by
  intro pins s σ H x v vl vu lo hi sl Q I rx hs pl pu q
  rcases q with q | q
  · exact h pins s σ H x v vl vu lo hi sl Q I rx hs pl pu q
  · exact h' pins s σ H x v vl vu lo hi sl Q I rx hs pl pu q
def tSl (r : V → Option Int → Option Int → Hp → VK → Prop) (te : TE) (tl th : TO) : TE := fun σ H Q => te σ H fun x H1 => tl σ H1 fun l H2 => th σ H2 fun u H3 => r x l u H3 Q
/-- a[lo:hi], any a -/
theorem pe_slice {r : V → Option Int → Option Int → Hp → VK → Prop} (hr : SlR X r) (he : PE X e te) (hl : PO X lo tl) (hu : PO X hi th) : PE X (.Subscript e (.Slice lo hi none p2) pos) (tSl r te tl th) := by
  intro pins s σ H Q I h
  refine Subscript_ (thn (he pins s σ H _ I h) fun v s1 ⟨x, H1, I1, r1, q1⟩ => ?_)
  refine wpAny_Slice (thn (hl pins s1 σ H1 _ I1 q1) fun vl s2 ⟨l, H2, I2, pl, q2⟩ => thn (hu pins s2 σ H2 _ I2 q2) fun vu s3 ⟨u, H3, I3, pu, q3⟩ => ?_)
  rw [evalPart_none]
  refine wpAny_pure ?_
  have I4 : Inv X pins σ H3 { s3 with heap := s3.heap.push { cls := .type "slice", data := .fields #[vl, vu, .none] } } := I3.kept (t' := s3.toks) fun b ob q => Heap.get?_push_of_some _ q
  obtain ⟨T, id, hT, ht, hg⟩ := hr pins { s3 with heap := s3.heap.push { cls := .type "slice", data := .fields #[vl, vu, .none] } } σ H3 x v vl vu l u s3.heap.objs.size Q I4 r1 (Heap.IsSliceOf.new ..) pl pu q3
  show wpAny (model X.prog X.w) X.A (subscriptTail e (.Slice lo hi none p2) v (.ref s3.heap.objs.size)) (EP X pins σ Q) X.xe { s3 with heap := s3.heap.push { cls := .type "slice", data := .fields #[vl, vu, .none] } }
  exact tail_any (ops := [.ref s3.heap.objs.size, v]) ht hT hg (by with_unfolding_all rfl)

/-- the items of xs[lo:hi] -/
def cutV (xs : List V) (lo hi : Option Int) : List V := (xs.drop (HT.sIx xs.length 0 lo)).take (HT.sIx xs.length xs.length hi - HT.sIx xs.length 0 lo)
theorem cutV_length (xs : List V) (lo hi : Option Int) : (cutV xs lo hi).length ≤ xs.length := by
  unfold cutV
  rw [List.length_take, List.length_drop]
  omega

/-! ### t < u, t + u -/
end
end L2

namespace L2
open PySem PySem.Spec PyProof.Rows

/-! ### places -/
/-- the place that an index of any sign means -/
def ixN (n : Nat) (i : Int) : Option Nat := if 0 ≤ i then (if i < n then some i.toNat else none) else if -(n : Int) ≤ i then some (i + n).toNat else none
def atI {α : Type} (xs : List α) (i : Int) : Option α := (ixN xs.length i).bind fun j => xs[j]?
theorem ixN_seq {n : Nat} {i : Int} {j : Nat} (h : ixN n i = some j) : seqIndex? i n = some j ∧ j < n ∧ -(n : Int) ≤ i ∧ i < n := by
  unfold ixN at h
  by_cases h0 : 0 ≤ i
  · rw [if_pos h0] at h
    by_cases h1 : i < n
    · rw [if_pos h1] at h
      have e : i.toNat = j := Option.some.inj h
      exact ⟨by rw [seqIndex_of h0 h1, e], by omega, by omega, h1⟩
    · rw [if_neg h1] at h; cases h
  · rw [if_neg h0] at h
    by_cases h1 : -(n : Int) ≤ i
    · rw [if_pos h1] at h
      have e : (i + n).toNat = j := Option.some.inj h
      exact ⟨by rw [seqIndex_neg (by omega) h1, e], by omega, h1, by omega⟩
    · rw [if_neg h1] at h; cases h
theorem atI_get {α : Type} {xs : List α} {i : Int} {v : α} (h : atI xs i = some v) : ∃ j, seqIndex? i xs.length = some j ∧ xs[j]? = some v ∧ j < xs.length ∧ -(xs.length : Int) ≤ i ∧ i < xs.length := by
  unfold atI at h
  cases e : ixN xs.length i with
  | none => rw [e] at h; cases h
  | some j =>
    rw [e] at h
    obtain ⟨h1, h2, h3, h4⟩ := ixN_seq e
    exact ⟨j, h1, h, h2, h3, h4⟩
theorem atI_nat {α : Type} {xs : List α} {j : Nat} {v : α} (h : xs[j]? = some v) : atI xs (j : Int) = some v := by
  have hj : j < xs.length := (List.getElem?_eq_some_iff.mp h).1
  have e : ixN xs.length (j : Int) = some j := by
    unfold ixN
    rw [if_pos (by omega), if_pos (by omega)]; simp
  unfold atI; rw [e]; exact h

/-! ### what may be subscripted -/
/-- what stands as an index of a plain subscript -/
def PlainIx (b : Expr) : Prop := ∀ o i, subscripted b false o i = operate [o, i] (getItem o i)
/-- a subscript by values -/
def IxR (X : Cx) (r : R2) : Prop :=
  ∀ (value slice : Expr) (pins : List (Addr × Obj)) (s : Shared) (σ : St) (H : Hp) (x y : V) (v u : Value) (Q : VK), Inv X pins σ H s → RelV x v → RelV y u → r x y H Q →
    subscripted slice false v u = operate [v, u] (getItem v u) → wpAny (model X.prog X.w) X.A (subscriptTail value slice v u) (EP X pins σ Q) X.xe s
/-- a call of a builtin's method by values: the receiver, the arguments -/
def MtR (X : Cx) (id : String) (r : V → List V → Hp → VK → Prop) : Prop :=
  ∀ (pins : List (Addr × Obj)) (s : Shared) (σ : St) (H : Hp) (x : V) (xs : List V) (v : Value) (us : List Value) (Q : VK), Inv X pins σ H s → RelV x v → Vals xs us → r x xs H Q →
    wpAny (model X.prog X.w) X.A (call (.builtin id) (v :: us)) (EP X pins σ Q) X.xe s
section
variable {X : Cx} {a b : Expr} {ta tb : TE} {pos : Pos}
theorem IxR.or {r r' : R2} (h : IxR X r) (h' : IxR X r') : IxR X (fun x y H Q => r x y H Q ∨ r' x y H Q) := by
  intro value slice pins s σ H x y v u Q I rx ry q hs
  rcases q with q | q
  · exact h value slice pins s σ H x y v u Q I rx ry q hs
  · exact h' value slice pins s σ H x y v u Q I rx ry q hs
theorem MtR.or {id : String} {r r' : V → List V → Hp → VK → Prop} (h : MtR X id r) (h' : MtR X id r') : MtR X id (fun x xs H Q => r x xs H Q ∨ r' x xs H Q) := by
  intro pins s σ H x xs v us Q I rx rs q
  rcases q with q | q
  · exact h pins s σ H x xs v us Q I rx rs q
  · exact h' pins s σ H x xs v us Q I rx rs q
/-- a[b] -/
theorem pe_ix {r : R2} (hr : IxR X r) (ha : PE X a ta) (hb : PE X b tb) (hs : PlainIx b) : PE X (.Subscript a b pos) (tOp r ta tb) := by
  intro pins s σ H Q I h
  exact Subscript_ (binT ha hb I h fun v u s2 x y H2 I2 rx ry q => hr a b pins s2 σ H2 x y v u Q I2 rx ry q (hs _ _))

def rIxL (K : PySem.W.Frag) : R2 := fun x y H Q => ∃ p xs i v, x = .ref p ∧ y = .int i ∧ SqL K H p xs ∧ atI xs i = some v ∧ Q v H
def rIxS : R2 := fun x y H Q => ∃ z i c, x = .str z ∧ y = .int i ∧ z.length ≤ sizeLine ∧ atI z.cps.toList i = some c ∧ Q (.str ⟨#[c]⟩) H
theorem ix_list : IxR X (rIxL X.K) := by
  intro value slice pins s σ H x y v u Q I rx ry h hs
  obtain ⟨p, xs, i, z, rfl, rfl, hq, he, q⟩ := h
  cases rx
  obtain ⟨t, rfl⟩ := ry
  obtain ⟨its, r, pl, hz⟩ := I.list hq
  obtain ⟨j, h1, h2, h3, h4, h5⟩ := atI_get he
  obtain ⟨w, ew, rw'⟩ := r.get h2
  have hl := r.length
  have hn := line63
  have fin : EP X pins σ Q w s := ⟨z, H, I, rw', q⟩
  by_cases h0 : 0 ≤ i
  · have hj : i.toNat = j := by
      rw [seqIndex_of h0 h5] at h1
      exact Option.some.inj h1
    exact item_listR pl.isList h0 (by omega) (by rw [hj]; simpa using ew) fin hs
  · have hj : (i + (its.toArray.size : Int)).toNat = j := by
      rw [seqIndex_neg (by omega) h4] at h1
      rw [List.size_toArray, ← hl]
      exact Option.some.inj h1
    exact subscriptTail_builtinR (x := w) pl.isList.typeIs slot_list_getitem.lookup
      (wpAny_getItem_list_neg (Q := fun r s' => r = w ∧ EP X pins σ Q r s') pl.isList (by omega) (by rw [List.size_toArray] <;> omega) (by omega) (by rw [hj]; simpa using ew) ⟨rfl, fin⟩) hs
theorem ix_str : IxR X rIxS := by
  intro value slice pins s σ H x y v u Q I rx ry h hs
  obtain ⟨z, i, c, rfl, rfl, hz, he, q⟩ := h
  obtain ⟨t, rfl⟩ := rx
  obtain ⟨t', rfl⟩ := ry
  obtain ⟨j, h1, h2, h3, h4, h5⟩ := atI_get he
  have hl : z.cps.toList.length = z.length := by simp [Str.length]
  rw [hl] at h1 h4 h5
  have hn := line63
  exact tail_any (typeIs_str s z t) slot_str_getitem.lookup (getItem_str (c := c) (by
    have e1 : decide (i < -(2 ^ 63 : Int)) = false := decide_eq_false (by omega)
    have e2 : decide (i ≥ 2 ^ 63) = false := decide_eq_false (by omega)
    rw [e1, e2, Bool.or_false]) (by rw [h1]; simpa using h2) ⟨.str ⟨#[c]⟩, H, I.tok _, ⟨_, rfl⟩, q⟩) hs

/-! ### xs[i] = v, any sign -/
/-- the list's object behind a store -/
theorem mapSeq_set (its : List Value) (n j : Nat) (u : Value) : Obj.mapSeq (·.setIfInBounds j u) { cls := .type "list", data := .seq its.toArray n } = { cls := .type "list", data := .seq (its.set j u).toArray n } := by
  simp [Obj.mapSeq]
theorem Inv.lst {pins : List (Addr × Obj)} {σ : St} {H : Hp} {s : Shared} {p : Addr} {xs : List V} (I : Inv X pins σ H s) (h : H p = some (.lst xs)) :
    ∃ (its : List Value) (n : Nat), Vals xs its ∧ s.heap.get? p = some { cls := .type "list", data := .seq its.toArray n } ∧ xs.length ≤ sizeLine := by
  obtain ⟨z, its, n, r, e⟩ := I.hok p _ h
  exact ⟨its, n, r, e, z⟩
/-- the list at p is written by an update of its object -/
theorem Inv.lstUpd {pins : List (Addr × Obj)} {σ : St} {H : Hp} {s : Shared} {p : Addr} {xs ys : List V} {its its' : List Value} {n n' : Nat} {f : Obj → Obj} (I : Inv X pins σ H s) (h : H p = some (.lst xs))
    (ho : s.heap.get? p = some { cls := .type "list", data := .seq its.toArray n }) (hf : f { cls := .type "list", data := .seq its.toArray n } = { cls := .type "list", data := .seq its'.toArray n' }) (r : Vals ys its') (hz : ys.length ≤ sizeLine) (t : Nat) :
    Inv X pins σ (upd H p (.lst ys)) { s with heap := s.heap.update p f, toks := t } := by
  have e : (s.heap.update p f).get? p = some { cls := .type "list", data := .seq its'.toArray n' } := by
    rw [Heap.get?_update_self f ho (by rw [hf] <;> rfl), hf]
  refine I.write (x := p) (e := p) (by rw [h]; trivial) (.inl rfl) (fun b u hb q => (Heap.get?_update_other _ _ (Ne.symm hb)).trans q) ⟨_, e⟩ ?_
  exact ⟨hz, its', n', r, e⟩
def rSetL : V → V → V → Hp → (Hp → Prop) → Prop := fun o i v H Q => ∃ p xs k j, o = .ref p ∧ i = .int k ∧ H p = some (.lst xs) ∧ ixN xs.length k = some j ∧ Q (upd H p (.lst (xs.set j v)))
theorem set_list : PSet X rSetL := by
  intro pins s σ H o i v ov iv u Q I ro ri rv h
  obtain ⟨p, xs, k, j, rfl, rfl, hp, hj, q⟩ := h
  cases ro
  obtain ⟨t, rfl⟩ := ri
  obtain ⟨its, n, r, ho, hz⟩ := I.lst hp
  obtain ⟨h1, h2, h3, h4⟩ := ixN_seq hj
  have hl := r.length
  have hn := line63
  have I' : Inv X pins σ (upd H p (.lst (xs.set j v))) { s with heap := s.heap.update p (Obj.mapSeq (·.setIfInBounds j u)) } :=
    I.lstUpd hp ho (mapSeq_set its n j u) (r.set rv j) (by rw [List.length_set]; exact hz) s.toks
  by_cases h0 : 0 ≤ k
  · have hk : k.toNat = j := by
      rw [seqIndex_of h0 h4] at h1
      exact Option.some.inj h1
    exact PySem.W.ki_setAt ho h0 (by omega) (by rw [List.size_toArray, ← hl]; exact h4) (by rw [hk]; exact ⟨_, I', q⟩)
  · have hk : (k + (its.toArray.size : Int)).toNat = j := by
      rw [seqIndex_neg (by omega) h3] at h1
      rw [List.size_toArray, ← hl]
      exact Option.some.inj h1
    exact PySem.W.ki_setBack ho (by omega) (by rw [List.size_toArray, ← hl]; exact h3) (by omega) (by rw [hk]; exact ⟨_, I', q⟩)

/-! ### slices -/
theorem slice_bounds (lo hi : Option Int) (n : Nat) : (sliceBounds lo hi none n).1 = ((HT.sIx n 0 lo : Nat) : Int) ∧ (sliceBounds lo hi none n).2.1 = ((HT.sIx n n hi : Nat) : Int) ∧ (sliceBounds lo hi none n).2.2 = 1 := by
  refine ⟨?_, ?_, rfl⟩
  · cases lo with
    | none => simp [sliceBounds, HT.sIx]
    | some i =>
      simp only [sliceBounds, HT.sIx, Option.getD_none, show (1 : Int) > 0 by decide, if_true]
      by_cases h : i < 0
      · simp only [h, if_true] <;> omega
      · simp only [h, if_false] <;> omega
  · cases hi with
    | none => simp [sliceBounds, HT.sIx]
    | some i =>
      simp only [sliceBounds, HT.sIx, Option.getD_none, show (1 : Int) > 0 by decide, if_true]
      by_cases h : i < 0
      · simp only [h, if_true] <;> omega
      · simp only [h, if_false] <;> omega
theorem slicePick_cut (its : List Value) (lo hi : Option Int) : slicePick its.toArray lo hi none = ((its.drop (HT.sIx its.length 0 lo)).take (HT.sIx its.length its.length hi - HT.sIx its.length 0 lo)).toArray := by
  obtain ⟨h1, h2, h3⟩ := slice_bounds lo hi its.toArray.size
  unfold slicePick
  rw [h1, h2, h3]
  simp only [sliceRange_one, pick_run, List.size_toArray] <;> rfl
/-- xs[lo:hi] of a list: a new list -/
def rSlL (K : PySem.W.Frag) : V → Option Int → Option Int → Hp → VK → Prop := fun x lo hi H Q => ∃ a xs, x = .ref a ∧ SqL K H a xs ∧ ∀ p, H p = none → Q (.ref p) (upd H p (.lst (cutV xs lo hi)))
theorem sl_list : SlR X (rSlL X.K) := by
  intro pins s σ H x v vl vu lo hi sl Q I rx hs pl pu h
  obtain ⟨a, xs, rfl, hx, q⟩ := h
  cases rx
  obtain ⟨its, r, ht, hz⟩ := I.list hx
  have hlen := r.length
  refine ⟨"list", _, slot_list_getitem.lookup, ht.isList.typeIs, ?_⟩
  refine wpAny_getItem_list_slice ht.isList hs pl pu .none (by simp) ?_ (by rw [List.size_toArray] <;> omega)
  rw [slicePick_cut, ← hlen]
  refine ⟨.ref s.heap.objs.size, _, I.laid (t' := s.toks) (o := .lst (cutV xs lo hi)) (fun b ob q => Heap.get?_push_of_some _ q) (Nat.le_refl _) ?_, rfl, q _ (I.hok.fresh (Nat.le_refl _))⟩
  exact ⟨Nat.le_trans (cutV_length xs lo hi) hz, _, 0, (r.drop (HT.sIx xs.length 0 lo)).take (HT.sIx xs.length xs.length hi - HT.sIx xs.length 0 lo), Heap.get?_push_size _ rfl⟩

/-! ### in, not in: flat items -/
def flatV : V → Bool
  | .non => true
  | .bl _ => true
  | .int _ => true
  | .str _ => true
  | _ => false
/-- == of flat values -/
def eqV : V → V → Bool
  | .non, .non => true
  | .bl a, .bl b => a == b
  | .bl a, .int b => (if a then 1 else 0) == b
  | .int a, .bl b => a == (if b then 1 else 0)
  | .int a, .int b => a == b
  | .str a, .str b => a == b
  | _, _ => false
theorem eqAt_V {A : Around} {s : Shared} {y x : V} {u v : Value} (ry : RelV y u) (rx : RelV x v) (fy : flatV y = true) (fx : flatV x = true) : SeqAt.EqAt A s u v (eqV y x) := by
  cases y with
  | non =>
    cases ry
    cases x with
    | non => cases rx; exact SeqAt.EqAt.same _
    | bl b => cases rx; exact SeqAt.EqAt.none_bool b
    | int b => obtain ⟨t, rfl⟩ := rx; exact SeqAt.EqAt.none_int b t
    | str b => obtain ⟨t, rfl⟩ := rx; exact SeqAt.EqAt.none_str b t
    | _ => exact absurd (show false = true from fx) Bool.false_ne_true
  | bl a =>
    cases ry
    cases x with
    | non => cases rx; exact SeqAt.EqAt.bool_none a
    | bl b => cases rx; exact SeqAt.EqAt.bool_bool a b
    | int b => obtain ⟨t, rfl⟩ := rx; exact SeqAt.EqAt.bool_int a b t
    | str b => obtain ⟨t, rfl⟩ := rx; exact SeqAt.EqAt.bool_str a b t
    | _ => exact absurd (show false = true from fx) Bool.false_ne_true
  | int a =>
    obtain ⟨t', rfl⟩ := ry
    cases x with
    | non => cases rx; exact SeqAt.EqAt.int_none a t'
    | bl b => cases rx; exact SeqAt.EqAt.int_bool a t' b
    | int b => obtain ⟨t, rfl⟩ := rx; exact SeqAt.EqAt.int_int a t' b t
    | str b => obtain ⟨t, rfl⟩ := rx; exact SeqAt.EqAt.int_str a t' b t
    | _ => exact absurd (show false = true from fx) Bool.false_ne_true
  | str a =>
    obtain ⟨t', rfl⟩ := ry
    cases x with
    | non => cases rx; exact SeqAt.EqAt.str_none a t'
    | bl b => cases rx; exact SeqAt.EqAt.str_bool a t' b
    | int b => obtain ⟨t, rfl⟩ := rx; exact SeqAt.EqAt.str_int a t' b t
    | str b => obtain ⟨t, rfl⟩ := rx; exact SeqAt.EqAt.str_str a t' b t
    | _ => exact absurd (show false = true from fx) Bool.false_ne_true
  | _ => exact absurd (show false = true from fy) Bool.false_ne_true

/-! ### len, list(x), tuple(x) of any list or tuple that is read -/
theorem call_len_seq : CallR X (.builtin "len") (fun xs H Q => ∃ p ys, xs = [.ref p] ∧ (SqL X.K H p ys ∨ SqT X.K H p ys) ∧ Q (.int ys.length) H) := by
  intro pins s σ H xs us Q I r h
  obtain ⟨p, ys, rfl, hq, q⟩ := h
  obtain ⟨u, rfl, rx⟩ := vals1 r
  cases rx
  have hn := line63
  rcases hq with hq | hq
  · obtain ⟨its, r', pl, hz⟩ := I.list hq
    have hlen := r'.length
    exact Calls.call_len_list pl.isList (by simp only [List.size_toArray] <;> omega) ⟨.int ys.length, H, I.tok _, ⟨s.toks + 1, by rw [List.size_toArray, hlen]⟩, q⟩
  · obtain ⟨its, r', pl, hz⟩ := I.tuple hq
    have hlen := r'.length
    exact len_tuple pl (by simp only [List.size_toArray] <;> omega) ⟨.int ys.length, H, I.tok _, ⟨s.toks + 1, by rw [List.size_toArray, hlen]⟩, q⟩
theorem call_len_str : CallR X (.builtin "len") (fun xs H Q => ∃ z, xs = [.str z] ∧ z.length ≤ sizeLine ∧ Q (.int z.length) H) := by
  intro pins s σ H xs us Q I r h
  obtain ⟨z, rfl, hz, q⟩ := h
  obtain ⟨u, rfl, t, rfl⟩ := vals1 r
  have hn := line63
  exact len_str (by omega) ⟨.int z.length, H, I.tok _, ⟨_, rfl⟩, q⟩
theorem CallR.or {f : Value} {r r' : List V → Hp → VK → Prop} (h : CallR X f r) (h' : CallR X f r') : CallR X f (fun xs H Q => r xs H Q ∨ r' xs H Q) := by
  intro pins s σ H xs us Q I rs q
  rcases q with q | q
  · exact h pins s σ H xs us Q I rs q
  · exact h' pins s σ H xs us Q I rs q
theorem call_list_of : CallR X (.type "list") (fun xs H Q => ∃ p ys, xs = [.ref p] ∧ (SqL X.K H p ys ∨ SqT X.K H p ys) ∧ ∀ l, H l = none → Q (.ref l) (upd H l (.lst ys))) := by
  intro pins s σ H xs us Q I r h
  obtain ⟨p, ys, rfl, hq, q⟩ := h
  obtain ⟨u, rfl, rx⟩ := vals1 r
  cases rx
  have fin : ∀ (its : List Value), Vals ys its → ys.length ≤ sizeLine → ∀ (h' : Heap) (c' : Nat), (∀ b o', s.heap.get? b = some o' → h'.get? b = some o') →
      h'.get? s.heap.objs.size = some { cls := .type "list", dict := none, data := .seq its.toArray c', slots := #[] } → EP X pins σ Q (.ref s.heap.objs.size) { s with heap := h' } := fun its r' hz h' c' kp e =>
    ⟨.ref s.heap.objs.size, _, I.laid (t' := s.toks) kp (Nat.le_refl _) (show ObjOk X.prog X.w _ h' _ (.lst ys) from ⟨hz, its, c', r', e⟩), rfl, q _ (I.hok.fresh (Nat.le_refl _))⟩
  rcases hq with hq | hq
  · obtain ⟨its, r', pl, hz⟩ := I.list hq
    have hlen := r'.length
    obtain ⟨o, ho, hc, n, hd⟩ := pl.isList
    exact call_list_seq p (.inl rfl) ho hc hd (fun h' c' kp e => fin its r' hz h' c' kp e) (by simp only [List.size_toArray] <;> omega)
  · obtain ⟨its, r', pl, hz⟩ := I.tuple hq
    have hlen := r'.length
    obtain ⟨o, ho, hc, n, hd⟩ := pl
    exact call_list_seq p (.inr rfl) ho hc hd (fun h' c' kp e => fin its r' hz h' c' kp e) (by simp only [List.size_toArray] <;> omega)

/-! ### the call of a builtin's method: o.m(..) -/
/-- the value is of that builtin type -/
def tyV (K : PySem.W.Frag) (T : String) (x : V) (H : Hp) : Prop := match x with
  | .str _ => T = "str"
  | .int _ => T = "int"
  | .ref p => (T = "list" ∧ ∃ xs, SqL K H p xs) ∨ (T = "tuple" ∧ ∃ o, K.lookup p = some o ∧ o.cls = .type "tuple" ∧ o.dict = none) ∨
      (T = "dict" ∧ ((∃ kvs, H p = some (.dK kvs)) ∨ ∃ kvs, H p = some (.dT kvs))) ∨ (T = "set" ∧ ∃ S n, H p = some (.set S n))
  | _ => False
theorem tyV_is {pins : List (Addr × Obj)} {σ : St} {H : Hp} {s : Shared} {T : String} {x : V} {v : Value} (I : Inv X pins σ H s) (r : RelV x v) (ty : tyV X.K T x H) :
    s.TypeIs v T ∧ ∀ a, v = .ref a → ∃ ob, s.heap.get? a = some ob ∧ ob.dict = none := by
  cases x with
  | str z =>
    obtain ⟨t, rfl⟩ := r
    cases (show T = "str" from ty)
    exact ⟨typeIs_str s z t, fun _ e => nomatch e⟩
  | int i =>
    obtain ⟨t, rfl⟩ := r
    cases (show T = "int" from ty)
    exact ⟨typeIs_int s i t, fun _ e => nomatch e⟩
  | ref p =>
    cases r
    rcases ty with ⟨rfl, xs, hq⟩ | ⟨rfl, o, hk, hc, hd⟩ | ⟨rfl, hk⟩ | ⟨rfl, S, n, hk⟩
    · obtain ⟨its, _, pl, _⟩ := I.list hq
      refine ⟨pl.isList.typeIs, fun a e => ?_⟩
      cases e
      obtain ⟨o, n, e, c, hd, _⟩ := pl
      exact ⟨o, e, hd⟩
    · refine ⟨⟨o, I.kIn p o hk, hc⟩, fun a e => ?_⟩
      cases e
      exact ⟨o, I.kIn _ o hk, hd⟩
    · have z : ∃ o, s.heap.get? p = some o ∧ o.ExactDict := by
        rcases hk with ⟨kvs, hk⟩ | ⟨kvs, hk⟩
        · obtain ⟨_, _, _, _, o, _, _, e, ex, _⟩ := I.hok p _ hk
          exact ⟨o, e, ex⟩
        · obtain ⟨_, _, _, _, o, _, _, e, ex, _⟩ := I.hok p _ hk
          exact ⟨o, e, ex⟩
      obtain ⟨o, e, ex⟩ := z
      refine ⟨⟨o, e, ex.1⟩, fun a e2 => ?_⟩
      cases e2
      exact ⟨o, e, ex.2.1⟩
    · obtain ⟨o, _, _, _, e, ex, _⟩ := I.hok p _ hk
      refine ⟨⟨o, e, ex.1⟩, fun a e2 => ?_⟩
      cases e2
      exact ⟨o, e, ex.2.1⟩
  | _ => exact False.elim ty
def tBM (K : PySem.W.Frag) (T : String) (r : V → List V → Hp → VK → Prop) (to : TE) (t : TA) : TE := fun σ H Q => to σ H fun x H1 => tyV K T x H1 ∧ t σ H1 fun xs H2 => r x xs H2 Q
variable {o e : Expr} {es : List Expr} {to : TE} {t : TA} {name : Str} {apos cpos : Pos} {T id : String} {r : V → List V → Hp → VK → Prop}
theorem pe_bm (pa : PlainAttrs T) (slot : Slot T name id) (hty : typeOf (.builtin id) = pure (.type "method_descriptor")) (hm : MtR X id r) (ho : PE X o to) (ha : PA X (e :: es) t)
    (hbase : attributeBase o name X.env (eval o X.env) = eval o X.env := by rfl)
    (hfew : ((backTo cpos (starEach (e :: es) X.env)).all (fun x => !x.1) && (backToKw cpos (keywordEach [] X.env)).all (fun x => x.1.isSome)
      && decide ((e :: es).length + ([] : List Keyword).length + (if ([] : List Keyword).isEmpty then 0 else 1) < 30)) = true := by rfl)
    (hline : (apos.endLine == cpos.line) = true := by rfl) (hs : starEach (e :: es) X.env = (false, eval e X.env) :: starEach es X.env := by rfl) (hplain : (backTo cpos (starEach es X.env)).any (·.1) = false := by rfl) :
    PE X (.Call (.Attribute o name apos) (e :: es) [] cpos) (tBM X.K T r to t) := by
  intro pins s σ H Q I h
  refine wpAny_Call_method_late hbase hfew hline rfl (thn (ho pins s σ H _ I h) fun v s1 ⟨x, H1, I1, r1, ty, q1⟩ => ?_)
  obtain ⟨h1, h2⟩ := tyV_is I1 r1 ty
  refine ⟨T, id, pa, slot, hty, h1, h2, ?_⟩
  have hA := ha cpos pins s1 σ H1 _ I1 q1
  rw [hs] at hA ⊢
  refine Calls.callWith_builtin (by show (false || (backTo cpos (starEach es X.env)).any (·.1)) = false; rw [hplain] <;> rfl) (Calls.evalArgs_plain ?_)
  exact thn hA fun us s2 ⟨vs, H2, I2, r2, q2⟩ => hm pins s2 σ H2 x vs v us Q I2 r1 r2 q2
/- xs.append(e), list.index on a module's tuple .. are MtR facts of 06m -/
end
end L2

namespace L2
open PySem PySem.Spec PyProof.Rows

def MtM (X : Cx) (id : String) (r : V → List V → Hp → VK → Prop) : Prop :=
  ∀ (pins : List (Addr × Obj)) (s : Shared) (σ : St) (H : Hp) (x : V) (xs : List V) (v : Value) (us : List Value) (Q : VK), Inv X pins σ H s → RelV x v → Vals xs us → r x xs H Q →
    wpAny (model X.prog X.w) X.A (call (.builtin id) (v :: us)) (EP X pins σ Q) X.xe s

/-! ### lists of values -/
theorem Vals.one : ∀ {x : V} {us : List Value}, Vals [x] us → ∃ u, us = [u] ∧ RelV x u
  | _, _, .cons r .nil => ⟨_, rfl, r⟩
theorem Vals.two : ∀ {x y : V} {us : List Value}, Vals [x, y] us → ∃ u v, us = [u, v] ∧ RelV x u ∧ RelV y v
  | _, _, _, .cons r (.cons q .nil) => ⟨_, _, rfl, r, q⟩
theorem Vals.zero : ∀ {us : List Value}, Vals [] us → us = []
  | _, .nil => rfl
theorem Vals.dropLast {xs : List V} {us : List Value} (h : Vals xs us) : Vals xs.dropLast us.dropLast := by
  induction h with
  | nil => exact .nil
  | cons r t ih =>
    cases t with
    | nil => exact .nil
    | cons q t' => exact .cons r ih
theorem Vals.eraseIdx : ∀ {xs : List V} {us : List Value} (i : Nat), Vals xs us → Vals (xs.eraseIdx i) (us.eraseIdx i)
  | _, _, _, .nil => .nil
  | _, _, 0, .cons _ t => t
  | _, _, i + 1, .cons r t => .cons r (Vals.eraseIdx i t)
theorem Vals.reverse {xs : List V} {us : List Value} (h : Vals xs us) : Vals xs.reverse us.reverse := by
  induction h with
  | nil => exact .nil
  | cons r t ih => rw [List.reverse_cons, List.reverse_cons]; exact Vals.append ih (.cons r .nil)
theorem Vals.rep {xs : List V} {us : List Value} (h : Vals xs us) : ∀ k : Nat, Vals (List.replicate k xs).flatten (List.replicate k us).flatten
  | 0 => .nil
  | k + 1 => by
    rw [List.replicate_succ, List.replicate_succ, List.flatten_cons, List.flatten_cons]
    exact Vals.append h (Vals.rep h k)
theorem foldl_rep (its : List Value) : ∀ (k : Nat) (acc : List Value),
    List.foldl (fun x1 x2 => x1 ++ x2) acc.toArray (List.replicate k its.toArray) = (acc ++ (List.replicate k its).flatten).toArray
  | 0, acc => by simp
  | k + 1, acc => by
    have e : acc.toArray ++ its.toArray = (acc ++ its).toArray := by simp
    have e2 : (acc ++ its) ++ (List.replicate k its).flatten = acc ++ (List.replicate (k + 1) its).flatten := by
      rw [List.replicate_succ, List.flatten_cons, List.append_assoc]
    rw [← e2, ← foldl_rep its k (acc ++ its), ← e, List.replicate_succ, List.foldl_cons]

section
variable {X : Cx} {pins : List (Addr × Obj)} {σ : St} {H : Hp} {s : Shared} {l b : Addr} {xs ys zs : List V}

/-! ### the two steps: a tracked list is rewritten, a new list is laid -/
theorem Inv.lset {its its' : List Value} {n : Nat} {f : Array Value → Array Value} {t' : Nat} (I : Inv X pins σ H s) (hH : H l = some (.lst xs))
    (e : s.heap.get? l = some { cls := .type "list", data := .seq its.toArray n }) (hf : f its.toArray = its'.toArray) (hv : Vals ys its') (hz : ys.length ≤ sizeLine) :
    Inv X pins σ (upd H l (.lst ys)) { s with heap := s.heap.update l (Obj.mapSeq f), toks := t' } := by
  have q := PySem.IsL.update e f
  rw [hf] at q
  refine I.write (x := l) (e := l) (by rw [hH]; exact trivial) (.inl rfl) (fun b' u hb hu => (Heap.get?_update_other s.heap (Obj.mapSeq f) (Ne.symm hb)).trans hu) ⟨_, q⟩ ?_
  exact ⟨hz, its', _, hv, q⟩
theorem Inv.lnew {its : List Value} {t' : Nat} (I : Inv X pins σ H s) (hv : Vals ys its) (hz : ys.length ≤ sizeLine) :
    Inv X pins σ (upd H s.heap.objs.size (.lst ys)) { s with heap := s.heap.push { cls := .type "list", data := .seq its.toArray }, toks := t' } :=
  I.laid (fun _ _ q => Heap.get?_push_of_some _ q) (Nat.le_refl _) ⟨hz, its, 0, hv, Heap.get?_push_size _ rfl⟩
theorem Inv.fresh (I : Inv X pins σ H s) : H s.heap.objs.size = none := I.hok.fresh (Nat.le_refl _)
theorem Inv.lstM (I : Inv X pins σ H s) (hH : H l = some (.lst xs)) : xs.length ≤ sizeLine ∧ ∃ (its : List Value) (n : Nat), Vals xs its ∧ xs.length = its.length ∧ s.heap.get? l = some { cls := .type "list", data := .seq its.toArray n } := by
  obtain ⟨z, its, n, r, e⟩ := I.hok l _ hH
  exact ⟨z, its, n, r, r.length, e⟩

theorem notLongL {n : Nat} (h : n ≤ sizeLine) : Builtin.List.listTooLong n = false := by
  unfold Builtin.List.listTooLong
  exact decide_eq_false (by omega)
end

section
variable {X : Cx}

/-! ### methods -/
def rAppend : V → List V → Hp → VK → Prop := fun x vs H Q => ∃ l xs y, x = .ref l ∧ vs = [y] ∧ H l = some (.lst xs) ∧ xs.length < sizeLine ∧ Q .non (upd H l (.lst (xs ++ [y])))
theorem mt_append : MtM X "list.append" rAppend := by
  intro pins s σ H x vs v us Q I rx rv h
  obtain ⟨l, xs, y, rfl, rfl, hH, hz, q⟩ := h
  cases rx
  obtain ⟨u, rfl, ru⟩ := rv.one
  obtain ⟨z, its, n, r, hl, e⟩ := I.lstM hH
  refine call_meets F.slot_list_append ⟨_, e, rfl⟩ F.entry_list_append (F.args_list_append_2 _ _) (PySem.list_append l its.toArray n u (by rw [List.size_toArray]; omega)) ⟨e, ?_⟩
  refine ⟨.non, _, I.lset (its' := its ++ [u]) hH e (by simp) (r.append (.cons ru .nil)) ?_, rfl, q⟩
  rw [List.length_append, List.length_singleton]
  omega






/-! ### list + list, list += list, list * int -/
def rCat : R2 := fun x y H Q => ∃ l b xs zs, x = .ref l ∧ y = .ref b ∧ H l = some (.lst xs) ∧ H b = some (.lst zs) ∧ xs.length + zs.length ≤ sizeLine ∧ ∀ p, H p = none → Q (.ref p) (upd H p (.lst (xs ++ zs)))
theorem op_cat : OpR X (binaryOp .Add) rCat := by
  intro pins s σ H x y v u Q I rx ry h
  obtain ⟨l, b, xs, zs, rfl, rfl, hH, hB, hz, q⟩ := h
  cases rx
  cases ry
  obtain ⟨z, its, n, r, hl, e⟩ := I.lstM hH
  obtain ⟨z2, its2, n2, r2, hl2, e2⟩ := I.lstM hB
  refine PySem.P.add_list e e2 ?_ (by rw [List.size_toArray, List.size_toArray]; omega)
  have ea : its.toArray ++ its2.toArray = (its ++ its2).toArray := by simp
  rw [ea]
  exact ⟨.ref _, _, I.lnew (t' := s.toks) (r.append r2) (by rw [List.length_append]; omega), rfl, q _ I.fresh⟩
/-- a list times an int (a negative one is nothing) -/
def rRep : R2 := fun x y H Q => ∃ l k xs, x = .ref l ∧ y = .int k ∧ H l = some (.lst xs) ∧ -(2 ^ 63) ≤ k ∧ k < 2 ^ 63 ∧ xs.length * k.toNat ≤ sizeLine ∧
  ∀ p, H p = none → Q (.ref p) (upd H p (.lst (List.replicate k.toNat xs).flatten))
theorem len_rep {α : Type} (xs : List α) (k : Nat) : (List.replicate k xs).flatten.length = k * xs.length := by
  induction k with
  | zero => simp
  | succ k ih => rw [List.replicate_succ, List.flatten_cons, List.length_append, ih, Nat.succ_mul, Nat.add_comm]
theorem op_rep : OpR X (binaryOp .Mult) rRep := by
  intro pins s σ H x y v u Q I rx ry h
  obtain ⟨l, k, xs, rfl, rfl, hH, h1, h2, hz, q⟩ := h
  cases rx
  obtain ⟨t, rfl⟩ := ry
  obtain ⟨z, its, n, r, hl, e⟩ := I.lstM hH
  have hlen : its.toArray.size * k.toNat ≤ sizeLine := by rw [List.size_toArray, ← hl]; exact hz
  have hcap : ¬ its.toArray.size * k.toNat > (2 ^ 63 - 1) / 8 := by
    have : (sizeLine : Nat) ≤ (2 ^ 63 - 1) / 8 := by decide
    omega
  have hfit : ¬ (!Builtin.List.listFitsIndex k) = true := by
    rw [fitsIndex_both h1 h2]
    exact Bool.false_ne_true
  have hlong : ¬ Builtin.List.listTooLong (its.toArray.size * k.toNat) = true := by
    rw [notLongL hlen]
    exact Bool.false_ne_true
  have hnew : List.foldl (fun x1 x2 => x1 ++ x2) #[] (List.replicate (if its.toArray.isEmpty = true then 0 else k.toNat) its.toArray) = (List.replicate k.toNat its).flatten.toArray := by
    have f0 : ∀ m : Nat, List.foldl (fun x1 x2 => x1 ++ x2) #[] (List.replicate m its.toArray) = (List.replicate m its).flatten.toArray := fun m => by
      have := foldl_rep its m []
      rw [List.nil_append] at this
      exact this
    rw [f0]
    cases its with
    | nil => simp
    | cons a r' => rw [if_neg (by simp)]
  refine wpAny_binaryOp_repeat_ref (T := "list") (U := "int") (by decide) ⟨_, e, rfl⟩ (fun s' => typeIs_int s' k t) noFill_list_mul F.fills_int_mul F.slot_int_rmul repeat_list F.slot_int_index.lookup
    (call_meets F.slot_int_rmul (typeIs_int s k t) F.entry_int_rmul (F.args_int_rmul_2 _ _) (int___rmul___int_list k t l its.toArray n)
      ⟨e, rfl, ⟨_, e, rfl⟩, call_meets F.slot_list_mul ⟨_, e, rfl⟩ F.entry_list_mul (F.args_list_mul_2 _ _) (AutoListH.list___mul___list_int_3 l its.toArray n k t hfit hcap hlong) ⟨e, ?_⟩⟩)
  rw [hnew]
  exact ⟨.ref _, _, I.lnew (t' := s.toks) (r.rep k.toNat) (by rw [len_rep, Nat.mul_comm]; exact hz), rfl, q _ I.fresh⟩

/-! ### del xs[i] -/
end

/-! ### xs[a:b] = ys -/
section
variable {prog : Program} {w : World} {A : Around} {E : Value → Shared → Prop} {s : Shared}
set_option maxRecDepth 100000 in
end

section
variable {X : Cx}
end
end L2

namespace Att
open PySem PySem.W PySem.Calls PyProof.Rows

/-! ### the script -/
theorem ints_of_wellAll {P : Params} {h : Heap} : ∀ (ns : List Int) (vs : List Value), WellAll P h vs (ns.map WData.int) → IntsAre vs ns := by
  intro ns
  induction ns with
  | nil =>
    intro vs w
    rw [List.map_nil] at w
    cases w
    exact .nil
  | cons n ns ih =>
    intro vs w
    rw [List.map_cons] at w
    cases w with
    | cons a b =>
      cases a
      exact .cons _ _ (ih _ b)

theorem script_of {l : OpenLaw} {n : Nat} (hn : l.most = some n) {P : Params} {h : Heap} {args : List WData} {vals : List Value}
    (hpre : l.row.toRowW.claim.pre args = true) (hwl : WellAll P h vals args) :
    ∃ a vs ns, vals = [Value.ref a] ∧ args = [WData.list (ns.map WData.int)] ∧ h.get? a = some { cls := .type "list", data := .seq vs.toArray } ∧ IntsAre vs ns ∧ ns.length ≤ n := by
  have hsh : WShape.hasAll [] args [.list .int] = true := (pre_splitW hpre).1
  have hc : l.pre.holds [] { args := args } = true := (pre_splitW hpre).2
  obtain ⟨d, r, rfl, h1, h2⟩ := hasAllW_cons hsh
  obtain rfl := hasAllW_nil h2
  obtain ⟨xs, rfl, h3⟩ := hasW_list h1
  obtain ⟨ns, rfl⟩ := items_int h3
  have hlen : ns.length ≤ n := by
    unfold OpenLaw.pre at hc
    have h4 : (WTm.not (.lt (.lit (.int (n : Int))) (.len (.arg 0)))).holds [] { args := [.list (ns.map .int)] } = true := by
      have h4 := (holds_andW hc).1
      rw [hn] at h4
      exact h4
    have h5 := condW_of h4 (w_not (w_lt w_lit (w_len_list (w_arg rfl))))
    rw [List.length_map] at h5
    refine Nat.le_of_not_lt fun q => ?_
    have q' : (n : Int) < ((ns.length : Nat) : Int) := by omega
    first
      | (rw [decide_eq_true q'] at h5; exact absurd h5 (by decide))
      | (simp at h5; omega)
  cases hwl with
  | cons w1 w2 =>
    cases w2
    cases w1 with
    | list ho hall => exact ⟨_, _, ns, rfl, rfl, ho, ints_of_wellAll ns _ hall, hlen⟩

theorem post_true (l : OpenLaw) (args : List WData) : l.row.toRowW.claim.post args (.bool true) args = true :=
  postW_of (r := l.row.toRowW) (X := (true == true))
    (show WShape.has [] (.bool true) .bool = true by first | rfl | decide | simp [WShape.has, WShape.arms, WShape.armsAll])
    (show (WTm.eq .res (.lit (.bool true))).value [] { args := args, res := some (.bool true), after := args } = some (.bool (true == true)) from w_eq_bool (w_res rfl) w_lit) rfl

/-! ### the attachment: holds_open's last premise (the goal 'hc' behind k_head) from a wpAny of the law's body -/

/-- the same from a codeAny of the CALL (for a layer whose function contracts speak of calls) -/
theorem attach_call {l : OpenLaw} {n : Nat} {q : Program} {loose : List Str} {XP : (Str → Option Value) → Heap → Prop} {YP : World → Heap → Prop} {d : DefRec}
    (hn : l.most = some n) (hdf : d.params.defaults = [])
    (call : ∀ (w : World) (s₀ s₁ : Shared) (mg mb : Str → Option Value) (fa : Addr) (o : Obj) (pm cd doc : Value) (a : Addr) (vs : List Value) (ns : List Int),
      Ground q loose [] XP w s₀ mg mb s₁.heap → YP w s₁.heap →
      s₁.heap.get? fa = some o → o.data = .func (docDef d.name d.params d.body d.scope pm cd doc) → s₁.heap.CodeRec cd d.name → mg d.name = some (.ref fa) →
      s₁.heap.get? a = some { cls := .type "list", data := .seq vs.toArray } → IntsAre vs ns → ns.length ≤ n → s₁.gens = #[] →
      codeAny (model l.prog w) callerA (.call (.ref fa) ⟨[.ref a], []⟩) (fun r s' => r = .ok (.ret (.bool true)) ∧ OldK s₁.heap s'.heap ∧ s'.os = s₁.os ∧ AllBare s'.gens) s₁) :
    WalkO q loose XP YP l.row.toRowW d [] (fun f vs => PySem.call f vs) := by
  intro w s₀ s₁ mg mb G Y fa o pm cd doc dV kV ho hd hcd hD hmg hg args vals as hpre hlay hrd hwl hlo
  obtain rfl : dV = .none := Dflts.none hD hdf
  obtain rfl : kV = .none := Dflts.noKw hD
  obtain ⟨a, vs, ns, rfl, rfl, hobj, hints, hlen⟩ := script_of hn hpre hwl
  refine enter_call (codeAny_mono (call w s₀ s₁ mg mb fa o pm cd doc a vs ns G Y ho (fd_plain hd) hcd hmg hobj hints hlen hg) fun r s' hq => ?_)
  obtain ⟨rfl, h2, h3, h4⟩ := hq
  exact ⟨.inl ⟨.bool true, .bool true, [], rfl, fun _ => rfl, .bool true, post_true l _, fun _ => ⟨List.Pairwise.nil, fun _ hm => (nomatch hm)⟩⟩, h2, h3, h4⟩


/-! ### rules over ANY heap (no ledger) from facts about the written part K: the library's own take a ledger (News) for what they write -/
section
variable {prog : Program} {w : World} {A : Around} {E : Value → Shared → Prop} {s : Shared} {K : Frag}





/-! the whole heap as the ledger: makes every rule that writes through a ledger a rule over any heap -/
def ledger (h : Heap) (L d : Addr) : List (Addr × Obj) := (List.range h.objs.size).filterMap fun a => if a = L ∨ a = d then none else (h.get? a).map fun o => (a, o)

end
end Att

namespace L2
open PySem PySem.Spec PyProof.Rows

theorem vals_ints : ∀ {vs : List Value} {ns : List Int}, IntsAre vs ns → Vals (ns.map V.int) vs
  | _, _, .nil => .nil
  | _, _, .cons n t h => .cons ⟨t, rfl⟩ (vals_ints h)

/-- nothing is tracked but the script, known to the object (or it is an object of the module) -/
def Only (H : Hp) : Prop := ∀ b, H b = none ∨ ∃ o xs, H b = some (.frz o (.lst xs))

/-- THE HEAD: the law's promise, at the heap behind the top. F, the promise of the law's def, may use that base is part of the heap (so K.In base, base.Ns mainGlobals mg stand in Mod) -/
theorem law_call {P : Program} {w : World} {K : PySem.W.Frag} {mg mb : Str → Option Value} {CX : CXT} {k : Nat} {fa a : Addr} {fd : FuncData} {x : Str} {sp : Sp} {s₁ : Shared} {vs : List Value} {ns : List Int}
    (KX : K.In s₁.heap) (hns : s₁.heap.Ns mainGlobals mg) (hb : s₁.heap.Ns builtinsNs mb) (hbb : ∀ x : Str, x ≠ "__name__" → mb x = bootBuiltins x) (hlim : s₁.heap.NoLimit) (hg : s₁.gens = #[])
    (ha : s₁.heap.get? a = some { cls := .type "list", data := .seq vs.toArray }) (hi : IntsAre vs ns) (hl : ns.length ≤ sizeLine) (hr : Room k callerA)
    (F : ∀ base : Heap, K.In base → base.Ns mainGlobals mg → FnOk P w K mg base CX k fa fd [x] sp) (hbind : ∀ (s : Shared) (u : Value), BindsTo s fd ⟨[u], []⟩ [(x, u)])
    (hsp : ∀ H : Hp, Only H → SqL K H a (ns.map V.int) → sp [.ref a] H (fun v _ => v = .bl true) fun _ _ _ => False)
    (hCX : ∀ H e s', CX [] H s₁ (fun _ _ _ => False) e s' → False) :
    codeAny (model P w) callerA (.call (.ref fa) ⟨[.ref a], []⟩) (fun r s' => r = .ok (.ret (.bool true)) ∧ OldK s₁.heap s'.heap ∧ s'.os = s₁.os ∧ AllBare s'.gens) s₁ := by
  have rv := vals_ints hi
  have lenV := hi.length
  -- from an abstract heap in which nothing but the script may be tracked
  have core : ∀ H : Hp, Only H → SqL K H a (ns.map V.int) → HOk P w H s₁.heap → (∀ b, H b ≠ none → b = a) → (H a ≠ none → K.lookup a = none) →
      codeAny (model P w) callerA (.call (.ref fa) ⟨[.ref a], []⟩) (fun r s' => r = .ok (.ret (.bool true)) ∧ OldK s₁.heap s'.heap ∧ s'.os = s₁.os ∧ AllBare s'.gens) s₁ := by
    intro H hO hS hok hA hK
    have base_of : ∀ {b : Addr} {o : Obj}, s₁.heap.get? b = some o → H b = none → (hidT s₁.heap H).get? b = some o := fun e n => hidT_get e n
    have noA : ∀ {b : Addr} {o : Obj} {es : Array DictEntry} {ep : Nat}, s₁.heap.get? b = some o → o.data = .dict es ep → H b = none := fun {b o es ep} e d => by
      cases q : H b with
      | none => rfl
      | some u =>
        have e' : b = a := hA b (by rw [q]; simp)
        subst e'
        rw [ha] at e; cases e
        have d' : Data.seq vs.toArray _ = Data.dict es ep := d
        cases d'
    have nsK : ∀ {b : Addr} {m : Str → Option Value}, s₁.heap.Ns b m → (hidT s₁.heap H).Ns b m := fun {b m} ⟨o, es, ep, e, d, r⟩ => ⟨o, es, ep, base_of e (noA e d), d, r⟩
    have hKb : K.In (hidT s₁.heap H) := fun b o e => base_of (KX b o e) (by
      cases q : H b with
      | none => rfl
      | some u =>
        have e' : b = a := hA b (by rw [q]; simp)
        subst e'
        rw [hK (by rw [q]; simp)] at e; cases e)
    have hM : Mod K mg (hidT s₁.heap H) := ⟨hKb, nsK hns, ⟨mb, nsK hb, hbb⟩, let ⟨mc, h1, h2⟩ := hlim; ⟨mc, nsK h1, h2⟩⟩
    have e0 : Env0 P w K mg (hidT s₁.heap H) callerA [] s₁ H := ⟨rfl, hM, fun b o e => of_hidT e, Nat.le_of_eq (hidT_size _ _), trivial, fun b hb => absurd (show b ∈ ([] : List Addr) from hb) (by simp), hok, .of_eq hg⟩
    refine codeAny_mono ((F _ hKb (nsK hns)).run callerA [] s₁ H ⟨[.ref a], []⟩ [.ref a] [.ref a] _ _ hr e0 (hbind s₁ (.ref a)) (.cons rfl .nil) (hsp H hO hS)) fun r s' h => ?_
    cases r with
    | error e => exact (hCX H e s' h).elim
    | ok fl =>
      cases fl with
      | next => exact False.elim h
      | brk => exact False.elim h
      | cont => exact False.elim h
      | ret u =>
        obtain ⟨v, H', os, bare, un, hok', r', q⟩ := h
        have q' : v = .bl true := q
        subst q'
        obtain rfl : u = Value.bool true := r'
        refine ⟨rfl, OldK.of_keep fun b o e => ?_, os, bare⟩
        cases q : H b with
        | none => exact un.keep b o e q (by intro z; exact absurd (show b ∈ ([] : List Addr) from z) (by simp)) (by simp)
        | some u =>
          rcases hO b with z | ⟨ob, xs, z⟩
          · rw [q] at z; cases z
          · have z2 := un.frzs b ob _ z
            obtain ⟨e1, _⟩ := hok b _ z
            obtain ⟨e2, _⟩ := hok' b _ z2
            rw [e] at e1; cases e1
            exact e2
  cases hk : K.lookup a with
  | some o =>
    -- the script is one of the module's own objects
    have e := KX a o hk
    rw [ha] at e
    cases e
    refine core (fun _ => none) (fun _ => .inl rfl) (.inr ⟨_, vs.toArray, _, hk, rfl, rfl, rfl, by rw [List.size_toArray, lenV]; exact hl, by simpa using rv⟩) (fun b u z => by have z' : (none : Option HO) = some u := z; cases z') (fun b z => absurd rfl z) fun z => absurd rfl z
  | none =>
    refine core (fun b => if b = a then some (.frz { cls := .type "list", data := .seq vs.toArray } (.lst (ns.map V.int))) else none) (fun b => ?_) (.inl (.inr ⟨{ cls := .type "list", data := .seq vs.toArray }, if_pos rfl⟩)) (fun b u z => ?_) (fun b z => ?_) fun _ => hk
    · by_cases hb : b = a
      · exact .inr ⟨_, _, if_pos hb⟩
      · exact .inl (if_neg hb)
    · by_cases hb : b = a
      · have z' := (if_pos hb).symm.trans z
        cases z'
        subst hb
        exact ⟨ha, by rw [List.length_map]; exact hl, vs, _, rv, ha⟩
      · have z' := (if_neg hb).symm.trans z
        cases z'
    · by_cases hb : b = a
      · exact hb
      · exact absurd (if_neg hb) z
end L2

namespace L2
open PySem PySem.Spec PyProof.Rows

abbrev KOf {K : PySem.W.Frag} {h : Heap} (_ : K.In h) : PySem.W.Frag := K

/-- the goal that k_head leaves (case hc), from the law's promise. F gives the function object fd (K's own) once, then the promise over every base -/
theorem walk_of {l : PySem.W.OpenLaw} {n k : Nat} {q : Program} {loose : List Str} {XP : (Str → Option Value) → Heap → Prop} {YP : World → Heap → Prop} {d : DefRec} {K : Params → PySem.W.Frag} {CX : World → CXT} {sp : World → Sp} {x : Str}
    (hn : l.most = some n) (hn2 : n ≤ sizeLine) (hdf : d.params.defaults = []) (hr : Room k callerA)
    (hY : ∀ (w : World) (h : Heap), YP w h → (K w.params).In h)
    (F : ∀ (w : World) (mg : Str → Option Value) (fa : Addr) (h : Heap), (K w.params).In h → h.Ns mainGlobals mg → mg d.name = some (.ref fa) →
      ∃ fd : FuncData, (∀ (s : Shared) (u : Value), BindsTo s fd ⟨[u], []⟩ [(x, u)]) ∧
        ∀ base : Heap, (K w.params).In base → base.Ns mainGlobals mg → FnOk l.prog w (K w.params) mg base (CX w) k fa fd [x] (sp w))
    (hsp : ∀ (w : World) (H : Hp) (a : Addr) (ns : List Int), ns.length ≤ n → Only H → SqL (K w.params) H a (ns.map V.int) → sp w [.ref a] H (fun v _ => v = .bl true) fun _ _ _ => False)
    (hCX : ∀ (w : World) (H : Hp) (s : Shared) (e : Value) (s' : Shared), CX w [] H s (fun _ _ _ => False) e s' → False) :
    PySem.W.WalkO q loose XP YP l.row.toRowW d [] (fun f vs => PySem.call f vs) := by
  refine Att.attach_call hn hdf fun w s₀ s₁ mg mb fa o pm cd doc a vs ns G Y ho hd hcd hmg hobj hints hlen hg => ?_
  have KX := hY w _ Y
  obtain ⟨fd, hb, hF⟩ := F w mg fa _ KX G.T.g hmg
  exact law_call KX G.T.g G.T.b G.T.builtins G.T.nolimit hg hobj hints (Nat.le_trans hlen hn2) hr hF hb (fun H hO hS => hsp w H a ns hlen hO hS) fun H e s' => hCX w H s₁ e s'
end L2

/- THE LAST THEOREM (shape; LID, My.* are yours):
   My.Adr: a structure of the addresses that your layer names (classes, functions); My.Txt K t: a structure (Prop) of the equations over K;
   My.txt_mk : {K} {implicit addresses ..} (e1 : nsIn K mainGlobals "law" = some (some (.ref f))) (e2 : K.lookup f = some ⟨oc, od, .func (fnOf "law" "law" params body scope dV kV doc pm an cdv ct), sl⟩) (e3 : codeIn K cdv "law" = true) .. : ∃ t, My.Txt K t

set_option maxRecDepth 100000 in
set_option maxHeartbeats 0 in
theorem PySem.Challenge.cw_LID_holds : PySem.Challenge.rw_LID.Holds := by
  w_on; o_law; k_head; (case hw => w_witness2)
  k_fill
  refine L2.walk_of (l := PySem.Challenge.rw_LID) (n := 63) (k := 40) (x := "script") (CX := fun w => ..) (sp := fun _ => My.sp_law) rfl (by decide) rfl ⟨rfl, by decide, by decide⟩ (fun w h Y => PySem.W.kIn_of Y) ?F ?S ?C
  case F =>
    intro w mg fa h KX G hmg
    have T : ∃ t, My.Txt (L2.KOf KX) t := by
      dsimp only [L2.KOf]                          -- K must stand as «<heap const> w.params» for k_is
      refine' My.txt_mk ?e1 ?e2 ?e3 ..
      (case e1 => PySem.W.k_is)                    -- in the order: a name -> its address -> its object -> its parts
      (case e2 => PySem.W.k_is)
      ..
    obtain ⟨t, T⟩ := T
    have e0 := hmg.symm.trans (PySem.W.mg_of KX G T.law)
    cases e0                                       -- fa is the law's own address
    exact ⟨_, fun s u => .of_eq rfl, fun base kb nb => My.law_fn T kb nb⟩     -- if «.of_eq rfl» comes too early: refine' ⟨_, ?b, fun base kb nb => My.law_fn T kb nb⟩; exact fun s u => .of_eq rfl
  case S => exact fun w H a ns hl hO hS => ..
  case C => exact ..
(the tactic k_is has no namespace: write k_is) -/

/-! SHORT WORDS over the layer: a def of the text, its body, what a loop and a test want. -/
namespace L2
open PySem PySem.Spec PyProof.Rows

/-! ### the text by places -/
def defArgs (s : Stmt) : Arguments := match s with
  | .FunctionDef _ a _ _ _ _ _ _ _ _ => a
  | _ => { posonlyargs := [], args := [], vararg := none, kwonlyargs := [], kw_defaults := [], kwarg := none, defaults := [] }
def defBody (s : Stmt) : List Stmt := match s with
  | .FunctionDef _ _ b _ _ _ _ _ _ _ => b
  | _ => []
def defScope (s : Stmt) : Scope := match s with
  | .FunctionDef _ _ _ _ _ _ sc _ _ _ => sc
  | _ => { kind := .function, names := [], isGenerator := false, isCoroutine := false }

/-! ### no exception leaves a def -/
abbrev CX0 : CXT := fun _ _ _ _ _ _ => False
abbrev E0 : XK := fun _ _ _ => False
theorem pass0 {X : Cx} : Passes CX0 X E0 := fun _ _ _ _ _ _ _ h => h.elim

/-! ### a def (or method) of the text as it stands behind the top -/
structure Fun (K : PySem.W.Frag) (x qual : Str) (st : Stmt) (f : Addr) (fd : FuncData) : Prop where
  ex : ∃ (oc : Value) (od : Option Addr) (kV doc pm : Value) (an : Option Addr) (cdv ct : Value) (osl : Array (Option Value)),
    fd = PySem.W.fnOf x qual (defArgs st) (defBody st) (defScope st) .none kV doc pm an cdv ct ∧ K.lookup f = some ⟨oc, od, .func fd, osl⟩ ∧ PySem.W.codeIn K cdv qual = true
  kp : PySem.W.keepIn K (.ref f) = true
section
variable {P : Program} {w : World} {K : PySem.W.Frag} {mg : Str → Option Value} {base : Heap}
/-- THE RULE for a def: its body as a term of rules, and the reading of that term -/
theorem Fun.ok {x qual : Str} {st : Stmt} {f : Addr} {fd : FuncData} {N ps : List Str} {k : Nat} {sp : Sp} (F : Fun K x qual st f fd) (S : FnScope N ps (defScope st)) (len : ∀ vs H Q E, sp vs H Q E → vs.length = ps.length)
    (hbody : ∀ (cdv : Value) (A : Around) (outer : List Env) (s : Shared) (H : Hp) (vs : List V) (Q : VK) (E : XK), Room k (A.deeper (envOfC qual (defScope st) s.heap.objs.size f cdv)) → sp vs H Q E →
      ∃ t, PSs (cxOf CX0 P w K mg base N qual (defScope st) f cdv A outer s H E).nox (defBody st) t ∧ t { nx := fun _ H' => Q .non H', rt := Q } (start N vs) H) : FnOk P w K mg base CX0 (k + 1) f fd ps sp := by
  obtain ⟨oc, od, kV, doc, pm, an, cdv, ct, osl, rfl, lk, hcd⟩ := F.ex
  refine fn_of lk hcd S len fun A outer s H vs Q E hr hsp => ?_
  obtain ⟨t, h, q⟩ := hbody cdv A outer s H vs Q E hr hsp
  exact ⟨t, h.nox, q⟩
/-- how its arguments bind (no defaults): h is «fun _ _ _ _ _ _ us hl => match us, hl with | [_, _], _ => rfl», one _ a parameter -/
theorem Fun.binds {x qual : Str} {st : Stmt} {f : Addr} {fd : FuncData} {ps : List Str} (F : Fun K x qual st f fd)
    (h : ∀ (kV doc pm : Value) (an : Option Addr) (cdv ct : Value) (us : List Value), us.length = ps.length → bindArgs (PySem.W.fnOf x qual (defArgs st) (defBody st) (defScope st) .none kV doc pm an cdv ct) ⟨us, []⟩ = pure (ps.zip us)) : Binds K fd ps [] := by
  obtain ⟨oc, od, kV, doc, pm, an, cdv, ct, osl, rfl, lk, hcd⟩ := F.ex
  exact .all (h kV doc pm an cdv ct)
theorem fun_mk {x qual : Str} {st : Stmt} {f : Addr} {oc : Value} {od an : Option Addr} {osl : Array (Option Value)} {kV doc pm cdv ct : Value} (l : K.lookup f = some ⟨oc, od, .func (PySem.W.fnOf x qual (defArgs st) (defBody st) (defScope st) .none kV doc pm an cdv ct), osl⟩)
    (c : PySem.W.codeIn K cdv qual = true) (k : PySem.W.keepIn K (.ref f) = true) : Fun K x qual st f (PySem.W.fnOf x qual (defArgs st) (defBody st) (defScope st) .none kV doc pm an cdv ct) := ⟨⟨oc, od, kV, doc, pm, an, cdv, ct, osl, rfl, l, c⟩, k⟩
end
theorem small1000 {n : Nat} (h : n ≤ 1000) : n < sizeLine := Nat.lt_of_le_of_lt h (by decide)

/-! ### expressions in short: the name that stands in the i-th slot -/
section
variable {X : Cx}
theorem pv (i : Nat) {x : Str} {pos : Pos} (hN : X.N[i]? = some x := by rfl) (hv : Vis X.env.scope x := by first | exact Or.inl rfl | exact Or.inr (Or.inl rfl) | exact Or.inr (Or.inr rfl)) (hd : (x == ("__debug__" : Str)) = false := by decide)
    (hcd : (x == ("__classdict__" : Str)) = false := by decide) : PE X (.Name x pos) (tVar i) := pe_var hN hv hd hcd
end

/-! ### tests -/
theorem iteF {A B : Prop} (h : B) : if false = true then A else B := by
  rw [if_neg Bool.false_ne_true]
  exact h
theorem iteT {A B : Prop} (h : A) : if true = true then A else B := by
  rw [if_pos rfl]
  exact h
theorem ite2 {c A B : Prop} [Decidable c] (h1 : c → A) (h2 : ¬ c → B) : if c then A else B := by
  by_cases h : c
  · rw [if_pos h]
    exact h1 h
  · rw [if_neg h]
    exact h2 h

/-! ### heaps -/
/-- all that was tracked is as it was -/
def Same (H H' : Hp) : Prop := ∀ b o, H b = some o → H' b = some o
theorem Same.refl (H : Hp) : Same H H := fun _ _ h => h
theorem Same.trans {H H1 H2 : Hp} (a : Same H H1) (b : Same H1 H2) : Same H H2 := fun c o h => b c o (a c o h)
theorem Same.free {H H' : Hp} (e : Same H H') {l : Addr} (h : H' l = Option.none) : H l = Option.none := by
  cases q : H l with
  | none => rfl
  | some o =>
    rw [e l o q] at h
    cases h
theorem Same.seq {K : PySem.W.Frag} {H H' : Hp} {a : Addr} {xs : List V} (e : Same H H') (h : SqL K H a xs) : SqL K H' a xs := by
  rcases h with (h | ⟨o, h⟩) | h
  · exact .inl (.inl (e _ _ h))
  · exact .inl (.inr ⟨o, e _ _ h⟩)
  · exact .inr h

end L2

set_option maxHeartbeats 4000000
namespace L2
open PySem PySem.Spec PyProof.Rows

/-! ### comprehensions -/
/-- what is asked of a comprehension's block: sc its names, outer the names around it, M the outer names that it may see (others hidden), x its own -/
def compOK (outer sc : Scope) (x : Str) (M N : List Str) : Bool :=
  decide (sc.kind = .function) && sc.names.all (fun y => decide (y.2 ≠ .cell)) && sc.names.all (fun y => decide (y.2 = .local → sc.names.lookup y.1 = some .local)) && decide (sc.names.lookup x = some .local) &&
  sc.names.all (fun y => decide (y.2 = .free → (outer.names.lookup y.1 = some .cell ∨ outer.names.lookup y.1 = some .free))) &&
  decide ((M ++ [x]).Nodup) && decide (M.length = N.length) && (M.zip N).all (fun p => decide (p.1 = p.2 ∨ sc.names.lookup p.1 = none)) && M.all (fun y => decide (sc.names.lookup y ≠ some .local))

theorem lookup_relabel {env : Env} : ∀ {names : List (Str × NameKind)} {x : Str} {k' : NameKind},
    (names.map fun (n, k) => if (k == NameKind.free && env.scope.kind == .function && env.kindOf n == some .cell) then (n, NameKind.cell) else (n, k)).lookup x = some k' →
    ∃ k, names.lookup x = some k ∧ (k' = k ∨ (k = .free ∧ k' = .cell))
  | [], _, _, h => by simp at h
  | (n, k) :: r, x, k', h => by
    have ih := @lookup_relabel env r x k'
    have h' : List.lookup x ((if (k == NameKind.free && env.scope.kind == .function && env.kindOf n == some .cell) = true then (n, NameKind.cell) else (n, k)) :: _) = some k' := h
    cases hx : x == n with
    | true =>
      by_cases hc : ((k == NameKind.free && env.scope.kind == .function && env.kindOf n == some .cell)) = true
      · rw [if_pos hc] at h'
        simp only [List.lookup_cons, hx] at h'
        refine ⟨k, by simp [List.lookup_cons, hx], .inr ⟨?_, (Option.some.inj h').symm⟩⟩
        simp only [Bool.and_eq_true, beq_iff_eq] at hc
        exact hc.1.1
      · rw [if_neg hc] at h'
        simp only [List.lookup_cons, hx] at h'
        exact ⟨k, by simp [List.lookup_cons, hx], .inl (Option.some.inj h').symm⟩
    | false =>
      have h'' : List.lookup x (r.map fun (n, k) => if (k == NameKind.free && env.scope.kind == .function && env.kindOf n == some .cell) then (n, NameKind.cell) else (n, k)) = some k' := by
        by_cases hc : ((k == NameKind.free && env.scope.kind == .function && env.kindOf n == some .cell)) = true
        · rw [if_pos hc] at h'; simp only [List.lookup_cons, hx] at h'; exact h'
        · rw [if_neg hc] at h'; simp only [List.lookup_cons, hx] at h'; exact h'
      obtain ⟨k0, a, b⟩ := ih h''
      exact ⟨k0, by simp only [List.lookup_cons, hx]; exact a, b⟩

theorem closure_go {env : Env} : ∀ (names : List (Str × NameKind)) (cs : List (Str × Addr)), (∀ y ∈ names, y.2 = .free → ∃ c, env.cells.lookup y.1 = some c) → (∀ y c, cs.lookup y = some c → env.cells.lookup y = some c) →
    ∃ cl, (forIn names cs fun (x : Str × NameKind) (r : List (Str × Addr)) => (if (x.2 == NameKind.free) = true then (do let a ← cellOf env x.1; pure (ForInStep.yield ((x.1, a) :: r))) else pure (ForInStep.yield r) : Sem _)) = pure cl ∧
      (∀ y c, cl.lookup y = some c → env.cells.lookup y = some c) ∧ (∀ y, ((∃ c, cs.lookup y = some c) ∨ (y, NameKind.free) ∈ names) → ∃ c, cl.lookup y = some c)
  | [], cs, _, hc => ⟨cs, rfl, hc, fun y h => by
      rcases h with h | h
      · exact h
      · cases h⟩
  | (n, k) :: r, cs, hf, hc => by
    by_cases hk : k = .free
    · subst hk
      obtain ⟨a, ha⟩ := hf (n, .free) List.mem_cons_self rfl
      have hc' : ∀ y c, List.lookup y ((n, a) :: cs) = some c → env.cells.lookup y = some c := fun y c e => by
        simp only [List.lookup_cons] at e
        split at e
        · rename_i q
          have q' : y = n := by simpa using q
          subst q'
          exact ha.trans e
        · exact hc y c e
      obtain ⟨cl, h1, h2, h3⟩ := closure_go r ((n, a) :: cs) (fun y hy => hf y (List.mem_cons_of_mem _ hy)) hc'
      refine ⟨cl, ?_, h2, fun y h => ?_⟩
      · rw [List.forIn_cons]
        show ((if (NameKind.free == NameKind.free) = true then (do let a ← cellOf env n; pure (ForInStep.yield ((n, a) :: cs))) else pure (ForInStep.yield cs) : Sem _) >>= _) = _
        rw [if_pos (by decide)]
        have e : cellOf env n = pure a := by unfold cellOf; rw [ha]
        rw [e]
        exact h1
      · refine h3 y ?_
        rcases h with ⟨c, h⟩ | h
        · left
          simp only [List.lookup_cons]
          split
          · exact ⟨_, rfl⟩
          · exact ⟨c, h⟩
        · rcases List.mem_cons.mp h with q | q
          · left
            cases q
            exact ⟨a, by simp [List.lookup_cons]⟩
          · exact .inr q
    · obtain ⟨cl, h1, h2, h3⟩ := closure_go r cs (fun y hy => hf y (List.mem_cons_of_mem _ hy)) hc
      refine ⟨cl, ?_, h2, fun y h => ?_⟩
      · rw [List.forIn_cons]
        show ((if (k == NameKind.free) = true then (do let a ← cellOf env n; pure (ForInStep.yield ((n, a) :: cs))) else pure (ForInStep.yield cs) : Sem _) >>= _) = _
        rw [if_neg (by simpa using hk)]
        exact h1
      · refine h3 y ?_
        rcases h with h | h
        · exact .inl h
        · rcases List.mem_cons.mp h with q | q
          · cases q; exact absurd rfl hk
          · exact .inr q

theorem closure_ok {env : Env} {scope : Scope} (hf : ∀ y ∈ scope.names, y.2 = .free → ∃ c, env.cells.lookup y.1 = some c) :
    ∃ cl, closureFor scope env = pure cl ∧ (∀ y c, cl.lookup y = some c → env.cells.lookup y = some c) ∧ (∀ y, (y, NameKind.free) ∈ scope.names → ∃ c, cl.lookup y = some c) := by
  obtain ⟨cl, h1, h2, h3⟩ := closure_go scope.names [] hf (fun y c e => by simp at e)
  refine ⟨cl, ?_, h2, fun y h => h3 y (.inr h)⟩
  unfold closureFor
  rw [← bind_pure (x := (pure cl : Sem _)), ← h1]

/-- a block's own: its cells, its frame, the state and the heap ahead of it, the iterator's records -/
structure CB where
  cl : List (Str × Addr)
  C : Addr
  s2 : Shared
  H2 : Hp
  fp : List Addr
/-- the block's context -/
def Cx.comp (X : Cx) (N' : List Str) (scope : Scope) (b : CB) : Cx where
  prog := X.prog
  w := X.w
  K := X.K
  mg := X.mg
  base := X.base
  A := X.A
  N := N'
  s₀ := b.s2
  H₀ := b.H2
  env := compEnvC scope b.cl b.C X.env
  outer := X.stack
  stack := X.stack
  ex := b.fp
  fn := fun _ => false
  calm := X.calm
  pn := []
  xe := fun _ _ => False

structure CompOK (outer sc : Scope) (x : Str) (M N : List Str) : Prop where
  kind : sc.kind = .function
  nocell : ∀ y ∈ sc.names, y.2 ≠ .cell
  loc : ∀ y ∈ sc.names, y.2 = .local → sc.names.lookup y.1 = some .local
  own : sc.names.lookup x = some .local
  free : ∀ y ∈ sc.names, y.2 = .free → (outer.names.lookup y.1 = some .cell ∨ outer.names.lookup y.1 = some .free)
  nd : (M ++ [x]).Nodup
  len : M.length = N.length
  same : ∀ p ∈ M.zip N, p.1 = p.2 ∨ sc.names.lookup p.1 = none
  noloc : ∀ y ∈ M, sc.names.lookup y ≠ some .local
theorem compOK_of {outer sc : Scope} {x : Str} {M N : List Str} (h : compOK outer sc x M N = true) : CompOK outer sc x M N := by
  unfold compOK at h
  simp only [Bool.and_eq_true, decide_eq_true_eq, List.all_eq_true] at h
  obtain ⟨⟨⟨⟨⟨⟨⟨⟨h1, h2⟩, h3⟩, h4⟩, h5⟩, h6⟩, h7⟩, h8⟩, h9⟩ := h
  exact ⟨h1, h2, h3, h4, h5, h6, h7, h8, h9⟩

section
variable {X : Cx} {pins : List (Addr × Obj)} {σ : St} {H2 : Hp} {s2 : Shared} {scope : Scope} {x : Str} {M : List Str} {cl : List (Str × Addr)} {fp : List Addr} {h1 : Heap} {t' : Nat}

/-- the block's entry -/
theorem Inv.comp (I : Inv X pins σ H2 s2) (K : CompOK X.env.scope scope x M X.N) (hcl : ∀ y c, cl.lookup y = some c → X.env.cells.lookup y = some c) (hcf : ∀ y, (y, NameKind.free) ∈ scope.names → ∃ c, cl.lookup y = some c)
    (hfp : ∀ b ∈ fp, FpOk X pins H2 b) (hlt : ∀ b ∈ fp, b < s2.heap.objs.size) (kp : ∀ b o, s2.heap.get? b = some o → h1.get? b = some o) (hD : h1.get? s2.heap.objs.size = some { cls := .type "list", dict := none, data := .seq ([] : List Value).toArray })
    (hC : h1.Ns (s2.heap.objs.size + 1) (fun _ => none)) :
    Inv (X.comp (M ++ [x]) scope ⟨cl, s2.heap.objs.size + 1, s2, H2, fp⟩) [] (σ ++ [none]) (upd H2 s2.heap.objs.size (.lst [])) { s2 with heap := h1, toks := t' } := by
  have cellLt : ∀ y c, cl.lookup y = some c → c < s2.heap.objs.size := fun y c e => by
    obtain ⟨v, z⟩ := I.cell y c (hcl y c e)
    exact z.lt
  have kindEq : ∀ y k', (compEnvC scope cl (s2.heap.objs.size + 1) X.env).kindOf y = some k' → ∃ k, scope.names.lookup y = some k ∧ (k' = k ∨ (k = .free ∧ k' = .cell)) := fun y k' e => lookup_relabel e
  have freeOf : ∀ y k', (compEnvC scope cl (s2.heap.objs.size + 1) X.env).kindOf y = some k' → (k' = .cell ∨ k' = .free) → (y, NameKind.free) ∈ scope.names := fun y k' e hk => by
    obtain ⟨k, e1, e2⟩ := kindEq y k' e
    have mem := PySem.mem_of_lookup e1
    have : k = .free := by
      rcases e2 with rfl | ⟨rfl, _⟩
      · rcases hk with rfl | rfl
        · exact absurd rfl (K.nocell _ mem)
        · rfl
      · rfl
    subst this
    exact mem
  have hDn : H2 s2.heap.objs.size = none := I.hok.fresh (Nat.le_refl _)
  refine ⟨⟨I.ok.mod, K.kind, I.ok.glob, I.ok.blt, Nat.le_succ _, fun y z c e1 e2 => I.ok.inj y z c (hcl y c e1) (hcl z c e2), fun y hy => ?_, fun y c hf _ => ?_, I.ok.hd, I.ok.frames, .inl rfl, fun b hb => ⟨Nat.ne_of_lt (Nat.lt_succ_of_lt (hlt b hb)), fun y c e => (hfp b hb).2.2.2.2.1 y c (hcl y c e)⟩,
    fun b o e => I.bs b o e, Nat.le_trans I.ok.bsz I.sz, fun b o e hb => ?_, fun b hb hf => ?_, I.stack, I.stkFree⟩, rfl, I.bare, Un.laid kp (Nat.le_refl _) hDn, ⟨_, hC, fun i y v e1 e2 e3 => ?_⟩, fun y c e => ?_, ?_, fun y c e => ?_, fun p hp => absurd (show p ∈ ([] : List (Addr × Obj)) from hp) (by simp), I.hok.laid kp (Nat.le_refl _) ?_, ?_⟩
  · rcases hy with hy | hy
    · exact hcf y (freeOf y _ hy (.inl rfl))
    · exact hcf y (freeOf y _ hy (.inr rfl))
  · exact absurd (show false = true from hf) Bool.false_ne_true
  · obtain ⟨f0, f1, f2, f3, f4, f5⟩ := hfp b hb
    rcases f3 with z | z
    · exact I.ok.noex b o e z
    · exact absurd (Nat.lt_of_lt_of_le (Heap.lt_size (I.ok.bs b o e).1) z) (Nat.lt_irrefl _)
  · obtain ⟨f0, f1, f2, f3, f4, f5⟩ := hfp b hb
    rcases List.mem_cons.mp (I.stkSub b hf) with z | z
    · exact f1 z
    · exact f2 z
  · -- names
    have hi : i < σ.length := by
      by_cases hi : i < σ.length
      · exact hi
      · have hz : (σ ++ [none])[i]? = some (some v) := e2
        rw [List.getElem?_append_right (by omega)] at hz
        by_cases hq : i - σ.length = 0
        · rw [hq] at hz; cases hz
        · rw [List.getElem?_eq_none (by simp; omega)] at hz; cases hz
    have e2' : σ[i]? = some (some v) := by
      have hz : (σ ++ [none])[i]? = some (some v) := e2
      rw [List.getElem?_append_left hi] at hz
      exact hz
    have hiM : i < M.length := by rw [K.len, ← I.len]; exact hi
    have e1' : M[i]? = some y := by
      have hz : (M ++ [x])[i]? = some y := e1
      rw [List.getElem?_append_left hiM] at hz
      exact hz
    have hyM : y ∈ M := List.mem_of_getElem? e1'
    have e3' : ∃ k', (compEnvC scope cl (s2.heap.objs.size + 1) X.env).kindOf y = some k' ∧ (k' = .cell ∨ k' = .free) := by
      rcases e3 with z | z | z
      · obtain ⟨k, a, b⟩ := kindEq y _ z
        rcases b with b | ⟨_, b⟩
        · subst b; exact absurd a (K.noloc y hyM)
        · cases b
      · exact ⟨_, z, .inl rfl⟩
      · exact ⟨_, z, .inr rfl⟩
    obtain ⟨k', ek, hk⟩ := e3'
    have mem := freeOf y k' ek hk
    obtain ⟨k0, a0, _⟩ := kindEq y k' ek
    have hiN : i < X.N.length := by rw [← K.len]; exact hiM
    have eN : X.N[i]? = some y := by
      have hz : (M[i], X.N[i]) ∈ M.zip X.N := by
        rw [List.mem_iff_getElem?]
        exact ⟨i, List.getElem?_zip_eq_some.mpr ⟨List.getElem?_eq_getElem hiM, List.getElem?_eq_getElem hiN⟩⟩
      have eM : M[i] = y := by
        rw [List.getElem?_eq_getElem hiM] at e1'
        exact Option.some.inj e1'
      rcases K.same _ hz with q | q
      · rw [List.getElem?_eq_getElem hiN]
        have q' : M[i] = X.N[i] := q
        rw [← q', eM]
      · have q' : scope.names.lookup M[i] = none := q
        rw [eM, a0] at q'
        cases q'
    have hv := K.free _ mem rfl
    obtain ⟨m, hn, hl⟩ := I.loc
    obtain ⟨u, r, l⟩ := hl i y v eN e2' (hv.elim (fun z => .inr (.inl z)) (fun z => .inr (.inr z)))
    refine ⟨u, r, .inr ⟨?_, ?_⟩⟩
    · rcases hk with rfl | rfl
      · exact .inl ek
      · exact .inr ek
    · obtain ⟨c, ec⟩ := hcf y mem
      refine ⟨c, ec, ?_⟩
      rcases l with ⟨z, _⟩ | ⟨_, c', ec', cc⟩
      · have z' : X.env.scope.names.lookup y = some .local := z
        rcases hv with q | q <;> (rw [z'] at q; cases q)
      · have := (hcl y c ec).symm.trans ec'
        cases this
        obtain ⟨o, ho, hd⟩ := cc
        exact ⟨o, kp _ o ho, hd⟩
  · obtain ⟨v, o, ho, hd⟩ := I.cell y c (hcl y c e)
    exact ⟨v, o, kp _ o ho, hd⟩
  · show upd H2 s2.heap.objs.size (.lst []) (s2.heap.objs.size + 1) = none
    rw [upd_ne (Nat.succ_ne_self _)]
    exact I.hok.fresh (Nat.le_succ _)
  · rw [upd_ne (Nat.ne_of_lt (cellLt y c e))]
    exact I.freeC y c (hcl y c e)
  · exact ⟨Nat.zero_le _, [], _, .nil, hD⟩
  · show (σ ++ [none]).length = (M ++ [x]).length
    simp [I.len, K.len]
end
end L2

namespace L2
open PySem PySem.Spec PyProof.Rows

/-- the loop of a list comprehension of one clause -/
theorem comp_loop {prog : Program} {w : World} {A : Around} {R : Result → Shared → Prop} {s : Shared} {elt target iter : Expr} {ifs : List Expr} {scope : Scope} {pos : Pos} {it acc : Value} {env : Env} (I : Nat → Shared → Prop)
    (onward : ∀ n s, I n s → wpAny (model prog w) A (pyNext it) (fun r za => match r with
      | none => R (.ok .next) za
      | some v => wpAny (model prog w) A (letOwnedTupleGo target it v) (fun _ zb => wpAny (model prog w) A (assign target env v) (fun _ zc =>
          wpAny (model prog w) A (forIn ifs true fun c r => if r = true then do let ok ← isTrue c env (eval c env); pure (ForInStep.yield ok) else pure (ForInStep.yield r)) (fun ok zd =>
            if ok = true then wpAny (model prog w) A (eval elt env) (fun x ze =>
              wpAny (model prog w) A (call (.builtin "list.append") [acc, x]) (fun _ zf => ∃ m, m < n ∧ I m zf) (fun _ _ => False) ze) (fun _ _ => False) zd
            else ∃ m, m < n ∧ I m zd) (fun _ _ => False) zc) (fun _ _ => False) zb) (fun _ _ => False) za) (fun _ _ => False) s)
    (n : Nat) (h : I n s) :
    codeAny (model prog w) A (.compLoop (.ListComp elt [⟨target, iter, ifs, 0⟩] scope pos) 0 it acc env) R s :=
  by
  refine codeAny_loop rfl I (fun n s hJ => ?_) n h
  show wpAny _ A ((compTurn (.ListComp elt [⟨target, iter, ifs, 0⟩] scope pos) 0 it acc env).onRaise (fun ex =>  do noteFrame ex env; theTreesLotGoes ex)) _ _ s
  refine wpAny_noted (wpAny_mono (E := fun _ _ => False) ?_ (fun _ _ q => q) fun _ _ z => z.elim)
  rw [compTurn_list]
  refine wpAny_bind (wpAny_standAt (wpAny_bind (wpAny_mono (onward n s hJ) (fun r za ya => ?_) fun _ _ u => u)))
  cases r with
  | none => exact wpAny_pure ya
  | some v =>
    refine wpAny_bind (wpAny_mono ya (fun _ zb yb => ?_) fun _ _ u => u)
    refine wpAny_bind (wpAny_mono yb (fun _ zc yc => wpAny_bind (wpAny_mono yc (fun ok zd yd => ?_) fun _ _ u => u)) fun _ _ u => u)
    cases ok with
    | false => exact wpAny_pure ⟨rfl, yd⟩
    | true =>
      exact wpAny_bind (wpAny_bind (wpAny_mono yd (fun x ze ye => wpAny_bind (wpAny_mono ye (fun _ zf yf => wpAny_pure (wpAny_pure ⟨rfl, yf⟩)) fun _ _ u => u)) fun _ _ u => u))

/-- the tests of a clause -/
def PIfs (X : Cx) (ifs : List Expr) (t : TT) : Prop :=
  ∀ (pins : List (Addr × Obj)) (s : Shared) (σ : St) (H : Hp) (Q : Bool → Hp → Prop), Inv X pins σ H s → t σ H Q →
    wpAny (model X.prog X.w) X.A (forIn ifs true fun c r => if r = true then do let ok ← isTrue c X.env (eval c X.env); pure (ForInStep.yield ok) else pure (ForInStep.yield r)) (TP X pins σ Q) X.xe s
def tNoIf : TT := fun _ H Q => Q true H
theorem pif_nil {X : Cx} : PIfs X [] tNoIf := fun pins s σ H Q I h => wpAny_tests_nil ⟨H, I, h⟩
theorem pif_one {X : Cx} {c : Expr} {t : TT} (h : PT X c t) : PIfs X [c] t := fun pins s σ H Q I q => wpAny_tests_one (h pins s σ H Q I q)

/-- [elt for x in iter if ..]: D is the list that is made -/
def tComp (wi : TI) (tc : CB → TT) (te : CB → TE) : TE := fun σ H Q => wi σ H fun J H1 => ∀ D, H1 D = none → ∀ b : CB, ∃ W : Nat → Nat → List V → Hp → Prop, (∃ m, W 0 m [] (upd H1 D (.lst []))) ∧
  ∀ i m ys H, W i m ys H → (J.stop i H ∧ Q (.ref D) H) ∨ (J.go i H ∧ ys.length < sizeLine ∧ ∃ N : List V → Hp → Prop, (∀ ys' H', N ys' H' → ∃ m', m' < m ∧ W (i + 1) m' ys' H') ∧ ∀ x H', J.yld i H x H' → tc b (σ ++ [some x]) H' fun ok H2 =>
    if ok = true then te b (σ ++ [some x]) H2 fun v H3 => H3 D = some (.lst ys) ∧ N (ys ++ [v]) (upd H3 D (.lst (ys ++ [v]))) else N ys H2)

theorem append_call {X : Cx} {pins : List (Addr × Obj)} {σ : St} {H : Hp} {s : Shared} {D : Addr} {ys : List V} {v : V} {u : Value} {E : Value → Shared → Prop} (I : Inv X pins σ H s) (hD : H D = some (.lst ys)) (hz : ys.length < sizeLine) (r : RelV v u) :
    wpAny (model X.prog X.w) X.A (call (.builtin "list.append") [.ref D, u]) (fun _ s' => Inv X pins σ (upd H D (.lst (ys ++ [v]))) s') E s := by
  obtain ⟨z, its, n, rv, hl, e⟩ := I.lstM hD
  refine call_meets F.slot_list_append ⟨_, e, rfl⟩ F.entry_list_append (F.args_list_append_2 _ _) (PySem.list_append D its.toArray n u (by rw [List.size_toArray]; omega)) ⟨e, ?_⟩
  refine I.lset (its' := its ++ [u]) hD e (by simp) (rv.append (.cons r .nil)) ?_
  rw [List.length_append, List.length_singleton]
  omega

theorem SameBut.unC {H H' : Hp} {fs ex : List Addr} {h h1 h2 : Heap} {C : Addr} (u : Un fs ex H H' h h1) (sb : Heap.SameBut C h1 h2) (hC : h.objs.size ≤ C) : Un fs ex H H' h h2 := by
  have ne : ∀ b o, h.get? b = some o → b ≠ C := fun b o e z => by subst z; exact absurd (Nat.lt_of_lt_of_le (Heap.lt_size e) hC) (Nat.lt_irrefl _)
  refine ⟨fun b o e n hb hx => (sb.2 b (ne b o e)).trans (u.keep b o e n hb hx), fun b o e n hb hx => ?_, u.free, fun b o e hx => ?_, u.tups, u.frzs, u.tbls⟩
  · obtain ⟨sl, q⟩ := u.slot b o e n hb hx
    exact ⟨sl, (sb.2 b (ne b o e)).trans q⟩
  · obtain ⟨o', q⟩ := u.there b o e hx
    exact ⟨o', (sb.2 b (ne b o e)).trans q⟩
theorem SameBut.hokC {P : Program} {w : World} {H : Hp} {h1 h2 : Heap} {C : Addr} (ok : HOk P w H h1) (sb : Heap.SameBut C h1 h2) (hn : H C = none) : HOk P w H h2 := fun b ob e => by
  refine (ok b ob e).stay (fun c w' hc q => (sb.2 c ?_).trans q) (fun _ q => q) fun _ _ q => q
  rintro rfl
  rcases hc with rfl | hc
  · rw [hn] at e; cases e
  · rw [hn] at hc; cases hc

theorem comp_core {X : Cx} {iter elt : Expr} {ifs : List Expr} {x : Str} {px pos pos0 : Pos} {scope : Scope} (M : List Str) {wi : TI} {tc : CB → TT} {te : CB → TE} {use : Option (Value → Sem Unit)} {R : Value → Shared → Prop}
    {pins : List (Addr × Obj)} {s : Shared} {σ : St} {H : Hp} {Q : VK} (I : Inv X pins σ H s) (h : tComp wi tc te σ H Q)
    (hfin : ∀ (D C : Addr) (m : Str → Option Value) (s' : Shared) (H' : Hp), s'.heap.Ns C m → FpOk X pins H' C → (∀ h', Heap.SameBut C s'.heap h' → Inv X pins σ H' { s' with heap := h' }) → Q (.ref D) H' → compPost (model X.prog X.w) X.A X.xe use R (.ref D) C (.ok .next) s')
    (hc : X.calm = true) (hi : PI X (.Name x px) iter wi)
    (hif : ∀ b : CB, PIfs (X.comp (M ++ [x]) scope b) ifs (tc b)) (he : ∀ b : CB, PE (X.comp (M ++ [x]) scope b) elt (te b))
    (ok : compOK X.env.scope scope x M X.N = true := by kernel_rfl)
    (hs : ∀ x, foldedSetIterable iter X.env x = pure x := by intro _; rfl) :
    wpAny (model X.prog X.w) X.A (comprehension (.ListComp elt [⟨.Name x px, iter, ifs, 0⟩] scope pos) scope X.env pos0 (newList []) false (eval iter X.env) use) R X.xe s := by
  have K := compOK_of ok
  obtain ⟨cl, hclos, hcl, hcf⟩ := closure_ok (env := X.env) (scope := scope) fun y hy hk => I.ok.has y.1 (K.free y hy hk)
  refine wpAny_comprehension_free (use := use) rfl hs hclos K.kind K.loc ?_
  refine thn (hi pins s σ H _ I h) fun v s1 h1 => thn h1 fun itv s2 h2 => ?_
  obtain ⟨it, fp, tn, J, H2, rfl, I2, T, st2, f2, hq⟩ := h2
  refine wpAny_newObj_type (wpAny_newFunctionEnv K.nocell (by intro y hy; simp at hy) (fun h₁ hns₁ hsb₁ => ?_) K.kind)
  dsimp only at hns₁ hsb₁ ⊢
  have hsize : (s2.heap.push { cls := .type "list", dict := none, data := .seq ([] : List Value).toArray }).objs.size = s2.heap.objs.size + 1 := Heap.size_push ..
  rw [hsize] at hns₁ hsb₁
  have ltD : s2.heap.objs.size ≠ s2.heap.objs.size + 1 := Nat.ne_of_lt (Nat.lt_succ_self _)
  have kp : ∀ b o, s2.heap.get? b = some o → h₁.get? b = some o := fun b o e => hsb₁.extBut b o (Nat.ne_of_lt (Nat.lt_succ_of_lt (Heap.lt_size e))) (Heap.get?_push_of_some _ (Heap.get?_push_of_some _ e))
  have hD : h₁.get? s2.heap.objs.size = some { cls := .type "list", dict := none, data := .seq ([] : List Value).toArray } := hsb₁.extBut _ _ ltD (Heap.get?_push_of_some _ (Heap.get?_push_size _ rfl))
  have hlt : ∀ b ∈ fp, b < s2.heap.objs.size := fun b hb => let ⟨o, e, _⟩ := T.obj _ _ st2 b hb; Heap.lt_size e
  have I3 := I2.comp (t' := s2.toks + ([] : List (Str × Value)).length) K hcl hcf f2 hlt kp hD hns₁
  obtain ⟨W, ⟨m0, w0⟩, step⟩ := hq s2.heap.objs.size (I2.hok.fresh (Nat.le_refl _)) ⟨cl, s2.heap.objs.size + 1, s2, H2, fp⟩
  have st3 : tn 0 h₁ := T.keep _ _ _ st2 fun b _ o e => kp b o e
  have fr3 : ∀ b ∈ fp, (upd H2 s2.heap.objs.size (.lst [])) b = none := fun b hb => by rw [upd_ne (Nat.ne_of_lt (hlt b hb))]; exact (f2 b hb).1
  -- what the block's end gives
  have fin : ∀ (s' : Shared) (σ' : St) (H' : Hp), Inv (X.comp (M ++ [x]) scope ⟨cl, s2.heap.objs.size + 1, s2, H2, fp⟩) [] σ' H' s' → Q (.ref s2.heap.objs.size) H' →
      compPost (model X.prog X.w) X.A X.xe use R (.ref s2.heap.objs.size) (s2.heap.objs.size + 1) (.ok .next) s' := fun s' σ' H' J' q => by
    obtain ⟨m, hn, _⟩ := id J'.loc
    have hC : H' (s2.heap.objs.size + 1) = none := J'.free
    refine hfin _ _ m s' H' hn (I2.fpOk (Nat.le_succ _) hC) (fun h' sb => ?_) q
    exact I2.call' (ch := fp) (show s'.os = s2.os from J'.os) (SameBut.unC J'.base sb (Nat.le_succ _)) (SameBut.hokC J'.hok sb hC) J'.bare fun b hb => by
      obtain ⟨f0, f1, f2', f3, f4, f5⟩ := f2 b hb
      exact ⟨f3, f1, f4, f5⟩
  have stat : ∀ {H' : Hp}, (∀ b ∈ fp, H' b = none) → ∀ b ∈ fp, FpOk (X.comp (M ++ [x]) scope ⟨cl, s2.heap.objs.size + 1, s2, H2, fp⟩) [] H' b := fun hn b hb => by
    obtain ⟨f0, f1, f2', f3, f4, f5⟩ := f2 b hb
    refine ⟨hn b hb, Nat.ne_of_lt (Nat.lt_succ_of_lt (hlt b hb)), fun z => ?_, .inl hb, fun y c e => f4 y c (hcl y c e), fun p hp => absurd (show p ∈ ([] : List (Addr × Obj)) from hp) (by simp)⟩
    rcases List.mem_cons.mp (I2.stkSub b z) with z | z
    · exact f1 z
    · exact f2' z
  have len3 : σ.length = M.length := by rw [I.len, K.len]
  have loop : codeAny (model X.prog X.w) X.A (.compLoop (.ListComp elt [⟨.Name x px, iter, ifs, 0⟩] scope pos) 0 (.ref it) (.ref s2.heap.objs.size) (compEnvC scope cl (s2.heap.objs.size + 1) X.env))
      (compPost (model X.prog X.w) X.A X.xe use R (.ref s2.heap.objs.size) (s2.heap.objs.size + 1)) { s2 with heap := h₁, toks := s2.toks + ([] : List (Str × Value)).length } := by
    refine comp_loop (fun n s' => ∃ i ys H', Inv (X.comp (M ++ [x]) scope ⟨cl, s2.heap.objs.size + 1, s2, H2, fp⟩) [] (σ ++ [none]) H' s' ∧ tn i s'.heap ∧ (∀ b ∈ fp, H' b = none) ∧ W i n ys H') ?_ m0 ⟨0, [], _, I3, st3, fr3, w0⟩
    rintro n s4 ⟨i, ys, H4, I4, st4, fr4, w4⟩
    rcases step i n ys H4 w4 with ⟨stop, q⟩ | ⟨go, hz, N, hN, st⟩
    · refine wpAny_mono (T.done (X.comp (M ++ [x]) scope ⟨cl, s2.heap.objs.size + 1, s2, H2, fp⟩) rfl rfl rfl hc i [] s4 _ H4 (fun _ _ => False) I4 (stat fr4) st4 stop) (fun r s5 ⟨hr, I5⟩ => ?_) fun _ _ z => z
      subst hr
      exact fin s5 _ H4 I5 q
    · refine wpAny_mono (T.item (X.comp (M ++ [x]) scope ⟨cl, s2.heap.objs.size + 1, s2, H2, fp⟩) rfl rfl rfl hc i [] s4 _ H4 (fun _ _ => False) I4 (stat fr4) st4 go) (fun r s5 ⟨u, hr, h5⟩ => ?_) fun _ _ z => z
      subst hr
      refine wpAny_mono h5 (fun _ s6 ⟨xv, H6, I6, r6, y6, st6, fr6⟩ => ?_) fun _ _ z => z
      have I6' := I6.pinned (stat fr6) (T.obj _ _ st6)
      have hset : (σ ++ [none]).set σ.length (some xv) = σ ++ [some xv] := by simp
      have hNx : (X.comp (M ++ [x]) scope ⟨cl, s2.heap.objs.size + 1, s2, H2, fp⟩).N[σ.length]? = some x := by
        show (M ++ [x])[σ.length]? = some x
        rw [len3]; simp
      have hlx : (X.comp (M ++ [x]) scope ⟨cl, s2.heap.objs.size + 1, s2, H2, fp⟩).env.scope.names.lookup x = some .local := lookup_relabel_local K.own
      have PGx : PG (X.comp (M ++ [x]) scope ⟨cl, s2.heap.objs.size + 1, s2, H2, fp⟩) (.Name x px) (gName σ.length) := pg_name K.nd hNx (.inl hlx) (.inr hlx)
      refine wpAny_mono (PGx _ s6 _ H6 xv u (fun σ' H' => σ' = σ ++ [some xv] ∧ H' = H6) I6' r6 ⟨hset, rfl⟩) (fun _ s7 ⟨σ7, H7, I7, e7, e7'⟩ => ?_) fun _ _ z => z
      subst e7 e7'
      have again : ∀ {ys' : List V} {H8 : Hp} {s8 : Shared} {m : Nat}, Inv (X.comp (M ++ [x]) scope ⟨cl, s2.heap.objs.size + 1, s2, H2, fp⟩) ([] ++ pinsAt fp s6.heap) (σ ++ [some xv]) H8 s8 → m < n → W (i + 1) m ys' H8 →
          ∃ m, m < n ∧ ∃ i ys H', Inv (X.comp (M ++ [x]) scope ⟨cl, s2.heap.objs.size + 1, s2, H2, fp⟩) [] (σ ++ [none]) H' s8 ∧ tn i s8.heap ∧ (∀ b ∈ fp, H' b = none) ∧ W i m ys H' := fun {ys' H8 s8 m} I8 hm w8 => by
        refine ⟨m, hm, i + 1, ys', H8, (I8.unpinned).weak (by simp) (fun j v e => ?_), T.keep _ _ _ st6 fun b hb o e => (I8.pin (b, o) (List.mem_append_right _ (List.mem_append_right _ (mem_pinsAt hb e)))).1, fun b hb => ?_, w8⟩
        · by_cases hj : j < σ.length
          · rw [List.getElem?_append_left hj] at e ⊢; exact e
          · rw [List.getElem?_append_right (by omega)] at e
            by_cases hq : j - σ.length = 0
            · rw [hq] at e; cases e
            · rw [List.getElem?_eq_none (by simp; omega)] at e; cases e
        · obtain ⟨o, e, d⟩ := T.obj _ _ st6 b hb
          exact (I8.pin (b, o) (List.mem_append_right _ (List.mem_append_right _ (mem_pinsAt hb e)))).2.1
      refine wpAny_mono (hif ⟨cl, s2.heap.objs.size + 1, s2, H2, fp⟩ _ s7 _ _ _ I7 (st xv _ y6)) (fun ok s8 ⟨H8, I8, q8⟩ => ?_) fun _ _ z => z
      cases ok with
      | false =>
        rw [if_neg Bool.false_ne_true] at q8
        obtain ⟨m, hm, w8⟩ := hN _ _ q8
        exact again I8 hm w8
      | true =>
        rw [if_pos rfl] at q8
        refine wpAny_mono (he ⟨cl, s2.heap.objs.size + 1, s2, H2, fp⟩ _ s8 _ H8 _ I8 q8) (fun xu s9 ⟨v9, H9, I9, r9, hD9, n9⟩ => ?_) fun _ _ z => z
        obtain ⟨m, hm, w9⟩ := hN _ _ n9
        exact wpAny_mono (append_call (X := X.comp (M ++ [x]) scope ⟨cl, s2.heap.objs.size + 1, s2, H2, fp⟩) I9 hD9 hz r9) (fun _ s10 I10 => again I10 hm w9) fun _ _ z => z
  rw [hsize]
  exact codeAny_compStart_list loop (T.self X.A 0 _ _ _ st3 loop)


theorem pe_comp {X : Cx} {iter elt : Expr} {ifs : List Expr} {x : Str} {px pos : Pos} {scope : Scope} (M : List Str) {wi : TI} {tc : CB → TT} {te : CB → TE}
    (hc : X.calm = true) (hi : PI X (.Name x px) iter wi)
    (hif : ∀ b : CB, PIfs (X.comp (M ++ [x]) scope b) ifs (tc b)) (he : ∀ b : CB, PE (X.comp (M ++ [x]) scope b) elt (te b))
    (ok : compOK X.env.scope scope x M X.N = true := by kernel_rfl)
    (hs : ∀ x, foldedSetIterable iter X.env x = pure x := by intro _; rfl) :
    PE X (.ListComp elt [⟨.Name x px, iter, ifs, 0⟩] scope pos) (tComp wi tc te) := by
  intro pins s σ H Q I h
  rw [eval_ListComp]
  exact comp_core M (use := none) (R := EP X pins σ Q) I h (fun D C m s' H' hn _ hI q => ⟨m, hn, fun h' sb => ⟨.ref D, H', hI h' sb, rfl, q⟩⟩) hc hi hif he ok hs
/-- the frame of a block may still change -/
theorem Inv.butC {X : Cx} {pins : List (Addr × Obj)} {σ : St} {H : Hp} {s : Shared} {C : Addr} {h' : Heap} (I : Inv X pins σ H s) (f : FpOk X pins H C) (sb : Heap.SameBut C s.heap h') : Inv X pins σ H { s with heap := h' } := by
  obtain ⟨f0, f1, f2, f3, f4, f5⟩ := f
  refine I.call' (ch := [C]) rfl ⟨fun b o e n _ hx => ?_, fun b o e n _ hx => ?_, fun b o e n _ => n, fun b o e hx => ?_, fun _ _ z => z, fun _ _ _ z => z, fun _ ps z => ⟨#[], by simpa using z⟩⟩ (SameBut.hokC I.hok sb f0) I.bare fun b hb => ?_
  · exact (sb.2 b (by simpa using hx)).trans e
  · exact ⟨o.slots, (sb.2 b (by simpa using hx)).trans e⟩
  · exact ⟨o, (sb.2 b (by simpa using hx)).trans e⟩
  · have : b = C := by simpa using hb
    subst this
    exact ⟨f3, f1, f4, f5⟩
/-- name = [comprehension] -/
theorem ps_setC {X : Cx} {iter elt : Expr} {ifs : List Expr} {x y : Str} {px py pos spos : Pos} {scope : Scope} (M : List Str) {i : Nat} {wi : TI} {tc : CB → TT} {te : CB → TE}
    (hc : X.calm = true) (hN : X.N.Nodup) (hiy : X.N[i]? = some y) (hy : Loc X.env.scope y) (hi : PI X (.Name x px) iter wi)
    (hif : ∀ b : CB, PIfs (X.comp (M ++ [x]) scope b) ifs (tc b)) (he : ∀ b : CB, PE (X.comp (M ++ [x]) scope b) elt (te b))
    (hsw : swapsWith (.ListComp elt [⟨.Name x px, iter, ifs, 0⟩] scope pos) (some (.Name y py)) spos.line X.env = pure true := by rfl)
    (ok : compOK X.env.scope scope x M X.N = true := by kernel_rfl)
    (hs : ∀ x, foldedSetIterable iter X.env x = pure x := by intro _; rfl)
    (hf : X.fn y = true ∨ X.env.scope.names.lookup y = some .local := by first | exact .inl rfl | exact .inr rfl | assumption) :
    PS X (.Assign [.Name y py] (.ListComp elt [⟨.Name x px, iter, ifs, 0⟩] scope pos) spos) (tAsg (tComp wi tc te) (gName i)) := by
  intro pins s σ H D I h
  rw [exec_Assign_Name_used _ _ _ _ hsw]; refine wpAny_bind (wpAny_standAt (wpAny_bind ?_))
  show wpAny _ X.A (do let _ ← comprehension (.ListComp elt [⟨.Name x px, iter, ifs, 0⟩] scope pos) scope X.env _ (newList []) false (eval iter X.env) (some (assign (.Name y py) X.env))) _ _ s
  refine wpAny_bind (wpAny_mono (comp_core M (use := some (assign (.Name y py) X.env)) (R := fun _ s' => _) I h (fun D' C m s' H' hn f hI q => ?_) hc hi hif he ok hs) (fun _ s' hq => wpAny_pure (wpAny_pure hq)) fun _ _ e => e)
  have I' : Inv X pins σ H' s' := hI s'.heap ⟨rfl, fun _ _ => rfl⟩
  show wpAny _ X.A (assign (.Name y py) X.env (.ref D')) _ _ _
  refine wpAny_assign_Name (store_ok2 (v := .ref D') I' hN hiy hy rfl (fun s2 I2 ⟨a, sb, ha⟩ => ?_) hf)
  have hCa : C ≠ a := by
    obtain ⟨f0, f1, f2, f3, f4, f5⟩ := f
    rintro rfl
    rcases ha with z | z
    · exact f1 z
    · exact f4 _ _ z rfl
  exact ⟨m, hn.sameBut sb hCa, fun h' sb' => ⟨_, H', I2.butC f sb', q⟩⟩
end L2

namespace L2
open PySem PySem.Spec PyProof.Rows

/-! ### comprehensions in the forms one uses -/
theorem comp_range {lo : Int} {n : Nat} {tc : TT} {te : TE} {σ : St} {H1 : Hp} {Q : Hp → Prop} {D : Addr} (Pv : Nat → List V → Hp → Prop) (hn : n < sizeLine) (h0 : Pv 0 [] (upd H1 D (.lst [])))
    (hl : ∀ i ys H, Pv i ys H → ys.length ≤ i)
    (hs : ∀ i ys H, i < n → Pv i ys H → tc (σ ++ [some (.int (lo + i))]) H fun b H2 => if b = true then te (σ ++ [some (.int (lo + i))]) H2 fun v H3 => H3 D = some (.lst ys) ∧ Pv (i + 1) (ys ++ [v]) (upd H3 D (.lst (ys ++ [v]))) else Pv (i + 1) ys H2)
    (hd : ∀ ys H, Pv n ys H → Q H) :
    ∃ W : Nat → Nat → List V → Hp → Prop, (∃ m, W 0 m [] (upd H1 D (.lst []))) ∧
      ∀ i m ys H, W i m ys H → ((Itr lo n).stop i H ∧ Q H) ∨ ((Itr lo n).go i H ∧ ys.length < sizeLine ∧ ∃ N : List V → Hp → Prop, (∀ ys' H', N ys' H' → ∃ m', m' < m ∧ W (i + 1) m' ys' H') ∧ ∀ x H', (Itr lo n).yld i H x H' → tc (σ ++ [some x]) H' fun b H2 =>
        if b = true then te (σ ++ [some x]) H2 fun v H3 => H3 D = some (.lst ys) ∧ N (ys ++ [v]) (upd H3 D (.lst (ys ++ [v]))) else N ys H2) := by
  refine ⟨fun i m ys H => m = n - i ∧ i ≤ n ∧ Pv i ys H, ⟨n, by simp, Nat.zero_le _, h0⟩, ?_⟩
  rintro i m ys H ⟨rfl, hi, p⟩
  by_cases hlt : i < n
  · refine .inr ⟨hlt, Nat.lt_of_le_of_lt (hl i ys H p) (Nat.lt_trans hlt hn), Pv (i + 1), fun ys' H' p' => ⟨n - (i + 1), by omega, rfl, hlt, p'⟩, fun x H' y => ?_⟩
    obtain ⟨e, y⟩ := y
    subst e y
    exact hs i ys _ hlt p
  · have e : i = n := by omega
    subst e
    exact .inl ⟨Nat.le_refl _, hd ys H p⟩
theorem comp_list {K : PySem.W.Frag} {a : Addr} {xs : List V} {tc : TT} {te : TE} {σ : St} {H1 : Hp} {Q : Hp → Prop} {D : Addr} (Pv : Nat → List V → Hp → Prop) (hn : xs.length < sizeLine) (h0 : Pv 0 [] (upd H1 D (.lst [])))
    (hl : ∀ i ys H, Pv i ys H → ys.length ≤ i) (hq : ∀ i ys H, i ≤ xs.length → Pv i ys H → SqL K H a xs)
    (hs : ∀ i x ys H, xs[i]? = some x → Pv i ys H → tc (σ ++ [some x]) H fun b H2 => if b = true then te (σ ++ [some x]) H2 fun v H3 => H3 D = some (.lst ys) ∧ Pv (i + 1) (ys ++ [v]) (upd H3 D (.lst (ys ++ [v]))) else Pv (i + 1) ys H2)
    (hd : ∀ ys H, Pv xs.length ys H → Q H) :
    ∃ W : Nat → Nat → List V → Hp → Prop, (∃ m, W 0 m [] (upd H1 D (.lst []))) ∧
      ∀ i m ys H, W i m ys H → ((Itl K a).stop i H ∧ Q H) ∨ ((Itl K a).go i H ∧ ys.length < sizeLine ∧ ∃ N : List V → Hp → Prop, (∀ ys' H', N ys' H' → ∃ m', m' < m ∧ W (i + 1) m' ys' H') ∧ ∀ x H', (Itl K a).yld i H x H' → tc (σ ++ [some x]) H' fun b H2 =>
        if b = true then te (σ ++ [some x]) H2 fun v H3 => H3 D = some (.lst ys) ∧ N (ys ++ [v]) (upd H3 D (.lst (ys ++ [v]))) else N ys H2) := by
  refine ⟨fun i m ys H => m = xs.length - i ∧ i ≤ xs.length ∧ Pv i ys H, ⟨xs.length, by simp, Nat.zero_le _, h0⟩, ?_⟩
  rintro i m ys H ⟨rfl, hi, p⟩
  have q := hq i ys H hi p
  by_cases hlt : i < xs.length
  · refine .inr ⟨⟨xs, xs[i], q, by simp [hlt]⟩, Nat.lt_of_le_of_lt (hl i ys H p) (Nat.lt_trans hlt hn), Pv (i + 1), fun ys' H' p' => ⟨xs.length - (i + 1), by omega, rfl, hlt, p'⟩, fun x H' y => ?_⟩
    obtain ⟨e, y⟩ := y
    subst e
    exact hs i x ys _ (y xs q) p
  · have e : i = xs.length := by omega
    subst e
    exact .inl ⟨⟨xs, q, Nat.le_refl _⟩, hd ys H p⟩

/-! ### data, and == of data -/
mutual
def DatV (K : PySem.W.Frag) (H : Hp) : PyData → V → Prop
  | .none, v => v = .non
  | .bool b, v => v = .bl b
  | .int i, v => v = .int i
  | .str x, v => v = .str x ∧ PyData.strOk x = true
  | .list ds, v => ∃ a xs, v = .ref a ∧ SqL K H a xs ∧ DatVs K H ds xs
  | .tuple ds, v => ∃ a xs, v = .ref a ∧ SqT K H a xs ∧ DatVs K H ds xs
  | .dict _, _ => False
def DatVs (K : PySem.W.Frag) (H : Hp) : List PyData → List V → Prop
  | [], xs => xs = []
  | d :: ds, xs => ∃ x r, xs = x :: r ∧ DatV K H d x ∧ DatVs K H ds r
end
section
variable {X : Cx} {pins : List (Addr × Obj)} {σ : St} {H : Hp} {s : Shared}
mutual
theorem DatV.reads (I : Inv X pins σ H s) : ∀ (d : PyData) (v : V) (u : Value), DatV X.K H d v → RelV v u → (∃ as, Reads s.heap u d as) ∧ d.canLay0 = true
  | .none, v, u, h, r => by
    rw [DatV] at h; subst h; cases r; exact ⟨⟨_, .none⟩, by simp [PyData.canLay0]⟩
  | .bool b, v, u, h, r => by
    rw [DatV] at h; subst h; cases r; exact ⟨⟨_, .bool b⟩, by simp [PyData.canLay0]⟩
  | .int i, v, u, h, r => by
    rw [DatV] at h; subst h; obtain ⟨t, rfl⟩ := r; exact ⟨⟨_, .int i t⟩, by simp [PyData.canLay0]⟩
  | .str x, v, u, h, r => by
    rw [DatV] at h; obtain ⟨h, hx⟩ := h; subst h; obtain ⟨t, rfl⟩ := r; exact ⟨⟨_, .str x t⟩, by simp [PyData.canLay0, hx]⟩
  | .list ds, v, u, h, r => by
    rw [DatV] at h; obtain ⟨a, xs, rfl, hq, hd⟩ := h
    cases r
    obtain ⟨its, rv, p, hz⟩ := I.list hq
    obtain ⟨⟨as, ra⟩, cl⟩ := DatVs.reads I ds xs its hd rv
    obtain ⟨o, ho, hc, n, hdt⟩ := p.isList
    exact ⟨⟨_, .list ho hc hdt (by simpa using ra)⟩, by rw [PyData.canLay0]; exact cl⟩
  | .tuple ds, v, u, h, r => by
    rw [DatV] at h; obtain ⟨a, xs, rfl, hq, hd⟩ := h
    cases r
    obtain ⟨its, rv, p, hz⟩ := I.tuple hq
    obtain ⟨⟨as, ra⟩, cl⟩ := DatVs.reads I ds xs its hd rv
    obtain ⟨o, ho, hc, n, hdt⟩ := p
    exact ⟨⟨_, .tuple ho hc hdt (by simpa using ra)⟩, by rw [PyData.canLay0]; exact cl⟩
  | .dict _, v, u, h, r => by rw [DatV] at h; exact h.elim
theorem DatVs.reads (I : Inv X pins σ H s) : ∀ (ds : List PyData) (vs : List V) (us : List Value), DatVs X.K H ds vs → Vals vs us → (∃ as, ReadsAll s.heap us ds as) ∧ PyData.canLayAll0 ds = true
  | [], vs, us, h, r => by
    rw [DatVs] at h; subst h; cases r; exact ⟨⟨_, .nil⟩, by simp [PyData.canLayAll0]⟩
  | d :: ds, vs, us, h, r => by
    rw [DatVs] at h; obtain ⟨x, rr, rfl, h1, h2⟩ := h
    cases r with
    | cons r1 r2 =>
      obtain ⟨⟨as, ra⟩, ca⟩ := DatV.reads I d x _ h1 r1
      obtain ⟨⟨bs, rb⟩, cb⟩ := DatVs.reads I ds rr _ h2 r2
      exact ⟨⟨_, .cons ra rb⟩, by rw [PyData.canLayAll0, ca, cb]; rfl⟩
end
def rEqD (K : PySem.W.Frag) (neg : Bool) : R2 := fun x y H Q => ∃ da db, DatV K H da x ∧ DatV K H db y ∧ min da.depth db.depth ≤ 64 ∧ Q (.bl (if neg then !PyData.eqv da db else PyData.eqv da db)) H
theorem op_eqD {k : Nat} (hr : Room k X.A) : OpR X (compareOp .Eq) (rEqD X.K false) := by
  intro pins s σ H x y v u Q I rx ry h
  obtain ⟨da, db, h1, h2, hd, q⟩ := h
  obtain ⟨⟨as, ra⟩, ca⟩ := DatV.reads I da x v h1 rx
  obtain ⟨⟨bs, rb⟩, cb⟩ := DatV.reads I db y u h2 ry
  exact SeqAt.compareEq_reads ra rb ca cb (by have := hr.units; omega) ⟨.bl _, H, I, rfl, q⟩
theorem op_neD {k : Nat} (hr : Room k X.A) : OpR X (compareOp .NotEq) (rEqD X.K true) := by
  intro pins s σ H x y v u Q I rx ry h
  obtain ⟨da, db, h1, h2, hd, q⟩ := h
  obtain ⟨⟨as, ra⟩, ca⟩ := DatV.reads I da x v h1 rx
  obtain ⟨⟨bs, rb⟩, cb⟩ := DatV.reads I db y u h2 ry
  exact SeqAt.compareNe_reads ra rb ca cb (by have := hr.units; omega) ⟨.bl _, H, I, rfl, q⟩
end

/-! ### lists of ints, of signs -/
theorem datVs_ints {K : PySem.W.Frag} {H : Hp} : ∀ ns : List Int, DatVs K H (ns.map PyData.int) (ns.map V.int)
  | [] => by simp [DatVs]
  | n :: ns => by
    rw [List.map_cons, List.map_cons, DatVs]
    exact ⟨_, _, rfl, by rw [DatV], datVs_ints ns⟩
theorem datV_ints {K : PySem.W.Frag} {H : Hp} {a : Addr} {ns : List Int} (h : SqL K H a (ns.map V.int)) : DatV K H (.list (ns.map PyData.int)) (.ref a) := by
  rw [DatV]; exact ⟨a, _, rfl, h, datVs_ints ns⟩
/-- a sign: a text of one code -/
abbrev sgS (c : Nat) : Str := ⟨#[c]⟩
abbrev sg (c : Nat) : V := .str (sgS c)
theorem datVs_sgs {K : PySem.W.Frag} {H : Hp} : ∀ cs : List Nat, (∀ c ∈ cs, c < 0x110000) → DatVs K H (cs.map fun c => PyData.str (sgS c)) (cs.map sg)
  | [], _ => by simp [DatVs]
  | c :: cs, h => by
    rw [List.map_cons, List.map_cons, DatVs]
    refine ⟨_, _, rfl, ?_, datVs_sgs cs fun c hc => h c (List.mem_cons_of_mem _ hc)⟩
    rw [DatV]
    exact ⟨rfl, by simp [PyData.strOk, h c List.mem_cons_self]⟩
theorem datV_sgs {K : PySem.W.Frag} {H : Hp} {a : Addr} {cs : List Nat} (h : SqL K H a (cs.map sg)) (hc : ∀ c ∈ cs, c < 0x110000) : DatV K H (.list (cs.map fun c => PyData.str (sgS c))) (.ref a) := by
  rw [DatV]; exact ⟨a, _, rfl, h, datVs_sgs cs hc⟩
theorem depthAll_ints : ∀ ns : List Int, PyData.depthAll (ns.map PyData.int) ≤ 1
  | [] => by simp [PyData.depthAll]
  | n :: ns => by
    have := depthAll_ints ns
    rw [List.map_cons, PyData.depthAll]
    simp only [PyData.depth]
    omega
theorem depthAll_sgs : ∀ cs : List Nat, PyData.depthAll (cs.map fun c => PyData.str (sgS c)) ≤ 1
  | [] => by simp [PyData.depthAll]
  | c :: cs => by
    have := depthAll_sgs cs
    rw [List.map_cons, PyData.depthAll]
    simp only [PyData.depth]
    omega
theorem depth_ints (ns : List Int) : (PyData.list (ns.map PyData.int)).depth ≤ 2 := by
  have := depthAll_ints ns
  rw [PyData.depth]; omega
theorem depth_sgs (cs : List Nat) : (PyData.list (cs.map fun c => PyData.str (sgS c))).depth ≤ 2 := by
  have := depthAll_sgs cs
  rw [PyData.depth]; omega
theorem eqvAll_ints : ∀ ns ms : List Int, PyData.eqvAll (ns.map PyData.int) (ms.map PyData.int) = decide (ns = ms)
  | [], [] => by simp [PyData.eqvAll]
  | [], _ :: _ => by simp [PyData.eqvAll]
  | _ :: _, [] => by simp [PyData.eqvAll]
  | n :: ns, m :: ms => by
    rw [List.map_cons, List.map_cons, PyData.eqvAll, eqvAll_ints ns ms]
    rw [PyData.eqv, Bool.beq_eq_decide_eq]
    simp
theorem sgS_inj {a b : Nat} : (sgS a == sgS b) = decide (a = b) := by
  by_cases h : a = b
  · subst h; simp
  · have : sgS a ≠ sgS b := fun e => h (by simpa [sgS] using e)
    simp [h, this]
theorem eqvAll_sgs : ∀ cs ds : List Nat, PyData.eqvAll (cs.map fun c => PyData.str (sgS c)) (ds.map fun c => PyData.str (sgS c)) = decide (cs = ds)
  | [], [] => by simp [PyData.eqvAll]
  | [], _ :: _ => by simp [PyData.eqvAll]
  | _ :: _, [] => by simp [PyData.eqvAll]
  | c :: cs, d :: ds => by
    rw [List.map_cons, List.map_cons, PyData.eqvAll, eqvAll_sgs cs ds, PyData.eqv, sgS_inj]
    simp
theorem eqv_ints (ns ms : List Int) : PyData.eqv (.list (ns.map PyData.int)) (.list (ms.map PyData.int)) = decide (ns = ms) := by rw [PyData.eqv, eqvAll_ints]
theorem eqv_sgs (cs ds : List Nat) : PyData.eqv (.list (cs.map fun c => PyData.str (sgS c))) (.list (ds.map fun c => PyData.str (sgS c))) = decide (cs = ds) := by rw [PyData.eqv, eqvAll_sgs]

/-- == of two lists of ints; of two lists of signs -/
def rEqI (K : PySem.W.Frag) (neg : Bool) : R2 := fun x y H Q => ∃ (a b : Addr) (ns ms : List Int), x = .ref a ∧ y = .ref b ∧ SqL K H a (ns.map V.int) ∧ SqL K H b (ms.map V.int) ∧ Q (.bl (if neg then !decide (ns = ms) else decide (ns = ms))) H
def rEqS (K : PySem.W.Frag) (neg : Bool) : R2 := fun x y H Q => ∃ (a b : Addr) (cs ds : List Nat), x = .ref a ∧ y = .ref b ∧ SqL K H a (cs.map sg) ∧ SqL K H b (ds.map sg) ∧ (∀ c ∈ cs, c < 0x110000) ∧ (∀ c ∈ ds, c < 0x110000) ∧ Q (.bl (if neg then !decide (cs = ds) else decide (cs = ds))) H
section
variable {X : Cx} {k : Nat}
theorem OpR.imp {f : Value → Value → Sem Value} {r r' : R2} (h : OpR X f r) (i : ∀ x y H Q, r' x y H Q → r x y H Q) : OpR X f r' := fun pins s σ H x y v u Q I rx ry q => h pins s σ H x y v u Q I rx ry (i _ _ _ _ q)
theorem rEqI.toD {K : PySem.W.Frag} {neg : Bool} : ∀ x y H Q, rEqI K neg x y H Q → rEqD K neg x y H Q := by
  rintro x y H Q ⟨a, b, ns, ms, rfl, rfl, h1, h2, q⟩
  refine ⟨_, _, datV_ints h1, datV_ints h2, Nat.le_trans (Nat.min_le_left _ _) (Nat.le_trans (depth_ints ns) (by decide)), ?_⟩
  rw [eqv_ints]
  exact q
theorem rEqS.toD {K : PySem.W.Frag} {neg : Bool} : ∀ x y H Q, rEqS K neg x y H Q → rEqD K neg x y H Q := by
  rintro x y H Q ⟨a, b, ns, ms, rfl, rfl, h1, h2, c1, c2, q⟩
  refine ⟨_, _, datV_sgs h1 c1, datV_sgs h2 c2, Nat.le_trans (Nat.min_le_left _ _) (Nat.le_trans (depth_sgs ns) (by decide)), ?_⟩
  rw [eqv_sgs]
  exact q
theorem op_neLI (hr : Room k X.A) : OpR X (compareOp .NotEq) (rEqI X.K true) := (op_neD hr).imp rEqI.toD
theorem op_eqLS (hr : Room k X.A) : OpR X (compareOp .Eq) (rEqS X.K false) := (op_eqD hr).imp rEqS.toD
theorem op_neLS (hr : Room k X.A) : OpR X (compareOp .NotEq) (rEqS X.K true) := (op_neD hr).imp rEqS.toD
theorem op_le_str : OpR X (compareOp .LtE) (fun x y H Q => ∃ i j, x = .str i ∧ y = .str j ∧ Q (.bl (!decide (j.cps.toList < i.cps.toList))) H) := by
  intro pins s σ H x y v u Q I rx ry h
  obtain ⟨i, j, rfl, rfl, q⟩ := h
  obtain ⟨t, rfl⟩ := rx
  obtain ⟨t', rfl⟩ := ry
  exact PySem.P.le_str ⟨.bl _, H, I, rfl, q⟩
/-- isinstance of a value whose type is known, a built-in type -/
theorem call_isinst : CallR X (.builtin "isinstance") (fun xs H Q => ∃ x t c b, xs = [x, .ty c] ∧ TyOf X.K H x t ∧ PySem.W.kitOne X.K t (.type c) = some b ∧ Q (.bl b) H) := by
  intro pins s σ H xs us Q I r h
  obtain ⟨x, t, c, b, rfl, ty, e, q⟩ := h
  obtain ⟨u, u', rfl, rx, rc⟩ := vals2 r
  cases rc
  exact isinst_ok I rx ty e fun tk => ⟨.bl b, H, I.tok tk, rfl, q⟩
end
end L2

namespace L2
open PySem PySem.Spec PyProof.Rows
/-! ### a def of the text, by its name -/
structure Fn (P : Program) (w : World) (K : PySem.W.Frag) (mg : Str → Option Value) (base : Heap) (CX : CXT) (x : Str) (k : Nat) (ps : List Str) (sp : Sp) : Prop where
  ex : ∃ f fd, FnOk P w K mg base CX k f fd ps sp ∧ mg x = some (.ref f) ∧ PySem.W.keepIn K (.ref f) = true ∧ Binds K fd ps [] ∧ ∃ oc od osl, K.lookup f = some ⟨oc, od, .func fd, osl⟩
theorem pe_fn {X : Cx} {CX : CXT} {k j : Nat} {ps : List Str} {sp : Sp} {E : XK} {x : Str} {p pos : Pos} {e : Expr} {es : List Expr} {t : TA} (F : Fn X.prog X.w X.K X.mg X.base CX x k ps sp) (hr : Room j X.A) (hx : Passes CX X E) (ha : PA X (e :: es) t) (hg : Gl X x := by rfl) (hj : k ≤ j := by decide)
    (hdb : (x == ("__debug__" : Str)) = false := by decide) (he : starEach (e :: es) X.env = (false, eval e X.env) :: starEach es X.env := by rfl) (hpl : (backTo pos (starEach es X.env)).any (·.1) = false := by rfl) :
    PE X (.Call (.Name x p) (e :: es) [] pos) (tCall sp [] E t) := by
  obtain ⟨f, fd, F, hm, hk, hb, _⟩ := F.ex
  exact pe_call F (hr.mono hj) hg hm hk hb .nil hx ha hdb he hpl
/-- what the top has written of a def -/
structure FF (K : PySem.W.Frag) (x : Str) (st : Stmt) : Prop where
  ex : ∃ (f : Addr) (oc : Value) (od an : Option Addr) (osl : Array (Option Value)) (kV doc pm cdv ct : Value), PySem.W.nsIn K mainGlobals x = some (some (.ref f)) ∧
    K.lookup f = some ⟨oc, od, .func (PySem.W.fnOf x x (defArgs st) (defBody st) (defScope st) .none kV doc pm an cdv ct), osl⟩ ∧ PySem.W.codeIn K cdv x = true ∧ PySem.W.keepIn K (.ref f) = true
theorem ff_mk {K : PySem.W.Frag} {x : Str} {st : Stmt} {f : Addr} {oc : Value} {od an : Option Addr} {osl : Array (Option Value)} {kV doc pm cdv ct : Value} (a : PySem.W.nsIn K mainGlobals x = some (some (.ref f)))
    (l : K.lookup f = some ⟨oc, od, .func (PySem.W.fnOf x x (defArgs st) (defBody st) (defScope st) .none kV doc pm an cdv ct), osl⟩) (c : PySem.W.codeIn K cdv x = true) (k : PySem.W.keepIn K (.ref f) = true) : FF K x st := ⟨f, oc, od, an, osl, kV, doc, pm, cdv, ct, a, l, c, k⟩
/-- the facts of the module that a def wants -/
structure Md (K : PySem.W.Frag) (mg : Str → Option Value) : Prop where
  ns : ∀ x v, PySem.W.nsIn K mainGlobals x = some v → mg x = v
theorem md_of {K : PySem.W.Frag} {h : Heap} {mg : Str → Option Value} (X : K.In h) (G : h.Ns mainGlobals mg) : Md K mg := ⟨fun x v e => by
  cases v with
  | none => exact PySem.W.mg_none_of X G e
  | some u => exact PySem.W.mg_of X G e⟩
/-- THE RULE for a def of the text: no exception leaves it -/
theorem fn_ok {P : Program} {w : World} {K : PySem.W.Frag} {mg : Str → Option Value} {base : Heap} {x : Str} {st : Stmt} {N ps : List Str} {k : Nat} {sp : Sp} (M : Md K mg) (F : FF K x st) (S : FnScope N ps (defScope st))
    (hbind : ∀ (kV doc pm : Value) (an : Option Addr) (cdv ct : Value) (us : List Value), us.length = ps.length → bindArgs (PySem.W.fnOf x x (defArgs st) (defBody st) (defScope st) .none kV doc pm an cdv ct) ⟨us, []⟩ = pure (ps.zip us))
    (len : ∀ vs H Q E, sp vs H Q E → vs.length = ps.length)
    (hbody : ∀ (f : Addr) (cdv : Value) (A : Around) (outer : List Env) (s : Shared) (H : Hp) (vs : List V) (Q : VK) (E : XK), Room k (A.deeper (envOfC x (defScope st) s.heap.objs.size f cdv)) → sp vs H Q E →
      ∃ t, PSs (cxOf CX0 P w K mg base N x (defScope st) f cdv A outer s H E).nox (defBody st) t ∧ t { nx := fun _ H' => Q .non H', rt := Q } (start N vs) H) : Fn P w K mg base CX0 x (k + 1) ps sp := by
  obtain ⟨f, oc, od, an, osl, kV, doc, pm, cdv, ct, a, l, c, kk⟩ := F.ex
  have F1 := fun_mk (st := st) l c kk
  exact ⟨f, _, F1.ok S len (fun cdv A outer s H vs Q E hr h => hbody f cdv A outer s H vs Q E hr h), M.ns _ _ a, kk, F1.binds hbind, oc, od, osl, l⟩
/-- the law's own def, for the head -/
theorem law_of {P : Program} {w : World} {K : PySem.W.Frag} {mg : Str → Option Value} {st : Stmt} {fa : Addr} {k : Nat} {sp : Sp} {CX : CXT} (M : Md K mg) (F : FF K "law" st) (hfa : mg "law" = some (.ref fa))
    (hb : ∀ (kV doc pm : Value) (an : Option Addr) (cdv ct : Value) (s : Shared) (v : Value), BindsTo s (PySem.W.fnOf "law" "law" (defArgs st) (defBody st) (defScope st) .none kV doc pm an cdv ct) ⟨[v], []⟩ [("script", v)])
    (h : ∀ base : Heap, Fn P w K mg base CX "law" k ["script"] sp) :
    ∃ fd : FuncData, (∀ (s : Shared) (v : Value), BindsTo s fd ⟨[v], []⟩ [("script", v)]) ∧ ∀ base : Heap, K.In base → base.Ns mainGlobals mg → FnOk P w K mg base CX k fa fd ["script"] sp := by
  obtain ⟨f, oc, od, an, osl, kV, doc, pm, cdv, ct, a, l, c, kk⟩ := F.ex
  have e := hfa.symm.trans (M.ns _ _ a)
  cases e
  refine ⟨_, hb kV doc pm an cdv ct, fun base _ _ => ?_⟩
  obtain ⟨f', fd', F', hm', _, _, oc', od', osl', l'⟩ := (h base).ex
  have e := hm'.symm.trans (M.ns _ _ a)
  cases e
  rw [l] at l'
  cases l'
  exact F'
/-- the built-in names that the text does not bind -/
structure Bl (mg : Str → Option Value) : Prop where
  max : mg "max" = none
  int : mg "int" = none
  len : mg "len" = none
  range : mg "range" = none
  list : mg "list" = none
  isinst : mg "isinstance" = none
  bool : mg "bool" = none
  str : mg "str" = none
  tuple : mg "tuple" = none
  rev : mg "reversed" = none
  zip : mg "zip" = none
  min : mg "min" = none
  sum : mg "sum" = none
  enumerate : mg "enumerate" = none
  dict : mg "dict" = none
theorem bl_of {K : PySem.W.Frag} {mg : Str → Option Value} (M : Md K mg) (b1 : PySem.W.nsIn K mainGlobals "max" = some none) (b2 : PySem.W.nsIn K mainGlobals "int" = some none) (b3 : PySem.W.nsIn K mainGlobals "len" = some none) (b4 : PySem.W.nsIn K mainGlobals "range" = some none) (b5 : PySem.W.nsIn K mainGlobals "list" = some none) (b6 : PySem.W.nsIn K mainGlobals "isinstance" = some none) (b7 : PySem.W.nsIn K mainGlobals "bool" = some none) (b8 : PySem.W.nsIn K mainGlobals "str" = some none) (b9 : PySem.W.nsIn K mainGlobals "tuple" = some none) (b10 : PySem.W.nsIn K mainGlobals "reversed" = some none) (b11 : PySem.W.nsIn K mainGlobals "zip" = some none) (b12 : PySem.W.nsIn K mainGlobals "min" = some none) (b13 : PySem.W.nsIn K mainGlobals "sum" = some none) (b14 : PySem.W.nsIn K mainGlobals "enumerate" = some none) (b15 : PySem.W.nsIn K mainGlobals "dict" = some none) : Bl mg :=
  ⟨M.ns _ _ b1, M.ns _ _ b2, M.ns _ _ b3, M.ns _ _ b4, M.ns _ _ b5, M.ns _ _ b6, M.ns _ _ b7, M.ns _ _ b8, M.ns _ _ b9, M.ns _ _ b10, M.ns _ _ b11, M.ns _ _ b12, M.ns _ _ b13, M.ns _ _ b14, M.ns _ _ b15⟩
/-- everything tracked but p is as it was -/
def Keep (p : Addr) (H H' : Hp) : Prop := ∀ b o, H b = some o → b ≠ p → H' b = some o
theorem Keep.refl (p : Addr) (H : Hp) : Keep p H H := fun _ _ h _ => h
theorem Keep.trans {p : Addr} {H H1 H2 : Hp} (a : Keep p H H1) (b : Keep p H1 H2) : Keep p H H2 := fun c o h n => b c o (a c o h n) n
theorem Same.keep {p : Addr} {H H' : Hp} (a : Same H H') : Keep p H H' := fun c o h _ => a c o h
theorem Keep.upd {p : Addr} {H : Hp} {o : HO} : Keep p H (upd H p o) := fun c u h n => by rw [upd_ne n]; exact h
theorem Same.upd {H : Hp} {p : Addr} {o : HO} (h : H p = none) : Same H (upd H p o) := fun c u e => by rw [upd_ne (ne_of_none e h)]; exact e
theorem Keep.free {p : Addr} {H H' : Hp} (a : Keep p H H') {o : HO} (hp : H' p = some o) {l : Addr} (h : H' l = none) : H l = none := by
  cases q : H l with
  | none => rfl
  | some u =>
    have : l ≠ p := fun z => by subst z; rw [hp] at h; cases h
    rw [a l u q this] at h; cases h

/-! ### built-in calls in short -/
theorem bt_max : bootBuiltins "max" = some (.builtin "max") := by decide +kernel
theorem bt_min : bootBuiltins "min" = some (.builtin "min") := by decide +kernel
theorem bt_len : bootBuiltins "len" = some (.builtin "len") := by decide +kernel
theorem bt_isinst : bootBuiltins "isinstance" = some (.builtin "isinstance") := by decide +kernel
theorem bt_int : bootBuiltins "int" = some (.type "int") := by decide +kernel
theorem bt_bool : bootBuiltins "bool" = some (.type "bool") := by decide +kernel
theorem bt_str : bootBuiltins "str" = some (.type "str") := by decide +kernel
theorem bt_list : bootBuiltins "list" = some (.type "list") := by decide +kernel
section
variable {X : Cx} {e e2 : Expr} {te te2 : TE} {p p2 pos : Pos}
theorem PE.imp {t t' : TE} (h : PE X e t) (i : ∀ σ H Q, t' σ H Q → t σ H Q) : PE X e t' := fun pins s σ H Q I q => h pins s σ H Q I (i σ H Q q)
def tLenL (K : PySem.W.Frag) (te : TE) : TE := fun σ H Q => te σ H fun x H1 => ∃ a ys, x = .ref a ∧ SqL K H1 a ys ∧ Q (.int ys.length) H1
def tLenS (te : TE) : TE := fun σ H Q => te σ H fun x H1 => ∃ z, x = .str z ∧ z.length ≤ sizeLine ∧ Q (.int z.length) H1
def tMax (te te2 : TE) : TE := fun σ H Q => te σ H fun x H1 => te2 σ H1 fun y H2 => ∃ i j, x = .int i ∧ y = .int j ∧ Q (.int (if j > i then j else i)) H2
def tIntB (te : TE) : TE := fun σ H Q => te σ H fun x H1 => ∃ k, x = .bl k ∧ Q (.int (if k then 1 else 0)) H1
def tListOf (K : PySem.W.Frag) (te : TE) : TE := fun σ H Q => te σ H fun x H1 => ∃ a ys, x = .ref a ∧ SqL K H1 a ys ∧ ∀ l, H1 l = none → Q (.ref l) (upd H1 l (.lst ys))
def tIsi (K : PySem.W.Frag) (c : String) (te : TE) : TE := fun σ H Q => te σ H fun x H1 => ∃ t b, TyOf K H1 x t ∧ PySem.W.kitOne K t (.type c) = some b ∧ Q (.bl b) H1


def r1 (r : V → Hp → VK → Prop) : List V → Hp → VK → Prop := fun xs H Q => match xs with | [x] => r x H Q | _ => False
def r2' (r : V → V → Hp → VK → Prop) : List V → Hp → VK → Prop := fun xs H Q => match xs with | [x, y] => r x y H Q | _ => False
theorem callR1 {f : Value} {r : V → Hp → VK → Prop} (h : ∀ pins s σ H x us Q, Inv X pins σ H s → Vals [x] us → r x H Q → wpAny (model X.prog X.w) X.A (call f us) (EP X pins σ Q) X.xe s) : CallR X f (r1 r) := by
  intro pins s σ H xs us Q I rv q
  match xs, q with
  | [x], q => exact h pins s σ H x us Q I rv q
theorem callR2 {f : Value} {r : V → V → Hp → VK → Prop} (h : ∀ pins s σ H x y us Q, Inv X pins σ H s → Vals [x, y] us → r x y H Q → wpAny (model X.prog X.w) X.A (call f us) (EP X pins σ Q) X.xe s) : CallR X f (r2' r) := by
  intro pins s σ H xs us Q I rv q
  match xs, q with
  | [x, y], q => exact h pins s σ H x y us Q I rv q
theorem pe_lenL (hm : X.mg "len" = none) (ha : PE X e te) (hg : Gl X "len" := by rfl) (he : starEach [e] X.env = [(false, eval e X.env)] := by rfl) : PE X (.Call (.Name "len" p) [e] [] pos) (tLenL X.K te) :=
  pe_callB (r := r1 fun x H Q => ∃ a ys, x = .ref a ∧ SqL X.K H a ys ∧ Q (.int ys.length) H) (callR1 fun pins s σ H x us Q I rv ⟨a, ys, ex, h, q⟩ => call_len_seq pins s σ H _ us Q I rv ⟨a, ys, by rw [ex], .inl h, q⟩) hg hm bt_len (pa_cons ha pa_nil (by exact he)) (he := by exact he)
theorem pe_lenS (hm : X.mg "len" = none) (ha : PE X e te) (hg : Gl X "len" := by rfl) (he : starEach [e] X.env = [(false, eval e X.env)] := by rfl) : PE X (.Call (.Name "len" p) [e] [] pos) (tLenS te) :=
  pe_callB (r := r1 fun x H Q => ∃ z, x = .str z ∧ z.length ≤ sizeLine ∧ Q (.int z.length) H) (callR1 fun pins s σ H x us Q I rv ⟨z, ex, h, q⟩ => call_len_str pins s σ H _ us Q I rv ⟨z, by rw [ex], h, q⟩) hg hm bt_len (pa_cons ha pa_nil (by exact he)) (he := by exact he)
theorem pe_max (hc : X.calm = true) (hm : X.mg "max" = none) (ha : PE X e te) (hb : PE X e2 te2) (hg : Gl X "max" := by rfl) (he : starEach [e, e2] X.env = [(false, eval e X.env), (false, eval e2 X.env)] := by rfl) (he2 : starEach [e2] X.env = [(false, eval e2 X.env)] := by rfl) : PE X (.Call (.Name "max" p) [e, e2] [] pos) (tMax te te2) :=
  pe_callB (r := r2' fun x y H Q => ∃ i j, x = .int i ∧ y = .int j ∧ Q (.int (if j > i then j else i)) H) (callR2 fun pins s σ H x y us Q I rv ⟨i, j, ex, ey, q⟩ => call_max2 hc pins s σ H _ us Q I rv ⟨i, j, by rw [ex, ey], q⟩) hg hm bt_max (pa_cons ha (pa_cons hb pa_nil (by exact he2)) (by rw [he, he2])) (he := by rw [he, he2]) (hpl := by rw [he2]; rfl)
theorem pe_intB (hm : X.mg "int" = none) (ha : PE X e te) (hg : Gl X "int" := by rfl) (he : starEach [e] X.env = [(false, eval e X.env)] := by rfl) : PE X (.Call (.Name "int" p) [e] [] pos) (tIntB te) :=
  pe_callTy (r := r1 fun x H Q => ∃ k, x = .bl k ∧ Q (.int (if k then 1 else 0)) H) (callR1 fun pins s σ H x us Q I rv ⟨z, ex, q⟩ => call_int1 pins s σ H _ us Q I rv (.inr ⟨z, by rw [ex], q⟩)) hg hm bt_int (pa_cons ha pa_nil (by exact he)) (he := by exact he)
theorem pe_listOf (hm : X.mg "list" = none) (ha : PE X e te) (hg : Gl X "list" := by rfl) (he : starEach [e] X.env = [(false, eval e X.env)] := by rfl) : PE X (.Call (.Name "list" p) [e] [] pos) (tListOf X.K te) :=
  pe_callTy (r := r1 fun x H Q => ∃ a ys, x = .ref a ∧ SqL X.K H a ys ∧ ∀ l, H l = none → Q (.ref l) (upd H l (.lst ys))) (callR1 fun pins s σ H x us Q I rv ⟨a, ys, ex, h, q⟩ => call_list_of pins s σ H _ us Q I rv ⟨a, ys, by rw [ex], .inl h, q⟩) hg hm bt_list (pa_cons ha pa_nil (by exact he)) (he := by exact he)
theorem pe_isi {T : Str} {c : String} (hm : X.mg "isinstance" = none) (hT : X.mg T = none) (hb : bootBuiltins T = some (.type c)) (ha : PE X e te) (hg : Gl X "isinstance" := by rfl) (hgT : Gl X T := by rfl) (he : starEach [e, .Name T p2] X.env = [(false, eval e X.env), (false, eval (.Name T p2) X.env)] := by rfl)
    (hn : T ≠ "__name__" := by decide) (hd : (T == ("__debug__" : Str)) = false := by decide) : PE X (.Call (.Name "isinstance" p) [e, .Name T p2] [] pos) (tIsi X.K c te) :=
  pe_callB (r := r2' fun x y H Q => ∃ t b, y = .ty c ∧ TyOf X.K H x t ∧ PySem.W.kitOne X.K t (.type c) = some b ∧ Q (.bl b) H)
    (callR2 fun pins s σ H x y us Q I rv ⟨t, b, ey, ty, ek, q⟩ => call_isinst pins s σ H _ us Q I rv ⟨x, t, c, b, by rw [ey], ty, ek, q⟩) hg hm bt_isinst
    (pa_cons ha (pa_cons (pe_bltn (v := .ty c) hgT hT hb rfl hn hd) pa_nil) (by exact he)) (he := by exact he) |>.imp fun σ H Q h => by
      show te σ H fun x H1 => ∃ t b, V.ty c = .ty c ∧ _
      simp only [true_and]
      exact h
end
end L2

namespace L2
open PySem PySem.Spec PyProof.Rows
theorem sIx_pos (n d : Nat) (i : Int) (h : 0 ≤ i) : HT.sIx n d (some i) = min i.toNat n := by
  show (if i < 0 then (i + (n : Int)).toNat else min i.toNat n) = min i.toNat n
  rw [if_neg (by omega)]
theorem take_min {α : Type} (xs : List α) (k : Nat) : xs.take (min k xs.length) = xs.take k := by
  rcases Nat.le_total k xs.length with h | h
  · rw [Nat.min_eq_left h]
  · rw [Nat.min_eq_right h, List.take_length, List.take_of_length_le h]
theorem drop_min {α : Type} (xs : List α) (k : Nat) : xs.drop (min k xs.length) = xs.drop k := by
  rcases Nat.le_total k xs.length with h | h
  · rw [Nat.min_eq_left h]
  · rw [Nat.min_eq_right h, List.drop_length, List.drop_of_length_le h]
/-- a slice of a list, its bounds from 0 on -/
def cutL {α : Type} (xs : List α) (lo hi : Option Int) : List α := (xs.drop (HT.sIx xs.length 0 lo)).take (HT.sIx xs.length xs.length hi - HT.sIx xs.length 0 lo)
theorem cutL_hi {α : Type} (xs : List α) (k : Int) (h : 0 ≤ k) : cutL xs none (some k) = xs.take k.toNat := by
  unfold cutL
  rw [sIx_pos _ _ _ h, HT.sIx_none, List.drop_zero, Nat.sub_zero, take_min]
theorem cutL_lo {α : Type} (xs : List α) (k : Int) (h : 0 ≤ k) : cutL xs (some k) none = xs.drop k.toNat := by
  unfold cutL
  rw [sIx_pos _ _ _ h, HT.sIx_none, drop_min]
  exact List.take_of_length_le (by rw [List.length_drop]; omega)
theorem cutL_both {α : Type} (xs : List α) (i j : Int) (hi : 0 ≤ i) (hj : i ≤ j) : cutL xs (some i) (some j) = (xs.drop i.toNat).take (j.toNat - i.toNat) := by
  unfold cutL
  rw [sIx_pos _ _ _ hi, sIx_pos _ _ _ (Int.le_trans hi hj), drop_min]
  rcases Nat.le_total j.toNat xs.length with h | h
  · rw [Nat.min_eq_left h, Nat.min_eq_left (by omega)]
  · rw [Nat.min_eq_right h]
    rcases Nat.le_total i.toNat xs.length with h' | h'
    · rw [Nat.min_eq_left h', List.take_of_length_le (by rw [List.length_drop]; omega), List.take_of_length_le (by rw [List.length_drop]; omega)]
    · rw [List.drop_of_length_le h']; simp
theorem cutL_map {α β : Type} (f : α → β) (xs : List α) (lo hi : Option Int) : cutL (xs.map f) lo hi = (cutL xs lo hi).map f := by
  unfold cutL
  rw [List.length_map, List.map_take, List.map_drop]
theorem cutV_cutL (xs : List V) (lo hi : Option Int) : cutV xs lo hi = cutL xs lo hi := rfl
theorem atI_ex {α : Type} (xs : List α) (r : Int) (h0 : 0 ≤ r) (h1 : r < xs.length) : ∃ v, xs[r.toNat]? = some v ∧ v ∈ xs ∧ atI xs r = some v := by
  have hl : r.toNat < xs.length := by omega
  refine ⟨xs[r.toNat], by simp [hl], List.getElem_mem hl, ?_⟩
  have e : ((r.toNat : Nat) : Int) = r := by omega
  have q : atI xs ((r.toNat : Nat) : Int) = some xs[r.toNat] := atI_nat (by simp [hl])
  rw [e] at q
  exact q
theorem str_len (cs : List Nat) : (Str.length ⟨cs.toArray⟩) = cs.length := by simp [Str.length]
end L2

namespace L2
open PySem PySem.Spec PyProof.Rows
theorem tNoIf_go {σ : St} {H : Hp} {A B : Hp → Prop} (h : A H) : tNoIf σ H fun b H2 => if b = true then A H2 else B H2 := by
  show if true = true then A H else B H
  rw [if_pos rfl]
  exact h
theorem datVs_nil {K : PySem.W.Frag} {H : Hp} : DatVs K H [] [] := by rw [DatVs]
theorem datVs_cons {K : PySem.W.Frag} {H : Hp} {d : PyData} {ds : List PyData} {v : V} {vs : List V} (h : DatV K H d v) (g : DatVs K H ds vs) : DatVs K H (d :: ds) (v :: vs) := by
  rw [DatVs]; exact ⟨v, vs, rfl, h, g⟩
theorem datV_lst {K : PySem.W.Frag} {H : Hp} {p : Addr} {ds : List PyData} {vs : List V} (h : SqL K H p vs) (g : DatVs K H ds vs) : DatV K H (.list ds) (.ref p) := by
  rw [DatV]; exact ⟨p, vs, rfl, h, g⟩
theorem datV_int {K : PySem.W.Frag} {H : Hp} (i : Int) : DatV K H (.int i) (.int i) := by rw [DatV]
def pInts (ns : List Int) : PyData := .list (ns.map PyData.int)
theorem Same.tup {K : PySem.W.Frag} {H H' : Hp} {a : Addr} {xs : List V} (e : Same H H') (h : H a = some (.tup xs)) : SqT K H' a xs := SqT.of (e _ _ h)
end L2

namespace L2
open PySem PySem.Spec PyProof.Rows
section
variable {X : Cx} {a b e : Expr} {rest : List Expr} {ta tb te : TE} {p pos : Pos}
/-- a or b, by a's truth -/
def tOrT (K : PySem.W.Frag) (ta tb : TE) : TE := fun σ H Q => ta σ H fun x H1 => ∃ k, TruV K x H1 k ∧ if k = true then Q x H1 else tb σ H1 Q
theorem pe_orT (ha : PE X a ta) (hb : PE X (.BoolOp .Or (b :: rest) pos) tb) : PE X (.BoolOp .Or (a :: b :: rest) pos) (tOrT X.K ta tb) := by
  intro pins s σ H Q I h
  refine BoolOp_or (thn (ha pins s σ H _ I h) fun v s1 ⟨x, H1, I1, r1, q1⟩ => ?_)
  obtain ⟨k, tk, q1⟩ := q1
  refine thn (tru_ok pins s1 σ H1 x v (fun k' H' => k' = k ∧ H' = H1) I1 r1 ⟨k, tk, rfl, rfl⟩) fun k' s2 ⟨H2, I2, e1, e2⟩ => ?_
  subst e1 e2
  cases k' with
  | false => exact hb pins s2 σ H2 Q I2 (by rw [if_neg Bool.false_ne_true] at q1; exact q1)
  | true => exact ⟨x, H2, I2, r1, by rw [if_pos rfl] at q1; exact q1⟩
end
/-! ### to go on at the first statement -/
def FW (J : It) (g : TG) (tb : TS) (D : Ends) (σ : St) (H1 : Hp) : Prop := ∃ W : Nat → Nat → St → Hp → Prop, (∃ m, W 0 m σ H1) ∧ ∀ i m σ H, W i m σ H →
  (J.stop i H ∧ D.nx σ H) ∨ (J.go i H ∧ ∃ N : St → Hp → Prop, (∀ σ' H', N σ' H' → ∃ m', m' < m ∧ W (i + 1) m' σ' H') ∧ ∀ x H', J.yld i H x H' → g x σ H' fun σ2 H2 => tb { D with nx := N, ct := N, bk := D.nx } σ2 H2)
theorem seq_for {wi : TI} {g : TG} {tb rest : TS} {D : Ends} {σ : St} {H : Hp} (h : wi σ H fun J H1 => FW J g tb { D with nx := rest D } σ H1) : tSeq (tFor wi g tb) rest D σ H := h
theorem one_for {wi : TI} {g : TG} {tb : TS} {D : Ends} {σ : St} {H : Hp} (h : wi σ H fun J H1 => FW J g tb D σ H1) : tFor wi g tb D σ H := h
theorem seq_if {c : TT} {t u rest : TS} {D : Ends} {σ : St} {H : Hp} (h : c σ H fun b H1 => if b = true then t { D with nx := rest D } σ H1 else u { D with nx := rest D } σ H1) : tSeq (tIfS c t u) rest D σ H := h
end L2

namespace L2
open PySem PySem.Spec PyProof.Rows
/-! ### // by a divisor of up to sixty figures -/
def CDivL (i j : Int) : Prop := 0 < j ∧ j < 1000000000000000000000000000000000000000000000000000000000000
theorem op_fdivL {X : Cx} : OpR X (binaryOp .FloorDiv) (rI CDivL fun i j => .int (i / j)) := opI fun i j _ _ _ _ _ hc q => by
  have hn : j.natAbs.log2 < 9000 := by
    have h0 : j.natAbs ≠ 0 := by have := hc.1; omega
    rw [Nat.log2_lt h0]
    have h1 : j.natAbs < 1000000000000000000000000000000000000000000000000000000000000 := by have := hc.1; have := hc.2; omega
    exact Nat.lt_of_lt_of_le h1 (Nat.le_trans (show 1000000000000000000000000000000000000000000000000000000000000 ≤ 2 ^ 200 by decide) (Nat.pow_le_pow_right (by decide) (by decide)))
  refine floordiv_int (by have := hc.1; omega) ?_ (.inl (PyProof.noPylong_of_log2 hn))
  rw [Int.fdiv_eq_ediv_of_nonneg _ (by have := hc.1; omega)]
  exact q
/-! ### records turned, and a new object -/
/-! ### zip of two lists -/
/-! ### xs[::-1] -/
end L2

namespace L2
open PySem PySem.Spec PyProof.Rows
theorem small5000 {n : Nat} (h : n ≤ 5000) : n < sizeLine := Nat.lt_of_le_of_lt h (by decide)
section
variable {X : Cx} {e e2 : Expr} {te te2 : TE} {p p2 pos : Pos}
def tMin2 (te te2 : TE) : TE := fun σ H Q => te σ H fun x H1 => te2 σ H1 fun y H2 => ∃ i j, x = .int i ∧ y = .int j ∧ Q (.int (if j < i then j else i)) H2
theorem pe_min (hc : X.calm = true) (hm : X.mg "min" = none) (ha : PE X e te) (hb : PE X e2 te2) (hg : Gl X "min" := by rfl) (he : starEach [e, e2] X.env = [(false, eval e X.env), (false, eval e2 X.env)] := by rfl) (he2 : starEach [e2] X.env = [(false, eval e2 X.env)] := by rfl) : PE X (.Call (.Name "min" p) [e, e2] [] pos) (tMin2 te te2) :=
  pe_callB (r := r2' fun x y H Q => ∃ i j, x = .int i ∧ y = .int j ∧ Q (.int (if j < i then j else i)) H) (callR2 fun pins s σ H x y us Q I rv ⟨i, j, ex, ey, q⟩ => call_min2 hc pins s σ H _ us Q I rv ⟨i, j, by rw [ex, ey], q⟩) hg hm bt_min (pa_cons ha (pa_cons hb pa_nil (by exact he2)) (by rw [he, he2])) (he := by rw [he, he2]) (hpl := by rw [he2]; rfl)
end
end L2
namespace L2
open PySem PySem.Spec PyProof.Rows
/-! ### a row of written whole numbers -/
def intsOf : List Expr → Option (List Int)
  | [] => some []
  | .Constant (.int k) _ _ :: r => (intsOf r).map (k :: ·)
  | _ => none
def tInts (ks : List Int) : TA := fun _ H Q => Q (ks.map V.int) H
theorem pa_ints {X : Cx} : ∀ {es : List Expr} {ks : List Int}, intsOf es = some ks → PA X es (tInts ks)
  | [], ks, h => by
    have : ks = [] := (Option.some.inj h).symm
    subst this
    exact pa_nil
  | .Constant (.int k) j p :: r, ks, h => by
    cases e : intsOf r with
    | none => rw [show intsOf (.Constant (.int k) j p :: r) = (intsOf r).map (k :: ·) from rfl, e] at h; cases h
    | some ls =>
      rw [show intsOf (.Constant (.int k) j p :: r) = (intsOf r).map (k :: ·) from rfl, e] at h
      have : ks = k :: ls := (Option.some.inj h).symm
      subst this
      exact pa_cons pe_int (pa_ints e)
end L2

namespace L2
open PySem PySem.Spec PyProof.Rows
/-! ### enumerate of a list -/
end L2

namespace L2
open PySem PySem.Spec PyProof.Rows
/-! ### sum of a list of small numbers -/
section
variable {X : Cx}
variable {e : Expr} {te : TE} {p pos : Pos}
end
end L2

namespace L2
open PySem PySem.Spec PyProof.Rows
/-! ### list of a text -/
theorem vals_of_get : ∀ {xs : List V} {us : List Value}, xs.length = us.length → (∀ (i : Nat) (x : V) (u : Value), xs[i]? = some x → us[i]? = some u → RelV x u) → Vals xs us
  | [], [], _, _ => .nil
  | [], _ :: _, h, _ => by simp at h
  | _ :: _, [], h, _ => by simp at h
  | x :: xs, u :: us, h, g => .cons (g 0 x u rfl rfl) (vals_of_get (by simpa using h) fun i x' u' a b => g (i + 1) x' u' (by simpa using a) (by simpa using b))
section
variable {X : Cx} {e : Expr} {te : TE} {p pos : Pos}
end
end L2

namespace L2
open PySem PySem.Spec PyProof.Rows
/-! ### a comprehension with several names -/

structure CompOK2 (outer sc : Scope) (xs : List Str) (M N : List Str) : Prop where
  kind : sc.kind = .function
  nocell : ∀ y ∈ sc.names, y.2 ≠ .cell
  loc : ∀ y ∈ sc.names, y.2 = .local → sc.names.lookup y.1 = some .local
  own : ∀ x ∈ xs, sc.names.lookup x = some .local
  free : ∀ y ∈ sc.names, y.2 = .free → (outer.names.lookup y.1 = some .cell ∨ outer.names.lookup y.1 = some .free)
  nd : (M ++ xs).Nodup
  len : M.length = N.length
  same : ∀ p ∈ M.zip N, p.1 = p.2 ∨ sc.names.lookup p.1 = none
  noloc : ∀ y ∈ M, sc.names.lookup y ≠ some .local

section
variable {X : Cx} {pins : List (Addr × Obj)} {σ : St} {H2 : Hp} {s2 : Shared} {scope : Scope} {xs M : List Str} {cl : List (Str × Addr)} {fp : List Addr} {h1 : Heap} {t' : Nat}

end


/-! ### isinstance with a row of built-in classes -/
inductive TyB (H : Hp) : V → Value → Prop where
  | non : TyB H .non (.type "NoneType")
  | bl (x : Bool) : TyB H (.bl x) (.type "bool")
  | int (i : Int) : TyB H (.int i) (.type "int")
  | str (x : Str) : TyB H (.str x) (.type "str")
  | lst {a : Addr} {xs : List V} (e : H a = some (.lst xs)) : TyB H (.ref a) (.type "list")
  | tup {a : Addr} {xs : List V} (e : H a = some (.tup xs)) : TyB H (.ref a) (.type "tuple")
section
variable {X : Cx} {e : Expr} {te : TE} {p pos : Pos}
end
/-! ### the walk of a comprehension over zip -/
end L2

namespace L2
open PySem PySem.Spec PyProof.Rows
/-! ### exceptions: how one lies behind a call -/
theorem frames_data {h base : Heap} : ∀ {l : List Env}, h.FunFrames base l → ∀ L ∈ frs l, ∃ o, h.get? L = some o ∧ ∀ vs, o.data ≠ .fields vs
  | [], _, L, hL => by cases hL
  | env :: r, ⟨h1, ⟨L', o, h2, h3, h4, h5⟩, h6⟩, L, hL => by
    obtain ⟨en, e3, e4⟩ := List.mem_filterMap.mp hL
    rcases List.mem_cons.mp e3 with z | z
    · subst z
      have : L = L' := Option.some.inj (e4.symm.trans h2)
      subst this
      exact ⟨o, h4, h5⟩
    · exact frames_data h6 L (List.mem_filterMap.mpr ⟨en, z, e4⟩)
section
variable {X : Cx} {pins : List (Addr × Obj)} {σ : St} {H1 : Hp} {s1 : Shared}
/-- the frames behind a state of a body -/
theorem Inv.fsAt (I : Inv X pins σ H1 s1) : ∀ L ∈ X.fs, ∃ o, s1.heap.get? L = some o ∧ (∀ vs, o.data ≠ .fields vs) ∧ H1 L = none ∧ X.base.get? L = none := fun L hL => by
  obtain ⟨o, h1, h2⟩ := frames_data I.ok.funs L hL
  have hx : L ∉ X.ex := fun z => I.ok.exfs L z hL
  obtain ⟨sl, e⟩ := I.base.slot L o h1 (I.ok.frf L hL) hL hx
  exact ⟨_, e, h2, I.base.free L o h1 (I.ok.frf L hL) hx, (I.ok.funs.mem hL).1⟩
end
/-! ### own classes under ValueError, raised -/
abbrev mroV : List Value := [.type "ValueError", .type "Exception", .type "BaseException", .type "object"]
/-- what the top has written of such a class -/
structure Exc (K : PySem.W.Frag) (mg : Str → Option Value) (x : Str) (C : Addr) : Prop where
  bound : mg x = some (.ref C)
  isIn : PySem.W.excIn K C mroV "ValueError.__new__" = true
end L2

namespace L2
open PySem PySem.Spec PyProof.Rows
/-! ### try .. except C as n: the tried body, what is caught, the suite -/
section
variable {X : Cx} {pins : List (Addr × Obj)} {σ σ0 : St} {H H1 : Hp} {s s1 : Shared} {E0 : XK}
/-- the state in which an exception is caught -/
theorem Inv.caught {s' : Shared} {H' : Hp} {B h5 : Heap} (hst : X.stack = X.env :: X.outer) (hfr : X.env.frame = some X.env.locals) (I : Inv X pins σ H1 s1) (os : s'.os = s1.os) (gb : AllBare s'.gens)
    (un : Un (frs X.stack) [] H1 H' s1.heap s'.heap) (hok : HOk X.prog X.w H' s'.heap) (hB : ∀ b o, s'.heap.get? b = some o → b ∉ frs X.stack → (s1.heap.get? b ≠ none ∨ H' b ≠ none) → B.get? b = some o)
    (st5 : ∀ b o, B.get? b = some o → h5.get? b = some o) (up : s'.heap.UpToSlots h5) : Inv X pins σ H' { s' with heap := h5 } := by
  have frn : ∀ b, b ∈ frs X.stack → H1 b = none ∧ H' b = none ∧ ∃ o, s1.heap.get? b = some o ∧ ∀ vs, o.data ≠ .fields vs := fun b hm => by
    have h1 : ∃ o, s1.heap.get? b = some o ∧ (∀ vs, o.data ≠ .fields vs) ∧ H1 b = none := by
      rw [hst] at hm
      obtain ⟨en, e3, e4⟩ := List.mem_filterMap.mp hm
      rcases List.mem_cons.mp e3 with z | z
      · subst z
        have : b = X.env.locals := Option.some.inj (e4.symm.trans hfr)
        subst this
        obtain ⟨m, hn', _⟩ := I.loc
        obtain ⟨o, es, ep, ho, hd, _⟩ := id hn'
        exact ⟨o, ho, (fun vs q => by rw [hd] at q; cases q), I.free⟩
      · obtain ⟨o, h1, h2, h3, _⟩ := I.fsAt b (List.mem_filterMap.mpr ⟨en, z, e4⟩)
        exact ⟨o, h1, h2, h3⟩
    obtain ⟨o, h2, h3, h4⟩ := h1
    exact ⟨h4, un.free b o h2 h4 (by simp), o, h2, h3⟩
  have st : ∀ b o, s'.heap.get? b = some o → b ∉ frs X.stack → (s1.heap.get? b ≠ none ∨ H' b ≠ none) → h5.get? b = some o := fun b o q n z => st5 b o (hB b o q n z)
  refine I.call' (ch := []) os ⟨fun b o q n hb hx => ?_, fun b o q n hb hx => ?_, un.free, fun b o q hx => ?_, un.tups, un.frzs, un.tbls⟩ (fun b u q => ?_) gb (by simp)
  · exact st b o (un.keep b o q n hb hx) hb (.inl (by rw [q]; simp))
  · obtain ⟨z, q'⟩ := un.slot b o q n hb hx
    obtain ⟨_, _, o2, q2, q3⟩ := frn b hb
    rw [q] at q2; cases q2
    obtain ⟨z', q4⟩ := up b _ q' q3
    exact ⟨z', q4⟩
  · by_cases hb : b ∈ frs X.stack
    · obtain ⟨n1, _, o2, q2, q3⟩ := frn b hb
      rw [q] at q2; cases q2
      obtain ⟨z, q'⟩ := un.slot b o q n1 hb hx
      obtain ⟨z', q4⟩ := up b _ q' q3
      exact ⟨_, q4⟩
    · obtain ⟨o2, q2⟩ := un.there b o q hx
      exact ⟨o2, st b o2 q2 hb (.inl (by rw [q]; simp))⟩
  · refine (hok b u q).stay (fun c v hc q' => st c v q' ?_ (.inr ?_)) (fun _ q' => q') fun _ _ q' => q'
    · intro hm
      rcases hc with z | z
      · rw [z] at hm; rw [(frn b hm).2.1] at q; cases q
      · rw [(frn c hm).2.1] at z; cases z
    · rcases hc with z | z
      · rw [z, q]; simp
      · rw [z]; simp
end
/-- what is wanted behind the suite, where the name goes -/
def Ends.drop (D : Ends) (i : Nat) : Ends := ⟨fun σ H => D.nx (σ.set i none) H, D.rt, fun σ H => D.bk (σ.set i none) H, fun σ H => D.ct (σ.set i none) H⟩
end L2

namespace PySem.W
open PySem PySem.Spec PySem.Calls PyProof.Rows Builtin Builtin.ObjectAttr Builtin.Getset_descriptor
section
variable {prog : Program} {w : World} {A : Around} {E : Value → Shared → Prop} {K : Frag} {h : Heap} {g : Array GenState} {d : Drawn} {t : Nat} {os : OsState} {a D : Addr} {o : Obj} {R : Result → Shared → Prop}
/-- what the top must say of an own class of exceptions, for isinstance -/
def excKit (K : Frag) (D : Addr) : Bool := (clsIn K D).isSome && mroIn K D (.type "object") == some true && mroIn K D (.type "BaseException") == some true && findIn K (.ref D) "__getattribute__" == some (some (.builtin "BaseException.__getattribute__"))
  && findIn K (.ref D) "__getattr__" == some none && findIn K (.ref D) "__class__" == some (some (.builtin "object.__class__"))
end
end PySem.W

namespace L2
open PySem PySem.Spec PyProof.Rows
/-! ### isinstance of a caught thing; count and index of truths; lists of texts as data -/
section
variable {X : Cx} {e e2 : Expr} {te te2 : TE} {p p2 pos : Pos}
end
/-! ### all own classes of exceptions of a text -/
def excFacts (K : PySem.W.Frag) (CE : Addr) (Cs : List Addr) : Bool :=
  Cs.all fun D => PySem.W.exmOne K (.ref D) (.ref CE) == some true && PySem.W.excKit K D && PySem.W.excIn K D mroV "ValueError.__new__" && PySem.W.kitOne K (.ref D) (.type "ValueError") == some true && Cs.all fun C => PySem.W.kitOne K (.ref D) (.ref C) == some (D == C)
structure ExF (K : PySem.W.Frag) (CE D : Addr) (Cs : List Addr) : Prop where
  exm : PySem.W.exmOne K (.ref D) (.ref CE) = some true
  kit : PySem.W.excKit K D = true
  isIn : PySem.W.excIn K D mroV "ValueError.__new__" = true
  val : PySem.W.kitOne K (.ref D) (.type "ValueError") = some true
  one : ∀ C ∈ Cs, PySem.W.kitOne K (.ref D) (.ref C) = some (D == C)
theorem excFacts.of {K : PySem.W.Frag} {CE : Addr} {Cs : List Addr} (h : excFacts K CE Cs = true) : ∀ D ∈ Cs, ExF K CE D Cs := fun D hD => by
  have h1 := List.all_eq_true.mp h D hD
  simp only [Bool.and_eq_true, beq_iff_eq] at h1
  obtain ⟨⟨⟨⟨a, b⟩, c⟩, d⟩, e⟩ := h1
  exact ⟨a, b, c, d, fun C hC => beq_iff_eq.mp (List.all_eq_true.mp e C hC)⟩
theorem ExF.any {K : PySem.W.Frag} {CE D : Addr} {Cs : List Addr} (h : ExF K CE D Cs) : ∀ cs : List Addr, (∀ c ∈ cs, c ∈ Cs) → PySem.W.kitAny K (.ref D) (cs.map Value.ref) = some (cs.any fun c => D == c)
  | [], _ => rfl
  | c :: r, hc => by
    have h1 := h.one c (hc c List.mem_cons_self)
    have h2 := h.any r fun d hd => hc d (List.mem_cons_of_mem _ hd)
    rw [List.map_cons, PySem.W.kitAny, h1]
    cases q : D == c with
    | true => simp [q]
    | false => simp [q, h2]
/-! ### count and index of truths -/
section
variable {X : Cx}
end
/-! ### lists of texts as data -/
end L2
namespace L2
open PySem PySem.Spec PyProof.Rows
section
variable {X : Cx}
end
end L2

namespace PySem.W
open PySem PySem.Spec PySem.Calls PyProof.Rows
/-! ### enumerate(xs, start=1) -/
section
variable {prog : Program} {w : World} {A : Around} {E : Value → Shared → Prop} {s : Shared}
end
end PySem.W
namespace L2
open PySem PySem.Spec PyProof.Rows
/-! ### max of a list, index of a number -/
section
variable {X : Cx} {e : Expr} {te : TE} {p pos : Pos}
end
end L2

namespace L2
open PySem PySem.Spec PyProof.Rows
/-! ### products of large numbers; any of a list of truths -/
section
variable {X : Cx} {e : Expr} {te : TE} {p pos : Pos}
end
end L2

namespace L2
open PySem PySem.Spec PyProof.Rows

/-! ### lists of pairs as tables -/
section
variable {κ : Type} [DecidableEq κ]
def valV (kvs : List (κ × V)) (k : κ) : Option V := (kvs.find? fun kv => decide (kv.1 = k)).map (·.2)
/-- in its place, or at the end -/
def putK (kvs : List (κ × V)) (k : κ) (v : V) : List (κ × V) :=
  if (kvs.any fun kv => decide (kv.1 = k)) = true then kvs.map (fun kv => if kv.1 = k then (kv.1, v) else kv) else kvs ++ [(k, v)]
def dropK (kvs : List (κ × V)) (k : κ) : List (κ × V) := kvs.filter fun kv => decide (kv.1 ≠ k)

theorem valV_pos {p : κ × V} {r : List (κ × V)} {k : κ} (e : p.1 = k) : valV (p :: r) k = some p.2 := by simp [valV, List.find?_cons, e]
theorem valV_neg {p : κ × V} {r : List (κ × V)} {k : κ} (e : ¬ p.1 = k) : valV (p :: r) k = valV r k := by simp [valV, List.find?_cons, e]

theorem RelO.getD {o : Option V} {u : Option Value} {d : V} {d' : Value} (r : RelO o u) (rd : RelV d d') : RelV (o.getD d) (u.getD d') := by
  cases o with
  | none => cases u with
    | none => exact rd
    | some _ => exact (show False from r).elim
  | some _ => cases u with
    | none => exact (show False from r).elim
    | some _ => exact r

/-- raw tables of the same keys -/
theorem KV.val {kvs : List (κ × V)} {vs : List (κ × Value)} (r : KV kvs vs) (k : κ) : RelO (valV kvs k) (valueAt vs k) := by
  unfold KV at r
  induction r with
  | nil => exact True.intro
  | @cons p q ps qs h t ih =>
    obtain ⟨h1, h2⟩ := h
    by_cases e : p.1 = k
    · have e' : q.1 = k := h1.symm.trans e
      have b : valueAt (q :: qs) k = some q.2 := by simp [valueAt, List.find?_cons, e']
      rw [valV_pos e, b]; exact h2
    · have e' : ¬ q.1 = k := fun z => e (h1.trans z)
      have b : valueAt (q :: qs) k = valueAt qs k := by simp [valueAt, List.find?_cons, e']
      rw [valV_neg e, b]; exact ih
theorem KV.any {kvs : List (κ × V)} {vs : List (κ × Value)} (r : KV kvs vs) (k : κ) : (kvs.any fun kv => decide (kv.1 = k)) = vs.any fun kv => decide (kv.1 = k) := by
  unfold KV at r
  induction r with
  | nil => rfl
  | cons h t ih => rw [List.any_cons, List.any_cons, ih, h.1]
theorem KV.drop {kvs : List (κ × V)} {vs : List (κ × Value)} (r : KV kvs vs) (k : κ) : KV (dropK kvs k) (without vs k) := by
  unfold KV at r ⊢
  unfold dropK without
  induction r with
  | nil => exact .nil
  | @cons p q ps qs h t ih =>
    obtain ⟨h1, h2⟩ := h
    rw [List.filter_cons, List.filter_cons]
    by_cases e : p.1 = k
    · have a : ¬ decide (p.1 ≠ k) = true := by simp [e]
      have b : ¬ decide (q.1 ≠ k) = true := by simp [h1.symm.trans e]
      rw [if_neg a, if_neg b]; exact ih
    · have e' : ¬ q.1 = k := fun z => e (h1.trans z)
      have a : decide (p.1 ≠ k) = true := by simp [e]
      have b : decide (q.1 ≠ k) = true := by simp [e']
      rw [if_pos a, if_pos b]; exact .cons ⟨h1, h2⟩ ih
theorem KV.keys {kvs : List (κ × V)} {vs : List (κ × Value)} (r : KV kvs vs) : kvs.map (·.1) = vs.map (·.1) := by
  unfold KV at r
  induction r with
  | nil => rfl
  | cons h t ih => rw [List.map_cons, List.map_cons, ih, h.1]
theorem KV.length {kvs : List (κ × V)} {vs : List (κ × Value)} (r : KV kvs vs) : kvs.length = vs.length := Paired.length r
end


/-! ### a tracked dict, its keys ints and texts or tuples of these -/

/-- raw entries of a dict with tuple keys -/
abbrev KT (H : Hp) : List (List Key × V) → List (List Key × Addr × Value) → Prop := Paired fun p q => p.1 = q.1 ∧ H q.2.1 = some (.tup (p.1.map kV)) ∧ RelV p.2 q.2.2
theorem KT.val {H : Hp} {kvs : List (List Key × V)} {xs : List (List Key × Addr × Value)} (r : KT H kvs xs) (k : List Key) : RelO (valV kvs k) ((atKey xs k).map (·.2)) := by
  induction r with
  | nil => exact True.intro
  | @cons p q ps qs h t ih =>
    obtain ⟨h1, _, h2⟩ := h
    by_cases e : p.1 = k
    · have e' : q.1 = k := h1.symm.trans e
      have b : atKey (q :: qs) k = some q.2 := by simp [atKey, List.find?_cons, e']
      rw [valV_pos e, b]; exact h2
    · have e' : ¬ q.1 = k := fun z => e (h1.trans z)
      have b : atKey (q :: qs) k = atKey qs k := by simp [atKey, List.find?_cons, e']
      rw [valV_neg e, b]; exact ih
theorem KT.keeps {H H' : Hp} {kvs : List (List Key × V)} {xs : List (List Key × Addr × Value)} (r : KT H kvs xs) (ht : ∀ b ys, H b = some (.tup ys) → H' b = some (.tup ys)) : KT H' kvs xs :=
  Paired.mapP r fun _ _ z => ⟨z.1, ht _ _ z.2.1, z.2.2⟩

section
variable {P : Program} {w : World} {H : Hp} {h : Heap} {a : Addr}
end

/-- what the dict at a holds at the key y -/
def DGet (H : Hp) (a : Addr) (y : V) (r : Option V) : Prop :=
  (∃ kvs k, Rd H a (.dK kvs) ∧ y = kV k ∧ r = valV kvs k) ∨ ∃ kvs k b, Rd H a (.dT kvs) ∧ y = .ref b ∧ H b = some (.tup (k.map kV)) ∧ r = valV kvs k
/-- the heap behind a[y] = v -/
def DPut (H : Hp) (a : Addr) (y v : V) (H' : Hp) : Prop :=
  (∃ kvs k, H a = some (.dK kvs) ∧ y = kV k ∧ kvs.length < sizeLine ∧ H' = upd H a (.dK (putK kvs k v))) ∨
  ∃ kvs k b, H a = some (.dT kvs) ∧ y = .ref b ∧ H b = some (.tup (k.map kV)) ∧ kvs.length < sizeLine ∧ H' = upd H a (.dT (putK kvs k v))
theorem DGet.k {H : Hp} {a : Addr} {kvs : List (Key × V)} {k : Key} (e : H a = some (.dK kvs)) : DGet H a (kV k) (valV kvs k) := .inl ⟨kvs, k, .inl e, rfl, rfl⟩
theorem DGet.t {H : Hp} {a b : Addr} {kvs : List (List Key × V)} {k : List Key} (e : H a = some (.dT kvs)) (eb : H b = some (.tup (k.map kV))) : DGet H a (.ref b) (valV kvs k) := .inr ⟨kvs, k, b, .inl e, rfl, eb, rfl⟩
theorem DPut.k {H : Hp} {a : Addr} {kvs : List (Key × V)} {k : Key} {v : V} (e : H a = some (.dK kvs)) (hl : kvs.length < sizeLine) : DPut H a (kV k) v (upd H a (.dK (putK kvs k v))) := .inl ⟨kvs, k, e, rfl, hl, rfl⟩
theorem DPut.t {H : Hp} {a b : Addr} {kvs : List (List Key × V)} {k : List Key} {v : V} (e : H a = some (.dT kvs)) (eb : H b = some (.tup (k.map kV))) (hl : kvs.length < sizeLine) :
    DPut H a (.ref b) v (upd H a (.dT (putK kvs k v))) := .inr ⟨kvs, k, b, e, rfl, eb, hl, rfl⟩


section
variable {X : Cx} {pins : List (Addr × Obj)} {σ : St} {H : Hp} {s : Shared} {a : Addr} {y v : V} {u r : Value} {o : Option V} {A : Around} {E : Value → Shared → Prop}


/-- a dict's object is replaced -/
theorem d_write {h' : Heap} {t' : Nat} {ob : HO} (I : Inv X pins σ H s) (mu : Mut (H a)) (hs : Heap.SameBut a s.heap h') (he : ∃ q, h'.get? a = some q) (new : ObjOk X.prog X.w (upd H a ob) h' a ob) :
    Inv X pins σ (upd H a ob) { s with heap := h', toks := t' } :=
  I.write (x := a) (e := a) mu (.inl rfl) (fun b q hb z => (hs.2 b hb).trans z) he new
end

section
variable {X : Cx} {pins : List (Addr × Obj)} {σ : St} {H : Hp} {s : Shared} {a : Addr} {kvs : List (Key × V)} {k : Key} {u : Value} {A : Around} {E : Value → Shared → Prop}
end


/-! ### readings and rules -/



section
variable {X : Cx} {o i e value : Expr} {pos pos' tpos : Pos} {td ty tv : TE}
end


/-! ### displays -/
section
variable {X : Cx} {pos : Pos}
end




/-! ### methods -/
/-- a method call o.m(e) of a built-in, with one argument: what must be seen of the text -/
structure M1 (X : Cx) (o : Expr) (m : Str) (apos : Pos) (e : Expr) (cpos : Pos) : Prop where
  base : attributeBase o m X.env (eval o X.env) = eval o X.env
  few : ((backTo cpos (starEach [e] X.env)).all (fun x => !x.1) && (backToKw cpos (keywordEach [] X.env)).all (fun x => x.1.isSome)
    && decide (([e] : List Expr).length + ([] : List Keyword).length + (if ([] : List Keyword).isEmpty then 0 else 1) < 30)) = true
  line : (apos.endLine == cpos.line) = true
  trees : backTo cpos (starEach [e] X.env) = [(false, eval e X.env)]
structure M2 (X : Cx) (o : Expr) (m : Str) (apos : Pos) (e f : Expr) (cpos : Pos) : Prop where
  base : attributeBase o m X.env (eval o X.env) = eval o X.env
  few : ((backTo cpos (starEach [e, f] X.env)).all (fun x => !x.1) && (backToKw cpos (keywordEach [] X.env)).all (fun x => x.1.isSome)
    && decide (([e, f] : List Expr).length + ([] : List Keyword).length + (if ([] : List Keyword).isEmpty then 0 else 1) < 30)) = true
  line : (apos.endLine == cpos.line) = true
  trees : backTo cpos (starEach [e, f] X.env) = [(false, eval e X.env), (false, eval f X.env)]


section
variable {X : Cx} {pins : List (Addr × Obj)} {σ : St} {H : Hp} {s : Shared} {a : Addr} {y d : V} {u r : Value} {o : Option V} {A : Around} {E : Value → Shared → Prop}
end

section
variable {X : Cx} {o e f : Expr} {apos cpos : Pos} {td ty tx : TE}
end

/-! ### dict(d): a copy -/
section
variable {X : Cx} {pins : List (Addr × Obj)} {σ : St} {H : Hp} {s : Shared} {a : Addr} {kvs : List (Key × V)} {A : Around} {E : Value → Shared → Prop}
end


section
variable {X : Cx} {pins : List (Addr × Obj)} {σ : St} {H : Hp} {s : Shared} {a : Addr} {y : V} {u : Value} {A : Around} {E : Value → Shared → Prop}
end
end L2


namespace L2
open PySem PySem.Spec PyProof.Rows
/-! ### sum of a list of numbers of any size -/
section
variable {X : Cx}
variable {e : Expr} {te : TE} {p pos : Pos}
end
/-! ### the walk of a comprehension over enumerate -/
/-! ### a dict of numbers by numbers -/
/-- at w there lies a dict that tells f at each of qs -/
def DictN (H : Hp) (w : Addr) (qs : List Nat) (f : Nat → Int) : Prop := ∃ kvs : List (Key × V), H w = some (.dK kvs) ∧ kvs.length ≤ qs.length ∧ (∀ q ∈ qs, valV kvs (.inl (q : Int)) = some (.int (f q))) ∧ ∀ k : Int, (∀ q ∈ qs, (q : Int) ≠ k) → valV kvs (.inl k) = none
theorem DictN.new {H : Hp} {w : Addr} {f : Nat → Int} (h : H w = some (.dK [])) : DictN H w [] f := ⟨[], h, Nat.le_refl _, fun q hq => absurd hq (List.not_mem_nil), fun _ _ => rfl⟩
theorem DictN.get {H : Hp} {w : Addr} {qs : List Nat} {f : Nat → Int} (h : DictN H w qs f) {q : Nat} (hq : q ∈ qs) : DGet H w (.int (q : Int)) (some (.int (f q))) := by
  obtain ⟨kvs, h1, _, h2, _⟩ := h
  have := DGet.k (k := .inl (q : Int)) h1
  rw [h2 q hq] at this
  exact this
/-! ### name = [comprehension with several names] -/
/-! ### for over reversed(list) -/
end L2

namespace L2
open PySem PySem.Spec PyProof.Rows
/-! ### d.setdefault(k, x), keys that are tuples -/
section
variable {prog : Program} {w : World} {κ : Type} [DecidableEq κ] {knd : HeapKind prog w κ} {A : Around} {E : Value → Shared → Prop} {s : Shared}
end
section
variable {X : Cx} {pins : List (Addr × Obj)} {σ : St} {H : Hp} {s : Shared} {a c : Addr} {kvs : List (List Key × V)} {k : List Key} {v : V} {r : Value} {A : Around} {E : Value → Shared → Prop}
end
/-! ### tuple(list) -/
section
variable {X : Cx} {e : Expr} {te : TE} {p pos : Pos}
end
/-! ### a dict is held still -/
theorem Inv.still {X : Cx} {pins : List (Addr × Obj)} {σ : St} {H : Hp} {s : Shared} {a : Addr} {kvs : List (List Key × V)} (I : Inv X pins σ H s) (e : H a = some (.dT kvs)) :
    ∃ o, s.heap.get? a = some o ∧ Inv X pins σ (upd H a (.frz o (.dT kvs))) s := by
  obtain ⟨z, hd, xs, rel, o, es, ep, h1, h2, h3, h4, h5⟩ := (show ObjOk X.prog X.w H s.heap a (.dT kvs) from I.hok a _ e)
  refine ⟨o, h1, d_write (h' := s.heap) (t' := s.toks) I (by rw [e]; exact True.intro) ⟨rfl, fun _ _ => rfl⟩ ⟨o, h1⟩ ⟨h1, z, hd, xs, KT.keeps rel fun b ys eb => ?_, o, es, ep, h1, h2, h3, h4, h5⟩⟩
  rw [upd_ne (ne_of eb e (fun z => nomatch z))]
  exact eb
/-! ### for x in d.values() -/
section
variable {prog : Program} {w : World} {A : Around} {E : Value → Shared → Prop} {s : Shared} {it d : Addr} {i n ep : Nat} {od : Obj} {es : Array DictEntry}
end
/-! ### in, not in a list of data -/
/-! ### a comprehension over a tuple -/
end L2

namespace L2
open PySem PySem.Spec PyProof.Rows
/-! ### f-strings of written texts and numbers -/
section
variable {X : Cx}
end
end L2

namespace L2
open PySem PySem.Spec PyProof.Rows
/-! ### for k, x in d.items() -/
section
variable {prog : Program} {w : World} {A : Around} {E : Value → Shared → Prop} {s : Shared} {it d : Addr} {i n ep : Nat} {od : Obj} {es : Array DictEntry}
end
end L2

namespace L2
open PySem PySem.Spec PyProof.Rows
/-! ### min(xs, key=len, default=d) of a list of lists -/
section
variable {s : Shared} {prog : Program} {w : World} {A : Around} {E : Value → Shared → Prop}
def Grown (h0 h : Heap) : Prop := ∀ b o, h0.get? b = some o → h.get? b = some o
theorem Grown.but {h0 h h' : Heap} {a : Addr} (g : Grown h0 h) (n : h0.get? a = none) (k : ∀ b o, b ≠ a → h.get? b = some o → h'.get? b = some o) : Grown h0 h' := fun b o e => k b o (fun z => by rw [z, n] at e; cases e) (g b o e)
end
end L2

namespace L2
open PySem PySem.Spec PyProof.Rows
/-! ### < of lists of numbers, and of pairs of a number and such a list -/
def ltL : List Int → List Int → Bool
  | [], [] => false
  | [], _ :: _ => true
  | _ :: _, [] => false
  | x :: xs, y :: ys => if x = y then ltL xs ys else decide (x < y)
theorem ltL_nil_left : ∀ ys : List Int, ltL [] ys = decide (0 < ys.length)
  | [] => rfl
  | _ :: _ => by simp [ltL]
theorem ltL_nil_right : ∀ xs : List Int, ltL xs [] = false
  | [] => rfl
  | _ :: _ => rfl
section
open SeqAt MeetsSeq MeetsSeq2 MeetsSeq3 SeqRoads2
open AutoSeq1 (wpAny_loadPart')
def LtAt (A : Around) (s : Shared) (y x : Value) (b : Bool) : Prop := ∀ (prog : Program) (w : World) (E : Value → Shared → Prop) (Q : Value → Shared → Prop), Q (.bool b) s → wpAny (model prog w) A (richCompare .Lt y x) Q E s
theorem LtAt.ints {A : Around} {s : Shared} {i j : Int} {t u : Tok} : LtAt A s (.int i t) (.int j u) (decide (i < j)) := fun prog w E Q h =>
  richCompare_gives (op := .Lt) (typeIs_int s _ t) (typeIs_int s _ u) F.slot_int_lt F.entry_int_lt (F.args_int_lt_2 _ _) (gives_int_lt _ _ t u) (fun x => nomatch x) h
/-- items that are these numbers -/
def Nums (xs : List Int) (items : Array Value) : Prop := items.size = xs.length ∧ ∀ (j : Nat) (h : j < items.size), ∃ (x : Int) (t : Tok), xs[j]? = some x ∧ items[j] = .int x t
theorem eqI {A : Around} {s : Shared} {i j : Int} {t u : Tok} : EqAt A s (.int i t) (.int j u) (decide (i = j)) := by
  have := eqAt_V (A := A) (s := s) (y := .int i) (x := .int j) (u := .int i t) (v := .int j u) ⟨t, rfl⟩ ⟨u, rfl⟩ rfl rfl
  have e : eqV (.int i) (.int j) = decide (i = j) := by show (i == j) = _; by_cases h : i = j <;> simp [h]
  rw [e] at this
  exact this
theorem lt_loop {l b : Addr} {items items2 : Array Value} {n n2 : Nat} {dd dd2 : Option Addr} {sl sl2 : Array (Option Value)} {xs ys : List Int} (N1 : Nums xs items) (N2 : Nums ys items2) (k : Nat) :
    ∀ i : Nat, items.size - i = k → i ≤ items.size → i ≤ items2.size → Meets (Builtin.«list.__eq__.loop» ⟨[.ref l, .ref b, rawInt i, rawInt 0], []⟩)
      (fun A R s => s.heap.get? l = some { cls := .type "list", dict := dd, data := .seq items n, slots := sl } ∧ s.heap.get? b = some { cls := .type "list", dict := dd2, data := .seq items2 n2, slots := sl2 } ∧ R (.ok (.ret (.bool (ltL (xs.drop i) (ys.drop i))))) s) := by
  induction k with
  | zero =>
    intro i hk hle hle2 prog w A R s h
    obtain ⟨hp, g, d, tk, os⟩ := s; obtain ⟨hl, hb, h⟩ := h
    wp_walk using wpAny_loadPart' hl, wpAny_loadPart' hb
    have none1 : items[((i : Nat) : Int).toNat]? = none := by simp; omega
    have e1 : xs.drop i = [] := List.drop_eq_nil_of_le (by rw [← N1.1]; omega)
    rw [e1, ltL_nil_left, List.length_drop, ← N2.1] at h
    rw [none1]
    wp_walk using wpAny_loadPart' hl, wpAny_loadPart' hb
    have e2 : decide (items.size < items2.size) = decide (0 < items2.size - i) := decide_eq_decide.mpr (by omega)
    show R (.ok (.ret (.bool (decide (items.size < items2.size))))) _
    rw [e2]
    exact h
  | succ k ih =>
    intro i hk hle hle2 prog w A R s h
    obtain ⟨hp, g, d, tk, os⟩ := s; obtain ⟨hl, hb, h⟩ := h
    have lt1 : i < items.size := by omega
    by_cases lt2 : i < items2.size
    · obtain ⟨x, t, hx, ex⟩ := N1.2 i lt1
      obtain ⟨y, u, hy, ey⟩ := N2.2 i lt2
      have dx : xs.drop i = x :: xs.drop (i + 1) := by
        obtain ⟨q1, q2⟩ := List.getElem?_eq_some_iff.mp hx
        rw [List.drop_eq_getElem_cons q1, q2]
      have dy : ys.drop i = y :: ys.drop (i + 1) := by
        obtain ⟨q1, q2⟩ := List.getElem?_eq_some_iff.mp hy
        rw [List.drop_eq_getElem_cons q1, q2]
      wp_walk using wpAny_loadPart' hl, wpAny_loadPart' hb
      have at1 : items[((i : Nat) : Int).toNat]? = some (.int x t) := by simp [lt1, ex]
      have at2 : items2[((i : Nat) : Int).toNat]? = some (.int y u) := by simp [lt2, ey]
      have hc : ((i : Int) + 1) = ((i + 1 : Nat) : Int) := by push_cast; rfl
      rw [dx, dy] at h
      simp only [ltL] at h
      rw [at1, at2]
      refine wpAny_bind (eqI prog w _ _ ?_)
      by_cases exy : x = y
      · rw [if_pos exy] at h
        rw [decide_eq_true exy]
        wp_walk
        rw [hc]
        exact ⟨plainId_quiet plain_eq_loop _, codeAny_builtin entry_eq_loop (by
          rw [Around.under_plainId plain_eq_loop _]
          exact ih (i + 1) (by omega) (by omega) (by omega) prog w A R _ ⟨hl, hb, h⟩)⟩
      · rw [if_neg exy] at h
        rw [decide_eq_false exy]
        wp_walk using wpAny_loadPart' hl, wpAny_loadPart' hb
        rw [at1, at2]
        refine wpAny_bind (LtAt.ints prog w _ _ ?_)
        wp_walk
        exact h
    · wp_walk using wpAny_loadPart' hl, wpAny_loadPart' hb
      obtain ⟨x, t, hx, ex⟩ := N1.2 i lt1
      have at1 : items[((i : Nat) : Int).toNat]? = some (.int x t) := by simp [lt1, ex]
      have none2 : items2[((i : Nat) : Int).toNat]? = none := by simp; omega
      have e1 : ys.drop i = [] := List.drop_eq_nil_of_le (by rw [← N2.1]; omega)
      rw [e1, ltL_nil_right] at h
      rw [at1, none2]
      wp_walk using wpAny_loadPart' hl, wpAny_loadPart' hb
      have e2 : decide (items.size < items2.size) = false := decide_eq_false (by omega)
      show R (.ok (.ret (.bool (decide (items.size < items2.size))))) _
      rw [e2]
      exact h
theorem list_lt {l b : Addr} {items items2 : Array Value} {n n2 : Nat} {dd dd2 : Option Addr} {sl sl2 : Array (Option Value)} {xs ys : List Int} (N1 : Nums xs items) (N2 : Nums ys items2) : Meets (Builtin.«list.__lt__» ⟨[.ref l, .ref b], []⟩)
    (fun A R s => s.heap.get? l = some { cls := .type "list", dict := dd, data := .seq items n, slots := sl } ∧ s.heap.get? b = some { cls := .type "list", dict := dd2, data := .seq items2 n2, slots := sl2 } ∧ R (.ok (.ret (.bool (ltL xs ys)))) s) := by
  intro prog w A R s h
  obtain ⟨hp, g, d, tk, os⟩ := s; obtain ⟨hl, hb, h⟩ := h
  have sub := AutoSeq1.sub_list_list
  wp_walk using wpAny_loadPart' hl, wpAny_loadPart' hb
  exact ⟨plainId_quiet plain_eq_loop _, codeAny_builtin entry_eq_loop (by
    rw [Around.under_plainId plain_eq_loop _]
    exact lt_loop N1 N2 _ 0 rfl (Nat.zero_le _) (Nat.zero_le _) prog w A R _ ⟨hl, hb, by simpa using h⟩)⟩
theorem LtAt.lists {A : Around} {s : Shared} {l b : Addr} {items items2 : Array Value} {xs ys : List Int} (hl : s.heap.IsList l items) (hb : s.heap.IsList b items2) (N1 : Nums xs items) (N2 : Nums ys items2) (hu : A.units < cLine) : LtAt A s (.ref l) (.ref b) (ltL xs ys) := fun prog w E Q h => by
  obtain ⟨⟨cls, dd, data, sl⟩, ho, hc, n, hd⟩ := id hl
  obtain ⟨⟨cls2, dd2, data2, sl2⟩, ho2, hc2, n2, hd2⟩ := id hb
  simp only at hc hd hc2 hd2; subst hc hd hc2 hd2
  exact richCompare_meets_room (op := .Lt) ⟨_, ho, rfl⟩ ⟨_, ho2, rfl⟩ F.slot_list_lt F.entry_list_lt (F.args_list_lt_2 _ _) (list_lt N1 N2) ⟨ho, ho2, show Value.bool (ltL xs ys) ≠ Value.notImplemented ∧ Q (.bool (ltL xs ys)) s from ⟨(fun x => nomatch x), h⟩⟩ hu
end
end L2

namespace L2
open PySem PySem.Spec PyProof.Rows
/-! ### short forms, so that the terms stay small -/
theorem us1 {C : List Value → Prop} (h : ∀ a, C [a]) : ∀ us : List Value, us.length = 1 → C us
  | [a], _ => h a
theorem us2 {C : List Value → Prop} (h : ∀ a b, C [a, b]) : ∀ us : List Value, us.length = 2 → C us
  | [a, b], _ => h a b
theorem us3 {C : List Value → Prop} (h : ∀ a b c, C [a, b, c]) : ∀ us : List Value, us.length = 3 → C us
  | [a, b, c], _ => h a b c
theorem us4 {C : List Value → Prop} (h : ∀ a b c d, C [a, b, c, d]) : ∀ us : List Value, us.length = 4 → C us
  | [a, b, c, d], _ => h a b c d
theorem for_listA {K : PySem.W.Frag} {a : Addr} {xs : List V} {g : TG} {tb : TS} {D : Ends} {σ : St} {H : Hp} (Pv : Nat → St → Hp → Prop) (h0 : Pv 0 σ H) (hl : ∀ i σ H, i ≤ xs.length → Pv i σ H → SqL K H a xs)
    (hs : ∀ (D2 : Ends) i x σ H, (∀ σ' H', Pv (i + 1) σ' H' → D2.nx σ' H') → xs[i]? = some x → Pv i σ H → g x σ H fun σ2 H2 => tb D2 σ2 H2) (hd : ∀ σ H, Pv xs.length σ H → D.nx σ H) : FW (Itl K a) g tb D σ H :=
  for_list Pv h0 hl (fun i x σ H hx p => hs _ i x σ H (fun _ _ h => h) hx p) hd
theorem for_rangeA {lo : Int} {n : Nat} {g : TG} {tb : TS} {D : Ends} {σ : St} {H : Hp} (Pv : Nat → St → Hp → Prop) (h0 : Pv 0 σ H)
    (hs : ∀ (D2 : Ends) i σ H, (∀ σ' H', Pv (i + 1) σ' H' → D2.nx σ' H') → i < n → Pv i σ H → g (.int (lo + i)) σ H fun σ2 H2 => tb D2 σ2 H2) (hd : ∀ σ H, Pv n σ H → D.nx σ H) : FW (Itr lo n) g tb D σ H :=
  for_range Pv h0 (fun i σ H hx p => hs _ i σ H (fun _ _ h => h) hx p) hd
end L2

namespace L2
open PySem PySem.Spec PyProof.Rows
/-! ### walking a text; list(range(0, b, c)) -/
section
variable {X : Cx} {tg : Expr}
end
section
variable {X : Cx} {a b c : Expr} {ta : TA} {p p2 pos pos2 : Pos}
end
end L2

namespace L2
open PySem PySem.Spec PyProof.Rows
/-! ### min of a list of triples (number, number, number or list of numbers) -/
abbrev K3 := Int × Int × List Int
section
variable {s : Shared} {prog : Program} {w : World} {A : Around} {E : Value → Shared → Prop}
end
section
open SeqAt MeetsSeq MeetsSeq2 MeetsSeq3 SeqRoads2
open AutoSeq1 (wpAny_loadPart')
end
/-- a triple that stands at an address, its last part a number or a list of numbers -/
def Trip (isL : Bool) (H : Hp) (c : Addr) (k : K3) : Prop := match isL with
  | false => ∃ d : Int, k.2.2 = [d] ∧ H c = some (.tup [.int k.1, .int k.2.1, .int d])
  | true => ∃ g : Addr, H c = some (.tup [.int k.1, .int k.2.1, .ref g]) ∧ H g = some (.lst (k.2.2.map V.int))
/-- triples in a list, by their keys -/
structure Trips (isL : Bool) (H : Hp) (cs : List Addr) (ks : List K3) : Prop where
  len : cs.length = ks.length
  at_ : ∀ (i : Nat) (c : Addr) (k : K3), cs[i]? = some c → ks[i]? = some k → Trip isL H c k
section
variable {X : Cx} {e d : Expr} {te td : TE} {p pos kp : Pos} {k : Nat}
end
end L2

namespace L2
open PySem PySem.Spec PyProof.Rows
/-! ### for x in reversed(range(n)) -/
section
variable {prog : Program} {w : World} {A : Around} {E : Value → Shared → Prop} {s : Shared}
end
section
variable {X : Cx} {tg a : Expr} {ta : TA} {p p2 pos pos2 : Pos}
end
end L2

namespace L2
open PySem PySem.Spec PyProof.Rows
/-! ### in and not in a dict, as operators -/
/-! ### zip of two tuples -/
section
variable {prog : Program} {w : World} {A : Around} {E : Value → Shared → Prop} {s : Shared}
theorem IsTup.at {h h' : Heap} {a : Addr} {items : Array Value} (x : h.IsTuple a items) (k : ∀ o, h.get? a = some o → h'.get? a = some o) : h'.IsTuple a items := by
  obtain ⟨o, ho, r⟩ := x
  exact ⟨o, k o ho, r⟩
theorem IsTupIt.at {h h' : Heap} {a t : Addr} {i : Nat} (x : h.IsTupleIter a t i) (k : ∀ o, h.get? a = some o → h'.get? a = some o) : h'.IsTupleIter a t i := by
  obtain ⟨o, ho, r⟩ := x
  exact ⟨o, k o ho, r⟩
end
section
variable {prog : Program} {w : World} {A : Around} {E : Value → Shared → Prop} {s : Shared}
end
end L2

namespace L2
open PySem PySem.Spec PyProof.Rows
/-! ### a def of the text called while an exception is handled -/
structure RoomH (k : Nat) (A : Around) : Prop where
  dp : A.depth + 3 * k + 5 < recursionLimit
  un : A.units + 16 * k + 200 < cLine
structure FnHOk (P : Program) (w : World) (K : PySem.W.Frag) (mg : Str → Option Value) (base : Heap) (k : Nat) (f : Addr) (fd : FuncData) (ps : List Str) (sp : Sp) : Prop where
  len : ∀ vs H Q E, sp vs H Q E → vs.length = ps.length
  run : ∀ (A : Around) (outer : List Env) (s : Shared) (H : Hp) (args : Args) (us : List Value) (vs : List V) (Q : VK), RoomH k A → Env0 P w K mg base A outer s H → BindsTo s fd args (ps.zip us) → Vals vs us → sp vs H Q E0 →
    codeAny (model P w) A (.call (.ref f) args) (CR CX0 outer P w H s Q E0) s
structure FnH (P : Program) (w : World) (K : PySem.W.Frag) (mg : Str → Option Value) (base : Heap) (x : Str) (k : Nat) (ps : List Str) (sp : Sp) : Prop where
  ex : ∃ f fd, FnHOk P w K mg base k f fd ps sp ∧ mg x = some (.ref f) ∧ PySem.W.keepIn K (.ref f) = true ∧ Binds K fd ps []
end L2

namespace L2
open PySem PySem.Spec PyProof.Rows
/-! ### all of a list of truths -/
section
variable {X : Cx} {e : Expr} {te : TE} {p pos : Pos}
end
/-! ### how often a text stands in a list of texts -/
section
variable {X : Cx}
end
/-! ### list(range(a, b)), list(range(a, b, c)) -/
section
variable {X : Cx} {a b c : Expr} {ta : TA} {p p2 pos pos2 : Pos}
def numsFrom (i k n : Nat) : List Int := (List.range n).map fun q => ((i + q * k : Nat) : Int)
def tListR2 (ta : TA) : TE := fun σ H Q => ta σ H fun vs H1 => ∃ (i j n : Nat), vs = [.int (i : Int), .int (j : Int)] ∧ i ≤ 100000 ∧ j ≤ 100000 ∧ n = (j - i + 1 - 1) / 1 ∧ ∀ l, H1 l = none → Q (.ref l) (upd H1 l (.lst ((numsFrom i 1 n).map V.int)))
theorem size_from {i j k n : Nat} (k1 : 1 ≤ k) (hn : n = (j - i + k - 1) / k) : Builtin.Range.rangeSize (i : Int) (j : Int) (k : Int) = ((n : Nat) : Int) := by
  unfold Builtin.Range.rangeSize
  rw [if_pos (by omega)]
  split
  · rename_i h
    rw [hn]
    have e : ((j : Int) - (i : Int) - 1) / (k : Int) + 1 = ((j : Int) - (i : Int) - 1 + 1 * (k : Int)) / (k : Int) := by rw [Int.add_mul_ediv_right _ _ (by omega)]
    rw [e, show ((j : Int) - (i : Int) - 1 + 1 * (k : Int)) = ((j - i + k - 1 : Nat) : Int) by omega]
    exact (Int.natCast_ediv _ _).symm
  · rename_i h
    have : j - i + k - 1 < k := by omega
    rw [hn, Nat.div_eq_of_lt this]
    rfl
theorem list_from {pins : List (Addr × Obj)} {σ : St} {H1 : Hp} {s : Shared} {Q : VK} {E : Value → Shared → Prop} {i j k n : Nat} {r : Addr} {t u v : Tok} (hc : X.calm = true) (I2 : Inv X pins σ H1 s) (hr : IsRange s.heap r (i : Int) (j : Int) (k : Int) t u v)
    (k1 : 1 ≤ k) (k2 : k ≤ 100000) (i2 : i ≤ 100000) (j2 : j ≤ 100000) (hn : n = (j - i + k - 1) / k) (q : ∀ l, H1 l = none → Q (.ref l) (upd H1 l (.lst ((numsFrom i k n).map V.int)))) : wpAny (model X.prog X.w) X.A (call (.type "list") [.ref r]) (EP X pins σ Q) E s := by
  have hsz := size_from k1 hn
  have hnb : n ≤ 200000 := by rw [hn]; exact Nat.le_trans (Nat.div_le_self _ _) (by omega)
  have hsm : Builtin.Range.small (i : Int) (j : Int) (k : Int) = true := by
    unfold Builtin.Range.small
    rw [hsz, if_pos (show (k : Int) > 0 by omega)]
    simp only [Builtin.Range.rangeFitsLong, Bool.and_eq_true, Bool.or_eq_true, decide_eq_true_eq, beq_iff_eq]
    omega
  refine call_list_range (I2.ok.hd hc) hr hsm hsz (Nat.le_trans hnb (by decide)) fun h' tk acc c k' hl hit => ?_
  refine ⟨.ref _, _, I2.laid (t' := tk) (o := .lst ((numsFrom i k n).map V.int)) k' (Nat.le_refl _) ?_, rfl, q _ (I2.hok.fresh (Nat.le_refl _))⟩
  obtain ⟨hz, hat⟩ := hit
  refine ⟨by unfold numsFrom; rw [List.length_map, List.length_map, List.length_range]; exact Nat.le_trans hnb (by decide), acc.toList, c, ?_, by simpa using hl⟩
  refine vals_of_get (by unfold numsFrom; rw [List.length_map, List.length_map]; simp [hz]) fun y x u' hx hu => ?_
  have hu' : acc[y]? = some u' := by simpa using hu
  obtain ⟨tt, rfl⟩ := hat y u' hu'
  have hi : y < n := by rw [← hz]; exact (Array.getElem?_eq_some_iff.mp hu').1
  unfold numsFrom at hx
  rw [List.getElem?_map, List.getElem?_map, List.getElem?_range hi] at hx
  have e : V.int ((i + y * k : Nat) : Int) = x := Option.some.inj hx
  subst e
  refine ⟨tt, ?_⟩
  rw [Int.natCast_add, Int.natCast_mul]
theorem pe_listRa (hc : X.calm = true) (hml : X.mg "list" = none) (hmr : X.mg "range" = none) (ha : PA X [a, b] ta) (hgl : Gl X "list" := by rfl) (hgr : Gl X "range" := by rfl)
    (he : starEach [Expr.Call (.Name "range" p2) [a, b] [] pos2] X.env = [(false, eval (Expr.Call (.Name "range" p2) [a, b] [] pos2) X.env)] := by rfl)
    (hs : starEach [a, b] X.env = (false, eval a X.env) :: starEach [b] X.env := by rfl) (hs2 : (backTo pos2 (starEach [b] X.env)).any (·.1) = false := by rfl) :
    PE X (.Call (.Name "list" p) [.Call (.Name "range" p2) [a, b] [] pos2] [] pos) (tListR2 ta) := by
  intro pins s σ H Q I h
  refine wpAny_Call_Name_kw (ld_blt I hgl hml bt_list ?_)
  refine PyProof.Rows.callWith_type1 ?_ he rfl
  rw [he]
  show wpAny _ _ (spliced ((false, eval (Expr.Call (.Name "range" p2) [a, b] [] pos2) X.env) :: backTo pos [])) _ _ s
  refine Calls.spliced_cons ?_
  refine Call_ (ld_blt I hgr hmr boot_range (PyProof.Rows.callWith_type1 (thn (ha pos2 pins s σ H _ I h) fun us s1 ⟨vs, H1, I1, r1, q1⟩ => ?_) hs hs2))
  obtain ⟨i, j, n, e, i2, j2, en, q⟩ := q1
  subst e
  cases r1 with
  | cons r rr =>
    cases rr with
    | cons r' rr =>
      cases rr
      obtain ⟨t, rfl⟩ := r
      obtain ⟨t', rfl⟩ := r'
      refine call_range_2 ?_
      refine Calls.spliced_nil ?_
      have I2 : Inv X pins σ H1 { s1 with heap := s1.heap.push { cls := .type "range", data := .fields #[.int (i : Int) t, .int (j : Int) t', .int 1 s1.toks] }, toks := s1.toks + 1 } := I1.kept fun b o e => Heap.get?_push_of_some _ e
      exact list_from (k := 1) hc I2 (IsRange.new ..) (by decide) (by decide) i2 j2 en q
end
/-! ### try .. except C, without a name -/
end L2

namespace Ov
open PySem L2
def top (i : Nat) : Stmt := PySem.Challenge.pw_overlaid_k18_beginnings_and_ends_with_re.main.body.getD i (.Pass ⟨0, 0, 0, 0⟩)
abbrev sCellAt : Stmt := top 22
abbrev sDeck : Stmt := top 23
abbrev sTake : Stmt := top 24
/-- the drawing deck -/
def Hand (H : Hp) (p : Addr) : Prop := ∃ a b n : Int, H p = some (.lst [.int a, .int b, .int n])
def spDeck : Sp := fun vs H Q _ => ∃ c : Int, vs = [.int c] ∧ ∀ p H', H p = none → Hand H' p → Same H H' → Q (.ref p) H'
def spTake : Sp := fun vs H Q _ => ∃ (p : Addr) (many : Int), vs = [.ref p, .int many] ∧ Hand H p ∧ 1 ≤ many ∧
  ∀ (r : Int) (H' : Hp), 0 ≤ r → r < many → Hand H' p → Keep p H H' → Q (.int r) H'
def spCellAt (K : PySem.W.Frag) : Sp := fun vs H Q _ => ∃ (a : Addr) (ns : List Int), vs = [.ref a, .int 0] ∧ SqL K H a (ns.map V.int) ∧ ∀ c : Int, Q (.int c) H
section
variable {P : Program} {w : World} {K : PySem.W.Frag} {mg : Str → Option Value} {base : Heap}
theorem scCellAt : FnScope ["script", "k"] ["script", "k"] (defScope sCellAt) := ⟨rfl, rfl, rfl, by decide +kernel, rfl, by decide +kernel, by decide +kernel⟩
theorem ok_cell_at (M : Md K mg) (B : Bl mg) (F : FF K "_law_cell_at" sCellAt) : Fn P w K mg base CX0 "_law_cell_at" 1 ["script", "k"] (spCellAt K) := by
  refine fn_ok M F scCellAt (fun _ _ _ _ _ _ => us2 fun _ _ => rfl) (fun vs H Q E h => ?_) (fun f cdv A outer s H vs Q E hr h => ?_)
  · obtain ⟨a, ns, rfl, _⟩ := h; rfl
  · obtain ⟨a, ns, rfl, hS, k⟩ := h
    refine ⟨_, (pss_cons (ps_if (pt_cmpR op_lt (pv 1) (pe_lenL B.len (pv 0)) (nomark _)) (pss_one (ps_ret (pe_ix ix_list (pv 0) (pv 1) (fun _ _ => rfl)))) pss_nil)
      (pss_one (ps_ret pe_int))), ?_⟩
    refine ⟨_, rfl, _, rfl, a, _, rfl, hS, _, _, rfl, rfl, _, rfl, ?_⟩
    refine ite2 (fun hc => ?_) (fun hc => ?_)
    · cases ns with
      | nil => simp at hc
      | cons n ns => exact ⟨_, rfl, _, rfl, a, _, _, _, rfl, rfl, hS, atI_nat (j := 0) rfl, k n⟩
    · exact k 0
theorem scDeck : FnScope ["cell"] ["cell"] (defScope sDeck) := ⟨rfl, rfl, rfl, by decide +kernel, rfl, by decide +kernel, by decide +kernel⟩
theorem ok_deck (M : Md K mg) (B : Bl mg) (F : FF K "_law_deck" sDeck) : Fn P w K mg base CX0 "_law_deck" 1 ["cell"] spDeck := by
  refine fn_ok M F scDeck (fun _ _ _ _ _ _ => us1 fun _ => rfl) (fun vs H Q E h => ?_) (fun f cdv A outer s H vs Q E hr h => ?_)
  · obtain ⟨c, rfl, _⟩ := h; rfl
  · obtain ⟨c, rfl, k⟩ := h
    refine ⟨_, (pss_one (ps_ret (pe_lst (pa_cons (pe_max rfl B.max pe_int (pe_op op_sub (pv 0) (pe_op op_pow pe_int pe_int))) (pa_cons (pe_op op_mod (pv 0) pe_int) (pa_cons pe_int pa_nil)))))), ?_⟩
    refine ⟨_, rfl, _, _, rfl, rfl, ⟨by decide, by decide, by decide⟩, _, _, rfl, rfl, _, _, rfl, rfl, ?_⟩
    refine ⟨_, rfl, _, _, rfl, rfl, (by show (0 : Int) < 2147483629; decide), by show 3 ≤ sizeLine; decide, fun l hl => k l _ hl ⟨_, _, _, upd_same⟩ (Same.upd hl)⟩
theorem scTake : FnScope ["deck", "many", "digit", "stir"] ["deck", "many"] (defScope sTake) := ⟨rfl, rfl, rfl, by decide +kernel, rfl, by decide +kernel, by decide +kernel⟩
theorem ok_take (M : Md K mg) (F : FF K "_law_take" sTake) : Fn P w K mg base CX0 "_law_take" 1 ["deck", "many"] spTake := by
  refine fn_ok M F scTake (fun _ _ _ _ _ _ => us2 fun _ _ => rfl) (fun vs H Q E h => ?_) (fun f cdv A outer s H vs Q E hr h => ?_)
  · obtain ⟨p, many, rfl, _⟩ := h; rfl
  · obtain ⟨p, many, rfl, ⟨a, b, n, hp⟩, h1, k⟩ := h
    refine ⟨_, (pss_cons (ps_asg (pe_op op_add (pe_ix ix_list (pv 0) pe_int (fun _ _ => rfl)) pe_int) (pg_sub (pv 0) pe_int set_list))
      (pss_cons (ps_if (pt_cmpR op_gt (pe_ix ix_list (pv 0) pe_int (fun _ _ => rfl)) pe_int (nomark _)) (pss_cons (ps_set (i := 2) scTake.nd rfl (.inl rfl) (pe_op op_mod (pe_ix ix_list (pv 0) pe_int (fun _ _ => rfl)) pe_int))
      (pss_cons (ps_asg (pe_op op_fdivL (pe_ix ix_list (pv 0) pe_int (fun _ _ => rfl)) pe_int) (pg_sub (pv 0) pe_int set_list))
      (pss_one (ps_ret (pe_op op_mod (pv 2) (pv 1)))))) pss_nil)
      (pss_cons (ps_set (i := 3) scTake.nd rfl (.inl rfl) (pe_op op_mod (pe_op op_mul (pe_op op_add (pe_ix ix_list (pv 0) pe_int (fun _ _ => rfl)) (pe_op op_mul pe_int (pe_ix ix_list (pv 0) pe_int (fun _ _ => rfl)))) pe_int) pe_int))
      (pss_cons (ps_set (i := 3) scTake.nd rfl (.inl rfl) (pe_op op_mod (pe_op op_mul (pv 3) (pv 3)) pe_int))
      (pss_one (ps_ret (pe_op op_mod (pe_op op_fdivL (pe_op op_mod (pe_op op_mul (pe_op op_add (pv 3) (pe_op op_mul pe_int (pe_ix ix_list (pv 0) pe_int (fun _ _ => rfl)))) pe_int) pe_int) pe_int) (pv 1)))))))), ?_⟩
    refine ⟨_, rfl, p, _, _, _, rfl, rfl, SqL.of hp, atI_nat (j := 2) rfl, _, _, rfl, rfl, _, rfl, p, _, 2, 2, rfl, rfl, hp, rfl, ?_⟩
    have k1 : Keep p H (L2.upd H p (.lst ([V.int a, V.int b, V.int n].set 2 (.int (n + 1))))) := Keep.upd
    have hp1 : (L2.upd H p (.lst ([V.int a, V.int b, V.int n].set 2 (.int (n + 1))))) p = some (.lst [.int a, .int b, .int (n + 1)]) := upd_same
    generalize L2.upd H p (.lst ([V.int a, V.int b, V.int n].set 2 (.int (n + 1)))) = H1 at k1 hp1
    refine ⟨_, rfl, p, _, _, _, rfl, rfl, SqL.of hp1, atI_nat (j := 0) rfl, _, _, rfl, rfl, _, rfl, ?_⟩
    refine ite2 (fun hc => ?_) (fun hc => ?_)
    · refine ⟨_, rfl, p, _, _, _, rfl, rfl, SqL.of hp1, atI_nat (j := 0) rfl, _, _, rfl, rfl, (by show (0 : Int) < 65536; decide), ?_⟩
      refine ⟨_, rfl, p, _, _, _, rfl, rfl, SqL.of hp1, atI_nat (j := 0) rfl, _, _, rfl, rfl, ⟨by decide, by decide⟩, ?_⟩
      refine ⟨_, rfl, p, _, 0, 0, rfl, rfl, hp1, rfl, _, rfl, _, rfl, _, _, rfl, rfl, (by show 0 < many; omega), ?_⟩
      exact k _ _ (Int.emod_nonneg _ (by omega)) (Int.emod_lt_of_pos _ (by omega)) ⟨_, _, _, upd_same⟩ (k1.trans Keep.upd)
    · refine ⟨_, rfl, p, _, _, _, rfl, rfl, SqL.of hp1, atI_nat (j := 1) rfl, _, rfl, p, _, _, _, rfl, rfl, SqL.of hp1, atI_nat (j := 2) rfl, _, _, rfl, rfl, .inl ⟨by decide, by decide⟩, _, _, rfl, rfl, _, _, rfl, rfl, .inr ⟨by decide, by decide⟩, _, _, rfl, rfl, (by show (0 : Int) < 2147483647; decide), ?_⟩
      have m1 := Int.emod_nonneg ((b + 7919 * (n + 1)) * 48271) (show (2147483647 : Int) ≠ 0 by decide)
      have m2 := Int.emod_lt_of_pos ((b + 7919 * (n + 1)) * 48271) (show (0 : Int) < 2147483647 by decide)
      refine ⟨_, rfl, _, rfl, _, _, rfl, rfl, .inl ⟨by omega, by omega⟩, _, _, rfl, rfl, (by show (0 : Int) < 2147483629; decide), ?_⟩
      refine ⟨_, rfl, _, rfl, p, _, _, _, rfl, rfl, SqL.of hp1, atI_nat (j := 2) rfl, _, _, rfl, rfl, .inl ⟨by decide, by decide⟩, _, _, rfl, rfl, _, _, rfl, rfl, .inr ⟨by decide, by decide⟩, _, _, rfl, rfl, (by show (0 : Int) < 2147483563; decide), _, _, rfl, rfl, ⟨by decide, by decide⟩, _, rfl, _, _, rfl, rfl, (by show 0 < many; omega), ?_⟩
      exact k _ _ (Int.emod_nonneg _ (by omega)) (Int.emod_lt_of_pos _ (by omega)) ⟨_, _, _, hp1⟩ k1
end

end Ov

namespace Ov
open PySem L2
abbrev sSigns : Stmt := top 26
abbrev sLetters : Stmt := top 25
def az : List Nat := (List.range 26).map (97 + ·)
theorem az_mem {c : Nat} (h : c ∈ az) : 97 ≤ c ∧ c ≤ 122 := by
  simp [az] at h
  omega
/-- small letters -/
def Low (t : List Nat) : Prop := ∀ c ∈ t, 97 ≤ c ∧ c ≤ 122
theorem Low.cp {t : List Nat} (h : Low t) : ∀ c ∈ t, c < 0x110000 := fun c hc => by have := h c hc; omega
theorem Low.take {t : List Nat} (h : Low t) (n : Nat) : Low (t.take n) := fun c hc => h c (List.mem_of_mem_take hc)
theorem Low.drop {t : List Nat} (h : Low t) (n : Nat) : Low (t.drop n) := fun c hc => h c (List.mem_of_mem_drop hc)
theorem Low.app {t u : List Nat} (h : Low t) (g : Low u) : Low (t ++ u) := fun c hc => (List.mem_append.mp hc).elim (h c) (g c)
theorem Low.nil : Low [] := fun c hc => by cases hc
theorem Low.set {t : List Nat} (h : Low t) (n c : Nat) (hc : 97 ≤ c ∧ c ≤ 122) : Low (t.set n c) := fun d hd => by
  rcases List.mem_or_eq_of_mem_set hd with q | q
  · exact h d q
  · subst q; exact hc
theorem Hand.ne {H : Hp} {p l : Addr} (h : Hand H p) (hl : H l = none) : p ≠ l := by
  obtain ⟨a, b, n, e⟩ := h
  exact ne_of_none e hl
theorem Hand.upd {H : Hp} {p l : Addr} {o : HO} (h : Hand H p) (hl : p ≠ l) : Hand (L2.upd H l o) p := by
  obtain ⟨a, b, n, e⟩ := h
  exact ⟨a, b, n, by rw [upd_ne hl]; exact e⟩
theorem Hand.same {H H' : Hp} {p : Addr} (h : Hand H p) (k : Same H H') : Hand H' p := by
  obtain ⟨a, b, n, e⟩ := h
  exact ⟨a, b, n, k _ _ e⟩
theorem Hand.free {H H' : Hp} {p l : Addr} (h : Hand H' p) (k : Keep p H H') (hl : H' l = none) : H l = none := by
  obtain ⟨a, b, n, e⟩ := h
  exact k.free e hl
theorem hand_ne {H : Hp} {p a : Addr} {t : List Nat} (h : Hand H p) (ha : H a = some (.lst (t.map sg))) : a ≠ p := by
  obtain ⟨x, y, n, e⟩ := h
  refine ne_of ha e fun z => ?_
  have z' : t.map sg = [.int x, .int y, .int n] := HO.lst.inj z
  cases t with
  | nil => cases z'
  | cons c t => cases z'
theorem nd0 {p : Prop} [Decidable p] (h : ¬ decide p = true) : ¬ p := fun z => h (decide_eq_true z)
theorem sz {n : Nat} (h : n ≤ 1000) : n ≤ sizeLine := Nat.le_of_lt (small1000 h)
theorem sz5 {n : Nat} (h : n ≤ 5000) : n ≤ sizeLine := Nat.le_of_lt (small5000 h)
def vInts (ks : List Nat) : List V := (ks.map fun (k : Nat) => (k : Int)).map V.int
theorem vInts_snoc (ks : List Nat) (i : Nat) : vInts (ks ++ [i]) = vInts ks ++ [V.int (0 + (i : Int))] := by
  simp [vInts]
theorem vInts_len (ks : List Nat) : (vInts ks).length = ks.length := by simp [vInts]
theorem sg_at {t : List Nat} {r : Int} (lt : Low t) (r0 : 0 ≤ r) (r1 : r < t.length) : ∃ c, t[r.toNat]? = some c ∧ 97 ≤ c ∧ c ≤ 122 ∧ atI (t.map sg) r = some (sg c) := by
  obtain ⟨v, hv, hm, e⟩ := atI_ex (t.map sg) r r0 (by rw [List.length_map]; exact r1)
  rw [List.getElem?_map] at hv
  cases q : t[r.toNat]? with
  | none => rw [q] at hv; cases hv
  | some c =>
    rw [q] at hv
    have : sg c = v := Option.some.inj hv
    subst this
    exact ⟨c, rfl, (lt c (List.mem_of_getElem? q)).1, (lt c (List.mem_of_getElem? q)).2, e⟩
/-- two lists of signs laid behind one another -/
theorem cat_sg {H : Hp} {l0 l1 : Addr} {t u : List Nat} {Q : VK} (h0 : H l0 = some (.lst (t.map sg))) (h1 : H l1 = some (.lst (u.map sg))) (hz : t.length + u.length ≤ 5000)
    (k : ∀ b, H b = none → Q (.ref b) (L2.upd H b (.lst ((t ++ u).map sg)))) : rCat (.ref l0) (.ref l1) H Q :=
  ⟨l0, l1, _, _, rfl, rfl, h0, h1, by rw [List.length_map, List.length_map]; exact sz5 hz, fun b hb => by have := k b hb; rw [List.map_append] at this; exact this⟩
theorem cut_hi {t : List Nat} {n : Int} (h : 0 ≤ n) : cutV (t.map sg) none (some n) = (t.take n.toNat).map sg := by rw [cutV_cutL, cutL_map, cutL_hi _ _ h]
theorem cut_lo {t : List Nat} {n : Int} (h : 0 ≤ n) : cutV (t.map sg) (some n) none = (t.drop n.toNat).map sg := by rw [cutV_cutL, cutL_map, cutL_lo _ _ h]
def spLetters : Sp := fun vs H Q _ => ∃ p : Addr, vs = [.ref p] ∧ Hand H p ∧ ∀ (z : List Nat) (r : Addr) (H' : Hp), H r = none → H' r = some (.lst (z.map sg)) → Low z → 1 ≤ z.length → z.length ≤ 26 → Hand H' p → Keep p H H' → Q (.ref r) H'
def spSigns : Sp := fun vs H Q _ => ∃ (p b : Addr) (z : List Nat) (n : Int), vs = [.ref p, .ref b, .int n] ∧ Hand H p ∧ H b = some (.lst (z.map sg)) ∧ Low z ∧ 1 ≤ z.length ∧ z.length ≤ 900 ∧ 0 ≤ n ∧ n ≤ 1000 ∧
  ∀ (t : List Nat) (r : Addr) (H' : Hp), H r = none → H' r = some (.lst (t.map sg)) → Low t → t.length = n.toNat → Hand H' p → Keep p H H' → Q (.ref r) H'
section
variable {P : Program} {w : World} {K : PySem.W.Frag} {mg : Str → Option Value} {base : Heap}
theorem scLetters : FnScope ["deck", "every", "first", "step", "many"] ["deck"] (defScope sLetters) := ⟨rfl, rfl, rfl, by decide +kernel, rfl, by decide +kernel, by decide +kernel⟩
theorem int_pick {ns : List Int} {r : Int} (r0 : 0 ≤ r) (r1 : r < ns.length) : ∃ n ∈ ns, atI (ns.map V.int) r = some (.int n) := by
  obtain ⟨v, hv, hm, e⟩ := atI_ex (ns.map V.int) r r0 (by rw [List.length_map]; exact r1)
  obtain ⟨n, hn, rfl⟩ := List.mem_map.mp hm
  exact ⟨n, hn, e⟩
/-- the long row of numbers, held apart -/
def setEs (es : List Expr) : List Stmt → List Stmt
  | [a, b, .Assign t (.Subscript (.List _ p) ix q) r, c, d] => [a, b, .Assign t (.Subscript (.List es p) ix q) r, c, d]
  | x => x
theorem letters_row : ∃ es, defBody sLetters = setEs es (defBody sLetters) ∧ intsOf es = some [1, 3, 5, 7, 9, 11, 15, 17, 19, 21, 23, 25] := ⟨_, rfl, rfl⟩
theorem ok_letters (M : Md K mg) (B : Bl mg) (F : FF K "_law_letters" sLetters) (F_law_take : Fn P w K mg base CX0 "_law_take" 1 ["deck", "many"] spTake) : Fn P w K mg base CX0 "_law_letters" 2 ["deck"] spLetters := by
  refine fn_ok M F scLetters (fun _ _ _ _ _ _ => us1 fun _ => rfl) (fun vs H Q E h => ?_) (fun f cdv A outer s H vs Q E hr h => ?_)
  · obtain ⟨p, rfl, _⟩ := h; rfl
  · obtain ⟨p, rfl, hp, k⟩ := h
    obtain ⟨es, hes, ei⟩ := letters_row
    rw [hes]
    refine ⟨_, (pss_cons (ps_set (i := 1) scLetters.nd rfl (.inr rfl) pe_str)
      (pss_cons (ps_set (i := 2) scLetters.nd rfl (.inr rfl) (pe_fn F_law_take hr pass0 (pa_cons (pv 0) (pa_cons pe_int pa_nil))))
      (pss_cons (ps_set (i := 3) scLetters.nd rfl (.inr rfl) (pe_ix ix_list (pe_lst (pa_ints ei)) (pe_fn F_law_take hr pass0 (pa_cons (pv 0) (pa_cons pe_int pa_nil))) (fun _ _ => rfl)))
      (pss_cons (ps_set (i := 4) scLetters.nd rfl (.inl rfl) (pe_ix ix_list (pe_lst (pa_ints (by rfl))) (pe_fn F_law_take hr pass0 (pa_cons (pv 0) (pa_cons pe_int pa_nil))) (fun _ _ => rfl)))
      (pss_one (ps_ret (pe_comp ["deck", "every", "first", "step", "many"] rfl (pi_range1 (by rfl) B.range (pa_cons (pv 4) pa_nil)) (fun _ => by exact pif_nil) (fun _ => by exact (pe_ix ix_str (pv 1) (pe_op op_mod (pe_op op_add (pv 2) (pe_op op_mul (pv 3) (pv 5))) pe_int) (fun _ _ => rfl)))))))))), ?_⟩
    refine ⟨_, rfl, p, 26, rfl, hp, by decide, fun first H1 f0 f1 hp1 k1 => ?_⟩
    refine ⟨by show 12 ≤ sizeLine; decide, fun l hl => ?_⟩
    refine ⟨_, rfl, p, 12, rfl, hp1.upd (hp1.ne hl), by decide, fun r H2 r0 r1 hp2 k2 => ?_⟩
    have hl2 : H2 l = some (.lst ([1, 3, 5, 7, 9, 11, 15, 17, 19, 21, 23, 25].map V.int)) := k2 _ _ upd_same (hp1.ne hl).symm
    obtain ⟨st, hst, est⟩ := int_pick (ns := [1, 3, 5, 7, 9, 11, 15, 17, 19, 21, 23, 25]) r0 r1
    have hst' : 0 ≤ st ∧ st ≤ 25 := by simp at hst; omega
    refine ⟨l, _, r, _, rfl, rfl, SqL.of hl2, est, ?_⟩
    have k02 : Keep p H H2 := (k1.trans (Same.upd hl).keep).trans k2
    refine ⟨by show 6 ≤ sizeLine; decide, fun l2 hl2' => ?_⟩
    refine ⟨_, rfl, p, 6, rfl, hp2.upd (hp2.ne hl2'), by decide, fun r2 H3 r20 r21 hp3 k3 => ?_⟩
    have hl3 : H3 l2 = some (.lst ([2, 2, 3, 26, 26, 1].map V.int)) := k3 _ _ upd_same (hp2.ne hl2').symm
    obtain ⟨n, hn, en⟩ := int_pick (ns := [2, 2, 3, 26, 26, 1]) r20 r21
    have hn' : 1 ≤ n ∧ n ≤ 26 := by simp at hn; omega
    refine ⟨l2, _, r2, _, rfl, rfl, SqL.of hl3, en, ?_⟩
    have k03 : Keep p H H3 := (k02.trans (Same.upd hl2').keep).trans k3
    refine ⟨_, rfl, n, rfl, by omega, by omega, fun D hD b => ?_⟩
    refine comp_range (lo := 0) (n := n.toNat) (fun i ys H4 => ∃ t : List Nat, ys = t.map sg ∧ Low t ∧ t.length = i ∧ Same H3 H4 ∧ H4 D = some (.lst ys)) (small1000 (by omega)) ?_ ?_ ?_ ?_
    · exact ⟨[], rfl, Low.nil, rfl, Same.upd hD, upd_same⟩
    · rintro i ys H4 ⟨t, rfl, _, rfl, _⟩
      simp
    · rintro i ys H4 hi ⟨t, rfl, lt, rfl, s4, hD4⟩
      refine tNoIf_go ?_
      have m1 := Int.emod_nonneg (first + st * (0 + (t.length : Int))) (show (26 : Int) ≠ 0 by decide)
      have m2 := Int.emod_lt_of_pos (first + st * (0 + (t.length : Int))) (show (0 : Int) < 26 by decide)
      obtain ⟨c, _, hm, ec⟩ := atI_ex az ((first + st * (0 + (t.length : Int))) % 26) m1 (by simpa [az] using m2)
      have hc := az_mem hm
      refine ⟨_, rfl, _, rfl, _, rfl, _, rfl, _, _, rfl, rfl, .inl ⟨by omega, by omega⟩, _, _, rfl, rfl, _, _, rfl, rfl, (by show (0 : Int) < 26; decide), ⟨az.toArray⟩, _, c, rfl, rfl, by rw [str_len]; exact sz (by simp [az]), by simpa using ec, hD4, t ++ [c], by simp, ?_, by simp, ?_, upd_same⟩
      · exact lt.app fun d hd => by rw [List.mem_singleton.mp hd]; exact hc
      · intro b o e
        rw [upd_ne (ne_of_none e hD)]
        exact s4 b o e
    · rintro ys H4 ⟨t, rfl, lt, hl4, s4, hD4⟩
      exact k t D H4 (hp3.free k03 hD) hD4 lt (by omega) (by omega) (hp3.same s4) (k03.trans s4.keep)
theorem scSigns : FnScope ["deck", "letters", "many"] ["deck", "letters", "many"] (defScope sSigns) := ⟨rfl, rfl, rfl, by decide +kernel, rfl, by decide +kernel, by decide +kernel⟩
theorem ok_signs (M : Md K mg) (B : Bl mg) (F : FF K "_law_signs" sSigns) (F_law_take : Fn P w K mg base CX0 "_law_take" 1 ["deck", "many"] spTake) : Fn P w K mg base CX0 "_law_signs" 2 ["deck", "letters", "many"] spSigns := by
  refine fn_ok M F scSigns (fun _ _ _ _ _ _ => us3 fun _ _ _ => rfl) (fun vs H Q E h => ?_) (fun f cdv A outer s H vs Q E hr h => ?_)
  · obtain ⟨p, b, z, n, rfl, _⟩ := h; rfl
  · obtain ⟨p, b, z, n, rfl, hp, hb, lz, z1, z2, n0, n1, k⟩ := h
    refine ⟨_, (pss_one (ps_ret (pe_comp ["deck", "letters", "many"] rfl (pi_range1 (by rfl) B.range (pa_cons (pv 2) pa_nil)) (fun _ => by exact pif_nil) (fun _ => by exact (pe_ix ix_list (pv 1) (pe_fn F_law_take hr pass0 (pa_cons (pv 0) (pa_cons (pe_lenL B.len (pv 1)) pa_nil))) (fun _ _ => rfl)))))), ?_⟩
    have nbp := hand_ne hp hb
    refine ⟨_, rfl, n, rfl, by omega, by omega, fun D hD cb => ?_⟩
    have nD : D ≠ p := (hp.ne hD).symm
    refine comp_range (lo := 0) (n := n.toNat) (fun i ys H2 => ∃ t : List Nat, ys = t.map sg ∧ Low t ∧ t.length = i ∧ Hand H2 p ∧ Keep p H H2 ∧ H2 D = some (.lst ys)) (small1000 (by omega)) ?_ ?_ ?_ ?_
    · exact ⟨[], rfl, Low.nil, rfl, hp.upd (hp.ne hD), (Same.upd hD).keep, upd_same⟩
    · rintro i ys H2 ⟨t, rfl, _, rfl, _⟩
      simp
    · rintro i ys H2 hi ⟨t, rfl, lt, rfl, hp2, k2, hD2⟩
      refine tNoIf_go ?_
      have hb2 := k2 _ _ hb nbp
      refine ⟨_, rfl, _, rfl, _, rfl, b, _, rfl, SqL.of hb2, p, _, rfl, hp2, by rw [List.length_map]; omega, fun r H3 r0 r1 hp3 k3 => ?_⟩
      rw [List.length_map] at r1
      obtain ⟨c, _, c1, c2, ec⟩ := sg_at lz r0 r1
      refine ⟨b, _, r, _, rfl, rfl, SqL.of (k3 _ _ hb2 nbp), ec, k3 _ _ hD2 nD, t ++ [c], by simp, ?_, by simp, hp3.upd nD.symm, ?_, upd_same⟩
      · exact lt.app fun d hd => by rw [List.mem_singleton.mp hd]; exact ⟨c1, c2⟩
      · intro b o e nb
        rw [upd_ne (ne_of_none e hD)]
        exact k3 _ _ (k2 b o e nb) nb
    · rintro ys H2 ⟨t, rfl, lt, hl, hp2, k2, hD2⟩
      exact k t D H2 hD hD2 lt hl hp2 k2
end

end Ov

namespace Ov
open PySem L2
abbrev sWord : Stmt := top 27
abbrev sBent : Stmt := top 29
/-- behind a step that keeps all but the deck: the text still stands -/
def spWord : Sp := fun vs H Q _ => ∃ (p b : Addr) (z : List Nat) (m : Int), vs = [.ref p, .ref b, .int m] ∧ Hand H p ∧ H b = some (.lst (z.map sg)) ∧ Low z ∧ 1 ≤ z.length ∧ z.length ≤ 900 ∧ 1 ≤ m ∧ m ≤ 12 ∧
  ∀ (t : List Nat) (r : Addr) (H' : Hp), H r = none → H' r = some (.lst (t.map sg)) → Low t → 1 ≤ t.length → t.length ≤ 48 → Hand H' p → Keep p H H' → Q (.ref r) H'
def spBent : Sp := fun vs H Q _ => ∃ (p b a : Addr) (z t : List Nat), vs = [.ref p, .ref b, .ref a] ∧ Hand H p ∧ H b = some (.lst (z.map sg)) ∧ Low z ∧ 1 ≤ z.length ∧ z.length ≤ 900 ∧ H a = some (.lst (t.map sg)) ∧ Low t ∧ t.length ≤ 900 ∧
  ∀ (u : List Nat) (r : Addr) (H' : Hp), H r = none → H' r = some (.lst (u.map sg)) → Low u → u.length ≤ t.length + 1 → Hand H' p → Keep p H H' → Q (.ref r) H'
section
variable {P : Program} {w : World} {K : PySem.W.Frag} {mg : Str → Option Value} {base : Heap}
theorem rep_sg (n : Nat) (t : List Nat) : (List.replicate n (t.map sg)).flatten = ((List.replicate n t).flatten).map sg := by
  induction n with
  | zero => rfl
  | succ n ih => rw [List.replicate_succ, List.flatten_cons, ih, List.replicate_succ, List.flatten_cons, List.map_append]
theorem Low.rep {t : List Nat} (h : Low t) (n : Nat) : Low (List.replicate n t).flatten := fun c hc => by
  obtain ⟨l, hl, hc⟩ := List.mem_flatten.mp hc
  rw [(List.mem_replicate.mp hl).2] at hc
  exact h c hc
theorem rep_len (n : Nat) (t : List Nat) : (List.replicate n t).flatten.length = n * t.length := by
  induction n with
  | zero => simp
  | succ n ih => rw [List.replicate_succ, List.flatten_cons, List.length_append, ih, Nat.succ_mul, Nat.add_comm]
theorem scWord : FnScope ["deck", "letters", "most", "way", "one"] ["deck", "letters", "most"] (defScope sWord) := ⟨rfl, rfl, rfl, by decide +kernel, rfl, by decide +kernel, by decide +kernel⟩
theorem ok_word (M : Md K mg) (B : Bl mg) (F : FF K "_law_word" sWord) (F_law_take : Fn P w K mg base CX0 "_law_take" 1 ["deck", "many"] spTake) (F_law_signs : Fn P w K mg base CX0 "_law_signs" 2 ["deck", "letters", "many"] spSigns) : Fn P w K mg base CX0 "_law_word" 3 ["deck", "letters", "most"] spWord := by
  refine fn_ok M F scWord (fun _ _ _ _ _ _ => us3 fun _ _ _ => rfl) (fun vs H Q E h => ?_) (fun f cdv A outer s H vs Q E hr h => ?_)
  · obtain ⟨p, b, z, m, rfl, _⟩ := h; rfl
  · obtain ⟨p, b, z, m, rfl, hp, hb, lz, z1, z2, m1, m2, k⟩ := h
    refine ⟨_, (pss_cons (ps_set (i := 3) scWord.nd rfl (.inl rfl) (pe_fn F_law_take hr pass0 (pa_cons (pv 0) (pa_cons pe_int pa_nil))))
      (pss_cons (ps_set (i := 4) scWord.nd rfl (.inl rfl) (pe_fn F_law_signs hr pass0 (pa_cons (pv 0) (pa_cons (pv 1) (pa_cons (pe_op op_add pe_int (pe_fn F_law_take hr pass0 (pa_cons (pv 0) (pa_cons (pv 2) pa_nil)))) pa_nil)))))
      (pss_cons (ps_if (pt_cmpR op_eq (pv 3) pe_int (nomark _)) (pss_one (ps_set (i := 4) scWord.nd rfl (.inl rfl) (pe_op op_cat (pe_op op_cat (pv 4) (pe_fn F_law_signs hr pass0 (pa_cons (pv 0) (pa_cons (pv 1) (pa_cons (pe_fn F_law_take hr pass0 (pa_cons (pv 0) (pa_cons pe_int pa_nil))) pa_nil))))) (pv 4)))) pss_nil)
      (pss_cons (ps_if (pt_cmpR op_eq (pv 3) pe_int (nomark _)) (pss_one (ps_set (i := 4) scWord.nd rfl (.inl rfl) (pe_op op_cat (pe_op op_rep (pv 4) (pe_op op_add pe_int (pe_fn F_law_take hr pass0 (pa_cons (pv 0) (pa_cons pe_int pa_nil))))) (pe_slice sl_list (pv 4) po_none (po_some (pe_fn F_law_take hr pass0 (pa_cons (pv 0) (pa_cons (pe_op op_add (pe_lenL B.len (pv 4)) pe_int) pa_nil)))))))) pss_nil)
      (pss_one (ps_ret (pv 4))))))), ?_⟩
    refine ⟨_, rfl, p, 4, rfl, hp, by decide, fun way H1 w0 w1 hp1 k1 => ?_⟩
    have hb1 := k1 _ _ hb (hand_ne hp hb)
    refine ⟨_, rfl, _, rfl, _, rfl, _, rfl, p, _, rfl, hp1, m1, fun n H2 n0 n1 hp2 k2 => ?_⟩
    have hb2 := k2 _ _ hb1 (hand_ne hp1 hb1)
    refine ⟨_, _, rfl, rfl, p, b, z, 1 + n, rfl, hp2, hb2, lz, z1, z2, by omega, by omega, fun t r H3 hr0 hr3 lt tl hp3 k3 => ?_⟩
    have hb3 := k3 _ _ hb2 (hand_ne hp2 hb2)
    have k03 := (k1.trans k2).trans k3
    have hrn : H r = none := hp2.free (k1.trans k2) hr0
    have tl' : 1 ≤ t.length ∧ t.length ≤ 12 := by omega
    refine ⟨_, rfl, rfl, _, rfl, ?_⟩
    refine ite2 (fun hc => ?_) (fun hc => ?_)
    · have hw : way = 1 := V.int.inj (of_decide_eq_true hc)
      refine ⟨_, rfl, _, rfl, _, rfl, _, rfl, p, 3, rfl, hp3, by decide, fun c H4 c0 c1 hp4 k4 => ?_⟩
      have hb4 := k4 _ _ hb3 (hand_ne hp3 hb3)
      have hr4 := k4 _ _ hr3 (hand_ne hp3 hr3)
      refine ⟨p, b, z, c, rfl, hp4, hb4, lz, z1, z2, c0, by omega, fun v q H5 hq0 hq5 lv vl hp5 k5 => ?_⟩
      have hr5 := k5 _ _ hr4 (hand_ne hp4 hr4)
      refine cat_sg hr5 hq5 (by omega) fun l hl => ?_
      have s6 := Same.upd (o := .lst ((t ++ v).map sg)) hl
      refine ⟨_, rfl, cat_sg upd_same (s6 _ _ hr5) (by rw [List.length_append]; omega) fun l2 hl2 => ?_⟩
      have s7 := Same.upd (o := .lst ((t ++ v ++ t).map sg)) hl2
      have k06 := ((k03.trans k4).trans k5).trans s6.keep
      have hp6 := hp5.same s6
      refine ⟨_, rfl, rfl, _, rfl, ite2 (fun hc2 => absurd (V.int.inj (of_decide_eq_true hc2)) (by omega)) fun _ => ?_⟩
      exact ⟨_, rfl, k (t ++ v ++ t) l2 _ (hp6.free k06 hl2) upd_same ((lt.app lv).app lt) (by rw [List.length_append]; omega) (by rw [List.length_append, List.length_append]; omega) (hp6.same s7) (k06.trans s7.keep)⟩
    · refine ⟨_, rfl, rfl, _, rfl, ?_⟩
      refine ite2 (fun hc2 => ?_) (fun hc2 => ?_)
      · refine ⟨_, rfl, _, rfl, p, 3, rfl, hp3, by decide, fun c H5 c0 c1 hp5 k5 => ?_⟩
        have hq5 := k5 _ _ hr3 (hand_ne hp3 hr3)
        have hle : t.length * (1 + c).toNat ≤ 36 := by
          have : (1 + c).toNat ≤ 3 := by omega
          exact Nat.le_trans (Nat.mul_le_mul tl'.2 this) (by decide)
        refine ⟨_, _, rfl, rfl, r, _, _, rfl, rfl, hq5, by omega, by omega, by rw [List.length_map]; exact sz (by omega), fun l hl => ?_⟩
        rw [rep_sg]
        have s6 := Same.upd (o := .lst ((List.replicate (1 + c).toNat t).flatten.map sg)) hl
        have hp6 := hp5.same s6
        refine ⟨_, rfl, _, rfl, _, rfl, r, _, rfl, SqL.of (s6 _ _ hq5), _, _, rfl, rfl, p, _, rfl, hp6, by rw [List.length_map]; omega, fun d H7 d0 d1 hp7 k7 => ?_⟩
        rw [List.length_map] at d1
        have hq7 := k7 _ _ (s6 _ _ hq5) (hand_ne hp6 (s6 _ _ hq5))
        have hl7 := k7 _ _ upd_same (hand_ne hp6 upd_same)
        refine ⟨d, rfl, r, _, rfl, SqL.of hq7, fun l2 hl2 => ?_⟩
        rw [cut_hi d0]
        have s8 := Same.upd (o := .lst ((t.take d.toNat).map sg)) hl2
        have rl := rep_len (1 + c).toNat t
        rw [Nat.mul_comm] at rl
        refine cat_sg (s8 _ _ hl7) upd_same (by rw [List.length_take]; omega) fun l3 hl3 => ?_
        have s9 := Same.upd (o := .lst (((List.replicate (1 + c).toNat t).flatten ++ t.take d.toNat).map sg)) hl3
        have k08 := (((k03.trans k5).trans s6.keep).trans k7).trans s8.keep
        refine ⟨_, rfl, k _ l3 _ ((hp7.same s8).free k08 hl3) upd_same ((lt.rep _).app (lt.take _)) ?_ ?_ ((hp7.same s8).same s9) (k08.trans s9.keep)⟩
        · rw [List.length_append, rl]
          have : 1 * 1 ≤ t.length * (1 + c).toNat := Nat.mul_le_mul tl'.1 (by omega)
          omega
        · rw [List.length_append, rl, List.length_take]; omega
      · exact ⟨_, rfl, k t r H3 hrn hr3 lt tl'.1 (by omega) hp3 k03⟩
theorem scBent : FnScope ["deck", "letters", "text", "at", "way"] ["deck", "letters", "text"] (defScope sBent) := ⟨rfl, rfl, rfl, by decide +kernel, rfl, by decide +kernel, by decide +kernel⟩
theorem ok_bent (M : Md K mg) (B : Bl mg) (F : FF K "_law_bent" sBent) (F_law_take : Fn P w K mg base CX0 "_law_take" 1 ["deck", "many"] spTake) (F_law_signs : Fn P w K mg base CX0 "_law_signs" 2 ["deck", "letters", "many"] spSigns) : Fn P w K mg base CX0 "_law_bent" 3 ["deck", "letters", "text"] spBent := by
  refine fn_ok M F scBent (fun _ _ _ _ _ _ => us3 fun _ _ _ => rfl) (fun vs H Q E h => ?_) (fun f cdv A outer s H vs Q E hr h => ?_)
  · obtain ⟨p, b, a, z, t, rfl, _⟩ := h; rfl
  · obtain ⟨p, b, a, z, t, rfl, hp, hb, lz, z1, z2, ha, lt, tl, k⟩ := h
    refine ⟨_, (pss_cons (ps_set (i := 3) scBent.nd rfl (.inl rfl) (pe_fn F_law_take hr pass0 (pa_cons (pv 0) (pa_cons (pe_op op_add (pe_lenL B.len (pv 2)) pe_int) pa_nil))))
      (pss_cons (ps_set (i := 4) scBent.nd rfl (.inl rfl) (pe_fn F_law_take hr pass0 (pa_cons (pv 0) (pa_cons pe_int pa_nil))))
      (pss_cons (ps_if (pt_cmpR op_eq (pv 4) pe_int (nomark _)) (pss_one (ps_ret (pe_op op_cat (pe_slice sl_list (pv 2) po_none (po_some (pv 3))) (pe_slice sl_list (pv 2) (po_some (pe_op op_add (pv 3) pe_int)) po_none)))) pss_nil)
      (pss_one (ps_ret (pe_op op_cat (pe_op op_cat (pe_slice sl_list (pv 2) po_none (po_some (pv 3))) (pe_fn F_law_signs hr pass0 (pa_cons (pv 0) (pa_cons (pv 1) (pa_cons pe_int pa_nil))))) (pe_slice sl_list (pv 2) (po_some (pe_op op_sub (pe_op op_add (pv 3) pe_int) (pv 4))) po_none))))))), ?_⟩
    refine ⟨_, rfl, _, rfl, a, _, rfl, SqL.of ha, _, _, rfl, rfl, p, _, rfl, hp, by rw [List.length_map]; omega, fun at_ H1 a0 a1 hp1 k1 => ?_⟩
    rw [List.length_map] at a1
    have hb1 := k1 _ _ hb (hand_ne hp hb)
    have ha1 := k1 _ _ ha (hand_ne hp ha)
    refine ⟨_, rfl, p, 3, rfl, hp1, by decide, fun way H2 w0 w1 hp2 k2 => ?_⟩
    have hb2 := k2 _ _ hb1 (hand_ne hp1 hb1)
    have ha2 := k2 _ _ ha1 (hand_ne hp1 ha1)
    have k02 := k1.trans k2
    refine ⟨_, rfl, rfl, _, rfl, ?_⟩
    refine ite2 (fun hc => ?_) (fun hc => ?_)
    · refine ⟨_, rfl, _, rfl, at_, rfl, a, _, rfl, SqL.of ha2, fun l hl => ?_⟩
      rw [cut_hi a0]
      have s3 := Same.upd (o := .lst ((t.take at_.toNat).map sg)) hl
      refine ⟨_, rfl, _, rfl, _, _, rfl, rfl, at_ + 1, rfl, a, _, rfl, SqL.of (s3 _ _ ha2), fun l2 hl2 => ?_⟩
      rw [cut_lo (by omega)]
      have s4 := Same.upd (o := .lst ((t.drop (at_ + 1).toNat).map sg)) hl2
      refine cat_sg (s4 _ _ upd_same) upd_same (by rw [List.length_take, List.length_drop]; omega) fun l3 hl3 => ?_
      have s5 := Same.upd (o := .lst ((t.take at_.toNat ++ t.drop (at_ + 1).toNat).map sg)) hl3
      have s24 := s3.trans s4
      have k04 := k02.trans s24.keep
      have hp4 := hp2.same s24
      exact k _ l3 _ (hp4.free k04 hl3) upd_same ((lt.take _).app (lt.drop _)) (by rw [List.length_append, List.length_take, List.length_drop]; omega) (hp4.same s5) (k04.trans s5.keep)
    · have hw : way ≠ 0 := fun q => nd0 hc (by rw [q])
      refine ⟨_, rfl, _, rfl, at_, rfl, a, _, rfl, SqL.of ha2, fun l hl => ?_⟩
      rw [cut_hi a0]
      have s3 := Same.upd (o := .lst ((t.take at_.toNat).map sg)) hl
      have hp3 := hp2.same s3
      refine ⟨_, rfl, _, rfl, p, b, z, 1, rfl, hp3, s3 _ _ hb2, lz, z1, z2, by decide, by decide, fun v q H4 hq0 hq4 lv vl hp4 k4 => ?_⟩
      have hl4 := k4 _ _ upd_same (hand_ne hp3 upd_same)
      have ha4 := k4 _ _ (s3 _ _ ha2) (hand_ne hp3 (s3 _ _ ha2))
      refine cat_sg hl4 hq4 (by rw [List.length_take, vl]; show _ + 1 ≤ 5000; omega) fun l3 hl3 => ?_
      have s5 := Same.upd (o := .lst ((t.take at_.toNat ++ v).map sg)) hl3
      refine ⟨_, rfl, _, rfl, _, _, rfl, rfl, _, rfl, _, _, rfl, rfl, at_ + 2 - way, rfl, a, _, rfl, SqL.of (s5 _ _ ha4), fun l4 hl4' => ?_⟩
      rw [cut_lo (by omega)]
      have s6 := Same.upd (o := .lst ((t.drop (at_ + 2 - way).toNat).map sg)) hl4'
      have vl' : v.length = 1 := vl
      refine cat_sg (s6 _ _ upd_same) upd_same (by rw [List.length_append, List.length_take, List.length_drop]; omega) fun l5 hl5 => ?_
      have s7 := Same.upd (o := .lst ((t.take at_.toNat ++ v ++ t.drop (at_ + 2 - way).toNat).map sg)) hl5
      have s46 := s5.trans s6
      have k06 := ((k02.trans s3.keep).trans k4).trans s46.keep
      have hp6 := hp4.same s46
      exact k _ l5 _ (hp6.free k06 hl5) upd_same (((lt.take _).app lv).app (lt.drop _)) (by rw [List.length_append, List.length_append, List.length_take, List.length_drop]; omega) (hp6.same s7) (k06.trans s7.keep)
end

end Ov

namespace Ov
open PySem L2
abbrev sOverlaid : Stmt := top 28
def spOverlaid : Sp := fun vs H Q _ => ∃ (p b a : Addr) (z u : List Nat) (n : Int), vs = [.ref p, .ref b, .ref a, .int n] ∧ Hand H p ∧ H b = some (.lst (z.map sg)) ∧ Low z ∧ 1 ≤ z.length ∧ z.length ≤ 900 ∧ H a = some (.lst (u.map sg)) ∧ Low u ∧ 1 ≤ u.length ∧ u.length ≤ 48 ∧ 0 ≤ n ∧ n ≤ 20 ∧
  ∀ (t : List Nat) (r : Addr) (H' : Hp), H r = none → H' r = some (.lst (t.map sg)) → Low t → 1 ≤ t.length → t.length ≤ 1030 → Hand H' p → Keep p H H' → Q (.ref r) H'
section
variable {P : Program} {w : World} {K : PySem.W.Frag} {mg : Str → Option Value} {base : Heap}
theorem vInts_at {ks : List Nat} {r : Int} (r0 : 0 ≤ r) (r1 : r < ks.length) : ∃ k : Nat, k ∈ ks ∧ ks[r.toNat]? = some k ∧ atI (vInts ks) r = some (V.int (k : Int)) := by
  obtain ⟨v, hv, hm, e⟩ := atI_ex (vInts ks) r r0 (by rw [vInts_len]; exact r1)
  unfold vInts at hv
  rw [List.map_map, List.getElem?_map] at hv
  cases q : ks[r.toNat]? with
  | none => rw [q] at hv; cases hv
  | some k =>
    rw [q] at hv
    have : V.int (k : Int) = v := Option.some.inj hv
    subst this
    exact ⟨k, List.mem_of_getElem? q, rfl, e⟩
theorem scOverlaid : FnScope ["deck", "letters", "word", "many", "found", "k", "some", "over"] ["deck", "letters", "word", "many"] (defScope sOverlaid) := ⟨rfl, rfl, rfl, by decide +kernel, rfl, by decide +kernel, by decide +kernel⟩
theorem ok_overlaid (M : Md K mg) (B : Bl mg) (F : FF K "_law_overlaid" sOverlaid) (F_law_take : Fn P w K mg base CX0 "_law_take" 1 ["deck", "many"] spTake) (F_law_signs : Fn P w K mg base CX0 "_law_signs" 2 ["deck", "letters", "many"] spSigns) : Fn P w K mg base CX0 "_law_overlaid" 3 ["deck", "letters", "word", "many"] spOverlaid := by
  refine fn_ok M F scOverlaid (fun _ _ _ _ _ _ => us4 fun _ _ _ _ => rfl) (fun vs H Q E h => ?_) (fun f cdv A outer s H vs Q E hr h => ?_)
  · obtain ⟨p, b, a, z, u, n, rfl, _⟩ := h; rfl
  · obtain ⟨p, b, a, z, u, n, rfl, hp, hb, lz, z1, z2, ha, lu, u1, u2, n0, n1, k⟩ := h
    refine ⟨_, (pss_cons (ps_set (i := 4) scOverlaid.nd rfl (.inr rfl) (pe_listOf B.list (pv 2)))
      (pss_cons (ps_for PassesOwn.never rfl (pi_range1 (by rfl) B.range (pa_cons (pv 3) pa_nil)) (pg_name (i := 5) scOverlaid.nd rfl (.inl rfl))
      (pss_cons (ps_setC (i := 6) ["deck", "letters", "word", "many", "found", "k", "some", "over"] rfl scOverlaid.nd rfl (.inl rfl) (pi_range1 (by rfl) B.range (pa_cons (pe_lenL B.len (pv 2)) pa_nil)) (fun _ => by exact (pif_one (PW.pt (pw_or (pt_cmpR op_eq (pv 8) pe_int (nomark _)) (pw_or1 (pt_cmpR (op_eqLS (by exact hr)) (pe_slice sl_list (pv 4) (po_some (pe_op op_sub (pe_lenL B.len (pv 4)) (pv 8))) po_none) (pe_slice sl_list (pv 2) po_none (po_some (pv 8))) (nomark _))))))) (fun _ => by exact (pv 8)))
      (pss_cons (ps_set (i := 7) scOverlaid.nd rfl (.inl rfl) (pe_ix ix_list (pv 6) (pe_fn F_law_take hr pass0 (pa_cons (pv 0) (pa_cons (pe_lenL B.len (pv 6)) pa_nil))) (fun _ _ => rfl)))
      (pss_cons (ps_if (pt_cmpR op_eq (pe_fn F_law_take hr pass0 (pa_cons (pv 0) (pa_cons pe_int pa_nil))) pe_int (nomark _)) (pss_cons (ps_set (i := 4) scOverlaid.nd rfl (.inr rfl) (pe_op op_cat (pv 4) (pe_fn F_law_signs hr pass0 (pa_cons (pv 0) (pa_cons (pv 1) (pa_cons pe_int pa_nil))))))
      (pss_one (ps_set (i := 7) scOverlaid.nd rfl (.inl rfl) pe_int))) pss_nil)
      (pss_one (ps_set (i := 4) scOverlaid.nd rfl (.inr rfl) (pe_op op_cat (pv 4) (pe_slice sl_list (pv 2) (po_some (pv 7)) po_none))))))))
      (pss_one (ps_ret (pv 4))))), ?_⟩
    refine ⟨_, rfl, a, _, rfl, SqL.of ha, fun r0 hr0 => ?_⟩
    have s0 := Same.upd (o := .lst (u.map sg)) hr0
    refine ⟨_, rfl, n, rfl, by omega, by omega, ?_⟩
    refine for_range (lo := 0) (n := n.toNat) (fun i σ H2 => ∃ (t : List Nat) (r : Addr) (v5 v6 v7 : Option V), σ = [some (.ref p), some (.ref b), some (.ref a), some (.int n), some (.ref r), v5, v6, v7] ∧ H r = none ∧ H2 r = some (.lst (t.map sg)) ∧ Low t ∧ u.length ≤ t.length ∧ t.length ≤ 48 + i * 49 ∧ Hand H2 p ∧ Keep p H H2) ?_ ?_ ?_
    · exact ⟨u, r0, none, none, none, rfl, hr0, upd_same, lu, Nat.le_refl _, by omega, hp.same s0, s0.keep⟩
    · rintro i σ H2 hi ⟨t, r, v5, v6, v7, rfl, hrn, hr2, lt, tu, tl, hp2, k2⟩
      have hi' : i < 20 := by omega
      have hb2 := k2 _ _ hb (hand_ne hp hb)
      have ha2 := k2 _ _ ha (hand_ne hp ha)
      refine ⟨_, rfl, a, _, rfl, SqL.of ha2, _, rfl, by omega, by rw [List.length_map]; omega, fun D hD cb => ?_⟩
      rw [List.length_map, Int.toNat_natCast]
      refine comp_range (lo := 0) (n := u.length) (fun j ys H3 => ∃ ks : List Nat, ys = vInts ks ∧ (∀ q ∈ ks, q < u.length) ∧ ks.length ≤ j ∧ (1 ≤ j → 1 ≤ ks.length) ∧ Same H2 H3 ∧ H3 D = some (.lst ys)) (small1000 (by omega)) ?_ ?_ ?_ ?_
      · exact ⟨[], rfl, fun q hq => by (cases hq), Nat.le_refl _, fun h => by omega, Same.upd hD, upd_same⟩
      · rintro j ys H3 ⟨ks, rfl, _, h, _⟩
        rw [vInts_len]; exact h
      · rintro j ys H3 hj ⟨ks, rfl, hk, kl, kn, s3, hD3⟩
        have add : ∀ H4 : Hp, Same H3 H4 → H4 D = some (.lst (vInts ks)) ∧ ∃ ks' : List Nat, vInts ks ++ [V.int (0 + (j : Int))] = vInts ks' ∧ (∀ q ∈ ks', q < u.length) ∧ ks'.length ≤ j + 1 ∧ (1 ≤ j + 1 → 1 ≤ ks'.length) ∧ Same H2 (L2.upd H4 D (.lst (vInts ks ++ [V.int (0 + (j : Int))]))) ∧ (L2.upd H4 D (.lst (vInts ks ++ [V.int (0 + (j : Int))]))) D = some (.lst (vInts ks ++ [V.int (0 + (j : Int))])) := fun H4 s4 =>
          ⟨s4 _ _ hD3, ks ++ [j], (vInts_snoc ks j).symm, fun q hq => by
            rcases List.mem_append.mp hq with z | z
            · exact hk q z
            · rw [List.mem_singleton.mp z]; exact hj, by simp; omega, fun _ => by simp, fun b o e => by
              rw [upd_ne (ne_of_none e hD)]
              exact s4 _ _ (s3 b o e), upd_same⟩
        refine ⟨_, rfl, rfl, _, rfl, ?_⟩
        refine ite2 (fun hc => ?_) (fun hc => ?_)
        · exact iteT ⟨_, rfl, add H3 (Same.refl _)⟩
        · have hj0 : j ≠ 0 := fun q => nd0 hc (by rw [q]; rfl)
          refine ⟨_, rfl, _, rfl, r, _, rfl, SqL.of (s3 _ _ hr2), _, rfl, _, _, rfl, rfl, _, rfl, r, _, rfl, SqL.of (s3 _ _ hr2), fun p1 hp1 => ?_⟩
          rw [List.length_map, cut_lo (by omega)]
          have s4 := Same.upd (o := .lst ((t.drop ((t.length : Int) - (0 + (j : Int))).toNat).map sg)) hp1
          refine ⟨_, rfl, _, rfl, _, rfl, a, _, rfl, SqL.of (s4 _ _ (s3 _ _ ha2)), fun p2 hp2 => ?_⟩
          rw [cut_hi (by omega)]
          have s5 := Same.upd (o := .lst ((u.take (0 + (j : Int)).toNat).map sg)) hp2
          refine ⟨p1, p2, _, _, rfl, rfl, SqL.of (s5 _ _ upd_same), SqL.of upd_same, (lt.drop _).cp, (lu.take _).cp, _, rfl, ?_⟩
          refine ite2 (fun hd => ?_) (fun hd => ?_)
          · exact ⟨_, rfl, add _ (s4.trans s5)⟩
          · exact ⟨ks, rfl, hk, by omega, fun _ => kn (by omega), s3.trans (s4.trans s5), (s4.trans s5) _ _ hD3⟩
      · rintro ys H3 ⟨ks, rfl, hk, kl, kn, s3, hD3⟩
        have hp3 := hp2.same s3
        have k03 := k2.trans s3.keep
        have nDp : D ≠ p := fun q => by
          obtain ⟨x, y, w', e⟩ := hp2
          rw [← q, hD] at e; cases e
        have kn' := kn u1
        refine ⟨_, rfl, _, rfl, _, rfl, D, _, rfl, SqL.of hD3, p, _, rfl, hp3, by rw [vInts_len]; omega, fun c H4 c0 c1 hp4 k4 => ?_⟩
        rw [vInts_len] at c1
        obtain ⟨o, ho, _, eo⟩ := vInts_at c0 c1
        have hou := hk o ho
        have hD4 := k4 _ _ hD3 nDp
        have k04 := k03.trans k4
        have hr3 := s3 _ _ hr2
        have hr4 := k4 _ _ hr3 (hand_ne hp3 hr3)
        refine ⟨D, _, c, _, rfl, rfl, SqL.of hD4, eo, ?_⟩
        refine ⟨_, rfl, p, 8, rfl, hp4, by decide, fun e H5 e0 e1 hp5 k5 => ⟨rfl, _, rfl, ?_⟩⟩
        have k05 := k04.trans k5
        have hr5 := k5 _ _ hr4 (hand_ne hp4 hr4)
        have hb5 := k05 _ _ hb (hand_ne hp hb)
        have ha5 := k05 _ _ ha (hand_ne hp ha)
        refine ite2 (fun hc => ?_) (fun hc => ?_)
        · refine ⟨_, rfl, _, rfl, _, rfl, p, b, z, 1, rfl, hp5, hb5, lz, z1, z2, by decide, by decide, fun v q H6 hq0 hq6 lv vl hp6 k6 => ?_⟩
          have hr6 := k6 _ _ hr5 (hand_ne hp5 hr5)
          have vl' : v.length = 1 := vl
          refine cat_sg hr6 hq6 (by omega) fun l hl => ?_
          have s7 := Same.upd (o := .lst ((t ++ v).map sg)) hl
          have k07 := (k05.trans k6).trans s7.keep
          have ha7 := k07 _ _ ha (hand_ne hp ha)
          refine ⟨_, rfl, _, rfl, _, rfl, 0, rfl, a, _, rfl, SqL.of ha7, fun l2 hl2 => ?_⟩
          rw [cut_lo (by decide)]
          have s8 := Same.upd (o := .lst ((u.drop (0 : Int).toNat).map sg)) hl2
          refine cat_sg (s8 _ _ upd_same) upd_same (by rw [List.length_append, List.length_drop]; omega) fun l3 hl3 => ?_
          have s9 := Same.upd (o := .lst ((t ++ v ++ u.drop (0 : Int).toNat).map sg)) hl3
          have k08 := k07.trans s8.keep
          have hp8 := (hp6.same s7).same s8
          exact ⟨_, l3, _, _, _, rfl, hp8.free k08 hl3, upd_same, (lt.app lv).app (lu.drop _), by rw [List.length_append, List.length_append]; omega, by rw [List.length_append, List.length_append, List.length_drop]; omega, hp8.same s9, k08.trans s9.keep⟩
        · refine ⟨_, rfl, _, rfl, _, rfl, o, rfl, a, _, rfl, SqL.of ha5, fun l2 hl2 => ?_⟩
          rw [cut_lo (by omega)]
          have s8 := Same.upd (o := .lst ((u.drop (o : Int).toNat).map sg)) hl2
          refine cat_sg (s8 _ _ hr5) upd_same (by rw [List.length_drop]; omega) fun l3 hl3 => ?_
          have s9 := Same.upd (o := .lst ((t ++ u.drop (o : Int).toNat).map sg)) hl3
          have k08 := k05.trans s8.keep
          have hp8 := hp5.same s8
          exact ⟨_, l3, _, _, _, rfl, hp8.free k08 hl3, upd_same, lt.app (lu.drop _), by rw [List.length_append]; omega, by rw [List.length_append, List.length_drop]; omega, hp8.same s9, k08.trans s9.keep⟩
    · rintro σ H2 ⟨t, r, v5, v6, v7, rfl, hrn, hr2, lt, tu, tl, hp2, k2⟩
      have hn20 : n.toNat ≤ 20 := by omega
      exact ⟨_, rfl, k t r H2 hrn hr2 lt (by omega) (by omega) hp2 k2⟩
end

end Ov

namespace Ov
open PySem L2
abbrev sPair : Stmt := top 30
def spPair : Sp := fun vs H Q _ => ∃ (p : Addr), vs = [.ref p, .bl true] ∧ Hand H p ∧
  ∀ (t u : List Nat) (a b g : Addr) (H' : Hp), H a = none → H b = none → H g = none → H' a = some (.lst (t.map sg)) → H' b = some (.lst (u.map sg)) → H' g = some (.tup [.ref a, .ref b]) → Low t → 1 ≤ t.length → t.length ≤ 200 → Low u → 1 ≤ u.length → u.length ≤ 49 → Hand H' p → Keep p H H' → Q (.ref g) H'
section
variable {P : Program} {w : World} {K : PySem.W.Frag} {mg : Str → Option Value} {base : Heap}
theorem scPair : FnScope ["deck", "long", "letters", "word", "text", "begin", "end"] ["deck", "long"] (defScope sPair) := ⟨rfl, rfl, rfl, by decide +kernel, rfl, by decide +kernel, by decide +kernel⟩
/-- one of two numbers, drawn, then drawn below it -/
theorem two_take {H : Hp} {p l : Addr} {r m : Int} (r0 : 0 ≤ r) (r1 : r < 2) (hm : 1 ≤ m) : ∃ v : Int, atI [V.int 1, V.int m] r = some (.int v) ∧ 1 ≤ v ∧ v ≤ m := by
  obtain ⟨v, hv, hmem, e⟩ := atI_ex [V.int 1, V.int m] r r0 (by simpa using r1)
  simp at hmem
  rcases hmem with rfl | rfl
  · exact ⟨1, e, by decide, hm⟩
  · exact ⟨m, e, hm, by omega⟩
theorem or_list {K : PySem.W.Frag} {H : Hp} {a : Addr} {t z : List Nat} {b : Addr} {σ : St} {i j : Nat} {Q : VK} (hi : σ[i]? = some (some (.ref a))) (hj : σ[j]? = some (some (.ref b))) (ha : H a = some (.lst (t.map sg))) (hb : H b = some (.lst (z.map sg))) (lt : Low t) (lz : Low z) (z1 : 1 ≤ z.length)
    (k : ∀ (t' : List Nat) (r : Addr) (H' : Hp), (r = a ∨ H r = none) → H' r = some (.lst (t'.map sg)) → Low t' → 1 ≤ t'.length → (t'.length ≤ t.length ∨ t'.length = 1) → Same H H' → Q (.ref r) H') :
    tOrT K (tVar i) (tSl (rSlL K) (tVar j) tNoPart (tPart (tC (.int 1)))) σ H Q := by
  refine ⟨_, hi, ?_⟩
  by_cases ht : t = []
  · subst ht
    refine ⟨false, .inl ⟨_, SqL.of ha, rfl⟩, iteF ?_⟩
    refine ⟨_, hj, 1, rfl, b, _, rfl, SqL.of hb, fun l hl => ?_⟩
    rw [cut_hi (by decide)]
    refine k (z.take 1) l _ (.inr hl) upd_same (lz.take _) ?_ (.inr ?_) (Same.upd hl)
    · rw [List.length_take]; omega
    · rw [List.length_take]; omega
  · refine ⟨true, .inl ⟨_, SqL.of ha, ?_⟩, iteT ?_⟩
    · cases t with
      | nil => exact absurd rfl ht
      | cons _ _ => rfl
    · refine k t a H (.inl rfl) ha lt ?_ (.inl (Nat.le_refl _)) (Same.refl _)
      cases t with
      | nil => exact absurd rfl ht
      | cons _ _ => simp
theorem seq_if {c : TT} {t u rest : TS} {D : Ends} {σ : St} {H : Hp} (T : St → Hp → Prop) (hr : ∀ σ' H', T σ' H' → rest D σ' H') (h : ∀ R : St → Hp → Prop, (∀ σ' H', T σ' H' → R σ' H') → c σ H fun b H1 => if b = true then t { D with nx := R } σ H1 else u { D with nx := R } σ H1) : tSeq (tIfS c t u) rest D σ H := h (rest D) hr
theorem ok_pair (M : Md K mg) (B : Bl mg) (F : FF K "_law_pair" sPair) (F_law_take : Fn P w K mg base CX0 "_law_take" 1 ["deck", "many"] spTake) (F_law_letters : Fn P w K mg base CX0 "_law_letters" 2 ["deck"] spLetters) (F_law_word : Fn P w K mg base CX0 "_law_word" 3 ["deck", "letters", "most"] spWord)
    (F_law_overlaid : Fn P w K mg base CX0 "_law_overlaid" 3 ["deck", "letters", "word", "many"] spOverlaid) (F_law_bent : Fn P w K mg base CX0 "_law_bent" 3 ["deck", "letters", "text"] spBent) : Fn P w K mg base CX0 "_law_pair" 4 ["deck", "long"] spPair := by
  refine fn_ok M F scPair (fun _ _ _ _ _ _ => us2 fun _ _ => rfl) (fun vs H Q E h => ?_) (fun f cdv A outer s H vs Q E hr h => ?_)
  · obtain ⟨p, rfl, _⟩ := h; rfl
  · obtain ⟨p, rfl, hp, k⟩ := h
    refine ⟨_, (pss_cons (ps_set (i := 2) scPair.nd rfl (.inl rfl) (pe_fn F_law_letters hr pass0 (pa_cons (pv 0) pa_nil)))
      (pss_cons (ps_set (i := 3) scPair.nd rfl (.inl rfl) (pe_fn F_law_word hr pass0 (pa_cons (pv 0) (pa_cons (pv 2) (pa_cons (pe_ix ix_list (pe_lst (pa_cons pe_int (pa_cons pe_int (pa_cons pe_int pa_nil)))) (pe_fn F_law_take hr pass0 (pa_cons (pv 0) (pa_cons pe_int pa_nil))) (fun _ _ => rfl)) pa_nil)))))
      (pss_cons (ps_set (i := 4) scPair.nd rfl (.inl rfl) (pe_fn F_law_overlaid hr pass0 (pa_cons (pv 0) (pa_cons (pv 2) (pa_cons (pv 3) (pa_cons (pe_fn F_law_take hr pass0 (pa_cons (pv 0) (pa_cons pe_int pa_nil))) pa_nil))))))
      (pss_cons (ps_if (PW.pt (pw_and (pt_val (pv 1)) (pw_and1 (pt_cmpR op_eq (pe_fn F_law_take hr pass0 (pa_cons (pv 0) (pa_cons pe_int pa_nil))) pe_int (nomark _))))) (pss_cons (ps_set (i := 4) scPair.nd rfl (.inl rfl) (pe_fn F_law_overlaid hr pass0 (pa_cons (pv 0) (pa_cons (pv 2) (pa_cons (pv 3) (pa_cons pe_int pa_nil))))))
      (pss_one (ps_while PassesOwn.never (pt_cmpR op_lt (pe_lenL B.len (pv 4)) pe_int (nomark _)) (pss_one (ps_set (i := 4) scPair.nd rfl (.inl rfl) (pe_op op_cat (pv 4) (pv 4))))))) pss_nil)
      (pss_cons (ps_set (i := 5) scPair.nd rfl (.inl rfl) (pe_fn F_law_take hr pass0 (pa_cons (pv 0) (pa_cons (pe_ix ix_list (pe_lst (pa_cons pe_int (pa_cons (pe_op op_add (pe_lenL B.len (pv 3)) pe_int) pa_nil))) (pe_fn F_law_take hr pass0 (pa_cons (pv 0) (pa_cons pe_int pa_nil))) (fun _ _ => rfl)) pa_nil))))
      (pss_cons (ps_set (i := 6) scPair.nd rfl (.inl rfl) (pe_fn F_law_take hr pass0 (pa_cons (pv 0) (pa_cons (pe_ix ix_list (pe_lst (pa_cons pe_int (pa_cons (pe_op op_add (pe_lenL B.len (pv 3)) pe_int) pa_nil))) (pe_fn F_law_take hr pass0 (pa_cons (pv 0) (pa_cons pe_int pa_nil))) (fun _ _ => rfl)) pa_nil))))
      (pss_cons (ps_set (i := 4) scPair.nd rfl (.inl rfl) (pe_slice sl_list (pe_slice sl_list (pv 4) (po_some (pv 5)) po_none) po_none (po_some pe_int)))
      (pss_cons (ps_set (i := 4) scPair.nd rfl (.inl rfl) (pe_slice sl_list (pv 4) po_none (po_some (pe_op op_sub (pe_lenL B.len (pv 4)) (pe_min rfl B.min (pv 6) (pe_lenL B.len (pv 4)))))))
      (pss_cons (ps_if (pt_cmpR op_eq (pe_fn F_law_take hr pass0 (pa_cons (pv 0) (pa_cons pe_int pa_nil))) pe_int (nomark _)) (pss_one (ps_set (i := 4) scPair.nd rfl (.inl rfl) (pe_slice sl_list (pe_fn F_law_bent hr pass0 (pa_cons (pv 0) (pa_cons (pv 2) (pa_cons (pv 4) pa_nil)))) po_none (po_some pe_int)))) pss_nil)
      (pss_cons (ps_if (pt_cmpR op_eq (pe_fn F_law_take hr pass0 (pa_cons (pv 0) (pa_cons pe_int pa_nil))) pe_int (nomark _)) (pss_one (ps_set (i := 3) scPair.nd rfl (.inl rfl) (pe_fn F_law_bent hr pass0 (pa_cons (pv 0) (pa_cons (pv 2) (pa_cons (pv 3) pa_nil)))))) pss_nil)
      (pss_one (ps_ret (pe_tup (pa_cons (pe_orT (pv 4) (pe_one (pe_slice sl_list (pv 2) po_none (po_some pe_int)))) (pa_cons (pe_orT (pv 3) (pe_one (pe_slice sl_list (pv 2) po_none (po_some pe_int)))) pa_nil))))))))))))))), ?_⟩
    refine ⟨_, rfl, p, rfl, hp, fun z b H1 hb0 hb1 lz z1 z2 hp1 k1 => ?_⟩
    refine ⟨_, rfl, _, rfl, by show 3 ≤ sizeLine; decide, fun l hl => ?_⟩
    have s2 := Same.upd (o := .lst [.int 3, .int 6, .int 12]) hl
    have hp1' := hp1.same s2
    refine ⟨_, rfl, p, 3, rfl, hp1', by decide, fun r H2 r0 r1 hp2 k2 => ?_⟩
    have hl2 : H2 l = some (.lst ([3, 6, 12].map V.int)) := k2 _ _ upd_same (fun q => by obtain ⟨x, y, w', e⟩ := hp1; rw [← q, hl] at e; cases e)
    obtain ⟨m, hm, em⟩ := int_pick (ns := [3, 6, 12]) r0 r1
    have hm' : 1 ≤ m ∧ m ≤ 12 := by simp at hm; omega
    refine ⟨l, _, r, _, rfl, rfl, SqL.of hl2, em, ?_⟩
    have k02 := (k1.trans s2.keep).trans k2
    have hb2 := k2 _ _ (s2 _ _ hb1) (hand_ne hp1' (s2 _ _ hb1))
    refine ⟨p, b, z, m, rfl, hp2, hb2, lz, z1, by omega, hm'.1, hm'.2, fun u a H3 ha0 ha3 lu u1 u2 hp3 k3 => ?_⟩
    have hb3 := k3 _ _ hb2 (hand_ne hp2 hb2)
    have k03 := k02.trans k3
    have han : H a = none := hp2.free k02 ha0
    have hbn : H b = none := hb0
    refine ⟨_, rfl, _, rfl, _, rfl, _, rfl, p, 5, rfl, hp3, by decide, fun c H4 c0 c1 hp4 k4 => ?_⟩
    have hb4 := k4 _ _ hb3 (hand_ne hp3 hb3)
    have ha4 := k4 _ _ ha3 (hand_ne hp3 ha3)
    have k04 := k03.trans k4
    refine ⟨p, b, a, z, u, c, rfl, hp4, hb4, lz, z1, by omega, ha4, lu, u1, u2, c0, by omega, fun t q H5 hq0 hq5 lt t1 t2 hp5 k5 => ?_⟩
    have hb5 := k5 _ _ hb4 (hand_ne hp4 hb4)
    have ha5 := k5 _ _ ha4 (hand_ne hp4 ha4)
    have k05 := k04.trans k5
    have hqn : H q = none := hp4.free k04 hq0
    (try dsimp only [gName])
    refine seq_if (fun σ H' => ∃ (t : List Nat) (q : Addr), σ = [some (.ref p), some (.bl true), some (.ref b), some (.ref a), some (.ref q), none, none] ∧ H q = none ∧ H' q = some (.lst (t.map sg)) ∧ Low t ∧ 1 ≤ t.length ∧ t.length ≤ 1030 ∧ H' b = some (.lst (z.map sg)) ∧ H' a = some (.lst (u.map sg)) ∧ Hand H' p ∧ Keep p H H') ?_ fun R hR => ?_
    · rintro σ H7 ⟨t, q, rfl, hqn, hq7, lt, t1, t2, hb7, ha7, hp7, k07⟩
      refine ⟨_, rfl, _, rfl, a, _, rfl, SqL.of ha7, _, _, rfl, rfl, by show 2 ≤ sizeLine; decide, fun l hl => ?_⟩
      have s8 := Same.upd (o := .lst [.int 1, .int (((u.map sg).length : Int) + 1)]) hl
      have hp7' := hp7.same s8
      refine ⟨_, rfl, p, 2, rfl, hp7', by decide, fun r H8 r0 r1 hp8 k8 => ?_⟩
      have hl8 := k8 _ _ upd_same (fun q => by obtain ⟨x, y, w', e⟩ := hp7; rw [← q, hl] at e; cases e)
      obtain ⟨v, ev, v1, v2⟩ := two_take (H := H8) (p := p) (l := l) r0 r1 (m := ((u.map sg).length : Int) + 1) (by omega)
      refine ⟨l, _, r, _, rfl, rfl, SqL.of hl8, ev, p, v, rfl, hp8, v1, fun begin H9 b0 b1 hp9 k9 => ?_⟩
      have k09 := ((k07.trans s8.keep).trans k8).trans k9
      have up : ∀ {e : Addr} {x : List Nat}, H7 e = some (.lst (x.map sg)) → H9 e = some (.lst (x.map sg)) := fun {e x} h => by
        have h1 := k8 _ _ (s8 _ _ h) (hand_ne hp7' (s8 _ _ h))
        exact k9 _ _ h1 (hand_ne hp8 h1)
      have hq9 := up hq7
      have ha9 := up ha7
      have hb9 := up hb7
      refine ⟨_, rfl, _, rfl, a, _, rfl, SqL.of ha9, _, _, rfl, rfl, by show 2 ≤ sizeLine; decide, fun l' hl' => ?_⟩
      have s10 := Same.upd (o := .lst [.int 1, .int (((u.map sg).length : Int) + 1)]) hl'
      have hp9' := hp9.same s10
      refine ⟨_, rfl, p, 2, rfl, hp9', by decide, fun r' H10 r0' r1' hp10 k10 => ?_⟩
      have hl10 := k10 _ _ upd_same (fun q => by obtain ⟨x, y, w', e⟩ := hp9; rw [← q, hl'] at e; cases e)
      obtain ⟨v', ev', v1', v2'⟩ := two_take (H := H10) (p := p) (l := l') r0' r1' (m := ((u.map sg).length : Int) + 1) (by omega)
      refine ⟨l', _, r', _, rfl, rfl, SqL.of hl10, ev', p, v', rfl, hp10, v1', fun en H11 en0 en1 hp11 k11 => ?_⟩
      have k011 := ((k09.trans s10.keep).trans k10).trans k11
      have up2 : ∀ {e : Addr} {x : List Nat}, H9 e = some (.lst (x.map sg)) → H11 e = some (.lst (x.map sg)) := fun {e x} h => by
        have h1 := k10 _ _ (s10 _ _ h) (hand_ne hp9' (s10 _ _ h))
        exact k11 _ _ h1 (hand_ne hp10 h1)
      have hq11 := up2 hq9
      have ha11 := up2 ha9
      have hb11 := up2 hb9
      refine ⟨_, rfl, _, rfl, begin, rfl, q, _, rfl, SqL.of hq11, fun l1 hl1 => ?_⟩
      rw [cut_lo b0]
      have s12 := Same.upd (o := .lst ((t.drop begin.toNat).map sg)) hl1
      refine ⟨200, rfl, l1, _, rfl, SqL.of upd_same, fun l2 hl2 => ?_⟩
      rw [cut_hi (by decide)]
      have s13 := s12.trans (Same.upd (o := .lst (((t.drop begin.toNat).take (200 : Int).toNat).map sg)) hl2)
      have lx : Low ((t.drop begin.toNat).take (200 : Int).toNat) := (lt.drop _).take _
      have xl : ((t.drop begin.toNat).take (200 : Int).toNat).length ≤ 200 := by rw [List.length_take]; exact Nat.min_le_left _ _
      have hx13 := upd_same (H := L2.upd H11 l1 (.lst ((t.drop begin.toNat).map sg))) (a := l2) (o := .lst (((t.drop begin.toNat).take (200 : Int).toNat).map sg))
      generalize (t.drop begin.toNat).take (200 : Int).toNat = x at *
      generalize L2.upd (L2.upd H11 l1 (.lst ((t.drop begin.toNat).map sg))) l2 (.lst (x.map sg)) = H13 at *
      have hp13 := hp11.same s13
      have k013 := k011.trans s13.keep
      refine ⟨_, rfl, _, rfl, l2, _, rfl, SqL.of hx13, _, rfl, _, rfl, l2, _, rfl, SqL.of hx13, _, _, rfl, rfl, _, _, rfl, rfl, _, rfl, l2, _, rfl, SqL.of hx13, fun l3 hl3 => ?_⟩
      rw [cut_hi (by rw [List.length_map]; split <;> omega)]
      have s14 := Same.upd (o := .lst ((x.take (((x.map sg).length : Int) - (if ((x.map sg).length : Int) < en then ((x.map sg).length : Int) else en)).toNat).map sg)) hl3
      have ly : Low (x.take (((x.map sg).length : Int) - (if ((x.map sg).length : Int) < en then ((x.map sg).length : Int) else en)).toNat) := lx.take _
      have yl : (x.take (((x.map sg).length : Int) - (if ((x.map sg).length : Int) < en then ((x.map sg).length : Int) else en)).toNat).length ≤ 200 := Nat.le_trans (by rw [List.length_take]; exact Nat.min_le_right _ _) xl
      have hy14 := upd_same (H := H13) (a := l3) (o := .lst ((x.take (((x.map sg).length : Int) - (if ((x.map sg).length : Int) < en then ((x.map sg).length : Int) else en)).toNat).map sg))
      generalize x.take (((x.map sg).length : Int) - (if ((x.map sg).length : Int) < en then ((x.map sg).length : Int) else en)).toNat = y at *
      have hp14 := hp13.same s14
      have k014 := k013.trans s14.keep
      have hl3n : H l3 = none := hp13.free k013 hl3
      have ha14 := s14 _ _ (s13 _ _ ha11)
      have hb14 := s14 _ _ (s13 _ _ hb11)
      generalize L2.upd H13 l3 (.lst (y.map sg)) = H14 at *
      (try dsimp only [gName])
      refine seq_if (fun σ H' => ∃ (t : List Nat) (q : Addr), σ = [some (.ref p), some (.bl true), some (.ref b), some (.ref a), some (.ref q), some (.int begin), some (.int en)] ∧ H q = none ∧ H' q = some (.lst (t.map sg)) ∧ Low t ∧ t.length ≤ 200 ∧ H' b = some (.lst (z.map sg)) ∧ H' a = some (.lst (u.map sg)) ∧ Hand H' p ∧ Keep p H H') ?_ fun R hR => ?_
      · rintro σ H16 ⟨y', q', rfl, hqn', hq16, ly', yl', hb16, ha16, hp16, k016⟩
        (try dsimp only [gName])
        refine seq_if (fun σ H' => ∃ (u' : List Nat) (a' : Addr), σ = [some (.ref p), some (.bl true), some (.ref b), some (.ref a'), some (.ref q'), some (.int begin), some (.int en)] ∧ H a' = none ∧ H' a' = some (.lst (u'.map sg)) ∧ Low u' ∧ u'.length ≤ 49 ∧ H' b = some (.lst (z.map sg)) ∧ H' q' = some (.lst (y'.map sg)) ∧ Hand H' p ∧ Keep p H H') ?_ fun R hR => ?_
        · rintro σ H18 ⟨u', a', rfl, han', ha18, lu', ul', hb18, hq18, hp18, k018⟩
          refine or_list (K := K) (i := 4) (j := 2) rfl rfl hq18 hb18 ly' lz z1 fun t' r2 H19 hr2 hr19 lt' t1' tl' s19 => ?_
          have ha19 := s19 _ _ ha18
          have hb19 := s19 _ _ hb18
          refine or_list (K := K) (i := 3) (j := 2) rfl rfl ha19 hb19 lu' lz z1 fun u2' r3 H20 hr3 hr20 lu2 u1' ul2 s20 => ?_
          refine ⟨by show 2 ≤ sizeLine; decide, fun g2 hg2 => ?_⟩
          have s21 := Same.upd (o := .tup [.ref r2, .ref r3]) hg2
          have k019 := k018.trans s19.keep
          have k020 := k019.trans s20.keep
          have hp19 := hp18.same s19
          have hp20 := hp19.same s20
          refine k t' u2' r2 r3 g2 _ ?_ ?_ (hp20.free k020 hg2) (s21 _ _ (s20 _ _ hr19)) (s21 _ _ hr20) upd_same lt' t1' ?_ lu2 u1' ?_ (hp20.same s21) (k020.trans s21.keep)
          · rcases hr2 with rfl | h
            · exact hqn'
            · exact hp18.free k018 h
          · rcases hr3 with rfl | h
            · exact han'
            · exact hp19.free k019 h
          · rcases tl' with h | h <;> omega
          · rcases ul2 with h | h <;> omega
        · refine ⟨_, rfl, p, 6, rfl, hp16, by decide, fun g H17 g0 g1 hp17 k17 => ⟨rfl, _, rfl, ?_⟩⟩
          have hq17 := k17 _ _ hq16 (hand_ne hp16 hq16)
          have ha17 := k17 _ _ ha16 (hand_ne hp16 ha16)
          have hb17 := k17 _ _ hb16 (hand_ne hp16 hb16)
          have k017 := k016.trans k17
          refine ite2 (fun hc => ?_) (fun hc => ?_)
          · refine ⟨_, rfl, _, rfl, _, rfl, p, b, a, z, u, rfl, hp17, hb17, lz, z1, by omega, ha17, lu, by omega, fun u' a' H18 ha0' ha18 lu' ul' hp18 k18 => ?_⟩
            exact hR _ _ ⟨u', a', rfl, hp17.free k017 ha0', ha18, lu', by omega, k18 _ _ hb17 (hand_ne hp17 hb17), k18 _ _ hq17 (hand_ne hp17 hq17), hp18, k017.trans k18⟩
          · exact hR _ _ ⟨u, a, rfl, han, ha17, lu, by omega, hb17, hq17, hp17, k017⟩
      · refine ⟨_, rfl, p, 4, rfl, hp14, by decide, fun d H15 d0 d1 hp15 k15 => ⟨rfl, _, rfl, ?_⟩⟩
        have hy15 := k15 _ _ hy14 (hand_ne hp14 hy14)
        have ha15 := k15 _ _ ha14 (hand_ne hp14 ha14)
        have hb15 := k15 _ _ hb14 (hand_ne hp14 hb14)
        have k015 := k014.trans k15
        refine ite2 (fun hc => ?_) (fun hc => ?_)
        · refine ⟨_, rfl, _, rfl, _, rfl, p, b, l3, z, y, rfl, hp15, hb15, lz, z1, by omega, hy15, ly, by omega, fun x' q' H16 hq0 hq16 lx' xl' hp16 k16 => ?_⟩
          refine ⟨200, rfl, q', _, rfl, SqL.of hq16, fun l4 hl4 => ?_⟩
          rw [cut_hi (by decide)]
          have s17 := Same.upd (o := .lst ((x'.take (200 : Int).toNat).map sg)) hl4
          have k016 := k015.trans k16
          exact hR _ _ ⟨_, l4, rfl, hp16.free k016 hl4, upd_same, lx'.take _, by rw [List.length_take]; exact Nat.min_le_left _ _, s17 _ _ (k16 _ _ hb15 (hand_ne hp15 hb15)), s17 _ _ (k16 _ _ ha15 (hand_ne hp15 ha15)), hp16.same s17, k016.trans s17.keep⟩
        · exact hR _ _ ⟨y, l3, rfl, hl3n, hy15, ly, yl, hb15, ha15, hp15, k015⟩
    · refine ⟨_, rfl, true, rfl, iteT ?_⟩
      refine ⟨_, rfl, p, 16, rfl, hp5, by decide, fun e H6 e0 e1 hp6 k6 => ⟨rfl, _, rfl, ?_⟩⟩
      have hb6 := k6 _ _ hb5 (hand_ne hp5 hb5)
      have ha6 := k6 _ _ ha5 (hand_ne hp5 ha5)
      have hq6 := k6 _ _ hq5 (hand_ne hp5 hq5)
      have k06 := k05.trans k6
      refine ite2 (fun hc => ?_) (fun hc => ?_)
      · refine ⟨_, rfl, _, rfl, _, rfl, p, b, a, z, u, 20, rfl, hp6, hb6, lz, z1, by omega, ha6, lu, u1, u2, by decide, by decide, fun t q H7 hq0 hq7 lt t1 t2 hp7 k7 => ?_⟩
        have hqn : H q = none := hp6.free k06 hq0
        refine while_by (fun σ H' => ∃ (t : List Nat) (q : Addr), σ = [some (.ref p), some (.bl true), some (.ref b), some (.ref a), some (.ref q), none, none] ∧ H q = none ∧ H' q = some (.lst (t.map sg)) ∧ Low t ∧ 1 ≤ t.length ∧ t.length ≤ 1030 ∧ H' b = some (.lst (z.map sg)) ∧ H' a = some (.lst (u.map sg)) ∧ Hand H' p ∧ Keep p H H')
          (fun σ H' => 200 - (match (σ[4]? : Option (Option V)) with | some (some (V.ref q)) => (match (H' q : Option HO) with | some (.lst xs) => xs.length | _ => 0) | _ => 0)) ?_ ?_ ?_
        · exact ⟨t, q, rfl, hqn, hq7, lt, t1, t2, k7 _ _ hb6 (hand_ne hp6 hb6), k7 _ _ ha6 (hand_ne hp6 ha6), hp7, k06.trans k7⟩
        · rintro σ H8 ⟨t, q, rfl, hqn, hq8, lt, t1, t2, hb8, ha8, hp8, k08⟩
          refine ⟨_, rfl, q, _, rfl, SqL.of hq8, _, _, rfl, rfl, _, rfl, ?_⟩
          refine ite2 (fun hc => ?_) (fun hc => ?_)
          · have hlt : t.length < 200 := by
              have := of_decide_eq_true hc
              rw [List.length_map] at this; omega
            refine ⟨_, rfl, _, rfl, cat_sg hq8 hq8 (by omega) fun l hl => ?_⟩
            have s9 := Same.upd (o := .lst ((t ++ t).map sg)) hl
            refine ⟨⟨t ++ t, l, rfl, hp8.free k08 hl, upd_same, lt.app lt, by rw [List.length_append]; omega, by rw [List.length_append]; omega, s9 _ _ hb8, s9 _ _ ha8, hp8.same s9, k08.trans s9.keep⟩, ?_⟩
            show 200 - (match ((L2.upd H8 l (.lst ((t ++ t).map sg))) l : Option HO) with | some (.lst xs) => xs.length | _ => 0) < 200 - (match (H8 q : Option HO) with | some (.lst xs) => xs.length | _ => 0)
            rw [upd_same, hq8]
            show 200 - ((t ++ t).map sg).length < 200 - (t.map sg).length
            rw [List.length_map, List.length_map, List.length_append]; omega
          · exact hR _ _ ⟨t, q, rfl, hqn, hq8, lt, t1, t2, hb8, ha8, hp8, k08⟩
        · rintro σ H8 Q1 Q2 himp ⟨v, e1, a1, xs, e2, e3, i1, j1, e4, e5, b1, e6, h⟩
          exact ⟨v, e1, a1, xs, e2, e3, i1, j1, e4, e5, b1, e6, himp _ _ h⟩
      · exact hR _ _ ⟨t, q, rfl, hqn, hq6, lt, t1, t2, hb6, ha6, hp6, k06⟩
end

end Ov

namespace Ov
open PySem L2
abbrev sIsSign : Stmt := top 6
abbrev sCheck : Stmt := top 7
def spIsSign : Sp := fun vs H Q _ => ∃ c : Nat, vs = [sg c] ∧ 97 ≤ c ∧ c ≤ 122 ∧ Q (.bl true) H
def spCheck : Sp := fun vs H Q _ => ∃ (a : Addr) (t : List Nat), vs = [.ref a] ∧ H a = some (.lst (t.map sg)) ∧ Low t ∧ Q .non H
theorem sg_ge {c : Nat} (h : 97 ≤ c) : (!decide ((sgS c).cps.toList < (Str.ofString "a").cps.toList)) = true := by
  have e : (Str.ofString "a").cps.toList = [97] := by decide +kernel
  rw [e]
  have : ¬ ([c] < [97]) := fun q => by
    cases q with
    | rel r => omega
    | cons r => cases r
  simp [this]
theorem sg_le {c : Nat} (h : c ≤ 122) : (!decide ((Str.ofString "z").cps.toList < (sgS c).cps.toList)) = true := by
  have e : (Str.ofString "z").cps.toList = [122] := by decide +kernel
  rw [e]
  have : ¬ ([122] < [c]) := fun q => by
    cases q with
    | rel r => omega
    | cons r => cases r
  simp [this]
section
variable {P : Program} {w : World} {K : PySem.W.Frag} {mg : Str → Option Value} {base : Heap}
theorem scIsSign : FnScope ["sign"] ["sign"] (defScope sIsSign) := ⟨rfl, rfl, rfl, by decide +kernel, rfl, by decide +kernel, by decide +kernel⟩
theorem ok_is_sign (M : Md K mg) (B : Bl mg) (F : FF K "is_sign" sIsSign) : Fn P w K mg base CX0 "is_sign" 1 ["sign"] spIsSign := by
  refine fn_ok M F scIsSign (fun _ _ _ _ _ _ => us1 fun _ => rfl) (fun vs H Q E h => ?_) (fun f cdv A outer s H vs Q E hr h => ?_)
  · obtain ⟨c, rfl, _⟩ := h; rfl
  · obtain ⟨c, rfl, c1, c2, k⟩ := h
    refine ⟨_, (pss_one (ps_ret (pe_and (pe_isi B.isinst B.str bt_str (pv 0)) (pe_and (pe_cmpR op_eq (pe_lenS B.len (pv 0)) pe_int (nomark _)) (pe_one (pe_chain op_le_str op_le_str pe_str (pv 0) pe_str)))))), ?_⟩
    refine ⟨_, rfl, _, true, TyOf.str _, rfl, _, rfl, iteT ?_⟩
    refine ⟨_, rfl, _, rfl, sz (by show 1 ≤ 1000; decide), rfl, true, rfl, iteT ?_⟩
    refine ⟨_, rfl, _, _, rfl, rfl, _, rfl, ?_⟩
    rw [sg_ge c1]
    refine iteT ⟨_, _, rfl, rfl, ?_⟩
    rw [sg_le c2]
    exact k
theorem scCheck : FnScope ["text", "sign"] ["text"] (defScope sCheck) := ⟨rfl, rfl, rfl, by decide +kernel, rfl, by decide +kernel, by decide +kernel⟩
theorem ok_check (M : Md K mg) (B : Bl mg) (F : FF K "check_signs" sCheck) (Fis_sign : Fn P w K mg base CX0 "is_sign" 1 ["sign"] spIsSign) : Fn P w K mg base CX0 "check_signs" 2 ["text"] spCheck := by
  refine fn_ok M F scCheck (fun _ _ _ _ _ _ => us1 fun _ => rfl) (fun vs H Q E h => ?_) (fun f cdv A outer s H vs Q E hr h => ?_)
  · obtain ⟨a, t, rfl, _⟩ := h; rfl
  · obtain ⟨a, t, rfl, ha, lt, k⟩ := h
    refine ⟨_, (pss_one (ps_for PassesOwn.never rfl (pi_list (pv 0)) (pg_name (i := 1) scCheck.nd rfl (.inl rfl))
      (pss_one (ps_if (pt_not (pt_val (pe_fn Fis_sign hr pass0 (pa_cons (pv 1) pa_nil)))) (pss_one ps_never) pss_nil)))), ?_⟩
    refine ⟨_, rfl, a, rfl, ⟨_, SqL.of ha⟩, for_list (K := K) (a := a) (xs := t.map sg) (fun i σ H2 => H2 = H ∧ ∃ v, σ = [some (.ref a), v]) ⟨rfl, none, rfl⟩ (fun i σ H2 _ h2 => by rw [h2.1]; exact SqL.of ha) ?_ ?_⟩
    · rintro i x σ H2 hx ⟨rfl, v, rfl⟩
      rw [List.getElem?_map] at hx
      cases e : t[i]? with
      | none => rw [e] at hx; cases hx
      | some c =>
        rw [e] at hx
        have : sg c = x := Option.some.inj hx
        subst this
        have hc := lt c (List.mem_of_getElem? e)
        exact ⟨_, rfl, c, rfl, hc.1, hc.2, true, rfl, iteF ⟨rfl, _, rfl⟩⟩
    · rintro σ H2 ⟨rfl, _⟩
      exact k
end

end Ov

namespace Ov
open PySem L2

end Ov

namespace Ov
open PySem L2
/-- the places at which u lies in t -/
def liesIn (t u : List Nat) : List Nat := (List.range (t.length + 1 - u.length)).filter fun p => decide ((t.drop p).take u.length = u)
theorem vInts_snoc' (ks : List Nat) (i : Nat) : vInts (ks ++ [i]) = vInts ks ++ [V.int (i : Int)] := by simp [vInts]
/-- the places at which the word's signs are others, up to the j-th -/
def parts (t u : List Nat) (p j : Nat) : List Nat := (List.range j).filter fun q => !decide (t[p + q]? = u[q]?)
theorem lies_step (t u : List Nat) (i : Nat) : ((List.range (i + 1)).filter fun p => decide ((t.drop p).take u.length = u)) = ((List.range i).filter fun p => decide ((t.drop p).take u.length = u)) ++ (if (t.drop i).take u.length = u then [i] else []) := by
  rw [List.range_succ, List.filter_append]
  congr 1
  by_cases h : (t.drop i).take u.length = u <;> simp [h]

end Ov

namespace Ov
open PySem L2
theorem takeWhile_all {α : Type} {f : α → Bool} : ∀ {l : List α}, (∀ x ∈ l, f x = true) → l.takeWhile f = l
  | [], _ => rfl
  | x :: l, h => by
    rw [List.takeWhile_cons, h x List.mem_cons_self, if_pos rfl, takeWhile_all fun y hy => h y (List.mem_cons_of_mem _ hy)]
theorem mem_takeWhile {α : Type} {f : α → Bool} {y : α} : ∀ {l : List α}, y ∈ l.takeWhile f → f y = true
  | [], h => by cases h
  | x :: l, h => by
    rw [List.takeWhile_cons] at h
    cases q : f x with
    | false => rw [q] at h; cases h
    | true =>
      rw [q, if_pos rfl] at h
      rcases List.mem_cons.mp h with rfl | h
      · exact q
      · exact mem_takeWhile h
/-- a sign is in one of the places -/
def cov (ks : List Nat) (m i : Nat) : Bool := ks.any fun p => decide (p ≤ i ∧ i < p + m)
/-- the least sign that is in none of them (n where there is none) -/
def bareOf (n m : Nat) (ks : List Nat) : Nat := ((List.range n).takeWhile (cov ks m)).length
theorem bareOf_le (n m : Nat) (ks : List Nat) : bareOf n m ks ≤ n := by
  unfold bareOf
  have := (List.takeWhile_sublist (cov ks m) (l := List.range n)).length_le
  simpa using this
theorem takeWhile_len {n x : Nat} {f : Nat → Bool} (hx : x ≤ n) (h1 : ∀ i, i < x → f i = true) (h2 : x < n → f x = false) : ((List.range n).takeWhile f).length = x := by
  have e : List.range n = List.range x ++ (List.range (n - x)).map (x + ·) := by
    rw [← List.range_add]; congr 1; omega
  have a : (List.range x).takeWhile f = List.range x := by
    apply takeWhile_all
    intro i hi
    exact h1 i (by simpa using hi)
  rw [e, List.takeWhile_append, a]
  simp only [List.length_range, if_true]
  by_cases hlt : x < n
  · obtain ⟨d, hd⟩ : ∃ d, n - x = d + 1 := ⟨n - x - 1, by omega⟩
    rw [hd, List.range_succ_eq_map, List.map_cons, List.takeWhile_cons]
    simp [h2 hlt]
  · have : n - x = 0 := by omega
    rw [this]; simp
theorem takeWhile_true {n : Nat} {f : Nat → Bool} {i : Nat} (h : i < ((List.range n).takeWhile f).length) : f i = true := by
  have hp := List.takeWhile_prefix f (l := List.range n)
  have e : ((List.range n).takeWhile f)[i]? = (List.range n)[i]? := by
    obtain ⟨r, hr⟩ := hp
    conv => rhs; rw [← hr]
    rw [List.getElem?_append_left h]
  have hi : i < n := by
    have := hp.length_le
    simp at this; omega
  have m : i ∈ (List.range n).takeWhile f := by
    rw [List.mem_iff_getElem?]
    exact ⟨i, by rw [e]; simp [hi]⟩
  exact mem_takeWhile m
theorem bareOf_cov {n m : Nat} {ks : List Nat} {i : Nat} (h : i < bareOf n m ks) : cov ks m i = true := takeWhile_true h
theorem bareOf_eq {n m x : Nat} {ks : List Nat} (hx : x ≤ n) (h1 : ∀ i, i < x → cov ks m i = true) (h2 : x < n → cov ks m x = false) : bareOf n m ks = x := takeWhile_len hx h1 h2
/-- going along -/
def fb (m : Nat) : Nat → List Nat → Nat
  | reach, [] => reach
  | reach, p :: r => if p > reach then reach else fb m (p + m) r
theorem cov_true {ks : List Nat} {m i : Nat} : cov ks m i = true ↔ ∃ p ∈ ks, p ≤ i ∧ i < p + m := by
  unfold cov
  rw [List.any_eq_true]
  constructor
  · rintro ⟨p, hp, h⟩; exact ⟨p, hp, of_decide_eq_true h⟩
  · rintro ⟨p, hp, h⟩; exact ⟨p, hp, decide_eq_true h⟩
theorem cov_false {ks : List Nat} {m i : Nat} : cov ks m i = false ↔ ∀ p ∈ ks, ¬ (p ≤ i ∧ i < p + m) := by
  rw [← Bool.not_eq_true, cov_true]
  constructor
  · intro h p hp q; exact h ⟨p, hp, q⟩
  · rintro h ⟨p, hp, q⟩; exact h p hp q
theorem fb_spec {m n : Nat} : ∀ (ks D : List Nat) (R : Nat), (D ++ ks).Pairwise (· < ·) → (∀ p ∈ D, p + m ≤ R) → (∀ i, i < R → cov D m i = true) → R ≤ n → (∀ p ∈ ks, p + m ≤ n) →
    fb m R ks ≤ n ∧ (∀ i, i < fb m R ks → cov (D ++ ks) m i = true) ∧ cov (D ++ ks) m (fb m R ks) = false
  | [], D, R, hs, hd, hc, hr, hk => by
    rw [List.append_nil]
    refine ⟨hr, hc, ?_⟩
    rw [cov_false]
    intro p hp q
    have := hd p hp
    simp only [fb] at q
    omega
  | p :: r, D, R, hs, hd, hc, hr, hk => by
    simp only [fb]
    have hsp := List.pairwise_append.mp hs
    have hpr := List.pairwise_cons.mp hsp.2.1
    by_cases h : p > R
    · rw [if_pos h]
      refine ⟨hr, fun i hi => ?_, ?_⟩
      · obtain ⟨q, hq, z⟩ := cov_true.mp (hc i hi)
        exact cov_true.mpr ⟨q, List.mem_append_left _ hq, z⟩
      · rw [cov_false]
        intro q hq z
        rcases List.mem_append.mp hq with hq | hq
        · have := hd q hq; omega
        · rcases List.mem_cons.mp hq with rfl | hq
          · omega
          · have := hpr.1 q hq; omega
    · rw [if_neg h]
      have e : D ++ p :: r = (D ++ [p]) ++ r := by simp
      rw [e] at hs ⊢
      refine fb_spec r (D ++ [p]) (p + m) hs (fun q hq => ?_) (fun i hi => ?_) (hk p List.mem_cons_self) (fun q hq => hk q (List.mem_cons_of_mem _ hq))
      · rcases List.mem_append.mp hq with hq | hq
        · have := hsp.2.2 q hq p List.mem_cons_self; omega
        · rw [List.mem_singleton.mp hq]; omega
      · by_cases hi2 : i < R
        · obtain ⟨q, hq, z⟩ := cov_true.mp (hc i hi2)
          exact cov_true.mpr ⟨q, List.mem_append_left _ hq, z⟩
        · exact cov_true.mpr ⟨p, by simp, by omega, hi⟩
theorem fb_bare {m n : Nat} {ks : List Nat} (hs : ks.Pairwise (· < ·)) (hk : ∀ p ∈ ks, p + m ≤ n) : fb m 0 ks = bareOf n m ks := by
  obtain ⟨h1, h2, h3⟩ := fb_spec (m := m) (n := n) ks [] 0 (by simpa using hs) (by simp) (by simp) (Nat.zero_le _) hk
  rw [List.nil_append] at h2 h3
  exact (bareOf_eq h1 h2 fun _ => h3).symm
theorem lies_sorted (t u : List Nat) : (liesIn t u).Pairwise (· < ·) := by
  unfold liesIn
  exact List.Pairwise.filter _ List.pairwise_lt_range
theorem lies_in {t u : List Nat} {p : Nat} (h : p ∈ liesIn t u) (u1 : 1 ≤ u.length) : p + u.length ≤ t.length := by
  unfold liesIn at h
  have := (List.mem_filter.mp h).1
  simp at this
  omega

end Ov

namespace Ov
open PySem L2
theorem vInts_get {ks : List Nat} {i : Nat} {x : V} (h : (vInts ks)[i]? = some x) : ∃ k, ks[i]? = some k ∧ x = V.int (k : Int) := by
  unfold vInts at h
  rw [List.map_map, List.getElem?_map] at h
  cases q : ks[i]? with
  | none => rw [q] at h; cases h
  | some k => rw [q] at h; exact ⟨k, rfl, (Option.some.inj h).symm⟩

end Ov

namespace Ov
open PySem L2
/-- u covers t -/
def covers (t u : List Nat) : Bool := decide (bareOf t.length u.length (liesIn t u) = t.length)
def rch (m : Nat) (R : Nat) (ks : List Nat) : Nat := ks.foldl (fun R p => if p ≤ R then p + m else R) R
theorem rch_stay {m : Nat} : ∀ {ks : List Nat} {R : Nat}, (∀ p ∈ ks, R < p) → rch m R ks = R
  | [], _, _ => rfl
  | p :: r, R, h => by
    show rch m (if p ≤ R then p + m else R) r = R
    have := h p List.mem_cons_self
    rw [if_neg (by omega)]
    exact rch_stay fun q hq => h q (List.mem_cons_of_mem _ hq)
theorem rch_fb {m : Nat} : ∀ {ks : List Nat} {R : Nat}, ks.Pairwise (· < ·) → rch m R ks = fb m R ks
  | [], _, _ => rfl
  | p :: r, R, h => by
    have hp := List.pairwise_cons.mp h
    show rch m (if p ≤ R then p + m else R) r = fb m R (p :: r)
    simp only [fb]
    by_cases hc : p > R
    · rw [if_neg (by omega), if_pos hc]
      exact rch_stay fun q hq => by have := hp.1 q hq; omega
    · rw [if_pos (by omega), if_neg hc]
      exact rch_fb hp.2
theorem rch_snoc (m R : Nat) (ks : List Nat) (p : Nat) : rch m R (ks ++ [p]) = if p ≤ rch m R ks then p + m else rch m R ks := by
  unfold rch
  rw [List.foldl_append]
  rfl
theorem rch_bare {t u : List Nat} (u1 : 1 ≤ u.length) : rch u.length 0 (liesIn t u) = bareOf t.length u.length (liesIn t u) := by
  rw [rch_fb (lies_sorted t u)]
  exact fb_bare (lies_sorted t u) fun p hp => lies_in hp u1
theorem mem_lies {t u : List Nat} {p : Nat} : p ∈ liesIn t u ↔ p < t.length + 1 - u.length ∧ (t.drop p).take u.length = u := by
  unfold liesIn
  rw [List.mem_filter]
  simp
theorem covers_iff {t u : List Nat} : covers t u = true ↔ ∀ i, i < t.length → ∃ p ∈ liesIn t u, p ≤ i ∧ i < p + u.length := by
  unfold covers
  rw [decide_eq_true_eq]
  constructor
  · intro h i hi
    exact cov_true.mp (bareOf_cov (n := t.length) (by omega))
  · intro h
    exact bareOf_eq (Nat.le_refl _) (fun i hi => cov_true.mpr (h i hi)) (fun z => absurd z (Nat.lt_irrefl _))
theorem covers_self {t : List Nat} : covers t t = true := by
  rw [covers_iff]
  intro i hi
  exact ⟨0, mem_lies.mpr ⟨by omega, by simp⟩, Nat.zero_le _, by omega⟩

end Ov

namespace Ov
open PySem L2
def fbI (m : Int) : Int → List Int → Int
  | R, [] => R
  | R, p :: r => if p > R then R else fbI m (p + m) r
theorem fbI_cov {m n : Int} : ∀ {A : List Int} {R : Int}, A.Pairwise (· < ·) → (∀ p ∈ A, p < n ∧ R ≤ p + m) → (n ≤ fbI m R A ↔ ∀ i, R ≤ i → i < n → ∃ p ∈ A, p ≤ i ∧ i < p + m)
  | [], R, _, _ => by
    simp only [fbI]
    constructor
    · intro h i h1 h2; omega
    · intro h
      by_cases hn : n ≤ R
      · exact hn
      · obtain ⟨p, hp, _⟩ := h R (Int.le_refl _) (by omega); cases hp
  | p :: r, R, hs, hA => by
    have hs' := List.pairwise_cons.mp hs
    have hp := hA p List.mem_cons_self
    simp only [fbI]
    by_cases hg : p > R
    · rw [if_pos hg]
      constructor
      · intro h; omega
      · intro h
        obtain ⟨q, hq, h1, h2⟩ := h R (Int.le_refl _) (by omega)
        rcases List.mem_cons.mp hq with z | z
        · omega
        · have := hs'.1 q z; omega
    · rw [if_neg hg, fbI_cov hs'.2 fun q hq => ⟨(hA q (List.mem_cons_of_mem _ hq)).1, by have := hs'.1 q hq; omega⟩]
      constructor
      · intro h i h1 h2
        by_cases hi : i < p + m
        · exact ⟨p, List.mem_cons_self, by omega, hi⟩
        · obtain ⟨q, hq, h3⟩ := h i (by omega) h2
          exact ⟨q, List.mem_cons_of_mem _ hq, h3⟩
      · intro h i h1 h2
        obtain ⟨q, hq, h3, h4⟩ := h i (by omega) h2
        rcases List.mem_cons.mp hq with z | z
        · omega
        · exact ⟨q, z, h3, h4⟩
theorem fb_cov {m n : Nat} : ∀ {A : List Nat} {R : Nat}, A.Pairwise (· < ·) → (∀ p ∈ A, p < n ∧ R ≤ p + m) → (n ≤ fb m R A ↔ ∀ i, R ≤ i → i < n → ∃ p ∈ A, p ≤ i ∧ i < p + m)
  | [], R, _, _ => by
    simp only [fb]
    constructor
    · intro h i h1 h2; omega
    · intro h
      by_cases hn : n ≤ R
      · exact hn
      · obtain ⟨p, hp, _⟩ := h R (Nat.le_refl _) (by omega); cases hp
  | p :: r, R, hs, hA => by
    have hs' := List.pairwise_cons.mp hs
    have hp := hA p List.mem_cons_self
    simp only [fb]
    by_cases hg : p > R
    · rw [if_pos hg]
      constructor
      · intro h; omega
      · intro h
        obtain ⟨q, hq, h1, h2⟩ := h R (Nat.le_refl _) (by omega)
        rcases List.mem_cons.mp hq with z | z
        · omega
        · have := hs'.1 q z; omega
    · rw [if_neg hg, fb_cov hs'.2 fun q hq => ⟨(hA q (List.mem_cons_of_mem _ hq)).1, by have := hs'.1 q hq; omega⟩]
      constructor
      · intro h i h1 h2
        by_cases hi : i < p + m
        · exact ⟨p, List.mem_cons_self, by omega, hi⟩
        · obtain ⟨q, hq, h3⟩ := h i (by omega) h2
          exact ⟨q, List.mem_cons_of_mem _ hq, h3⟩
      · intro h i h1 h2
        obtain ⟨q, hq, h3, h4⟩ := h i (by omega) h2
        rcases List.mem_cons.mp hq with z | z
        · omega
        · exact ⟨q, z, h3, h4⟩
/-- text and word have the same signs where they meet -/
def Agr (t u : List Nat) (p : Int) : Prop := ∀ i : Nat, i < t.length → p ≤ i → (i : Int) < p + u.length → t[i]? = u[(i - p).toNat]?
def begI (p : Int) : Int := if 0 > p then 0 else p
def endI (t u : List Nat) (p : Int) : Int := if (t.length : Int) < p + u.length then t.length else p + u.length
def agr (t u : List Nat) (p : Int) : Bool := decide ((t.drop (begI p).toNat).take ((endI t u p).toNat - (begI p).toNat) = (u.drop (begI p - p).toNat).take ((endI t u p - p).toNat - (begI p - p).toNat))
theorem agr_iff {t u : List Nat} {p : Int} (h1 : 1 - (u.length : Int) ≤ p) (h2 : p < t.length) : agr t u p = true ↔ Agr t u p := by
  unfold agr
  rw [decide_eq_true_eq]
  have b0 : 0 ≤ begI p ∧ p ≤ begI p ∧ (begI p = 0 ∨ begI p = p) := by unfold begI; split <;> omega
  have e0 : endI t u p ≤ t.length ∧ endI t u p ≤ p + u.length ∧ (endI t u p = t.length ∨ endI t u p = p + u.length) := by unfold endI; split <;> omega
  have be : begI p ≤ endI t u p := by omega
  constructor
  · intro h i hi h3 h4
    have h5 : begI p ≤ i ∧ (i : Int) < endI t u p := by
      rcases b0.2.2 with z | z <;> rcases e0.2.2 with y | y <;> omega
    have := congrArg (·[i - (begI p).toNat]?) h
    have this : ((t.drop (begI p).toNat).take ((endI t u p).toNat - (begI p).toNat))[i - (begI p).toNat]? = ((u.drop (begI p - p).toNat).take ((endI t u p - p).toNat - (begI p - p).toNat))[i - (begI p).toNat]? := this
    rw [List.getElem?_take_of_lt (by omega), List.getElem?_take_of_lt (by omega), List.getElem?_drop, List.getElem?_drop] at this
    rw [show (begI p).toNat + (i - (begI p).toNat) = i by omega, show (begI p - p).toNat + (i - (begI p).toNat) = ((i : Int) - p).toNat by omega] at this
    exact this
  · intro h
    apply List.ext_getElem?
    intro j
    by_cases hj : j < (endI t u p).toNat - (begI p).toNat
    · rw [List.getElem?_take_of_lt hj, List.getElem?_take_of_lt (by omega), List.getElem?_drop, List.getElem?_drop]
      have := h ((begI p).toNat + j) (by omega) (by omega) (by omega)
      rw [this, show ((((begI p).toNat + j : Nat) : Int) - p).toNat = (begI p - p).toNat + j by omega]
    · rw [List.getElem?_eq_none (by rw [List.length_take]; omega), List.getElem?_eq_none (by rw [List.length_take]; omega)]
/-- the agreeing places from lo on, k of them asked -/
def agPl (t u : List Nat) (lo : Int) (k : Nat) : List Int := ((List.range k).map fun (i : Nat) => lo + (i : Int)).filter (agr t u)
theorem agPl_sorted (t u : List Nat) (lo : Int) (k : Nat) : (agPl t u lo k).Pairwise (· < ·) := List.Pairwise.filter _ (List.pairwise_map.mpr (List.pairwise_lt_range.imp fun q => by omega))
theorem mem_agPl {t u : List Nat} {lo : Int} {k : Nat} {p : Int} : p ∈ agPl t u lo k ↔ (lo ≤ p ∧ p < lo + k) ∧ agr t u p = true := by
  unfold agPl
  rw [List.mem_filter, List.mem_map]
  constructor
  · rintro ⟨⟨i, hi, rfl⟩, h⟩
    have : i < k := by simpa using hi
    exact ⟨⟨by omega, by omega⟩, h⟩
  · rintro ⟨⟨h1, h2⟩, h⟩
    exact ⟨⟨(p - lo).toNat, by simp; omega, by omega⟩, h⟩
def Cov (t u : List Nat) (lo hi : Int) : Prop := ∀ i : Nat, i < t.length → ∃ p : Int, lo ≤ p ∧ p ≤ hi ∧ p ≤ i ∧ (i : Int) < p + u.length ∧ Agr t u p
/-- whether the word covers with the rests that lo and hi leave -/
def restB (t u : List Nat) (lo hi : Int) : Bool := decide ((t.length : Int) ≤ fbI u.length 0 (agPl t u lo (hi + 1 - lo).toNat))
theorem restB_iff {t u : List Nat} {lo hi : Int} (h1 : 1 - (u.length : Int) ≤ lo) (h2 : hi < t.length) : restB t u lo hi = true ↔ Cov t u lo hi := by
  unfold restB
  rw [decide_eq_true_eq, fbI_cov (agPl_sorted _ _ _ _) fun p hp => ?_]
  · constructor
    · intro h i hi'
      obtain ⟨p, hp, h3, h4⟩ := h i (by omega) (by omega)
      obtain ⟨⟨h5, h6⟩, h7⟩ := mem_agPl.mp hp
      exact ⟨p, h5, by omega, h3, h4, (agr_iff (by omega) (by omega)).mp h7⟩
    · intro h i h3 h4
      obtain ⟨p, h5, h6, h7, h8, h9⟩ := h i.toNat (by omega)
      exact ⟨p, mem_agPl.mpr ⟨⟨h5, by omega⟩, (agr_iff (by omega) (by omega)).mpr h9⟩, by omega, by omega⟩
  · obtain ⟨⟨h5, h6⟩, _⟩ := mem_agPl.mp hp
    constructor <;> omega
def loOf (u : List Nat) (ahead : Bool) : Int := if ahead then 1 - (u.length : Int) else 0
def hiOf (t u : List Nat) (behind : Bool) : Int := if behind then (t.length : Int) - 1 else (t.length : Int) - u.length
theorem lo_ge {u : List Nat} {ahead : Bool} (u1 : 1 ≤ u.length) : 1 - (u.length : Int) ≤ loOf u ahead := by unfold loOf; split <;> omega
theorem hi_lt {t u : List Nat} {behind : Bool} (u1 : 1 ≤ u.length) : hiOf t u behind < t.length := by unfold hiOf; split <;> omega
/-! ### by trial -/
def tryIn (t u : List Nat) (one other : Nat) : List Nat := u.take one ++ t ++ u.drop (u.length - other)
theorem lies_of {U u : List Nat} {p : Nat} (hp : p + u.length ≤ U.length) (h : ∀ j, j < u.length → U[p + j]? = u[j]?) : p ∈ liesIn U u := by
  refine mem_lies.mpr ⟨by omega, ?_⟩
  apply List.ext_getElem?
  intro j
  by_cases hj : j < u.length
  · rw [List.getElem?_take_of_lt hj, List.getElem?_drop]; exact h j hj
  · rw [List.getElem?_eq_none (by rw [List.length_take]; omega), List.getElem?_eq_none (by omega)]
theorem lies_get {U u : List Nat} {p : Nat} (h : p ∈ liesIn U u) : ∀ j, j < u.length → U[p + j]? = u[j]? := fun j hj => by
  have h' := (mem_lies.mp h).2
  have := congrArg (·[j]?) h'
  have this : ((U.drop p).take u.length)[j]? = u[j]? := this
  rw [List.getElem?_take_of_lt hj, List.getElem?_drop] at this
  exact this
theorem try_len {t u : List Nat} {one other : Nat} (h1 : one ≤ u.length) (h2 : other ≤ u.length) : (tryIn t u one other).length = one + t.length + other := by
  unfold tryIn
  rw [List.length_append, List.length_append, List.length_take, List.length_drop]
  omega
theorem try_mid {t u : List Nat} {one other i : Nat} (h1 : one ≤ u.length) (hi : i < t.length) : (tryIn t u one other)[one + i]? = t[i]? := by
  unfold tryIn
  have hl : (u.take one).length = one := by rw [List.length_take]; omega
  rw [List.getElem?_append_left (by rw [List.length_append, hl]; omega), List.getElem?_append_right (by omega), hl]
  congr 1; omega
theorem try_ahead {t u : List Nat} {one other i : Nat} (h1 : one ≤ u.length) (hi : i < one) : (tryIn t u one other)[i]? = u[i]? := by
  unfold tryIn
  have hl : (u.take one).length = one := by rw [List.length_take]; omega
  rw [List.append_assoc, List.getElem?_append_left (by omega), List.getElem?_take_of_lt hi]
theorem try_behind {t u : List Nat} {one other i : Nat} (h1 : one ≤ u.length) (h2 : other ≤ u.length) : (tryIn t u one other)[one + t.length + i]? = u[u.length - other + i]? := by
  unfold tryIn
  have hl : (u.take one).length = one := by rw [List.length_take]; omega
  rw [List.getElem?_append_right (by rw [List.length_append, hl]; omega), List.getElem?_drop, List.length_append, hl]
  congr 1; omega
theorem exists_least {P : Nat → Prop} (h : ∃ n, P n) : ∃ n, P n ∧ ∀ k, k < n → ¬ P k := by
  obtain ⟨n, hn⟩ := h
  induction n using Nat.strongRecOn with
  | ind n ih =>
    by_cases hk : ∃ k, k < n ∧ P k
    · obtain ⟨k, h1, h2⟩ := hk
      exact ih k h1 h2
    · exact ⟨n, hn, fun k h1 h2 => hk ⟨k, h1, h2⟩⟩
theorem try_to {t u : List Nat} {one other : Nat} {ahead behind : Bool} (u1 : 1 ≤ u.length) (t1 : 1 ≤ t.length) (h1 : one < u.length) (h2 : other < u.length) (ha : ahead = false → one = 0) (hb : behind = false → other = 0)
    (h : covers (tryIn t u one other) u = true) : Cov t u (loOf u ahead) (hiOf t u behind) := by
  intro i hi
  obtain ⟨p, hp, h3, h4⟩ := covers_iff.mp h (one + i) (by rw [try_len (by omega) (by omega)]; omega)
  have hin := lies_in hp u1
  rw [try_len (by omega) (by omega)] at hin
  refine ⟨(p : Int) - one, ?_, ?_, by omega, by omega, fun j hj h5 h6 => ?_⟩
  · unfold loOf
    cases ahead with
    | true => rw [if_pos rfl]; omega
    | false => rw [if_neg Bool.false_ne_true, ha rfl]; omega
  · unfold hiOf
    cases behind with
    | true => rw [if_pos rfl]; omega
    | false => rw [if_neg Bool.false_ne_true]; have := hb rfl; omega
  · rw [← try_mid (u := u) (one := one) (other := other) (by omega) hj]
    have := lies_get hp (one + j - p) (by omega)
    rw [show p + (one + j - p) = one + j by omega] at this
    rw [this]
    congr 1; omega
theorem try_of {t u : List Nat} {ahead behind : Bool} (u1 : 1 ≤ u.length) (t1 : 1 ≤ t.length) (h : Cov t u (loOf u ahead) (hiOf t u behind)) :
    ∃ one other, one < u.length ∧ other < u.length ∧ (ahead = false → one = 0) ∧ (behind = false → other = 0) ∧ covers (tryIn t u one other) u = true := by
  obtain ⟨one, ⟨ho1, ho2, ho3, ho4⟩, homin⟩ := exists_least (P := fun k => k < u.length ∧ loOf u ahead ≤ -(k : Int) ∧ -(k : Int) ≤ hiOf t u behind ∧ Agr t u (-(k : Int))) (by
    obtain ⟨p, h3, h4, h5, h6, h7⟩ := h 0 (by omega)
    refine ⟨(-p).toNat, by omega, by omega, by omega, ?_⟩
    rw [show -((-p).toNat : Int) = p by omega]; exact h7)
  have hoa : ahead = false → one = 0 := fun e => by
    rw [e] at ho2; unfold loOf at ho2; rw [if_neg Bool.false_ne_true] at ho2; omega
  have hmax : ∀ p : Int, loOf u ahead ≤ p → p ≤ hiOf t u behind → Agr t u p → p ≤ 0 → 0 < p + u.length → p ≤ -(one : Int) := fun p h3 h4 h5 h6 h7 => by
    by_cases hlt : (-p).toNat < one
    · exact absurd ⟨by omega, by rw [show -((-p).toNat : Int) = p by omega]; exact h3, by rw [show -((-p).toNat : Int) = p by omega]; exact h4, by rw [show -((-p).toNat : Int) = p by omega]; exact h5⟩ (homin _ hlt)
    · omega
  by_cases hA : (t.length : Int) ≤ -(one : Int) + u.length
  · -- the text lies in the word
    refine ⟨one, u.length - one - t.length, ho1, by omega, hoa, fun e => ?_, ?_⟩
    · rw [e] at ho3; unfold hiOf at ho3; rw [if_neg Bool.false_ne_true] at ho3; omega
    · have e : tryIn t u one (u.length - one - t.length) = u := by
        apply List.ext_getElem?
        intro x
        by_cases hx : x < one
        · exact try_ahead (by omega) hx
        · by_cases hx2 : x < one + t.length
          · have := try_mid (t := t) (u := u) (one := one) (other := u.length - one - t.length) (i := x - one) (by omega) (by omega)
            rw [show one + (x - one) = x by omega] at this
            rw [this, ho4 (x - one) (by omega) (by omega) (by omega)]
            congr 1; omega
          · have := try_behind (t := t) (u := u) (one := one) (other := u.length - one - t.length) (i := x - one - t.length) (by omega) (by omega)
            rw [show one + t.length + (x - one - t.length) = x by omega] at this
            rw [this]
            congr 1; omega
      rw [e]; exact covers_self
  · -- the nearest place behind
    obtain ⟨d, ⟨hd1, hd2, hd3, hd4⟩, hdmin⟩ := exists_least (P := fun k => k < u.length ∧ loOf u ahead ≤ (t.length : Int) - u.length + k ∧ (t.length : Int) - u.length + k ≤ hiOf t u behind ∧ Agr t u ((t.length : Int) - u.length + k)) (by
      obtain ⟨p, h3, h4, h5, h6, h7⟩ := h (t.length - 1) (by omega)
      refine ⟨(p + u.length - t.length).toNat, by omega, by omega, by omega, ?_⟩
      rw [show (t.length : Int) - u.length + ((p + u.length - t.length).toNat : Int) = p by omega]; exact h7)
    have hdb : behind = false → d = 0 := fun e => by
      rw [e] at hd3; unfold hiOf at hd3; rw [if_neg Bool.false_ne_true] at hd3; omega
    have hpos : (0 : Int) < (t.length : Int) - u.length + d := by
      by_cases hz : (0 : Int) < (t.length : Int) - u.length + d
      · exact hz
      · have := hmax _ hd2 hd3 hd4 (by omega) (by omega); omega
    refine ⟨one, d, ho1, hd1, hoa, hdb, ?_⟩
    have hlen := try_len (t := t) (u := u) (one := one) (other := d) (by omega) (by omega)
    have l0 : 0 ∈ liesIn (tryIn t u one d) u := lies_of (by omega) fun j hj => by
      rw [Nat.zero_add]
      by_cases hx : j < one
      · exact try_ahead (by omega) hx
      · have := try_mid (t := t) (u := u) (one := one) (other := d) (i := j - one) (by omega) (by omega)
        rw [show one + (j - one) = j by omega] at this
        rw [this, ho4 (j - one) (by omega) (by omega) (by omega)]
        congr 1; omega
    have l1 : one + (t.length + d - u.length) ∈ liesIn (tryIn t u one d) u := lies_of (by omega) fun j hj => by
      by_cases hx : j < u.length - d
      · have := try_mid (t := t) (u := u) (one := one) (other := d) (i := t.length + d - u.length + j) (by omega) (by omega)
        rw [show one + (t.length + d - u.length) + j = one + (t.length + d - u.length + j) by omega, this, hd4 (t.length + d - u.length + j) (by omega) (by omega) (by omega)]
        congr 1; omega
      · have := try_behind (t := t) (u := u) (one := one) (other := d) (i := j - (u.length - d)) (by omega) (by omega)
        rw [show one + (t.length + d - u.length) + j = one + t.length + (j - (u.length - d)) by omega, this]
        congr 1; omega
    refine covers_iff.mpr fun x hx => ?_
    rw [hlen] at hx
    by_cases hx1 : x < u.length
    · exact ⟨0, l0, by omega, by omega⟩
    · by_cases hx2 : one + (t.length + d - u.length) ≤ x
      · exact ⟨_, l1, hx2, by omega⟩
      · obtain ⟨p, h3, h4, h5, h6, h7⟩ := h (x - one) (by omega)
        have hp0 : 0 < p := by
          by_cases hz : 0 < p
          · exact hz
          · have := hmax p h3 h4 h7 (by omega) (by omega); omega
        have hpe : p + u.length < t.length := by
          by_cases hz : p + u.length < t.length
          · exact hz
          · have hge : d ≤ (p + u.length - t.length).toNat := by
              by_cases hlt : (p + u.length - t.length).toNat < d
              · exact absurd ⟨by omega, by rw [show (t.length : Int) - u.length + ((p + u.length - t.length).toNat : Int) = p by omega]; exact h3, by rw [show (t.length : Int) - u.length + ((p + u.length - t.length).toNat : Int) = p by omega]; exact h4, by rw [show (t.length : Int) - u.length + ((p + u.length - t.length).toNat : Int) = p by omega]; exact h7⟩ (hdmin _ hlt)
              · omega
            omega
        refine ⟨one + p.toNat, lies_of (by omega) fun j hj => ?_, by omega, by omega⟩
        have := try_mid (t := t) (u := u) (one := one) (other := d) (i := p.toNat + j) (by omega) (by omega)
        rw [show one + p.toNat + j = one + (p.toNat + j) by omega, this, h7 (p.toNat + j) (by omega) (by omega) (by omega)]
        congr 1; omega
def trialB (t u : List Nat) (ahead behind : Bool) : Bool := (List.range (1 + (u.length - 1) * ahead.toNat)).any fun one => (List.range (1 + (u.length - 1) * behind.toNat)).any fun other => covers (tryIn t u one other) u
theorem trial_rest {t u : List Nat} {ahead behind : Bool} (u1 : 1 ≤ u.length) (t1 : 1 ≤ t.length) : trialB t u ahead behind = restB t u (loOf u ahead) (hiOf t u behind) := by
  have key : trialB t u ahead behind = true ↔ restB t u (loOf u ahead) (hiOf t u behind) = true := by
    rw [restB_iff (lo_ge u1) (hi_lt u1)]
    unfold trialB
    rw [List.any_eq_true]
    constructor
    · rintro ⟨one, h1, h2⟩
      rw [List.any_eq_true] at h2
      obtain ⟨other, h3, h4⟩ := h2
      rw [List.mem_range] at h1 h3
      refine try_to u1 t1 ?_ ?_ (fun e => ?_) (fun e => ?_) h4
      · cases ahead <;> simp at h1 <;> omega
      · cases behind <;> simp at h3 <;> omega
      · rw [e] at h1; simp at h1; exact h1
      · rw [e] at h3; simp at h3; exact h3
    · intro h
      obtain ⟨one, other, h1, h2, h3, h4, h5⟩ := try_of u1 t1 h
      refine ⟨one, ?_, List.any_eq_true.mpr ⟨other, ?_, h5⟩⟩
      · rw [List.mem_range]; cases ahead with
        | true => simp; omega
        | false => rw [h3 rfl]; simp
      · rw [List.mem_range]; cases behind with
        | true => simp; omega
        | false => rw [h4 rfl]; simp
  cases h1 : trialB t u ahead behind <;> cases h2 : restB t u (loOf u ahead) (hiOf t u behind) <;> simp_all

end Ov

namespace Ov
open PySem L2
abbrev sCheckWord : Stmt := top 8
abbrev sCheckSome : Stmt := top 9
abbrev sCheckBoth : Stmt := top 13
abbrev sAgrees : Stmt := top 14
abbrev sAgreeing : Stmt := top 15
abbrev sFirstBare : Stmt := top 11
abbrev sNoneBare : Stmt := top 16
abbrev sBehind : Stmt := top 17
abbrev sAhead : Stmt := top 18
def spCheckWord : Sp := fun vs H Q _ => ∃ (a : Addr) (t : List Nat), vs = [.ref a] ∧ H a = some (.lst (t.map sg)) ∧ Low t ∧ 1 ≤ t.length ∧ Q .non H
def spCheckSome : Sp := fun vs H Q _ => ∃ (a : Addr) (t : List Nat), vs = [.ref a] ∧ H a = some (.lst (t.map sg)) ∧ 1 ≤ t.length ∧ Q .non H
def spCheckBoth : Sp := fun vs H Q _ => ∃ (a b : Addr) (t u : List Nat), vs = [.ref a, .ref b] ∧ H a = some (.lst (t.map sg)) ∧ H b = some (.lst (u.map sg)) ∧ Low t ∧ Low u ∧ 1 ≤ t.length ∧ 1 ≤ u.length ∧ Q .non H
def spAgrees : Sp := fun vs H Q _ => ∃ (a b : Addr) (t u : List Nat) (p : Int), vs = [.ref a, .ref b, .int p] ∧ H a = some (.lst (t.map sg)) ∧ H b = some (.lst (u.map sg)) ∧ Low t ∧ Low u ∧ 1 - (u.length : Int) ≤ p ∧ p < t.length ∧
  ∀ H', Same H H' → Q (.bl (agr t u p)) H'
def spAgreeing : Sp := fun vs H Q _ => ∃ (a b : Addr) (t u : List Nat) (lo hi : Int), vs = [.ref a, .ref b, .int lo, .int hi] ∧ H a = some (.lst (t.map sg)) ∧ H b = some (.lst (u.map sg)) ∧ Low t ∧ Low u ∧ t.length ≤ 900 ∧ u.length ≤ 900 ∧ 1 - (u.length : Int) ≤ lo ∧ hi < t.length ∧ lo ≤ t.length ∧ -900 ≤ hi ∧ (hi + 1 - lo).toNat ≤ 2000 ∧
  ∀ (r : Addr) (H' : Hp), H r = none → H' r = some (.lst ((agPl t u lo (hi + 1 - lo).toNat).map V.int)) → Same H H' → Q (.ref r) H'
def spFirstBare : Sp := fun vs H Q _ => ∃ (a : Addr) (ks : List Int) (m : Nat), vs = [.ref a, .int (m : Int)] ∧ H a = some (.lst (ks.map V.int)) ∧ Q (.int (fbI m 0 ks)) H
def spNoneBare : Sp := fun vs H Q _ => ∃ (a b c : Addr) (t u : List Nat) (ks : List Int), vs = [.ref a, .ref b, .ref c] ∧ H a = some (.lst (t.map sg)) ∧ H b = some (.lst (u.map sg)) ∧ H c = some (.lst (ks.map V.int)) ∧ Q (.bl (decide ((t.length : Int) ≤ fbI u.length 0 ks))) H
def spRest (ahead behind : Bool) : Sp := fun vs H Q _ => ∃ (a b : Addr) (t u : List Nat), vs = [.ref a, .ref b] ∧ H a = some (.lst (t.map sg)) ∧ H b = some (.lst (u.map sg)) ∧ Low t ∧ Low u ∧ 1 ≤ t.length ∧ 1 ≤ u.length ∧ t.length ≤ 900 ∧ u.length ≤ 900 ∧
  ∀ H', Same H H' → Q (.bl (restB t u (loOf u ahead) (hiOf t u behind))) H'
section
variable {P : Program} {w : World} {K : PySem.W.Frag} {mg : Str → Option Value} {base : Heap}
theorem scCheckWord : FnScope ["word"] ["word"] (defScope sCheckWord) := ⟨rfl, rfl, rfl, by decide +kernel, rfl, by decide +kernel, by decide +kernel⟩
theorem ok_check_word (M : Md K mg) (B : Bl mg) (F : FF K "check_word" sCheckWord) (Fcheck_signs : Fn P w K mg base CX0 "check_signs" 2 ["text"] spCheck) : Fn P w K mg base CX0 "check_word" 3 ["word"] spCheckWord := by
  refine fn_ok M F scCheckWord (fun _ _ _ _ _ _ => us1 fun _ => rfl) (fun vs H Q E h => ?_) (fun f cdv A outer s H vs Q E hr h => ?_)
  · obtain ⟨a, t, rfl, _⟩ := h; rfl
  · obtain ⟨a, t, rfl, ha, lt, t1, k⟩ := h
    refine ⟨_, (pss_cons (ps_if (pt_cmpR op_eq (pe_lenL B.len (pv 0)) pe_int (nomark _)) (pss_one ps_never) pss_nil)
      (pss_one (ps_expr (pe_fn Fcheck_signs hr pass0 (pa_cons (pv 0) pa_nil))))), ?_⟩
    refine ⟨_, rfl, a, _, rfl, SqL.of ha, rfl, _, rfl, ?_⟩
    rw [decide_eq_false (fun q => by have := V.int.inj q; rw [List.length_map] at this; omega)]
    exact iteF ⟨_, rfl, a, t, rfl, ha, lt, k⟩
theorem scCheckSome : FnScope ["text"] ["text"] (defScope sCheckSome) := ⟨rfl, rfl, rfl, by decide +kernel, rfl, by decide +kernel, by decide +kernel⟩
theorem ok_check_some (M : Md K mg) (B : Bl mg) (F : FF K "check_some" sCheckSome) : Fn P w K mg base CX0 "check_some" 1 ["text"] spCheckSome := by
  refine fn_ok M F scCheckSome (fun _ _ _ _ _ _ => us1 fun _ => rfl) (fun vs H Q E h => ?_) (fun f cdv A outer s H vs Q E hr h => ?_)
  · obtain ⟨a, t, rfl, _⟩ := h; rfl
  · obtain ⟨a, t, rfl, ha, t1, k⟩ := h
    refine ⟨_, (pss_one (ps_if (pt_cmpR op_eq (pe_lenL B.len (pv 0)) pe_int (nomark _)) (pss_one ps_never) pss_nil)), ?_⟩
    refine ⟨_, rfl, a, _, rfl, SqL.of ha, rfl, _, rfl, ?_⟩
    rw [decide_eq_false (fun q => by have := V.int.inj q; rw [List.length_map] at this; omega)]
    exact iteF k
theorem scCheckBoth : FnScope ["text", "word"] ["text", "word"] (defScope sCheckBoth) := ⟨rfl, rfl, rfl, by decide +kernel, rfl, by decide +kernel, by decide +kernel⟩
theorem ok_check_both (M : Md K mg) (B : Bl mg) (F : FF K "check_both" sCheckBoth) (Fcheck_signs : Fn P w K mg base CX0 "check_signs" 2 ["text"] spCheck) (Fcheck_word : Fn P w K mg base CX0 "check_word" 3 ["word"] spCheckWord) (Fcheck_some : Fn P w K mg base CX0 "check_some" 1 ["text"] spCheckSome) : Fn P w K mg base CX0 "check_both" 4 ["text", "word"] spCheckBoth := by
  refine fn_ok M F scCheckBoth (fun _ _ _ _ _ _ => us2 fun _ _ => rfl) (fun vs H Q E h => ?_) (fun f cdv A outer s H vs Q E hr h => ?_)
  · obtain ⟨a, b, t, u, rfl, _⟩ := h; rfl
  · obtain ⟨a, b, t, u, rfl, ha, hb, lt, lu, t1, u1, k⟩ := h
    refine ⟨_, (pss_cons (ps_expr (pe_fn Fcheck_word hr pass0 (pa_cons (pv 1) pa_nil)))
      (pss_cons (ps_expr (pe_fn Fcheck_signs hr pass0 (pa_cons (pv 0) pa_nil)))
      (pss_one (ps_expr (pe_fn Fcheck_some hr pass0 (pa_cons (pv 0) pa_nil)))))), ?_⟩
    exact ⟨_, rfl, b, u, rfl, hb, lu, u1, _, rfl, a, t, rfl, ha, lt, _, rfl, a, t, rfl, ha, t1, k⟩
theorem scAgrees : FnScope ["text", "word", "place", "begin", "end"] ["text", "word", "place"] (defScope sAgrees) := ⟨rfl, rfl, rfl, by decide +kernel, rfl, by decide +kernel, by decide +kernel⟩
theorem ok_agrees (M : Md K mg) (B : Bl mg) (F : FF K "agrees_at" sAgrees) : Fn P w K mg base CX0 "agrees_at" 1 ["text", "word", "place"] spAgrees := by
  refine fn_ok M F scAgrees (fun _ _ _ _ _ _ => us3 fun _ _ _ => rfl) (fun vs H Q E h => ?_) (fun f cdv A outer s H vs Q E hr h => ?_)
  · obtain ⟨a, b, t, u, p, rfl, _⟩ := h; rfl
  · obtain ⟨a, b, t, u, p, rfl, ha, hb, lt, lu, p1, p2, k⟩ := h
    refine ⟨_, (pss_cons (ps_set (i := 3) scAgrees.nd rfl (.inl rfl) (pe_max rfl B.max (pv 2) pe_int))
      (pss_cons (ps_set (i := 4) scAgrees.nd rfl (.inl rfl) (pe_min rfl B.min (pe_op op_add (pv 2) (pe_lenL B.len (pv 1))) (pe_lenL B.len (pv 0))))
      (pss_one (ps_ret (pe_cmpR (op_eqLS (by exact hr)) (pe_slice sl_list (pv 0) (po_some (pv 3)) (po_some (pv 4))) (pe_slice sl_list (pv 1) (po_some (pe_op op_sub (pv 3) (pv 2))) (po_some (pe_op op_sub (pv 4) (pv 2)))) (nomark _)))))), ?_⟩
    refine ⟨_, rfl, _, _, rfl, rfl, ?_⟩
    refine ⟨_, rfl, _, rfl, b, _, rfl, SqL.of hb, _, _, rfl, rfl, _, rfl, a, _, rfl, SqL.of ha, _, _, rfl, rfl, ?_⟩
    have b0 : 0 ≤ begI p ∧ p ≤ begI p ∧ (begI p = 0 ∨ begI p = p) := by unfold begI; split <;> omega
    have e0 : endI t u p ≤ t.length ∧ endI t u p ≤ p + u.length ∧ (endI t u p = t.length ∨ endI t u p = p + u.length) := by unfold endI; split <;> omega
    have be : begI p ≤ endI t u p := by omega
    have ee : (if ((t.map sg).length : Int) < p + ((u.map sg).length : Int) then ((t.map sg).length : Int) else p + ((u.map sg).length : Int)) = endI t u p := by
      rw [List.length_map, List.length_map]; rfl
    rw [ee]
    refine ⟨_, rfl, _, rfl, begI p, rfl, _, rfl, endI t u p, rfl, a, _, rfl, SqL.of ha, fun l1 hl1 => ?_⟩
    rw [cutV_cutL, cutL_map, cutL_both _ _ _ b0.1 be]
    have s1 := Same.upd (o := .lst (((t.drop (begI p).toNat).take ((endI t u p).toNat - (begI p).toNat)).map sg)) hl1
    refine ⟨_, rfl, _, rfl, _, rfl, _, _, rfl, rfl, begI p - p, rfl, _, rfl, _, rfl, _, _, rfl, rfl, endI t u p - p, rfl, b, _, rfl, SqL.of (s1 _ _ hb), fun l2 hl2 => ?_⟩
    rw [cutV_cutL, cutL_map, cutL_both _ _ _ (by omega) (by omega)]
    have s2 := Same.upd (o := .lst (((u.drop (begI p - p).toNat).take ((endI t u p - p).toNat - (begI p - p).toNat)).map sg)) hl2
    exact ⟨l1, l2, _, _, rfl, rfl, SqL.of (s2 _ _ upd_same), SqL.of upd_same, ((lt.drop _).take _).cp, ((lu.drop _).take _).cp, k _ (s1.trans s2)⟩
theorem agPl_step (t u : List Nat) (lo : Int) (i : Nat) : agPl t u lo (i + 1) = agPl t u lo i ++ (if agr t u (lo + i) = true then [lo + (i : Int)] else []) := by
  unfold agPl
  rw [List.range_succ, List.map_append, List.filter_append]
  congr 1
  by_cases h : agr t u (lo + i) = true <;> simp [h]
theorem agPl_len (t u : List Nat) (lo : Int) (i : Nat) : (agPl t u lo i).length ≤ i := by
  unfold agPl
  have := List.length_filter_le (agr t u) ((List.range i).map fun (i : Nat) => lo + (i : Int))
  simpa using this
theorem scAgreeing : FnScope ["text", "word", "first", "last"] ["text", "word", "first", "last"] (defScope sAgreeing) := ⟨rfl, rfl, rfl, by decide +kernel, rfl, by decide +kernel, by decide +kernel⟩
theorem ok_agreeing (M : Md K mg) (B : Bl mg) (F : FF K "agreeing_places" sAgreeing) (Fagrees_at : Fn P w K mg base CX0 "agrees_at" 1 ["text", "word", "place"] spAgrees) : Fn P w K mg base CX0 "agreeing_places" 2 ["text", "word", "first", "last"] spAgreeing := by
  refine fn_ok M F scAgreeing (fun _ _ _ _ _ _ => us4 fun _ _ _ _ => rfl) (fun vs H Q E h => ?_) (fun f cdv A outer s H vs Q E hr h => ?_)
  · obtain ⟨a, b, t, u, lo, hi, rfl, _⟩ := h; rfl
  · obtain ⟨a, b, t, u, lo, hi, rfl, ha, hb, lt, lu, tl, ul, l1, h1, l2, h2, hz, k⟩ := h
    refine ⟨_, (pss_one (ps_ret (pe_comp ["text", "word", "first", "last"] rfl (pi_range2 (by rfl) B.range (pa_cons (pv 2) (pa_cons (pe_op op_add (pv 3) pe_int) pa_nil))) (fun _ => by exact (pif_one (pt_val (pe_fn Fagrees_at hr pass0 (pa_cons (pv 0) (pa_cons (pv 1) (pa_cons (pv 4) pa_nil))))))) (fun _ => by exact (pv 4))))), ?_⟩
    refine ⟨_, rfl, _, rfl, _, _, rfl, rfl, lo, hi + 1, rfl, ⟨by omega, by omega, by omega, by omega⟩, fun D hD cb => ?_⟩
    refine comp_range (lo := lo) (n := (hi + 1 - lo).toNat) (fun i ys H2 => ys = (agPl t u lo i).map V.int ∧ Same H H2 ∧ H2 D = some (.lst ys)) (small5000 (by omega)) ?_ ?_ ?_ ?_
    · exact ⟨rfl, Same.upd hD, upd_same⟩
    · rintro i ys H2 ⟨rfl, _⟩
      rw [List.length_map]; exact agPl_len _ _ _ _
    · rintro i ys H2 hi' ⟨rfl, s2, hD2⟩
      refine ⟨_, rfl, _, rfl, _, rfl, a, b, t, u, lo + i, rfl, s2 _ _ ha, s2 _ _ hb, lt, lu, by omega, by omega, fun H3 s3 => ⟨_, rfl, ?_⟩⟩
      have hD3 := s3 _ _ hD2
      rw [agPl_step]
      refine ite2 (fun hc => ?_) (fun hc => ?_)
      · refine ⟨_, rfl, hD3, ?_, ?_, upd_same⟩
        · rw [if_pos hc, List.map_append]; rfl
        · intro b o e
          rw [upd_ne (ne_of_none e hD)]
          exact s3 _ _ (s2 b o e)
      · refine ⟨?_, s2.trans s3, hD3⟩
        rw [if_neg hc, List.append_nil]
    · rintro ys H2 ⟨rfl, s2, hD2⟩
      exact k D H2 hD hD2 s2
theorem scFirstBare : FnScope ["places", "many", "reach", "place"] ["places", "many"] (defScope sFirstBare) := ⟨rfl, rfl, rfl, by decide +kernel, rfl, by decide +kernel, by decide +kernel⟩
theorem intItem {ks : List Int} {i : Nat} {x : V} (h : (ks.map V.int)[i]? = some x) : ∃ k, ks[i]? = some k ∧ x = V.int k := by
  rw [List.getElem?_map] at h
  cases q : ks[i]? with
  | none => rw [q] at h; cases h
  | some k => rw [q] at h; exact ⟨k, rfl, (Option.some.inj h).symm⟩
theorem ok_first_bare (M : Md K mg) (B : Bl mg) (F : FF K "first_bare" sFirstBare) : Fn P w K mg base CX0 "first_bare" 1 ["places", "many"] spFirstBare := by
  refine fn_ok M F scFirstBare (fun _ _ _ _ _ _ => us2 fun _ _ => rfl) (fun vs H Q E h => ?_) (fun f cdv A outer s H vs Q E hr h => ?_)
  · obtain ⟨a, ks, m, rfl, _⟩ := h; rfl
  · obtain ⟨a, ks, m, rfl, ha, k⟩ := h
    refine ⟨_, (pss_cons (ps_set (i := 2) scFirstBare.nd rfl (.inl rfl) pe_int)
      (pss_cons (ps_for PassesOwn.never rfl (pi_list (pv 0)) (pg_name (i := 3) scFirstBare.nd rfl (.inl rfl))
      (pss_cons (ps_if (pt_cmpR op_gt (pv 3) (pv 2) (nomark _)) (pss_one (ps_ret (pv 2))) pss_nil)
      (pss_one (ps_set (i := 2) scFirstBare.nd rfl (.inl rfl) (pe_op op_add (pv 3) (pv 1))))))
      (pss_one (ps_ret (pv 2))))), ?_⟩
    refine ⟨_, rfl, a, rfl, ⟨_, SqL.of ha⟩, for_list (K := K) (a := a) (xs := ks.map V.int) (fun i σ H2 => H2 = H ∧ ∃ (R : Int) (v3 : Option V), σ = [some (.ref a), some (.int (m : Int)), some (.int R), v3] ∧ fbI m 0 ks = fbI m R (ks.drop i)) ⟨rfl, 0, none, rfl, rfl⟩ (fun i σ H2 _ h2 => by rw [h2.1]; exact SqL.of ha) ?_ ?_⟩
    · rintro i x σ H2 hx ⟨rfl, R, v3, rfl, e⟩
      obtain ⟨p, hp, rfl⟩ := intItem hx
      have ed : ks.drop i = p :: ks.drop (i + 1) := by
        obtain ⟨h1, h2⟩ := List.getElem?_eq_some_iff.mp hp
        rw [List.drop_eq_getElem_cons h1, h2]
      rw [ed] at e
      refine ⟨_, rfl, _, rfl, _, _, rfl, rfl, _, rfl, ?_⟩
      refine ite2 (fun hc => ?_) (fun hc => ?_)
      · have hc' : p > R := of_decide_eq_true hc
        refine ⟨_, rfl, ?_⟩
        have : fbI m 0 ks = R := by rw [e]; simp only [fbI]; rw [if_pos hc']
        rw [this] at k
        exact k
      · have hc' : ¬ p > R := nd0 hc
        refine ⟨_, rfl, _, rfl, _, _, rfl, rfl, rfl, p + m, some (.int p), rfl, ?_⟩
        rw [e]; simp only [fbI]; rw [if_neg hc']
    · rintro σ H2 ⟨rfl, R, v3, rfl, e⟩
      rw [List.length_map, List.drop_length] at e
      simp only [fbI] at e
      rw [e] at k
      exact ⟨_, rfl, k⟩
theorem scNoneBare : FnScope ["text", "word", "places"] ["text", "word", "places"] (defScope sNoneBare) := ⟨rfl, rfl, rfl, by decide +kernel, rfl, by decide +kernel, by decide +kernel⟩
theorem ok_none_bare (M : Md K mg) (B : Bl mg) (F : FF K "leaves_none_bare" sNoneBare) (Ffirst_bare : Fn P w K mg base CX0 "first_bare" 1 ["places", "many"] spFirstBare) : Fn P w K mg base CX0 "leaves_none_bare" 2 ["text", "word", "places"] spNoneBare := by
  refine fn_ok M F scNoneBare (fun _ _ _ _ _ _ => us3 fun _ _ _ => rfl) (fun vs H Q E h => ?_) (fun f cdv A outer s H vs Q E hr h => ?_)
  · obtain ⟨a, b, c, t, u, ks, rfl, _⟩ := h; rfl
  · obtain ⟨a, b, c, t, u, ks, rfl, ha, hb, hc, k⟩ := h
    refine ⟨_, (pss_one (ps_ret (pe_cmpR op_ge (pe_fn Ffirst_bare hr pass0 (pa_cons (pv 2) (pa_cons (pe_lenL B.len (pv 1)) pa_nil))) (pe_lenL B.len (pv 0)) (nomark _)))), ?_⟩
    refine ⟨_, rfl, _, rfl, b, _, rfl, SqL.of hb, c, ks, u.length, (by rw [List.length_map]; rfl), hc, _, rfl, a, _, rfl, SqL.of ha, _, _, rfl, rfl, ?_⟩
    rw [List.length_map]
    exact k
theorem scBehind : FnScope ["text", "word"] ["text", "word"] (defScope sBehind) := ⟨rfl, rfl, rfl, by decide +kernel, rfl, by decide +kernel, by decide +kernel⟩
theorem ok_behind (M : Md K mg) (B : Bl mg) (F : FF K "rest_behind" sBehind) (Fcheck_both : Fn P w K mg base CX0 "check_both" 4 ["text", "word"] spCheckBoth) (Fleaves_none_bare : Fn P w K mg base CX0 "leaves_none_bare" 2 ["text", "word", "places"] spNoneBare) (Fagreeing_places : Fn P w K mg base CX0 "agreeing_places" 2 ["text", "word", "first", "last"] spAgreeing) : Fn P w K mg base CX0 "rest_behind" 5 ["text", "word"] (spRest false true) := by
  refine fn_ok M F scBehind (fun _ _ _ _ _ _ => us2 fun _ _ => rfl) (fun vs H Q E h => ?_) (fun f cdv A outer s H vs Q E hr h => ?_)
  · obtain ⟨a, b, t, u, rfl, _⟩ := h; rfl
  · obtain ⟨a, b, t, u, rfl, ha, hb, lt, lu, t1, u1, tl, ul, k⟩ := h
    refine ⟨_, (pss_cons (ps_expr (pe_fn Fcheck_both hr pass0 (pa_cons (pv 0) (pa_cons (pv 1) pa_nil))))
      (pss_one (ps_ret (pe_fn Fleaves_none_bare hr pass0 (pa_cons (pv 0) (pa_cons (pv 1) (pa_cons (pe_fn Fagreeing_places hr pass0 (pa_cons (pv 0) (pa_cons (pv 1) (pa_cons pe_int (pa_cons (pe_op op_sub (pe_lenL B.len (pv 0)) pe_int) pa_nil))))) pa_nil))))))), ?_⟩
    refine ⟨_, rfl, _, rfl, a, b, t, u, rfl, ha, hb, lt, lu, t1, u1, ?_⟩
    refine ⟨_, rfl, _, rfl, _, rfl, _, rfl, _, rfl, a, _, rfl, SqL.of ha, _, _, rfl, rfl, a, b, t, u, 0, (t.length : Int) - 1, (by rw [List.length_map]; rfl), ha, hb, lt, lu, tl, ul, by omega, by omega, by omega, by omega, by omega, fun r H' hr0 hr1 s1 => ?_⟩
    exact ⟨a, b, r, t, u, _, rfl, s1 _ _ ha, s1 _ _ hb, hr1, k H' s1⟩
theorem scAhead : FnScope ["text", "word"] ["text", "word"] (defScope sAhead) := ⟨rfl, rfl, rfl, by decide +kernel, rfl, by decide +kernel, by decide +kernel⟩
theorem ok_ahead (M : Md K mg) (B : Bl mg) (F : FF K "rest_ahead" sAhead) (Fcheck_both : Fn P w K mg base CX0 "check_both" 4 ["text", "word"] spCheckBoth) (Fleaves_none_bare : Fn P w K mg base CX0 "leaves_none_bare" 2 ["text", "word", "places"] spNoneBare) (Fagreeing_places : Fn P w K mg base CX0 "agreeing_places" 2 ["text", "word", "first", "last"] spAgreeing) : Fn P w K mg base CX0 "rest_ahead" 5 ["text", "word"] (spRest true false) := by
  refine fn_ok M F scAhead (fun _ _ _ _ _ _ => us2 fun _ _ => rfl) (fun vs H Q E h => ?_) (fun f cdv A outer s H vs Q E hr h => ?_)
  · obtain ⟨a, b, t, u, rfl, _⟩ := h; rfl
  · obtain ⟨a, b, t, u, rfl, ha, hb, lt, lu, t1, u1, tl, ul, k⟩ := h
    refine ⟨_, (pss_cons (ps_expr (pe_fn Fcheck_both hr pass0 (pa_cons (pv 0) (pa_cons (pv 1) pa_nil))))
      (pss_one (ps_ret (pe_fn Fleaves_none_bare hr pass0 (pa_cons (pv 0) (pa_cons (pv 1) (pa_cons (pe_fn Fagreeing_places hr pass0 (pa_cons (pv 0) (pa_cons (pv 1) (pa_cons (pe_op op_sub pe_int (pe_lenL B.len (pv 1))) (pa_cons (pe_op op_sub (pe_lenL B.len (pv 0)) (pe_lenL B.len (pv 1))) pa_nil))))) pa_nil))))))), ?_⟩
    refine ⟨_, rfl, _, rfl, a, b, t, u, rfl, ha, hb, lt, lu, t1, u1, ?_⟩
    refine ⟨_, rfl, _, rfl, _, rfl, _, rfl, _, rfl, b, _, rfl, SqL.of hb, _, _, rfl, rfl, _, rfl, a, _, rfl, SqL.of ha, _, rfl, b, _, rfl, SqL.of hb, _, _, rfl, rfl, a, b, t, u, 1 - (u.length : Int), (t.length : Int) - u.length, (by rw [List.length_map, List.length_map]; rfl), ha, hb, lt, lu, tl, ul, by omega, by omega, by omega, by omega, by omega, fun r H' hr0 hr1 s1 => ?_⟩
    exact ⟨a, b, r, t, u, _, rfl, s1 _ _ ha, s1 _ _ hb, hr1, k H' s1⟩
end

end Ov

namespace Ov
open PySem L2
abbrev sIsCov : Stmt := top 31
abbrev sTrial : Stmt := top 32
abbrev sRest : Stmt := top 33
def spIsCov : Sp := fun vs H Q _ => ∃ (a b : Addr) (t u : List Nat), vs = [.ref a, .ref b] ∧ H a = some (.lst (t.map sg)) ∧ H b = some (.lst (u.map sg)) ∧ Low t ∧ Low u ∧ 1 ≤ u.length ∧ t.length ≤ 900 ∧ u.length ≤ 900 ∧
  ∀ H', Same H H' → Q (.bl (covers t u)) H'
def spRestL : Sp := fun vs H Q _ => ∃ (a b : Addr) (t u : List Nat) (ahead behind : Bool), vs = [.ref a, .ref b, .bl ahead, .bl behind] ∧ H a = some (.lst (t.map sg)) ∧ H b = some (.lst (u.map sg)) ∧ Low t ∧ Low u ∧ 1 ≤ t.length ∧ 1 ≤ u.length ∧ t.length ≤ 300 ∧ u.length ≤ 300 ∧
  ∀ H', Same H H' → Q (.bl (restB t u (loOf u ahead) (hiOf t u behind))) H'
section
variable {P : Program} {w : World} {K : PySem.W.Frag} {mg : Str → Option Value} {base : Heap}
theorem scIsCov : FnScope ["text", "word", "behind", "place"] ["text", "word"] (defScope sIsCov) := ⟨rfl, rfl, rfl, by decide +kernel, rfl, by decide +kernel, by decide +kernel⟩
theorem ok_is_cov (M : Md K mg) (B : Bl mg) (F : FF K "_law_is_covered" sIsCov) : Fn P w K mg base CX0 "_law_is_covered" 1 ["text", "word"] spIsCov := by
  refine fn_ok M F scIsCov (fun _ _ _ _ _ _ => us2 fun _ _ => rfl) (fun vs H Q E h => ?_) (fun f cdv A outer s H vs Q E hr h => ?_)
  · obtain ⟨a, b, t, u, rfl, _⟩ := h; rfl
  · obtain ⟨a, b, t, u, rfl, ha, hb, lt, lu, u1, tl, ul, k⟩ := h
    refine ⟨_, (pss_cons (ps_set (i := 2) scIsCov.nd rfl (.inl rfl) pe_int)
      (pss_cons (ps_for PassesOwn.never rfl (pi_range1 (by rfl) B.range (pa_cons (pe_op op_add (pe_op op_sub (pe_lenL B.len (pv 0)) (pe_lenL B.len (pv 1))) pe_int) pa_nil)) (pg_name (i := 3) scIsCov.nd rfl (.inl rfl))
      (pss_one (ps_if (PW.pt (pw_and (pt_cmpR op_le (pv 3) (pv 2) (nomark _)) (pw_and1 (pt_cmpR (op_eqLS (by exact hr)) (pe_slice sl_list (pv 0) (po_some (pv 3)) (po_some (pe_op op_add (pv 3) (pe_lenL B.len (pv 1))))) (pv 1) (nomark _))))) (pss_one (ps_set (i := 2) scIsCov.nd rfl (.inl rfl) (pe_op op_add (pv 3) (pe_lenL B.len (pv 1))))) pss_nil)))
      (pss_one (ps_ret (pe_cmpR op_ge (pv 2) (pe_lenL B.len (pv 0)) (nomark _)))))), ?_⟩
    refine ⟨_, rfl, a, _, rfl, SqL.of ha, _, rfl, b, _, rfl, SqL.of hb, _, _, rfl, rfl, _, _, rfl, rfl, _, rfl, by rw [List.length_map, List.length_map]; omega, by rw [List.length_map, List.length_map]; omega, ?_⟩
    rw [List.length_map, List.length_map, show ((t.length : Int) - (u.length : Int) + 1).toNat = t.length + 1 - u.length by omega]
    refine for_range (lo := 0) (n := t.length + 1 - u.length) (fun j σ H3 => ∃ v3, σ = [some (.ref a), some (.ref b), some (.int (rch u.length 0 ((List.range j).filter fun p => decide ((t.drop p).take u.length = u)) : Nat)), v3] ∧ Same H H3) ?_ ?_ ?_
    · exact ⟨none, rfl, Same.refl _⟩
    · rintro j σ H3 hj ⟨v3, rfl, s3⟩
      have stp := lies_step t u j
      generalize hR : rch u.length 0 ((List.range j).filter fun p => decide ((t.drop p).take u.length = u)) = R
      refine ⟨_, rfl, _, rfl, _, _, rfl, rfl, _, rfl, ?_⟩
      refine ite2 (fun hc => ?_) (fun hc => ?_)
      · have hc' : j ≤ R := by have := of_decide_eq_true hc; omega
        refine ⟨_, rfl, _, rfl, _, rfl, _, rfl, _, rfl, b, _, rfl, SqL.of (s3 _ _ hb), _, _, rfl, rfl, _, rfl, a, _, rfl, SqL.of (s3 _ _ ha), fun p1 hp1 => ?_⟩
        rw [List.length_map, cutV_cutL, cutL_map, cutL_both _ _ _ (by omega) (by omega), show (0 + (j : Int)).toNat = j by omega, show (0 + (j : Int) + (u.length : Int)).toNat - j = u.length by omega]
        have s4 := s3.trans (Same.upd (o := .lst (((t.drop j).take u.length).map sg)) hp1)
        refine ⟨_, rfl, p1, b, (t.drop j).take u.length, u, rfl, rfl, SqL.of upd_same, SqL.of (s4 _ _ hb), ((lt.drop _).take _).cp, lu.cp, _, rfl, ?_⟩
        refine ite2 (fun hd => ?_) (fun hd => ?_)
        · have hd' : (t.drop j).take u.length = u := by simpa using hd
          refine ⟨_, rfl, _, rfl, b, _, rfl, SqL.of (s4 _ _ hb), _, _, rfl, rfl, some (.int (0 + (j : Int))), ?_, s4⟩
          rw [stp, if_pos hd', rch_snoc, hR, if_pos hc', List.length_map, show ((j + u.length : Nat) : Int) = 0 + (j : Int) + (u.length : Int) by omega]
          rfl
        · have hd' : ¬ (t.drop j).take u.length = u := by simpa using hd
          refine ⟨some (.int (0 + (j : Int))), ?_, s4⟩
          rw [stp, if_neg hd', List.append_nil, hR]
          rfl
      · have hc' : ¬ j ≤ R := by have := nd0 hc; omega
        refine iteF ⟨some (.int (0 + (j : Int))), ?_, s3⟩
        rw [stp]
        by_cases hd : (t.drop j).take u.length = u
        · rw [if_pos hd, rch_snoc, hR, if_neg hc']; rfl
        · rw [if_neg hd, List.append_nil, hR]; rfl
    · rintro σ H3 ⟨v3, rfl, s3⟩
      have eR := rch_bare (t := t) u1
      unfold liesIn at eR
      rw [eR]
      refine ⟨_, rfl, _, rfl, a, _, rfl, SqL.of (s3 _ _ ha), _, _, rfl, rfl, ?_⟩
      have := k H3 s3
      unfold covers at this
      have hle := bareOf_le t.length u.length (liesIn t u)
      have e : decide ((bareOf t.length u.length (liesIn t u) : Int) ≥ ((t.map sg).length : Int)) = decide (bareOf t.length u.length (liesIn t u) = t.length) := by
        apply decide_eq_decide.mpr
        rw [List.length_map]
        constructor
        · intro h; omega
        · intro h; omega
      show Q (V.bl (decide ((bareOf t.length u.length (liesIn t u) : Int) ≥ ((t.map sg).length : Int)))) H3
      rw [e]
      exact this
theorem scTrial : FnScope ["text", "word", "ahead", "behind", "one", "other", "end"] ["text", "word", "ahead", "behind"] (defScope sTrial) := ⟨rfl, rfl, rfl, by decide +kernel, rfl, by decide +kernel, by decide +kernel⟩
theorem any_snoc (f : Nat → Bool) (i : Nat) : (List.range (i + 1)).any f = ((List.range i).any f || f i) := by
  rw [List.range_succ, List.any_append]; simp
theorem ok_trial (M : Md K mg) (B : Bl mg) (F : FF K "_law_by_trial" sTrial) (F_law_is_covered : Fn P w K mg base CX0 "_law_is_covered" 1 ["text", "word"] spIsCov) : Fn P w K mg base CX0 "_law_by_trial" 2 ["text", "word", "ahead", "behind"] spRestL := by
  refine fn_ok M F scTrial (fun _ _ _ _ _ _ => us4 fun _ _ _ _ => rfl) (fun vs H Q E h => ?_) (fun f cdv A outer s H vs Q E hr h => ?_)
  · obtain ⟨a, b, t, u, ahead, behind, rfl, _⟩ := h; rfl
  · obtain ⟨a, b, t, u, ahead, behind, rfl, ha, hb, lt, lu, t1, u1, tl, ul, k⟩ := h
    refine ⟨_, (pss_cons (ps_for PassesOwn.never rfl (pi_range1 (by rfl) B.range (pa_cons (pe_op op_add pe_int (pe_op op_mul (pe_op op_sub (pe_lenL B.len (pv 1)) pe_int) (pe_intB B.int (pv 2)))) pa_nil)) (pg_name (i := 4) scTrial.nd rfl (.inl rfl))
      (pss_one (ps_for PassesOwn.never rfl (pi_range1 (by rfl) B.range (pa_cons (pe_op op_add pe_int (pe_op op_mul (pe_op op_sub (pe_lenL B.len (pv 1)) pe_int) (pe_intB B.int (pv 3)))) pa_nil)) (pg_name (i := 5) scTrial.nd rfl (.inl rfl))
      (pss_cons (ps_set (i := 6) scTrial.nd rfl (.inl rfl) (pe_slice sl_list (pv 1) (po_some (pe_op op_sub (pe_lenL B.len (pv 1)) (pv 5))) po_none))
      (pss_one (ps_if (pt_val (pe_fn F_law_is_covered hr pass0 (pa_cons (pe_op op_cat (pe_op op_cat (pe_slice sl_list (pv 1) po_none (po_some (pv 4))) (pv 0)) (pv 6)) (pa_cons (pv 1) pa_nil)))) (pss_one (ps_ret pe_bl)) pss_nil))))))
      (pss_one (ps_ret pe_bl))), ?_⟩
    rw [← trial_rest u1 t1] at k
    have en : ∀ c : Bool, (1 + (((u.map sg).length : Int) - 1) * (if c then 1 else 0)).toNat = 1 + (u.length - 1) * c.toNat := fun c => by
      rw [List.length_map]
      cases c with
      | true => simp; omega
      | false => simp
    have eb : ∀ c : Bool, 0 ≤ 1 + (((u.map sg).length : Int) - 1) * (if c then 1 else 0) ∧ 1 + (((u.map sg).length : Int) - 1) * (if c then 1 else 0) ≤ 300 := fun c => by
      rw [List.length_map]
      cases c with
      | true => simp; omega
      | false => simp
    refine ⟨_, rfl, b, _, rfl, SqL.of hb, _, _, rfl, rfl, _, rfl, ahead, rfl, _, _, rfl, rfl, .inl ⟨by rw [List.length_map]; omega, by rw [List.length_map]; omega⟩, _, _, rfl, rfl, _, rfl, ?_, ?_, ?_⟩
    · have := eb ahead; cases ahead <;> simp at this ⊢ <;> omega
    · have := eb ahead; cases ahead <;> simp at this ⊢ <;> omega
    refine for_range (lo := 0) (n := (1 + (((u.map sg).length : Int) - 1) * (if ahead then 1 else 0)).toNat) (fun i σ H2 => Same H H2 ∧ (∃ v4 v5 v6, σ = [some (.ref a), some (.ref b), some (.bl ahead), some (.bl behind), v4, v5, v6]) ∧ ((List.range i).any fun one => (List.range (1 + (u.length - 1) * behind.toNat)).any fun other => covers (tryIn t u one other) u) = false) ?_ ?_ ?_
    · exact ⟨Same.refl _, ⟨none, none, none, rfl⟩, rfl⟩
    · rintro i σ H2 hi ⟨s2, ⟨v4, v5, v6, rfl⟩, none1⟩
      rw [en] at hi
      have hiu : i < u.length := by cases ahead <;> simp at hi <;> omega
      refine ⟨_, rfl, b, _, rfl, SqL.of (s2 _ _ hb), _, _, rfl, rfl, _, rfl, behind, rfl, _, _, rfl, rfl, .inl ⟨by rw [List.length_map]; omega, by rw [List.length_map]; omega⟩, _, _, rfl, rfl, _, rfl, ?_, ?_, ?_⟩
      · have := eb behind; cases behind <;> simp at this ⊢ <;> omega
      · have := eb behind; cases behind <;> simp at this ⊢ <;> omega
      refine for_range (lo := 0) (n := (1 + (((u.map sg).length : Int) - 1) * (if behind then 1 else 0)).toNat) (fun j σ H3 => Same H H3 ∧ (∃ v5 v6, σ = [some (.ref a), some (.ref b), some (.bl ahead), some (.bl behind), some (.int (0 + (i : Int))), v5, v6]) ∧ ((List.range j).any fun other => covers (tryIn t u i other) u) = false) ?_ ?_ ?_
      · exact ⟨s2, ⟨_, _, rfl⟩, rfl⟩
      · rintro j σ H3 hj ⟨s3, ⟨v5, v6, rfl⟩, none2⟩
        rw [en] at hj
        have hju : j < u.length := by cases behind <;> simp at hj <;> omega
        refine ⟨_, rfl, _, rfl, b, _, rfl, SqL.of (s3 _ _ hb), _, rfl, _, _, rfl, rfl, _, rfl, b, _, rfl, SqL.of (s3 _ _ hb), fun l1 hl1 => ?_⟩
        rw [List.length_map, cut_lo (by omega), show ((u.length : Int) - (0 + (j : Int))).toNat = u.length - j by omega]
        have s4 := Same.upd (o := .lst ((u.drop (u.length - j)).map sg)) hl1
        refine ⟨_, rfl, _, rfl, _, rfl, b, _, rfl, SqL.of (s4 _ _ (s3 _ _ hb)), fun l2 hl2 => ?_⟩
        rw [cut_hi (by omega), show (0 + (i : Int)).toNat = i by omega]
        have s5 := Same.upd (o := .lst ((u.take i).map sg)) hl2
        refine ⟨_, rfl, cat_sg upd_same (s5 _ _ (s4 _ _ (s3 _ _ ha))) (by rw [List.length_take]; omega) fun l3 hl3 => ?_⟩
        have s6 := Same.upd (o := .lst ((u.take i ++ t).map sg)) hl3
        refine ⟨_, rfl, cat_sg upd_same (s6 _ _ (s5 _ _ upd_same)) (by rw [List.length_append, List.length_take, List.length_drop]; omega) fun l4 hl4 => ?_⟩
        have s7 := Same.upd (o := .lst ((u.take i ++ t ++ u.drop (u.length - j)).map sg)) hl4
        have s37 := ((s4.trans s5).trans s6).trans s7
        have hlen := try_len (t := t) (u := u) (one := i) (other := j) (by omega) (by omega)
        refine ⟨_, rfl, l4, b, tryIn t u i j, u, rfl, upd_same, s37 _ _ (s3 _ _ hb), ((lu.take _).app lt).app (lu.drop _), lu, u1, by rw [hlen]; omega, by omega, fun H8 s8 => ⟨_, rfl, ?_⟩⟩
        have s08 := (s3.trans s37).trans s8
        refine ite2 (fun hc => ?_) (fun hc => ?_)
        · have : trialB t u ahead behind = true := by
            unfold trialB
            rw [List.any_eq_true]
            exact ⟨i, by rw [List.mem_range]; exact hi, List.any_eq_true.mpr ⟨j, by rw [List.mem_range]; exact hj, hc⟩⟩
          rw [this] at k
          exact k H8 s08
        · refine ⟨s08, ⟨_, _, rfl⟩, ?_⟩
          rw [any_snoc, none2]
          simpa using hc
      · rintro σ H3 ⟨s3, ⟨v5, v6, rfl⟩, none2⟩
        rw [en] at none2
        refine ⟨s3, ⟨_, _, _, rfl⟩, ?_⟩
        rw [any_snoc, none1, none2]; rfl
    · rintro σ H2 ⟨s2, ⟨v4, v5, v6, rfl⟩, none1⟩
      rw [en] at none1
      have : trialB t u ahead behind = false := none1
      rw [this] at k
      exact k H2 s2
end

end Ov

namespace Ov
open PySem L2
theorem own_iff {t u : List Nat} {p : Nat} (hp : p < t.length) : (t.drop p).take u.length = u.take ((t.drop p).take u.length).length ↔ Agr t u (p : Int) := by
  have hl : ((t.drop p).take u.length).length = min u.length (t.length - p) := by rw [List.length_take, List.length_drop]
  rw [hl]
  constructor
  · intro h i hi h1 h2
    have := congrArg (·[i - p]?) h
    have this : ((t.drop p).take u.length)[i - p]? = (u.take (min u.length (t.length - p)))[i - p]? := this
    rw [List.getElem?_take_of_lt (by omega), List.getElem?_take_of_lt (by omega), List.getElem?_drop, show p + (i - p) = i by omega] at this
    rw [this]; congr 1; omega
  · intro h
    apply List.ext_getElem?
    intro j
    by_cases hj : j < min u.length (t.length - p)
    · rw [List.getElem?_take_of_lt (by omega), List.getElem?_take_of_lt hj, List.getElem?_drop, h (p + j) (by omega) (by omega) (by omega)]
      congr 1; omega
    · rw [List.getElem?_eq_none (by rw [hl]; omega), List.getElem?_eq_none (by rw [List.length_take]; omega)]
theorem ahead_iff {t u : List Nat} {one : Nat} (h1 : one < u.length) : (u.drop one).take t.length = t.take (u.length - one) ↔ Agr t u (-(one : Int)) := by
  constructor
  · intro h i hi h3 h4
    have := congrArg (·[i]?) h
    have this : ((u.drop one).take t.length)[i]? = (t.take (u.length - one))[i]? := this
    rw [List.getElem?_take_of_lt hi, List.getElem?_take_of_lt (by omega), List.getElem?_drop] at this
    rw [← this]; congr 1; omega
  · intro h
    apply List.ext_getElem?
    intro j
    by_cases hj : j < t.length
    · by_cases hj2 : j < u.length - one
      · rw [List.getElem?_take_of_lt hj, List.getElem?_take_of_lt hj2, List.getElem?_drop, h j hj (by omega) (by omega)]
        congr 1; omega
      · rw [List.getElem?_eq_none (by rw [List.length_take, List.length_drop]; omega), List.getElem?_eq_none (by rw [List.length_take]; omega)]
    · rw [List.getElem?_eq_none (by rw [List.length_take]; omega), List.getElem?_eq_none (by rw [List.length_take]; omega)]
/-- a place of which the law's second walk takes -/
def fpos (t u : List Nat) (behind : Bool) (p : Nat) : Bool := decide ((t.drop p).take u.length = u.take ((t.drop p).take u.length).length) && (behind || decide (((t.drop p).take u.length).length = u.length))
def Valid (t u : List Nat) (behind : Bool) (one : Nat) : Prop := -(one : Int) ≤ hiOf t u behind ∧ Agr t u (-(one : Int))
theorem rest_final {t u : List Nat} {ahead behind : Bool} {d : Nat} (u1 : 1 ≤ u.length) (ha : ∀ i, i < (u.length - 1) * ahead.toNat → Valid t u behind (i + 1) → u.length - (i + 1) ≤ d)
    (hb : d = 0 ∨ ∃ i, i < (u.length - 1) * ahead.toNat ∧ Valid t u behind (i + 1) ∧ d = u.length - (i + 1)) :
    decide (t.length ≤ rch u.length d ((List.range t.length).filter (fpos t u behind))) = restB t u (loOf u ahead) (hiOf t u behind) := by
  have hs : ((List.range t.length).filter (fpos t u behind)).Pairwise (· < ·) := List.Pairwise.filter _ List.pairwise_lt_range
  have hd : d < u.length := by rcases hb with h | ⟨i, h1, _, h2⟩ <;> omega
  have fp : ∀ p, p < t.length → (fpos t u behind p = true ↔ Agr t u (p : Int) ∧ (p : Int) ≤ hiOf t u behind) := fun p hp => by
    unfold fpos
    rw [Bool.and_eq_true, Bool.or_eq_true, decide_eq_true_eq, decide_eq_true_eq, own_iff hp, List.length_take, List.length_drop]
    unfold hiOf
    cases behind with
    | true => simp; omega
    | false => simp; omega
  have key : t.length ≤ rch u.length d ((List.range t.length).filter (fpos t u behind)) ↔ Cov t u (loOf u ahead) (hiOf t u behind) := by
    rw [rch_fb hs, fb_cov hs fun p hp => ?_]
    · constructor
      · intro h i hi
        by_cases hid : d ≤ i
        · obtain ⟨p, hp, h1, h2⟩ := h i hid hi
          have hp' := List.mem_filter.mp hp
          have hpn : p < t.length := by simpa using hp'.1
          obtain ⟨h3, h4⟩ := (fp p hpn).mp hp'.2
          refine ⟨p, ?_, h4, by omega, by omega, h3⟩
          unfold loOf; split <;> omega
        · rcases hb with h0 | ⟨j, h1, ⟨h2, h3⟩, h4⟩
          · omega
          · refine ⟨-((j + 1 : Nat) : Int), ?_, h2, by omega, by omega, h3⟩
            cases ahead with
            | true => simp at h1; show 1 - (u.length : Int) ≤ _; omega
            | false => simp at h1
      · intro h i h1 h2
        obtain ⟨p, h3, h4, h5, h6, h7⟩ := h i h2
        by_cases hp : 0 ≤ p
        · have hpn : p.toNat < t.length := by omega
          have e : (p.toNat : Int) = p := by omega
          exact ⟨p.toNat, List.mem_filter.mpr ⟨by simpa using hpn, (fp _ hpn).mpr ⟨by rw [e]; exact h7, by rw [e]; exact h4⟩⟩, by omega, by omega⟩
        · exfalso
          cases ahead with
          | false => unfold loOf at h3; rw [if_neg Bool.false_ne_true] at h3; omega
          | true =>
            unfold loOf at h3; rw [if_pos rfl] at h3
            have e : -(((-p).toNat - 1 + 1 : Nat) : Int) = p := by omega
            have := ha ((-p).toNat - 1) (by simp; omega) ⟨by rw [e]; exact h4, by rw [e]; exact h7⟩
            omega
    · have hp' := List.mem_filter.mp hp
      have hpn : p < t.length := by simpa using hp'.1
      exact ⟨hpn, by omega⟩
  have key2 := restB_iff (t := t) (u := u) (lo := loOf u ahead) (hi := hiOf t u behind) (lo_ge u1) (hi_lt u1)
  by_cases hc : Cov t u (loOf u ahead) (hiOf t u behind)
  · rw [key2.mpr hc, decide_eq_true (key.mpr hc)]
  · have h1 : restB t u (loOf u ahead) (hiOf t u behind) = false := by
      cases q : restB t u (loOf u ahead) (hiOf t u behind) with
      | false => rfl
      | true => exact absurd (key2.mp q) hc
    rw [h1, decide_eq_false fun q => hc (key.mp q)]
section
variable {P : Program} {w : World} {K : PySem.W.Frag} {mg : Str → Option Value} {base : Heap}
theorem scRest : FnScope ["text", "word", "ahead", "behind", "done", "one", "own", "place", "near"] ["text", "word", "ahead", "behind"] (defScope sRest) := ⟨rfl, rfl, rfl, by decide +kernel, rfl, by decide +kernel, by decide +kernel⟩
theorem ok_rest (M : Md K mg) (B : Bl mg) (F : FF K "_law_rest" sRest) : Fn P w K mg base CX0 "_law_rest" 1 ["text", "word", "ahead", "behind"] spRestL := by
  refine fn_ok M F scRest (fun _ _ _ _ _ _ => us4 fun _ _ _ _ => rfl) (fun vs H Q E h => ?_) (fun f cdv A outer s H vs Q E hr h => ?_)
  · obtain ⟨a, b, t, u, ahead, behind, rfl, _⟩ := h; rfl
  · obtain ⟨a, b, t, u, ahead, behind, rfl, ha, hb, lt, lu, t1, u1, tl, ul, k⟩ := h
    refine ⟨_, (pss_cons (ps_set (i := 4) scRest.nd rfl (.inl rfl) pe_int)
      (pss_cons (ps_for PassesOwn.never rfl (pi_range2 (by rfl) B.range (pa_cons pe_int (pa_cons (pe_op op_add pe_int (pe_op op_mul (pe_op op_sub (pe_lenL B.len (pv 1)) pe_int) (pe_intB B.int (pv 2)))) pa_nil))) (pg_name (i := 5) scRest.nd rfl (.inl rfl))
      (pss_cons (ps_set (i := 6) scRest.nd rfl (.inl rfl) (pe_slice sl_list (pv 1) (po_some (pv 5)) po_none))
      (pss_cons (ps_if (PW.pt (pw_and (pt_cmpR op_gt (pe_lenL B.len (pv 6)) (pe_lenL B.len (pv 0)) (nomark _)) (pw_and1 (pt_not (pt_val (pv 3)))))) (pss_one (ps_set (i := 6) scRest.nd rfl (.inl rfl) (pe_lst pa_nil))) pss_nil)
      (pss_one (ps_if (pt_cmpR (op_eqLS (by exact hr)) (pe_slice sl_list (pv 6) po_none (po_some (pe_lenL B.len (pv 0)))) (pe_slice sl_list (pv 0) po_none (po_some (pe_lenL B.len (pv 6)))) (nomark _)) (pss_one (ps_set (i := 4) scRest.nd rfl (.inl rfl) (pe_max rfl B.max (pv 4) (pe_lenL B.len (pv 6))))) pss_nil)))))
      (pss_cons (ps_for PassesOwn.never rfl (pi_range1 (by rfl) B.range (pa_cons (pe_lenL B.len (pv 0)) pa_nil)) (pg_name (i := 7) scRest.nd rfl (.inl rfl))
      (pss_cons (ps_set (i := 6) scRest.nd rfl (.inl rfl) (pe_slice sl_list (pv 0) (po_some (pv 7)) (po_some (pe_op op_add (pv 7) (pe_lenL B.len (pv 1))))))
      (pss_cons (ps_set (i := 8) scRest.nd rfl (.inl rfl) (pe_and (pe_cmpR op_le (pv 7) (pv 4) (nomark _)) (pe_one (pe_cmpR (op_eqLS (by exact hr)) (pv 6) (pe_slice sl_list (pv 1) po_none (po_some (pe_lenL B.len (pv 6)))) (nomark _)))))
      (pss_one (ps_if (PW.pt (pw_and (pt_val (pv 8)) (pw_and1 (PW.pt (pw_or (pt_val (pv 3)) (pw_or1 (pt_cmpR op_eq (pe_lenL B.len (pv 6)) (pe_lenL B.len (pv 1)) (nomark _)))))))) (pss_one (ps_set (i := 4) scRest.nd rfl (.inl rfl) (pe_op op_add (pv 7) (pe_lenL B.len (pv 1))))) pss_nil)))))
      (pss_one (ps_ret (pe_cmpR op_ge (pv 4) (pe_lenL B.len (pv 0)) (nomark _))))))), ?_⟩
    have en : (1 + (((u.map sg).length : Int) - 1) * (if ahead then 1 else 0) - 1).toNat = (u.length - 1) * ahead.toNat := by
      rw [List.length_map]
      cases ahead with
      | true => simp; omega
      | false => simp
    refine ⟨_, rfl, b, _, rfl, SqL.of hb, _, _, rfl, rfl, _, rfl, ahead, rfl, _, _, rfl, rfl, .inl ⟨by rw [List.length_map]; omega, by rw [List.length_map]; omega⟩, _, _, rfl, rfl, 1, _, rfl, ?_, ?_⟩
    · rw [List.length_map]
      cases ahead with
      | true => simp; omega
      | false => simp
    refine for_range (lo := 1) (n := (1 + (((u.map sg).length : Int) - 1) * (if ahead then 1 else 0) - 1).toNat) (fun i σ H2 => Same H H2 ∧ ∃ (d : Nat) (v5 v6 v7 v8 : Option V), σ = [some (.ref a), some (.ref b), some (.bl ahead), some (.bl behind), some (.int (d : Int)), v5, v6, v7, v8] ∧
      (∀ i', i' < i → Valid t u behind (i' + 1) → u.length - (i' + 1) ≤ d) ∧ (d = 0 ∨ ∃ i', i' < i ∧ Valid t u behind (i' + 1) ∧ d = u.length - (i' + 1))) ?_ ?_ ?_
    · exact ⟨Same.refl _, 0, none, none, none, none, rfl, fun i' h => by omega, .inl rfl⟩
    · rintro i σ H2 hi ⟨s2, d, v5, v6, v7, v8, rfl, da, db⟩
      rw [en] at hi
      have hiu : i + 1 < u.length := by cases ahead <;> simp at hi <;> omega
      refine ⟨_, rfl, _, rfl, 1 + (i : Int), rfl, b, _, rfl, SqL.of (s2 _ _ hb), fun l1 hl1 => ?_⟩
      rw [cut_lo (by omega), show (1 + (i : Int)).toNat = i + 1 by omega]
      have s3 := s2.trans (Same.upd (o := .lst ((u.drop (i + 1)).map sg)) hl1)
      have hol : (u.drop (i + 1)).length = u.length - (i + 1) := List.length_drop
      (try dsimp only [gName])
      refine seq_if (fun σ H' => ∃ (own : List Nat) (l : Addr), σ = [some (.ref a), some (.ref b), some (.bl ahead), some (.bl behind), some (.int (d : Int)), some (.int (1 + (i : Int))), some (.ref l), v7, v8] ∧ H' l = some (.lst (own.map sg)) ∧ Low own ∧ Same H H' ∧
        ((own = [] ∧ ¬ Valid t u behind (i + 1)) ∨ (own = u.drop (i + 1) ∧ -((i + 1 : Nat) : Int) ≤ hiOf t u behind))) ?_ fun R hR => ?_
      · rintro σ H4 ⟨own, l, rfl, hl4, lo4, s4, hown⟩
        refine ⟨_, rfl, _, rfl, a, _, rfl, SqL.of (s4 _ _ ha), _, rfl, l, _, rfl, SqL.of hl4, fun l2 hl2 => ?_⟩
        rw [List.length_map, cut_hi (by omega), Int.toNat_natCast]
        have s5 := Same.upd (o := .lst ((own.take t.length).map sg)) hl2
        refine ⟨_, rfl, _, rfl, l, _, rfl, SqL.of (s5 _ _ hl4), _, rfl, a, _, rfl, SqL.of (s5 _ _ (s4 _ _ ha)), fun l3 hl3 => ?_⟩
        rw [List.length_map, cut_hi (by omega), Int.toNat_natCast]
        have s6 := Same.upd (o := .lst ((t.take own.length).map sg)) hl3
        have s46 := (s4.trans s5).trans s6
        refine ⟨l2, l3, _, _, rfl, rfl, SqL.of (s6 _ _ upd_same), SqL.of upd_same, (lo4.take _).cp, (lt.take _).cp, _, rfl, ?_⟩
        have more : ∀ d' : Nat, d ≤ d' → (Valid t u behind (i + 1) → u.length - (i + 1) ≤ d') → (d' = d ∨ (Valid t u behind (i + 1) ∧ d' = u.length - (i + 1))) →
            (∀ i', i' < i + 1 → Valid t u behind (i' + 1) → u.length - (i' + 1) ≤ d') ∧ (d' = 0 ∨ ∃ i', i' < i + 1 ∧ Valid t u behind (i' + 1) ∧ d' = u.length - (i' + 1)) := fun d' h1 h2 h3 => by
          refine ⟨fun i' h4 h5 => ?_, ?_⟩
          · by_cases h6 : i' < i
            · have := da i' h6 h5; omega
            · have : i' = i := by omega
              subst this; exact h2 h5
          · rcases h3 with h3 | ⟨h3, h4⟩
            · rcases db with h4 | ⟨i', h4, h5, h6⟩
              · left; omega
              · right; exact ⟨i', by omega, h5, by omega⟩
            · right; exact ⟨i, by omega, h3, h4⟩
        refine ite2 (fun hc => ?_) (fun hc => ?_)
        · have hc' : own.take t.length = t.take own.length := by simpa using hc
          refine ⟨_, rfl, _, rfl, l, _, rfl, SqL.of (s6 _ _ (s5 _ _ hl4)), _, _, rfl, rfl, ?_⟩
          rw [List.length_map]
          rcases hown with ⟨rfl, hnv⟩ | ⟨rfl, hhi⟩
          · have := more d (Nat.le_refl _) (fun h => absurd h hnv) (.inl rfl)
            refine ⟨s46, d, some (.int (1 + (i : Int))), some (.ref l), v7, v8, ?_, this.1, this.2⟩
            show [_, _, _, _, some (V.int (if ((([] : List Nat).length : Nat) : Int) > (d : Int) then _ else _)), _, _, _, _] = _
            rw [if_neg (by simp)]
          · have hv : Valid t u behind (i + 1) := ⟨hhi, (ahead_iff hiu).mp (by rw [hol] at hc'; exact hc')⟩
            rw [hol] at s46 ⊢
            by_cases hg : u.length - (i + 1) > d
            · have := more (u.length - (i + 1)) (by omega) (fun _ => Nat.le_refl _) (.inr ⟨hv, rfl⟩)
              refine ⟨s46, u.length - (i + 1), some (.int (1 + (i : Int))), some (.ref l), v7, v8, ?_, this.1, this.2⟩
              show [_, _, _, _, some (V.int (if ((u.length - (i + 1) : Nat) : Int) > (d : Int) then _ else _)), _, _, _, _] = _
              rw [if_pos (by omega)]
            · have := more d (Nat.le_refl _) (fun _ => by omega) (.inl rfl)
              refine ⟨s46, d, some (.int (1 + (i : Int))), some (.ref l), v7, v8, ?_, this.1, this.2⟩
              show [_, _, _, _, some (V.int (if ((u.length - (i + 1) : Nat) : Int) > (d : Int) then _ else _)), _, _, _, _] = _
              rw [if_neg (by omega)]
        · have hc' : ¬ own.take t.length = t.take own.length := by simpa using hc
          rcases hown with ⟨rfl, hnv⟩ | ⟨rfl, hhi⟩
          · simp at hc'
          · have hnv : ¬ Valid t u behind (i + 1) := fun hv => hc' (by rw [hol]; exact (ahead_iff hiu).mpr hv.2)
            have := more d (Nat.le_refl _) (fun h => absurd h hnv) (.inl rfl)
            exact ⟨s46, d, _, _, _, _, rfl, this.1, this.2⟩
      · refine ⟨_, rfl, l1, _, rfl, SqL.of upd_same, _, rfl, a, _, rfl, SqL.of (s3 _ _ ha), _, _, rfl, rfl, _, rfl, ?_⟩
        rw [List.length_map, List.length_map, hol]
        refine ite2 (fun hc => ?_) (fun hc => ?_)
        · have hc' : t.length < u.length - (i + 1) := by have := of_decide_eq_true hc; omega
          refine ⟨_, rfl, behind, rfl, ?_⟩
          cases behind with
          | true =>
            refine iteF (hR _ _ ⟨_, l1, rfl, upd_same, lu.drop _, s3, .inr ⟨rfl, ?_⟩⟩)
            unfold hiOf; rw [if_pos rfl]; omega
          | false =>
            refine iteT ⟨Nat.zero_le _, fun l2 hl2 => ?_⟩
            refine hR _ _ ⟨[], l2, rfl, upd_same, Low.nil, s3.trans (Same.upd hl2), .inl ⟨rfl, fun hv => ?_⟩⟩
            have := hv.1
            unfold hiOf at this; rw [if_neg Bool.false_ne_true] at this; omega
        · have hc' : ¬ t.length < u.length - (i + 1) := by have := nd0 hc; omega
          refine iteF (hR _ _ ⟨_, l1, rfl, upd_same, lu.drop _, s3, .inr ⟨rfl, ?_⟩⟩)
          unfold hiOf; split <;> omega
    · rintro σ H2 ⟨s2, d, v5, v6, v7, v8, rfl, da, db⟩
      rw [en] at da db
      refine ⟨_, rfl, a, _, rfl, SqL.of (s2 _ _ ha), _, rfl, by omega, by rw [List.length_map]; omega, ?_⟩
      rw [List.length_map, Int.toNat_natCast]
      refine for_range (lo := 0) (n := t.length) (fun j σ H3 => Same H H3 ∧ ∃ (v5 v6 v7 v8 : Option V), σ = [some (.ref a), some (.ref b), some (.bl ahead), some (.bl behind), some (.int (rch u.length d ((List.range j).filter (fpos t u behind)) : Nat)), v5, v6, v7, v8]) ?_ ?_ ?_
      · exact ⟨s2, _, _, _, _, rfl⟩
      · rintro j σ H3 hj ⟨s3, v5, v6, v7, v8, rfl⟩
        have stp : (List.range (j + 1)).filter (fpos t u behind) = (List.range j).filter (fpos t u behind) ++ (if fpos t u behind j = true then [j] else []) := by
          rw [List.range_succ, List.filter_append]
          congr 1
          by_cases h : fpos t u behind j = true <;> simp [h]
        generalize hR : rch u.length d ((List.range j).filter (fpos t u behind)) = R
        have hno : fpos t u behind j = false ∨ ¬ j ≤ R → rch u.length d ((List.range (j + 1)).filter (fpos t u behind)) = R := fun h => by
          rw [stp]
          by_cases hf : fpos t u behind j = true
          · rcases h with h | h
            · rw [h] at hf; cases hf
            · rw [if_pos hf, rch_snoc, hR, if_neg h]
          · rw [if_neg hf, List.append_nil, hR]
        have hyes : fpos t u behind j = true → j ≤ R → rch u.length d ((List.range (j + 1)).filter (fpos t u behind)) = j + u.length := fun h1 h2 => by
          rw [stp, if_pos h1, rch_snoc, hR, if_pos h2]
        refine ⟨_, rfl, _, rfl, _, rfl, _, rfl, _, rfl, b, _, rfl, SqL.of (s3 _ _ hb), _, _, rfl, rfl, _, rfl, a, _, rfl, SqL.of (s3 _ _ ha), fun p1 hp1 => ?_⟩
        rw [List.length_map, cutV_cutL, cutL_map, cutL_both _ _ _ (by omega) (by omega), show (0 + (j : Int)).toNat = j by omega, show (0 + (j : Int) + (u.length : Int)).toNat - j = u.length by omega]
        have s4 := s3.trans (Same.upd (o := .lst (((t.drop j).take u.length).map sg)) hp1)
        have ho4 := upd_same (H := H3) (a := p1) (o := .lst (((t.drop j).take u.length).map sg))
        generalize L2.upd H3 p1 (.lst (((t.drop j).take u.length).map sg)) = H4 at *
        have lown : Low ((t.drop j).take u.length) := (lt.drop _).take _
        refine ⟨_, rfl, _, rfl, _, _, rfl, rfl, _, rfl, ?_⟩
        refine ite2 (fun hc => ?_) (fun hc => ?_)
        · have hc' : j ≤ R := by have := of_decide_eq_true hc; omega
          refine ⟨_, rfl, _, rfl, _, rfl, p1, _, rfl, SqL.of ho4, _, rfl, b, _, rfl, SqL.of (s4 _ _ hb), fun p2 hp2 => ?_⟩
          rw [List.length_map, cut_hi (by omega), Int.toNat_natCast]
          have s5 := Same.upd (o := .lst ((u.take ((t.drop j).take u.length).length).map sg)) hp2
          have s05 := s4.trans s5
          refine ⟨p1, p2, _, _, rfl, rfl, SqL.of (s5 _ _ ho4), SqL.of upd_same, lown.cp, (lu.take _).cp, ?_⟩
          refine ⟨_, rfl, _, rfl, ?_⟩
          refine ite2 (fun hd => ?_) (fun hd => ?_)
          · have hd : decide ((t.drop j).take u.length = u.take ((t.drop j).take u.length).length) = true := hd
            refine ⟨_, rfl, behind, rfl, ?_⟩
            refine ite2 (fun he => ?_) (fun he => ?_)
            · refine iteT ⟨_, rfl, _, rfl, b, _, rfl, SqL.of (s05 _ _ hb), _, _, rfl, rfl, s05, v5, some (.ref p1), some (.int (0 + (j : Int))), some (.bl (decide ((t.drop j).take u.length = u.take ((t.drop j).take u.length).length))), ?_⟩
              rw [hyes (by unfold fpos; rw [hd, he]; rfl) hc', List.length_map, show ((j + u.length : Nat) : Int) = 0 + (j : Int) + (u.length : Int) by omega]
              rfl
            · have he' : behind = false := by simpa using he
              refine ⟨_, rfl, p1, _, rfl, SqL.of (s5 _ _ ho4), _, rfl, b, _, rfl, SqL.of (s05 _ _ hb), rfl, _, rfl, ?_⟩
              have ee : decide (V.int ((((t.drop j).take u.length).map sg).length : Nat) = V.int ((u.map sg).length : Nat)) = decide (((t.drop j).take u.length).length = u.length) := by
                apply decide_eq_decide.mpr
                rw [List.length_map, List.length_map]
                constructor
                · intro h; have := V.int.inj h; omega
                · intro h; rw [h]
              rw [ee]
              refine ite2 (fun hg => ?_) (fun hg => ?_)
              · refine ⟨_, rfl, _, rfl, b, _, rfl, SqL.of (s05 _ _ hb), _, _, rfl, rfl, s05, v5, some (.ref p1), some (.int (0 + (j : Int))), some (.bl (decide ((t.drop j).take u.length = u.take ((t.drop j).take u.length).length))), ?_⟩
                rw [hyes (by unfold fpos; rw [hd, hg, he']; rfl) hc', List.length_map, show ((j + u.length : Nat) : Int) = 0 + (j : Int) + (u.length : Int) by omega]
                rfl
              · refine ⟨s05, v5, some (.ref p1), some (.int (0 + (j : Int))), some (.bl (decide ((t.drop j).take u.length = u.take ((t.drop j).take u.length).length))), ?_⟩
                rw [hno (.inl (by unfold fpos; rw [he', show decide (((t.drop j).take u.length).length = u.length) = false by simpa using hg]; simp))]
                rfl
          · refine iteF ⟨s05, v5, some (.ref p1), some (.int (0 + (j : Int))), some (.bl (decide ((t.drop j).take u.length = u.take ((t.drop j).take u.length).length))), ?_⟩
            rw [hno (.inl (by unfold fpos; rw [show decide ((t.drop j).take u.length = u.take ((t.drop j).take u.length).length) = false by simpa using hd]; simp))]
            rfl
        · have hc' : ¬ j ≤ R := by have := nd0 hc; omega
          refine ⟨_, rfl, _, rfl, ?_⟩
          refine iteF (iteF ⟨s4, v5, some (.ref p1), some (.int (0 + (j : Int))), some (.bl false), ?_⟩)
          rw [hno (.inr hc')]
          rfl
      · rintro σ H3 ⟨s3, v5, v6, v7, v8, rfl⟩
        refine ⟨_, rfl, _, rfl, a, _, rfl, SqL.of (s3 _ _ ha), _, _, rfl, rfl, ?_⟩
        have := k H3 s3
        rw [← rest_final u1 da db] at this
        have e : decide ((rch u.length d ((List.range t.length).filter (fpos t u behind)) : Int) ≥ ((t.map sg).length : Int)) = decide (t.length ≤ rch u.length d ((List.range t.length).filter (fpos t u behind))) := by
          apply decide_eq_decide.mpr
          rw [List.length_map]
          constructor <;> intro h <;> omega
        show Q (V.bl (decide ((rch u.length d ((List.range t.length).filter (fpos t u behind)) : Int) ≥ ((t.map sg).length : Int)))) H3
        rw [e]
        exact this
end

end Ov

namespace Ov
open PySem L2
theorem take_at {α : Type} {l : List α} {j : Nat} {x : α} (h : l[j]? = some x) : l.take (j + 1) = l.take j ++ [x] := by
  rw [List.take_add_one, h]; rfl
theorem fseq_set {te : TE} {i : Nat} {rest : TS} {D : Ends} {σ : St} {H : Hp} (h : te σ H fun x H1 => rest D (σ.set i (some x)) H1) : tSeq (tAsg te (gName i)) rest D σ H := h
theorem filter_at {l : List Nat} {f : Nat → Bool} {i o : Nat} (h : l[i]? = some o) : (l.take (i + 1)).filter f = (l.take i).filter f ++ (if f o = true then [o] else []) := by
  rw [take_at h, List.filter_append]
  congr 1
  by_cases hf : f o = true <;> simp [hf]
def begR (t : List Nat) (k : Nat) : Bool := restB t (t.take k) (loOf (t.take k) false) (hiOf t (t.take k) true)
def endR (t : List Nat) (k : Nat) : Bool := restB t (t.drop (t.length - k)) (loOf (t.drop (t.length - k)) true) (hiOf t (t.drop (t.length - k)) false)
def ups (n : Nat) : List Nat := (List.range n).map (· + 1)
theorem ups_mem {n k : Nat} (h : k ∈ ups n) : 1 ≤ k ∧ k ≤ n := by
  obtain ⟨j, hj, rfl⟩ := List.mem_map.mp h
  have := List.mem_range.mp hj
  omega
theorem ups_len (n : Nat) : (ups n).length = n := by simp [ups]
theorem seq_ifF {c : TT} {t rest : TS} {D : Ends} {σ : St} {H : Hp} (h : ∀ R : Bool → Hp → Prop, (∀ H', Same H H' → R false H') → c σ H R) (q : ∀ H', Same H H' → rest D σ H') : tSeq (tIfS c t tNext) rest D σ H := h (fun b H1 => if b = true then _ else _) fun H' s' => iteF (q H' s')
theorem one_ifF {c : TT} {t : TS} {D : Ends} {σ : St} {H : Hp} (h : ∀ R : Bool → Hp → Prop, (∀ H', Same H H' → R false H') → c σ H R) (q : ∀ H', Same H H' → D.nx σ H') : tIfS c t tNext D σ H := h (fun b H1 => if b = true then _ else _) fun H' s' => iteF (q H' s')
theorem or_F {c d : TT} {σ : St} {H : Hp} {R : Bool → Hp → Prop} (h : ∀ Q : Bool → Hp → Prop, (∀ H', Same H H' → Q false H') → c σ H Q) (g : ∀ H', Same H H' → d σ H' R) : tOr c d σ H R := h (fun b H1 => if b = true then _ else _) fun H' s' => iteF (g H' s')
theorem nums_ups (n : Nat) : (numsFrom 1 1 n).map V.int = vInts (ups n) := by
  unfold numsFrom vInts ups
  rw [List.map_map, List.map_map, List.map_map]
  refine List.map_congr_left fun q _ => ?_
  show V.int ((1 + q * 1 : Nat) : Int) = V.int ((q + 1 : Nat) : Int)
  congr 2; omega
abbrev sBeg : Stmt := top 19
abbrev sEnd : Stmt := top 20
theorem ups_succ (i : Nat) : ups (i + 1) = ups i ++ [i + 1] := by simp [ups, List.range_succ]
theorem filt_ups (f : Nat → Bool) (i : Nat) : (ups (i + 1)).filter f = (ups i).filter f ++ (if f (i + 1) = true then [i + 1] else []) := by
  rw [ups_succ, List.filter_append]
  congr 1
  by_cases h : f (i + 1) = true <;> simp [h]
theorem filt_ups_len (f : Nat → Bool) (i : Nat) : ((ups i).filter f).length ≤ i := by
  have := List.length_filter_le f (ups i)
  rw [ups_len] at this
  exact this
def spBeg : Sp := fun vs H Q _ => ∃ (a : Addr) (t : List Nat), vs = [.ref a] ∧ H a = some (.lst (t.map sg)) ∧ Low t ∧ 1 ≤ t.length ∧ t.length ≤ 300 ∧
  ∀ (r : Addr) (H' : Hp), H r = none → H' r = some (.lst (vInts ((ups t.length).filter (begR t)))) → Same H H' → Q (.ref r) H'
def spEnd : Sp := fun vs H Q _ => ∃ (a : Addr) (t : List Nat), vs = [.ref a] ∧ H a = some (.lst (t.map sg)) ∧ Low t ∧ 1 ≤ t.length ∧ t.length ≤ 300 ∧
  ∀ (r : Addr) (H' : Hp), H r = none → H' r = some (.lst (vInts ((ups t.length).filter (endR t)))) → Same H H' → Q (.ref r) H'
section
variable {K : PySem.W.Frag} {P : Program} {w : World} {mg : Str → Option Value} {base : Heap}
/-- whether a beginning has a rest behind, an end one ahead -/
theorem ask_beg {σ : St} {H : Hp} {Q : Bool → Hp → Prop} {a : Addr} {t : List Nat} {j : Nat} {n : Int} (h0 : σ[0]? = some (some (.ref a))) (hj : σ[j]? = some (some (.int n))) (ha : H a = some (.lst (t.map sg))) (lt : Low t) (n1 : 1 ≤ n) (n2 : n ≤ t.length) (tl : t.length ≤ 300)
    (k : ∀ H', Same H H' → Q (begR t n.toNat) H') : tB (tCall (spRest false true) [] E0 (tCons (tVar 0) (tCons (tSl (rSlL K) (tVar 0) tNoPart (tPart (tVar j))) tNil))) σ H Q := by
  refine ⟨_, h0, _, h0, _, hj, _, rfl, a, _, rfl, SqL.of ha, fun l hl => ?_⟩
  rw [cut_hi (by omega)]
  have s1 := Same.upd (o := .lst ((t.take n.toNat).map sg)) hl
  refine ⟨a, l, t, t.take n.toNat, rfl, s1 _ _ ha, upd_same, lt, lt.take _, by omega, by rw [List.length_take]; omega, by omega, by rw [List.length_take]; omega, fun H' s2 => ⟨_, rfl, k H' (s1.trans s2)⟩⟩
theorem ask_end {σ : St} {H : Hp} {Q : Bool → Hp → Prop} {a : Addr} {t : List Nat} {j : Nat} {n : Int} (h0 : σ[0]? = some (some (.ref a))) (hj : σ[j]? = some (some (.int n))) (ha : H a = some (.lst (t.map sg))) (lt : Low t) (n1 : 1 ≤ n) (n2 : n ≤ t.length) (tl : t.length ≤ 300)
    (k : ∀ H', Same H H' → Q (endR t n.toNat) H') : tB (tCall (spRest true false) [] E0 (tCons (tVar 0) (tCons (tSl (rSlL K) (tVar 0) (tPart (tOp (rI0 fun i j => V.int (i - j)) (tLenL K (tVar 0)) (tVar j))) tNoPart) tNil))) σ H Q := by
  refine ⟨_, h0, _, h0, _, h0, a, _, rfl, SqL.of ha, _, hj, _, _, rfl, rfl, _, rfl, a, _, rfl, SqL.of ha, fun l hl => ?_⟩
  rw [List.length_map, cut_lo (by omega), show ((t.length : Int) - n).toNat = t.length - n.toNat by omega]
  have s1 := Same.upd (o := .lst ((t.drop (t.length - n.toNat)).map sg)) hl
  refine ⟨a, l, t, t.drop (t.length - n.toNat), rfl, s1 _ _ ha, upd_same, lt, lt.drop _, by omega, by rw [List.length_drop]; omega, by omega, by rw [List.length_drop]; omega, fun H' s2 => ⟨_, rfl, k H' (s1.trans s2)⟩⟩
theorem scBeg : FnScope ["text"] ["text"] (defScope sBeg) := ⟨rfl, rfl, rfl, by decide +kernel, rfl, by decide +kernel, by decide +kernel⟩
theorem scEnd : FnScope ["text"] ["text"] (defScope sEnd) := ⟨rfl, rfl, rfl, by decide +kernel, rfl, by decide +kernel, by decide +kernel⟩
theorem ok_beg (M : Md K mg) (B : Bl mg) (F : FF K "beginnings_with_rest" sBeg) (Fcheck_signs : Fn P w K mg base CX0 "check_signs" 2 ["text"] spCheck) (Fcheck_some : Fn P w K mg base CX0 "check_some" 1 ["text"] spCheckSome) (Frest_behind : Fn P w K mg base CX0 "rest_behind" 5 ["text", "word"] (spRest false true)) : Fn P w K mg base CX0 "beginnings_with_rest" 6 ["text"] spBeg := by
  refine fn_ok M F scBeg (fun _ _ _ _ _ _ => us1 fun _ => rfl) (fun vs H Q E h => ?_) (fun f cdv A outer s H vs Q E hr h => ?_)
  · obtain ⟨a, t, rfl, _⟩ := h; rfl
  · obtain ⟨a, t, rfl, ha, lt, t1, tl, k⟩ := h
    refine ⟨_, (pss_cons (ps_expr (pe_fn Fcheck_signs hr pass0 (pa_cons (pv 0) pa_nil)))
      (pss_cons (ps_expr (pe_fn Fcheck_some hr pass0 (pa_cons (pv 0) pa_nil)))
      (pss_one (ps_ret (pe_comp ["text"] rfl (pi_range2 (by rfl) B.range (pa_cons pe_int (pa_cons (pe_op op_add (pe_lenL B.len (pv 0)) pe_int) pa_nil))) (fun _ => by exact (pif_one (pt_val (pe_fn Frest_behind hr pass0 (pa_cons (pv 0) (pa_cons (pe_slice sl_list (pv 0) po_none (po_some (pv 1))) pa_nil)))))) (fun _ => by exact (pv 1))))))), ?_⟩
    refine ⟨_, rfl, a, t, rfl, ha, lt, _, rfl, a, t, rfl, ha, t1, ?_⟩
    refine ⟨_, rfl, a, _, rfl, SqL.of ha, _, _, rfl, rfl, 1, _, rfl, ⟨by decide, by decide, by rw [List.length_map]; omega, by rw [List.length_map]; omega⟩, fun D hD cb => ?_⟩
    rw [List.length_map, show ((t.length : Int) + 1 - 1).toNat = t.length by omega]
    refine comp_range (lo := 1) (n := t.length) (fun i ys H2 => ys = vInts ((ups i).filter (begR t)) ∧ Same H H2 ∧ H2 D = some (.lst ys)) (small1000 (by omega)) ?_ ?_ ?_ ?_
    · exact ⟨rfl, Same.upd hD, upd_same⟩
    · rintro i ys H2 ⟨rfl, _⟩
      rw [vInts_len]; exact filt_ups_len _ _
    · rintro i ys H2 hi ⟨rfl, s2, hD2⟩
      refine ask_beg (K := K) (j := 1) (n := 1 + (i : Int)) rfl rfl (s2 _ _ ha) lt (by omega) (by omega) tl fun H3 s3 => ?_
      rw [show (1 + (i : Int)).toNat = i + 1 by omega]
      have hD3 := s3 _ _ hD2
      have s23 := s2.trans s3
      by_cases hb : begR t (i + 1) = true
      · rw [hb]
        refine iteT ⟨_, rfl, hD3, ?_, fun b o e => ?_, upd_same⟩
        · rw [filt_ups, if_pos hb, vInts_snoc', show 1 + (i : Int) = ((i + 1 : Nat) : Int) by omega]
        · rw [upd_ne (ne_of_none e hD)]; exact s23 _ _ e
      · rw [show begR t (i + 1) = false by simpa using hb]
        refine iteF ⟨?_, s23, hD3⟩
        rw [filt_ups, if_neg hb, List.append_nil]
    · rintro ys H2 ⟨rfl, s2, hD2⟩
      exact k D H2 hD hD2 s2
theorem ok_end (M : Md K mg) (B : Bl mg) (F : FF K "ends_with_rest" sEnd) (Fcheck_signs : Fn P w K mg base CX0 "check_signs" 2 ["text"] spCheck) (Fcheck_some : Fn P w K mg base CX0 "check_some" 1 ["text"] spCheckSome) (Frest_ahead : Fn P w K mg base CX0 "rest_ahead" 5 ["text", "word"] (spRest true false)) : Fn P w K mg base CX0 "ends_with_rest" 6 ["text"] spEnd := by
  refine fn_ok M F scEnd (fun _ _ _ _ _ _ => us1 fun _ => rfl) (fun vs H Q E h => ?_) (fun f cdv A outer s H vs Q E hr h => ?_)
  · obtain ⟨a, t, rfl, _⟩ := h; rfl
  · obtain ⟨a, t, rfl, ha, lt, t1, tl, k⟩ := h
    refine ⟨_, (pss_cons (ps_expr (pe_fn Fcheck_signs hr pass0 (pa_cons (pv 0) pa_nil)))
      (pss_cons (ps_expr (pe_fn Fcheck_some hr pass0 (pa_cons (pv 0) pa_nil)))
      (pss_one (ps_ret (pe_comp ["text"] rfl (pi_range2 (by rfl) B.range (pa_cons pe_int (pa_cons (pe_op op_add (pe_lenL B.len (pv 0)) pe_int) pa_nil))) (fun _ => by exact (pif_one (pt_val (pe_fn Frest_ahead hr pass0 (pa_cons (pv 0) (pa_cons (pe_slice sl_list (pv 0) (po_some (pe_op op_sub (pe_lenL B.len (pv 0)) (pv 1))) po_none) pa_nil)))))) (fun _ => by exact (pv 1))))))), ?_⟩
    refine ⟨_, rfl, a, t, rfl, ha, lt, _, rfl, a, t, rfl, ha, t1, ?_⟩
    refine ⟨_, rfl, a, _, rfl, SqL.of ha, _, _, rfl, rfl, 1, _, rfl, ⟨by decide, by decide, by rw [List.length_map]; omega, by rw [List.length_map]; omega⟩, fun D hD cb => ?_⟩
    rw [List.length_map, show ((t.length : Int) + 1 - 1).toNat = t.length by omega]
    refine comp_range (lo := 1) (n := t.length) (fun i ys H2 => ys = vInts ((ups i).filter (endR t)) ∧ Same H H2 ∧ H2 D = some (.lst ys)) (small1000 (by omega)) ?_ ?_ ?_ ?_
    · exact ⟨rfl, Same.upd hD, upd_same⟩
    · rintro i ys H2 ⟨rfl, _⟩
      rw [vInts_len]; exact filt_ups_len _ _
    · rintro i ys H2 hi ⟨rfl, s2, hD2⟩
      refine ask_end (K := K) (j := 1) (n := 1 + (i : Int)) rfl rfl (s2 _ _ ha) lt (by omega) (by omega) tl fun H3 s3 => ?_
      rw [show (1 + (i : Int)).toNat = i + 1 by omega]
      have hD3 := s3 _ _ hD2
      have s23 := s2.trans s3
      by_cases hb : endR t (i + 1) = true
      · rw [hb]
        refine iteT ⟨_, rfl, hD3, ?_, fun b o e => ?_, upd_same⟩
        · rw [filt_ups, if_pos hb, vInts_snoc', show 1 + (i : Int) = ((i + 1 : Nat) : Int) by omega]
        · rw [upd_ne (ne_of_none e hD)]; exact s23 _ _ e
      · rw [show endR t (i + 1) = false by simpa using hb]
        refine iteF ⟨?_, s23, hD3⟩
        rw [filt_ups, if_neg hb, List.append_nil]
    · rintro ys H2 ⟨rfl, s2, hD2⟩
      exact k D H2 hD hD2 s2
end
/-- asked of the law's own -/
theorem askL_beg {K : PySem.W.Frag} {σ : St} {H : Hp} {Q : Bool → Hp → Prop} {a : Addr} {t : List Nat} {j : Nat} {n : Int} (h0 : σ[0]? = some (some (.ref a))) (hj : σ[j]? = some (some (.int n))) (ha : H a = some (.lst (t.map sg))) (lt : Low t) (n1 : 1 ≤ n) (n2 : n ≤ t.length) (tl : t.length ≤ 300)
    (k : ∀ H', Same H H' → Q (begR t n.toNat) H') : tB (tCall spRestL [] E0 (tCons (tVar 0) (tCons (tSl (rSlL K) (tVar 0) tNoPart (tPart (tVar j))) (tCons (tC (.bl false)) (tCons (tC (.bl true)) tNil))))) σ H Q := by
  refine ⟨_, h0, _, h0, _, hj, _, rfl, a, _, rfl, SqL.of ha, fun l hl => ?_⟩
  rw [cut_hi (by omega)]
  have s1 := Same.upd (o := .lst ((t.take n.toNat).map sg)) hl
  refine ⟨a, l, t, t.take n.toNat, false, true, rfl, s1 _ _ ha, upd_same, lt, lt.take _, by omega, by rw [List.length_take]; omega, by omega, by rw [List.length_take]; omega, fun H' s2 => ⟨_, rfl, k H' (s1.trans s2)⟩⟩
theorem askL_end {K : PySem.W.Frag} {σ : St} {H : Hp} {Q : Bool → Hp → Prop} {a : Addr} {t : List Nat} {j : Nat} {n : Int} (h0 : σ[0]? = some (some (.ref a))) (hj : σ[j]? = some (some (.int n))) (ha : H a = some (.lst (t.map sg))) (lt : Low t) (n1 : 1 ≤ n) (n2 : n ≤ t.length) (tl : t.length ≤ 300)
    (k : ∀ H', Same H H' → Q (endR t n.toNat) H') : tB (tCall spRestL [] E0 (tCons (tVar 0) (tCons (tSl (rSlL K) (tVar 0) (tPart (tOp (rI0 fun i j => V.int (i - j)) (tLenL K (tVar 0)) (tVar j))) tNoPart) (tCons (tC (.bl true)) (tCons (tC (.bl false)) tNil))))) σ H Q := by
  refine ⟨_, h0, _, h0, _, h0, a, _, rfl, SqL.of ha, _, hj, _, _, rfl, rfl, _, rfl, a, _, rfl, SqL.of ha, fun l hl => ?_⟩
  rw [List.length_map, cut_lo (by omega), show ((t.length : Int) - n).toNat = t.length - n.toNat by omega]
  have s1 := Same.upd (o := .lst ((t.drop (t.length - n.toNat)).map sg)) hl
  refine ⟨a, l, t, t.drop (t.length - n.toNat), true, false, rfl, s1 _ _ ha, upd_same, lt, lt.drop _, by omega, by rw [List.length_drop]; omega, by omega, by rw [List.length_drop]; omega, fun H' s2 => ⟨_, rfl, k H' (s1.trans s2)⟩⟩
/-- some of all numbers, by a question -/
theorem ask_all {K : PySem.W.Frag} {σ : St} {H : Hp} {ev n i : Nat} {e : Addr} {g : Nat → Bool} {tc : CB → TT} {Q : VK} (hi : σ[i]? = some (some (.ref e))) (he : H e = some (.lst (vInts (ups n)))) (hn : n ≤ 300) (hl : σ.length = ev)
    (hc : ∀ (cb : CB) (m : Nat) (H' : Hp) (R : Bool → Hp → Prop), 1 ≤ m → m ≤ n → Same H H' → (∀ H'', Same H' H'' → R (g m) H'') → tc cb (σ ++ [some (.int (m : Int))]) H' R)
    (k : ∀ (D : Addr) (H' : Hp), H D = none → H' D = some (.lst (vInts ((ups n).filter g))) → Same H H' → Q (.ref D) H') : tComp (iList K (tVar i)) tc (fun _ => tVar ev) σ H Q := by
  refine ⟨_, hi, e, rfl, ⟨_, SqL.of he⟩, fun D hD cb => ?_⟩
  refine comp_list (K := K) (a := e) (xs := vInts (ups n)) (fun i ys H3 => ys = vInts (((ups n).take i).filter g) ∧ Same H H3 ∧ H3 D = some (.lst ys)) (by rw [vInts_len, ups_len]; exact small1000 (by omega)) ?_ ?_ ?_ ?_ ?_
  · exact ⟨rfl, Same.upd hD, upd_same⟩
  · rintro i ys H3 ⟨rfl, _⟩
    rw [vInts_len]
    exact Nat.le_trans (List.length_filter_le _ _) (by rw [List.length_take]; omega)
  · rintro i ys H3 _ ⟨_, s3, _⟩; exact SqL.of (s3 _ _ he)
  · rintro i x ys H3 hx ⟨rfl, s3, hD3⟩
    obtain ⟨m, hm, rfl⟩ := vInts_get hx
    obtain ⟨m1, mn⟩ := ups_mem (List.mem_of_getElem? hm)
    refine hc cb m H3 _ m1 mn s3 fun H4 s4 => ?_
    have hD4 := s4 _ _ hD3
    have s34 := s3.trans s4
    have fa := filter_at (f := g) hm
    have lk : (σ ++ [some (V.int (m : Int))])[ev]? = some (some (.int (m : Int))) := by rw [← hl, List.getElem?_append_right (Nat.le_refl _)]; simp
    by_cases hb : g m = true
    · rw [hb]
      refine iteT ⟨_, lk, hD4, ?_, fun b o q => ?_, upd_same⟩
      · rw [fa, if_pos hb, vInts_snoc']
      · rw [upd_ne (ne_of_none q hD)]; exact s34 _ _ q
    · rw [show g m = false by simpa using hb]
      refine iteF ⟨?_, s34, hD4⟩
      rw [fa, if_neg hb, List.append_nil]
  · rintro ys H3 ⟨rfl, s3, hD3⟩
    rw [vInts_len, List.take_length] at hD3
    exact k D H3 hD hD3 s3

end Ov

namespace Ov
open PySem L2
abbrev sDue : Stmt := top 34
abbrev sRight : Stmt := top 35
abbrev begs (t : List Nat) : List Nat := (ups t.length).filter (begR t)
abbrev endsR (t : List Nat) : List Nat := (ups t.length).filter (endR t)
def spDue : Sp := fun vs H Q _ => ∃ (a : Addr) (t : List Nat), vs = [.ref a] ∧ H a = some (.lst (t.map sg)) ∧ Low t ∧ 1 ≤ t.length ∧ t.length ≤ 300 ∧
  ∀ (r x y : Addr) (H' : Hp), H' r = some (.lst [.ref x, .ref y]) → H' x = some (.lst (vInts (begs t))) → H' y = some (.lst (vInts (endsR t))) → Same H H' → Q (.ref r) H'
def spRight : Sp := fun vs H Q _ => ∃ (a : Addr) (t : List Nat), vs = [.ref a] ∧ H a = some (.lst (t.map sg)) ∧ Low t ∧ 1 ≤ t.length ∧ t.length ≤ 300 ∧ ∀ H', Same H H' → Q (.bl true) H'
theorem every_ups {σ : St} {H : Hp} {Q : VK} {a : Addr} {t : List Nat} {K : PySem.W.Frag} (h0 : σ[0]? = some (some (.ref a))) (ha : H a = some (.lst (t.map sg))) (tl : t.length ≤ 300)
    (k : ∀ l H', H l = none → H' l = some (.lst (vInts (ups t.length))) → Same H H' → Q (.ref l) H') : tListR2 (tCons (tC (.int 1)) (tCons (tOp (rI0 fun i j => V.int (i + j)) (tLenL K (tVar 0)) (tC (.int 1))) tNil)) σ H Q := by
  refine ⟨_, h0, a, _, rfl, SqL.of ha, _, _, rfl, rfl, 1, t.length + 1, t.length, by rw [List.length_map]; rfl, by decide, by omega, by omega, fun ev hev => ?_⟩
  rw [nums_ups]
  exact k ev _ hev upd_same (Same.upd hev)
theorem refs_ne {x y : Addr} {l : List Nat} (h : some (HO.lst [V.ref x, V.ref y]) = some (HO.lst (vInts l))) : False := by
  cases l with
  | nil => simp [vInts] at h
  | cons n r => simp [vInts] at h
theorem meet_any {t rest : TS} {D : Ends} {σ : St} {H : Hp} (T : St → Hp → Prop) (hr : ∀ σ' H', T σ' H' → rest D σ' H') (h : ∀ R : St → Hp → Prop, (∀ σ' H', T σ' H' → R σ' H') → t { D with nx := R } σ H) : tSeq t rest D σ H := h (rest D) hr
def pInts (l : List Nat) : PyData := .list (l.map fun (n : Nat) => PyData.int (n : Int))
theorem dat_ints {K : PySem.W.Frag} {H : Hp} {x : Addr} {l : List Nat} (h : H x = some (.lst (vInts l))) : DatV K H (pInts l) (.ref x) := by
  refine datV_lst (SqL.of h) ?_
  clear h
  induction l with
  | nil => exact datVs_nil
  | cons n l ih => exact datVs_cons (datV_int _) ih
theorem depthAll_ints (l : List Nat) : PyData.depthAll (l.map fun (n : Nat) => PyData.int (n : Int)) ≤ 1 := by
  induction l with
  | nil => simp [PyData.depthAll]
  | cons n l ih => simp only [List.map_cons, PyData.depthAll, PyData.depth]; omega
theorem eqvAll_ints (l : List Nat) : PyData.eqvAll (l.map fun (n : Nat) => PyData.int (n : Int)) (l.map fun (n : Nat) => PyData.int (n : Int)) = true := by
  induction l with
  | nil => simp [PyData.eqvAll]
  | cons n l ih => simp [PyData.eqvAll, PyData.eqv, ih]
theorem ne_two {K : PySem.W.Frag} {H : Hp} {h x y k a b : Addr} {l m : List Nat} {Q : VK} (hh : H h = some (.lst [.ref x, .ref y])) (hx : H x = some (.lst (vInts l))) (hy : H y = some (.lst (vInts m))) (hk : H k = some (.lst [.ref a, .ref b])) (ha : H a = some (.lst (vInts l))) (hb : H b = some (.lst (vInts m))) (q : Q (.bl false) H) : rEqD K true (.ref h) (.ref k) H Q := by
  refine ⟨.list [pInts l, pInts m], .list [pInts l, pInts m], datV_lst (SqL.of hh) (datVs_cons (dat_ints hx) (datVs_cons (dat_ints hy) datVs_nil)), datV_lst (SqL.of hk) (datVs_cons (dat_ints ha) (datVs_cons (dat_ints hb) datVs_nil)), Nat.le_trans (Nat.min_le_left _ _) ?_, ?_⟩
  · have h1 := depthAll_ints l
    have h2 := depthAll_ints m
    unfold pInts
    simp only [PyData.depth, PyData.depthAll]
    omega
  · have e : PyData.eqv (.list [pInts l, pInts m]) (.list [pInts l, pInts m]) = true := by
      unfold pInts
      simp [PyData.eqv, PyData.eqvAll, eqvAll_ints]
    rw [e]
    exact q
section
variable {P : Program} {w : World} {K : PySem.W.Frag} {mg : Str → Option Value} {base : Heap}
theorem scDue : FnScope ["text", "every", "first"] ["text"] (defScope sDue) := ⟨rfl, rfl, rfl, by decide +kernel, rfl, by decide +kernel, by decide +kernel⟩
theorem scRight : FnScope ["text", "handed", "due", "every", "again", "found", "some"] ["text"] (defScope sRight) := ⟨rfl, rfl, rfl, by decide +kernel, rfl, by decide +kernel, by decide +kernel⟩
theorem ok_due (M : Md K mg) (B : Bl mg) (F : FF K "_law_due" sDue) (F_law_rest : Fn P w K mg base CX0 "_law_rest" 1 ["text", "word", "ahead", "behind"] spRestL) : Fn P w K mg base CX0 "_law_due" 2 ["text"] spDue := by
  refine fn_ok M F scDue (fun _ _ _ _ _ _ => us1 fun _ => rfl) (fun vs H Q E h => ?_) (fun f cdv A outer s H vs Q E hr h => ?_)
  · obtain ⟨a, t, rfl, _⟩ := h; rfl
  · obtain ⟨a, t, rfl, ha, lt, t1, tl, k⟩ := h
    refine ⟨_, (pss_cons (ps_set (i := 1) scDue.nd rfl (.inl rfl) (pe_listRa rfl B.list B.range (pa_cons pe_int (pa_cons (pe_op op_add (pe_lenL B.len (pv 0)) pe_int) pa_nil))))
      (pss_cons (ps_setC (i := 2) ["text", "every", "first"] rfl scDue.nd rfl (.inl rfl) (pi_list (pv 1)) (fun _ => by exact (pif_one (pt_val (pe_fn F_law_rest hr pass0 (pa_cons (pv 0) (pa_cons (pe_slice sl_list (pv 0) po_none (po_some (pv 3))) (pa_cons pe_bl (pa_cons pe_bl pa_nil)))))))) (fun _ => by exact (pv 3)))
      (pss_one (ps_ret (pe_lst (pa_cons (pv 2) (pa_cons (pe_comp ["text", "every", "first"] rfl (pi_list (pv 1)) (fun _ => by exact (pif_one (pt_val (pe_fn F_law_rest hr pass0 (pa_cons (pv 0) (pa_cons (pe_slice sl_list (pv 0) (po_some (pe_op op_sub (pe_lenL B.len (pv 0)) (pv 3))) po_none) (pa_cons pe_bl (pa_cons pe_bl pa_nil)))))))) (fun _ => by exact (pv 3))) pa_nil))))))), ?_⟩
    refine fseq_set (every_ups (K := K) rfl ha tl fun ev H1 ev0 hev s1 => ?_)
    refine fseq_set (ask_all (K := K) (i := 1) (ev := 3) (g := begR t) rfl hev tl rfl (fun cb m H' R m1 mn s' hR => askL_beg (K := K) (j := 3) (n := (m : Int)) rfl rfl (s' _ _ (s1 _ _ ha)) lt (by omega) (by omega) tl hR) fun x H2 x0 hx s2 => ?_)
    refine ⟨_, rfl, ask_all (K := K) (i := 1) (ev := 3) (g := endR t) rfl (s2 _ _ hev) tl rfl (fun cb m H' R m1 mn s' hR => askL_end (K := K) (j := 3) (n := (m : Int)) rfl rfl (s' _ _ (s2 _ _ (s1 _ _ ha))) lt (by omega) (by omega) tl hR) fun y H3 y0 hy s3 => ?_⟩
    refine ⟨by show 2 ≤ sizeLine; decide, fun r hr => k r x y _ upd_same ((Same.upd hr) _ _ (s3 _ _ hx)) ((Same.upd hr) _ _ hy) (((s1.trans s2).trans s3).trans (Same.upd hr))⟩
theorem ok_right (M : Md K mg) (B : Bl mg) (F : FF K "_law_right" sRight) (F_law_due : Fn P w K mg base CX0 "_law_due" 2 ["text"] spDue) (F_law_by_trial : Fn P w K mg base CX0 "_law_by_trial" 2 ["text", "word", "ahead", "behind"] spRestL) (Fbeginnings_with_rest : Fn P w K mg base CX0 "beginnings_with_rest" 6 ["text"] spBeg) (Fends_with_rest : Fn P w K mg base CX0 "ends_with_rest" 6 ["text"] spEnd) : Fn P w K mg base CX0 "_law_right" 7 ["text"] spRight := by
  refine fn_ok M F scRight (fun _ _ _ _ _ _ => us1 fun _ => rfl) (fun vs H Q E h => ?_) (fun f cdv A outer s H vs Q E hr h => ?_)
  · obtain ⟨a, t, rfl, _⟩ := h; rfl
  · obtain ⟨a, t, rfl, ha, lt, t1, tl, k⟩ := h
    refine ⟨_, (pss_cons (ps_set (i := 1) scRight.nd rfl (.inl rfl) (pe_listOf B.list (pv 0)))
      (pss_cons (ps_set (i := 2) scRight.nd rfl (.inl rfl) (pe_fn F_law_due hr pass0 (pa_cons (pv 0) pa_nil)))
      (pss_cons (ps_if (pt_cmpR op_lt (pe_lenL B.len (pv 0)) pe_int (nomark _)) (pss_cons (ps_set (i := 3) scRight.nd rfl (.inl rfl) (pe_listRa rfl B.list B.range (pa_cons pe_int (pa_cons (pe_op op_add (pe_lenL B.len (pv 0)) pe_int) pa_nil))))
      (pss_cons (ps_if (pt_cmpR (op_neLI (by exact hr)) (pe_ix ix_list (pv 2) pe_int (fun _ _ => rfl)) (pe_comp ["text", "handed", "due", "every", "again", "found", "some"] rfl (pi_list (pv 3)) (fun _ => by exact (pif_one (pt_val (pe_fn F_law_by_trial hr pass0 (pa_cons (pv 0) (pa_cons (pe_slice sl_list (pv 0) po_none (po_some (pv 7))) (pa_cons pe_bl (pa_cons pe_bl pa_nil)))))))) (fun _ => by exact (pv 7))) (nomark _)) (pss_one (ps_ret pe_bl)) pss_nil)
      (pss_one (ps_if (pt_cmpR (op_neLI (by exact hr)) (pe_ix ix_list (pv 2) pe_int (fun _ _ => rfl)) (pe_comp ["text", "handed", "due", "every", "again", "found", "some"] rfl (pi_list (pv 3)) (fun _ => by exact (pif_one (pt_val (pe_fn F_law_by_trial hr pass0 (pa_cons (pv 0) (pa_cons (pe_slice sl_list (pv 0) (po_some (pe_op op_sub (pe_lenL B.len (pv 0)) (pv 7))) po_none) (pa_cons pe_bl (pa_cons pe_bl pa_nil)))))))) (fun _ => by exact (pv 7))) (nomark _)) (pss_one (ps_ret pe_bl)) pss_nil)))) pss_nil)
      (pss_cons (ps_for PassesOwn.never rfl (pi_range1 (by rfl) B.range (pa_cons pe_int pa_nil)) (pg_name (i := 4) scRight.nd rfl (.inl rfl))
      (pss_cons (ps_set (i := 5) scRight.nd rfl (.inl rfl) (pe_lst (pa_cons (pe_fn Fbeginnings_with_rest hr pass0 (pa_cons (pv 1) pa_nil)) (pa_cons (pe_fn Fends_with_rest hr pass0 (pa_cons (pv 1) pa_nil)) pa_nil))))
      (pss_cons (ps_if (PW.pt (pw_or (pt_cmpR (op_neD (by exact hr)) (pv 5) (pv 2) (nomark _)) (pw_or1 (pt_cmpR (op_neLS (by exact hr)) (pv 1) (pv 0) (nomark _))))) (pss_one (ps_ret pe_bl)) pss_nil)
      (pss_one (ps_for PassesOwn.never rfl (pi_list (pv 5)) (pg_name (i := 6) scRight.nd rfl (.inl rfl))
      (pss_cons (ps_if (pt_not (pt_val (pe_isi B.isinst B.list bt_list (pv 6)))) (pss_one (ps_ret pe_bl)) pss_nil)
      (pss_cons (ps_if (pt_cmpR (op_neLI (by exact hr)) (pe_comp ["text", "handed", "due", "every", "again", "found", "some"] rfl (pi_list (pv 6)) (fun _ => by exact (pif_one (pt_val (pe_isi B.isinst B.bool bt_bool (pv 7))))) (fun _ => by exact (pv 7))) (pe_lst pa_nil) (nomark _)) (pss_one (ps_ret pe_bl)) pss_nil)
      (pss_one (ps_expr (pe_bm PySem.F.plainAttrs_list PySem.F.slot_list_append PySem.F.type_list_append mt_append (pv 6) (pa_cons pe_int pa_nil)))))))))))
      (pss_one (ps_ret pe_bl)))))), ?_⟩
    refine fseq_set ⟨_, rfl, a, _, rfl, SqL.of ha, fun hd hhd => ?_⟩
    have s1 := Same.upd (o := .lst (t.map sg)) hhd
    have hh1 := upd_same (H := H) (a := hd) (o := .lst (t.map sg))
    generalize L2.upd H hd (.lst (t.map sg)) = H1 at s1 hh1 ⊢
    refine fseq_set ⟨_, rfl, a, t, rfl, s1 _ _ ha, lt, t1, tl, fun du x y H2 hdu hx hy s2 => ?_⟩
    have s02 := s1.trans s2
    have hh2 := s2 _ _ hh1
    refine meet_any (fun σ H3 => ∃ v3, σ = [some (.ref a), some (.ref hd), some (.ref du), v3, none, none, none] ∧ Same H2 H3) ?_ fun R hR => ?_
    · rintro σ H3 ⟨v3, rfl, s3⟩
      have s03 := s02.trans s3
      have ha3 := s03 _ _ ha
      have hh3 := s3 _ _ hh2
      have hdu3 := s3 _ _ hdu
      have hx3 := s3 _ _ hx
      have hy3 := s3 _ _ hy
      refine seq_for ⟨2, rfl, by decide, by decide, ?_⟩
      refine for_rangeA (lo := 0) (n := 2) (fun i σ H4 => Same H3 H4 ∧ ∃ v4 v5 v6, σ = [some (.ref a), some (.ref hd), some (.ref du), v3, v4, v5, v6]) ⟨Same.refl _, _, _, _, rfl⟩ ?_ ?_
      · rintro D1 i σ H4 nx1 _ ⟨s4, w4, w5, w6, rfl⟩
        refine fseq_set ⟨_, rfl, hd, t, rfl, s4 _ _ hh3, lt, t1, tl, fun b1 H5 b10 hb1 s5 => ?_⟩
        refine ⟨_, rfl, hd, t, rfl, s5 _ _ (s4 _ _ hh3), lt, t1, tl, fun b2 H6 b20 hb2 s6 => ?_⟩
        have hb16 := s6 _ _ hb1
        refine ⟨by show 2 ≤ sizeLine; decide, fun fo hfo => ?_⟩
        have s7 := Same.upd (o := .lst [V.ref b1, .ref b2]) hfo
        have hfo7 := upd_same (H := H6) (a := fo) (o := .lst [V.ref b1, .ref b2])
        have hb17 := s7 _ _ hb16
        have hb27 := s7 _ _ hb2
        have fo0 : H4 fo = none := s5.free (s6.free hfo)
        have b200 : H4 b2 = none := s5.free b20
        have s47 := (s5.trans s6).trans s7
        generalize L2.upd H6 fo (.lst [V.ref b1, .ref b2]) = H7 at s7 hfo7 hb17 hb27 s47 ⊢
        have s37 := s4.trans s47
        refine seq_ifF (fun R hR => ?_) fun H8 s8 => ?_
        · refine or_F (fun R' hR' => ?_) fun H8 s8 => ?_
          · exact ⟨_, rfl, _, rfl, ne_two hfo7 hb17 hb27 (s37 _ _ hdu3) (s37 _ _ hx3) (s37 _ _ hy3) ⟨_, rfl, hR' _ (Same.refl _)⟩⟩
          · have s38 := s37.trans s8
            refine ⟨_, rfl, _, rfl, hd, a, t, t, rfl, rfl, SqL.of (s38 _ _ hh3), SqL.of (s38 _ _ ha3), lt.cp, lt.cp, _, rfl, ?_⟩
            rw [if_pos rfl, decide_eq_true rfl]
            exact hR _ s8
        have s48 := s47.trans s8
        have hfo8 := s8 _ _ hfo7
        have nf1 : b1 ≠ fo := fun e => by rw [e, hfo7] at hb17; exact refs_ne hb17
        have nf2 : b2 ≠ fo := fun e => by rw [e, hfo7] at hb27; exact refs_ne hb27
        refine one_for ⟨_, rfl, fo, rfl, ⟨_, SqL.of hfo8⟩, for_listA (K := K) (a := fo) (xs := [V.ref b1, .ref b2]) (fun j σ H9 => H9 fo = some (.lst [V.ref b1, .ref b2]) ∧ Same H4 H9 ∧ (∃ n1 : List Nat, H9 b1 = some (.lst (vInts n1)) ∧ n1.length ≤ 300 + j) ∧ (∃ n2 : List Nat, H9 b2 = some (.lst (vInts n2)) ∧ n2.length ≤ 300 + j) ∧ ∃ v6, σ = [some (.ref a), some (.ref hd), some (.ref du), v3, some (.int (0 + (i : Int))), some (.ref fo), v6]) ?_ (fun j σ H9 _ h => SqL.of h.1) ?_ ?_⟩
        · have l1 := filt_ups_len (begR t) t.length
          have l2 := filt_ups_len (endR t) t.length
          exact ⟨hfo8, s48, ⟨_, s8 _ _ hb17, by omega⟩, ⟨_, s8 _ _ hb27, by omega⟩, _, rfl⟩
        · rintro D2 j z σ H9 nx2 hz ⟨hfo9, s9, g1, g2, w6', rfl⟩
          have jl : j < 2 := (List.getElem?_eq_some_iff.mp hz).1
          obtain ⟨bz, rfl, bz0, nf, nl, hbz, nlz⟩ : ∃ (bz : Addr), z = .ref bz ∧ H4 bz = none ∧ bz ≠ fo ∧ ∃ nl : List Nat, H9 bz = some (.lst (vInts nl)) ∧ nl.length ≤ 300 + j := by
            have : j = 0 ∨ j = 1 := by omega
            rcases this with rfl | rfl
            · obtain rfl := Option.some.inj hz
              exact ⟨b1, rfl, b10, nf1, g1⟩
            · obtain rfl := Option.some.inj hz
              exact ⟨b2, rfl, b200, nf2, g2⟩
          refine seq_ifF (fun R hR => ⟨_, rfl, _, true, TyOf.lst hbz, rfl, _, rfl, hR _ (Same.refl _)⟩) fun H10 s10 => ?_
          have hbz10 := s10 _ _ hbz
          refine seq_ifF (fun R hR => ?_) fun H11 s11 => ?_
          · refine ⟨_, rfl, bz, rfl, ⟨_, SqL.of hbz10⟩, fun D hD cb => ?_⟩
            refine comp_list (K := K) (a := bz) (xs := vInts nl) (fun i ys H11 => ys = [] ∧ Same H10 H11 ∧ H11 D = some (.lst ys)) (by rw [vInts_len]; exact small1000 (by omega)) ?_ ?_ ?_ ?_ ?_
            · exact ⟨rfl, Same.upd hD, upd_same⟩
            · rintro i ys H11 ⟨rfl, _⟩; exact Nat.zero_le _
            · rintro i ys H11 _ ⟨_, s11, _⟩; exact SqL.of (s11 _ _ hbz10)
            · rintro i x ys H11 hx11 ⟨rfl, s11, hD11⟩
              obtain ⟨m, _, rfl⟩ := vInts_get hx11
              exact ⟨_, rfl, _, false, TyOf.int _, rfl, _, rfl, iteF ⟨rfl, s11, hD11⟩⟩
            · rintro ys H11 ⟨rfl, s11, hD11⟩
              refine ⟨Nat.zero_le _, fun l hl => ?_⟩
              have s12 := Same.upd (o := .lst []) hl
              refine ⟨D, l, [], [], rfl, rfl, SqL.of (s12 _ _ hD11), SqL.of upd_same, ?_⟩
              exact ⟨_, rfl, hR _ (s11.trans s12)⟩
          have s911 := s10.trans s11
          have hbz11 := s911 _ _ hbz
          refine ⟨_, rfl, .inl ⟨rfl, _, SqL.of hbz11⟩, bz, _, _, rfl, rfl, hbz11, by rw [vInts_len]; exact small1000 (by omega), ?_⟩
          have ev : vInts nl ++ [V.int 0] = vInts (nl ++ [0]) := by simp [vInts]
          rw [ev]
          have keep : ∀ b : Addr, (∃ n : List Nat, H9 b = some (.lst (vInts n)) ∧ n.length ≤ 300 + j) → ∃ n : List Nat, (L2.upd H11 bz (.lst (vInts (nl ++ [0])))) b = some (.lst (vInts n)) ∧ n.length ≤ 300 + (j + 1) := fun b ⟨n, h1, h2⟩ => by
            by_cases e : b = bz
            · rw [e]; exact ⟨nl ++ [0], upd_same, by simp; omega⟩
            · exact ⟨n, by rw [upd_ne e]; exact s911 _ _ h1, by omega⟩
          exact nx2 _ _ ⟨by rw [upd_ne nf.symm]; exact s911 _ _ hfo9, fun x o e => by rw [upd_ne (ne_of_none e bz0)]; exact s911 _ _ (s9 _ _ e), keep b1 g1, keep b2 g2, _, rfl⟩
        · rintro σ H9 ⟨_, s9, _, _, w6', rfl⟩
          exact nx1 _ _ ⟨s4.trans s9, _, _, _, rfl⟩
      · rintro σ H4 ⟨s4, w4, w5, w6, rfl⟩
        exact k H4 (s03.trans s4)
    · refine ⟨_, rfl, a, _, rfl, SqL.of (s02 _ _ ha), _, _, rfl, rfl, _, rfl, ?_⟩
      rw [List.length_map]
      by_cases h17 : (t.length : Int) < 17
      · rw [decide_eq_true h17]
        refine iteT ?_
        refine fseq_set (every_ups (K := K) rfl (s02 _ _ ha) tl fun ev H3 ev0 hev s3 => ?_)
        refine seq_ifF (fun R' hR' => ?_) fun H4 s4 => ?_
        · refine ⟨_, rfl, du, _, _, _, rfl, rfl, SqL.of (s3 _ _ hdu), atI_nat (j := 0) rfl, ask_all (K := K) (i := 3) (ev := 7) (g := begR t) rfl hev tl rfl (fun cb m H' R m1 mn s' hR => askL_beg (K := K) (j := 7) (n := (m : Int)) rfl rfl (s' _ _ (s3 _ _ (s02 _ _ ha))) lt (by omega) (by omega) tl hR) fun D H4 D0 hD4 s4 => ?_⟩
          refine ⟨x, D, _, _, rfl, rfl, SqL.of (s4 _ _ (s3 _ _ hx)), SqL.of hD4, ?_⟩
          rw [if_pos rfl, decide_eq_true rfl]
          exact ⟨_, rfl, hR' _ s4⟩
        have s24 := s3.trans s4
        refine one_ifF (fun R' hR' => ?_) fun H5 s5 => hR _ _ ⟨_, rfl, s24.trans s5⟩
        refine ⟨_, rfl, du, _, _, _, rfl, rfl, SqL.of (s24 _ _ hdu), atI_nat (j := 1) rfl, ask_all (K := K) (i := 3) (ev := 7) (g := endR t) rfl (s4 _ _ hev) tl rfl (fun cb m H' R m1 mn s' hR => askL_end (K := K) (j := 7) (n := (m : Int)) rfl rfl (s' _ _ (s24 _ _ (s02 _ _ ha))) lt (by omega) (by omega) tl hR) fun D H5 D0 hD5 s5 => ?_⟩
        refine ⟨y, D, _, _, rfl, rfl, SqL.of (s5 _ _ (s24 _ _ hy)), SqL.of hD5, ?_⟩
        rw [if_pos rfl, decide_eq_true rfl]
        exact ⟨_, rfl, hR' _ s5⟩
      · rw [decide_eq_false h17]
        exact iteF (hR _ _ ⟨_, rfl, Same.refl _⟩)
end

end Ov

namespace Ov
open PySem L2
abbrev sLaw : Stmt := top 36
def spLaw (K : PySem.W.Frag) : Sp := fun vs H Q _ => ∃ (a : Addr) (ns : List Int), vs = [.ref a] ∧ SqL K H a (ns.map V.int) ∧ ns.length ≤ 63 ∧ ∀ H', Q (.bl true) H'
/-- script[:n] + [a cell], walked -/
theorem dcells {K : PySem.W.Frag} {σ : St} {H : Hp} {a : Addr} {ns : List Int} {n : Int} {R : It → Hp → Prop} (hi : σ[0]? = some (some (.ref a))) (hS : SqL K H a (ns.map V.int)) (hn : 0 ≤ n) (hn2 : n ≤ 100)
    (k : ∀ (b : Addr) (xs : List Int) (H' : Hp), H' b = some (.lst (xs.map V.int)) → Same H H' → R (Itl K b) H') :
    iList K (tOp rCat (tSl (rSlL K) (tVar 0) tNoPart (tPart (tC (.int n)))) (tLst (tCons (tCall (spCellAt K) [] E0 (tCons (tVar 0) (tCons (tC (.int 0)) tNil))) tNil))) σ H R := by
  refine ⟨_, hi, n, rfl, a, _, rfl, hS, fun l0 hl0 => ?_⟩
  have e1 : cutV (ns.map V.int) none (some n) = (ns.take n.toNat).map V.int := by rw [cutV_cutL, cutL_map, cutL_hi _ _ hn]
  rw [e1] at *
  have s1 := Same.upd (o := .lst ((ns.take n.toNat).map V.int)) hl0
  refine ⟨_, hi, a, ns, rfl, s1.seq hS, fun c => ⟨by show 1 ≤ sizeLine; decide, fun l1 hl1 => ?_⟩⟩
  have s2 := Same.upd (o := .lst [V.int c]) hl1
  refine ⟨l0, l1, _, _, rfl, rfl, s2 _ _ upd_same, upd_same, by rw [List.length_map, List.length_take, List.length_singleton]; exact sz (by omega), fun b hb => ?_⟩
  refine ⟨b, rfl, ⟨_, SqL.of upd_same⟩, k b (ns.take n.toNat ++ [c]) _ ?_ ((s1.trans s2).trans (Same.upd hb))⟩
  rw [upd_same, List.map_append]; rfl
theorem int_item {xs : List Int} {i : Nat} {x : V} (h : (xs.map V.int)[i]? = some x) : ∃ z : Int, x = .int z := by
  rw [List.getElem?_map] at h
  cases e : xs[i]? with
  | none => rw [e] at h; cases h
  | some z => rw [e] at h; exact ⟨z, (Option.some.inj h).symm⟩
theorem seq_asg2 {te : TE} {g : TG} {rest : TS} {D : Ends} {σ : St} {H : Hp} (h : te σ H fun x H1 => g x σ H1 fun σ2 H2 => rest D σ2 H2) : tSeq (tAsg te g) rest D σ H := h
/-- lists of signs -/
def TL (H : Hp) (ys : List V) : Prop := ∀ y ∈ ys, ∃ (x : Addr) (t : List Nat), y = .ref x ∧ H x = some (.lst (t.map sg)) ∧ Low t ∧ t.length ≤ 300
theorem TL.nil {H : Hp} : TL H [] := fun y hy => (nomatch hy)
theorem TL.cons {H : Hp} {ys : List V} {x : Addr} {t : List Nat} (hx : H x = some (.lst (t.map sg))) (lt : Low t) (l : t.length ≤ 300) (h : TL H ys) : TL H (.ref x :: ys) := fun y hy => (List.mem_cons.mp hy).elim (fun e => ⟨x, t, e, hx, lt, l⟩) (h y)
theorem TL.same {H H' : Hp} {ys : List V} (h : TL H ys) (s : Same H H') : TL H' ys := fun y hy => let ⟨x, t, e, hx, r⟩ := h y hy; ⟨x, t, e, s _ _ hx, r⟩
section
variable {P : Program} {w : World} {K : PySem.W.Frag} {mg : Str → Option Value} {base : Heap}
theorem scLaw : FnScope ["script", "cell", "deck", "text", "word", "at", "told", "some"] ["script"] (defScope sLaw) := ⟨rfl, rfl, rfl, by decide +kernel, rfl, by decide +kernel, by decide +kernel⟩
theorem ok_law (M : Md K mg) (B : Bl mg) (F : FF K "law" sLaw) (F_law_cell_at : Fn P w K mg base CX0 "_law_cell_at" 1 ["script", "k"] (spCellAt K)) (F_law_deck : Fn P w K mg base CX0 "_law_deck" 1 ["cell"] spDeck) (F_law_take : Fn P w K mg base CX0 "_law_take" 1 ["deck", "many"] spTake)
    (F_law_pair : Fn P w K mg base CX0 "_law_pair" 4 ["deck", "long"] spPair) (F_law_right : Fn P w K mg base CX0 "_law_right" 7 ["text"] spRight) : Fn P w K mg base CX0 "law" 8 ["script"] (spLaw K) := by
  refine fn_ok M F scLaw (fun _ _ _ _ _ _ => us1 fun _ => rfl) (fun vs H Q E h => ?_) (fun f cdv A outer s H vs Q E hr h => ?_)
  · obtain ⟨a, ns, rfl, _⟩ := h; rfl
  · obtain ⟨a, ns, rfl, hS, hlen, k⟩ := h
    refine ⟨_, (pss_cons (ps_for PassesOwn.never rfl (pi_list (pe_op op_cat (pe_slice sl_list (pv 0) po_none (po_some pe_int)) (pe_lst (pa_cons (pe_fn F_law_cell_at hr pass0 (pa_cons (pv 0) (pa_cons pe_int pa_nil))) pa_nil)))) (pg_name (i := 1) scLaw.nd rfl (.inl rfl))
      (pss_cons (ps_set (i := 2) scLaw.nd rfl (.inl rfl) (pe_fn F_law_deck hr pass0 (pa_cons (pv 1) pa_nil)))
      (pss_cons (ps_asg (pe_fn F_law_pair hr pass0 (pa_cons (pv 2) (pa_cons pe_bl pa_nil))) (pg_tup rfl (pgs_cons (pg_name (i := 3) scLaw.nd rfl (.inl rfl)) (pgs_cons (pg_name (i := 4) scLaw.nd rfl (.inl rfl)) pgs_nil))))
      (pss_cons (ps_set (i := 5) scLaw.nd rfl (.inl rfl) (pe_fn F_law_take hr pass0 (pa_cons (pv 2) (pa_cons (pe_op op_add (pe_lenL B.len (pv 4)) pe_int) pa_nil))))
      (pss_cons (ps_set (i := 6) scLaw.nd rfl (.inl rfl) (pe_op op_cat (pe_op op_rep (pv 4) (pe_op op_add pe_int (pe_fn F_law_take hr pass0 (pa_cons (pv 2) (pa_cons pe_int pa_nil))))) (pe_slice sl_list (pv 4) po_none (po_some (pv 5)))))
      (pss_one (ps_for PassesOwn.never rfl (pi_list (pe_lst (pa_cons (pv 3) (pa_cons (pe_slice sl_list (pv 3) po_none (po_some pe_int)) (pa_cons (pe_slice sl_list (pv 6) po_none (po_some pe_int)) (pa_cons (pe_slice sl_list (pe_op op_cat (pe_slice sl_list (pv 4) (po_some (pv 5)) po_none) (pv 6)) po_none (po_some pe_int)) pa_nil)))))) (pg_name (i := 7) scLaw.nd rfl (.inl rfl))
      (pss_one (ps_if (PW.pt (pw_and (pt_cmpR (op_neLS (by exact hr)) (pv 7) (pe_lst pa_nil) (nomark _)) (pw_and1 (pt_not (pt_val (pe_fn F_law_right hr pass0 (pa_cons (pv 7) pa_nil))))))) (pss_one (ps_ret pe_bl)) pss_nil)))))))))
      (pss_one (ps_ret pe_bl))), ?_⟩
    refine seq_for (dcells (K := K) (n := 3) rfl hS (by decide) (by decide) fun b cs H1 hb1 _ => ?_)
    refine for_listA (K := K) (a := b) (xs := cs.map V.int) (fun i σ H2 => H2 b = some (.lst (cs.map V.int)) ∧ ∃ v1 v2 v3 v4 v5 v6 v7, σ = [some (.ref a), v1, v2, v3, v4, v5, v6, v7]) ⟨hb1, _, _, _, _, _, _, _, rfl⟩ (fun i σ H2 _ h2 => SqL.of h2.1) ?_ ?_
    · rintro D1 i x σ H2 nx1 hx ⟨hb2, v1, v2, v3, v4, v5, v6, v7, rfl⟩
      obtain ⟨c, rfl⟩ := int_item hx
      refine fseq_set ⟨_, rfl, c, rfl, fun p H3 hp0 hp3 s3 => ?_⟩
      have hb3 := s3 _ _ hb2
      have nb : b ≠ p := ne_of_none hb2 hp0
      refine seq_asg2 ⟨_, rfl, p, rfl, hp3, fun t u ta ua g H4 hta0 hua0 hg0 hta hua hg lt t1 tl lu u1 ul hp4 k4 => ?_⟩
      have hb4 := k4 _ _ hb3 nb
      refine ⟨g, _, rfl, SqT.of hg, rfl, _, _, rfl, _, _, rfl, rfl, ?_⟩
      refine fseq_set ⟨_, rfl, _, rfl, ua, _, rfl, SqL.of hua, _, _, rfl, rfl, p, _, rfl, hp4, by rw [List.length_map]; omega, fun at_ H5 a0 a1 hp5 k5 => ?_⟩
      rw [List.length_map] at a1
      have hb5 := k5 _ _ hb4 nb
      have hua5 := k5 _ _ hua (hand_ne hp4 hua)
      have hta5 := k5 _ _ hta (hand_ne hp4 hta)
      refine fseq_set ⟨_, rfl, _, rfl, p, 4, rfl, hp5, by decide, fun r H6 r0 r1 hp6 k6 => ?_⟩
      have hb6 := k6 _ _ hb5 nb
      have hua6 := k6 _ _ hua5 (hand_ne hp5 hua5)
      have hta6 := k6 _ _ hta5 (hand_ne hp5 hta5)
      have rl : (1 + r).toNat ≤ 4 := by omega
      have rlen := rep_len (1 + r).toNat u
      have rl2 : (1 + r).toNat * u.length ≤ 200 := Nat.le_trans (Nat.mul_le_mul rl ul) (by decide)
      refine ⟨_, _, rfl, rfl, ua, 1 + r, _, rfl, rfl, hua6, by omega, by omega, by rw [List.length_map, Nat.mul_comm]; exact sz (by omega), fun l1 hl1 => ?_⟩
      rw [rep_sg]
      have s7 := Same.upd (o := .lst ((List.replicate (1 + r).toNat u).flatten.map sg)) hl1
      have hl17 := upd_same (H := H6) (a := l1) (o := .lst ((List.replicate (1 + r).toNat u).flatten.map sg))
      have lrep : Low (List.replicate (1 + r).toNat u).flatten := lu.rep _
      generalize (List.replicate (1 + r).toNat u).flatten = rp at rlen s7 hl17 lrep ⊢
      generalize L2.upd H6 l1 (.lst (rp.map sg)) = H7 at s7 hl17 ⊢
      refine ⟨_, rfl, _, rfl, _, rfl, ua, _, rfl, SqL.of (s7 _ _ hua6), fun l2 hl2 => ?_⟩
      rw [cut_hi (by omega)]
      have s8 := Same.upd (o := .lst ((u.take at_.toNat).map sg)) hl2
      refine cat_sg (s8 _ _ hl17) upd_same (by rw [List.length_take]; omega) fun to hto => ?_
      have s69 := (s7.trans s8).trans (Same.upd (o := .lst ((rp ++ u.take at_.toNat).map sg)) hto)
      have hto9 := upd_same (H := L2.upd H7 l2 (.lst ((u.take at_.toNat).map sg))) (a := to) (o := .lst ((rp ++ u.take at_.toNat).map sg))
      have ltold : Low (rp ++ u.take at_.toNat) := lrep.app (lu.take _)
      have toll : (rp ++ u.take at_.toNat).length ≤ 250 := by rw [List.length_append, List.length_take]; omega
      generalize rp ++ u.take at_.toNat = told at s69 hto9 ltold toll ⊢
      generalize L2.upd (L2.upd H7 l2 (.lst ((u.take at_.toNat).map sg))) to (.lst (told.map sg)) = H9 at s69 hto9 ⊢
      have hb9 := s69 _ _ hb6
      have hua9 := s69 _ _ hua6
      have hta9 := s69 _ _ hta6
      refine one_for ⟨_, rfl, _, rfl, 9, rfl, ta, _, rfl, SqL.of hta9, fun l3 hl3 => ?_⟩
      rw [cut_hi (by decide)]
      have s10 := Same.upd (o := .lst ((t.take (9 : Int).toNat).map sg)) hl3
      have hl310 := upd_same (H := H9) (a := l3) (o := .lst ((t.take (9 : Int).toNat).map sg))
      generalize L2.upd H9 l3 (.lst ((t.take (9 : Int).toNat).map sg)) = H10 at s10 hl310 ⊢
      refine ⟨_, rfl, 40, rfl, to, _, rfl, SqL.of (s10 _ _ hto9), fun l4 hl4 => ?_⟩
      rw [cut_hi (by decide)]
      have s11 := Same.upd (o := .lst ((told.take (40 : Int).toNat).map sg)) hl4
      have hl411 := upd_same (H := H10) (a := l4) (o := .lst ((told.take (40 : Int).toNat).map sg))
      generalize L2.upd H10 l4 (.lst ((told.take (40 : Int).toNat).map sg)) = H11 at s11 hl411 ⊢
      have s911 := s10.trans s11
      refine ⟨_, rfl, _, rfl, _, rfl, ua, _, rfl, SqL.of (s911 _ _ hua9), fun l5 hl5 => ?_⟩
      rw [cut_lo (by omega)]
      have s12 := Same.upd (o := .lst ((u.drop at_.toNat).map sg)) hl5
      refine ⟨_, rfl, cat_sg upd_same (s12 _ _ (s911 _ _ hto9)) (by rw [List.length_drop]; omega) fun l6 hl6 => ?_⟩
      have s13 := s12.trans (Same.upd (o := .lst ((u.drop at_.toNat ++ told).map sg)) hl6)
      have hl613 := upd_same (H := L2.upd H11 l5 (.lst ((u.drop at_.toNat).map sg))) (a := l6) (o := .lst ((u.drop at_.toNat ++ told).map sg))
      generalize L2.upd (L2.upd H11 l5 (.lst ((u.drop at_.toNat).map sg))) l6 (.lst ((u.drop at_.toNat ++ told).map sg)) = H13 at s13 hl613 ⊢
      refine ⟨40, rfl, l6, _, rfl, SqL.of hl613, fun l7 hl7 => ?_⟩
      rw [cut_hi (by decide)]
      have s14 := Same.upd (o := .lst (((u.drop at_.toNat ++ told).take (40 : Int).toNat).map sg)) hl7
      have hl714 := upd_same (H := H13) (a := l7) (o := .lst (((u.drop at_.toNat ++ told).take (40 : Int).toNat).map sg))
      generalize L2.upd H13 l7 (.lst (((u.drop at_.toNat ++ told).take (40 : Int).toNat).map sg)) = H14 at s14 hl714 ⊢
      have s1114 := s13.trans s14
      have s914 := s911.trans s1114
      refine ⟨by show 4 ≤ sizeLine; decide, fun l8 hl8 => ?_⟩
      have X14 : TL H14 [.ref ta, .ref l3, .ref l4, .ref l7] := .cons (s914 _ _ hta9) lt (by omega) (.cons (s1114 _ _ (s11 _ _ hl310)) (lt.take _) (by rw [List.length_take]; omega) (.cons (s1114 _ _ hl411) (ltold.take _) (by rw [List.length_take]; omega) (.cons hl714 (((lu.drop _).app ltold).take _) (by rw [List.length_take, show (40 : Int).toNat = 40 from rfl]; omega) .nil)))
      have s15 := Same.upd (o := .lst [V.ref ta, .ref l3, .ref l4, .ref l7]) hl8
      have hl815 := upd_same (H := H14) (a := l8) (o := .lst [V.ref ta, .ref l3, .ref l4, .ref l7])
      have X15 := X14.same s15
      have hb15 := s15 _ _ (s914 _ _ hb9)
      generalize L2.upd H14 l8 (.lst [V.ref ta, .ref l3, .ref l4, .ref l7]) = H15 at s15 hl815 X15 hb15 ⊢
      generalize [V.ref ta, .ref l3, .ref l4, .ref l7] = xs at hl815 X15 ⊢
      refine ⟨l8, rfl, ⟨_, SqL.of hl815⟩, for_listA (K := K) (a := l8) (xs := xs) (fun j σ H16 => Same H15 H16 ∧ ∃ v7, σ = [some (.ref a), some (.int c), some (.ref p), some (.ref ta), some (.ref ua), some (.int at_), some (.ref to), v7]) ⟨Same.refl _, _, rfl⟩ (fun j σ H16 _ h => SqL.of (h.1 _ _ hl815)) ?_ ?_⟩
      · rintro D2 j y σ H16 nx2 hy ⟨s16, w7, rfl⟩
        obtain ⟨z, v, rfl, hz, lv, vl⟩ := X15 y (List.mem_of_getElem? hy)
        have hz16 := s16 _ _ hz
        refine one_ifF (fun R hR => ?_) fun H17 s17 => nx2 _ _ ⟨s16.trans s17, _, rfl⟩
        refine ⟨_, rfl, Nat.zero_le _, fun e0 he0 => ?_⟩
        have s17 := Same.upd (o := .lst []) he0
        refine ⟨z, e0, v, [], rfl, rfl, SqL.of (s17 _ _ hz16), SqL.of upd_same, lv.cp, Low.nil.cp, ?_⟩
        by_cases ve : v = []
        · rw [if_pos rfl, decide_eq_true ve]
          exact ⟨_, rfl, iteF (hR _ s17)⟩
        · rw [if_pos rfl, decide_eq_false ve]
          have v1 : 1 ≤ v.length := by
            cases v with
            | nil => exact absurd rfl ve
            | cons _ _ => simp
          exact ⟨_, rfl, iteT ⟨_, rfl, z, v, rfl, s17 _ _ hz16, lv, v1, vl, fun H18 s18 => ⟨_, rfl, hR _ (s17.trans s18)⟩⟩⟩
      · rintro σ H16 ⟨s16, w7, rfl⟩
        exact nx1 _ _ ⟨s16 _ _ hb15, _, _, _, _, _, _, _, rfl⟩
    · rintro σ H2 ⟨hb2, v1, v2, v3, v4, v5, v6, v7, rfl⟩
      exact k H2
end

end Ov

namespace Ov
open PySem L2
theorem all_mk {P : Program} {w : World} {K : PySem.W.Frag} {h : Heap} {mg : Str → Option Value} {fa : Addr} (X : K.In h) (G : h.Ns mainGlobals mg) (hfa : mg "law" = some (.ref fa))
    (f1 : FF K "_law_cell_at" sCellAt) (f2 : FF K "_law_deck" sDeck) (f3 : FF K "_law_take" sTake) (f4 : FF K "_law_letters" sLetters) (f5 : FF K "_law_signs" sSigns) (f6 : FF K "_law_word" sWord) (f7 : FF K "_law_overlaid" sOverlaid) (f8 : FF K "_law_bent" sBent) (f9 : FF K "_law_pair" sPair) (f10 : FF K "is_sign" sIsSign) (f11 : FF K "check_signs" sCheck) (f12 : FF K "check_word" sCheckWord) (f13 : FF K "check_some" sCheckSome) (f14 : FF K "check_both" sCheckBoth) (f15 : FF K "agrees_at" sAgrees) (f16 : FF K "agreeing_places" sAgreeing) (f17 : FF K "first_bare" sFirstBare) (f18 : FF K "leaves_none_bare" sNoneBare) (f19 : FF K "rest_behind" sBehind) (f20 : FF K "rest_ahead" sAhead) (f21 : FF K "beginnings_with_rest" sBeg) (f22 : FF K "ends_with_rest" sEnd) (f23 : FF K "_law_is_covered" sIsCov) (f24 : FF K "_law_by_trial" sTrial) (f25 : FF K "_law_rest" sRest) (f26 : FF K "_law_due" sDue) (f27 : FF K "_law_right" sRight) (f28 : FF K "law" sLaw) (b : Md K mg → Bl mg) :
    ∃ fd : FuncData, (∀ (s : Shared) (v : Value), BindsTo s fd ⟨[v], []⟩ [("script", v)]) ∧ ∀ base : Heap, K.In base → base.Ns mainGlobals mg → FnOk P w K mg base CX0 8 fa fd ["script"] (spLaw K) := by
  have M := md_of X G
  have Bl := b M
  refine law_of M f28 hfa (fun _ _ _ _ _ _ s v => .of_eq rfl) fun base => ?_
  have g1 := ok_cell_at (P := P) (w := w) (base := base) M Bl f1
  have g2 := ok_deck (P := P) (w := w) (base := base) M Bl f2
  have g3 := ok_take (P := P) (w := w) (base := base) M f3
  have g4 := ok_letters M Bl f4 g3
  have g5 := ok_signs M Bl f5 g3
  have g6 := ok_word M Bl f6 g3 g5
  have g7 := ok_overlaid M Bl f7 g3 g5
  have g8 := ok_bent M Bl f8 g3 g5
  have g9 := ok_pair M Bl f9 g3 g4 g6 g7 g8
  have g10 := ok_is_sign (P := P) (w := w) (base := base) M Bl f10
  have g11 := ok_check M Bl f11 g10
  have g12 := ok_check_word M Bl f12 g11
  have g13 := ok_check_some (P := P) (w := w) (base := base) M Bl f13
  have g14 := ok_check_both M Bl f14 g11 g12 g13
  have g15 := ok_agrees (P := P) (w := w) (base := base) M Bl f15
  have g16 := ok_agreeing M Bl f16 g15
  have g17 := ok_first_bare (P := P) (w := w) (base := base) M Bl f17
  have g18 := ok_none_bare M Bl f18 g17
  have g19 := ok_behind M Bl f19 g14 g18 g16
  have g20 := ok_ahead M Bl f20 g14 g18 g16
  have g21 := ok_beg M Bl f21 g11 g13 g19
  have g22 := ok_end M Bl f22 g11 g13 g20
  have g23 := ok_is_cov (P := P) (w := w) (base := base) M Bl f23
  have g24 := ok_trial M Bl f24 g23
  have g25 := ok_rest (P := P) (w := w) (base := base) M Bl f25
  have g26 := ok_due M Bl f26 g25
  have g27 := ok_right M Bl f27 g26 g24 g21 g22
  exact ok_law M Bl f28 g1 g2 g3 g9 g27

end Ov

namespace Ov
open PySem L2
theorem walk {l : PySem.W.OpenLaw} {q : Program} {loose : List Str} {XP : (Str → Option Value) → Heap → Prop} {YP : World → Heap → Prop} {d : DefRec} {K : Params → PySem.W.Frag} (hn : l.most = some 63) (hdf : d.params.defaults = [])
    (hY : ∀ (w : World) (h : Heap), YP w h → (K w.params).In h)
    (F : ∀ (w : World) (mg : Str → Option Value) (fa : Addr) (h : Heap), (K w.params).In h → h.Ns mainGlobals mg → mg d.name = some (.ref fa) →
      ∃ fd : FuncData, (∀ (s : Shared) (u : Value), BindsTo s fd ⟨[u], []⟩ [("script", u)]) ∧ ∀ base : Heap, (K w.params).In base → base.Ns mainGlobals mg → FnOk l.prog w (K w.params) mg base CX0 8 fa fd ["script"] (spLaw (K w.params))) :
    PySem.W.WalkO q loose XP YP l.row.toRowW d [] (fun f vs => PySem.call f vs) :=
  L2.walk_of (n := 63) (k := 8) (x := "script") (CX := fun _ => CX0) (sp := fun w => spLaw (K w.params)) hn (by decide) hdf ⟨rfl, by decide, by decide⟩ hY F (fun _ _ a ns hl _ hS => ⟨a, ns, rfl, hS, hl, fun _ => rfl⟩) fun _ _ _ _ _ z => z

end Ov


open PySem PySem.W PyProof.Rows
set_option maxRecDepth 100000 in
set_option maxHeartbeats 0 in
theorem PySem.Challenge.cw_overlaid_k18_beginnings_and_ends_with_re_holds : PySem.Challenge.rw_overlaid_k18_beginnings_and_ends_with_re.Holds := by
  w_on; o_law; k_head; (case hw => w_witness2)
  k_fill
  refine Ov.walk (l := PySem.Challenge.rw_overlaid_k18_beginnings_and_ends_with_re) rfl rfl (fun w h Y => PySem.W.kIn_of Y) ?F
  case F =>
    intro w mg fa h KX G hmg
    refine' Ov.all_mk KX G hmg ?f1 ?f2 ?f3 ?f4 ?f5 ?f6 ?f7 ?f8 ?f9 ?f10 ?f11 ?f12 ?f13 ?f14 ?f15 ?f16 ?f17 ?f18 ?f19 ?f20 ?f21 ?f22 ?f23 ?f24 ?f25 ?f26 ?f27 ?f28 ?B
    (case f1 => (refine' L2.ff_mk ?a ?l ?c ?k; (case a => k_is); (case l => k_is); (case c => k_is); (case k => k_is)))
    (case f2 => (refine' L2.ff_mk ?a ?l ?c ?k; (case a => k_is); (case l => k_is); (case c => k_is); (case k => k_is)))
    (case f3 => (refine' L2.ff_mk ?a ?l ?c ?k; (case a => k_is); (case l => k_is); (case c => k_is); (case k => k_is)))
    (case f4 => (refine' L2.ff_mk ?a ?l ?c ?k; (case a => k_is); (case l => k_is); (case c => k_is); (case k => k_is)))
    (case f5 => (refine' L2.ff_mk ?a ?l ?c ?k; (case a => k_is); (case l => k_is); (case c => k_is); (case k => k_is)))
    (case f6 => (refine' L2.ff_mk ?a ?l ?c ?k; (case a => k_is); (case l => k_is); (case c => k_is); (case k => k_is)))
    (case f7 => (refine' L2.ff_mk ?a ?l ?c ?k; (case a => k_is); (case l => k_is); (case c => k_is); (case k => k_is)))
    (case f8 => (refine' L2.ff_mk ?a ?l ?c ?k; (case a => k_is); (case l => k_is); (case c => k_is); (case k => k_is)))
    (case f9 => (refine' L2.ff_mk ?a ?l ?c ?k; (case a => k_is); (case l => k_is); (case c => k_is); (case k => k_is)))
    (case f10 => (refine' L2.ff_mk ?a ?l ?c ?k; (case a => k_is); (case l => k_is); (case c => k_is); (case k => k_is)))
    (case f11 => (refine' L2.ff_mk ?a ?l ?c ?k; (case a => k_is); (case l => k_is); (case c => k_is); (case k => k_is)))
    (case f12 => (refine' L2.ff_mk ?a ?l ?c ?k; (case a => k_is); (case l => k_is); (case c => k_is); (case k => k_is)))
    (case f13 => (refine' L2.ff_mk ?a ?l ?c ?k; (case a => k_is); (case l => k_is); (case c => k_is); (case k => k_is)))
    (case f14 => (refine' L2.ff_mk ?a ?l ?c ?k; (case a => k_is); (case l => k_is); (case c => k_is); (case k => k_is)))
    (case f15 => (refine' L2.ff_mk ?a ?l ?c ?k; (case a => k_is); (case l => k_is); (case c => k_is); (case k => k_is)))
    (case f16 => (refine' L2.ff_mk ?a ?l ?c ?k; (case a => k_is); (case l => k_is); (case c => k_is); (case k => k_is)))
    (case f17 => (refine' L2.ff_mk ?a ?l ?c ?k; (case a => k_is); (case l => k_is); (case c => k_is); (case k => k_is)))
    (case f18 => (refine' L2.ff_mk ?a ?l ?c ?k; (case a => k_is); (case l => k_is); (case c => k_is); (case k => k_is)))
    (case f19 => (refine' L2.ff_mk ?a ?l ?c ?k; (case a => k_is); (case l => k_is); (case c => k_is); (case k => k_is)))
    (case f20 => (refine' L2.ff_mk ?a ?l ?c ?k; (case a => k_is); (case l => k_is); (case c => k_is); (case k => k_is)))
    (case f21 => (refine' L2.ff_mk ?a ?l ?c ?k; (case a => k_is); (case l => k_is); (case c => k_is); (case k => k_is)))
    (case f22 => (refine' L2.ff_mk ?a ?l ?c ?k; (case a => k_is); (case l => k_is); (case c => k_is); (case k => k_is)))
    (case f23 => (refine' L2.ff_mk ?a ?l ?c ?k; (case a => k_is); (case l => k_is); (case c => k_is); (case k => k_is)))
    (case f24 => (refine' L2.ff_mk ?a ?l ?c ?k; (case a => k_is); (case l => k_is); (case c => k_is); (case k => k_is)))
    (case f25 => (refine' L2.ff_mk ?a ?l ?c ?k; (case a => k_is); (case l => k_is); (case c => k_is); (case k => k_is)))
    (case f26 => (refine' L2.ff_mk ?a ?l ?c ?k; (case a => k_is); (case l => k_is); (case c => k_is); (case k => k_is)))
    (case f27 => (refine' L2.ff_mk ?a ?l ?c ?k; (case a => k_is); (case l => k_is); (case c => k_is); (case k => k_is)))
    (case f28 => (refine' L2.ff_mk ?a ?l ?c ?k; (case a => k_is); (case l => k_is); (case c => k_is); (case k => k_is)))
    (case B => (intro M; refine' L2.bl_of M ?b1 ?b2 ?b3 ?b4 ?b5 ?b6 ?b7 ?b8 ?b9 ?b10 ?b11 ?b12 ?b13 ?b14 ?b15; (case b1 => k_is); (case b2 => k_is); (case b3 => k_is); (case b4 => k_is); (case b5 => k_is); (case b6 => k_is); (case b7 => k_is); (case b8 => k_is); (case b9 => k_is); (case b10 => k_is); (case b11 => k_is); (case b12 => k_is); (case b13 => k_is); (case b14 => k_is); (case b15 => k_is)))
