import PyProof.Rows.All
import Wide.All
import OpenK.AllK
import Wide.FinOn
import Lean
import PyProof.EqAt
import PyProof.EqKinds
import PyProof.TupleCall
import PySem.Challenge.RW_glowboard_k14_changes
set_option Elab.async false
set_option linter.all false
set_option maxRecDepth 100000
/-! THE HAND LAYER, for ints, bools, texts, own classes, LISTS and tuples (index, slices, in, append, pop ..), calls, loops. Paste it whole ahead of your own text; what your proof does not reach may be deleted. -/
namespace L2
open PySem PySem.Spec PyProof.Rows

/-- a key: an int or a str -/
abbrev Key := Sum Int Str
def keyIs : Key → Value → Bool
  | .inl k, v => Value.isInt k v
  | .inr x, v => Value.isStrOf x v
def keyH (w : World) : Key → Int
  | .inl k => hashInt k
  | .inr x => hashStr w x
theorem keyIs_shape : ∀ {k : Key} {v : Value}, keyIs k v = true → (∃ i t, k = Sum.inl i ∧ v = Value.int i t) ∨ (∃ x t, k = Sum.inr x ∧ v = Value.str x t)
  | .inl i, v, h => by
    obtain ⟨t, e⟩ := Value.isInt_shape (k := i) (v := v) h
    exact .inl ⟨i, t, rfl, e⟩
  | .inr x, v, h => by
    obtain ⟨t, e⟩ := Value.isStrOf_shape (x := x) (v := v) h
    exact .inr ⟨x, t, rfl, e⟩
theorem keyIs_int (i : Int) (t : Tok) : keyIs (.inl i) (.int i t) = true := by simp [keyIs, Value.isInt]
theorem keyIs_str (x : Str) (t : Tok) : keyIs (.inr x) (.str x t) = true := by simp [keyIs, Value.isStrOf]
theorem key_ll (a b : Int) : decide ((Sum.inl a : Key) = Sum.inl b) = (a == b) := by
  by_cases e : a = b
  · subst e; simp
  · have h : ¬ (Sum.inl a : Key) = Sum.inl b := fun q => e (Sum.inl.inj q)
    rw [decide_eq_false h]
    exact (beq_eq_false_iff_ne.mpr e).symm
theorem key_rr (a b : Str) : decide ((Sum.inr a : Key) = Sum.inr b) = decide (a = b) := by
  by_cases e : a = b
  · subst e; simp
  · have h : ¬ (Sum.inr a : Key) = Sum.inr b := fun q => e (Sum.inr.inj q)
    rw [decide_eq_false h, decide_eq_false e]
theorem key_lr (a : Int) (b : Str) : decide ((Sum.inl a : Key) = Sum.inr b) = false := decide_eq_false (fun q => nomatch q)
theorem key_rl (a : Str) (b : Int) : decide ((Sum.inr a : Key) = Sum.inl b) = false := decide_eq_false (fun q => nomatch q)

def mixKind (prog : Program) (w : World) : PySem.KeyKind prog w Key where
  is := keyIs
  hash := keyH w
  inj := fun v a b ha hb => by
    rcases keyIs_shape ha with ⟨i, t, rfl, rfl⟩ | ⟨x, t, rfl, rfl⟩
    · rcases keyIs_shape hb with ⟨j, u, rfl, e⟩ | ⟨y, u, rfl, e⟩
      · injection e with e1 _; rw [e1]
      · exact nomatch e
    · rcases keyIs_shape hb with ⟨j, u, rfl, e⟩ | ⟨y, u, rfl, e⟩
      · exact nomatch e
      · injection e with e1 _; rw [e1]
  byValue := fun k v h => by
    rcases keyIs_shape h with ⟨i, t, rfl, rfl⟩ | ⟨x, t, rfl, rfl⟩ <;> rfl
  pyHash := fun hv h => by
    rcases keyIs_shape hv with ⟨i, t, rfl, rfl⟩ | ⟨x, t, rfl, rfl⟩
    · exact wpAny_pyHash_int h
    · exact wpAny_pyHash_str h
  eqBool := fun hu hv h => by
    rcases keyIs_shape hu with ⟨i, t, rfl, rfl⟩ | ⟨x, t, rfl, rfl⟩
    · rcases keyIs_shape hv with ⟨j, u, rfl, rfl⟩ | ⟨y, u, rfl, rfl⟩
      · rw [key_ll] at h; exact wpAny_eqBool_int h
      · rw [key_lr] at h; exact SeqAt.EqAt.int_str i t y u _ _ _ _ h
    · rcases keyIs_shape hv with ⟨j, u, rfl, rfl⟩ | ⟨y, u, rfl, rfl⟩
      · rw [key_rl] at h; exact SeqAt.EqAt.str_int x t j u _ _ _ _ h
      · rw [key_rr] at h; exact wpAny_eqBool_str h
  «strs» := fun k x t v h => by
    rcases keyIs_shape h with ⟨i, u, rfl, e⟩ | ⟨y, u, rfl, e⟩
    · exact nomatch e
    · injection e with e1 _
      subst e1
      cases v <;> rfl

theorem mixKind_int (prog : Program) (w : World) (i : Int) (t : Tok) : (mixKind prog w).is (.inl i) (.int i t) = true := keyIs_int i t
theorem mixKind_str (prog : Program) (w : World) (x : Str) (t : Tok) : (mixKind prog w).is (.inr x) (.str x t) = true := keyIs_str x t
end L2

namespace L2
open PySem PySem.Spec PyProof.Rows

/-- a value, without the heap -/
inductive V where
  | non | bl (b : Bool) | int (i : Int) | str (x : Str) | byt (b : Array UInt8) | flt (b : UInt64) | ref (a : Addr) | ty (n : String)
  deriving DecidableEq

def RelV : V → Value → Prop
  | .non, u => u = Value.none
  | .bl b, u => u = Value.bool b
  | .int i, u => ∃ t, u = Value.int i t
  | .str x, u => ∃ t, u = Value.str x t
  | .byt b, u => ∃ t, u = Value.bytes b t
  | .flt b, u => ∃ t, u = Value.float b t
  | .ref a, u => u = Value.ref a
  | .ty n, u => u = Value.type n

abbrev Vals : List V → List Value → Prop := Paired RelV
theorem Vals.length {xs : List V} {us : List Value} (r : Vals xs us) : xs.length = us.length := Paired.length r
theorem Vals.get : ∀ {xs : List V} {us : List Value} {i : Nat} {x : V}, Vals xs us → xs[i]? = some x → ∃ u, us[i]? = some u ∧ RelV x u
  | _, _, _, _, .nil, e => by simp at e
  | _, _, 0, _, .cons r _, e => by simp at e; subst e; exact ⟨_, rfl, r⟩
  | _, _, i + 1, x, .cons _ t, e => by
    obtain ⟨u, h1, h2⟩ := Vals.get (i := i) (x := x) t (by simpa using e)
    exact ⟨u, by simpa using h1, h2⟩
theorem Vals.set {x : V} {u : Value} (r : RelV x u) : ∀ {xs : List V} {us : List Value} (i : Nat), Vals xs us → Vals (xs.set i x) (us.set i u)
  | _, _, _, .nil => .nil
  | _, _, 0, .cons _ t => .cons r t
  | _, _, i + 1, .cons q t => .cons q (Vals.set r i t)
theorem Vals.append : ∀ {xs ys : List V} {us ws : List Value}, Vals xs us → Vals ys ws → Vals (xs ++ ys) (us ++ ws)
  | _, _, _, _, .nil, s => s
  | _, _, _, _, .cons r t, s => .cons r (Vals.append t s)
theorem Vals.take : ∀ {xs : List V} {us : List Value} (n : Nat), Vals xs us → Vals (xs.take n) (us.take n)
  | _, _, 0, _ => .nil
  | _, _, _ + 1, .nil => .nil
  | _, _, n + 1, .cons r t => .cons r (Vals.take n t)
theorem Vals.drop : ∀ {xs : List V} {us : List Value} (n : Nat), Vals xs us → Vals (xs.drop n) (us.drop n)
  | _, _, 0, r => r
  | _, _, _ + 1, .nil => .nil
  | _, _, n + 1, .cons _ t => Vals.drop n t
def RelO : Option V → Option Value → Prop
  | some v, some u => RelV v u
  | none, none => True
  | _, _ => False
def KV {κ : Type} : List (κ × V) → List (κ × Value) → Prop := Paired fun (p : κ × V) (q : κ × Value) => p.1 = q.1 ∧ RelV p.2 q.2

/-- a key of a dict (00_mix): an int or a text -/
def kV : Key → V
  | .inl i => .int i
  | .inr x => .str x

/-- what stands at a tracked address -/
inductive HO where
  /-- a list -/
  | lst (xs : List V)
  /-- a tuple (never changes) -/
  | tup (xs : List V)
  /-- a dict whose keys are ints and texts; one whose keys are tuples of ints and texts (the empty one is both) -/
  | dK (kvs : List (Key × V)) | dT (kvs : List (List Key × V))
  /-- a set of ints: its members, its size -/
  | set (S : Int → Bool) (n : Nat)
  /-- an instance of the class at C, its dict at dx, its attributes -/
  | ins (C dx : Addr) (fs : List (Str × V))
  /-- the dict of the instance at x -/
  | own (x : Addr)
  /-- the dict of an exception -/
  | xd (fs : List (Str × V))
  /-- a bound method, f of x -/
  | met (f x : Addr)
  /-- a range object lo, lo + 1, .. below hi -/
  | rng (lo hi : Int)
  /-- a thing that is known to the object (the script; a dict while a loop walks it): read, never written while it is so -/
  | frz (o : Obj) (u : HO)
  /-- a code object's table -/
  | tbl (ps : Array Value)
  /-- any other thing, by what is true of its one object (a def of one's own: SetO a S n := HO.ext fun h => ..) -/
  | ext (φ : Heap → Prop)

abbrev Hp := Addr → Option HO
def upd (H : Hp) (a : Addr) (o : HO) : Hp := fun b => if b = a then some o else H b
theorem upd_same {H : Hp} {a : Addr} {o : HO} : upd H a o a = some o := by unfold upd; rw [if_pos rfl]
theorem upd_ne {H : Hp} {a b : Addr} {o : HO} (h : b ≠ a) : upd H a o b = H b := by unfold upd; rw [if_neg h]
/-- two objects of different content stand apart -/
theorem ne_of {H : Hp} {a b : Addr} {o u : HO} (h : H a = some o) (h' : H b = some u) (d : o ≠ u) : a ≠ b := by
  intro e; subst e; rw [h] at h'; exact d (Option.some.inj h')
theorem ne_of_none {H : Hp} {a b : Addr} {o : HO} (h : H a = some o) (h' : H b = none) : a ≠ b := by
  intro e; subst e; rw [h] at h'; cases h'

section
variable (P : Program) (w : World)
def ObjOk (H : Hp) (h : Heap) (a : Addr) : HO → Prop
  | .lst xs => xs.length ≤ sizeLine ∧ ∃ (its : List Value) (n : Nat), Vals xs its ∧ h.get? a = some { cls := .type "list", data := .seq its.toArray n }
  | .tup xs => xs.length ≤ sizeLine ∧ ∃ its : List Value, Vals xs its ∧ IsTup h a its.toArray
  | .dK kvs => kvs.length ≤ sizeLine ∧ (a == sysModules) = false ∧ ∃ vs, KV kvs vs ∧ h.DictOf (mixKind P w) a vs
  | .dT kvs => kvs.length ≤ sizeLine ∧ (a == sysModules) = false ∧ ∃ xs : List (List Key × Addr × Value),
      Paired (fun (p : List Key × V) (q : List Key × Addr × Value) => p.1 = q.1 ∧ H q.2.1 = some (.tup (p.1.map kV)) ∧ RelV p.2 q.2.2) kvs xs ∧
      ∃ o es ep, h.get? a = some o ∧ o.ExactDict ∧ o.data = .dict es ep ∧ es.toList = xs.map (entryOfKey (tupleKind (mixKind P w))) ∧ (xs.map (·.1)).Nodup
  | .set S n => h.SetOf (intKind P w) a S n
  | .ins C dx fs => H dx = some (.own a) ∧ fs.length ≤ 1000 ∧ dx ≠ a ∧ h.get? a = some (PySem.W.instObj C dx) ∧
      ∃ mA, h.Ns1 dx mA ∧ (∀ f, RelO (fs.lookup f) (mA f)) ∧ PySem.Within mA (fs.map (·.1))
  | .own _ => ∃ o, h.get? a = some o
  | .xd fs => ∃ mA, h.Ns1 a mA ∧ ∀ f, RelO (fs.lookup f) (mA f)
  | .rng lo hi => ∃ t u v, h.get? a = some { cls := .type "range", data := .fields #[.int lo t, .int hi u, .int 1 v] }
  | .frz o u => h.get? a = some o ∧ ObjOk H h a u
  | .tbl ps => h.get? a = some { cls := .none, data := .fields ps }
  | .met f x => h.get? a = some (PySem.W.methodObj (.ref f) (.ref x))
  | .ext φ => φ h ∧ (∃ o, h.get? a = some o) ∧ ∀ h1 h2 : Heap, φ h1 → (∀ o, h1.get? a = some o → h2.get? a = some o) → φ h2
/-- the abstract heap is held -/
def HOk (H : Hp) (h : Heap) : Prop := ∀ a o, H a = some o → ObjOk P w H h a o
end

section
variable {P : Program} {w : World} {H H' : Hp} {h h' : Heap} {a : Addr} {o : HO}
theorem ObjOk.lt (x : ObjOk P w H h a o) : a < h.objs.size := by
  cases o with
  | lst xs => obtain ⟨_, _, _, _, e⟩ := x; exact Heap.lt_size e
  | tup xs => obtain ⟨_, _, _, p⟩ := x; exact p.lt
  | dK kvs => obtain ⟨_, _, _, _, o, _, _, e, _⟩ := x; exact Heap.lt_size e
  | dT kvs => obtain ⟨_, _, _, _, o, _, _, e, _⟩ := x; exact Heap.lt_size e
  | set S n => obtain ⟨o, _, _, _, e, _⟩ := x; exact Heap.lt_size e
  | ins C dx fs => obtain ⟨_, _, _, e, _⟩ := x; exact Heap.lt_size e
  | own y => obtain ⟨_, e⟩ := x; exact Heap.lt_size e
  | xd fs => obtain ⟨_, ⟨_, _, _, e, _⟩, _⟩ := x; exact Heap.lt_size e
  | rng lo hi => obtain ⟨_, _, _, e⟩ := x; exact Heap.lt_size e
  | frz ob u => obtain ⟨e, _⟩ := x; exact Heap.lt_size e
  | tbl ps => exact Heap.lt_size (show h.get? a = some _ from x)
  | met f y => exact Heap.lt_size (show h.get? a = some _ from x)
  | ext φ => obtain ⟨_, ⟨_, e⟩, _⟩ := x; exact Heap.lt_size e
theorem Paired.mapP {α β : Type} {F G : α → β → Prop} : ∀ {l₁ : List α} {l₂ : List β}, Paired F l₁ l₂ → (∀ a b, F a b → G a b) → Paired G l₁ l₂
  | _, _, .nil, _ => .nil
  | _, _, .cons r t, f => .cons (f _ _ r) (Paired.mapP t f)
/-- what an object's description leans on: its own object, its own dict, the tuples -/
theorem ObjOk.stay (x : ObjOk P w H h a o) (k : ∀ b u, (b = a ∨ H b = some (.own a)) → h.get? b = some u → h'.get? b = some u)
    (ho : ∀ b, H b = some (.own a) → H' b = some (.own a)) (ht : ∀ b xs, H b = some (.tup xs) → H' b = some (.tup xs)) : ObjOk P w H' h' a o := by
  induction o with
  | lst xs => obtain ⟨z, its, n, r, e⟩ := x; exact ⟨z, its, n, r, k _ _ (.inl rfl) e⟩
  | tup xs => obtain ⟨z, its, r, ob, e, c⟩ := x; exact ⟨z, its, r, ob, k _ _ (.inl rfl) e, c⟩
  | dK kvs => obtain ⟨z, y, vs, r, ob, es, ep, e, c⟩ := x; exact ⟨z, y, vs, r, ob, es, ep, k _ _ (.inl rfl) e, c⟩
  | dT kvs =>
    obtain ⟨z, y, xs, r, ob, es, ep, e, c⟩ := x
    exact ⟨z, y, xs, Paired.mapP r fun p q z => ⟨z.1, ht _ _ z.2.1, z.2.2⟩, ob, es, ep, k _ _ (.inl rfl) e, c⟩
  | set S n => obtain ⟨ob, es, ep, t, e, c⟩ := x; exact ⟨ob, es, ep, t, k _ _ (.inl rfl) e, c⟩
  | ins C dx fs =>
    obtain ⟨d, z, ne, e, mA, ⟨od, es, ep, e2, c⟩, r⟩ := x
    exact ⟨ho _ d, z, ne, k _ _ (.inl rfl) e, mA, ⟨od, es, ep, k _ _ (.inr d) e2, c⟩, r⟩
  | own y => obtain ⟨ob, e⟩ := x; exact ⟨ob, k _ _ (.inl rfl) e⟩
  | xd fs => obtain ⟨mA, ⟨od, es, ep, e, c⟩, r⟩ := x; exact ⟨mA, ⟨od, es, ep, k _ _ (.inl rfl) e, c⟩, r⟩
  | rng lo hi => obtain ⟨t, u, v, e⟩ := x; exact ⟨t, u, v, k _ _ (.inl rfl) e⟩
  | frz ob u ih => obtain ⟨e, q⟩ := x; exact ⟨k _ _ (.inl rfl) e, ih q⟩
  | tbl ps =>
    have e : h.get? a = some { cls := .none, data := .fields ps } := x
    show h'.get? a = some { cls := .none, data := .fields ps }
    exact k a _ (.inl rfl) e
  | met f y =>
    have e : h.get? a = some (PySem.W.methodObj (.ref f) (.ref y)) := x
    show h'.get? a = some (PySem.W.methodObj (.ref f) (.ref y))
    exact k a _ (.inl rfl) e
  | ext φ => obtain ⟨p, ⟨o, e⟩, st⟩ := x; exact ⟨st _ _ p fun o q => k _ _ (.inl rfl) q, ⟨o, k _ _ (.inl rfl) e⟩, st⟩
theorem HOk.lt (x : HOk P w H h) (e : H a = some o) : a < h.objs.size := (x a o e).lt
theorem HOk.fresh (x : HOk P w H h) (e : h.objs.size ≤ a) : H a = none := by
  cases q : H a with
  | none => rfl
  | some u => exact absurd (Nat.lt_of_lt_of_le (x.lt q) e) (Nat.lt_irrefl _)
/-- every object of the heap is kept -/
theorem HOk.kept (x : HOk P w H h) (k : ∀ b u, h.get? b = some u → h'.get? b = some u) : HOk P w H h' := fun a o e =>
  (x a o e).stay (fun b u _ q => k b u q) (fun _ q => q) fun _ _ q => q
/-- a new object is laid and tracked -/
theorem HOk.laid (x : HOk P w H h) (k : ∀ b u, h.get? b = some u → h'.get? b = some u) (hp : h.objs.size ≤ a) (new : ObjOk P w (upd H a o) h' a o) : HOk P w (upd H a o) h' := fun b u e => by
  have hn := x.fresh hp
  by_cases hb : b = a
  · subst hb; rw [upd_same] at e; cases e; exact new
  · rw [upd_ne hb] at e
    exact (x b u e).stay (fun c v _ q => k c v q) (fun c q => by rw [upd_ne (ne_of_none q hn)]; exact q) fun c xs q => by rw [upd_ne (ne_of_none q hn)]; exact q
end

/-- what may be read as u: it is u, or a known u -/
def Rd (H : Hp) (a : Addr) (u : HO) : Prop := H a = some u ∨ ∃ o, H a = some (.frz o u)
theorem Rd.of {H : Hp} {a : Addr} {u : HO} (h : H a = some u) : Rd H a u := .inl h
theorem Rd.ok {P : Program} {w : World} {H : Hp} {h : Heap} {a : Addr} {u : HO} (r : Rd H a u) (x : HOk P w H h) : ObjOk P w H h a u := by
  rcases r with r | ⟨o, r⟩
  · exact x a u r
  · obtain ⟨_, q⟩ := x a _ r
    exact q
/-- what may be written -/
def Mut : Option HO → Prop
  | some (.lst _) => True
  | some (.dK _) => True
  | some (.dT _) => True
  | some (.set _ _) => True
  | some (.ins _ _ _) => True
  | some (.ext _) => True
  | _ => False
section
variable {P : Program} {w : World} {H : Hp} {h h' : Heap} {x e : Addr} {o' : HO}
/-- the object at e is changed: x itself, or the dict of the instance x -/
theorem HOk.write (ok : HOk P w H h) (mu : Mut (H x)) (he : e = x ∨ H e = some (.own x)) (k : ∀ b u, b ≠ e → h.get? b = some u → h'.get? b = some u) (heo : ∃ u, h'.get? e = some u)
    (new : ObjOk P w (upd H x o') h' x o') : HOk P w (upd H x o') h' := fun b u q => by
  have nown : ∀ c y, H c = some (.own y) → c ≠ x := fun c y r z => by subst z; rw [r] at mu; exact mu
  have ntup : ∀ c xs, H c = some (.tup xs) → c ≠ x := fun c xs r z => by subst z; rw [r] at mu; exact mu
  by_cases hb : b = x
  · subst hb; rw [upd_same] at q; cases q; exact new
  · rw [upd_ne hb] at q
    by_cases hbe : b = e
    · have q' : H b = some (.own x) := by
        rcases he with z | z
        · exact absurd (hbe.trans z) hb
        · rw [hbe]; exact z
      rw [q] at q'; cases q'
      obtain ⟨v, hv⟩ := heo
      exact ⟨v, by rw [hbe]; exact hv⟩
    · refine (ok b u q).stay (fun c v hc r => k c v ?_ r) (fun c r => by rw [upd_ne (nown c b r)]; exact r) fun c xs r => by rw [upd_ne (ntup c xs r)]; exact r
      rcases hc with rfl | hc
      · exact hbe
      · rintro rfl
        rcases he with z | z
        · exact nown c b hc z
        · rw [hc] at z; cases z; exact hb rfl
end

/-! ### kept unless tracked; of the frames at fs (the callers') the slots may change (an exception that passes writes there); of the records at ex (iterators) nothing is said -/
structure Un (fs ex : List Addr) (H H' : Hp) (h h' : Heap) : Prop where
  keep : ∀ b o, h.get? b = some o → H b = none → b ∉ fs → b ∉ ex → h'.get? b = some o
  slot : ∀ b o, h.get? b = some o → H b = none → b ∈ fs → b ∉ ex → ∃ sl, h'.get? b = some { o with slots := sl }
  free : ∀ b o, h.get? b = some o → H b = none → b ∉ ex → H' b = none
  there : ∀ b o, h.get? b = some o → b ∉ ex → ∃ o', h'.get? b = some o'
  tups : ∀ b xs, H b = some (.tup xs) → H' b = some (.tup xs)
  frzs : ∀ b o u, H b = some (.frz o u) → H' b = some (.frz o u)
  tbls : ∀ b ps, H b = some (.tbl ps) → ∃ more, H' b = some (.tbl (ps ++ more))
section
variable {fs fs' ex ex' : List Addr} {H H1 H2 : Hp} {h h1 h2 h' : Heap} {a x e : Addr} {o : HO}
theorem Un.any (u : Un fs ex H H1 h h1) {b : Addr} {ob : Obj} (q : h.get? b = some ob) (n : H b = none) (hx : b ∉ ex) : ∃ sl, h1.get? b = some { ob with slots := sl } := by
  by_cases hb : b ∈ fs
  · exact u.slot b ob q n hb hx
  · exact ⟨ob.slots, u.keep b ob q n hb hx⟩
theorem Un.trans (a : Un fs ex H H1 h h1) (b : Un fs ex H1 H2 h1 h2) : Un fs ex H H2 h h2 where
  keep := fun c ob q n hc hx => b.keep c ob (a.keep c ob q n hc hx) (a.free c ob q n hx) hc hx
  slot := fun c ob q n hc hx => by
    obtain ⟨sl, e1⟩ := a.slot c ob q n hc hx
    obtain ⟨sl', e2⟩ := b.slot c _ e1 (a.free c ob q n hx) hc hx
    exact ⟨sl', e2⟩
  free := fun c ob q n hx => by
    obtain ⟨o', e1⟩ := a.there c ob q hx
    exact b.free c o' e1 (a.free c ob q n hx) hx
  there := fun c ob q hx => by
    obtain ⟨o', e1⟩ := a.there c ob q hx
    exact b.there c o' e1 hx
  tups := fun c xs q => b.tups c xs (a.tups c xs q)
  frzs := fun c ob xs q => b.frzs c ob xs (a.frzs c ob xs q)
  tbls := fun c ps q => by
    obtain ⟨m1, e1⟩ := a.tbls c ps q
    obtain ⟨m2, e2⟩ := b.tbls c _ e1
    exact ⟨m1 ++ m2, by rw [e2, Array.append_assoc]⟩
theorem Un.kept (k : ∀ b u, h.get? b = some u → h'.get? b = some u) : Un fs ex H H h h' :=
  ⟨fun b ob q _ _ _ => k b ob q, fun b ob q _ _ _ => ⟨ob.slots, k b ob q⟩, fun _ _ _ n _ => n, fun b ob q _ => ⟨ob, k b ob q⟩, fun _ _ q => q, fun _ _ _ q => q, fun _ ps q => ⟨#[], by rw [q]; simp⟩⟩
theorem Un.refl : Un fs ex H H h h := Un.kept fun _ _ q => q
theorem Un.laid (k : ∀ b u, h.get? b = some u → h'.get? b = some u) (hp : h.objs.size ≤ a) (hn : H a = none) : Un fs ex H (upd H a o) h h' where
  keep := fun b u q _ _ _ => k b u q
  slot := fun b u q _ _ _ => ⟨u.slots, k b u q⟩
  free := fun b u q n _ => by rw [upd_ne (Nat.ne_of_lt (Nat.lt_of_lt_of_le (Heap.lt_size q) hp))]; exact n
  there := fun b u q _ => ⟨u, k b u q⟩
  tups := fun b xs q => by rw [upd_ne (ne_of_none q hn)]; exact q
  frzs := fun b u xs q => by rw [upd_ne (ne_of_none q hn)]; exact q
  tbls := fun b ps q => ⟨#[], by rw [upd_ne (ne_of_none q hn), q]; simp⟩
theorem Un.write (mu : Mut (H x)) (he : e = x ∨ H e = some (.own x)) (k : ∀ b u, b ≠ e → h.get? b = some u → h'.get? b = some u) (heo : ∃ u, h'.get? e = some u) : Un fs ex H (upd H x o) h h' := by
  have hx : ∀ b, H b = none → b ≠ x := fun b n z => by subst z; rw [n] at mu; exact mu
  have hb : ∀ b, H b = none → b ≠ e := fun b n z => by
    subst z
    rcases he with r | r
    · exact hx b n r
    · rw [n] at r; cases r
  have hm : ∀ b u, H b = some u → ¬ Mut (some u) → b ≠ x := fun b u q nm z => by subst z; rw [q] at mu; exact nm mu
  refine ⟨fun b u q n _ _ => k b u (hb b n) q, fun b u q n _ _ => ⟨u.slots, k b u (hb b n) q⟩, fun b u q n _ => by rw [upd_ne (hx b n)]; exact n, fun b u q _ => ?_,
    fun b xs q => by rw [upd_ne (hm b _ q fun z => z)]; exact q, fun b u xs q => by rw [upd_ne (hm b _ q fun z => z)]; exact q, fun b ps q => ⟨#[], by rw [upd_ne (hm b _ q fun z => z), q]; simp⟩⟩
  by_cases hbe : b = e
  · subst hbe; exact heo
  · exact ⟨u, k b u hbe q⟩
theorem Un.mono (u : Un fs ex H H1 h h1) (hs : ∀ b ∈ fs, b ∈ fs') (hx : ∀ b ∈ ex, b ∈ ex') : Un fs' ex' H H1 h h1 :=
  ⟨fun b ob q n hb he => u.keep b ob q n (fun z => hb (hs b z)) fun z => he (hx b z), fun _ _ q n _ he => u.any q n fun z => he (hx _ z), fun b ob q n he => u.free b ob q n fun z => he (hx b z), fun b ob q he => u.there b ob q fun z => he (hx b z), u.tups, u.frzs, u.tbls⟩
end

/-! ### the heap without what is tracked -/
def trk (h : Heap) (H : Hp) : List Addr := (List.range h.objs.size).filter fun a => (H a).isSome
def hidT (h : Heap) (H : Hp) : Heap := PySem.W.hideAll h (trk h H)
theorem hidT_size (h : Heap) (H : Hp) : (hidT h H).objs.size = h.objs.size := PySem.W.hideAll_size _ _
theorem hidT_get {h : Heap} {H : Hp} {b : Addr} {o : Obj} (e : h.get? b = some o) (n : H b = none) : (hidT h H).get? b = some o :=
  PySem.W.hideAll_get _ e fun hm => by
    have q : (H b).isSome = true := (List.mem_filter.mp hm).2
    rw [n] at q; simp at q
theorem of_hidT {h : Heap} {H : Hp} {b : Addr} {o : Obj} (e : (hidT h H).get? b = some o) : h.get? b = some o ∧ H b = none := by
  have e' : h.get? b = some o := PySem.W.of_hideAll (trk h H) e
  refine ⟨e', ?_⟩
  cases q : H b with
  | none => rfl
  | some x =>
    have hm : b ∈ trk h H := List.mem_filter.mpr ⟨List.mem_range.mpr (Heap.lt_size e'), by simp [q]⟩
    have z : (hidT h H).get? b = none := PySem.W.hideAll_none (trk h H) hm
    rw [z] at e; cases e

/-! ### OpenK's ledger, filled with every new object but one -/
def allNews (g h : Heap) (L : Addr) : List (Addr × Obj) := (List.range h.objs.size).filterMap fun a => if a = L ∨ (g.get? a).isSome = true then none else (h.get? a).map fun o => (a, o)
def rest (g h : Heap) (L d : Addr) : List (Addr × Obj) := (allNews g h L).filter fun p => decide (p.1 ≠ d)
end L2

namespace L2
open PySem PySem.Spec PyProof.Rows

/-- the module's facts, over the base: the heap at the law's entry without what is tracked there -/
structure Mod (K : PySem.W.Frag) (mg : Str → Option Value) (base : Heap) : Prop where
  kin : K.In base
  glob : base.Ns mainGlobals mg
  blt : ∃ mb, base.Ns builtinsNs mb ∧ ∀ x : Str, x ≠ "__name__" → mb x = bootBuiltins x
  nolimit : base.NoLimit

/-- the context: a def's body (or a comprehension's block) running. base: fixed through the whole law; s₀, H₀: the entry; outer: the frames whose slots others may change (a def's callers); stack: all frames that run;
   ex: iterators that were made ahead of the entry and are walked here (a comprehension's); fn: the names whose cells were made at the entry (a def: all; a comprehension's block: its own); calm: not within an except suite; pn: pins that every state bears; xe: what is wanted of an exception that leaves the code -/
structure Cx where
  prog : Program
  w : World
  K : PySem.W.Frag
  mg : Str → Option Value
  base : Heap
  A : Around
  N : List Str
  s₀ : Shared
  H₀ : Hp
  env : Env
  outer : List Env
  stack : List Env
  ex : List Addr
  fn : Str → Bool
  calm : Bool
  pn : List (Addr × Obj)
  xe : Value → Shared → Prop
/-- the callers' frames -/
def frs (l : List Env) : List Addr := l.filterMap (·.frame)
abbrev Cx.fs (X : Cx) : List Addr := frs X.outer

def Vis (sc : Scope) (x : Str) : Prop := sc.names.lookup x = some .local ∨ sc.names.lookup x = some .cell ∨ sc.names.lookup x = some .free
def Loc (sc : Scope) (x : Str) : Prop := sc.names.lookup x = some .local ∨ sc.names.lookup x = some .cell
def Look (env : Env) (h : Heap) (m : Str → Option Value) (x : Str) (u : Value) : Prop :=
  (env.kindOf x = some .local ∧ m x = some u) ∨ ((env.kindOf x = some .cell ∨ env.kindOf x = some .free) ∧ ∃ c, env.cells.lookup x = some c ∧ h.IsCell c (some u))

structure Cx.Ok (X : Cx) : Prop where
  mod : Mod X.K X.mg X.base
  kind : X.env.scope.kind = .function
  glob : X.env.globals = mainGlobals
  blt : X.env.builtins = builtinsNs
  above : X.s₀.heap.objs.size ≤ X.env.locals
  inj : ∀ x y c, X.env.cells.lookup x = some c → X.env.cells.lookup y = some c → x = y
  has : ∀ x, (X.env.kindOf x = some .cell ∨ X.env.kindOf x = some .free) → ∃ c, X.env.cells.lookup x = some c
  cab : ∀ x c, X.fn x = true → X.env.cells.lookup x = some c → X.s₀.heap.objs.size ≤ c
  hd : X.calm = true → X.A.handled = none
  frames : X.A.frames = some X.stack
  stk : X.stack = X.outer ∨ (X.stack = X.env :: X.outer ∧ X.env.frame = some X.env.locals)
  exf : ∀ b ∈ X.ex, b ≠ X.env.locals ∧ ∀ x c, X.env.cells.lookup x = some c → c ≠ b
  bs : ∀ b o, X.base.get? b = some o → X.s₀.heap.get? b = some o ∧ X.H₀ b = none
  bsz : X.base.objs.size ≤ X.s₀.heap.objs.size
  noex : ∀ b o, X.base.get? b = some o → b ∉ X.ex
  exfs : ∀ b ∈ X.ex, b ∉ X.fs
  funs : X.s₀.heap.FunFrames X.base X.outer
  frf : ∀ b ∈ X.fs, X.H₀ b = none

structure Inv (X : Cx) (pins : List (Addr × Obj)) (σ : List (Option V)) (H : Hp) (s : Shared) : Prop where
  ok : X.Ok
  os : s.os = X.s₀.os
  bare : AllBare s.gens
  base : Un X.fs X.ex X.H₀ H X.s₀.heap s.heap
  loc : ∃ m, s.heap.Ns X.env.locals m ∧ ∀ (i : Nat) (x : Str) (v : V), X.N[i]? = some x → σ[i]? = some (some v) → Vis X.env.scope x → ∃ u, RelV v u ∧ Look X.env s.heap m x u
  cell : ∀ x c, X.env.cells.lookup x = some c → ∃ v, s.heap.IsCell c v
  free : H X.env.locals = none
  freeC : ∀ x c, X.env.cells.lookup x = some c → H c = none
  pin : ∀ p ∈ X.pn ++ pins, s.heap.get? p.1 = some p.2 ∧ H p.1 = none ∧ p.1 ≠ X.env.locals ∧ p.1 ∉ X.fs ∧ ∀ v, p.2.data ≠ .cell v
  hok : HOk X.prog X.w H s.heap
  len : σ.length = X.N.length

section
variable {X : Cx} {pins : List (Addr × Obj)} {σ : List (Option V)} {H H' : Hp} {s : Shared} {h' : Heap}

theorem Cx.Ok.nofr (ok : X.Ok) {b : Addr} {o : Obj} (e : X.base.get? b = some o) : b ∉ X.fs := fun hb => by
  have := (ok.funs.mem hb).1
  rw [e] at this; cases this
theorem Inv.bs (I : Inv X pins σ H s) : ∀ b o, X.base.get? b = some o → s.heap.get? b = some o ∧ H b = none := fun b o e =>
  ⟨I.base.keep b o (I.ok.bs b o e).1 (I.ok.bs b o e).2 (I.ok.nofr e) (I.ok.noex b o e), I.base.free b o (I.ok.bs b o e).1 (I.ok.bs b o e).2 (I.ok.noex b o e)⟩
theorem Inv.bk (I : Inv X pins σ H s) : ∀ b o, X.base.get? b = some o → s.heap.get? b = some o := fun b o e => (I.bs b o e).1
theorem Inv.mod (I : Inv X pins σ H s) : Mod X.K X.mg X.base := I.ok.mod
theorem Inv.kIn (I : Inv X pins σ H s) : X.K.In s.heap := I.ok.mod.kin.keeps I.bk
theorem Inv.nolimit (I : Inv X pins σ H s) : s.heap.NoLimit := I.ok.mod.nolimit.keeps I.bk
/-- the frame over the base: for OpenK's rules (K.In X.base is I.mod.kin) -/
theorem Inv.fr (I : Inv X pins σ H s) : ∃ m, Fr X.base X.env.locals s.heap m :=
  let ⟨m, hn, _⟩ := I.loc
  ⟨m, hn, I.bk, Nat.le_trans I.ok.bsz I.ok.above⟩
theorem Inv.lt (I : Inv X pins σ H s) : X.env.locals < s.heap.objs.size := let ⟨_, hn, _⟩ := I.loc; hn.lt
theorem Inv.sz (I : Inv X pins σ H s) : X.s₀.heap.objs.size ≤ s.heap.objs.size := Nat.le_trans I.ok.above (Nat.le_of_lt I.lt)
theorem Inv.nofs (I : Inv X pins σ H s) {a : Addr} (h : s.heap.objs.size ≤ a) : a ∉ X.fs := fun hb => by
  obtain ⟨_, o, ho, _⟩ := I.ok.funs.mem hb
  exact absurd (Nat.lt_of_lt_of_le (Heap.lt_size ho) (Nat.le_trans I.sz h)) (Nat.lt_irrefl _)
theorem Inv.cne (I : Inv X pins σ H s) : ∀ x c, X.env.cells.lookup x = some c → c ≠ X.env.locals := fun x c e z => by
  obtain ⟨v, o, ho, hd⟩ := I.cell x c e
  obtain ⟨m, ⟨o', es, ep, ho', hd', _⟩, _⟩ := I.loc
  rw [z, ho'] at ho; cases ho; rw [hd'] at hd; cases hd
theorem Inv.funs (I : Inv X pins σ H s) : s.heap.FunFrames X.base X.outer := by
  have all : ∀ (l : List Env), (∀ b ∈ frs l, b ∈ X.fs) → X.s₀.heap.FunFrames X.base l → s.heap.FunFrames X.base l := by
    intro l
    induction l with
    | nil => intro _ _; trivial
    | cons env r ih =>
      intro hs hl
      obtain ⟨hk, ⟨L, o, hf, hn, ho, hd⟩, hr⟩ := hl
      have hL : L ∈ X.fs := hs L (by unfold frs; rw [List.filterMap_cons, hf]; exact List.mem_cons_self)
      obtain ⟨sl, e⟩ := I.base.slot L o ho (I.ok.frf L hL) hL fun z => I.ok.exfs L z hL
      exact ⟨hk, ⟨L, _, hf, hn, e, hd⟩, ih (fun b hb => hs b (by unfold frs; rw [List.filterMap_cons, hf]; exact List.mem_cons_of_mem _ hb)) hr⟩
  exact all X.outer (fun _ hb => hb) I.ok.funs

/-- the frames that run, for a call -/
theorem Inv.stack (I : Inv X pins σ H s) : s.heap.FunFrames X.base X.stack := by
  rcases I.ok.stk with e | ⟨e, hf⟩
  · rw [e]; exact I.funs
  · rw [e]
    obtain ⟨m, hn, _⟩ := I.loc
    refine .cons (by rw [I.ok.kind]; decide) hf hn ?_ I.funs
    exact Heap.get?_none_of_le (Nat.le_trans I.ok.bsz I.ok.above)
theorem Inv.stkSub (I : Inv X pins σ H s) : ∀ b ∈ frs X.stack, b ∈ X.env.locals :: X.fs := fun b hb => by
  rcases I.ok.stk with e | ⟨e, hf⟩
  · rw [e] at hb; exact List.mem_cons_of_mem _ hb
  · rw [e] at hb
    unfold frs at hb
    rw [List.filterMap_cons, hf] at hb
    exact hb
theorem Inv.stkFree (I : Inv X pins σ H s) : ∀ b ∈ frs X.stack, H b = none := fun b hb => by
  rcases List.mem_cons.mp (I.stkSub b hb) with e | hb
  · rw [e]; exact I.free
  · obtain ⟨_, o, ho, _⟩ := I.ok.funs.mem hb
    exact I.base.free b o ho (I.ok.frf b hb) fun z => I.ok.exfs b z hb

/-- THE STEP: the untracked objects but the frame and the records at ch are kept (the callers' frames up to slots), the frame's map is kept, the new abstract heap is held -/
theorem Inv.step {g' : Array GenState} {t' : Nat} {d' : Drawn} {ch : List Addr} (I : Inv X pins σ H s)
    (hch : ∀ b ∈ ch, (b ∈ X.ex ∨ X.s₀.heap.objs.size ≤ b) ∧ b ≠ X.env.locals ∧ (∀ x c, X.env.cells.lookup x = some c → c ≠ b) ∧ ∀ p ∈ X.pn ++ pins, p.1 ≠ b)
    (keep : ∀ b o, b ≠ X.env.locals → b ∉ X.fs → b ∉ ch → s.heap.get? b = some o → H b = none → h'.get? b = some o)
    (slot : ∀ b o, b ≠ X.env.locals → b ∈ X.fs → b ∉ ch → s.heap.get? b = some o → H b = none → ∃ sl, h'.get? b = some { o with slots := sl }) (free : ∀ b o, b ∉ ch → s.heap.get? b = some o → H b = none → H' b = none)
    (there : ∀ b o, b ∉ ch → s.heap.get? b = some o → ∃ o', h'.get? b = some o')
    (tups : ∀ b xs, H b = some (.tup xs) → H' b = some (.tup xs)) (frzs : ∀ b o u, H b = some (.frz o u) → H' b = some (.frz o u)) (tbls : ∀ b ps, H b = some (.tbl ps) → ∃ more, H' b = some (.tbl (ps ++ more)))
    (ns : ∀ m, s.heap.Ns X.env.locals m → h'.Ns X.env.locals m) (hok : HOk X.prog X.w H' h') (hg : AllBare g') :
    Inv X pins σ H' { s with heap := h', gens := g', drawn := d', toks := t' } := by
  have neL : ∀ b o, X.s₀.heap.get? b = some o → b ≠ X.env.locals := fun b o e => Nat.ne_of_lt (Nat.lt_of_lt_of_le (Heap.lt_size e) I.ok.above)
  have neC : ∀ b o, X.s₀.heap.get? b = some o → b ∉ X.ex → b ∉ ch := fun b o e hx hb => by
    rcases (hch b hb).1 with z | z
    · exact hx z
    · exact absurd (Nat.lt_of_lt_of_le (Heap.lt_size e) z) (Nat.lt_irrefl _)
  have cellK : ∀ x c, X.env.cells.lookup x = some c → ∀ v, s.heap.IsCell c v → h'.IsCell c v := fun x c e v ⟨o, ho, hd⟩ => by
    have nch : c ∉ ch := fun z => (hch c z).2.2.1 x c e rfl
    by_cases hc : c ∈ X.fs
    · obtain ⟨sl, q⟩ := slot c o (I.cne x c e) hc nch ho (I.freeC x c e)
      exact ⟨_, q, hd⟩
    · exact ⟨o, keep c o (I.cne x c e) hc nch ho (I.freeC x c e), hd⟩
  refine ⟨I.ok, I.os, hg, ⟨fun b o e n hb hx => ?_, fun b o e n hb hx => ?_, fun b o e n hx => ?_, fun b o e hx => ?_, fun b xs e => tups b xs (I.base.tups b xs e), fun b o xs e => frzs b o xs (I.base.frzs b o xs e), fun b ps e => ?_⟩, ?_, fun x c e => ?_, ?_, fun x c e => ?_, fun p hp => ?_, hok, I.len⟩
  · exact keep b o (neL b o e) hb (neC b o e hx) (I.base.keep b o e n hb hx) (I.base.free b o e n hx)
  · obtain ⟨sl, e1⟩ := I.base.slot b o e n hb hx
    obtain ⟨sl', e2⟩ := slot b _ (neL b o e) hb (neC b o e hx) e1 (I.base.free b o e n hx)
    exact ⟨sl', e2⟩
  · obtain ⟨o', e1⟩ := I.base.there b o e hx
    exact free b o' (neC b o e hx) e1 (I.base.free b o e n hx)
  · obtain ⟨o', e1⟩ := I.base.there b o e hx
    exact there b o' (neC b o e hx) e1
  · obtain ⟨m1, e1⟩ := I.base.tbls b ps e
    obtain ⟨m2, e2⟩ := tbls b _ e1
    exact ⟨m1 ++ m2, by rw [e2, Array.append_assoc]⟩
  · obtain ⟨m, hn, hl⟩ := I.loc
    refine ⟨m, ns m hn, fun i x v e1 e2 e3 => ?_⟩
    obtain ⟨u, r, l⟩ := hl i x v e1 e2 e3
    refine ⟨u, r, ?_⟩
    rcases l with l | ⟨k, c, e, z⟩
    · exact .inl l
    · exact .inr ⟨k, c, e, cellK x c e _ z⟩
  · obtain ⟨v, z⟩ := I.cell x c e
    exact ⟨v, cellK x c e v z⟩
  · obtain ⟨m, ⟨o, _, _, ho, _⟩, _⟩ := I.loc
    exact free _ o (fun z => (hch _ z).2.1 rfl) ho I.free
  · obtain ⟨v, o, ho, hd⟩ := I.cell x c e
    exact free c o (fun z => (hch c z).2.2.1 x c e rfl) ho (I.freeC x c e)
  · obtain ⟨e, n, ne, nf, d⟩ := I.pin p hp
    have nch : p.1 ∉ ch := fun z => (hch p.1 z).2.2.2 p hp rfl
    exact ⟨keep p.1 p.2 ne nf nch e n, free p.1 p.2 nch e n, ne, nf, d⟩
/-- .. where the frame's own object is kept too -/
theorem Inv.un {t' : Nat} (I : Inv X pins σ H s) (u : Un X.fs [] H H' s.heap h') (hok : HOk X.prog X.w H' h') : Inv X pins σ H' { s with heap := h', toks := t' } := by
  obtain ⟨m, ⟨o, es, ep, ho, r⟩, _⟩ := id I.loc
  obtain ⟨sl, hL⟩ := u.any ho I.free (by simp)
  exact I.step (g' := s.gens) (d' := s.drawn) (ch := []) (fun _ z => nomatch z) (fun b o _ hb _ e n => u.keep b o e n hb (by simp)) (fun b o _ hb _ e n => u.slot b o e n hb (by simp)) (fun b o _ e n => u.free b o e n (by simp)) (fun b o _ e => u.there b o e (by simp)) u.tups u.frzs u.tbls (fun m' hm => by
    obtain ⟨o', es', ep', ho', r'⟩ := hm
    rw [ho] at ho'; cases ho'
    exact ⟨_, es', ep', hL, r'⟩) hok I.bare
/-- behind a call (or a comprehension's block): the slots of this frame may have changed too, the records at ch may have turned -/
theorem Inv.call {g' : Array GenState} {t' : Nat} {d' : Drawn} {ch : List Addr} (I : Inv X pins σ H s) (u : Un (frs X.stack) ch H H' s.heap h') (hok : HOk X.prog X.w H' h') (hg : AllBare g')
    (hch : ∀ b ∈ ch, (b ∈ X.ex ∨ X.s₀.heap.objs.size ≤ b) ∧ b ≠ X.env.locals ∧ (∀ x c, X.env.cells.lookup x = some c → c ≠ b) ∧ ∀ p ∈ X.pn ++ pins, p.1 ≠ b) :
    Inv X pins σ H' { s with heap := h', gens := g', drawn := d', toks := t' } := by
  obtain ⟨m, ⟨o, es, ep, ho, r⟩, _⟩ := id I.loc
  obtain ⟨sl, hL⟩ := u.any ho I.free fun z => (hch _ z).2.1 rfl
  exact I.step (ch := ch) hch (fun b o hL hb hc e n => u.keep b o e n (fun z => (List.mem_cons.mp (I.stkSub b z)).elim hL hb) hc) (fun b o _ _ hc e n => u.any e n hc) (fun b o hc e n => u.free b o e n hc) (fun b o hc e => u.there b o e hc) u.tups u.frzs u.tbls (fun m' hm => by
    obtain ⟨o', es', ep', ho', r'⟩ := hm
    rw [ho] at ho'; cases ho'
    exact ⟨_, es', ep', hL, r'⟩) hok hg
/-- an untracked record of ours (an iterator) has turned -/
theorem Inv.turned {t' : Nat} {it : Addr} (I : Inv X pins σ H s) (k : ∀ b o, b ≠ it → s.heap.get? b = some o → h'.get? b = some o) (hn : H it = none) (hL : it ≠ X.env.locals)
    (h1 : it ∈ X.ex ∨ X.s₀.heap.objs.size ≤ it) (h2 : ∀ x c, X.env.cells.lookup x = some c → c ≠ it) (h3 : ∀ p ∈ X.pn ++ pins, p.1 ≠ it) : Inv X pins σ H { s with heap := h', toks := t' } := by
  have nit : ∀ b u, H b = some u → b ≠ it := fun b u e z => by rw [z, hn] at e; cases e
  refine I.step (g' := s.gens) (d' := s.drawn) (ch := [it]) (fun b hb => ?_) (fun b o _ _ hc e _ => k b o (fun z => hc (by simp [z])) e) (fun b o _ _ hc e _ => ⟨o.slots, k b o (fun z => hc (by simp [z])) e⟩) (fun _ _ _ _ n => n)
    (fun b o hc e => ⟨o, k b o (fun z => hc (by simp [z])) e⟩) (fun _ _ e => e) (fun _ _ _ e => e) (fun b ps e => ⟨#[], by rw [e]; simp⟩) (fun m hm => ?_) (fun b u e => ?_) I.bare
  · have e : b = it := by simpa using hb
    subst e
    exact ⟨h1, hL, h2, h3⟩
  · obtain ⟨o, es, ep, ho, r⟩ := hm
    exact ⟨o, es, ep, k _ o (Ne.symm hL) ho, r⟩
  · refine (I.hok b u e).stay (fun c v hc q => k c v ?_ q) (fun _ q => q) fun _ _ q => q
    rcases hc with z | z
    · rw [z]; exact nit b u e
    · exact nit c _ z
theorem Inv.tok (I : Inv X pins σ H s) (t : Nat) : Inv X pins σ H { s with toks := t } := I.un (h' := s.heap) (t' := t) Un.refl I.hok
/-- all objects kept -/
theorem Inv.kept {t' : Nat} (I : Inv X pins σ H s) (k : ∀ b u, s.heap.get? b = some u → h'.get? b = some u) : Inv X pins σ H { s with heap := h', toks := t' } := I.un (Un.kept k) (I.hok.kept k)
/-- a new object laid and tracked -/
theorem Inv.laid {a : Addr} {o : HO} {t' : Nat} (I : Inv X pins σ H s) (k : ∀ b u, s.heap.get? b = some u → h'.get? b = some u) (hp : s.heap.objs.size ≤ a) (new : ObjOk X.prog X.w (upd H a o) h' a o) :
    Inv X pins σ (upd H a o) { s with heap := h', toks := t' } := I.un (Un.laid k hp (I.hok.fresh hp)) (I.hok.laid k hp new)
/-- an object written -/
theorem Inv.write {x e : Addr} {o : HO} {t' : Nat} (I : Inv X pins σ H s) (mu : Mut (H x)) (he : e = x ∨ H e = some (.own x)) (k : ∀ b u, b ≠ e → s.heap.get? b = some u → h'.get? b = some u) (heo : ∃ u, h'.get? e = some u)
    (new : ObjOk X.prog X.w (upd H x o) h' x o) : Inv X pins σ (upd H x o) { s with heap := h', toks := t' } := I.un (Un.write mu he k heo) (I.hok.write mu he k heo new)
theorem Inv.pins_of {pins' : List (Addr × Obj)} (I : Inv X pins σ H s) (h : ∀ p ∈ pins', s.heap.get? p.1 = some p.2 ∧ H p.1 = none ∧ p.1 ≠ X.env.locals ∧ p.1 ∉ X.fs ∧ ∀ v, p.2.data ≠ .cell v) : Inv X pins' σ H s :=
  ⟨I.ok, I.os, I.bare, I.base, I.loc, I.cell, I.free, I.freeC, fun p hp => (List.mem_append.mp hp).elim (fun z => I.pin p (List.mem_append_left _ z)) (h p), I.hok, I.len⟩

theorem nodup_ix {N : List Str} (hN : N.Nodup) {i j : Nat} {x : Str} (a : N[i]? = some x) (b : N[j]? = some x) : i = j := by
  obtain ⟨h1, e1⟩ := List.getElem?_eq_some_iff.mp a
  obtain ⟨h2, e2⟩ := List.getElem?_eq_some_iff.mp b
  exact (List.getElem_inj hN).mp (e1.trans e2.symm)

/-- a name is stored; what changed -/
theorem store_ok2 {M : Model} {A : Around} {E : Value → Shared → Prop} {i : Nat} {x : Str} {v : V} {u : Value} {Q : Unit → Shared → Prop} (I : Inv X pins σ H s) (hN : X.N.Nodup) (hi : X.N[i]? = some x) (hx : Loc X.env.scope x) (r : RelV v u)
    (h : ∀ s', Inv X pins (σ.set i (some v)) H s' → (∃ a, Heap.SameBut a s.heap s'.heap ∧ (a = X.env.locals ∨ X.env.cells.lookup x = some a)) → Q () s') (hf : X.fn x = true ∨ X.env.scope.names.lookup x = some .local := by first | exact .inl rfl | exact .inr rfl | assumption) : wpAny M A (storeName X.env x u) Q E s := by
  obtain ⟨m, hn, hl⟩ := id I.loc
  have hcls : (X.env.scope.kind == .class || (X.env.scope.kind == .module && X.env.locals != X.env.globals)) = false := by rw [I.ok.kind]; rfl
  have hiσ : i < σ.length := by rw [I.len]; exact (List.getElem?_eq_some_iff.mp hi).1
  have cne := I.cne
  have tracked : ∀ {a : Addr} {h' : Heap}, (∃ o, s.heap.get? a = some o ∧ H a = none) → Heap.SameBut a s.heap h' → HOk X.prog X.w H h' := fun {a h'} ha hs b ob e => by
    obtain ⟨_, _, hfree⟩ := ha
    refine (I.hok b ob e).stay (fun c w' hc q => (hs.2 c ?_).trans q) (fun _ q => q) fun _ _ q => q
    rintro rfl
    rcases hc with rfl | hc
    · rw [hfree] at e; cases e
    · rw [hfree] at hc; cases hc
  rcases hx with hk | hk
  · refine wpAny_storeName_local hk hn (fun h' hn' hs => ?_) hcls
    obtain ⟨oL, _, _, hoL, _⟩ := id hn
    refine h _ ⟨I.ok, I.os, I.bare, ⟨fun b o e n hb hx => ?_, fun b o e n hb hx => ?_, I.base.free, fun b o e hx => ?_, I.base.tups, I.base.frzs, I.base.tbls⟩, ⟨_, hn', fun j y v' e1 e2 e3 => ?_⟩, fun y c e => ?_, I.free, I.freeC, fun p hp => ?_, tracked ⟨oL, hoL, I.free⟩ hs, by simpa using I.len⟩ ⟨_, hs, .inl rfl⟩
    · exact (hs.2 b (Nat.ne_of_lt (Nat.lt_of_lt_of_le (Heap.lt_size e) I.ok.above))).trans (I.base.keep b o e n hb hx)
    · obtain ⟨sl, e1⟩ := I.base.slot b o e n hb hx
      exact ⟨sl, (hs.2 b (Nat.ne_of_lt (Nat.lt_of_lt_of_le (Heap.lt_size e) I.ok.above))).trans e1⟩
    · obtain ⟨o', e1⟩ := I.base.there b o e hx
      exact ⟨o', (hs.2 b (Nat.ne_of_lt (Nat.lt_of_lt_of_le (Heap.lt_size e) I.ok.above))).trans e1⟩
    · by_cases hj : j = i
      · subst hj
        rw [hi] at e1; cases e1
        rw [List.getElem?_set_self hiσ] at e2
        cases e2
        exact ⟨u, r, .inl ⟨hk, by simp⟩⟩
      · rw [List.getElem?_set_ne (Ne.symm hj)] at e2
        obtain ⟨u', r', q⟩ := hl j y v' e1 e2 e3
        refine ⟨u', r', ?_⟩
        rcases q with ⟨k, e⟩ | ⟨k, c, e, z⟩
        · refine .inl ⟨k, ?_⟩
          have : y ≠ x := fun e => hj (nodup_ix hN e1 (e ▸ hi))
          simp [this, e]
        · exact .inr ⟨k, c, e, z.sameBut hs (cne y c e)⟩
    · obtain ⟨w', z⟩ := I.cell y c e
      exact ⟨w', z.sameBut hs (cne y c e)⟩
    · obtain ⟨e, n, ne, nf, d⟩ := I.pin p hp
      exact ⟨(hs.2 p.1 ne).trans e, n, ne, nf, d⟩
  · have hfn : X.fn x = true := by
      rcases hf with z | z
      · exact z
      · rw [z] at hk; cases hk
    obtain ⟨c, hc⟩ := I.ok.has x (.inl hk)
    obtain ⟨w', z⟩ := I.cell x c hc
    refine wpAny_storeName_cell I.ok.kind hk hc z (fun h' hc' hs => ?_)
    obtain ⟨oc, hoc, hocd⟩ := id z
    refine h { s with heap := h' } ⟨I.ok, I.os, I.bare, ⟨fun b o e n hb hx => ?_, fun b o e n hb hx => ?_, I.base.free, fun b o e hx => ?_, I.base.tups, I.base.frzs, I.base.tbls⟩, ⟨m, hn.sameBut hs (Ne.symm (cne x c hc)), fun j y v' e1 e2 e3 => ?_⟩, fun y c' e => ?_, I.free, I.freeC, fun p hp => ?_, tracked ⟨oc, hoc, I.freeC x c hc⟩ hs, by simpa using I.len⟩ ⟨c, hs, .inr hc⟩
    · exact (hs.2 b (Nat.ne_of_lt (Nat.lt_of_lt_of_le (Heap.lt_size e) (I.ok.cab x c hfn hc)))).trans (I.base.keep b o e n hb hx)
    · obtain ⟨sl, e1⟩ := I.base.slot b o e n hb hx
      exact ⟨sl, (hs.2 b (Nat.ne_of_lt (Nat.lt_of_lt_of_le (Heap.lt_size e) (I.ok.cab x c hfn hc)))).trans e1⟩
    · obtain ⟨o', e1⟩ := I.base.there b o e hx
      exact ⟨o', (hs.2 b (Nat.ne_of_lt (Nat.lt_of_lt_of_le (Heap.lt_size e) (I.ok.cab x c hfn hc)))).trans e1⟩
    · by_cases hj : j = i
      · subst hj
        rw [hi] at e1; cases e1
        rw [List.getElem?_set_self hiσ] at e2
        cases e2
        exact ⟨u, r, .inr ⟨.inl hk, c, hc, hc'⟩⟩
      · rw [List.getElem?_set_ne (Ne.symm hj)] at e2
        obtain ⟨u', r', q⟩ := hl j y v' e1 e2 e3
        refine ⟨u', r', ?_⟩
        rcases q with q | ⟨k, c', e, z'⟩
        · exact .inl q
        · refine .inr ⟨k, c', e, z'.sameBut hs ?_⟩
          rintro rfl
          exact hj (nodup_ix hN e1 (I.ok.inj _ _ _ e hc ▸ hi))
    · by_cases hcc : c' = c
      · subst hcc; exact ⟨_, hc'⟩
      · obtain ⟨w2, z2⟩ := I.cell y c' e
        exact ⟨w2, z2.sameBut hs hcc⟩
    · obtain ⟨e, n, ne, nf, d⟩ := I.pin p hp
      refine ⟨(hs.2 p.1 ?_).trans e, n, ne, nf, d⟩
      intro q
      rw [q, hoc] at e
      have q' : oc = p.2 := Option.some.inj e
      exact d w' (by rw [← q']; exact hocd)
theorem store_ok {M : Model} {A : Around} {E : Value → Shared → Prop} {i : Nat} {x : Str} {v : V} {u : Value} {Q : Unit → Shared → Prop} (I : Inv X pins σ H s) (hN : X.N.Nodup) (hi : X.N[i]? = some x) (hx : Loc X.env.scope x) (r : RelV v u)
    (h : ∀ s', Inv X pins (σ.set i (some v)) H s' → Q () s') (hf : X.fn x = true ∨ X.env.scope.names.lookup x = some .local := by first | exact .inl rfl | exact .inr rfl | assumption) : wpAny M A (storeName X.env x u) Q E s :=
  store_ok2 I hN hi hx r (fun s' I' _ => h s' I') hf
/-- behind a call or a block, the state as it is -/
theorem Inv.call' {s' : Shared} {ch : List Addr} (I : Inv X pins σ H s) (ho : s'.os = s.os) (u : Un (frs X.stack) ch H H' s.heap s'.heap) (hok : HOk X.prog X.w H' s'.heap) (hg : AllBare s'.gens)
    (hch : ∀ b ∈ ch, (b ∈ X.ex ∨ X.s₀.heap.objs.size ≤ b) ∧ b ≠ X.env.locals ∧ (∀ x c, X.env.cells.lookup x = some c → c ≠ b) ∧ ∀ p ∈ X.pn ++ pins, p.1 ≠ b) : Inv X pins σ H' s' := by
  obtain ⟨h', g', d', t', o'⟩ := s'
  have e : o' = s.os := ho
  subst e
  exact I.call (g' := g') (t' := t') (d' := d') u hok hg hch
end

/-! ### the judgements -/
/-- an exception: its class, its own dict's address (where it has one), the abstract heap behind it -/
abbrev XK := Value → Option Addr → Hp → Prop
abbrev St := List (Option V)
abbrev VK := V → Hp → Prop
/-- an expression's reading; a test's; an argument list's -/
abbrev TE := St → Hp → VK → Prop
abbrev TT := St → Hp → (Bool → Hp → Prop) → Prop
abbrev TA := St → Hp → (List V → Hp → Prop) → Prop
/-- what is wanted behind a statement -/
structure Ends where
  nx : St → Hp → Prop
  rt : VK
  bk : St → Hp → Prop := fun _ _ => False
  ct : St → Hp → Prop := fun _ _ => False
abbrev TS := Ends → St → Hp → Prop

def EP (X : Cx) (pins : List (Addr × Obj)) (σ : St) (Q : VK) (u : Value) (s' : Shared) : Prop := ∃ v H', Inv X pins σ H' s' ∧ RelV v u ∧ Q v H'
def TP (X : Cx) (pins : List (Addr × Obj)) (σ : St) (Q : Bool → Hp → Prop) (b : Bool) (s' : Shared) : Prop := ∃ H', Inv X pins σ H' s' ∧ Q b H'
def AP (X : Cx) (pins : List (Addr × Obj)) (σ : St) (Q : List V → Hp → Prop) (us : List Value) (s' : Shared) : Prop := ∃ vs H', Inv X pins σ H' s' ∧ Vals vs us ∧ Q vs H'
def SP (X : Cx) (pins : List (Addr × Obj)) (D : Ends) (f : Flow) (s' : Shared) : Prop :=
  match f with
  | .next => ∃ σ' H', Inv X pins σ' H' s' ∧ D.nx σ' H'
  | .brk => ∃ σ' H', Inv X pins σ' H' s' ∧ D.bk σ' H'
  | .cont => ∃ σ' H', Inv X pins σ' H' s' ∧ D.ct σ' H'
  | .ret u => ∃ v σ' H', Inv X pins σ' H' s' ∧ RelV v u ∧ D.rt v H'

def PE (X : Cx) (e : Expr) (t : TE) : Prop :=
  ∀ (pins : List (Addr × Obj)) (s : Shared) (σ : St) (H : Hp) (Q : VK), Inv X pins σ H s → t σ H Q → wpAny (model X.prog X.w) X.A (eval e X.env) (EP X pins σ Q) X.xe s
def PT (X : Cx) (e : Expr) (t : TT) : Prop :=
  ∀ (pins : List (Addr × Obj)) (s : Shared) (σ : St) (H : Hp) (Q : Bool → Hp → Prop), Inv X pins σ H s → t σ H Q → wpAny (model X.prog X.w) X.A (isTrue e X.env (eval e X.env)) (TP X pins σ Q) X.xe s
/-- a test whatever its 'whole' is (and, or) -/
def PW (X : Cx) (e : Expr) (t : TT) : Prop :=
  ∀ (whole : Sem Value) (pins : List (Addr × Obj)) (s : Shared) (σ : St) (H : Hp) (Q : Bool → Hp → Prop), Inv X pins σ H s → t σ H Q → wpAny (model X.prog X.w) X.A (isTrue e X.env whole) (TP X pins σ Q) X.xe s
theorem PW.pt {X : Cx} {e : Expr} {t : TT} (h : PW X e t) : PT X e t := h _
/-- an argument list (no star), from the left -/
def PA (X : Cx) (es : List Expr) (t : TA) : Prop :=
  ∀ (pos : Pos) (pins : List (Addr × Obj)) (s : Shared) (σ : St) (H : Hp) (Q : List V → Hp → Prop), Inv X pins σ H s → t σ H Q → wpAny (model X.prog X.w) X.A (spliced (backTo pos (starEach es X.env))) (AP X pins σ Q) X.xe s
def PS (X : Cx) (st : Stmt) (t : TS) : Prop :=
  ∀ (pins : List (Addr × Obj)) (s : Shared) (σ : St) (H : Hp) (D : Ends), Inv X pins σ H s → t D σ H → wpAny (model X.prog X.w) X.A (exec st X.env) (SP X pins D) X.xe s
def PSs (X : Cx) (st : List Stmt) (t : TS) : Prop :=
  ∀ (pins : List (Addr × Obj)) (s : Shared) (σ : St) (H : Hp) (D : Ends), Inv X pins σ H s → t D σ H → wpAny (model X.prog X.w) X.A (execs st X.env) (SP X pins D) X.xe s
/-- weaken the end -/
theorem thn {α : Type} {t : Sem α} {Q Q' : α → Shared → Prop} {M : Model} {A : Around} {E : Value → Shared → Prop} {s : Shared} (h : wpAny M A t Q E s) (hQ : ∀ a s, Q a s → Q' a s) : wpAny M A t Q' E s := wpAny_mono h hQ fun _ _ x => x
end L2

namespace L2
open PySem PySem.Spec PyProof.Rows
section
variable {X : Cx}

/-! ### names and constants -/
def tVar (i : Nat) : TE := fun σ H Q => ∃ v, σ[i]? = some (some v) ∧ Q v H
def tC (v : V) : TE := fun _ H Q => Q v H
theorem pe_var {i : Nat} {x : Str} {pos : Pos} (hN : X.N[i]? = some x) (hv : Vis X.env.scope x) (hd : (x == ("__debug__" : Str)) = false := by decide) (hcd : (x == ("__classdict__" : Str)) = false := by decide) : PE X (.Name x pos) (tVar i) := by
  intro pins s σ H Q I h
  obtain ⟨v, e, h⟩ := h
  obtain ⟨m, hn, hl⟩ := I.loc
  obtain ⟨u, r, l⟩ := hl i x v hN e hv
  have fin : EP X pins σ Q u s := ⟨v, H, I, r, h⟩
  rcases l with ⟨hk, hm⟩ | ⟨hk, c, hc, hcell⟩
  · exact wpAny_Name (wpAny_loadName_local I.ok.kind hk hn hm fin) hd
  · rcases hk with hk | hk
    · exact wpAny_Name (wpAny_loadName_cell I.ok.kind hk hc hcell fin) hd
    · exact wpAny_Name (wpAny_loadName_free I.ok.kind hk hc hcell fin hcd) hd
theorem pe_int {i j pos} : PE X (.Constant (.int i) j pos) (tC (.int i)) := fun _ _ _ H _ I h => wpAny_Constant_int ⟨.int i, H, I.tok _, ⟨_, rfl⟩, h⟩
theorem pe_bl {b j pos} : PE X (.Constant (.bool b) j pos) (tC (.bl b)) := fun _ _ _ H _ I h => Constant_bool ⟨.bl b, H, I, rfl, h⟩
theorem pe_non {j pos} : PE X (.Constant .none j pos) (tC .non) := fun _ _ _ H _ I h => Constant_none ⟨.non, H, I, rfl, h⟩
/-- a global name of the def -/
def Gl (X : Cx) (x : Str) : Prop := X.env.kindOf x = some .globalImplicit
theorem ld_glob {E : Value → Shared → Prop} {pins : List (Addr × Obj)} {s : Shared} {σ : St} {H : Hp} {x : Str} {u : Value} {pos : Pos} {Q : Value → Shared → Prop} (I : Inv X pins σ H s) (hg : Gl X x) (hm : X.mg x = some u) (h : Q u s)
    (hd : (x == ("__debug__" : Str)) = false := by decide) : wpAny (model X.prog X.w) X.A (eval (.Name x pos) X.env) Q E s :=
  Calls.Name_function_global I.ok.kind hg (Calls.loadGlobal_global (by rw [I.ok.glob]; exact I.mod.glob.keeps I.bk) hm h) hd
theorem ld_blt {E : Value → Shared → Prop} {pins : List (Addr × Obj)} {s : Shared} {σ : St} {H : Hp} {x : Str} {u : Value} {pos : Pos} {Q : Value → Shared → Prop} (I : Inv X pins σ H s) (hg : Gl X x) (hm : X.mg x = none) (hv : bootBuiltins x = some u) (h : Q u s)
    (hn : x ≠ "__name__" := by decide) (hd : (x == ("__debug__" : Str)) = false := by decide) : wpAny (model X.prog X.w) X.A (eval (.Name x pos) X.env) Q E s := by
  obtain ⟨mb, h1, h2⟩ := I.mod.blt
  exact Calls.Name_function_global I.ok.kind hg (Calls.loadGlobal_builtin (by rw [I.ok.glob]; exact I.mod.glob.keeps I.bk) hm (by rw [I.ok.blt]; exact h1.keeps I.bk) ((h2 x hn).trans hv) h) hd
theorem pe_bltn {x : Str} {v : V} {u : Value} {pos : Pos} (hg : Gl X x) (hm : X.mg x = none) (hv : bootBuiltins x = some u) (r : RelV v u) (hn : x ≠ "__name__" := by decide) (hd : (x == ("__debug__" : Str)) = false := by decide) : PE X (.Name x pos) (tC v) :=
  fun _ _ _ H _ I h => ld_blt I hg hm hv ⟨v, H, I, r, h⟩ hn hd

/-! ### arithmetic -/
/-- two ints -/
def t2I (ta tb : TE) (k : Int → Int → Hp → Prop) : St → Hp → Prop := fun σ H => ta σ H fun x H1 => tb σ H1 fun y H2 => ∃ i j, x = .int i ∧ y = .int j ∧ k i j H2
def tAdd (ta tb : TE) : TE := fun σ H Q => t2I ta tb (fun i j H2 => Q (.int (i + j)) H2) σ H
def tSub (ta tb : TE) : TE := fun σ H Q => t2I ta tb (fun i j H2 => Q (.int (i - j)) H2) σ H
/-- the left factor below 2^64 -/
def tMul (ta tb : TE) : TE := fun σ H Q => t2I ta tb (fun i j H2 => (-(2 ^ 64) < i ∧ i < 2 ^ 64) ∧ Q (.int (i * j)) H2) σ H
variable {a b : Expr} {ta tb : TE} {pos : Pos}
/-! ### comparisons -/
def PC (X : Cx) (op : CmpOp) (a b : Expr) (t : TE) : Prop :=
  ∀ (pins : List (Addr × Obj)) (s : Shared) (σ : St) (H : Hp) (Q : VK), Inv X pins σ H s → t σ H Q →
    wpAny (model X.prog X.w) X.A (eval a X.env) (fun v s₁ => wpAny (model X.prog X.w) X.A (eval b X.env) (fun u s₂ => wpAny (model X.prog X.w) X.A (compareOp op v u) (EP X pins σ Q) X.xe s₂) X.xe s₁) X.xe s
def tCmp (p : Int → Int → Bool) (ta tb : TE) : TE := fun σ H Q => t2I ta tb (fun i j H2 => Q (.bl (p i j)) H2) σ H
abbrev tLt : TE → TE → TE := tCmp fun i j => decide (i < j)
abbrev tLe : TE → TE → TE := tCmp fun i j => decide (i ≤ j)
abbrev tGt : TE → TE → TE := tCmp fun i j => decide (j < i)
abbrev tGe : TE → TE → TE := tCmp fun i j => decide (j ≤ i)
abbrev tEqI : TE → TE → TE := tCmp fun i j => decide (i = j)
abbrev tNeI : TE → TE → TE := tCmp fun i j => !decide (i = j)
/-- is None -/
def tIsN (ta : TE) : TE := fun σ H Q => ta σ H fun x H1 => Q (.bl (decide (x = .non))) H1
def tNotN (ta : TE) : TE := fun σ H Q => ta σ H fun x H1 => Q (.bl (!decide (x = .non))) H1
/-- a comparison as a value, as a test -/
def tB (t : TE) : TT := fun σ H Q => t σ H fun x H1 => ∃ c, x = .bl c ∧ Q c H1
/-- an expression whose value is a bool, as a test -/
theorem pt_val {e : Expr} {t : TE} (h : PE X e t) (he : ∀ whole, isTrue e X.env whole = (do let v ← whole; standAt e.pos; holding [v] (truthy v)) := by intro _; rfl) : PT X e (tB t) := by
  intro pins s σ H Q I hw
  refine isTrue_plain (thn (h pins s σ H _ I hw) fun v s1 ⟨x, H1, I1, r1, q1⟩ => ?_) (he _)
  obtain ⟨d, rfl, q⟩ := q1
  cases r1
  exact wpAny_truthy_bool ⟨H1, I1, q⟩

/-! ### and, or, not -/
variable {tA tB' : TT} {rest : List Expr}
def tAnd (t u : TT) : TT := fun σ H Q => t σ H fun c H1 => if c = true then u σ H1 Q else Q false H1
def tOr (t u : TT) : TT := fun σ H Q => t σ H fun c H1 => if c = true then Q true H1 else u σ H1 Q
def tNot (t : TT) : TT := fun σ H Q => t σ H fun c H1 => Q (!c) H1
theorem pw_or1 (ha : PT X a tA) : PW X (.BoolOp .Or [a] pos) tA := by
  intro wh pins s σ H Q I h
  refine isTrue_or (thn (ha pins s σ H Q I h) fun c s1 e => ?_)
  cases c with
  | false => exact isTrue_or_nil e
  | true => exact e
theorem pw_or (ha : PT X a tA) (hb : PW X (.BoolOp .Or (b :: rest) pos) tB') : PW X (.BoolOp .Or (a :: b :: rest) pos) (tOr tA tB') := by
  intro wh pins s σ H Q I h
  refine isTrue_or (thn (ha pins s σ H _ I h) fun c s1 ⟨H1, I1, q1⟩ => ?_)
  cases c with
  | true => exact ⟨H1, I1, q1⟩
  | false => exact hb wh pins s1 σ H1 Q I1 q1
theorem pt_not (ha : PT X a tA) : PT X (.UnaryOp .Not a pos) (tNot tA) := by
  intro pins s σ H Q I h
  exact isTrue_not (ha pins s σ H (fun c H1 => Q (!c) H1) I h)
/-- .. as values (bools) -/
def tAndV (ta tb : TE) : TE := fun σ H Q => ta σ H fun x H1 => ∃ c, x = .bl c ∧ if c = true then tb σ H1 Q else Q (.bl false) H1
def tOrV (ta tb : TE) : TE := fun σ H Q => ta σ H fun x H1 => ∃ c, x = .bl c ∧ if c = true then Q (.bl true) H1 else tb σ H1 Q
def tNotV (ta : TE) : TE := fun σ H Q => ta σ H fun x H1 => ∃ c, x = .bl c ∧ Q (.bl (!c)) H1
theorem pe_one {op} {t : TE} (h : PE X a t) : PE X (.BoolOp op [a] pos) t := fun pins s σ H Q I hw => BoolOp_one (h pins s σ H Q I hw)
theorem pe_and (ha : PE X a ta) (hb : PE X (.BoolOp .And (b :: rest) pos) tb) : PE X (.BoolOp .And (a :: b :: rest) pos) (tAndV ta tb) := by
  intro pins s σ H Q I h
  refine BoolOp_and (thn (ha pins s σ H _ I h) fun v s1 ⟨x, H1, I1, r1, q1⟩ => ?_)
  obtain ⟨c, rfl, q1⟩ := q1
  cases r1
  refine wpAny_truthy_bool ?_
  cases c with
  | true => exact hb pins s1 σ H1 Q I1 q1
  | false => exact ⟨.bl false, H1, I1, rfl, q1⟩
/-- a if t else b -/
def tIf (t : TT) (ta tb : TE) : TE := fun σ H Q => t σ H fun c H1 => if c = true then ta σ H1 Q else tb σ H1 Q
theorem pe_ifExp {c : Expr} (hc : PT X c tA) (ha : PE X a ta) (hb : PE X b tb) : PE X (.IfExp c a b pos) (tIf tA ta tb) := by
  intro pins s σ H Q I h
  refine wpAny_IfExp (thn (hc pins s σ H _ I h) fun d s1 ⟨H1, I1, q1⟩ => ?_)
  cases d with
  | true => exact ha pins s1 σ H1 Q I1 q1
  | false => exact hb pins s1 σ H1 Q I1 q1
end
end L2

namespace L2
open PySem PySem.Spec PyProof.Rows

/-! ### a list, a tuple that is read: tracked, frozen, or an object of the module -/
def SqL (K : PySem.W.Frag) (H : Hp) (a : Addr) (xs : List V) : Prop :=
  Rd H a (.lst xs) ∨
    ∃ (o : Obj) (its : Array Value) (n : Nat), K.lookup a = some o ∧ o.cls = .type "list" ∧ o.dict = none ∧ o.data = .seq its n ∧ its.size ≤ sizeLine ∧ Vals xs its.toList
def SqT (K : PySem.W.Frag) (H : Hp) (a : Addr) (xs : List V) : Prop :=
  Rd H a (.tup xs) ∨
    ∃ (o : Obj) (its : Array Value) (n : Nat), K.lookup a = some o ∧ o.cls = .type "tuple" ∧ o.data = .seq its n ∧ its.size ≤ sizeLine ∧ Vals xs its.toList
def absV : Value → Option V
  | .none => some .non
  | .bool b => some (.bl b)
  | .int i _ => some (.int i)
  | .str x _ => some (.str x)
  | .bytes b _ => some (.byt b)
  | .float b _ => some (.flt b)
  | .ref a => some (.ref a)
  | .type n => some (.ty n)
  | _ => none
theorem RelV.abs {x : V} {u : Value} (r : RelV x u) : absV u = some x := by
  cases x with
  | non => cases r; rfl
  | bl _ => cases r; rfl
  | int _ => obtain ⟨t, rfl⟩ := r; rfl
  | str _ => obtain ⟨t, rfl⟩ := r; rfl
  | byt _ => obtain ⟨t, rfl⟩ := r; rfl
  | flt _ => obtain ⟨t, rfl⟩ := r; rfl
  | ref _ => cases r; rfl
  | ty _ => cases r; rfl
theorem RelV.inj {x y : V} {u : Value} (r : RelV x u) (q : RelV y u) : x = y := Option.some.inj (r.abs.symm.trans q.abs)
theorem Vals.inj : ∀ {xs ys : List V} {us : List Value}, Vals xs us → Vals ys us → xs = ys
  | _, _, _, .nil, .nil => rfl
  | _, _, _, .cons r t, .cons r' t' => by rw [r.inj r', Vals.inj t t']
section
variable {X : Cx} {pins : List (Addr × Obj)} {σ : St} {H : Hp} {s : Shared} {a : Addr} {xs ys : List V}
theorem SqL.of {K : PySem.W.Frag} (h : H a = some (.lst xs)) : SqL K H a xs := .inl (.inl h)
theorem SqT.of {K : PySem.W.Frag} (h : H a = some (.tup xs)) : SqT K H a xs := .inl (.inl h)
theorem Inv.list (I : Inv X pins σ H s) (h : SqL X.K H a xs) : ∃ its : List Value, Vals xs its ∧ PlainL s.heap a its.toArray ∧ xs.length ≤ sizeLine := by
  rcases h with h | ⟨o, its, n, hk, hc, hd, hs, hz, r⟩
  · obtain ⟨z, its, n, r, e⟩ := h.ok I.hok
    exact ⟨its, r, ⟨_, n, e, rfl, rfl, rfl⟩, z⟩
  · refine ⟨its.toList, r, ⟨o, n, I.kIn a o hk, hc, hd, by simpa using hs⟩, ?_⟩
    have e := r.length
    simp only [Array.length_toList] at e
    omega
theorem Inv.tuple (I : Inv X pins σ H s) (h : SqT X.K H a xs) : ∃ its : List Value, Vals xs its ∧ IsTup s.heap a its.toArray ∧ xs.length ≤ sizeLine := by
  rcases h with h | ⟨o, its, n, hk, hc, hs, hz, r⟩
  · obtain ⟨z, its, r, p⟩ := h.ok I.hok
    exact ⟨its, r, p, z⟩
  · refine ⟨its.toList, r, ⟨o, I.kIn a o hk, hc, n, by simpa using hs⟩, ?_⟩
    have e := r.length
    simp only [Array.length_toList] at e
    omega
theorem Inv.list_inj (I : Inv X pins σ H s) (h : SqL X.K H a xs) (h' : SqL X.K H a ys) : xs = ys := by
  obtain ⟨its, r, ⟨o, n, e, _, _, d⟩, _⟩ := I.list h
  obtain ⟨its', r', ⟨o', n', e', _, _, d'⟩, _⟩ := I.list h'
  rw [e] at e'; cases e'
  rw [d] at d'
  injection d' with d1 _
  have : its = its' := by simpa using congrArg Array.toList d1
  subst this
  exact r.inj r'
end

/-! ### another wish about exceptions -/
abbrev Cx.wish (X : Cx) (E : Value → Shared → Prop) : Cx := { X with xe := E }
/-- no exception leaves -/
abbrev Cx.nox (X : Cx) : Cx := X.wish fun _ _ => False
theorem Cx.Ok.wish {X : Cx} (ok : X.Ok) (E : Value → Shared → Prop) : (X.wish E).Ok :=
  ⟨ok.mod, ok.kind, ok.glob, ok.blt, ok.above, ok.inj, ok.has, ok.cab, ok.hd, ok.frames, ok.stk, ok.exf, ok.bs, ok.bsz, ok.noex, ok.exfs, ok.funs, ok.frf⟩
theorem Cx.Ok.unwish {X : Cx} {E : Value → Shared → Prop} (ok : (X.wish E).Ok) : X.Ok :=
  ⟨ok.mod, ok.kind, ok.glob, ok.blt, ok.above, ok.inj, ok.has, ok.cab, ok.hd, ok.frames, ok.stk, ok.exf, ok.bs, ok.bsz, ok.noex, ok.exfs, ok.funs, ok.frf⟩
section
variable {X : Cx} {pins : List (Addr × Obj)} {σ : St} {H : Hp} {s : Shared} {E : Value → Shared → Prop}
theorem Inv.wish (I : Inv X pins σ H s) (E : Value → Shared → Prop) : Inv (X.wish E) pins σ H s := ⟨I.ok.wish E, I.os, I.bare, I.base, I.loc, I.cell, I.free, I.freeC, I.pin, I.hok, I.len⟩
theorem Inv.unwish (I : Inv (X.wish E) pins σ H s) : Inv X pins σ H s := ⟨I.ok.unwish, I.os, I.bare, I.base, I.loc, I.cell, I.free, I.freeC, I.pin, I.hok, I.len⟩
theorem SP.unwish {D : Ends} {f : Flow} {s' : Shared} (h : SP (X.wish E) pins D f s') : SP X pins D f s' := by
  cases f with
  | next => obtain ⟨σ', H', I, q⟩ := h; exact ⟨σ', H', I.unwish, q⟩
  | brk => obtain ⟨σ', H', I, q⟩ := h; exact ⟨σ', H', I.unwish, q⟩
  | cont => obtain ⟨σ', H', I, q⟩ := h; exact ⟨σ', H', I.unwish, q⟩
  | ret u => obtain ⟨v, σ', H', I, r, q⟩ := h; exact ⟨v, σ', H', I.unwish, r, q⟩
theorem PE.nox {e : Expr} {t : TE} (h : PE X.nox e t) : PE X e t := fun pins s σ H Q I hw =>
  wpAny_mono (h pins s σ H Q (I.wish _) hw) (fun _ _ ⟨v, H', I', r, q⟩ => ⟨v, H', I'.unwish, r, q⟩) fun _ _ z => False.elim z
theorem PT.nox {e : Expr} {t : TT} (h : PT X.nox e t) : PT X e t := fun pins s σ H Q I hw =>
  wpAny_mono (h pins s σ H Q (I.wish _) hw) (fun _ _ ⟨H', I', q⟩ => ⟨H', I'.unwish, q⟩) fun _ _ z => False.elim z
theorem PSs.nox {st : List Stmt} {t : TS} (h : PSs X.nox st t) : PSs X st t := fun pins s σ H D I hw =>
  wpAny_mono (h pins s σ H D (I.wish _) hw) (fun _ _ q => q.unwish) fun _ _ z => False.elim z
end

/-! ### blocks and small statements -/
section
variable {X : Cx} {st : Stmt} {rest : List Stmt} {t u : TS} {e : Expr} {te : TE} {pos : Pos}
def tNext : TS := fun D σ H => D.nx σ H
def tSeq (t u : TS) : TS := fun D σ H => t { D with nx := u D } σ H
theorem pss_nil : PSs X [] tNext := fun _ _ σ H _ I h => wpAny_execs_nil ⟨σ, H, I, h⟩
theorem pss_cons (h1 : PS X st t) (h2 : PSs X rest u) : PSs X (st :: rest) (tSeq t u) := by
  intro pins s σ H D I h
  refine wpAny_execs_cons (thn (h1 pins s σ H { D with nx := u D } I h) fun f s1 q => ?_)
  cases f with
  | next =>
    obtain ⟨σ', H', I', q⟩ := q
    exact h2 pins s1 σ' H' D I' q
  | ret v => exact q
  | brk => exact q
  | cont => exact q
theorem pss_one (h1 : PS X st t) : PSs X [st] t := by
  intro pins s σ H D I h
  refine wpAny_execs_cons (thn (h1 pins s σ H D I h) fun f s1 q => ?_)
  cases f with
  | next => exact wpAny_execs_nil q
  | ret v => exact q
  | brk => exact q
  | cont => exact q
def tBreak : TS := fun D σ H => D.bk σ H
def tCont : TS := fun D σ H => D.ct σ H
/-- in a def's body nothing is shown -/
theorem Inv.quiet {pins : List (Addr × Obj)} {σ : St} {H : Hp} {s : Shared} (I : Inv X pins σ H s) : interactive X.env = false := by simp [interactive, I.ok.kind]
/-- an expression whose value is dropped -/
def tDrop (te : TE) : TS := fun D σ H => te σ H fun _ H1 => D.nx σ H1
theorem ps_expr (he : PE X e te) (hs : swapsWith e none pos.line X.env = pure false := by rfl) : PS X (.Expr e pos) (tDrop te) := by
  intro pins s σ H D I h
  exact wpAny_Expr_any (thn (he pins s σ H _ I h) fun v s1 ⟨x, H1, I1, r1, q1⟩ => ⟨σ, H1, I1, q1⟩) I.quiet hs
def tRet (te : TE) : TS := fun D σ H => te σ H D.rt
theorem ps_ret (he : PE X e te) : PS X (.Return (some e) pos) (tRet te) := by
  intro pins s σ H D I h
  exact wpAny_Return_some (thn (he pins s σ H _ I h) fun v s1 ⟨x, H1, I1, r1, q1⟩ => ⟨x, σ, H1, I1, r1, q1⟩)
def tRetN : TS := fun D _ H => D.rt .non H
def tIfS (c : TT) (t u : TS) : TS := fun D σ H => c σ H fun b H1 => if b = true then t D σ H1 else u D σ H1
theorem ps_if {c : Expr} {a b : List Stmt} {tc : TT} (hc : PT X c tc) (ha : PSs X a t) (hb : PSs X b u) : PS X (.If c a b pos) (tIfS tc t u) := by
  intro pins s σ H D I h
  refine wpAny_If (thn (hc pins s σ H _ I h) fun d s1 ⟨H1, I1, q1⟩ => ?_)
  cases d with
  | true => exact ha pins s1 σ H1 D I1 q1
  | false => exact hb pins s1 σ H1 D I1 q1
/-- code that the proof never comes to -/
def tNever : TS := fun _ _ _ => False
end

/-! ### targets -/
abbrev TG := V → St → Hp → (St → Hp → Prop) → Prop
abbrev TGs := List V → St → Hp → (St → Hp → Prop) → Prop
def PG (X : Cx) (target : Expr) (t : TG) : Prop :=
  ∀ (pins : List (Addr × Obj)) (s : Shared) (σ : St) (H : Hp) (v : V) (u : Value) (Q : St → Hp → Prop), Inv X pins σ H s → RelV v u → t v σ H Q →
    wpAny (model X.prog X.w) X.A (assign target X.env u) (fun _ s' => ∃ σ' H', Inv X pins σ' H' s' ∧ Q σ' H') X.xe s
/-- several targets, one after another -/
def PGs (X : Cx) (ts : List Expr) (t : TGs) : Prop :=
  ∀ (pins : List (Addr × Obj)) (s : Shared) (σ : St) (H : Hp) (vs : List V) (us : List Value) (Q : St → Hp → Prop), Inv X pins σ H s → Vals vs us → t vs σ H Q →
    wpAny (model X.prog X.w) X.A (assignInOrder ((assignEach ts X.env).map (·.2)) us) (fun _ s' => ∃ σ' H', Inv X pins σ' H' s' ∧ Q σ' H') X.xe s
/-- o[i] = v, by values -/
abbrev TSet := V → V → V → Hp → (Hp → Prop) → Prop
def PSet (X : Cx) (t : TSet) : Prop :=
  ∀ (pins : List (Addr × Obj)) (s : Shared) (σ : St) (H : Hp) (o i v : V) (ov iv u : Value) (Q : Hp → Prop), Inv X pins σ H s → RelV o ov → RelV i iv → RelV v u → t o i v H Q →
    wpAny (model X.prog X.w) X.A (setItem ov iv u) (fun _ s' => ∃ H', Inv X pins σ H' s' ∧ Q H') X.xe s
/-- a op= b, by values -/
abbrev TIp := V → V → Hp → VK → Prop
def PIp (X : Cx) (op : Operator) (t : TIp) : Prop :=
  ∀ (pins : List (Addr × Obj)) (s : Shared) (σ : St) (H : Hp) (x y : V) (v u : Value) (Q : VK), Inv X pins σ H s → RelV x v → RelV y u → t x y H Q →
    wpAny (model X.prog X.w) X.A (inplaceOp op v u) (EP X pins σ Q) X.xe s
section
variable {X : Cx} {pos : Pos}
def gName (i : Nat) : TG := fun v σ H Q => Q (σ.set i (some v)) H
theorem pg_name {i : Nat} {x : Str} (hN : X.N.Nodup) (hi : X.N[i]? = some x) (hx : Loc X.env.scope x) (hf : X.fn x = true ∨ X.env.scope.names.lookup x = some .local := by first | exact .inl rfl | exact .inr rfl | assumption) : PG X (.Name x pos) (gName i) := by
  intro pins s σ H v u Q I r h
  exact wpAny_assign_Name (store_ok I hN hi hx r (fun s' I' => ⟨_, H, I', h⟩) hf)
def gNil : TGs := fun vs σ H Q => vs = [] ∧ Q σ H
def gCons (t : TG) (u : TGs) : TGs := fun vs σ H Q => ∃ v r, vs = v :: r ∧ t v σ H fun σ' H' => u r σ' H' Q
theorem pgs_nil : PGs X [] gNil := by
  intro pins s σ H vs us Q I r h
  obtain ⟨e, h⟩ := h
  subst e
  cases r
  exact assignInOrder_nil ⟨σ, H, I, h⟩
theorem pgs_cons {e : Expr} {es : List Expr} {t : TG} {u : TGs} (h1 : PG X e t) (h2 : PGs X es u)
    (hs : (assignEach (e :: es) X.env).map (·.2) = assign e X.env :: (assignEach es X.env).map (·.2) := by rfl) : PGs X (e :: es) (gCons t u) := by
  intro pins s σ H vs us Q I r h
  obtain ⟨v, vr, e1, h⟩ := h
  subst e1
  cases r with
  | cons r rr =>
    rw [hs]
    refine assignInOrder_cons (thn (h1 pins s σ H _ _ _ I r h) fun _ s1 ⟨σ1, H1, I1, q1⟩ => ?_)
    exact h2 pins s1 σ1 H1 _ _ Q I1 rr q1
/-- (a, b, ..) = a tuple of that length -/
def gTup (K : PySem.W.Frag) (n : Nat) (t : TGs) : TG := fun v σ H Q => ∃ a xs, v = .ref a ∧ SqT K H a xs ∧ xs.length = n ∧ t xs σ H Q
theorem pg_tup {es : List Expr} {k : Nat} {t : TGs} {n : Nat} (hc : X.calm = true) (h : PGs X es t)
    (hn : (assignEach es X.env).length = n := by rfl) (hst : (assignEach es X.env).findIdx? (·.1) = none := by rfl) : PG X (.Tuple es k pos) (gTup X.K n t) := by
  intro pins s σ H v u Q I r hw
  obtain ⟨a, xs, e1, hq, hl, hw⟩ := hw
  subst e1
  cases r
  obtain ⟨its, rv, ht, hz⟩ := I.tuple hq
  refine assign_Tuple_tuple (I.ok.hd hc) ht (by simp [hn, ← hl, rv.length]) hst fun h' hx => ?_
  have I1 : Inv X pins σ H { s with heap := h' } := I.kept (t' := s.toks) fun b o e => hx b o (Nat.ne_of_lt (Heap.lt_size e)) e
  exact h pins _ σ H xs _ Q I1 (by simpa using rv) hw
/-- o[i] = .. -/
def gSub (to ti : TE) (t : TSet) : TG := fun v σ H Q => to σ H fun o H1 => ti σ H1 fun i H2 => t o i v H2 fun H3 => Q σ H3
/-- target = value -/
def tAsg (te : TE) (g : TG) : TS := fun D σ H => te σ H fun x H1 => g x σ H1 D.nx
/-- name = value -/
theorem ps_set {i : Nat} {x : Str} {e : Expr} {te : TE} {pos' : Pos} (hN : X.N.Nodup) (hi : X.N[i]? = some x) (hx : Loc X.env.scope x) (he : PE X e te) (hs : swapsWith e (some (.Name x pos')) pos.line X.env = pure false := by rfl) (hf : X.fn x = true ∨ X.env.scope.names.lookup x = some .local := by first | exact .inl rfl | exact .inr rfl | assumption) :
    PS X (.Assign [.Name x pos'] e pos) (tAsg te (gName i)) := by
  intro pins s σ H D I h
  refine wpAny_Assign_Name (thn (he pins s σ H _ I h) fun v s1 ⟨y, H1, I1, r1, q1⟩ => ?_) hs
  exact store_ok I1 hN hi hx r1 (fun s2 I2 => ⟨_, H1, I2, q1⟩) hf
/-- a, b = x, y with plain local names: stored from the right; the pair itself is not tracked (the opening rows as in PyProof/Rows/TupAssign.lean:23) -/
def tPar (i j : Nat) (ta : TA) : TS := fun D σ H => ta σ H fun vs H1 => ∃ v w, vs = [v, w] ∧ D.nx ((σ.set i (some v)).set j (some w)) H1
/-- name op= e -/
def tAug (i : Nat) (te : TE) (ti : TIp) : TS := fun D σ H => ∃ x, σ[i]? = some (some x) ∧ te σ H fun y H1 => ti x y H1 fun z H2 => D.nx (σ.set i (some z)) H2
/-- o[i] op= e -/
def tAugS (to ti te : TE) (tget : V → V → Hp → VK → Prop) (tip : TIp) (tset : TSet) : TS := fun D σ H => to σ H fun o H1 => ti σ H1 fun i H2 => tget o i H2 fun x H3 => te σ H3 fun y H4 => tip x y H4 fun z H5 => tset o i z H5 fun H6 => D.nx σ H6
/-- o[i], by values -/
def PGet (X : Cx) (t : V → V → Hp → VK → Prop) : Prop :=
  ∀ (pins : List (Addr × Obj)) (s : Shared) (σ : St) (H : Hp) (o i : V) (ov iv : Value) (Q : VK), Inv X pins σ H s → RelV o ov → RelV i iv → t o i H Q →
    wpAny (model X.prog X.w) X.A (getItem ov iv) (EP X pins σ Q) X.xe s
/-- ints -/
def ipI (f : Int → Int → Int) : TIp := fun x y H Q => ∃ i j, x = .int i ∧ y = .int j ∧ Q (.int (f i j)) H
end

/-! ### while -/
section
variable {X : Cx} {pos : Pos}
/-- the invariant W with its measure -/
def tWhile (c : TT) (tb : TS) : TS := fun D σ H => ∃ W : Nat → St → Hp → Prop, (∃ m, W m σ H) ∧ ∀ m σ H, W m σ H →
  c σ H fun b H1 => if b = true then ∃ N : St → Hp → Prop, (∀ σ' H', N σ' H' → ∃ m', m' < m ∧ W m' σ' H') ∧ tb { D with nx := N, ct := N, bk := D.nx } σ H1 else D.nx σ H1
end

/-! ### what a loop or a comprehension walks -/
/-- at turn i: it yields x (the heap may grow), or it stops -/
structure It where
  go : Nat → Hp → Prop
  yld : Nat → Hp → V → Hp → Prop
  stop : Nat → Hp → Prop
/-- the iterator's own objects may turn: they are not the frame's, not pinned, younger than the entry (or a comprehension's own) -/
def FpOk (X : Cx) (pins : List (Addr × Obj)) (H : Hp) (b : Addr) : Prop :=
  H b = none ∧ b ≠ X.env.locals ∧ b ∉ X.fs ∧ (b ∈ X.ex ∨ X.s₀.heap.objs.size ≤ b) ∧ (∀ x c, X.env.cells.lookup x = some c → c ≠ b) ∧ ∀ p ∈ X.pn ++ pins, p.1 ≠ b
theorem Inv.fpOk {X : Cx} {pins : List (Addr × Obj)} {σ : St} {H H' : Hp} {s : Shared} {b : Addr} (I : Inv X pins σ H s) (hb : s.heap.objs.size ≤ b) (hn : H' b = none) : FpOk X pins H' b := by
  refine ⟨hn, Nat.ne_of_gt (Nat.lt_of_lt_of_le I.lt hb), I.nofs hb, .inr (Nat.le_trans I.sz hb), fun x c e z => ?_, fun p hp z => ?_⟩
  · obtain ⟨v, q⟩ := I.cell x c e
    exact absurd (Nat.lt_of_lt_of_le q.lt (by rw [z]; exact hb)) (Nat.lt_irrefl _)
  · exact absurd (Nat.lt_of_lt_of_le (Heap.lt_size (I.pin p hp).1) (by rw [z]; exact hb)) (Nat.lt_irrefl _)
structure Turn (P : Program) (w : World) (K : PySem.W.Frag) (tg : Expr) (J : It) (fp : List Addr) (it : Addr) (tn : Nat → Heap → Prop) : Prop where
  mem : it ∈ fp
  obj : ∀ i h, tn i h → ∀ b ∈ fp, ∃ o, h.get? b = some o ∧ ∀ v, o.data ≠ .cell v
  keep : ∀ i h h', tn i h → (∀ b ∈ fp, ∀ o, h.get? b = some o → h'.get? b = some o) → tn i h'
  item : ∀ (X : Cx), X.prog = P → X.w = w → X.K = K → X.calm = true → ∀ (i : Nat) (pins : List (Addr × Obj)) (s : Shared) (σ : St) (H : Hp) (E : Value → Shared → Prop), Inv X pins σ H s → (∀ b ∈ fp, FpOk X pins H b) → tn i s.heap → J.go i H →
    wpAny (model P w) X.A (pyNext (.ref it)) (fun r s1 => ∃ u, r = some u ∧
      wpAny (model P w) X.A (letOwnedTupleGo tg (.ref it) u) (fun _ s2 => ∃ x H', Inv X pins σ H' s2 ∧ RelV x u ∧ J.yld i H x H' ∧ tn (i + 1) s2.heap ∧ ∀ b ∈ fp, H' b = none) E s1) E s
  done : ∀ (X : Cx), X.prog = P → X.w = w → X.K = K → X.calm = true → ∀ (i : Nat) (pins : List (Addr × Obj)) (s : Shared) (σ : St) (H : Hp) (E : Value → Shared → Prop), Inv X pins σ H s → (∀ b ∈ fp, FpOk X pins H b) → tn i s.heap → J.stop i H →
    wpAny (model P w) X.A (pyNext (.ref it)) (fun r s1 => r = none ∧ Inv X pins σ H s1) E s
  self : ∀ (A : Around) (i : Nat) (s : Shared) (Q : Value → Shared → Prop) (E : Value → Shared → Prop), tn i s.heap → Q (.ref it) s → wpAny (model P w) A (pyIter (.ref it)) Q E s
abbrev TI := St → Hp → (It → Hp → Prop) → Prop
/-- an iterator has come -/
def PIE (X : Cx) (pins : List (Addr × Obj)) (σ : St) (tg : Expr) (R : It → Hp → Prop) (itv : Value) (s2 : Shared) : Prop :=
  ∃ (it : Addr) (fp : List Addr) (tn : Nat → Heap → Prop) (J : It) (H' : Hp), itv = .ref it ∧ Inv X pins σ H' s2 ∧ Turn X.prog X.w X.K tg J fp it tn ∧ tn 0 s2.heap ∧ (∀ b ∈ fp, FpOk X pins H' b) ∧ R J H'
def PI (X : Cx) (tg iter : Expr) (wi : TI) : Prop :=
  ∀ (pins : List (Addr × Obj)) (s : Shared) (σ : St) (H : Hp) (R : It → Hp → Prop), Inv X pins σ H s → wi σ H R →
    wpAny (model X.prog X.w) X.A (eval iter X.env) (fun v s1 => wpAny (model X.prog X.w) X.A (pyIter v) (PIE X pins σ tg R) X.xe s1) X.xe s

/-- the step ahead of the store is nothing for an iterator that keeps no tuple -/
theorem go_of {M : Model} {A : Around} {E : Value → Shared → Prop} {s : Shared} {tg : Expr} {it : Addr} {u : Value} {o : Obj} {n : String} {vs : Array Value} {Q : Unit → Shared → Prop} (ho : s.heap.get? it = some o) (hc : o.cls = .type n) (hd : o.data = .fields vs)
    (hn : ["enumerate", "zip", "dict_itemiterator", "dict_reverseitemiterator", "odict_iterator", "itertools.zip_longest", "itertools.pairwise"].contains n = false) (hQ : Q () s) : wpAny M A (letOwnedTupleGo tg (.ref it) u) Q E s := by
  unfold letOwnedTupleGo
  cases tg <;> first
    | exact wpAny_pure hQ
    | (cases u <;> first
        | exact wpAny_pure hQ
        | (refine wpAny_bind (wpAny_load ho ?_)
           rw [hc, hd]
           show wpAny M A (if (["enumerate", "zip", "dict_itemiterator", "dict_reverseitemiterator", "odict_iterator", "itertools.zip_longest", "itertools.pairwise"].contains n && vs[0]? == some (rawInt _)) = true then _ else _) Q E s
           rw [if_neg (by intro h; rw [hn, Bool.false_and] at h; cases h)]
           exact wpAny_pure hQ))

/-- the list at a, as it stands at each turn (a loop may append to it) -/
def Itl (K : PySem.W.Frag) (a : Addr) : It :=
  ⟨fun i H => ∃ xs x, SqL K H a xs ∧ xs[i]? = some x, fun i H x H' => H' = H ∧ ∀ xs, SqL K H a xs → xs[i]? = some x, fun i H => ∃ xs, SqL K H a xs ∧ xs.length ≤ i⟩
def Itt (K : PySem.W.Frag) (a : Addr) : It :=
  ⟨fun i H => ∃ xs x, SqT K H a xs ∧ xs[i]? = some x, fun i H x H' => H' = H ∧ ∀ xs, SqT K H a xs → xs[i]? = some x, fun i H => ∃ xs, SqT K H a xs ∧ xs.length ≤ i⟩
/-- lo, lo + 1, .. (n of them) -/
def Itr (lo : Int) (n : Nat) : It := ⟨fun i _ => i < n, fun i H x H' => H' = H ∧ x = .int (lo + i), fun i _ => n ≤ i⟩
theorem turn_list {P : Program} {w : World} {K : PySem.W.Frag} {tg : Expr} (a it : Addr) : Turn P w K tg (Itl K a) [it] it (fun i h => h.IsListIter it a i) where
  mem := by simp
  obj := fun i h st b hb => by
    have e : b = it := by simpa using hb
    subst e
    obtain ⟨o, e, c, d⟩ := st
    exact ⟨o, e, fun v z => by rw [d] at z; cases z⟩
  keep := fun i h h' st k => st.at fun o e => k it (by simp) o e
  item := by
    intro X hP hw hK hc i pins s σ H E I hf st hg
    subst hP hw hK
    obtain ⟨xs, x, hq, hx⟩ := hg
    obtain ⟨its, rv, p, hz⟩ := I.list hq
    obtain ⟨u, hu, ru⟩ := rv.get hx
    obtain ⟨f0, f1, f2, f3, f4, f5⟩ := hf it (by simp)
    refine wpAny_pyNext_list_item st p.isList (x := u) (by simpa using hu) fun h' st' sb => ?_
    have I1 : Inv X pins σ H { s with heap := h' } := I.turned (t' := s.toks) (fun b o hb e => (sb.2 b hb).trans e) f0 f1 f3 f4 f5
    obtain ⟨o, e, c, d⟩ := id st'
    exact ⟨u, rfl, go_of (s := { s with heap := h' }) e c d (by decide) ⟨x, H, I1, ru, ⟨rfl, fun ys hy => by rw [I.list_inj hy hq]; exact hx⟩, st', fun b hb => (hf b hb).1⟩⟩
  done := by
    intro X hP hw hK hc i pins s σ H E I hf st hg
    subst hP hw hK
    obtain ⟨xs, hq, hx⟩ := hg
    obtain ⟨its, rv, p, hz⟩ := I.list hq
    obtain ⟨f0, f1, f2, f3, f4, f5⟩ := hf it (by simp)
    have hl := rv.length
    exact wpAny_pyNext_list_end (I.ok.hd hc) st p.isList (by simp; omega) fun h' eb => ⟨rfl, I.turned (t' := s.toks) (fun b o hb e => eb b o hb e) f0 f1 f3 f4 f5⟩
  self := fun _ _ _ _ _ st h => wpAny_pyIter_listiter st h
theorem turn_range {P : Program} {w : World} {K : PySem.W.Frag} {tg : Expr} (it : Addr) (lo : Int) (n : Nat) : Turn P w K tg (Itr lo n) [it] it (fun i h => IsRangeIter h it (lo + (i : Nat) * 1) ((n : Int) - (i : Nat)) 1) where
  mem := by simp
  obj := fun i h st b hb => by
    have e : b = it := by simpa using hb
    subst e
    exact ⟨_, st, fun v z => by
      have z' : Data.fields _ = Data.cell v := z
      cases z'⟩
  keep := fun i h h' st k => k it (by simp) _ st
  item := by
    intro X hP hw hK hc i pins s σ H E I hf st hg
    subst hP hw hK
    obtain ⟨f0, f1, f2, f3, f4, f5⟩ := hf it (by simp)
    have W := Walks.range (prog := X.prog) (w := X.w) (I.ok.hd hc) it lo 1 n
    refine W.item i s _ _ hg st fun v h' tk hv st' kk => ?_
    obtain ⟨t, rfl⟩ := hv
    have I1 : Inv X pins σ H { s with heap := h', toks := tk } := I.turned (fun b o hb e => kk b o (by simpa using hb) e) f0 f1 f3 f4 f5
    refine ⟨_, rfl, go_of (s := { s with heap := h', toks := tk }) (n := "range_iterator") st' rfl rfl (by decide) ⟨.int (lo + i), H, I1, ⟨t, ?_⟩, ⟨rfl, rfl⟩, st', fun b hb => (hf b hb).1⟩⟩
    rw [Int.mul_one]
  done := by
    intro X hP hw hK hc i pins s σ H E I hf st hg
    subst hP hw hK
    obtain ⟨f0, f1, f2, f3, f4, f5⟩ := hf it (by simp)
    exact wpAny_pyNext_range_end (I.ok.hd hc) st (by have : n ≤ i := hg; omega) fun h' eb => ⟨rfl, I.turned (t' := s.toks) (fun b o hb e => eb b o hb e) f0 f1 f3 f4 f5⟩
  self := fun _ _ _ _ _ st h => wpAny_pyIter_rangeiter st h
end L2

namespace L2
open PySem PySem.Spec PyProof.Rows
section
variable {X : Cx} {tg : Expr}
def iList (K : PySem.W.Frag) (tl : TE) : TI := fun σ H R => tl σ H fun x H1 => ∃ a, x = .ref a ∧ (∃ xs, SqL K H1 a xs) ∧ R (Itl K a) H1
def iTup (K : PySem.W.Frag) (tl : TE) : TI := fun σ H R => tl σ H fun x H1 => ∃ a, x = .ref a ∧ (∃ xs, SqT K H1 a xs) ∧ R (Itt K a) H1
theorem pi_list {l : Expr} {tl : TE} (hl : PE X l tl) : PI X tg l (iList X.K tl) := by
  intro pins s σ H R I h
  refine thn (hl pins s σ H _ I h) fun v s1 ⟨x, H1, I1, r1, q1⟩ => ?_
  obtain ⟨a, e, ⟨xs, hq⟩, q⟩ := q1
  subst e
  cases r1
  obtain ⟨its, rv, p, hz⟩ := I1.list hq
  refine wpAny_pyIter_list p.isList ?_
  refine ⟨s1.heap.objs.size, [s1.heap.objs.size], _, _, H1, rfl, I1.kept (t' := s1.toks) fun b o e => Heap.get?_push_of_some _ e, turn_list a _, ⟨_, Heap.get?_push_size _ rfl, rfl, rfl⟩, fun b hb => ?_, q⟩
  have e : b = s1.heap.objs.size := by simpa using hb
  subst e
  exact I1.fpOk (Nat.le_refl _) (I1.hok.fresh (Nat.le_refl _))
/-- a range object just made, walked -/
theorem range_it {pins : List (Addr × Obj)} {σ : St} {H : Hp} {s : Shared} {R : It → Hp → Prop} {E : Value → Shared → Prop} {lo hi : Int} {t u v : Tok} {tk : Nat} (I : Inv X pins σ H s) (h1 : -(2 ^ 62) ≤ lo) (h2 : lo < 2 ^ 62) (h3 : -(2 ^ 62) ≤ hi) (h4 : hi < 2 ^ 62)
    (q : R (Itr lo (hi - lo).toNat) H) : wpAny (model X.prog X.w) X.A (pyIter (.ref s.heap.objs.size)) (PIE X pins σ tg R) E { s with heap := s.heap.push { cls := .type "range", data := .fields #[.int lo t, .int hi u, .int 1 v] }, toks := tk } := by
  refine wpAny_pyIter_range (IsRange.new ..) (small_one h1 h2 h3 h4) ?_
  have I1 : Inv X pins σ H { s with heap := s.heap.push { cls := .type "range", data := .fields #[.int lo t, .int hi u, .int 1 v] }, toks := tk } := I.kept fun b o e => Heap.get?_push_of_some _ e
  refine ⟨(s.heap.push { cls := .type "range", data := .fields #[.int lo t, .int hi u, .int 1 v] }).objs.size, [(s.heap.push { cls := .type "range", data := .fields #[.int lo t, .int hi u, .int 1 v] }).objs.size], _, _, H, rfl,
    I1.kept (t' := tk) fun b o e => Heap.get?_push_of_some _ e, turn_range _ lo (hi - lo).toNat, ?_, fun b hb => ?_, q⟩
  · have e1 : lo + ((0 : Nat) : Int) * 1 = lo := by simp
    have e2 : (((hi - lo).toNat : Nat) : Int) - ((0 : Nat) : Int) = Builtin.Range.rangeSize lo hi 1 := by rw [rangeSize_one]; split <;> omega
    show IsRangeIter _ _ (lo + ((0 : Nat) : Int) * 1) ((((hi - lo).toNat : Nat) : Int) - ((0 : Nat) : Int)) 1
    rw [e1, e2]
    exact Heap.get?_push_size _ rfl
  · have e : b = (s.heap.push { cls := .type "range", data := .fields #[.int lo t, .int hi u, .int 1 v] }).objs.size := by simpa using hb
    subst e
    exact I1.fpOk (Nat.le_refl _) (I1.hok.fresh (Nat.le_refl _))
def iRng1 (ta : TA) : TI := fun σ H R => ta σ H fun vs H1 => ∃ j : Int, vs = [.int j] ∧ -(2 ^ 62) ≤ j ∧ j < 2 ^ 62 ∧ R (Itr 0 j.toNat) H1
def iRng2 (ta : TA) : TI := fun σ H R => ta σ H fun vs H1 => ∃ i j : Int, vs = [.int i, .int j] ∧ (-(2 ^ 62) ≤ i ∧ i < 2 ^ 62 ∧ -(2 ^ 62) ≤ j ∧ j < 2 ^ 62) ∧ R (Itr i (j - i).toNat) H1
theorem pi_range1 {a : Expr} {ta : TA} {p pos : Pos} (hg : Gl X "range") (hm : X.mg "range" = none) (ha : PA X [a] ta) (hs : starEach [a] X.env = [(false, eval a X.env)] := by rfl) : PI X tg (.Call (.Name "range" p) [a] [] pos) (iRng1 ta) := by
  intro pins s σ H R I h
  refine Call_ (ld_blt I hg hm boot_range (PyProof.Rows.callWith_type1 (thn (ha pos pins s σ H _ I h) fun us s1 ⟨vs, H1, I1, r1, q1⟩ => ?_) hs rfl))
  obtain ⟨j, e, q1, q2, q⟩ := q1
  subst e
  cases r1 with
  | cons r rr =>
    cases rr
    obtain ⟨t, rfl⟩ := r
    exact call_range_1 (range_it I1 (by omega) (by omega) q1 q2 (by simpa using q))
/-! ### for -/
/-- W: the invariant by the turn and a measure; N: what the body is to reach -/
def tFor (wi : TI) (g : TG) (tb : TS) : TS := fun D σ H => wi σ H fun J H1 => ∃ W : Nat → Nat → St → Hp → Prop, (∃ m, W 0 m σ H1) ∧ ∀ i m σ H, W i m σ H →
  (J.stop i H ∧ D.nx σ H) ∨ (J.go i H ∧ ∃ N : St → Hp → Prop, (∀ σ' H', N σ' H' → ∃ m', m' < m ∧ W (i + 1) m' σ' H') ∧ ∀ x H', J.yld i H x H' → g x σ H' fun σ2 H2 => tb { D with nx := N, ct := N, bk := D.nx } σ2 H2)
/-- the records at fp as they stand -/
def pinsAt (fp : List Addr) (h : Heap) : List (Addr × Obj) := fp.filterMap fun b => (h.get? b).map fun o => (b, o)
theorem mem_pinsAt {fp : List Addr} {h : Heap} {b : Addr} {o : Obj} (hb : b ∈ fp) (e : h.get? b = some o) : (b, o) ∈ pinsAt fp h := List.mem_filterMap.mpr ⟨b, hb, by rw [e]; rfl⟩
theorem of_pinsAt {fp : List Addr} {h : Heap} {p : Addr × Obj} (hp : p ∈ pinsAt fp h) : p.1 ∈ fp ∧ h.get? p.1 = some p.2 := by
  obtain ⟨b, hb, e⟩ := List.mem_filterMap.mp hp
  cases q : h.get? b with
  | none => rw [q] at e; cases e
  | some o =>
    rw [q] at e
    have e' : (b, o) = p := Option.some.inj e
    subst e'
    exact ⟨hb, q⟩
theorem Inv.pinned {pins : List (Addr × Obj)} {σ : St} {H : Hp} {s : Shared} {fp : List Addr} (I : Inv X pins σ H s) (hf : ∀ b ∈ fp, FpOk X pins H b) (ho : ∀ b ∈ fp, ∃ o, s.heap.get? b = some o ∧ ∀ v, o.data ≠ .cell v) : Inv X (pins ++ pinsAt fp s.heap) σ H s :=
  I.pins_of fun p hp => (List.mem_append.mp hp).elim (fun z => I.pin p (List.mem_append_right _ z)) fun z => by
    obtain ⟨hb, e⟩ := of_pinsAt z
    obtain ⟨f0, f1, f2, _⟩ := hf p.1 hb
    obtain ⟨o, e', d⟩ := ho p.1 hb
    rw [e] at e'; cases e'
    exact ⟨e, f0, f1, f2, d⟩
theorem Inv.unpinned {pins pl : List (Addr × Obj)} {σ : St} {H : Hp} {s : Shared} (I : Inv X (pins ++ pl) σ H s) : Inv X pins σ H s := I.pins_of fun p hp => I.pin p (List.mem_append_right _ (List.mem_append_left _ hp))
theorem ps_for {iter : Expr} {body : List Stmt} {wi : TI} {g : TG} {tb : TS} {pos : Pos} (hp : PassesOwn (model X.prog X.w) X.A X.env X.xe) (hc : X.calm = true) (hi : PI X tg iter wi) (hg : PG X tg g) (hb : PSs X body tb)
    (hs : ∀ x, foldedSetIterable iter X.env x = pure x := by intro _; rfl) : PS X (.For tg iter body [] pos) (tFor wi g tb) := by
  intro pins s σ H D I h
  refine wpAny_For (thn (hi pins s σ H _ I h) fun v s1 h1 => thn h1 fun itv s2 h2 => ?_) hs
  obtain ⟨it, fp, tn, J, H2, e, I2, T, st2, f2, W, ⟨m0, w0⟩, turn⟩ := h2
  subst e
  -- what stays true of the iterator's objects through the loop
  have stat : ∀ {H' : Hp}, (∀ b ∈ fp, H' b = none) → ∀ b ∈ fp, FpOk X pins H' b := fun hn b hb => ⟨hn b hb, (f2 b hb).2⟩
  refine codeAny_forLoop_any (fun n s' => ∃ i σ' H', Inv X pins σ' H' s' ∧ tn i s'.heap ∧ (∀ b ∈ fp, H' b = none) ∧ W i n σ' H') ?_ m0 ⟨0, σ, H2, I2, st2, fun b hb => (f2 b hb).1, w0⟩
  rintro n s3 ⟨i, σ3, H3, I3, st3, fr3, w3⟩
  rcases turn i n σ3 H3 w3 with ⟨stop, qn⟩ | ⟨go, N, hN, step⟩
  · refine wpAny_passesOwn hp (thn (T.done X rfl rfl rfl hc i pins s3 σ3 H3 X.xe I3 (stat fr3) st3 stop) fun r s4 ⟨hr, I4⟩ => ?_)
    subst hr
    exact wpAny_execs_nil ⟨σ3, H3, I4, qn⟩
  · refine wpAny_passesOwn hp (thn (T.item X rfl rfl rfl hc i pins s3 σ3 H3 X.xe I3 (stat fr3) st3 go) fun r s4 ⟨u, hr, h4⟩ => ?_)
    subst hr
    refine wpAny_passesOwn hp (thn h4 fun _ s5 ⟨x, H5, I5, r5, y5, st5, fr5⟩ => ?_)
    have I5' := I5.pinned (stat fr5) (T.obj _ _ st5)
    refine wpAny_passesOwn hp (thn (hg _ s5 σ3 H5 x u _ I5' r5 (step x H5 y5)) fun _ s6 ⟨σ6, H6, I6, q6⟩ => ?_)
    refine wpAny_passesOwn hp (thn (hb _ s6 σ6 H6 _ I6 q6) fun f s7 q7 => ?_)
    have again : ∀ {σ7 : St} {H7 : Hp}, Inv X (pins ++ pinsAt fp s5.heap) σ7 H7 s7 → N σ7 H7 → ∃ m, m < n ∧ ∃ i σ' H', Inv X pins σ' H' s7 ∧ tn i s7.heap ∧ (∀ b ∈ fp, H' b = none) ∧ W i m σ' H' := fun {σ7 H7} I7 n7 => by
      obtain ⟨m', hm, w7⟩ := hN σ7 H7 n7
      refine ⟨m', hm, i + 1, σ7, H7, I7.unpinned, T.keep _ _ _ st5 fun b hb o e => (I7.pin (b, o) (List.mem_append_right _ (List.mem_append_right _ (mem_pinsAt hb e)))).1, fun b hb => ?_, w7⟩
      obtain ⟨o, e, d⟩ := T.obj _ _ st5 b hb
      exact (I7.pin (b, o) (List.mem_append_right _ (List.mem_append_right _ (mem_pinsAt hb e)))).2.1
    cases f with
    | next => obtain ⟨σ7, H7, I7, n7⟩ := q7; exact again I7 n7
    | cont => obtain ⟨σ7, H7, I7, n7⟩ := q7; exact again I7 n7
    | brk => obtain ⟨σ7, H7, I7, q7⟩ := q7; exact ⟨σ7, H7, I7.unpinned, q7⟩
    | ret v => obtain ⟨x7, σ7, H7, I7, r7, q7⟩ := q7; exact ⟨x7, σ7, H7, I7.unpinned, r7, q7⟩
end

/-! ### the forms one uses -/
/-- over a list that the body leaves as it is -/
theorem for_list {K : PySem.W.Frag} {a : Addr} {xs : List V} {g : TG} {tb : TS} {D : Ends} {σ : St} {H : Hp} (Pv : Nat → St → Hp → Prop) (h0 : Pv 0 σ H) (hl : ∀ i σ H, i ≤ xs.length → Pv i σ H → SqL K H a xs)
    (hs : ∀ i x σ H, xs[i]? = some x → Pv i σ H → g x σ H fun σ2 H2 => tb { D with nx := Pv (i + 1), ct := Pv (i + 1), bk := D.nx } σ2 H2) (hd : ∀ σ H, Pv xs.length σ H → D.nx σ H) :
    ∃ W : Nat → Nat → St → Hp → Prop, (∃ m, W 0 m σ H) ∧ ∀ i m σ H, W i m σ H →
      ((Itl K a).stop i H ∧ D.nx σ H) ∨ ((Itl K a).go i H ∧ ∃ N : St → Hp → Prop, (∀ σ' H', N σ' H' → ∃ m', m' < m ∧ W (i + 1) m' σ' H') ∧ ∀ x H', (Itl K a).yld i H x H' → g x σ H' fun σ2 H2 => tb { D with nx := N, ct := N, bk := D.nx } σ2 H2) := by
  refine ⟨fun i m σ H => m = xs.length - i ∧ i ≤ xs.length ∧ Pv i σ H, ⟨xs.length, by simp, Nat.zero_le _, h0⟩, ?_⟩
  rintro i m σ H ⟨rfl, hi, p⟩
  have q := hl i σ H hi p
  by_cases hlt : i < xs.length
  · refine .inr ⟨⟨xs, xs[i], q, by simp [hlt]⟩, Pv (i + 1), fun σ' H' p' => ⟨xs.length - (i + 1), by omega, rfl, hlt, p'⟩, fun x H' y => ?_⟩
    obtain ⟨e, y⟩ := y
    subst e
    exact hs i x σ _ (y xs q) p
  · have e : i = xs.length := by omega
    subst e
    exact .inl ⟨⟨xs, q, Nat.le_refl _⟩, hd σ H p⟩
theorem for_range {lo : Int} {n : Nat} {g : TG} {tb : TS} {D : Ends} {σ : St} {H : Hp} (Pv : Nat → St → Hp → Prop) (h0 : Pv 0 σ H)
    (hs : ∀ i σ H, i < n → Pv i σ H → g (.int (lo + i)) σ H fun σ2 H2 => tb { D with nx := Pv (i + 1), ct := Pv (i + 1), bk := D.nx } σ2 H2) (hd : ∀ σ H, Pv n σ H → D.nx σ H) :
    ∃ W : Nat → Nat → St → Hp → Prop, (∃ m, W 0 m σ H) ∧ ∀ i m σ H, W i m σ H →
      ((Itr lo n).stop i H ∧ D.nx σ H) ∨ ((Itr lo n).go i H ∧ ∃ N : St → Hp → Prop, (∀ σ' H', N σ' H' → ∃ m', m' < m ∧ W (i + 1) m' σ' H') ∧ ∀ x H', (Itr lo n).yld i H x H' → g x σ H' fun σ2 H2 => tb { D with nx := N, ct := N, bk := D.nx } σ2 H2) := by
  refine ⟨fun i m σ H => m = n - i ∧ i ≤ n ∧ Pv i σ H, ⟨n, by simp, Nat.zero_le _, h0⟩, ?_⟩
  rintro i m σ H ⟨rfl, hi, p⟩
  by_cases hlt : i < n
  · refine .inr ⟨hlt, Pv (i + 1), fun σ' H' p' => ⟨n - (i + 1), by omega, rfl, hlt, p'⟩, fun x H' y => ?_⟩
    obtain ⟨e, y⟩ := y
    subst e y
    exact hs i σ _ hlt p
  · have e : i = n := by omega
    subst e
    exact .inl ⟨Nat.le_refl _, hd σ H p⟩
end L2

namespace L2
open PySem PySem.Spec PyProof.Rows

abbrev R2 := V → V → Hp → VK → Prop
/-- a two-place operation on values: f is binaryOp op, inplaceOp op or compareOp op -/
def OpR (X : Cx) (f : Value → Value → Sem Value) (r : R2) : Prop :=
  ∀ (pins : List (Addr × Obj)) (s : Shared) (σ : St) (H : Hp) (x y : V) (v u : Value) (Q : VK), Inv X pins σ H s → RelV x v → RelV y u → r x y H Q →
    wpAny (model X.prog X.w) X.A (f v u) (EP X pins σ Q) X.xe s
/-- a one-place operation -/
def UnR (X : Cx) (f : Value → Sem Value) (r : V → Hp → VK → Prop) : Prop :=
  ∀ (pins : List (Addr × Obj)) (s : Shared) (σ : St) (H : Hp) (x : V) (v : Value) (Q : VK), Inv X pins σ H s → RelV x v → r x H Q →
    wpAny (model X.prog X.w) X.A (f v) (EP X pins σ Q) X.xe s
/-- a call of a value that is known (a builtin, a type) with values -/
def CallR (X : Cx) (f : Value) (r : List V → Hp → VK → Prop) : Prop :=
  ∀ (pins : List (Addr × Obj)) (s : Shared) (σ : St) (H : Hp) (xs : List V) (us : List Value) (Q : VK), Inv X pins σ H s → Vals xs us → r xs H Q →
    wpAny (model X.prog X.w) X.A (call f us) (EP X pins σ Q) X.xe s
/-- a value's truth -/
def TruR (X : Cx) (r : V → Hp → (Bool → Hp → Prop) → Prop) : Prop :=
  ∀ (pins : List (Addr × Obj)) (s : Shared) (σ : St) (H : Hp) (x : V) (v : Value) (Q : Bool → Hp → Prop), Inv X pins σ H s → RelV x v → r x H Q →
    wpAny (model X.prog X.w) X.A (truthy v) (TP X pins σ Q) X.xe s

def tOp (r : R2) (ta tb : TE) : TE := fun σ H Q => ta σ H fun x H1 => tb σ H1 fun y H2 => r x y H2 Q
def tUn (r : V → Hp → VK → Prop) (ta : TE) : TE := fun σ H Q => ta σ H fun x H1 => r x H1 Q
/-- ints in, under C, and a value out -/
def rI (C : Int → Int → Prop) (g : Int → Int → V) : R2 := fun x y H Q => ∃ i j, x = .int i ∧ y = .int j ∧ C i j ∧ Q (g i j) H
def rI0 (g : Int → Int → V) : R2 := fun x y H Q => ∃ i j, x = .int i ∧ y = .int j ∧ Q (g i j) H
def rU (g : Int → V) : V → Hp → VK → Prop := fun x H Q => ∃ i, x = .int i ∧ Q (g i) H

section
variable {X : Cx} {a b c : Expr} {ta tb tc : TE} {pos : Pos}

theorem binT (ha : PE X a ta) (hb : PE X b tb) {pins : List (Addr × Obj)} {s : Shared} {σ : St} {H : Hp} {R : V → V → Hp → Prop} (I : Inv X pins σ H s)
    (h : ta σ H fun x H1 => tb σ H1 fun y H2 => R x y H2) {Q : Value → Shared → Prop} {f : Value → Value → Sem Value}
    (hf : ∀ v u s2 x y H2, Inv X pins σ H2 s2 → RelV x v → RelV y u → R x y H2 → wpAny (model X.prog X.w) X.A (f v u) Q X.xe s2) :
    wpAny (model X.prog X.w) X.A (eval a X.env) (fun v s₁ => wpAny (model X.prog X.w) X.A (eval b X.env) (fun u s₂ => wpAny (model X.prog X.w) X.A (f v u) Q X.xe s₂) X.xe s₁) X.xe s := by
  refine thn (ha pins s σ H _ I h) fun v s1 ⟨x, H1, I1, r1, q1⟩ => ?_
  refine thn (hb pins s1 σ H1 _ I1 q1) fun u s2 ⟨y, H2, I2, r2, q2⟩ => ?_
  exact hf v u s2 x y H2 I2 r1 r2 q2

theorem pe_op {op : Operator} {r : R2} (ho : OpR X (binaryOp op) r) (ha : PE X a ta) (hb : PE X b tb) : PE X (.BinOp a op b pos) (tOp r ta tb) := by
  intro pins s σ H Q I h
  exact wpAny_BinOp (binT ha hb I h fun v u s2 x y H2 I2 rx ry q => ho pins s2 σ H2 x y v u Q I2 rx ry q)
theorem pe_un {op : UnaryOp} {r : V → Hp → VK → Prop} (ho : UnR X (unaryOp op) r) (ha : PE X a ta) : PE X (.UnaryOp op a pos) (tUn r ta) := by
  intro pins s σ H Q I h
  exact UnaryOp_ (thn (ha pins s σ H _ I h) fun v s1 ⟨x, H1, I1, r1, q1⟩ => ho pins s1 σ H1 x v Q I1 r1 q1)
/-! ### ints -/
theorem opI {f : Value → Value → Sem Value} {C : Int → Int → Prop} {g : Int → Int → Int}
    (rule : ∀ (i j : Int) (t u : Tok) (s : Shared) (Q : Value → Shared → Prop) (E : Value → Shared → Prop), C i j → Q (.int (g i j) s.toks) { s with toks := s.toks + 1 } → wpAny (model X.prog X.w) X.A (f (.int i t) (.int j u)) Q E s) :
    OpR X f (rI C fun i j => .int (g i j)) := by
  intro pins s σ H x y v u Q I rx ry h
  obtain ⟨i, j, rfl, rfl, hc, q⟩ := h
  obtain ⟨t, rfl⟩ := rx
  obtain ⟨t', rfl⟩ := ry
  exact rule i j t t' s _ _ hc ⟨.int (g i j), H, I.tok _, ⟨_, rfl⟩, q⟩
theorem opI0 {f : Value → Value → Sem Value} {g : Int → Int → Int}
    (rule : ∀ (i j : Int) (t u : Tok) (s : Shared) (Q : Value → Shared → Prop) (E : Value → Shared → Prop), Q (.int (g i j) s.toks) { s with toks := s.toks + 1 } → wpAny (model X.prog X.w) X.A (f (.int i t) (.int j u)) Q E s) :
    OpR X f (rI0 fun i j => .int (g i j)) := by
  intro pins s σ H x y v u Q I rx ry h
  obtain ⟨i, j, rfl, rfl, q⟩ := h
  obtain ⟨t, rfl⟩ := rx
  obtain ⟨t', rfl⟩ := ry
  exact rule i j t t' s _ _ ⟨.int (g i j), H, I.tok _, ⟨_, rfl⟩, q⟩
theorem opB0 {f : Value → Value → Sem Value} {g : Int → Int → Bool}
    (rule : ∀ (i j : Int) (t u : Tok) (s : Shared) (Q : Value → Shared → Prop) (E : Value → Shared → Prop), Q (.bool (g i j)) s → wpAny (model X.prog X.w) X.A (f (.int i t) (.int j u)) Q E s) :
    OpR X f (rI0 fun i j => .bl (g i j)) := by
  intro pins s σ H x y v u Q I rx ry h
  obtain ⟨i, j, rfl, rfl, q⟩ := h
  obtain ⟨t, rfl⟩ := rx
  obtain ⟨t', rfl⟩ := ry
  exact rule i j t t' s _ _ ⟨.bl (g i j), H, I, rfl, q⟩

def CDiv (i j : Int) : Prop := 0 < j ∧ j < 1073741824
def CDivN (i j : Int) : Prop := j ≠ 0 ∧ j.natAbs < 1073741824
def CPow (i j : Int) : Prop := 0 ≤ j ∧ j ≤ 1000000 ∧ i.natAbs < 2 ^ 64
def CMul (i j : Int) : Prop := (-(2 ^ 64) < i ∧ i < 2 ^ 64) ∨ (-(2 ^ 64) < j ∧ j < 2 ^ 64)
theorem CMul.ok {i j : Int} (h : CMul i j) : IntMulOk i j := by
  rcases h with ⟨h1, h2⟩ | ⟨h1, h2⟩
  · exact .of_left (intBits_le_64 h1 h2)
  · exact .of_right (intBits_le_64 h1 h2)
theorem two_pow_nn (k : Nat) : (0 : Int) ≤ 2 ^ k := by
  rw [two_pow_cast]
  exact Int.natCast_nonneg _

theorem op_add : OpR X (binaryOp .Add) (rI0 fun i j => .int (i + j)) := opI0 fun _ _ _ _ _ _ _ q => add_int q
theorem op_sub : OpR X (binaryOp .Sub) (rI0 fun i j => .int (i - j)) := opI0 fun _ _ _ _ _ _ _ q => sub_int q
theorem op_mul : OpR X (binaryOp .Mult) (rI CMul fun i j => .int (i * j)) := opI fun _ _ _ _ _ _ _ hc q => mul_int q hc.ok
/-- // by a positive divisor -/
theorem op_fdiv : OpR X (binaryOp .FloorDiv) (rI CDiv fun i j => .int (i / j)) := opI fun i j _ _ _ _ _ hc q => by
  have h1 : (0 : Int) < j := hc.1
  have h2 : j < 1073741824 := hc.2
  exact floordiv_int (by omega) (by rw [Int.fdiv_eq_ediv_of_nonneg i (by omega)]; exact q) (.inl (PyProof.noPylong_small (by omega)))
/-- % by a positive divisor of any size -/
theorem op_mod : OpR X (binaryOp .Mod) (rI (fun _ j => 0 < j) fun i j => .int (i % j)) := opI fun i j _ _ _ _ _ hc q => by
  have h1 : (0 : Int) < j := hc
  exact mod_int' (by omega) (by rw [Int.fmod_eq_emod_of_nonneg i (by omega)]; exact q)
theorem op_pow : OpR X (binaryOp .Pow) (rI CPow fun i j => .int (i ^ j.toNat)) := opI fun _ _ _ _ _ _ _ hc q => pow_int_small hc.1 hc.2.1 hc.2.2 q
theorem op_shl : OpR X (binaryOp .LShift) (rI CPow fun i j => .int (i * 2 ^ j.toNat)) := opI fun _ _ _ _ _ _ _ hc q => lshift_int_small hc.1 hc.2.1 hc.2.2 q
theorem op_shr : OpR X (binaryOp .RShift) (rI (fun _ j => 0 ≤ j) fun i j => .int (i / 2 ^ j.toNat)) := opI fun i j _ _ _ _ _ hc q =>
  rshift_int hc (by rw [Int.fdiv_eq_ediv_of_nonneg i (two_pow_nn _)]; exact q)
theorem op_and : OpR X (binaryOp .BitAnd) (rI0 fun i j => .int (Builtin.bitAnd i j)) := opI0 fun _ _ _ _ _ _ _ q => and_int q
theorem op_or : OpR X (binaryOp .BitOr) (rI0 fun i j => .int (Builtin.bitOr i j)) := opI0 fun _ _ _ _ _ _ _ q => or_int q
theorem unI {f : Value → Sem Value} {g : Int → Int}
    (rule : ∀ (i : Int) (t : Tok) (s : Shared) (Q : Value → Shared → Prop) (E : Value → Shared → Prop), Q (.int (g i) s.toks) { s with toks := s.toks + 1 } → wpAny (model X.prog X.w) X.A (f (.int i t)) Q E s) :
    UnR X f (rU fun i => .int (g i)) := by
  intro pins s σ H x v Q I rx h
  obtain ⟨i, rfl, q⟩ := h
  obtain ⟨t, rfl⟩ := rx
  exact rule i t s _ _ ⟨.int (g i), H, I.tok _, ⟨_, rfl⟩, q⟩
theorem un_neg : UnR X (unaryOp .USub) (rU fun i => .int (-i)) := unI fun _ _ _ _ _ q => neg_int q
/-! ### bools among ints: n += (a < b) -/
end

/-! ### comparisons -/
/-- the scalars that == tells apart as data does -/
def scal : V → V → Bool
  | .non, .non => true | .non, .int _ => true | .int _, .non => true | .non, .bl _ => true | .bl _, .non => true | .non, .str _ => true | .str _, .non => true
  | .int _, .int _ => true | .bl _, .bl _ => true | .str _, .str _ => true | .byt _, .byt _ => true
  | .int _, .str _ => true | .str _, .int _ => true | .bl _, .str _ => true | .str _, .bl _ => true
  | _, _ => false
def rEq : R2 := fun x y H Q => scal x y = true ∧ Q (.bl (decide (x = y))) H
def rNe : R2 := fun x y H Q => scal x y = true ∧ Q (.bl (!decide (x = y))) H

theorem dec_int {i j : Int} : decide (V.int i = V.int j) = (i == j) := by
  rw [Bool.eq_iff_iff]
  simp
theorem dec_bl {i j : Bool} : decide (V.bl i = V.bl j) = (i == j) := by
  rw [Bool.eq_iff_iff]
  simp
theorem dec_str {i j : Str} : decide (V.str i = V.str j) = (i == j) := by
  rw [Bool.eq_iff_iff]
  simp
theorem dec_byt {i j : Array UInt8} : decide (V.byt i = V.byt j) = (i.toList == j.toList) := by
  rw [Bool.eq_iff_iff]
  cases i
  cases j
  simp

section
variable {X : Cx} {a b c : Expr} {ta tb tc : TE} {pos : Pos}
theorem fin_bl {pins : List (Addr × Obj)} {σ : St} {H : Hp} {s : Shared} {Q : VK} {k k' : Bool} (I : Inv X pins σ H s) (q : Q (.bl k) H) (e : k = k') : EP X pins σ Q (.bool k') s := by
  subst e
  exact ⟨.bl k, H, I, rfl, q⟩
theorem op_eq : OpR X (compareOp .Eq) rEq := by
  intro pins s σ H x y v u Q I rx ry h
  obtain ⟨hs, q⟩ := h
  cases x with
  | non =>
    cases rx
    cases y with
    | non => cases ry; exact PySem.EqNone.eq_none_none (fin_bl I q (by simp))
    | bl j => cases ry; exact PySem.EqNone.eq_none_bool (fin_bl I q (by simp))
    | int j => obtain ⟨t', rfl⟩ := ry; exact PySem.EqNone.eq_none_int (fin_bl I q (by simp))
    | str j => obtain ⟨t', rfl⟩ := ry; exact PySem.EqNone.eq_none_str (fin_bl I q (by simp))
    | _ => exact absurd (show false = true from hs) Bool.false_ne_true
  | bl i =>
    cases rx
    cases y with
    | non => cases ry; exact PySem.EqNone.eq_bool_none (fin_bl I q (by simp))
    | bl j => cases ry; exact eq_bool (fin_bl I q dec_bl)
    | str j => obtain ⟨t', rfl⟩ := ry; exact PySem.EqMixed.eq_bool_str (fin_bl I q (by simp))
    | _ => exact absurd (show false = true from hs) Bool.false_ne_true
  | int i =>
    obtain ⟨t, rfl⟩ := rx
    cases y with
    | non => cases ry; exact PySem.EqNone.eq_int_none (fin_bl I q (by simp))
    | int j => obtain ⟨t', rfl⟩ := ry; exact eq_int (fin_bl I q dec_int)
    | str j => obtain ⟨t', rfl⟩ := ry; exact PySem.EqMixed.eq_int_str (fin_bl I q (by simp))
    | _ => exact absurd (show false = true from hs) Bool.false_ne_true
  | str i =>
    obtain ⟨t, rfl⟩ := rx
    cases y with
    | non => cases ry; exact PySem.EqNone.eq_str_none (fin_bl I q (by simp))
    | bl j => cases ry; exact PySem.EqMixed.eq_str_bool (fin_bl I q (by simp))
    | int j => obtain ⟨t', rfl⟩ := ry; exact PySem.EqMixed.eq_str_int (fin_bl I q (by simp))
    | str j => obtain ⟨t', rfl⟩ := ry; exact eq_str (fin_bl I q dec_str)
    | _ => exact absurd (show false = true from hs) Bool.false_ne_true
  | byt i =>
    obtain ⟨t, rfl⟩ := rx
    cases y with
    | byt j => obtain ⟨t', rfl⟩ := ry; exact PySem.W.eq_bytes (fin_bl I q dec_byt)
    | _ => exact absurd (show false = true from hs) Bool.false_ne_true
  | _ => cases y <;> exact absurd (show false = true from hs) Bool.false_ne_true
theorem op_ne : OpR X (compareOp .NotEq) rNe := by
  intro pins s σ H x y v u Q I rx ry h
  obtain ⟨hs, q⟩ := h
  cases x with
  | non =>
    cases rx
    cases y with
    | non => cases ry; exact PySem.EqNone.ne_none_none (fin_bl I q (by simp))
    | bl j => cases ry; exact PySem.EqNone.ne_none_bool (fin_bl I q (by simp))
    | int j => obtain ⟨t', rfl⟩ := ry; exact PySem.EqNone.ne_none_int (fin_bl I q (by simp))
    | str j => obtain ⟨t', rfl⟩ := ry; exact PySem.EqNone.ne_none_str (fin_bl I q (by simp))
    | _ => exact absurd (show false = true from hs) Bool.false_ne_true
  | bl i =>
    cases rx
    cases y with
    | non => cases ry; exact PySem.EqNone.ne_bool_none (fin_bl I q (by simp))
    | bl j => cases ry; exact ne_bool (fin_bl I q (congrArg not dec_bl))
    | str j => obtain ⟨t', rfl⟩ := ry; exact PySem.EqMixed.ne_bool_str (fin_bl I q (by simp))
    | _ => exact absurd (show false = true from hs) Bool.false_ne_true
  | int i =>
    obtain ⟨t, rfl⟩ := rx
    cases y with
    | non => cases ry; exact PySem.EqNone.ne_int_none (fin_bl I q (by simp))
    | int j => obtain ⟨t', rfl⟩ := ry; exact ne_int (fin_bl I q (congrArg not dec_int))
    | str j => obtain ⟨t', rfl⟩ := ry; exact PySem.EqMixed.ne_int_str (fin_bl I q (by simp))
    | _ => exact absurd (show false = true from hs) Bool.false_ne_true
  | str i =>
    obtain ⟨t, rfl⟩ := rx
    cases y with
    | non => cases ry; exact PySem.EqNone.ne_str_none (fin_bl I q (by simp))
    | bl j => cases ry; exact PySem.EqMixed.ne_str_bool (fin_bl I q (by simp))
    | int j => obtain ⟨t', rfl⟩ := ry; exact PySem.EqMixed.ne_str_int (fin_bl I q (by simp))
    | str j => obtain ⟨t', rfl⟩ := ry; exact ne_str (fin_bl I q (congrArg not dec_str))
    | _ => exact absurd (show false = true from hs) Bool.false_ne_true
  | byt i =>
    obtain ⟨t, rfl⟩ := rx
    cases y with
    | byt j => obtain ⟨t', rfl⟩ := ry; exact PySem.W.ne_bytes (fin_bl I q (congrArg not dec_byt))
    | _ => exact absurd (show false = true from hs) Bool.false_ne_true
  | _ => cases y <;> exact absurd (show false = true from hs) Bool.false_ne_true

theorem op_lt : OpR X (compareOp .Lt) (rI0 fun i j => .bl (decide (i < j))) := opB0 fun _ _ _ _ _ _ _ q => lt_int q
theorem op_le : OpR X (compareOp .LtE) (rI0 fun i j => .bl (decide (i ≤ j))) := opB0 fun _ _ _ _ _ _ _ q => le_int q
theorem op_gt : OpR X (compareOp .Gt) (rI0 fun i j => .bl (decide (j < i))) := opB0 fun _ _ _ _ _ _ _ q => gt_int q
theorem op_ge : OpR X (compareOp .GtE) (rI0 fun i j => .bl (decide (j ≤ i))) := opB0 fun _ _ _ _ _ _ _ q => ge_int q
/-- is None, is not None: the right side a value none -/
theorem op_isN : OpR X (compareOp .Is) (fun x y H Q => y = .non ∧ Q (.bl (decide (x = .non))) H) := by
  intro pins s σ H x y v u Q I rx ry h
  obtain ⟨rfl, q⟩ := h
  cases ry
  refine is_none_gen (fin_bl I q ?_)
  cases x <;> first
    | (cases rx; rfl)
    | (obtain ⟨t, rfl⟩ := rx; rfl)
theorem op_notN : OpR X (compareOp .IsNot) (fun x y H Q => y = .non ∧ Q (.bl (!decide (x = .non))) H) := by
  intro pins s σ H x y v u Q I rx ry h
  obtain ⟨rfl, q⟩ := h
  cases ry
  refine isnot_none_gen (fin_bl I q ?_)
  cases x <;> first
    | (cases rx; rfl)
    | (obtain ⟨t, rfl⟩ := rx; rfl)

/-- is, is not of two objects that are tracked lists or instances -/
def isObj : HO → Bool
  | .lst _ => true
  | .ins _ _ _ => true
  | _ => false
/-- two rules for one operation: by cases -/
theorem OpR.or {f : Value → Value → Sem Value} {r r' : R2} (h : OpR X f r) (h' : OpR X f r') : OpR X f (fun x y H Q => r x y H Q ∨ r' x y H Q) := by
  intro pins s σ H x y v u Q I rx ry q
  rcases q with q | q
  · exact h pins s σ H x y v u Q I rx ry q
  · exact h' pins s σ H x y v u Q I rx ry q

theorem nomark (b : Expr) {op : CmpOp} (h : op ≠ .In := by decide) (h2 : op ≠ .NotIn := by decide) : behindInMarks op b = false := by
  have e1 : (op == CmpOp.In) = false := by cases op <;> first | rfl | exact absurd rfl h
  have e2 : (op == CmpOp.NotIn) = false := by cases op <;> first | rfl | exact absurd rfl h2
  cases b <;> simp [behindInMarks, e1, e2]
/-- a comparison as a value; hm: nomark b, or (for in, not in) by with_unfolding_all rfl -/
theorem pe_cmpR {op : CmpOp} {r : R2} (ho : OpR X (compareOp op) r) (ha : PE X a ta) (hb : PE X b tb) (hm : behindInMarks op b = false) : PE X (.Compare a [op] [b] pos) (tOp r ta tb) := by
  intro pins s σ H Q I h
  exact wpAny_Compare1 (binT ha hb I h fun v u s2 x y H2 I2 rx ry q => ho pins s2 σ H2 x y v u Q I2 rx ry q) hm
/-- a reading of a value as a test -/
def tTest (t : TE) : TT := fun σ H Q => t σ H fun x H' => ∃ k, x = .bl k ∧ Q k H'
theorem pt_cmpR {op : CmpOp} {r : R2} (ho : OpR X (compareOp op) r) (ha : PE X a ta) (hb : PE X b tb) (hm : behindInMarks op b = false) : PT X (.Compare a [op] [b] pos) (tTest (tOp r ta tb)) := by
  intro pins s σ H Q I h
  refine wpAny_isTrue_Compare1 (thn (ha pins s σ H _ I h) fun v s1 ⟨x, H1, I1, r1, q1⟩ => thn (hb pins s1 σ H1 _ I1 q1) fun u s2 ⟨y, H2, I2, r2, q2⟩ =>
    thn (ho pins s2 σ H2 x y v u _ I2 r1 r2 q2) fun c s3 ⟨z, H3, I3, r3, k, e, q3⟩ => ?_) hm
  subst e
  cases r3
  exact wpAny_truthy_bool ⟨H3, I3, q3⟩
/-- a op1 b op2 c -/
def tChain (r r' : R2) (ta tb tc : TE) : TE := fun σ H Q => ta σ H fun x H1 => tb σ H1 fun y H2 => r x y H2 fun z H3 => ∃ k, z = .bl k ∧
  (if k = true then tc σ H3 fun w' H4 => r' y w' H4 Q else Q (.bl false) H3)
theorem pe_chain {op op' : CmpOp} {r r' : R2} (ho : OpR X (compareOp op) r) (ho' : OpR X (compareOp op') r') (ha : PE X a ta) (hb : PE X b tb) (hc : PE X c tc)
    (hm : lastMarks [op, op'] [b, c] = false := by with_unfolding_all rfl) : PE X (.Compare a [op, op'] [b, c] pos) (tChain r r' ta tb tc) := by
  intro pins s σ H Q I h
  refine Compare_chain (thn (ha pins s σ H _ I h) fun v s1 ⟨x, H1, I1, r1, q1⟩ => chain_link (thn (hb pins s1 σ H1 _ I1 q1) fun u s2 ⟨y, H2, I2, r2, q2⟩ =>
    thn (ho pins s2 σ H2 x y v u _ I2 r1 r2 q2) fun d s3 ⟨z, H3, I3, r3, k, e, q3⟩ => ?_)) hm
  subst e
  cases r3
  refine wpAny_truthy_bool ?_
  cases k with
  | false => exact ite_ff ⟨.bl false, H3, I3, rfl, q3⟩
  | true => exact ite_tt (chain_last (thn (hc pins s3 σ H3 _ I3 q3) fun w' s4 ⟨z', H4, I4, r4, q4⟩ => ho' pins s4 σ H4 y z' u w' Q I4 r2 r4 q4))
/-! ### truth -/
/-- a value's truth by the abstract heap -/
def TruV (K : PySem.W.Frag) (x : V) (H : Hp) (k : Bool) : Prop :=
  match x with
  | .non => k = false
  | .bl b => k = b
  | .int i => k = (i != 0)
  | .str y => y.length ≤ sizeLine ∧ k = ((y.length : Int) != 0)
  | .byt y => y.size ≤ sizeLine ∧ k = ((y.size : Int) != 0)
  | .ref p => (∃ xs, SqL K H p xs ∧ k = !xs.isEmpty) ∨ (∃ xs, SqT K H p xs ∧ k = !xs.isEmpty) ∨ ∃ kvs, H p = some (.dK kvs) ∧ k = !kvs.isEmpty
  | _ => False
theorem line63 : (sizeLine : Nat) < 2 ^ 63 := by rw [sizeLine_eq]; decide
/-! ### strs and bytes -/
def PlainIxT (b : Expr) : Prop := ∀ o i, subscripted b false o i = operate [o, i] (getItem o i)
/-! ### scalar builtins, by CallR -/
theorem vals1 {x : V} {us : List Value} (r : Vals [x] us) : ∃ u, us = [u] ∧ RelV x u := by
  cases r with
  | cons r1 r2 => cases r2; exact ⟨_, rfl, r1⟩
theorem vals2 {x y : V} {us : List Value} (r : Vals [x, y] us) : ∃ u w', us = [u, w'] ∧ RelV x u ∧ RelV y w' := by
  cases r with
  | cons r1 r2 =>
    cases r2 with
    | cons r3 r4 => cases r4; exact ⟨_, _, rfl, r1, r3⟩
theorem call_int1 : CallR X (.type "int") (fun xs H Q => (∃ i, xs = [.int i] ∧ Q (.int i) H) ∨ ∃ k, xs = [.bl k] ∧ Q (.int (if k then 1 else 0)) H) := by
  intro pins s σ H xs us Q I r h
  rcases h with ⟨i, rfl, q⟩ | ⟨k, rfl, q⟩
  · obtain ⟨u, rfl, t, rfl⟩ := vals1 r
    exact call_int_int ⟨.int i, H, I, ⟨_, rfl⟩, q⟩
  · obtain ⟨u, rfl, r1⟩ := vals1 r
    cases r1
    exact call_int_bool ⟨.int (if k then 1 else 0), H, I.tok _, ⟨_, rfl⟩, q⟩
/-- len of a str, a bytes, a list, a tuple -/
def LenV (K : PySem.W.Frag) (x : V) (H : Hp) (n : Nat) : Prop :=
  match x with
  | .str y => y.length ≤ sizeLine ∧ n = y.length
  | .byt y => y.size ≤ sizeLine ∧ n = y.size
  | .ref p => (∃ xs, SqL K H p xs ∧ n = xs.length) ∨ ∃ xs, SqT K H p xs ∧ n = xs.length
  | _ => False
end
end L2

namespace L2
open PySem PySem.Spec PyProof.Rows

/-! ### an instance, its attributes a map -/
structure ObjM (h : Heap) (x dx C : Addr) (mA : Str → Option Value) : Prop where
  obj : h.get? x = some (PySem.W.instObj C dx)
  ns : h.Ns1 dx mA
  ne : dx ≠ x

theorem lookIn_ns {h : Heap} {dx : Addr} {mA : Str → Option Value} (n : h.Ns1 dx mA) : ∃ od, h.get? dx = some od ∧ ∀ name, PySem.W.lookIn name od = some (mA name) := by
  obtain ⟨o, es, ep, ho, hd, hk, _, hm⟩ := n
  refine ⟨o, ho, fun name => ?_⟩
  have e := hm name
  unfold nsFind findBy at e
  rw [← Array.find?_toList] at e
  unfold PySem.W.lookIn
  rw [hd]
  dsimp only
  split
  · rename_i y q
    rw [q] at e
    exact congrArg some e
  · rename_i q
    rw [q] at e
    have a : es.toList.any (·.refKey) = false := by
      rw [List.any_eq_false]
      intro y hy
      obtain ⟨z, t, hkey⟩ := hk y (Array.mem_toList_iff.mp hy)
      simp [DictEntry.refKey, hkey]
    have a' : ¬ es.toList.any (·.refKey) = true := by rw [a]; exact Bool.false_ne_true
    rw [if_neg a']
    exact congrArg some e

theorem ObjM.look {h : Heap} {x dx C : Addr} {mA : Str → Option Value} (I : ObjM h x dx C mA) : ∃ od, PySem.W.InstAt h x (PySem.W.instObj C dx) C (some od) ∧ ∀ name, PySem.W.lookIn name od = some (mA name) :=
  let ⟨od, ho, hl⟩ := lookIn_ns I.ns
  ⟨od, ⟨I.obj, rfl, rfl, ho⟩, hl⟩

section
variable {prog : Program} {w : World} {A : Around} {E : Value → Shared → Prop} {s : Shared} {K : PySem.W.Frag} {x dx C f : Addr} {mA : Str → Option Value} {name : Str} {v : Value}

end

/-! ### the attributes as a list of pairs -/
def putF (f : Str) (v : V) : List (Str × V) → List (Str × V)
  | [] => [(f, v)]
  | (g, x) :: r => if g = f then (g, v) :: r else (g, x) :: putF f v r
section
variable {P : Program} {w : World} {H H' : Hp} {h h' : Heap} {a C dx : Addr} {fs fs' : List (Str × V)}
theorem ins_get (hok : HOk P w H h) (e : H a = some (.ins C dx fs)) : ∃ mA, ObjM h a dx C mA ∧ (∀ f, RelO (fs.lookup f) (mA f)) ∧ PySem.Within mA (fs.map (·.1)) ∧ fs.length ≤ 1000 ∧ H dx = some (.own a) := by
  obtain ⟨d, z, ne, ob, mA, n, r, q⟩ := (show ObjOk P w H h a (.ins C dx fs) from hok a _ e)
  exact ⟨mA, ⟨ob, n, ne⟩, r, q, z, d⟩
end

/-! ### what of the text a class must have -/
structure Cls (K : PySem.W.Frag) (C : Addr) : Prop where
  pg : PySem.W.plainGet K C Str.empty = true
  hd : PySem.W.hasDictIn K C = true
  po : PySem.W.plainOver K C = true
  sa : PySem.W.findIn K (.ref C) "__setattr__" = some (some (.builtin "object.__setattr__"))
theorem Cls.get {K : PySem.W.Frag} {C : Addr} (c : Cls K C) (f : Str) : PySem.W.plainGet K C f = true := c.pg
/-- no class of it has the name -/
def NoAttr (K : PySem.W.Frag) (C : Addr) (f : Str) : Prop := PySem.W.findIn K (.ref C) f = some none
/-- a constant of the class -/
structure Con (K : PySem.W.Frag) (C : Addr) (f : Str) (v : V) (u : Value) : Prop where
  at_ : PySem.W.findIn K (.ref C) f = some (some u)
  rel : RelV v u
  get : PySem.W.specialIn K u "__get__" = some none
  cp : PySem.W.copiedNames.contains f = false
/-- a method: a plain def of the class or of one above it -/
structure Meth (K : PySem.W.Frag) (C : Addr) (m : Str) (f : Addr) : Prop where
  at_ : PySem.W.findIn K (.ref C) m = some (some (.ref f))
  fn : PySem.W.isFn K (.ref f) = true
  kp : PySem.W.keepIn K (.ref f) = true

section
variable {X : Cx} {pins : List (Addr × Obj)} {σ : St} {H : Hp} {s : Shared} {a C dx : Addr} {fs : List (Str × V)} {f : Str} {v : V} {A : Around} {E : Value → Shared → Prop}

/-- a new instance, tracked, without attributes -/
theorem Inv.made (I : Inv X pins σ H s) : Inv X pins σ (upd (upd H s.heap.objs.size (.own (s.heap.objs.size + 1))) (s.heap.objs.size + 1) (.ins C s.heap.objs.size []))
    { s with heap := (s.heap.push PySem.W.emptyDict).push (PySem.W.instObj C s.heap.objs.size) } := by
  have e1 : (s.heap.push PySem.W.emptyDict).get? s.heap.objs.size = some PySem.W.emptyDict := Heap.get?_push_size s.heap rfl
  have e2 : ((s.heap.push PySem.W.emptyDict).push (PySem.W.instObj C s.heap.objs.size)).get? (s.heap.objs.size + 1) = some (PySem.W.instObj C s.heap.objs.size) := by
    have := Heap.get?_push_size (s.heap.push PySem.W.emptyDict) (o := PySem.W.instObj C s.heap.objs.size) rfl
    rwa [Heap.size_push] at this
  have e3 : (s.heap.push PySem.W.emptyDict).Ns s.heap.objs.size (fun _ => none) := ⟨PySem.W.emptyDict, #[], _, e1, rfl, (fun e he => absurd he (by simp)), fun _ => rfl⟩
  have I1 := I.laid (a := s.heap.objs.size) (o := .own (s.heap.objs.size + 1)) (h' := s.heap.push PySem.W.emptyDict) (t' := s.toks) (fun b u q => Heap.get?_push_of_some _ q) (Nat.le_refl _) ⟨_, e1⟩
  refine I1.laid (a := s.heap.objs.size + 1) (o := .ins C s.heap.objs.size []) (t' := s.toks) (fun b u q => Heap.get?_push_of_some _ q) (Nat.le_of_eq (Heap.size_push _ _)) ?_
  have ne : s.heap.objs.size ≠ s.heap.objs.size + 1 := Nat.ne_of_lt (Nat.lt_succ_self _)
  refine ⟨by rw [upd_ne ne, upd_same], Nat.zero_le _, ne, e2, fun _ => none, (Heap.Ns1.of_empty e3).at fun o q => Heap.get?_push_of_some _ q, fun _ => True.intro, fun y hy => absurd rfl hy⟩

end

/-! ### readings and rules -/
/-- e.f, an attribute of the instance -/
def tFld (K : PySem.W.Frag) (ta : TE) (f : Str) : TE := fun σ H Q => ta σ H fun x H1 => ∃ a C dx fs v, x = .ref a ∧ H1 a = some (.ins C dx fs) ∧ Cls K C ∧ NoAttr K C f ∧ fs.lookup f = some v ∧ Q v H1
/-- e.f, a constant of the class -/
def tCon (K : PySem.W.Frag) (ta : TE) (f : Str) : TE := fun σ H Q => ta σ H fun x H1 => ∃ a C dx fs v u, x = .ref a ∧ H1 a = some (.ins C dx fs) ∧ Cls K C ∧ Con K C f v u ∧ fs.lookup f = none ∧ Q v H1
/-- e.f = value -/
def sFld (K : PySem.W.Frag) (ta tv : TE) (f : Str) : TS := fun D σ H => tv σ H fun y H1 => ta σ H1 fun x H2 => ∃ a C dx fs, x = .ref a ∧ H2 a = some (.ins C dx fs) ∧ Cls K C ∧ NoAttr K C f ∧ fs.length < 1000 ∧
  D.nx σ (upd H2 a (.ins C dx (putF f y fs)))
/-- an augmented operator on two values -/
def InOp (X : Cx) (op : Operator) (rd : V → V → Hp → VK → Prop) : Prop :=
  ∀ (pins : List (Addr × Obj)) (s : Shared) (σ : St) (H : Hp) (x y : V) (u v : Value) (Q : VK), Inv X pins σ H s → RelV x u → RelV y v → rd x y H Q → wpAny (model X.prog X.w) X.A (inplaceOp op u v) (EP X pins σ Q) X.xe s
/-- e.f op= value -/
def sFldAug (K : PySem.W.Frag) (ta tv : TE) (rd : V → V → Hp → VK → Prop) (f : Str) : TS := fun D σ H => ta σ H fun x H1 => ∃ a C dx fs v, x = .ref a ∧ H1 a = some (.ins C dx fs) ∧ Cls K C ∧ NoAttr K C f ∧ fs.lookup f = some v ∧
  tv σ H1 fun y H2 => rd v y H2 fun z H3 => ∃ dx' fs', H3 a = some (.ins C dx' fs') ∧ fs'.length < 1000 ∧ D.nx σ (upd H3 a (.ins C dx' (putF f z fs')))

section
variable {X : Cx} {o e value : Expr} {f : Str} {pos pos' tpos : Pos} {ta tv : TE}
def rAdd : V → V → Hp → VK → Prop := fun x y H Q => ∃ i j, x = .int i ∧ y = .int j ∧ Q (.int (i + j)) H
def rSub : V → V → Hp → VK → Prop := fun x y H Q => ∃ i j, x = .int i ∧ y = .int j ∧ Q (.int (i - j)) H
end

/-! ### isinstance -/
section
variable {X : Cx} {pins : List (Addr × Obj)} {σ : St} {H : Hp} {s : Shared} {A : Around} {E : Value → Shared → Prop} {Q : Value → Shared → Prop} {c : Value} {b : Bool}
/-- the type of a value, as the fragment's deciders take it; for an instance its class -/
inductive TyOf (K : PySem.W.Frag) (H : Hp) : V → Value → Prop where
  | non : TyOf K H .non (.type "NoneType")
  | bl (x : Bool) : TyOf K H (.bl x) (.type "bool")
  | int (i : Int) : TyOf K H (.int i) (.type "int")
  | str (x : Str) : TyOf K H (.str x) (.type "str")
  | flt (x : UInt64) : TyOf K H (.flt x) (.type "float")
  | lst {a : Addr} {xs : List V} (e : H a = some (.lst xs)) : TyOf K H (.ref a) (.type "list")
  | frz {a : Addr} {o : Obj} {xs : List V} (e : H a = some (.frz o (.lst xs))) : TyOf K H (.ref a) (.type "list")
  | tup {a : Addr} {xs : List V} (e : H a = some (.tup xs)) : TyOf K H (.ref a) (.type "tuple")
  | dK {a : Addr} {kvs : List (Key × V)} (e : H a = some (.dK kvs)) : TyOf K H (.ref a) (.type "dict")
  | dT {a : Addr} {kvs : List (List Key × V)} (e : H a = some (.dT kvs)) : TyOf K H (.ref a) (.type "dict")
  | ins {a C dx : Addr} {fs : List (Str × V)} (e : H a = some (.ins C dx fs)) (cl : Cls K C) (ha : PySem.W.findIn K (.ref C) "__class__" = some (some (.builtin "object.__class__")))
      (hn : PySem.W.specialIn K (.builtin "object.__class__") "__get__" = some (some (.builtin "getset_descriptor.__get__"))) (htk : PySem.W.takesIn K (.builtin "object.__class__") = some true)
      (hm : PySem.W.mroIn K C (.type "object") = some true) : TyOf K H (.ref a) (.ref C)
/-- isinstance(x, c) for one class c, a built-in or an own one: kitOne's answer -/
theorem isinst_ok {x : V} {u t : Value} (I : Inv X pins σ H s) (rx : RelV x u) (ty : TyOf X.K H x t) (e : PySem.W.kitOne X.K t c = some b) (h : ∀ tk, Q (.bool b) { s with toks := tk }) :
    wpAny (model X.prog X.w) A (call (.builtin "isinstance") [u, c]) Q E s := by
  cases ty with
  | non => cases (show u = Value.none from rx); exact PySem.W.kia_one PySem.W.kitx_none I.kIn True.intro e (fun z => nomatch z) h
  | bl y => cases (show u = Value.bool y from rx); exact PySem.W.kia_one PySem.W.kitx_bool I.kIn True.intro e (fun z => nomatch z) h
  | int i => obtain ⟨t, q⟩ := (show ∃ t, u = Value.int i t from rx); cases q; exact PySem.W.kia_one PySem.W.kitx_int I.kIn True.intro e (fun z => nomatch z) h
  | str y => obtain ⟨t, q⟩ := (show ∃ t, u = Value.str y t from rx); cases q; exact PySem.W.kia_one PySem.W.kitx_str I.kIn True.intro e (fun z => nomatch z) h
  | flt y => obtain ⟨t, q⟩ := (show ∃ t, u = Value.float y t from rx); cases q; exact PySem.W.kia_one PySem.W.kitx_float I.kIn True.intro e (fun z => nomatch z) h
  | @lst a xs ea =>
    cases (show u = Value.ref a from rx)
    obtain ⟨_, _, n, _, h1⟩ := (show ObjOk X.prog X.w H s.heap a (.lst xs) from I.hok a _ ea)
    exact PySem.W.kia_one PySem.W.kitx_list I.kIn ⟨_, h1, rfl⟩ e (fun z => nomatch z) h
  | @frz a ob xs ea =>
    cases (show u = Value.ref a from rx)
    obtain ⟨_, _, _, n, _, h1⟩ := (show ObjOk X.prog X.w H s.heap a (.frz ob (.lst xs)) from I.hok a _ ea)
    exact PySem.W.kia_one PySem.W.kitx_list I.kIn ⟨_, h1, rfl⟩ e (fun z => nomatch z) h
  | @tup a xs ea =>
    cases (show u = Value.ref a from rx)
    obtain ⟨_, _, _, p⟩ := (show ObjOk X.prog X.w H s.heap a (.tup xs) from I.hok a _ ea)
    obtain ⟨o, h1, h2, _⟩ := p
    exact PySem.W.kia_one PySem.W.kitx_tuple I.kIn ⟨o, h1, h2⟩ e (fun z => nomatch z) h
  | @dK a kvs ea =>
    cases (show u = Value.ref a from rx)
    obtain ⟨_, _, vs, _, p⟩ := (show ObjOk X.prog X.w H s.heap a (.dK kvs) from I.hok a _ ea)
    obtain ⟨o, es, ep, h1, h2, _⟩ := p
    exact PySem.W.kia_one PySem.W.kitx_dict I.kIn ⟨o, h1, h2.1⟩ e (fun z => nomatch z) h
  | @dT a kvs ea =>
    cases (show u = Value.ref a from rx)
    obtain ⟨_, _, xs, _, o, es, ep, h1, h2, _⟩ := (show ObjOk X.prog X.w H s.heap a (.dT kvs) from I.hok a _ ea)
    exact PySem.W.kia_one PySem.W.kitx_dict I.kIn ⟨o, h1, h2.1⟩ e (fun z => nomatch z) h
  | @ins a C dx fs ea cl ha hn htk hm =>
    cases (show u = Value.ref a from rx)
    obtain ⟨mA, O, _⟩ := ins_get I.hok ea
    obtain ⟨od, J, _⟩ := O.look
    exact PySem.W.kia_one (PySem.W.kitx_own (cl.get _) cl.hd ha hn htk hm) I.kIn J e (fun z => nomatch z) h
end
end L2

namespace L2
open PySem PySem.Spec PyProof.Rows

/-! ### room -/
structure Room (k : Nat) (A : Around) : Prop where
  hd : A.handled = none
  dp : A.depth + 3 * k + 5 < recursionLimit
  un : A.units + 16 * k + 200 < cLine
theorem Room.mono {j k : Nat} {A : Around} (r : Room k A) (h : j ≤ k) : Room j A := ⟨r.hd, by have := r.dp; omega, by have := r.un; omega⟩
theorem Room.deeper {k : Nat} {A : Around} (r : Room (k + 1) A) (env : Env) : Room k (A.deeper env) :=
  ⟨r.hd, by have := r.dp; show A.depth + 1 + 3 * k + 5 < _; omega, by have := r.un; show A.units + 3 + 16 * k + 200 < _; omega⟩
theorem Room.in1 {k : Nat} {A : Around} (r : Room (k + 1) A) : Room k A.in1 :=
  ⟨r.hd, by have := r.dp; show A.depth + 3 * k + 5 < _; omega, by have := r.un; show A.units + 1 + 16 * k + 200 < _; omega⟩
theorem Room.depth {k : Nat} {A : Around} (r : Room k A) : A.depth < recursionLimit := by have := r.dp; omega
theorem Room.units {k : Nat} {A : Around} (r : Room k A) : A.units + 64 < cLine := by have := r.un; omega
/-! ### argument lists and displays -/
def tNil : TA := fun _ H Q => Q [] H
def tCons (ta : TE) (tr : TA) : TA := fun σ H Q => ta σ H fun x H1 => tr σ H1 fun xs H2 => Q (x :: xs) H2
section
variable {X : Cx} {e : Expr} {es : List Expr} {te : TE} {t : TA} {pos : Pos}
theorem pa_nil : PA X [] tNil := fun _ _ _ _ H Q I h => Calls.spliced_nil ⟨[], H, I, .nil, h⟩
theorem pa_cons (ha : PE X e te) (hr : PA X es t) (hs : starEach (e :: es) X.env = (false, eval e X.env) :: starEach es X.env := by rfl) : PA X (e :: es) (tCons te t) := by
  intro pos pins s σ H Q I h
  rw [hs]
  show wpAny _ _ (spliced ((false, eval e X.env) :: backTo pos (starEach es X.env))) _ _ s
  refine Calls.spliced_cons (thn (ha pins s σ H _ I h) fun u s1 ⟨x, H1, I1, r1, q1⟩ => ?_)
  exact thn (hr pos pins s1 σ H1 _ I1 q1) fun us s2 ⟨xs, H2, I2, r2, q2⟩ => ⟨x :: xs, H2, I2, .cons r1 r2, q2⟩

/-- a tuple, a list of written items -/
def tTup (t : TA) : TE := fun σ H Q => t σ H fun xs H1 => xs.length ≤ sizeLine ∧ ∀ p, H1 p = none → Q (.ref p) (upd H1 p (.tup xs))
def tLst (t : TA) : TE := fun σ H Q => t σ H fun xs H1 => xs.length ≤ sizeLine ∧ ∀ p, H1 p = none → Q (.ref p) (upd H1 p (.lst xs))
theorem pe_tup {x1} (h : PA X es t) : PE X (.Tuple es x1 pos) (tTup t) := by
  intro pins s σ H Q I hq
  refine wpAny_Tuple_spliced (thn (h pos pins s σ H _ I hq) fun us s1 ⟨xs, H1, I1, r, z, q⟩ => ⟨by rw [← r.length]; exact z, ?_⟩)
  have hf : H1 s1.heap.objs.size = none := I1.hok.fresh (Nat.le_refl _)
  refine ⟨.ref s1.heap.objs.size, upd H1 s1.heap.objs.size (.tup xs), I1.laid (t' := s1.toks) (fun b u e => Heap.get?_push_of_some _ e) (Nat.le_refl _) ?_, rfl, q _ hf⟩
  exact ⟨z, us, r, ⟨_, Heap.get?_push_size _ rfl, rfl, _, rfl⟩⟩
theorem pe_lst (h : PA X es t) : PE X (.List es pos) (tLst t) := by
  intro pins s σ H Q I hq
  refine wpAny_List_spliced (thn (h pos pins s σ H _ I hq) fun us s1 ⟨xs, H1, I1, r, z, q⟩ => ⟨by rw [← r.length]; exact z, ?_⟩)
  have hf : H1 s1.heap.objs.size = none := I1.hok.fresh (Nat.le_refl _)
  refine ⟨.ref s1.heap.objs.size, upd H1 s1.heap.objs.size (.lst xs), I1.laid (t' := s1.toks) (fun b u e => Heap.get?_push_of_some _ e) (Nat.le_refl _) ?_, rfl, q _ hf⟩
  exact ⟨z, us, 0, r, Heap.get?_push_size _ rfl⟩
end

/-! ### what a def promises -/
/-- a def's promise: the bound arguments in the parameters' order, the heap, the wanted end, the wanted exception -/
abbrev Sp := List V → Hp → VK → XK → Prop
/-- how an exception lies behind a call (file 08 gives it): the callers' frames, abstract heap and state ahead of the call, the wish, the exception, the state -/
abbrev CXT := List Env → Hp → Shared → XK → Value → Shared → Prop

/-- the state at a call -/
structure Env0 (P : Program) (w : World) (K : PySem.W.Frag) (mg : Str → Option Value) (base : Heap) (A : Around) (outer : List Env) (s : Shared) (H : Hp) : Prop where
  frames : A.frames = some outer
  mod : Mod K mg base
  bs : ∀ b o, base.get? b = some o → s.heap.get? b = some o ∧ H b = none
  bsz : base.objs.size ≤ s.heap.objs.size
  funs : s.heap.FunFrames base outer
  frf : ∀ b ∈ frs outer, H b = none
  hok : HOk P w H s.heap
  bare : AllBare s.gens
/-- a call's end -/
def CE (outer : List Env) (P : Program) (w : World) (H : Hp) (s : Shared) (Q : VK) (u : Value) (s' : Shared) : Prop :=
  ∃ v H', s'.os = s.os ∧ AllBare s'.gens ∧ Un (frs outer) [] H H' s.heap s'.heap ∧ HOk P w H' s'.heap ∧ RelV v u ∧ Q v H'
def CR (CX : CXT) (outer : List Env) (P : Program) (w : World) (H : Hp) (s : Shared) (Q : VK) (E : XK) (r : Result) (s' : Shared) : Prop :=
  match r with
  | .ok (.ret u) => CE outer P w H s Q u s'
  | .ok _ => False
  | .error e => CX outer H s E e s'
structure FnOk (P : Program) (w : World) (K : PySem.W.Frag) (mg : Str → Option Value) (base : Heap) (CX : CXT) (k : Nat) (f : Addr) (fd : FuncData) (ps : List Str) (sp : Sp) : Prop where
  len : ∀ vs H Q E, sp vs H Q E → vs.length = ps.length
  run : ∀ (A : Around) (outer : List Env) (s : Shared) (H : Hp) (args : Args) (us : List Value) (vs : List V) (Q : VK) (E : XK), Room k A → Env0 P w K mg base A outer s H → BindsTo s fd args (ps.zip us) → Vals vs us → sp vs H Q E →
    codeAny (model P w) A (.call (.ref f) args) (CR CX outer P w H s Q E) s
theorem FnOk.mono {P : Program} {w : World} {K : PySem.W.Frag} {mg : Str → Option Value} {base : Heap} {CX : CXT} {j k : Nat} {f : Addr} {fd : FuncData} {ps : List Str} {sp : Sp} (F : FnOk P w K mg base CX j f fd ps sp) (h : j ≤ k) :
    FnOk P w K mg base CX k f fd ps sp := ⟨F.len, fun A outer s H args us vs Q E hr => F.run A outer s H args us vs Q E (hr.mono h)⟩
theorem Env0.in1 {P : Program} {w : World} {K : PySem.W.Frag} {mg : Str → Option Value} {base : Heap} {A : Around} {outer : List Env} {s : Shared} {H : Hp} (e : Env0 P w K mg base A outer s H) :
    Env0 P w K mg base A.in1 outer s H := ⟨e.frames, e.mod, e.bs, e.bsz, e.funs, e.frf, e.hok, e.bare⟩

section
variable {X : Cx} {pins : List (Addr × Obj)} {σ : St} {H : Hp} {s s' : Shared}
/-- from a body: what a callee wants -/
theorem Inv.env0 (I : Inv X pins σ H s) : Env0 X.prog X.w X.K X.mg X.base X.A X.stack s H :=
  ⟨I.ok.frames, I.ok.mod, I.bs, Nat.le_trans I.ok.bsz I.sz, I.stack, I.stkFree, I.hok, I.bare⟩
/-- behind a call -/
theorem Inv.after {Q : VK} {u : Value} (I : Inv X pins σ H s) (h : CE X.stack X.prog X.w H s Q u s') : EP X pins σ Q u s' := by
  obtain ⟨v, H', os, bare, un, hok, r, q⟩ := h
  obtain ⟨hh, g, d, t, os'⟩ := s'
  obtain rfl : os' = s.os := os
  exact ⟨v, H', I.call (h' := hh) (g' := g) (d' := d) (t' := t) (ch := []) un hok bare (fun b z => absurd z (by simp)), r, q⟩
end

/-! ### calls -/
/-- f(..): the written arguments, then the defaults dvs; E: what is wanted of an exception -/
def tCall (sp : Sp) (dvs : List V) (E : XK) (t : TA) : TE := fun σ H Q => t σ H fun vs H1 => sp (vs ++ dvs) H1 Q E
/-- o.m(..) of an instance of the class at C -/
def tMeth (C : Addr) (m : Str) (sp : Sp) (dvs : List V) (E : XK) (ta : TE) (t : TA) : TE := fun σ H Q => ta σ H fun x H1 => ∃ a dx fs, x = .ref a ∧ H1 a = some (.ins C dx fs) ∧ fs.lookup m = none ∧
  t σ H1 fun vs H2 => sp (x :: (vs ++ dvs)) H2 Q E
/-- C(..): a new instance and its dict, then __init__ -/
def tMake (C : Addr) (sp : Sp) (dvs : List V) (E : XK) (t : TA) : TE := fun σ H Q => t σ H fun vs H1 => ∀ x dx, H1 x = none → H1 dx = none → dx ≠ x →
  sp (.ref x :: (vs ++ dvs)) (upd (upd H1 dx (.own x)) x (.ins C dx [])) (fun v H2 => v = .non ∧ Q (.ref x) H2) E

/-- how the parameters are bound: us the positional arguments, kw the keywords' values by name, ds the defaults that fill up -/
def Binds (K : PySem.W.Frag) (fd : FuncData) (ps : List Str) (ds : List Value) : Prop :=
  ∀ (s : Shared) (us : List Value), K.In s.heap → (us ++ ds).length = ps.length → BindsTo s fd ⟨us, []⟩ (ps.zip (us ++ ds))
/-- every parameter is given -/
theorem Binds.all {K : PySem.W.Frag} {fd : FuncData} {ps : List Str} (h : ∀ us : List Value, us.length = ps.length → bindArgs fd ⟨us, []⟩ = pure (ps.zip us)) : Binds K fd ps [] := fun s us _ hl => by
  rw [List.append_nil] at hl ⊢
  exact .of_eq (h us hl)

/-- an exception of a callee reaches what this body wants of exceptions -/
def Passes (CX : CXT) (X : Cx) (E : XK) : Prop := ∀ (pins : List (Addr × Obj)) (σ : St) (H : Hp) (s : Shared) (e : Value) (s' : Shared), Inv X pins σ H s → CX X.stack H s E e s' → X.xe e s'

section
variable {X : Cx} {CX : CXT} {k : Nat} {f C : Addr} {fd : FuncData} {ps : List Str} {sp : Sp} {dvs : List V} {ds : List Value} {E : XK} {x m : Str} {p pos apos : Pos} {e o : Expr} {es : List Expr} {ta : TE} {t : TA}

/-- the callee runs -/
theorem run_fn {pins : List (Addr × Obj)} {σ : St} {H : Hp} {s : Shared} {Q : VK} {us : List Value} {vs : List V} (F : FnOk X.prog X.w X.K X.mg X.base CX k f fd ps sp) (hr : Room k X.A) (hb : Binds X.K fd ps ds) (hd : Vals dvs ds) (hx : Passes CX X E)
    (I : Inv X pins σ H s) (r : Vals vs us) (h : sp (vs ++ dvs) H Q E) : wpAny (model X.prog X.w) X.A (call (.ref f) us) (EP X pins σ Q) X.xe s := by
  have r2 : Vals (vs ++ dvs) (us ++ ds) := r.append hd
  have hl : (us ++ ds).length = ps.length := by rw [← r2.length]; exact F.len _ _ _ _ h
  refine wpAny_call (codeAny_mono (F.run X.A X.stack s H ⟨us, []⟩ (us ++ ds) (vs ++ dvs) Q E hr I.env0 (hb s us I.kIn hl) r2 h) fun r s' hq => ?_)
  cases r with
  | error e => exact hx pins σ H s e s' I hq
  | ok fl =>
    cases fl with
    | ret u => exact I.after hq
    | next => exact False.elim hq
    | brk => exact False.elim hq
    | cont => exact False.elim hq

theorem pe_call (F : FnOk X.prog X.w X.K X.mg X.base CX k f fd ps sp) (hr : Room k X.A) (hg : Gl X x) (hm : X.mg x = some (.ref f)) (hk : PySem.W.keepIn X.K (.ref f) = true) (hb : Binds X.K fd ps ds) (hd : Vals dvs ds) (hx : Passes CX X E)
    (ha : PA X (e :: es) t) (hdb : (x == ("__debug__" : Str)) = false := by decide) (he : starEach (e :: es) X.env = (false, eval e X.env) :: starEach es X.env := by rfl) (hpl : (backTo pos (starEach es X.env)).any (·.1) = false := by rfl) :
    PE X (.Call (.Name x p) (e :: es) [] pos) (tCall sp dvs E t) := by
  intro pins s σ H Q I h
  refine wpAny_Call_Name_kw (ld_glob I hg hm ?_ hdb)
  refine PySem.W.callWith_K (h₀ := X.base) I.ok.mod.kin hk (thn (ha pos pins s σ H _ I h) fun us s1 ⟨vs, H1, I1, r, q⟩ => ⟨I1.kIn, ?_⟩) he hpl
  exact run_fn F hr hb hd hx I1 r q
/-- what a class must have to be made -/
structure Mk (K : PySem.W.Frag) (C f : Addr) : Prop where
  makes : PySem.W.makesIn K C = true
  init : PySem.W.findIn K (.ref C) "__init__" = some (some (.ref f))
  fn : PySem.W.isFn K (.ref f) = true
  kp : PySem.W.keepIn K (.ref C) = true

end

/-! ### keywords -/
/-- the values of the keywords, from the left -/
def PK (X : Cx) (kws : List Keyword) (t : TA) : Prop :=
  ∀ (pos : Pos) (pins : List (Addr × Obj)) (s : Shared) (σ : St) (H : Hp) (Q : List V → Hp → Prop), Inv X pins σ H s → t σ H Q → wpAny (model X.prog X.w) X.A (evalAll ((backToKw pos (keywordEach kws X.env)).map (·.2))) (AP X pins σ Q) X.xe s
section
variable {X : Cx} {CX : CXT} {k : Nat} {f C : Addr} {fd : FuncData} {ps ks : List Str} {sp : Sp} {E : XK} {x m : Str} {p pos apos kpos : Pos} {e o : Expr} {es : List Expr} {kws : List Keyword} {te ta : TE} {t tk : TA} {nm : Option Str}
/-- how a call with keywords binds: g puts the positional values us and the keywords' values ws (names ks) in the parameters' order, defaults among them -/
structure KBinds (K : PySem.W.Frag) (fd : FuncData) (ps ks : List Str) (g : List Value → List Value → List Value) (gV : List V → List V → List V) : Prop where
  to : ∀ (s : Shared) (us ws : List Value), K.In s.heap → (g us ws).length = ps.length → BindsTo s fd ⟨us, ks.zip ws⟩ (ps.zip (g us ws))
  rel : ∀ {vs : List V} {us : List Value} {zs : List V} {ws : List Value}, Vals vs us → Vals zs ws → Vals (gV vs zs) (g us ws)
def tCallK (sp : Sp) (gV : List V → List V → List V) (E : XK) (t tk : TA) : TE := fun σ H Q => t σ H fun vs H1 => tk σ H1 fun zs H2 => sp (gV vs zs) H2 Q E
variable {g : List Value → List Value → List Value} {gV : List V → List V → List V}
end

/-! ### a def's body keeps its promise -/
/-- names: the parameters first -/
structure FnScope (N P : List Str) (sc : Scope) : Prop where
  kind : sc.kind = .function
  co : sc.isCoroutine = false
  gen : sc.isGenerator = false
  nd : N.Nodup
  pre : N.take P.length = P
  par : ∀ x ∈ P, sc.names.lookup x = some .local ∨ sc.names.lookup x = some .cell
  nofree : ∀ y ∈ sc.names, y.2 ≠ .free

theorem bindL_out {kindOf : Str → Option NameKind} {x : Str} : ∀ {binds : List (Str × Value)} {m : Str → Option Value}, (∀ v, (x, v) ∉ binds) → bindL kindOf binds m x = m x
  | [], _, _ => rfl
  | (n, v) :: r, m, h => by
    unfold bindL
    rw [bindL_out fun w hw => h w (List.mem_cons_of_mem _ hw)]
    split
    · have : x ≠ n := by rintro rfl; exact h v List.mem_cons_self
      simp [this]
    · rfl
theorem bindC_out {kindOf : Str → Option NameKind} {x : Str} : ∀ {binds : List (Str × Value)} {m : Str → Option Value}, (∀ v, (x, v) ∉ binds) → bindC kindOf binds m x = m x
  | [], _, _ => rfl
  | (n, v) :: r, m, h => by
    unfold bindC
    rw [bindC_out fun w hw => h w (List.mem_cons_of_mem _ hw)]
    split
    · rfl
    · have : x ≠ n := by rintro rfl; exact h v List.mem_cons_self
      simp [this]
theorem bindL_get {kindOf : Str → Option NameKind} {x : Str} {v : Value} : ∀ {P : List Str} {vs : List Value} {i : Nat} {m : Str → Option Value}, P.Nodup → P[i]? = some x → vs[i]? = some v → kindOf x = some .local →
    bindL kindOf (P.zip vs) m x = some v
  | [], _, _, _, _, h, _, _ => by simp at h
  | _ :: _, [], _, _, _, _, h, _ => by simp at h
  | p :: P, w :: vs, 0, m, nd, h1, h2, hk => by
    simp at h1 h2; subst h1; subst h2
    show bindL kindOf ((p, w) :: P.zip vs) m p = _
    unfold bindL
    rw [bindL_out fun v hv => (List.nodup_cons.mp nd).1 (List.of_mem_zip hv).1, if_pos hk]
    simp
  | p :: P, w :: vs, i + 1, m, nd, h1, h2, hk => by
    show bindL kindOf ((p, w) :: P.zip vs) m x = _
    unfold bindL
    exact bindL_get (i := i) (List.nodup_cons.mp nd).2 (by simpa using h1) (by simpa using h2) hk
theorem bindC_get {kindOf : Str → Option NameKind} {x : Str} {v : Value} : ∀ {P : List Str} {vs : List Value} {i : Nat} {m : Str → Option Value}, P.Nodup → P[i]? = some x → vs[i]? = some v → kindOf x ≠ some .local →
    bindC kindOf (P.zip vs) m x = some v
  | [], _, _, _, _, h, _, _ => by simp at h
  | _ :: _, [], _, _, _, _, h, _ => by simp at h
  | p :: P, w :: vs, 0, m, nd, h1, h2, hk => by
    simp at h1 h2; subst h1; subst h2
    show bindC kindOf ((p, w) :: P.zip vs) m p = _
    unfold bindC
    rw [bindC_out fun v hv => (List.nodup_cons.mp nd).1 (List.of_mem_zip hv).1, if_neg hk]
    simp
  | p :: P, w :: vs, i + 1, m, nd, h1, h2, hk => by
    show bindC kindOf ((p, w) :: P.zip vs) m x = _
    unfold bindC
    exact bindC_get (i := i) (List.nodup_cons.mp nd).2 (by simpa using h1) (by simpa using h2) hk

/-- the names' values at the entry -/
def start (N : List Str) (vs : List V) : St := vs.map some ++ List.replicate (N.length - vs.length) none

/-- the context of a def's body, at its entry; an exception leaves the frame, then lies as CX says -/
def cxOf (CX : CXT) (P : Program) (w : World) (K : PySem.W.Frag) (mg : Str → Option Value) (base : Heap) (N : List Str) (qual : Str) (scope : Scope) (f : Addr) (cd : Value) (A : Around) (outer : List Env) (s : Shared) (H : Hp) (E : XK) : Cx where
  prog := P
  w := w
  K := K
  mg := mg
  base := base
  A := A.deeper (envOfC qual scope s.heap.objs.size f cd)
  N := N
  s₀ := s
  H₀ := H
  env := envOfC qual scope s.heap.objs.size f cd
  outer := outer
  stack := envOfC qual scope s.heap.objs.size f cd :: outer
  ex := []
  calm := true
  fn := fun _ => true
  pn := []
  xe := fun e s' => wpAny (model P w) (A.deeper (envOfC qual scope s.heap.objs.size f cd)) (leaving (envOfC qual scope s.heap.objs.size f cd) e) (fun _ s'' => CX outer H s E e s'') (fun e' s'' => CX outer H s E e' s'') s'

theorem cell_has {sc : Scope} {n : Nat} {x : Str} (h : sc.names.lookup x = some .cell) : ∃ c, (cellsFrom n sc.names []).lookup x = some c := by
  have q := PySem.W.cellsFrom_some sc.names n [] (.inl h)
  exact Option.isSome_iff_exists.mp q

theorem inv_start {CX : CXT} {P : Program} {w : World} {K : PySem.W.Frag} {mg : Str → Option Value} {base : Heap} {N ps : List Str} {qual : Str} {scope : Scope} {f : Addr} {cd : Value} {A : Around} {outer : List Env} {s s1 : Shared} {H : Hp} {E : XK} {us : List Value} {vs : List V}
    (S : FnScope N ps scope) (hd : A.handled = none) (e0 : Env0 P w K mg base A outer s H) (hl : vs.length = ps.length) (r : Vals vs us)
    (x : InCallC s s.heap.objs.size (bindL (envOfC qual scope s.heap.objs.size f cd).kindOf (ps.zip us) fun _ => none) (cellsFrom (s.heap.objs.size + 1) scope.names []) (bindC (envOfC qual scope s.heap.objs.size f cd).kindOf (ps.zip us) fun _ => none) s1) :
    Inv (cxOf CX P w K mg base N qual scope f cd A outer s H E) [] (start N vs) H s1 := by
  have hpl : ps.length ≤ N.length := by have := congrArg List.length S.pre; rw [List.length_take] at this; omega
  obtain ⟨h1, tk, rfl, hk⟩ := x.done
  have noA : ∀ b : Addr, b ∉ (cxOf CX P w K mg base N qual scope f cd A outer s H E).ex := fun b z => absurd (show b ∈ ([] : List Addr) from z) (by simp)
  refine ⟨⟨e0.mod, S.kind, rfl, rfl, Nat.le_refl _, fun y z c h1 h2 => ?_, fun y hy => ?_, fun y c _ h => ?_, fun _ => hd, Around.frames_deeper e0.frames, .inr ⟨rfl, rfl⟩, fun b z => absurd z (noA b), e0.bs, e0.bsz, fun b _ _ => noA b, fun b z => absurd z (noA b), e0.funs, e0.frf⟩,
    rfl, e0.bare, Un.kept hk, ⟨_, x.toInCall.ns, fun i y v h1 h2 h3 => ?_⟩, fun y c h => ⟨_, x.cell y c h⟩, e0.hok.fresh (Nat.le_refl _), fun y c h => ?_, fun p hp => absurd (show p ∈ ([] : List (Addr × Obj)) from hp) (by simp), e0.hok.kept hk, ?_⟩
  · exact name_of_addr x.apart (PySem.mem_of_lookup h1) (PySem.mem_of_lookup h2)
  · have hy : scope.names.lookup y = some .cell ∨ scope.names.lookup y = some .free := hy
    rcases hy with hy | hy
    · exact cell_has hy
    · exact absurd rfl (S.nofree _ (PySem.mem_of_lookup hy))
  · exact Nat.le_of_lt (x.above y c (PySem.mem_of_lookup h))
  · have hi : i < vs.length := by
      unfold start at h2
      by_cases hi : i < vs.length
      · exact hi
      · rw [List.getElem?_append_right (by simpa using hi)] at h2
        rw [List.getElem?_replicate] at h2
        split at h2 <;> cases h2
    have ha : vs[i]? = some v := by
      unfold start at h2
      rw [List.getElem?_append_left (by simpa using hi), List.getElem?_map] at h2
      cases e : vs[i]? with
      | none => rw [e] at h2; cases h2
      | some a => rw [e] at h2; cases h2; rfl
    obtain ⟨u, hu, rv⟩ := r.get ha
    have hp : ps[i]? = some y := by
      rw [← S.pre, List.getElem?_take_of_lt (by omega)]; exact h1
    have ndP : ps.Nodup := by rw [← S.pre]; exact S.nd.sublist (List.take_sublist _ _)
    refine ⟨u, rv, ?_⟩
    rcases S.par y (List.mem_of_getElem? hp) with k | k
    · exact .inl ⟨k, bindL_get ndP hp hu k⟩
    · obtain ⟨c, e⟩ := cell_has (n := s.heap.objs.size + 1) k
      refine .inr ⟨.inl k, c, e, ?_⟩
      have q := x.cell y c e
      rw [bindC_get ndP hp hu (by show scope.names.lookup y ≠ _; rw [k]; decide)] at q
      exact q
  · exact e0.hok.fresh (Nat.le_of_lt (x.above y c (PySem.mem_of_lookup h)))
  · unfold start
    show _ = N.length
    rw [List.length_append, List.length_map, List.length_replicate]
    omega

/-- THE RULE: a def (or a method) of the text, by its body. The body's reading t is chosen for each entry; it is run at the parameters' values -/
theorem fn_of {CX : CXT} {P : Program} {w : World} {K : PySem.W.Frag} {mg : Str → Option Value} {base : Heap} {k : Nat} {f : Addr} {name qual : Str} {params : Arguments} {body : List Stmt} {scope : Scope} {dV kV doc pm cdv ct oc : Value} {an od : Option Addr}
    {osl : Array (Option Value)} {N ps : List Str} {sp : Sp} (lk : K.lookup f = some ⟨oc, od, .func (PySem.W.fnOf name qual params body scope dV kV doc pm an cdv ct), osl⟩) (hcd : PySem.W.codeIn K cdv qual = true) (S : FnScope N ps scope)
    (len : ∀ vs H Q E, sp vs H Q E → vs.length = ps.length)
    (hbody : ∀ (A : Around) (outer : List Env) (s : Shared) (H : Hp) (vs : List V) (Q : VK) (E : XK), Room k (A.deeper (envOfC qual scope s.heap.objs.size f cdv)) → sp vs H Q E →
      ∃ t, PSs (cxOf CX P w K mg base N qual scope f cdv A outer s H E) body t ∧ t { nx := fun _ H' => Q .non H', rt := Q } (start N vs) H) :
    FnOk P w K mg base CX (k + 1) f (PySem.W.fnOf name qual params body scope dV kV doc pm an cdv ct) ps sp := by
  refine ⟨len, fun A outer s H args us vs Q E hr e0 hb r hsp => ?_⟩
  have hl := len _ _ _ _ hsp
  have KX : K.In s.heap := e0.mod.kin.keeps fun b o e => (e0.bs b o e).1
  have lim : s.heap.NoLimit := e0.mod.nolimit.keeps fun b o e => (e0.bs b o e).1
  have hkind : ∀ y ∈ ps.zip us, scope.names.lookup y.1 = some .local ∨ (scope.names.lookup y.1 = some .cell ∧ ((cellsFrom (s.heap.objs.size + 1) scope.names []).lookup y.1).isSome = true) := fun ⟨n, v⟩ hy => by
    rcases S.par n (List.of_mem_zip hy).1 with q | q
    · exact .inl q
    · exact .inr ⟨q, PySem.W.cellsFrom_some _ _ _ (.inl q)⟩
  refine codeAny_call_function hr.depth (KX _ _ lk) rfl S.co S.gen rfl (PySem.W.codeRec_of KX hcd) (hb _ _ _ _ ?_)
  refine wpAny_newFunctionEnv_cells S.kind hkind fun env he s1 x => ?_
  subst he
  refine ⟨lim.keeps x.toInCall.keep, codeAny_func ?_⟩
  obtain ⟨t, ht, hq⟩ := hbody A outer s H vs Q E (hr.deeper _) hsp
  have I : Inv (cxOf CX P w K mg base N qual scope f cdv A outer s H E) [] (start N vs) H s1 := inv_start S hr.hd e0 hl r x
  refine wpAny_mono (ht [] s1 (start N vs) H _ I hq) (fun fl s' hs => ?_) fun e s' hs => hs
  have fin : ∀ {σ' : St} {H' : Hp} {v : V} {u : Value}, Inv (cxOf CX P w K mg base N qual scope f cdv A outer s H E) [] σ' H' s' → RelV v u → Q v H' → CE outer P w H s Q u s' :=
    fun {σ' H' v u} J rv q => ⟨v, H', J.os, J.bare, J.base, J.hok, rv, q⟩
  cases fl with
  | ret u =>
    obtain ⟨v, σ', H', J, rv, q⟩ := hs
    exact fin J rv q
  | next =>
    obtain ⟨σ', H', J, q⟩ := hs
    exact fin (v := V.non) (u := Value.none) J rfl q
  | brk =>
    obtain ⟨_, _, _, q⟩ := hs
    exact False.elim q
  | cont =>
    obtain ⟨_, _, _, q⟩ := hs
    exact False.elim q
end L2

namespace L2
open PySem PySem.Spec PyProof.Rows
section
variable {X : Cx} {x : Str} {p pos : Pos} {e : Expr} {es : List Expr} {t : TA} {id T : String} {r : List V → Hp → VK → Prop}

def tCB (r : List V → Hp → VK → Prop) (t : TA) : TE := fun σ H Q => t σ H fun vs H1 => r vs H1 Q
/-- f(e, ..), f a built-in function -/
theorem pe_callB (hc : CallR X (.builtin id) r) (hg : Gl X x) (hm : X.mg x = none) (hv : bootBuiltins x = some (.builtin id)) (ha : PA X (e :: es) t) (hn : x ≠ "__name__" := by decide) (hdb : (x == ("__debug__" : Str)) = false := by decide)
    (he : starEach (e :: es) X.env = (false, eval e X.env) :: starEach es X.env := by rfl) (hpl : (backTo pos (starEach es X.env)).any (·.1) = false := by rfl) : PE X (.Call (.Name x p) (e :: es) [] pos) (tCB r t) := by
  intro pins s σ H Q I h
  refine wpAny_Call_Name_kw (ld_blt I hg hm hv ?_ hn hdb)
  exact PyProof.Rows.callWith_builtin1 (thn (ha pos pins s σ H _ I h) fun us s1 ⟨vs, H1, I1, r1, q1⟩ => hc pins s1 σ H1 vs us Q I1 r1 q1) he hpl
/-- T(e, ..), T a built-in type -/
theorem pe_callTy (hc : CallR X (.type T) r) (hg : Gl X x) (hm : X.mg x = none) (hv : bootBuiltins x = some (.type T)) (ha : PA X (e :: es) t) (hn : x ≠ "__name__" := by decide) (hdb : (x == ("__debug__" : Str)) = false := by decide)
    (he : starEach (e :: es) X.env = (false, eval e X.env) :: starEach es X.env := by rfl) (hpl : (backTo pos (starEach es X.env)).any (·.1) = false := by rfl) : PE X (.Call (.Name x p) (e :: es) [] pos) (tCB r t) := by
  intro pins s σ H Q I h
  refine wpAny_Call_Name_kw (ld_blt I hg hm hv ?_ hn hdb)
  exact PyProof.Rows.callWith_type1 (thn (ha pos pins s σ H _ I h) fun us s1 ⟨vs, H1, I1, r1, q1⟩ => hc pins s1 σ H1 vs us Q I1 r1 q1) he hpl
end
end L2

namespace HT
open PySem PyProof.Rows

/-- t < u of tuples of ints -/
def lexLt : List Int → List Int → Bool
  | [], [] => false
  | [], _ :: _ => true
  | _ :: _, [] => false
  | x :: xs, y :: ys => if x = y then lexLt xs ys else decide (x < y)
section
open PySem.SeqAt
open PySem.AutoSeq1 (wpAny_loadPart')
open PySem.MeetsSeq PySem.MeetsSeq2 PySem.MeetsSeq3

end

section
variable {prog : Program} {w : World} {A : Around} {E : Value → Shared → Prop} {s : Shared}

/-! ### t[a:b], not the whole -/
/-- a slice's bound as a place among n (d where it is left out) -/
def sIx (n d : Nat) : Option Int → Nat
  | none => d
  | some v => if v < 0 then (v + (n : Int)).toNat else min v.toNat n
end
end HT

namespace L2
open PySem PySem.Spec PyProof.Rows

/-! ### the parts of a slice -/
abbrev TO := St → Hp → (Option Int → Hp → Prop) → Prop
/-- a slice's part (left out, or an int) -/
def PO (X : Cx) (e : Option Expr) (t : TO) : Prop :=
  ∀ (pins : List (Addr × Obj)) (s : Shared) (σ : St) (H : Hp) (Q : Option Int → Hp → Prop), Inv X pins σ H s → t σ H Q →
    wpAny (model X.prog X.w) X.A (evalPart e X.env) (fun u s' => ∃ o H', Inv X pins σ H' s' ∧ IsPart u o ∧ Q o H') X.xe s
def tNoPart : TO := fun _ H Q => Q none H
def tPart (t : TE) : TO := fun σ H Q => t σ H fun x H1 => ∃ i, x = .int i ∧ Q (some i) H1

section
variable {X : Cx} {e : Expr} {te : TE} {lo hi : Option Expr} {tl th : TO} {pos p2 : Pos}

/-- what a slice of a value is, by values: the slice object stands at sl -/
def SlR (X : Cx) (r : V → Option Int → Option Int → Hp → VK → Prop) : Prop :=
  ∀ (pins : List (Addr × Obj)) (s : Shared) (σ : St) (H : Hp) (x : V) (v vl vu : Value) (lo hi : Option Int) (sl : Addr) (Q : VK), Inv X pins σ H s → RelV x v → s.heap.IsSliceOf sl vl vu .none → IsPart vl lo → IsPart vu hi → r x lo hi H Q →
    ∃ T id, typeLookup (.type T) "__getitem__" = pure (some (.builtin id)) ∧ s.TypeIs v T ∧ wpAny (model X.prog X.w) X.A (getItem v (.ref sl)) (EP X pins σ Q) X.xe s
theorem SlR.or {r r' : V → Option Int → Option Int → Hp → VK → Prop} (h : SlR X r) (h' : SlR X r') : SlR X (fun x lo hi H Q => r x lo hi H Q ∨ r' x lo hi H Q) := by
  intro pins s σ H x v vl vu lo hi sl Q I rx hs pl pu q
  rcases q with q | q
  · exact h pins s σ H x v vl vu lo hi sl Q I rx hs pl pu q
  · exact h' pins s σ H x v vl vu lo hi sl Q I rx hs pl pu q
def tSl (r : V → Option Int → Option Int → Hp → VK → Prop) (te : TE) (tl th : TO) : TE := fun σ H Q => te σ H fun x H1 => tl σ H1 fun l H2 => th σ H2 fun u H3 => r x l u H3 Q
/-- the items of xs[lo:hi] -/
def cutV (xs : List V) (lo hi : Option Int) : List V := (xs.drop (HT.sIx xs.length 0 lo)).take (HT.sIx xs.length xs.length hi - HT.sIx xs.length 0 lo)
/-- t[lo:hi], not the whole of it (the whole would be t itself) -/
def rSlT (K : PySem.W.Frag) : V → Option Int → Option Int → Hp → VK → Prop := fun x lo hi H Q => ∃ a xs, x = .ref a ∧ SqT K H a xs ∧
  ¬ (HT.sIx xs.length 0 lo = 0 ∧ HT.sIx xs.length xs.length hi = xs.length) ∧ ∀ p, H p = none → Q (.ref p) (upd H p (.tup (cutV xs lo hi)))
/-! ### t < u, t + u -/
def rLtT (K : PySem.W.Frag) : R2 := fun x y H Q => ∃ a b ns ms, x = .ref a ∧ y = .ref b ∧ SqT K H a (ns.map V.int) ∧ SqT K H b (ms.map V.int) ∧ Q (.bl (HT.lexLt ns ms)) H
/-- t + u, t not empty: u empty gives t itself -/
def rCatT (K : PySem.W.Frag) : R2 := fun x y H Q => ∃ a b xs ys, x = .ref a ∧ y = .ref b ∧ SqT K H a xs ∧ SqT K H b ys ∧ xs ≠ [] ∧ xs.length + ys.length ≤ sizeLine ∧
  (ys = [] → Q (.ref a) H) ∧ (ys ≠ [] → ∀ p, H p = none → Q (.ref p) (upd H p (.tup (xs ++ ys))))
end
end L2

namespace L2
open PySem PySem.Spec PyProof.Rows

/-! ### places -/
/-- the place that an index of any sign means -/
def ixN (n : Nat) (i : Int) : Option Nat := if 0 ≤ i then (if i < n then some i.toNat else none) else if -(n : Int) ≤ i then some (i + n).toNat else none
def atI {α : Type} (xs : List α) (i : Int) : Option α := (ixN xs.length i).bind fun j => xs[j]?
theorem ixN_seq {n : Nat} {i : Int} {j : Nat} (h : ixN n i = some j) : seqIndex? i n = some j ∧ j < n ∧ -(n : Int) ≤ i ∧ i < n := by
  unfold ixN at h
  by_cases h0 : 0 ≤ i
  · rw [if_pos h0] at h
    by_cases h1 : i < n
    · rw [if_pos h1] at h
      have e : i.toNat = j := Option.some.inj h
      exact ⟨by rw [seqIndex_of h0 h1, e], by omega, by omega, h1⟩
    · rw [if_neg h1] at h; cases h
  · rw [if_neg h0] at h
    by_cases h1 : -(n : Int) ≤ i
    · rw [if_pos h1] at h
      have e : (i + n).toNat = j := Option.some.inj h
      exact ⟨by rw [seqIndex_neg (by omega) h1, e], by omega, h1, by omega⟩
    · rw [if_neg h1] at h; cases h
theorem atI_get {α : Type} {xs : List α} {i : Int} {v : α} (h : atI xs i = some v) : ∃ j, seqIndex? i xs.length = some j ∧ xs[j]? = some v ∧ j < xs.length ∧ -(xs.length : Int) ≤ i ∧ i < xs.length := by
  unfold atI at h
  cases e : ixN xs.length i with
  | none => rw [e] at h; cases h
  | some j =>
    rw [e] at h
    obtain ⟨h1, h2, h3, h4⟩ := ixN_seq e
    exact ⟨j, h1, h, h2, h3, h4⟩
theorem atI_nat {α : Type} {xs : List α} {j : Nat} {v : α} (h : xs[j]? = some v) : atI xs (j : Int) = some v := by
  have hj : j < xs.length := (List.getElem?_eq_some_iff.mp h).1
  have e : ixN xs.length (j : Int) = some j := by
    unfold ixN
    rw [if_pos (by omega), if_pos (by omega)]; simp
  unfold atI; rw [e]; exact h
/-! ### what may be subscripted -/
/-- what stands as an index of a plain subscript -/
def PlainIx (b : Expr) : Prop := ∀ o i, subscripted b false o i = operate [o, i] (getItem o i)
/-- a subscript by values -/
def IxR (X : Cx) (r : R2) : Prop :=
  ∀ (value slice : Expr) (pins : List (Addr × Obj)) (s : Shared) (σ : St) (H : Hp) (x y : V) (v u : Value) (Q : VK), Inv X pins σ H s → RelV x v → RelV y u → r x y H Q →
    subscripted slice false v u = operate [v, u] (getItem v u) → wpAny (model X.prog X.w) X.A (subscriptTail value slice v u) (EP X pins σ Q) X.xe s
/-- a call of a builtin's method by values: the receiver, the arguments -/
def MtR (X : Cx) (id : String) (r : V → List V → Hp → VK → Prop) : Prop :=
  ∀ (pins : List (Addr × Obj)) (s : Shared) (σ : St) (H : Hp) (x : V) (xs : List V) (v : Value) (us : List Value) (Q : VK), Inv X pins σ H s → RelV x v → Vals xs us → r x xs H Q →
    wpAny (model X.prog X.w) X.A (call (.builtin id) (v :: us)) (EP X pins σ Q) X.xe s
section
variable {X : Cx} {a b : Expr} {ta tb : TE} {pos : Pos}
theorem IxR.or {r r' : R2} (h : IxR X r) (h' : IxR X r') : IxR X (fun x y H Q => r x y H Q ∨ r' x y H Q) := by
  intro value slice pins s σ H x y v u Q I rx ry q hs
  rcases q with q | q
  · exact h value slice pins s σ H x y v u Q I rx ry q hs
  · exact h' value slice pins s σ H x y v u Q I rx ry q hs
theorem MtR.or {id : String} {r r' : V → List V → Hp → VK → Prop} (h : MtR X id r) (h' : MtR X id r') : MtR X id (fun x xs H Q => r x xs H Q ∨ r' x xs H Q) := by
  intro pins s σ H x xs v us Q I rx rs q
  rcases q with q | q
  · exact h pins s σ H x xs v us Q I rx rs q
  · exact h' pins s σ H x xs v us Q I rx rs q
/-- a[b] -/
theorem pe_ix {r : R2} (hr : IxR X r) (ha : PE X a ta) (hb : PE X b tb) (hs : PlainIx b) : PE X (.Subscript a b pos) (tOp r ta tb) := by
  intro pins s σ H Q I h
  exact Subscript_ (binT ha hb I h fun v u s2 x y H2 I2 rx ry q => hr a b pins s2 σ H2 x y v u Q I2 rx ry q (hs _ _))

def rIxL (K : PySem.W.Frag) : R2 := fun x y H Q => ∃ p xs i v, x = .ref p ∧ y = .int i ∧ SqL K H p xs ∧ atI xs i = some v ∧ Q v H
def rIxT (K : PySem.W.Frag) : R2 := fun x y H Q => ∃ p xs i v, x = .ref p ∧ y = .int i ∧ SqT K H p xs ∧ atI xs i = some v ∧ Q v H
def rIxS : R2 := fun x y H Q => ∃ z i c, x = .str z ∧ y = .int i ∧ z.length ≤ sizeLine ∧ atI z.cps.toList i = some c ∧ Q (.str ⟨#[c]⟩) H
theorem ix_list : IxR X (rIxL X.K) := by
  intro value slice pins s σ H x y v u Q I rx ry h hs
  obtain ⟨p, xs, i, z, rfl, rfl, hq, he, q⟩ := h
  cases rx
  obtain ⟨t, rfl⟩ := ry
  obtain ⟨its, r, pl, hz⟩ := I.list hq
  obtain ⟨j, h1, h2, h3, h4, h5⟩ := atI_get he
  obtain ⟨w, ew, rw'⟩ := r.get h2
  have hl := r.length
  have hn := line63
  have fin : EP X pins σ Q w s := ⟨z, H, I, rw', q⟩
  by_cases h0 : 0 ≤ i
  · have hj : i.toNat = j := by
      rw [seqIndex_of h0 h5] at h1
      exact Option.some.inj h1
    exact item_listR pl.isList h0 (by omega) (by rw [hj]; simpa using ew) fin hs
  · have hj : (i + (its.toArray.size : Int)).toNat = j := by
      rw [seqIndex_neg (by omega) h4] at h1
      rw [List.size_toArray, ← hl]
      exact Option.some.inj h1
    exact subscriptTail_builtinR (x := w) pl.isList.typeIs slot_list_getitem.lookup
      (wpAny_getItem_list_neg (Q := fun r s' => r = w ∧ EP X pins σ Q r s') pl.isList (by omega) (by rw [List.size_toArray] <;> omega) (by omega) (by rw [hj]; simpa using ew) ⟨rfl, fin⟩) hs
theorem ix_tup : IxR X (rIxT X.K) := by
  intro value slice pins s σ H x y v u Q I rx ry h hs
  obtain ⟨p, xs, i, z, rfl, rfl, hq, he, q⟩ := h
  cases rx
  obtain ⟨t, rfl⟩ := ry
  obtain ⟨its, r, pl, hz⟩ := I.tuple hq
  obtain ⟨j, h1, h2, h3, h4, h5⟩ := atI_get he
  obtain ⟨w, ew, rw'⟩ := r.get h2
  have hl := r.length
  have hn := line63
  have fin : EP X pins σ Q w s := ⟨z, H, I, rw', q⟩
  exact subscriptTail_builtinR (x := w) pl.typeIs slot_tuple_getitem.lookup
    (getItem_tuple (j := j) (Q := fun r s' => r = w ∧ EP X pins σ Q r s') pl (by omega) (by omega) (by rw [List.size_toArray, ← hl]; exact h1) (by simpa using ew) ⟨rfl, fin⟩) hs
theorem ix_str : IxR X rIxS := by
  intro value slice pins s σ H x y v u Q I rx ry h hs
  obtain ⟨z, i, c, rfl, rfl, hz, he, q⟩ := h
  obtain ⟨t, rfl⟩ := rx
  obtain ⟨t', rfl⟩ := ry
  obtain ⟨j, h1, h2, h3, h4, h5⟩ := atI_get he
  have hl : z.cps.toList.length = z.length := by simp [Str.length]
  rw [hl] at h1 h4 h5
  have hn := line63
  exact tail_any (typeIs_str s z t) slot_str_getitem.lookup (getItem_str (c := c) (by
    have e1 : decide (i < -(2 ^ 63 : Int)) = false := decide_eq_false (by omega)
    have e2 : decide (i ≥ 2 ^ 63) = false := decide_eq_false (by omega)
    rw [e1, e2, Bool.or_false]) (by rw [h1]; simpa using h2) ⟨.str ⟨#[c]⟩, H, I.tok _, ⟨_, rfl⟩, q⟩) hs
/-- list, tuple or str -/
def rIx (K : PySem.W.Frag) : R2 := fun x y H Q => rIxL K x y H Q ∨ rIxT K x y H Q ∨ rIxS x y H Q
theorem ix_seq : IxR X (rIx X.K) := ix_list.or (ix_tup.or ix_str)

/-! ### xs[i] = v, any sign -/
theorem Inv.lst {pins : List (Addr × Obj)} {σ : St} {H : Hp} {s : Shared} {p : Addr} {xs : List V} (I : Inv X pins σ H s) (h : H p = some (.lst xs)) :
    ∃ (its : List Value) (n : Nat), Vals xs its ∧ s.heap.get? p = some { cls := .type "list", data := .seq its.toArray n } ∧ xs.length ≤ sizeLine := by
  obtain ⟨z, its, n, r, e⟩ := I.hok p _ h
  exact ⟨its, n, r, e, z⟩
def rSetL : V → V → V → Hp → (Hp → Prop) → Prop := fun o i v H Q => ∃ p xs k j, o = .ref p ∧ i = .int k ∧ H p = some (.lst xs) ∧ ixN xs.length k = some j ∧ Q (upd H p (.lst (xs.set j v)))
/-! ### slices -/
/-- xs[lo:hi] of a list: a new list -/
def rSlL (K : PySem.W.Frag) : V → Option Int → Option Int → Hp → VK → Prop := fun x lo hi H Q => ∃ a xs, x = .ref a ∧ SqL K H a xs ∧ ∀ p, H p = none → Q (.ref p) (upd H p (.lst (cutV xs lo hi)))
/-! ### in, not in: flat items -/
def flatV : V → Bool
  | .non => true
  | .bl _ => true
  | .int _ => true
  | .str _ => true
  | _ => false
/-- == of flat values -/
def eqV : V → V → Bool
  | .non, .non => true
  | .bl a, .bl b => a == b
  | .bl a, .int b => (if a then 1 else 0) == b
  | .int a, .bl b => a == (if b then 1 else 0)
  | .int a, .int b => a == b
  | .str a, .str b => a == b
  | _, _ => false
theorem eqAt_V {A : Around} {s : Shared} {y x : V} {u v : Value} (ry : RelV y u) (rx : RelV x v) (fy : flatV y = true) (fx : flatV x = true) : SeqAt.EqAt A s u v (eqV y x) := by
  cases y with
  | non =>
    cases ry
    cases x with
    | non => cases rx; exact SeqAt.EqAt.same _
    | bl b => cases rx; exact SeqAt.EqAt.none_bool b
    | int b => obtain ⟨t, rfl⟩ := rx; exact SeqAt.EqAt.none_int b t
    | str b => obtain ⟨t, rfl⟩ := rx; exact SeqAt.EqAt.none_str b t
    | _ => exact absurd (show false = true from fx) Bool.false_ne_true
  | bl a =>
    cases ry
    cases x with
    | non => cases rx; exact SeqAt.EqAt.bool_none a
    | bl b => cases rx; exact SeqAt.EqAt.bool_bool a b
    | int b => obtain ⟨t, rfl⟩ := rx; exact SeqAt.EqAt.bool_int a b t
    | str b => obtain ⟨t, rfl⟩ := rx; exact SeqAt.EqAt.bool_str a b t
    | _ => exact absurd (show false = true from fx) Bool.false_ne_true
  | int a =>
    obtain ⟨t', rfl⟩ := ry
    cases x with
    | non => cases rx; exact SeqAt.EqAt.int_none a t'
    | bl b => cases rx; exact SeqAt.EqAt.int_bool a t' b
    | int b => obtain ⟨t, rfl⟩ := rx; exact SeqAt.EqAt.int_int a t' b t
    | str b => obtain ⟨t, rfl⟩ := rx; exact SeqAt.EqAt.int_str a t' b t
    | _ => exact absurd (show false = true from fx) Bool.false_ne_true
  | str a =>
    obtain ⟨t', rfl⟩ := ry
    cases x with
    | non => cases rx; exact SeqAt.EqAt.str_none a t'
    | bl b => cases rx; exact SeqAt.EqAt.str_bool a t' b
    | int b => obtain ⟨t, rfl⟩ := rx; exact SeqAt.EqAt.str_int a t' b t
    | str b => obtain ⟨t, rfl⟩ := rx; exact SeqAt.EqAt.str_str a t' b t
    | _ => exact absurd (show false = true from fx) Bool.false_ne_true
  | _ => exact absurd (show false = true from fy) Bool.false_ne_true
/-- the items' answers, read off the values (a value's own answer does not lean on its token) -/
def eqU (x : V) (u : Value) : Bool := match u with
  | .none => eqV .non x
  | .bool b => eqV (.bl b) x
  | .int i _ => eqV (.int i) x
  | .str z _ => eqV (.str z) x
  | _ => false
theorem eqU_of {x y : V} {u : Value} (r : RelV y u) (f : flatV y = true) : eqU x u = eqV y x := by
  cases y with
  | non => cases r; rfl
  | bl b => cases r; rfl
  | int i => obtain ⟨t, rfl⟩ := r; rfl
  | str z => obtain ⟨t, rfl⟩ := r; rfl
  | _ => exact absurd (show false = true from f) Bool.false_ne_true
theorem any_eqU {x : V} : ∀ {xs : List V} {us : List Value}, Vals xs us → xs.all flatV = true → us.any (eqU x) = xs.any fun y => eqV y x
  | _, _, .nil, _ => rfl
  | y :: xs, u :: us, .cons r t, f => by
    rw [List.all_cons, Bool.and_eq_true] at f
    rw [List.any_cons, List.any_cons, eqU_of r f.1, any_eqU t f.2]
theorem mem_eqAt {A : Around} {s : Shared} {x : V} {v : Value} (rx : RelV x v) (fx : flatV x = true) : ∀ {xs : List V} {us : List Value}, Vals xs us → xs.all flatV = true → ∀ u ∈ us, SeqAt.EqAt A s u v (eqU x u)
  | _, _, .nil, _ => fun u hu => by cases hu
  | y :: xs, u :: us, .cons r t, f => fun u' hu => by
    rw [List.all_cons, Bool.and_eq_true] at f
    rcases List.mem_cons.mp hu with rfl | hu
    · rw [eqU_of r f.1]; exact eqAt_V r rx f.1 fx
    · exact mem_eqAt rx fx t f.2 u' hu
def inV (x : V) (xs : List V) : Bool := xs.any fun y => eqV y x
/-- x in a list or tuple of flat items -/
def rIn (K : PySem.W.Frag) (neg : Bool) : R2 := fun x y H Q => ∃ p xs, y = .ref p ∧ (SqL K H p xs ∨ SqT K H p xs) ∧ flatV x = true ∧ xs.all flatV = true ∧ Q (.bl (if neg then !inV x xs else inV x xs)) H
theorem op_in_seq : OpR X (compareOp .In) (rIn X.K false) := by
  intro pins s σ H x y v u Q I rx ry h
  obtain ⟨p, xs, rfl, hq, fx, fs, q⟩ := h
  cases ry
  rcases hq with hq | hq
  · obtain ⟨its, r, pl, hz⟩ := I.list hq
    refine SeqAt.in_listAt (eqU x) pl.isList (fun w hw => mem_eqAt rx fx r fs w (by simpa using hw)) ⟨.bl _, H, I, rfl, ?_⟩
    rw [show its.toArray.any (eqU x) = its.any (eqU x) by simp, any_eqU r fs]
    exact q
  · obtain ⟨its, r, pl, hz⟩ := I.tuple hq
    refine SeqAt.in_tupleAt (eqU x) pl (fun w hw => mem_eqAt rx fx r fs w (by simpa using hw)) ⟨.bl _, H, I, rfl, ?_⟩
    rw [show its.toArray.any (eqU x) = its.any (eqU x) by simp, any_eqU r fs]
    exact q
/-! ### len, list(x), tuple(x) of any list or tuple that is read -/
theorem call_len_seq : CallR X (.builtin "len") (fun xs H Q => ∃ p ys, xs = [.ref p] ∧ (SqL X.K H p ys ∨ SqT X.K H p ys) ∧ Q (.int ys.length) H) := by
  intro pins s σ H xs us Q I r h
  obtain ⟨p, ys, rfl, hq, q⟩ := h
  obtain ⟨u, rfl, rx⟩ := vals1 r
  cases rx
  have hn := line63
  rcases hq with hq | hq
  · obtain ⟨its, r', pl, hz⟩ := I.list hq
    have hlen := r'.length
    exact Calls.call_len_list pl.isList (by simp only [List.size_toArray] <;> omega) ⟨.int ys.length, H, I.tok _, ⟨s.toks + 1, by rw [List.size_toArray, hlen]⟩, q⟩
  · obtain ⟨its, r', pl, hz⟩ := I.tuple hq
    have hlen := r'.length
    exact len_tuple pl (by simp only [List.size_toArray] <;> omega) ⟨.int ys.length, H, I.tok _, ⟨s.toks + 1, by rw [List.size_toArray, hlen]⟩, q⟩
theorem CallR.or {f : Value} {r r' : List V → Hp → VK → Prop} (h : CallR X f r) (h' : CallR X f r') : CallR X f (fun xs H Q => r xs H Q ∨ r' xs H Q) := by
  intro pins s σ H xs us Q I rs q
  rcases q with q | q
  · exact h pins s σ H xs us Q I rs q
  · exact h' pins s σ H xs us Q I rs q
theorem call_list_of : CallR X (.type "list") (fun xs H Q => ∃ p ys, xs = [.ref p] ∧ (SqL X.K H p ys ∨ SqT X.K H p ys) ∧ ∀ l, H l = none → Q (.ref l) (upd H l (.lst ys))) := by
  intro pins s σ H xs us Q I r h
  obtain ⟨p, ys, rfl, hq, q⟩ := h
  obtain ⟨u, rfl, rx⟩ := vals1 r
  cases rx
  have fin : ∀ (its : List Value), Vals ys its → ys.length ≤ sizeLine → ∀ (h' : Heap) (c' : Nat), (∀ b o', s.heap.get? b = some o' → h'.get? b = some o') →
      h'.get? s.heap.objs.size = some { cls := .type "list", dict := none, data := .seq its.toArray c', slots := #[] } → EP X pins σ Q (.ref s.heap.objs.size) { s with heap := h' } := fun its r' hz h' c' kp e =>
    ⟨.ref s.heap.objs.size, _, I.laid (t' := s.toks) kp (Nat.le_refl _) (show ObjOk X.prog X.w _ h' _ (.lst ys) from ⟨hz, its, c', r', e⟩), rfl, q _ (I.hok.fresh (Nat.le_refl _))⟩
  rcases hq with hq | hq
  · obtain ⟨its, r', pl, hz⟩ := I.list hq
    have hlen := r'.length
    obtain ⟨o, ho, hc, n, hd⟩ := pl.isList
    exact call_list_seq p (.inl rfl) ho hc hd (fun h' c' kp e => fin its r' hz h' c' kp e) (by simp only [List.size_toArray] <;> omega)
  · obtain ⟨its, r', pl, hz⟩ := I.tuple hq
    have hlen := r'.length
    obtain ⟨o, ho, hc, n, hd⟩ := pl
    exact call_list_seq p (.inr rfl) ho hc hd (fun h' c' kp e => fin its r' hz h' c' kp e) (by simp only [List.size_toArray] <;> omega)
theorem call_tuple_of : CallR X (.type "tuple") (fun xs H Q => ∃ p ys, xs = [.ref p] ∧ ((SqL X.K H p ys ∧ ∀ l, H l = none → Q (.ref l) (upd H l (.tup ys))) ∨ (SqT X.K H p ys ∧ Q (.ref p) H))) := by
  intro pins s σ H xs us Q I r h
  obtain ⟨p, ys, rfl, h⟩ := h
  obtain ⟨u, rfl, rx⟩ := vals1 r
  cases rx
  rcases h with ⟨hq, q⟩ | ⟨hq, q⟩
  · obtain ⟨its, r', pl, hz⟩ := I.list hq
    have hlen := r'.length
    refine call_tuple_list pl.isList (fun h' kp => ?_) (by simp only [List.size_toArray] <;> omega)
    have I1 : Inv X pins σ H { s with heap := h' } := I.kept (t' := s.toks) kp
    have I2 : Inv X pins σ (upd H h'.objs.size (.tup ys)) { s with heap := h'.push { cls := .type "tuple", data := .seq its.toArray } } :=
      I1.laid (t' := s.toks) (fun b o e => Heap.get?_push_of_some _ e) (Nat.le_refl _) (show ObjOk X.prog X.w _ _ _ (.tup ys) from ⟨hz, its, r', IsTup.new _ _⟩)
    exact ⟨.ref h'.objs.size, _, I2, rfl, q _ (I1.hok.fresh (Nat.le_refl _))⟩
  · obtain ⟨its, r', pl, hz⟩ := I.tuple hq
    exact call_tuple_same pl ⟨.ref p, H, I, rfl, q⟩

/-! ### the call of a builtin's method: o.m(..) -/
/-- the value is of that builtin type -/
def tyV (K : PySem.W.Frag) (T : String) (x : V) (H : Hp) : Prop := match x with
  | .str _ => T = "str"
  | .int _ => T = "int"
  | .ref p => (T = "list" ∧ ∃ xs, SqL K H p xs) ∨ (T = "tuple" ∧ ∃ o, K.lookup p = some o ∧ o.cls = .type "tuple" ∧ o.dict = none) ∨
      (T = "dict" ∧ ((∃ kvs, H p = some (.dK kvs)) ∨ ∃ kvs, H p = some (.dT kvs))) ∨ (T = "set" ∧ ∃ S n, H p = some (.set S n))
  | _ => False
theorem tyV_is {pins : List (Addr × Obj)} {σ : St} {H : Hp} {s : Shared} {T : String} {x : V} {v : Value} (I : Inv X pins σ H s) (r : RelV x v) (ty : tyV X.K T x H) :
    s.TypeIs v T ∧ ∀ a, v = .ref a → ∃ ob, s.heap.get? a = some ob ∧ ob.dict = none := by
  cases x with
  | str z =>
    obtain ⟨t, rfl⟩ := r
    cases (show T = "str" from ty)
    exact ⟨typeIs_str s z t, fun _ e => nomatch e⟩
  | int i =>
    obtain ⟨t, rfl⟩ := r
    cases (show T = "int" from ty)
    exact ⟨typeIs_int s i t, fun _ e => nomatch e⟩
  | ref p =>
    cases r
    rcases ty with ⟨rfl, xs, hq⟩ | ⟨rfl, o, hk, hc, hd⟩ | ⟨rfl, hk⟩ | ⟨rfl, S, n, hk⟩
    · obtain ⟨its, _, pl, _⟩ := I.list hq
      refine ⟨pl.isList.typeIs, fun a e => ?_⟩
      cases e
      obtain ⟨o, n, e, c, hd, _⟩ := pl
      exact ⟨o, e, hd⟩
    · refine ⟨⟨o, I.kIn p o hk, hc⟩, fun a e => ?_⟩
      cases e
      exact ⟨o, I.kIn _ o hk, hd⟩
    · have z : ∃ o, s.heap.get? p = some o ∧ o.ExactDict := by
        rcases hk with ⟨kvs, hk⟩ | ⟨kvs, hk⟩
        · obtain ⟨_, _, _, _, o, _, _, e, ex, _⟩ := I.hok p _ hk
          exact ⟨o, e, ex⟩
        · obtain ⟨_, _, _, _, o, _, _, e, ex, _⟩ := I.hok p _ hk
          exact ⟨o, e, ex⟩
      obtain ⟨o, e, ex⟩ := z
      refine ⟨⟨o, e, ex.1⟩, fun a e2 => ?_⟩
      cases e2
      exact ⟨o, e, ex.2.1⟩
    · obtain ⟨o, _, _, _, e, ex, _⟩ := I.hok p _ hk
      refine ⟨⟨o, e, ex.1⟩, fun a e2 => ?_⟩
      cases e2
      exact ⟨o, e, ex.2.1⟩
  | _ => exact False.elim ty
def tBM0 (K : PySem.W.Frag) (T : String) (r : V → List V → Hp → VK → Prop) (to : TE) : TE := fun σ H Q => to σ H fun x H1 => tyV K T x H1 ∧ r x [] H1 Q
def tBM (K : PySem.W.Frag) (T : String) (r : V → List V → Hp → VK → Prop) (to : TE) (t : TA) : TE := fun σ H Q => to σ H fun x H1 => tyV K T x H1 ∧ t σ H1 fun xs H2 => r x xs H2 Q
variable {o e : Expr} {es : List Expr} {to : TE} {t : TA} {name : Str} {apos cpos : Pos} {T id : String} {r : V → List V → Hp → VK → Prop}
theorem pe_bm0 (pa : PlainAttrs T) (slot : Slot T name id) (hty : typeOf (.builtin id) = pure (.type "method_descriptor")) (hm : MtR X id r) (ho : PE X o to)
    (hbase : attributeBase o name X.env (eval o X.env) = eval o X.env := by rfl) (hline : (apos.endLine == cpos.line) = true := by rfl) : PE X (.Call (.Attribute o name apos) [] [] cpos) (tBM0 X.K T r to) := by
  intro pins s σ H Q I h
  refine wpAny_Call_method0_late hbase hline (thn (ho pins s σ H _ I h) fun v s1 ⟨x, H1, I1, r1, ty, q1⟩ => ?_)
  obtain ⟨h1, h2⟩ := tyV_is I1 r1 ty
  exact ⟨T, id, pa, slot, hty, h1, h2, Calls.callWith_builtin rfl (PySem.evalArgs_none (hm pins s1 σ H1 x [] v [] Q I1 r1 .nil q1))⟩
theorem pe_bm (pa : PlainAttrs T) (slot : Slot T name id) (hty : typeOf (.builtin id) = pure (.type "method_descriptor")) (hm : MtR X id r) (ho : PE X o to) (ha : PA X (e :: es) t)
    (hbase : attributeBase o name X.env (eval o X.env) = eval o X.env := by rfl)
    (hfew : ((backTo cpos (starEach (e :: es) X.env)).all (fun x => !x.1) && (backToKw cpos (keywordEach [] X.env)).all (fun x => x.1.isSome)
      && decide ((e :: es).length + ([] : List Keyword).length + (if ([] : List Keyword).isEmpty then 0 else 1) < 30)) = true := by rfl)
    (hline : (apos.endLine == cpos.line) = true := by rfl) (hs : starEach (e :: es) X.env = (false, eval e X.env) :: starEach es X.env := by rfl) (hplain : (backTo cpos (starEach es X.env)).any (·.1) = false := by rfl) :
    PE X (.Call (.Attribute o name apos) (e :: es) [] cpos) (tBM X.K T r to t) := by
  intro pins s σ H Q I h
  refine wpAny_Call_method_late hbase hfew hline rfl (thn (ho pins s σ H _ I h) fun v s1 ⟨x, H1, I1, r1, ty, q1⟩ => ?_)
  obtain ⟨h1, h2⟩ := tyV_is I1 r1 ty
  refine ⟨T, id, pa, slot, hty, h1, h2, ?_⟩
  have hA := ha cpos pins s1 σ H1 _ I1 q1
  rw [hs] at hA ⊢
  refine Calls.callWith_builtin (by show (false || (backTo cpos (starEach es X.env)).any (·.1)) = false; rw [hplain] <;> rfl) (Calls.evalArgs_plain ?_)
  exact thn hA fun us s2 ⟨vs, H2, I2, r2, q2⟩ => hm pins s2 σ H2 x vs v us Q I2 r1 r2 q2
/- xs.append(e), list.index on a module's tuple .. are MtR facts of 06m -/
end
end L2

namespace L2
open PySem PySem.Spec PyProof.Rows

def MtM (X : Cx) (id : String) (r : V → List V → Hp → VK → Prop) : Prop :=
  ∀ (pins : List (Addr × Obj)) (s : Shared) (σ : St) (H : Hp) (x : V) (xs : List V) (v : Value) (us : List Value) (Q : VK), Inv X pins σ H s → RelV x v → Vals xs us → r x xs H Q →
    wpAny (model X.prog X.w) X.A (call (.builtin id) (v :: us)) (EP X pins σ Q) X.xe s

/-! ### lists of values -/
theorem Vals.one : ∀ {x : V} {us : List Value}, Vals [x] us → ∃ u, us = [u] ∧ RelV x u
  | _, _, .cons r .nil => ⟨_, rfl, r⟩
theorem Vals.two : ∀ {x y : V} {us : List Value}, Vals [x, y] us → ∃ u v, us = [u, v] ∧ RelV x u ∧ RelV y v
  | _, _, _, .cons r (.cons q .nil) => ⟨_, _, rfl, r, q⟩
theorem Vals.zero : ∀ {us : List Value}, Vals [] us → us = []
  | _, .nil => rfl
theorem Vals.dropLast {xs : List V} {us : List Value} (h : Vals xs us) : Vals xs.dropLast us.dropLast := by
  induction h with
  | nil => exact .nil
  | cons r t ih =>
    cases t with
    | nil => exact .nil
    | cons q t' => exact .cons r ih
theorem Vals.eraseIdx : ∀ {xs : List V} {us : List Value} (i : Nat), Vals xs us → Vals (xs.eraseIdx i) (us.eraseIdx i)
  | _, _, _, .nil => .nil
  | _, _, 0, .cons _ t => t
  | _, _, i + 1, .cons r t => .cons r (Vals.eraseIdx i t)
theorem Vals.reverse {xs : List V} {us : List Value} (h : Vals xs us) : Vals xs.reverse us.reverse := by
  induction h with
  | nil => exact .nil
  | cons r t ih => rw [List.reverse_cons, List.reverse_cons]; exact Vals.append ih (.cons r .nil)
section
variable {X : Cx} {pins : List (Addr × Obj)} {σ : St} {H : Hp} {s : Shared} {l b : Addr} {xs ys zs : List V}

/-! ### the two steps: a tracked list is rewritten, a new list is laid -/
theorem Inv.lset {its its' : List Value} {n : Nat} {f : Array Value → Array Value} {t' : Nat} (I : Inv X pins σ H s) (hH : H l = some (.lst xs))
    (e : s.heap.get? l = some { cls := .type "list", data := .seq its.toArray n }) (hf : f its.toArray = its'.toArray) (hv : Vals ys its') (hz : ys.length ≤ sizeLine) :
    Inv X pins σ (upd H l (.lst ys)) { s with heap := s.heap.update l (Obj.mapSeq f), toks := t' } := by
  have q := PySem.IsL.update e f
  rw [hf] at q
  refine I.write (x := l) (e := l) (by rw [hH]; exact trivial) (.inl rfl) (fun b' u hb hu => (Heap.get?_update_other s.heap (Obj.mapSeq f) (Ne.symm hb)).trans hu) ⟨_, q⟩ ?_
  exact ⟨hz, its', _, hv, q⟩
theorem Inv.lnew {its : List Value} {t' : Nat} (I : Inv X pins σ H s) (hv : Vals ys its) (hz : ys.length ≤ sizeLine) :
    Inv X pins σ (upd H s.heap.objs.size (.lst ys)) { s with heap := s.heap.push { cls := .type "list", data := .seq its.toArray }, toks := t' } :=
  I.laid (fun _ _ q => Heap.get?_push_of_some _ q) (Nat.le_refl _) ⟨hz, its, 0, hv, Heap.get?_push_size _ rfl⟩
theorem Inv.fresh (I : Inv X pins σ H s) : H s.heap.objs.size = none := I.hok.fresh (Nat.le_refl _)
theorem Inv.lstM (I : Inv X pins σ H s) (hH : H l = some (.lst xs)) : xs.length ≤ sizeLine ∧ ∃ (its : List Value) (n : Nat), Vals xs its ∧ xs.length = its.length ∧ s.heap.get? l = some { cls := .type "list", data := .seq its.toArray n } := by
  obtain ⟨z, its, n, r, e⟩ := I.hok l _ hH
  exact ⟨z, its, n, r, r.length, e⟩

end

section
variable {X : Cx}

/-! ### methods -/
def rAppend : V → List V → Hp → VK → Prop := fun x vs H Q => ∃ l xs y, x = .ref l ∧ vs = [y] ∧ H l = some (.lst xs) ∧ xs.length < sizeLine ∧ Q .non (upd H l (.lst (xs ++ [y])))
theorem mt_append : MtM X "list.append" rAppend := by
  intro pins s σ H x vs v us Q I rx rv h
  obtain ⟨l, xs, y, rfl, rfl, hH, hz, q⟩ := h
  cases rx
  obtain ⟨u, rfl, ru⟩ := rv.one
  obtain ⟨z, its, n, r, hl, e⟩ := I.lstM hH
  refine call_meets F.slot_list_append ⟨_, e, rfl⟩ F.entry_list_append (F.args_list_append_2 _ _) (PySem.list_append l its.toArray n u (by rw [List.size_toArray]; omega)) ⟨e, ?_⟩
  refine ⟨.non, _, I.lset (its' := its ++ [u]) hH e (by simp) (r.append (.cons ru .nil)) ?_, rfl, q⟩
  rw [List.length_append, List.length_singleton]
  omega

def rExtend : V → List V → Hp → VK → Prop := fun x vs H Q => ∃ l b xs zs, x = .ref l ∧ vs = [.ref b] ∧ H l = some (.lst xs) ∧ H b = some (.lst zs) ∧ xs.length + zs.length ≤ sizeLine ∧ Q .non (upd H l (.lst (xs ++ zs)))
def rPop : V → List V → Hp → VK → Prop := fun x vs H Q => ∃ l xs y, x = .ref l ∧ vs = [] ∧ H l = some (.lst xs) ∧ xs[xs.length - 1]? = some y ∧ Q y (upd H l (.lst xs.dropLast))
def rPopAt : V → List V → Hp → VK → Prop := fun x vs H Q => ∃ l xs i k y, x = .ref l ∧ vs = [.int i] ∧ H l = some (.lst xs) ∧ -(2 ^ 63) ≤ i ∧ i < 2 ^ 63 ∧ seqIndex? i xs.length = some k ∧ xs[k]? = some y ∧ Q y (upd H l (.lst (xs.eraseIdx k)))
def rReverse : V → List V → Hp → VK → Prop := fun x vs H Q => ∃ l xs, x = .ref l ∧ vs = [] ∧ H l = some (.lst xs) ∧ Q .non (upd H l (.lst xs.reverse))
def rClear : V → List V → Hp → VK → Prop := fun x vs H Q => ∃ l xs, x = .ref l ∧ vs = [] ∧ H l = some (.lst xs) ∧ Q .non (upd H l (.lst []))
/-! ### list + list, list += list, list * int -/
def rCat : R2 := fun x y H Q => ∃ l b xs zs, x = .ref l ∧ y = .ref b ∧ H l = some (.lst xs) ∧ H b = some (.lst zs) ∧ xs.length + zs.length ≤ sizeLine ∧ ∀ p, H p = none → Q (.ref p) (upd H p (.lst (xs ++ zs)))
theorem op_cat : OpR X (binaryOp .Add) rCat := by
  intro pins s σ H x y v u Q I rx ry h
  obtain ⟨l, b, xs, zs, rfl, rfl, hH, hB, hz, q⟩ := h
  cases rx
  cases ry
  obtain ⟨z, its, n, r, hl, e⟩ := I.lstM hH
  obtain ⟨z2, its2, n2, r2, hl2, e2⟩ := I.lstM hB
  refine PySem.P.add_list e e2 ?_ (by rw [List.size_toArray, List.size_toArray]; omega)
  have ea : its.toArray ++ its2.toArray = (its ++ its2).toArray := by simp
  rw [ea]
  exact ⟨.ref _, _, I.lnew (t' := s.toks) (r.append r2) (by rw [List.length_append]; omega), rfl, q _ I.fresh⟩
/-- a list times an int (a negative one is nothing) -/
def rRep : R2 := fun x y H Q => ∃ l k xs, x = .ref l ∧ y = .int k ∧ H l = some (.lst xs) ∧ -(2 ^ 63) ≤ k ∧ k < 2 ^ 63 ∧ xs.length * k.toNat ≤ sizeLine ∧
  ∀ p, H p = none → Q (.ref p) (upd H p (.lst (List.replicate k.toNat xs).flatten))
/-! ### del xs[i] -/
end

/-! ### xs[a:b] = ys -/
section
variable {prog : Program} {w : World} {A : Around} {E : Value → Shared → Prop} {s : Shared}
end

section
variable {X : Cx}
end
end L2

namespace L2
open PySem PySem.Spec PyProof.Rows

/-! ### lists of pairs as tables -/
section
variable {κ : Type} [DecidableEq κ]
def valV (kvs : List (κ × V)) (k : κ) : Option V := (kvs.find? fun kv => decide (kv.1 = k)).map (·.2)
/-- in its place, or at the end -/
def putK (kvs : List (κ × V)) (k : κ) (v : V) : List (κ × V) :=
  if (kvs.any fun kv => decide (kv.1 = k)) = true then kvs.map (fun kv => if kv.1 = k then (kv.1, v) else kv) else kvs ++ [(k, v)]
def dropK (kvs : List (κ × V)) (k : κ) : List (κ × V) := kvs.filter fun kv => decide (kv.1 ≠ k)

theorem valV_pos {p : κ × V} {r : List (κ × V)} {k : κ} (e : p.1 = k) : valV (p :: r) k = some p.2 := by simp [valV, List.find?_cons, e]
theorem valV_neg {p : κ × V} {r : List (κ × V)} {k : κ} (e : ¬ p.1 = k) : valV (p :: r) k = valV r k := by simp [valV, List.find?_cons, e]
theorem valV_any (k : κ) : ∀ kvs : List (κ × V), (kvs.any fun kv => decide (kv.1 = k)) = (valV kvs k).isSome
  | [] => rfl
  | p :: r => by
    rw [List.any_cons]
    by_cases e : p.1 = k
    · simp only [valV_pos e, decide_eq_true e, Bool.true_or, Option.isSome_some]
    · rw [valV_neg e, decide_eq_false e, Bool.false_or]; exact valV_any k r
theorem length_putK (kvs : List (κ × V)) (k : κ) (v : V) : (putK kvs k v).length ≤ kvs.length + 1 := by
  unfold putK
  split
  · rw [List.length_map]; omega
  · rw [List.length_append, List.length_cons, List.length_nil]; omega
theorem RelO.isSome_eq {o : Option V} {u : Option Value} (r : RelO o u) : o.isSome = u.isSome := by
  cases o with
  | none => cases u with
    | none => rfl
    | some _ => exact (show False from r).elim
  | some _ => cases u with
    | none => exact (show False from r).elim
    | some _ => rfl
theorem RelO.getD {o : Option V} {u : Option Value} {d : V} {d' : Value} (r : RelO o u) (rd : RelV d d') : RelV (o.getD d) (u.getD d') := by
  cases o with
  | none => cases u with
    | none => exact rd
    | some _ => exact (show False from r).elim
  | some _ => cases u with
    | none => exact (show False from r).elim
    | some _ => exact r

/-- raw tables of the same keys -/
theorem KV.val {kvs : List (κ × V)} {vs : List (κ × Value)} (r : KV kvs vs) (k : κ) : RelO (valV kvs k) (valueAt vs k) := by
  unfold KV at r
  induction r with
  | nil => exact True.intro
  | @cons p q ps qs h t ih =>
    obtain ⟨h1, h2⟩ := h
    by_cases e : p.1 = k
    · have e' : q.1 = k := h1.symm.trans e
      have b : valueAt (q :: qs) k = some q.2 := by simp [valueAt, List.find?_cons, e']
      rw [valV_pos e, b]; exact h2
    · have e' : ¬ q.1 = k := fun z => e (h1.trans z)
      have b : valueAt (q :: qs) k = valueAt qs k := by simp [valueAt, List.find?_cons, e']
      rw [valV_neg e, b]; exact ih
theorem KV.any {kvs : List (κ × V)} {vs : List (κ × Value)} (r : KV kvs vs) (k : κ) : (kvs.any fun kv => decide (kv.1 = k)) = vs.any fun kv => decide (kv.1 = k) := by
  unfold KV at r
  induction r with
  | nil => rfl
  | cons h t ih => rw [List.any_cons, List.any_cons, ih, h.1]
theorem KV.repl {kvs : List (κ × V)} {vs : List (κ × Value)} (r : KV kvs vs) (k : κ) {y : V} {u : Value} (ry : RelV y u) :
    KV (kvs.map fun kv => if kv.1 = k then (kv.1, y) else kv) (vs.map fun kv => if kv.1 = k then (kv.1, u) else kv) := by
  unfold KV at r ⊢
  induction r with
  | nil => exact .nil
  | @cons p q ps qs h t ih =>
    rw [List.map_cons, List.map_cons]
    refine .cons ?_ ih
    obtain ⟨h1, h2⟩ := h
    by_cases e : p.1 = k
    · rw [if_pos e, if_pos (h1.symm.trans e)]; exact ⟨h1, ry⟩
    · rw [if_neg e, if_neg (fun z => e (h1.trans z))]; exact ⟨h1, h2⟩
theorem KV.put {kvs : List (κ × V)} {vs : List (κ × Value)} (r : KV kvs vs) (k : κ) {y : V} {u : Value} (ry : RelV y u) : KV (putK kvs k y) (stored vs k u) := by
  unfold putK stored
  rw [r.any k]
  by_cases e : (vs.any fun kv => decide (kv.1 = k)) = true
  · rw [if_pos e, if_pos e]; exact r.repl k ry
  · rw [if_neg e, if_neg e]; exact Paired.snoc r ⟨rfl, ry⟩
theorem KV.drop {kvs : List (κ × V)} {vs : List (κ × Value)} (r : KV kvs vs) (k : κ) : KV (dropK kvs k) (without vs k) := by
  unfold KV at r ⊢
  unfold dropK without
  induction r with
  | nil => exact .nil
  | @cons p q ps qs h t ih =>
    obtain ⟨h1, h2⟩ := h
    rw [List.filter_cons, List.filter_cons]
    by_cases e : p.1 = k
    · have a : ¬ decide (p.1 ≠ k) = true := by simp [e]
      have b : ¬ decide (q.1 ≠ k) = true := by simp [h1.symm.trans e]
      rw [if_neg a, if_neg b]; exact ih
    · have e' : ¬ q.1 = k := fun z => e (h1.trans z)
      have a : decide (p.1 ≠ k) = true := by simp [e]
      have b : decide (q.1 ≠ k) = true := by simp [e']
      rw [if_pos a, if_pos b]; exact .cons ⟨h1, h2⟩ ih
theorem KV.keys {kvs : List (κ × V)} {vs : List (κ × Value)} (r : KV kvs vs) : kvs.map (·.1) = vs.map (·.1) := by
  unfold KV at r
  induction r with
  | nil => rfl
  | cons h t ih => rw [List.map_cons, List.map_cons, ih, h.1]
theorem KV.length {kvs : List (κ × V)} {vs : List (κ × Value)} (r : KV kvs vs) : kvs.length = vs.length := Paired.length r
end


/-! ### a tracked dict, its keys ints and texts or tuples of these -/
theorem kV_is {P : Program} {w : World} {k : Key} {u : Value} (r : RelV (kV k) u) : (mixKind P w).is k u = true := by
  cases k with
  | inl i => obtain ⟨t, e⟩ := (show ∃ t, u = Value.int i t from r); subst e; exact mixKind_int P w i t
  | inr x => obtain ⟨t, e⟩ := (show ∃ t, u = Value.str x t from r); subst e; exact mixKind_str P w x t
theorem items_are {P : Program} {w : World} : ∀ {ks : List Key} {us : List Value}, Vals (ks.map kV) us → ItemsAre (mixKind P w) ks us
  | [], _, r => by rw [List.map_nil] at r; cases r; exact .nil
  | k :: ks, _, r => by
    rw [List.map_cons] at r
    cases r with
    | cons h t => exact .cons (kV_is h) (items_are t)

/-- raw entries of a dict with tuple keys -/
abbrev KT (H : Hp) : List (List Key × V) → List (List Key × Addr × Value) → Prop := Paired fun p q => p.1 = q.1 ∧ H q.2.1 = some (.tup (p.1.map kV)) ∧ RelV p.2 q.2.2
theorem KT.val {H : Hp} {kvs : List (List Key × V)} {xs : List (List Key × Addr × Value)} (r : KT H kvs xs) (k : List Key) : RelO (valV kvs k) ((atKey xs k).map (·.2)) := by
  induction r with
  | nil => exact True.intro
  | @cons p q ps qs h t ih =>
    obtain ⟨h1, _, h2⟩ := h
    by_cases e : p.1 = k
    · have e' : q.1 = k := h1.symm.trans e
      have b : atKey (q :: qs) k = some q.2 := by simp [atKey, List.find?_cons, e']
      rw [valV_pos e, b]; exact h2
    · have e' : ¬ q.1 = k := fun z => e (h1.trans z)
      have b : atKey (q :: qs) k = atKey qs k := by simp [atKey, List.find?_cons, e']
      rw [valV_neg e, b]; exact ih
theorem KT.repl {H : Hp} {kvs : List (List Key × V)} {xs : List (List Key × Addr × Value)} (r : KT H kvs xs) (k : List Key) {y : V} {u : Value} (ry : RelV y u) :
    KT H (kvs.map fun kv => if kv.1 = k then (kv.1, y) else kv) (xs.map (putAt k u)) := by
  induction r with
  | nil => exact .nil
  | @cons p q ps qs h t ih =>
    rw [List.map_cons, List.map_cons]
    refine .cons ?_ ih
    obtain ⟨h1, h2, h3⟩ := h
    unfold putAt
    by_cases e : p.1 = k
    · rw [if_pos e, if_pos (h1.symm.trans e)]; exact ⟨h1, h2, ry⟩
    · rw [if_neg e, if_neg (fun z => e (h1.trans z))]; exact ⟨h1, h2, h3⟩
theorem KT.put {H : Hp} {kvs : List (List Key × V)} {xs : List (List Key × Addr × Value)} (r : KT H kvs xs) (k : List Key) {b : Addr} {y : V} {u : Value} (hb : H b = some (.tup (k.map kV))) (ry : RelV y u) :
    KT H (putK kvs k y) (storedH xs k b u) := by
  have e : (kvs.any fun kv => decide (kv.1 = k)) = (atKey xs k).isSome := by
    rw [valV_any, (r.val k).isSome_eq, Option.isSome_map]
  unfold putK storedH
  rw [e]
  by_cases q : (atKey xs k).isSome = true
  · rw [if_pos q, if_pos q]; exact r.repl k ry
  · rw [if_neg q, if_neg q]; exact Paired.snoc r ⟨rfl, hb, ry⟩
theorem KT.keeps {H H' : Hp} {kvs : List (List Key × V)} {xs : List (List Key × Addr × Value)} (r : KT H kvs xs) (ht : ∀ b ys, H b = some (.tup ys) → H' b = some (.tup ys)) : KT H' kvs xs :=
  Paired.mapP r fun _ _ z => ⟨z.1, ht _ _ z.2.1, z.2.2⟩

section
variable {P : Program} {w : World} {H : Hp} {h : Heap} {a : Addr}
theorem rd_of {u : HO} (ok : HOk P w H h) (e : Rd H a u) : ObjOk P w H h a u := e.ok ok
theorem dk_rd {kvs : List (Key × V)} (ok : HOk P w H h) (e : Rd H a (.dK kvs)) : kvs.length ≤ sizeLine ∧ (a == sysModules) = false ∧ ∃ vs, KV kvs vs ∧ h.DictOf (mixKind P w) a vs :=
  show ObjOk P w H h a (.dK kvs) from rd_of ok e
theorem dk_of {kvs : List (Key × V)} (ok : HOk P w H h) (e : H a = some (.dK kvs)) : kvs.length ≤ sizeLine ∧ (a == sysModules) = false ∧ ∃ vs, KV kvs vs ∧ h.DictOf (mixKind P w) a vs := dk_rd ok (.inl e)
/-- a tracked tuple of ints and texts is a key -/
theorem key_of {ks : List Key} (ok : HOk P w H h) (e : H a = some (.tup (ks.map kV))) : (tupleKind (mixKind P w)).is h ks a := by
  obtain ⟨_, its, r, o, h1, h2, n, h3⟩ := (show ObjOk P w H h a (.tup (ks.map kV)) from ok a _ e)
  exact ⟨o, its.toArray, n, h1, h2, h3, by simpa using items_are r⟩
theorem dt_rd {kvs : List (List Key × V)} (ok : HOk P w H h) (e : Rd H a (.dT kvs)) : kvs.length ≤ sizeLine ∧ (a == sysModules) = false ∧
    ∃ xs, KT H kvs xs ∧ h.DictOfH (tupleKind (mixKind P w)) a xs := by
  obtain ⟨z, y, xs, r, o, es, ep, h1, h2, h3, h4, h5⟩ := (show ObjOk P w H h a (.dT kvs) from rd_of ok e)
  refine ⟨z, y, xs, r, o, es, ep, h1, h2, h3, h4, fun x hx => ?_, h5⟩
  have all : ∀ {l : List (List Key × V)} {m : List (List Key × Addr × Value)}, KT H l m → ∀ x ∈ m, (tupleKind (mixKind P w)).is h x.1 x.2.1 := by
    intro l m q
    induction q with
    | nil => intro x hx; exact nomatch hx
    | @cons p q ps qs hq t ih =>
      intro x hx
      rcases List.mem_cons.mp hx with e | hx
      · subst e
        exact key_of ok (by rw [← hq.1]; exact hq.2.1)
      · exact ih x hx
  exact all r x hx
theorem dt_of {kvs : List (List Key × V)} (ok : HOk P w H h) (e : H a = some (.dT kvs)) : kvs.length ≤ sizeLine ∧ (a == sysModules) = false ∧
    ∃ xs, KT H kvs xs ∧ h.DictOfH (tupleKind (mixKind P w)) a xs := dt_rd ok (.inl e)
end

/-- what the dict at a holds at the key y -/
def DGet (H : Hp) (a : Addr) (y : V) (r : Option V) : Prop :=
  (∃ kvs k, Rd H a (.dK kvs) ∧ y = kV k ∧ r = valV kvs k) ∨ ∃ kvs k b, Rd H a (.dT kvs) ∧ y = .ref b ∧ H b = some (.tup (k.map kV)) ∧ r = valV kvs k
/-- the heap behind a[y] = v -/
def DPut (H : Hp) (a : Addr) (y v : V) (H' : Hp) : Prop :=
  (∃ kvs k, H a = some (.dK kvs) ∧ y = kV k ∧ kvs.length < sizeLine ∧ H' = upd H a (.dK (putK kvs k v))) ∨
  ∃ kvs k b, H a = some (.dT kvs) ∧ y = .ref b ∧ H b = some (.tup (k.map kV)) ∧ kvs.length < sizeLine ∧ H' = upd H a (.dT (putK kvs k v))
theorem DGet.k {H : Hp} {a : Addr} {kvs : List (Key × V)} {k : Key} (e : H a = some (.dK kvs)) : DGet H a (kV k) (valV kvs k) := .inl ⟨kvs, k, .inl e, rfl, rfl⟩
theorem DGet.t {H : Hp} {a b : Addr} {kvs : List (List Key × V)} {k : List Key} (e : H a = some (.dT kvs)) (eb : H b = some (.tup (k.map kV))) : DGet H a (.ref b) (valV kvs k) := .inr ⟨kvs, k, b, .inl e, rfl, eb, rfl⟩
theorem DPut.k {H : Hp} {a : Addr} {kvs : List (Key × V)} {k : Key} {v : V} (e : H a = some (.dK kvs)) (hl : kvs.length < sizeLine) : DPut H a (kV k) v (upd H a (.dK (putK kvs k v))) := .inl ⟨kvs, k, e, rfl, hl, rfl⟩
theorem DPut.t {H : Hp} {a b : Addr} {kvs : List (List Key × V)} {k : List Key} {v : V} (e : H a = some (.dT kvs)) (eb : H b = some (.tup (k.map kV))) (hl : kvs.length < sizeLine) :
    DPut H a (.ref b) v (upd H a (.dT (putK kvs k v))) := .inr ⟨kvs, k, b, e, rfl, eb, hl, rfl⟩


section
variable {X : Cx} {pins : List (Addr × Obj)} {σ : St} {H : Hp} {s : Shared} {a : Addr} {y v : V} {u r : Value} {o : Option V} {A : Around} {E : Value → Shared → Prop}

theorem Inv.big (I : Inv X pins σ H s) : sysModules < s.heap.objs.size := by
  have h : mainGlobals < s.heap.objs.size := (I.mod.glob.keeps I.bk).lt
  exact Nat.lt_trans (by decide) h

/-- a dict's object is replaced -/
theorem d_write {h' : Heap} {t' : Nat} {ob : HO} (I : Inv X pins σ H s) (mu : Mut (H a)) (hs : Heap.SameBut a s.heap h') (he : ∃ q, h'.get? a = some q) (new : ObjOk X.prog X.w (upd H a ob) h' a ob) :
    Inv X pins σ (upd H a ob) { s with heap := h', toks := t' } :=
  I.write (x := a) (e := a) mu (.inl rfl) (fun b q hb z => (hs.2 b hb).trans z) he new
theorem dk_new {P : Program} {w : World} {H' : Hp} {h' : Heap} {kvs : List (Key × V)} {vs : List (Key × Value)} (z : kvs.length ≤ sizeLine) (hd : (a == sysModules) = false) (rel : KV kvs vs) (dd : h'.DictOf (mixKind P w) a vs) :
    ObjOk P w H' h' a (.dK kvs) := ⟨z, hd, vs, rel, dd⟩
/-- d[y] = v -/
theorem d_setItem {H' : Hp} {Q : Unit → Shared → Prop} (hu : A.units + 1 < cLine) (I : Inv X pins σ H s) (g : DPut H a y v H') (ry : RelV y u) (rv : RelV v r) (h : ∀ s', Inv X pins σ H' s' → Q () s') :
    wpAny (model X.prog X.w) A (setItem (.ref a) u r) Q E s := by
  rcases g with ⟨kvs, k, e, ey, l, eH⟩ | ⟨kvs, k, b, e, ey, eb, l, eH⟩
  · subst ey eH
    obtain ⟨z, hd, vs, rel, dd⟩ := dk_of I.hok e
    have hz : vs.length ≤ sizeLine := by rw [← rel.length]; exact z
    have hl : (putK kvs k v).length ≤ sizeLine := by have := length_putK kvs k v; omega
    refine wpAny_setItem_pairs (hsz := hz) (kV_is ry) dd fun h' dd' hs => h _ ?_
    have he : ∃ q, h'.get? a = some q := let ⟨q, _, _, hq, _⟩ := dd'; ⟨q, hq⟩
    exact d_write I (by rw [e]; exact True.intro) hs he (dk_new hl hd (rel.put k rv) dd')
  · subst ey eH
    cases (show u = Value.ref b from ry)
    obtain ⟨z, hd, xs, rel, dd⟩ := dt_of I.hok e
    have hz : xs.length ≤ sizeLine := by rw [← Paired.length rel]; exact z
    have hl : (putK kvs k v).length ≤ sizeLine := by have := length_putK kvs k v; omega
    refine wpAny_setItem_heap (hsz := hz) (tupleKind_room_in1 hu) (key_of I.hok eb) dd fun h' dd' hs => h _ ?_
    obtain ⟨q, es, ep, hq, h2, h3, h4, _, h5⟩ := dd'
    refine d_write I (by rw [e]; exact True.intro) hs ⟨q, hq⟩ ⟨hl, hd, _, (rel.put k eb rv).keeps fun c ys ec => ?_, q, es, ep, hq, h2, h3, h4, h5⟩
    rw [upd_ne (ne_of ec e (fun z => nomatch z))]
    exact ec
end

section
variable {X : Cx} {pins : List (Addr × Obj)} {σ : St} {H : Hp} {s : Shared} {a : Addr} {kvs : List (Key × V)} {k : Key} {u : Value} {A : Around} {E : Value → Shared → Prop}
/-- d.clear() -/
theorem d_clear {Q : Value → Shared → Prop} (I : Inv X pins σ H s) (e : H a = some (.dK kvs)) (h : ∀ s', Inv X pins σ (upd H a (.dK [])) s' → Q .none s') : wpAny (model X.prog X.w) A (call (.builtin "dict.clear") [.ref a]) Q E s := by
  obtain ⟨z, hd, vs, rel, dd⟩ := dk_of I.hok e
  refine call_meetsIn PySem.F.slot_dict_clear dd.typeIs PySem.F.entry_dict_clear (PySem.F.args_dict_clear_1 _) (meets_dict_clear (mixKind X.prog X.w) a) ⟨vs, dd, by rw [← rel.length]; exact z, fun h' dd' hs => h _ ?_⟩
  have he : ∃ q, h'.get? a = some q := let ⟨q, _, _, hq, _⟩ := dd'; ⟨q, hq⟩
  exact d_write (t' := s.toks) I (by rw [e]; exact True.intro) hs he (dk_new (Nat.zero_le _) hd .nil dd')
end


/-! ### readings and rules -/
/-- the element of a subscription, not a slice -/
def NoSl (i : Expr) : Prop := ∀ ov iv, subscripted i false ov iv = operate [ov, iv] (getItem ov iv)
/-- d[y] -/
def tDGet (td ty : TE) : TE := fun σ H Q => td σ H fun x H1 => ty σ H1 fun y H2 => ∃ a v, x = .ref a ∧ DGet H2 a y (some v) ∧ Q v H2
/-- y in d, y not in d -/
def tDIn (ty td : TE) : TE := fun σ H Q => ty σ H fun y H1 => td σ H1 fun x H2 => ∃ a o, x = .ref a ∧ DGet H2 a y o ∧ Q (.bl o.isSome) H2
def tDNotIn (ty td : TE) : TE := fun σ H Q => ty σ H fun y H1 => td σ H1 fun x H2 => ∃ a o, x = .ref a ∧ DGet H2 a y o ∧ Q (.bl (!o.isSome)) H2
/-- d[y] = v -/
def sDPut (td ty tv : TE) : TS := fun D σ H => tv σ H fun v H1 => td σ H1 fun x H2 => ty σ H2 fun y H3 => ∃ a H4, x = .ref a ∧ DPut H3 a y v H4 ∧ D.nx σ H4
/-- d[y] op= v -/
def sDAug (td ty tv : TE) (rd : V → V → Hp → VK → Prop) : TS := fun D σ H => td σ H fun x H1 => ty σ H1 fun y H2 => ∃ a v, x = .ref a ∧ DGet H2 a y (some v) ∧
  tv σ H2 fun y2 H3 => rd v y2 H3 fun z H4 => ∃ H5, DPut H4 a y z H5 ∧ D.nx σ H5
/-- del d[y] -/
def sDDel (td ty : TE) : TS := fun D σ H => td σ H fun x H1 => ty σ H1 fun y H2 => ∃ a kvs k, x = .ref a ∧ H2 a = some (.dK kvs) ∧ y = kV k ∧ (valV kvs k).isSome = true ∧ D.nx σ (upd H2 a (.dK (dropK kvs k)))

section
variable {X : Cx} {o i e value : Expr} {pos pos' tpos : Pos} {td ty tv : TE}
theorem ps_dput (hu : X.A.units + 1 < cLine) (ho : PE X o td) (hi : PE X i ty) (hv : PE X value tv) (hs : swapsWith value (some (.Subscript o i pos')) pos.line X.env = pure false) :
    PS X (.Assign [.Subscript o i pos'] value pos) (sDPut td ty tv) := by
  intro pins s σ H D I h
  refine wpAny_Assign_Subscript (thn (hv pins s σ H _ I h) fun r s1 ⟨v, H1, I1, rv, q1⟩ => thn (ho pins s1 σ H1 _ I1 q1) fun u s2 ⟨x, H2, I2, rx, q2⟩ => thn (hi pins s2 σ H2 _ I2 q2) fun iv s3 ⟨y, H3, I3, ry, a, H4, ex, g, q3⟩ => ?_) hs
  subst ex
  obtain rfl : u = Value.ref a := rx
  exact d_setItem hu I3 g ry rv fun s4 I4 => ⟨σ, H4, I4, q3⟩
end


/-! ### displays -/
theorem dk_empty {P : Program} {w : World} {H : Hp} (h : Heap) (hb : sysModules < h.objs.size) : ObjOk P w H (h.push { cls := .type "dict", data := .dict #[] }) h.objs.size (.dK []) :=
  ⟨Nat.zero_le _, beq_eq_false_iff_ne.mpr (Ne.symm (Nat.ne_of_lt hb)), [], .nil, Heap.DictOf.new h⟩
/-- {}, to be a dict of the kind that is wanted -/
def tDNewK : TE := fun _ H Q => ∀ p, H p = none → Q (.ref p) (upd H p (.dK []))
def tDNewT : TE := fun _ H Q => ∀ p, H p = none → Q (.ref p) (upd H p (.dT []))
section
variable {X : Cx} {pos : Pos}
theorem pe_dnewK : PE X (.Dict [] [] pos) tDNewK := fun pins s σ H Q I h =>
  wpAny_Dict_empty ⟨.ref s.heap.objs.size, _, I.laid (a := s.heap.objs.size) (o := .dK []) (t' := s.toks) (fun _ _ q => Heap.get?_push_of_some _ q) (Nat.le_refl _) (dk_empty s.heap I.big), rfl, h _ (I.hok.fresh (Nat.le_refl _))⟩
end

/-- the pairs of a display, from the left -/
def tPairs : List (TE × TE) → St → Hp → (List (V × V) → Hp → Prop) → Prop
  | [], _, H, Q => Q [] H
  | (tk, tv) :: r, σ, H, Q => tk σ H fun x H1 => tv σ H1 fun y H2 => tPairs r σ H2 fun ps H3 => Q ((x, y) :: ps) H3
abbrev VV : List (V × V) → List (Value × Value) → Prop := Paired fun p q => RelV p.1 q.1 ∧ RelV p.2 q.2
def PPs (X : Cx) (pos : Pos) (keys : List (Option Expr)) (values : List Expr) (trs : List (TE × TE)) : Prop :=
  ∀ (pins : List (Addr × Obj)) (s : Shared) (σ : St) (H : Hp) (Q : List (V × V) → Hp → Prop), Inv X pins σ H s → tPairs trs σ H Q →
    wpAny (model X.prog X.w) X.A (evalPairs (pairTrees keys values X.env pos)) (fun vs s' => ∃ ps H', Inv X pins σ H' s' ∧ VV ps vs ∧ Q ps H') X.xe s
def mergeK (kvs more : List (Key × V)) : List (Key × V) := more.foldl (fun acc kv => putK acc kv.1 kv.2) kvs
/-- {k: v, ..} with keys ints and texts; the new dict stands empty while the pairs are made -/
def tDisp (trs : List (TE × TE)) : TE := fun σ H Q => ∀ p, H p = none → tPairs trs σ (upd H p (.dK [])) fun ps H2 => H2 p = some (.dK []) ∧ ∃ kvs : List (Key × V), ps = kvs.map (fun kv => (kV kv.1, kv.2)) ∧ kvs.length ≤ 15 ∧ Q (.ref p) (upd H2 p (.dK (mergeK [] kvs)))
/-! ### methods -/
/-- a method call o.m(e) of a built-in, with one argument: what must be seen of the text -/
structure M1 (X : Cx) (o : Expr) (m : Str) (apos : Pos) (e : Expr) (cpos : Pos) : Prop where
  base : attributeBase o m X.env (eval o X.env) = eval o X.env
  few : ((backTo cpos (starEach [e] X.env)).all (fun x => !x.1) && (backToKw cpos (keywordEach [] X.env)).all (fun x => x.1.isSome)
    && decide (([e] : List Expr).length + ([] : List Keyword).length + (if ([] : List Keyword).isEmpty then 0 else 1) < 30)) = true
  line : (apos.endLine == cpos.line) = true
  trees : backTo cpos (starEach [e] X.env) = [(false, eval e X.env)]
structure M2 (X : Cx) (o : Expr) (m : Str) (apos : Pos) (e f : Expr) (cpos : Pos) : Prop where
  base : attributeBase o m X.env (eval o X.env) = eval o X.env
  few : ((backTo cpos (starEach [e, f] X.env)).all (fun x => !x.1) && (backToKw cpos (keywordEach [] X.env)).all (fun x => x.1.isSome)
    && decide (([e, f] : List Expr).length + ([] : List Keyword).length + (if ([] : List Keyword).isEmpty then 0 else 1) < 30)) = true
  line : (apos.endLine == cpos.line) = true
  trees : backTo cpos (starEach [e, f] X.env) = [(false, eval e X.env), (false, eval f X.env)]

/-- a is a dict, whatever its keys -/
def IsD (H : Hp) (a : Addr) : Prop := (∃ kvs, Rd H a (.dK kvs)) ∨ ∃ kvs, Rd H a (.dT kvs)
theorem isD_at {X : Cx} {pins : List (Addr × Obj)} {σ : St} {H : Hp} {s : Shared} {a : Addr} (I : Inv X pins σ H s) (d : IsD H a) :
    s.TypeIs (.ref a) "dict" ∧ (∀ b, Value.ref a = .ref b → ∃ ob, s.heap.get? b = some ob ∧ ob.dict = none) ∧ (a == sysModules) = false := by
  rcases d with ⟨kvs, e⟩ | ⟨kvs, e⟩
  · obtain ⟨_, hd, vs, _, dd⟩ := dk_rd I.hok e
    refine ⟨dd.typeIs, fun b q => ?_, hd⟩
    cases q
    obtain ⟨ob, _, _, h1, h2, _⟩ := dd
    exact ⟨ob, h1, h2.2.1⟩
  · obtain ⟨_, hd, xs, _, dd⟩ := dt_rd I.hok e
    refine ⟨dd.typeIs, fun b q => ?_, hd⟩
    cases q
    obtain ⟨ob, _, _, h1, h2, _⟩ := dd
    exact ⟨ob, h1, h2.2.1⟩

section
variable {X : Cx} {pins : List (Addr × Obj)} {σ : St} {H : Hp} {s : Shared} {a : Addr} {y d : V} {u r : Value} {o : Option V} {A : Around} {E : Value → Shared → Prop}
/-- d.get(y, x) -/
theorem d_get2 {Q : Value → Shared → Prop} (hu : A.units + 1 < cLine) (I : Inv X pins σ H s) (g : DGet H a y o) (ry : RelV y u) (rd : RelV d r) (h : ∀ w' s', Inv X pins σ H s' → RelV (o.getD d) w' → Q w' s') :
    wpAny (model X.prog X.w) A (call (.builtin "dict.get") [.ref a, u, r]) Q E s := by
  rcases g with ⟨kvs, k, e, ey, l⟩ | ⟨kvs, k, b, e, ey, eb, l⟩
  · subst ey
    obtain ⟨z, hd, vs, rel, dd⟩ := dk_rd I.hok e
    refine call_meetsIn PySem.F.slot_dict_get dd.typeIs PySem.F.entry_dict_get (PySem.F.args_dict_get_3 _ _ _) (meets_dict_get_default (mixKind X.prog X.w) a (kV_is ry) hd r) ⟨_, dd.mapOf, h _ _ (I.tok _) ?_⟩
    rw [l]
    exact (rel.val k).getD rd
  · subst ey
    cases (show u = Value.ref b from ry)
    obtain ⟨z, hd, xs, rel, dd⟩ := dt_rd I.hok e
    refine call_meetsIn PySem.F.slot_dict_get dd.typeIs PySem.F.entry_dict_get (PySem.F.args_dict_get_3 _ _ _) (meetsH_dict_get_default (tupleKind (mixKind X.prog X.w)) a b hd r) ⟨tupleKind_room_in1 hu, k, xs, key_of I.hok eb, dd, h _ _ (I.tok _) ?_⟩
    rw [l]
    exact (rel.val k).getD rd
end

def tDGet1 (td ty : TE) : TE := fun σ H Q => td σ H fun x H1 => ∃ a, x = .ref a ∧ IsD H1 a ∧ ty σ H1 fun y H2 => ∃ o, DGet H2 a y o ∧ Q (o.getD .non) H2
def tDGet2 (td ty tx : TE) : TE := fun σ H Q => td σ H fun x H1 => ∃ a, x = .ref a ∧ IsD H1 a ∧ ty σ H1 fun y H2 => tx σ H2 fun z H3 => ∃ o, DGet H3 a y o ∧ Q (o.getD z) H3
/-- d.pop(k): there; d.pop(k, x): there or not -/
def tDPop1 (td ty : TE) : TE := fun σ H Q => td σ H fun x H1 => ∃ a, x = .ref a ∧ IsD H1 a ∧ ty σ H1 fun y H2 => ∃ kvs k v, H2 a = some (.dK kvs) ∧ y = kV k ∧ valV kvs k = some v ∧ Q v (upd H2 a (.dK (dropK kvs k)))
def tDPop2 (td ty tx : TE) : TE := fun σ H Q => td σ H fun x H1 => ∃ a, x = .ref a ∧ IsD H1 a ∧ ty σ H1 fun y H2 => tx σ H2 fun z H3 => ∃ kvs k, H3 a = some (.dK kvs) ∧ y = kV k ∧
  (∀ v, valV kvs k = some v → Q v (upd H3 a (.dK (dropK kvs k)))) ∧ (valV kvs k = none → Q z H3)
section
variable {X : Cx} {o e f : Expr} {apos cpos : Pos} {td ty tx : TE}
theorem pe_dget2 (hu : X.A.units + 1 < cLine) (ho : PE X o td) (he : PE X e ty) (hf : PE X f tx) (m : M2 X o "get" apos e f cpos) : PE X (.Call (.Attribute o "get" apos) [e, f] [] cpos) (tDGet2 td ty tx) := by
  intro pins s σ H Q I h
  refine wpAny_Call_method m.base m.few m.line PySem.F.plainAttrs_dict PySem.F.slot_dict_get PySem.F.type_dict_get (thn (ho pins s σ H _ I h) fun u s1 ⟨x, H1, I1, rx, a, ex, d, q1⟩ => ?_)
  subst ex
  obtain rfl : u = Value.ref a := rx
  obtain ⟨t1, t2, _⟩ := isD_at I1 d
  refine ⟨t1, t2, ?_⟩
  rw [m.trees]
  refine Calls.callWith_builtin rfl (Calls.evalArgs_plain (Calls.spliced_cons (thn (he pins s1 σ H1 _ I1 q1) fun iv s2 ⟨y, H2, I2, ry, q2⟩ =>
    Calls.spliced_cons (thn (hf pins s2 σ H2 _ I2 q2) fun fv s3 ⟨z, H3, I3, rz, ov, g, q3⟩ => Calls.spliced_nil ?_))))
  exact d_get2 hu I3 g ry rz fun w' s4 I4 rw' => ⟨_, H3, I4, rw', q3⟩
end

/-! ### dict(d): a copy -/
section
variable {X : Cx} {pins : List (Addr × Obj)} {σ : St} {H : Hp} {s : Shared} {a : Addr} {kvs : List (Key × V)} {A : Around} {E : Value → Shared → Prop}
theorem d_copyOf {Q : Value → Shared → Prop} (I : Inv X pins σ H s) (e : Rd H a (.dK kvs)) (h : ∀ p s', H p = none → Inv X pins σ (upd H p (.dK kvs)) s' → Q (.ref p) s') : wpAny (model X.prog X.w) A (call (.type "dict") [.ref a]) Q E s := by
  obtain ⟨z, hd, vs, rel, dd⟩ := dk_rd I.hok e
  refine kt_call_dict hd dd (by rw [← rel.length]; exact z) fun h' dd' hs => ?_
  refine h _ _ (I.hok.fresh (Nat.le_refl _)) (I.laid (a := s.heap.objs.size) (o := .dK kvs) (t' := s.toks) (fun b q hq => ?_) (Nat.le_refl _) (dk_new z (beq_eq_false_iff_ne.mpr (Ne.symm (Nat.ne_of_lt I.big))) rel dd'))
  exact (hs.2 b (Nat.ne_of_lt (Heap.lt_size hq))).trans (Heap.get?_push_of_some _ hq)
end


section
variable {X : Cx} {pins : List (Addr × Obj)} {σ : St} {H : Hp} {s : Shared} {a : Addr} {y : V} {u : Value} {A : Around} {E : Value → Shared → Prop}
end
end L2

namespace Att
open PySem PySem.W PySem.Calls PyProof.Rows

/-! ### the script -/
theorem ints_of_wellAll {P : Params} {h : Heap} : ∀ (ns : List Int) (vs : List Value), WellAll P h vs (ns.map WData.int) → IntsAre vs ns := by
  intro ns
  induction ns with
  | nil =>
    intro vs w
    rw [List.map_nil] at w
    cases w
    exact .nil
  | cons n ns ih =>
    intro vs w
    rw [List.map_cons] at w
    cases w with
    | cons a b =>
      cases a
      exact .cons _ _ (ih _ b)

theorem script_of {l : OpenLaw} {n : Nat} (hn : l.most = some n) {P : Params} {h : Heap} {args : List WData} {vals : List Value}
    (hpre : l.row.toRowW.claim.pre args = true) (hwl : WellAll P h vals args) :
    ∃ a vs ns, vals = [Value.ref a] ∧ args = [WData.list (ns.map WData.int)] ∧ h.get? a = some { cls := .type "list", data := .seq vs.toArray } ∧ IntsAre vs ns ∧ ns.length ≤ n := by
  have hsh : WShape.hasAll [] args [.list .int] = true := (pre_splitW hpre).1
  have hc : l.pre.holds [] { args := args } = true := (pre_splitW hpre).2
  obtain ⟨d, r, rfl, h1, h2⟩ := hasAllW_cons hsh
  obtain rfl := hasAllW_nil h2
  obtain ⟨xs, rfl, h3⟩ := hasW_list h1
  obtain ⟨ns, rfl⟩ := items_int h3
  have hlen : ns.length ≤ n := by
    unfold OpenLaw.pre at hc
    have h4 : (WTm.not (.lt (.lit (.int (n : Int))) (.len (.arg 0)))).holds [] { args := [.list (ns.map .int)] } = true := by
      have h4 := (holds_andW hc).1
      rw [hn] at h4
      exact h4
    have h5 := condW_of h4 (w_not (w_lt w_lit (w_len_list (w_arg rfl))))
    rw [List.length_map] at h5
    refine Nat.le_of_not_lt fun q => ?_
    have q' : (n : Int) < ((ns.length : Nat) : Int) := by omega
    first
      | (rw [decide_eq_true q'] at h5; exact absurd h5 (by decide))
      | (simp at h5; omega)
  cases hwl with
  | cons w1 w2 =>
    cases w2
    cases w1 with
    | list ho hall => exact ⟨_, _, ns, rfl, rfl, ho, ints_of_wellAll ns _ hall, hlen⟩

theorem post_true (l : OpenLaw) (args : List WData) : l.row.toRowW.claim.post args (.bool true) args = true :=
  postW_of (r := l.row.toRowW) (X := (true == true))
    (show WShape.has [] (.bool true) .bool = true by first | rfl | decide | simp [WShape.has, WShape.arms, WShape.armsAll])
    (show (WTm.eq .res (.lit (.bool true))).value [] { args := args, res := some (.bool true), after := args } = some (.bool (true == true)) from w_eq_bool (w_res rfl) w_lit) rfl

/-! ### the attachment: holds_open's last premise (the goal 'hc' behind k_head) from a wpAny of the law's body -/
/-- the same from a codeAny of the CALL (for a layer whose function contracts speak of calls) -/
theorem attach_call {l : OpenLaw} {n : Nat} {q : Program} {loose : List Str} {XP : (Str → Option Value) → Heap → Prop} {YP : World → Heap → Prop} {d : DefRec}
    (hn : l.most = some n) (hdf : d.params.defaults = [])
    (call : ∀ (w : World) (s₀ s₁ : Shared) (mg mb : Str → Option Value) (fa : Addr) (o : Obj) (pm cd doc : Value) (a : Addr) (vs : List Value) (ns : List Int),
      Ground q loose [] XP w s₀ mg mb s₁.heap → YP w s₁.heap →
      s₁.heap.get? fa = some o → o.data = .func (docDef d.name d.params d.body d.scope pm cd doc) → s₁.heap.CodeRec cd d.name → mg d.name = some (.ref fa) →
      s₁.heap.get? a = some { cls := .type "list", data := .seq vs.toArray } → IntsAre vs ns → ns.length ≤ n → s₁.gens = #[] →
      codeAny (model l.prog w) callerA (.call (.ref fa) ⟨[.ref a], []⟩) (fun r s' => r = .ok (.ret (.bool true)) ∧ OldK s₁.heap s'.heap ∧ s'.os = s₁.os ∧ AllBare s'.gens) s₁) :
    WalkO q loose XP YP l.row.toRowW d [] (fun f vs => PySem.call f vs) := by
  intro w s₀ s₁ mg mb G Y fa o pm cd doc dV kV ho hd hcd hD hmg hg args vals as hpre hlay hrd hwl hlo
  obtain rfl : dV = .none := Dflts.none hD hdf
  obtain rfl : kV = .none := Dflts.noKw hD
  obtain ⟨a, vs, ns, rfl, rfl, hobj, hints, hlen⟩ := script_of hn hpre hwl
  refine enter_call (codeAny_mono (call w s₀ s₁ mg mb fa o pm cd doc a vs ns G Y ho (fd_plain hd) hcd hmg hobj hints hlen hg) fun r s' hq => ?_)
  obtain ⟨rfl, h2, h3, h4⟩ := hq
  exact ⟨.inl ⟨.bool true, .bool true, [], rfl, fun _ => rfl, .bool true, post_true l _, fun _ => ⟨List.Pairwise.nil, fun _ hm => (nomatch hm)⟩⟩, h2, h3, h4⟩

/-! ### rules over ANY heap (no ledger) from facts about the written part K: the library's own take a ledger (News) for what they write -/
section
variable {prog : Program} {w : World} {A : Around} {E : Value → Shared → Prop} {s : Shared} {K : Frag}

/-! the whole heap as the ledger: makes every rule that writes through a ledger a rule over any heap -/
def noObjs (h : Heap) : Heap := { h with objs := #[] }
def ledger (h : Heap) (L d : Addr) : List (Addr × Obj) := (List.range h.objs.size).filterMap fun a => if a = L ∨ a = d then none else (h.get? a).map fun o => (a, o)
end
end Att

namespace L2
open PySem PySem.Spec PyProof.Rows

theorem vals_ints : ∀ {vs : List Value} {ns : List Int}, IntsAre vs ns → Vals (ns.map V.int) vs
  | _, _, .nil => .nil
  | _, _, .cons n t h => .cons ⟨t, rfl⟩ (vals_ints h)

/-- nothing is tracked but the script, known to the object (or it is an object of the module) -/
def Only (H : Hp) : Prop := ∀ b, H b = none ∨ ∃ o xs, H b = some (.frz o (.lst xs))

/-- THE HEAD: the law's promise, at the heap behind the top. F, the promise of the law's def, may use that base is part of the heap (so K.In base, base.Ns mainGlobals mg stand in Mod) -/
theorem law_call {P : Program} {w : World} {K : PySem.W.Frag} {mg mb : Str → Option Value} {CX : CXT} {k : Nat} {fa a : Addr} {fd : FuncData} {x : Str} {sp : Sp} {s₁ : Shared} {vs : List Value} {ns : List Int}
    (KX : K.In s₁.heap) (hns : s₁.heap.Ns mainGlobals mg) (hb : s₁.heap.Ns builtinsNs mb) (hbb : ∀ x : Str, x ≠ "__name__" → mb x = bootBuiltins x) (hlim : s₁.heap.NoLimit) (hg : s₁.gens = #[])
    (ha : s₁.heap.get? a = some { cls := .type "list", data := .seq vs.toArray }) (hi : IntsAre vs ns) (hl : ns.length ≤ sizeLine) (hr : Room k callerA)
    (F : ∀ base : Heap, K.In base → base.Ns mainGlobals mg → FnOk P w K mg base CX k fa fd [x] sp) (hbind : ∀ (s : Shared) (u : Value), BindsTo s fd ⟨[u], []⟩ [(x, u)])
    (hsp : ∀ H : Hp, Only H → SqL K H a (ns.map V.int) → sp [.ref a] H (fun v _ => v = .bl true) fun _ _ _ => False)
    (hCX : ∀ H e s', CX [] H s₁ (fun _ _ _ => False) e s' → False) :
    codeAny (model P w) callerA (.call (.ref fa) ⟨[.ref a], []⟩) (fun r s' => r = .ok (.ret (.bool true)) ∧ OldK s₁.heap s'.heap ∧ s'.os = s₁.os ∧ AllBare s'.gens) s₁ := by
  have rv := vals_ints hi
  have lenV := hi.length
  -- from an abstract heap in which nothing but the script may be tracked
  have core : ∀ H : Hp, Only H → SqL K H a (ns.map V.int) → HOk P w H s₁.heap → (∀ b, H b ≠ none → b = a) → (H a ≠ none → K.lookup a = none) →
      codeAny (model P w) callerA (.call (.ref fa) ⟨[.ref a], []⟩) (fun r s' => r = .ok (.ret (.bool true)) ∧ OldK s₁.heap s'.heap ∧ s'.os = s₁.os ∧ AllBare s'.gens) s₁ := by
    intro H hO hS hok hA hK
    have base_of : ∀ {b : Addr} {o : Obj}, s₁.heap.get? b = some o → H b = none → (hidT s₁.heap H).get? b = some o := fun e n => hidT_get e n
    have noA : ∀ {b : Addr} {o : Obj} {es : Array DictEntry} {ep : Nat}, s₁.heap.get? b = some o → o.data = .dict es ep → H b = none := fun {b o es ep} e d => by
      cases q : H b with
      | none => rfl
      | some u =>
        have e' : b = a := hA b (by rw [q]; simp)
        subst e'
        rw [ha] at e; cases e
        have d' : Data.seq vs.toArray _ = Data.dict es ep := d
        cases d'
    have nsK : ∀ {b : Addr} {m : Str → Option Value}, s₁.heap.Ns b m → (hidT s₁.heap H).Ns b m := fun {b m} ⟨o, es, ep, e, d, r⟩ => ⟨o, es, ep, base_of e (noA e d), d, r⟩
    have hKb : K.In (hidT s₁.heap H) := fun b o e => base_of (KX b o e) (by
      cases q : H b with
      | none => rfl
      | some u =>
        have e' : b = a := hA b (by rw [q]; simp)
        subst e'
        rw [hK (by rw [q]; simp)] at e; cases e)
    have hM : Mod K mg (hidT s₁.heap H) := ⟨hKb, nsK hns, ⟨mb, nsK hb, hbb⟩, let ⟨mc, h1, h2⟩ := hlim; ⟨mc, nsK h1, h2⟩⟩
    have e0 : Env0 P w K mg (hidT s₁.heap H) callerA [] s₁ H := ⟨rfl, hM, fun b o e => of_hidT e, Nat.le_of_eq (hidT_size _ _), trivial, fun b hb => absurd (show b ∈ ([] : List Addr) from hb) (by simp), hok, .of_eq hg⟩
    refine codeAny_mono ((F _ hKb (nsK hns)).run callerA [] s₁ H ⟨[.ref a], []⟩ [.ref a] [.ref a] _ _ hr e0 (hbind s₁ (.ref a)) (.cons rfl .nil) (hsp H hO hS)) fun r s' h => ?_
    cases r with
    | error e => exact (hCX H e s' h).elim
    | ok fl =>
      cases fl with
      | next => exact False.elim h
      | brk => exact False.elim h
      | cont => exact False.elim h
      | ret u =>
        obtain ⟨v, H', os, bare, un, hok', r', q⟩ := h
        have q' : v = .bl true := q
        subst q'
        obtain rfl : u = Value.bool true := r'
        refine ⟨rfl, OldK.of_keep fun b o e => ?_, os, bare⟩
        cases q : H b with
        | none => exact un.keep b o e q (by intro z; exact absurd (show b ∈ ([] : List Addr) from z) (by simp)) (by simp)
        | some u =>
          rcases hO b with z | ⟨ob, xs, z⟩
          · rw [q] at z; cases z
          · have z2 := un.frzs b ob _ z
            obtain ⟨e1, _⟩ := hok b _ z
            obtain ⟨e2, _⟩ := hok' b _ z2
            rw [e] at e1; cases e1
            exact e2
  cases hk : K.lookup a with
  | some o =>
    -- the script is one of the module's own objects
    have e := KX a o hk
    rw [ha] at e
    cases e
    refine core (fun _ => none) (fun _ => .inl rfl) (.inr ⟨_, vs.toArray, _, hk, rfl, rfl, rfl, by rw [List.size_toArray, lenV]; exact hl, by simpa using rv⟩) (fun b u z => by have z' : (none : Option HO) = some u := z; cases z') (fun b z => absurd rfl z) fun z => absurd rfl z
  | none =>
    refine core (fun b => if b = a then some (.frz { cls := .type "list", data := .seq vs.toArray } (.lst (ns.map V.int))) else none) (fun b => ?_) (.inl (.inr ⟨{ cls := .type "list", data := .seq vs.toArray }, if_pos rfl⟩)) (fun b u z => ?_) (fun b z => ?_) fun _ => hk
    · by_cases hb : b = a
      · exact .inr ⟨_, _, if_pos hb⟩
      · exact .inl (if_neg hb)
    · by_cases hb : b = a
      · have z' := (if_pos hb).symm.trans z
        cases z'
        subst hb
        exact ⟨ha, by rw [List.length_map]; exact hl, vs, _, rv, ha⟩
      · have z' := (if_neg hb).symm.trans z
        cases z'
    · by_cases hb : b = a
      · exact hb
      · exact absurd (if_neg hb) z
end L2

namespace L2
open PySem PySem.Spec PyProof.Rows

abbrev KOf {K : PySem.W.Frag} {h : Heap} (_ : K.In h) : PySem.W.Frag := K

/-- the goal that k_head leaves (case hc), from the law's promise. F gives the function object fd (K's own) once, then the promise over every base -/
theorem walk_of {l : PySem.W.OpenLaw} {n k : Nat} {q : Program} {loose : List Str} {XP : (Str → Option Value) → Heap → Prop} {YP : World → Heap → Prop} {d : DefRec} {K : Params → PySem.W.Frag} {CX : World → CXT} {sp : World → Sp} {x : Str}
    (hn : l.most = some n) (hn2 : n ≤ sizeLine) (hdf : d.params.defaults = []) (hr : Room k callerA)
    (hY : ∀ (w : World) (h : Heap), YP w h → (K w.params).In h)
    (F : ∀ (w : World) (mg : Str → Option Value) (fa : Addr) (h : Heap), (K w.params).In h → h.Ns mainGlobals mg → mg d.name = some (.ref fa) →
      ∃ fd : FuncData, (∀ (s : Shared) (u : Value), BindsTo s fd ⟨[u], []⟩ [(x, u)]) ∧
        ∀ base : Heap, (K w.params).In base → base.Ns mainGlobals mg → FnOk l.prog w (K w.params) mg base (CX w) k fa fd [x] (sp w))
    (hsp : ∀ (w : World) (H : Hp) (a : Addr) (ns : List Int), ns.length ≤ n → Only H → SqL (K w.params) H a (ns.map V.int) → sp w [.ref a] H (fun v _ => v = .bl true) fun _ _ _ => False)
    (hCX : ∀ (w : World) (H : Hp) (s : Shared) (e : Value) (s' : Shared), CX w [] H s (fun _ _ _ => False) e s' → False) :
    PySem.W.WalkO q loose XP YP l.row.toRowW d [] (fun f vs => PySem.call f vs) := by
  refine Att.attach_call hn hdf fun w s₀ s₁ mg mb fa o pm cd doc a vs ns G Y ho hd hcd hmg hobj hints hlen hg => ?_
  have KX := hY w _ Y
  obtain ⟨fd, hb, hF⟩ := F w mg fa _ KX G.T.g hmg
  exact law_call KX G.T.g G.T.b G.T.builtins G.T.nolimit hg hobj hints (Nat.le_trans hlen hn2) hr hF hb (fun H hO hS => hsp w H a ns hlen hO hS) fun H e s' => hCX w H s₁ e s'
end L2

/- THE LAST THEOREM (shape; LID, My.* are yours):
   My.Adr: a structure of the addresses that your layer names (classes, functions); My.Txt K t: a structure (Prop) of the equations over K;
   My.txt_mk : {K} {implicit addresses ..} (e1 : nsIn K mainGlobals "law" = some (some (.ref f))) (e2 : K.lookup f = some ⟨oc, od, .func (fnOf "law" "law" params body scope dV kV doc pm an cdv ct), sl⟩) (e3 : codeIn K cdv "law" = true) .. : ∃ t, My.Txt K t

set_option maxRecDepth 100000 in
set_option maxHeartbeats 0 in
theorem PySem.Challenge.cw_LID_holds : PySem.Challenge.rw_LID.Holds := by
  w_on; o_law; k_head; (case hw => w_witness2)
  k_fill
  refine L2.walk_of (l := PySem.Challenge.rw_LID) (n := 63) (k := 40) (x := "script") (CX := fun w => ..) (sp := fun _ => My.sp_law) rfl (by decide) rfl ⟨rfl, by decide, by decide⟩ (fun w h Y => PySem.W.kIn_of Y) ?F ?S ?C
  case F =>
    intro w mg fa h KX G hmg
    have T : ∃ t, My.Txt (L2.KOf KX) t := by
      dsimp only [L2.KOf]                          -- K must stand as «<heap const> w.params» for k_is
      refine' My.txt_mk ?e1 ?e2 ?e3 ..
      (case e1 => PySem.W.k_is)                    -- in the order: a name -> its address -> its object -> its parts
      (case e2 => PySem.W.k_is)
      ..
    obtain ⟨t, T⟩ := T
    have e0 := hmg.symm.trans (PySem.W.mg_of KX G T.law)
    cases e0                                       -- fa is the law's own address
    exact ⟨_, fun s u => .of_eq rfl, fun base kb nb => My.law_fn T kb nb⟩     -- if «.of_eq rfl» comes too early: refine' ⟨_, ?b, fun base kb nb => My.law_fn T kb nb⟩; exact fun s u => .of_eq rfl
  case S => exact fun w H a ns hl hO hS => ..
  case C => exact ..
(the tactic k_is has no namespace: write k_is) -/

/-! SHORT WORDS over the layer: a def of the text, its body, what a loop and a test want. -/
namespace L2
open PySem PySem.Spec PyProof.Rows

/-! ### the text by places -/
/-- the j-th statement of a class's body -/
def inClass (s : Stmt) (j : Nat) : Stmt := match s with
  | .ClassDef _ _ _ body _ _ _ _ _ _ _ => body.getD j (.Pass ⟨0, 0, 0, 0⟩)
  | _ => .Pass ⟨0, 0, 0, 0⟩
def defArgs (s : Stmt) : Arguments := match s with
  | .FunctionDef _ a _ _ _ _ _ _ _ _ => a
  | _ => { posonlyargs := [], args := [], vararg := none, kwonlyargs := [], kw_defaults := [], kwarg := none, defaults := [] }
def defBody (s : Stmt) : List Stmt := match s with
  | .FunctionDef _ _ b _ _ _ _ _ _ _ => b
  | _ => []
def defScope (s : Stmt) : Scope := match s with
  | .FunctionDef _ _ _ _ _ _ sc _ _ _ => sc
  | _ => { kind := .function, names := [], isGenerator := false, isCoroutine := false }

/-! ### no exception leaves a def -/
abbrev CX0 : CXT := fun _ _ _ _ _ _ => False
abbrev E0 : XK := fun _ _ _ => False
theorem pass0 {X : Cx} : Passes CX0 X E0 := fun _ _ _ _ _ _ _ h => h.elim

/-! ### a def (or method) of the text as it stands behind the top -/
structure Fun (K : PySem.W.Frag) (x qual : Str) (st : Stmt) (f : Addr) (fd : FuncData) : Prop where
  ex : ∃ (oc : Value) (od : Option Addr) (kV doc pm : Value) (an : Option Addr) (cdv ct : Value) (osl : Array (Option Value)),
    fd = PySem.W.fnOf x qual (defArgs st) (defBody st) (defScope st) .none kV doc pm an cdv ct ∧ K.lookup f = some ⟨oc, od, .func fd, osl⟩ ∧ PySem.W.codeIn K cdv qual = true
  kp : PySem.W.keepIn K (.ref f) = true
section
variable {P : Program} {w : World} {K : PySem.W.Frag} {mg : Str → Option Value} {base : Heap}
/-- THE RULE for a def: its body as a term of rules, and the reading of that term -/
theorem Fun.ok {x qual : Str} {st : Stmt} {f : Addr} {fd : FuncData} {N ps : List Str} {k : Nat} {sp : Sp} (F : Fun K x qual st f fd) (S : FnScope N ps (defScope st)) (len : ∀ vs H Q E, sp vs H Q E → vs.length = ps.length)
    (hbody : ∀ (cdv : Value) (A : Around) (outer : List Env) (s : Shared) (H : Hp) (vs : List V) (Q : VK) (E : XK), Room k (A.deeper (envOfC qual (defScope st) s.heap.objs.size f cdv)) → sp vs H Q E →
      ∃ t, PSs (cxOf CX0 P w K mg base N qual (defScope st) f cdv A outer s H E).nox (defBody st) t ∧ t { nx := fun _ H' => Q .non H', rt := Q } (start N vs) H) : FnOk P w K mg base CX0 (k + 1) f fd ps sp := by
  obtain ⟨oc, od, kV, doc, pm, an, cdv, ct, osl, rfl, lk, hcd⟩ := F.ex
  refine fn_of lk hcd S len fun A outer s H vs Q E hr hsp => ?_
  obtain ⟨t, h, q⟩ := hbody cdv A outer s H vs Q E hr hsp
  exact ⟨t, h.nox, q⟩
/-- how its arguments bind (no defaults): h is «fun _ _ _ _ _ _ us hl => match us, hl with | [_, _], _ => rfl», one _ a parameter -/
theorem Fun.binds {x qual : Str} {st : Stmt} {f : Addr} {fd : FuncData} {ps : List Str} (F : Fun K x qual st f fd)
    (h : ∀ (kV doc pm : Value) (an : Option Addr) (cdv ct : Value) (us : List Value), us.length = ps.length → bindArgs (PySem.W.fnOf x qual (defArgs st) (defBody st) (defScope st) .none kV doc pm an cdv ct) ⟨us, []⟩ = pure (ps.zip us)) : Binds K fd ps [] := by
  obtain ⟨oc, od, kV, doc, pm, an, cdv, ct, osl, rfl, lk, hcd⟩ := F.ex
  exact .all (h kV doc pm an cdv ct)
theorem fun_mk {x qual : Str} {st : Stmt} {f : Addr} {oc : Value} {od an : Option Addr} {osl : Array (Option Value)} {kV doc pm cdv ct : Value} (l : K.lookup f = some ⟨oc, od, .func (PySem.W.fnOf x qual (defArgs st) (defBody st) (defScope st) .none kV doc pm an cdv ct), osl⟩)
    (c : PySem.W.codeIn K cdv qual = true) (k : PySem.W.keepIn K (.ref f) = true) : Fun K x qual st f (PySem.W.fnOf x qual (defArgs st) (defBody st) (defScope st) .none kV doc pm an cdv ct) := ⟨⟨oc, od, kV, doc, pm, an, cdv, ct, osl, rfl, l, c⟩, k⟩
end
theorem hu_of {A : Around} {k : Nat} (hr : Room k A) : A.units + 1 < cLine := Nat.lt_of_le_of_lt (Nat.add_le_add_left (by decide : 1 ≤ 64) _) hr.units
theorem small1000 {n : Nat} (h : n ≤ 1000) : n < sizeLine := Nat.lt_of_le_of_lt h (by decide)

/-! ### expressions in short: the name that stands in the i-th slot -/
section
variable {X : Cx}
theorem pv (i : Nat) {x : Str} {pos : Pos} (hN : X.N[i]? = some x := by rfl) (hv : Vis X.env.scope x := by first | exact Or.inl rfl | exact Or.inr (Or.inl rfl) | exact Or.inr (Or.inr rfl)) (hd : (x == ("__debug__" : Str)) = false := by decide)
    (hcd : (x == ("__classdict__" : Str)) = false := by decide) : PE X (.Name x pos) (tVar i) := pe_var hN hv hd hcd
end

/-! ### tests -/
theorem iteF {A B : Prop} (h : B) : if false = true then A else B := by
  rw [if_neg Bool.false_ne_true]
  exact h
theorem iteT {A B : Prop} (h : A) : if true = true then A else B := by
  rw [if_pos rfl]
  exact h
/-! ### heaps -/
/-- all that was tracked is as it was -/
def Same (H H' : Hp) : Prop := ∀ b o, H b = some o → H' b = some o
theorem Same.refl (H : Hp) : Same H H := fun _ _ h => h
theorem Same.trans {H H1 H2 : Hp} (a : Same H H1) (b : Same H1 H2) : Same H H2 := fun c o h => b c o (a c o h)
theorem Same.free {H H' : Hp} (e : Same H H') {l : Addr} (h : H' l = Option.none) : H l = Option.none := by
  cases q : H l with
  | none => rfl
  | some o =>
    rw [e l o q] at h
    cases h
theorem Same.seq {K : PySem.W.Frag} {H H' : Hp} {a : Addr} {xs : List V} (e : Same H H') (h : SqL K H a xs) : SqL K H' a xs := by
  rcases h with (h | ⟨o, h⟩) | h
  · exact .inl (.inl (e _ _ h))
  · exact .inl (.inr ⟨o, e _ _ h⟩)
  · exact .inr h

/-! ### a dict's pairs: keys that differ -/
section
variable {κ : Type} [DecidableEq κ]
end
end L2

set_option maxHeartbeats 4000000
/-! OWN: a def of the top as one fact; small words. -/
namespace L2
open PySem PySem.Spec PyProof.Rows
structure Df (K : PySem.W.Frag) (mg : Str → Option Value) (x : Str) (st : Stmt) (ps : List Str) (f : Addr) (fd : FuncData) : Prop where
  F : Fun K x x st f fd
  b : Binds K fd ps []
  m : mg x = some (.ref f)
/-- a law's own promise: handed a list of at most 63 ints, True comes out -/
def spLaw (K : PySem.W.Frag) : Sp := fun vs H Q _ => ∃ (a : Addr) (ns : List Int), vs = [.ref a] ∧ SqL K H a (ns.map V.int) ∧ ns.length ≤ 63 ∧ ∀ H', Q (.bl true) H'
theorem Same.new {H : Hp} {l : Addr} {o : HO} (h : H l = none) : Same H (upd H l o) := fun b u e => by
  rw [upd_ne (ne_of_none e h)]
  exact e
theorem Same.tup {K : PySem.W.Frag} {H H' : Hp} {a : Addr} {xs : List V} (e : Same H H') (h : SqT K H a xs) : SqT K H' a xs := by
  rcases h with (h | ⟨o, h⟩) | h
  · exact .inl (.inl (e _ _ h))
  · exact .inl (.inr ⟨o, e _ _ h⟩)
  · exact .inr h
theorem ints_mem {ns : List Int} {x : V} (h : x ∈ ns.map V.int) : ∃ z, x = .int z := by
  obtain ⟨z, _, e⟩ := List.mem_map.mp h
  exact ⟨z, e.symm⟩
theorem iteFb {b : Bool} {A B : Prop} (hb : b = false) (h : B) : if b = true then A else B := by
  subst hb
  exact iteF h
theorem iteTb {b : Bool} {A B : Prop} (hb : b = true) (h : A) : if b = true then A else B := by
  subst hb
  exact iteT h
end L2

/-! OWN RULES beyond the hand layer, part 1: truths by 'is', isinstance by a table, comprehensions, all, sum. -/
namespace L2
open PySem PySem.Spec PyProof.Rows
section
variable {X : Cx}
/-! ### is, is not of two truths -/
def rIsB : R2 := fun x y H Q => ∃ b c, x = V.bl b ∧ y = V.bl c ∧ Q (.bl (b == c)) H
def rIsNotB : R2 := fun x y H Q => ∃ b c, x = V.bl b ∧ y = V.bl c ∧ Q (.bl (b != c)) H
/-! ### isinstance against built-in classes, by a table -/
/-- the built-in class of a value, as the abstract heap tells it -/
def tyS (H : Hp) : V → Option String
  | .non => some "NoneType"
  | .bl _ => some "bool"
  | .int _ => some "int"
  | .str _ => some "str"
  | .ref a => match H a with
    | some (.lst _) => some "list"
    | some (.frz _ (.lst _)) => some "list"
    | some (.tup _) => some "tuple"
    | some (.dK _) => some "dict"
    | some (.dT _) => some "dict"
    | _ => none
  | _ => none
theorem tyS_of {K : PySem.W.Frag} {H : Hp} {x : V} {T : String} (h : tyS H x = some T) : TyOf K H x (.type T) := by
  cases x with
  | non => cases h; exact .non
  | bl b => cases h; exact .bl b
  | int i => cases h; exact .int i
  | str z => cases h; exact .str z
  | byt b => cases h
  | flt b => cases h
  | ty n => cases h
  | ref a =>
    simp only [tyS] at h
    split at h
    · rename_i e; cases h; exact .lst e
    · rename_i e; cases h; exact .frz e
    · rename_i e; cases h; exact .tup e
    · rename_i e; cases h; exact .dK e
    · rename_i e; cases h; exact .dT e
    · cases h
/-- is a value of the class T one of the class c, of those here -/
def isiB (T c : String) : Bool := T == c || (T == "bool" && c == "int")
def tysL : List String := ["NoneType", "bool", "int", "str", "list", "tuple", "dict"]
theorem isi_table : ∀ T ∈ tysL, ∀ c ∈ tysL, (if (Value.type T == Value.type c) = true then some true else if PySem.W.kitMeta c = true then (PySem.fastBuiltinMro T).map (·.contains (.type c)) else none) = some (isiB T c) := by decide +kernel
theorem kit_isi {K : PySem.W.Frag} {T c : String} (hT : T ∈ tysL) (hc : c ∈ tysL) : PySem.W.kitOne K (.type T) (.type c) = some (isiB T c) := isi_table T hT c hc
theorem tyS_mem {H : Hp} {x : V} {T : String} (h : tyS H x = some T) : T ∈ tysL := by
  cases x with
  | non => cases h; decide
  | bl b => cases h; decide
  | int i => cases h; decide
  | str z => cases h; decide
  | byt b => cases h
  | flt b => cases h
  | ty n => cases h
  | ref a =>
    simp only [tyS] at h
    split at h <;> first | (cases h; decide) | cases h
/-- isinstance(x, c), c a built-in class of the table -/
theorem call_isi : CallR X (.builtin "isinstance") (fun xs H Q => ∃ x c T, xs = [x, .ty c] ∧ c ∈ tysL ∧ tyS H x = some T ∧ Q (.bl (isiB T c)) H) := by
  intro pins s σ H xs us Q I r h
  obtain ⟨x, c, T, rfl, hc, ht, q⟩ := h
  obtain ⟨v, w', rfl, rx, ry⟩ := vals2 r
  cases (show w' = Value.type c from ry)
  exact isinst_ok I rx (tyS_of ht) (kit_isi (tyS_mem ht) hc) fun tk => ⟨.bl (isiB T c), H, I.tok tk, rfl, q⟩
theorem kit_of {pins : List (Addr × Obj)} {σ : St} {H : Hp} {s : Shared} {x : V} {u : Value} {T : String} (I : Inv X pins σ H s) (rx : RelV x u) (h : tyS H x = some T) :
    ∃ P : Heap → Prop, PySem.W.KitX X.K u (.type T) P ∧ P s.heap ∧ u ≠ .builtin "__main__.__loader__#opaque" := by
  cases x with
  | non => cases h; cases (show u = Value.none from rx); exact ⟨_, PySem.W.kitx_none, trivial, fun z => nomatch z⟩
  | bl b => cases h; cases (show u = Value.bool b from rx); exact ⟨_, PySem.W.kitx_bool, trivial, fun z => nomatch z⟩
  | int i => cases h; obtain ⟨t, q⟩ := (show ∃ t, u = Value.int i t from rx); cases q; exact ⟨_, PySem.W.kitx_int, trivial, fun z => nomatch z⟩
  | str y => cases h; obtain ⟨t, q⟩ := (show ∃ t, u = Value.str y t from rx); cases q; exact ⟨_, PySem.W.kitx_str, trivial, fun z => nomatch z⟩
  | byt b => cases h
  | flt b => cases h
  | ty n => cases h
  | ref a =>
    cases (show u = Value.ref a from rx)
    simp only [tyS] at h
    split at h
    · rename_i xs e
      cases h
      obtain ⟨_, _, n, _, h1⟩ := (show ObjOk X.prog X.w H s.heap a (.lst xs) from I.hok a _ e)
      exact ⟨_, PySem.W.kitx_list, ⟨_, h1, rfl⟩, fun z => nomatch z⟩
    · rename_i ob xs e
      cases h
      obtain ⟨_, _, _, n, _, h1⟩ := (show ObjOk X.prog X.w H s.heap a (.frz ob (.lst xs)) from I.hok a _ e)
      exact ⟨_, PySem.W.kitx_list, ⟨_, h1, rfl⟩, fun z => nomatch z⟩
    · rename_i xs e
      cases h
      obtain ⟨_, _, _, o, h1, h2, _⟩ := (show ObjOk X.prog X.w H s.heap a (.tup xs) from I.hok a _ e)
      exact ⟨_, PySem.W.kitx_tuple, ⟨o, h1, h2⟩, fun z => nomatch z⟩
    · rename_i kvs e
      cases h
      obtain ⟨_, _, vs, _, o, es, ep, h1, h2, _⟩ := (show ObjOk X.prog X.w H s.heap a (.dK kvs) from I.hok a _ e)
      exact ⟨_, PySem.W.kitx_dict, ⟨o, h1, h2.1⟩, fun z => nomatch z⟩
    · rename_i kvs e
      cases h
      obtain ⟨_, _, xs, _, o, es, ep, h1, h2, _⟩ := (show ObjOk X.prog X.w H s.heap a (.dT kvs) from I.hok a _ e)
      exact ⟨_, PySem.W.kitx_dict, ⟨o, h1, h2.1⟩, fun z => nomatch z⟩
    · cases h
theorem vals_ty : ∀ {Ts : List String} {us : List Value}, Vals (Ts.map V.ty) us → us = Ts.map Value.type
  | [], _, .nil => rfl
  | T :: r, _, .cons q t => by
    cases (show _ = Value.type T from q)
    rw [vals_ty t]
    rfl
theorem any_isi {K : PySem.W.Frag} {T : String} (hT : T ∈ tysL) : ∀ {Ts : List String}, (∀ c ∈ Ts, c ∈ tysL) → PySem.W.kitAny K (.type T) (Ts.map Value.type) = some (Ts.any (isiB T))
  | [], _ => rfl
  | c :: r, h => by
    have e := kit_isi (K := K) hT (h c List.mem_cons_self)
    have ih := any_isi (K := K) hT fun d hd => h d (List.mem_cons_of_mem _ hd)
    rw [List.map_cons, PySem.W.kitAny, e, List.any_cons]
    cases isiB T c with
    | true => rfl
    | false => exact ih
/-- isinstance(x, (c, d, ..)), built-in classes of the table -/
theorem call_isiT : CallR X (.builtin "isinstance") (fun xs H Q => ∃ (x : V) (p : Addr) (Ts : List String) (T : String), xs = [x, .ref p] ∧ SqT X.K H p (Ts.map V.ty) ∧ (∀ c ∈ Ts, c ∈ tysL) ∧ tyS H x = some T ∧ Q (.bl (Ts.any (isiB T))) H) := by
  intro pins s σ H xs us Q I r h
  obtain ⟨x, p, Ts, T, rfl, hp, hc, ht, q⟩ := h
  obtain ⟨v, w', rfl, rx, ry⟩ := vals2 r
  cases (show w' = Value.ref p from ry)
  obtain ⟨its, rv, tp, _⟩ := I.tuple hp
  have e := vals_ty rv
  subst e
  obtain ⟨⟨oc, od, dt, sl⟩, h1, h2, n, h3⟩ := tp
  cases (show oc = Value.type "tuple" from h2)
  cases (show dt = Data.seq _ n from h3)
  obtain ⟨P, Z, pz, ne⟩ := kit_of I rx ht
  exact PySem.W.kia_tup Z I.kIn pz h1 (any_isi (tyS_mem ht) hc) ne fun tk => ⟨.bl _, H, I.tok tk, rfl, q⟩
end
end L2

/-! OWN RULES, part 2: a list comprehension of one clause, its block a context of its own. -/
namespace L2
open PySem PySem.Spec PyProof.Rows

/-! ### the closure of the block -/
theorem clos_fold {cells : List (Str × Addr)} {f : Str × NameKind → List (Str × Addr) → Sem (ForInStep (List (Str × Addr)))}
    (hf : ∀ n k r c, k = NameKind.free → cells.lookup n = some c → f (n, k) r = pure (.yield ((n, c) :: r))) (hg : ∀ n k r, k ≠ NameKind.free → f (n, k) r = pure (.yield r)) :
    ∀ (names : List (Str × NameKind)) (acc : List (Str × Addr)), (∀ y ∈ names, y.2 = .free → ∃ c, cells.lookup y.1 = some c) → (∀ x c, acc.lookup x = some c → cells.lookup x = some c) →
      ∃ cl, forIn names acc f = (pure cl : Sem _) ∧ (∀ x c, cl.lookup x = some c → cells.lookup x = some c) ∧ (∀ x c, acc.lookup x = some c → ∃ d, cl.lookup x = some d) ∧ ∀ y ∈ names, y.2 = .free → ∃ d, cl.lookup y.1 = some d
  | [], acc, _, ha => ⟨acc, by rw [List.forIn_nil], ha, fun x c e => ⟨c, e⟩, fun _ hy => nomatch hy⟩
  | (n, k) :: r, acc, hn, ha => by
    have hr : ∀ y ∈ r, y.2 = .free → ∃ c, cells.lookup y.1 = some c := fun y hy => hn y (List.mem_cons_of_mem _ hy)
    by_cases hk : k = .free
    · obtain ⟨c, hc⟩ := hn (n, k) List.mem_cons_self hk
      have ha' : ∀ x d, ((n, c) :: acc).lookup x = some d → cells.lookup x = some d := fun x d e => by
        rw [List.lookup_cons] at e
        cases hx : x == n with
        | true =>
          rw [hx] at e
          cases e
          rw [beq_iff_eq.mp hx]
          exact hc
        | false =>
          rw [hx] at e
          exact ha x d e
      obtain ⟨cl, e, h1, h2, h3⟩ := clos_fold hf hg r ((n, c) :: acc) hr ha'
      have hh : ∀ x d, acc.lookup x = some d → ∃ d', cl.lookup x = some d' := fun x d q => by
        cases hx : x == n with
        | true => exact h2 x c (by rw [List.lookup_cons, hx])
        | false => exact h2 x d (by rw [List.lookup_cons, hx]; exact q)
      refine ⟨cl, ?_, h1, hh, fun y hy e' => ?_⟩
      · rw [List.forIn_cons, hf n k acc c hk hc, pure_bind]
        exact e
      · rcases List.mem_cons.mp hy with rfl | hy
        · exact h2 n c (by rw [List.lookup_cons, beq_self_eq_true])
        · exact h3 y hy e'
    · obtain ⟨cl, e, h1, h2, h3⟩ := clos_fold hf hg r acc hr ha
      refine ⟨cl, ?_, h1, h2, fun y hy e' => ?_⟩
      · rw [List.forIn_cons, hg n k acc hk, pure_bind]
        exact e
      · rcases List.mem_cons.mp hy with rfl | hy
        · exact absurd e' hk
        · exact h3 y hy e'
theorem clos_ok {sc : Scope} {env : Env} (hfree : ∀ y ∈ sc.names, y.2 = .free → ∃ c, env.cells.lookup y.1 = some c) :
    ∃ cl : List (Str × Addr), closureFor sc env = pure cl ∧ (∀ x c, cl.lookup x = some c → env.cells.lookup x = some c) ∧ ∀ y ∈ sc.names, y.2 = .free → ∃ c, cl.lookup y.1 = some c := by
  obtain ⟨cl, e, h1, _, h3⟩ := clos_fold (cells := env.cells) (f := fun (y : Str × NameKind) r => if (y.2 == NameKind.free) = true then (do let a ← cellOf env y.1; pure (ForInStep.yield ((y.1, a) :: r))) else pure (ForInStep.yield r))
    (fun n k r c hk hc => by
      subst hk
      show (if (NameKind.free == NameKind.free) = true then (cellOf env n >>= fun a => pure (ForInStep.yield ((n, a) :: r))) else pure (ForInStep.yield r)) = _
      rw [if_pos (show (NameKind.free == NameKind.free) = true by decide)]
      have e : cellOf env n = pure c := by unfold cellOf; rw [hc]
      rw [e, pure_bind])
    (fun n k r hk => by
      show (if (k == NameKind.free) = true then (cellOf env n >>= fun a => pure (ForInStep.yield ((n, a) :: r))) else pure (ForInStep.yield r)) = _
      rw [if_neg (by simpa using hk)])
    sc.names [] hfree (fun x c q => nomatch q)
  refine ⟨cl, ?_, h1, h3⟩
  unfold closureFor
  first
    | (rw [e]; rfl)
    | (refine Eq.trans (congrArg (fun t => t >>= fun cs => pure cs) e) ?_; rw [pure_bind])
    | (simp only [bind_pure]; exact e)

theorem lookup_relabel_free {env : Env} : ∀ {names : List (Str × NameKind)} {x : Str}, names.lookup x = some .free →
    ((names.map fun (n, k) => if (k == NameKind.free && env.scope.kind == .function && env.kindOf n == some .cell) then (n, NameKind.cell) else (n, k)).lookup x = some .cell) ∨
    ((names.map fun (n, k) => if (k == NameKind.free && env.scope.kind == .function && env.kindOf n == some .cell) then (n, NameKind.cell) else (n, k)).lookup x = some .free)
  | [], _, h => by cases h
  | (n, k) :: r, x, h => by
    have ih := @lookup_relabel_free env r x
    rw [List.map_cons]
    cases hx : x == n with
    | true =>
      rw [List.lookup_cons, hx] at h
      cases h
      by_cases hc : (NameKind.free == NameKind.free && env.scope.kind == .function && env.kindOf n == some .cell) = true
      · left
        show List.lookup x ((if (NameKind.free == NameKind.free && env.scope.kind == .function && env.kindOf n == some .cell) = true then (n, NameKind.cell) else (n, NameKind.free)) :: _) = _
        rw [if_pos hc, List.lookup_cons, hx]
      · right
        show List.lookup x ((if (NameKind.free == NameKind.free && env.scope.kind == .function && env.kindOf n == some .cell) = true then (n, NameKind.cell) else (n, NameKind.free)) :: _) = _
        rw [if_neg hc, List.lookup_cons, hx]
    | false =>
      rw [List.lookup_cons, hx] at h
      have z : ∀ (y : Str × NameKind) (t : List (Str × NameKind)), y.1 = n → List.lookup x (y :: t) = List.lookup x t := fun y t e => by
        obtain ⟨y1, y2⟩ := y
        cases (show y1 = n from e)
        rw [List.lookup_cons, hx]
      rw [z _ _ (by
        show (if (k == NameKind.free && env.scope.kind == .function && env.kindOf n == some .cell) = true then (n, NameKind.cell) else (n, k)).1 = n
        split <;> rfl)]
      exact ih h
/-- what is a cell or free in the block's scope was free in the text's -/
theorem free_of_relabel {env : Env} : ∀ {names : List (Str × NameKind)} {x : Str}, (∀ y ∈ names, y.2 ≠ .cell) →
    (((names.map fun (n, k) => if (k == NameKind.free && env.scope.kind == .function && env.kindOf n == some .cell) then (n, NameKind.cell) else (n, k)).lookup x = some .cell) ∨
    ((names.map fun (n, k) => if (k == NameKind.free && env.scope.kind == .function && env.kindOf n == some .cell) then (n, NameKind.cell) else (n, k)).lookup x = some .free)) → ∃ y ∈ names, y.1 = x ∧ y.2 = .free
  | [], _, _, h => by rcases h with h | h <;> cases h
  | (n, k) :: r, x, hc, h => by
    have ih := @free_of_relabel env r x fun y hy => hc y (List.mem_cons_of_mem _ hy)
    rw [List.map_cons] at h
    cases hx : x == n with
    | true =>
      have e : x = n := beq_iff_eq.mp hx
      by_cases hk : k = .free
      · exact ⟨(n, k), List.mem_cons_self, e.symm, hk⟩
      · exfalso
        have q : (if (k == NameKind.free && env.scope.kind == .function && env.kindOf n == some .cell) = true then (n, NameKind.cell) else (n, k)) = (n, k) := by
          rw [if_neg]
          intro z
          rw [Bool.and_eq_true, Bool.and_eq_true] at z
          exact hk (by simpa using z.1.1)
        have h' : List.lookup x ((n, k) :: (r.map fun (n, k) => if (k == NameKind.free && env.scope.kind == .function && env.kindOf n == some .cell) then (n, NameKind.cell) else (n, k))) = some .cell ∨
            List.lookup x ((n, k) :: (r.map fun (n, k) => if (k == NameKind.free && env.scope.kind == .function && env.kindOf n == some .cell) then (n, NameKind.cell) else (n, k))) = some .free := by
          rw [← q]
          exact h
        rw [List.lookup_cons, hx] at h'
        rcases h' with z | z
        · exact hc (n, k) List.mem_cons_self (Option.some.inj z)
        · exact hk (Option.some.inj z)
    | false =>
      have z : ∀ (y : Str × NameKind) (t : List (Str × NameKind)), y.1 = n → List.lookup x (y :: t) = List.lookup x t := fun y t e => by
        obtain ⟨y1, y2⟩ := y
        cases (show y1 = n from e)
        rw [List.lookup_cons, hx]
      rw [z _ _ (by
        show (if (k == NameKind.free && env.scope.kind == .function && env.kindOf n == some .cell) = true then (n, NameKind.cell) else (n, k)).1 = n
        split <;> rfl)] at h
      obtain ⟨y, hy, e⟩ := ih h
      exact ⟨y, List.mem_cons_of_mem _ hy, e⟩

/-! ### the block's context -/
/-- its names: its own locals, then the names at the places ix of the def -/
def blkN (X : Cx) (locs : List Str) (ix : List Nat) : List Str := locs ++ ix.map fun i => X.N.getD i Str.empty
def blkS (k : Nat) (ix : List Nat) (σ : St) : St := List.replicate k none ++ ix.map fun i => (σ[i]?).join
abbrev cxC (X : Cx) (sc : Scope) (cl : List (Str × Addr)) (C : Addr) (N : List Str) (fp : List Addr) (s2 : Shared) (H2 : Hp) (pn : List (Addr × Obj)) : Cx :=
  { X with N := N, s₀ := s2, H₀ := H2, env := compEnvC sc cl C X.env, outer := X.stack, ex := fp, fn := fun _ => false, pn := pn, xe := fun _ _ => False }
/-- what of the text a comprehension's scope must have: no cells of its own, each free name a cell of the def's, its locals as they are looked up -/
structure BlkSc (X : Cx) (sc : Scope) (locs : List Str) (ix : List Nat) : Prop where
  kind : sc.kind = .function
  cell : ∀ y ∈ sc.names, y.2 ≠ .cell
  free : ∀ y ∈ sc.names, y.2 = .free → X.env.kindOf y.1 = some .cell ∨ X.env.kindOf y.1 = some .free
  names : ∀ y ∈ sc.names, y.2 = .local → sc.names.lookup y.1 = some .local
  fr : ∀ i ∈ ix, ∃ x, X.N[i]? = some x ∧ sc.names.lookup x = some .free

section
variable {X : Cx} {pins : List (Addr × Obj)} {σ : St} {H2 : Hp} {s2 : Shared} {sc : Scope} {cl : List (Str × Addr)} {locs : List Str} {ix : List Nat} {fp : List Addr}
theorem mem_of_lookup' {names : List (Str × NameKind)} {x : Str} {k : NameKind} : names.lookup x = some k → (x, k) ∈ names := by
  induction names with
  | nil => intro h; cases h
  | cons y r ih =>
    obtain ⟨n, j⟩ := y
    intro h
    rw [List.lookup_cons] at h
    cases hx : x == n with
    | true =>
      rw [hx] at h
      cases h
      rw [beq_iff_eq.mp hx]
      exact List.mem_cons_self
    | false =>
      rw [hx] at h
      exact List.mem_cons_of_mem _ (ih h)
theorem blk_ok (I : Inv X pins σ H2 s2) (B : BlkSc X sc locs ix) (hcl : ∀ x c, cl.lookup x = some c → X.env.cells.lookup x = some c) (hcl' : ∀ y ∈ sc.names, y.2 = .free → ∃ c, cl.lookup y.1 = some c)
    (hf : ∀ b ∈ fp, FpOk X pins H2 b) {C : Addr} (hC : s2.heap.objs.size ≤ C) (hfC : ∀ b ∈ fp, b ≠ C) {N : List Str} {pn : List (Addr × Obj)} : (cxC X sc cl C N fp s2 H2 pn).Ok where
  mod := I.ok.mod
  kind := B.kind
  glob := I.ok.glob
  blt := I.ok.blt
  above := hC
  inj := fun x y c h1 h2 => I.ok.inj x y c (hcl x c h1) (hcl y c h2)
  has := fun x h => by
    obtain ⟨y, hy, e, hk⟩ := free_of_relabel (env := X.env) B.cell h
    subst e
    exact hcl' y hy hk
  cab := fun x c h _ => nomatch h
  hd := I.ok.hd
  frames := I.ok.frames
  stk := .inl rfl
  exf := fun b hb => ⟨hfC b hb, fun x c e => (hf b hb).2.2.2.2.1 x c (hcl x c e)⟩
  bs := fun b o e => I.bs b o e
  bsz := Nat.le_trans I.ok.bsz I.sz
  noex := fun b o e hb => by
    obtain ⟨_, _, _, h4, _⟩ := hf b hb
    rcases h4 with h | h
    · exact I.ok.noex b o e h
    · exact absurd (Nat.lt_of_lt_of_le (Nat.lt_of_lt_of_le (Heap.lt_size e) I.ok.bsz) h) (Nat.lt_irrefl _)
  exfs := fun b hb z => by
    obtain ⟨_, h2, h3, _⟩ := hf b hb
    rcases List.mem_cons.mp (I.stkSub b z) with e | e
    · exact h2 e
    · exact h3 e
  funs := I.stack
  frf := I.stkFree
/-- the block begins -/
theorem blk_start (I : Inv X pins σ H2 s2) (B : BlkSc X sc locs ix) (hcl : ∀ x c, cl.lookup x = some c → X.env.cells.lookup x = some c) (hcl' : ∀ y ∈ sc.names, y.2 = .free → ∃ c, cl.lookup y.1 = some c)
    (hf : ∀ b ∈ fp, FpOk X pins H2 b) (hfl : ∀ b ∈ fp, b < s2.heap.objs.size) {h1 : Heap} {tk : Nat} {m0 : Str → Option Value} {D C : Addr} {oD : Obj} (hD : s2.heap.objs.size ≤ D) (hC : s2.heap.objs.size ≤ C) (hDC : D ≠ C)
    (old : ∀ b o, s2.heap.get? b = some o → h1.get? b = some o) (ns : h1.Ns C m0) (gD : h1.get? D = some oD) (dD : ∀ v, oD.data ≠ .cell v) :
    Inv (cxC X sc cl C (blkN X locs ix) fp s2 H2 (X.pn ++ pins)) [(D, oD)] (blkS locs.length ix σ) H2 { s2 with heap := h1, toks := tk } := by
  have low : ∀ b o, s2.heap.get? b = some o → b < s2.heap.objs.size := fun b o e => Heap.lt_size e
  have nst : ∀ b, s2.heap.objs.size ≤ b → b ∉ frs X.stack := fun b hb z => by
    obtain ⟨_, o, ho, _⟩ := I.stack.mem z
    exact absurd (Nat.lt_of_lt_of_le (low b o ho) hb) (Nat.lt_irrefl _)
  refine ⟨blk_ok I B hcl hcl' hf hC fun b hb => Nat.ne_of_lt (Nat.lt_of_lt_of_le (hfl b hb) hC), rfl, I.bare, Un.kept old, ⟨m0, ns, fun i x v e1 e2 e3 => ?_⟩, fun x c e => ?_, I.hok.fresh hC, fun x c e => I.freeC x c (hcl x c e), fun p hp => ?_, I.hok.kept old, ?_⟩
  · have e2' : (blkS locs.length ix σ)[i]? = some (some v) := e2
    have e1' : (blkN X locs ix)[i]? = some x := e1
    unfold blkS at e2'
    unfold blkN at e1'
    by_cases hi : i < locs.length
    · rw [List.getElem?_append_left (by rw [List.length_replicate]; exact hi), List.getElem?_replicate, if_pos hi] at e2'
      cases e2'
    · rw [List.getElem?_append_right (by rw [List.length_replicate]; omega), List.length_replicate, List.getElem?_map] at e2'
      rw [List.getElem?_append_right (by omega), List.getElem?_map] at e1'
      cases hj : ix[i - locs.length]? with
      | none =>
        rw [hj] at e2'
        cases e2'
      | some j =>
        rw [hj] at e2' e1'
        have e4 : (σ[j]?).join = some v := Option.some.inj e2'
        have e5 : X.N.getD j Str.empty = x := Option.some.inj e1'
        obtain ⟨x', hx', hfree⟩ := B.fr j (List.mem_of_getElem? hj)
        have e6 : x' = x := by
          rw [← e5, List.getD_eq_getElem?_getD, hx']
          rfl
        subst e6
        have e7 : σ[j]? = some (some v) := by
          cases hs : σ[j]? with
          | none => rw [hs] at e4; cases e4
          | some o =>
            rw [hs] at e4
            cases o with
            | none => cases e4
            | some w => cases e4; rfl
        have hk := B.free (x', .free) (mem_of_lookup' hfree) rfl
        obtain ⟨m, _, hl⟩ := I.loc
        obtain ⟨u, r, l⟩ := hl j x' v hx' e7 (hk.elim (fun z => .inr (.inl z)) fun z => .inr (.inr z))
        refine ⟨u, r, .inr ⟨lookup_relabel_free (env := X.env) hfree, ?_⟩⟩
        obtain ⟨c, hc⟩ := hcl' (x', .free) (mem_of_lookup' hfree) rfl
        rcases l with ⟨k, _⟩ | ⟨_, c', hc', z⟩
        · rcases hk with hk | hk
          · rw [hk] at k; cases k
          · rw [hk] at k; cases k
        · have q := hcl x' c hc
          rw [hc'] at q
          cases q
          obtain ⟨o, ho, hd⟩ := z
          exact ⟨_, hc, o, old _ _ ho, hd⟩
  · obtain ⟨v, o, ho, hd⟩ := I.cell x c (hcl x c e)
    exact ⟨v, o, old _ _ ho, hd⟩
  · rcases List.mem_append.mp hp with hp | hp
    · obtain ⟨e, n, ne, nf, d⟩ := I.pin p hp
      refine ⟨old _ _ e, n, Nat.ne_of_lt (Nat.lt_of_lt_of_le (low _ _ e) hC), fun z => ?_, d⟩
      rcases List.mem_cons.mp (I.stkSub p.1 z) with q | q
      · exact ne q
      · exact nf q
    · have e : p = (D, oD) := by simpa using hp
      subst e
      exact ⟨gD, I.hok.fresh hD, hDC, nst D hD, dD⟩
  · show (blkS locs.length ix σ).length = (blkN X locs ix).length
    unfold blkS blkN
    rw [List.length_append, List.length_append, List.length_replicate, List.length_map, List.length_map]
/-- the block has ended: the list is tracked -/
theorem blk_back {N : List Str} {pn : List (Addr × Obj)} {C D : Addr} {s' : Shared} {σ' : St} {H' : Hp} {ys : List V} {its : List Value} {n : Nat} (I : Inv X pins σ H2 s2) (hf : ∀ b ∈ fp, FpOk X pins H2 b) (hD : s2.heap.objs.size ≤ D)
    (I' : Inv (cxC X sc cl C N fp s2 H2 pn) [(D, { cls := .type "list", data := .seq its.toArray n })] σ' H' s') (hv : Vals ys its) (hz : ys.length ≤ sizeLine) : H' D = none ∧ Inv X pins σ (upd H' D (.lst ys)) s' := by
  obtain ⟨gD, nD, _⟩ := I'.pin (D, { cls := .type "list", data := .seq its.toArray n }) (List.mem_append_right _ List.mem_cons_self)
  have low : ∀ b o, s2.heap.get? b = some o → b ≠ D := fun b o e => Nat.ne_of_lt (Nat.lt_of_lt_of_le (Heap.lt_size e) hD)
  have lowH : ∀ b o, H2 b = some o → b ≠ D := fun b o e => Nat.ne_of_lt (Nat.lt_of_lt_of_le (I.hok.lt e) hD)
  have U : Un (frs X.stack) fp H2 H' s2.heap s'.heap := I'.base
  refine ⟨nD, I.call' (ch := fp) I'.os ⟨U.keep, U.slot, fun b o e hn hx => ?_, U.there, fun b xs e => ?_, fun b o u e => ?_, fun b ps e => ?_⟩ (fun b u e => ?_) I'.bare fun b hb => ?_⟩
  · rw [upd_ne (low b o e)]
    exact U.free b o e hn hx
  · rw [upd_ne (lowH b _ e)]
    exact U.tups b xs e
  · rw [upd_ne (lowH b _ e)]
    exact U.frzs b o u e
  · rw [upd_ne (lowH b _ e)]
    exact U.tbls b ps e
  · by_cases hb : b = D
    · subst hb
      rw [upd_same] at e
      cases e
      exact ⟨hz, its, n, hv, gD⟩
    · rw [upd_ne hb] at e
      exact (I'.hok b u e).stay (fun _ _ _ q => q) (fun c q => by rw [upd_ne (ne_of_none q nD)]; exact q) fun c xs q => by rw [upd_ne (ne_of_none q nD)]; exact q
  · obtain ⟨_, f1, _, f3, f4, f5⟩ := hf b hb
    exact ⟨f3, f1, f4, f5⟩
end

/-! ### the loop -/
section
variable {prog : Program} {w : World} {A : Around} {R : Result → Shared → Prop} {s : Shared}
theorem comp_loop {elt tgt src : Expr} {tests : List Expr} {sc : Scope} {p : Pos} {itv acc : Value} {ev : Env} (J : Nat → Shared → Prop)
    (turn : ∀ n s, J n s → wpAny (model prog w) A (pyNext itv) (fun r s1 => match r with
      | none => R (.ok .next) s1
      | some v => wpAny (model prog w) A (letOwnedTupleGo tgt itv v) (fun _ s2 => wpAny (model prog w) A (assign tgt ev v) (fun _ s3 =>
          wpAny (model prog w) A (forIn tests true fun c r => if r = true then do let ok ← isTrue c ev (eval c ev); pure (ForInStep.yield ok) else pure (ForInStep.yield r)) (fun ok s4 =>
            if ok = true then wpAny (model prog w) A (eval elt ev) (fun x s5 => wpAny (model prog w) A (call (.builtin "list.append") [acc, x]) (fun _ s6 => ∃ m, m < n ∧ J m s6) (fun _ _ => False) s5) (fun _ _ => False) s4
            else ∃ m, m < n ∧ J m s4) (fun _ _ => False) s3) (fun _ _ => False) s2) (fun _ _ => False) s1) (fun _ _ => False) s)
    (n : Nat) (h : J n s) : codeAny (model prog w) A (.compLoop (.ListComp elt [⟨tgt, src, tests, 0⟩] sc p) 0 itv acc ev) R s := by
  refine codeAny_loop rfl J (fun n s hJ => ?_) n h
  show wpAny _ A ((compTurn (.ListComp elt [⟨tgt, src, tests, 0⟩] sc p) 0 itv acc ev).onRaise (fun x => do noteFrame x ev; theTreesLotGoes x)) _ _ s
  refine wpAny_noted (wpAny_noRaise ?_)
  rw [compTurn_list]
  refine wpAny_bind (wpAny_standAt (wpAny_bind (thn (turn n s hJ) fun r s1 h1 => ?_)))
  cases r with
  | none => exact wpAny_pure h1
  | some v =>
    refine wpAny_bind (thn h1 fun _ s2 h2 => wpAny_bind (thn h2 fun _ s3 h3 => wpAny_bind (thn h3 fun ok s4 h4 => ?_)))
    cases ok with
    | false => exact wpAny_pure ⟨rfl, h4⟩
    | true => exact wpAny_bind (wpAny_bind (thn h4 fun x s5 h5 => wpAny_bind (thn h5 fun _ s6 h6 => wpAny_pure (wpAny_pure ⟨rfl, h6⟩))))
end

/-! ### the rules -/
/-- the tests of a clause -/
def PTs (X : Cx) (tests : List Expr) (t : TT) : Prop :=
  ∀ (pins : List (Addr × Obj)) (s : Shared) (σ : St) (H : Hp) (Q : Bool → Hp → Prop), Inv X pins σ H s → t σ H Q →
    wpAny (model X.prog X.w) X.A (forIn tests true fun c r => if r = true then do let ok ← isTrue c X.env (eval c X.env); pure (ForInStep.yield ok) else pure (ForInStep.yield r)) (TP X pins σ Q) X.xe s
def tYes : TT := fun _ H Q => Q true H
theorem pts_nil {X : Cx} : PTs X [] tYes := fun _ _ _ H _ I h => wpAny_tests_nil ⟨H, I, h⟩
/-- what the block is to do: W by the turn, a measure, the block's names, the list so far -/
def CompW (J : It) (g : TG) (tt : TT) (te : TE) (Fin : List V → Hp → Prop) (W : Nat → Nat → St → List V → Hp → Prop) : Prop :=
  ∀ i m σ ys H, W i m σ ys H → (J.stop i H ∧ ys.length ≤ sizeLine ∧ Fin ys H) ∨
    (J.go i H ∧ ys.length < sizeLine ∧ ∀ x H', J.yld i H x H' → g x σ H' fun σ2 H2 => tt σ2 H2 fun b H3 => if b = true then te σ2 H3 fun y H4 => ∃ m', m' < m ∧ W (i + 1) m' σ2 (ys ++ [y]) H4 else ∃ m', m' < m ∧ W (i + 1) m' σ2 ys H3)
def tComp (wi : TI) (k : Nat) (ix : List Nat) (g : TG) (tt : TT) (te : TE) : TE := fun σ H Q => wi σ H fun J H1 =>
  ∃ W : Nat → Nat → St → List V → Hp → Prop, (∃ m, W 0 m (blkS k ix σ) [] H1) ∧ CompW J g tt te (fun ys H => ∀ l, H l = none → Q (.ref l) (upd H l (.lst ys))) W
section
variable {X : Cx} {elt tgt iter : Expr} {tests : List Expr} {sc : Scope} {pos : Pos} {locs : List Str} {ix : List Nat} {wi : TI} {g : TG} {tt : TT} {te : TE}
theorem comp_block {pins : List (Addr × Obj)} {σ : St} {H2 : Hp} {s2 : Shared} {cl : List (Str × Addr)} {fp : List Addr} {it : Addr} {tn : Nat → Heap → Prop} {J : It} {W : Nat → Nat → St → List V → Hp → Prop} {Fin : List V → Hp → Prop} {RR : Value → Addr → Result → Shared → Prop} {m0 : Nat} {E : Value → Shared → Prop}
    (hc : X.calm = true) (B : BlkSc X sc locs ix)
    (hg : ∀ cl C fp s2 H2 pn, PG (cxC X sc cl C (blkN X locs ix) fp s2 H2 pn) tgt g) (ht : ∀ cl C fp s2 H2 pn, PTs (cxC X sc cl C (blkN X locs ix) fp s2 H2 pn) tests tt) (he : ∀ cl C fp s2 H2 pn, PE (cxC X sc cl C (blkN X locs ix) fp s2 H2 pn) elt te)
    (I : Inv X pins σ H2 s2) (T : Turn X.prog X.w X.K tgt J fp it tn) (st2 : tn 0 s2.heap) (hf : ∀ b ∈ fp, FpOk X pins H2 b)
    (hcl : ∀ x c, cl.lookup x = some c → X.env.cells.lookup x = some c) (hcl' : ∀ y ∈ sc.names, y.2 = .free → ∃ c, cl.lookup y.1 = some c)
    (w0 : W 0 m0 (blkS locs.length ix σ) [] H2) (turn : CompW J g tt te Fin W)
    (hR : ∀ D C s' H' ys m, H' D = none → s2.heap.objs.size ≤ C → H' C = none → C ≠ D → Inv X pins σ (upd H' D (.lst ys)) s' → Fin ys H' → s'.heap.Ns C m → RR (.ref D) C (.ok .next) s') :
    wpAny (model X.prog X.w) X.A (newList []) (fun acc s₃ => wpAny (model X.prog X.w) X.A (newFunctionEnv sc X.env.globals cl [] X.env.qual none .none (some X.env)) (fun cenv s₄ =>
      codeAny (model X.prog X.w) X.A (.compStart (.ListComp elt [⟨tgt, iter, tests, 0⟩] sc pos) 0 (.ref it) acc { cenv with scope := relabel sc X.env }) (RR acc cenv.locals) s₄) E s₃) E s2 := by
  refine wpAny_newObj_type (wpAny_newFunctionEnv B.cell (by intro y hy; cases hy) (fun h1 ns1 sb1 => ?_) B.kind)
  dsimp only at ns1 sb1 ⊢
  generalize eH : s2.heap.push { cls := .type "list", dict := none, data := .seq ([] : List Value).toArray } = G at ns1 sb1 ⊢
  have zG : G.objs.size = s2.heap.objs.size + 1 := by rw [← eH, Heap.size_push]
  have hDC : s2.heap.objs.size ≠ G.objs.size := by omega
  have old : ∀ b o, s2.heap.get? b = some o → h1.get? b = some o := fun b o e => sb1.extBut b o (Nat.ne_of_lt (Nat.lt_of_lt_of_le (Heap.lt_size e) (by omega))) (Heap.get?_push_of_some _ (eH ▸ Heap.get?_push_of_some _ e))
  have gD : h1.get? s2.heap.objs.size = some { cls := .type "list", data := .seq ([] : List Value).toArray 0 } := sb1.extBut _ _ hDC (Heap.get?_push_of_some _ (eH ▸ Heap.get?_push_size _ rfl))
  have hfl : ∀ b ∈ fp, b < s2.heap.objs.size := fun b hb => by
    obtain ⟨o, e, _⟩ := T.obj 0 s2.heap st2 b hb
    exact Heap.lt_size e
  have Y := fun tk => blk_start (tk := tk) (locs := locs) I B hcl hcl' hf hfl (Nat.le_refl _) (by omega : s2.heap.objs.size ≤ G.objs.size) hDC old ns1 gD (fun v z => by cases z)
  have st1 : tn 0 h1 := T.keep 0 _ _ st2 fun b _ o e => old b o e
  -- what stays true of the iterator's records
  have stat : ∀ {oD : Obj} {H' : Hp}, (∀ b ∈ fp, H' b = none) → ∀ b ∈ fp, FpOk (cxC X sc cl G.objs.size (blkN X locs ix) fp s2 H2 (X.pn ++ pins)) [(s2.heap.objs.size, oD)] H' b := fun {oD H'} hn b hb => by
    obtain ⟨_, f1, f2, _, f4, f5⟩ := hf b hb
    refine ⟨hn b hb, Nat.ne_of_lt (Nat.lt_of_lt_of_le (hfl b hb) (by show s2.heap.objs.size ≤ G.objs.size; omega)), fun z => ?_, .inl hb, fun x c e => f4 x c (hcl x c e), fun p hp => ?_⟩
    · rcases List.mem_cons.mp (I.stkSub b z) with q | q
      · exact f1 q
      · exact f2 q
    · rcases List.mem_append.mp hp with hp | hp
      · exact f5 p hp
      · have e : p = (s2.heap.objs.size, oD) := by simpa using hp
        rw [e]
        exact Nat.ne_of_gt (hfl b hb)
  have loop : ∀ tk, codeAny (model X.prog X.w) X.A (.compLoop (.ListComp elt [⟨tgt, iter, tests, 0⟩] sc pos) 0 (.ref it) (.ref s2.heap.objs.size) (compEnvC sc cl G.objs.size X.env)) (RR (.ref s2.heap.objs.size) G.objs.size) { s2 with heap := h1, toks := tk } := by
    intro tk
    refine comp_loop (fun n s => ∃ i σ' ys its nn H', Inv (cxC X sc cl G.objs.size (blkN X locs ix) fp s2 H2 (X.pn ++ pins)) [(s2.heap.objs.size, { cls := .type "list", data := .seq (List.toArray its) nn })] σ' H' s ∧ tn i s.heap ∧ (∀ b ∈ fp, H' b = none) ∧ Vals ys its ∧ W i n σ' ys H') ?_ m0
      ⟨0, _, [], [], 0, H2, Y tk, st1, fun b hb => (hf b hb).1, .nil, w0⟩
    rintro n s ⟨i, σ', ys, its, nn, H', I1, st, fr, hv, hw⟩
    rcases turn i n σ' ys H' hw with ⟨stop, hz, fin⟩ | ⟨go, hz, step⟩
    · refine thn (T.done (cxC X sc cl G.objs.size (blkN X locs ix) fp s2 H2 (X.pn ++ pins)) rfl rfl rfl hc i _ s σ' H' (fun _ _ => False) I1 (stat fr) st stop) fun r s1 ⟨er, I2⟩ => ?_
      subst er
      obtain ⟨nD, I3⟩ := blk_back I hf (Nat.le_refl _) I2 hv hz
      obtain ⟨m, ns, _⟩ := I2.loc
      exact hR _ _ s1 H' ys m nD (by omega) I2.free (Ne.symm hDC) I3 fin ns
    · refine thn (T.item (cxC X sc cl G.objs.size (blkN X locs ix) fp s2 H2 (X.pn ++ pins)) rfl rfl rfl hc i _ s σ' H' (fun _ _ => False) I1 (stat fr) st go) fun r s3 ⟨u, er, h3⟩ => ?_
      subst er
      refine thn h3 fun _ s5 ⟨x, H5, I5, r5, y5, st5, fr5⟩ => ?_
      have I5' := I5.pinned (stat fr5) (T.obj _ _ st5)
      refine thn (hg cl G.objs.size fp s2 H2 (X.pn ++ pins) _ s5 σ' H5 x u _ I5' r5 (step x H5 y5)) fun _ s6 ⟨σ6, H6, I6, q6⟩ => ?_
      refine thn (ht cl G.objs.size fp s2 H2 (X.pn ++ pins) _ s6 σ6 H6 _ I6 q6) fun b s7 ⟨H7, I7, q7⟩ => ?_
      have tn7 : ∀ {s' : Shared} {σ'' : St} {H'' : Hp}, Inv (cxC X sc cl G.objs.size (blkN X locs ix) fp s2 H2 (X.pn ++ pins)) ([(s2.heap.objs.size, { cls := .type "list", data := .seq (List.toArray its) nn })] ++ pinsAt fp s5.heap) σ'' H'' s' → tn (i + 1) s'.heap ∧ ∀ b ∈ fp, H'' b = none := fun J => by
        refine ⟨T.keep _ _ _ st5 fun b hb o e => (J.pin (b, o) (List.mem_append_right _ (List.mem_append_right _ (mem_pinsAt hb e)))).1, fun b hb => ?_⟩
        obtain ⟨o, e, d⟩ := T.obj _ _ st5 b hb
        exact (J.pin (b, o) (List.mem_append_right _ (List.mem_append_right _ (mem_pinsAt hb e)))).2.1
      cases b with
      | false =>
        obtain ⟨m', hm, w'⟩ := q7
        exact ⟨m', hm, i + 1, σ6, ys, its, nn, H7, I7.unpinned, (tn7 I7).1, (tn7 I7).2, hv, w'⟩
      | true =>
        refine thn (he cl G.objs.size fp s2 H2 (X.pn ++ pins) _ s7 σ6 H7 _ I7 q7) fun y s8 ⟨yv, H8, I8, r8, q8⟩ => ?_
        obtain ⟨m', hm, w'⟩ := q8
        obtain ⟨gD8, nD8, _⟩ := I8.pin (s2.heap.objs.size, { cls := .type "list", data := .seq (List.toArray its) nn }) (List.mem_append_right _ (List.mem_append_left _ List.mem_cons_self))
        have hl := hv.length
        refine append_at (hsz := by rw [List.size_toArray]; omega) gD8 fun h9 sb9 gD9 => ?_
        -- the list is ours: it turns, then it is pinned again
        have Iu : Inv (cxC X sc cl G.objs.size (blkN X locs ix) fp s2 H2 (X.pn ++ pins)) [] σ6 H8 s8 := I8.pins_of fun p hp => nomatch hp
        have It : Inv (cxC X sc cl G.objs.size (blkN X locs ix) fp s2 H2 (X.pn ++ pins)) [] σ6 H8 { s8 with heap := h9, toks := s8.toks } := Iu.turned (fun b o hb e => (sb9.2 b hb).trans e) nD8 hDC (.inr (Nat.le_refl _))
          (fun x c e => by
            obtain ⟨v, o, ho, _⟩ := I.cell x c (hcl x c e)
            exact Nat.ne_of_lt (Heap.lt_size ho))
          (fun p hp => by
            rcases List.mem_append.mp hp with hp | hp
            · exact Nat.ne_of_lt (Heap.lt_size (I.pin p hp).1)
            · cases hp)
        have gD9' : h9.get? s2.heap.objs.size = some { cls := .type "list", data := .seq (its ++ [y]).toArray (nn + 1) } := by
          rw [gD9, List.push_toArray]
        have In : Inv (cxC X sc cl G.objs.size (blkN X locs ix) fp s2 H2 (X.pn ++ pins)) [(s2.heap.objs.size, { cls := .type "list", data := .seq (its ++ [y]).toArray (nn + 1) })] σ6 H8 { s8 with heap := h9, toks := s8.toks } := It.pins_of fun p hp => by
          have e : p = (s2.heap.objs.size, { cls := .type "list", data := .seq (its ++ [y]).toArray (nn + 1) }) := by simpa using hp
          subst e
          refine ⟨gD9', nD8, hDC, fun z => ?_, fun v z => by cases z⟩
          obtain ⟨_, o, ho, _⟩ := I.stack.mem z
          exact absurd (Heap.lt_size ho) (Nat.lt_irrefl _)
        refine ⟨m', hm, i + 1, σ6, ys ++ [yv], its ++ [y], nn + 1, H8, In, ?_, (tn7 I8).2, Vals.append hv (.cons r8 .nil), w'⟩
        exact T.keep _ _ _ (tn7 I8).1 fun b hb o e => (sb9.2 b (Nat.ne_of_lt (hfl b hb))).trans e
  exact codeAny_compStart_list (loop _) (T.self X.A 0 _ _ _ st1 (loop _))
/-- [elt for tgt in iter if tests] as a value -/
theorem pe_comp (hc : X.calm = true) (B : BlkSc X sc locs ix) (hi : PI X tgt iter wi)
    (hg : ∀ cl C fp s2 H2 pn, PG (cxC X sc cl C (blkN X locs ix) fp s2 H2 pn) tgt g) (ht : ∀ cl C fp s2 H2 pn, PTs (cxC X sc cl C (blkN X locs ix) fp s2 H2 pn) tests tt) (he : ∀ cl C fp s2 H2 pn, PE (cxC X sc cl C (blkN X locs ix) fp s2 H2 pn) elt te)
    (hs : ∀ x, foldedSetIterable iter X.env x = pure x := by intro _; rfl) : PE X (.ListComp elt [⟨tgt, iter, tests, 0⟩] sc pos) (tComp wi locs.length ix g tt te) := by
  intro pins s σ H Q I h
  obtain ⟨cl, ecl, hcl, hcl'⟩ := clos_ok (sc := sc) (env := X.env) fun y hy hk => I.ok.has y.1 (B.free y hy hk)
  rw [eval_ListComp]
  refine wpAny_comprehension_free (use := none) rfl hs ecl B.kind B.names ?_
  refine thn (hi pins s σ H _ I h) fun v s1 h1 => thn h1 fun itv s2 h2 => ?_
  obtain ⟨it, fp, tn, J, H2, e, I2, T, st2, f2, W, ⟨m0, w0⟩, turn⟩ := h2
  subst e
  refine comp_block (iter := iter) (pos := pos) (RR := fun acc C => compPost (model X.prog X.w) X.A X.xe none (EP X pins σ Q) acc C) hc B hg ht he I2 T st2 f2 hcl hcl' w0 turn ?_
  intro D C s' H' ys m nD hC nC hCD I3 fin ns
  refine ⟨m, ns, fun h' hs' => ⟨.ref D, _, I3.turned (t' := s'.toks) (fun b o hb e => (hs'.2 b hb).trans e) (by rw [upd_ne hCD]; exact nC) (Nat.ne_of_gt (Nat.lt_of_lt_of_le I2.lt hC)) (.inr (Nat.le_trans I2.sz hC)) (fun x c e => ?_) (fun p hp => Nat.ne_of_lt (Nat.lt_of_lt_of_le (Heap.lt_size (I2.pin p hp).1) hC)), rfl, fin D nD⟩⟩
  obtain ⟨v, o, ho, _⟩ := I2.cell x c e
  exact Nat.ne_of_lt (Nat.lt_of_lt_of_le (Heap.lt_size ho) hC)
/-- name = [elt for tgt in iter if tests], where the store comes ahead of the block's end -/
def sComp (i : Nat) (wi : TI) (k : Nat) (ix : List Nat) (g : TG) (tt : TT) (te : TE) : TS := fun D σ H => wi σ H fun J H1 =>
  ∃ W : Nat → Nat → St → List V → Hp → Prop, (∃ m, W 0 m (blkS k ix σ) [] H1) ∧ CompW J g tt te (fun ys H => ∀ l, H l = none → D.nx (σ.set i (some (.ref l))) (upd H l (.lst ys))) W
theorem ps_comp {i : Nat} {y : Str} {py spos : Pos} (hc : X.calm = true) (hN : X.N.Nodup) (hiy : X.N[i]? = some y) (hy : X.env.scope.names.lookup y = some .local) (B : BlkSc X sc locs ix) (hi : PI X tgt iter wi)
    (hg : ∀ cl C fp s2 H2 pn, PG (cxC X sc cl C (blkN X locs ix) fp s2 H2 pn) tgt g) (ht : ∀ cl C fp s2 H2 pn, PTs (cxC X sc cl C (blkN X locs ix) fp s2 H2 pn) tests tt) (he : ∀ cl C fp s2 H2 pn, PE (cxC X sc cl C (blkN X locs ix) fp s2 H2 pn) elt te)
    (hsw : swapsWith (.ListComp elt [⟨tgt, iter, tests, 0⟩] sc pos) (some (.Name y py)) spos.line X.env = pure true)
    (hs : ∀ x, foldedSetIterable iter X.env x = pure x := by intro _; rfl) : PS X (.Assign [.Name y py] (.ListComp elt [⟨tgt, iter, tests, 0⟩] sc pos) spos) (sComp i wi locs.length ix g tt te) := by
  intro pins s σ H D I h
  obtain ⟨cl, ecl, hcl, hcl'⟩ := clos_ok (sc := sc) (env := X.env) fun y hy hk => I.ok.has y.1 (B.free y hy hk)
  rw [exec_Assign_Name_used _ _ _ _ hsw]
  refine wpAny_bind (wpAny_standAt (wpAny_bind ?_))
  show wpAny _ X.A (do let _ ← comprehension (.ListComp elt [⟨tgt, iter, tests, 0⟩] sc pos) sc X.env _ (newList []) false (eval iter X.env) (some (assign (.Name y py) X.env))) _ _ s
  refine wpAny_bind (thn (wpAny_comprehension_free (use := some (assign (.Name y py) X.env)) (Q := fun _ s' => SP X pins D .next s') rfl hs ecl B.kind B.names ?_) fun _ s' hq => wpAny_pure (wpAny_pure hq))
  refine thn (hi pins s σ H _ I h) fun v s1 h1 => thn h1 fun itv s2 h2 => ?_
  obtain ⟨it, fp, tn, J, H2, e, I2, T, st2, f2, W, ⟨m0, w0⟩, turn⟩ := h2
  subst e
  refine comp_block (iter := iter) (pos := pos) (RR := fun acc C => compPost (model X.prog X.w) X.A X.xe (some (assign (.Name y py) X.env)) (fun _ s' => SP X pins D .next s') acc C) hc B hg ht he I2 T st2 f2 hcl hcl' w0 turn ?_
  intro L C s' H' ys m nL hC nC hCL I3 fin ns
  have cL : C ≠ X.env.locals := Nat.ne_of_gt (Nat.lt_of_lt_of_le I2.lt hC)
  have cC : ∀ x c, X.env.cells.lookup x = some c → c ≠ C := fun x c e => by
    obtain ⟨v, o, ho, _⟩ := I2.cell x c e
    exact Nat.ne_of_lt (Nat.lt_of_lt_of_le (Heap.lt_size ho) hC)
  have cP : ∀ p ∈ X.pn ++ pins, p.1 ≠ C := fun p hp => Nat.ne_of_lt (Nat.lt_of_lt_of_le (Heap.lt_size (I2.pin p hp).1) hC)
  show wpAny _ X.A (assign (.Name y py) X.env (.ref L)) _ _ _
  refine wpAny_assign_Name (store_ok2 (v := .ref L) I3 hN hiy (.inl hy) rfl (fun s4 I4 ⟨a, sb, ha⟩ => ?_) (.inr hy))
  have hCa : C ≠ a := by
    rcases ha with z | z
    · rw [z]; exact cL
    · exact (cC y a z).symm
  exact ⟨m, ns.sameBut sb hCa, fun h' hs' => ⟨_, _, I4.turned (t' := s4.toks) (fun b o hb e => (hs'.2 b hb).trans e) (by rw [upd_ne hCL]; exact nC) cL (.inr (Nat.le_trans I2.sz hC)) cC cP, fin L nL⟩⟩
end
end L2

/-! OWN RULES, part 3: all, sum; what a loop walks: enumerate of a list, reversed of a list, zip of two tuples. -/
namespace L2
open PySem PySem.Spec PyProof.Rows
section
variable {X : Cx}
theorem vals_bl : ∀ {bs : List Bool} {us : List Value}, Vals (bs.map V.bl) us → us = bs.map Value.bool
  | [], _, .nil => rfl
  | b :: r, _, .cons q t => by
    cases (show _ = Value.bool b from q)
    rw [vals_bl t]
    rfl
theorem range_all (bs : List Bool) : (List.range bs.length).all (fun i => bs.getD i true) = bs.all id := by
  rw [Bool.eq_iff_iff, List.all_eq_true, List.all_eq_true]
  constructor
  · intro h b hb
    obtain ⟨i, hi, e⟩ := List.mem_iff_getElem.mp hb
    have q := h i (List.mem_range.mpr hi)
    rw [List.getD_eq_getElem?_getD, List.getElem?_eq_getElem hi, e] at q
    exact q
  · intro h i hi
    have hi' := List.mem_range.mp hi
    rw [List.getD_eq_getElem?_getD, List.getElem?_eq_getElem hi']
    exact h _ (List.getElem_mem hi')
/-- all of a list of truths -/
theorem call_all (hc : X.calm = true) : CallR X (.builtin "all") (fun xs H Q => ∃ (a : Addr) (bs : List Bool), xs = [.ref a] ∧ SqL X.K H a (bs.map V.bl) ∧ Q (.bl (bs.all id)) H) := by
  intro pins s σ H xs us Q I r h
  obtain ⟨a, bs, rfl, hq, q⟩ := h
  obtain ⟨u, rfl, ru⟩ := vals1 r
  cases (show u = Value.ref a from ru)
  obtain ⟨its, rv, p, _⟩ := I.list hq
  have e := vals_bl rv
  subst e
  have hh : X.A.in1.handled = none := I.ok.hd hc
  have hlt : a < s.heap.objs.size := by obtain ⟨_, e, _⟩ := p.isList; exact Heap.lt_size e
  refine call_all_walk (wpAny_pyIter_list p.isList ?_)
  refine ⟨s.heap.objs.size, _, _, _, _, _, fun i => bs.getD i true, rfl, Walks.list hh s.heap.objs.size a (Nat.ne_of_lt hlt) (bs.map Value.bool).toArray, ⟨⟨_, Heap.get?_push_size _ rfl, rfl, rfl⟩, p.isList.push _⟩, ?_, fun h' tk k => ?_⟩
  · intro i v s' Q' E' hv hQ
    have e : v = Value.bool (bs.getD i true) := by
      rw [List.getElem?_toArray, List.getElem?_map] at hv
      cases hb : bs[i]? with
      | none => rw [hb] at hv; cases hv
      | some b =>
        rw [hb] at hv
        rw [List.getD_eq_getElem?_getD, hb]
        exact (Option.some.inj hv).symm
    subst e
    exact wpAny_truthy_bool hQ
  · have I' : Inv X pins σ H { s with heap := h', toks := tk } := I.kept fun b o e => k b o (by
      intro z
      have e' : b = s.heap.objs.size := by simpa using z
      exact absurd e' (Nat.ne_of_lt (Heap.lt_size e))) (Heap.get?_push_of_some _ e)
    refine ⟨.bl _, H, I', rfl, ?_⟩
    have e : ((bs.map Value.bool).toArray).size = bs.length := by rw [List.size_toArray, List.length_map]
    rw [e, range_all]
    exact q
end

/-! ### enumerate of a list -/
/-- turn i hands out a new pair (i, item i) -/
def Ite (K : PySem.W.Frag) (a : Addr) : It :=
  ⟨fun i H => ∃ xs x, SqL K H a xs ∧ xs[i]? = some x, fun i H x H' => ∃ T v, H T = none ∧ x = .ref T ∧ H' = upd H T (.tup [.int i, v]) ∧ ∀ xs, SqL K H a xs → xs[i]? = some v, fun i H => ∃ xs, SqL K H a xs ∧ xs.length ≤ i⟩
theorem turn_enum {P : Program} {w : World} {K : PySem.W.Frag} {es : List Expr} {k : Nat} {pos : Pos} (a e it : Addr) (hei : e ≠ it) :
    Turn P w K (.Tuple es k pos) (Ite K a) [e, it] e (fun i h => (∃ old, IsEnum h e it (i : Nat) old) ∧ h.IsListIter it a i) where
  mem := List.mem_cons_self
  obj := fun i h st b hb => by
    obtain ⟨⟨old, he⟩, o, hi, hc, hd⟩ := st
    rcases List.mem_cons.mp hb with rfl | hb
    · exact ⟨_, he, fun v z => by cases z⟩
    · rw [List.mem_singleton.mp hb]
      exact ⟨o, hi, fun v z => by rw [hd] at z; cases z⟩
  keep := fun i h h' st k => ⟨let ⟨old, he⟩ := st.1; ⟨old, k e List.mem_cons_self _ he⟩, st.2.at fun o q => k it (List.mem_cons_of_mem _ List.mem_cons_self) o q⟩
  item := by
    intro X hP hw hK hc i pins s σ H E I hf st hg
    subst hP hw hK
    obtain ⟨xs, x, hq, hx⟩ := hg
    obtain ⟨its, rv, p, hz⟩ := I.list hq
    obtain ⟨u, hu, ru⟩ := rv.get hx
    obtain ⟨⟨old, he⟩, hit⟩ := st
    obtain ⟨f0, f1, f2, f3, f4, f5⟩ := hf e List.mem_cons_self
    obtain ⟨g0, g1, g2, g3, g4, g5⟩ := hf it (List.mem_cons_of_mem _ List.mem_cons_self)
    refine wpAny_pyNext_enum_item he hit p.isList (x := u) (by simpa using hu) hei fun h' ho hit' hT hsz hk => ?_
    refine ⟨.ref s.heap.objs.size, rfl, wpAny_letOwnedTupleGo_enum ho fun h'' he'' sb => ?_⟩
    have nT : H s.heap.objs.size = none := I.hok.fresh (Nat.le_refl _)
    have kk : ∀ b o, b ≠ e → b ≠ it → s.heap.get? b = some o → h''.get? b = some o := fun b o b1 b2 q => (sb.2 b b1).trans (hk b o b1 b2 q)
    have hTe : s.heap.objs.size ≠ e := Nat.ne_of_gt (Heap.lt_size he)
    have nb : ∀ b u, H b = some u → b ≠ e ∧ b ≠ it := fun b u q => ⟨fun z => (by rw [z, f0] at q; cases q), fun z => (by rw [z, g0] at q; cases q)⟩
    have gT : h''.get? s.heap.objs.size = some { cls := .type "tuple", data := .seq #[.int i s.toks, u] } := (sb.2 _ hTe).trans hT
    have I1 : Inv X pins σ (upd H s.heap.objs.size (.tup [.int i, x])) { s with heap := h'', toks := s.toks + 1 } := by
      refine I.step (g' := s.gens) (d' := s.drawn) (ch := [e, it]) (fun b hb => ?_) (fun b o _ _ hb q _ => kk b o (fun z => hb (by simp [z])) (fun z => hb (by simp [z])) q) (fun b o _ _ hb q _ => ⟨o.slots, kk b o (fun z => hb (by simp [z])) (fun z => hb (by simp [z])) q⟩) (fun b o _ q n => ?_)
        (fun b o hb q => ⟨o, kk b o (fun z => hb (by simp [z])) (fun z => hb (by simp [z])) q⟩) (fun b ys q => ?_) (fun b ob y q => ?_) (fun b ps q => ⟨#[], ?_⟩) (fun m hm => ?_) (fun b y q => ?_) I.bare
      · rcases List.mem_cons.mp hb with rfl | hb
        · exact ⟨f3, f1, f4, f5⟩
        · rw [List.mem_singleton.mp hb]
          exact ⟨g3, g1, g4, g5⟩
      · rw [upd_ne (Nat.ne_of_lt (Heap.lt_size q))]
        exact n
      · rw [upd_ne (ne_of_none q nT)]
        exact q
      · rw [upd_ne (ne_of_none q nT)]
        exact q
      · rw [upd_ne (ne_of_none q nT), q]
        simp
      · obtain ⟨o, es', ep, ho', r⟩ := hm
        exact ⟨o, es', ep, kk _ o (Ne.symm f1) (Ne.symm g1) ho', r⟩
      · by_cases hb : b = s.heap.objs.size
        · subst hb
          rw [upd_same] at q
          cases q
          exact ⟨by show 2 ≤ sizeLine; decide, [.int i s.toks, u], .cons ⟨_, rfl⟩ (.cons ru .nil), _, gT, rfl, _, rfl⟩
        · rw [upd_ne hb] at q
          refine (I.hok b y q).stay (fun c v hc' z => ?_) (fun c z => by rw [upd_ne (ne_of_none z nT)]; exact z) fun c ys z => by rw [upd_ne (ne_of_none z nT)]; exact z
          rcases hc' with z' | z'
          · subst z'
            exact kk c v (nb c y q).1 (nb c y q).2 z
          · exact kk c v (nb c _ z').1 (nb c _ z').2 z
    refine ⟨.ref s.heap.objs.size, _, I1, rfl, ⟨_, x, nT, rfl, rfl, fun ys hy => by rw [I.list_inj hy hq]; exact hx⟩, ⟨⟨u, by simpa using he''⟩, hit'.at fun o q => (sb.2 it (Ne.symm hei)).trans q⟩, fun b hb => ?_⟩
    have hn := (hf b hb).1
    have lt : b < s.heap.objs.size := by
      rcases List.mem_cons.mp hb with rfl | hb
      · exact Heap.lt_size he
      · rw [List.mem_singleton.mp hb]
        obtain ⟨o, q, _⟩ := hit
        exact Heap.lt_size q
    rw [upd_ne (Nat.ne_of_lt lt)]
    exact hn
  done := by
    intro X hP hw hK hc i pins s σ H E I hf st hg
    subst hP hw hK
    obtain ⟨xs, hq, hx⟩ := hg
    obtain ⟨its, rv, p, hz⟩ := I.list hq
    obtain ⟨⟨old, he⟩, hit⟩ := st
    obtain ⟨g0, g1, g2, g3, g4, g5⟩ := hf it (List.mem_cons_of_mem _ List.mem_cons_self)
    have hl := rv.length
    exact wpAny_pyNext_enum_end (I.ok.hd hc) he hit p.isList (by simp; omega) fun h' eb => ⟨rfl, I.turned (t' := s.toks) (fun b o hb q => eb b o hb q) g0 g1 g3 g4 g5⟩
  self := fun _ _ _ _ _ st h => let ⟨_, he⟩ := st.1; wpAny_pyIter_enum he h
section
variable {X : Cx}
def iEnum (K : PySem.W.Frag) (ta : TA) : TI := fun σ H R => ta σ H fun vs H1 => ∃ a, vs = [.ref a] ∧ (∃ xs, SqL K H1 a xs) ∧ R (Ite K a) H1
theorem pi_enum {l : Expr} {ta : TA} {p pos : Pos} {es : List Expr} {k : Nat} {tp : Pos} (hg : Gl X "enumerate") (hm : X.mg "enumerate" = none) (ha : PA X [l] ta) (hs : starEach [l] X.env = [(false, eval l X.env)] := by rfl) :
    PI X (.Tuple es k tp) (.Call (.Name "enumerate" p) [l] [] pos) (iEnum X.K ta) := by
  intro pins s σ H R I h
  refine Call_ (ld_blt I hg hm boot_enumerate (PyProof.Rows.callWith_type1 (thn (ha pos pins s σ H _ I h) fun us s1 ⟨vs, H1, I1, r1, q1⟩ => ?_) hs rfl))
  obtain ⟨a, e, ⟨xs, hq⟩, q⟩ := q1
  subst e
  obtain ⟨u, rfl, ru⟩ := vals1 r1
  cases (show u = Value.ref a from ru)
  obtain ⟨its, rv, pl, hz⟩ := I1.list hq
  refine call_enumerate_list pl.isList fun h' he hit hsz hk => ?_
  refine wpAny_pyIter_enum (s := { s1 with heap := h' }) he ?_
  have n1 : H1 s1.heap.objs.size = none := I1.hok.fresh (Nat.le_refl _)
  have n2 : H1 (s1.heap.objs.size + 1) = none := I1.hok.fresh (Nat.le_succ _)
  refine ⟨s1.heap.objs.size + 1, [s1.heap.objs.size + 1, s1.heap.objs.size], _, _, H1, rfl, I1.kept (t' := s1.toks) hk, turn_enum a _ _ (Nat.succ_ne_self _), ⟨⟨_, by simpa using he⟩, hit⟩, fun b hb => ?_, q⟩
  rcases List.mem_cons.mp hb with rfl | hb
  · exact I1.fpOk (Nat.le_succ _) n2
  · rw [List.mem_singleton.mp hb]
    exact I1.fpOk (Nat.le_refl _) n1
end
/-- over a list that the body leaves as it is, with the places -/
theorem for_enum {K : PySem.W.Frag} {a : Addr} {xs : List V} {g : TG} {tb : TS} {D : Ends} {σ : St} {H : Hp} (Pv : Nat → St → Hp → Prop) (h0 : Pv 0 σ H) (hl : ∀ i σ H, i ≤ xs.length → Pv i σ H → SqL K H a xs)
    (hs : ∀ (i : Nat) x σ H T, xs[i]? = some x → Pv i σ H → H T = none → g (.ref T) σ (upd H T (.tup [.int i, x])) fun σ2 H2 => tb { D with nx := Pv (i + 1), ct := Pv (i + 1), bk := D.nx } σ2 H2) (hd : ∀ σ H, Pv xs.length σ H → D.nx σ H) :
    ∃ W : Nat → Nat → St → Hp → Prop, (∃ m, W 0 m σ H) ∧ ∀ i m σ H, W i m σ H →
      ((Ite K a).stop i H ∧ D.nx σ H) ∨ ((Ite K a).go i H ∧ ∃ N : St → Hp → Prop, (∀ σ' H', N σ' H' → ∃ m', m' < m ∧ W (i + 1) m' σ' H') ∧ ∀ x H', (Ite K a).yld i H x H' → g x σ H' fun σ2 H2 => tb { D with nx := N, ct := N, bk := D.nx } σ2 H2) := by
  refine ⟨fun i m σ H => m = xs.length - i ∧ i ≤ xs.length ∧ Pv i σ H, ⟨xs.length, by simp, Nat.zero_le _, h0⟩, ?_⟩
  rintro i m σ H ⟨rfl, hi, p⟩
  have q := hl i σ H hi p
  by_cases hlt : i < xs.length
  · refine .inr ⟨⟨xs, xs[i], q, List.getElem?_eq_getElem hlt⟩, Pv (i + 1), fun σ' H' p' => ⟨xs.length - (i + 1), by omega, rfl, hlt, p'⟩, fun x H' y => ?_⟩
    obtain ⟨T, v, nT, rfl, rfl, hv⟩ := y
    exact hs i v σ H T (hv xs q) p nT
  · have e : i = xs.length := by omega
    subst e
    exact .inl ⟨⟨xs, q, Nat.le_refl _⟩, hd σ H p⟩

/-! ### reversed of a list -/
def Itv (K : PySem.W.Frag) (a : Addr) (xs : List V) : It :=
  ⟨fun i H => i < xs.length ∧ SqL K H a xs, fun i H x H' => H' = H ∧ xs[xs.length - 1 - i]? = some x, fun i _ => i = xs.length⟩
theorem turn_rev {P : Program} {w : World} {K : PySem.W.Frag} {tg : Expr} (a it : Addr) (xs : List V) :
    Turn P w K tg (Itv K a xs) [it] it (fun i h => h.IsRevIter it a ((xs.length : Int) - 1 - (i : Int))) where
  mem := List.mem_cons_self
  obj := fun i h st b hb => by
    rw [List.mem_singleton.mp hb]
    obtain ⟨o, e, c, d⟩ := st
    exact ⟨o, e, fun v z => by rw [d] at z; cases z⟩
  keep := fun i h h' st k => st.at fun o e => k it List.mem_cons_self o e
  item := by
    intro X hP hw hK hc i pins s σ H E I hf st hg
    subst hP hw hK
    obtain ⟨hi, hq⟩ := hg
    obtain ⟨its, rv, p, hz⟩ := I.list hq
    have hl := rv.length
    have hx : xs[xs.length - 1 - i]? = some (xs[xs.length - 1 - i]'(by omega)) := List.getElem?_eq_getElem (by omega)
    obtain ⟨u, hu, ru⟩ := rv.get hx
    obtain ⟨f0, f1, f2, f3, f4, f5⟩ := hf it List.mem_cons_self
    have e : (xs.length : Int) - 1 - (i : Int) = ((xs.length - 1 - i : Nat) : Int) := by omega
    have st' : s.heap.IsRevIter it a ((xs.length - 1 - i : Nat) : Int) := by rw [← e]; exact st
    refine wpAny_pyNext_rev_item st' p.isList (x := u) (by simpa using hu) fun h' st1 sb => ?_
    have I1 : Inv X pins σ H { s with heap := h' } := I.turned (t' := s.toks) (fun b o hb q => (sb.2 b hb).trans q) f0 f1 f3 f4 f5
    obtain ⟨o, q, c, d⟩ := id st1
    have e2 : ((xs.length - 1 - i : Nat) : Int) - 1 = (xs.length : Int) - 1 - ((i + 1 : Nat) : Int) := by omega
    refine ⟨u, rfl, go_of (s := { s with heap := h' }) q c d (by decide) ⟨_, H, I1, ru, ⟨rfl, hx⟩, ?_, fun b hb => (hf b hb).1⟩⟩
    rw [← e2]
    exact st1
  done := by
    intro X hP hw hK hc i pins s σ H E I hf st hg
    subst hP hw hK
    cases (show i = xs.length from hg)
    obtain ⟨f0, f1, f2, f3, f4, f5⟩ := hf it List.mem_cons_self
    have e : (xs.length : Int) - 1 - (xs.length : Int) = -1 := by omega
    have st' : s.heap.IsRevIter it a (-1) := by rw [← e]; exact st
    exact wpAny_pyNext_rev_end (I.ok.hd hc) st' fun h' eb => ⟨rfl, I.turned (t' := s.toks) (fun b o hb q => eb b o hb q) f0 f1 f3 f4 f5⟩
  self := fun _ _ _ _ _ st h => wpAny_pyIter_revIter st h
section
variable {X : Cx} {tg : Expr}
def iRev (K : PySem.W.Frag) (ta : TA) : TI := fun σ H R => ta σ H fun vs H1 => ∃ a xs, vs = [.ref a] ∧ SqL K H1 a xs ∧ R (Itv K a xs) H1
theorem pi_rev {l : Expr} {ta : TA} {p pos : Pos} (hg : Gl X "reversed") (hm : X.mg "reversed" = none) (ha : PA X [l] ta) (hs : starEach [l] X.env = [(false, eval l X.env)] := by rfl) :
    PI X tg (.Call (.Name "reversed" p) [l] [] pos) (iRev X.K ta) := by
  intro pins s σ H R I h
  refine Call_ (ld_blt I hg hm boot_reversed (PyProof.Rows.callWith_type1 (thn (ha pos pins s σ H _ I h) fun us s1 ⟨vs, H1, I1, r1, q1⟩ => ?_) hs rfl))
  obtain ⟨a, xs, e, hq, q⟩ := q1
  subst e
  obtain ⟨u, rfl, ru⟩ := vals1 r1
  cases (show u = Value.ref a from ru)
  obtain ⟨its, rv, pl, hz⟩ := I1.list hq
  have hl := rv.length
  refine call_reversed_list pl.isList ?_
  have st : Heap.IsRevIter (s1.heap.push (revObj a ((its.toArray.size : Int) - 1))) s1.heap.objs.size a ((xs.length : Int) - 1 - ((0 : Nat) : Int)) := by
    have e : (xs.length : Int) - 1 - ((0 : Nat) : Int) = (its.toArray.size : Int) - 1 := by
      rw [List.size_toArray]
      omega
    rw [e]
    exact ⟨_, Heap.get?_push_size _ rfl, rfl, rfl⟩
  refine wpAny_pyIter_revIter (s := { s1 with heap := s1.heap.push (revObj a ((its.toArray.size : Int) - 1)) }) st ?_
  refine ⟨s1.heap.objs.size, [s1.heap.objs.size], _, _, H1, rfl, I1.kept (t' := s1.toks) fun b o e => Heap.get?_push_of_some _ e, turn_rev a _ xs, st, fun b hb => ?_, q⟩
  rw [List.mem_singleton.mp hb]
  exact I1.fpOk (Nat.le_refl _) (I1.hok.fresh (Nat.le_refl _))
end
/-- over a list from its end, which the body leaves as it is -/
theorem for_rev {K : PySem.W.Frag} {a : Addr} {xs : List V} {g : TG} {tb : TS} {D : Ends} {σ : St} {H : Hp} (Pv : Nat → St → Hp → Prop) (h0 : Pv 0 σ H) (hl : ∀ i σ H, i ≤ xs.length → Pv i σ H → SqL K H a xs)
    (hs : ∀ (i : Nat) x σ H, i < xs.length → xs[xs.length - 1 - i]? = some x → Pv i σ H → g x σ H fun σ2 H2 => tb { D with nx := Pv (i + 1), ct := Pv (i + 1), bk := D.nx } σ2 H2) (hd : ∀ σ H, Pv xs.length σ H → D.nx σ H) :
    ∃ W : Nat → Nat → St → Hp → Prop, (∃ m, W 0 m σ H) ∧ ∀ i m σ H, W i m σ H →
      ((Itv K a xs).stop i H ∧ D.nx σ H) ∨ ((Itv K a xs).go i H ∧ ∃ N : St → Hp → Prop, (∀ σ' H', N σ' H' → ∃ m', m' < m ∧ W (i + 1) m' σ' H') ∧ ∀ x H', (Itv K a xs).yld i H x H' → g x σ H' fun σ2 H2 => tb { D with nx := N, ct := N, bk := D.nx } σ2 H2) := by
  refine ⟨fun i m σ H => m = xs.length - i ∧ i ≤ xs.length ∧ Pv i σ H, ⟨xs.length, by simp, Nat.zero_le _, h0⟩, ?_⟩
  rintro i m σ H ⟨rfl, hi, p⟩
  have q := hl i σ H hi p
  by_cases hlt : i < xs.length
  · refine .inr ⟨⟨hlt, q⟩, Pv (i + 1), fun σ' H' p' => ⟨xs.length - (i + 1), by omega, rfl, hlt, p'⟩, fun x H' y => ?_⟩
    obtain ⟨e, y⟩ := y
    subst e
    exact hs i x σ _ hlt y p
  · have e : i = xs.length := by omega
    subst e
    exact .inl ⟨rfl, hd σ H p⟩
end L2

/-! OWN RULES, part 4: zip of two tuples. -/
namespace L2
open PySem PySem.Spec PyProof.Rows
section
variable {prog : Program} {w : World} {A : Around} {E : Value → Shared → Prop} {s : Shared}
abbrev zt1 (h : Heap) (l1 : Addr) : Heap := h.push { cls := .type "tuple_iterator", data := .fields #[.ref l1, .int 0 0] }
abbrev zt2 (h : Heap) (l1 l2 : Addr) : Heap := (zt1 h l1).push { cls := .type "tuple_iterator", data := .fields #[.ref l2, .int 0 0] }
abbrev zt3 (h : Heap) (l1 l2 : Addr) : Heap := (zt2 h l1 l2).push { cls := .type "tuple", data := .seq #[.ref h.objs.size, .ref (zt1 h l1).objs.size] }
abbrev zt4 (h : Heap) (l1 l2 : Addr) : Heap := (zt3 h l1 l2).push { cls := .type "tuple", data := .seq #[.none, .none] }
abbrev zt5 (h : Heap) (l1 l2 : Addr) : Heap := (zt4 h l1 l2).push { cls := .type "zip", data := .fields #[.none, .bool false, .bool false, .ref (zt2 h l1 l2).objs.size, .ref (zt3 h l1 l2).objs.size] }
end
/-- turn i hands out a new pair of the two items i -/
def Itz (K : PySem.W.Frag) (a b : Addr) (xs ys : List V) : It :=
  ⟨fun i H => SqT K H a xs ∧ SqT K H b ys ∧ i < xs.length ∧ i < ys.length, fun i H x H' => ∃ T u v, H T = none ∧ x = .ref T ∧ H' = upd H T (.tup [u, v]) ∧ xs[i]? = some u ∧ ys[i]? = some v,
    fun i H => SqT K H a xs ∧ SqT K H b ys ∧ (xs.length ≤ i ∨ ys.length ≤ i)⟩
section
variable {X : Cx}
def iZip (K : PySem.W.Frag) (ta : TA) : TI := fun σ H R => ta σ H fun vs H1 => ∃ a b xs ys, vs = [.ref a, .ref b] ∧ SqT K H1 a xs ∧ SqT K H1 b ys ∧ R (Itz K a b xs ys) H1
end
end L2

/-! OWN RULES, part 5: a comprehension's scope by a look; the forms one uses. -/
namespace L2
open PySem PySem.Spec PyProof.Rows
def blkOk (sc dsc : Scope) (N : List Str) (ix : List Nat) : Bool :=
  sc.kind == .function && sc.names.all (fun y => y.2 != .cell) && sc.names.all (fun y => y.2 != .free || dsc.names.lookup y.1 == some .cell || dsc.names.lookup y.1 == some .free) &&
    sc.names.all (fun y => y.2 != .local || sc.names.lookup y.1 == some .local) && ix.all (fun i => match N[i]? with | some x => sc.names.lookup x == some .free | none => false)
theorem BlkSc.look {X : Cx} {sc dsc : Scope} {locs N : List Str} {ix : List Nat} (hs : X.env.scope = dsc) (hN : X.N = N) (c : blkOk sc dsc N ix = true) : BlkSc X sc locs ix := by
  unfold blkOk at c
  rw [Bool.and_eq_true, Bool.and_eq_true, Bool.and_eq_true, Bool.and_eq_true] at c
  obtain ⟨⟨⟨⟨c1, c2⟩, c3⟩, c4⟩, c5⟩ := c
  refine ⟨by simpa using c1, fun y hy => ?_, fun y hy hk => ?_, fun y hy hk => ?_, fun i hi => ?_⟩
  · simpa using List.all_eq_true.mp c2 y hy
  · have q := List.all_eq_true.mp c3 y hy
    have z : X.env.kindOf y.1 = dsc.names.lookup y.1 := by rw [← hs]; rfl
    rw [z]
    rw [hk] at q
    simpa using q
  · have q := List.all_eq_true.mp c4 y hy
    rw [hk] at q
    simpa using q
  · have q := List.all_eq_true.mp c5 i hi
    rw [hN]
    cases hx : N[i]? with
    | none => rw [hx] at q; cases q
    | some x =>
      rw [hx] at q
      exact ⟨x, rfl, by simpa using q⟩
/-! the rules that name the written part K, said of a block with the def's own K -/
section
variable {X : Cx} {sc : Scope} {cl : List (Str × Addr)} {C : Addr} {N : List Str} {fp : List Addr} {s2 : Shared} {H2 : Hp} {pn : List (Addr × Obj)}
theorem ix_listB : IxR (cxC X sc cl C N fp s2 H2 pn) (rIxL X.K) := ix_list
theorem ix_tupB : IxR (cxC X sc cl C N fp s2 H2 pn) (rIxT X.K) := ix_tup
theorem ix_seqB : IxR (cxC X sc cl C N fp s2 H2 pn) (rIx X.K) := ix_seq
theorem call_lenB : CallR (cxC X sc cl C N fp s2 H2 pn) (.builtin "len") (fun xs H Q => ∃ p ys, xs = [.ref p] ∧ (SqL X.K H p ys ∨ SqT X.K H p ys) ∧ Q (.int ys.length) H) := call_len_seq
end
/-- no test: by the turn's number; the measure is what is left of n -/
theorem comp_by {J : It} {n : Nat} {g : TG} {te : TE} {σ0 : St} {H1 : Hp} {Fin : List V → Hp → Prop} (Pv : Nat → St → List V → Hp → Prop) (h0 : Pv 0 σ0 [] H1) (hn : n ≤ sizeLine) (len : ∀ i σ ys H, Pv i σ ys H → ys.length = i)
    (stop : ∀ σ ys H, Pv n σ ys H → J.stop n H) (go : ∀ i σ ys H, i < n → Pv i σ ys H → J.go i H)
    (hs : ∀ i σ ys H x H' (Z : St → List V → Hp → Prop), i < n → Pv i σ ys H → J.yld i H x H' → (∀ σ' ys' H', Pv (i + 1) σ' ys' H' → Z σ' ys' H') → g x σ H' fun σ2 H2 => te σ2 H2 fun y H3 => Z σ2 (ys ++ [y]) H3) (hd : ∀ σ ys H, Pv n σ ys H → Fin ys H) :
    ∃ W : Nat → Nat → St → List V → Hp → Prop, (∃ m, W 0 m σ0 [] H1) ∧ CompW J g tYes te Fin W := by
  refine ⟨fun i m σ ys H => m = n - i ∧ i ≤ n ∧ Pv i σ ys H, ⟨n, rfl, Nat.zero_le _, h0⟩, ?_⟩
  rintro i m σ ys H ⟨rfl, hi, p⟩
  by_cases hlt : i < n
  · refine .inr ⟨go i σ ys H hlt p, by rw [len i σ ys H p]; omega, fun x H' y => ?_⟩
    have q := hs i σ ys H x H' (fun σ2 ys2 H3 => ∃ m', m' < n - i ∧ m' = n - (i + 1) ∧ i + 1 ≤ n ∧ Pv (i + 1) σ2 ys2 H3) hlt p y fun σ' ys' H'' p' => ⟨n - (i + 1), by omega, rfl, hlt, p'⟩
    exact q
  · have e : i = n := by omega
    subst e
    exact .inl ⟨stop σ ys H p, by rw [len i σ ys H p]; exact hn, hd σ ys H p⟩
end L2

/-! OWN: the laws' own comparison, _law_alike, by the depth of what is compared: alike things come out True. The def's text is the same in every law but for its places; st is the def as it stands. -/
namespace L2
open PySem PySem.Spec PyProof.Rows
/-- alike: the same scalar, or two lists (two tuples) of one length with alike items -/
def Alk : Nat → Hp → V → V → Prop
  | 0, _, _, _ => False
  | n + 1, H, x, y => (x = y ∧ (x = .non ∨ (∃ b, x = .bl b) ∨ (∃ i, x = .int i) ∨ ∃ z, x = .str z)) ∨
      ∃ a b xs ys, x = .ref a ∧ y = .ref b ∧ ((H a = some (.lst xs) ∧ H b = some (.lst ys)) ∨ (H a = some (.tup xs) ∧ H b = some (.tup ys))) ∧ xs.length ≤ 1000000 ∧ xs.length = ys.length ∧ ∀ (i : Nat) u v, xs[i]? = some u → ys[i]? = some v → Alk n H u v
theorem Alk.mono {H H' : Hp} (s : Same H H') : ∀ {n : Nat} {x y : V}, Alk n H x y → Alk n H' x y
  | 0, _, _, h => h.elim
  | n + 1, _, _, h => by
    rcases h with h | ⟨a, b, xs, ys, e1, e2, e3, e4, e5, e6⟩
    · exact .inl h
    · refine .inr ⟨a, b, xs, ys, e1, e2, ?_, e4, e5, fun i u v h1 h2 => (e6 i u v h1 h2).mono s⟩
      rcases e3 with ⟨p, q⟩ | ⟨p, q⟩
      · exact .inl ⟨s _ _ p, s _ _ q⟩
      · exact .inr ⟨s _ _ p, s _ _ q⟩
theorem Alk.up {H : Hp} : ∀ {n m : Nat} {x y : V}, n ≤ m → Alk n H x y → Alk m H x y
  | 0, _, _, _, _, h => h.elim
  | n + 1, 0, _, _, hm, _ => absurd hm (Nat.not_succ_le_zero _)
  | n + 1, m + 1, _, _, hm, h => by
    rcases h with h | ⟨a, b, xs, ys, e1, e2, e3, e4, e5, e6⟩
    · exact .inl h
    · exact .inr ⟨a, b, xs, ys, e1, e2, e3, e4, e5, fun i u v h1 h2 => (e6 i u v h1 h2).up (Nat.le_of_succ_le_succ hm)⟩
theorem Alk.int {n : Nat} {H : Hp} (i : Int) : Alk (n + 1) H (.int i) (.int i) := .inl ⟨rfl, .inr (.inr (.inl ⟨i, rfl⟩))⟩
theorem Alk.non {n : Nat} {H : Hp} : Alk (n + 1) H .non .non := .inl ⟨rfl, .inl rfl⟩
theorem Alk.bl {n : Nat} {H : Hp} (b : Bool) : Alk (n + 1) H (.bl b) (.bl b) := .inl ⟨rfl, .inr (.inl ⟨b, rfl⟩)⟩
theorem Alk.ints {n : Nat} {H : Hp} {a b : Addr} {zs ws : List Int} (h1 : H a = some (.lst (zs.map V.int))) (h2 : H b = some (.lst (ws.map V.int))) (e : zs = ws) (hl : zs.length ≤ 1000000) : Alk (n + 2) H (.ref a) (.ref b) := by
  subst e
  refine .inr ⟨a, b, _, _, rfl, rfl, .inl ⟨h1, h2⟩, by rw [List.length_map]; exact hl, rfl, fun i u v hu hv => ?_⟩
  rw [hu] at hv
  cases hv
  obtain ⟨z, rfl⟩ := ints_mem (List.mem_of_getElem? hu)
  exact Alk.int z
theorem Alk.tints {n : Nat} {H : Hp} {a b : Addr} {zs ws : List Int} (h1 : H a = some (.tup (zs.map V.int))) (h2 : H b = some (.tup (ws.map V.int))) (e : zs = ws) (hl : zs.length ≤ 1000000) : Alk (n + 2) H (.ref a) (.ref b) := by
  subst e
  refine .inr ⟨a, b, _, _, rfl, rfl, .inr ⟨h1, h2⟩, by rw [List.length_map]; exact hl, rfl, fun i u v hu hv => ?_⟩
  rw [hu] at hv
  cases hv
  obtain ⟨z, rfl⟩ := ints_mem (List.mem_of_getElem? hu)
  exact Alk.int z
def spAlike (n : Nat) : Sp := fun vs H Q _ => ∃ x y, vs = [x, y] ∧ Alk n H x y ∧ ∀ H', Same H H' → Q (.bl true) H'
structure BltA (mg : Str → Option Value) : Prop where
  isi : mg "isinstance" = none
  tup : mg "tuple" = none
  lst : mg "list" = none
  boo : mg "bool" = none
  str : mg "str" = none
  int : mg "int" = none
  len : mg "len" = none
  all : mg "all" = none
  rng : mg "range" = none
end L2

/-! OWN: rows of cells and their bits, in plain numbers. -/
namespace G
open PySem
/-- the paint of a row of cells: each cell's colour by sixteens; its mask by twos -/
def paintI : List (Option Int) → Int
  | [] => 0
  | c :: r => c.getD 0 + 16 * paintI r
def maskI : List (Option Int) → Int
  | [] => 0
  | c :: r => (if c.isSome = true then 1 else 0) + 2 * maskI r
def Cell (c : Option Int) : Prop := ∀ z, c = some z → 0 ≤ z ∧ z ≤ 15
def Cells (r : List (Option Int)) : Prop := ∀ c ∈ r, Cell c
theorem Cells.tail {c : Option Int} {r : List (Option Int)} (h : Cells (c :: r)) : Cells r := fun d hd => h d (List.mem_cons_of_mem _ hd)
theorem Cell.get {c : Option Int} (h : Cell c) : 0 ≤ c.getD 0 ∧ c.getD 0 ≤ 15 := by
  cases c with
  | none => exact ⟨by decide, by decide⟩
  | some z => exact h z rfl
theorem pow16 (n : Nat) : (16 : Int) ^ (n + 1) = 16 * 16 ^ n := by rw [Int.pow_succ, Int.mul_comm]
theorem pow2 (n : Nat) : (2 : Int) ^ (n + 1) = 2 * 2 ^ n := by rw [Int.pow_succ, Int.mul_comm]
theorem paint_lt : ∀ {r : List (Option Int)}, Cells r → 0 ≤ paintI r ∧ paintI r < 16 ^ r.length
  | [], _ => ⟨by decide, by decide⟩
  | c :: r, h => by
    have ih := paint_lt h.tail
    have hc := (h c List.mem_cons_self).get
    show 0 ≤ c.getD 0 + 16 * paintI r ∧ c.getD 0 + 16 * paintI r < 16 ^ (r.length + 1)
    rw [pow16]
    omega
theorem mask_lt : ∀ (r : List (Option Int)), 0 ≤ maskI r ∧ maskI r < 2 ^ r.length
  | [] => ⟨by decide, by decide⟩
  | c :: r => by
    have ih := mask_lt r
    show 0 ≤ (if c.isSome = true then 1 else 0) + 2 * maskI r ∧ (if c.isSome = true then 1 else 0) + 2 * maskI r < (2 : Int) ^ (r.length + 1)
    rw [pow2]
    split <;> omega
theorem paint_snoc (c : Option Int) : ∀ r : List (Option Int), paintI (r ++ [c]) = paintI r + c.getD 0 * 16 ^ r.length
  | [] => by show c.getD 0 + 16 * 0 = 0 + c.getD 0 * 1; omega
  | d :: r => by
    have ih := paint_snoc c r
    show d.getD 0 + 16 * paintI (r ++ [c]) = d.getD 0 + 16 * paintI r + c.getD 0 * 16 ^ (r.length + 1)
    rw [ih, pow16, Int.mul_add, ← Int.mul_assoc, Int.mul_comm 16 (c.getD 0), Int.mul_assoc, Int.add_assoc]
theorem mask_snoc (c : Option Int) : ∀ r : List (Option Int), maskI (r ++ [c]) = maskI r + (if c.isSome = true then 1 else 0) * 2 ^ r.length
  | [] => by show (if c.isSome = true then 1 else 0) + 2 * 0 = 0 + (if c.isSome = true then (1 : Int) else 0) * 1; omega
  | d :: r => by
    have ih := mask_snoc c r
    show (if d.isSome = true then 1 else 0) + 2 * maskI (r ++ [c]) = (if d.isSome = true then 1 else 0) + 2 * maskI r + (if c.isSome = true then (1 : Int) else 0) * 2 ^ (r.length + 1)
    rw [ih, pow2, Int.mul_add, ← Int.mul_assoc, Int.mul_comm 2 (if c.isSome = true then (1 : Int) else 0), Int.mul_assoc, Int.add_assoc]
/-- the digit at a place -/
theorem paint_at : ∀ {r : List (Option Int)} {x : Nat} {c : Option Int}, Cells r → r[x]? = some c → paintI r / 16 ^ x % 16 = c.getD 0
  | [], _, _, _, e => by cases e
  | d :: r, 0, c, h, e => by
    cases e
    have hd := (h d List.mem_cons_self).get
    show (d.getD 0 + 16 * paintI r) / 1 % 16 = d.getD 0
    omega
  | d :: r, x + 1, c, h, e => by
    have ih := paint_at (x := x) (c := c) h.tail e
    have hd := (h d List.mem_cons_self).get
    show (d.getD 0 + 16 * paintI r) / 16 ^ (x + 1) % 16 = c.getD 0
    rw [pow16, ← Int.ediv_ediv_of_nonneg (by decide)]
    have q : (d.getD 0 + 16 * paintI r) / 16 = paintI r := by omega
    rw [q]
    exact ih
theorem mask_at : ∀ {r : List (Option Int)} {x : Nat} {c : Option Int}, r[x]? = some c → maskI r / 2 ^ x % 2 = (if c.isSome = true then 1 else 0)
  | [], _, _, e => by cases e
  | d :: r, 0, c, e => by
    cases e
    show ((if d.isSome = true then 1 else 0) + 2 * maskI r) / 1 % 2 = _
    split <;> omega
  | d :: r, x + 1, c, e => by
    have ih := mask_at (x := x) (c := c) e
    show ((if d.isSome = true then 1 else 0) + 2 * maskI r) / 2 ^ (x + 1) % 2 = _
    rw [pow2, ← Int.ediv_ediv_of_nonneg (by decide)]
    have q : ((if d.isSome = true then 1 else 0) + 2 * maskI r) / 2 = maskI r := by split <;> omega
    rw [q]
    exact ih
/-! ### | of a low part and a high one -/
theorem and_low (a d k : Nat) (h : d < 2 ^ k) : (2 ^ k * a) &&& d = 0 := by
  have e1 : d &&& (2 ^ k - 1) = d := by rw [Nat.and_two_pow_sub_one_eq_mod, Nat.mod_eq_of_lt h]
  have e2 : (2 ^ k * a) &&& (2 ^ k - 1) = 0 := by rw [Nat.and_two_pow_sub_one_eq_mod, Nat.mul_mod_right]
  have f : (2 ^ k * a) &&& (d &&& (2 ^ k - 1)) = ((2 ^ k * a) &&& (2 ^ k - 1)) &&& d := by rw [Nat.and_comm d (2 ^ k - 1), Nat.and_assoc]
  rw [e1, e2, Nat.zero_and] at f
  exact f
theorem natpow (k : Nat) : ((2 ^ k : Nat) : Int) = (2 : Int) ^ k := by
  induction k with
  | zero => rfl
  | succ k ih => rw [Nat.pow_succ, Int.natCast_mul, ih, Int.pow_succ]; rfl
theorem or_high {p c : Int} {k : Nat} (p0 : 0 ≤ p) (p1 : p < 2 ^ k) (c0 : 0 ≤ c) : Builtin.bitOr p (c * 2 ^ k) = p + c * 2 ^ k := by
  obtain ⟨P, rfl⟩ := Int.eq_ofNat_of_zero_le p0
  obtain ⟨C, rfl⟩ := Int.eq_ofNat_of_zero_le c0
  have e : ((C : Int) * 2 ^ k) = ((2 ^ k * C : Nat) : Int) := by rw [Int.natCast_mul, natpow, Int.mul_comm]
  rw [e, PyProof.Rows.bitOr_and, PyProof.Rows.bitAnd_pp (Int.natCast_nonneg _) (Int.natCast_nonneg _), Int.toNat_natCast, Int.toNat_natCast]
  have hP : P < 2 ^ k := by
    rw [← natpow] at p1
    omega
  rw [Nat.and_comm, and_low C P k hP]
  omega
theorem two4 (x : Nat) : (2 : Int) ^ (4 * x) = 16 ^ x := by
  induction x with
  | zero => rfl
  | succ x ih =>
    rw [show 4 * (x + 1) = 4 * x + 1 + 1 + 1 + 1 by omega, pow2, pow2, pow2, pow2, ih, pow16]
    omega
/-! ### how many bits are one -/
def pc : Nat → Nat
  | 0 => 0
  | n + 1 => (n + 1) % 2 + pc ((n + 1) / 2)
decreasing_by omega
/-- how many cells are painted -/
def manyI : List (Option Int) → Nat
  | [] => 0
  | c :: r => (if c.isSome = true then 1 else 0) + manyI r
end G

/-! OWN: rows of cells and pictures as they lie in the heap. -/
namespace L2
open PySem PySem.Spec PyProof.Rows G
def cellV : Option Int → V
  | none => .non
  | some z => .int z
/-- a list of rows: the rows' own lists at ps -/
structure RowsAt (H : Hp) (l : Addr) (ps : List Addr) (rows : List (List (Option Int))) : Prop where
  lst : H l = some (.lst (ps.map V.ref))
  len : ps.length = rows.length
  row : ∀ (i : Nat) p r, ps[i]? = some p → rows[i]? = some r → H p = some (.lst (r.map cellV))
theorem RowsAt.mono {H H' : Hp} {l : Addr} {ps : List Addr} {rows : List (List (Option Int))} (s : Same H H') (h : RowsAt H l ps rows) : RowsAt H' l ps rows := ⟨s _ _ h.lst, h.len, fun i p r e1 e2 => s _ _ (h.row i p r e1 e2)⟩
structure Rect (w h : Nat) (rows : List (List (Option Int))) : Prop where
  len : rows.length = h
  h1 : 1 ≤ h
  h2 : h ≤ 64
  w1 : 1 ≤ w
  w2 : w ≤ 64
  row : ∀ r ∈ rows, r.length = w ∧ Cells r
/-- a picture: sides, paints, masks -/
def PicAt (H : Hp) (p : Addr) (w : Nat) (rows : List (List (Option Int))) : Prop :=
  ∃ pp pm, H p = some (.tup [.int (w : Int), .int (rows.length : Int), .ref pp, .ref pm]) ∧ H pp = some (.tup ((rows.map paintI).map V.int)) ∧ H pm = some (.tup ((rows.map maskI).map V.int))
theorem PicAt.mono {H H' : Hp} {p : Addr} {w : Nat} {rows : List (List (Option Int))} (s : Same H H') (h : PicAt H p w rows) : PicAt H' p w rows := by
  obtain ⟨pp, pm, h1, h2, h3⟩ := h
  exact ⟨pp, pm, s _ _ h1, s _ _ h2, s _ _ h3⟩
theorem Alk.cell {n : Nat} {H : Hp} (c : Option Int) : Alk (n + 1) H (cellV c) (cellV c) := by
  cases c with
  | none => exact Alk.non
  | some z => exact Alk.int z
theorem RowsAt.alk {n : Nat} {H : Hp} {l m : Addr} {ps qs : List Addr} {rows : List (List (Option Int))} {w h : Nat} (R : Rect w h rows) (a : RowsAt H l ps rows) (b : RowsAt H m qs rows) : Alk (n + 3) H (.ref l) (.ref m) := by
  have h1 := a.len
  have h2 := b.len
  have h3 := R.len
  have h4 := R.h2
  refine .inr ⟨l, m, _, _, rfl, rfl, .inl ⟨a.lst, b.lst⟩, by rw [List.length_map]; omega, by rw [List.length_map, List.length_map]; omega, fun i u v hu hv => ?_⟩
  rw [List.getElem?_map] at hu hv
  cases hp : ps[i]? with
  | none => rw [hp] at hu; cases hu
  | some p =>
    cases hq : qs[i]? with
    | none => rw [hq] at hv; cases hv
    | some q =>
      rw [hp] at hu
      rw [hq] at hv
      cases hu
      cases hv
      have hi : i < ps.length := (List.getElem?_eq_some_iff.mp hp).1
      have hr : rows[i]? = some (rows[i]'(by omega)) := List.getElem?_eq_getElem (by omega)
      have hw := (R.row _ (List.mem_of_getElem? hr)).1
      have h5 := R.w2
      refine .inr ⟨p, q, _, _, rfl, rfl, .inl ⟨a.row i p _ hp hr, b.row i q _ hq hr⟩, by rw [List.length_map]; omega, rfl, fun j u v hu hv => ?_⟩
      rw [hu] at hv
      cases hv
      rw [List.getElem?_map] at hu
      cases hc : (rows[i]'(by omega))[j]? with
      | none => rw [hc] at hu; cases hu
      | some c =>
        rw [hc] at hu
        cases hu
        exact Alk.cell c
theorem PicAt.alk {n : Nat} {H : Hp} {p q : Addr} {w : Nat} {rows : List (List (Option Int))} (hl : rows.length ≤ 64) (a : PicAt H p w rows) (b : PicAt H q w rows) : Alk (n + 3) H (.ref p) (.ref q) := by
  obtain ⟨a1, a2, h1, h2, h3⟩ := a
  obtain ⟨b1, b2, k1, k2, k3⟩ := b
  refine .inr ⟨p, q, _, _, rfl, rfl, .inr ⟨h1, k1⟩, by show 4 ≤ 1000000; decide, rfl, fun i u v hu hv => ?_⟩
  match i, hu, hv with
  | 0, hu, hv => cases hu; cases hv; exact Alk.int _
  | 1, hu, hv => cases hu; cases hv; exact Alk.int _
  | 2, hu, hv => cases hu; cases hv; exact Alk.tints h2 k2 rfl (by rw [List.length_map]; omega)
  | 3, hu, hv => cases hu; cases hv; exact Alk.tints h3 k3 rfl (by rw [List.length_map]; omega)
  | i + 4, hu, hv => cases hu
/-- an item at k by len -/
theorem atI_mod {ns : List Int} (h : 0 < ns.length) (k : Int) : ∃ z, atI (ns.map V.int) (k % ((ns.map V.int).length : Int)) = some (.int z) := by
  have e : ((ns.map V.int).length : Int) = (ns.length : Int) := by rw [List.length_map]
  rw [e]
  have h1 := Int.emod_nonneg k (show (ns.length : Int) ≠ 0 by omega)
  have h2 := Int.emod_lt_of_pos k (show (0 : Int) < ns.length by omega)
  have e2 : k % (ns.length : Int) = (((k % (ns.length : Int)).toNat : Nat) : Int) := by omega
  rw [e2]
  have hj : (k % (ns.length : Int)).toNat < ns.length := by omega
  refine ⟨ns[(k % (ns.length : Int)).toNat], atI_nat ?_⟩
  rw [List.getElem?_map, List.getElem?_eq_getElem hj]
  rfl
/-- one of four -/
theorem at4 {a b c d r : Int} (h0 : 0 ≤ r) (h1 : r < 4) (ha : 0 < a) (hb : 0 < b) (hc : 0 < c) (hd : 0 < d) : ∃ m, atI [V.int a, V.int b, V.int c, V.int d] r = some (.int m) ∧ 0 < m := by
  have e : r = 0 ∨ r = 1 ∨ r = 2 ∨ r = 3 := by omega
  rcases e with rfl | rfl | rfl | rfl
  · exact ⟨a, rfl, ha⟩
  · exact ⟨b, rfl, hb⟩
  · exact ⟨c, rfl, hc⟩
  · exact ⟨d, rfl, hd⟩
/-- the cell of rows at a place, a hole off them -/
def look (w h : Nat) (rows : List (List (Option Int))) (x y : Int) : Option Int := if 0 ≤ x ∧ x < w ∧ 0 ≤ y ∧ y < h then (rows.getD y.toNat []).getD x.toNat none else none
theorem tup_at {zs : List Int} {y : Int} {z : Int} (h0 : 0 ≤ y) (h : zs[y.toNat]? = some z) : atI (zs.map V.int) y = some (.int z) := by
  have e : y = ((y.toNat : Nat) : Int) := by omega
  rw [e]
  exact atI_nat (by rw [List.getElem?_map, h]; rfl)
def spDraw (K : PySem.W.Frag) : Sp := fun vs H Q _ => ∃ (a : Addr) (ns : List Int) (k m : Int), vs = [.ref a, .int k, .int m] ∧ SqL K H a (ns.map V.int) ∧ 0 ≤ k ∧ k < 1000000 ∧ 0 < m ∧ ∀ r, 0 ≤ r → r < m → Q (.int r) H
def spSides (K : PySem.W.Frag) : Sp := fun vs H Q _ => ∃ (a : Addr) (ns : List Int) (k : Int), vs = [.ref a, .int k] ∧ SqL K H a (ns.map V.int) ∧ 0 ≤ k ∧ k < 10000 ∧ ∀ (w h : Int) p, 1 ≤ w → w ≤ 64 → 1 ≤ h → h ≤ 64 → H p = none → Q (.ref p) (upd H p (.tup [.int w, .int h]))
def spRows (K : PySem.W.Frag) : Sp := fun vs H Q _ => ∃ (a : Addr) (ns : List Int) (k w h : Int), vs = [.ref a, .int k, .int w, .int h] ∧ SqL K H a (ns.map V.int) ∧ 0 ≤ k ∧ k < 10000 ∧ 1 ≤ w ∧ w ≤ 64 ∧ 1 ≤ h ∧ h ≤ 64 ∧
  ∀ l ps rows H', Same H H' → H l = none → (∀ p ∈ ps, H p = none) → RowsAt H' l ps rows → Rect w.toNat h.toNat rows → Q (.ref l) H'
def spPacked : Sp := fun vs H Q _ => ∃ l ps rows w h, vs = [.ref l] ∧ RowsAt H l ps rows ∧ Rect w h rows ∧ ∀ p H', Same H H' → PicAt H' p w rows → Q (.ref p) H'
def spCell : Sp := fun vs H Q _ => ∃ p x y w h rows, vs = [.ref p, .int x, .int y] ∧ PicAt H p w rows ∧ Rect w h rows ∧ Q (cellV (look w h rows x y)) H
/-- paint_of: the row's list may be read under two names -/
def spPaint : Sp := fun vs H Q _ => ∃ l r, vs = [.ref l] ∧ H l = some (.lst (r.map cellV)) ∧ Cells r ∧ r.length ≤ 64 ∧ ∀ H', Same H H' → Q (.int (paintI r)) H'
def spMask : Sp := fun vs H Q _ => ∃ l r, vs = [.ref l] ∧ H l = some (.lst (r.map cellV)) ∧ Cells r ∧ r.length ≤ 64 ∧ ∀ H', Same H H' → Q (.int (maskI r)) H'
theorem mod1 (x : Int) : Builtin.bitAnd x 1 = x % 2 := bitAnd_m1 x
theorem mod15 (x : Int) : Builtin.bitAnd x 15 = x % 16 := bitAnd_m4 x
end L2

/-! OWN: a def of the text with its promise as one fact; tests; small bounds; the readings' steps. -/
namespace L2
open PySem PySem.Spec PyProof.Rows
structure Ow (P : Program) (w : World) (K : PySem.W.Frag) (mg : Str → Option Value) (base : Heap) (x : Str) (ps : List Str) (k : Nat) (sp : Sp) : Prop where
  ex : ∃ (f : Addr) (fd : FuncData), mg x = some (.ref f) ∧ PySem.W.keepIn K (.ref f) = true ∧ Binds K fd ps [] ∧ FnOk P w K mg base CX0 k f fd ps sp
theorem Df.ow {P : Program} {w : World} {K : PySem.W.Frag} {mg : Str → Option Value} {base : Heap} {x : Str} {st : Stmt} {ps : List Str} {f : Addr} {fd : FuncData} {k : Nat} {sp : Sp} (D : Df K mg x st ps f fd) (F : FnOk P w K mg base CX0 k f fd ps sp) :
    Ow P w K mg base x ps k sp := ⟨f, fd, D.m, D.F.kp, D.b, F⟩
section
variable {X : Cx} {k j : Nat} {ps : List Str} {sp : Sp} {x : Str} {p pos : Pos} {e : Expr} {es : List Expr} {t : TA}
theorem pe_own (O : Ow X.prog X.w X.K X.mg X.base x ps k sp) (hr : Room j X.A) (hg : Gl X x) (ha : PA X (e :: es) t) (hk : k ≤ j := by decide) (hdb : (x == ("__debug__" : Str)) = false := by decide)
    (he : starEach (e :: es) X.env = (false, eval e X.env) :: starEach es X.env := by rfl) (hpl : (backTo pos (starEach es X.env)).any (·.1) = false := by rfl) :
    PE X (.Call (.Name x p) (e :: es) [] pos) (tCall sp [] E0 t) := by
  obtain ⟨f, fd, m, kp, b, F⟩ := O.ex
  exact pe_call F (hr.mono hk) hg m kp b .nil pass0 ha hdb he hpl
end
theorem iteD {c A B : Prop} [Decidable c] (h1 : c → A) (h2 : ¬ c → B) : if decide c = true then A else B := by
  by_cases h : c
  · rw [decide_eq_true h, if_pos rfl]; exact h1 h
  · rw [decide_eq_false h, if_neg Bool.false_ne_true]; exact h2 h
theorem iteN {c A B : Prop} [Decidable c] (h1 : ¬ c → A) (h2 : c → B) : if (!decide c) = true then A else B := by
  by_cases h : c
  · rw [decide_eq_true h, Bool.not_true, if_neg Bool.false_ne_true]; exact h2 h
  · rw [decide_eq_false h, Bool.not_false, if_pos rfl]; exact h1 h
theorem mulL {i j : Int} (h1 : -18446744073709551616 < i) (h2 : i < 18446744073709551616) : CMul i j := .inl ⟨h1, h2⟩
theorem mulR {i j : Int} (h1 : -18446744073709551616 < j) (h2 : j < 18446744073709551616) : CMul i j := .inr ⟨h1, h2⟩
theorem powS {i j : Int} (h1 : 0 ≤ j) (h2 : j ≤ 1000000) (h3 : i.natAbs < 18446744073709551616) : CPow i j := ⟨h1, h2, h3⟩
theorem szV {xs : List V} (h : xs.length ≤ 100000) : xs.length ≤ sizeLine := Nat.le_trans h (by decide)
theorem rngS {j : Int} (h1 : 0 ≤ j) (h2 : j ≤ 1000000000) : -(2 ^ 62) ≤ j ∧ j < 2 ^ 62 := by
  have : (1000000000 : Int) < 2 ^ 62 := by decide
  omega
end L2
/-! a statement behind which a word of one's own holds -/
namespace L2
open PySem PySem.Spec PyProof.Rows
def tMid (t u : TS) : TS := fun D σ H => ∃ I : St → Hp → Prop, t { D with nx := I } σ H ∧ ∀ σ' H', I σ' H' → u D σ' H'
end L2

/-! OWN: rows that grow, and how they stay. -/
namespace L2
open PySem PySem.Spec PyProof.Rows G
/-- rows at l with rows' lists at ps, all made since H0, which stays -/
structure RowsB (H0 H : Hp) (l : Addr) (ps : List Addr) (rows : List (List (Option Int))) : Prop where
  same : Same H0 H
  fl : H0 l = none
  fp : ∀ p ∈ ps, H0 p = none ∧ p ≠ l
  rat : RowsAt H l ps rows
theorem Same.put {H0 H : Hp} {p : Addr} {o : HO} (s : Same H0 H) (h : H0 p = none) : Same H0 (upd H p o) := fun b u e => by
  rw [upd_ne (ne_of_none e h)]
  exact s b u e
theorem RowsB.put {H0 H : Hp} {l p : Addr} {ps : List Addr} {rows : List (List (Option Int))} {o : HO} (B : RowsB H0 H l ps rows) (h0 : H0 p = none) (hl : p ≠ l) (hp : p ∉ ps) : RowsB H0 (upd H p o) l ps rows where
  same := B.same.put h0
  fl := B.fl
  fp := B.fp
  rat := ⟨by rw [upd_ne (Ne.symm hl)]; exact B.rat.lst, B.rat.len, fun i q r e1 e2 => by
    have hq : q ≠ p := fun e => hp (by rw [← e]; exact List.mem_of_getElem? e1)
    rw [upd_ne hq]
    exact B.rat.row i q r e1 e2⟩
theorem RowsB.push {H0 H : Hp} {l p : Addr} {ps : List Addr} {rows : List (List (Option Int))} {r : List (Option Int)} (B : RowsB H0 H l ps rows) (h0 : H0 p = none) (hl : p ≠ l) (hr : H p = some (.lst (r.map cellV))) :
    RowsB H0 (upd H l (.lst (ps.map V.ref ++ [.ref p]))) l (ps ++ [p]) (rows ++ [r]) where
  same := B.same.put B.fl
  fl := B.fl
  fp := fun q hq => by
    rcases List.mem_append.mp hq with h | h
    · exact B.fp q h
    · rw [List.mem_singleton.mp h]
      exact ⟨h0, hl⟩
  rat := ⟨by rw [upd_same, List.map_append]; rfl, by rw [List.length_append, List.length_append, B.rat.len]; rfl, fun i q s e1 e2 => by
    have hq : q ≠ l := by
      rcases List.mem_append.mp (List.mem_of_getElem? e1) with h | h
      · exact (B.fp q h).2
      · rw [List.mem_singleton.mp h]
        exact hl
    rw [upd_ne hq]
    have hlen := B.rat.len
    by_cases hi : i < ps.length
    · rw [List.getElem?_append_left hi] at e1
      rw [List.getElem?_append_left (by omega)] at e2
      exact B.rat.row i q s e1 e2
    · rw [List.getElem?_append_right (by omega)] at e1
      rw [List.getElem?_append_right (by omega)] at e2
      rw [hlen] at e1
      cases hj : i - rows.length with
      | zero =>
        rw [hj] at e1 e2
        cases e1
        cases e2
        exact hr
      | succ n =>
        rw [hj] at e1
        cases e1⟩
theorem RowsB.mono {H0 H H' : Hp} {l : Addr} {ps : List Addr} {rows : List (List (Option Int))} (B : RowsB H0 H l ps rows) (s : Same H H') : RowsB H0 H' l ps rows := ⟨B.same.trans s, B.fl, B.fp, B.rat.mono s⟩
theorem rowsNil {H0 H : Hp} {l : Addr} (s : Same H0 H) (h : H l = none) : RowsB H0 (upd H l (.lst [])) l [] [] :=
  ⟨s.trans (Same.new h), s.free h, (fun _ hp => nomatch hp), ⟨upd_same, rfl, (fun _ _ _ e => nomatch e)⟩⟩
theorem mul64 {y w : Int} (y0 : 0 ≤ y) (y1 : y ≤ 64) (w0 : 0 ≤ w) (w1 : w ≤ 64) : 0 ≤ y * w ∧ y * w ≤ 4096 := by
  refine ⟨Int.mul_nonneg y0 w0, ?_⟩
  have h := Int.mul_le_mul y1 w1 w0 (by decide : (0 : Int) ≤ 64)
  exact h
theorem Rect.ne {w h : Nat} {rows : List (List (Option Int))} (R : Rect w h rows) : 0 < rows.length := by have := R.len; have := R.h1; omega
theorem RowsAt.at {H : Hp} {l : Addr} {ps : List Addr} {rows : List (List (Option Int))} (a : RowsAt H l ps rows) {i : Nat} (hi : i < rows.length) : ∃ p, ps[i]? = some p ∧ H p = some (.lst ((rows[i]'hi).map cellV)) := by
  have hl := a.len
  exact ⟨ps[i]'(by omega), List.getElem?_eq_getElem _, a.row i _ _ (List.getElem?_eq_getElem _) (List.getElem?_eq_getElem _)⟩
theorem RowsAt.atI {H : Hp} {l : Addr} {ps : List Addr} {rows : List (List (Option Int))} (a : RowsAt H l ps rows) {i : Nat} (hi : i < rows.length) : ∃ p, L2.atI (ps.map V.ref) (i : Int) = some (.ref p) ∧ H p = some (.lst ((rows[i]'hi).map cellV)) := by
  obtain ⟨p, h1, h2⟩ := a.at hi
  exact ⟨p, atI_nat (by rw [List.getElem?_map, h1]; rfl), h2⟩
theorem Rect.row0 {w h : Nat} {rows : List (List (Option Int))} (R : Rect w h rows) {i : Nat} (hi : i < rows.length) : (rows[i]'hi).length = w ∧ Cells (rows[i]'hi) := R.row _ (List.getElem_mem hi)
theorem look_in {w h : Nat} {rows : List (List (Option Int))} {x y : Int} (x0 : 0 ≤ x) (x1 : x < w) (y0 : 0 ≤ y) (y1 : y < h) (hy : y.toNat < rows.length) (hx : x.toNat < (rows[y.toNat]'hy).length) : look w h rows x y = (rows[y.toNat]'hy)[x.toNat]'hx := by
  unfold look
  have e1 : rows.getD y.toNat [] = rows[y.toNat]'hy := by rw [List.getD_eq_getElem?_getD, List.getElem?_eq_getElem hy]; rfl
  rw [if_pos ⟨x0, x1, y0, y1⟩, e1, List.getD_eq_getElem?_getD, List.getElem?_eq_getElem hx]
  rfl
/-- a picture stays where a list is changed -/
theorem PicAt.put {H : Hp} {p q : Addr} {w : Nat} {rows : List (List (Option Int))} {xs : List V} {o : HO} (h : PicAt H p w rows) (hq : H q = some (.lst xs)) : PicAt (upd H q o) p w rows := by
  obtain ⟨a, b, h1, h2, h3⟩ := h
  have ne : ∀ {c : Addr} {ys : List V}, H c = some (.tup ys) → c ≠ q := fun e z => by
    rw [z, hq] at e
    cases e
  exact ⟨a, b, by rw [upd_ne (ne h1)]; exact h1, by rw [upd_ne (ne h2)]; exact h2, by rw [upd_ne (ne h3)]; exact h3⟩
end L2
namespace L2
open PySem PySem.Spec PyProof.Rows G
def inB (x : V) (a b : Int) : Bool := match x with
  | .int i => decide (a ≤ i) && decide (i ≤ b)
  | _ => false
def cellB (x : V) : Bool := match x with
  | .non => true
  | x => inB x 0 15
def spWhole : Sp := fun vs H Q _ => ∃ x T, vs = [x] ∧ tyS H x = some T ∧ Q (.bl (T == "int")) H
def spWithin : Sp := fun vs H Q _ => ∃ x a b T, vs = [x, .int a, .int b] ∧ tyS H x = some T ∧ Q (.bl (inB x a b)) H
def spSide : Sp := fun vs H Q _ => ∃ x T, vs = [x] ∧ tyS H x = some T ∧ Q (.bl (inB x 1 64)) H
def spIsCell : Sp := fun vs H Q _ => ∃ x T, vs = [x] ∧ tyS H x = some T ∧ Q (.bl (cellB x)) H
def spRowGood : Sp := fun vs H Q _ => ∃ (l m : Addr) (r r' : List (Option Int)), vs = [.ref l, .ref m] ∧ H l = some (.lst (r.map cellV)) ∧ H m = some (.lst (r'.map cellV)) ∧ r.length = r'.length ∧ 1 ≤ r.length ∧ r.length ≤ 64 ∧ Cells r ∧ ∀ H', Same H H' → Q (.bl true) H'
def spPictured : Sp := fun vs H Q _ => ∃ l ps rows w h, vs = [.ref l] ∧ RowsAt H l ps rows ∧ Rect w h rows ∧ ∀ p H', Same H H' → H p = none → PicAt H' p w rows → Q (.ref p) H'
def spLook : Sp := fun vs H Q _ => ∃ l ps rows w h x y, vs = [.ref l, .int x, .int y] ∧ RowsAt H l ps rows ∧ Rect w h rows ∧ Q (cellV (look w h rows x y)) H
end L2
namespace L2
open PySem PySem.Spec PyProof.Rows G
end L2
namespace L2
open PySem PySem.Spec PyProof.Rows G
def spPlace (K : PySem.W.Frag) : Sp := fun vs H Q _ => ∃ (a : Addr) (ns : List Int) (k : Int), vs = [.ref a, .int k] ∧ SqL K H a (ns.map V.int) ∧ 0 ≤ k ∧ k < 10000 ∧ ∀ (z : Int) H', Same H H' → Q (.int z) H'
def spCR (K : PySem.W.Frag) : Sp := fun vs H Q _ => ∃ (a : Addr) (ns : List Int) (p l : Addr) (ps : List Addr) (rows : List (List (Option Int))) (w h : Nat), vs = [.ref a, .ref p, .ref l] ∧ SqL K H a (ns.map V.int) ∧ PicAt H p w rows ∧ RowsAt H l ps rows ∧ Rect w h rows ∧ ∀ H', Same H H' → Q (.bl true) H'
end L2

/-! OWN RULES, part 6: a tuple times an int; a def with defaults; a block without free names; a comprehension with a test. -/
namespace L2
open PySem PySem.Spec PyProof.Rows
/-! ### (x, ..) * k -/
section
variable {X : Cx}
/-- (v,) * k, k from 1 on: a tuple of k times v (the same one where k is 1) -/
def rRepT : R2 := fun x y H Q => ∃ a k v, x = .ref a ∧ y = .int k ∧ H a = some (.tup [v]) ∧ 1 ≤ k ∧ k ≤ 10000 ∧ ∀ p H', Same H H' → H' p = some (.tup (List.replicate k.toNat v)) → Q (.ref p) H'
end
/-! ### a def with defaults -/
structure FunD (K : PySem.W.Frag) (x qual : Str) (st : Stmt) (f : Addr) (fd : FuncData) (T : Addr) : Prop where
  ex : ∃ (oc : Value) (od : Option Addr) (kV doc pm : Value) (an : Option Addr) (cdv ct : Value) (osl : Array (Option Value)),
    fd = PySem.W.fnOf x qual (defArgs st) (defBody st) (defScope st) (.ref T) kV doc pm an cdv ct ∧ K.lookup f = some ⟨oc, od, .func fd, osl⟩ ∧ PySem.W.codeIn K cdv qual = true
  kp : PySem.W.keepIn K (.ref f) = true
theorem FunD.ok {P : Program} {w : World} {K : PySem.W.Frag} {mg : Str → Option Value} {base : Heap} {x qual : Str} {st : Stmt} {f T : Addr} {fd : FuncData} {N ps : List Str} {k : Nat} {sp : Sp} (F : FunD K x qual st f fd T) (S : FnScope N ps (defScope st)) (len : ∀ vs H Q E, sp vs H Q E → vs.length = ps.length)
    (hbody : ∀ (cdv : Value) (A : Around) (outer : List Env) (s : Shared) (H : Hp) (vs : List V) (Q : VK) (E : XK), Room k (A.deeper (envOfC qual (defScope st) s.heap.objs.size f cdv)) → sp vs H Q E →
      ∃ t, PSs (cxOf CX0 P w K mg base N qual (defScope st) f cdv A outer s H E).nox (defBody st) t ∧ t { nx := fun _ H' => Q .non H', rt := Q } (start N vs) H) : FnOk P w K mg base CX0 (k + 1) f fd ps sp := by
  obtain ⟨oc, od, kV, doc, pm, an, cdv, ct, osl, rfl, lk, hcd⟩ := F.ex
  refine fn_of lk hcd S len fun A outer s H vs Q E hr hsp => ?_
  obtain ⟨t, h, q⟩ := hbody cdv A outer s H vs Q E hr hsp
  exact ⟨t, h.nox, q⟩
/-- the same def under two counts of arguments: all given (ds = []), or the last ones left out -/
structure Owd (P : Program) (w : World) (K : PySem.W.Frag) (mg : Str → Option Value) (base : Heap) (x : Str) (ps : List Str) (dvs : List V) (k : Nat) (sp : Sp) : Prop where
  ex : ∃ (f : Addr) (fd : FuncData) (ds : List Value), mg x = some (.ref f) ∧ PySem.W.keepIn K (.ref f) = true ∧ Binds K fd ps ds ∧ Vals dvs ds ∧ FnOk P w K mg base CX0 k f fd ps sp
/-! ### a block that reads no name of the def -/
def blkOk0 (sc : Scope) : Bool := sc.kind == .function && sc.names.all (fun y => y.2 != .cell && y.2 != .free && (y.2 != .local || sc.names.lookup y.1 == some .local))
section
variable {X : Cx} {sc : Scope} {cl : List (Str × Addr)} {C : Addr} {N : List Str} {fp : List Addr} {s2 : Shared} {H2 : Hp} {pn : List (Addr × Obj)} {tg l : Expr} {tl : TE}
theorem pi_listB (hl : PE (cxC X sc cl C N fp s2 H2 pn) l tl) : PI (cxC X sc cl C N fp s2 H2 pn) tg l (iList X.K tl) := pi_list hl
end
/-! ### a comprehension with a test -/
end L2
namespace L2
open PySem PySem.Spec PyProof.Rows
/-- a def whose last parameter has the default None -/
structure DfD (K : PySem.W.Frag) (mg : Str → Option Value) (x : Str) (st : Stmt) (ps : List Str) (f : Addr) (fd : FuncData) (T : Addr) : Prop where
  F : FunD K x x st f fd T
  b : Binds K fd ps []
  b1 : Binds K fd ps [.none]
  m : mg x = some (.ref f)
theorem DfD.ow {P : Program} {w : World} {K : PySem.W.Frag} {mg : Str → Option Value} {base : Heap} {x : Str} {st : Stmt} {ps : List Str} {f T : Addr} {fd : FuncData} {k : Nat} {sp : Sp} (D : DfD K mg x st ps f fd T) (F : FnOk P w K mg base CX0 k f fd ps sp) :
    Ow P w K mg base x ps k sp := ⟨f, fd, D.m, D.F.kp, D.b, F⟩
end L2

/-! OWN: what rows are told back as. -/
namespace L2
open PySem PySem.Spec PyProof.Rows G
theorem look_at {w h : Nat} {rows : List (List (Option Int))} {y : Int} {i : Nat} (R : Rect w h rows) (y0 : 0 ≤ y) (hy : y.toNat < rows.length) (hi : i < (rows[y.toNat]'hy).length) : look w h rows (0 + (i : Int)) y = (rows[y.toNat]'hy)[i]'hi := by
  have hw := (R.row0 hy).1
  have hR := R.len
  have e : (0 + (i : Int)).toNat = i := by omega
  have q := look_in (rows := rows) (w := w) (h := h) (x := 0 + (i : Int)) (y := y) (by omega) (by omega) y0 (by omega) hy (by omega)
  rw [q]
  congr 1
theorem atI_m1 {α : Type} {xs : List α} {v : α} (h0 : 0 < xs.length) (h : xs[xs.length - 1]? = some v) : atI xs (-1) = some v := by
  unfold atI ixN
  rw [if_neg (by decide), if_pos (by omega)]
  have e : (-1 + (xs.length : Int)).toNat = xs.length - 1 := by omega
  rw [e]
  exact h
def spRowOf : Sp := fun vs H Q _ => ∃ p y w h rows, vs = [.ref p, .int y] ∧ PicAt H p w rows ∧ Rect w h rows ∧ 0 ≤ y ∧ y < h ∧ ∀ l H', Same H H' → H l = none → H' l = some (.lst ((rows.getD y.toNat []).map cellV)) → Q (.ref l) H'
def spRowsOf : Sp := fun vs H Q _ => ∃ p w h rows, vs = [.ref p] ∧ PicAt H p w rows ∧ Rect w h rows ∧ ∀ l ps H', RowsB H H' l ps rows → Q (.ref l) H'
def spBits : Sp := fun vs H Q _ => ∃ m : Int, vs = [.int m] ∧ 0 ≤ m ∧ Q (.int (pc m.toNat : Int)) H
def spManyP : Sp := fun vs H Q _ => ∃ p w h rows, vs = [.ref p] ∧ PicAt H p w rows ∧ Rect w h rows ∧ ∀ H', Same H H' → Q (.int ((rows.map fun r => (manyI r : Int)).sum)) H'
def spLMany : Sp := fun vs H Q _ => ∃ l ps w h rows, vs = [.ref l] ∧ RowsAt H l ps rows ∧ Rect w h rows ∧ ∀ H', Same H H' → Q (.int ((rows.map fun r => (manyI r : Int)).sum)) H'
end L2
namespace L2
open PySem PySem.Spec PyProof.Rows G
def spFilled : Sp := fun vs H Q _ => ∃ (w h : Int) (c : Option Int), vs = [.int w, .int h, cellV c] ∧ 1 ≤ w ∧ w ≤ 64 ∧ 1 ≤ h ∧ h ≤ 64 ∧ Cell c ∧ ∀ p H', Same H H' → PicAt H' p w.toNat (List.replicate h.toNat (List.replicate w.toNat c)) → Q (.ref p) H'
end L2

/-! OWN: rows as a function of places; turned, mirrored, upended. -/
namespace L2
open G
abbrev Rws := List (List (Option Int))
def cellN (rows : Rws) (x y : Nat) : Option Int := (((rows[y]?).getD [])[x]?).join
def gridL (w h : Nat) (f : Nat → Nat → Option Int) : Rws := (List.range h).map fun y => (List.range w).map fun x => f x y
theorem grid_len (w h : Nat) (f : Nat → Nat → Option Int) : (gridL w h f).length = h := by unfold gridL; rw [List.length_map, List.length_range]
theorem grid_row {w h : Nat} {f : Nat → Nat → Option Int} {y : Nat} (hy : y < h) : (gridL w h f)[y]? = some ((List.range w).map fun x => f x y) := by
  unfold gridL
  rw [List.getElem?_map, List.getElem?_range hy]
  rfl
theorem row_range {r : List (Option Int)} {w : Nat} (h : r.length = w) : r = (List.range w).map fun x => (r[x]?).join := by
  refine List.ext_getElem? fun i => ?_
  by_cases hi : i < w
  · have hr : i < r.length := by omega
    rw [List.getElem?_map, List.getElem?_range hi]
    show r[i]? = some (r[i]?).join
    rw [List.getElem?_eq_getElem hr]
    rfl
  · rw [List.getElem?_eq_none (by omega), List.getElem?_eq_none (by rw [List.length_map, List.length_range]; omega)]
theorem Rect.grid {w h : Nat} {rows : Rws} (R : Rect w h rows) : rows = gridL w h (cellN rows) := by
  have hR := R.len
  refine List.ext_getElem? fun y => ?_
  by_cases hy : y < h
  · rw [grid_row hy]
    have hl : y < rows.length := by omega
    rw [List.getElem?_eq_getElem hl]
    congr 1
    have hw := (R.row _ (List.getElem_mem hl)).1
    have e : ∀ x, cellN rows x y = ((rows[y]'hl)[x]?).join := fun x => by
      unfold cellN
      rw [List.getElem?_eq_getElem hl]
      rfl
    simp only [e]
    exact row_range hw
  · rw [List.getElem?_eq_none (by omega), List.getElem?_eq_none (by rw [grid_len]; omega)]
theorem Rect.cell {w h : Nat} {rows : Rws} (R : Rect w h rows) (x y : Nat) : Cell (cellN rows x y) := by
  unfold cellN
  cases hy : rows[y]? with
  | none => exact fun z e => nomatch e
  | some r =>
    show Cell ((r[x]?).join)
    cases hx : r[x]? with
    | none => exact fun z e => nomatch e
    | some c => exact (R.row r (List.mem_of_getElem? hy)).2 c (List.mem_of_getElem? hx)
theorem grid_rect {w h : Nat} {f : Nat → Nat → Option Int} (h1 : 1 ≤ h) (h2 : h ≤ 64) (w1 : 1 ≤ w) (w2 : w ≤ 64) (hc : ∀ x y, Cell (f x y)) : Rect w h (gridL w h f) :=
  ⟨grid_len w h f, h1, h2, w1, w2, fun r hr => by
    unfold gridL at hr
    obtain ⟨y, _, rfl⟩ := List.mem_map.mp hr
    refine ⟨by rw [List.length_map, List.length_range], fun c hc' => ?_⟩
    obtain ⟨x, _, rfl⟩ := List.mem_map.mp hc'
    exact hc x y⟩
def turnR (w h : Nat) (rows : Rws) : Rws := gridL h w fun x y => cellN rows y (h - 1 - x)
def mirR (w h : Nat) (rows : Rws) : Rws := gridL w h fun x y => cellN rows (w - 1 - x) y
def updR (w h : Nat) (rows : Rws) : Rws := gridL w h fun x y => cellN rows x (h - 1 - y)
theorem Rect.turn {w h : Nat} {rows : Rws} (R : Rect w h rows) : Rect h w (turnR w h rows) := grid_rect R.w1 R.w2 R.h1 R.h2 fun _ _ => R.cell _ _
theorem Rect.upd {w h : Nat} {rows : Rws} (R : Rect w h rows) : Rect w h (updR w h rows) := grid_rect R.h1 R.h2 R.w1 R.w2 fun _ _ => R.cell _ _
end L2

/-! OWN: rows that a comprehension makes; turned, mirrored, upended. -/
namespace L2
open PySem PySem.Spec PyProof.Rows G
structure Made (H H2 : Hp) (f : Nat → List (Option Int)) (i : Nat) (qs : List Addr) : Prop where
  same : Same H H2
  len : qs.length = i
  fr : ∀ q ∈ qs, H q = none
  at' : ∀ (j : Nat) q, qs[j]? = some q → H2 q = some (.lst ((f j).map cellV))
  nd : qs.Nodup
theorem Made.nil {H : Hp} {f : Nat → List (Option Int)} : Made H H f 0 [] := ⟨Same.refl _, rfl, (fun _ h => nomatch h), (fun _ _ h => nomatch h), List.nodup_nil⟩
theorem Made.push {H H2 H3 : Hp} {f : Nat → List (Option Int)} {i : Nat} {qs : List Addr} {l : Addr} (M : Made H H2 f i qs) (s : Same H2 H3) (n : H2 l = none) (g : H3 l = some (.lst ((f i).map cellV))) : Made H H3 f (i + 1) (qs ++ [l]) where
  same := M.same.trans s
  len := by rw [List.length_append, M.len]; rfl
  fr := fun q hq => by
    rcases List.mem_append.mp hq with h | h
    · exact M.fr q h
    · rw [List.mem_singleton.mp h]
      exact M.same.free n
  at' := fun j q e => by
    have hl := M.len
    by_cases hj : j < qs.length
    · rw [List.getElem?_append_left hj] at e
      exact s _ _ (M.at' j q e)
    · rw [List.getElem?_append_right (by omega)] at e
      cases hk : j - qs.length with
      | zero =>
        rw [hk] at e
        cases e
        have ej : j = i := by omega
        rw [ej]
        exact g
      | succ n =>
        rw [hk] at e
        cases e
  nd := by
    refine List.nodup_append.mpr ⟨M.nd, by simp, fun q hq r hr e => ?_⟩
    rw [List.mem_singleton.mp hr] at e
    obtain ⟨j, hj, ej⟩ := List.mem_iff_getElem.mp hq
    have := M.at' j q (by rw [List.getElem?_eq_getElem hj, ej])
    rw [e, n] at this
    cases this
theorem Made.rows {H H2 : Hp} {f : Nat → List (Option Int)} {n : Nat} {qs : List Addr} {l : Addr} (M : Made H H2 f n qs) (nl : H2 l = none) : RowsB H (upd H2 l (.lst (qs.map V.ref))) l qs ((List.range n).map f) where
  same := M.same.trans (Same.new nl)
  fl := M.same.free nl
  fp := fun p hp => ⟨M.fr p hp, fun e => by
    obtain ⟨j, hj, ej⟩ := List.mem_iff_getElem.mp hp
    have := M.at' j p (by rw [List.getElem?_eq_getElem hj, ej])
    rw [e, nl] at this
    cases this⟩
  rat := ⟨upd_same, by rw [M.len, List.length_map, List.length_range], fun i p r e1 e2 => by
    have hi : i < n := by
      have := (List.getElem?_eq_some_iff.mp e1).1
      have := M.len
      omega
    rw [List.getElem?_map, List.getElem?_range hi] at e2
    cases e2
    exact (Same.new nl) _ _ (M.at' i p e1)⟩
theorem PicAt.of {H : Hp} {p : Addr} {w : Nat} {rows rows' : List (List (Option Int))} (h : PicAt H p w rows) (e : rows = rows') : PicAt H p w rows' := e ▸ h
def spPk : Sp := fun vs H Q _ => ∃ (l : Addr) (ps : List Addr) (rows : List (List (Option Int))) (w h : Nat), vs = [.int (w : Int), .ref l] ∧ RowsAt H l ps rows ∧ Rect w h rows ∧ ∀ p H', Same H H' → H p = none → PicAt H' p w rows → Q (.ref p) H'
def spColUp : Sp := fun vs H Q _ => ∃ (l : Addr) (x : Nat) (ps : List Addr) (rows : List (List (Option Int))) (w h : Nat), vs = [.ref l, .int (x : Int)] ∧ RowsAt H l ps rows ∧ Rect w h rows ∧ x < w ∧ ∀ l' H', Same H H' → H l' = none → H' l' = some (.lst (((List.range h).map fun i => cellN rows x (h - 1 - i)).map cellV)) → Q (.ref l') H'
def spTurned : Sp := fun vs H Q _ => ∃ p w h rows, vs = [.ref p] ∧ PicAt H p w rows ∧ Rect w h rows ∧ ∀ q H', Same H H' → PicAt H' q h (turnR w h rows) → Q (.ref q) H'
def spMirrored : Sp := fun vs H Q _ => ∃ p w h rows, vs = [.ref p] ∧ PicAt H p w rows ∧ Rect w h rows ∧ ∀ q H', Same H H' → PicAt H' q w (mirR w h rows) → Q (.ref q) H'
def spUpended : Sp := fun vs H Q _ => ∃ p w h rows, vs = [.ref p] ∧ PicAt H p w rows ∧ Rect w h rows ∧ ∀ q H', Same H H' → PicAt H' q w (updR w h rows) → Q (.ref q) H'
/-- a cell of rows by two indices -/
theorem RowsAt.cell {H : Hp} {l : Addr} {ps : List Addr} {rows : List (List (Option Int))} {w h : Nat} (a : RowsAt H l ps rows) (R : Rect w h rows) {x y : Nat} (hx : x < w) (hy : y < h) :
    ∃ p xs, ps[y]? = some p ∧ L2.atI (ps.map V.ref) (y : Int) = some (.ref p) ∧ H p = some (.lst xs) ∧ L2.atI xs (x : Int) = some (cellV (cellN rows x y)) := by
  have hR := R.len
  have hl : y < rows.length := by omega
  obtain ⟨p, e0, g⟩ := a.at hl
  have e1 : L2.atI (ps.map V.ref) (y : Int) = some (.ref p) := atI_nat (by rw [List.getElem?_map, e0]; rfl)
  have hw := (R.row0 hl).1
  refine ⟨p, _, e0, e1, g, atI_nat ?_⟩
  have e : cellN rows x y = (rows[y]'hl)[x]'(by omega) := by
    unfold cellN
    rw [List.getElem?_eq_getElem hl]
    show ((rows[y]'hl)[x]?).join = _
    rw [List.getElem?_eq_getElem (by omega)]
    rfl
  rw [List.getElem?_map, List.getElem?_eq_getElem (by omega), e]
  rfl
end L2

/-! OWN RULES, sorting: alike keys stay in their order. The payloads are ints; at the start the payload at place i is i. -/
namespace L2
open PySem PySem.Spec PyProof.Rows
/-- the payload's number at place i -/
def J (xs : Array Keyed) (i : Nat) : Int := match xs[i]? with
  | some p => numOf p.2
  | none => 0
/-- the first k are in order, alike ones by their payloads -/
def StabTo (xs : Array Keyed) (k : Nat) : Prop := ∀ i j, i < j → j < k → K xs i < K xs j ∨ (K xs i = K xs j ∧ J xs i < J xs j)
/-- .. and in the order the other way round -/
def Down (xs : Array Keyed) (k : Nat) : Prop := ∀ i j, i < j → j < k → K xs j < K xs i ∨ (K xs j = K xs i ∧ J xs j < J xs i)
/-- the payloads below place k are below k, from k on they are the places -/
structure Low (n : Nat) (xs : Array Keyed) (k : Nat) : Prop where
  lo : ∀ i, i < k → i < n → J xs i < k
  hi : ∀ i, k ≤ i → i < n → J xs i = i
theorem StabTo.le {xs : Array Keyed} {k : Nat} (h : StabTo xs k) : ∀ i j, i ≤ j → j < k → K xs i ≤ K xs j := fun i j hij hj => by
  rcases Nat.lt_or_eq_of_le hij with z | rfl
  · rcases h i j z hj with a | a
    · omega
    · omega
  · exact Int.le_refl _
theorem Low.next {n : Nat} {xs : Array Keyed} {k : Nat} (h : Low n xs k) : Low n xs (k + 1) :=
  ⟨fun i hi hn => by
    by_cases e : i = k
    · have := h.hi i (by omega) hn; omega
    · have := h.lo i (by omega) hn; omega, fun i hi hn => h.hi i (by omega) hn⟩
theorem Low.up {n : Nat} {xs : Array Keyed} {k : Nat} (h : Low n xs k) : ∀ m, k ≤ m → Low n xs m := by
  intro m hm
  induction m with
  | zero => have : k = 0 := by omega
            subst this; exact h
  | succ m ih =>
    by_cases e : k = m + 1
    · subst e; exact h
    · exact (ih (by omega)).next
section
variable {prog : Program} {w : World} {A : Around} {E : Value → Shared → Prop} {s : Shared} {a₀ : Array Keyed}
/-- what is known of the array while one sorts: the first k are not told of here -/
structure SB (a₀ : Array Keyed) (k : Nat) (st : SortSt) : Prop where
  b : SBase a₀ st
  low : Low a₀.size (arrOf st) k
/-- going down: completed groups of alike ones are turned round, the last one (neq + 1 long) is not yet -/
structure Desc (xs : Array Keyed) (x neq : Nat) : Prop where
  le : neq + 1 ≤ x
  old : ∀ i j, i < j → j < x → i < x - (neq + 1) → K xs j < K xs i ∨ (K xs j = K xs i ∧ J xs j < J xs i)
  cut : ∀ i j, i < x - (neq + 1) → x - (neq + 1) ≤ j → j < x → K xs j < K xs i
  new : ∀ i j, i < j → j < x → x - (neq + 1) ≤ i → K xs j = K xs i ∧ J xs i < J xs j
theorem Desc.one {xs : Array Keyed} {x : Nat} (h : Desc xs x 0) : Down xs x := fun i j hij hj => h.old i j hij hj (by omega)
theorem Down.desc {xs : Array Keyed} {x : Nat} (h : Down xs x) (h1 : 1 ≤ x) (hc : ∀ i, i + 1 < x → K xs (x - 1) < K xs i) : Desc xs x 0 :=
  ⟨by omega, fun i j a b c => h i j a b, fun i j a b c => by
    have : j = x - 1 := by omega
    subst this; exact hc i (by omega), fun i j a b c => by omega⟩
theorem Down.more {xs : Array Keyed} {x : Nat} (h : Down xs x) (h1 : 1 ≤ x) (hl : K xs x < K xs (x - 1)) : Desc xs (x + 1) 0 := by
  have hc : ∀ i, i < x → K xs x < K xs i := fun i hi => by
    by_cases e : i = x - 1
    · subst e; exact hl
    · rcases h i (x - 1) (by omega) (by omega) with z | z <;> omega
  refine Down.desc (fun i j a b => ?_) (by omega) fun i hi => ?_
  · by_cases e : j < x
    · exact h i j a e
    · have : j = x := by omega
      subst this; exact .inl (hc i a)
  · exact hc i (by omega)
def SDoneS (a₀ : Array Keyed) (st : SortSt) : Prop :=
  (arrOf st).Perm a₀ ∧ failedOf st = none ∧ pendingOf st = #[(0, a₀.size, 0)] ∧ StabTo (arrOf st) a₀.size
end
end L2

/-! OWN RULES: list(range(n)), sorted(l) of ints, a range collected. -/
namespace L2
open PySem PySem.Spec PyProof.Rows
section
variable {prog : Program} {w : World} {A : Around} {E : Value → Shared → Prop} {s : Shared}
end
/-- 0, 1, .., n - 1 -/
def upTo (n : Nat) : List V := (List.range n).map fun i => V.int (i : Nat)
theorem upTo_len (n : Nat) : (upTo n).length = n := by unfold upTo; simp
theorem vals_upTo {acc : Array Value} {n : Nat} (h : ItemsOf (fun i v => ∃ t, v = .int (0 + i * 1) t) acc n) : Vals (upTo n) acc.toList := by
  have key : ∀ (m : Nat) (us : List Value), us.length = m → (∀ j v, us[j]? = some v → ∃ t, v = Value.int (j : Nat) t) → Vals (upTo m) us := by
    intro m
    induction m with
    | zero =>
      intro us hu _
      cases us with
      | nil => exact .nil
      | cons => simp at hu
    | succ m ih =>
      intro us hu hv
      have hne : us ≠ [] := fun z => by rw [z] at hu; simp at hu
      have e1 : us = us.dropLast ++ [us.getLast hne] := (List.dropLast_concat_getLast hne).symm
      have e2 : upTo (m + 1) = upTo m ++ [V.int (m : Nat)] := by unfold upTo; rw [List.range_succ, List.map_append]; rfl
      have hd : us.dropLast.length = m := by rw [List.length_dropLast, hu]; rfl
      rw [e2, e1]
      refine Vals.append (ih _ hd fun j v q => hv j v ?_) (.cons ?_ .nil)
      · have hj : j < us.dropLast.length := (List.getElem?_eq_some_iff.mp q).1
        rw [e1, List.getElem?_append_left hj]
        exact q
      · refine hv m _ ?_
        have : us[m]? = (us.dropLast ++ [us.getLast hne])[m]? := by rw [← e1]
        rw [this, List.getElem?_append_right (by omega), hd]
        simp
  refine key n acc.toList (by rw [Array.length_toList]; exact h.1) fun j v q => ?_
  rw [Array.getElem?_toList] at q
  obtain ⟨t, e⟩ := h.2 j v q
  exact ⟨t, by rw [e]; simp⟩
section
variable {X : Cx}
/-- list(range(e)) -/
def tListRng (te : TE) : TE := fun σ H Q => te σ H fun x H1 => ∃ n : Nat, x = .int (n : Nat) ∧ n ≤ 1000000 ∧ ∀ l, H1 l = none → Q (.ref l) (upd H1 l (.lst (upTo n)))
theorem rng_size (n : Nat) : Builtin.Range.rangeSize 0 (n : Int) 1 = n := by
  rw [rangeSize_one]
  split <;> omega
theorem pe_listRng {e : Expr} {te : TE} {p1 p2 p3 p4 : Pos} (hc : X.calm = true) (hgl : Gl X "list") (hml : X.mg "list" = none) (hgr : Gl X "range") (hmr : X.mg "range" = none) (ha : PE X e te)
    (hs1 : starEach [Expr.Call (.Name "range" p2) [e] [] p3] X.env = [(false, eval (.Call (.Name "range" p2) [e] [] p3) X.env)] := by rfl) (hs2 : starEach [e] X.env = [(false, eval e X.env)] := by rfl) :
    PE X (.Call (.Name "list" p1) [.Call (.Name "range" p2) [e] [] p3] [] p4) (tListRng te) := by
  intro pins s σ H Q I h
  refine wpAny_Call_Name_kw (ld_blt I hgl hml boot_list ?_)
  refine PyProof.Rows.callWith_type1 ?_ hs1 rfl
  rw [hs1]
  refine Calls.spliced_cons ?_
  refine wpAny_Call_Name_kw (ld_blt I hgr hmr boot_range ?_)
  refine PyProof.Rows.callWith_type1 ?_ hs2 rfl
  rw [hs2]
  refine Calls.spliced_cons (thn (ha pins s σ H _ I h) fun u s1 ⟨x, H1, I1, r1, q1⟩ => Calls.spliced_nil ?_)
  obtain ⟨n, rfl, hn, q⟩ := q1
  obtain ⟨t, rfl⟩ := r1
  refine call_range_1 (Calls.spliced_nil ?_)
  refine call_list_range (n := n) (I1.ok.hd hc) (IsRange.new ..) (small_one (by omega) (by omega) (by omega) (by omega)) (rng_size n) (by omega) fun h' tk acc c' hk hS hacc => ?_
  have hsz : s1.heap.objs.size ≤ (s1.heap.push { cls := .type "range", data := .fields #[.int 0 s1.toks, .int (n : Nat) t, .int 1 (s1.toks + 1)] }).objs.size := by rw [Heap.size_push]; omega
  have hf : H1 (s1.heap.push { cls := .type "range", data := .fields #[.int 0 s1.toks, .int (n : Nat) t, .int 1 (s1.toks + 1)] }).objs.size = none := I1.hok.fresh hsz
  refine ⟨.ref _, _, I1.laid (t' := tk) (o := .lst (upTo n)) (fun b o e => hk b o (Heap.get?_push_of_some _ e)) hsz ?_, rfl, q _ hf⟩
  exact ⟨by rw [upTo_len, sizeLine_eq]; omega, acc.toList, c', vals_upTo hacc, by simpa using hS⟩
/-- sorted(l), l a list of ints -/
def tSorted (K : PySem.W.Frag) (te : TE) : TE := fun σ H Q => te σ H fun x H1 => ∃ p ns, x = .ref p ∧ SqL K H1 p (ns.map V.int) ∧ ns.length < 64 ∧ ∀ l ms, H1 l = none → List.Perm ms ns → ms.Pairwise (· ≤ ·) → Q (.ref l) (upd H1 l (.lst (ms.map V.int)))
end
end L2

/-! OWN RULE: what stands at a new address becomes tracked. -/
namespace L2
open PySem PySem.Spec PyProof.Rows
section
variable {X : Cx} {pins : List (Addr × Obj)} {σ : St} {H : Hp} {s : Shared}
end
end L2

/-! OWN RULES: a lambda made in a def and called while that def runs; the def's code table. -/
namespace L2
open PySem PySem.Spec PyProof.Rows
/-- the context of a lambda's body: N are its parameters, then the names of the def that made it -/
def cxLam (X : Cx) (ps : List Str) (qual : Str) (scope : Scope) (f : Addr) (cd : Value) (cl : List (Str × Addr)) (A : Around) (s : Shared) (H : Hp) : Cx where
  prog := X.prog
  w := X.w
  K := X.K
  mg := X.mg
  base := X.base
  A := A.deeper (PySem.W.envX qual scope s.heap.objs.size f cd cl)
  N := ps ++ X.N
  s₀ := s
  H₀ := H
  env := PySem.W.envX qual scope s.heap.objs.size f cd cl
  outer := X.stack
  stack := PySem.W.envX qual scope s.heap.objs.size f cd cl :: X.stack
  ex := []
  calm := true
  fn := fun _ => false
  pn := []
  xe := fun _ _ => False
/-- a lambda's scope: parameters, names of the def around it, built-ins -/
structure LamScope (X : Cx) (ps : List Str) (scope : Scope) (cl : List (Str × Addr)) : Prop where
  kind : scope.kind = .function
  co : scope.isCoroutine = false
  gen : scope.isGenerator = false
  nd : ps.Nodup
  par : ∀ x ∈ ps, scope.names.lookup x = some .local
  nocell : ∀ y ∈ scope.names, y.2 ≠ .cell
  free : ∀ x, scope.names.lookup x = some .free → ∃ c, cl.lookup x = some c
  sub : ∀ x c, cl.lookup x = some c → X.env.cells.lookup x = some c ∧ (X.env.kindOf x = some .cell ∨ X.env.kindOf x = some .free)
  dis : ∀ x ∈ X.N, scope.names.lookup x ≠ some .local
theorem zip_lookup {x : Str} {v : Value} : ∀ {ps : List Str} {us : List Value} {i : Nat}, ps.Nodup → ps[i]? = some x → us[i]? = some v → (ps.zip us).reverse.lookup x = some v
  | [], _, _, _, h, _ => by simp at h
  | _ :: _, [], _, _, _, h => by simp at h
  | p :: ps, u :: us, 0, nd, h1, h2 => by
    simp at h1 h2
    subst h1 h2
    rw [List.zip_cons_cons, List.reverse_cons, List.lookup_append]
    have z : (ps.zip us).reverse.lookup p = none := by
      rw [List.lookup_eq_none_iff]
      intro q hq
      have hm := (List.of_mem_zip (List.mem_reverse.mp (show (q.1, q.2) ∈ (ps.zip us).reverse from hq))).1
      exact bne_iff_ne.mpr fun (e : p = q.1) => (List.nodup_cons.mp nd).1 (by rw [e]; exact hm)
    rw [z]
    simp [List.lookup_cons]
  | p :: ps, u :: us, i + 1, nd, h1, h2 => by
    rw [List.zip_cons_cons, List.reverse_cons, List.lookup_append, zip_lookup (List.nodup_cons.mp nd).2 (by simpa using h1) (by simpa using h2)]
    rfl
section
variable {X : Cx} {pins : List (Addr × Obj)} {σ : St} {H : Hp} {s : Shared} {A : Around}
end
/-! ### the code table -/
/-- a code object of that name stands at c -/
def CodeAt (c : Addr) (qual : Str) (h : Heap) : Prop := ∃ o vs t, h.get? c = some o ∧ o.data = .fields vs ∧ vs[1]? = some (.str qual t)
theorem CodeAt.rec' {c : Addr} {qual : Str} {h : Heap} (x : CodeAt c qual h) : h.CodeRec (.ref c) qual := let ⟨o, vs, t, a, b, d⟩ := x; ⟨c, o, vs, t, rfl, a, b, d⟩
theorem CodeAt.of {c : Addr} {qual : Str} {h : Heap} (x : h.CodeRec (.ref c) qual) : CodeAt c qual h := by
  obtain ⟨c2, o, vs, t, e, a, b, d⟩ := x
  cases e
  exact ⟨o, vs, t, a, b, d⟩
/-- the table at P: empty, or with the code of the lambda at that place -/
def TabOk (P : Addr) (pos : Pos) (qual : Str) (H : Hp) : Prop :=
  H P = some (.tbl #[]) ∨ ∃ c, H P = some (.tbl #[rawInt pos.line, rawInt pos.col, .ref c]) ∧ H c = some (.ext (CodeAt c qual))
/-- all that was tracked, the table at P aside, is as it was -/
def SameP (P : Addr) (H H' : Hp) : Prop := ∀ b o, b ≠ P → H b = some o → H' b = some o
theorem SameP.refl (P : Addr) (H : Hp) : SameP P H H := fun _ _ _ h => h
theorem SameP.trans {P : Addr} {H H1 H2 : Hp} (a : SameP P H H1) (b : SameP P H1 H2) : SameP P H H2 := fun c o n h => b c o n (a c o n h)
theorem Same.toP {P : Addr} {H H' : Hp} (a : Same H H') : SameP P H H' := fun b o _ h => a b o h
theorem TabOk.keep {P : Addr} {pos : Pos} {qual : Str} {H H' : Hp} (t : TabOk P pos qual H) (e : Same H H') : TabOk P pos qual H' := by
  rcases t with t | ⟨c, t1, t2⟩
  · exact .inl (e _ _ t)
  · exact .inr ⟨c, e _ _ t1, e _ _ t2⟩
theorem TabOk.is {P : Addr} {pos : Pos} {qual : Str} {H : Hp} (t : TabOk P pos qual H) : ∃ ps, H P = some (.tbl ps) := by
  rcases t with t | ⟨c, t1, _⟩
  · exact ⟨_, t⟩
  · exact ⟨_, t1⟩
theorem TabOk.ne {P : Addr} {pos : Pos} {qual : Str} {H : Hp} (t : TabOk P pos qual H) {b : Addr} {o : HO} (h : H b = some o) (n : ∀ ps, o ≠ .tbl ps) : b ≠ P := by
  obtain ⟨ps, e⟩ := t.is
  exact ne_of h e (n ps)
/-- what is known of the base for a def whose code is c with the table P -/
structure BaseT (mg : Str → Option Value) (base : Heap) (c P : Addr) : Prop where
  code : PySem.W.CodeHd base c P
  blt : base.BuiltinsAt mg P
section
variable {X : Cx} {pins : List (Addr × Obj)} {σ : St} {H : Hp} {s : Shared}
theorem ext_code {P c : Addr} {qual : Str} {h : Heap} {prog : Program} {w : World} {H : Hp} (x : CodeAt c qual h) : ObjOk prog w H h c (.ext (CodeAt c qual)) :=
  ⟨x, (let ⟨o, _, _, e, _⟩ := x; ⟨o, e⟩), fun h1 h2 y k => let ⟨o, vs, t, e, r⟩ := y; ⟨o, vs, t, k o e, r⟩⟩
/-- the table has grown by the code at c -/
theorem Inv.grown {P c : Addr} {qual : Str} {ps more : Array Value} {h' : Heap} {tk : Nat} (I : Inv X pins σ H s) (hP : H P = some (.tbl ps)) (hx : Heap.ExtBut P s.heap h') (hc : s.heap.objs.size ≤ c) (hcd : CodeAt c qual h') (ht : h'.get? P = some (PySem.W.tabObj (ps ++ more))) :
    Inv X pins σ (upd (upd H P (.tbl (ps ++ more))) c (.ext (CodeAt c qual))) { s with heap := h', toks := tk } := by
  have lt : ∀ {b : Addr} {o : Obj}, s.heap.get? b = some o → b ≠ c := fun e z => absurd (Nat.lt_of_lt_of_le (Heap.lt_size e) hc) (by rw [z]; exact Nat.lt_irrefl _)
  have ltH : ∀ {b : Addr} {o : HO}, H b = some o → b ≠ c := fun e z => absurd (Nat.lt_of_lt_of_le (I.hok.lt e) hc) (by rw [z]; exact Nat.lt_irrefl _)
  have nP : ∀ {b : Addr}, H b = none → b ≠ P := fun n z => by rw [z, hP] at n; cases n
  have up : ∀ {b : Addr}, b ≠ c → b ≠ P → upd (upd H P (.tbl (ps ++ more))) c (.ext (CodeAt c qual)) b = H b := fun a b => by rw [upd_ne a, upd_ne b]
  have thr : ∀ b o, s.heap.get? b = some o → ∃ o', h'.get? b = some o' := fun b o e => by
    by_cases z : b = P
    · exact ⟨_, by rw [z]; exact ht⟩
    · exact ⟨o, hx b o z e⟩
  have kindP : ∀ {b : Addr} {o : HO}, H b = some o → (∀ q, o ≠ .tbl q) → b ≠ P := fun e n => ne_of e hP (n _)
  refine I.step (g' := s.gens) (d' := s.drawn) (t' := tk) (ch := []) (fun _ z => nomatch z) (fun b o _ _ _ e n => hx b o (nP n) e) (fun b o _ _ _ e n => ⟨o.slots, hx b o (nP n) e⟩) (fun b o _ e n => by rw [up (lt e) (nP n)]; exact n) (fun b o _ e => thr b o e)
    (fun b xs e => by rw [up (ltH e) (kindP e fun _ z => nomatch z)]; exact e) (fun b o u e => by rw [up (ltH e) (kindP e fun _ z => nomatch z)]; exact e) (fun b qs e => ?_) (fun m hm => ?_) (fun b u e => ?_) I.bare
  · by_cases z : b = P
    · subst z
      rw [hP] at e
      cases e
      exact ⟨more, by rw [upd_ne (ltH hP), upd_same]⟩
    · exact ⟨#[], by rw [up (ltH e) z, e]; simp⟩
  · obtain ⟨o, es, ep, ho, r⟩ := hm
    exact ⟨o, es, ep, hx _ _ (nP I.free) ho, r⟩
  · by_cases zc : b = c
    · subst zc
      rw [upd_same] at e
      cases e
      exact ext_code (P := P) hcd
    · by_cases zP : b = P
      · subst zP
        rw [upd_ne zc, upd_same] at e
        cases e
        exact ht
      · rw [up zc zP] at e
        refine (I.hok b u e).stay (fun a v ha q => hx a v ?_ q) (fun a q => by rw [up (ltH q) (kindP q fun _ z => nomatch z)]; exact q) fun a xs q => by rw [up (ltH q) (kindP q fun _ z => nomatch z)]; exact q
        rcases ha with rfl | ha
        · exact zP
        · exact kindP ha fun _ z => nomatch z
end
end L2

/-! OWN RULES: sorted(range(n), key=lambda ..): the numbers by their keys, alike ones in their order. -/
namespace L2
open PySem PySem.Spec PyProof.Rows
/-- the numbers below n by their keys, of alike ones the lesser number first -/
def Order (key : Nat → Int) (n : Nat) (ms : List Nat) : Prop := ms.Perm (List.range n) ∧ ms.Pairwise fun i j => key i < key j ∨ (key i = key j ∧ i < j)
def natV (ms : List Nat) : List V := ms.map fun i => V.int (i : Nat)
section
variable {keys items : Array Value} {n : Nat} {key : Nat → Int}
end
section
variable {X : Cx} {pins : List (Addr × Obj)} {σ : St} {H : Hp} {s : Shared} {A : Around} {E : Value → Shared → Prop} {a kS f : Addr} {keys items : Array Value} {n e e1 : Nat} {key : Nat → Int} {P : PySem.Fin → Shared → Prop}
end
end L2

/-! OWN RULES: the expression sorted(range(e), key=lambda x: ..) in a def; a def whose code object is known. -/
namespace L2
open PySem PySem.Spec PyProof.Rows
/-- sorted(range(e), key=lambda x: b): P the code table of the def, tb the lambda's body -/
def tSortLam (P : Addr) (pos : Pos) (qual : Str) (te tb : TE) : TE := fun σ H Q => te σ H fun x H1 => ∃ (n : Nat) (key : Nat → Int), x = .int (n : Nat) ∧ n < 64 ∧ TabOk P pos qual H1 ∧
  (∀ i, i < n → ∀ H2, SameP P H1 H2 → tb (some (.int (i : Nat)) :: σ) H2 fun v H' => v = .int (key i) ∧ H' = H2) ∧
  ∀ H2 l ms, TabOk P pos qual H2 → SameP P H1 H2 → H1 l = none → Order key n ms → H2 l = some (.lst (natV ms)) → Q (.ref l) H2
section
variable {X : Cx}
end
section
variable {X : Cx} {ps : List Str} {qual : Str} {scope : Scope} {f : Addr} {cd : Value} {cl : List (Str × Addr)} {A : Around} {s : Shared} {H : Hp}
/-- lambda x: .. y .. in a def whose one name is y -/
theorem LamScope.one {x y : Str} {c : Addr} (hk : scope.kind = .function) (hco : scope.isCoroutine = false) (hge : scope.isGenerator = false) (hn : scope.names = [(x, .local), (y, .free)]) (hxy : x ≠ y) (hc : X.env.cells.lookup y = some c) (hy : X.env.kindOf y = some .cell) (hN : X.N = [y]) :
    LamScope X [x] scope [(y, c)] where
  kind := hk
  co := hco
  gen := hge
  nd := by simp
  par := fun z hz => by
    rw [List.mem_singleton.mp hz, hn]
    simp [List.lookup_cons]
  nocell := fun z hz => by
    rw [hn] at hz
    rcases List.mem_cons.mp hz with rfl | hz
    · nofun
    · rw [List.mem_singleton.mp hz]; nofun
  free := fun z hz => by
    rw [hn, List.lookup_cons, List.lookup_cons] at hz
    cases h1 : z == x with
    | true => rw [h1] at hz; cases hz
    | false =>
      rw [h1] at hz
      cases h2 : z == y with
      | true => exact ⟨c, by rw [List.lookup_cons, h2]⟩
      | false => rw [h2] at hz; cases hz
  sub := fun z d hz => by
    rw [List.lookup_cons] at hz
    cases h2 : z == y with
    | true =>
      rw [h2] at hz
      cases hz
      rw [beq_iff_eq.mp h2]
      exact ⟨hc, .inl hy⟩
    | false => rw [h2] at hz; cases hz
  dis := fun z hz => by
    rw [hN] at hz
    rw [List.mem_singleton.mp hz, hn, List.lookup_cons, List.lookup_cons, beq_eq_false_iff_ne.mpr (Ne.symm hxy), beq_self_eq_true]
    nofun
end
section
variable {P : Program} {w : World} {K : PySem.W.Frag} {mg : Str → Option Value} {base : Heap}
/-- a def whose code object is at c -/
theorem Fun.okc {x qual : Str} {st : Stmt} {f c : Addr} {fd : FuncData} {N ps : List Str} {k : Nat} {sp : Sp} (F : Fun K x qual st f fd) (hc : fd.code = .ref c) (S : FnScope N ps (defScope st)) (len : ∀ vs H Q E, sp vs H Q E → vs.length = ps.length)
    (hbody : ∀ (A : Around) (outer : List Env) (s : Shared) (H : Hp) (vs : List V) (Q : VK) (E : XK), Room k (A.deeper (envOfC qual (defScope st) s.heap.objs.size f (.ref c))) → sp vs H Q E →
      ∃ t, PSs (cxOf CX0 P w K mg base N qual (defScope st) f (.ref c) A outer s H E).nox (defBody st) t ∧ t { nx := fun _ H' => Q .non H', rt := Q } (start N vs) H) : FnOk P w K mg base CX0 (k + 1) f fd ps sp := by
  obtain ⟨oc, od, kV, doc, pm, an, cdv, ct, osl, rfl, lk, hcd⟩ := F.ex
  obtain rfl : cdv = .ref c := hc
  refine fn_of lk hcd S len fun A outer s H vs Q E hr hsp => ?_
  obtain ⟨t, h, q⟩ := hbody A outer s H vs Q E hr hsp
  exact ⟨t, h.nox, q⟩
end
end L2

/-! OWN RULES: the head of a law in which one def of the text has a code table that grows (a lambda is made there). -/
namespace L2
open PySem PySem.Spec PyProof.Rows
/-- the name of the lambda in order_of -/
def lamQ : Str := (("order_of" : Str) ++ ".<locals>.") ++ "<lambda>"
/-- the table of a def, by its parts -/
theorem tab_is {K : PySem.W.Frag} {x : Str} {f c tp : Addr} {oc ov : Value} {od oe : Option Addr} {fd : FuncData} {sl sm : Array (Option Value)} {vs : Array Value} (h1 : PySem.W.nsIn K mainGlobals x = some (some (.ref f))) (h2 : K.lookup f = some ⟨oc, od, .func fd, sl⟩) (h3 : fd.code = .ref c)
    (h4 : K.lookup c = some ⟨ov, oe, .fields vs, sm⟩) (h5 : vs[11]? = some (.ref tp)) : PySem.W.tabIn K x = some (c, tp) := by
  unfold PySem.W.tabIn
  rw [h1]
  simp only [h2, h3, h4, h5]
/-- the law's promise where the table at t may grow -/
def spLawT (K : PySem.W.Frag) (t : Addr) (pos : Pos) : Sp := fun vs H Q _ => ∃ (a : Addr) (ns : List Int), vs = [.ref a] ∧ SqL K H a (ns.map V.int) ∧ ns.length ≤ 63 ∧ TabOk t pos lamQ H ∧ ∀ H', Q (.bl true) H'
end L2

/-! OWN RULES: a comprehension whose block has cells of its own, which a block within it reads. -/
namespace L2
open PySem PySem.Spec PyProof.Rows
/-! ### the cells -/
theorem lookup_relabel_cell {env : Env} : ∀ {names : List (Str × NameKind)} {x : Str}, names.lookup x = some .cell →
    (names.map fun (n, k) => if (k == NameKind.free && env.scope.kind == .function && env.kindOf n == some .cell) then (n, NameKind.cell) else (n, k)).lookup x = some .cell
  | [], _, h => by cases h
  | (n, k) :: r, x, h => by
    have ih := @lookup_relabel_cell env r x
    rw [List.map_cons]
    cases hx : x == n with
    | true =>
      rw [List.lookup_cons, hx] at h
      cases h
      show List.lookup x ((if (NameKind.cell == NameKind.free && env.scope.kind == .function && env.kindOf n == some .cell) = true then (n, NameKind.cell) else (n, NameKind.cell)) :: _) = _
      rw [ite_self, List.lookup_cons, hx]
    | false =>
      rw [List.lookup_cons, hx] at h
      have z : ∀ (y : Str × NameKind) (t : List (Str × NameKind)), y.1 = n → List.lookup x (y :: t) = List.lookup x t := fun y t e => by
        obtain ⟨y1, y2⟩ := y
        cases (show y1 = n from e)
        rw [List.lookup_cons, hx]
      rw [z _ _ (by
        show (if (k == NameKind.free && env.scope.kind == .function && env.kindOf n == some .cell) = true then (n, NameKind.cell) else (n, k)).1 = n
        split <;> rfl)]
      exact ih h
/-! ### the block's context -/
abbrev cxD (X : Cx) (sc : Scope) (cl : List (Str × Addr)) (C : Addr) (N : List Str) (fp : List Addr) (s2 : Shared) (H2 : Hp) (pn : List (Addr × Obj)) : Cx :=
  { X with N := N, s₀ := s2, H₀ := H2, env := compEnvC sc cl C X.env, outer := X.stack, ex := fp, fn := fun x => sc.names.lookup x == some .cell, pn := pn, xe := fun _ _ => False }
structure BlkScD (X : Cx) (sc : Scope) (locs : List Str) (ix : List Nat) : Prop where
  kind : sc.kind = .function
  own : ∀ y ∈ sc.names, y.2 = .cell → sc.names.lookup y.1 = some .cell
  free : ∀ y ∈ sc.names, y.2 = .free → X.env.kindOf y.1 = some .cell ∨ X.env.kindOf y.1 = some .free
  names : ∀ y ∈ sc.names, y.2 = .local → sc.names.lookup y.1 = some .local
  fr : ∀ i ∈ ix, ∃ x, X.N[i]? = some x ∧ sc.names.lookup x = some .free
section
variable {X : Cx} {pins : List (Addr × Obj)} {σ : St} {H2 : Hp} {s2 : Shared} {sc : Scope} {cl : List (Str × Addr)} {locs : List Str} {ix : List Nat} {fp : List Addr}
end
section
variable {X : Cx} {elt tgt iter : Expr} {tests : List Expr} {sc : Scope} {pos : Pos} {locs : List Str} {ix : List Nat} {wi : TI} {g : TG} {tt : TT} {te : TE}
end
/-! ### what of the text is looked at -/
def blkOkD (sc dsc : Scope) (N : List Str) (ix : List Nat) : Bool :=
  sc.kind == .function && sc.names.all (fun y => y.2 != .cell || sc.names.lookup y.1 == some .cell) && sc.names.all (fun y => y.2 != .free || dsc.names.lookup y.1 == some .cell || dsc.names.lookup y.1 == some .free) &&
    sc.names.all (fun y => y.2 != .local || sc.names.lookup y.1 == some .local) && ix.all (fun i => match N[i]? with | some x => sc.names.lookup x == some .free | none => false)
theorem BlkScD.look {X : Cx} {sc dsc : Scope} {locs N : List Str} {ix : List Nat} (hs : X.env.scope = dsc) (hN : X.N = N) (c : blkOkD sc dsc N ix = true) : BlkScD X sc locs ix := by
  unfold blkOkD at c
  rw [Bool.and_eq_true, Bool.and_eq_true, Bool.and_eq_true, Bool.and_eq_true] at c
  obtain ⟨⟨⟨⟨c1, c2⟩, c3⟩, c4⟩, c5⟩ := c
  refine ⟨by simpa using c1, fun y hy hk => ?_, fun y hy hk => ?_, fun y hy hk => ?_, fun i hi => ?_⟩
  · have q := List.all_eq_true.mp c2 y hy
    rw [hk] at q
    simpa using q
  · have q := List.all_eq_true.mp c3 y hy
    have z : X.env.kindOf y.1 = dsc.names.lookup y.1 := by rw [← hs]; rfl
    rw [z]
    rw [hk] at q
    simpa using q
  · have q := List.all_eq_true.mp c4 y hy
    rw [hk] at q
    simpa using q
  · have q := List.all_eq_true.mp c5 i hi
    rw [hN]
    cases hx : N[i]? with
    | none => rw [hx] at q; cases q
    | some x =>
      rw [hx] at q
      exact ⟨x, rfl, by simpa using q⟩
section
variable {X : Cx} {sc sc' : Scope} {cl cl' : List (Str × Addr)} {C C' : Addr} {N N' : List Str} {fp fp' : List Addr} {s2 s3 : Shared} {H2 H3 : Hp} {pn pn' : List (Addr × Obj)} {tg l : Expr} {tl : TE}
end
end L2

/-! OWN RULES: functions made in a def: the def statement, the made function's call, its cells. -/
namespace L2
open PySem PySem.Spec PyProof.Rows
/-- known to the object, never written again -/
abbrev fz (o : Obj) : HO := .frz o (.ext fun _ => True)
theorem ok_fz {P : Program} {w : World} {H : Hp} {h : Heap} {a : Addr} {o : Obj} (e : h.get? a = some o) : ObjOk P w H h a (fz o) := ⟨e, trivial, ⟨o, e⟩, fun _ _ _ _ => trivial⟩
/-- a nested def's text -/
structure Nd where
  name : Str
  qual : Str
  params : Arguments
  body : List Stmt
  scope : Scope
abbrev Nd.obj (d : Nd) (cl : List (Str × Addr)) (doc pm : Value) (c' : Addr) (ctv : Value) : Obj := PySem.W.fnMade d.name d.qual d.params d.body d.scope cl doc pm c' ctv
/-- the made function at f, its code object -/
def FunC (H : Hp) (f : Addr) (d : Nd) (cl : List (Str × Addr)) : Prop := ∃ doc pm c' ctv, H f = some (fz (d.obj cl doc pm c' ctv)) ∧ H c' = some (.ext (CodeAt c' d.qual))
/-- a cell with its value -/
def CelC (H : Hp) (c : Addr) (v : V) : Prop := ∃ o u, H c = some (fz o) ∧ o.data = .cell (some u) ∧ RelV v u
/-- the cells of a made function, by the names -/
structure Cels (H : Hp) (cl : List (Str × Addr)) (fs : List Str) (cvs : List V) : Prop where
  has : ∀ (i : Nat) x v, fs[i]? = some x → cvs[i]? = some v → ∃ c, cl.lookup x = some c ∧ CelC H c v
  all : ∀ p ∈ cl, ∃ v ∈ cvs, CelC H p.2 v
  inj : ∀ x y c, cl.lookup x = some c → cl.lookup y = some c → x = y
  len : cvs.length = fs.length
  lk : ∀ p ∈ cl, cl.lookup p.1 = some p.2
/-- a made function, all of its cells known -/
def Clo (H : Hp) (f : Addr) (d : Nd) (fs : List Str) (cvs : List V) : Prop := ∃ cl, FunC H f d cl ∧ Cels H cl fs cvs
/-- known things and code objects stay -/
def Kp (H H' : Hp) : Prop := (∀ b o, H b = some (fz o) → H' b = some (fz o)) ∧ ∀ c q, H c = some (.ext (CodeAt c q)) → H' c = some (.ext (CodeAt c q))
theorem Same.kp {H H' : Hp} (s : Same H H') : Kp H H' := ⟨fun _ _ e => s _ _ e, fun _ _ e => s _ _ e⟩
theorem SameP.kpL {z : Addr} {xs : List V} {H H' : Hp} (hz : H z = some (.lst xs)) (s : SameP z H H') : Kp H H' := ⟨fun _ _ e => s _ _ (ne_of e hz fun q => nomatch q) e, fun _ _ e => s _ _ (ne_of e hz fun q => nomatch q) e⟩
theorem Kp.trans {H H1 H2 : Hp} (a : Kp H H1) (b : Kp H1 H2) : Kp H H2 := ⟨fun _ _ e => b.1 _ _ (a.1 _ _ e), fun _ _ e => b.2 _ _ (a.2 _ _ e)⟩
theorem FunC.kp {H H' : Hp} {f : Addr} {d : Nd} {cl : List (Str × Addr)} (k : Kp H H') (h : FunC H f d cl) : FunC H' f d cl := let ⟨doc, pm, c', ctv, a, b⟩ := h; ⟨doc, pm, c', ctv, k.1 _ _ a, k.2 _ _ b⟩
theorem CelC.kp {H H' : Hp} {c : Addr} {v : V} (k : Kp H H') (h : CelC H c v) : CelC H' c v := let ⟨o, u, a, b⟩ := h; ⟨o, u, k.1 _ _ a, b⟩
theorem Cels.kp {H H' : Hp} {cl : List (Str × Addr)} {fs : List Str} {cvs : List V} (k : Kp H H') (h : Cels H cl fs cvs) : Cels H' cl fs cvs :=
  ⟨fun i x v a b => let ⟨c, e, z⟩ := h.has i x v a b; ⟨c, e, z.kp k⟩, fun p hp => let ⟨v, hv, z⟩ := h.all p hp; ⟨v, hv, z.kp k⟩, h.inj, h.len, h.lk⟩
theorem Clo.kp {H H' : Hp} {f : Addr} {d : Nd} {fs : List Str} {cvs : List V} (k : Kp H H') (h : Clo H f d fs cvs) : Clo H' f d fs cvs := let ⟨cl, a, b⟩ := h; ⟨cl, a.kp k, b.kp k⟩
theorem FunC.at {P : Program} {w : World} {H : Hp} {h : Heap} {f : Addr} {d : Nd} {cl : List (Str × Addr)} (ok : HOk P w H h) (x : FunC H f d cl) : PySem.W.FnAt f h := by
  obtain ⟨doc, pm, c', ctv, e, _⟩ := x
  obtain ⟨q, _⟩ := ok f _ e
  exact ⟨_, _, _, _, q⟩

/-! ### cells laid aside, and back -/
def hide (cs : List Addr) (H : Hp) : Hp := fun b => if b ∈ cs then none else H b
def back (cs : List Addr) (H H' : Hp) : Hp := fun b => if b ∈ cs then H b else H' b
theorem hide_in {cs : List Addr} {H : Hp} {b : Addr} (h : b ∈ cs) : hide cs H b = none := if_pos h
theorem hide_out {cs : List Addr} {H : Hp} {b : Addr} (h : b ∉ cs) : hide cs H b = H b := if_neg h
theorem back_in {cs : List Addr} {H H' : Hp} {b : Addr} (h : b ∈ cs) : back cs H H' b = H b := if_pos h
theorem back_out {cs : List Addr} {H H' : Hp} {b : Addr} (h : b ∉ cs) : back cs H H' b = H' b := if_neg h
theorem back_hide (cs : List Addr) (H : Hp) : back cs H (hide cs H) = H := by
  funext b
  by_cases h : b ∈ cs
  · exact back_in h
  · rw [back_out h, hide_out h]
/-- all of them are known cells -/
def AllC (cs : List Addr) (H : Hp) : Prop := ∀ c ∈ cs, ∃ v, CelC H c v
theorem AllC.ne {cs : List Addr} {H : Hp} (h : AllC cs H) {b : Addr} {o : HO} (e : H b = some o) (n : ∀ q v, o = fz q → q.data ≠ .cell v) : b ∉ cs := fun hb => by
  obtain ⟨v, q, u, e1, d, _⟩ := h b hb
  rw [e] at e1
  exact n q _ (Option.some.inj e1) d
theorem AllC.out {cs : List Addr} {H : Hp} (h : AllC cs H) {b : Addr} (e : H b = none) : b ∉ cs := fun hb => by
  obtain ⟨v, q, u, e1, _⟩ := h b hb
  rw [e] at e1
  cases e1
theorem AllC.lst {cs : List Addr} {H : Hp} (h : AllC cs H) {b : Addr} {xs : List V} (e : H b = some (.lst xs)) : hide cs H b = some (.lst xs) := (hide_out (h.ne e fun _ _ z => nomatch z)).trans e
theorem AllC.tup {cs : List Addr} {H : Hp} (h : AllC cs H) {b : Addr} {xs : List V} (e : H b = some (.tup xs)) : hide cs H b = some (.tup xs) := (hide_out (h.ne e fun _ _ z => nomatch z)).trans e
theorem AllC.dk {cs : List Addr} {H : Hp} (h : AllC cs H) {b : Addr} {xs : List (Key × V)} (e : H b = some (.dK xs)) : hide cs H b = some (.dK xs) := (hide_out (h.ne e fun _ _ z => nomatch z)).trans e
theorem Cels.allC {H : Hp} {cl : List (Str × Addr)} {fs : List Str} {cvs : List V} (h : Cels H cl fs cvs) : AllC (cl.map (·.2)) H := fun c hc => by
  obtain ⟨p, hp, rfl⟩ := List.mem_map.mp hc
  obtain ⟨v, _, z⟩ := h.all p hp
  exact ⟨v, z⟩
/-- a cell has one value -/
theorem relV_one {v v' : V} {u : Value} (a : RelV v u) (b : RelV v' u) : v = v' := by
  have key : ∀ x : V, RelV x u → (match u with | .none => x = .non | .bool b => x = .bl b | .int i _ => x = .int i | .str z _ => x = .str z | .bytes z _ => x = .byt z | .float z _ => x = .flt z | .ref z => x = .ref z | .type n => x = .ty n | _ => True) := fun x h => by
    cases x with
    | non => cases (show u = Value.none from h); rfl
    | bl b => cases (show u = Value.bool b from h); rfl
    | int i => obtain ⟨t, e⟩ := (show ∃ t, u = Value.int i t from h); subst e; rfl
    | str i => obtain ⟨t, e⟩ := (show ∃ t, u = Value.str i t from h); subst e; rfl
    | byt i => obtain ⟨t, e⟩ := (show ∃ t, u = Value.bytes i t from h); subst e; rfl
    | flt i => obtain ⟨t, e⟩ := (show ∃ t, u = Value.float i t from h); subst e; rfl
    | ref z => cases (show u = Value.ref z from h); rfl
    | ty n => cases (show u = Value.type n from h); rfl
  have k1 := key v a
  have k2 := key v' b
  cases u with
  | none => exact k1.trans k2.symm
  | bool b => exact k1.trans k2.symm
  | int i t => exact k1.trans k2.symm
  | str i t => exact k1.trans k2.symm
  | bytes i t => exact k1.trans k2.symm
  | float i t => exact k1.trans k2.symm
  | ref z => exact k1.trans k2.symm
  | type n => exact k1.trans k2.symm
  | _ => cases v <;> first | exact nomatch a | (obtain ⟨_, a⟩ := a; exact nomatch a)
theorem CelC.one {H : Hp} {c : Addr} {v v' : V} (a : CelC H c v) (b : CelC H c v') : v = v' := by
  obtain ⟨o, u, e1, d1, r1⟩ := a
  obtain ⟨o2, u2, e2, d2, r2⟩ := b
  rw [e1] at e2
  cases e2
  rw [d1] at d2
  cases d2
  exact relV_one r1 r2
/-- another made function is seen with these cells laid aside -/
theorem Clo.hide {H : Hp} {f : Addr} {d : Nd} {fs : List Str} {cvs : List V} {cs : List Addr} (h : Clo H f d fs cvs) (hc : ∀ c ∈ cs, ∃ v, CelC H c v ∧ v ∉ cvs) : Clo (hide cs H) f d fs cvs := by
  obtain ⟨cl, ⟨doc, pm, c', ctv, e1, e2⟩, C⟩ := h
  have A : AllC cs H := fun c h => let ⟨v, a, _⟩ := hc c h; ⟨v, a⟩
  have cel : ∀ {c : Addr} {v : V}, v ∈ cvs → CelC H c v → CelC (L2.hide cs H) c v := fun {c v} hv z => by
    obtain ⟨o, u, a, b⟩ := id z
    refine ⟨o, u, (hide_out fun hcs => ?_).trans a, b⟩
    obtain ⟨v', z', n⟩ := hc c hcs
    exact n (z'.one z ▸ hv)
  refine ⟨cl, ⟨doc, pm, c', ctv, (hide_out (A.ne e1 fun q v z y => ?_)).trans e1, (hide_out (A.ne e2 fun _ _ z => nomatch z)).trans e2⟩, ⟨fun i x v a b => ?_, fun p hp => ?_, C.inj, C.len, C.lk⟩⟩
  · injection z with z1
    rw [← z1] at y
    cases y
  · obtain ⟨c, e, z⟩ := C.has i x v a b
    exact ⟨c, e, cel (List.mem_of_getElem? b) z⟩
  · obtain ⟨v, hv, z⟩ := C.all p hp
    exact ⟨v, hv, cel hv z⟩
section
variable {P : Program} {w : World} {H H' : Hp} {h h' : Heap} {cs : List Addr} {fs : List Addr}
theorem HOk.hide (ok : HOk P w H h) (A : AllC cs H) : HOk P w (hide cs H) h := fun b u e => by
  by_cases hb : b ∈ cs
  · rw [hide_in hb] at e
    cases e
  · rw [hide_out hb] at e
    exact (ok b u e).stay (fun _ _ _ q => q) (fun c q => (hide_out (A.ne q fun _ _ z => nomatch z)).trans q) fun c xs q => A.tup q
/-- behind a run with the cells laid aside -/
theorem Un.back (A : AllC cs H) (u : Un fs [] (hide cs H) H' h h') : Un fs [] H (back cs H H') h h' where
  keep := fun b o e n hb hx => u.keep b o e ((hide_out (A.out n)).trans n) hb hx
  slot := fun b o e n hb hx => u.slot b o e ((hide_out (A.out n)).trans n) hb hx
  free := fun b o e n hx => (back_out (A.out n)).trans (u.free b o e ((hide_out (A.out n)).trans n) hx)
  there := u.there
  tups := fun b xs q => (back_out (A.ne q fun _ _ z => nomatch z)).trans (u.tups b xs (A.tup q))
  frzs := fun b o v q => by
    by_cases hb : b ∈ cs
    · exact (back_in hb).trans q
    · exact (back_out hb).trans (u.frzs b o v ((hide_out hb).trans q))
  tbls := fun b ps q => by
    have hb := A.ne q fun _ _ z => nomatch z
    obtain ⟨m, e⟩ := u.tbls b ps ((hide_out hb).trans q)
    exact ⟨m, (back_out hb).trans e⟩
theorem HOk.back (ok : HOk P w H h) (ok' : HOk P w H' h') (A : AllC cs H) (nf : ∀ b ∈ cs, b ∉ fs) (u : Un fs [] (L2.hide cs H) H' h h') : HOk P w (L2.back cs H H') h' := fun b v e => by
  have gone : ∀ c ∈ cs, H' c = none := fun c hc => by
    obtain ⟨v, o, x, e1, _⟩ := A c hc
    obtain ⟨q, _⟩ := ok c _ e1
    exact u.free c o q (hide_in hc) (by simp)
  by_cases hb : b ∈ cs
  · rw [back_in hb] at e
    obtain ⟨v', o, x, e1, _⟩ := A b hb
    rw [e1] at e
    cases e
    obtain ⟨q, _⟩ := ok b _ e1
    exact ok_fz (u.keep b o q (hide_in hb) (nf b hb) (by simp))
  · rw [back_out hb] at e
    have nc : ∀ {c : Addr} {o : HO}, H' c = some o → c ∉ cs := fun q hc => by
      rw [gone _ hc] at q
      cases q
    exact (ok' b v e).stay (fun _ _ _ q => q) (fun c q => (back_out (nc q)).trans q) fun c xs q => (back_out (nc q)).trans q
end

/-! ### the def statement -/
/-- def x(..): .. ; i the slot of x, P the table of the def around it -/
def tDef (P : Addr) (pos : Pos) (d : Nd) (cl : List (Str × Addr)) (i : Nat) : TS := fun D σ H => TabOk P pos d.qual H ∧
  ∀ f H', TabOk P pos d.qual H' → SameP P H H' → H f = none → FunC H' f d cl → D.nx (σ.set i (some (.ref f))) H'
section
variable {X : Cx} {pins : List (Addr × Obj)} {σ : St} {H : Hp} {s : Shared}
theorem ps_def {c P : Addr} {i : Nat} {d : Nd} {pos : Pos} {cl : List (Str × Addr)} (B : BaseT X.mg X.base c P) (hcode : X.env.code = .ref c) (hN : X.N.Nodup) (hi : X.N[i]? = some d.name) (hx : Loc X.env.scope d.name)
    (hq : qualnameIn X.env d.name d.name = d.qual) (hd0 : d.params.defaults = []) (hk0 : d.params.kw_defaults = []) (ha : annTrees d.params none X.env = []) (hcl : closureFor d.scope X.env = pure cl)
    (hf : X.fn d.name = true ∨ X.env.scope.names.lookup d.name = some .local := by first | exact .inl rfl | exact .inr rfl | assumption) :
    PS X (.FunctionDef d.name d.params d.body [] none [] d.scope none d.name pos) (tDef P pos d cl i) := by
  intro pins s σ H D I h
  obtain ⟨T, h⟩ := h
  refine PySem.W.nestDef_K hd0 hk0 ha ?_
  rw [hq]
  have hg := I.mod.glob.keeps I.bk
  have C := B.code.keeps I.bk
  obtain ⟨bm, ob, b1, b2, b3, b4, b5, b6⟩ := B.blt
  have Bl : s.heap.BuiltinsAt X.mg P := ⟨bm, ob, b1, b2, b3, b4, I.bk _ _ b5, b6⟩
  obtain ⟨tp, etp⟩ := T.is
  have oP : s.heap.get? P = some (PySem.W.tabObj tp) := I.hok P _ etp
  have hgP : mainGlobals ≠ P := fun z => by
    obtain ⟨o, es, ep, e, hd, _⟩ := hg
    rw [z, oP] at e
    cases e
    cases hd
  have lay : ∀ {h' : Heap} {H' : Hp} {tk : Nat} {o : Obj}, Inv X pins σ H' { s with heap := h', toks := tk } → o.isFreed = false → Inv X pins σ (upd H' h'.objs.size (fz o)) { s with heap := h'.push o, toks := tk } := fun {h' H' tk o} J hfz =>
    J.laid (h' := h'.push o) (t' := tk) (fun b u e => Heap.get?_push_of_some _ e) (Nat.le_refl _) (ok_fz (Heap.get?_push_size _ hfz))
  rcases T with T | ⟨c', T1, T2⟩
  · rw [T] at etp
    cases etp
    refine PySem.W.makeFunction_K hcl I.ok.glob hg hcode C oP trivial rfl hgP Bl fun c' ctv doc h' tk hx' hge hlt hrec htb => ?_
    have hca := CodeAt.of hrec
    have hcP : c' ≠ P := fun z => absurd (Nat.lt_of_lt_of_le (Heap.lt_size oP) hge) (by rw [z]; exact Nat.lt_irrefl _)
    have J := I.grown (tk := tk) T hx' hge hca htb
    have szh : s.heap.objs.size ≤ h'.objs.size := Nat.le_of_lt (Nat.lt_of_le_of_lt hge hlt)
    have fr : upd (upd H P (.tbl (#[] ++ #[rawInt pos.line, rawInt pos.col, .ref c']))) c' (.ext (CodeAt c' d.qual)) h'.objs.size = none := J.hok.fresh (Nat.le_refl _)
    have J2 := lay (o := d.obj cl doc ((X.mg "__name__").getD .none) c' ctv) J rfl
    have ne : ∀ {b : Addr} {o : HO}, upd (upd H P (.tbl (#[] ++ #[rawInt pos.line, rawInt pos.col, .ref c']))) c' (.ext (CodeAt c' d.qual)) b = some o → upd (upd (upd H P (.tbl (#[] ++ #[rawInt pos.line, rawInt pos.col, .ref c']))) c' (.ext (CodeAt c' d.qual))) h'.objs.size (fz (d.obj cl doc ((X.mg "__name__").getD .none) c' ctv)) b = some o :=
      fun e => (upd_ne (ne_of_none e fr)).trans e
    have e1 : (upd (upd H P (.tbl (#[] ++ #[rawInt pos.line, rawInt pos.col, .ref c']))) c' (.ext (CodeAt c' d.qual))) P = some (.tbl #[rawInt pos.line, rawInt pos.col, .ref c']) := by
      rw [upd_ne (Ne.symm hcP), upd_same]
      simp
    refine store_ok J2 hN hi hx (v := .ref h'.objs.size) rfl (fun s2 J3 => ⟨_, _, J3, h _ _ (.inr ⟨c', ne e1, ne upd_same⟩) (fun b o n e => ne ?_) (I.hok.fresh szh) ⟨doc, _, c', ctv, upd_same, ne upd_same⟩⟩) hf
    have hbc : b ≠ c' := fun z => absurd (Nat.lt_of_lt_of_le (I.hok.lt e) hge) (by rw [z]; exact Nat.lt_irrefl _)
    rw [upd_ne hbc, upd_ne n]
    exact e
  · rw [T1] at etp
    cases etp
    obtain ⟨hca, _⟩ := I.hok c' _ T2
    refine PySem.W.makeFunction_hit (cv := .ref c') hcl I.ok.glob hg hcode C oP (by simp [TriplesOk, rawInt]) (by simp [codeAmong, rawInt]) Bl fun ctv doc h' tk hk hsz => ?_
    have J : Inv X pins σ H { s with heap := h', toks := tk } := I.kept hk
    have fr : H h'.objs.size = none := J.hok.fresh (Nat.le_refl _)
    have J2 := lay (o := d.obj cl doc ((X.mg "__name__").getD .none) c' ctv) J rfl
    have ne : ∀ {b : Addr} {o : HO}, H b = some o → upd H h'.objs.size (fz (d.obj cl doc ((X.mg "__name__").getD .none) c' ctv)) b = some o := fun e => (upd_ne (ne_of_none e fr)).trans e
    exact store_ok J2 hN hi hx (v := .ref h'.objs.size) rfl (fun s2 J3 => ⟨_, _, J3, h _ _ (.inr ⟨c', ne T1, ne T2⟩) (fun b o n e => ne e) fr ⟨doc, _, c', ctv, upd_same, ne T2⟩⟩) hf
end
end L2

/-! OWN RULES: a made function is called; a def lends its cells to a call, or gives them away at its end. -/
namespace L2
open PySem PySem.Spec PyProof.Rows
/-- the context of a made function's body -/
def cxClo (P : Program) (w : World) (K : PySem.W.Frag) (mg : Str → Option Value) (base : Heap) (N : List Str) (qual : Str) (scope : Scope) (f : Addr) (cd : Value) (cl : List (Str × Addr)) (A : Around) (outer : List Env) (s : Shared) (H : Hp) : Cx where
  prog := P
  w := w
  K := K
  mg := mg
  base := base
  A := A.deeper (PySem.W.envX qual scope s.heap.objs.size f cd cl)
  N := N
  s₀ := s
  H₀ := H
  env := PySem.W.envX qual scope s.heap.objs.size f cd cl
  outer := outer
  stack := PySem.W.envX qual scope s.heap.objs.size f cd cl :: outer
  ex := []
  calm := true
  fn := fun _ => false
  pn := []
  xe := fun _ _ => False
/-- a made function's scope: parameters, own names, names of the def around it -/
structure CloScope (ps ls fs : List Str) (sc : Scope) : Prop where
  kind : sc.kind = .function
  co : sc.isCoroutine = false
  gen : sc.isGenerator = false
  nd : (ps ++ ls ++ fs).Nodup
  par : ∀ x ∈ ps, sc.names.lookup x = some .local
  nocell : ∀ y ∈ sc.names, y.2 ≠ .cell
  free : ∀ y ∈ sc.names, y.2 = .free → y.1 ∈ fs
  fr : ∀ x ∈ fs, sc.names.lookup x = some .free
/-- the names' values at a made function's entry -/
def startC (n : Nat) (vs cvs : List V) : St := vs.map some ++ List.replicate n none ++ cvs.map some
section
variable {P : Program} {w : World} {K : PySem.W.Frag} {mg : Str → Option Value} {base : Heap} {A : Around} {outer : List Env} {s : Shared} {H : Hp}
theorem inv_clo {ps ls fs : List Str} {qual : Str} {scope : Scope} {f : Addr} {cd : Value} {cl : List (Str × Addr)} {vs cvs : List V} {us : List Value} {h₁ : Heap} {tk : Nat} (e0 : Env0 P w K mg base A outer s H) (hh : A.handled = none) (S : CloScope ps ls fs scope) (C : Cels H cl fs cvs)
    (hl : vs.length = ps.length) (r : Vals vs us) (hns : h₁.Ns s.heap.objs.size (fun x => (ps.zip us).reverse.lookup x)) (hk : ∀ b o, s.heap.get? b = some o → h₁.get? b = some o) :
    Inv (cxClo P w K mg base (ps ++ ls ++ fs) qual scope f cd cl A outer s (hide (cl.map (·.2)) H)) [] (startC ls.length vs cvs) (hide (cl.map (·.2)) H) { s with heap := h₁, toks := tk } := by
  have AC := C.allC
  have noA : ∀ b : Addr, b ∉ (cxClo P w K mg base (ps ++ ls ++ fs) qual scope f cd cl A outer s (hide (cl.map (·.2)) H)).ex := fun b z => absurd (show b ∈ ([] : List Addr) from z) (by simp)
  have inC : ∀ {x : Str} {c : Addr}, cl.lookup x = some c → c ∈ cl.map (·.2) := fun e => List.mem_map.mpr ⟨_, PySem.mem_of_lookup e, rfl⟩
  have hid0 : ∀ {b : Addr}, H b = none → hide (cl.map (·.2)) H b = none := fun {b} n => (hide_out (AC.out n)).trans n
  have ok1 := e0.hok.hide AC
  refine ⟨⟨e0.mod, S.kind, rfl, rfl, Nat.le_refl _, fun y z c h1 h2 => C.inj y z c h1 h2, fun y hy => ?_, fun y c z _ => absurd z (by show ¬ (false = true); exact Bool.false_ne_true), fun _ => hh, Around.frames_deeper e0.frames, .inr ⟨rfl, rfl⟩, fun b z => absurd z (noA b),
      fun b o e => ⟨(e0.bs b o e).1, hid0 (e0.bs b o e).2⟩, e0.bsz, fun b _ _ => noA b, fun b z => absurd z (noA b), e0.funs, fun b hb => hid0 (e0.frf b hb)⟩,
    rfl, e0.bare, Un.kept hk, ⟨_, hns, fun i y v h1 h2 h3 => ?_⟩, fun y c h => ?_, ok1.fresh (Nat.le_refl _), fun y c h => hide_in (inC h), fun p hp => absurd (show p ∈ ([] : List (Addr × Obj)) from hp) (by simp), ok1.kept hk, ?_⟩
  · have hy : scope.names.lookup y = some .cell ∨ scope.names.lookup y = some .free := hy
    rcases hy with hy | hy
    · exact absurd rfl (S.nocell _ (PySem.mem_of_lookup hy))
    · have hm := S.free _ (PySem.mem_of_lookup hy) rfl
      obtain ⟨j, hj, ej⟩ := List.mem_iff_getElem.mp hm
      have hjc : j < cvs.length := by rw [C.len]; exact hj
      obtain ⟨c, e, _⟩ := C.has j y _ (by rw [List.getElem?_eq_getElem hj, ej]) (List.getElem?_eq_getElem hjc)
      exact ⟨c, e⟩
  · have h1 : (ps ++ ls ++ fs)[i]? = some y := h1
    have h2 : (vs.map some ++ List.replicate ls.length none ++ cvs.map some)[i]? = some (some v) := h2
    by_cases hi : i < ps.length
    · rw [List.append_assoc, List.getElem?_append_left hi] at h1
      rw [List.append_assoc, List.getElem?_append_left (by rw [List.length_map]; omega), List.getElem?_map] at h2
      have ha : vs[i]? = some v := by
        cases e : vs[i]? with
        | none => rw [e] at h2; cases h2
        | some a => rw [e] at h2; cases h2; rfl
      obtain ⟨u, hu, rv⟩ := r.get ha
      have ndp : ps.Nodup := (List.nodup_append.mp (List.nodup_append.mp S.nd).1).1
      exact ⟨u, rv, .inl ⟨S.par y (List.mem_of_getElem? h1), zip_lookup ndp h1 hu⟩⟩
    · by_cases hj : i < ps.length + ls.length
      · rw [List.append_assoc, List.getElem?_append_right (by rw [List.length_map]; omega), List.length_map, List.getElem?_append_left (by rw [List.length_replicate]; omega), List.getElem?_replicate] at h2
        split at h2 <;> cases h2
      · rw [List.getElem?_append_right (by rw [List.length_append]; omega), List.length_append] at h1
        rw [List.getElem?_append_right (by rw [List.length_append, List.length_map, List.length_replicate]; omega), List.length_append, List.length_map, List.length_replicate, hl, List.getElem?_map] at h2
        have ha : cvs[i - (ps.length + ls.length)]? = some v := by
          cases e : cvs[i - (ps.length + ls.length)]? with
          | none => rw [e] at h2; cases h2
          | some a => rw [e] at h2; cases h2; rfl
        obtain ⟨c, hc, o, u, e1, d, rv⟩ := C.has _ y v h1 ha
        obtain ⟨q, _⟩ := e0.hok c _ e1
        exact ⟨u, rv, .inr ⟨.inr (S.fr y (List.mem_of_getElem? h1)), c, hc, o, hk _ _ q, d⟩⟩
  · obtain ⟨v, _, o, u, e1, d, _⟩ := C.all _ (PySem.mem_of_lookup h)
    obtain ⟨q, _⟩ := e0.hok _ _ e1
    exact ⟨_, o, hk _ _ q, d⟩
  · show (vs.map some ++ List.replicate ls.length none ++ cvs.map some).length = (ps ++ ls ++ fs).length
    rw [List.length_append, List.length_append, List.length_append, List.length_append, List.length_map, List.length_map, List.length_replicate, hl, C.len]
/-- THE RULE: a made function is called, by its body -/
theorem clo_run {k : Nat} {d : Nd} {ps ls fs : List Str} {f : Addr} {vs cvs : List V} {us : List Value} {Q : VK} {E : XK} (S : CloScope ps ls fs d.scope)
    (hb : ∀ (cl : List (Str × Addr)) (doc pm cd ctv : Value) (us : List Value), us.length = ps.length → bindArgs (PySem.W.fnX d.name d.qual d.params d.body d.scope cl .none .none doc pm none cd ctv) ⟨us, []⟩ = pure (ps.zip us))
    (hr : Room (k + 1) A) (e0 : Env0 P w K mg base A outer s H) (C : Clo H f d fs cvs) (hl : vs.length = ps.length) (r : Vals vs us)
    (hbody : ∀ (cl : List (Str × Addr)) (cd : Value), (∀ c ∈ cl.map (·.2), ∃ v ∈ cvs, CelC H c v) → (∀ p ∈ cl, cl.lookup p.1 = some p.2) → Room k (A.deeper (PySem.W.envX d.qual d.scope s.heap.objs.size f cd cl)) →
      ∃ t, PSs (cxClo P w K mg base (ps ++ ls ++ fs) d.qual d.scope f cd cl A outer s (hide (cl.map (·.2)) H)) d.body t ∧
        t { nx := fun _ H' => Q .non (back (cl.map (·.2)) H H'), rt := fun v H' => Q v (back (cl.map (·.2)) H H') } (startC ls.length vs cvs) (hide (cl.map (·.2)) H)) :
    codeAny (model P w) A (.call (.ref f) ⟨us, []⟩) (CR CX0 outer P w H s Q E) s := by
  obtain ⟨cl, ⟨doc, pm, c', ctv, e1, e2⟩, C⟩ := C
  obtain ⟨ho, _⟩ := e0.hok f _ e1
  obtain ⟨hca, _⟩ := e0.hok c' _ e2
  have lim : s.heap.NoLimit := e0.mod.nolimit.keeps fun b o e => (e0.bs b o e).1
  have hlu : us.length = ps.length := by rw [← r.length]; exact hl
  refine codeAny_call_function hr.depth ho rfl S.co S.gen rfl hca.rec' ?_
  rw [hb cl doc pm (.ref c') ctv us hlu]
  refine wpAny_pure (wpAny_newFunctionEnv S.nocell (fun y hy => S.par _ (List.of_mem_zip (show (y.1, y.2) ∈ ps.zip us from hy)).1) (fun h₁ hns hsb => ⟨lim.fresh _ hsb, codeAny_func ?_⟩) S.kind)
  have hk : ∀ b o, s.heap.get? b = some o → h₁.get? b = some o := fun b o e => hsb.extBut b o (Nat.ne_of_lt (Heap.lt_size e)) (Heap.get?_push_of_some _ e)
  have I := inv_clo (qual := d.qual) (f := f) (cd := .ref c') (tk := s.toks + (ps.zip us).length) e0 hr.hd S C hl r hns hk
  have hcs : ∀ c ∈ cl.map (·.2), ∃ v ∈ cvs, CelC H c v := fun c hc => by
    obtain ⟨p, hp, rfl⟩ := List.mem_map.mp hc
    exact C.all p hp
  obtain ⟨t, ht, hq⟩ := hbody cl (.ref c') hcs C.lk (hr.deeper _)
  show wpAny _ (A.deeper (PySem.W.envX d.qual d.scope s.heap.objs.size f (.ref c') cl)) (execs d.body (PySem.W.envX d.qual d.scope s.heap.objs.size f (.ref c') cl)) _ _ _
  refine wpAny_mono (ht [] _ _ _ _ I hq) (fun fl s' hs => ?_) fun e s' hs => (show False from hs).elim
  have nf : ∀ b ∈ cl.map (·.2), b ∉ frs outer := fun b hb z => by
    obtain ⟨v, _, o, u, e, _⟩ := hcs b hb
    rw [e0.frf b z] at e
    cases e
  have fin : ∀ {σ' : St} {H' : Hp} {v : V} {u : Value}, Inv (cxClo P w K mg base (ps ++ ls ++ fs) d.qual d.scope f (.ref c') cl A outer s (hide (cl.map (·.2)) H)) [] σ' H' s' → RelV v u → Q v (back (cl.map (·.2)) H H') → CE outer P w H s Q u s' :=
    fun {σ' H' v u} J rv q => ⟨v, _, J.os, J.bare, Un.back C.allC J.base, HOk.back e0.hok J.hok C.allC nf J.base, rv, q⟩
  cases fl with
  | ret u =>
    obtain ⟨v, σ', H', J, rv, q⟩ := hs
    exact fin J rv q
  | next =>
    obtain ⟨σ', H', J, q⟩ := hs
    exact fin (v := V.non) (u := Value.none) J rfl q
  | brk =>
    obtain ⟨_, _, _, q⟩ := hs
    exact False.elim q
  | cont =>
    obtain ⟨_, _, _, q⟩ := hs
    exact False.elim q
end

/-- a tuple that is none of the cells -/
def tTupC (cl : List (Str × Addr)) (t : TA) : TE := fun σ H Q => t σ H fun xs H1 => xs.length ≤ sizeLine ∧ ∀ p, H1 p = none → (∀ x c, cl.lookup x = some c → p ≠ c) → Q (.ref p) (upd H1 p (.tup xs))
theorem pe_tupC {X : Cx} {es : List Expr} {t : TA} {pos : Pos} {x1} (h : PA X es t) : PE X (.Tuple es x1 pos) (tTupC X.env.cells t) := by
  intro pins s σ H Q I hq
  refine wpAny_Tuple_spliced (thn (h pos pins s σ H _ I hq) fun us s1 ⟨xs, H1, I1, r, z, q⟩ => ⟨by rw [← r.length]; exact z, ?_⟩)
  have hf : H1 s1.heap.objs.size = none := I1.hok.fresh (Nat.le_refl _)
  refine ⟨.ref s1.heap.objs.size, upd H1 s1.heap.objs.size (.tup xs), I1.laid (t' := s1.toks) (fun b u e => Heap.get?_push_of_some _ e) (Nat.le_refl _) ?_, rfl, q _ hf fun x c e z => ?_⟩
  · exact ⟨z, us, r, ⟨_, Heap.get?_push_size _ rfl, rfl, _, rfl⟩⟩
  · obtain ⟨v, o, ho, _⟩ := I1.cell x c e
    exact absurd (Heap.lt_size ho) (by rw [← z]; exact Nat.lt_irrefl _)
/-! ### a made function under a name -/
/-- what calls of made functions promise, for whichever function -/
structure Cal (P : Program) (w : World) (K : PySem.W.Frag) (mg : Str → Option Value) (base : Heap) (k : Nat) (sp : Addr → Sp) : Prop where
  run : ∀ (f : Addr) (A : Around) (outer : List Env) (s : Shared) (H : Hp) (us : List Value) (vs : List V) (Q : VK), Room k A → Env0 P w K mg base A outer s H → Vals vs us → sp f vs H Q E0 →
    codeAny (model P w) A (.call (.ref f) ⟨us, []⟩) (CR CX0 outer P w H s Q E0) s
theorem Cal.mono {P : Program} {w : World} {K : PySem.W.Frag} {mg : Str → Option Value} {base : Heap} {j k : Nat} {sp : Addr → Sp} (F : Cal P w K mg base j sp) (h : j ≤ k) : Cal P w K mg base k sp := ⟨fun f A outer s H us vs Q hr => F.run f A outer s H us vs Q (hr.mono h)⟩
theorem Cal.or {P : Program} {w : World} {K : PySem.W.Frag} {mg : Str → Option Value} {base : Heap} {k : Nat} {sp sp' : Addr → Sp} (F : Cal P w K mg base k sp) (G : Cal P w K mg base k sp') : Cal P w K mg base k (fun f vs H Q E => sp f vs H Q E ∨ sp' f vs H Q E) :=
  ⟨fun f A outer s H us vs Q hr e0 r h => h.elim (F.run f A outer s H us vs Q hr e0 r) (G.run f A outer s H us vs Q hr e0 r)⟩
/-- x(..), x a name of the def whose value is a made function -/
def tCallV (i : Nat) (sp : Addr → Sp) (t : TA) : TE := fun σ H Q => ∃ f, σ[i]? = some (some (.ref f)) ∧ (∃ d cl, FunC H f d cl) ∧ t σ H fun vs H1 => (∃ d cl, FunC H1 f d cl) ∧ sp f vs H1 Q E0
section
variable {X : Cx} {k j : Nat} {sp : Addr → Sp} {x : Str} {p pos : Pos} {e : Expr} {es : List Expr} {t : TA}
theorem pe_callV {i : Nat} (F : Cal X.prog X.w X.K X.mg X.base k sp) (hr : Room j X.A) (hv : PE X (.Name x p) (tVar i)) (ha : PA X (e :: es) t) (hk : k ≤ j := by decide)
    (he : starEach (e :: es) X.env = (false, eval e X.env) :: starEach es X.env := by rfl) (hpl : (backTo pos (starEach es X.env)).any (·.1) = false := by rfl) :
    PE X (.Call (.Name x p) (e :: es) [] pos) (tCallV i sp t) := by
  intro pins s σ H Q I h
  obtain ⟨f, hf, ⟨d, cl, hc⟩, h⟩ := h
  refine wpAny_Call_Name_kw (thn (hv pins s σ H (fun v H' => v = .ref f ∧ H' = H) I ⟨_, hf, rfl, rfl⟩) fun v s1 ⟨y, H1, I1, r1, q1, q2⟩ => ?_)
  subst q1 q2
  obtain rfl : v = Value.ref f := r1
  refine PySem.W.callWith_F (hc.at I1.hok) (thn (ha pos pins s1 σ H1 _ I1 h) fun us s2 ⟨vs, H2, I2, r, ⟨d2, cl2, hc2⟩, q⟩ => ⟨hc2.at I2.hok, ?_⟩) he hpl
  refine wpAny_call (codeAny_mono (F.run f X.A X.stack s2 H2 us vs Q (hr.mono hk) I2.env0 r q) fun r s' hq => ?_)
  cases r with
  | error e => exact (show False from hq).elim
  | ok fl =>
    cases fl with
    | ret u => exact I2.after hq
    | next => exact False.elim hq
    | brk => exact False.elim hq
    | cont => exact False.elim hq
end

/-! ### a def lends its cells -/
/-- H2 knows the cells of cl, which H does not -/
structure Lent (N : List Str) (σ : St) (cl : List (Str × Addr)) (H H2 : Hp) : Prop where
  out : ∀ b, b ∉ cl.map (·.2) → H2 b = H b
  none : ∀ p ∈ cl, H p.2 = none
  cel : ∀ p ∈ cl, ∃ o, H2 p.2 = some (fz o) ∧ ∀ (i : Nat) v, N[i]? = some p.1 → σ[i]? = some (some v) → ∃ u, o.data = .cell (some u) ∧ RelV v u
def lend (cs : List Addr) (h : Heap) (H : Hp) : Hp := fun b => if b ∈ cs then (h.get? b).map fz else H b
section
variable {X : Cx} {pins : List (Addr × Obj)} {σ : St} {H : Hp} {s : Shared} {cl : List (Str × Addr)}
/-- the cells of a running def, as the state has them -/
theorem Inv.lent (I : Inv X pins σ H s) (hsub : ∀ p ∈ cl, X.env.cells.lookup p.1 = some p.2 ∧ X.env.kindOf p.1 = some .cell) : Lent X.N σ cl H (lend (cl.map (·.2)) s.heap H) where
  out := fun b h => if_neg h
  none := fun p hp => I.freeC _ _ (hsub p hp).1
  cel := fun p hp => by
    obtain ⟨v0, o, ho, hd⟩ := I.cell _ _ (hsub p hp).1
    refine ⟨o, ?_, fun i v h1 h2 => ?_⟩
    · show (if p.2 ∈ cl.map (·.2) then (s.heap.get? p.2).map fz else H p.2) = _
      rw [if_pos (List.mem_map_of_mem hp), ho]
      rfl
    · obtain ⟨m, _, hl⟩ := I.loc
      obtain ⟨u, rv, lk⟩ := hl i p.1 v h1 h2 (.inr (.inl (hsub p hp).2))
      rcases lk with ⟨z, _⟩ | ⟨_, c, z, o2, ho2, hd2⟩
      · rw [(hsub p hp).2] at z
        cases z
      · rw [(hsub p hp).1] at z
        cases z
        rw [ho] at ho2
        cases ho2
        exact ⟨u, hd2, rv⟩
theorem Inv.lend_ok (I : Inv X pins σ H s) (hsub : ∀ p ∈ cl, X.env.cells.lookup p.1 = some p.2 ∧ X.env.kindOf p.1 = some .cell) : HOk X.prog X.w (lend (cl.map (·.2)) s.heap H) s.heap := fun b u e => by
  have L := I.lent hsub
  have nc : ∀ {c : Addr} {o : HO}, H c = some o → c ∉ cl.map (·.2) := fun q hc => by
    obtain ⟨p, hp, rfl⟩ := List.mem_map.mp hc
    rw [L.none p hp] at q
    cases q
  by_cases hb : b ∈ cl.map (·.2)
  · obtain ⟨p, hp, rfl⟩ := List.mem_map.mp hb
    obtain ⟨v0, o, ho, hd⟩ := I.cell _ _ (hsub p hp).1
    have e' : (if p.2 ∈ cl.map (·.2) then (s.heap.get? p.2).map fz else H p.2) = some u := e
    rw [if_pos hb, ho] at e'
    cases e'
    exact ok_fz ho
  · rw [L.out b hb] at e
    exact (I.hok b u e).stay (fun _ _ _ q => q) (fun c q => (L.out c (nc q)).trans q) fun c xs q => (L.out c (nc q)).trans q
end
/-- f(..) of a def of the text; while it runs it knows the cells of cl -/
def tOwnL (N : List Str) (cl : List (Str × Addr)) (sp : Sp) (t : TA) : TE := fun σ H Q => t σ H fun vs H1 => ∀ H2, Lent N σ cl H1 H2 → sp vs H2 (fun v H3 => Q v (hide (cl.map (·.2)) H3)) E0
section
variable {X : Cx} {k j : Nat} {ps : List Str} {sp : Sp} {x : Str} {p pos : Pos} {e : Expr} {es : List Expr} {t : TA}
theorem pe_ownL {cl : List (Str × Addr)} (O : Ow X.prog X.w X.K X.mg X.base x ps k sp) (hr : Room j X.A) (hg : Gl X x) (hsub : ∀ p ∈ cl, X.env.cells.lookup p.1 = some p.2 ∧ X.env.kindOf p.1 = some .cell) (hfn : ∀ y, X.fn y = true) (ha : PA X (e :: es) t) (hk : k ≤ j := by decide) (hdb : (x == ("__debug__" : Str)) = false := by decide)
    (he : starEach (e :: es) X.env = (false, eval e X.env) :: starEach es X.env := by rfl) (hpl : (backTo pos (starEach es X.env)).any (·.1) = false := by rfl) :
    PE X (.Call (.Name x p) (e :: es) [] pos) (tOwnL X.N cl sp t) := by
  obtain ⟨f, fd, m, kp, b, F⟩ := O.ex
  intro pins s σ H Q I h
  refine wpAny_Call_Name_kw (ld_glob I hg m ?_ hdb)
  refine PySem.W.callWith_K (h₀ := X.base) I.ok.mod.kin kp (thn (ha pos pins s σ H _ I h) fun us s1 ⟨vs, H1, I1, r, q⟩ => ⟨I1.kIn, ?_⟩) he hpl
  have L := I1.lent hsub
  have ok2 := I1.lend_ok hsub
  generalize hH2 : lend (cl.map (·.2)) s1.heap H1 = H2 at L ok2
  have q := q H2 L
  have low : ∀ c ∈ cl.map (·.2), X.s₀.heap.objs.size ≤ c := fun c hc => by
    obtain ⟨y, hy, rfl⟩ := List.mem_map.mp hc
    exact I1.ok.cab _ _ (hfn _) (hsub y hy).1
  have e0 : Env0 X.prog X.w X.K X.mg X.base X.A X.stack s1 H2 := by
    refine ⟨I1.ok.frames, I1.ok.mod, fun b o e => ⟨(I1.bs b o e).1, (L.out b fun hb => ?_).trans (I1.bs b o e).2⟩, Nat.le_trans I1.ok.bsz I1.sz, I1.stack, fun b hb => (L.out b fun hc => ?_).trans (I1.stkFree b hb), ok2, I1.bare⟩
    · exact absurd (Nat.lt_of_lt_of_le (Heap.lt_size e) (Nat.le_trans I1.ok.bsz (low b hb))) (Nat.lt_irrefl _)
    · rcases List.mem_cons.mp (I1.stkSub b hb) with z | z
      · obtain ⟨y, hy, e⟩ := List.mem_map.mp hc
        exact I1.cne _ _ (hsub y hy).1 (e.trans z)
      · obtain ⟨_, o, ho, _⟩ := I1.ok.funs.mem z
        exact absurd (Nat.lt_of_lt_of_le (Heap.lt_size ho) (low b hc)) (Nat.lt_irrefl _)
  have hl : us.length = ps.length := by rw [← r.length]; exact F.len _ _ _ _ q
  have hbd := b s1 us I1.kIn (by rw [List.append_nil]; exact hl)
  rw [List.append_nil] at hbd
  refine wpAny_call (codeAny_mono (F.run X.A X.stack s1 H2 ⟨us, []⟩ us vs _ E0 (hr.mono hk) e0 hbd r q) fun r s' hq => ?_)
  cases r with
  | error e => exact (show False from hq).elim
  | ok fl =>
    cases fl with
    | next => exact False.elim hq
    | brk => exact False.elim hq
    | cont => exact False.elim hq
    | ret u =>
      obtain ⟨v, H3, os, bare, un, hok, rv, q3⟩ := hq
      have inn : ∀ {b : Addr}, b ∈ cl.map (·.2) → H1 b = none ∧ ∃ o, H2 b = some (fz o) ∧ H3 b = some (fz o) ∧ s1.heap.get? b = some o ∧ s'.heap.get? b = some o := fun {b} hb => by
        obtain ⟨y, hy, rfl⟩ := List.mem_map.mp hb
        obtain ⟨o, e2, _⟩ := L.cel y hy
        have e3 := un.frzs _ _ _ e2
        exact ⟨L.none y hy, o, e2, e3, (ok2 _ _ e2).1, (hok _ _ e3).1⟩
      have un' : Un (frs X.stack) [] H1 (hide (cl.map (·.2)) H3) s1.heap s'.heap := by
        refine ⟨fun b o e n hb hx => ?_, fun b o e n hb hx => ?_, fun b o e n hx => ?_, un.there, fun b xs e => ?_, fun b o u e => ?_, fun b qs e => ?_⟩
        · by_cases hc : b ∈ cl.map (·.2)
          · obtain ⟨_, o', _, _, z1, z2⟩ := inn hc
            rw [e] at z1; cases z1
            exact z2
          · exact un.keep b o e ((L.out b hc).trans n) hb hx
        · by_cases hc : b ∈ cl.map (·.2)
          · obtain ⟨_, o', _, _, z1, z2⟩ := inn hc
            rw [e] at z1; cases z1
            exact ⟨o.slots, z2⟩
          · exact un.slot b o e ((L.out b hc).trans n) hb hx
        · by_cases hc : b ∈ cl.map (·.2)
          · exact hide_in hc
          · exact (hide_out hc).trans (un.free b o e ((L.out b hc).trans n) hx)
        · have hc : b ∉ cl.map (·.2) := fun z => by rw [(inn z).1] at e; cases e
          exact (hide_out hc).trans (un.tups b xs ((L.out b hc).trans e))
        · have hc : b ∉ cl.map (·.2) := fun z => by rw [(inn z).1] at e; cases e
          exact (hide_out hc).trans (un.frzs b o u ((L.out b hc).trans e))
        · have hc : b ∉ cl.map (·.2) := fun z => by rw [(inn z).1] at e; cases e
          obtain ⟨more, z⟩ := un.tbls b qs ((L.out b hc).trans e)
          exact ⟨more, (hide_out hc).trans z⟩
      have ok' : HOk X.prog X.w (hide (cl.map (·.2)) H3) s'.heap := fun b o e => by
        by_cases hc : b ∈ cl.map (·.2)
        · rw [hide_in hc] at e; cases e
        · rw [hide_out hc] at e
          refine (hok b o e).stay (fun _ _ _ z => z) (fun c z => (hide_out fun y => ?_).trans z) fun c xs z => (hide_out fun y => ?_).trans z
          · obtain ⟨_, o', _, z1, _⟩ := inn y
            rw [z] at z1; cases z1
          · obtain ⟨_, o', _, z1, _⟩ := inn y
            rw [z] at z1; cases z1
      exact ⟨v, _, I1.call' os un' ok' bare (fun b z => absurd z (by simp)), rv, q3⟩
end

/-! ### a def gives its cells away at its end -/
def SPA (X : Cx) (pins : List (Addr × Obj)) (R : V → St → Hp → Prop) (f : Flow) (s' : Shared) : Prop := ∃ u v σ' H', f = .ret u ∧ Inv X pins σ' H' s' ∧ RelV v u ∧ R v σ' H'
abbrev TR := (V → St → Hp → Prop) → St → Hp → Prop
def PSA (X : Cx) (st : List Stmt) (t : TR) : Prop :=
  ∀ (pins : List (Addr × Obj)) (s : Shared) (σ : St) (H : Hp) (R : V → St → Hp → Prop), Inv X pins σ H s → t R σ H → wpAny (model X.prog X.w) X.A (execs st X.env) (SPA X pins R) X.xe s
section
variable {X : Cx}
theorem psa_cons {st : Stmt} {rest : List Stmt} {t : TS} {u : TR} (h1 : PS X st t) (h2 : PSA X rest u) : PSA X (st :: rest) (fun R σ H => t { nx := fun σ' H' => u R σ' H', rt := fun _ _ => False } σ H) := by
  intro pins s σ H R I h
  refine wpAny_execs_cons (thn (h1 pins s σ H _ I h) fun f s1 q => ?_)
  cases f with
  | next =>
    obtain ⟨σ', H', I', q⟩ := q
    exact h2 pins s1 σ' H' R I' q
  | ret v =>
    obtain ⟨_, _, _, _, _, z⟩ := q
    exact False.elim z
  | brk =>
    obtain ⟨_, _, _, z⟩ := q
    exact False.elim z
  | cont =>
    obtain ⟨_, _, _, z⟩ := q
    exact False.elim z
theorem psa_ret {e : Expr} {te : TE} {pos : Pos} (he : PE X e te) : PSA X [.Return (some e) pos] (fun R σ H => te σ H fun v H' => R v σ H') := by
  intro pins s σ H R I h
  refine wpAny_execs_cons (wpAny_Return_some (thn (he pins s σ H _ I h) fun v s1 ⟨x, H1, I1, r1, q1⟩ => ?_))
  exact ⟨v, x, σ, H1, rfl, I1, r1, q1⟩
end
section
variable {P : Program} {w : World} {K : PySem.W.Frag} {mg : Str → Option Value} {base : Heap}
/-- a def whose code object is at c and which gives the cells of cl away at its end -/
theorem Fun.oka {x qual : Str} {st : Stmt} {f c : Addr} {fd : FuncData} {N ps : List Str} {k : Nat} {sp : Sp} (F : Fun K x qual st f fd) (hc : fd.code = .ref c) (S : FnScope N ps (defScope st)) (len : ∀ vs H Q E, sp vs H Q E → vs.length = ps.length)
    (hbody : ∀ (A : Around) (outer : List Env) (s : Shared) (H : Hp) (vs : List V) (Q : VK) (E : XK), Room k (A.deeper (envOfC qual (defScope st) s.heap.objs.size f (.ref c))) → sp vs H Q E →
      ∃ (t : TR) (cl : List (Str × Addr)), (∀ p ∈ cl, (envOfC qual (defScope st) s.heap.objs.size f (.ref c)).cells.lookup p.1 = some p.2 ∧ (envOfC qual (defScope st) s.heap.objs.size f (.ref c)).kindOf p.1 = some .cell) ∧
        PSA (cxOf CX0 P w K mg base N qual (defScope st) f (.ref c) A outer s H E).nox (defBody st) t ∧ t (fun v σ' H' => ∀ H2, Lent N σ' cl H' H2 → Q v H2) (start N vs) H) : FnOk P w K mg base CX0 (k + 1) f fd ps sp := by
  obtain ⟨oc, od, kV, doc, pm, an, cdv, ct, osl, rfl, lk, hcd⟩ := F.ex
  obtain rfl : cdv = .ref c := hc
  refine ⟨len, fun A outer s H args us vs Q E hr e0 hb r hsp => ?_⟩
  have hl := len _ _ _ _ hsp
  have KX : K.In s.heap := e0.mod.kin.keeps fun b o e => (e0.bs b o e).1
  have lim : s.heap.NoLimit := e0.mod.nolimit.keeps fun b o e => (e0.bs b o e).1
  have hkind : ∀ y ∈ ps.zip us, (defScope st).names.lookup y.1 = some .local ∨ ((defScope st).names.lookup y.1 = some .cell ∧ ((cellsFrom (s.heap.objs.size + 1) (defScope st).names []).lookup y.1).isSome = true) := fun ⟨n, v⟩ hy => by
    rcases S.par n (List.of_mem_zip hy).1 with q | q
    · exact .inl q
    · exact .inr ⟨q, PySem.W.cellsFrom_some _ _ _ (.inl q)⟩
  refine codeAny_call_function hr.depth (KX _ _ lk) rfl S.co S.gen rfl (PySem.W.codeRec_of KX hcd) (hb _ _ _ _ ?_)
  refine wpAny_newFunctionEnv_cells S.kind hkind fun env he s1 x => ?_
  subst he
  refine ⟨lim.keeps x.toInCall.keep, codeAny_func ?_⟩
  obtain ⟨t, cl, hsub, ht, hq⟩ := hbody A outer s H vs Q E (hr.deeper _) hsp
  have I0 : Inv (cxOf CX0 P w K mg base N qual (defScope st) f (.ref c) A outer s H E) [] (start N vs) H s1 := inv_start S hr.hd e0 hl r x
  have I : Inv (cxOf CX0 P w K mg base N qual (defScope st) f (.ref c) A outer s H E).nox [] (start N vs) H s1 := I0.wish _
  refine wpAny_mono (ht [] s1 (start N vs) H _ I hq) (fun fl s' hs => ?_) fun e s' hs => (show False from hs).elim
  obtain ⟨u, v, σ', H', rfl, J, rv, q⟩ := hs
  have L := J.lent hsub
  have nc : ∀ {c : Addr} {o : HO}, H' c = some o → c ∉ cl.map (·.2) := fun q hc => by
    obtain ⟨p, hp, rfl⟩ := List.mem_map.mp hc
    rw [L.none p hp] at q
    cases q
  have lo : ∀ b o, s.heap.get? b = some o → b ∉ cl.map (·.2) := fun b o e hc => by
    obtain ⟨p, hp, rfl⟩ := List.mem_map.mp hc
    have h2 : s.heap.objs.size ≤ p.2 := J.ok.cab p.1 _ rfl (hsub p hp).1
    exact absurd (Nat.lt_of_lt_of_le (Heap.lt_size e) h2) (Nat.lt_irrefl _)
  have U : Un (frs outer) [] H H' s.heap s'.heap := J.base
  refine ⟨v, _, J.os, J.bare, ⟨U.keep, U.slot, fun b o e n hx => (L.out b (lo b o e)).trans (U.free b o e n hx), U.there, fun b xs e => ?_, fun b o z e => ?_, fun b qs e => ?_⟩, J.lend_ok hsub, rv, q _ L⟩
  · have e' := U.tups b xs e
    exact (L.out b (nc e')).trans e'
  · have e' := U.frzs b o z e
    exact (L.out b (nc e')).trans e'
  · obtain ⟨more, e'⟩ := U.tbls b qs e
    exact ⟨more, (L.out b (nc e')).trans e'⟩
end
end L2

/-! OWN RULES: dict(d), d.clear(), d != e, l != m of made functions. -/
namespace L2
open PySem PySem.Spec PyProof.Rows
section
variable {X : Cx}
theorem call_dictC : CallR X (.type "dict") (fun xs H Q => ∃ a kvs, xs = [V.ref a] ∧ H a = some (.dK kvs) ∧ ∀ p, H p = none → Q (.ref p) (upd H p (.dK kvs))) := by
  intro pins s σ H xs us Q I r h
  obtain ⟨a, kvs, rfl, ha, q⟩ := h
  obtain ⟨u, rfl, ru⟩ := vals1 r
  cases ru
  exact d_copyOf I (.inl ha) fun p s' hp I' => ⟨.ref p, _, I', rfl, q p hp⟩
theorem mt_dclear : MtM X "dict.clear" (fun x vs H Q => ∃ a kvs, x = .ref a ∧ vs = [] ∧ H a = some (.dK kvs) ∧ Q .non (upd H a (.dK []))) := by
  intro pins s σ H x vs v us Q I rx rv h
  obtain ⟨a, kvs, rfl, rfl, ha, q⟩ := h
  cases rx
  have hus := rv.zero
  subst hus
  exact d_clear I ha fun s' I' => ⟨.non, _, I', rfl, q⟩
/-- l != m, the same made functions in both -/
def rNeF (K : PySem.W.Frag) : R2 := fun x y H Q => ∃ (a b : Addr) (fs : List Addr), x = .ref a ∧ y = .ref b ∧ SqL K H a (fs.map V.ref) ∧ SqL K H b (fs.map V.ref) ∧ Q (.bl false) H
theorem ref_get : ∀ {bs : List Addr} {us : List Value} {j : Nat} {u : Value}, Vals (bs.map V.ref) us → us[j]? = some u → ∃ b, bs[j]? = some b ∧ u = .ref b
  | [], _, _, _, .nil, e => by simp at e
  | b :: bs, _, 0, _, .cons r _, e => by simp at e; subst e; exact ⟨b, rfl, r⟩
  | b :: bs, _, j + 1, u, .cons _ r, e => by
    obtain ⟨c, h1, h2⟩ := ref_get (j := j) (u := u) r (by simpa using e)
    exact ⟨c, by simpa using h1, h2⟩
theorem op_neF (hu : X.A.units + 1 < cLine) : OpR X (compareOp .NotEq) (rNeF X.K) := by
  intro pins s σ H x y v u Q I rx ry h0
  obtain ⟨a, b, bs, rfl, rfl, ha, hb, q⟩ := h0
  cases rx
  cases ry
  obtain ⟨its, r1, p1, _⟩ := I.list ha
  obtain ⟨its2, r2, p2, _⟩ := I.list hb
  have l1 := r1.length
  have l2 := r2.length
  have hsz : its.toArray.size = its2.toArray.size := by rw [List.size_toArray, List.size_toArray]; omega
  refine (SeqAt.RcNeAt.lists (e := fun _ => true) p1.isList p2.isList hsz (by omega) (fun j j1 j2 => ?_)) X.prog X.w X.xe _ ⟨.bl _, H, I, rfl, ?_⟩
  · obtain ⟨c1, e1, f1⟩ := ref_get (j := j) r1 (List.getElem?_eq_getElem (by simpa using j1))
    obtain ⟨c2, e2, f2⟩ := ref_get (j := j) r2 (List.getElem?_eq_getElem (by simpa using j2))
    rw [e1] at e2
    cases e2
    have g1 : its.toArray[j] = .ref c1 := by simpa using f1
    have g2 : its2.toArray[j] = .ref c1 := by simpa using f2
    rw [g1, g2]
    exact SeqAt.EqAt.same _
  · have e : ((List.range its.toArray.size).all fun _ => true) = true := by simp
    rw [e]
    exact q
/-- d != e, the same keys with the same cells in both -/
def rNeD : R2 := fun x y H Q => ∃ (a b : Addr) (kvs : List (Key × V)), x = .ref a ∧ y = .ref b ∧ H a = some (.dK kvs) ∧ H b = some (.dK kvs) ∧ (∀ p ∈ kvs, p.2 = .non ∨ ∃ i, p.2 = .int i) ∧ Q (.bl false) H
theorem valV_mem {κ : Type} [DecidableEq κ] : ∀ {kvs : List (κ × V)}, (kvs.map (·.1)).Nodup → ∀ p ∈ kvs, valV kvs p.1 = some p.2
  | [], _, _, h => nomatch h
  | q :: r, nd, p, h => by
    rw [List.map_cons, List.nodup_cons] at nd
    rcases List.mem_cons.mp h with rfl | h
    · exact valV_pos rfl
    · rw [valV_neg fun e => nd.1 (e ▸ List.mem_map_of_mem h)]
      exact valV_mem nd.2 p h
theorem keq_cells {A : Around} {s : Shared} {kvs : List (Key × V)} {vb : List (Key × Value)} (rb : KV kvs vb) : ∀ {ks : List (Key × V)} {va : List (Key × Value)}, KV ks va → (∀ p ∈ ks, valV kvs p.1 = some p.2) → (∀ p ∈ ks, p.2 = .non ∨ ∃ i, p.2 = .int i) → PySem.W.KeqHits A s vb va true
  | _, _, .nil, _, _ => .nil
  | p :: ks, q :: va, .cons r t, h1, h2 => by
    have ih := keq_cells (A := A) (s := s) rb t (fun p hp => h1 p (List.mem_cons_of_mem _ hp)) fun p hp => h2 p (List.mem_cons_of_mem _ hp)
    have z := KV.val rb p.1
    rw [h1 p List.mem_cons_self] at z
    obtain ⟨e1, e2⟩ := r
    cases hy : valueAt vb p.1 with
    | none => rw [hy] at z; exact z.elim
    | some y =>
      rw [hy] at z
      have z : RelV p.2 y := z
      have eq : SeqAt.EqAt A s q.2 y true := by
        rcases h2 p List.mem_cons_self with e | ⟨i, e⟩
        · rw [e] at e2 z
          have a1 : q.2 = Value.none := e2
          have a2 : y = Value.none := z
          rw [a1, a2]
          exact SeqAt.EqAt.same _
        · rw [e] at e2 z
          obtain ⟨t1, a1⟩ := e2
          obtain ⟨t2, a2⟩ := z
          rw [a1, a2]
          have := SeqAt.EqAt.int_int (A := A) (s := s) i t1 i t2
          simpa using this
      have hh : PySem.W.KeqHits A s vb ((p.1, q.2) :: va) (true && true) := .hit hy eq ih
      rw [e1] at hh
      exact hh
theorem op_neD (hu : X.A.units + 1 < cLine) : OpR X (compareOp .NotEq) rNeD := by
  intro pins s σ H x y v u Q I rx ry h0
  obtain ⟨a, b, kvs, rfl, rfl, ha, hb, hc, q⟩ := h0
  cases rx
  cases ry
  obtain ⟨z1, h1, va, ra, da⟩ := dk_of I.hok ha
  obtain ⟨z2, h2, vb, rb, db⟩ := dk_of I.hok hb
  have nd : (kvs.map (·.1)).Nodup := by
    rw [KV.keys ra]
    obtain ⟨_, _, _, _, _, _, _, _, n⟩ := da
    exact n
  refine PySem.W.keq_ne h1 h2 da db (by omega) (fun _ => keq_cells rb ra (valV_mem nd) hc) ⟨.bl _, H, I, rfl, ?_⟩
  have e : (va.length == vb.length && true) = true := by
    rw [← KV.length ra, ← KV.length rb]
    simp
  rw [e]
  exact q
/-- the function at f was made -/
theorem m2_of {o e f : Expr} {m : Str} {apos cpos : Pos} (h1 : attributeBase o m X.env (eval o X.env) = eval o X.env := by rfl) (h2 : (apos.endLine == cpos.line) = true := by rfl)
    (h3 : ((backTo cpos (starEach [e, f] X.env)).all (fun x => !x.1) && (backToKw cpos (keywordEach [] X.env)).all (fun x => x.1.isSome)
    && decide (([e, f] : List Expr).length + ([] : List Keyword).length + (if ([] : List Keyword).isEmpty then 0 else 1) < 30)) = true := by rfl) (h4 : backTo cpos (starEach [e, f] X.env) = [(false, eval e X.env), (false, eval f X.env)] := by rfl) : M2 X o m apos e f cpos := ⟨h1, h3, h2, h4⟩
end
end L2

/-! OWN RULES: the head of a law in which several defs of the text have code tables that grow. -/
namespace L2
open PySem PySem.Spec PyProof.Rows
theorem law_callM {P : Program} {w : World} {K : PySem.W.Frag} {mg mb : Str → Option Value} {k : Nat} {fa a : Addr} {ts : List (Addr × Addr)} {fd : FuncData} {x : Str} {sp : Sp} {s₁ : Shared} {vs : List Value} {ns : List Int}
    (KX : K.In s₁.heap) (hns : s₁.heap.Ns mainGlobals mg) (hb : s₁.heap.Ns builtinsNs mb) (hbb : ∀ x : Str, x ≠ "__name__" → mb x = bootBuiltins x) (hlim : s₁.heap.NoLimit) (hg : s₁.gens = #[])
    (ha : s₁.heap.get? a = some { cls := .type "list", data := .seq vs.toArray }) (hi : IntsAre vs ns) (hl : ns.length ≤ sizeLine) (hr : Room k callerA)
    (hT : ∀ t ∈ ts, PySem.W.CodeHd s₁.heap t.1 t.2 ∧ s₁.heap.get? t.2 = some (PySem.W.tabObj #[]) ∧ K.lookup t.2 = none ∧ s₁.heap.BuiltinsAt mg t.2)
    (F : ∀ base : Heap, K.In base → base.Ns mainGlobals mg → (∀ t ∈ ts, BaseT mg base t.1 t.2) → FnOk P w K mg base CX0 k fa fd [x] sp) (hbind : ∀ (s : Shared) (u : Value), BindsTo s fd ⟨[u], []⟩ [(x, u)])
    (hsp : ∀ H : Hp, (∀ t ∈ ts, H t.2 = some (.tbl #[])) → SqL K H a (ns.map V.int) → sp [.ref a] H (fun v _ => v = .bl true) fun _ _ _ => False) :
    codeAny (model P w) callerA (.call (.ref fa) ⟨[.ref a], []⟩) (fun r s' => r = .ok (.ret (.bool true)) ∧ OldK s₁.heap s'.heap ∧ s'.os = s₁.os ∧ AllBare s'.gens) s₁ := by
  have rv := vals_ints hi
  have lenV := hi.length
  have hP : ∀ b ∈ ts.map (·.2), s₁.heap.get? b = some (PySem.W.tabObj #[]) ∧ K.lookup b = none := fun b hb => by
    obtain ⟨t, ht, rfl⟩ := List.mem_map.mp hb
    exact ⟨(hT t ht).2.1, (hT t ht).2.2.1⟩
  have hat : a ∉ ts.map (·.2) := fun z => by
    rw [(hP a z).1] at ha
    cases ha
  have core : ∀ H : Hp, (∀ b ∈ ts.map (·.2), H b = some (.tbl #[])) → (∀ b, b ∉ ts.map (·.2) → b ≠ a → H b = none) → (H a = none ∨ ∃ o xs, H a = some (.frz o (.lst xs))) → SqL K H a (ns.map V.int) → HOk P w H s₁.heap → (H a ≠ none → K.lookup a = none) →
      codeAny (model P w) callerA (.call (.ref fa) ⟨[.ref a], []⟩) (fun r s' => r = .ok (.ret (.bool true)) ∧ OldK s₁.heap s'.heap ∧ s'.os = s₁.os ∧ AllBare s'.gens) s₁ := by
    intro H hTb hO hOa hS hok hK
    have base_of : ∀ {b : Addr} {o : Obj}, s₁.heap.get? b = some o → H b = none → (hidT s₁.heap H).get? b = some o := fun e n => hidT_get e n
    have noC : ∀ {b : Addr} {o : Obj}, s₁.heap.get? b = some o → o.cls ≠ .none → o.cls ≠ .type "list" → H b = none := fun {b o} e n1 n2 => by
      by_cases z : b ∈ ts.map (·.2)
      · rw [(hP b z).1] at e
        cases e
        exact absurd rfl n1
      · by_cases z2 : b = a
        · rw [z2, ha] at e
          cases e
          exact absurd rfl n2
        · exact hO b z z2
    have noA : ∀ {b : Addr} {o : Obj} {es : Array DictEntry} {ep : Nat}, s₁.heap.get? b = some o → o.data = .dict es ep → H b = none := fun {b o es ep} e d => by
      by_cases z : b ∈ ts.map (·.2)
      · rw [(hP b z).1] at e
        cases e
        cases d
      · by_cases z2 : b = a
        · rw [z2, ha] at e
          cases e
          cases d
        · exact hO b z z2
    have nsK : ∀ {b : Addr} {m : Str → Option Value}, s₁.heap.Ns b m → (hidT s₁.heap H).Ns b m := fun {b m} ⟨o, es, ep, e, d, r⟩ => ⟨o, es, ep, base_of e (noA e d), d, r⟩
    have hKb : K.In (hidT s₁.heap H) := fun b o e => base_of (KX b o e) (by
      by_cases z : b ∈ ts.map (·.2)
      · rw [(hP b z).2] at e
        cases e
      · by_cases z2 : b = a
        · cases q : H b with
          | none => rfl
          | some u =>
            rw [z2] at e q
            rw [hK (by rw [q]; simp)] at e
            cases e
        · exact hO b z z2)
    have hBT : ∀ t ∈ ts, BaseT mg (hidT s₁.heap H) t.1 t.2 := fun t ht => by
      obtain ⟨hC, _, _, hB⟩ := hT t ht
      refine ⟨?_, ?_⟩
      · obtain ⟨o, v, file, tf, flags, tg, inF, text, tt, e1, e2, r⟩ := hC
        exact ⟨o, v, file, tf, flags, tg, inF, text, tt, base_of e1 (noC e1 (by rw [e2]; nofun) (by rw [e2]; decide)), e2, r⟩
      · obtain ⟨bm, ob, b1, b2, b3, b4, b5, b6, b7⟩ := hB
        exact ⟨bm, ob, b1, b2, b3, b4, base_of b5 (noC b5 (by rw [b6]; nofun) (by rw [b6]; decide)), b6, b7⟩
    have hM : Mod K mg (hidT s₁.heap H) := ⟨hKb, nsK hns, ⟨mb, nsK hb, hbb⟩, let ⟨mc, h1, h2⟩ := hlim; ⟨mc, nsK h1, h2⟩⟩
    have e0 : Env0 P w K mg (hidT s₁.heap H) callerA [] s₁ H := ⟨rfl, hM, fun b o e => of_hidT e, Nat.le_of_eq (hidT_size _ _), trivial, fun b hb => absurd (show b ∈ ([] : List Addr) from hb) (by simp), hok, .of_eq hg⟩
    refine codeAny_mono ((F _ hKb (nsK hns) hBT).run callerA [] s₁ H ⟨[.ref a], []⟩ [.ref a] [.ref a] _ _ hr e0 (hbind s₁ (.ref a)) (.cons rfl .nil) (hsp H (fun t ht => hTb _ (List.mem_map_of_mem ht)) hS)) fun r s' h => ?_
    cases r with
    | error e => exact (show False from h).elim
    | ok fl =>
      cases fl with
      | next => exact False.elim h
      | brk => exact False.elim h
      | cont => exact False.elim h
      | ret u =>
        obtain ⟨v, H', os, bare, un, hok', r', q⟩ := h
        have q' : v = .bl true := q
        subst q'
        obtain rfl : u = Value.bool true := r'
        have keep : ∀ b o, b ∉ ts.map (·.2) → s₁.heap.get? b = some o → s'.heap.get? b = some o := fun b o n e => by
          cases q : H b with
          | none => exact un.keep b o e q (by intro z; exact absurd (show b ∈ ([] : List Addr) from z) (by simp)) (by simp)
          | some u =>
            have e' : b = a := Decidable.byContradiction fun z => by rw [hO b n z] at q; cases q
            subst e'
            rcases hOa with z | ⟨ob, xs, z⟩
            · rw [q] at z; cases z
            · have z2 := un.frzs b ob _ z
              obtain ⟨e1, _⟩ := hok b _ z
              obtain ⟨e2, _⟩ := hok' b _ z2
              rw [e] at e1; cases e1
              exact e2
        have grown : ∀ b ∈ ts.map (·.2), ∃ more, s'.heap.get? b = some (PySem.W.tabObj (#[] ++ more)) := fun b hb => by
          obtain ⟨more, hT'⟩ := un.tbls b _ (hTb b hb)
          exact ⟨more, hok' b _ hT'⟩
        refine ⟨rfl, ⟨fun b o e => ?_, fun b o e => ?_⟩, os, bare⟩
        · by_cases z : b ∈ ts.map (·.2)
          · obtain ⟨more, oT⟩ := grown b z
            obtain ⟨t, ht, rfl⟩ := List.mem_map.mp z
            have e2 := (hT t ht).2.1
            rw [e2] at e
            cases e
            exact .inr (.inl ⟨((hT t ht).1.tab e2).isCodeTable, rfl, #[], more, rfl, oT⟩)
          · exact .inl (keep b o z e)
        · by_cases z : b ∈ ts.map (·.2)
          · obtain ⟨more, oT⟩ := grown b z
            exact ⟨_, oT⟩
          · exact ⟨o, keep b o z e⟩
  have okT : ∀ (H : Hp) b, b ∈ ts.map (·.2) → ObjOk P w H s₁.heap b (.tbl #[]) := fun H b hb => (hP b hb).1
  cases hk : K.lookup a with
  | some o =>
    have e := KX a o hk
    rw [ha] at e
    cases e
    refine core (fun b => if b ∈ ts.map (·.2) then some (.tbl #[]) else none) (fun b h => if_pos h) (fun b n _ => if_neg n) (.inl (if_neg hat)) (.inr ⟨_, vs.toArray, _, hk, rfl, rfl, rfl, by rw [List.size_toArray, lenV]; exact hl, by simpa using rv⟩) (fun b u z => ?_) fun z => absurd (if_neg hat) z
    by_cases hb : b ∈ ts.map (·.2)
    · have z' := (if_pos hb).symm.trans z
      cases z'
      exact okT _ b hb
    · have z' := (if_neg hb).symm.trans z
      cases z'
  | none =>
    refine core (fun b => if b ∈ ts.map (·.2) then some (.tbl #[]) else if b = a then some (.frz { cls := .type "list", data := .seq vs.toArray } (.lst (ns.map V.int))) else none) (fun b h => if_pos h) (fun b n n2 => (if_neg n).trans (if_neg n2)) (.inr ⟨_, _, (if_neg hat).trans (if_pos rfl)⟩)
      (.inl (.inr ⟨{ cls := .type "list", data := .seq vs.toArray }, (if_neg hat).trans (if_pos rfl)⟩)) (fun b u z => ?_) fun _ => hk
    by_cases hb : b ∈ ts.map (·.2)
    · have z' := (if_pos hb).symm.trans z
      cases z'
      exact okT _ b hb
    · by_cases hba : b = a
      · have z' := ((if_neg hb).trans (if_pos hba)).symm.trans z
        cases z'
        subst hba
        exact ⟨ha, by rw [List.length_map]; exact hl, vs, _, rv, ha⟩
      · have z' := ((if_neg hb).trans (if_neg hba)).symm.trans z
        cases z'
/-- a table of the text: its def is told, its places are looked up -/
def TabsOf (q : Program) (K : PySem.W.Frag) : List Str → List (Addr × Addr) → Prop
  | [], [] => True
  | fn :: fs, t :: ts => (∃ dd, (recsOf q).find? (fun e => e.name == fn) = some dd) ∧ PySem.W.tabIn K fn = some t ∧ TabsOf q K fs ts
  | _, _ => False
theorem TabsOf.mem {q : Program} {K : PySem.W.Frag} : ∀ {fs : List Str} {ts : List (Addr × Addr)}, TabsOf q K fs ts → ∀ t ∈ ts, ∃ fn dd, (recsOf q).find? (fun e => e.name == fn) = some dd ∧ PySem.W.tabIn K fn = some t
  | [], [], _, _, h => nomatch h
  | fn :: fs, t :: ts, h, u, hu => by
    obtain ⟨⟨dd, h1⟩, h2, h3⟩ := h
    rcases List.mem_cons.mp hu with rfl | hu
    · exact ⟨fn, dd, h1, h2⟩
    · exact TabsOf.mem h3 u hu
theorem walk_ofM {l : PySem.W.OpenLaw} {n k : Nat} {q : Program} {loose : List Str} {XP : (Str → Option Value) → Heap → Prop} {YP : World → Heap → Prop} {d : DefRec} {K : Params → PySem.W.Frag} {sp : World → List (Addr × Addr) → Sp} {x : Str} {fns : List Str}
    (hn : l.most = some n) (hn2 : n ≤ sizeLine) (hdf : d.params.defaults = []) (hr : Room k callerA)
    (hY : ∀ (w : World) (h : Heap), YP w h → (K w.params).In h)
    (F : ∀ (w : World) (mg : Str → Option Value) (fa : Addr) (h : Heap), (K w.params).In h → h.Ns mainGlobals mg → mg d.name = some (.ref fa) →
      ∃ (fd : FuncData) (ts : List (Addr × Addr)), TabsOf q (K w.params) fns ts ∧ PySem.W.noTabs (K w.params) = true ∧ (∀ (s : Shared) (u : Value), BindsTo s fd ⟨[u], []⟩ [(x, u)]) ∧
        ∀ base : Heap, (K w.params).In base → base.Ns mainGlobals mg → (∀ t ∈ ts, BaseT mg base t.1 t.2) → FnOk l.prog w (K w.params) mg base CX0 k fa fd [x] (sp w ts))
    (hsp : ∀ (w : World) (ts : List (Addr × Addr)) (H : Hp) (a : Addr) (ns : List Int), ns.length ≤ n → (∀ t ∈ ts, H t.2 = some (.tbl #[])) → SqL (K w.params) H a (ns.map V.int) → sp w ts [.ref a] H (fun v _ => v = .bl true) fun _ _ _ => False) :
    PySem.W.WalkO q loose XP YP l.row.toRowW d [] (fun f vs => PySem.call f vs) := by
  refine Att.attach_call hn hdf fun w s₀ s₁ mg mb fa o pm cd doc a vs ns G Y ho hd hcd hmg hobj hints hlen hg => ?_
  have KX := hY w _ Y
  obtain ⟨fd, ts, ht, hKP, hb, hF⟩ := F w mg fa _ KX G.T.g hmg
  obtain ⟨bm, ob, b1, b2, b3, b4, b5, b6⟩ := G.T.bmain
  have hbG : bm ≠ mainGlobals := fun z => by
    obtain ⟨o, es, ep, e, hd, _⟩ := G.T.g
    rw [z, e] at b3; cases b3; rw [hd] at b6; cases b6
  refine law_callM KX G.T.g G.T.b G.T.builtins G.T.nolimit hg hobj hints (Nat.le_trans hlen hn2) hr (fun t ht' => ?_) hF hb fun H hT hS => hsp w ts H a ns hlen hT hS
  obtain ⟨fn, dd, h1, h2⟩ := ht.mem t ht'
  obtain ⟨hC, hP⟩ := PySem.W.tab_of (c := t.1) (P := t.2) G.T KX h1 h2
  have hbP : bm ≠ t.2 := fun z => by
    rw [z, hP] at b3; cases b3; cases b4
  refine ⟨hC, hP, ?_, bm, ob, b1, b2, hbG, hbP, b3, b4, b5, b6⟩
  cases q : (K w.params).lookup t.2 with
  | none => rfl
  | some o =>
    have e := KX _ _ q
    rw [hP] at e
    cases e
    exact absurd (List.all_eq_true.mp hKP _ (PySem.W.mem_of_lookupK q)) Bool.false_ne_true
end L2

/-! OWN: changes: what is promised of functions that are made and kept. -/
namespace L2
open PySem PySem.Spec PyProof.Rows G
/-- the j-th statement of a def's body -/
def inDef (st : Stmt) (j : Nat) : Stmt := (defBody st).getD j (.Pass ⟨0, 0, 0, 0⟩)
def ndOf (st : Stmt) (qual : Str) : Nd := match st with
  | .FunctionDef n a b _ _ _ sc _ _ _ => ⟨n, qual, a, b, sc⟩
  | _ => ⟨"", qual, { posonlyargs := [], args := [], vararg := none, kwonlyargs := [], kw_defaults := [], kwarg := none, defaults := [] }, [], { kind := .function, names := [], isGenerator := false, isCoroutine := false }⟩
def posOf (st : Stmt) : Pos := match st with
  | .FunctionDef _ _ _ _ _ _ _ _ _ p => p
  | _ => ⟨0, 0, 0, 0⟩
/-! ### several tables -/
abbrev Tb := List (Addr × Pos × Str)
def Tbs (tb : Tb) (H : Hp) : Prop := ∀ t ∈ tb, TabOk t.1 t.2.1 t.2.2 H
/-- all that was tracked, the tables aside, is as it was -/
def SameT (tb : Tb) (H H' : Hp) : Prop := ∀ b o, b ∉ tb.map (·.1) → H b = some o → H' b = some o
def mkTb (ts : List (Addr × Addr)) (pq : List (Pos × Str)) : Tb := (ts.map (·.2)).zip pq
theorem tbs_start {ts : List (Addr × Addr)} {pq : List (Pos × Str)} {H : Hp} (h : ∀ t ∈ ts, H t.2 = some (.tbl #[])) : Tbs (mkTb ts pq) H := fun t ht => by
  obtain ⟨u, hu, e⟩ := List.mem_map.mp (List.of_mem_zip (show (t.1, t.2) ∈ (ts.map (·.2)).zip pq from ht)).1
  exact .inl (by rw [← e]; exact h u hu)
def spLawM (K : PySem.W.Frag) (tb : Tb) : Sp := fun vs H Q _ => ∃ (a : Addr) (ns : List Int), vs = [.ref a] ∧ SqL K H a (ns.map V.int) ∧ ns.length ≤ 63 ∧ Tbs tb H ∧ ∀ H', Q (.bl true) H'
section
variable {tb : Tb} {H H1 H2 H' : Hp}
theorem SameT.refl : SameT tb H H := fun _ _ _ h => h
theorem SameT.trans (a : SameT tb H H1) (b : SameT tb H1 H2) : SameT tb H H2 := fun c o n h => b c o n (a c o n h)
theorem Same.toT (a : Same H H') : SameT tb H H' := fun b o _ h => a b o h
theorem Tbs.keep (t : Tbs tb H) (e : Same H H') : Tbs tb H' := fun x hx => (t x hx).keep e
theorem Tbs.ne (t : Tbs tb H) {b : Addr} {o : HO} (h : H b = some o) (n : ∀ ps, o ≠ .tbl ps) : b ∉ tb.map (·.1) := fun hb => by
  obtain ⟨x, hx, rfl⟩ := List.mem_map.mp hb
  exact (t x hx).ne h n rfl
theorem SameT.any (e : SameT tb H H') (t : Tbs tb H) {b : Addr} {o : HO} (h : H b = some o) (n : ∀ ps, o ≠ .tbl ps) : H' b = some o := e b o (t.ne h n) h
theorem SameT.tup (e : SameT tb H H') (t : Tbs tb H) {b : Addr} {xs : List V} (h : H b = some (.tup xs)) : H' b = some (.tup xs) := e.any t h fun _ z => nomatch z
theorem SameT.lst (e : SameT tb H H') (t : Tbs tb H) {b : Addr} {xs : List V} (h : H b = some (.lst xs)) : H' b = some (.lst xs) := e.any t h fun _ z => nomatch z
theorem SameT.dk (e : SameT tb H H') (t : Tbs tb H) {b : Addr} {xs : List (Key × V)} (h : H b = some (.dK xs)) : H' b = some (.dK xs) := e.any t h fun _ z => nomatch z
theorem SameT.kp (e : SameT tb H H') (t : Tbs tb H) : Kp H H' := ⟨fun _ _ h => e.any t h fun _ z => (nomatch z), fun _ _ h => e.any t h fun _ z => (nomatch z)⟩
theorem SameT.seq {K : PySem.W.Frag} (e : SameT tb H H') (t : Tbs tb H) {a : Addr} {xs : List V} (h : SqL K H a xs) : SqL K H' a xs := by
  rcases h with (h | ⟨o, h⟩) | h
  · exact .inl (.inl (e.lst t h))
  · exact .inl (.inr ⟨o, e.any t h fun _ z => (nomatch z)⟩)
  · exact .inr h
theorem SameT.pic (e : SameT tb H H') (t : Tbs tb H) {p : Addr} {w : Nat} {rows : Rws} (h : PicAt H p w rows) : PicAt H' p w rows := let ⟨pp, pm, a, b, c⟩ := h; ⟨pp, pm, e.tup t a, e.tup t b, e.tup t c⟩
theorem SameT.rows (e : SameT tb H H') (t : Tbs tb H) {l : Addr} {ps : List Addr} {rows : Rws} (h : RowsAt H l ps rows) : RowsAt H' l ps rows := ⟨e.lst t h.lst, h.len, fun i p r a b => e.lst t (h.row i p r a b)⟩
/-- one table has grown -/
theorem Tbs.grow {P : Addr} {pos : Pos} {q : Str} (t : Tbs tb H) (hT : (P, pos, q) ∈ tb) (hN : (tb.map (·.1)).Nodup) (e : SameP P H H') (h : TabOk P pos q H') : Tbs tb H' ∧ SameT tb H H' := by
  have uniq : ∀ x ∈ tb, x.1 = P → x = (P, pos, q) := fun x hx ex => by
    obtain ⟨i, hi, ei⟩ := List.mem_iff_getElem.mp hx
    obtain ⟨j, hj, ej⟩ := List.mem_iff_getElem.mp hT
    have hi' : i < (tb.map (·.1)).length := by rw [List.length_map]; exact hi
    have hj' : j < (tb.map (·.1)).length := by rw [List.length_map]; exact hj
    have z : (tb.map (·.1))[i]'hi' = (tb.map (·.1))[j]'hj' := by
      rw [List.getElem_map, List.getElem_map, ei, ej]
      exact ex
    have ij := (List.getElem_inj hN).mp z
    subst ij
    rw [← ei, ← ej]
  refine ⟨fun x hx => ?_, fun b o n hb => e b o (fun z => n (List.mem_map.mpr ⟨_, hT, z.symm⟩)) hb⟩
  by_cases hx1 : x.1 = P
  · rw [uniq x hx hx1]
    exact h
  · have hP := (t _ hT).is
    obtain ⟨ps, eP⟩ := hP
    rcases t x hx with z | ⟨c, z1, z2⟩
    · exact .inl (e _ _ hx1 z)
    · exact .inr ⟨c, e _ _ hx1 z1, e _ _ (ne_of z2 eP fun z => nomatch z) z2⟩
end
/-! ### a def's cells given away or lent -/
section
variable {N : List Str} {σ : St} {cl : List (Str × Addr)} {H H2 : Hp}
theorem Lent.same (L : Lent N σ cl H H2) : Same H H2 := fun b o e => (L.out b fun hc => by
  obtain ⟨p, hp, rfl⟩ := List.mem_map.mp hc
  rw [L.none p hp] at e
  cases e).trans e
theorem Lent.nin (L : Lent N σ cl H H2) {b : Addr} {o : HO} (e : H b = some o) : b ∉ cl.map (·.2) := fun hc => by
  obtain ⟨p, hp, rfl⟩ := List.mem_map.mp hc
  rw [L.none p hp] at e
  cases e
theorem Lent.one {x : Str} {c f : Addr} {d : Nd} {i : Nat} {v : V} (L : Lent N σ [(x, c)] H H2) (F : FunC H f d [(x, c)]) (h1 : N[i]? = some x) (h2 : σ[i]? = some (some v)) : Clo H2 f d [x] [v] := by
  have C : CelC H2 c v := by
    obtain ⟨o, e, k⟩ := L.cel (x, c) (by simp)
    obtain ⟨u, d, r⟩ := k i v h1 h2
    exact ⟨o, u, e, d, r⟩
  refine ⟨[(x, c)], F.kp L.same.kp, ⟨fun j y w e1 e2 => ?_, fun p hp => ?_, fun y z e h1 h2 => ?_, rfl, fun p hp => by rw [List.mem_singleton.mp hp]; simp [List.lookup_cons]⟩⟩
  · match j, e1, e2 with
    | 0, e1, e2 =>
      cases e1
      cases e2
      exact ⟨c, by simp [List.lookup_cons], C⟩
  · rw [List.mem_singleton.mp hp]
    exact ⟨v, by simp, C⟩
  · have a1 := PySem.mem_of_lookup h1
    have a2 := PySem.mem_of_lookup h2
    simp at a1 a2
    rw [a1.1, a2.1]
theorem Lent.two {x y : Str} {c e f : Addr} {d : Nd} {i j : Nat} {v w : V} (L : Lent N σ [(x, c), (y, e)] H H2) (F : FunC H f d [(x, c), (y, e)]) (hxy : x ≠ y) (hce : c ≠ e) (h1 : N[i]? = some x) (h2 : σ[i]? = some (some v)) (h3 : N[j]? = some y) (h4 : σ[j]? = some (some w)) :
    Clo H2 f d [x, y] [v, w] := by
  have C1 : CelC H2 c v := by
    obtain ⟨o, q, k⟩ := L.cel (x, c) (by simp)
    obtain ⟨u, d, r⟩ := k i v h1 h2
    exact ⟨o, u, q, d, r⟩
  have C2 : CelC H2 e w := by
    obtain ⟨o, q, k⟩ := L.cel (y, e) (by simp)
    obtain ⟨u, d, r⟩ := k j w h3 h4
    exact ⟨o, u, q, d, r⟩
  refine ⟨_, F.kp L.same.kp, ⟨fun j z u e1 e2 => ?_, fun p hp => ?_, fun z1 z2 q g1 g2 => ?_, rfl, fun p hp => ?_⟩⟩
  · match j, e1, e2 with
    | 0, e1, e2 =>
      cases e1
      cases e2
      exact ⟨c, by simp [List.lookup_cons], C1⟩
    | 1, e1, e2 =>
      cases e1
      cases e2
      refine ⟨e, ?_, C2⟩
      rw [List.lookup_cons, beq_eq_false_iff_ne.mpr (Ne.symm hxy)]
      simp [List.lookup_cons]
  · rcases List.mem_cons.mp hp with rfl | hp
    · exact ⟨v, by simp, C1⟩
    · rw [List.mem_singleton.mp hp]
      exact ⟨w, by simp, C2⟩
  · have a1 := PySem.mem_of_lookup g1
    have a2 := PySem.mem_of_lookup g2
    simp at a1 a2
    rcases a1 with ⟨a1, b1⟩ | ⟨a1, b1⟩ <;> rcases a2 with ⟨a2, b2⟩ | ⟨a2, b2⟩
    · rw [a1, a2]
    · exact absurd (b1.symm.trans b2) hce
    · exact absurd (b2.symm.trans b1) hce
    · rw [a1, a2]
  · rcases List.mem_cons.mp hp with rfl | hp
    · simp [List.lookup_cons]
    · rw [List.mem_singleton.mp hp]
      show List.lookup y [(x, c), (y, e)] = some e
      rw [List.lookup_cons, beq_eq_false_iff_ne.mpr (Ne.symm hxy)]
      simp [List.lookup_cons]
end
theorem Lent.all2 {N : List Str} {σ : St} {H H2 : Hp} {x y : Str} {c e : Addr} {i j : Nat} {v w : V} (L : Lent N σ [(x, c), (y, e)] H H2) (h1 : N[i]? = some x) (h2 : σ[i]? = some (some v)) (h3 : N[j]? = some y) (h4 : σ[j]? = some (some w)) : AllC ([(x, c), (y, e)].map (·.2)) H2 := fun z hz => by
  obtain ⟨p, hp, rfl⟩ := List.mem_map.mp hz
  rcases List.mem_cons.mp hp with rfl | hp
  · obtain ⟨o, q, k⟩ := L.cel (x, c) (by simp)
    obtain ⟨u, d, r⟩ := k i v h1 h2
    exact ⟨v, o, u, q, d, r⟩
  · obtain rfl := List.mem_singleton.mp hp
    obtain ⟨o, q, k⟩ := L.cel (y, e) (by simp)
    obtain ⟨u, d, r⟩ := k j w h3 h4
    exact ⟨w, o, u, q, d, r⟩
theorem Clo.swap {H : Hp} {f : Addr} {d : Nd} {x y : Str} {v w : V} (h : Clo H f d [x, y] [v, w]) : Clo H f d [y, x] [w, v] := by
  obtain ⟨cl, F, C⟩ := h
  refine ⟨cl, F, ⟨fun i z u e1 e2 => ?_, fun p hp => ?_, C.inj, rfl, C.lk⟩⟩
  · match i, e1, e2 with
    | 0, e1, e2 => exact C.has 1 z u e1 e2
    | 1, e1, e2 => exact C.has 0 z u e1 e2
  · obtain ⟨u, hu, z⟩ := C.all p hp
    refine ⟨u, ?_, z⟩
    rcases List.mem_cons.mp hu with rfl | hu
    · simp
    · rw [List.mem_singleton.mp hu]
      simp
theorem sub1 {env : Env} {x : Str} {c : Addr} (h1 : env.cells.lookup x = some c) (h2 : env.kindOf x = some .cell) : ∀ p ∈ [(x, c)], env.cells.lookup p.1 = some p.2 ∧ env.kindOf p.1 = some .cell := fun p hp => by
  rw [List.mem_singleton.mp hp]
  exact ⟨h1, h2⟩
theorem sub2 {env : Env} {x y : Str} {c e : Addr} (h1 : env.cells.lookup x = some c) (h2 : env.kindOf x = some .cell) (h3 : env.cells.lookup y = some e) (h4 : env.kindOf y = some .cell) : ∀ p ∈ [(x, c), (y, e)], env.cells.lookup p.1 = some p.2 ∧ env.kindOf p.1 = some .cell := fun p hp => by
  rcases List.mem_cons.mp hp with rfl | hp
  · exact ⟨h1, h2⟩
  · rw [List.mem_singleton.mp hp]
    exact ⟨h3, h4⟩
/-! ### a block within a plain block, which reads names of the def -/
theorem BlkSc.lookC {X : Cx} {sc sc' : Scope} {cl : List (Str × Addr)} {C : Addr} {N0 N : List Str} {fp : List Addr} {s2 : Shared} {H2 : Hp} {pn : List (Addr × Obj)} {locs : List Str} {ix : List Nat} (hN : N0 = N) (c : blkOk sc' sc N ix = true) :
    BlkSc (cxC X sc cl C N0 fp s2 H2 pn) sc' locs ix := by
  unfold blkOk at c
  rw [Bool.and_eq_true, Bool.and_eq_true, Bool.and_eq_true, Bool.and_eq_true] at c
  obtain ⟨⟨⟨⟨c1, c2⟩, c3⟩, c4⟩, c5⟩ := c
  refine ⟨by simpa using c1, fun y hy => ?_, fun y hy hk => ?_, fun y hy hk => ?_, fun i hi => ?_⟩
  · simpa using List.all_eq_true.mp c2 y hy
  · have q := List.all_eq_true.mp c3 y hy
    rw [hk] at q
    have q' : sc.names.lookup y.1 = some .cell ∨ sc.names.lookup y.1 = some .free := by simpa using q
    rcases q' with z | z
    · exact .inl (lookup_relabel_cell (env := X.env) z)
    · exact lookup_relabel_free (env := X.env) z
  · have q := List.all_eq_true.mp c4 y hy
    rw [hk] at q
    simpa using q
  · have q := List.all_eq_true.mp c5 i hi
    show ∃ x, N0[i]? = some x ∧ _
    rw [hN]
    cases hx : N[i]? with
    | none => rw [hx] at q; cases q
    | some x =>
      rw [hx] at q
      exact ⟨x, rfl, by simpa using q⟩
section
variable {X : Cx} {sc sc' : Scope} {cl cl' : List (Str × Addr)} {C C' : Addr} {N N' : List Str} {fp fp' : List Addr} {s2 s3 : Shared} {H2 H3 : Hp} {pn pn' : List (Addr × Obj)}
theorem ix_listF : IxR (cxC (cxC X sc cl C N fp s2 H2 pn) sc' cl' C' N' fp' s3 H3 pn') (rIxL X.K) := ix_list
end

section
variable {X : Cx} {sc : Scope} {cl : List (Str × Addr)} {C : Addr} {N : List Str} {fp : List Addr} {s2 : Shared} {H2 : Hp} {pn : List (Addr × Obj)}
theorem op_in_seqB : OpR (cxC X sc cl C N fp s2 H2 pn) (compareOp .In) (rIn X.K false) := op_in_seq
end
/-! ### the changes -/
/-- one change: by swaps, by steps, the law's own -/
def Ch1 (sw st ow : Nd) (H : Hp) (f : Addr) (g : Int → Option Int) : Prop := (∀ c, 0 ≤ c → c ≤ 15 → Cell (g c)) ∧
  ((∃ d kvs, Clo H f sw ["kept"] [.ref d] ∧ H d = some (.dK kvs) ∧ ∀ c, cellV (g c) = (valV kvs (.inl c)).getD (.int c)) ∨
   (∃ b, Clo H f st ["by"] [.int b] ∧ ∀ c, g c = some ((c + b) % 16)) ∨
   (∃ b, Clo H f ow ["_law_by"] [.int b] ∧ ∀ c, g c = if c = b % 16 then none else some ((c * 3 + b) % 16)))
def spCh1 (sw st ow : Nd) (f : Addr) : Sp := fun vs H Q _ => ∃ c g, vs = [.int c] ∧ Ch1 sw st ow H f g ∧ 0 ≤ c ∧ c ≤ 15 ∧ Q (cellV (g c)) H
/-- several in a row, up to one that tells None -/
def chainG : List (Int → Option Int) → Int → Option Int
  | [], c => some c
  | g :: gs, c => match g c with
    | none => none
    | some d => chainG gs d
def mapG (g : Int → Option Int) : Option Int → Option Int
  | none => none
  | some c => g c
theorem chain_snoc : ∀ (gs : List (Int → Option Int)) (g : Int → Option Int) (c : Int), chainG (gs ++ [g]) c = mapG g (chainG gs c)
  | [], g, c => by
    show (match g c with | none => none | some d => chainG [] d) = g c
    cases g c <;> rfl
  | h :: gs, g, c => by
    show (match h c with | none => none | some d => chainG (gs ++ [g]) d) = mapG g (match h c with | none => none | some d => chainG gs d)
    cases h c with
    | none => rfl
    | some d => exact chain_snoc gs g d
theorem chain_cell : ∀ {gs : List (Int → Option Int)} {c : Int}, (∀ g ∈ gs, ∀ c, 0 ≤ c → c ≤ 15 → Cell (g c)) → 0 ≤ c → c ≤ 15 → Cell (chainG gs c)
  | [], c, _, h0, h1 => fun z e => by cases e; exact ⟨h0, h1⟩
  | g :: gs, c, h, h0, h1 => by
    have hg := h g (by simp) c h0 h1
    show Cell (match g c with | none => none | some d => chainG gs d)
    cases e : g c with
    | none => exact fun z e => nomatch e
    | some d =>
      have := hg d e
      exact chain_cell (fun g' hg' => h g' (List.mem_cons_of_mem _ hg')) this.1 this.2
structure ChN (sw st ow ch : Nd) (H : Hp) (f : Addr) (gs : List (Int → Option Int)) : Prop where
  ex : ∃ (l : Addr) (fs : List Addr), Clo H f ch ["kept"] [.ref l] ∧ H l = some (.lst (fs.map V.ref)) ∧ fs.length = gs.length ∧ fs.length ≤ 8 ∧ ∀ (i : Nat) f' g', fs[i]? = some f' → gs[i]? = some g' → Ch1 sw st ow H f' g'
def spChN (sw st ow ch : Nd) (f : Addr) : Sp := fun vs H Q _ => ∃ c gs, vs = [.int c] ∧ ChN sw st ow ch H f gs ∧ 0 ≤ c ∧ c ≤ 15 ∧ Q (cellV (chainG gs c)) H
def spHe (he : Nd) (f : Addr) : Sp := fun vs H Q _ => ∃ (c : Int) (a : Addr) (b : Int) (xs : List V), vs = [.int c] ∧ Clo H f he ["_law_asked", "_law_by"] [.ref a, .int b] ∧ H a = some (.lst xs) ∧ xs.length ≤ 100000 ∧ Q (.int ((c + b) % 16)) (upd H a (.lst (xs ++ [.int c])))
def spRu (ru : Nd) (f : Addr) : Sp := fun vs H Q _ => ∃ (x y : Nat) (a l : Addr) (ps : List Addr) (rows : Rws) (w h : Nat) (xs : List V), vs = [.int x, .int y] ∧ Clo H f ru ["_law_asked", "_law_rows_here"] [.ref a, .ref l] ∧ RowsAt H l ps rows ∧ Rect w h rows ∧ x < w ∧ y < h ∧
  H a = some (.lst xs) ∧ a ≠ l ∧ a ∉ ps ∧ xs.length ≤ 100000 ∧ ∀ t, H t = none → Q (cellV (cellN rows x y)) (upd (upd H t (.tup [.int x, .int y])) a (.lst (xs ++ [.ref t])))
def spAny (sw st ow ch he ru : Nd) (f : Addr) : Sp := fun vs H Q E => ((spCh1 sw st ow f vs H Q E ∨ spChN sw st ow ch f vs H Q E) ∨ spHe he f vs H Q E) ∨ spRu ru f vs H Q E
theorem allC_of {cs : List Addr} {H : Hp} {cvs : List V} (h : ∀ c ∈ cs, ∃ v ∈ cvs, CelC H c v) : AllC cs H := fun c hc => let ⟨v, _, z⟩ := h c hc; ⟨v, z⟩
theorem back_upd {cs : List Addr} {H : Hp} {a : Addr} {o : HO} (h : a ∉ cs) : back cs H (upd (hide cs H) a o) = upd H a o := by
  funext b
  by_cases hb : b ∈ cs
  · have n1 : b ≠ a := fun z => h (z ▸ hb)
    rw [back_in hb, upd_ne n1]
  · rw [back_out hb]
    by_cases z : b = a
    · rw [z, upd_same, upd_same]
    · rw [upd_ne z, upd_ne z, hide_out hb]
theorem back_upd2 {cs : List Addr} {H : Hp} {a t : Addr} {o u : HO} (h : a ∉ cs) (h2 : t ∉ cs) : back cs H (upd (upd (hide cs H) t u) a o) = upd (upd H t u) a o := by
  funext b
  by_cases hb : b ∈ cs
  · have n1 : b ≠ a := fun z => h (z ▸ hb)
    have n2 : b ≠ t := fun z => h2 (z ▸ hb)
    rw [back_in hb, upd_ne n1, upd_ne n2]
  · rw [back_out hb]
    by_cases z : b = a
    · rw [z, upd_same, upd_same]
    · rw [upd_ne z, upd_ne z]
      by_cases z2 : b = t
      · rw [z2, upd_same, upd_same]
      · rw [upd_ne z2, upd_ne z2, hide_out hb]
section
variable {sw st ow ch : Nd} {H H' : Hp} {f : Addr} {g : Int → Option Int} {gs : List (Int → Option Int)}
theorem Ch1.func (h : Ch1 sw st ow H f g) : ∃ d cl, FunC H f d cl := by
  obtain ⟨_, ⟨d, kvs, ⟨cl, F, _⟩, _⟩ | ⟨b, ⟨cl, F, _⟩, _⟩ | ⟨b, ⟨cl, F, _⟩, _⟩⟩ := h <;> exact ⟨_, cl, F⟩
theorem ChN.func (h : ChN sw st ow ch H f gs) : ∃ d cl, FunC H f d cl := by
  obtain ⟨l, fs, ⟨cl, F, _⟩, _⟩ := h.ex
  exact ⟨_, cl, F⟩
/-- with the cells of a chain laid aside -/
theorem Ch1.hide {cs : List Addr} {l : Addr} {xs : List V} (h : Ch1 sw st ow H f g) (hl : H l = some (.lst xs)) (hcs : ∀ c ∈ cs, ∃ v ∈ [V.ref l], CelC H c v) : Ch1 sw st ow (L2.hide cs H) f g := by
  have cel : ∀ c ∈ cs, CelC H c (.ref l) := fun c hc => by
    obtain ⟨v, hv, z⟩ := hcs c hc
    rw [List.mem_singleton.mp hv] at z
    exact z
  obtain ⟨hc, ⟨d, kvs, C, hd, hg⟩ | ⟨b, C, hg⟩ | ⟨b, C, hg⟩⟩ := h
  · refine ⟨hc, .inl ⟨d, kvs, C.hide fun c h => ⟨_, cel c h, fun z => ?_⟩, (allC_of hcs).dk hd, hg⟩⟩
    have e := V.ref.inj (List.mem_singleton.mp z)
    rw [e, hd] at hl
    cases hl
  · exact ⟨hc, .inr (.inl ⟨b, C.hide fun c h => ⟨_, cel c h, fun z => nomatch (List.mem_singleton.mp z)⟩, hg⟩)⟩
  · exact ⟨hc, .inr (.inr ⟨b, C.hide fun c h => ⟨_, cel c h, fun z => nomatch (List.mem_singleton.mp z)⟩, hg⟩)⟩
/-- known things, dicts and lists stay -/
def Kd (H H' : Hp) : Prop := Kp H H' ∧ (∀ b kvs, H b = some (.dK kvs) → H' b = some (.dK kvs))
theorem Same.kd (s : Same H H') : Kd H H' := ⟨s.kp, fun _ _ e => s _ _ e⟩
theorem SameT.kd {tb : Tb} (e : SameT tb H H') (t : Tbs tb H) : Kd H H' := ⟨e.kp t, fun _ _ h => e.dk t h⟩
theorem Ch1.kd (k : Kd H H') (h : Ch1 sw st ow H f g) : Ch1 sw st ow H' f g := by
  obtain ⟨hc, ⟨d, kvs, C, hd, hg⟩ | ⟨b, C, hg⟩ | ⟨b, C, hg⟩⟩ := h
  · exact ⟨hc, .inl ⟨d, kvs, C.kp k.1, k.2 _ _ hd, hg⟩⟩
  · exact ⟨hc, .inr (.inl ⟨b, C.kp k.1, hg⟩)⟩
  · exact ⟨hc, .inr (.inr ⟨b, C.kp k.1, hg⟩)⟩
theorem ChN.kd (k : Kd H H') (kl : ∀ b xs, H b = some (.lst xs) → H' b = some (.lst xs)) (h : ChN sw st ow ch H f gs) : ChN sw st ow ch H' f gs := by
  obtain ⟨l, fs, C, hl, h1, h2, h3⟩ := h.ex
  exact ⟨l, fs, C.kp k.1, kl _ _ hl, h1, h2, fun i f' g' a b => (h3 i f' g' a b).kd k⟩
end
/-- one change whose dict is younger than H₀ -/
def Ch1F (sw st ow : Nd) (H₀ H : Hp) (f : Addr) (g : Int → Option Int) : Prop := (∀ c, 0 ≤ c → c ≤ 15 → Cell (g c)) ∧
  ((∃ d kvs, Clo H f sw ["kept"] [.ref d] ∧ H d = some (.dK kvs) ∧ H₀ d = none ∧ ∀ c, cellV (g c) = (valV kvs (.inl c)).getD (.int c)) ∨
   (∃ b, Clo H f st ["by"] [.int b] ∧ ∀ c, g c = some ((c + b) % 16)) ∨
   (∃ b, Clo H f ow ["_law_by"] [.int b] ∧ ∀ c, g c = if c = b % 16 then none else some ((c * 3 + b) % 16)))
theorem Ch1F.kd {sw st ow : Nd} {H₀ H H' : Hp} {f : Addr} {g : Int → Option Int} (k : Kd H H') (h : Ch1F sw st ow H₀ H f g) : Ch1F sw st ow H₀ H' f g := by
  obtain ⟨hc, ⟨d, kvs, C, hd, n, hg⟩ | ⟨b, C, hg⟩ | ⟨b, C, hg⟩⟩ := h
  · exact ⟨hc, .inl ⟨d, kvs, C.kp k.1, k.2 _ _ hd, n, hg⟩⟩
  · exact ⟨hc, .inr (.inl ⟨b, C.kp k.1, hg⟩)⟩
  · exact ⟨hc, .inr (.inr ⟨b, C.kp k.1, hg⟩)⟩
theorem Ch1F.clear {sw st ow : Nd} {H₀ H H' : Hp} {f z : Addr} {o : HO} {g : Int → Option Int} (h : Ch1F sw st ow H₀ H f g) (hz : H₀ z = some o) (k : Kp H H') (kd : ∀ b kvs, b ≠ z → H b = some (.dK kvs) → H' b = some (.dK kvs)) : Ch1 sw st ow H' f g := by
  obtain ⟨hc, ⟨d, kvs, C, hd, n, hg⟩ | ⟨b, C, hg⟩ | ⟨b, C, hg⟩⟩ := h
  · exact ⟨hc, .inl ⟨d, kvs, C.kp k, kd _ _ (Ne.symm (ne_of_none hz n)) hd, hg⟩⟩
  · exact ⟨hc, .inr (.inl ⟨b, C.kp k, hg⟩)⟩
  · exact ⟨hc, .inr (.inr ⟨b, C.kp k, hg⟩)⟩
theorem SameT.free {tb : Tb} {H H' : Hp} (s : SameT tb H H') (t : Tbs tb H') {b : Addr} (n : H' b = none) : H b = none := by
  cases e : H b with
  | none => rfl
  | some o =>
    by_cases hb : b ∈ tb.map (·.1)
    · obtain ⟨x, hx, rfl⟩ := List.mem_map.mp hb
      obtain ⟨ps, z⟩ := (t x hx).is
      rw [n] at z
      cases z
    · rw [s b o hb e] at n
      cases n
theorem chain_split : ∀ (as bs : List (Int → Option Int)) (c : Int), chainG (as ++ bs) c = match chainG as c with | none => none | some d => chainG bs d
  | [], bs, c => rfl
  | g :: as, bs, c => by
    show (match g c with | none => none | some d => chainG (as ++ bs) d) = match (match g c with | none => none | some d => chainG as d) with | none => none | some d => chainG bs d
    cases g c with
    | none => rfl
    | some d => exact chain_split as bs d
theorem chain_step {gs : List (Int → Option Int)} {g : Int → Option Int} {i : Nat} {c d : Int} (h : chainG (gs.take i) c = some d) (hg : gs[i]? = some g) : chainG (gs.take (i + 1)) c = g d := by
  rw [List.take_succ, hg]
  show chainG (gs.take i ++ [g]) c = g d
  rw [chain_snoc, h]
  rfl
theorem chain_stop {gs : List (Int → Option Int)} {i : Nat} {c : Int} (h : chainG (gs.take i) c = none) : chainG gs c = none := by
  rw [← List.take_append_drop i gs, chain_split, h]
theorem mapG_rect {w h : Nat} {rows : Rws} {g : Int → Option Int} (R : Rect w h rows) (hg : ∀ c, 0 ≤ c → c ≤ 15 → Cell (g c)) : Rect w h (rows.map fun r => r.map (mapG g)) :=
  ⟨by rw [List.length_map]; exact R.len, R.h1, R.h2, R.w1, R.w2, fun r hr => by
    obtain ⟨s, hs, rfl⟩ := List.mem_map.mp hr
    refine ⟨by rw [List.length_map]; exact (R.row s hs).1, fun x hx => ?_⟩
    obtain ⟨y, hy, rfl⟩ := List.mem_map.mp hx
    cases y with
    | none => exact fun z e => nomatch e
    | some c =>
      have := (R.row s hs).2 _ hy c rfl
      exact hg c this.1 this.2⟩
/-! ### the makers -/
def spBySwaps (tb : Tb) (sw : Nd) : Sp := fun vs H Q _ => ∃ d kvs, vs = [.ref d] ∧ H d = some (.dK kvs) ∧ Tbs tb H ∧ ∀ f d2 H', SameT tb H H' → Tbs tb H' → Clo H' f sw ["kept"] [.ref d2] → H d2 = none → H f = none → H' d2 = some (.dK kvs) → Q (.ref f) H'
def spBySteps (tb : Tb) (st : Nd) (x : Str) : Sp := fun vs H Q _ => ∃ b, vs = [.int b] ∧ Tbs tb H ∧ ∀ f H', SameT tb H H' → Tbs tb H' → H f = none → Clo H' f st [x] [.int b] → Q (.ref f) H'
def spChained (tb : Tb) (ch : Nd) : Sp := fun vs H Q _ => ∃ (l : Addr) (fs : List Addr), vs = [.ref l] ∧ H l = some (.lst (fs.map V.ref)) ∧ Tbs tb H ∧ ∀ f l2 H', SameT tb H H' → Tbs tb H' → Clo H' f ch ["kept"] [.ref l2] → H l2 = none → H f = none → H' l2 = some (.lst (fs.map V.ref)) → Q (.ref f) H'
/-! ### pictures by changes -/
/-- what a function that is handed in does: asked n times so far -/
structure Jok (spc : Addr → Sp) (f z : Addr) (J : Nat → Hp → Prop) (g : Int → Option Int) : Prop where
  same : ∀ n H H', J n H → Same H H' → J n H'
  func : ∀ n H, J n H → ∃ d cl, FunC H f d cl
  zz : ∀ n H, J n H → ∃ o, H z = some o ∧ ∀ xs, o ≠ .tup xs
  call : ∀ n H c Q, J n H → n ≤ 5000 → 0 ≤ c → c ≤ 15 → (∀ H', J (n + 1) H' → SameP z H H' → Q (cellV (g c)) H') → spc f [.int c] H Q E0
  cell : ∀ c, 0 ≤ c → c ≤ 15 → Cell (g c)
theorem Jok.pic {spc : Addr → Sp} {f z : Addr} {J : Nat → Hp → Prop} {g : Int → Option Int} {n : Nat} {H H' : Hp} (K : Jok spc f z J g) (j : J n H) (s : SameP z H H') {p : Addr} {w : Nat} {rows : Rws} (h : PicAt H p w rows) : PicAt H' p w rows := by
  obtain ⟨o, e, no⟩ := K.zz n H j
  have t : ∀ {b : Addr} {xs : List V}, H b = some (.tup xs) → H' b = some (.tup xs) := fun {b xs} q => s b _ (fun z' => no xs (by rw [z', e] at q; exact Option.some.inj q)) q
  obtain ⟨pp, pm, a, b, c⟩ := h
  exact ⟨pp, pm, t a, t b, t c⟩
theorem Jok.free {spc : Addr → Sp} {f z : Addr} {J : Nat → Hp → Prop} {g : Int → Option Int} {n : Nat} {H H' : Hp} (K : Jok spc f z J g) (j : J n H') (s : SameP z H H') {m : Addr} (h : H' m = none) : H m = none := by
  cases e : H m with
  | none => rfl
  | some o =>
    by_cases zz : m = z
    · obtain ⟨o', e', _⟩ := K.zz n H' j
      rw [← zz, h] at e'
      cases e'
    · rw [s m o zz e] at h
      cases h
theorem Jok.ne {spc : Addr → Sp} {f z : Addr} {J : Nat → Hp → Prop} {g : Int → Option Int} {n : Nat} {H : Hp} (K : Jok spc f z J g) (j : J n H) {m : Addr} (h : H m = none) : m ≠ z := fun e => by
  obtain ⟨o', e', _⟩ := K.zz n H j
  rw [← e, h] at e'
  cases e'
def spMapRow (spc : Addr → Sp) : Sp := fun vs H Q _ => ∃ (l f z : Addr) (r : List (Option Int)) (J : Nat → Hp → Prop) (g : Int → Option Int) (n : Nat), vs = [.ref l, .ref f] ∧ H l = some (.lst (r.map cellV)) ∧ Cells r ∧ r.length ≤ 64 ∧ Jok spc f z J g ∧ J n H ∧ n + r.length ≤ 5000 ∧ l ≠ z ∧
  ∀ m n' H', SameP z H H' → J n' H' → n' ≤ n + r.length → H m = none → H' m = some (.lst ((r.map (mapG g)).map cellV)) → Q (.ref m) H'
def spMapped (spc : Addr → Sp) : Sp := fun vs H Q _ => ∃ (p f z : Addr) (w h : Nat) (rows : Rws) (J : Nat → Hp → Prop) (g : Int → Option Int), vs = [.ref p, .ref f] ∧ PicAt H p w rows ∧ Rect w h rows ∧ Jok spc f z J g ∧ J 0 H ∧
  ∀ q n' H', SameP z H H' → J n' H' → n' ≤ 5000 → PicAt H' q w (rows.map fun r => r.map (mapG g)) → Q (.ref q) H'
structure Jok2 (spc : Addr → Sp) (f z : Addr) (J : Nat → Hp → Prop) (w h : Nat) (g : Nat → Nat → Option Int) : Prop where
  same : ∀ n H H', J n H → Same H H' → J n H'
  func : ∀ n H, J n H → ∃ d cl, FunC H f d cl
  zz : ∀ n H, J n H → ∃ o, H z = some o ∧ ∀ xs, o ≠ .tup xs
  call : ∀ n H (x y : Nat) Q, J n H → n ≤ 5000 → x < w → y < h → (∀ H', J (n + 1) H' → SameP z H H' → Q (cellV (g x y)) H') → spc f [.int x, .int y] H Q E0
  cell : ∀ x y, Cell (g x y)
theorem Jok2.free {spc : Addr → Sp} {f z : Addr} {J : Nat → Hp → Prop} {w h : Nat} {g : Nat → Nat → Option Int} {n : Nat} {H H' : Hp} (K : Jok2 spc f z J w h g) (j : J n H') (s : SameP z H H') {m : Addr} (h : H' m = none) : H m = none := by
  cases e : H m with
  | none => rfl
  | some o =>
    by_cases zz : m = z
    · obtain ⟨o', e', _⟩ := K.zz n H' j
      rw [← zz, h] at e'
      cases e'
    · rw [s m o zz e] at h
      cases h
theorem Jok2.ne {spc : Addr → Sp} {f z : Addr} {J : Nat → Hp → Prop} {w h : Nat} {g : Nat → Nat → Option Int} {n : Nat} {H : Hp} (K : Jok2 spc f z J w h g) (j : J n H) {m : Addr} (h : H m = none) : m ≠ z := fun e => by
  obtain ⟨o', e', _⟩ := K.zz n H j
  rw [← e, h] at e'
  cases e'
def spRuledRow (spc : Addr → Sp) : Sp := fun vs H Q _ => ∃ (f z : Addr) (w h y : Nat) (J : Nat → Hp → Prop) (g : Nat → Nat → Option Int) (n : Nat), vs = [.int w, .int y, .ref f] ∧ w ≤ 64 ∧ y < h ∧ Jok2 spc f z J w h g ∧ J n H ∧ n + w ≤ 5000 ∧
  ∀ m n' H', SameP z H H' → J n' H' → n' ≤ n + w → H m = none → H' m = some (.lst (((List.range w).map fun x => g x y).map cellV)) → Q (.ref m) H'
def spRuled (spc : Addr → Sp) : Sp := fun vs H Q _ => ∃ (f z : Addr) (w h : Nat) (J : Nat → Hp → Prop) (g : Nat → Nat → Option Int), vs = [.int w, .int h, .ref f] ∧ 1 ≤ w ∧ w ≤ 64 ∧ 1 ≤ h ∧ h ≤ 64 ∧ Jok2 spc f z J w h g ∧ J 0 H ∧
  ∀ q n' H', SameP z H H' → J n' H' → n' ≤ 5000 → PicAt H' q w (gridL w h g) → Q (.ref q) H'
/-! ### the law's own -/
structure SwOk (kvs : List (Key × V)) : Prop where
  cell : ∀ p ∈ kvs, ∃ x : Option Int, Cell x ∧ p.2 = cellV x
  len : kvs.length ≤ 16
def spSwaps (K : PySem.W.Frag) : Sp := fun vs H Q _ => ∃ (a : Addr) (ns : List Int) (k : Int), vs = [.ref a, .int k] ∧ SqL K H a (ns.map V.int) ∧ 0 ≤ k ∧ k < 1000 ∧ ∀ d kvs H', Same H H' → H d = none → H' d = some (.dK kvs) → SwOk kvs → Q (.ref d) H'
def swapV (kvs : List (Key × V)) : Option Int → V
  | none => .non
  | some c => (valV kvs (.inl c)).getD (.int c)
def spSwapped : Sp := fun vs H Q _ => ∃ d kvs x, vs = [.ref d, cellV x] ∧ H d = some (.dK kvs) ∧ Q (swapV kvs x) H
theorem put_cells {kvs : List (Key × V)} {k : Key} {x : Option Int} (h : ∀ p ∈ kvs, ∃ x : Option Int, Cell x ∧ p.2 = cellV x) (hx : Cell x) : ∀ p ∈ putK kvs k (cellV x), ∃ x : Option Int, Cell x ∧ p.2 = cellV x := fun p hp => by
  unfold putK at hp
  split at hp
  · obtain ⟨q, hq, e⟩ := List.mem_map.mp hp
    split at e
    · rw [← e]
      exact ⟨x, hx, rfl⟩
    · rw [← e]
      exact h q hq
  · rcases List.mem_append.mp hp with hp | hp
    · exact h p hp
    · rw [List.mem_singleton.mp hp]
      exact ⟨x, hx, rfl⟩
theorem put_len (kvs : List (Key × V)) (k : Key) (v : V) : (putK kvs k v).length ≤ kvs.length + 1 := by
  unfold putK
  split
  · rw [List.length_map]
    omega
  · rw [List.length_append]
    exact Nat.le_refl _
theorem valV_mem2 {kvs : List (Key × V)} {k : Key} {v : V} (h : valV kvs k = some v) : ∃ p ∈ kvs, p.2 = v := by
  unfold valV at h
  cases e : kvs.find? (fun kv => decide (kv.1 = k)) with
  | none => rw [e] at h; cases h
  | some p =>
    rw [e] at h
    exact ⟨p, List.mem_of_find?_eq_some e, Option.some.inj h⟩
/-- the change that a dict of swaps tells -/
def swapG (kvs : List (Key × V)) (c : Int) : Option Int := match (valV kvs (.inl c)).getD (.int c) with
  | .int i => some i
  | _ => none
theorem swapG_is {kvs : List (Key × V)} (h : ∀ p ∈ kvs, ∃ x : Option Int, Cell x ∧ p.2 = cellV x) (c : Int) : cellV (swapG kvs c) = (valV kvs (.inl c)).getD (.int c) := by
  unfold swapG
  cases e : valV kvs (.inl c) with
  | none => rfl
  | some v =>
    obtain ⟨p, hp, rfl⟩ := valV_mem2 e
    obtain ⟨x, _, ex⟩ := h p hp
    show cellV (match p.2 with | .int i => some i | _ => none) = p.2
    rw [ex]
    cases x <;> rfl
theorem swapG_cell {kvs : List (Key × V)} (h : ∀ p ∈ kvs, ∃ x : Option Int, Cell x ∧ p.2 = cellV x) {c : Int} (h0 : 0 ≤ c) (h1 : c ≤ 15) : Cell (swapG kvs c) := by
  unfold swapG
  cases e : valV kvs (.inl c) with
  | none => exact fun z e => by cases e; exact ⟨h0, h1⟩
  | some v =>
    obtain ⟨p, hp, rfl⟩ := valV_mem2 e
    obtain ⟨x, hx, ex⟩ := h p hp
    show Cell (match p.2 with | .int i => some i | _ => none)
    rw [ex]
    cases x with
    | none => exact fun z e => nomatch e
    | some i => exact hx
theorem swapV_is {kvs : List (Key × V)} (h : ∀ p ∈ kvs, ∃ x : Option Int, Cell x ∧ p.2 = cellV x) (x : Option Int) : swapV kvs x = cellV (mapG (swapG kvs) x) := by
  cases x with
  | none => rfl
  | some c => exact (swapG_is h c).symm
/-- the sixteen cells that a change tells -/
def dueL (g : Int → Option Int) : List V := ((List.range 16).map fun c => g (c : Nat)).map cellV
theorem due_at {g : Int → Option Int} {c : Nat} (h : c ≤ 15) : atI (dueL g) (c : Int) = some (cellV (g c)) := atI_nat (by
  unfold dueL
  rw [List.getElem?_map, List.getElem?_map, List.getElem?_range (by omega)]
  rfl)
theorem due_len (g : Int → Option Int) : (dueL g).length = 16 := by
  unfold dueL
  rw [List.length_map, List.length_map, List.length_range]
theorem due_get {g : Int → Option Int} {i : Nat} (h : i < 16) : (dueL g)[i]? = some (cellV (g i)) := by
  unfold dueL
  rw [List.getElem?_map, List.getElem?_map, List.getElem?_range h]
  rfl
theorem told_lt {i : Nat} {x : V} (h : (upTo 16 ++ [V.int 3, .int 0, .int 15])[i]? = some x) : ∃ c : Nat, x = .int (c : Int) ∧ c ≤ 15 := by
  rcases List.mem_append.mp (List.mem_of_getElem? h) with m | m
  · unfold upTo at m
    obtain ⟨c, hc, rfl⟩ := List.mem_map.mp m
    exact ⟨c, rfl, by have := List.mem_range.mp hc; omega⟩
  · rcases List.mem_cons.mp m with rfl | m
    · exact ⟨3, rfl, by decide⟩
    · rcases List.mem_cons.mp m with rfl | m
      · exact ⟨0, rfl, by decide⟩
      · rw [List.mem_singleton.mp m]
        exact ⟨15, rfl, by decide⟩
def spLinks (K : PySem.W.Frag) (tb : Tb) (sw st ow : Nd) : Sp := fun vs H Q _ => ∃ (a d : Addr) (ns : List Int) (kvs : List (Key × V)) (b : Int), vs = [.ref a, .ref d, .int b] ∧ SqL K H a (ns.map V.int) ∧ H d = some (.dK kvs) ∧ SwOk kvs ∧ Tbs tb H ∧
  ∀ (t lc ld : Addr) (fs : List Addr) (gs : List (Int → Option Int)) H', SameT tb H H' → Tbs tb H' → H' t = some (.tup [.ref lc, .ref ld]) → H lc = none → H' lc = some (.lst (fs.map V.ref)) → H' ld = some (.lst (dueL (chainG gs))) → fs.length = gs.length → fs.length ≤ 8 → (∀ (i : Nat) f' g', fs[i]? = some f' → gs[i]? = some g' → Ch1F sw st ow H H' f' g') → Q (.ref t) H'
theorem Tbs.put {tb : Tb} {H : Hp} {m : Addr} {xs : List V} {o : HO} (t : Tbs tb H) (h : H m = some (.lst xs)) : Tbs tb (upd H m o) := fun x hx => by
  have n1 : x.1 ≠ m := Ne.symm ((t x hx).ne h fun _ z => nomatch z)
  rcases t x hx with z | ⟨c, z1, z2⟩
  · exact .inl (by rw [upd_ne n1]; exact z)
  · have n2 : c ≠ m := ne_of z2 h fun z => nomatch z
    exact .inr ⟨c, by rw [upd_ne n1]; exact z1, by rw [upd_ne n2]; exact z2⟩
theorem Tbs.putD {tb : Tb} {H : Hp} {m : Addr} {xs : List (Key × V)} {o : HO} (t : Tbs tb H) (h : H m = some (.dK xs)) : Tbs tb (upd H m o) := fun x hx => by
  have n1 : x.1 ≠ m := Ne.symm ((t x hx).ne h fun _ z => nomatch z)
  rcases t x hx with z | ⟨c, z1, z2⟩
  · exact .inl (by rw [upd_ne n1]; exact z)
  · have n2 : c ≠ m := ne_of z2 h fun z => nomatch z
    exact .inr ⟨c, by rw [upd_ne n1]; exact z1, by rw [upd_ne n2]; exact z2⟩
theorem Kp.putD {H : Hp} {m : Addr} {xs : List (Key × V)} {o : HO} (h : H m = some (.dK xs)) : Kp H (upd H m o) :=
  ⟨fun b u e => (upd_ne (ne_of e h fun z => nomatch z)).trans e, fun b q e => (upd_ne (ne_of e h fun z => nomatch z)).trans e⟩
theorem RowsAt.put {H : Hp} {l m : Addr} {ps : List Addr} {rows : Rws} {o : HO} (h : RowsAt H l ps rows) (n : l ≠ m) (np : ∀ x ∈ ps, x ≠ m) : RowsAt (upd H m o) l ps rows :=
  ⟨(upd_ne n).trans h.lst, h.len, fun i p r e1 e2 => (upd_ne (np p (List.mem_of_getElem? e1))).trans (h.row i p r e1 e2)⟩
theorem RowsAt.ne {H : Hp} {l m : Addr} {ps : List Addr} {rows : Rws} (h : RowsAt H l ps rows) (n : H m = none) : l ≠ m ∧ ∀ x ∈ ps, x ≠ m :=
  ⟨ne_of_none h.lst n, fun x hx => by
    obtain ⟨k, hk, ek⟩ := List.mem_iff_getElem.mp hx
    have hl := h.len
    exact ne_of_none (h.row k x _ (by rw [List.getElem?_eq_getElem hk, ek]) (List.getElem?_eq_getElem (by omega))) n⟩
theorem SameT.put {tb : Tb} {H H2 : Hp} {m : Addr} {o : HO} (s : SameT tb H H2) (h : H m = none) : SameT tb H (upd H2 m o) := fun b u n e => by
  rw [upd_ne (ne_of_none e h)]
  exact s b u n e
theorem Kd.putL {H : Hp} {m : Addr} {xs : List V} {o : HO} (h : H m = some (.lst xs)) : Kd H (upd H m o) :=
  ⟨⟨fun b u e => (upd_ne (ne_of e h fun z => nomatch z)).trans e, fun b q e => (upd_ne (ne_of e h fun z => nomatch z)).trans e⟩, fun b k e => (upd_ne (ne_of e h fun z => nomatch z)).trans e⟩
theorem Kd.trans {H H1 H2 : Hp} (a : Kd H H1) (b : Kd H1 H2) : Kd H H2 := ⟨a.1.trans b.1, fun _ _ e => b.2 _ _ (a.2 _ _ e)⟩
theorem last_at {us : List V} {v : V} : atI (us ++ [v]) (-1) = some v := atI_m1 (by rw [List.length_append]; show 0 < us.length + 1; omega) (by
  rw [List.length_append]
  show (us ++ [v])[us.length + 1 - 1]? = _
  rw [Nat.add_sub_cancel, List.getElem?_append_right (Nat.le_refl _), Nat.sub_self]
  rfl)
theorem rng_snoc {h : Nat → Option Int} {zs : List V} {k : Nat} (e : zs = ((List.range k).map h).map cellV) : zs ++ [cellV (h k)] = ((List.range (k + 1)).map h).map cellV := by
  rw [e, List.range_succ, List.map_append, List.map_append]
  rfl
/-- what stands behind i turns of the law's links -/
structure LinkI (tb : Tb) (sw st ow : Nd) (H H2 : Hp) (lc ld ll : Addr) (fs : List Addr) (gs : List (Int → Option Int)) (us : List V) (i : Nat) : Prop where
  t : Tbs tb H2
  s : SameT tb H H2
  hc : H2 lc = some (.lst (fs.map V.ref))
  hd : H2 ld = some (.lst (us ++ [.ref ll]))
  hl : H2 ll = some (.lst (dueL (chainG gs)))
  ul : us.length = i
  fl : fs.length = i
  gl : gs.length = i
  ch : ∀ (i : Nat) f' g', fs[i]? = some f' → gs[i]? = some g' → Ch1F sw st ow H H2 f' g'
  n1 : lc ≠ ld
  n2 : ll ≠ lc
  n3 : ll ≠ ld
  fc : H lc = none
  fd : H ld = none
theorem LinkI.next {tb : Tb} {sw st ow : Nd} {H H2 H3 H5 : Hp} {lc ld ll l2 f : Addr} {fs : List Addr} {gs : List (Int → Option Int)} {us : List V} {i : Nat} {g : Int → Option Int} {zs : List V} (L : LinkI tb sw st ow H H2 lc ld ll fs gs us i) (s3 : SameT tb H2 H3) (t3 : Tbs tb H3) (c : Ch1F sw st ow H H3 f g)
    (s5 : Same (upd H3 lc (.lst (fs.map V.ref ++ [.ref f]))) H5) (n2 : H5 l2 = none) (e : zs = ((List.range 16).map fun (c : Nat) => mapG g (chainG gs c)).map cellV) :
    LinkI tb sw st ow H (upd (upd H5 l2 (.lst zs)) ld (.lst ((us ++ [.ref ll]) ++ [.ref l2]))) lc ld l2 (fs ++ [f]) (gs ++ [g]) (us ++ [.ref ll]) (i + 1) := by
  have c3 := s3.lst L.t L.hc
  have d3 := s3.lst L.t L.hd
  have d4 : (upd H3 lc (.lst (fs.map V.ref ++ [.ref f]))) ld = some (.lst (us ++ [.ref ll])) := (upd_ne (Ne.symm L.n1)).trans d3
  have c5 := s5 _ _ upd_same
  have d5 := s5 _ _ d4
  have t5 := (t3.put c3 (o := .lst (fs.map V.ref ++ [.ref f]))).keep s5
  have k23 := s3.kd L.t
  have k35 := (Kd.putL c3 (o := .lst (fs.map V.ref ++ [.ref f]))).trans s5.kd
  have s6 : Same H5 (upd H5 l2 (.lst zs)) := Same.new n2
  have d6 := s6 _ _ d5
  have k57 := s6.kd.trans (Kd.putL d6 (o := .lst ((us ++ [.ref ll]) ++ [.ref l2])))
  have l2d : l2 ≠ ld := Ne.symm (ne_of_none d5 n2)
  have l2c : l2 ≠ lc := Ne.symm (ne_of_none c5 n2)
  refine ⟨(t5.keep s6).put d6, ?_, ?_, upd_same, ?_, by rw [List.length_append, L.ul]; rfl, by rw [List.length_append, L.fl]; rfl, by rw [List.length_append, L.gl]; rfl, fun j f' g' a b => ?_, L.n1, l2c, l2d, L.fc, L.fd⟩
  · exact ((((L.s.trans s3).put L.fc).trans s5.toT).trans s6.toT).put L.fd
  · rw [upd_ne L.n1, s6 _ _ c5, List.map_append]
    rfl
  · rw [upd_ne l2d, upd_same, e]
    unfold dueL
    congr 3
    exact List.map_congr_left fun c _ => (chain_snoc gs g c).symm
  · by_cases hj : j < fs.length
    · rw [List.getElem?_append_left hj] at a
      rw [List.getElem?_append_left (by rw [L.gl, ← L.fl]; exact hj)] at b
      exact (((L.ch j f' g' a b).kd k23).kd k35).kd k57
    · have hgf : gs.length = fs.length := L.gl.trans L.fl.symm
      rw [List.getElem?_append_right (by omega)] at a b
      cases hk : j - fs.length with
      | zero =>
        rw [hk] at a
        rw [hgf, hk] at b
        cases a
        cases b
        exact (c.kd k35).kd k57
      | succ n =>
        rw [hk] at a
        cases a
theorem LinkI.mid {tb : Tb} {sw st ow : Nd} {H H2 H3 : Hp} {lc ld ll : Addr} {fs : List Addr} {gs : List (Int → Option Int)} {us : List V} {i : Nat} {o : HO} (L : LinkI tb sw st ow H H2 lc ld ll fs gs us i) (s3 : SameT tb H2 H3) :
    H3 lc = some (.lst (fs.map V.ref)) ∧ (upd H3 lc o) ld = some (.lst (us ++ [.ref ll])) ∧ (upd H3 lc o) ll = some (.lst (dueL (chainG gs))) :=
  ⟨s3.lst L.t L.hc, (upd_ne (Ne.symm L.n1)).trans (s3.lst L.t L.hd), (upd_ne L.n2).trans (s3.lst L.t L.hl)⟩
theorem inV_two {x : Option Int} {m : Int} : inV (cellV x) [V.non, .int m] = decide (x = none ∨ x = some m) := by
  cases x with
  | none => simp [inV, cellV, eqV]
  | some c =>
    have e : inV (cellV (some c)) [V.non, .int m] = (m == c) := by simp [inV, cellV, eqV]
    rw [e]
    by_cases h : m = c
    · subst h; simp
    · have h2 : ¬ c = m := fun z => h z.symm
      simp [h, h2]
def spTells (sw st ow ch : Nd) : Sp := fun vs H Q _ => ∃ (f d : Addr) (g : Int → Option Int), vs = [.ref f, .ref d] ∧ (Ch1 sw st ow H f g ∨ ∃ gs, ChN sw st ow ch H f gs ∧ g = chainG gs) ∧ H d = some (.lst (dueL g)) ∧ ∀ H', Same H H' → Q (.bl true) H'
def spLMapped : Sp := fun vs H Q _ => ∃ (l d : Addr) (ps : List Addr) (rows : Rws) (w h : Nat) (g : Int → Option Int), vs = [.ref l, .ref d] ∧ RowsAt H l ps rows ∧ Rect w h rows ∧ H d = some (.lst (dueL g)) ∧ (∀ c, 0 ≤ c → c ≤ 15 → Cell (g c)) ∧
  ∀ p H', Same H H' → PicAt H' p w (rows.map fun r => r.map (mapG g)) → Q (.ref p) H'
def spHeard (tb : Tb) : Sp := fun vs H Q _ => ∃ (l : Addr) (ps : List Addr) (rows : Rws) (w h : Nat) (b : Int), vs = [.ref l, .int b] ∧ RowsAt H l ps rows ∧ Rect w h rows ∧ Tbs tb H ∧ ∀ H', SameT tb H H' → Tbs tb H' → Q (.bl true) H'
def spLRuled (tb : Tb) : Sp := fun vs H Q _ => ∃ (l : Addr) (ps : List Addr) (rows : Rws) (w h : Nat), vs = [.ref l] ∧ RowsAt H l ps rows ∧ Rect w h rows ∧ Tbs tb H ∧ ∀ H', SameT tb H H' → Tbs tb H' → Q (.bl true) H'
/-! ### changes that write nothing down, handed in -/
theorem samep_back {z : Addr} {o : HO} {H H' : Hp} (s : SameP z H H') (h : H z = some o) (h' : H' z = some o) : Same H H' := fun b u e => by
  by_cases hb : b = z
  · subst hb
    rw [h] at e
    cases e
    exact h'
  · exact s b u hb e
theorem jok_c1 {sw st ow ch he ru : Nd} {f : Addr} {g : Int → Option Int} {o : Obj} (hc : ∀ c, 0 ≤ c → c ≤ 15 → Cell (g c)) : Jok (spAny sw st ow ch he ru) f f (fun _ H => Ch1 sw st ow H f g ∧ H f = some (fz o)) g where
  same := fun n H H' ⟨C, e⟩ s => ⟨C.kd s.kd, s _ _ e⟩
  func := fun n H ⟨C, _⟩ => C.func
  zz := fun n H ⟨_, e⟩ => ⟨_, e, fun _ z => nomatch z⟩
  call := fun n H c Q ⟨C, e⟩ hn c0 c1 q => .inl (.inl (.inl ⟨c, g, rfl, C, c0, c1, q H ⟨C, e⟩ (SameP.refl _ _)⟩))
  cell := hc
theorem jok_cn {sw st ow ch he ru : Nd} {f : Addr} {gs : List (Int → Option Int)} {o : Obj} (hc : ∀ c, 0 ≤ c → c ≤ 15 → Cell (chainG gs c)) : Jok (spAny sw st ow ch he ru) f f (fun _ H => ChN sw st ow ch H f gs ∧ H f = some (fz o)) (chainG gs) where
  same := fun n H H' ⟨C, e⟩ s => ⟨C.kd s.kd fun _ _ z => s _ _ z, s _ _ e⟩
  func := fun n H ⟨C, _⟩ => C.func
  zz := fun n H ⟨_, e⟩ => ⟨_, e, fun _ z => nomatch z⟩
  call := fun n H c Q ⟨C, e⟩ hn c0 c1 q => .inl (.inl (.inr ⟨c, gs, rfl, C, c0, c1, q H ⟨C, e⟩ (SameP.refl _ _)⟩))
  cell := hc
/-- what the law holds in its hands -/
structure LawBag (sw st ow ch : Nd) (H : Hp) (l : Addr) (ps : List Addr) (rows : Rws) (d ld lu t lc f fc : Addr) (kvs : List (Key × V)) (gs : List (Int → Option Int)) : Prop where
  ra : RowsAt H l ps rows
  hd : H d = some (.dK kvs)
  hld : H ld = some (.lst (dueL (chainG gs)))
  hlu : H lu = some (.lst (dueL (swapG kvs)))
  ht : H t = some (.tup [.ref lc, .ref ld])
  c1 : Ch1 sw st ow H f (swapG kvs)
  cn : ChN sw st ow ch H fc gs
theorem LawBag.mono {sw st ow ch : Nd} {H H' : Hp} {l : Addr} {ps : List Addr} {rows : Rws} {d ld lu t lc f fc : Addr} {kvs : List (Key × V)} {gs : List (Int → Option Int)} (B : LawBag sw st ow ch H l ps rows d ld lu t lc f fc kvs gs) (s : Same H H') : LawBag sw st ow ch H' l ps rows d ld lu t lc f fc kvs gs :=
  ⟨B.ra.mono s, s _ _ B.hd, s _ _ B.hld, s _ _ B.hlu, s _ _ B.ht, B.c1.kd s.kd, B.cn.kd s.kd fun _ _ e => s _ _ e⟩
theorem LawBag.sameT {tb : Tb} {sw st ow ch : Nd} {H H' : Hp} {l : Addr} {ps : List Addr} {rows : Rws} {d ld lu t lc f fc : Addr} {kvs : List (Key × V)} {gs : List (Int → Option Int)} (B : LawBag sw st ow ch H l ps rows d ld lu t lc f fc kvs gs) (T : Tbs tb H) (s : SameT tb H H') : LawBag sw st ow ch H' l ps rows d ld lu t lc f fc kvs gs :=
  ⟨s.rows T B.ra, s.dk T B.hd, s.lst T B.hld, s.lst T B.hlu, s.tup T B.ht, B.c1.kd (s.kd T), B.cn.kd (s.kd T) fun _ _ e => s.lst T e⟩
theorem FunC.obj {H : Hp} {f : Addr} (h : ∃ d cl, FunC H f d cl) : ∃ o, H f = some (fz o) := by
  obtain ⟨d, cl, doc, pm, c', ctv, e, _⟩ := h
  exact ⟨_, e⟩
/-! ### functions that write down what they are asked -/
theorem AllC.kp {cs : List Addr} {H H' : Hp} (k : Kp H H') (h : AllC cs H) : AllC cs H' := fun c hc => let ⟨v, z⟩ := h c hc; ⟨v, z.kp k⟩
theorem AllC.pic {cs : List Addr} {H : Hp} (A : AllC cs H) {p : Addr} {w : Nat} {rows : Rws} (h : PicAt H p w rows) : PicAt (hide cs H) p w rows := let ⟨pp, pm, a, b, c⟩ := h; ⟨pp, pm, A.tup a, A.tup b, A.tup c⟩
theorem AllC.rows {cs : List Addr} {H : Hp} (A : AllC cs H) {l : Addr} {ps : List Addr} {rows : Rws} (h : RowsAt H l ps rows) : RowsAt (hide cs H) l ps rows := ⟨A.lst h.lst, h.len, fun i p r a b => A.lst (h.row i p r a b)⟩
theorem TabOk.keepP {P z : Addr} {pos : Pos} {q : Str} {H H' : Hp} {xs : List V} (t : TabOk P pos q H) (hz : H z = some (.lst xs)) (s : SameP z H H') : TabOk P pos q H' := by
  have n1 : P ≠ z := Ne.symm (t.ne hz fun _ y => nomatch y)
  rcases t with t | ⟨c, t1, t2⟩
  · exact .inl (s _ _ n1 t)
  · exact .inr ⟨c, s _ _ n1 t1, s _ _ (ne_of t2 hz fun y => nomatch y) t2⟩
theorem lent_back {tb : Tb} {H5 H6 H7 : Hp} {N : List Str} {σ : St} {cl : List (Str × Addr)} {a : Addr} {xs : List V} (L : Lent N σ cl H5 H6) (s : SameP a H6 H7) (T : Tbs tb H5) (ha : H5 a = some (.lst xs)) : Tbs tb (hide (cl.map (·.2)) H7) ∧ SameP a H5 (hide (cl.map (·.2)) H7) := by
  have sp : SameP a H5 (hide (cl.map (·.2)) H7) := fun b o n e => (hide_out (L.nin e)).trans (s b o n (L.same _ _ e))
  exact ⟨fun t ht => (T t ht).keepP ha sp, sp⟩
def JHe (he : Nd) (f a : Addr) (b : Int) (cs : List Addr) (n : Nat) (H : Hp) : Prop := Clo H f he ["_law_asked", "_law_by"] [.ref a, .int b] ∧ AllC cs H ∧ ∃ xs, H a = some (.lst xs) ∧ xs.length ≤ n ∧ ∀ x ∈ xs, ∃ c : Int, x = .int c ∧ 0 ≤ c ∧ c ≤ 15
theorem jok_he {sw st ow ch he ru : Nd} {f a : Addr} {b : Int} {cs : List Addr} : Jok (spAny sw st ow ch he ru) f a (JHe he f a b cs) (fun c => some ((c + b) % 16)) where
  same := fun n H H' ⟨C, A, xs, h1, h2, h3⟩ s => ⟨C.kp s.kp, A.kp s.kp, xs, s _ _ h1, h2, h3⟩
  func := fun n H ⟨⟨cl, F, _⟩, _⟩ => ⟨_, cl, F⟩
  zz := fun n H ⟨_, _, xs, h1, _⟩ => ⟨_, h1, fun _ z => nomatch z⟩
  call := fun n H c Q ⟨C, A, xs, h1, h2, h3⟩ hn c0 c1 q => by
    have sp : SameP a H (upd H a (.lst (xs ++ [.int c]))) := fun b o nb e => (upd_ne nb).trans e
    have k := sp.kpL h1
    refine .inl (.inr ⟨c, a, b, xs, rfl, C, h1, by omega, q _ ⟨C.kp k, A.kp k, _, upd_same, by rw [List.length_append]; show xs.length + 1 ≤ n + 1; omega, fun x hx => ?_⟩ sp⟩)
    rcases List.mem_append.mp hx with hx | hx
    · exact h3 x hx
    · exact ⟨c, List.mem_singleton.mp hx, c0, c1⟩
  cell := fun c c0 c1 z e => by cases e; omega
theorem due_flat (g : Int → Option Int) : (dueL g).all flatV = true := List.all_eq_true.mpr fun x hx => by
  unfold dueL at hx
  obtain ⟨y, _, rfl⟩ := List.mem_map.mp hx
  cases y <;> rfl
theorem inV_due {b c : Int} (c0 : 0 ≤ c) (c1 : c ≤ 15) : inV (.int c) (dueL fun c => some ((c + b) % 16)) = true := by
  unfold inV dueL
  refine List.any_eq_true.mpr ⟨.int c, List.mem_map.mpr ⟨some c, List.mem_map.mpr ⟨((c - b) % 16).toNat, List.mem_range.mpr (by omega), ?_⟩, rfl⟩, by simp [eqV]⟩
  show some ((((((c - b) % 16).toNat : Nat) : Int) + b) % 16) = some c
  congr 1
  omega
def JRu (ru : Nd) (f a l : Addr) (ps : List Addr) (rows : Rws) (w h : Nat) (cs : List Addr) (n : Nat) (H : Hp) : Prop := Clo H f ru ["_law_asked", "_law_rows_here"] [.ref a, .ref l] ∧ AllC cs H ∧ RowsAt H l ps rows ∧
  ∃ xs, H a = some (.lst xs) ∧ xs.length ≤ n ∧ ∀ x ∈ xs, ∃ (t : Addr) (i j : Nat), x = .ref t ∧ H t = some (.tup [.int i, .int j]) ∧ i < w ∧ j < h
theorem jok_ru {sw st ow ch he ru : Nd} {f a l : Addr} {ps : List Addr} {rows : Rws} {w h : Nat} {cs : List Addr} (R : Rect w h rows) (hal : a ≠ l) (hap : a ∉ ps) : Jok2 (spAny sw st ow ch he ru) f a (JRu ru f a l ps rows w h cs) w h (cellN rows) where
  same := fun n H H' ⟨C, A, RA, xs, h1, h2, h3⟩ s => ⟨C.kp s.kp, A.kp s.kp, RA.mono s, xs, s _ _ h1, h2, fun x hx => let ⟨t, i, j, e, ht, r⟩ := h3 x hx; ⟨t, i, j, e, s _ _ ht, r⟩⟩
  func := fun n H ⟨⟨cl, F, _⟩, _⟩ => ⟨_, cl, F⟩
  zz := fun n H ⟨_, _, _, xs, h1, _⟩ => ⟨_, h1, fun _ z => nomatch z⟩
  call := fun n H x y Q ⟨C, A, RA, xs, h1, h2, h3⟩ hn hx hy q => by
    refine .inr ⟨x, y, a, l, ps, rows, w, h, xs, rfl, C, RA, R, hx, hy, h1, hal, hap, by omega, fun t nt => ?_⟩
    have sp : SameP a H (upd (upd H t (.tup [.int x, .int y])) a (.lst (xs ++ [.ref t]))) := fun b o nb e => by
      rw [upd_ne nb, upd_ne (ne_of_none e nt)]
      exact e
    have k := sp.kpL h1
    have hta : t ≠ a := Ne.symm (ne_of_none h1 nt)
    refine q _ ⟨C.kp k, A.kp k, ⟨sp _ _ (Ne.symm hal) RA.lst, RA.len, fun i p r e1 e2 => sp _ _ (fun z => hap (z ▸ List.mem_of_getElem? e1)) (RA.row i p r e1 e2)⟩, _, upd_same, by rw [List.length_append]; show xs.length + 1 ≤ n + 1; omega, fun v hv => ?_⟩ sp
    rcases List.mem_append.mp hv with hv | hv
    · obtain ⟨t', i, j, e, ht, r⟩ := h3 v hv
      exact ⟨t', i, j, e, sp _ _ (ne_of ht h1 fun z => nomatch z) ht, r⟩
    · exact ⟨t, x, y, List.mem_singleton.mp hv, by rw [upd_ne hta, upd_same], hx, hy⟩
  cell := fun x y => R.cell x y
end L2

local macro_rules | `(tactic| walk_at "r1") => `(tactic| first
  | refine ⟨_, rfl, ?_⟩
  | refine ⟨_, _, rfl, rfl, ?_⟩
  | refine ⟨rfl, ?_⟩
  | refine ⟨(by show (0 : Int) < _; first | decide | omega), ?_⟩
  | refine ⟨⟨(by first | decide | omega), (by first | decide | omega)⟩, ?_⟩
  | refine ⟨L2.mulL (by first | decide | omega) (by first | decide | omega), ?_⟩
  | refine ⟨L2.mulR (by first | decide | omega) (by first | decide | omega), ?_⟩
  | refine ⟨L2.powS (by first | decide | omega) (by first | decide | omega) (by first | decide | omega), ?_⟩
  | refine ⟨L2.szV (by simp), ?_⟩)
local macro_rules | `(tactic| walk_at "rs") => `(tactic| repeat walk_at "r1")
namespace K14
open PySem PyProof.Rows L2 G
def topS (i : Nat) : Stmt := PySem.Challenge.pw_glowboard_k14_changes.main.body.getD i (.Pass ⟨0, 0, 0, 0⟩)
abbrev s_paintof : Stmt := topS 1
abbrev s_maskof : Stmt := topS 2
abbrev s_packed : Stmt := topS 3
abbrev s_cellof : Stmt := topS 4
abbrev s_rowof : Stmt := topS 5
abbrev s_rowsof : Stmt := topS 6
abbrev s_byswaps : Stmt := topS 8
abbrev s_bysteps : Stmt := topS 9
abbrev s_chained : Stmt := topS 10
abbrev s_mappedrow : Stmt := topS 11
abbrev s_mapped : Stmt := topS 12
abbrev s_ruledrow : Stmt := topS 13
abbrev s_ruled : Stmt := topS 14
abbrev s_lawdraw : Stmt := topS 16
abbrev s_lawgreat : Stmt := topS 17
abbrev s_lawalike : Stmt := topS 18
abbrev s_lawsides : Stmt := topS 19
abbrev s_lawrows : Stmt := topS 20
abbrev s_lawpacked : Stmt := topS 21
abbrev s_lawswaps : Stmt := topS 22
abbrev s_lawswapped : Stmt := topS 23
abbrev s_lawown : Stmt := topS 24
abbrev s_lawlinks : Stmt := topS 25
abbrev s_lawtells : Stmt := topS 26
abbrev s_lawmapped : Stmt := topS 27
abbrev s_lawheard : Stmt := topS 28
abbrev s_lawruled : Stmt := topS 29
abbrev s_law : Stmt := topS 30
abbrev n_byswaps_swapped : Nd := ndOf (inDef s_byswaps 1) "by_swaps.<locals>.swapped"
abbrev p_byswaps_swapped : Pos := posOf (inDef s_byswaps 1)
theorem sn_byswaps_swapped : CloScope ["colour"] [] ["kept"] n_byswaps_swapped.scope := ⟨rfl, rfl, rfl, by decide +kernel, by decide +kernel, by decide +kernel, by decide +kernel, by decide +kernel⟩
abbrev n_bysteps_stepped : Nd := ndOf (inDef s_bysteps 0) "by_steps.<locals>.stepped"
abbrev p_bysteps_stepped : Pos := posOf (inDef s_bysteps 0)
theorem sn_bysteps_stepped : CloScope ["colour"] [] ["by"] n_bysteps_stepped.scope := ⟨rfl, rfl, rfl, by decide +kernel, by decide +kernel, by decide +kernel, by decide +kernel, by decide +kernel⟩
abbrev n_chained_changed : Nd := ndOf (inDef s_chained 1) "chained.<locals>.changed"
abbrev p_chained_changed : Pos := posOf (inDef s_chained 1)
theorem sn_chained_changed : CloScope ["colour"] ["told", "change"] ["kept"] n_chained_changed.scope := ⟨rfl, rfl, rfl, by decide +kernel, by decide +kernel, by decide +kernel, by decide +kernel, by decide +kernel⟩
abbrev n_lawown_lawchange : Nd := ndOf (inDef s_lawown 0) "_law_own.<locals>._law_change"
abbrev p_lawown_lawchange : Pos := posOf (inDef s_lawown 0)
theorem sn_lawown_lawchange : CloScope ["_law_colour"] [] ["_law_by"] n_lawown_lawchange.scope := ⟨rfl, rfl, rfl, by decide +kernel, by decide +kernel, by decide +kernel, by decide +kernel, by decide +kernel⟩
abbrev n_lawheard_lawchange : Nd := ndOf (inDef s_lawheard 1) "_law_heard.<locals>._law_change"
abbrev p_lawheard_lawchange : Pos := posOf (inDef s_lawheard 1)
theorem sn_lawheard_lawchange : CloScope ["_law_colour"] [] ["_law_asked", "_law_by"] n_lawheard_lawchange.scope := ⟨rfl, rfl, rfl, by decide +kernel, by decide +kernel, by decide +kernel, by decide +kernel, by decide +kernel⟩
abbrev n_lawruled_lawrule : Nd := ndOf (inDef s_lawruled 1) "_law_ruled.<locals>._law_rule"
abbrev p_lawruled_lawrule : Pos := posOf (inDef s_lawruled 1)
theorem sn_lawruled_lawrule : CloScope ["_law_x", "_law_y"] [] ["_law_asked", "_law_rows_here"] n_lawruled_lawrule.scope := ⟨rfl, rfl, rfl, by decide +kernel, by decide +kernel, by decide +kernel, by decide +kernel, by decide +kernel⟩
structure Blt (mg : Str → Option Value) : Prop where
  f_len : mg "len" = none
  f_range : mg "range" = none
  f_enumerate : mg "enumerate" = none
  f_reversed : mg "reversed" = none
  f_isinstance : mg "isinstance" = none
  f_int : mg "int" = none
  f_bool : mg "bool" = none
  f_str : mg "str" = none
  f_list : mg "list" = none
  f_tuple : mg "tuple" = none
  f_dict : mg "dict" = none
  f_all : mg "all" = none
section
variable {P : Program} {w : World} {K : PySem.W.Frag} {mg : Str → Option Value} {base : Heap} {tb : List (Addr × Pos × Str)}
theorem sc_lawalike : FnScope ["_law_found", "_law_due"] ["_law_found", "_law_due"] (defScope s_lawalike) := ⟨rfl, rfl, rfl, by decide +kernel, rfl, by decide +kernel, by decide +kernel⟩
theorem okn_lawalike {f : Addr} {fd : FuncData} (D : Df K mg "_law_alike" s_lawalike ["_law_found", "_law_due"] f fd) (B : Blt mg) : ∀ n, FnOk P w K mg base CX0 n f fd ["_law_found", "_law_due"] (spAlike n)
  | 0 => ⟨fun vs H Q E h => by obtain ⟨x, y, _, h, _⟩ := h; exact h.elim, fun A outer s H args us vs Q E _ _ _ _ h => by obtain ⟨x, y, _, h, _⟩ := h; exact h.elim⟩
  | n + 1 => by
    have IH := okn_lawalike D B n
    refine D.F.ok sc_lawalike (fun vs H Q E h => ?_) (fun cdv A outer s H vs Q E hr h => ?_)
    · obtain ⟨x, y, rfl, _⟩ := h
      rfl
    obtain ⟨x, y, rfl, ha, q⟩ := h
    refine ⟨_, (pss_cons (ps_if (pt_val (pe_callB call_isiT rfl B.f_isinstance boot_isinstance (pa_cons (pv 1) (pa_cons (pe_tup (pa_cons (pe_bltn (v := .ty "tuple") rfl B.f_tuple boot_tuple rfl) (pa_cons (pe_bltn (v := .ty "list") rfl B.f_list boot_list rfl) pa_nil))) pa_nil)))) (pss_cons (ps_if (PW.pt (pw_or (pt_cmpR op_ne (pe_callB call_isi rfl B.f_isinstance boot_isinstance (pa_cons (pv 1) (pa_cons (pe_bltn (v := .ty "tuple") rfl B.f_tuple boot_tuple rfl) pa_nil))) (pe_callB call_isi rfl B.f_isinstance boot_isinstance (pa_cons (pv 0) (pa_cons (pe_bltn (v := .ty "tuple") rfl B.f_tuple boot_tuple rfl) pa_nil))) (nomark _)) (pw_or1 (pt_cmpR op_ne (pe_callB call_isi rfl B.f_isinstance boot_isinstance (pa_cons (pv 1) (pa_cons (pe_bltn (v := .ty "list") rfl B.f_list boot_list rfl) pa_nil))) (pe_callB call_isi rfl B.f_isinstance boot_isinstance (pa_cons (pv 0) (pa_cons (pe_bltn (v := .ty "list") rfl B.f_list boot_list rfl) pa_nil))) (nomark _))))) (pss_one (ps_ret pe_bl)) pss_nil)
    (pss_cons (ps_if (pt_cmpR op_ne (pe_callB call_len_seq rfl B.f_len boot_len (pa_cons (pv 0) pa_nil)) (pe_callB call_len_seq rfl B.f_len boot_len (pa_cons (pv 1) pa_nil)) (nomark _)) (pss_one (ps_ret pe_bl)) pss_nil)
    (pss_one (ps_ret (pe_callB (call_all rfl) rfl B.f_all boot_all (pa_cons (pe_comp (locs := ["_law_k"]) (ix := [0, 1]) rfl (BlkSc.look (dsc := defScope s_lawalike) (N := ["_law_found", "_law_due"]) rfl rfl (by decide +kernel)) (pi_range1 rfl B.f_range (pa_cons (pe_callB call_len_seq rfl B.f_len boot_len (pa_cons (pv 1) pa_nil)) pa_nil)) (fun _ _ _ _ _ _ => (pg_name (i := 0) (by decide +kernel : (["_law_k", "_law_found", "_law_due"] : List Str).Nodup) rfl (Or.inl rfl))) (fun _ _ _ _ _ _ => pts_nil) (fun _ _ _ _ _ _ => (pe_call IH hr rfl D.m D.F.kp D.b .nil pass0 (pa_cons (pe_ix ix_seqB (pv 1) (pv 0) (fun _ _ => rfl)) (pa_cons (pe_ix ix_seqB (pv 2) (pv 0) (fun _ _ => rfl)) pa_nil))))) pa_nil)))))) pss_nil)
    (pss_cons (ps_if (PW.pt (pw_or (pt_cmpR op_isN (pv 1) pe_non (nomark _)) (pw_or1 (pt_cmpR op_isN (pv 0) pe_non (nomark _))))) (pss_one (ps_ret (pe_and (pe_cmpR op_isN (pv 1) pe_non (nomark _)) (pe_one (pe_cmpR op_isN (pv 0) pe_non (nomark _)))))) pss_nil)
    (pss_cons (ps_if (PW.pt (pw_or (pt_val (pe_callB call_isi rfl B.f_isinstance boot_isinstance (pa_cons (pv 1) (pa_cons (pe_bltn (v := .ty "bool") rfl B.f_bool boot_bool rfl) pa_nil)))) (pw_or1 (pt_val (pe_callB call_isi rfl B.f_isinstance boot_isinstance (pa_cons (pv 0) (pa_cons (pe_bltn (v := .ty "bool") rfl B.f_bool boot_bool rfl) pa_nil))))))) (pss_one (ps_ret (pe_and (pe_callB call_isi rfl B.f_isinstance boot_isinstance (pa_cons (pv 1) (pa_cons (pe_bltn (v := .ty "bool") rfl B.f_bool boot_bool rfl) pa_nil))) (pe_and (pe_callB call_isi rfl B.f_isinstance boot_isinstance (pa_cons (pv 0) (pa_cons (pe_bltn (v := .ty "bool") rfl B.f_bool boot_bool rfl) pa_nil))) (pe_one (pe_cmpR op_eq (pv 0) (pv 1) (nomark _))))))) pss_nil)
    (pss_cons (ps_if (pt_val (pe_callB call_isi rfl B.f_isinstance boot_isinstance (pa_cons (pv 1) (pa_cons (pe_bltn (v := .ty "str") rfl B.f_str boot_str rfl) pa_nil)))) (pss_one (ps_ret (pe_and (pe_callB call_isi rfl B.f_isinstance boot_isinstance (pa_cons (pv 0) (pa_cons (pe_bltn (v := .ty "str") rfl B.f_str boot_str rfl) pa_nil))) (pe_one (pe_cmpR op_eq (pv 0) (pv 1) (nomark _)))))) pss_nil)
    (pss_one (ps_ret (pe_and (pe_callB call_isi rfl B.f_isinstance boot_isinstance (pa_cons (pv 0) (pa_cons (pe_bltn (v := .ty "int") rfl B.f_int boot_int rfl) pa_nil))) (pe_one (pe_cmpR op_eq (pv 0) (pv 1) (nomark _)))))))))), ?_⟩
    refine ⟨_, rfl, (by show 2 ≤ sizeLine; decide), fun p hp => ?_⟩
    have s1 : Same H (upd H p (.tup [.ty "tuple", .ty "list"])) := Same.new hp
    have tp : SqT K (upd H p (.tup [.ty "tuple", .ty "list"])) p (["tuple", "list"].map V.ty) := SqT.of upd_same
    rcases ha with ⟨rfl, hx⟩ | ⟨a, b, xs, ys, rfl, rfl, hab, hlen, hl, hi⟩
    · -- a scalar
      have hT : ∃ T, tyS (upd H p (.tup [.ty "tuple", .ty "list"])) x = some T ∧ (["tuple", "list"].any (isiB T)) = false := by
        rcases hx with rfl | ⟨c, rfl⟩ | ⟨i, rfl⟩ | ⟨z, rfl⟩
        · exact ⟨"NoneType", rfl, by decide⟩
        · exact ⟨"bool", rfl, by decide⟩
        · exact ⟨"int", rfl, by decide⟩
        · exact ⟨"str", rfl, by decide⟩
      obtain ⟨T, hT, hno⟩ := hT
      refine ⟨_, p, ["tuple", "list"], T, rfl, tp, by decide, hT, _, rfl, iteFb hno ?_⟩
      rcases hx with rfl | ⟨c, rfl⟩ | ⟨i, rfl⟩ | ⟨z, rfl⟩
      · refine ⟨_, rfl, rfl, _, rfl, iteTb rfl (iteTb rfl ⟨_, rfl, rfl, _, rfl, iteTb rfl ⟨_, rfl, rfl, ?_⟩⟩)⟩
        exact q _ s1
      · refine ⟨_, rfl, rfl, _, rfl, iteFb rfl ⟨_, rfl, rfl, _, rfl, iteFb rfl ?_⟩⟩
        refine ⟨_, rfl, _, "bool", "bool", rfl, by decide, rfl, _, rfl, iteTb (by decide) (iteTb rfl ?_)⟩
        refine ⟨_, rfl, _, "bool", "bool", rfl, by decide, rfl, _, rfl, iteTb (by decide) ⟨_, rfl, _, "bool", "bool", rfl, by decide, rfl, _, rfl, iteTb (by decide) ⟨_, rfl, _, rfl, rfl, ?_⟩⟩⟩
        rw [decide_eq_true rfl]
        exact q _ s1
      · refine ⟨_, rfl, rfl, _, rfl, iteFb rfl ⟨_, rfl, rfl, _, rfl, iteFb rfl ?_⟩⟩
        refine ⟨_, rfl, _, "bool", "int", rfl, by decide, rfl, _, rfl, iteFb (by decide) ⟨_, rfl, _, "bool", "int", rfl, by decide, rfl, _, rfl, iteFb (by decide) ?_⟩⟩
        refine ⟨_, rfl, _, "str", "int", rfl, by decide, rfl, _, rfl, iteFb (by decide) ?_⟩
        refine ⟨_, rfl, _, "int", "int", rfl, by decide, rfl, _, rfl, iteTb (by decide) ⟨_, rfl, _, rfl, rfl, ?_⟩⟩
        rw [decide_eq_true rfl]
        exact q _ s1
      · refine ⟨_, rfl, rfl, _, rfl, iteFb rfl ⟨_, rfl, rfl, _, rfl, iteFb rfl ?_⟩⟩
        refine ⟨_, rfl, _, "bool", "str", rfl, by decide, rfl, _, rfl, iteFb (by decide) ⟨_, rfl, _, "bool", "str", rfl, by decide, rfl, _, rfl, iteFb (by decide) ?_⟩⟩
        refine ⟨_, rfl, _, "str", "str", rfl, by decide, rfl, _, rfl, iteTb (by decide) ?_⟩
        refine ⟨_, rfl, _, "str", "str", rfl, by decide, rfl, _, rfl, iteTb (by decide) ⟨_, rfl, _, rfl, rfl, ?_⟩⟩
        rw [decide_eq_true rfl]
        exact q _ s1
    · -- two lists, two tuples
      generalize eH : upd H p (.tup [.ty "tuple", .ty "list"]) = H1 at s1 tp
      have hab1 : (H1 a = some (.lst xs) ∧ H1 b = some (.lst ys)) ∨ (H1 a = some (.tup xs) ∧ H1 b = some (.tup ys)) := by
        rcases hab with ⟨h1, h2⟩ | ⟨h1, h2⟩
        · exact .inl ⟨s1 _ _ h1, s1 _ _ h2⟩
        · exact .inr ⟨s1 _ _ h1, s1 _ _ h2⟩
      have hT : ∃ T, tyS H1 (.ref a) = some T ∧ tyS H1 (.ref b) = some T ∧ (["tuple", "list"].any (isiB T)) = true := by
        rcases hab1 with ⟨h1, h2⟩ | ⟨h1, h2⟩
        · exact ⟨"list", by simp only [tyS, h1], by simp only [tyS, h2], by decide⟩
        · exact ⟨"tuple", by simp only [tyS, h1], by simp only [tyS, h2], by decide⟩
      obtain ⟨T, hTa, hTb, hyes⟩ := hT
      have sa : SqL K H1 a xs ∨ SqT K H1 a xs := hab1.elim (fun h => .inl (SqL.of h.1)) fun h => .inr (SqT.of h.1)
      have sb : SqL K H1 b ys ∨ SqT K H1 b ys := hab1.elim (fun h => .inl (SqL.of h.2)) fun h => .inr (SqT.of h.2)
      have big : (ys.length : Int) < 2 ^ 62 := by
        have : (1000000 : Int) < 2 ^ 62 := by decide
        omega
      refine ⟨_, p, ["tuple", "list"], T, rfl, tp, by decide, hTb, _, rfl, iteTb hyes ?_⟩
      refine ⟨_, rfl, _, "tuple", T, rfl, by decide, hTb, _, rfl, _, "tuple", T, rfl, by decide, hTa, rfl, _, rfl, iteFb (by simp) ⟨_, rfl, _, "list", T, rfl, by decide, hTb, _, rfl, _, "list", T, rfl, by decide, hTa, rfl, _, rfl, iteFb (by simp) ?_⟩⟩
      refine ⟨_, rfl, a, xs, rfl, sa, _, rfl, b, ys, rfl, sb, rfl, _, rfl, iteFb (by rw [hl]; simp) ?_⟩
      refine ⟨_, rfl, b, ys, rfl, sb, _, rfl, by omega, big, ?_⟩
      refine comp_by (n := ys.length) (fun i σ zs H2 => ∃ v, σ = [v, some (.ref a), some (.ref b)] ∧ zs = (List.replicate i true).map V.bl ∧ Same H1 H2) ⟨none, rfl, rfl, Same.refl _⟩ ?_ ?_ ?_ ?_ ?_ ?_
      · have : (1000000 : Nat) ≤ sizeLine := by decide
        omega
      · rintro i σ zs H2 ⟨v, _, rfl, _⟩
        rw [List.length_map, List.length_replicate]
      · rintro σ zs H2 _
        show ((ys.length : Int)).toNat ≤ ys.length
        omega
      · intro i σ zs H2 hi' _
        show i < ((ys.length : Int)).toNat
        omega
      · rintro i σ zs H2 x H' Z hi' ⟨v, rfl, rfl, s2⟩ ⟨rfl, rfl⟩ hZ
        have hx : xs[i]? = some (xs[i]'(by omega)) := List.getElem?_eq_getElem (by omega)
        have hy : ys[i]? = some ys[i] := List.getElem?_eq_getElem hi'
        have e0 : (0 : Int) + (i : Int) = (i : Int) := by omega
        have ixa : rIx K (.ref a) (.int (0 + (i : Int))) H' = rIx K (.ref a) (.int (i : Int)) H' := by rw [e0]
        have ixb : rIx K (.ref b) (.int (0 + (i : Int))) H' = rIx K (.ref b) (.int (i : Int)) H' := by rw [e0]
        have ra : ∀ Q' : VK, Q' (xs[i]'(by omega)) H' → rIx K (.ref a) (.int (0 + (i : Int))) H' Q' := fun Q' hq => by
          rw [ixa]
          rcases hab1 with ⟨h1, h2⟩ | ⟨h1, h2⟩
          · exact .inl ⟨a, xs, _, _, rfl, rfl, SqL.of (s2 _ _ h1), atI_nat hx, hq⟩
          · exact .inr (.inl ⟨a, xs, _, _, rfl, rfl, SqT.of (s2 _ _ h1), atI_nat hx, hq⟩)
        have rb : ∀ Q' : VK, Q' ys[i] H' → rIx K (.ref b) (.int (0 + (i : Int))) H' Q' := fun Q' hq => by
          rw [ixb]
          rcases hab1 with ⟨h1, h2⟩ | ⟨h1, h2⟩
          · exact .inl ⟨b, ys, _, _, rfl, rfl, SqL.of (s2 _ _ h2), atI_nat hy, hq⟩
          · exact .inr (.inl ⟨b, ys, _, _, rfl, rfl, SqT.of (s2 _ _ h2), atI_nat hy, hq⟩)
        refine ⟨_, rfl, _, rfl, ra _ ⟨_, rfl, _, rfl, rb _ ⟨_, _, rfl, (hi i _ _ hx hy).mono (s1.trans s2), fun H3 s3 => ?_⟩⟩⟩
        refine hZ _ _ _ ⟨_, rfl, ?_, s2.trans s3⟩
        rw [List.replicate_succ', List.map_append]
        rfl
      · rintro σ zs H2 ⟨v, rfl, rfl, s2⟩ l hl'
        refine ⟨l, List.replicate ys.length true, rfl, SqL.of upd_same, ?_⟩
        have e : (List.replicate ys.length true).all id = true := by simp
        rw [e]
        exact q _ ((s1.trans s2).trans (Same.new hl'))
theorem ok_lawalike {f : Addr} {fd : FuncData} (D : Df K mg "_law_alike" s_lawalike ["_law_found", "_law_due"] f fd) (B : Blt mg) : Ow P w K mg base "_law_alike" ["_law_found", "_law_due"] 3 (spAlike 3) := D.ow (okn_lawalike D B _)


theorem sc_lawdraw : FnScope ["_law_script", "_law_k", "_law_many", "_law_number"] ["_law_script", "_law_k", "_law_many"] (defScope s_lawdraw) := ⟨rfl, rfl, rfl, by decide +kernel, rfl, by decide +kernel, by decide +kernel⟩
theorem ok_lawdraw {f : Addr} {fd : FuncData} (D : Df K mg "_law_draw" s_lawdraw ["_law_script", "_law_k", "_law_many"] f fd) (B : Blt mg) :
    Ow P w K mg base "_law_draw" ["_law_script", "_law_k", "_law_many"] 1 (spDraw K) := by
  refine D.ow (D.F.ok sc_lawdraw (fun vs H Q E h => ?_) (fun cdv A outer s H vs Q E hr h => ?_))
  · obtain ⟨a, ns, k, m, rfl, _⟩ := h
    rfl
  obtain ⟨a, ns, k, m, rfl, hS, k0, k1, hm, q⟩ := h
  refine ⟨_, (pss_cons (ps_set (i := 3) sc_lawdraw.nd rfl (Or.inl rfl) pe_int)
    (pss_cons (ps_if (pt_cmpR op_gt (pe_callB call_len_seq rfl B.f_len boot_len (pa_cons (pv 0) pa_nil)) pe_int (nomark _)) (pss_one (ps_set (i := 3) sc_lawdraw.nd rfl (Or.inl rfl) (pe_op op_mod (pe_ix ix_list (pv 0) (pe_op op_mod (pv 1) (pe_callB call_len_seq rfl B.f_len boot_len (pa_cons (pv 0) pa_nil))) (fun _ _ => rfl)) pe_int))) pss_nil)
    (pss_cons (ps_set (i := 3) sc_lawdraw.nd rfl (Or.inl rfl) (pe_op op_add (pe_op op_mul (pe_op op_add (pv 3) pe_int) pe_int) (pe_op op_mul (pe_op op_mul (pe_op op_add (pv 1) pe_int) (pe_op op_add (pv 1) pe_int)) pe_int)))
    (pss_one (ps_ret (pe_op op_mod (pe_op op_mod (pe_op op_mul (pe_op op_mod (pv 3) pe_int) pe_int) pe_int) (pv 2))))))), ?_⟩
  refine ⟨_, rfl, a, _, rfl, .inl hS, ?_⟩
  walk_at "rs"
  refine iteD (fun c => ?_) (fun c => ?_)
  · have hl : 0 < ns.length := by
      rw [List.length_map] at c
      omega
    obtain ⟨z, hz⟩ := atI_mod hl k
    refine ⟨_, rfl, _, rfl, _, rfl, a, _, rfl, .inl hS, _, _, rfl, rfl, (by rw [List.length_map]; show (0 : Int) < (ns.length : Int); omega), a, _, _, _, rfl, rfl, hS, hz, ?_⟩
    walk_at "rs"
    exact q _ (Int.emod_nonneg _ (by omega)) (Int.emod_lt_of_pos _ hm)
  · walk_at "rs"
    exact q _ (Int.emod_nonneg _ (by omega)) (Int.emod_lt_of_pos _ hm)
theorem sc_lawgreat : FnScope ["_law_script", "_law_k", "_law_many", "_law_number"] ["_law_script", "_law_k", "_law_many"] (defScope s_lawgreat) := ⟨rfl, rfl, rfl, by decide +kernel, rfl, by decide +kernel, by decide +kernel⟩
theorem ok_lawgreat {f : Addr} {fd : FuncData} (D : Df K mg "_law_great" s_lawgreat ["_law_script", "_law_k", "_law_many"] f fd) (B : Blt mg) :
    Ow P w K mg base "_law_great" ["_law_script", "_law_k", "_law_many"] 1 (spDraw K) := by
  refine D.ow (D.F.ok sc_lawgreat (fun vs H Q E h => ?_) (fun cdv A outer s H vs Q E hr h => ?_))
  · obtain ⟨a, ns, k, m, rfl, _⟩ := h
    rfl
  obtain ⟨a, ns, k, m, rfl, hS, k0, k1, hm, q⟩ := h
  refine ⟨_, (pss_cons (ps_set (i := 3) sc_lawgreat.nd rfl (Or.inl rfl) pe_int)
    (pss_cons (ps_if (pt_cmpR op_gt (pe_callB call_len_seq rfl B.f_len boot_len (pa_cons (pv 0) pa_nil)) pe_int (nomark _)) (pss_one (ps_set (i := 3) sc_lawgreat.nd rfl (Or.inl rfl) (pe_ix ix_list (pv 0) (pe_op op_mod (pv 1) (pe_callB call_len_seq rfl B.f_len boot_len (pa_cons (pv 0) pa_nil))) (fun _ _ => rfl)))) pss_nil)
    (pss_one (ps_ret (pe_op op_mod (pe_op op_add (pe_op op_mul (pe_op op_mod (pv 3) (pv 2)) pe_int) (pe_op op_mul (pe_op op_mul (pe_op op_add (pv 1) pe_int) (pe_op op_add (pv 1) pe_int)) pe_int)) (pv 2)))))), ?_⟩
  refine ⟨_, rfl, a, _, rfl, .inl hS, ?_⟩
  walk_at "rs"
  refine iteD (fun c => ?_) (fun c => ?_)
  · have hl : 0 < ns.length := by
      rw [List.length_map] at c
      omega
    obtain ⟨z, hz⟩ := atI_mod hl k
    refine ⟨_, rfl, _, rfl, _, rfl, a, _, rfl, .inl hS, _, _, rfl, rfl, (by rw [List.length_map]; show (0 : Int) < (ns.length : Int); omega), a, _, _, _, rfl, rfl, hS, hz, ?_⟩
    walk_at "rs"
    exact q _ (Int.emod_nonneg _ (by omega)) (Int.emod_lt_of_pos _ hm)
  · walk_at "rs"
    exact q _ (Int.emod_nonneg _ (by omega)) (Int.emod_lt_of_pos _ hm)
theorem sc_lawsides : FnScope ["_law_script", "_law_k", "_law_wide", "_law_high", "_law_way"] ["_law_script", "_law_k"] (defScope s_lawsides) := ⟨rfl, rfl, rfl, by decide +kernel, rfl, by decide +kernel, by decide +kernel⟩
theorem ok_lawsides {f : Addr} {fd : FuncData} (D : Df K mg "_law_sides" s_lawsides ["_law_script", "_law_k"] f fd)
    (O_lawdraw : Ow P w K mg base "_law_draw" ["_law_script", "_law_k", "_law_many"] 1 (spDraw K)) (B : Blt mg) :
    Ow P w K mg base "_law_sides" ["_law_script", "_law_k"] 2 (spSides K) := by
  refine D.ow (D.F.ok sc_lawsides (fun vs H Q E h => ?_) (fun cdv A outer s H vs Q E hr h => ?_))
  · obtain ⟨a, ns, k, rfl, _⟩ := h
    rfl
  obtain ⟨a, ns, k, rfl, hS, k0, k1, q⟩ := h
  refine ⟨_, (pss_cons (ps_set (i := 2) sc_lawsides.nd rfl (Or.inl rfl) (pe_op op_add pe_int (pe_own O_lawdraw hr rfl (pa_cons (pv 0) (pa_cons (pv 1) (pa_cons pe_int pa_nil))))))
    (pss_cons (ps_set (i := 3) sc_lawsides.nd rfl (Or.inl rfl) (pe_op op_add pe_int (pe_own O_lawdraw hr rfl (pa_cons (pv 0) (pa_cons (pe_op op_add (pv 1) pe_int) (pa_cons pe_int pa_nil))))))
    (pss_cons (ps_set (i := 4) sc_lawsides.nd rfl (Or.inl rfl) (pe_own O_lawdraw hr rfl (pa_cons (pv 0) (pa_cons (pe_op op_add (pv 1) pe_int) (pa_cons pe_int pa_nil)))))
    (pss_cons (ps_if (pt_cmpR op_eq (pv 4) pe_int (nomark _)) (pss_one (ps_ret (pe_tup (pa_cons (pe_op op_sub pe_int (pe_op op_fdiv (pv 3) pe_int)) (pa_cons (pe_op op_add pe_int (pe_op op_mod (pv 2) pe_int)) pa_nil))))) pss_nil)
    (pss_cons (ps_if (pt_cmpR op_eq (pv 4) pe_int (nomark _)) (pss_one (ps_ret (pe_tup (pa_cons (pe_op op_add pe_int (pe_op op_mod (pv 3) pe_int)) (pa_cons (pe_op op_sub pe_int (pe_op op_fdiv (pv 2) pe_int)) pa_nil))))) pss_nil)
    (pss_one (ps_ret (pe_tup (pa_cons (pv 2) (pa_cons (pv 3) pa_nil)))))))))), ?_⟩
  refine ⟨_, rfl, _, rfl, a, ns, k, _, rfl, hS, k0, by omega, (by decide), fun r1 a1 a2 => ?_⟩
  walk_at "rs"
  refine ⟨a, ns, k + 1, _, rfl, hS, by omega, by omega, (by decide), fun r2 b1 b2 => ?_⟩
  walk_at "rs"
  refine ⟨a, ns, k + 2, _, rfl, hS, by omega, by omega, (by decide), fun r3 c1 c2 => ?_⟩
  walk_at "rs"
  refine iteD (fun _ => ?_) (fun _ => ?_)
  · walk_at "rs"
    intro p hp
    refine q _ _ p ?_ ?_ ?_ ?_ hp <;> omega
  walk_at "rs"
  refine iteD (fun _ => ?_) (fun _ => ?_)
  · walk_at "rs"
    intro p hp
    refine q _ _ p ?_ ?_ ?_ ?_ hp <;> omega
  · walk_at "rs"
    intro p hp
    refine q _ _ p ?_ ?_ ?_ ?_ hp <;> omega
theorem sc_lawrows : FnScope ["_law_script", "_law_k", "_law_wide", "_law_high", "_law_most", "_law_rows_here", "_law_y", "_law_row", "_law_x", "_law_cell"] ["_law_script", "_law_k", "_law_wide", "_law_high"] (defScope s_lawrows) := ⟨rfl, rfl, rfl, by decide +kernel, rfl, by decide +kernel, by decide +kernel⟩
theorem ok_lawrows {f : Addr} {fd : FuncData} (D : Df K mg "_law_rows" s_lawrows ["_law_script", "_law_k", "_law_wide", "_law_high"] f fd)
    (O_lawdraw : Ow P w K mg base "_law_draw" ["_law_script", "_law_k", "_law_many"] 1 (spDraw K)) (B : Blt mg) :
    Ow P w K mg base "_law_rows" ["_law_script", "_law_k", "_law_wide", "_law_high"] 2 (spRows K) := by
  refine D.ow (D.F.ok sc_lawrows (fun vs H Q E h => ?_) (fun cdv A outer s H vs Q E hr h => ?_))
  · obtain ⟨a, ns, k, w, h, rfl, _⟩ := h
    rfl
  obtain ⟨a, ns, k, wd, hg, rfl, hS, k0, k1, w1, w2, h1, h2, q⟩ := h
  refine ⟨_, (pss_cons (ps_set (i := 4) sc_lawrows.nd rfl (Or.inl rfl) (pe_ix ix_list (pe_lst (pa_cons pe_int (pa_cons pe_int (pa_cons pe_int (pa_cons pe_int pa_nil))))) (pe_own O_lawdraw hr rfl (pa_cons (pv 0) (pa_cons (pv 1) (pa_cons pe_int pa_nil)))) (fun _ _ => rfl)))
    (pss_cons (ps_set (i := 5) sc_lawrows.nd rfl (Or.inl rfl) (pe_lst pa_nil))
    (pss_cons (ps_for PassesOwn.never rfl (pi_range1 rfl B.f_range (pa_cons (pv 3) pa_nil)) (pg_name (i := 6) sc_lawrows.nd rfl (Or.inl rfl)) (pss_cons (ps_set (i := 7) sc_lawrows.nd rfl (Or.inl rfl) (pe_lst pa_nil))
    (pss_cons (ps_for PassesOwn.never rfl (pi_range1 rfl B.f_range (pa_cons (pv 2) pa_nil)) (pg_name (i := 8) sc_lawrows.nd rfl (Or.inl rfl)) (pss_cons (ps_set (i := 9) sc_lawrows.nd rfl (Or.inl rfl) (pe_own O_lawdraw hr rfl (pa_cons (pv 0) (pa_cons (pe_op op_add (pe_op op_add (pe_op op_add (pv 1) pe_int) (pe_op op_mul (pv 6) (pv 2))) (pv 8)) (pa_cons (pv 4) pa_nil)))))
    (pss_cons (ps_if (pt_cmpR op_gt (pv 9) pe_int (nomark _)) (pss_one (ps_set (i := 9) sc_lawrows.nd rfl (Or.inl rfl) pe_non)) pss_nil)
    (pss_one (ps_expr (pe_bm PySem.F.plainAttrs_list PySem.F.slot_list_append PySem.F.type_list_append mt_append (pv 7) (pa_cons (pv 9) pa_nil)))))))
    (pss_one (ps_expr (pe_bm PySem.F.plainAttrs_list PySem.F.slot_list_append PySem.F.type_list_append mt_append (pv 5) (pa_cons (pv 7) pa_nil)))))))
    (pss_one (ps_ret (pv 5)))))), ?_⟩
  walk_at "rs"
  intro p0 n0
  have s0 : Same H (upd H p0 (.lst [.int 16, .int 24, .int 40, .int 300])) := Same.new n0
  walk_at "rs"
  refine ⟨a, ns, k, _, rfl, s0.seq hS, by omega, by omega, (by decide), fun r1 a1 a2 => ?_⟩
  obtain ⟨m, hm, hm0⟩ := at4 (a := 16) (b := 24) (c := 40) (d := 300) a1 a2 (by decide) (by decide) (by decide) (by decide)
  refine ⟨p0, _, _, _, rfl, rfl, SqL.of upd_same, hm, ?_⟩
  generalize upd H p0 (.lst [.int 16, .int 24, .int 40, .int 300]) = H1 at s0
  walk_at "rs"
  intro l nl
  refine ⟨_, rfl, _, rfl, (rngS (by omega) (by omega)).1, (rngS (by omega) (by omega)).2, ?_⟩
  refine for_range (n := hg.toNat) (fun y σ H2 => ∃ ps rows v6 v7 v8 v9, σ = [some (.ref a), some (.int k), some (.int wd), some (.int hg), some (.int m), some (.ref l), v6, v7, v8, v9] ∧ RowsB H H2 l ps rows ∧ rows.length = y ∧ ∀ r ∈ rows, r.length = wd.toNat ∧ Cells r)
    ⟨[], [], none, none, none, none, rfl, rowsNil s0 nl, rfl, (fun _ hr => nomatch hr)⟩ ?_ ?_
  · rintro y σ H2 hy ⟨ps, rows, v6, v7, v8, v9, rfl, RB, hlen, hrow⟩
    walk_at "rs"
    intro p np
    have npl : p ≠ l := fun e => by
      have := RB.rat.lst
      rw [← e, np] at this
      cases this
    have npp : p ∉ ps := fun hp => by
      obtain ⟨i, hi, e⟩ := List.mem_iff_getElem.mp hp
      have hl := RB.rat.len
      have := RB.rat.row i p (rows[i]'(by omega)) (by rw [List.getElem?_eq_getElem hi, e]) (List.getElem?_eq_getElem _)
      rw [np] at this
      cases this
    have np0 : H p = none := RB.same.free np
    have RB1 : RowsB H (upd H2 p (.lst [])) l ps rows := RB.put np0 npl npp
    have g1 : (upd H2 p (.lst [])) p = some (.lst []) := upd_same
    generalize upd H2 p (.lst []) = H3 at RB1 g1
    refine ⟨_, rfl, _, rfl, (rngS (by omega) (by omega)).1, (rngS (by omega) (by omega)).2, ?_⟩
    refine for_range (n := wd.toNat) (fun x σ H4 => ∃ r v8 v9, σ = [some (.ref a), some (.int k), some (.int wd), some (.int hg), some (.int m), some (.ref l), some (.int (0 + (y : Int))), some (.ref p), v8, v9] ∧ RowsB H H4 l ps rows ∧ H4 p = some (.lst (r.map cellV)) ∧ r.length = x ∧ Cells r)
      ⟨[], v8, v9, rfl, RB1, g1, rfl, (fun _ hc => nomatch hc)⟩ ?_ ?_
    · rintro x σ H4 hx ⟨r, v8, v9, rfl, RB4, g4, hr, hc⟩
      have hmul := mul64 (y := 0 + (y : Int)) (w := wd) (by omega) (by omega) (by omega) (by omega)
      walk_at "rs"
      refine ⟨a, ns, _, _, rfl, RB4.same.seq hS, by omega, by omega, hm0, fun z z0 z1 => ?_⟩
      walk_at "rs"
      have app : ∀ c : Option Int, Cell c → ∃ r' : List (Option Int), r'.length = x + 1 ∧ Cells r' ∧ r.map cellV ++ [cellV c] = r'.map cellV := fun c hcell => ⟨r ++ [c], by rw [List.length_append, hr]; rfl, fun d hd => by
        rcases List.mem_append.mp hd with e | e
        · exact hc d e
        · rw [List.mem_singleton.mp e]; exact hcell, by rw [List.map_append]; rfl⟩
      have sz : (r.map cellV).length < sizeLine := by
        rw [List.length_map]
        exact small1000 (by omega)
      refine iteD (fun c15 => ?_) (fun c15 => ?_)
      · obtain ⟨r', e1, e2, e3⟩ := app none (fun z e => nomatch e)
        refine ⟨_, rfl, .inl ⟨rfl, _, SqL.of g4⟩, _, rfl, p, _, _, rfl, rfl, g4, sz, ?_⟩
        exact ⟨r', _, _, rfl, RB4.put np0 npl npp, by rw [upd_same, ← e3]; rfl, e1, e2⟩
      · obtain ⟨r', e1, e2, e3⟩ := app (some z) (fun y e => by cases e; omega)
        refine ⟨_, rfl, .inl ⟨rfl, _, SqL.of g4⟩, _, rfl, p, _, _, rfl, rfl, g4, sz, ?_⟩
        exact ⟨r', _, _, rfl, RB4.put np0 npl npp, by rw [upd_same, ← e3]; rfl, e1, e2⟩
    · rintro σ H4 ⟨r, v8, v9, rfl, RB4, g4, hr, hc⟩
      have sz : (ps.map V.ref).length < sizeLine := by
        rw [List.length_map]
        have := RB4.rat.len
        exact small1000 (by omega)
      refine ⟨_, rfl, .inl ⟨rfl, _, SqL.of RB4.rat.lst⟩, _, rfl, l, _, _, rfl, rfl, RB4.rat.lst, sz, ?_⟩
      refine ⟨ps ++ [p], rows ++ [r], _, _, _, _, rfl, RB4.push np0 npl g4, by rw [List.length_append, hlen]; rfl, fun r' hr' => ?_⟩
      rcases List.mem_append.mp hr' with e | e
      · exact hrow r' e
      · rw [List.mem_singleton.mp e]
        exact ⟨hr, hc⟩
  · rintro σ H2 ⟨ps, rows, v6, v7, v8, v9, rfl, RB, hlen, hrow⟩
    refine ⟨_, rfl, ?_⟩
    exact q l ps rows H2 RB.same RB.fl (fun p hp => (RB.fp p hp).1) RB.rat ⟨hlen, by omega, by omega, by omega, by omega, hrow⟩
theorem sc_lawpacked : FnScope ["_law_rows_here", "_law_paints", "_law_masks", "_law_row", "_law_paint", "_law_mask", "_law_cell"] ["_law_rows_here"] (defScope s_lawpacked) := ⟨rfl, rfl, rfl, by decide +kernel, rfl, by decide +kernel, by decide +kernel⟩
theorem ok_lawpacked {f : Addr} {fd : FuncData} (D : Df K mg "_law_packed" s_lawpacked ["_law_rows_here"] f fd) (B : Blt mg) :
    Ow P w K mg base "_law_packed" ["_law_rows_here"] 1 spPacked := by
  refine D.ow (D.F.ok sc_lawpacked (fun vs H Q E h => ?_) (fun cdv A outer s H vs Q E hr h => ?_))
  · obtain ⟨l, ps, rows, w, h, rfl, _⟩ := h
    rfl
  obtain ⟨l, ps, rows, wd, hg, rfl, RA, R, q⟩ := h
  refine ⟨_, (pss_cons (ps_set (i := 1) sc_lawpacked.nd rfl (Or.inl rfl) (pe_lst pa_nil))
    (pss_cons (ps_set (i := 2) sc_lawpacked.nd rfl (Or.inl rfl) (pe_lst pa_nil))
    (pss_cons (ps_for PassesOwn.never rfl (pi_list (pv 0)) (pg_name (i := 3) sc_lawpacked.nd rfl (Or.inl rfl)) (pss_cons (ps_set (i := 4) sc_lawpacked.nd rfl (Or.inl rfl) pe_int)
    (pss_cons (ps_set (i := 5) sc_lawpacked.nd rfl (Or.inl rfl) pe_int)
    (pss_cons (ps_for PassesOwn.never rfl (pi_rev rfl B.f_reversed (pa_cons (pv 3) pa_nil)) (pg_name (i := 6) sc_lawpacked.nd rfl (Or.inl rfl)) (pss_cons (ps_set (i := 4) sc_lawpacked.nd rfl (Or.inl rfl) (pe_op op_mul (pv 4) pe_int))
    (pss_cons (ps_set (i := 5) sc_lawpacked.nd rfl (Or.inl rfl) (pe_op op_mul (pv 5) pe_int))
    (pss_one (ps_if (pt_cmpR op_notN (pv 6) pe_non (nomark _)) (pss_cons (ps_set (i := 4) sc_lawpacked.nd rfl (Or.inl rfl) (pe_op op_add (pv 4) (pv 6)))
    (pss_one (ps_set (i := 5) sc_lawpacked.nd rfl (Or.inl rfl) (pe_op op_add (pv 5) pe_int)))) pss_nil)))))
    (pss_cons (ps_expr (pe_bm PySem.F.plainAttrs_list PySem.F.slot_list_append PySem.F.type_list_append mt_append (pv 1) (pa_cons (pv 4) pa_nil)))
    (pss_one (ps_expr (pe_bm PySem.F.plainAttrs_list PySem.F.slot_list_append PySem.F.type_list_append mt_append (pv 2) (pa_cons (pv 5) pa_nil)))))))))
    (pss_one (ps_ret (pe_tup (pa_cons (pe_callB call_len_seq rfl B.f_len boot_len (pa_cons (pe_ix ix_list (pv 0) pe_int (fun _ _ => rfl)) pa_nil)) (pa_cons (pe_callB call_len_seq rfl B.f_len boot_len (pa_cons (pv 0) pa_nil)) (pa_cons (pe_callTy call_tuple_of rfl B.f_tuple boot_tuple (pa_cons (pv 1) pa_nil)) (pa_cons (pe_callTy call_tuple_of rfl B.f_tuple boot_tuple (pa_cons (pv 2) pa_nil)) pa_nil)))))))))), ?_⟩
  walk_at "rs"
  intro lp np
  walk_at "rs"
  intro lm nm
  have hlen := RA.len
  have hR := R.len
  have hR2 := R.h2
  have hpm : lp ≠ lm := fun e => by
    rw [← e, upd_same] at nm
    cases nm
  have s1 : Same H (upd (upd H lp (.lst [])) lm (.lst [])) := (Same.new np).trans (Same.new nm)
  have nm0 : H lm = none := (Same.new np).free nm
  have g1 : (upd (upd H lp (.lst [])) lm (.lst [])) lp = some (.lst []) := by rw [upd_ne hpm, upd_same]
  have g2 : (upd (upd H lp (.lst [])) lm (.lst [])) lm = some (.lst []) := upd_same
  generalize upd (upd H lp (.lst [])) lm (.lst []) = H1 at s1 g1 g2
  refine ⟨_, rfl, l, rfl, ⟨_, SqL.of (s1 _ _ RA.lst)⟩, ?_⟩
  refine for_list (K := K) (a := l) (xs := ps.map V.ref) (fun i σ H2 => ∃ v3 v4 v5 v6, σ = [some (.ref l), some (.ref lp), some (.ref lm), v3, v4, v5, v6] ∧ Same H H2 ∧ H2 lp = some (.lst (((rows.take i).map paintI).map V.int)) ∧ H2 lm = some (.lst (((rows.take i).map maskI).map V.int)))
    ⟨none, none, none, none, rfl, s1, g1, g2⟩ (fun i σ H2 _ ⟨_, _, _, _, _, s, _⟩ => SqL.of (s _ _ RA.lst)) ?_ ?_
  · rintro i x σ H2 hi ⟨v3, v4, v5, v6, rfl, s2, gp, gm⟩
    have hil : i < rows.length := by
      have := (List.getElem?_eq_some_iff.mp hi).1
      rw [List.length_map] at this
      omega
    obtain ⟨p, hp, gr⟩ := RA.at hil
    rw [List.getElem?_map, hp] at hi
    cases hi
    obtain ⟨hw, hc⟩ := R.row0 hil
    generalize hrow : rows[i]'hil = r at gr hw hc
    have hw2 := R.w2
    walk_at "rs"
    refine ⟨p, _, rfl, SqL.of (s2 _ _ gr), ?_⟩
    refine for_rev (K := K) (a := p) (xs := r.map cellV) (fun j σ H3 => ∃ v6, σ = [some (.ref l), some (.ref lp), some (.ref lm), some (.ref p), some (.int (paintI (r.drop (r.length - j)))), some (.int (maskI (r.drop (r.length - j)))), v6] ∧ H3 = H2)
      ⟨v6, by rw [Nat.sub_zero, List.drop_length]; rfl, rfl⟩ (fun j σ H3 _ ⟨_, _, e⟩ => by rw [e]; exact SqL.of (s2 _ _ gr)) ?_ ?_
    · rintro j x σ H3 hj hx ⟨v6, rfl, rfl⟩
      rw [List.length_map] at hj hx
      have hd : r.drop (r.length - (j + 1)) = r[r.length - 1 - j]'(by omega) :: r.drop (r.length - j) := by
        have e1 : r.length - (j + 1) = r.length - 1 - j := by omega
        have e2 : r.length - j = r.length - 1 - j + 1 := by omega
        rw [e1, e2]
        exact List.drop_eq_getElem_cons (by omega)
      rw [List.getElem?_map, List.getElem?_eq_getElem (by omega)] at hx
      have hx' : x = cellV (r[r.length - 1 - j]'(by omega)) := (Option.some.inj hx).symm
      subst hx'
      have hcell := hc _ (List.getElem_mem (show r.length - 1 - j < r.length by omega))
      generalize r[r.length - 1 - j]'(by omega) = c at hd hcell
      cases c with
      | none =>
        walk_at "rs"
        refine iteN (fun n => absurd rfl n) (fun _ => ?_)
        refine ⟨some (cellV none), ?_, rfl⟩
        rw [hd]
        show _ = [_, _, _, _, some (V.int ((none : Option Int).getD 0 + 16 * paintI (r.drop (r.length - j)))), some (V.int ((if (none : Option Int).isSome = true then 1 else 0) + 2 * maskI (r.drop (r.length - j)))), _]
        have e1 : (none : Option Int).getD 0 + 16 * paintI (r.drop (r.length - j)) = paintI (r.drop (r.length - j)) * 16 := by
          show (0 : Int) + _ = _
          omega
        have e2 : (if (none : Option Int).isSome = true then (1 : Int) else 0) + 2 * maskI (r.drop (r.length - j)) = maskI (r.drop (r.length - j)) * 2 := by
          rw [if_neg (by simp)]
          omega
        rw [e1, e2]
        rfl
      | some z =>
        walk_at "rs"
        refine ⟨some (cellV (some z)), ?_, rfl⟩
        rw [hd]
        show _ = [_, _, _, _, some (V.int ((some z : Option Int).getD 0 + 16 * paintI (r.drop (r.length - j)))), some (V.int ((if (some z : Option Int).isSome = true then 1 else 0) + 2 * maskI (r.drop (r.length - j)))), _]
        have e1 : (some z : Option Int).getD 0 + 16 * paintI (r.drop (r.length - j)) = paintI (r.drop (r.length - j)) * 16 + z := by
          show z + _ = _
          omega
        have e2 : (if (some z : Option Int).isSome = true then (1 : Int) else 0) + 2 * maskI (r.drop (r.length - j)) = maskI (r.drop (r.length - j)) * 2 + 1 := by
          rw [if_pos (show (some z).isSome = true from rfl)]
          omega
        rw [e1, e2]
        rfl
    · rintro σ H3 ⟨v6, rfl, rfl⟩
      rw [List.length_map, Nat.sub_self, List.drop_zero]
      have szp : (((rows.take i).map paintI).map V.int).length < sizeLine := by
        rw [List.length_map, List.length_map, List.length_take]
        exact small1000 (by omega)
      have szm : (((rows.take i).map maskI).map V.int).length < sizeLine := by
        rw [List.length_map, List.length_map, List.length_take]
        exact small1000 (by omega)
      refine ⟨_, rfl, .inl ⟨rfl, _, SqL.of gp⟩, _, rfl, lp, _, _, rfl, rfl, gp, szp, ?_⟩
      have gm' : (upd H3 lp (.lst (((rows.take i).map paintI).map V.int ++ [.int (paintI r)]))) lm = some (.lst (((rows.take i).map maskI).map V.int)) := by
        rw [upd_ne (Ne.symm hpm)]
        exact gm
      refine ⟨_, rfl, .inl ⟨rfl, _, SqL.of gm'⟩, _, rfl, lm, _, _, rfl, rfl, gm', szm, ?_⟩
      have tk : rows.take (i + 1) = rows.take i ++ [r] := by
        rw [List.take_succ, List.getElem?_eq_getElem hil, hrow]
        rfl
      refine ⟨_, _, _, _, rfl, (s2.put np).put nm0, ?_, ?_⟩
      · rw [upd_ne hpm, upd_same, tk, List.map_append, List.map_append]
        rfl
      · rw [upd_same, tk, List.map_append, List.map_append]
        rfl
  · rintro σ H2 ⟨v3, v4, v5, v6, rfl, s2, gp, gm⟩
    rw [List.length_map, hlen, List.take_length] at gp gm
    obtain ⟨p0, e0, g0⟩ := (RA.mono s2).atI R.ne
    refine ⟨_, rfl, l, _, 0, _, rfl, rfl, SqL.of (s2 _ _ RA.lst), e0, p0, _, rfl, .inl (SqL.of g0), _, rfl, l, _, rfl, .inl (SqL.of (s2 _ _ RA.lst)), _, rfl, lp, _, rfl, .inl ⟨SqL.of gp, fun t1 n1 => ?_⟩⟩
    refine ⟨_, rfl, lm, _, rfl, .inl ⟨SqL.of ((Same.new n1) _ _ gm), fun t2 n2 => ?_⟩⟩
    refine ⟨szV (by simp), fun t3 n3 => ?_⟩
    refine q t3 _ (((s2.trans (Same.new n1)).trans (Same.new n2)).trans (Same.new n3)) ⟨t1, t2, ?_, ?_, ?_⟩
    · rw [upd_same, List.length_map, List.length_map, hlen, (R.row0 R.ne).1]
    · exact (Same.new n3) _ _ ((Same.new n2) _ _ upd_same)
    · exact (Same.new n3) _ _ upd_same


theorem sc_paintof : FnScope ["row", "paint", "x", "cell"] ["row"] (defScope s_paintof) := ⟨rfl, rfl, rfl, by decide +kernel, rfl, by decide +kernel, by decide +kernel⟩
theorem ok_paintof {f : Addr} {fd : FuncData} (D : Df K mg "paint_of" s_paintof ["row"] f fd) (B : Blt mg) :
    Ow P w K mg base "paint_of" ["row"] 1 spPaint := by
  refine D.ow (D.F.ok sc_paintof (fun vs H Q E h => ?_) (fun cdv A outer s H vs Q E hr h => ?_))
  · obtain ⟨l, r, rfl, _⟩ := h
    rfl
  obtain ⟨l, r, rfl, hl, hc, hn, q⟩ := h
  refine ⟨_, (pss_cons (ps_set (i := 1) sc_paintof.nd rfl (Or.inl rfl) pe_int)
    (pss_cons (ps_for PassesOwn.never rfl (pi_enum rfl B.f_enumerate (pa_cons (pv 0) pa_nil)) (pg_tup (n := 2) rfl (pgs_cons (pg_name (i := 2) sc_paintof.nd rfl (Or.inl rfl)) (pgs_cons (pg_name (i := 3) sc_paintof.nd rfl (Or.inl rfl)) pgs_nil))) (pss_one (ps_if (pt_cmpR op_notN (pv 3) pe_non (nomark _)) (pss_one (ps_set (i := 1) sc_paintof.nd rfl (Or.inl rfl) (pe_op op_or (pv 1) (pe_op op_shl (pv 3) (pe_op op_mul pe_int (pv 2)))))) pss_nil)))
    (pss_one (ps_ret (pv 1))))), ?_⟩
  refine ⟨_, rfl, l, rfl, ⟨_, SqL.of hl⟩, ?_⟩
  refine for_enum (K := K) (a := l) (xs := r.map cellV) (fun i σ H2 => ∃ v w, σ = [some (.ref l), some (.int (paintI (r.take i))), v, w] ∧ Same H H2) ⟨none, none, rfl, Same.refl _⟩ (fun i σ H2 _ ⟨_, _, _, s⟩ => SqL.of (s _ _ hl)) ?_ ?_
  · rintro i x σ H2 T hi ⟨v, w, rfl, s2⟩ nT
    have hil : i < r.length := by
      have := (List.getElem?_eq_some_iff.mp hi).1
      rwa [List.length_map] at this
    rw [List.getElem?_map, List.getElem?_eq_getElem hil] at hi
    have hx : x = cellV (r[i]'hil) := (Option.some.inj hi).symm
    subst hx
    have tk : r.take (i + 1) = r.take i ++ [r[i]'hil] := by
      rw [List.take_succ, List.getElem?_eq_getElem hil]
      rfl
    have hcell := hc _ (List.getElem_mem hil)
    have hpre : Cells (r.take i) := fun d hd => hc d (List.mem_of_mem_take hd)
    have hb := paint_lt hpre
    have hln : (r.take i).length = i := by rw [List.length_take]; omega
    have sn := paint_snoc (r[i]'hil) (r.take i)
    rw [← tk, hln] at sn
    rw [hln] at hb
    generalize r[i]'hil = c at hcell sn
    have s3 : Same H2 (upd H2 T (.tup [.int i, cellV c])) := Same.new nT
    refine ⟨T, _, rfl, SqT.of upd_same, rfl, _, _, rfl, _, _, rfl, rfl, ?_⟩
    cases c with
    | none =>
      walk_at "rs"
      refine iteN (fun n => absurd rfl n) (fun _ => ?_)
      refine ⟨some (.int i), some (cellV none), ?_, s2.trans s3⟩
      have e : paintI (r.take (i + 1)) = paintI (r.take i) := by
        rw [sn]
        show _ + 0 * _ = _
        omega
      rw [e]
      rfl
    | some z =>
      obtain ⟨z0, z1⟩ := hcell z rfl
      walk_at "rs"
      refine ⟨some (.int i), some (cellV (some z)), ?_, s2.trans s3⟩
      have e : paintI (r.take (i + 1)) = Builtin.bitOr (paintI (r.take i)) (z * 2 ^ ((4 : Int) * (i : Int)).toNat) := by
        have e4 : ((4 : Int) * (i : Int)).toNat = 4 * i := by omega
        rw [e4, or_high hb.1 (by rw [two4]; exact hb.2) z0, sn, two4]
        rfl
      rw [e]
      rfl
  · rintro σ H2 ⟨v, w, rfl, s2⟩
    refine ⟨_, rfl, ?_⟩
    rw [List.length_map, List.take_length]
    exact q _ s2
theorem sc_maskof : FnScope ["row", "mask", "x", "cell"] ["row"] (defScope s_maskof) := ⟨rfl, rfl, rfl, by decide +kernel, rfl, by decide +kernel, by decide +kernel⟩
theorem ok_maskof {f : Addr} {fd : FuncData} (D : Df K mg "mask_of" s_maskof ["row"] f fd) (B : Blt mg) :
    Ow P w K mg base "mask_of" ["row"] 1 spMask := by
  refine D.ow (D.F.ok sc_maskof (fun vs H Q E h => ?_) (fun cdv A outer s H vs Q E hr h => ?_))
  · obtain ⟨l, r, rfl, _⟩ := h
    rfl
  obtain ⟨l, r, rfl, hl, hc, hn, q⟩ := h
  refine ⟨_, (pss_cons (ps_set (i := 1) sc_maskof.nd rfl (Or.inl rfl) pe_int)
    (pss_cons (ps_for PassesOwn.never rfl (pi_enum rfl B.f_enumerate (pa_cons (pv 0) pa_nil)) (pg_tup (n := 2) rfl (pgs_cons (pg_name (i := 2) sc_maskof.nd rfl (Or.inl rfl)) (pgs_cons (pg_name (i := 3) sc_maskof.nd rfl (Or.inl rfl)) pgs_nil))) (pss_one (ps_if (pt_cmpR op_notN (pv 3) pe_non (nomark _)) (pss_one (ps_set (i := 1) sc_maskof.nd rfl (Or.inl rfl) (pe_op op_or (pv 1) (pe_op op_shl pe_int (pv 2))))) pss_nil)))
    (pss_one (ps_ret (pv 1))))), ?_⟩
  refine ⟨_, rfl, l, rfl, ⟨_, SqL.of hl⟩, ?_⟩
  refine for_enum (K := K) (a := l) (xs := r.map cellV) (fun i σ H2 => ∃ v w, σ = [some (.ref l), some (.int (maskI (r.take i))), v, w] ∧ Same H H2) ⟨none, none, rfl, Same.refl _⟩ (fun i σ H2 _ ⟨_, _, _, s⟩ => SqL.of (s _ _ hl)) ?_ ?_
  · rintro i x σ H2 T hi ⟨v, w, rfl, s2⟩ nT
    have hil : i < r.length := by
      have := (List.getElem?_eq_some_iff.mp hi).1
      rwa [List.length_map] at this
    rw [List.getElem?_map, List.getElem?_eq_getElem hil] at hi
    have hx : x = cellV (r[i]'hil) := (Option.some.inj hi).symm
    subst hx
    have tk : r.take (i + 1) = r.take i ++ [r[i]'hil] := by
      rw [List.take_succ, List.getElem?_eq_getElem hil]
      rfl
    have hb := mask_lt (r.take i)
    have hln : (r.take i).length = i := by rw [List.length_take]; omega
    have sn := mask_snoc (r[i]'hil) (r.take i)
    rw [← tk, hln] at sn
    rw [hln] at hb
    generalize r[i]'hil = c at sn
    have s3 : Same H2 (upd H2 T (.tup [.int i, cellV c])) := Same.new nT
    refine ⟨T, _, rfl, SqT.of upd_same, rfl, _, _, rfl, _, _, rfl, rfl, ?_⟩
    cases c with
    | none =>
      walk_at "rs"
      refine iteN (fun n => absurd rfl n) (fun _ => ?_)
      refine ⟨some (.int i), some (cellV none), ?_, s2.trans s3⟩
      have e : maskI (r.take (i + 1)) = maskI (r.take i) := by
        rw [sn, if_neg (by simp)]
        omega
      rw [e]
      rfl
    | some z =>
      walk_at "rs"
      refine ⟨some (.int i), some (cellV (some z)), ?_, s2.trans s3⟩
      have e : maskI (r.take (i + 1)) = Builtin.bitOr (maskI (r.take i)) ((1 : Int) * 2 ^ (i : Int).toNat) := by
        rw [Int.toNat_natCast, or_high hb.1 hb.2 (by decide), sn, if_pos (show (some z).isSome = true from rfl)]
      rw [e]
      rfl
  · rintro σ H2 ⟨v, w, rfl, s2⟩
    refine ⟨_, rfl, ?_⟩
    rw [List.length_map, List.take_length]
    exact q _ s2
theorem sc_cellof : FnScope ["pic", "x", "y"] ["pic", "x", "y"] (defScope s_cellof) := ⟨rfl, rfl, rfl, by decide +kernel, rfl, by decide +kernel, by decide +kernel⟩
theorem ok_cellof {f : Addr} {fd : FuncData} (D : Df K mg "cell_of" s_cellof ["pic", "x", "y"] f fd) (B : Blt mg) :
    Ow P w K mg base "cell_of" ["pic", "x", "y"] 1 spCell := by
  refine D.ow (D.F.ok sc_cellof (fun vs H Q E h => ?_) (fun cdv A outer s H vs Q E hr h => ?_))
  · obtain ⟨p, x, y, w, h, rows, rfl, _⟩ := h
    rfl
  obtain ⟨p, x, y, wd, hg, rows, rfl, ⟨pp, pm, h1, h2, h3⟩, R, q⟩ := h
  refine ⟨_, (pss_cons (ps_if (PW.pt (pw_or (pt_cmpR op_lt (pv 1) pe_int (nomark _)) (pw_or (pt_cmpR op_ge (pv 1) (pe_ix ix_tup (pv 0) pe_int (fun _ _ => rfl)) (nomark _)) (pw_or (pt_cmpR op_lt (pv 2) pe_int (nomark _)) (pw_or1 (pt_cmpR op_ge (pv 2) (pe_ix ix_tup (pv 0) pe_int (fun _ _ => rfl)) (nomark _))))))) (pss_one (ps_ret pe_non)) pss_nil)
    (pss_cons (ps_if (pt_cmpR op_eq (pe_op op_and (pe_op op_shr (pe_ix ix_tup (pe_ix ix_tup (pv 0) pe_int (fun _ _ => rfl)) (pv 2) (fun _ _ => rfl)) (pv 1)) pe_int) pe_int (nomark _)) (pss_one (ps_ret pe_non)) pss_nil)
    (pss_one (ps_ret (pe_op op_and (pe_op op_shr (pe_ix ix_tup (pe_ix ix_tup (pv 0) pe_int (fun _ _ => rfl)) (pv 2) (fun _ _ => rfl)) (pe_op op_mul pe_int (pv 1))) pe_int))))), ?_⟩
  have hR := R.len
  have off : ¬ (0 ≤ x ∧ x < wd ∧ 0 ≤ y ∧ y < hg) → Q .non H := fun n => by
    have e : look wd hg rows x y = none := by
      unfold look
      rw [if_neg n]
    rw [e] at q
    exact q
  walk_at "rs"
  refine iteD (fun c => iteT (off (by omega))) (fun c1 => ?_)
  refine ⟨_, rfl, _, rfl, p, _, 0, _, rfl, rfl, SqT.of h1, rfl, ?_⟩
  walk_at "rs"
  refine iteD (fun c => iteT (off (by omega))) (fun c2 => ?_)
  walk_at "rs"
  refine iteD (fun c => iteT (off (by omega))) (fun c3 => ?_)
  refine ⟨_, rfl, _, rfl, p, _, 1, _, rfl, rfl, SqT.of h1, rfl, ?_⟩
  walk_at "rs"
  refine iteD (fun c => off (by omega)) (fun c4 => ?_)
  have hy : y.toNat < rows.length := by omega
  obtain ⟨hw, hc⟩ := R.row0 hy
  have em : atI ((rows.map maskI).map V.int) y = some (.int (maskI (rows[y.toNat]'hy))) := tup_at (by omega) (by rw [List.getElem?_map, List.getElem?_eq_getElem hy]; rfl)
  have ep : atI ((rows.map paintI).map V.int) y = some (.int (paintI (rows[y.toNat]'hy))) := tup_at (by omega) (by rw [List.getElem?_map, List.getElem?_eq_getElem hy]; rfl)
  have el : look wd hg rows x y = (rows[y.toNat]'hy)[x.toNat]'(by omega) := look_in (by omega) (by omega) (by omega) (by omega) hy (by omega)
  rw [el] at q
  have hx : (rows[y.toNat]'hy)[x.toNat]? = some ((rows[y.toNat]'hy)[x.toNat]'(by omega)) := List.getElem?_eq_getElem _
  have am := mask_at hx
  have ap := paint_at hc hx
  have hcell := hc _ (List.getElem_mem (show x.toNat < (rows[y.toNat]'hy).length by omega))
  generalize (rows[y.toNat]'hy)[x.toNat]'(by omega) = c at q am ap hcell
  refine ⟨_, rfl, p, _, 3, _, rfl, rfl, SqT.of h1, rfl, _, rfl, pm, _, _, _, rfl, rfl, SqT.of h3, em, _, rfl, _, _, rfl, rfl, (by show (0 : Int) ≤ x; omega), ?_⟩
  walk_at "rs"
  refine iteD (fun e => ?_) (fun e => ?_)
  · have e' : Builtin.bitAnd (maskI (rows[y.toNat]'hy) / 2 ^ x.toNat) 1 = 0 := V.int.inj e
    rw [mod1, am] at e'
    cases c with
    | none => exact q
    | some z =>
      rw [if_pos (show (some z).isSome = true from rfl)] at e'
      exact absurd e' (by decide)
  cases c with
  | none =>
    refine absurd ?_ e
    show V.int (Builtin.bitAnd (maskI (rows[y.toNat]'hy) / 2 ^ x.toNat) 1) = V.int 0
    rw [mod1, am]
    rfl
  | some z =>
    refine ⟨_, rfl, p, _, 2, _, rfl, rfl, SqT.of h1, rfl, _, rfl, pp, _, _, _, rfl, rfl, SqT.of h2, ep, ?_⟩
    walk_at "rs"
    refine ⟨(by show (0 : Int) ≤ 4 * x; omega), ?_⟩
    walk_at "rs"
    have e4 : ((4 : Int) * x).toNat = 4 * x.toNat := by omega
    have e5 : Builtin.bitAnd (paintI (rows[y.toNat]'hy) / 2 ^ ((4 : Int) * x).toNat) 15 = z := by
      rw [mod15, e4, two4, ap]
      rfl
    show Q (V.int (Builtin.bitAnd (paintI (rows[y.toNat]'hy) / 2 ^ ((4 : Int) * x).toNat) 15)) H
    rw [e5]
    exact q


theorem sc_packed : FnScope ["wide", "rows", "paints", "masks"] ["wide", "rows"] (defScope s_packed) := ⟨rfl, rfl, rfl, by decide +kernel, rfl, by decide +kernel, by decide +kernel⟩
theorem ok_packed {f : Addr} {fd : FuncData} (D : Df K mg "packed" s_packed ["wide", "rows"] f fd)
    (O_paintof : Ow P w K mg base "paint_of" ["row"] 1 spPaint)
    (O_maskof : Ow P w K mg base "mask_of" ["row"] 1 spMask) (B : Blt mg) :
    Ow P w K mg base "packed" ["wide", "rows"] 2 spPk := by
  refine D.ow (D.F.ok sc_packed (fun vs H Q E h => ?_) (fun cdv A outer s H vs Q E hr h => ?_))
  · obtain ⟨l, ps, rows, w, h, rfl, _⟩ := h
    rfl
  obtain ⟨l, ps, rows, wd, hg, rfl, RA, R, q⟩ := h
  refine ⟨_, (pss_cons (ps_set (i := 2) sc_packed.nd rfl (Or.inl rfl) (pe_callTy call_tuple_of rfl B.f_tuple boot_tuple (pa_cons (pe_comp (locs := ["row"]) (ix := []) rfl (BlkSc.look (dsc := defScope s_packed) (N := ["wide", "rows", "paints", "masks"]) rfl rfl (by decide +kernel)) (pi_list (pv 1)) (fun _ _ _ _ _ _ => (pg_name (i := 0) (by decide +kernel : (["row"] : List Str).Nodup) rfl (Or.inl rfl))) (fun _ _ _ _ _ _ => pts_nil) (fun _ _ _ _ _ _ => (pe_own O_paintof hr rfl (pa_cons (pv 0) pa_nil)))) pa_nil)))
    (pss_cons (ps_set (i := 3) sc_packed.nd rfl (Or.inl rfl) (pe_callTy call_tuple_of rfl B.f_tuple boot_tuple (pa_cons (pe_comp (locs := ["row"]) (ix := []) rfl (BlkSc.look (dsc := defScope s_packed) (N := ["wide", "rows", "paints", "masks"]) rfl rfl (by decide +kernel)) (pi_list (pv 1)) (fun _ _ _ _ _ _ => (pg_name (i := 0) (by decide +kernel : (["row"] : List Str).Nodup) rfl (Or.inl rfl))) (fun _ _ _ _ _ _ => pts_nil) (fun _ _ _ _ _ _ => (pe_own O_maskof hr rfl (pa_cons (pv 0) pa_nil)))) pa_nil)))
    (pss_one (ps_ret (pe_tup (pa_cons (pv 0) (pa_cons (pe_callB call_len_seq rfl B.f_len boot_len (pa_cons (pv 1) pa_nil)) (pa_cons (pv 2) (pa_cons (pv 3) pa_nil))))))))), ?_⟩
  have hlen := RA.len
  have hR := R.len
  have hR2 := R.h2
  have hw2 := R.w2
  refine ⟨_, rfl, l, rfl, ⟨_, SqL.of RA.lst⟩, ?_⟩
  refine comp_by (n := rows.length) (fun i σ zs H3 => ∃ v, σ = [v] ∧ zs = ((rows.take i).map paintI).map V.int ∧ Same H H3 ∧ i ≤ rows.length) ⟨none, rfl, rfl, Same.refl _, Nat.zero_le _⟩ (Nat.le_of_lt (small1000 (by omega))) ?_ ?_ ?_ ?_ ?_
  · rintro i σ zs H3 ⟨v, _, rfl, _, hi⟩
    rw [List.length_map, List.length_map, List.length_take]
    omega
  · rintro σ zs H3 ⟨v, _, _, s3, _⟩
    exact ⟨_, SqL.of (s3 _ _ RA.lst), by rw [List.length_map, hlen]; exact Nat.le_refl _⟩
  · rintro i σ zs H3 hi ⟨v, _, _, s3, _⟩
    obtain ⟨p, hp, _⟩ := RA.at hi
    exact ⟨_, .ref p, SqL.of (s3 _ _ RA.lst), by rw [List.getElem?_map, hp]; rfl⟩
  · rintro i σ zs H3 x H' Z hi ⟨v, rfl, rfl, s3, _⟩ ⟨rfl, hx⟩ hZ
    obtain ⟨p, hp, gr⟩ := (RA.mono s3).at hi
    have e := hx _ (SqL.of (s3 _ _ RA.lst))
    rw [List.getElem?_map, hp] at e
    cases e
    obtain ⟨hw, hc⟩ := R.row0 hi
    refine ⟨_, rfl, p, _, rfl, gr, hc, by omega, fun H4 s4 => ?_⟩
    refine hZ _ _ _ ⟨_, rfl, ?_, s3.trans s4, hi⟩
    rw [List.take_succ, List.getElem?_eq_getElem hi, List.map_append, List.map_append]
    rfl
  rintro σ zs H3 ⟨v, rfl, rfl, s3, _⟩ l1 n1
  rw [List.take_length]
  refine ⟨l1, _, rfl, .inl ⟨SqL.of upd_same, fun t1 m1 => ?_⟩⟩
  have s4 : Same H3 _ := (Same.new (o := .lst ((rows.map paintI).map V.int)) n1).trans (Same.new (o := .tup ((rows.map paintI).map V.int)) m1)
  have gp : (upd (upd H3 l1 (.lst ((rows.map paintI).map V.int))) t1 (.tup ((rows.map paintI).map V.int))) t1 = some (.tup ((rows.map paintI).map V.int)) := upd_same
  generalize upd (upd H3 l1 (.lst ((rows.map paintI).map V.int))) t1 (.tup ((rows.map paintI).map V.int)) = H4 at s4 gp
  have A4 := (RA.mono s3).mono s4
  have t4 := s3.trans s4
  refine ⟨_, rfl, l, rfl, ⟨_, SqL.of A4.lst⟩, ?_⟩
  refine comp_by (n := rows.length) (fun i σ zs H5 => ∃ v, σ = [v] ∧ zs = ((rows.take i).map maskI).map V.int ∧ Same H4 H5 ∧ i ≤ rows.length) ⟨none, rfl, rfl, Same.refl _, Nat.zero_le _⟩ (Nat.le_of_lt (small1000 (by omega))) ?_ ?_ ?_ ?_ ?_
  · rintro i σ zs H5 ⟨v, _, rfl, _, hi⟩
    rw [List.length_map, List.length_map, List.length_take]
    omega
  · rintro σ zs H5 ⟨v, _, _, s5, _⟩
    exact ⟨_, SqL.of (s5 _ _ A4.lst), by rw [List.length_map, hlen]; exact Nat.le_refl _⟩
  · rintro i σ zs H5 hi ⟨v, _, _, s5, _⟩
    obtain ⟨p, hp, _⟩ := A4.at hi
    exact ⟨_, .ref p, SqL.of (s5 _ _ A4.lst), by rw [List.getElem?_map, hp]; rfl⟩
  · rintro i σ zs H5 x H' Z hi ⟨v, rfl, rfl, s5, _⟩ ⟨rfl, hx⟩ hZ
    obtain ⟨p, hp, gr⟩ := (A4.mono s5).at hi
    have e := hx _ (SqL.of (s5 _ _ A4.lst))
    rw [List.getElem?_map, hp] at e
    cases e
    obtain ⟨hw, hc⟩ := R.row0 hi
    refine ⟨_, rfl, p, _, rfl, gr, hc, by omega, fun H6 s6 => ?_⟩
    refine hZ _ _ _ ⟨_, rfl, ?_, s5.trans s6, hi⟩
    rw [List.take_succ, List.getElem?_eq_getElem hi, List.map_append, List.map_append]
    rfl
  rintro σ zs H5 ⟨v, rfl, rfl, s5, _⟩ l2 n2
  rw [List.take_length]
  refine ⟨l2, _, rfl, .inl ⟨SqL.of upd_same, fun t2 m2 => ?_⟩⟩
  have s6 : Same H5 _ := (Same.new (o := .lst ((rows.map maskI).map V.int)) n2).trans (Same.new (o := .tup ((rows.map maskI).map V.int)) m2)
  have gm : (upd (upd H5 l2 (.lst ((rows.map maskI).map V.int))) t2 (.tup ((rows.map maskI).map V.int))) t2 = some (.tup ((rows.map maskI).map V.int)) := upd_same
  generalize upd (upd H5 l2 (.lst ((rows.map maskI).map V.int))) t2 (.tup ((rows.map maskI).map V.int)) = H6 at s6 gm
  have A6 := (A4.mono s5).mono s6
  have t6 := (t4.trans s5).trans s6
  have gp6 := s6 _ _ (s5 _ _ gp)
  refine ⟨_, rfl, _, rfl, l, _, rfl, .inl (SqL.of A6.lst), _, rfl, _, rfl, szV (by simp), fun t3 n3 => ?_⟩
  refine q t3 _ (t6.trans (Same.new n3)) (t6.free n3) ⟨t1, t2, ?_, (Same.new n3) _ _ gp6, (Same.new n3) _ _ gm⟩
  rw [upd_same, List.length_map, hlen]
theorem sc_rowof : FnScope ["pic", "y"] ["pic", "y"] (defScope s_rowof) := ⟨rfl, rfl, rfl, by decide +kernel, rfl, by decide +kernel, by decide +kernel⟩
theorem ok_rowof {f : Addr} {fd : FuncData} (D : Df K mg "row_of" s_rowof ["pic", "y"] f fd)
    (O_cellof : Ow P w K mg base "cell_of" ["pic", "x", "y"] 1 spCell) (B : Blt mg) :
    Ow P w K mg base "row_of" ["pic", "y"] 2 spRowOf := by
  refine D.ow (D.F.ok sc_rowof (fun vs H Q E h => ?_) (fun cdv A outer s H vs Q E hr h => ?_))
  · obtain ⟨p, y, w, h, rows, rfl, _⟩ := h
    rfl
  obtain ⟨p, y, wd, hg, rows, rfl, PC, R, y0, y1, q⟩ := h
  obtain ⟨pp, pm, h1, h2, h3⟩ := id PC
  refine ⟨_, (pss_one (ps_ret (pe_comp (locs := ["x"]) (ix := [0, 1]) rfl (BlkSc.look (dsc := defScope s_rowof) (N := ["pic", "y"]) rfl rfl (by decide +kernel)) (pi_range1 rfl B.f_range (pa_cons (pe_ix ix_tup (pv 0) pe_int (fun _ _ => rfl)) pa_nil)) (fun _ _ _ _ _ _ => (pg_name (i := 0) (by decide +kernel : (["x", "pic", "y"] : List Str).Nodup) rfl (Or.inl rfl))) (fun _ _ _ _ _ _ => pts_nil) (fun _ _ _ _ _ _ => (pe_own O_cellof hr rfl (pa_cons (pv 1) (pa_cons (pv 0) (pa_cons (pv 2) pa_nil)))))))), ?_⟩
  have hR := R.len
  have hw2 := R.w2
  have hy : y.toNat < rows.length := by omega
  obtain ⟨hw, hc⟩ := R.row0 hy
  have eg : rows.getD y.toNat [] = rows[y.toNat]'hy := by rw [List.getD_eq_getElem?_getD, List.getElem?_eq_getElem hy]; rfl
  rw [eg] at q
  refine ⟨_, rfl, p, _, 0, _, rfl, rfl, SqT.of h1, rfl, _, rfl, (rngS (by omega) (by omega)).1, (rngS (by omega) (by omega)).2, ?_⟩
  refine comp_by (n := wd) (fun i σ zs H2 => ∃ v, σ = [v, some (.ref p), some (.int y)] ∧ zs = ((rows[y.toNat]'hy).take i).map cellV ∧ H2 = H ∧ i ≤ wd) ⟨none, rfl, rfl, rfl, Nat.zero_le _⟩ (Nat.le_of_lt (small1000 (by omega))) ?_ ?_ ?_ ?_ ?_
  · rintro i σ zs H2 ⟨v, _, rfl, _, hi⟩
    rw [List.length_map, List.length_take]
    omega
  · rintro σ zs H2 _
    show ((wd : Int)).toNat ≤ wd
    omega
  · intro i σ zs H2 hi _
    show i < ((wd : Int)).toNat
    omega
  · rintro i σ zs H2 x H' Z hi ⟨v, rfl, rfl, rfl, _⟩ ⟨rfl, rfl⟩ hZ
    refine ⟨_, rfl, _, rfl, _, rfl, p, _, _, _, _, rows, rfl, PC, R, ?_⟩
    rw [look_at R y0 hy (show i < (rows[y.toNat]'hy).length by omega)]
    refine hZ _ _ _ ⟨_, rfl, ?_, rfl, hi⟩
    rw [List.take_succ, List.getElem?_eq_getElem (by omega), List.map_append]
    rfl
  · rintro σ zs H2 ⟨v, rfl, rfl, rfl, _⟩ l hl
    rw [← hw, List.take_length]
    exact q l _ (Same.new hl) hl upd_same
theorem sc_rowsof : FnScope ["pic"] ["pic"] (defScope s_rowsof) := ⟨rfl, rfl, rfl, by decide +kernel, rfl, by decide +kernel, by decide +kernel⟩
theorem ok_rowsof {f : Addr} {fd : FuncData} (D : Df K mg "rows_of" s_rowsof ["pic"] f fd)
    (O_rowof : Ow P w K mg base "row_of" ["pic", "y"] 2 spRowOf) (B : Blt mg) :
    Ow P w K mg base "rows_of" ["pic"] 3 spRowsOf := by
  refine D.ow (D.F.ok sc_rowsof (fun vs H Q E h => ?_) (fun cdv A outer s H vs Q E hr h => ?_))
  · obtain ⟨p, w, h, rows, rfl, _⟩ := h
    rfl
  obtain ⟨p, wd, hg, rows, rfl, PC, R, q⟩ := h
  obtain ⟨pp, pm, h1, h2, h3⟩ := id PC
  refine ⟨_, (pss_one (ps_ret (pe_comp (locs := ["y"]) (ix := [0]) rfl (BlkSc.look (dsc := defScope s_rowsof) (N := ["pic"]) rfl rfl (by decide +kernel)) (pi_range1 rfl B.f_range (pa_cons (pe_ix ix_tup (pv 0) pe_int (fun _ _ => rfl)) pa_nil)) (fun _ _ _ _ _ _ => (pg_name (i := 0) (by decide +kernel : (["y", "pic"] : List Str).Nodup) rfl (Or.inl rfl))) (fun _ _ _ _ _ _ => pts_nil) (fun _ _ _ _ _ _ => (pe_own O_rowof hr rfl (pa_cons (pv 1) (pa_cons (pv 0) pa_nil))))))), ?_⟩
  have hR := R.len
  have hR2 := R.h2
  refine ⟨_, rfl, p, _, 1, _, rfl, rfl, SqT.of h1, rfl, _, rfl, (rngS (by omega) (by omega)).1, (rngS (by omega) (by omega)).2, ?_⟩
  refine comp_by (n := rows.length) (fun i σ zs H2 => ∃ (v : Option V) (qs : List Addr), σ = [v, some (.ref p)] ∧ zs = qs.map V.ref ∧ Same H H2 ∧ qs.length = i ∧ (∀ q ∈ qs, H q = none) ∧ ∀ (j : Nat) q r, qs[j]? = some q → rows[j]? = some r → H2 q = some (.lst (r.map cellV)))
    ⟨none, [], rfl, rfl, Same.refl _, rfl, (fun _ h => nomatch h), (fun _ _ _ h => nomatch h)⟩ (Nat.le_of_lt (small1000 (by omega))) ?_ ?_ ?_ ?_ ?_
  · rintro i σ zs H2 ⟨v, qs, _, rfl, _, hi, _⟩
    rw [List.length_map, hi]
  · rintro σ zs H2 _
    show ((rows.length : Int)).toNat ≤ rows.length
    omega
  · intro i σ zs H2 hi _
    show i < ((rows.length : Int)).toNat
    omega
  · rintro i σ zs H2 x H' Z hi ⟨v, qs, rfl, rfl, s2, hq, nq, gq⟩ ⟨rfl, rfl⟩ hZ
    refine ⟨_, rfl, _, rfl, p, _, _, _, rows, rfl, PC.mono s2, R, by omega, by omega, fun l' H3 s3 nl gl => ?_⟩
    have e0 : (0 + (i : Int)).toNat = i := by omega
    have eg : rows.getD i [] = rows[i]'hi := by rw [List.getD_eq_getElem?_getD, List.getElem?_eq_getElem hi]; rfl
    rw [e0, eg] at gl
    refine hZ _ _ _ ⟨_, qs ++ [l'], rfl, by rw [List.map_append]; rfl, s2.trans s3, by rw [List.length_append, hq]; rfl, fun q h => ?_, fun j q r e1 e2 => ?_⟩
    · rcases List.mem_append.mp h with h | h
      · exact nq q h
      · rw [List.mem_singleton.mp h]
        exact s2.free nl
    · by_cases hj : j < qs.length
      · rw [List.getElem?_append_left hj] at e1
        exact s3 _ _ (gq j q r e1 e2)
      · rw [List.getElem?_append_right (by omega)] at e1
        cases hk : j - qs.length with
        | zero =>
          rw [hk] at e1
          cases e1
          have ej : j = i := by omega
          subst ej
          rw [List.getElem?_eq_getElem hi] at e2
          cases e2
          exact gl
        | succ n =>
          rw [hk] at e1
          cases e1
  · rintro σ zs H2 ⟨v, qs, rfl, rfl, s2, hq, nq, gq⟩ l nl
    refine q l qs _ ⟨s2.trans (Same.new nl), s2.free nl, fun p' hp => ⟨nq p' hp, fun e => ?_⟩, upd_same, hq, fun i p' r e1 e2 => (Same.new nl) _ _ (gq i p' r e1 e2)⟩
    obtain ⟨j, hj, ej⟩ := List.mem_iff_getElem.mp hp
    have := gq j p' (rows[j]'(by omega)) (by rw [List.getElem?_eq_getElem hj, ej]) (List.getElem?_eq_getElem _)
    rw [e, nl] at this
    cases this


theorem cal_ch1 (B : Blt mg) : Cal P w K mg base 1 (spCh1 n_byswaps_swapped n_bysteps_stepped n_lawown_lawchange) := by
  refine ⟨fun f A outer s H us vs Q hr e0 r h => ?_⟩
  obtain ⟨c, g, rfl, ⟨hc, h⟩, c0, c1, q⟩ := h
  rcases h with ⟨d, kvs, C, hd, hg⟩ | ⟨b, C, hg⟩ | ⟨b, C, hg⟩
  · refine clo_run (d := n_byswaps_swapped) sn_byswaps_swapped (fun _ _ _ _ _ us hl => match us, hl with | [_], _ => rfl) hr e0 C rfl r fun cl cd hcs hlk hr => ⟨_, (pss_one (ps_ret (pe_dget2 (hu_of hr) (pv 1) (pv 0) (pv 0) m2_of))), ?_⟩
    have hd1 := (allC_of hcs).dk hd
    refine ⟨_, rfl, d, rfl, .inl ⟨kvs, .inl hd1⟩, _, rfl, _, rfl, _, .inl ⟨kvs, .inl c, .inl hd1, rfl, rfl⟩, ?_⟩
    show Q ((valV kvs (.inl c)).getD (.int c)) (back _ H (hide _ H))
    rw [back_hide, ← hg]
    exact q
  · refine clo_run (d := n_bysteps_stepped) sn_bysteps_stepped (fun _ _ _ _ _ us hl => match us, hl with | [_], _ => rfl) hr e0 C rfl r fun cl cd hcs hlk hr => ⟨_, (pss_one (ps_ret (pe_op op_mod (pe_op op_add (pv 0) (pv 1)) pe_int))), ?_⟩
    walk_at "rs"
    show Q (.int ((c + b) % 16)) (back _ H (hide _ H))
    rw [back_hide]
    rw [hg] at q
    exact q
  · refine clo_run (d := n_lawown_lawchange) sn_lawown_lawchange (fun _ _ _ _ _ us hl => match us, hl with | [_], _ => rfl) hr e0 C rfl r fun cl cd hcs hlk hr => ⟨_, (pss_cons (ps_if (pt_cmpR op_eq (pv 0) (pe_op op_mod (pv 1) pe_int) (nomark _)) (pss_one (ps_ret pe_non)) pss_nil)
    (pss_one (ps_ret (pe_op op_mod (pe_op op_add (pe_op op_mul (pv 0) pe_int) (pv 1)) pe_int)))), ?_⟩
    walk_at "rs"
    refine iteD (fun e => ?_) (fun e => ?_)
    · show Q .non (back _ H (hide _ H))
      rw [back_hide]
      rw [hg, if_pos (V.int.inj e)] at q
      exact q
    · walk_at "rs"
      show Q (.int ((c * 3 + b) % 16)) (back _ H (hide _ H))
      rw [back_hide]
      rw [hg, if_neg (fun z => e (by rw [z]))] at q
      exact q
theorem cal_chn (C_ch1 : Cal P w K mg base 1 (spCh1 n_byswaps_swapped n_bysteps_stepped n_lawown_lawchange)) (B : Blt mg) : Cal P w K mg base 2 (spChN n_byswaps_swapped n_bysteps_stepped n_lawown_lawchange n_chained_changed) := by
  refine ⟨fun f A outer s H us vs Q hr e0 r h => ?_⟩
  obtain ⟨c, gs, rfl, ⟨l, fs, C, hl, hlen, h8, hch⟩, c0, c1, q⟩ := h
  refine clo_run (d := n_chained_changed) sn_chained_changed (fun _ _ _ _ _ us hl => match us, hl with | [_], _ => rfl) hr e0 C rfl r fun cl cd hcs hlk hr => ⟨_, (pss_cons (ps_set (i := 1) sn_chained_changed.nd rfl (Or.inl rfl) (pv 0))
    (pss_cons (ps_for PassesOwn.never rfl (pi_list (pv 3)) (pg_name (i := 2) sn_chained_changed.nd rfl (Or.inl rfl)) (pss_cons (ps_set (i := 1) sn_chained_changed.nd rfl (Or.inl rfl) (pe_callV C_ch1 hr (pv 2) (pa_cons (pv 1) pa_nil)))
    (pss_one (ps_if (pt_cmpR op_isN (pv 1) pe_non (nomark _)) (pss_one (ps_ret pe_non)) pss_nil))))
    (pss_one (ps_ret (pv 1))))), ?_⟩
  have hl1 := (allC_of hcs).lst hl
  walk_at "rs"
  refine ⟨⟨_, SqL.of hl1⟩, ?_⟩
  refine for_list (K := K) (a := l) (xs := fs.map V.ref) (fun i σ H2 => H2 = hide (cl.map (·.2)) H ∧ ∃ d v2, σ = [some (.int c), some (.int d), v2, some (.ref l)] ∧ chainG (gs.take i) c = some d ∧ 0 ≤ d ∧ d ≤ 15) ⟨rfl, c, none, rfl, rfl, c0, c1⟩ ?_ ?_ ?_
  · rintro i σ H2 hi ⟨rfl, _⟩
    exact SqL.of hl1
  · rintro i x σ H2 hx ⟨rfl, d, v2, rfl, hd, d0, d1⟩
    rw [List.getElem?_map] at hx
    cases hf : fs[i]? with
    | none => rw [hf] at hx; cases hx
    | some f' =>
      rw [hf] at hx
      cases hx
      have hi : i < fs.length := (List.getElem?_eq_some_iff.mp hf).1
      have hg : gs[i]? = some (gs[i]'(by omega)) := List.getElem?_eq_getElem (by omega)
      have C1 := (hch i f' _ hf hg).hide hl hcs
      refine ⟨f', rfl, C1.func, ?_⟩
      refine ⟨_, rfl, C1.func, d, _, rfl, C1, d0, d1, ?_⟩
      have st := chain_step hd hg
      have cl1 := C1.1 d d0 d1
      generalize gs[i]'(by omega) = g at st cl1
      cases e : g d with
      | none =>
        rw [e] at st
        walk_at "rs"
        refine iteD (fun _ => ?_) (fun z => absurd rfl z)
        show Q V.non (back _ H (hide _ H))
        rw [back_hide]
        rw [chain_stop st] at q
        exact q
      | some d' =>
        rw [e] at st
        walk_at "rs"
        exact ⟨d', _, rfl, st, (cl1 d' e).1, (cl1 d' e).2⟩
  · rintro σ H2 ⟨rfl, d, v2, rfl, hd, d0, d1⟩
    refine ⟨_, rfl, ?_⟩
    show Q (.int d) (back _ H (hide _ H))
    rw [back_hide]
    rw [List.length_map, hlen, List.take_length] at hd
    rw [hd] at q
    exact q
theorem cal_he (B : Blt mg) : Cal P w K mg base 1 (spHe n_lawheard_lawchange) := by
  refine ⟨fun f A outer s H us vs Q hr e0 r h => ?_⟩
  obtain ⟨c, a, b, xs, rfl, C, ha, hx, q⟩ := h
  refine clo_run (d := n_lawheard_lawchange) sn_lawheard_lawchange (fun _ _ _ _ _ us hl => match us, hl with | [_], _ => rfl) hr e0 C rfl r fun cl cd hcs hlk hr => ⟨_, (pss_cons (ps_expr (pe_bm PySem.F.plainAttrs_list PySem.F.slot_list_append PySem.F.type_list_append mt_append (pv 1) (pa_cons (pv 0) pa_nil)))
    (pss_one (ps_ret (pe_op op_mod (pe_op op_add (pv 0) (pv 2)) pe_int)))), ?_⟩
  have ha1 := (allC_of hcs).lst ha
  have na := (allC_of hcs).ne ha fun _ _ z => nomatch z
  refine ⟨_, rfl, .inl ⟨rfl, _, SqL.of ha1⟩, _, rfl, a, _, _, rfl, rfl, ha1, Nat.lt_of_le_of_lt hx (by decide), ?_⟩
  walk_at "rs"
  show Q (.int ((c + b) % 16)) (back _ H (upd (hide _ H) a (.lst (xs ++ [.int c]))))
  rw [back_upd na]
  exact q
theorem cal_ru (B : Blt mg) : Cal P w K mg base 1 (spRu n_lawruled_lawrule) := by
  refine ⟨fun f A outer s H us vs Q hr e0 r h => ?_⟩
  obtain ⟨x, y, a, l, ps, rows, w, h, xs, rfl, C, RA, R, hx, hy, ha, hal, hap, hxs, q⟩ := h
  refine clo_run (d := n_lawruled_lawrule) sn_lawruled_lawrule (fun _ _ _ _ _ us hl => match us, hl with | [_, _], _ => rfl) hr e0 C rfl r fun cl cd hcs hlk hr => ⟨_, (pss_cons (ps_expr (pe_bm PySem.F.plainAttrs_list PySem.F.slot_list_append PySem.F.type_list_append mt_append (pv 2) (pa_cons (pe_tupC (pa_cons (pv 0) (pa_cons (pv 1) pa_nil))) pa_nil)))
    (pss_one (ps_ret (pe_ix ix_list (pe_ix ix_list (pv 3) (pv 1) (fun _ _ => rfl)) (pv 0) (fun _ _ => rfl))))), ?_⟩
  have AC := allC_of hcs
  have ha1 := AC.lst ha
  have na := AC.ne ha fun _ _ z => nomatch z
  refine ⟨_, rfl, .inl ⟨rfl, _, SqL.of ha1⟩, _, rfl, _, rfl, szV (by simp), fun t nt htc => ?_⟩
  have tc : t ∉ cl.map (·.2) := fun z => by
    obtain ⟨p, hp, e⟩ := List.mem_map.mp z
    exact htc p.1 p.2 (hlk p hp) e.symm
  have nt' : H t = none := (hide_out tc).symm.trans nt
  have hat : a ≠ t := ne_of_none ha nt'
  refine ⟨a, _, _, rfl, rfl, (upd_ne hat).trans ha1, Nat.lt_of_le_of_lt hxs (by decide), ?_⟩
  obtain ⟨p, zs, e0, e1, e2, e3⟩ := RA.cell R hx hy
  have hpa : p ≠ a := fun z => hap (z ▸ List.mem_of_getElem? e0)
  have g1 : (upd (upd (hide (cl.map (·.2)) H) t (.tup [.int x, .int y])) a (.lst (xs ++ [.ref t]))) l = some (.lst (ps.map V.ref)) := by
    rw [upd_ne (Ne.symm hal), upd_ne (ne_of_none RA.lst nt')]
    exact AC.lst RA.lst
  have g2 : (upd (upd (hide (cl.map (·.2)) H) t (.tup [.int x, .int y])) a (.lst (xs ++ [.ref t]))) p = some (.lst zs) := by
    rw [upd_ne hpa, upd_ne (ne_of_none e2 nt')]
    exact AC.lst e2
  refine ⟨_, rfl, _, rfl, l, _, _, _, rfl, rfl, SqL.of g1, e1, _, rfl, p, _, _, _, rfl, rfl, SqL.of g2, e3, ?_⟩
  show Q _ (back _ H _)
  rw [back_upd2 na tc]
  exact q t nt'
theorem cal_any (C_ch1 : Cal P w K mg base 1 (spCh1 n_byswaps_swapped n_bysteps_stepped n_lawown_lawchange)) (C_chn : Cal P w K mg base 2 (spChN n_byswaps_swapped n_bysteps_stepped n_lawown_lawchange n_chained_changed)) (C_he : Cal P w K mg base 1 (spHe n_lawheard_lawchange)) (C_ru : Cal P w K mg base 1 (spRu n_lawruled_lawrule)) (B : Blt mg) : Cal P w K mg base 2 (spAny n_byswaps_swapped n_bysteps_stepped n_lawown_lawchange n_chained_changed n_lawheard_lawchange n_lawruled_lawrule) := by
  exact (((C_ch1.mono (by decide)).or C_chn).or (C_he.mono (by decide))).or (C_ru.mono (by decide))
theorem sc_byswaps : FnScope ["swaps", "kept", "swapped"] ["swaps"] (defScope s_byswaps) := ⟨rfl, rfl, rfl, by decide +kernel, rfl, by decide +kernel, by decide +kernel⟩
theorem ok_byswaps {tc tp : Addr} {f : Addr} {fd : FuncData} (D : Df K mg "by_swaps" s_byswaps ["swaps"] f fd) (hcode : fd.code = .ref tc) (BT : BaseT mg base tc tp) (hT : (tp, p_byswaps_swapped, n_byswaps_swapped.qual) ∈ tb) (hN : (tb.map (·.1)).Nodup) (B : Blt mg) :
    Ow P w K mg base "by_swaps" ["swaps"] 1 (spBySwaps tb n_byswaps_swapped) := by
  refine D.ow (D.F.oka hcode sc_byswaps (fun vs H Q E h => ?_) (fun A outer s H vs Q E hr h => ?_))
  · obtain ⟨d, kvs, rfl, _⟩ := h
    rfl
  obtain ⟨d, kvs, rfl, hd, TB, q⟩ := h
  refine ⟨_, _, sub1 (x := "kept") rfl rfl, (psa_cons (ps_set (i := 1) sc_byswaps.nd rfl (Or.inr rfl) (pe_callTy call_dictC rfl B.f_dict boot_dict (pa_cons (pv 0) pa_nil)))
    (psa_cons (ps_def (i := 2) (d := n_byswaps_swapped) BT rfl sc_byswaps.nd rfl (Or.inl rfl) rfl rfl rfl rfl rfl)
    (psa_ret (pv 2)))), ?_⟩
  refine ⟨_, rfl, d, kvs, rfl, hd, fun d2 n2 => ?_⟩
  have s1 : Same H (upd H d2 (.dK kvs)) := Same.new n2
  have T1 := TB.keep s1
  refine ⟨T1 _ hT, fun f H2 T2 e2 nf F => ⟨_, rfl, fun H3 L => ?_⟩⟩
  obtain ⟨T', s'⟩ := T1.grow hT hN e2 T2
  exact q f d2 H3 ((s1.toT.trans s').trans L.same.toT) (T'.keep L.same) (L.one F (i := 1) rfl rfl) n2 (s1.free nf) (L.same _ _ (s'.dk T1 upd_same))
theorem sc_bysteps : FnScope ["by", "stepped"] ["by"] (defScope s_bysteps) := ⟨rfl, rfl, rfl, by decide +kernel, rfl, by decide +kernel, by decide +kernel⟩
theorem ok_bysteps {tc tp : Addr} {f : Addr} {fd : FuncData} (D : Df K mg "by_steps" s_bysteps ["by"] f fd) (hcode : fd.code = .ref tc) (BT : BaseT mg base tc tp) (hT : (tp, p_bysteps_stepped, n_bysteps_stepped.qual) ∈ tb) (hN : (tb.map (·.1)).Nodup) (B : Blt mg) :
    Ow P w K mg base "by_steps" ["by"] 1 (spBySteps tb n_bysteps_stepped "by") := by
  refine D.ow (D.F.oka hcode sc_bysteps (fun vs H Q E h => ?_) (fun A outer s H vs Q E hr h => ?_))
  · obtain ⟨b, rfl, _⟩ := h
    rfl
  obtain ⟨b, rfl, TB, q⟩ := h
  refine ⟨_, _, sub1 (x := "by") rfl rfl, (psa_cons (ps_def (i := 1) (d := n_bysteps_stepped) BT rfl sc_bysteps.nd rfl (Or.inl rfl) rfl rfl rfl rfl rfl)
    (psa_ret (pv 1))), ?_⟩
  refine ⟨TB _ hT, fun f H2 T2 e2 nf F => ⟨_, rfl, fun H3 L => ?_⟩⟩
  obtain ⟨T', s'⟩ := TB.grow hT hN e2 T2
  exact q f H3 (s'.trans L.same.toT) (T'.keep L.same) nf (L.one F (i := 0) rfl rfl)
theorem sc_chained : FnScope ["changes", "kept", "changed"] ["changes"] (defScope s_chained) := ⟨rfl, rfl, rfl, by decide +kernel, rfl, by decide +kernel, by decide +kernel⟩
theorem ok_chained {tc tp : Addr} {f : Addr} {fd : FuncData} (D : Df K mg "chained" s_chained ["changes"] f fd) (hcode : fd.code = .ref tc) (BT : BaseT mg base tc tp) (hT : (tp, p_chained_changed, n_chained_changed.qual) ∈ tb) (hN : (tb.map (·.1)).Nodup) (B : Blt mg) :
    Ow P w K mg base "chained" ["changes"] 1 (spChained tb n_chained_changed) := by
  refine D.ow (D.F.oka hcode sc_chained (fun vs H Q E h => ?_) (fun A outer s H vs Q E hr h => ?_))
  · obtain ⟨l, fs, rfl, _⟩ := h
    rfl
  obtain ⟨l, fs, rfl, hl, TB, q⟩ := h
  refine ⟨_, _, sub1 (x := "kept") rfl rfl, (psa_cons (ps_set (i := 1) sc_chained.nd rfl (Or.inr rfl) (pe_callTy call_list_of rfl B.f_list boot_list (pa_cons (pv 0) pa_nil)))
    (psa_cons (ps_def (i := 2) (d := n_chained_changed) BT rfl sc_chained.nd rfl (Or.inl rfl) rfl rfl rfl rfl rfl)
    (psa_ret (pv 2)))), ?_⟩
  refine ⟨_, rfl, l, _, rfl, .inl (SqL.of hl), fun l2 n2 => ?_⟩
  have s1 : Same H (upd H l2 (.lst (fs.map V.ref))) := Same.new n2
  have T1 := TB.keep s1
  refine ⟨T1 _ hT, fun f H2 T2 e2 nf F => ⟨_, rfl, fun H3 L => ?_⟩⟩
  obtain ⟨T', s'⟩ := T1.grow hT hN e2 T2
  exact q f l2 H3 ((s1.toT.trans s').trans L.same.toT) (T'.keep L.same) (L.one F (i := 1) rfl rfl) n2 (s1.free nf) (L.same _ _ (s'.lst T1 upd_same))
theorem sc_lawown : FnScope ["_law_by", "_law_change"] ["_law_by"] (defScope s_lawown) := ⟨rfl, rfl, rfl, by decide +kernel, rfl, by decide +kernel, by decide +kernel⟩
theorem ok_lawown {tc tp : Addr} {f : Addr} {fd : FuncData} (D : Df K mg "_law_own" s_lawown ["_law_by"] f fd) (hcode : fd.code = .ref tc) (BT : BaseT mg base tc tp) (hT : (tp, p_lawown_lawchange, n_lawown_lawchange.qual) ∈ tb) (hN : (tb.map (·.1)).Nodup) (B : Blt mg) :
    Ow P w K mg base "_law_own" ["_law_by"] 1 (spBySteps tb n_lawown_lawchange "_law_by") := by
  refine D.ow (D.F.oka hcode sc_lawown (fun vs H Q E h => ?_) (fun A outer s H vs Q E hr h => ?_))
  · obtain ⟨b, rfl, _⟩ := h
    rfl
  obtain ⟨b, rfl, TB, q⟩ := h
  refine ⟨_, _, sub1 (x := "_law_by") rfl rfl, (psa_cons (ps_def (i := 1) (d := n_lawown_lawchange) BT rfl sc_lawown.nd rfl (Or.inl rfl) rfl rfl rfl rfl rfl)
    (psa_ret (pv 1))), ?_⟩
  refine ⟨TB _ hT, fun f H2 T2 e2 nf F => ⟨_, rfl, fun H3 L => ?_⟩⟩
  obtain ⟨T', s'⟩ := TB.grow hT hN e2 T2
  exact q f H3 (s'.trans L.same.toT) (T'.keep L.same) nf (L.one F (i := 0) rfl rfl)
theorem sc_mappedrow : FnScope ["row", "change"] ["row", "change"] (defScope s_mappedrow) := ⟨rfl, rfl, rfl, by decide +kernel, rfl, by decide +kernel, by decide +kernel⟩
theorem ok_mappedrow {f : Addr} {fd : FuncData} (D : Df K mg "mapped_row" s_mappedrow ["row", "change"] f fd)
    (C_any : Cal P w K mg base 2 (spAny n_byswaps_swapped n_bysteps_stepped n_lawown_lawchange n_chained_changed n_lawheard_lawchange n_lawruled_lawrule)) (B : Blt mg) :
    Ow P w K mg base "mapped_row" ["row", "change"] 3 (spMapRow (spAny n_byswaps_swapped n_bysteps_stepped n_lawown_lawchange n_chained_changed n_lawheard_lawchange n_lawruled_lawrule)) := by
  refine D.ow (D.F.ok sc_mappedrow (fun vs H Q E h => ?_) (fun cdv A outer s H vs Q E hr h => ?_))
  · obtain ⟨l, f, z, r, J, g, n, rfl, _⟩ := h
    rfl
  obtain ⟨l, f, z, r, J, g, n, rfl, hl, hc, h64, JK, j, hn, hlz, q⟩ := h
  refine ⟨_, (pss_one (ps_ret (pe_comp (locs := ["cell"]) (ix := [1]) rfl (BlkSc.look (dsc := defScope s_mappedrow) (N := ["row", "change"]) rfl rfl (by decide +kernel)) (pi_list (pv 0)) (fun _ _ _ _ _ _ => (pg_name (i := 0) (by decide +kernel : (["cell", "change"] : List Str).Nodup) rfl (Or.inl rfl))) (fun _ _ _ _ _ _ => pts_nil) (fun _ _ _ _ _ _ => (pe_ifExp (pt_cmpR op_isN (pv 0) pe_non (nomark _)) pe_non (pe_callV C_any hr (pv 1) (pa_cons (pv 0) pa_nil))))))), ?_⟩
  walk_at "rs"
  refine ⟨⟨_, SqL.of hl⟩, ?_⟩
  refine comp_by (n := r.length) (fun i σ zs H2 => ∃ (v : Option V) (n' : Nat), σ = [v, some (.ref f)] ∧ zs = ((r.take i).map (mapG g)).map cellV ∧ SameP z H H2 ∧ J n' H2 ∧ n' ≤ n + i ∧ i ≤ r.length)
    ⟨none, n, rfl, rfl, SameP.refl _ _, j, Nat.le_refl _, Nat.zero_le _⟩ (Nat.le_of_lt (small1000 (by omega))) ?_ ?_ ?_ ?_ ?_
  · rintro i σ zs H2 ⟨v, n', _, rfl, _, _, _, hi⟩
    rw [List.length_map, List.length_map, List.length_take]
    omega
  · rintro σ zs H2 ⟨v, n', _, _, s2, _⟩
    exact ⟨_, SqL.of (s2 _ _ hlz hl), by rw [List.length_map]; exact Nat.le_refl _⟩
  · rintro i σ zs H2 hi ⟨v, n', _, _, s2, _⟩
    exact ⟨_, _, SqL.of (s2 _ _ hlz hl), List.getElem?_eq_getElem (by rw [List.length_map]; exact hi)⟩
  · rintro i σ zs H2 x H' Z hi ⟨v, n', rfl, rfl, s2, j2, hn2, _⟩ ⟨rfl, hx⟩ hZ
    have hx := hx _ (SqL.of (s2 _ _ hlz hl))
    rw [List.getElem?_map, List.getElem?_eq_getElem hi] at hx
    cases hx
    have step : ∀ (n3 : Nat) (H3 : Hp), SameP z H H3 → J n3 H3 → n3 ≤ n + (i + 1) → Z [some (cellV r[i]), some (.ref f)] (((r.take i).map (mapG g)).map cellV ++ [cellV (mapG g r[i])]) H3 := fun n3 H3 s3 j3 h3 =>
      hZ _ _ _ ⟨_, n3, rfl, by rw [List.take_succ, List.getElem?_eq_getElem hi, List.map_append, List.map_append]; rfl, s3, j3, h3, hi⟩
    have hcell := hc _ (List.getElem_mem hi)
    generalize r[i] = ci at step hcell
    cases ci with
    | none =>
      walk_at "rs"
      exact iteD (fun _ => step n' _ s2 j2 (by omega)) (fun z => absurd rfl z)
    | some c =>
      walk_at "rs"
      refine ⟨JK.func _ _ j2, _, rfl, JK.func _ _ j2, ?_⟩
      exact JK.call n' _ c _ j2 (by omega) (hcell c rfl).1 (hcell c rfl).2 fun H3 j3 s3 => step (n' + 1) H3 (s2.trans s3) j3 (by omega)
  · rintro σ zs H2 ⟨v, n', rfl, rfl, s2, j2, hn2, _⟩ m nm
    rw [List.take_length]
    exact q m n' _ (s2.trans (Same.new nm).toP) (JK.same _ _ _ j2 (Same.new nm)) hn2 (JK.free j2 s2 nm) upd_same
theorem sc_mapped : FnScope ["pic", "change"] ["pic", "change"] (defScope s_mapped) := ⟨rfl, rfl, rfl, by decide +kernel, rfl, by decide +kernel, by decide +kernel⟩
theorem ok_mapped {f : Addr} {fd : FuncData} (D : Df K mg "mapped" s_mapped ["pic", "change"] f fd)
    (O_packed : Ow P w K mg base "packed" ["wide", "rows"] 2 spPk)
    (O_rowsof : Ow P w K mg base "rows_of" ["pic"] 3 spRowsOf)
    (O_mappedrow : Ow P w K mg base "mapped_row" ["row", "change"] 3 (spMapRow (spAny n_byswaps_swapped n_bysteps_stepped n_lawown_lawchange n_chained_changed n_lawheard_lawchange n_lawruled_lawrule))) (B : Blt mg) :
    Ow P w K mg base "mapped" ["pic", "change"] 4 (spMapped (spAny n_byswaps_swapped n_bysteps_stepped n_lawown_lawchange n_chained_changed n_lawheard_lawchange n_lawruled_lawrule)) := by
  refine D.ow (D.F.ok sc_mapped (fun vs H Q E h => ?_) (fun cdv A outer s H vs Q E hr h => ?_))
  · obtain ⟨p, f, z, w, h, rows, J, g, rfl, _⟩ := h
    rfl
  obtain ⟨p, f, z, wd, hg, rows, J, g, rfl, PC, R, JK, j, q⟩ := h
  obtain ⟨pp, pm, h1, h2, h3⟩ := id PC
  refine ⟨_, (pss_one (ps_ret (pe_own O_packed hr rfl (pa_cons (pe_ix ix_tup (pv 0) pe_int (fun _ _ => rfl)) (pa_cons (pe_comp (locs := ["row"]) (ix := [1]) rfl (BlkSc.look (dsc := defScope s_mapped) (N := ["pic", "change"]) rfl rfl (by decide +kernel)) (pi_list (pe_own O_rowsof hr rfl (pa_cons (pv 0) pa_nil))) (fun _ _ _ _ _ _ => (pg_name (i := 0) (by decide +kernel : (["row", "change"] : List Str).Nodup) rfl (Or.inl rfl))) (fun _ _ _ _ _ _ => pts_nil) (fun _ _ _ _ _ _ => (pe_own O_mappedrow hr rfl (pa_cons (pv 0) (pa_cons (pv 1) pa_nil))))) pa_nil))))), ?_⟩
  have hR := R.len
  have hR2 := R.h2
  have hw2 := R.w2
  refine ⟨_, rfl, p, _, 0, _, rfl, rfl, SqT.of h1, rfl, _, rfl, p, _, _, rows, rfl, PC, R, fun l ps H1 RB => ?_⟩
  have s1 := RB.same
  have j1 := JK.same _ _ _ j s1
  have RA := RB.rat
  have lz : l ≠ z := JK.ne j RB.fl
  have pz : ∀ x ∈ ps, x ≠ z := fun x hx => JK.ne j (RB.fp x hx).1
  have hlen := RA.len
  refine ⟨l, rfl, ⟨_, SqL.of RA.lst⟩, ?_⟩
  refine comp_by (n := rows.length) (fun i σ zs H2 => ∃ (v : Option V) (n' : Nat) (qs : List Addr), σ = [v, some (.ref f)] ∧ zs = qs.map V.ref ∧ SameP z H1 H2 ∧ J n' H2 ∧ n' ≤ 64 * i ∧ i ≤ rows.length ∧ qs.length = i ∧ (∀ x ∈ qs, x ≠ z) ∧ ∀ (k : Nat) x r, qs[k]? = some x → (rows.map fun r => r.map (mapG g))[k]? = some r → H2 x = some (.lst (r.map cellV)))
    ⟨none, 0, [], rfl, rfl, SameP.refl _ _, j1, Nat.zero_le _, Nat.zero_le _, rfl, (fun _ h => nomatch h), (fun _ _ _ h => nomatch h)⟩ (Nat.le_of_lt (small1000 (by omega))) ?_ ?_ ?_ ?_ ?_
  · rintro i σ zs H2 ⟨v, n', qs, _, rfl, _, _, _, _, hi, _⟩
    rw [List.length_map, hi]
  · rintro σ zs H2 ⟨v, n', qs, _, _, s2, _⟩
    exact ⟨_, SqL.of (s2 _ _ lz RA.lst), by rw [List.length_map]; omega⟩
  · rintro i σ zs H2 hi ⟨v, n', qs, _, _, s2, _⟩
    exact ⟨_, _, SqL.of (s2 _ _ lz RA.lst), List.getElem?_eq_getElem (by rw [List.length_map]; omega)⟩
  · rintro i σ zs H2 x H' Z hi ⟨v, n', qs, rfl, rfl, s2, j2, hn2, _, hq, nq, gq⟩ ⟨rfl, hx⟩ hZ
    have hx := hx _ (SqL.of (s2 _ _ lz RA.lst))
    obtain ⟨x', e1, e2⟩ := RA.at hi
    rw [List.getElem?_map, e1] at hx
    cases hx
    obtain ⟨hw, hc⟩ := R.row0 hi
    have xz := pz x' (List.mem_of_getElem? e1)
    refine ⟨_, rfl, _, rfl, x', f, z, _, J, g, n', rfl, s2 _ _ xz e2, hc, by omega, JK, j2, by omega, xz, fun m n3 H3 s3 j3 hn3 nm gm => ?_⟩
    have mz : m ≠ z := JK.ne j2 nm
    refine hZ _ _ _ ⟨_, n3, qs ++ [m], rfl, by rw [List.map_append]; rfl, s2.trans s3, j3, by omega, hi, by rw [List.length_append, hq]; rfl, fun y hy => ?_, fun k y r a1 a2 => ?_⟩
    · rcases List.mem_append.mp hy with hy | hy
      · exact nq y hy
      · rw [List.mem_singleton.mp hy]
        exact mz
    · by_cases hk : k < qs.length
      · rw [List.getElem?_append_left hk] at a1
        exact s3 _ _ (nq y (List.mem_of_getElem? a1)) (gq k y r a1 a2)
      · rw [List.getElem?_append_right (by omega)] at a1
        cases hk2 : k - qs.length with
        | zero =>
          rw [hk2] at a1
          cases a1
          have ek : k = i := by omega
          subst ek
          rw [List.getElem?_map, List.getElem?_eq_getElem hi] at a2
          cases a2
          exact gm
        | succ n =>
          rw [hk2] at a1
          cases a1
  · rintro σ zs H2 ⟨v, n', qs, rfl, rfl, s2, j2, hn2, _, hq, nq, gq⟩ l2 nl2
    have s3 : Same H2 (upd H2 l2 (.lst (qs.map V.ref))) := Same.new nl2
    have RM : RowsAt (upd H2 l2 (.lst (qs.map V.ref))) l2 qs (rows.map fun r => r.map (mapG g)) := ⟨upd_same, by rw [List.length_map]; exact hq, fun k y r a1 a2 => s3 _ _ (gq k y r a1 a2)⟩
    refine ⟨l2, qs, _, _, _, rfl, RM, mapG_rect R JK.cell, fun r H4 s4 nr PR => ?_⟩
    exact q r n' H4 ((s1.toP.trans s2).trans (s3.trans s4).toP) (JK.same _ _ _ j2 (s3.trans s4)) (by omega) PR
theorem sc_ruledrow : FnScope ["wide", "y", "rule"] ["wide", "y", "rule"] (defScope s_ruledrow) := ⟨rfl, rfl, rfl, by decide +kernel, rfl, by decide +kernel, by decide +kernel⟩
theorem ok_ruledrow {f : Addr} {fd : FuncData} (D : Df K mg "ruled_row" s_ruledrow ["wide", "y", "rule"] f fd)
    (C_any : Cal P w K mg base 2 (spAny n_byswaps_swapped n_bysteps_stepped n_lawown_lawchange n_chained_changed n_lawheard_lawchange n_lawruled_lawrule)) (B : Blt mg) :
    Ow P w K mg base "ruled_row" ["wide", "y", "rule"] 3 (spRuledRow (spAny n_byswaps_swapped n_bysteps_stepped n_lawown_lawchange n_chained_changed n_lawheard_lawchange n_lawruled_lawrule)) := by
  refine D.ow (D.F.ok sc_ruledrow (fun vs H Q E h => ?_) (fun cdv A outer s H vs Q E hr h => ?_))
  · obtain ⟨f, z, w, h, y, J, g, n, rfl, _⟩ := h
    rfl
  obtain ⟨f, z, wd, hg, y, J, g, n, rfl, w64, hy, JK, j, hn, q⟩ := h
  refine ⟨_, (pss_one (ps_ret (pe_comp (locs := ["x"]) (ix := [2, 1]) rfl (BlkSc.look (dsc := defScope s_ruledrow) (N := ["wide", "y", "rule"]) rfl rfl (by decide +kernel)) (pi_range1 rfl B.f_range (pa_cons (pv 0) pa_nil)) (fun _ _ _ _ _ _ => (pg_name (i := 0) (by decide +kernel : (["x", "rule", "y"] : List Str).Nodup) rfl (Or.inl rfl))) (fun _ _ _ _ _ _ => pts_nil) (fun _ _ _ _ _ _ => (pe_callV C_any hr (pv 1) (pa_cons (pv 0) (pa_cons (pv 2) pa_nil))))))), ?_⟩
  refine ⟨_, rfl, _, rfl, (rngS (by omega) (by omega)).1, (rngS (by omega) (by omega)).2, ?_⟩
  refine comp_by (n := wd) (fun i σ zs H2 => ∃ (v : Option V) (n' : Nat), σ = [v, some (.ref f), some (.int y)] ∧ zs = ((List.range i).map fun x => g x y).map cellV ∧ SameP z H H2 ∧ J n' H2 ∧ n' ≤ n + i ∧ i ≤ wd)
    ⟨none, n, rfl, rfl, SameP.refl _ _, j, Nat.le_refl _, Nat.zero_le _⟩ (Nat.le_of_lt (small1000 (by omega))) ?_ ?_ ?_ ?_ ?_
  · rintro i σ zs H2 ⟨v, n', _, rfl, _, _, _, hi⟩
    rw [List.length_map, List.length_map, List.length_range]
  · rintro σ zs H2 _
    show ((wd : Int)).toNat ≤ wd
    omega
  · intro i σ zs H2 hi _
    show i < ((wd : Int)).toNat
    omega
  · rintro i σ zs H2 x H' Z hi ⟨v, n', rfl, rfl, s2, j2, hn2, _⟩ ⟨rfl, rfl⟩ hZ
    have e0 : (0 : Int) + (i : Int) = (i : Nat) := by omega
    rw [e0]
    refine ⟨f, rfl, JK.func _ _ j2, _, rfl, _, rfl, JK.func _ _ j2, ?_⟩
    refine JK.call n' _ i y _ j2 (by omega) hi hy fun H3 j3 s3 => ?_
    exact hZ _ _ _ ⟨_, n' + 1, rfl, by rw [List.range_succ, List.map_append, List.map_append]; rfl, s2.trans s3, j3, by omega, hi⟩
  · rintro σ zs H2 ⟨v, n', rfl, rfl, s2, j2, hn2, _⟩ m nm
    exact q m n' _ (s2.trans (Same.new nm).toP) (JK.same _ _ _ j2 (Same.new nm)) hn2 (JK.free j2 s2 nm) upd_same
theorem sc_ruled : FnScope ["wide", "high", "rule"] ["wide", "high", "rule"] (defScope s_ruled) := ⟨rfl, rfl, rfl, by decide +kernel, rfl, by decide +kernel, by decide +kernel⟩
theorem ok_ruled {f : Addr} {fd : FuncData} (D : Df K mg "ruled" s_ruled ["wide", "high", "rule"] f fd)
    (O_packed : Ow P w K mg base "packed" ["wide", "rows"] 2 spPk)
    (O_ruledrow : Ow P w K mg base "ruled_row" ["wide", "y", "rule"] 3 (spRuledRow (spAny n_byswaps_swapped n_bysteps_stepped n_lawown_lawchange n_chained_changed n_lawheard_lawchange n_lawruled_lawrule))) (B : Blt mg) :
    Ow P w K mg base "ruled" ["wide", "high", "rule"] 4 (spRuled (spAny n_byswaps_swapped n_bysteps_stepped n_lawown_lawchange n_chained_changed n_lawheard_lawchange n_lawruled_lawrule)) := by
  refine D.ow (D.F.ok sc_ruled (fun vs H Q E h => ?_) (fun cdv A outer s H vs Q E hr h => ?_))
  · obtain ⟨f, z, w, h, J, g, rfl, _⟩ := h
    rfl
  obtain ⟨f, z, wd, hg, J, g, rfl, w1, w2, h1, h2, JK, j, q⟩ := h
  refine ⟨_, (pss_one (ps_ret (pe_own O_packed hr rfl (pa_cons (pv 0) (pa_cons (pe_comp (locs := ["y"]) (ix := [0, 2]) rfl (BlkSc.look (dsc := defScope s_ruled) (N := ["wide", "high", "rule"]) rfl rfl (by decide +kernel)) (pi_range1 rfl B.f_range (pa_cons (pv 1) pa_nil)) (fun _ _ _ _ _ _ => (pg_name (i := 0) (by decide +kernel : (["y", "wide", "rule"] : List Str).Nodup) rfl (Or.inl rfl))) (fun _ _ _ _ _ _ => pts_nil) (fun _ _ _ _ _ _ => (pe_own O_ruledrow hr rfl (pa_cons (pv 1) (pa_cons (pv 0) (pa_cons (pv 2) pa_nil)))))) pa_nil))))), ?_⟩
  refine ⟨_, rfl, _, rfl, _, rfl, (rngS (by omega) (by omega)).1, (rngS (by omega) (by omega)).2, ?_⟩
  refine comp_by (n := hg) (fun i σ zs H2 => ∃ (v : Option V) (n' : Nat) (qs : List Addr), σ = [v, some (.int wd), some (.ref f)] ∧ zs = qs.map V.ref ∧ SameP z H H2 ∧ J n' H2 ∧ n' ≤ 64 * i ∧ i ≤ hg ∧ qs.length = i ∧ (∀ x ∈ qs, x ≠ z) ∧ ∀ (k : Nat) x r, qs[k]? = some x → (gridL wd hg g)[k]? = some r → H2 x = some (.lst (r.map cellV)))
    ⟨none, 0, [], rfl, rfl, SameP.refl _ _, j, Nat.zero_le _, Nat.zero_le _, rfl, (fun _ h => nomatch h), (fun _ _ _ h => nomatch h)⟩ (Nat.le_of_lt (small1000 (by omega))) ?_ ?_ ?_ ?_ ?_
  · rintro i σ zs H2 ⟨v, n', qs, _, rfl, _, _, _, _, hi, _⟩
    rw [List.length_map, hi]
  · rintro σ zs H2 _
    show ((hg : Int)).toNat ≤ hg
    omega
  · intro i σ zs H2 hi _
    show i < ((hg : Int)).toNat
    omega
  · rintro i σ zs H2 x H' Z hi ⟨v, n', qs, rfl, rfl, s2, j2, hn2, _, hq, nq, gq⟩ ⟨rfl, rfl⟩ hZ
    have e0 : (0 : Int) + (i : Int) = (i : Nat) := by omega
    rw [e0]
    refine ⟨_, rfl, _, rfl, _, rfl, f, z, wd, hg, i, J, g, n', rfl, w2, hi, JK, j2, by omega, fun m n3 H3 s3 j3 hn3 nm gm => ?_⟩
    have mz : m ≠ z := JK.ne j2 nm
    refine hZ _ _ _ ⟨_, n3, qs ++ [m], rfl, by rw [List.map_append]; rfl, s2.trans s3, j3, by omega, hi, by rw [List.length_append, hq]; rfl, fun y hy => ?_, fun k y r a1 a2 => ?_⟩
    · rcases List.mem_append.mp hy with hy | hy
      · exact nq y hy
      · rw [List.mem_singleton.mp hy]
        exact mz
    · by_cases hk : k < qs.length
      · rw [List.getElem?_append_left hk] at a1
        exact s3 _ _ (nq y (List.mem_of_getElem? a1)) (gq k y r a1 a2)
      · rw [List.getElem?_append_right (by omega)] at a1
        cases hk2 : k - qs.length with
        | zero =>
          rw [hk2] at a1
          cases a1
          have ek : k = i := by omega
          subst ek
          rw [grid_row hi] at a2
          cases a2
          exact gm
        | succ n =>
          rw [hk2] at a1
          cases a1
  · rintro σ zs H2 ⟨v, n', qs, rfl, rfl, s2, j2, hn2, _, hq, nq, gq⟩ l2 nl2
    have s3 : Same H2 (upd H2 l2 (.lst (qs.map V.ref))) := Same.new nl2
    have RM : RowsAt (upd H2 l2 (.lst (qs.map V.ref))) l2 qs (gridL wd hg g) := ⟨upd_same, by rw [grid_len]; exact hq, fun k y r a1 a2 => s3 _ _ (gq k y r a1 a2)⟩
    refine ⟨l2, qs, _, _, _, rfl, RM, grid_rect h1 h2 w1 w2 JK.cell, fun r H4 s4 nr PR => ?_⟩
    exact q r n' H4 (s2.trans (s3.trans s4).toP) (JK.same _ _ _ j2 (s3.trans s4)) (by omega) PR
theorem sc_lawswaps : FnScope ["_law_script", "_law_k", "_law_swaps_here", "_law_colour", "_law_cell"] ["_law_script", "_law_k"] (defScope s_lawswaps) := ⟨rfl, rfl, rfl, by decide +kernel, rfl, by decide +kernel, by decide +kernel⟩
theorem ok_lawswaps {f : Addr} {fd : FuncData} (D : Df K mg "_law_swaps" s_lawswaps ["_law_script", "_law_k"] f fd)
    (O_lawdraw : Ow P w K mg base "_law_draw" ["_law_script", "_law_k", "_law_many"] 1 (spDraw K)) (B : Blt mg) :
    Ow P w K mg base "_law_swaps" ["_law_script", "_law_k"] 2 (spSwaps K) := by
  refine D.ow (D.F.ok sc_lawswaps (fun vs H Q E h => ?_) (fun cdv A outer s H vs Q E hr h => ?_))
  · obtain ⟨a, ns, k, rfl, _⟩ := h
    rfl
  obtain ⟨a, ns, k, rfl, hS, k0, k1, q⟩ := h
  refine ⟨_, (pss_cons (ps_set (i := 2) sc_lawswaps.nd rfl (Or.inl rfl) pe_dnewK)
    (pss_cons (ps_for PassesOwn.never rfl (pi_range1 rfl B.f_range (pa_cons pe_int pa_nil)) (pg_name (i := 3) sc_lawswaps.nd rfl (Or.inl rfl)) (pss_one (ps_if (pt_cmpR op_gt (pe_own O_lawdraw hr rfl (pa_cons (pv 0) (pa_cons (pe_op op_add (pv 1) (pv 3)) (pa_cons pe_int pa_nil)))) pe_int (nomark _)) (pss_cons (ps_set (i := 4) sc_lawswaps.nd rfl (Or.inl rfl) (pe_own O_lawdraw hr rfl (pa_cons (pv 0) (pa_cons (pe_op op_add (pe_op op_add (pv 1) pe_int) (pv 3)) (pa_cons pe_int pa_nil)))))
    (pss_one (ps_dput (hu_of hr) (pv 2) (pe_op op_mod (pe_op op_add (pe_op op_mul (pv 3) pe_int) (pv 1)) pe_int) (pe_ix ix_list (pe_lst (pa_cons (pv 4) (pa_cons pe_non pa_nil))) (pe_callTy call_int1 rfl B.f_int boot_int (pa_cons (pe_cmpR op_gt (pv 4) pe_int (nomark _)) pa_nil)) (fun _ _ => rfl)) rfl))) pss_nil)))
    (pss_one (ps_ret (pv 2))))), ?_⟩
  intro d nd
  refine ⟨_, rfl, (rngS (by decide) (by decide)).1, (rngS (by decide) (by decide)).2, ?_⟩
  refine for_range (n := 16) (fun i σ H2 => ∃ kvs v3 v4, σ = [some (.ref a), some (.int k), some (.ref d), v3, v4] ∧ Same H H2 ∧ H2 d = some (.dK kvs) ∧ (∀ p ∈ kvs, ∃ x : Option Int, Cell x ∧ p.2 = cellV x) ∧ kvs.length ≤ i)
    ⟨[], none, none, rfl, Same.new nd, upd_same, (fun _ h => nomatch h), Nat.le_refl _⟩ ?_ ?_
  · rintro i σ H2 hi ⟨kvs, v3, v4, rfl, s2, hd, hc, hl⟩
    walk_at "rs"
    refine ⟨a, ns, k + (0 + (i : Int)), _, rfl, s2.seq hS, by omega, by omega, (by decide), fun r1 a1 a2 => ?_⟩
    walk_at "rs"
    refine iteD (fun _ => ?_) (fun _ => ⟨kvs, _, _, rfl, s2, hd, hc, by omega⟩)
    walk_at "rs"
    refine ⟨a, ns, k + 20 + (0 + (i : Int)), _, rfl, s2.seq hS, by omega, by omega, (by decide), fun r2 b1 b2 => ?_⟩
    walk_at "rs"
    intro l1 n1
    have AT : ∃ x : Option Int, Cell x ∧ atI [V.int r2, .non] (if decide (15 < r2) = true then 1 else 0) = some (cellV x) := by
      by_cases h : 15 < r2
      · exact ⟨none, fun z e => (nomatch e), by rw [decide_eq_true h]; rfl⟩
      · exact ⟨some r2, fun z e => by cases e; exact ⟨b1, by omega⟩, by rw [decide_eq_false h]; rfl⟩
    obtain ⟨x, hx, at1⟩ := AT
    refine ⟨_, rfl, _, _, rfl, rfl, .inr ⟨_, rfl, l1, _, _, _, rfl, rfl, SqL.of upd_same, at1, ?_⟩⟩
    walk_at "rs"
    have hd1 := (Same.new (o := .lst [V.int r2, .non]) n1) _ _ hd
    refine ⟨d, _, rfl, .inl ⟨kvs, .inl _, hd1, rfl, small1000 (by omega), rfl⟩, ?_⟩
    refine ⟨_, _, _, rfl, (s2.trans (Same.new n1)).put nd, upd_same, put_cells hc hx, ?_⟩
    have := put_len kvs (.inl (((0 + (i : Int)) * 5 + k) % 16)) (cellV x)
    omega
  · rintro σ H2 ⟨kvs, v3, v4, rfl, s2, hd, hc, hl⟩
    exact ⟨_, rfl, q d kvs H2 s2 nd hd ⟨hc, hl⟩⟩
theorem sc_lawswapped : FnScope ["_law_swaps_here", "_law_colour"] ["_law_swaps_here", "_law_colour"] (defScope s_lawswapped) := ⟨rfl, rfl, rfl, by decide +kernel, rfl, by decide +kernel, by decide +kernel⟩
theorem ok_lawswapped {f : Addr} {fd : FuncData} (D : Df K mg "_law_swapped" s_lawswapped ["_law_swaps_here", "_law_colour"] f fd) (B : Blt mg) :
    Ow P w K mg base "_law_swapped" ["_law_swaps_here", "_law_colour"] 1 spSwapped := by
  refine D.ow (D.F.ok sc_lawswapped (fun vs H Q E h => ?_) (fun cdv A outer s H vs Q E hr h => ?_))
  · obtain ⟨d, kvs, x, rfl, _⟩ := h
    rfl
  obtain ⟨d, kvs, x, rfl, hd, q⟩ := h
  refine ⟨_, (pss_cons (ps_if (pt_cmpR op_isN (pv 1) pe_non (nomark _)) (pss_one (ps_ret pe_non)) pss_nil)
    (pss_one (ps_ret (pe_dget2 (hu_of hr) (pv 0) (pv 1) (pv 1) m2_of)))), ?_⟩
  cases x with
  | none =>
    walk_at "rs"
    refine iteD (fun _ => ?_) (fun z => absurd rfl z)
    exact q
  | some c =>
    walk_at "rs"
    exact ⟨.inl ⟨kvs, .inl hd⟩, _, rfl, _, rfl, _, .inl ⟨kvs, .inl c, .inl hd, rfl, rfl⟩, q⟩
theorem sc_lawlinks : FnScope ["_law_script", "_law_swaps_here", "_law_by", "_law_changes", "_law_dues", "_law_k", "_law_way", "_law_last"] ["_law_script", "_law_swaps_here", "_law_by"] (defScope s_lawlinks) := ⟨rfl, rfl, rfl, by decide +kernel, rfl, by decide +kernel, by decide +kernel⟩
theorem ok_lawlinks {f : Addr} {fd : FuncData} (D : Df K mg "_law_links" s_lawlinks ["_law_script", "_law_swaps_here", "_law_by"] f fd)
    (O_byswaps : Ow P w K mg base "by_swaps" ["swaps"] 1 (spBySwaps tb n_byswaps_swapped))
    (O_bysteps : Ow P w K mg base "by_steps" ["by"] 1 (spBySteps tb n_bysteps_stepped "by"))
    (O_lawdraw : Ow P w K mg base "_law_draw" ["_law_script", "_law_k", "_law_many"] 1 (spDraw K))
    (O_lawswapped : Ow P w K mg base "_law_swapped" ["_law_swaps_here", "_law_colour"] 1 spSwapped)
    (O_lawown : Ow P w K mg base "_law_own" ["_law_by"] 1 (spBySteps tb n_lawown_lawchange "_law_by")) (B : Blt mg) :
    Ow P w K mg base "_law_links" ["_law_script", "_law_swaps_here", "_law_by"] 2 (spLinks K tb n_byswaps_swapped n_bysteps_stepped n_lawown_lawchange) := by
  refine D.ow (D.F.ok sc_lawlinks (fun vs H Q E h => ?_) (fun cdv A outer s H vs Q E hr h => ?_))
  · obtain ⟨a, d, ns, kvs, b, rfl, _⟩ := h
    rfl
  obtain ⟨a, d, ns, kvs, b, rfl, hS, hd, SW, TB, q⟩ := h
  refine ⟨_, (pss_cons (ps_set (i := 3) sc_lawlinks.nd rfl (Or.inl rfl) (pe_lst pa_nil))
    (pss_cons (ps_set (i := 4) sc_lawlinks.nd rfl (Or.inl rfl) (pe_lst (pa_cons (pe_listRng rfl rfl B.f_list rfl B.f_range pe_int) pa_nil)))
    (pss_cons (ps_for PassesOwn.never rfl (pi_range1 rfl B.f_range (pa_cons (pe_own O_lawdraw hr rfl (pa_cons (pv 0) (pa_cons pe_int (pa_cons pe_int pa_nil)))) pa_nil)) (pg_name (i := 5) sc_lawlinks.nd rfl (Or.inr rfl)) (pss_cons (ps_set (i := 6) sc_lawlinks.nd rfl (Or.inl rfl) (pe_own O_lawdraw hr rfl (pa_cons (pv 0) (pa_cons (pe_op op_add pe_int (pv 5)) (pa_cons pe_int pa_nil)))))
    (pss_cons (ps_set (i := 7) sc_lawlinks.nd rfl (Or.inl rfl) (pe_ix ix_list (pv 4) (pe_un un_neg pe_int) (fun _ _ => rfl)))
    (pss_one (ps_if (pt_cmpR op_eq (pv 6) pe_int (nomark _)) (pss_cons (ps_expr (pe_bm PySem.F.plainAttrs_list PySem.F.slot_list_append PySem.F.type_list_append mt_append (pv 3) (pa_cons (pe_own O_byswaps hr rfl (pa_cons (pe_callTy call_dictC rfl B.f_dict boot_dict (pa_cons (pv 1) pa_nil)) pa_nil)) pa_nil)))
    (pss_one (ps_expr (pe_bm PySem.F.plainAttrs_list PySem.F.slot_list_append PySem.F.type_list_append mt_append (pv 4) (pa_cons (pe_comp (locs := ["_law_cell"]) (ix := [1]) rfl (BlkSc.look (dsc := defScope s_lawlinks) (N := ["_law_script", "_law_swaps_here", "_law_by", "_law_changes", "_law_dues", "_law_k", "_law_way", "_law_last"]) rfl rfl (by decide +kernel)) (pi_list (pv 7)) (fun _ _ _ _ _ _ => (pg_name (i := 0) (by decide +kernel : (["_law_cell", "_law_swaps_here"] : List Str).Nodup) rfl (Or.inl rfl))) (fun _ _ _ _ _ _ => pts_nil) (fun _ _ _ _ _ _ => (pe_own O_lawswapped hr rfl (pa_cons (pv 1) (pa_cons (pv 0) pa_nil))))) pa_nil))))) (pss_one (ps_if (pt_cmpR op_eq (pv 6) pe_int (nomark _)) (pss_cons (ps_expr (pe_bm PySem.F.plainAttrs_list PySem.F.slot_list_append PySem.F.type_list_append mt_append (pv 3) (pa_cons (pe_own O_bysteps hr rfl (pa_cons (pe_op op_add (pv 2) (pv 5)) pa_nil)) pa_nil)))
    (pss_one (ps_expr (pe_bm PySem.F.plainAttrs_list PySem.F.slot_list_append PySem.F.type_list_append mt_append (pv 4) (pa_cons (pe_comp (locs := ["_law_cell"]) (ix := [2, 5]) rfl (BlkSc.look (dsc := defScope s_lawlinks) (N := ["_law_script", "_law_swaps_here", "_law_by", "_law_changes", "_law_dues", "_law_k", "_law_way", "_law_last"]) rfl rfl (by decide +kernel)) (pi_list (pv 7)) (fun _ _ _ _ _ _ => (pg_name (i := 0) (by decide +kernel : (["_law_cell", "_law_by", "_law_k"] : List Str).Nodup) rfl (Or.inl rfl))) (fun _ _ _ _ _ _ => pts_nil) (fun _ _ _ _ _ _ => (pe_ifExp (pt_cmpR op_isN (pv 0) pe_non (nomark _)) pe_non (pe_op op_mod (pe_op op_add (pe_op op_add (pv 0) (pv 1)) (pv 2)) pe_int)))) pa_nil))))) (pss_cons (ps_expr (pe_bm PySem.F.plainAttrs_list PySem.F.slot_list_append PySem.F.type_list_append mt_append (pv 3) (pa_cons (pe_own O_lawown hr rfl (pa_cons (pe_op op_add (pv 2) (pv 5)) pa_nil)) pa_nil)))
    (pss_one (ps_expr (pe_bm PySem.F.plainAttrs_list PySem.F.slot_list_append PySem.F.type_list_append mt_append (pv 4) (pa_cons (pe_comp (locs := ["_law_cell"]) (ix := [2, 5]) rfl (BlkSc.look (dsc := defScope s_lawlinks) (N := ["_law_script", "_law_swaps_here", "_law_by", "_law_changes", "_law_dues", "_law_k", "_law_way", "_law_last"]) rfl rfl (by decide +kernel)) (pi_list (pv 7)) (fun _ _ _ _ _ _ => (pg_name (i := 0) (by decide +kernel : (["_law_cell", "_law_by", "_law_k"] : List Str).Nodup) rfl (Or.inl rfl))) (fun _ _ _ _ _ _ => pts_nil) (fun _ _ _ _ _ _ => (pe_ifExp (pt_cmpR op_in_seqB (pv 0) (pe_tup (pa_cons pe_non (pa_cons (pe_op op_mod (pe_op op_add (pv 1) (pv 2)) pe_int) pa_nil))) rfl) pe_non (pe_op op_mod (pe_op op_add (pe_op op_add (pe_op op_mul (pv 0) pe_int) (pv 1)) (pv 2)) pe_int)))) pa_nil))))))))))))
    (pss_one (ps_ret (pe_tup (pa_cons (pv 3) (pa_cons (pe_ix ix_list (pv 4) (pe_un un_neg pe_int) (fun _ _ => rfl)) pa_nil)))))))), ?_⟩
  refine ⟨szV (by simp), fun lc nlc => ?_⟩
  walk_at "rs"
  refine ⟨by decide, fun l0 nl0 => ⟨szV (by simp), fun ld nld => ?_⟩⟩
  have s1 : Same H (upd H lc (.lst [])) := Same.new nlc
  have s2 : Same (upd H lc (.lst [])) (upd (upd H lc (.lst [])) l0 (.lst (L2.upTo 16))) := Same.new nl0
  have s3 : Same (upd (upd H lc (.lst [])) l0 (.lst (L2.upTo 16))) (upd (upd (upd H lc (.lst [])) l0 (.lst (L2.upTo 16))) ld (.lst [V.ref l0])) := Same.new nld
  have s13 := (s1.trans s2).trans s3
  have gc := (s2.trans s3) _ _ (show (upd H lc (.lst [])) lc = some (.lst (([] : List Addr).map V.ref)) from upd_same)
  have gl := s3 _ _ (show (upd (upd H lc (.lst [])) l0 (.lst (L2.upTo 16))) l0 = some (.lst (dueL (chainG []))) from upd_same)
  have L0 : LinkI tb n_byswaps_swapped n_bysteps_stepped n_lawown_lawchange H (upd (upd (upd H lc (.lst [])) l0 (.lst (L2.upTo 16))) ld (.lst [V.ref l0])) lc ld l0 [] [] [] 0 :=
    ⟨TB.keep s13, s13.toT, gc, upd_same, gl, rfl, rfl, rfl, (fun _ _ _ h => nomatch h), ne_of_none (s2 _ _ upd_same) nld, Ne.symm (ne_of_none upd_same nl0), ne_of_none upd_same nld, nlc, (s1.trans s2).free nld⟩
  generalize upd (upd (upd H lc (.lst [])) l0 (.lst (L2.upTo 16))) ld (.lst [V.ref l0]) = H1 at L0
  clear s13 s3 s2 s1 gc gl nl0 nld
  refine ⟨_, rfl, a, ns, 100, 9, rfl, L0.s.seq TB hS, by decide, by decide, by decide, fun r0 a0 a1 => ?_⟩
  refine ⟨_, rfl, (rngS (by omega) (by omega)).1, (rngS (by omega) (by omega)).2, ?_⟩
  refine for_range (n := r0.toNat) (fun i σ H2 => ∃ ll fs gs us v5 v6 v7, σ = [some (.ref a), some (.ref d), some (.int b), some (.ref lc), some (.ref ld), v5, v6, v7] ∧ LinkI tb n_byswaps_swapped n_bysteps_stepped n_lawown_lawchange H H2 lc ld ll fs gs us i)
    ⟨l0, [], [], [], none, none, none, rfl, L0⟩ ?_ ?_
  · rintro i σ H2 hi ⟨ll, fs, gs, us, v5, v6, v7, rfl, L⟩
    have hS2 := L.s.seq TB hS
    have hd2 := L.s.dk TB hd
    have hul := L.ul
    have hfl := L.fl
    walk_at "rs"
    refine ⟨a, ns, 101 + (0 + (i : Int)), _, rfl, hS2, by omega, by omega, (by decide), fun r1 b1 b2 => ?_⟩
    walk_at "rs"
    refine ⟨ld, _, _, _, rfl, rfl, SqL.of L.hd, last_at, ?_⟩
    walk_at "rs"
    have szc : (fs.map V.ref).length < sizeLine := small1000 (by rw [List.length_map]; omega)
    have szd : (us ++ [V.ref ll]).length < sizeLine := small1000 (by rw [List.length_append]; show us.length + 1 ≤ 1000; omega)
    refine iteD (fun _ => ?_) (fun _ => ?_)
    · refine ⟨_, rfl, .inl ⟨rfl, _, SqL.of L.hc⟩, _, rfl, d, kvs, rfl, hd2, fun d1 n1 => ?_⟩
      have s3 : Same H2 (upd H2 d1 (.dK kvs)) := Same.new n1
      refine ⟨d1, kvs, rfl, upd_same, L.t.keep s3, fun f d2 H3 s4 t4 C n2 nf g2 => ?_⟩
      have s24 := s3.toT.trans s4
      have C1 : Ch1F n_byswaps_swapped n_bysteps_stepped n_lawown_lawchange H H3 f (swapG kvs) := ⟨fun c h0 h1 => swapG_cell SW.cell h0 h1, .inl ⟨d2, kvs, C, g2, L.s.free L.t (s3.free n2), swapG_is SW.cell⟩⟩
      obtain ⟨c3, d4, l4⟩ := L.mid (o := .lst (fs.map V.ref ++ [.ref f])) s24
      have k4 : (upd H3 lc (.lst (fs.map V.ref ++ [.ref f]))) d = some (.dK kvs) := (Kd.putL c3).2 _ _ (s24.dk L.t hd2)
      have nx := fun {zs : List V} {l2 : Addr} (n2 : (upd H3 lc (.lst (fs.map V.ref ++ [.ref f]))) l2 = none) (e : zs = ((List.range 16).map fun (c : Nat) => mapG (swapG kvs) (chainG gs c)).map cellV) => L.next s24 t4 C1 (Same.refl _) n2 e
      refine ⟨lc, _, _, rfl, rfl, c3, szc, ?_⟩
      generalize upd H3 lc (.lst (fs.map V.ref ++ [.ref f])) = H4 at d4 l4 k4 nx
      refine ⟨_, rfl, .inl ⟨rfl, _, SqL.of d4⟩, _, rfl, ll, rfl, ⟨_, SqL.of l4⟩, ?_⟩
      refine comp_by (n := 16) (fun k σ zs H6 => ∃ v, σ = [v, some (.ref d)] ∧ zs = ((List.range k).map fun (c : Nat) => mapG (swapG kvs) (chainG gs c)).map cellV ∧ H6 = H4 ∧ k ≤ 16) ⟨none, rfl, rfl, rfl, Nat.zero_le _⟩ (Nat.le_of_lt (small1000 (by omega))) ?_ ?_ ?_ ?_ ?_
      · rintro k σ zs H6 ⟨v, _, rfl, _, hk⟩
        rw [List.length_map, List.length_map, List.length_range]
      · rintro σ zs H6 ⟨v, _, _, rfl, _⟩
        exact ⟨_, SqL.of l4, by rw [due_len]; exact Nat.le_refl _⟩
      · rintro k σ zs H6 hk ⟨v, _, _, rfl, _⟩
        exact ⟨_, _, SqL.of l4, due_get hk⟩
      · rintro k σ zs H6 x H7 Z hk ⟨v, rfl, e, rfl, _⟩ ⟨rfl, hx⟩ hZ
        have hx := hx _ (SqL.of l4)
        rw [due_get hk] at hx
        cases hx
        refine ⟨_, rfl, _, rfl, d, kvs, chainG gs k, rfl, k4, ?_⟩
        rw [swapV_is SW.cell]
        exact hZ _ _ _ ⟨_, rfl, rng_snoc (h := fun (c : Nat) => mapG (swapG kvs) (chainG gs c)) e, rfl, hk⟩
      · rintro σ zs H6 ⟨v, rfl, e, rfl, _⟩ l2 n2
        refine ⟨ld, _, _, rfl, rfl, (Same.new n2) _ _ d4, szd, ?_⟩
        exact ⟨l2, fs ++ [f], gs ++ [swapG kvs], us ++ [.ref ll], _, _, _, rfl, nx n2 e⟩
    · walk_at "rs"
      refine iteD (fun _ => ?_) (fun _ => ?_)
      · refine ⟨_, rfl, .inl ⟨rfl, _, SqL.of L.hc⟩, ?_⟩
        walk_at "rs"
        refine ⟨L.t, fun f H3 s24 t4 nf C => ?_⟩
        have C1 : Ch1F n_byswaps_swapped n_bysteps_stepped n_lawown_lawchange H H3 f (fun c => some ((c + (b + (0 + (i : Int)))) % 16)) := ⟨fun c h0 h1 z e => by cases e; omega, .inr (.inl ⟨_, C, fun c => rfl⟩)⟩
        obtain ⟨c3, d4, l4⟩ := L.mid (o := .lst (fs.map V.ref ++ [.ref f])) s24
        have nx := fun {zs : List V} {l2 : Addr} (n2 : (upd H3 lc (.lst (fs.map V.ref ++ [.ref f]))) l2 = none) (e : zs = ((List.range 16).map fun (c : Nat) => mapG (fun c => some ((c + (b + (0 + (i : Int)))) % 16)) (chainG gs c)).map cellV) => L.next s24 t4 C1 (Same.refl _) n2 e
        refine ⟨lc, _, _, rfl, rfl, c3, szc, ?_⟩
        generalize upd H3 lc (.lst (fs.map V.ref ++ [.ref f])) = H4 at d4 l4 nx
        refine ⟨_, rfl, .inl ⟨rfl, _, SqL.of d4⟩, _, rfl, ll, rfl, ⟨_, SqL.of l4⟩, ?_⟩
        refine comp_by (n := 16) (fun k σ zs H6 => ∃ v, σ = [v, some (.int b), some (.int (0 + (i : Int)))] ∧ zs = ((List.range k).map fun (c : Nat) => mapG (fun c => some ((c + (b + (0 + (i : Int)))) % 16)) (chainG gs c)).map cellV ∧ H6 = H4 ∧ k ≤ 16) ⟨none, rfl, rfl, rfl, Nat.zero_le _⟩ (Nat.le_of_lt (small1000 (by omega))) ?_ ?_ ?_ ?_ ?_
        · rintro k σ zs H6 ⟨v, _, rfl, _, hk⟩
          rw [List.length_map, List.length_map, List.length_range]
        · rintro σ zs H6 ⟨v, _, _, rfl, _⟩
          exact ⟨_, SqL.of l4, by rw [due_len]; exact Nat.le_refl _⟩
        · rintro k σ zs H6 hk ⟨v, _, _, rfl, _⟩
          exact ⟨_, _, SqL.of l4, due_get hk⟩
        · rintro k σ zs H6 x H7 Z hk ⟨v, rfl, e, rfl, _⟩ ⟨rfl, hx⟩ hZ
          have hx := hx _ (SqL.of l4)
          rw [due_get hk] at hx
          cases hx
          have step := hZ [some (cellV (chainG gs k)), some (.int b), some (.int (0 + (i : Int)))] _ H7 ⟨_, rfl, rng_snoc (h := fun (c : Nat) => mapG (fun c => some ((c + (b + (0 + (i : Int)))) % 16)) (chainG gs c)) e, rfl, hk⟩
          generalize chainG gs k = ci at step
          cases ci with
          | none =>
            walk_at "rs"
            exact iteD (fun _ => step) (fun z => absurd rfl z)
          | some c =>
            walk_at "rs"
            rw [Int.add_assoc]
            exact step
        · rintro σ zs H6 ⟨v, rfl, e, rfl, _⟩ l2 n2
          refine ⟨ld, _, _, rfl, rfl, (Same.new n2) _ _ d4, szd, ?_⟩
          exact ⟨l2, fs ++ [f], _, us ++ [.ref ll], _, _, _, rfl, nx n2 e⟩
      · refine ⟨_, rfl, .inl ⟨rfl, _, SqL.of L.hc⟩, ?_⟩
        walk_at "rs"
        refine ⟨L.t, fun f H3 s24 t4 nf C => ?_⟩
        have C1 : Ch1F n_byswaps_swapped n_bysteps_stepped n_lawown_lawchange H H3 f (fun c => if c = (b + (0 + (i : Int))) % 16 then none else some ((c * 3 + (b + (0 + (i : Int)))) % 16)) := ⟨fun c h0 h1 z e => by
          have e : (if c = (b + (0 + (i : Int))) % 16 then none else some ((c * 3 + (b + (0 + (i : Int)))) % 16)) = some z := e
          split at e
          · cases e
          · cases e; omega, .inr (.inr ⟨_, C, fun c => rfl⟩)⟩
        obtain ⟨c3, d4, l4⟩ := L.mid (o := .lst (fs.map V.ref ++ [.ref f])) s24
        have nx := fun {zs : List V} {l2 : Addr} {H5 : Hp} (s5 : Same (upd H3 lc (.lst (fs.map V.ref ++ [.ref f]))) H5) (n2 : H5 l2 = none) (e : zs = ((List.range 16).map fun (c : Nat) => mapG (fun c => if c = (b + (0 + (i : Int))) % 16 then none else some ((c * 3 + (b + (0 + (i : Int)))) % 16)) (chainG gs c)).map cellV) => L.next s24 t4 C1 s5 n2 e
        refine ⟨lc, _, _, rfl, rfl, c3, szc, ?_⟩
        generalize upd H3 lc (.lst (fs.map V.ref ++ [.ref f])) = H4 at d4 l4 nx
        refine ⟨_, rfl, .inl ⟨rfl, _, SqL.of d4⟩, _, rfl, ll, rfl, ⟨_, SqL.of l4⟩, ?_⟩
        have hcl : ∀ c : Nat, c ≤ 15 → Cell (chainG gs c) := fun c hc => chain_cell (fun g hg => by
          obtain ⟨j, hj, ej⟩ := List.mem_iff_getElem.mp hg
          have hgl := L.gl
          have := (L.ch j (fs[j]'(by omega)) g (List.getElem?_eq_getElem _) (by rw [List.getElem?_eq_getElem hj, ej])).1
          exact this) (by omega) (by omega)
        refine comp_by (n := 16) (fun k σ zs H6 => ∃ v, σ = [v, some (.int b), some (.int (0 + (i : Int)))] ∧ zs = ((List.range k).map fun (c : Nat) => mapG (fun c => if c = (b + (0 + (i : Int))) % 16 then none else some ((c * 3 + (b + (0 + (i : Int)))) % 16)) (chainG gs c)).map cellV ∧ Same H4 H6 ∧ k ≤ 16) ⟨none, rfl, rfl, Same.refl _, Nat.zero_le _⟩ (Nat.le_of_lt (small1000 (by omega))) ?_ ?_ ?_ ?_ ?_
        · rintro k σ zs H6 ⟨v, _, rfl, _, hk⟩
          rw [List.length_map, List.length_map, List.length_range]
        · rintro σ zs H6 ⟨v, _, _, s6, _⟩
          exact ⟨_, SqL.of (s6 _ _ l4), by rw [due_len]; exact Nat.le_refl _⟩
        · rintro k σ zs H6 hk ⟨v, _, _, s6, _⟩
          exact ⟨_, _, SqL.of (s6 _ _ l4), due_get hk⟩
        · rintro k σ zs H6 x H7 Z hk ⟨v, rfl, e, s6, _⟩ ⟨rfl, hx⟩ hZ
          have hx := hx _ (SqL.of (s6 _ _ l4))
          rw [due_get hk] at hx
          cases hx
          have step := fun H8 (s8 : Same H4 H8) => hZ [some (cellV (chainG gs k)), some (.int b), some (.int (0 + (i : Int)))] _ H8 ⟨_, rfl, rng_snoc (h := fun (c : Nat) => mapG (fun c => if c = (b + (0 + (i : Int))) % 16 then none else some ((c * 3 + (b + (0 + (i : Int)))) % 16)) (chainG gs c)) e, s8, hk⟩
          have hck := hcl k (by omega)
          generalize chainG gs k = ci at step hck
          refine ⟨_, rfl, ?_⟩
          walk_at "rs"
          intro p np
          have step := step _ (s6.trans (Same.new (o := .tup [V.non, .int ((b + (0 + (i : Int))) % 16)]) np))
          refine ⟨p, _, rfl, .inr (SqT.of upd_same), by cases ci <;> rfl, rfl, _, rfl, ?_⟩
          show if inV (cellV ci) [V.non, V.int ((b + (0 + (i : Int))) % 16)] = true then _ else _
          rw [inV_two]
          refine iteD (fun h => ?_) (fun h => ?_)
          · have e2 : mapG (fun c => if c = (b + (0 + (i : Int))) % 16 then none else some ((c * 3 + (b + (0 + (i : Int)))) % 16)) ci = none := by
              rcases h with rfl | rfl
              · rfl
              · exact if_pos rfl
            rw [e2] at step
            exact step
          · cases ci with
            | none => exact absurd (.inl rfl) h
            | some c =>
              have e2 : mapG (fun c => if c = (b + (0 + (i : Int))) % 16 then none else some ((c * 3 + (b + (0 + (i : Int)))) % 16)) (some c) = some ((c * 3 + (b + (0 + (i : Int)))) % 16) := if_neg fun z => h (.inr (by rw [z]))
              rw [e2] at step
              have hcc := hck c rfl
              walk_at "rs"
              rw [Int.add_assoc]
              exact step
        · rintro σ zs H6 ⟨v, rfl, e, s6, _⟩ l2 n2
          refine ⟨ld, _, _, rfl, rfl, (Same.new n2) _ _ (s6 _ _ d4), szd, ?_⟩
          exact ⟨l2, fs ++ [f], _, us ++ [.ref ll], _, _, _, rfl, nx s6 n2 e⟩
  · rintro σ H2 ⟨ll, fs, gs, us, v5, v6, v7, rfl, L⟩
    walk_at "rs"
    refine ⟨ld, _, _, _, rfl, rfl, SqL.of L.hd, last_at, szV (by simp), fun t nt => ?_⟩
    have s3 := Same.new (o := .tup [.ref lc, .ref ll]) nt
    exact q t lc ll fs gs _ (L.s.trans s3.toT) (L.t.keep s3) upd_same L.fc (s3 _ _ L.hc) (s3 _ _ L.hl) (L.fl.trans L.gl.symm) (by have := L.fl; omega) fun i f' g' a b => (L.ch i f' g' a b).kd s3.kd
theorem sc_lawtells : FnScope ["_law_change_here", "_law_dues", "_law_colour"] ["_law_change_here", "_law_dues"] (defScope s_lawtells) := ⟨rfl, rfl, rfl, by decide +kernel, rfl, by decide +kernel, by decide +kernel⟩
theorem ok_lawtells {f : Addr} {fd : FuncData} (D : Df K mg "_law_tells" s_lawtells ["_law_change_here", "_law_dues"] f fd)
    (O_lawalike : Ow P w K mg base "_law_alike" ["_law_found", "_law_due"] 3 (spAlike 3))
    (C_any : Cal P w K mg base 2 (spAny n_byswaps_swapped n_bysteps_stepped n_lawown_lawchange n_chained_changed n_lawheard_lawchange n_lawruled_lawrule)) (B : Blt mg) :
    Ow P w K mg base "_law_tells" ["_law_change_here", "_law_dues"] 4 (spTells n_byswaps_swapped n_bysteps_stepped n_lawown_lawchange n_chained_changed) := by
  refine D.ow (D.F.ok sc_lawtells (fun vs H Q E h => ?_) (fun cdv A outer s H vs Q E hr h => ?_))
  · obtain ⟨f, d, g, rfl, _⟩ := h
    rfl
  obtain ⟨f, d, g, rfl, hf, hd, q⟩ := h
  have call : ∀ H', Same H H' → (∃ dd cl, FunC H' f dd cl) ∧ ∀ (c : Int) (Q' : VK), 0 ≤ c → c ≤ 15 → Q' (cellV (g c)) H' → spAny n_byswaps_swapped n_bysteps_stepped n_lawown_lawchange n_chained_changed n_lawheard_lawchange n_lawruled_lawrule f [.int c] H' Q' E0 := fun H' s' => by
    rcases hf with hf | ⟨gs, hf, rfl⟩
    · have hf' := hf.kd s'.kd
      exact ⟨hf'.func, fun c Q' c0 c1 q' => .inl (.inl (.inl ⟨c, g, rfl, hf', c0, c1, q'⟩))⟩
    · have hf' := hf.kd s'.kd fun _ _ e => s' _ _ e
      exact ⟨hf'.func, fun c Q' c0 c1 q' => .inl (.inl (.inr ⟨c, gs, rfl, hf', c0, c1, q'⟩))⟩
  refine ⟨_, (pss_cons (ps_for PassesOwn.never rfl (pi_list (pe_op op_cat (pe_listRng rfl rfl B.f_list rfl B.f_range pe_int) (pe_lst (pa_cons pe_int (pa_cons pe_int (pa_cons pe_int pa_nil)))))) (pg_name (i := 2) sc_lawtells.nd rfl (Or.inl rfl)) (pss_one (ps_if (pt_not (pt_val (pe_own O_lawalike hr rfl (pa_cons (pe_callV C_any hr (pv 0) (pa_cons (pv 2) pa_nil)) (pa_cons (pe_ix ix_list (pv 1) (pv 2) (fun _ _ => rfl)) pa_nil))))) (pss_one (ps_ret pe_bl)) pss_nil)))
    (pss_one (ps_ret pe_bl))), ?_⟩
  walk_at "rs"
  refine ⟨by decide, fun l1 n1 => ⟨szV (by simp), fun l2 n2 => ⟨l1, l2, _, _, rfl, rfl, (Same.new n2) _ _ upd_same, upd_same, Nat.le_of_lt (small1000 (by decide)), fun l3 n3 => ?_⟩⟩⟩
  have s3 := ((Same.new (o := .lst (L2.upTo 16)) n1).trans (Same.new (o := .lst [V.int 3, .int 0, .int 15]) n2)).trans (Same.new (o := .lst (L2.upTo 16 ++ [V.int 3, .int 0, .int 15])) n3)
  have g3 : (upd (upd (upd H l1 (.lst (L2.upTo 16))) l2 (.lst [V.int 3, .int 0, .int 15])) l3 (.lst (L2.upTo 16 ++ [V.int 3, .int 0, .int 15]))) l3 = some (.lst (L2.upTo 16 ++ [V.int 3, .int 0, .int 15])) := upd_same
  generalize upd (upd (upd H l1 (.lst (L2.upTo 16))) l2 (.lst [V.int 3, .int 0, .int 15])) l3 (.lst (L2.upTo 16 ++ [V.int 3, .int 0, .int 15])) = H3 at s3 g3
  refine ⟨l3, rfl, ⟨_, SqL.of g3⟩, ?_⟩
  refine for_list (K := K) (a := l3) (xs := L2.upTo 16 ++ [V.int 3, .int 0, .int 15]) (fun i σ H4 => Same H3 H4 ∧ ∃ v, σ = [some (.ref f), some (.ref d), v]) ⟨Same.refl _, none, rfl⟩ ?_ ?_ ?_
  · rintro i σ H4 _ ⟨s4, _⟩
    exact SqL.of (s4 _ _ g3)
  · rintro i x σ H4 hx ⟨s4, v, rfl⟩
    obtain ⟨c, rfl, hc⟩ := told_lt hx
    obtain ⟨fu, ca⟩ := call H4 (s3.trans s4)
    refine ⟨f, rfl, fu, _, rfl, fu, ca c _ (by omega) (by omega) ?_⟩
    refine ⟨_, rfl, _, rfl, d, _, _, _, rfl, rfl, SqL.of ((s3.trans s4) _ _ hd), due_at hc, ?_⟩
    refine ⟨_, _, rfl, Alk.cell _, fun H5 s5 => ⟨_, rfl, iteF ?_⟩⟩
    exact ⟨s4.trans s5, _, rfl⟩
  · rintro σ H4 ⟨s4, v, rfl⟩
    exact q H4 (s3.trans s4)
theorem sc_lawmapped : FnScope ["_law_rows_here", "_law_dues"] ["_law_rows_here", "_law_dues"] (defScope s_lawmapped) := ⟨rfl, rfl, rfl, by decide +kernel, rfl, by decide +kernel, by decide +kernel⟩
theorem ok_lawmapped {f : Addr} {fd : FuncData} (D : Df K mg "_law_mapped" s_lawmapped ["_law_rows_here", "_law_dues"] f fd)
    (O_lawpacked : Ow P w K mg base "_law_packed" ["_law_rows_here"] 1 spPacked) (B : Blt mg) :
    Ow P w K mg base "_law_mapped" ["_law_rows_here", "_law_dues"] 2 spLMapped := by
  refine D.ow (D.F.ok sc_lawmapped (fun vs H Q E h => ?_) (fun cdv A outer s H vs Q E hr h => ?_))
  · obtain ⟨l, d, ps, rows, w, h, g, rfl, _⟩ := h
    rfl
  obtain ⟨l, d, ps, rows, wd, hg, g, rfl, RA, R, hd, hc, q⟩ := h
  have hR := R.len
  have hR2 := R.h2
  have hw2 := R.w2
  have hlen := RA.len
  refine ⟨_, (pss_one (ps_ret (pe_own O_lawpacked hr rfl (pa_cons (pe_comp (locs := ["_law_row"]) (ix := [1]) rfl (BlkSc.look (dsc := defScope s_lawmapped) (N := ["_law_rows_here", "_law_dues"]) rfl rfl (by decide +kernel)) (pi_list (pv 0)) (fun _ _ _ _ _ _ => (pg_name (i := 0) (by decide +kernel : (["_law_row", "_law_dues"] : List Str).Nodup) rfl (Or.inl rfl))) (fun _ _ _ _ _ _ => pts_nil) (fun _ _ _ _ _ _ => (pe_comp (locs := ["_law_cell"]) (ix := [1]) rfl (BlkSc.lookC (N := ["_law_row", "_law_dues"]) rfl (by decide +kernel)) (pi_listB (pv 0)) (fun _ _ _ _ _ _ => (pg_name (i := 0) (by decide +kernel : (["_law_cell", "_law_dues"] : List Str).Nodup) rfl (Or.inl rfl))) (fun _ _ _ _ _ _ => pts_nil) (fun _ _ _ _ _ _ => (pe_ifExp (pt_cmpR op_isN (pv 0) pe_non (nomark _)) pe_non (pe_ix ix_listF (pv 1) (pv 0) (fun _ _ => rfl))))))) pa_nil)))), ?_⟩
  walk_at "rs"
  refine ⟨⟨_, SqL.of RA.lst⟩, ?_⟩
  refine comp_by (n := rows.length) (fun i σ zs H2 => ∃ (v : Option V) (qs : List Addr), σ = [v, some (.ref d)] ∧ zs = qs.map V.ref ∧ Same H H2 ∧ i ≤ rows.length ∧ qs.length = i ∧ ∀ (k : Nat) x r, qs[k]? = some x → (rows.map fun r => r.map (mapG g))[k]? = some r → H2 x = some (.lst (r.map cellV)))
    ⟨none, [], rfl, rfl, Same.refl _, Nat.zero_le _, rfl, (fun _ _ _ h => nomatch h)⟩ (Nat.le_of_lt (small1000 (by omega))) ?_ ?_ ?_ ?_ ?_
  · rintro i σ zs H2 ⟨v, qs, _, rfl, _, _, hi, _⟩
    rw [List.length_map, hi]
  · rintro σ zs H2 ⟨v, qs, _, _, s2, _⟩
    exact ⟨_, SqL.of (s2 _ _ RA.lst), by rw [List.length_map]; omega⟩
  · rintro i σ zs H2 hi ⟨v, qs, _, _, s2, _⟩
    exact ⟨_, _, SqL.of (s2 _ _ RA.lst), List.getElem?_eq_getElem (by rw [List.length_map]; omega)⟩
  · rintro i σ zs H2 x H' Z hi ⟨v, qs, rfl, rfl, s2, _, hq, gq⟩ ⟨rfl, hx⟩ hZ
    have hx := hx _ (SqL.of (s2 _ _ RA.lst))
    obtain ⟨x', e1, e2⟩ := RA.at hi
    rw [List.getElem?_map, e1] at hx
    cases hx
    obtain ⟨hw, hcr⟩ := R.row0 hi
    have e2 := s2 _ _ e2
    have hd2 := s2 _ _ hd
    walk_at "rs"
    refine ⟨⟨_, SqL.of e2⟩, ?_⟩
    have er : (rows.map fun r => r.map (mapG g))[i]? = some ((rows[i]'hi).map (mapG g)) := by rw [List.getElem?_map, List.getElem?_eq_getElem hi]; rfl
    generalize hrow : rows[i]'hi = row at e2 hw hcr er
    refine comp_by (n := row.length) (fun k σ zs H3 => ∃ v, σ = [v, some (.ref d)] ∧ zs = ((row.take k).map (mapG g)).map cellV ∧ H3 = H' ∧ k ≤ row.length) ⟨none, rfl, rfl, rfl, Nat.zero_le _⟩ (Nat.le_of_lt (small1000 (by omega))) ?_ ?_ ?_ ?_ ?_
    · rintro k σ zs H3 ⟨v, _, rfl, _, hk⟩
      rw [List.length_map, List.length_map, List.length_take]
      omega
    · rintro σ zs H3 ⟨v, _, _, rfl, _⟩
      exact ⟨_, SqL.of e2, by rw [List.length_map]; exact Nat.le_refl _⟩
    · rintro k σ zs H3 hk ⟨v, _, _, rfl, _⟩
      exact ⟨_, _, SqL.of e2, List.getElem?_eq_getElem (by rw [List.length_map]; exact hk)⟩
    · rintro k σ zs H3 x H4 Z2 hk ⟨v, rfl, rfl, rfl, _⟩ ⟨rfl, hx⟩ hZ2
      have hx := hx _ (SqL.of e2)
      rw [List.getElem?_map, List.getElem?_eq_getElem hk] at hx
      cases hx
      have step : Z2 [some (cellV row[k]), some (.ref d)] (((row.take k).map (mapG g)).map cellV ++ [cellV (mapG g row[k])]) H4 :=
        hZ2 _ _ _ ⟨_, rfl, by rw [List.take_succ, List.getElem?_eq_getElem hk, List.map_append, List.map_append]; rfl, rfl, hk⟩
      have hcell := hcr _ (List.getElem_mem hk)
      generalize row[k] = ci at step hcell
      cases ci with
      | none =>
        walk_at "rs"
        exact iteD (fun _ => step) (fun z => absurd rfl z)
      | some c =>
        have hc01 := hcell c rfl
        obtain ⟨cn, rfl⟩ : ∃ cn : Nat, c = (cn : Int) := ⟨c.toNat, by omega⟩
        walk_at "rs"
        exact ⟨d, _, _, _, rfl, rfl, SqL.of hd2, due_at (by omega), step⟩
    · rintro σ zs H3 ⟨v, rfl, rfl, rfl, _⟩ m nm
      rw [List.take_length]
      refine hZ _ _ _ ⟨_, qs ++ [m], rfl, by rw [List.map_append]; rfl, s2.trans (Same.new nm), hi, by rw [List.length_append, hq]; rfl, fun k y r a1 a2 => ?_⟩
      by_cases hk : k < qs.length
      · rw [List.getElem?_append_left hk] at a1
        exact (Same.new nm) _ _ (gq k y r a1 a2)
      · rw [List.getElem?_append_right (by omega)] at a1
        cases hk2 : k - qs.length with
        | zero =>
          rw [hk2] at a1
          cases a1
          have ek : k = i := by omega
          subst ek
          rw [er] at a2
          cases a2
          exact upd_same
        | succ n =>
          rw [hk2] at a1
          cases a1
  · rintro σ zs H2 ⟨v, qs, rfl, rfl, s2, _, hq, gq⟩ l2 nl2
    have s3 : Same H2 (upd H2 l2 (.lst (qs.map V.ref))) := Same.new nl2
    have RM : RowsAt (upd H2 l2 (.lst (qs.map V.ref))) l2 qs (rows.map fun r => r.map (mapG g)) := ⟨upd_same, by rw [List.length_map]; exact hq, fun k y r a1 a2 => s3 _ _ (gq k y r a1 a2)⟩
    exact ⟨l2, qs, _, _, _, rfl, RM, mapG_rect R hc, fun r H4 s4 PR => q r H4 ((s2.trans s3).trans s4) PR⟩
theorem sc_lawheard : FnScope ["_law_rows_here", "_law_by", "_law_asked", "_law_change", "_law_dues"] ["_law_rows_here", "_law_by"] (defScope s_lawheard) := ⟨rfl, rfl, rfl, by decide +kernel, rfl, by decide +kernel, by decide +kernel⟩
theorem ok_lawheard {tc tp : Addr} {f : Addr} {fd : FuncData} (D : Df K mg "_law_heard" s_lawheard ["_law_rows_here", "_law_by"] f fd) (hcode : fd.code = .ref tc) (BT : BaseT mg base tc tp) (hT : (tp, p_lawheard_lawchange, n_lawheard_lawchange.qual) ∈ tb) (hN : (tb.map (·.1)).Nodup)
    (O_mapped : Ow P w K mg base "mapped" ["pic", "change"] 4 (spMapped (spAny n_byswaps_swapped n_bysteps_stepped n_lawown_lawchange n_chained_changed n_lawheard_lawchange n_lawruled_lawrule)))
    (O_lawalike : Ow P w K mg base "_law_alike" ["_law_found", "_law_due"] 3 (spAlike 3))
    (O_lawpacked : Ow P w K mg base "_law_packed" ["_law_rows_here"] 1 spPacked)
    (O_lawmapped : Ow P w K mg base "_law_mapped" ["_law_rows_here", "_law_dues"] 2 spLMapped) (B : Blt mg) :
    Ow P w K mg base "_law_heard" ["_law_rows_here", "_law_by"] 5 (spHeard tb) := by
  refine D.ow (D.F.okc hcode sc_lawheard (fun vs H Q E h => ?_) (fun A outer s H vs Q E hr h => ?_))
  · obtain ⟨l, ps, rows, w, h, b, rfl, _⟩ := h
    rfl
  obtain ⟨l, ps, rows, wd, hg, b, rfl, RA, R, TB, q⟩ := h
  refine ⟨_, (pss_cons (ps_set (i := 2) sc_lawheard.nd rfl (Or.inr rfl) (pe_lst pa_nil))
    (pss_cons (ps_def (i := 3) (d := n_lawheard_lawchange) BT rfl sc_lawheard.nd rfl (Or.inl rfl) rfl rfl rfl rfl rfl)
    (pss_cons (ps_set (i := 4) sc_lawheard.nd rfl (Or.inr rfl) (pe_comp (locs := ["_law_colour"]) (ix := [1]) rfl (BlkSc.look (dsc := defScope s_lawheard) (N := ["_law_rows_here", "_law_by", "_law_asked", "_law_change", "_law_dues"]) rfl rfl (by decide +kernel)) (pi_range1 rfl B.f_range (pa_cons pe_int pa_nil)) (fun _ _ _ _ _ _ => (pg_name (i := 0) (by decide +kernel : (["_law_colour", "_law_by"] : List Str).Nodup) rfl (Or.inl rfl))) (fun _ _ _ _ _ _ => pts_nil) (fun _ _ _ _ _ _ => (pe_op op_mod (pe_op op_add (pv 0) (pv 1)) pe_int))))
    (pss_cons (ps_if (pt_not (pt_val (pe_own O_lawalike hr rfl (pa_cons (pe_ownL O_mapped hr rfl (sub2 (x := "_law_by") (y := "_law_asked") rfl rfl rfl rfl) (fun _ => rfl) (pa_cons (pe_own O_lawpacked hr rfl (pa_cons (pv 0) pa_nil)) (pa_cons (pv 3) pa_nil))) (pa_cons (pe_own O_lawmapped hr rfl (pa_cons (pv 0) (pa_cons (pv 4) pa_nil))) pa_nil))))) (pss_one (ps_ret pe_bl)) pss_nil)
    (pss_one (ps_ret (pe_callB (call_all rfl) rfl B.f_all boot_all (pa_cons (pe_comp (locs := ["_law_colour"]) (ix := [4]) rfl (BlkSc.look (dsc := defScope s_lawheard) (N := ["_law_rows_here", "_law_by", "_law_asked", "_law_change", "_law_dues"]) rfl rfl (by decide +kernel)) (pi_list (pv 2)) (fun _ _ _ _ _ _ => (pg_name (i := 0) (by decide +kernel : (["_law_colour", "_law_dues"] : List Str).Nodup) rfl (Or.inl rfl))) (fun _ _ _ _ _ _ => pts_nil) (fun _ _ _ _ _ _ => (pe_cmpR op_in_seqB (pv 0) (pv 1) rfl))) pa_nil)))))))), ?_⟩
  walk_at "rs"
  intro a na
  have s1 : Same H (upd H a (.lst [])) := Same.new na
  have ga : (upd H a (.lst [])) a = some (.lst []) := upd_same
  generalize upd H a (.lst []) = H1 at s1 ga
  have T1 := TB.keep s1
  refine ⟨T1 _ hT, fun f H2 T2 e2 nf F => ?_⟩
  obtain ⟨T2', s2⟩ := T1.grow hT hN e2 T2
  have ga2 := s2.lst T1 ga
  have RA2 := s2.rows T1 (RA.mono s1)
  have s02 := s1.toT.trans s2
  refine ⟨_, rfl, (rngS (by decide) (by decide)).1, (rngS (by decide) (by decide)).2, ?_⟩
  refine comp_by (n := 16) (fun k σ zs H3 => ∃ v, σ = [v, some (.int b)] ∧ zs = ((List.range k).map fun (c : Nat) => some (((c : Int) + b) % 16)).map cellV ∧ H3 = H2 ∧ k ≤ 16) ⟨none, rfl, rfl, rfl, Nat.zero_le _⟩ (Nat.le_of_lt (small1000 (by omega))) ?_ ?_ ?_ ?_ ?_
  · rintro k σ zs H3 ⟨v, _, rfl, _, hk⟩
    rw [List.length_map, List.length_map, List.length_range]
  · rintro σ zs H3 _
    show ((16 : Int)).toNat ≤ 16
    decide
  · intro i σ zs H3 hi _
    show i < ((16 : Int)).toNat
    exact hi
  · rintro k σ zs H3 x H4 Z hk ⟨v, rfl, e, rfl, _⟩ ⟨rfl, rfl⟩ hZ
    have step := hZ [some (.int (0 + (k : Int))), some (.int b)] _ H4 ⟨_, rfl, rng_snoc (h := fun (c : Nat) => some (((c : Int) + b) % 16)) e, rfl, hk⟩
    walk_at "rs"
    have e0 : (0 : Int) + (k : Int) = (k : Nat) := by omega
    rw [e0] at step ⊢
    exact step
  rintro σ zs H3 ⟨v, rfl, e, rfl, _⟩ ld nld
  have hz : zs = dueL (fun c => some ((c + b) % 16)) := e
  subst hz
  have s3 : Same H3 (upd H3 ld (.lst (dueL (fun c => some ((c + b) % 16))))) := Same.new nld
  have gd : (upd H3 ld (.lst (dueL (fun c => some ((c + b) % 16))))) ld = some (.lst (dueL (fun c => some ((c + b) % 16)))) := upd_same
  generalize upd H3 ld (.lst (dueL (fun c => some ((c + b) % 16)))) = H4 at s3 gd
  refine ⟨_, rfl, l, ps, rows, _, _, rfl, RA2.mono s3, R, fun p H5 s5 PC => ?_⟩
  have s35 := s3.trans s5
  refine ⟨_, rfl, fun H6 L => ?_⟩
  have ne1 : s.heap.objs.size + 1 ≠ s.heap.objs.size + 1 + 1 + 1 := by omega
  have Cl0 := (L.two (F.kp (s35.kp)) (by decide) ne1 (i := 1) (j := 2) (v := .int b) (w := .ref a) rfl rfl rfl rfl).swap
  have AC := L.all2 (i := 1) (j := 2) (v := .int b) (w := .ref a) rfl rfl rfl rfl
  have ga5 := s35 _ _ ga2
  have lb := fun {H7 : Hp} (s7 : SameP a H6 H7) => lent_back (tb := tb) L s7 (T2'.keep s35) ga5
  have PC6 := PC.mono L.same
  have ga6 := L.same _ _ ga5
  generalize ([((("_law_by" : Str)), s.heap.objs.size + 1), (("_law_asked" : Str), s.heap.objs.size + 1 + 1 + 1)].map (·.2) : List Addr) = cs at AC lb ⊢
  clear L
  refine ⟨p, f, a, wd, hg, rows, JHe n_lawheard_lawchange f a b cs, fun c => some ((c + b) % 16), rfl, PC6, R, jok_he, ⟨Cl0, AC, [], ga6, Nat.le_refl _, fun _ h => nomatch h⟩, fun r n7 H7 s7 j7 h7 PQ => ?_⟩
  obtain ⟨T8, s58⟩ := lb s7
  obtain ⟨_, AC7, xs, ga7, hxs, hxc⟩ := j7
  have nl : l ≠ a := ne_of_none RA.lst na
  have np : ∀ x ∈ ps, x ≠ a := fun x hx => by
    obtain ⟨k, hk, ek⟩ := List.mem_iff_getElem.mp hx
    have hl := RA.len
    exact ne_of_none (RA.row k x _ (by rw [List.getElem?_eq_getElem hk, ek]) (List.getElem?_eq_getElem (by omega))) na
  have nd : ld ≠ a := Ne.symm (ne_of_none ga2 nld)
  have RA5 := RA2.mono s35
  have RA8 : RowsAt (hide cs H7) l ps rows := ⟨s58 _ _ nl RA5.lst, RA5.len, fun k x r e1 e2 => s58 _ _ (np x (List.mem_of_getElem? e1)) (RA5.row k x r e1 e2)⟩
  have gd8 := s58 _ _ nd (s5 _ _ gd)
  have PQ8 := AC7.pic PQ
  have ga8 := AC7.lst ga7
  have s08 : SameT tb H (hide cs H7) := fun x o n e => s58 _ _ (ne_of_none e na) (s35 _ _ (s02 x o n e))
  generalize hide cs H7 = H8 at T8 s58 RA8 gd8 PQ8 ga8 s08 ⊢
  refine ⟨_, rfl, _, rfl, l, ld, ps, rows, _, _, _, rfl, RA8, R, gd8, fun c c0 c1 z e => by cases e; omega, fun p2 H9 s9 PM => ?_⟩
  refine ⟨_, _, rfl, PicAt.alk (by rw [List.length_map, R.len]; exact R.h2) (PQ8.mono s9) PM, fun H10 s10 => ⟨_, rfl, iteF ?_⟩⟩
  have s810 := s9.trans s10
  have ga10 := s810 _ _ ga8
  have gd10 := s810 _ _ gd8
  refine ⟨_, rfl, a, rfl, ⟨_, SqL.of ga10⟩, ?_⟩
  refine comp_by (n := xs.length) (fun k σ zs H11 => ∃ v, σ = [v, some (.ref ld)] ∧ zs = (List.replicate k true).map V.bl ∧ H11 = H10 ∧ k ≤ xs.length) ⟨none, rfl, rfl, rfl, Nat.zero_le _⟩ (Nat.le_of_lt (Nat.lt_of_le_of_lt (Nat.le_trans hxs h7) (by decide))) ?_ ?_ ?_ ?_ ?_
  · rintro k σ zs H11 ⟨v, _, rfl, _, hk⟩
    rw [List.length_map, List.length_replicate]
  · rintro σ zs H11 ⟨v, _, _, rfl, _⟩
    exact ⟨_, SqL.of ga10, Nat.le_refl _⟩
  · rintro k σ zs H11 hk ⟨v, _, _, rfl, _⟩
    exact ⟨_, _, SqL.of ga10, List.getElem?_eq_getElem hk⟩
  · rintro k σ zs H11 x H12 Z hk ⟨v, rfl, rfl, rfl, _⟩ ⟨rfl, hx⟩ hZ
    have hx := hx _ (SqL.of ga10)
    obtain ⟨c, rfl, c0, c1⟩ := hxc x (List.mem_of_getElem? hx)
    refine ⟨_, rfl, _, rfl, ld, _, rfl, .inl (SqL.of gd10), rfl, due_flat _, ?_⟩
    show Z _ (_ ++ [V.bl (inV (.int c) (dueL fun c => some ((c + b) % 16)))]) _
    rw [inV_due c0 c1]
    exact hZ _ _ _ ⟨_, rfl, by rw [List.replicate_succ', List.map_append]; rfl, rfl, hk⟩
  · rintro σ zs H11 ⟨v, rfl, rfl, rfl, _⟩ lz nz
    refine ⟨lz, List.replicate xs.length true, rfl, SqL.of upd_same, ?_⟩
    have e : (List.replicate xs.length true).all id = true := by simp
    rw [e]
    have s11 := s810.trans (Same.new (o := .lst ((List.replicate xs.length true).map V.bl)) nz)
    exact q _ (s08.trans s11.toT) (T8.keep s11)
theorem sc_lawruled : FnScope ["_law_rows_here", "_law_asked", "_law_rule"] ["_law_rows_here"] (defScope s_lawruled) := ⟨rfl, rfl, rfl, by decide +kernel, rfl, by decide +kernel, by decide +kernel⟩
theorem ok_lawruled {tc tp : Addr} {f : Addr} {fd : FuncData} (D : Df K mg "_law_ruled" s_lawruled ["_law_rows_here"] f fd) (hcode : fd.code = .ref tc) (BT : BaseT mg base tc tp) (hT : (tp, p_lawruled_lawrule, n_lawruled_lawrule.qual) ∈ tb) (hN : (tb.map (·.1)).Nodup)
    (O_ruled : Ow P w K mg base "ruled" ["wide", "high", "rule"] 4 (spRuled (spAny n_byswaps_swapped n_bysteps_stepped n_lawown_lawchange n_chained_changed n_lawheard_lawchange n_lawruled_lawrule)))
    (O_lawalike : Ow P w K mg base "_law_alike" ["_law_found", "_law_due"] 3 (spAlike 3))
    (O_lawpacked : Ow P w K mg base "_law_packed" ["_law_rows_here"] 1 spPacked) (B : Blt mg) :
    Ow P w K mg base "_law_ruled" ["_law_rows_here"] 5 (spLRuled tb) := by
  refine D.ow (D.F.okc hcode sc_lawruled (fun vs H Q E h => ?_) (fun A outer s H vs Q E hr h => ?_))
  · obtain ⟨l, ps, rows, w, h, rfl, _⟩ := h
    rfl
  obtain ⟨l, ps, rows, wd, hg, rfl, RA, R, TB, q⟩ := h
  refine ⟨_, (pss_cons (ps_set (i := 1) sc_lawruled.nd rfl (Or.inr rfl) (pe_lst pa_nil))
    (pss_cons (ps_def (i := 2) (d := n_lawruled_lawrule) BT rfl sc_lawruled.nd rfl (Or.inl rfl) rfl rfl rfl rfl rfl)
    (pss_cons (ps_if (pt_not (pt_val (pe_own O_lawalike hr rfl (pa_cons (pe_ownL O_ruled hr rfl (sub2 (x := "_law_rows_here") (y := "_law_asked") rfl rfl rfl rfl) (fun _ => rfl) (pa_cons (pe_callB call_len_seq rfl B.f_len boot_len (pa_cons (pe_ix ix_list (pv 0) pe_int (fun _ _ => rfl)) pa_nil)) (pa_cons (pe_callB call_len_seq rfl B.f_len boot_len (pa_cons (pv 0) pa_nil)) (pa_cons (pv 2) pa_nil)))) (pa_cons (pe_own O_lawpacked hr rfl (pa_cons (pv 0) pa_nil)) pa_nil))))) (pss_one (ps_ret pe_bl)) pss_nil)
    (pss_one (ps_ret (pe_callB (call_all rfl) rfl B.f_all boot_all (pa_cons (pe_comp (locs := ["_law_spot"]) (ix := [0]) rfl (BlkSc.look (dsc := defScope s_lawruled) (N := ["_law_rows_here", "_law_asked", "_law_rule"]) rfl rfl (by decide +kernel)) (pi_list (pv 1)) (fun _ _ _ _ _ _ => (pg_name (i := 0) (by decide +kernel : (["_law_spot", "_law_rows_here"] : List Str).Nodup) rfl (Or.inl rfl))) (fun _ _ _ _ _ _ => pts_nil) (fun _ _ _ _ _ _ => (pe_and (pe_chain op_le op_lt pe_int (pe_ix ix_tupB (pv 0) pe_int (fun _ _ => rfl)) (pe_callB call_lenB rfl B.f_len boot_len (pa_cons (pe_ix ix_listB (pv 1) pe_int (fun _ _ => rfl)) pa_nil))) (pe_one (pe_chain op_le op_lt pe_int (pe_ix ix_tupB (pv 0) pe_int (fun _ _ => rfl)) (pe_callB call_lenB rfl B.f_len boot_len (pa_cons (pv 1) pa_nil))))))) pa_nil))))))), ?_⟩
  walk_at "rs"
  intro a na
  have s1 : Same H (upd H a (.lst [])) := Same.new na
  have ga : (upd H a (.lst [])) a = some (.lst []) := upd_same
  generalize upd H a (.lst []) = H1 at s1 ga
  have T1 := TB.keep s1
  refine ⟨T1 _ hT, fun f H2 T2 e2 nf F => ?_⟩
  obtain ⟨T2', s2⟩ := T1.grow hT hN e2 T2
  have ga2 := s2.lst T1 ga
  have RA2 := s2.rows T1 (RA.mono s1)
  have s02 := s1.toT.trans s2
  have hR := R.len
  have hR1 := R.h1
  obtain ⟨p0, i0, g0⟩ := RA2.atI (i := 0) (by omega)
  have hw0 := (R.row0 (i := 0) (by omega)).1
  refine ⟨_, rfl, l, _, 0, _, rfl, rfl, SqL.of RA2.lst, i0, p0, _, rfl, .inl (SqL.of g0), _, rfl, l, _, rfl, .inl (SqL.of RA2.lst), _, rfl, fun H6 L => ?_⟩
  have ne1 : s.heap.objs.size + 1 ≠ s.heap.objs.size + 1 + 1 := by omega
  have Cl0 := (L.two F (by decide) ne1 (i := 0) (j := 1) (v := .ref l) (w := .ref a) rfl rfl rfl rfl).swap
  have AC := L.all2 (i := 0) (j := 1) (v := .ref l) (w := .ref a) rfl rfl rfl rfl
  have lb := fun {H7 : Hp} (s7 : SameP a H6 H7) => lent_back (tb := tb) L s7 T2' ga2
  have ga6 := L.same _ _ ga2
  have RA6 := RA2.mono L.same
  generalize ([((("_law_rows_here" : Str)), s.heap.objs.size + 1), (("_law_asked" : Str), s.heap.objs.size + 1 + 1)].map (·.2) : List Addr) = cs at AC lb ⊢
  clear L
  have nl : l ≠ a := ne_of_none RA.lst na
  have np : ∀ x ∈ ps, x ≠ a := fun x hx => by
    obtain ⟨k, hk, ek⟩ := List.mem_iff_getElem.mp hx
    have hl := RA.len
    exact ne_of_none (RA.row k x _ (by rw [List.getElem?_eq_getElem hk, ek]) (List.getElem?_eq_getElem (by omega))) na
  refine ⟨f, a, wd, hg, JRu n_lawruled_lawrule f a l ps rows wd hg cs, cellN rows, by rw [List.length_map, hw0, List.length_map, RA2.len, hR], R.w1, R.w2, R.h1, R.h2, jok_ru R (Ne.symm nl) (fun z => np a z rfl), ⟨Cl0, AC, RA6, [], ga6, Nat.le_refl _, fun _ h => nomatch h⟩, fun r n7 H7 s7 j7 h7 PQ => ?_⟩
  rw [← R.grid] at PQ
  obtain ⟨T8, s58⟩ := lb s7
  obtain ⟨_, AC7, RA7, xs, ga7, hxs, hxc⟩ := j7
  have RA8 := AC7.rows RA7
  have PQ8 := AC7.pic PQ
  have ga8 := AC7.lst ga7
  have hx8 : ∀ x ∈ xs, ∃ (t : Addr) (i j : Nat), x = .ref t ∧ hide cs H7 t = some (.tup [.int i, .int j]) ∧ i < wd ∧ j < hg := fun x hx => by
    obtain ⟨t, i, j, e, ht, r⟩ := hxc x hx
    exact ⟨t, i, j, e, AC7.tup ht, r⟩
  have s08 : SameT tb H (hide cs H7) := fun x o n e => s58 _ _ (ne_of_none e na) (s02 x o n e)
  generalize hide cs H7 = H8 at T8 s58 RA8 PQ8 ga8 s08 hx8 ⊢
  refine ⟨_, rfl, l, ps, rows, _, _, rfl, RA8, R, fun p2 H9 s9 PM => ?_⟩
  refine ⟨_, _, rfl, PicAt.alk (by rw [R.len]; exact R.h2) (PQ8.mono s9) PM, fun H10 s10 => ⟨_, rfl, iteF ?_⟩⟩
  have s810 := s9.trans s10
  have ga10 := s810 _ _ ga8
  have RA10 := RA8.mono s810
  obtain ⟨p1, i1, g1⟩ := RA10.atI (i := 0) (by omega)
  refine ⟨_, rfl, a, rfl, ⟨_, SqL.of ga10⟩, ?_⟩
  refine comp_by (n := xs.length) (fun k σ zs H11 => ∃ v, σ = [v, some (.ref l)] ∧ zs = (List.replicate k true).map V.bl ∧ H11 = H10 ∧ k ≤ xs.length) ⟨none, rfl, rfl, rfl, Nat.zero_le _⟩ (Nat.le_of_lt (Nat.lt_of_le_of_lt (Nat.le_trans hxs h7) (by decide))) ?_ ?_ ?_ ?_ ?_
  · rintro k σ zs H11 ⟨v, _, rfl, _, hk⟩
    rw [List.length_map, List.length_replicate]
  · rintro σ zs H11 ⟨v, _, _, rfl, _⟩
    exact ⟨_, SqL.of ga10, Nat.le_refl _⟩
  · rintro k σ zs H11 hk ⟨v, _, _, rfl, _⟩
    exact ⟨_, _, SqL.of ga10, List.getElem?_eq_getElem hk⟩
  · rintro k σ zs H11 x H12 Z hk ⟨v, rfl, rfl, rfl, _⟩ ⟨rfl, hx⟩ hZ
    have hx := hx _ (SqL.of ga10)
    obtain ⟨t, x0, y0, rfl, ht, hxw, hyh⟩ := hx8 x (List.mem_of_getElem? hx)
    have ht := s810 _ _ ht
    have step := hZ [some (.ref t), some (.ref l)] _ H12 ⟨_, rfl, (show (List.replicate k true).map V.bl ++ [V.bl true] = (List.replicate (k + 1) true).map V.bl by rw [List.replicate_succ', List.map_append]; rfl), rfl, hk⟩
    refine ⟨_, rfl, t, _, 0, _, rfl, rfl, SqT.of ht, rfl, _, _, rfl, rfl, _, rfl, iteD (fun _ => ?_) (fun z => absurd (by omega) z)⟩
    refine ⟨_, rfl, l, _, 0, _, rfl, rfl, SqL.of RA10.lst, i1, p1, _, rfl, .inl (SqL.of g1), _, _, rfl, rfl, _, rfl, iteD (fun _ => ?_) (fun z => absurd (by rw [List.length_map, hw0]; omega) z)⟩
    refine ⟨_, rfl, t, _, 1, _, rfl, rfl, SqT.of ht, rfl, _, _, rfl, rfl, _, rfl, iteD (fun _ => ?_) (fun z => absurd (by omega) z)⟩
    refine ⟨_, rfl, l, _, rfl, .inl (SqL.of RA10.lst), _, _, rfl, rfl, ?_⟩
    have e : (y0 : Int) < ((ps.map V.ref).length : Int) := by rw [List.length_map, RA10.len, hR]; omega
    show Z _ (_ ++ [V.bl (decide ((y0 : Int) < ((ps.map V.ref).length : Int)))]) _
    rw [decide_eq_true e]
    exact step
  · rintro σ zs H11 ⟨v, rfl, rfl, rfl, _⟩ lz nz
    refine ⟨lz, List.replicate xs.length true, rfl, SqL.of upd_same, ?_⟩
    have e : (List.replicate xs.length true).all id = true := by simp
    rw [e]
    have s11 := s810.trans (Same.new (o := .lst ((List.replicate xs.length true).map V.bl)) nz)
    exact q _ (s08.trans s11.toT) (T8.keep s11)
theorem sc_law : FnScope ["_law_script", "_law_swaps_here", "_law_by", "_law_sides_here", "_law_rows_here", "_law_handed", "_law_swap", "_law_links_here", "_law_some", "_law_chain", "_law_dues", "_law_pic"] ["_law_script"] (defScope s_law) := ⟨rfl, rfl, rfl, by decide +kernel, rfl, by decide +kernel, by decide +kernel⟩
theorem ok_law {f : Addr} {fd : FuncData} (D : Df K mg "law" s_law ["_law_script"] f fd)
    (O_byswaps : Ow P w K mg base "by_swaps" ["swaps"] 1 (spBySwaps tb n_byswaps_swapped))
    (O_bysteps : Ow P w K mg base "by_steps" ["by"] 1 (spBySteps tb n_bysteps_stepped "by"))
    (O_chained : Ow P w K mg base "chained" ["changes"] 1 (spChained tb n_chained_changed))
    (O_mapped : Ow P w K mg base "mapped" ["pic", "change"] 4 (spMapped (spAny n_byswaps_swapped n_bysteps_stepped n_lawown_lawchange n_chained_changed n_lawheard_lawchange n_lawruled_lawrule)))
    (O_lawgreat : Ow P w K mg base "_law_great" ["_law_script", "_law_k", "_law_many"] 1 (spDraw K))
    (O_lawalike : Ow P w K mg base "_law_alike" ["_law_found", "_law_due"] 3 (spAlike 3))
    (O_lawsides : Ow P w K mg base "_law_sides" ["_law_script", "_law_k"] 2 (spSides K))
    (O_lawrows : Ow P w K mg base "_law_rows" ["_law_script", "_law_k", "_law_wide", "_law_high"] 2 (spRows K))
    (O_lawpacked : Ow P w K mg base "_law_packed" ["_law_rows_here"] 1 spPacked)
    (O_lawswaps : Ow P w K mg base "_law_swaps" ["_law_script", "_law_k"] 2 (spSwaps K))
    (O_lawswapped : Ow P w K mg base "_law_swapped" ["_law_swaps_here", "_law_colour"] 1 spSwapped)
    (O_lawown : Ow P w K mg base "_law_own" ["_law_by"] 1 (spBySteps tb n_lawown_lawchange "_law_by"))
    (O_lawlinks : Ow P w K mg base "_law_links" ["_law_script", "_law_swaps_here", "_law_by"] 2 (spLinks K tb n_byswaps_swapped n_bysteps_stepped n_lawown_lawchange))
    (O_lawtells : Ow P w K mg base "_law_tells" ["_law_change_here", "_law_dues"] 4 (spTells n_byswaps_swapped n_bysteps_stepped n_lawown_lawchange n_chained_changed))
    (O_lawmapped : Ow P w K mg base "_law_mapped" ["_law_rows_here", "_law_dues"] 2 spLMapped)
    (O_lawheard : Ow P w K mg base "_law_heard" ["_law_rows_here", "_law_by"] 5 (spHeard tb))
    (O_lawruled : Ow P w K mg base "_law_ruled" ["_law_rows_here"] 5 (spLRuled tb)) (B : Blt mg) :
    FnOk P w K mg base CX0 6 f fd ["_law_script"] (spLawM K tb) := by
  refine D.F.ok sc_law (fun vs H Q E h => ?_) (fun cdv A outer s H vs Q E hr h => ?_)
  · obtain ⟨a, ns, rfl, _⟩ := h
    rfl
  obtain ⟨a, ns, rfl, hS, hl, TB, q⟩ := h
  refine ⟨_, (pss_cons (ps_set (i := 1) sc_law.nd rfl (Or.inr rfl) (pe_own O_lawswaps hr rfl (pa_cons (pv 0) (pa_cons pe_int pa_nil))))
    (pss_cons (ps_set (i := 2) sc_law.nd rfl (Or.inr rfl) (pe_op op_add (pe_op op_sub (pe_own O_lawgreat hr rfl (pa_cons (pv 0) (pa_cons pe_int (pa_cons (pe_op op_sub (pe_op op_mul pe_int (pe_op op_pow pe_int pe_int)) pe_int) pa_nil)))) (pe_op op_pow pe_int pe_int)) pe_int))
    (pss_cons (ps_set (i := 3) sc_law.nd rfl (Or.inl rfl) (pe_own O_lawsides hr rfl (pa_cons (pv 0) (pa_cons pe_int pa_nil))))
    (pss_cons (ps_set (i := 4) sc_law.nd rfl (Or.inl rfl) (pe_own O_lawrows hr rfl (pa_cons (pv 0) (pa_cons pe_int (pa_cons (pe_ix ix_tup (pv 3) pe_int (fun _ _ => rfl)) (pa_cons (pe_ix ix_tup (pv 3) pe_int (fun _ _ => rfl)) pa_nil))))))
    (pss_cons (ps_set (i := 5) sc_law.nd rfl (Or.inl rfl) (pe_callTy call_dictC rfl B.f_dict boot_dict (pa_cons (pv 1) pa_nil)))
    (pss_cons (ps_set (i := 6) sc_law.nd rfl (Or.inl rfl) (pe_own O_byswaps hr rfl (pa_cons (pv 5) pa_nil)))
    (pss_cons (ps_set (i := 7) sc_law.nd rfl (Or.inl rfl) (pe_own O_lawlinks hr rfl (pa_cons (pv 0) (pa_cons (pv 1) (pa_cons (pe_op op_fdiv (pv 2) pe_int) pa_nil)))))
    (pss_cons (ps_set (i := 8) sc_law.nd rfl (Or.inl rfl) (pe_callTy call_list_of rfl B.f_list boot_list (pa_cons (pe_ix ix_tup (pv 7) pe_int (fun _ _ => rfl)) pa_nil)))
    (pss_cons (ps_set (i := 9) sc_law.nd rfl (Or.inl rfl) (pe_own O_chained hr rfl (pa_cons (pv 8) pa_nil)))
    (pss_cons (ps_if (PW.pt (pw_or (pt_cmpR (op_neD (hu_of hr)) (pv 5) (pv 1) (nomark _)) (pw_or1 (pt_cmpR (op_neF (hu_of hr)) (pv 8) (pe_ix ix_tup (pv 7) pe_int (fun _ _ => rfl)) (nomark _))))) (pss_one (ps_ret pe_bl)) pss_nil)
    (pss_cons (ps_expr (pe_bm0 PySem.F.plainAttrs_dict PySem.F.slot_dict_clear PySem.F.type_dict_clear mt_dclear (pv 5)))
    (pss_cons (ps_expr (pe_bm PySem.F.plainAttrs_list PySem.F.slot_list_append PySem.F.type_list_append mt_append (pv 8) (pa_cons (pe_own O_lawown hr rfl (pa_cons pe_int pa_nil)) pa_nil)))
    (pss_cons (ps_comp (i := 10) (locs := ["_law_colour"]) (ix := [1]) rfl sc_law.nd rfl rfl (BlkSc.look (dsc := defScope s_law) (N := ["_law_script", "_law_swaps_here", "_law_by", "_law_sides_here", "_law_rows_here", "_law_handed", "_law_swap", "_law_links_here", "_law_some", "_law_chain", "_law_dues", "_law_pic"]) rfl rfl (by decide +kernel)) (pi_range1 rfl B.f_range (pa_cons pe_int pa_nil)) (fun _ _ _ _ _ _ => (pg_name (i := 0) (by decide +kernel : (["_law_colour", "_law_swaps_here"] : List Str).Nodup) rfl (Or.inl rfl))) (fun _ _ _ _ _ _ => pts_nil) (fun _ _ _ _ _ _ => (pe_own O_lawswapped hr rfl (pa_cons (pv 1) (pa_cons (pv 0) pa_nil)))) rfl)
    (pss_cons (ps_if (PW.pt (pw_or (pt_not (pt_val (pe_own O_lawtells hr rfl (pa_cons (pv 6) (pa_cons (pv 10) pa_nil))))) (pw_or1 (pt_not (pt_val (pe_own O_lawtells hr rfl (pa_cons (pv 9) (pa_cons (pe_ix ix_tup (pv 7) pe_int (fun _ _ => rfl)) pa_nil)))))))) (pss_one (ps_ret pe_bl)) pss_nil)
    (pss_cons (ps_if (pt_not (pt_val (pe_own O_lawtells hr rfl (pa_cons (pe_own O_bysteps hr rfl (pa_cons (pv 2) pa_nil)) (pa_cons (pe_comp (locs := ["_law_colour"]) (ix := [2]) rfl (BlkSc.look (dsc := defScope s_law) (N := ["_law_script", "_law_swaps_here", "_law_by", "_law_sides_here", "_law_rows_here", "_law_handed", "_law_swap", "_law_links_here", "_law_some", "_law_chain", "_law_dues", "_law_pic"]) rfl rfl (by decide +kernel)) (pi_range1 rfl B.f_range (pa_cons pe_int pa_nil)) (fun _ _ _ _ _ _ => (pg_name (i := 0) (by decide +kernel : (["_law_colour", "_law_by"] : List Str).Nodup) rfl (Or.inl rfl))) (fun _ _ _ _ _ _ => pts_nil) (fun _ _ _ _ _ _ => (pe_op op_mod (pe_op op_add (pv 0) (pv 1)) pe_int))) pa_nil))))) (pss_one (ps_ret pe_bl)) pss_nil)
    (pss_cons (ps_set (i := 11) sc_law.nd rfl (Or.inl rfl) (pe_own O_lawpacked hr rfl (pa_cons (pv 4) pa_nil)))
    (pss_cons (ps_if (pt_not (pt_val (pe_own O_lawalike hr rfl (pa_cons (pe_own O_mapped hr rfl (pa_cons (pv 11) (pa_cons (pv 6) pa_nil))) (pa_cons (pe_own O_lawmapped hr rfl (pa_cons (pv 4) (pa_cons (pv 10) pa_nil))) pa_nil))))) (pss_one (ps_ret pe_bl)) pss_nil)
    (pss_cons (ps_if (pt_not (pt_val (pe_own O_lawalike hr rfl (pa_cons (pe_own O_mapped hr rfl (pa_cons (pv 11) (pa_cons (pv 9) pa_nil))) (pa_cons (pe_own O_lawmapped hr rfl (pa_cons (pv 4) (pa_cons (pe_ix ix_tup (pv 7) pe_int (fun _ _ => rfl)) pa_nil))) pa_nil))))) (pss_one (ps_ret pe_bl)) pss_nil)
    (pss_one (ps_ret (pe_and (pe_own O_lawheard hr rfl (pa_cons (pv 4) (pa_cons (pv 2) pa_nil))) (pe_and (pe_own O_lawruled hr rfl (pa_cons (pv 4) pa_nil)) (pe_one (pe_own O_lawtells hr rfl (pa_cons (pv 6) (pa_cons (pv 10) pa_nil)))))))))))))))))))))))))), ?_⟩
  walk_at "rs"
  refine ⟨a, ns, 0, rfl, hS, by decide, by decide, fun d kvs H1 s1 nd hd SW => ?_⟩
  have hS1 := s1.seq hS
  have T1 := TB.keep s1
  walk_at "rs"
  refine ⟨a, ns, 50, _, rfl, hS1, by decide, by decide, by decide, fun r0 a0 a1 => ?_⟩
  walk_at "rs"
  generalize r0 - 10 ^ Int.toNat 60 = r1
  refine ⟨a, ns, 200, rfl, hS1, by decide, by decide, fun wd hg p w1 w2 h1 h2 np => ?_⟩
  have s2 : Same H1 (upd H1 p (.tup [.int wd, .int hg])) := Same.new np
  have gp : (upd H1 p (.tup [.int wd, .int hg])) p = some (.tup [.int wd, .int hg]) := upd_same
  generalize upd H1 p (.tup [.int wd, .int hg]) = H2 at s2 gp
  refine ⟨_, rfl, _, rfl, p, _, 0, _, rfl, rfl, SqT.of gp, rfl, _, rfl, p, _, 1, _, rfl, rfl, SqT.of gp, rfl, ?_⟩
  refine ⟨a, ns, 203, wd, hg, rfl, s2.seq hS1, by decide, by decide, w1, w2, h1, h2, fun l ps rows H3 s3 nl nps RA R => ?_⟩
  have s13 := s2.trans s3
  have hd3 := s13 _ _ hd
  have T3 := T1.keep s13
  refine ⟨_, rfl, d, kvs, rfl, hd3, fun dh ndh => ?_⟩
  have s4 : Same H3 (upd H3 dh (.dK kvs)) := Same.new ndh
  have gh4 : (upd H3 dh (.dK kvs)) dh = some (.dK kvs) := upd_same
  have ddh : d ≠ dh := ne_of_none hd3 ndh
  generalize upd H3 dh (.dK kvs) = H4 at s4 gh4
  have T4 := T3.keep s4
  refine ⟨_, rfl, dh, kvs, rfl, gh4, T4, fun f d2 H5 s5 T5 C n2 nf g2 => ?_⟩
  have d2h : d2 ≠ dh := Ne.symm (ne_of_none gh4 n2)
  have gh5 := s5.dk T4 gh4
  have hd5 := s5.dk T4 (s4 _ _ hd3)
  have RA5 := s5.rows T4 (RA.mono s4)
  have hS5 := s5.seq T4 (s4.seq (s13.seq hS1))
  walk_at "rs"
  refine ⟨a, d, ns, kvs, _, rfl, hS5, hd5, SW, T5, fun t lc ld fs gs H6 s6 T6 ht nlc hlc hld hfg h8 hch => ?_⟩
  refine ⟨_, rfl, t, _, 0, _, rfl, rfl, SqT.of ht, rfl, lc, _, rfl, .inl (SqL.of hlc), fun ls nls => ?_⟩
  have s7 : Same H6 (upd H6 ls (.lst (fs.map V.ref))) := Same.new nls
  have gs7 : (upd H6 ls (.lst (fs.map V.ref))) ls = some (.lst (fs.map V.ref)) := upd_same
  generalize upd H6 ls (.lst (fs.map V.ref)) = H7 at s7 gs7
  have T7 := T6.keep s7
  refine ⟨_, rfl, ls, fs, rfl, gs7, T7, fun fc l2 H8 s8 T8 CC nl2 nfc g8 => ?_⟩
  have l2s : l2 ≠ ls := Ne.symm (ne_of_none gs7 nl2)
  have s58 := (s6.trans s7.toT).trans s8
  have s68 := s7.toT.trans s8
  have gh8 := s58.dk T5 gh5
  have hd8 := s58.dk T5 hd5
  have RA8 := s58.rows T5 RA5
  have hlc8 := s68.lst T6 hlc
  have hld8 := s68.lst T6 hld
  have ht8 := s68.tup T6 ht
  have gs8 := s8.lst T7 gs7
  have hch8 : ∀ (i : Nat) f' g', fs[i]? = some f' → gs[i]? = some g' → Ch1F _ _ _ H5 H8 f' g' := fun i f' g' x y => (hch i f' g' x y).kd (s68.kd T6)
  have C8 := C.kp (s58.kp T5)
  have g28 := s58.dk T5 g2
  have cells : ∀ p ∈ kvs, p.2 = .non ∨ ∃ i, p.2 = .int i := fun p hp => by
    obtain ⟨x, _, e⟩ := SW.cell p hp
    cases x with
    | none => exact .inl e
    | some i => exact .inr ⟨i, e⟩
  refine ⟨_, rfl, _, rfl, dh, d, kvs, rfl, rfl, gh8, hd8, cells, _, rfl, iteF ?_⟩
  refine ⟨_, rfl, _, rfl, t, _, 0, _, rfl, rfl, SqT.of ht8, rfl, ?_⟩
  refine ⟨ls, lc, fs, rfl, rfl, SqL.of gs8, SqL.of hlc8, _, rfl, iteF ?_⟩
  refine ⟨_, rfl, .inr (.inr (.inl ⟨rfl, .inl ⟨kvs, gh8⟩⟩)), dh, kvs, rfl, rfl, gh8, ?_⟩
  have keep9 : ∀ b o, b ≠ dh → H8 b = some o → (upd H8 dh (.dK [])) b = some o := fun b o n e => (upd_ne n).trans e
  have kl9 : ∀ {b : Addr} {xs : List V}, H8 b = some (.lst xs) → (upd H8 dh (.dK [])) b = some (.lst xs) := fun e => keep9 _ _ (ne_of e gh8 fun z => nomatch z) e
  have T9 := T8.putD gh8 (o := .dK [])
  have kp9 := Kp.putD gh8 (o := .dK [])
  have hd9 := keep9 _ _ ddh hd8
  have g29 := keep9 _ _ d2h g28
  have ht9 := keep9 _ _ (ne_of ht8 gh8 fun z => nomatch z) ht8
  have gs9 := kl9 gs8
  have hlc9 := kl9 hlc8
  have hld9 := kl9 hld8
  have g9 := kl9 g8
  have RA9 : RowsAt (upd H8 dh (.dK [])) l ps rows := ⟨kl9 RA8.lst, RA8.len, fun i p r x y => kl9 (RA8.row i p r x y)⟩
  have hch9 : ∀ (i : Nat) f' g', fs[i]? = some f' → gs[i]? = some g' → Ch1 _ _ _ (upd H8 dh (.dK [])) f' g' := fun i f' g' x y => (hch8 i f' g' x y).clear gh5 kp9 fun b k n e => keep9 _ _ n e
  have C9 := C8.kp kp9
  have CC9 := CC.kp kp9
  generalize upd H8 dh (.dK []) = H9 at keep9 kl9 T9 kp9 hd9 g29 ht9 gs9 hlc9 hld9 g9 RA9 hch9 C9 CC9
  refine ⟨_, rfl, .inl ⟨rfl, _, SqL.of gs9⟩, 3, rfl, T9, fun fo H10 s10 T10 nfo Co => ?_⟩
  have gs10 := s10.lst T9 gs9
  refine ⟨ls, _, _, rfl, rfl, gs10, small1000 (by rw [List.length_map]; omega), ?_⟩
  have RA6 := s6.rows T5 RA5
  obtain ⟨nls1, nls2⟩ := RA6.ne nls
  have kd10 := s10.kd T9
  have kd11 := kd10.trans (Kd.putL gs10 (o := .lst (fs.map V.ref ++ [.ref fo])))
  have T11 := T10.put gs10 (o := .lst (fs.map V.ref ++ [.ref fo]))
  have hd11 := kd11.2 _ _ hd9
  have g211 := kd11.2 _ _ g29
  have RA11 := (s10.rows T9 RA9).put (o := .lst (fs.map V.ref ++ [.ref fo])) nls1 nls2
  have hld11 := (upd_ne (o := .lst (fs.map V.ref ++ [.ref fo])) (ne_of_none hld nls)).trans (s10.lst T9 hld9)
  have ht11 := (upd_ne (o := .lst (fs.map V.ref ++ [.ref fo])) (ne_of_none ht nls)).trans (s10.tup T9 ht9)
  have g11 := (upd_ne (o := .lst (fs.map V.ref ++ [.ref fo])) l2s).trans (s10.lst T9 g9)
  have c111 : Ch1 n_byswaps_swapped n_bysteps_stepped n_lawown_lawchange (upd H10 ls (.lst (fs.map V.ref ++ [.ref fo]))) f (swapG kvs) := ⟨fun c c0 c1 => swapG_cell SW.cell c0 c1, .inl ⟨d2, kvs, C9.kp kd11.1, g211, swapG_is SW.cell⟩⟩
  have cn11 : ChN n_byswaps_swapped n_bysteps_stepped n_lawown_lawchange n_chained_changed (upd H10 ls (.lst (fs.map V.ref ++ [.ref fo]))) fc gs := ⟨l2, fs, CC9.kp kd11.1, g11, hfg, h8, fun i f' g' x y => (hch9 i f' g' x y).kd kd11⟩
  generalize upd H10 ls (.lst (fs.map V.ref ++ [.ref fo])) = H11 at T11 hd11 RA11 hld11 ht11 c111 cn11
  clear kd11 g211 g11 kd10 gs10 T10 s10 Co nfo RA9 hch9 C9 CC9 g9 hld9 hlc9 gs9 ht9 g29 hd9 kp9 T9 kl9 keep9 hch8 C8 g28
  refine ⟨_, rfl, (rngS (by decide) (by decide)).1, (rngS (by decide) (by decide)).2, ?_⟩
  refine comp_by (n := 16) (fun k σ zs H3 => ∃ v, σ = [v, some (.ref d)] ∧ zs = ((List.range k).map fun (c : Nat) => swapG kvs (c : Int)).map cellV ∧ H3 = H11 ∧ k ≤ 16) ⟨none, rfl, rfl, rfl, Nat.zero_le _⟩ (Nat.le_of_lt (small1000 (by omega))) ?_ ?_ ?_ ?_ ?_
  · rintro k σ zs H3 ⟨v, _, rfl, _, hk⟩
    rw [List.length_map, List.length_map, List.length_range]
  · rintro σ zs H3 _
    show ((16 : Int)).toNat ≤ 16
    decide
  · intro i σ zs H3 hi _
    show i < ((16 : Int)).toNat
    exact hi
  · rintro k σ zs H3 x H4 Z hk ⟨v, rfl, e, rfl, _⟩ ⟨rfl, rfl⟩ hZ
    have e0 : (0 : Int) + (k : Int) = (k : Nat) := by omega
    rw [e0]
    refine ⟨_, rfl, _, rfl, d, kvs, some (k : Int), rfl, hd11, ?_⟩
    rw [swapV_is SW.cell]
    exact hZ _ _ _ ⟨_, rfl, rng_snoc (h := fun (c : Nat) => swapG kvs (c : Int)) e, rfl, hk⟩
  rintro σ zs H3 ⟨v, rfl, e, rfl, _⟩ lu nlu
  have hz : zs = dueL (swapG kvs) := e
  subst hz
  have s12 : Same H3 (upd H3 lu (.lst (dueL (swapG kvs)))) := Same.new nlu
  have B12 : LawBag n_byswaps_swapped n_bysteps_stepped n_lawown_lawchange n_chained_changed (upd H3 lu (.lst (dueL (swapG kvs)))) l ps rows d ld lu t lc f fc kvs gs :=
    ⟨RA11.mono s12, s12 _ _ hd11, s12 _ _ hld11, upd_same, s12 _ _ ht11, c111.kd s12.kd, cn11.kd s12.kd fun _ _ e => s12 _ _ e⟩
  have T12 := T11.keep s12
  generalize upd H3 lu (.lst (dueL (swapG kvs))) = H12 at B12 T12
  clear s12 cn11 c111 ht11 hld11 hd11 RA11 T11
  refine ⟨_, rfl, _, rfl, f, lu, swapG kvs, rfl, .inl B12.c1, B12.hlu, fun H13 s13 => ⟨_, rfl, iteF ?_⟩⟩
  have B13 := B12.mono s13
  refine ⟨_, rfl, _, rfl, t, _, 1, _, rfl, rfl, SqT.of B13.ht, rfl, fc, ld, chainG gs, rfl, .inr ⟨gs, B13.cn, rfl⟩, B13.hld, fun H14 s14 => ⟨_, rfl, iteF ?_⟩⟩
  have B14 := B13.mono s14
  have T14 := T12.keep (s13.trans s14)
  refine ⟨_, rfl, r1 + 1, rfl, T14, fun f2 H15 s15 T15 nf2 C2 => ?_⟩
  have B15 := B14.sameT T14 s15
  refine ⟨_, rfl, (rngS (by decide) (by decide)).1, (rngS (by decide) (by decide)).2, ?_⟩
  refine comp_by (n := 16) (fun k σ zs H3 => ∃ v, σ = [v, some (.int (r1 + 1))] ∧ zs = ((List.range k).map fun (c : Nat) => some (((c : Int) + (r1 + 1)) % 16)).map cellV ∧ H3 = H15 ∧ k ≤ 16) ⟨none, rfl, rfl, rfl, Nat.zero_le _⟩ (Nat.le_of_lt (small1000 (by omega))) ?_ ?_ ?_ ?_ ?_
  · rintro k σ zs H3 ⟨v, _, rfl, _, hk⟩
    rw [List.length_map, List.length_map, List.length_range]
  · rintro σ zs H3 _
    show ((16 : Int)).toNat ≤ 16
    decide
  · intro i σ zs H3 hi _
    show i < ((16 : Int)).toNat
    exact hi
  · rintro k σ zs H3 x H4 Z hk ⟨v, rfl, e, rfl, _⟩ ⟨rfl, rfl⟩ hZ
    have step := hZ [some (.int (0 + (k : Int))), some (.int (r1 + 1))] _ H4 ⟨_, rfl, rng_snoc (h := fun (c : Nat) => some (((c : Int) + (r1 + 1)) % 16)) e, rfl, hk⟩
    have e0 : (0 : Int) + (k : Int) = (k : Nat) := by omega
    rw [e0] at step ⊢
    walk_at "rs"
    exact step
  rintro σ zs H3 ⟨v, rfl, e, rfl, _⟩ l5 nl5
  have hz : zs = dueL (fun c => some ((c + (r1 + 1)) % 16)) := e
  subst hz
  have s16 : Same H3 (upd H3 l5 (.lst (dueL (fun c => some ((c + (r1 + 1)) % 16))))) := Same.new nl5
  have g16 : (upd H3 l5 (.lst (dueL (fun c => some ((c + (r1 + 1)) % 16))))) l5 = some (.lst (dueL (fun c => some ((c + (r1 + 1)) % 16)))) := upd_same
  generalize upd H3 l5 (.lst (dueL (fun c => some ((c + (r1 + 1)) % 16)))) = H16 at s16 g16
  refine ⟨f2, l5, _, rfl, .inl ⟨fun c c0 c1 z e => by cases e; omega, .inr (.inl ⟨_, C2.kp s16.kp, fun c => rfl⟩)⟩, g16, fun H17 s17 => ⟨_, rfl, iteF ?_⟩⟩
  have B17 := (B15.mono s16).mono s17
  have T17 := T15.keep (s16.trans s17)
  clear B15 B14 B13 B12
  refine ⟨_, rfl, l, ps, rows, _, _, rfl, B17.ra, R, fun p1 H18 s18 PC => ?_⟩
  have B18 := B17.mono s18
  obtain ⟨o1, eo1⟩ := FunC.obj B18.c1.func
  refine ⟨_, rfl, _, rfl, p1, f, f, _, _, rows, _, swapG kvs, rfl, PC, R, jok_c1 (o := o1) B18.c1.1, ⟨B18.c1, eo1⟩, fun q1 n1 H19 sp j19 hn19 PQ => ?_⟩
  have s19 := samep_back sp eo1 j19.2
  have B19 := B18.mono s19
  have PC19 := PC.mono s19
  refine ⟨_, rfl, _, rfl, l, lu, ps, rows, _, _, swapG kvs, rfl, B19.ra, R, B19.hlu, B18.c1.1, fun p2 H20 s20 PM => ?_⟩
  refine ⟨_, _, rfl, PicAt.alk (by rw [List.length_map, R.len]; exact R.h2) (PQ.mono s20) PM, fun H21 s21 => ⟨_, rfl, iteF ?_⟩⟩
  have B21 := (B19.mono s20).mono s21
  have PC21 := (PC19.mono s20).mono s21
  obtain ⟨o2, eo2⟩ := FunC.obj B21.cn.func
  have ccell : ∀ c, 0 ≤ c → c ≤ 15 → Cell (chainG gs c) := fun c c0 c1 => chain_cell (fun g hg => by
    obtain ⟨j, hj, ej⟩ := List.mem_iff_getElem.mp hg
    exact (hch j (fs[j]'(by omega)) g (List.getElem?_eq_getElem _) (by rw [List.getElem?_eq_getElem hj, ej])).1) c0 c1
  refine ⟨_, rfl, _, rfl, p1, fc, fc, _, _, rows, _, chainG gs, rfl, PC21, R, jok_cn (o := o2) ccell, ⟨B21.cn, eo2⟩, fun q2 n2 H22 sp2 j22 hn22 PQ2 => ?_⟩
  have s22 := samep_back sp2 eo2 j22.2
  have B22 := B21.mono s22
  refine ⟨_, rfl, _, rfl, t, _, 1, _, rfl, rfl, SqT.of B22.ht, rfl, l, ld, ps, rows, _, _, chainG gs, rfl, B22.ra, R, B22.hld, ccell, fun p3 H23 s23 PM2 => ?_⟩
  refine ⟨_, _, rfl, PicAt.alk (by rw [List.length_map, R.len]; exact R.h2) (PQ2.mono s23) PM2, fun H24 s24 => ⟨_, rfl, iteF ?_⟩⟩
  have B24 := (B22.mono s23).mono s24
  have T24 := T17.keep ((((((s18.trans s19).trans s20).trans s21).trans s22).trans s23).trans s24)
  refine ⟨_, rfl, _, rfl, l, ps, rows, _, _, _, rfl, B24.ra, R, T24, fun H25 s25 T25 => ⟨_, rfl, iteT ?_⟩⟩
  have B25 := B24.sameT T24 s25
  refine ⟨_, rfl, l, ps, rows, _, _, rfl, B25.ra, R, T25, fun H26 s26 T26 => ⟨_, rfl, iteT ?_⟩⟩
  have B26 := B25.sameT T25 s26
  exact ⟨_, rfl, _, rfl, f, lu, swapG kvs, rfl, .inl B26.c1, B26.hlu, fun H27 s27 => q H27⟩


end
theorem all_mk {l : PySem.W.OpenLaw} {w : World} {K : PySem.W.Frag} {h : Heap} {mg : Str → Option Value} {fa f1 f2 f3 f4 f5 f6 f7 f8 f9 f10 f11 f12 f13 f14 f15 f16 f17 f18 f19 f20 f21 f22 f23 f24 f25 f26 f27 f28 : Addr} {q : Program} (hrec : (∃ dd, (recsOf q).find? (fun e => e.name == ("by_swaps" : Str)) = some dd) ∧ (∃ dd, (recsOf q).find? (fun e => e.name == ("by_steps" : Str)) = some dd) ∧ (∃ dd, (recsOf q).find? (fun e => e.name == ("chained" : Str)) = some dd) ∧ (∃ dd, (recsOf q).find? (fun e => e.name == ("_law_own" : Str)) = some dd) ∧ (∃ dd, (recsOf q).find? (fun e => e.name == ("_law_heard" : Str)) = some dd) ∧ (∃ dd, (recsOf q).find? (fun e => e.name == ("_law_ruled" : Str)) = some dd)) (X : K.In h) (G : h.Ns mainGlobals mg) (hfa : mg "law" = some (.ref fa))
    {od1 an1 : Option Addr} {sl1 : Array (Option Value)} {oc1 kV1 dc1 pm1 cd1 ct1 : Value}
    {od2 an2 : Option Addr} {sl2 : Array (Option Value)} {oc2 kV2 dc2 pm2 cd2 ct2 : Value}
    {od3 an3 : Option Addr} {sl3 : Array (Option Value)} {oc3 kV3 dc3 pm3 cd3 ct3 : Value}
    {od4 an4 : Option Addr} {sl4 : Array (Option Value)} {oc4 kV4 dc4 pm4 cd4 ct4 : Value}
    {od5 an5 : Option Addr} {sl5 : Array (Option Value)} {oc5 kV5 dc5 pm5 cd5 ct5 : Value}
    {od6 an6 : Option Addr} {sl6 : Array (Option Value)} {oc6 kV6 dc6 pm6 cd6 ct6 : Value}
    {od7 an7 : Option Addr} {sl7 : Array (Option Value)} {oc7 kV7 dc7 pm7 cd7 ct7 : Value}
    {od8 an8 : Option Addr} {sl8 : Array (Option Value)} {oc8 kV8 dc8 pm8 cd8 ct8 : Value}
    {od9 an9 : Option Addr} {sl9 : Array (Option Value)} {oc9 kV9 dc9 pm9 cd9 ct9 : Value}
    {od10 an10 : Option Addr} {sl10 : Array (Option Value)} {oc10 kV10 dc10 pm10 cd10 ct10 : Value}
    {od11 an11 : Option Addr} {sl11 : Array (Option Value)} {oc11 kV11 dc11 pm11 cd11 ct11 : Value}
    {od12 an12 : Option Addr} {sl12 : Array (Option Value)} {oc12 kV12 dc12 pm12 cd12 ct12 : Value}
    {od13 an13 : Option Addr} {sl13 : Array (Option Value)} {oc13 kV13 dc13 pm13 cd13 ct13 : Value}
    {od14 an14 : Option Addr} {sl14 : Array (Option Value)} {oc14 kV14 dc14 pm14 cd14 ct14 : Value}
    {od15 an15 : Option Addr} {sl15 : Array (Option Value)} {oc15 kV15 dc15 pm15 cd15 ct15 : Value}
    {od16 an16 : Option Addr} {sl16 : Array (Option Value)} {oc16 kV16 dc16 pm16 cd16 ct16 : Value}
    {od17 an17 : Option Addr} {sl17 : Array (Option Value)} {oc17 kV17 dc17 pm17 cd17 ct17 : Value}
    {od18 an18 : Option Addr} {sl18 : Array (Option Value)} {oc18 kV18 dc18 pm18 cd18 ct18 : Value}
    {od19 an19 : Option Addr} {sl19 : Array (Option Value)} {oc19 kV19 dc19 pm19 cd19 ct19 : Value}
    {od20 an20 : Option Addr} {sl20 : Array (Option Value)} {oc20 kV20 dc20 pm20 cd20 ct20 : Value}
    {od21 an21 : Option Addr} {sl21 : Array (Option Value)} {oc21 kV21 dc21 pm21 cd21 ct21 : Value}
    {od22 an22 : Option Addr} {sl22 : Array (Option Value)} {oc22 kV22 dc22 pm22 cd22 ct22 : Value}
    {od23 an23 : Option Addr} {sl23 : Array (Option Value)} {oc23 kV23 dc23 pm23 cd23 ct23 : Value}
    {od24 an24 : Option Addr} {sl24 : Array (Option Value)} {oc24 kV24 dc24 pm24 cd24 ct24 : Value}
    {od25 an25 : Option Addr} {sl25 : Array (Option Value)} {oc25 kV25 dc25 pm25 cd25 ct25 : Value}
    {od26 an26 : Option Addr} {sl26 : Array (Option Value)} {oc26 kV26 dc26 pm26 cd26 ct26 : Value}
    {od27 an27 : Option Addr} {sl27 : Array (Option Value)} {oc27 kV27 dc27 pm27 cd27 ct27 : Value}
    {od28 an28 : Option Addr} {sl28 : Array (Option Value)} {oc28 kV28 dc28 pm28 cd28 ct28 : Value}
    {tc7 tp7 : Addr} {octt7 : Value} {odtt7 : Option Addr} {vstt7 : Array Value} {sltt7 : Array (Option Value)}
    {tc8 tp8 : Addr} {octt8 : Value} {odtt8 : Option Addr} {vstt8 : Array Value} {sltt8 : Array (Option Value)}
    {tc9 tp9 : Addr} {octt9 : Value} {odtt9 : Option Addr} {vstt9 : Array Value} {sltt9 : Array (Option Value)}
    {tc22 tp22 : Addr} {octt22 : Value} {odtt22 : Option Addr} {vstt22 : Array Value} {sltt22 : Array (Option Value)}
    {tc26 tp26 : Addr} {octt26 : Value} {odtt26 : Option Addr} {vstt26 : Array Value} {sltt26 : Array (Option Value)}
    {tc27 tp27 : Addr} {octt27 : Value} {odtt27 : Option Addr} {vstt27 : Array Value} {sltt27 : Array (Option Value)}
    (a1 : PySem.W.nsIn K mainGlobals "paint_of" = some (some (.ref f1))) (l1 : K.lookup f1 = some ⟨oc1, od1, .func (PySem.W.fnOf "paint_of" "paint_of" (defArgs s_paintof) (defBody s_paintof) (defScope s_paintof) .none kV1 dc1 pm1 an1 cd1 ct1), sl1⟩) (c1 : PySem.W.codeIn K cd1 "paint_of" = true) (k1 : PySem.W.keepIn K (.ref f1) = true)
    (a2 : PySem.W.nsIn K mainGlobals "mask_of" = some (some (.ref f2))) (l2 : K.lookup f2 = some ⟨oc2, od2, .func (PySem.W.fnOf "mask_of" "mask_of" (defArgs s_maskof) (defBody s_maskof) (defScope s_maskof) .none kV2 dc2 pm2 an2 cd2 ct2), sl2⟩) (c2 : PySem.W.codeIn K cd2 "mask_of" = true) (k2 : PySem.W.keepIn K (.ref f2) = true)
    (a3 : PySem.W.nsIn K mainGlobals "packed" = some (some (.ref f3))) (l3 : K.lookup f3 = some ⟨oc3, od3, .func (PySem.W.fnOf "packed" "packed" (defArgs s_packed) (defBody s_packed) (defScope s_packed) .none kV3 dc3 pm3 an3 cd3 ct3), sl3⟩) (c3 : PySem.W.codeIn K cd3 "packed" = true) (k3 : PySem.W.keepIn K (.ref f3) = true)
    (a4 : PySem.W.nsIn K mainGlobals "cell_of" = some (some (.ref f4))) (l4 : K.lookup f4 = some ⟨oc4, od4, .func (PySem.W.fnOf "cell_of" "cell_of" (defArgs s_cellof) (defBody s_cellof) (defScope s_cellof) .none kV4 dc4 pm4 an4 cd4 ct4), sl4⟩) (c4 : PySem.W.codeIn K cd4 "cell_of" = true) (k4 : PySem.W.keepIn K (.ref f4) = true)
    (a5 : PySem.W.nsIn K mainGlobals "row_of" = some (some (.ref f5))) (l5 : K.lookup f5 = some ⟨oc5, od5, .func (PySem.W.fnOf "row_of" "row_of" (defArgs s_rowof) (defBody s_rowof) (defScope s_rowof) .none kV5 dc5 pm5 an5 cd5 ct5), sl5⟩) (c5 : PySem.W.codeIn K cd5 "row_of" = true) (k5 : PySem.W.keepIn K (.ref f5) = true)
    (a6 : PySem.W.nsIn K mainGlobals "rows_of" = some (some (.ref f6))) (l6 : K.lookup f6 = some ⟨oc6, od6, .func (PySem.W.fnOf "rows_of" "rows_of" (defArgs s_rowsof) (defBody s_rowsof) (defScope s_rowsof) .none kV6 dc6 pm6 an6 cd6 ct6), sl6⟩) (c6 : PySem.W.codeIn K cd6 "rows_of" = true) (k6 : PySem.W.keepIn K (.ref f6) = true)
    (a7 : PySem.W.nsIn K mainGlobals "by_swaps" = some (some (.ref f7))) (l7 : K.lookup f7 = some ⟨oc7, od7, .func (PySem.W.fnOf "by_swaps" "by_swaps" (defArgs s_byswaps) (defBody s_byswaps) (defScope s_byswaps) .none kV7 dc7 pm7 an7 cd7 ct7), sl7⟩) (c7 : PySem.W.codeIn K cd7 "by_swaps" = true) (k7 : PySem.W.keepIn K (.ref f7) = true)
    (a8 : PySem.W.nsIn K mainGlobals "by_steps" = some (some (.ref f8))) (l8 : K.lookup f8 = some ⟨oc8, od8, .func (PySem.W.fnOf "by_steps" "by_steps" (defArgs s_bysteps) (defBody s_bysteps) (defScope s_bysteps) .none kV8 dc8 pm8 an8 cd8 ct8), sl8⟩) (c8 : PySem.W.codeIn K cd8 "by_steps" = true) (k8 : PySem.W.keepIn K (.ref f8) = true)
    (a9 : PySem.W.nsIn K mainGlobals "chained" = some (some (.ref f9))) (l9 : K.lookup f9 = some ⟨oc9, od9, .func (PySem.W.fnOf "chained" "chained" (defArgs s_chained) (defBody s_chained) (defScope s_chained) .none kV9 dc9 pm9 an9 cd9 ct9), sl9⟩) (c9 : PySem.W.codeIn K cd9 "chained" = true) (k9 : PySem.W.keepIn K (.ref f9) = true)
    (a10 : PySem.W.nsIn K mainGlobals "mapped_row" = some (some (.ref f10))) (l10 : K.lookup f10 = some ⟨oc10, od10, .func (PySem.W.fnOf "mapped_row" "mapped_row" (defArgs s_mappedrow) (defBody s_mappedrow) (defScope s_mappedrow) .none kV10 dc10 pm10 an10 cd10 ct10), sl10⟩) (c10 : PySem.W.codeIn K cd10 "mapped_row" = true) (k10 : PySem.W.keepIn K (.ref f10) = true)
    (a11 : PySem.W.nsIn K mainGlobals "mapped" = some (some (.ref f11))) (l11 : K.lookup f11 = some ⟨oc11, od11, .func (PySem.W.fnOf "mapped" "mapped" (defArgs s_mapped) (defBody s_mapped) (defScope s_mapped) .none kV11 dc11 pm11 an11 cd11 ct11), sl11⟩) (c11 : PySem.W.codeIn K cd11 "mapped" = true) (k11 : PySem.W.keepIn K (.ref f11) = true)
    (a12 : PySem.W.nsIn K mainGlobals "ruled_row" = some (some (.ref f12))) (l12 : K.lookup f12 = some ⟨oc12, od12, .func (PySem.W.fnOf "ruled_row" "ruled_row" (defArgs s_ruledrow) (defBody s_ruledrow) (defScope s_ruledrow) .none kV12 dc12 pm12 an12 cd12 ct12), sl12⟩) (c12 : PySem.W.codeIn K cd12 "ruled_row" = true) (k12 : PySem.W.keepIn K (.ref f12) = true)
    (a13 : PySem.W.nsIn K mainGlobals "ruled" = some (some (.ref f13))) (l13 : K.lookup f13 = some ⟨oc13, od13, .func (PySem.W.fnOf "ruled" "ruled" (defArgs s_ruled) (defBody s_ruled) (defScope s_ruled) .none kV13 dc13 pm13 an13 cd13 ct13), sl13⟩) (c13 : PySem.W.codeIn K cd13 "ruled" = true) (k13 : PySem.W.keepIn K (.ref f13) = true)
    (a14 : PySem.W.nsIn K mainGlobals "_law_draw" = some (some (.ref f14))) (l14 : K.lookup f14 = some ⟨oc14, od14, .func (PySem.W.fnOf "_law_draw" "_law_draw" (defArgs s_lawdraw) (defBody s_lawdraw) (defScope s_lawdraw) .none kV14 dc14 pm14 an14 cd14 ct14), sl14⟩) (c14 : PySem.W.codeIn K cd14 "_law_draw" = true) (k14 : PySem.W.keepIn K (.ref f14) = true)
    (a15 : PySem.W.nsIn K mainGlobals "_law_great" = some (some (.ref f15))) (l15 : K.lookup f15 = some ⟨oc15, od15, .func (PySem.W.fnOf "_law_great" "_law_great" (defArgs s_lawgreat) (defBody s_lawgreat) (defScope s_lawgreat) .none kV15 dc15 pm15 an15 cd15 ct15), sl15⟩) (c15 : PySem.W.codeIn K cd15 "_law_great" = true) (k15 : PySem.W.keepIn K (.ref f15) = true)
    (a16 : PySem.W.nsIn K mainGlobals "_law_alike" = some (some (.ref f16))) (l16 : K.lookup f16 = some ⟨oc16, od16, .func (PySem.W.fnOf "_law_alike" "_law_alike" (defArgs s_lawalike) (defBody s_lawalike) (defScope s_lawalike) .none kV16 dc16 pm16 an16 cd16 ct16), sl16⟩) (c16 : PySem.W.codeIn K cd16 "_law_alike" = true) (k16 : PySem.W.keepIn K (.ref f16) = true)
    (a17 : PySem.W.nsIn K mainGlobals "_law_sides" = some (some (.ref f17))) (l17 : K.lookup f17 = some ⟨oc17, od17, .func (PySem.W.fnOf "_law_sides" "_law_sides" (defArgs s_lawsides) (defBody s_lawsides) (defScope s_lawsides) .none kV17 dc17 pm17 an17 cd17 ct17), sl17⟩) (c17 : PySem.W.codeIn K cd17 "_law_sides" = true) (k17 : PySem.W.keepIn K (.ref f17) = true)
    (a18 : PySem.W.nsIn K mainGlobals "_law_rows" = some (some (.ref f18))) (l18 : K.lookup f18 = some ⟨oc18, od18, .func (PySem.W.fnOf "_law_rows" "_law_rows" (defArgs s_lawrows) (defBody s_lawrows) (defScope s_lawrows) .none kV18 dc18 pm18 an18 cd18 ct18), sl18⟩) (c18 : PySem.W.codeIn K cd18 "_law_rows" = true) (k18 : PySem.W.keepIn K (.ref f18) = true)
    (a19 : PySem.W.nsIn K mainGlobals "_law_packed" = some (some (.ref f19))) (l19 : K.lookup f19 = some ⟨oc19, od19, .func (PySem.W.fnOf "_law_packed" "_law_packed" (defArgs s_lawpacked) (defBody s_lawpacked) (defScope s_lawpacked) .none kV19 dc19 pm19 an19 cd19 ct19), sl19⟩) (c19 : PySem.W.codeIn K cd19 "_law_packed" = true) (k19 : PySem.W.keepIn K (.ref f19) = true)
    (a20 : PySem.W.nsIn K mainGlobals "_law_swaps" = some (some (.ref f20))) (l20 : K.lookup f20 = some ⟨oc20, od20, .func (PySem.W.fnOf "_law_swaps" "_law_swaps" (defArgs s_lawswaps) (defBody s_lawswaps) (defScope s_lawswaps) .none kV20 dc20 pm20 an20 cd20 ct20), sl20⟩) (c20 : PySem.W.codeIn K cd20 "_law_swaps" = true) (k20 : PySem.W.keepIn K (.ref f20) = true)
    (a21 : PySem.W.nsIn K mainGlobals "_law_swapped" = some (some (.ref f21))) (l21 : K.lookup f21 = some ⟨oc21, od21, .func (PySem.W.fnOf "_law_swapped" "_law_swapped" (defArgs s_lawswapped) (defBody s_lawswapped) (defScope s_lawswapped) .none kV21 dc21 pm21 an21 cd21 ct21), sl21⟩) (c21 : PySem.W.codeIn K cd21 "_law_swapped" = true) (k21 : PySem.W.keepIn K (.ref f21) = true)
    (a22 : PySem.W.nsIn K mainGlobals "_law_own" = some (some (.ref f22))) (l22 : K.lookup f22 = some ⟨oc22, od22, .func (PySem.W.fnOf "_law_own" "_law_own" (defArgs s_lawown) (defBody s_lawown) (defScope s_lawown) .none kV22 dc22 pm22 an22 cd22 ct22), sl22⟩) (c22 : PySem.W.codeIn K cd22 "_law_own" = true) (k22 : PySem.W.keepIn K (.ref f22) = true)
    (a23 : PySem.W.nsIn K mainGlobals "_law_links" = some (some (.ref f23))) (l23 : K.lookup f23 = some ⟨oc23, od23, .func (PySem.W.fnOf "_law_links" "_law_links" (defArgs s_lawlinks) (defBody s_lawlinks) (defScope s_lawlinks) .none kV23 dc23 pm23 an23 cd23 ct23), sl23⟩) (c23 : PySem.W.codeIn K cd23 "_law_links" = true) (k23 : PySem.W.keepIn K (.ref f23) = true)
    (a24 : PySem.W.nsIn K mainGlobals "_law_tells" = some (some (.ref f24))) (l24 : K.lookup f24 = some ⟨oc24, od24, .func (PySem.W.fnOf "_law_tells" "_law_tells" (defArgs s_lawtells) (defBody s_lawtells) (defScope s_lawtells) .none kV24 dc24 pm24 an24 cd24 ct24), sl24⟩) (c24 : PySem.W.codeIn K cd24 "_law_tells" = true) (k24 : PySem.W.keepIn K (.ref f24) = true)
    (a25 : PySem.W.nsIn K mainGlobals "_law_mapped" = some (some (.ref f25))) (l25 : K.lookup f25 = some ⟨oc25, od25, .func (PySem.W.fnOf "_law_mapped" "_law_mapped" (defArgs s_lawmapped) (defBody s_lawmapped) (defScope s_lawmapped) .none kV25 dc25 pm25 an25 cd25 ct25), sl25⟩) (c25 : PySem.W.codeIn K cd25 "_law_mapped" = true) (k25 : PySem.W.keepIn K (.ref f25) = true)
    (a26 : PySem.W.nsIn K mainGlobals "_law_heard" = some (some (.ref f26))) (l26 : K.lookup f26 = some ⟨oc26, od26, .func (PySem.W.fnOf "_law_heard" "_law_heard" (defArgs s_lawheard) (defBody s_lawheard) (defScope s_lawheard) .none kV26 dc26 pm26 an26 cd26 ct26), sl26⟩) (c26 : PySem.W.codeIn K cd26 "_law_heard" = true) (k26 : PySem.W.keepIn K (.ref f26) = true)
    (a27 : PySem.W.nsIn K mainGlobals "_law_ruled" = some (some (.ref f27))) (l27 : K.lookup f27 = some ⟨oc27, od27, .func (PySem.W.fnOf "_law_ruled" "_law_ruled" (defArgs s_lawruled) (defBody s_lawruled) (defScope s_lawruled) .none kV27 dc27 pm27 an27 cd27 ct27), sl27⟩) (c27 : PySem.W.codeIn K cd27 "_law_ruled" = true) (k27 : PySem.W.keepIn K (.ref f27) = true)
    (a28 : PySem.W.nsIn K mainGlobals "law" = some (some (.ref f28))) (l28 : K.lookup f28 = some ⟨oc28, od28, .func (PySem.W.fnOf "law" "law" (defArgs s_law) (defBody s_law) (defScope s_law) .none kV28 dc28 pm28 an28 cd28 ct28), sl28⟩) (c28 : PySem.W.codeIn K cd28 "law" = true) (k28 : PySem.W.keepIn K (.ref f28) = true)
    (z1 : PySem.W.nsIn K mainGlobals "len" = some none)
    (z2 : PySem.W.nsIn K mainGlobals "range" = some none)
    (z3 : PySem.W.nsIn K mainGlobals "enumerate" = some none)
    (z4 : PySem.W.nsIn K mainGlobals "reversed" = some none)
    (z5 : PySem.W.nsIn K mainGlobals "isinstance" = some none)
    (z6 : PySem.W.nsIn K mainGlobals "int" = some none)
    (z7 : PySem.W.nsIn K mainGlobals "bool" = some none)
    (z8 : PySem.W.nsIn K mainGlobals "str" = some none)
    (z9 : PySem.W.nsIn K mainGlobals "list" = some none)
    (z10 : PySem.W.nsIn K mainGlobals "tuple" = some none)
    (z11 : PySem.W.nsIn K mainGlobals "dict" = some none)
    (z12 : PySem.W.nsIn K mainGlobals "all" = some none)
    (qt7 : cd7 = .ref tc7) (lt7 : K.lookup tc7 = some ⟨octt7, odtt7, .fields vstt7, sltt7⟩) (vt7 : vstt7[11]? = some (.ref tp7))
    (qt8 : cd8 = .ref tc8) (lt8 : K.lookup tc8 = some ⟨octt8, odtt8, .fields vstt8, sltt8⟩) (vt8 : vstt8[11]? = some (.ref tp8))
    (qt9 : cd9 = .ref tc9) (lt9 : K.lookup tc9 = some ⟨octt9, odtt9, .fields vstt9, sltt9⟩) (vt9 : vstt9[11]? = some (.ref tp9))
    (qt22 : cd22 = .ref tc22) (lt22 : K.lookup tc22 = some ⟨octt22, odtt22, .fields vstt22, sltt22⟩) (vt22 : vstt22[11]? = some (.ref tp22))
    (qt26 : cd26 = .ref tc26) (lt26 : K.lookup tc26 = some ⟨octt26, odtt26, .fields vstt26, sltt26⟩) (vt26 : vstt26[11]? = some (.ref tp26))
    (qt27 : cd27 = .ref tc27) (lt27 : K.lookup tc27 = some ⟨octt27, odtt27, .fields vstt27, sltt27⟩) (vt27 : vstt27[11]? = some (.ref tp27))
    (nt : PySem.W.noTabs K = true) (nd : ([tp7, tp8, tp9, tp22, tp26, tp27] : List Addr).Nodup)
    : ∃ (fd : FuncData) (ts : List (Addr × Addr)), TabsOf q K ["by_swaps", "by_steps", "chained", "_law_own", "_law_heard", "_law_ruled"] ts ∧ PySem.W.noTabs K = true ∧ (∀ (s : Shared) (v : Value), BindsTo s fd ⟨[v], []⟩ [("_law_script", v)]) ∧ ∀ base : Heap, K.In base → base.Ns mainGlobals mg → (∀ t ∈ ts, BaseT mg base t.1 t.2) → FnOk l.prog w K mg base CX0 6 fa fd ["_law_script"] (spLawM K (mkTb ts [(p_byswaps_swapped, n_byswaps_swapped.qual), (p_bysteps_stepped, n_bysteps_stepped.qual), (p_chained_changed, n_chained_changed.qual), (p_lawown_lawchange, n_lawown_lawchange.qual), (p_lawheard_lawchange, n_lawheard_lawchange.qual), (p_lawruled_lawrule, n_lawruled_lawrule.qual)])) := by
  have e := hfa.symm.trans (PySem.W.mg_of X G a28)
  cases e
  have B : Blt mg := ⟨PySem.W.mg_none_of X G z1, PySem.W.mg_none_of X G z2, PySem.W.mg_none_of X G z3, PySem.W.mg_none_of X G z4, PySem.W.mg_none_of X G z5, PySem.W.mg_none_of X G z6, PySem.W.mg_none_of X G z7, PySem.W.mg_none_of X G z8, PySem.W.mg_none_of X G z9, PySem.W.mg_none_of X G z10, PySem.W.mg_none_of X G z11, PySem.W.mg_none_of X G z12⟩
  have F1 := fun_mk (st := s_paintof) l1 c1 k1
  have D1 : Df K mg "paint_of" s_paintof ["row"] _ _ := ⟨F1, F1.binds (ps := ["row"]) fun _ _ _ _ _ _ us hl => match us, hl with | [_], _ => rfl, PySem.W.mg_of X G a1⟩
  have F2 := fun_mk (st := s_maskof) l2 c2 k2
  have D2 : Df K mg "mask_of" s_maskof ["row"] _ _ := ⟨F2, F2.binds (ps := ["row"]) fun _ _ _ _ _ _ us hl => match us, hl with | [_], _ => rfl, PySem.W.mg_of X G a2⟩
  have F3 := fun_mk (st := s_packed) l3 c3 k3
  have D3 : Df K mg "packed" s_packed ["wide", "rows"] _ _ := ⟨F3, F3.binds (ps := ["wide", "rows"]) fun _ _ _ _ _ _ us hl => match us, hl with | [_, _], _ => rfl, PySem.W.mg_of X G a3⟩
  have F4 := fun_mk (st := s_cellof) l4 c4 k4
  have D4 : Df K mg "cell_of" s_cellof ["pic", "x", "y"] _ _ := ⟨F4, F4.binds (ps := ["pic", "x", "y"]) fun _ _ _ _ _ _ us hl => match us, hl with | [_, _, _], _ => rfl, PySem.W.mg_of X G a4⟩
  have F5 := fun_mk (st := s_rowof) l5 c5 k5
  have D5 : Df K mg "row_of" s_rowof ["pic", "y"] _ _ := ⟨F5, F5.binds (ps := ["pic", "y"]) fun _ _ _ _ _ _ us hl => match us, hl with | [_, _], _ => rfl, PySem.W.mg_of X G a5⟩
  have F6 := fun_mk (st := s_rowsof) l6 c6 k6
  have D6 : Df K mg "rows_of" s_rowsof ["pic"] _ _ := ⟨F6, F6.binds (ps := ["pic"]) fun _ _ _ _ _ _ us hl => match us, hl with | [_], _ => rfl, PySem.W.mg_of X G a6⟩
  have F7 := fun_mk (st := s_byswaps) l7 c7 k7
  have D7 : Df K mg "by_swaps" s_byswaps ["swaps"] _ _ := ⟨F7, F7.binds (ps := ["swaps"]) fun _ _ _ _ _ _ us hl => match us, hl with | [_], _ => rfl, PySem.W.mg_of X G a7⟩
  have F8 := fun_mk (st := s_bysteps) l8 c8 k8
  have D8 : Df K mg "by_steps" s_bysteps ["by"] _ _ := ⟨F8, F8.binds (ps := ["by"]) fun _ _ _ _ _ _ us hl => match us, hl with | [_], _ => rfl, PySem.W.mg_of X G a8⟩
  have F9 := fun_mk (st := s_chained) l9 c9 k9
  have D9 : Df K mg "chained" s_chained ["changes"] _ _ := ⟨F9, F9.binds (ps := ["changes"]) fun _ _ _ _ _ _ us hl => match us, hl with | [_], _ => rfl, PySem.W.mg_of X G a9⟩
  have F10 := fun_mk (st := s_mappedrow) l10 c10 k10
  have D10 : Df K mg "mapped_row" s_mappedrow ["row", "change"] _ _ := ⟨F10, F10.binds (ps := ["row", "change"]) fun _ _ _ _ _ _ us hl => match us, hl with | [_, _], _ => rfl, PySem.W.mg_of X G a10⟩
  have F11 := fun_mk (st := s_mapped) l11 c11 k11
  have D11 : Df K mg "mapped" s_mapped ["pic", "change"] _ _ := ⟨F11, F11.binds (ps := ["pic", "change"]) fun _ _ _ _ _ _ us hl => match us, hl with | [_, _], _ => rfl, PySem.W.mg_of X G a11⟩
  have F12 := fun_mk (st := s_ruledrow) l12 c12 k12
  have D12 : Df K mg "ruled_row" s_ruledrow ["wide", "y", "rule"] _ _ := ⟨F12, F12.binds (ps := ["wide", "y", "rule"]) fun _ _ _ _ _ _ us hl => match us, hl with | [_, _, _], _ => rfl, PySem.W.mg_of X G a12⟩
  have F13 := fun_mk (st := s_ruled) l13 c13 k13
  have D13 : Df K mg "ruled" s_ruled ["wide", "high", "rule"] _ _ := ⟨F13, F13.binds (ps := ["wide", "high", "rule"]) fun _ _ _ _ _ _ us hl => match us, hl with | [_, _, _], _ => rfl, PySem.W.mg_of X G a13⟩
  have F14 := fun_mk (st := s_lawdraw) l14 c14 k14
  have D14 : Df K mg "_law_draw" s_lawdraw ["_law_script", "_law_k", "_law_many"] _ _ := ⟨F14, F14.binds (ps := ["_law_script", "_law_k", "_law_many"]) fun _ _ _ _ _ _ us hl => match us, hl with | [_, _, _], _ => rfl, PySem.W.mg_of X G a14⟩
  have F15 := fun_mk (st := s_lawgreat) l15 c15 k15
  have D15 : Df K mg "_law_great" s_lawgreat ["_law_script", "_law_k", "_law_many"] _ _ := ⟨F15, F15.binds (ps := ["_law_script", "_law_k", "_law_many"]) fun _ _ _ _ _ _ us hl => match us, hl with | [_, _, _], _ => rfl, PySem.W.mg_of X G a15⟩
  have F16 := fun_mk (st := s_lawalike) l16 c16 k16
  have D16 : Df K mg "_law_alike" s_lawalike ["_law_found", "_law_due"] _ _ := ⟨F16, F16.binds (ps := ["_law_found", "_law_due"]) fun _ _ _ _ _ _ us hl => match us, hl with | [_, _], _ => rfl, PySem.W.mg_of X G a16⟩
  have F17 := fun_mk (st := s_lawsides) l17 c17 k17
  have D17 : Df K mg "_law_sides" s_lawsides ["_law_script", "_law_k"] _ _ := ⟨F17, F17.binds (ps := ["_law_script", "_law_k"]) fun _ _ _ _ _ _ us hl => match us, hl with | [_, _], _ => rfl, PySem.W.mg_of X G a17⟩
  have F18 := fun_mk (st := s_lawrows) l18 c18 k18
  have D18 : Df K mg "_law_rows" s_lawrows ["_law_script", "_law_k", "_law_wide", "_law_high"] _ _ := ⟨F18, F18.binds (ps := ["_law_script", "_law_k", "_law_wide", "_law_high"]) fun _ _ _ _ _ _ us hl => match us, hl with | [_, _, _, _], _ => rfl, PySem.W.mg_of X G a18⟩
  have F19 := fun_mk (st := s_lawpacked) l19 c19 k19
  have D19 : Df K mg "_law_packed" s_lawpacked ["_law_rows_here"] _ _ := ⟨F19, F19.binds (ps := ["_law_rows_here"]) fun _ _ _ _ _ _ us hl => match us, hl with | [_], _ => rfl, PySem.W.mg_of X G a19⟩
  have F20 := fun_mk (st := s_lawswaps) l20 c20 k20
  have D20 : Df K mg "_law_swaps" s_lawswaps ["_law_script", "_law_k"] _ _ := ⟨F20, F20.binds (ps := ["_law_script", "_law_k"]) fun _ _ _ _ _ _ us hl => match us, hl with | [_, _], _ => rfl, PySem.W.mg_of X G a20⟩
  have F21 := fun_mk (st := s_lawswapped) l21 c21 k21
  have D21 : Df K mg "_law_swapped" s_lawswapped ["_law_swaps_here", "_law_colour"] _ _ := ⟨F21, F21.binds (ps := ["_law_swaps_here", "_law_colour"]) fun _ _ _ _ _ _ us hl => match us, hl with | [_, _], _ => rfl, PySem.W.mg_of X G a21⟩
  have F22 := fun_mk (st := s_lawown) l22 c22 k22
  have D22 : Df K mg "_law_own" s_lawown ["_law_by"] _ _ := ⟨F22, F22.binds (ps := ["_law_by"]) fun _ _ _ _ _ _ us hl => match us, hl with | [_], _ => rfl, PySem.W.mg_of X G a22⟩
  have F23 := fun_mk (st := s_lawlinks) l23 c23 k23
  have D23 : Df K mg "_law_links" s_lawlinks ["_law_script", "_law_swaps_here", "_law_by"] _ _ := ⟨F23, F23.binds (ps := ["_law_script", "_law_swaps_here", "_law_by"]) fun _ _ _ _ _ _ us hl => match us, hl with | [_, _, _], _ => rfl, PySem.W.mg_of X G a23⟩
  have F24 := fun_mk (st := s_lawtells) l24 c24 k24
  have D24 : Df K mg "_law_tells" s_lawtells ["_law_change_here", "_law_dues"] _ _ := ⟨F24, F24.binds (ps := ["_law_change_here", "_law_dues"]) fun _ _ _ _ _ _ us hl => match us, hl with | [_, _], _ => rfl, PySem.W.mg_of X G a24⟩
  have F25 := fun_mk (st := s_lawmapped) l25 c25 k25
  have D25 : Df K mg "_law_mapped" s_lawmapped ["_law_rows_here", "_law_dues"] _ _ := ⟨F25, F25.binds (ps := ["_law_rows_here", "_law_dues"]) fun _ _ _ _ _ _ us hl => match us, hl with | [_, _], _ => rfl, PySem.W.mg_of X G a25⟩
  have F26 := fun_mk (st := s_lawheard) l26 c26 k26
  have D26 : Df K mg "_law_heard" s_lawheard ["_law_rows_here", "_law_by"] _ _ := ⟨F26, F26.binds (ps := ["_law_rows_here", "_law_by"]) fun _ _ _ _ _ _ us hl => match us, hl with | [_, _], _ => rfl, PySem.W.mg_of X G a26⟩
  have F27 := fun_mk (st := s_lawruled) l27 c27 k27
  have D27 : Df K mg "_law_ruled" s_lawruled ["_law_rows_here"] _ _ := ⟨F27, F27.binds (ps := ["_law_rows_here"]) fun _ _ _ _ _ _ us hl => match us, hl with | [_], _ => rfl, PySem.W.mg_of X G a27⟩
  have F28 := fun_mk (st := s_law) l28 c28 k28
  have D28 : Df K mg "law" s_law ["_law_script"] _ _ := ⟨F28, F28.binds (ps := ["_law_script"]) fun _ _ _ _ _ _ us hl => match us, hl with | [_], _ => rfl, PySem.W.mg_of X G a28⟩
  obtain ⟨hr0, hr1, hr2, hr3, hr4, hr5⟩ := hrec
  refine ⟨PySem.W.fnOf "law" "law" (defArgs s_law) (defBody s_law) (defScope s_law) .none kV28 dc28 pm28 an28 cd28 ct28, [(tc7, tp7), (tc8, tp8), (tc9, tp9), (tc22, tp22), (tc26, tp26), (tc27, tp27)], ⟨hr0, tab_is a7 l7 qt7 lt7 vt7, ⟨hr1, tab_is a8 l8 qt8 lt8 vt8, ⟨hr2, tab_is a9 l9 qt9 lt9 vt9, ⟨hr3, tab_is a22 l22 qt22 lt22 vt22, ⟨hr4, tab_is a26 l26 qt26 lt26 vt26, ⟨hr5, tab_is a27 l27 qt27 lt27 vt27, trivial⟩⟩⟩⟩⟩⟩, nt, fun s v => .of_eq rfl, fun base _ _ BT => ?_⟩
  have hN : ((mkTb [(tc7, tp7), (tc8, tp8), (tc9, tp9), (tc22, tp22), (tc26, tp26), (tc27, tp27)] [(p_byswaps_swapped, n_byswaps_swapped.qual), (p_bysteps_stepped, n_bysteps_stepped.qual), (p_chained_changed, n_chained_changed.qual), (p_lawown_lawchange, n_lawown_lawchange.qual), (p_lawheard_lawchange, n_lawheard_lawchange.qual), (p_lawruled_lawrule, n_lawruled_lawrule.qual)]).map (·.1)).Nodup := nd
  have C_ch1 := cal_ch1 (P := l.prog) (w := w) (K := K) (mg := mg) (base := base)  B
  have C_chn := cal_chn (P := l.prog) (w := w) (K := K) (mg := mg) (base := base) C_ch1 B
  have C_he := cal_he (P := l.prog) (w := w) (K := K) (mg := mg) (base := base)  B
  have C_ru := cal_ru (P := l.prog) (w := w) (K := K) (mg := mg) (base := base)  B
  have C_any := cal_any (P := l.prog) (w := w) (K := K) (mg := mg) (base := base) C_ch1 C_chn C_he C_ru B
  have O_paintof := ok_paintof (P := l.prog) (w := w) (base := base) D1  B
  have O_maskof := ok_maskof (P := l.prog) (w := w) (base := base) D2  B
  have O_packed := ok_packed (P := l.prog) (w := w) (base := base) D3 O_paintof O_maskof B
  have O_cellof := ok_cellof (P := l.prog) (w := w) (base := base) D4  B
  have O_rowof := ok_rowof (P := l.prog) (w := w) (base := base) D5 O_cellof B
  have O_rowsof := ok_rowsof (P := l.prog) (w := w) (base := base) D6 O_rowof B
  have O_byswaps := ok_byswaps (P := l.prog) (w := w) (base := base) D7 qt7 (BT (tc7, tp7) (by simp)) (by simp [mkTb]) hN  B
  have O_bysteps := ok_bysteps (P := l.prog) (w := w) (base := base) D8 qt8 (BT (tc8, tp8) (by simp)) (by simp [mkTb]) hN  B
  have O_chained := ok_chained (P := l.prog) (w := w) (base := base) D9 qt9 (BT (tc9, tp9) (by simp)) (by simp [mkTb]) hN  B
  have O_mappedrow := ok_mappedrow (P := l.prog) (w := w) (base := base) D10 C_any B
  have O_mapped := ok_mapped (P := l.prog) (w := w) (base := base) D11 O_packed O_rowsof O_mappedrow B
  have O_ruledrow := ok_ruledrow (P := l.prog) (w := w) (base := base) D12 C_any B
  have O_ruled := ok_ruled (P := l.prog) (w := w) (base := base) D13 O_packed O_ruledrow B
  have O_lawdraw := ok_lawdraw (P := l.prog) (w := w) (base := base) D14  B
  have O_lawgreat := ok_lawgreat (P := l.prog) (w := w) (base := base) D15  B
  have O_lawalike := ok_lawalike (P := l.prog) (w := w) (base := base) D16  B
  have O_lawsides := ok_lawsides (P := l.prog) (w := w) (base := base) D17 O_lawdraw B
  have O_lawrows := ok_lawrows (P := l.prog) (w := w) (base := base) D18 O_lawdraw B
  have O_lawpacked := ok_lawpacked (P := l.prog) (w := w) (base := base) D19  B
  have O_lawswaps := ok_lawswaps (P := l.prog) (w := w) (base := base) D20 O_lawdraw B
  have O_lawswapped := ok_lawswapped (P := l.prog) (w := w) (base := base) D21  B
  have O_lawown := ok_lawown (P := l.prog) (w := w) (base := base) D22 qt22 (BT (tc22, tp22) (by simp)) (by simp [mkTb]) hN  B
  have O_lawlinks := ok_lawlinks (P := l.prog) (w := w) (base := base) D23 O_byswaps O_bysteps O_lawdraw O_lawswapped O_lawown B
  have O_lawtells := ok_lawtells (P := l.prog) (w := w) (base := base) D24 O_lawalike C_any B
  have O_lawmapped := ok_lawmapped (P := l.prog) (w := w) (base := base) D25 O_lawpacked B
  have O_lawheard := ok_lawheard (P := l.prog) (w := w) (base := base) D26 qt26 (BT (tc26, tp26) (by simp)) (by simp [mkTb]) hN O_mapped O_lawalike O_lawpacked O_lawmapped B
  have O_lawruled := ok_lawruled (P := l.prog) (w := w) (base := base) D27 qt27 (BT (tc27, tp27) (by simp)) (by simp [mkTb]) hN O_ruled O_lawalike O_lawpacked B
  exact ok_law D28 O_byswaps O_bysteps O_chained O_mapped O_lawgreat O_lawalike O_lawsides O_lawrows O_lawpacked O_lawswaps O_lawswapped O_lawown O_lawlinks O_lawtells O_lawmapped O_lawheard O_lawruled B
theorem walk {l : PySem.W.OpenLaw} {q : Program} {loose : List Str} {XP : (Str → Option Value) → Heap → Prop} {YP : World → Heap → Prop} {d : DefRec} {K : Params → PySem.W.Frag} (hn : l.most = some 63) (hdf : d.params.defaults = [])
    (hY : ∀ (w : World) (h : Heap), YP w h → (K w.params).In h)
    (F : ∀ (w : World) (mg : Str → Option Value) (fa : Addr) (h : Heap), (K w.params).In h → h.Ns mainGlobals mg → mg d.name = some (.ref fa) →
      ∃ (fd : FuncData) (ts : List (Addr × Addr)), TabsOf q (K w.params) ["by_swaps", "by_steps", "chained", "_law_own", "_law_heard", "_law_ruled"] ts ∧ PySem.W.noTabs (K w.params) = true ∧ (∀ (s : Shared) (u : Value), BindsTo s fd ⟨[u], []⟩ [("_law_script", u)]) ∧ ∀ base : Heap, (K w.params).In base → base.Ns mainGlobals mg → (∀ t ∈ ts, BaseT mg base t.1 t.2) → FnOk l.prog w (K w.params) mg base CX0 6 fa fd ["_law_script"] (spLawM (K w.params) (mkTb ts [(p_byswaps_swapped, n_byswaps_swapped.qual), (p_bysteps_stepped, n_bysteps_stepped.qual), (p_chained_changed, n_chained_changed.qual), (p_lawown_lawchange, n_lawown_lawchange.qual), (p_lawheard_lawchange, n_lawheard_lawchange.qual), (p_lawruled_lawrule, n_lawruled_lawrule.qual)]))) :
    PySem.W.WalkO q loose XP YP l.row.toRowW d [] (fun f vs => PySem.call f vs) :=
  L2.walk_ofM (n := 63) (k := 6) (x := "_law_script") (fns := ["by_swaps", "by_steps", "chained", "_law_own", "_law_heard", "_law_ruled"]) (sp := fun w ts => spLawM (K w.params) (mkTb ts [(p_byswaps_swapped, n_byswaps_swapped.qual), (p_bysteps_stepped, n_bysteps_stepped.qual), (p_chained_changed, n_chained_changed.qual), (p_lawown_lawchange, n_lawown_lawchange.qual), (p_lawheard_lawchange, n_lawheard_lawchange.qual), (p_lawruled_lawrule, n_lawruled_lawrule.qual)])) hn (by decide) hdf ⟨rfl, by decide, by decide⟩ hY F fun _ _ _ a ns hl hT hS => ⟨a, ns, rfl, hS, hl, tbs_start hT, fun _ => rfl⟩
end K14
open PySem PySem.W PyProof.Rows
set_option maxRecDepth 100000 in
set_option maxHeartbeats 0 in
theorem PySem.Challenge.cw_glowboard_k14_changes_holds : PySem.Challenge.rw_glowboard_k14_changes.Holds := by
  w_on; o_law; k_head; (case hw => w_witness2)
  k_fill
  refine K14.walk (l := PySem.Challenge.rw_glowboard_k14_changes) rfl rfl (fun w h Y => PySem.W.km_in_of Y) ?F
  case F =>
    intro w mg fa h KX G hmg
    refine' K14.all_mk ⟨⟨_, rfl⟩, ⟨_, rfl⟩, ⟨_, rfl⟩, ⟨_, rfl⟩, ⟨_, rfl⟩, ⟨_, rfl⟩⟩ KX G hmg ?a1 ?l1 ?c1 ?k1 ?a2 ?l2 ?c2 ?k2 ?a3 ?l3 ?c3 ?k3 ?a4 ?l4 ?c4 ?k4 ?a5 ?l5 ?c5 ?k5 ?a6 ?l6 ?c6 ?k6 ?a7 ?l7 ?c7 ?k7 ?a8 ?l8 ?c8 ?k8 ?a9 ?l9 ?c9 ?k9 ?a10 ?l10 ?c10 ?k10 ?a11 ?l11 ?c11 ?k11 ?a12 ?l12 ?c12 ?k12 ?a13 ?l13 ?c13 ?k13 ?a14 ?l14 ?c14 ?k14 ?a15 ?l15 ?c15 ?k15 ?a16 ?l16 ?c16 ?k16 ?a17 ?l17 ?c17 ?k17 ?a18 ?l18 ?c18 ?k18 ?a19 ?l19 ?c19 ?k19 ?a20 ?l20 ?c20 ?k20 ?a21 ?l21 ?c21 ?k21 ?a22 ?l22 ?c22 ?k22 ?a23 ?l23 ?c23 ?k23 ?a24 ?l24 ?c24 ?k24 ?a25 ?l25 ?c25 ?k25 ?a26 ?l26 ?c26 ?k26 ?a27 ?l27 ?c27 ?k27 ?a28 ?l28 ?c28 ?k28 ?z1 ?z2 ?z3 ?z4 ?z5 ?z6 ?z7 ?z8 ?z9 ?z10 ?z11 ?z12 ?qt7 ?lt7 ?vt7 ?qt8 ?lt8 ?vt8 ?qt9 ?lt9 ?vt9 ?qt22 ?lt22 ?vt22 ?qt26 ?lt26 ?vt26 ?qt27 ?lt27 ?vt27 ?nt ?nd
    (case a1 => k_is); (case l1 => k_is); (case c1 => k_is); (case k1 => k_is)
    (case a2 => k_is); (case l2 => k_is); (case c2 => k_is); (case k2 => k_is)
    (case a3 => k_is); (case l3 => k_is); (case c3 => k_is); (case k3 => k_is)
    (case a4 => k_is); (case l4 => k_is); (case c4 => k_is); (case k4 => k_is)
    (case a5 => k_is); (case l5 => k_is); (case c5 => k_is); (case k5 => k_is)
    (case a6 => k_is); (case l6 => k_is); (case c6 => k_is); (case k6 => k_is)
    (case a7 => k_is); (case l7 => k_is); (case c7 => k_is); (case k7 => k_is)
    (case a8 => k_is); (case l8 => k_is); (case c8 => k_is); (case k8 => k_is)
    (case a9 => k_is); (case l9 => k_is); (case c9 => k_is); (case k9 => k_is)
    (case a10 => k_is); (case l10 => k_is); (case c10 => k_is); (case k10 => k_is)
    (case a11 => k_is); (case l11 => k_is); (case c11 => k_is); (case k11 => k_is)
    (case a12 => k_is); (case l12 => k_is); (case c12 => k_is); (case k12 => k_is)
    (case a13 => k_is); (case l13 => k_is); (case c13 => k_is); (case k13 => k_is)
    (case a14 => k_is); (case l14 => k_is); (case c14 => k_is); (case k14 => k_is)
    (case a15 => k_is); (case l15 => k_is); (case c15 => k_is); (case k15 => k_is)
    (case a16 => k_is); (case l16 => k_is); (case c16 => k_is); (case k16 => k_is)
    (case a17 => k_is); (case l17 => k_is); (case c17 => k_is); (case k17 => k_is)
    (case a18 => k_is); (case l18 => k_is); (case c18 => k_is); (case k18 => k_is)
    (case a19 => k_is); (case l19 => k_is); (case c19 => k_is); (case k19 => k_is)
    (case a20 => k_is); (case l20 => k_is); (case c20 => k_is); (case k20 => k_is)
    (case a21 => k_is); (case l21 => k_is); (case c21 => k_is); (case k21 => k_is)
    (case a22 => k_is); (case l22 => k_is); (case c22 => k_is); (case k22 => k_is)
    (case a23 => k_is); (case l23 => k_is); (case c23 => k_is); (case k23 => k_is)
    (case a24 => k_is); (case l24 => k_is); (case c24 => k_is); (case k24 => k_is)
    (case a25 => k_is); (case l25 => k_is); (case c25 => k_is); (case k25 => k_is)
    (case a26 => k_is); (case l26 => k_is); (case c26 => k_is); (case k26 => k_is)
    (case a27 => k_is); (case l27 => k_is); (case c27 => k_is); (case k27 => k_is)
    (case a28 => k_is); (case l28 => k_is); (case c28 => k_is); (case k28 => k_is)
    (case z1 => k_is); (case z2 => k_is); (case z3 => k_is); (case z4 => k_is)
    (case z5 => k_is); (case z6 => k_is); (case z7 => k_is); (case z8 => k_is)
    (case z9 => k_is); (case z10 => k_is); (case z11 => k_is); (case z12 => k_is)
    (case qt7 => exact rfl); (case lt7 => k_is); (case vt7 => exact rfl); (case qt8 => exact rfl)
    (case lt8 => k_is); (case vt8 => exact rfl); (case qt9 => exact rfl); (case lt9 => k_is)
    (case vt9 => exact rfl); (case qt22 => exact rfl); (case lt22 => k_is); (case vt22 => exact rfl)
    (case qt26 => exact rfl); (case lt26 => k_is); (case vt26 => exact rfl); (case qt27 => exact rfl)
    (case lt27 => k_is); (case vt27 => exact rfl); (case nt => kernel_rfl); (case nd => decide)
#print axioms PySem.Challenge.cw_glowboard_k14_changes_holds
